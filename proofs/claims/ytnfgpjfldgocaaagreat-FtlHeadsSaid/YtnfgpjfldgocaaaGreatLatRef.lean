/- Contracts of the document's answers for layer latest: Find, counts. | Contracts of the document's answers for layer latest: counts. | Contracts of the document's answers for layer latest: put. | Contracts of the document's answers for layer latest: Of, Top. | Contracts of the document's answers for layer latest: needed, Needed. | Contracts of the document's answers for layer latest: Needed, Same. | Contracts of the document's Same, and of the helpers ours and theirs (layer latest). -/
import Derived.Test.YtnfgpjfldgocaaaGreatLatTools
namespace Go.Proofs.YtnfgpjfldgocaaaGreat
open Go.RowKit Bm

set_option maxRecDepth 100000 in
set_option maxHeartbeats 2000000 in
theorem rlfind_any (A : Option Addr) (n c : Nat) (xs : List PlM) (s : BitVec 32) (w : World) (hA : ReadsL w A n c xs) (hn : n ≤ 1000000) : Calls Tryz.prog 34 #[.slice A n c, .int .u32 (U s)] w fun e w' => e = .returned (.tuple #[plV ((lFind xs s).getD pl0), .bool (lFind xs s).isSome]) ∧ Below w.heap.size w w' := by
  have hz := rpl_zero
  have HA := Lib.hid hA
  have hB0 : Below w.heap.size w (w.alloc (.cells (plC pl0).toArray 76)) := (Below.refl _ w).alloc (Nat.le_refl _) _
  have HA0 := Lib.hid (At.news w 76 (plC pl0))
  have HB0 := Lib.hid hB0
  clear hA hB0
  go_enter Tryz.func34, Tryz.ntmps34
  go_wp2
  go_loopw [6] (fun i wr => ∃ j : Nat, j ≤ n ∧ i = .int .i64 j ∧ wr = w.alloc (.cells (plC pl0).toArray 76) ∧ ∀ k, k < j → (plN xs k).p.s ≠ s) (fun i _ => n - (intOf i).toNat)
  case atStart => exact ⟨0, by omega, rfl, rfl, fun k h => absurd h (by omega)⟩
  case round =>
    obtain ⟨j, hj, rfl, rfl, hs⟩ := hrel
    have HS := Lib.hid hs
    clear hs
    by_cases hlt : j < n
    · obtain ⟨g, off, rfl, hg, hr⟩ := (HA.out.kept HB0.out).at_ hlt
      have HR := Lib.hid hr
      have c2 := (pl_cells hr).2.2.1
      have i0 : (0 : Int) ≤ (j : Int) := by omega
      have i1 : (j : Int) < (n : Int) := by omega
      clear hr
      by_cases he : (plN xs j).p.s = s
      · have hf := lFind_at (by rw [HA.out.len]; exact hlt) HS.out he
        rw [he] at c2
        have HF := Lib.hid hf
        clear hf he
        go_wp2_with (first
          | (refine wpList_ldr _ rfl rfl rfl Tryz.underlying76 rfl rpl_size (plC_len _) HR.out ?_)
          | (refine wpList_stm (pre := []) (post := []) (xs := plC pl0) (ys := plC (plN xs j)) _ _ rfl rfl rfl rfl rpl_size (by rfl) (plC_len _) (plC_one _) rfl (by simp) HA0.out ?_; intro V A3 T3; rw [List.nil_append, List.append_nil] at A3; have HA3 := Lib.hid A3; have HT3 := Lib.hid T3; clear A3 T3))
        refine bodyPost_ret (rpl_res2 Tryz.results34 _ rfl rfl HA3.out) rfl ⟨?_, HB0.out.trans (HT3.out.below (fun k hk => by unfold Just at hk; omega) (by simp))⟩
        rw [HF.out]
        rfl
      · have hu : ¬ U (plN xs j).p.s = U s := fun h => he (U_inj h)
        have HE := Lib.hid he
        have hu' : (U (plN xs j).p.s == U s) = false := by rw [beq_eq_false_iff_ne]; exact hu
        clear he hu
        go_wp2
        go_roundw
        case rel => exact ⟨j + 1, by omega, by go_num, trivial, fun k hk => by
          by_cases e : k = j
          · rw [e]; exact HE.out
          · exact HS.out k (by omega)⟩
        case measure => simp [intOf]; omega
    · obtain rfl : j = n := by omega
      have hf := lFind_no (xs := xs) (s := s) (fun k hk => HS.out k (by rw [← HA.out.len]; exact hk))
      have HF := Lib.hid hf
      clear hf
      go_wp2_with (first
        | (refine wpList_stm (pre := []) (post := []) (xs := plC pl0) (ys := plC pl0) _ _ rfl rfl rfl rfl rpl_size (by rfl) (plC_len _) (plC_one _) rfl (by simp) HA0.out ?_; intro V A3 T3; rw [List.nil_append, List.append_nil] at A3; have HA3 := Lib.hid A3; have HT3 := Lib.hid T3; clear A3 T3))
      refine bodyPost_ret (rpl_res2 Tryz.results34 _ rfl rfl HA3.out) rfl ⟨?_, HB0.out.trans (HT3.out.below (fun k hk => by unfold Just at hk; omega) (by simp))⟩
      rw [HF.out]
      rfl
end Go.Proofs.YtnfgpjfldgocaaaGreat

namespace Go.Proofs.YtnfgpjfldgocaaaGreat
open Go.RowKit Bm

set_option maxRecDepth 100000 in
set_option maxHeartbeats 4000000 in
theorem rcnt_any (A : Option Addr) (n c : Nat) (bs : List BlkM) (w : World) (hA : ReadsB w A n c bs) (hn : n ≤ 1000) : Calls Tryz.prog 50 #[.slice A n c] w fun e w' => ∃ B cap, e = .returned (.slice B (cnt bs).length cap) ∧ ReadsL w' B (cnt bs).length cap (cnt bs) ∧ Below w.heap.size w w' := by
  have HA := Lib.hid hA
  obtain ⟨i0, hin, hz0, hz1, hz2⟩ := info_parts rpl_infoA
  clear hA
  go_enter Tryz.func50, Tryz.ntmps50
  go_wp2
  go_loopg [3, 4] n (fun g o i wr => ∃ j : Nat, j ≤ n ∧ g = n - j ∧ i = .int .i64 j ∧ wr.ownsRow w.heap.size 76 9 o (cntU bs j).length (pls (cntU bs j)) ∧ Below w.heap.size w wr)
  case atStart => exact ⟨0, by omega, rfl, rfl, World.ownsRow_nil _ _ _ _, Below.refl _ _⟩
  case round =>
    obtain ⟨j, hj, rfl, rfl, ho, hB⟩ := hrel
    have HO := Lib.hid ho
    have HB := Lib.hid hB
    clear ho hB
    by_cases hltj : j < n
    · have j0 : (0 : Int) ≤ (j : Int) := by omega
      have j1 : (j : Int) < (n : Int) := by omega
      obtain ⟨g, off, rfl, hg, hr⟩ := HA.out.at_ hltj
      have HOK := Lib.hid (HA.out.okN hltj)
      obtain ⟨b, hb⟩ : ∃ b, b = bkN bs j := ⟨_, rfl⟩
      have HBE := Lib.hid hb
      rw [← hb] at hr HOK
      have HR := Lib.hid hr
      have HG := Lib.hid hg
      clear hr hg hb
      go_wp2
      go_loopg [3, 5] 8 (fun g' o i wq => ∃ t : Nat, t ≤ 8 ∧ g' = 8 - t ∧ i = .int .i64 t ∧ wq.ownsRow w.heap.size 76 9 o (cntU bs j ++ cntB bs j t).length (pls (cntU bs j ++ cntB bs j t)) ∧ Below w.heap.size w wq)
      case atStart => exact ⟨0, by omega, rfl, rfl, by rw [show cntB bs j 0 = [] from rfl, List.append_nil]; exact HO.out, HB.out⟩
      case round =>
        obtain ⟨t, ht, rfl, rfl, ho3, hB3⟩ := hrel
        have HO3 := Lib.hid ho3
        have HB3 := Lib.hid hB3
        clear ho3 hB3
        by_cases hlt : t < 8
        · have t0 : (0 : Int) ≤ (t : Int) := by omega
          have t1 : (t : Int) < 8 := by omega
          have hrw := range_kept HR.out (HB3.out.block g HG.out)
          have HRW := Lib.hid hrw
          have c0 := hrw (2 + t) _ (bk_kind HOK.out t hlt)
          rw [← Nat.add_assoc] at c0
          have hlen := cntU_len bs j
          have hlen2 := cntB_len bs j t
          have HLEN : Hid ((cntU bs j ++ cntB bs j t).length ≤ 8008) := Lib.hid (by rw [List.length_append]; omega)
          clear hrw hlen hlen2
          by_cases hk : nm b.kinds t = 1
          · rw [hk] at c0
            have hn1 : cntU bs j ++ cntB bs j (t + 1) = (cntU bs j ++ cntB bs j t) ++ [⟨j, t, pgN b.pages t⟩] := by
              rw [cntB_succ, ← HBE.out, if_pos hk, List.append_assoc]
            have HN1 := Lib.hid hn1
            clear hn1 hk
            go_wp2_with (first
              | (refine wpList_ldr _ rfl rfl rfl Tryz.underlying69 rfl rpg_sizeB (pgC_len _) (bk_page_range HOK.out HRW.out t hlt) ?_)
              | (refine wpList_bpl (run_rbuild _ _ _) _ _ _ rfl rfl rfl rfl rfl ?_)
              | (refine wpList_build_one _ rfl rfl rfl Tryz.underlying64 hin hz0 hz1 (cs := (plC ⟨j, t, pgN b.pages t⟩).toArray) (by rfl) (by omega) (by omega) ?_)
              | (at_builtin; refine halt_here ?_))
            refine Lib.hid ?_
            refine wpList_appL (base := w.heap.size) (xs := cntU bs j ++ cntB bs j t) (y := ⟨j, t, pgN b.pages t⟩) Tryz.underlying64 hin hz0 hz1 hz2 (by rfl) _ _ (by rfl) (by rfl) (by rfl) (HO3.out.alloc _) (by rfl) (At.news wr _ _) (by have := HLEN.out; omega) (by have := HB3.out.size; simp; omega) ?_
            intro g' cap w' h1 h2 h3
            simp only [Act.put, List.setIfInBounds_toArray, List.set_cons_zero, List.set_cons_succ]
            have hB' : Below w.heap.size w w' := (HB3.out.alloc HB3.out.size (.cells (plC ⟨j, t, pgN b.pages t⟩).toArray 76)).grown h2 (by have := HB3.out.size; simp; omega) (fun k hk => (HO3.out.lt k hk).1)
            go_wp2
            go_roundg (8 - (t + 1))
            case measure => go_light; omega
            case rel =>
              go_light
              exact ⟨t + 1, by omega, rfl, by go_num, by rw [HN1.out]; exact h1, hB'⟩
          · have hk' : (nm b.kinds t == 1) = false := by rw [beq_eq_false_iff_ne]; exact hk
            have hn1 : cntU bs j ++ cntB bs j (t + 1) = cntU bs j ++ cntB bs j t := by
              rw [cntB_succ, ← HBE.out, if_neg hk, List.append_nil]
            have HN1 := Lib.hid hn1
            clear hn1
            go_wp2
            go_roundg (8 - (t + 1))
            case measure => go_light; omega
            case rel =>
              go_light
              exact ⟨t + 1, by omega, rfl, by go_num, by rw [HN1.out]; exact HO3.out, HB3.out⟩
        · obtain rfl : t = 8 := by omega
          go_wp2
          go_roundg (n - (j + 1))
          case measure => go_light; omega
          case rel =>
            go_light
            exact ⟨j + 1, by omega, rfl, by go_num, by rw [cntU_succ]; exact HO3.out, HB3.out⟩
    · obtain rfl : j = n := by omega
      go_wp2
      have ho := HO.out
      have e : cntU bs j = cnt bs := by unfold cnt; rw [HA.out.len]
      rw [e] at ho
      obtain ⟨B, cap, rfl, hR⟩ := ReadsL.of_own ho rfl
      go_ret
      exact ⟨B, cap, rfl, hR, HB.out⟩
end Go.Proofs.YtnfgpjfldgocaaaGreat

namespace Go.Proofs.YtnfgpjfldgocaaaGreat
open Go.RowKit Bm

/-- Places, done or not, behind the first j ones. -/
def putA (xs : List PlM) (x : PlM) (j : Nat) : List PlM × Bool := (xs.take j).foldl (putS x) ([], false)
theorem putA_succ (xs : List PlM) (x : PlM) (j : Nat) (h : j < xs.length) : putA xs x (j + 1) = putS x (putA xs x j) (plN xs j) := fold_step _ _ _ _ h
theorem putS_len (x : PlM) (a : List PlM × Bool) (y : PlM) : (putS x a y).1.length ≤ a.1.length + 2 := by
  unfold putS
  by_cases h1 : a.2 = false ∧ U x.p.s ≤ U y.p.s <;> by_cases h2 : y.p.s ≠ x.p.s <;> simp [h1, h2]
theorem putA_len (xs : List PlM) (x : PlM) : ∀ j, j ≤ xs.length → (putA xs x j).1.length ≤ 2 * j
  | 0, _ => by unfold putA; simp
  | j + 1, h => by
    rw [putA_succ xs x j (by omega)]
    have := putA_len xs x j (by omega)
    have := putS_len x (putA xs x j) (plN xs j)
    omega
theorem putA_end (xs : List PlM) (x : PlM) : putE x (putA xs x xs.length) = lIns xs x := by
  unfold putA
  rw [List.take_length, putS_all]
  rfl
theorem putS_yes {x : PlM} {a : List PlM × Bool} {y : PlM} (h : a.2 = false ∧ U x.p.s ≤ U y.p.s) : putS x a y = if y.p.s ≠ x.p.s then (a.1 ++ [x] ++ [y], true) else (a.1 ++ [x], true) := by
  unfold putS
  simp only [h, and_self, if_true]
theorem putS_no {x : PlM} {a : List PlM × Bool} {y : PlM} (h : ¬ (a.2 = false ∧ U x.p.s ≤ U y.p.s)) : putS x a y = if y.p.s ≠ x.p.s then (a.1 ++ [y], a.2) else a := by
  unfold putS
  simp only [if_neg h]

end Go.Proofs.YtnfgpjfldgocaaaGreat

namespace Go.Proofs.YtnfgpjfldgocaaaGreat
open Go.RowKit Bm

/-- The latest places of the first j pages. -/
def ofA (all : List PlM) (j : Nat) : List PlM := (all.take j).foldl ofS []
theorem ofA_succ (all : List PlM) (j : Nat) (h : j < all.length) : ofA all (j + 1) = ofS (ofA all j) (plN all j) := fold_step _ _ _ _ h
theorem ofA_all (all : List PlM) : ofA all all.length = lOf all := by unfold ofA lOf; rw [List.take_length]
theorem ofA_len (all : List PlM) (j : Nat) : (ofA all j).length ≤ j := by
  have := of_len (all.take j)
  rw [List.length_take] at this
  show (lOf (all.take j)).length ≤ j
  omega
theorem cnt_len (bs : List BlkM) : (cnt bs).length ≤ 8 * bs.length := cntU_len bs _

def topA (all : List PlM) (j : Nat) : BitVec 32 := (all.take j).foldl topS 0#32
end Go.Proofs.YtnfgpjfldgocaaaGreat

namespace Go.Proofs.YtnfgpjfldgocaaaGreat
open Go.RowKit Bm

end Go.Proofs.YtnfgpjfldgocaaaGreat

namespace Go.Proofs.YtnfgpjfldgocaaaGreat
open Go.RowKit Bm

/-- What is needed of block k, of the first j pages. -/
def needA (all : List PlM) (k : Int) (j : Nat) : List PlM := (all.take j).filter fun x => decide (x.b = k) && lNeeds all x
end Go.Proofs.YtnfgpjfldgocaaaGreat

namespace Go.Proofs.YtnfgpjfldgocaaaGreat
open Go.RowKit Bm

end Go.Proofs.YtnfgpjfldgocaaaGreat
