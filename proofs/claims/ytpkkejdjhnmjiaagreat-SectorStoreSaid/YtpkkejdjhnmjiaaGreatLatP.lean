/- The contract of the program's Find (layer latest). | The contract of the program's newest, and of Of (layer latest). | The contract of the program's Top (layer latest). | When a page is needed, as the program finds it out; places compared (layer latest). | The contract of the program's Needed (layer latest). | The contracts of layer latest, together. -/
import Derived.Test.YtpkkejdjhnmjiaaGreatLatTools
import Derived.Test.YtpkkejdjhnmjiaaGreatLatApp
import Derived.Test.YtpkkejdjhnmjiaaGreatLatRef
import Derived.Test.YtpkkejdjhnmjiaaGreatScanTheirs
import Derived.Test.YtpkkejdjhnmjiaaGreatScanBuilt
import Derived.Test.YtpkkejdjhnmjiaaGreatScan3
import Derived.Test.YtpkkejdjhnmjiaaGreatHeld
namespace Go.Proofs.YtpkkejdjhnmjiaaGreat
open Go.RowKit Bm
theorem spl_res2 {fn : Func} {i j : Tmp} (h : fn.results = #[.cell i 75, .tmp j]) (tmps : Array Value) {w : World} {g : Nat} {x : PlM} {v : Value} (hp : tmps.getD i undef = .pointer (some ⟨g, 0, none⟩)) (hq : tmps.getD j undef = v) (hA : At w g 75 (plC x)) :
    (results fn tmps).run Tryz.prog w = .ok (.tuple #[plV x, v]) w := by
  have hp' : tmps[i]?.getD undef = .pointer (some ⟨g, 0, none⟩) := by simpa using hp
  have hq' : tmps[j]?.getD undef = v := by simpa using hq
  simp [results, h, hp', hq', asAddr, run_loadVar_row (P := Tryz.prog) w g 75 75 (plC x).toArray (0, 0) _ hA Tryz.underlying75 rfl (by rw [spl_size]; simp [plC, pgC]), plV]
set_option maxRecDepth 100000 in
set_option maxHeartbeats 2000000 in
theorem lfind_any (A : Option Addr) (n c : Nat) (xs : List PlM) (s : BitVec 32) (w : World) (hA : ReadsL w A n c xs) (hn : n ≤ 100000) : Calls Tryz.prog 21 #[.slice A n c, .int .u32 (U s)] w fun e w' => e = .returned (.tuple #[plV ((lFind xs s).getD pl0), .bool (lFind xs s).isSome]) ∧ Below w.heap.size w w' := by
  have hz := spl_zero
  have HA := Lib.hid hA
  have HA0 := Lib.hid (At.news w 75 (plC pl0))
  have HB0 := Lib.hid ((Below.refl _ w).alloc (Nat.le_refl _) (.cells (plC pl0).toArray 75))
  have hnm : (n : Int) ≤ 100000 := by omega
  clear hA
  go_enter Tryz.func21, Tryz.ntmps21
  go_wp2
  go_loopw [10] (fun i wr => ∃ j : Nat, j ≤ n ∧ i = .int .i64 j ∧ At wr w.heap.size 75 (plC pl0) ∧ Below w.heap.size w wr ∧ ∀ k, k < j → (plN xs k).p.s ≠ s) (fun i _ => n - (intOf i).toNat)
  case atStart => exact ⟨0, by omega, rfl, HA0.out, HB0.out, fun k h => absurd h (by omega)⟩
  case round =>
    obtain ⟨j, hj, rfl, hR, hB, hs⟩ := hrel
    have HS := Lib.hid hs
    have HR0 := Lib.hid hR
    have HB := Lib.hid hB
    clear hs hR hB
    by_cases hlt : j < n
    · obtain ⟨g, off, rfl, hg, hr⟩ := (HA.out.kept HB.out).at_ hlt
      obtain ⟨x, hx⟩ : ∃ x, x = plN xs j := ⟨_, rfl⟩
      rw [← hx] at hr
      have HX := Lib.hid hx
      have HR := Lib.hid hr
      have i0 : (0 : Int) ≤ (j : Int) := by omega
      have i1 : (j : Int) < (n : Int) := by omega
      clear hr hx
      by_cases he : x.p.s = s
      · have hu' : (U x.p.s == U s) = true := by rw [he]; simp
        have HF := Lib.hid (lFind_at (xs := xs) (s := s) (j := j) (by rw [HA.out.len]; exact hlt) HS.out (by rw [← HX.out]; exact he))
        clear he
        go_wp2_with (first
          | (refine wpList_ldr _ rfl rfl rfl Tryz.underlying75 rfl spl_size (plC_len _) HR.out ?_)
          | (refine wpList_stm (pre := []) (post := []) (xs := plC pl0) (ys := plC x) _ _ rfl rfl rfl rfl spl_size (by rfl) (plC_len _) (plC_one _) rfl (by simp) (At.news wr _ (plC pl0)) ?_; intro V A3 T3; rw [List.nil_append, List.append_nil] at A3; have c2 : V.cell? ⟨wr.heap.size, 2, none⟩ = some (.int .u32 (U x.p.s)) := A3.cell 2; have HA3 := Lib.hid A3; have HT3 := Lib.hid T3; have HR3 := Lib.hid ((HR0.out.alloc (.cells (plC pl0).toArray 75)).kept T3 (by have := HR0.out.lt; unfold Just; omega)); clear A3 T3)
          | (refine wpList_ldr _ rfl rfl rfl Tryz.underlying75 rfl spl_size (plC_len _) HA3.out.rng ?_)
          | (refine wpList_stm (pre := []) (post := []) (xs := plC pl0) (ys := plC x) _ _ rfl rfl rfl rfl spl_size (by rfl) (plC_len _) (plC_one _) rfl (by simp) HR3.out ?_; intro V2 A4 T4; rw [List.nil_append, List.append_nil] at A4; have HA4 := Lib.hid A4; have HT4 := Lib.hid T4; clear A4 T4))
        refine bodyPost_ret (spl_res2 Tryz.results21 _ rfl rfl HA4.out) rfl ⟨?_, ?_⟩
        · rw [HF.out, ← HX.out]
          rfl
        · exact HB.out.trans ((((Below.refl w.heap.size wr).alloc HB.out.size _).trans (HT3.out.below (fun k hk => by unfold Just at hk; have := HB.out.size; omega) (by have := HB.out.size; simp; omega))).trans (HT4.out.below (fun k hk => by unfold Just at hk; omega) (by have := HB.out.size; have := HT3.out.size; simp at this; omega)))
      · have hu' : (U x.p.s == U s) = false := by rw [beq_eq_false_iff_ne]; exact fun h => he (U_inj h)
        have HE := Lib.hid he
        clear he
        go_wp2_with (first
          | (refine wpList_ldr _ rfl rfl rfl Tryz.underlying75 rfl spl_size (plC_len _) HR.out ?_)
          | (refine wpList_stm (pre := []) (post := []) (xs := plC pl0) (ys := plC x) _ _ rfl rfl rfl rfl spl_size (by rfl) (plC_len _) (plC_one _) rfl (by simp) (At.news wr _ (plC pl0)) ?_; intro V A3 T3; rw [List.nil_append, List.append_nil] at A3; have c2 : V.cell? ⟨wr.heap.size, 2, none⟩ = some (.int .u32 (U x.p.s)) := A3.cell 2; have HT3 := Lib.hid T3; have HR3 := Lib.hid ((HR0.out.alloc (.cells (plC pl0).toArray 75)).kept T3 (by have := HR0.out.lt; unfold Just; omega)); clear A3 T3))
        go_roundw
        case rel => exact ⟨j + 1, by omega, by go_num, HR3.out, HB.out.trans (((Below.refl w.heap.size wr).alloc HB.out.size _).trans (HT3.out.below (fun k hk => by unfold Just at hk; have := HB.out.size; omega) (by have := HB.out.size; simp; omega))), fun k hk => by
          by_cases e : k = j
          · rw [e, ← HX.out]; exact HE.out
          · exact HS.out k (by omega)⟩
        case measure => simp [intOf]; omega
    · obtain rfl : j = n := by omega
      have HF := Lib.hid (lFind_no (xs := xs) (s := s) (fun k hk => HS.out k (by rw [← HA.out.len]; exact hk)))
      go_wp2_with (first
        | (refine wpList_stm (pre := []) (post := []) (xs := plC pl0) (ys := plC pl0) _ _ rfl rfl rfl rfl spl_size (by rfl) (plC_len _) (plC_one _) rfl (by simp) HR0.out ?_; intro V A3 T3; rw [List.nil_append, List.append_nil] at A3; have HA3 := Lib.hid A3; have HT3 := Lib.hid T3; clear A3 T3))
      refine bodyPost_ret (spl_res2 Tryz.results21 _ rfl rfl HA3.out) rfl ⟨?_, HB.out.trans (HT3.out.below (fun k hk => by unfold Just at hk; omega) HB.out.size)⟩
      rw [HF.out]
      rfl
end Go.Proofs.YtpkkejdjhnmjiaaGreat
namespace Go.Proofs.YtpkkejdjhnmjiaaGreat
open Go.RowKit Bm Go.Shelf
theorem collect_any (gf : Nat) (lb : Array Value) (xs : List PlM) (w0 w : World) (eg : ∀ args w, (callFunc gf args).run Tryz.prog w = .ok (.enter gf args) w) (hseq : SeqI Tryz.prog gf lb plE (KpL w0.heap.size) xs w) (hb0 : w0.heap.size ≤ w.heap.size) (hn : xs.length ≤ 100000) :
    Calls Tryz.prog 73 #[.func (.func gf) #[] lb] w fun e w' => ∃ v, e = .returned v ∧ w'.ownsRow w.heap.size 75 9 v xs.length (pls xs) ∧ Below w.heap.size w w' := by
  have HC := Lib.hid (appseq_any gf lb xs w0 w eg hseq hb0 hn)
  clear hseq eg
  go_enter Tryz.func73, Tryz.ntmps73
  go_wp2_with (go_at_call 88; (refine HC.out.mono ?_); rintro e w1 ⟨v, rfl, ho, hb⟩; have HO := Lib.hid ho; have HB := Lib.hid hb; clear ho hb)
  go_ret
  exact ⟨v, rfl, HO.out, HB.out⟩
def SortedAs (xs : List PlM) (w : World) (v : Value) (w' : World) : Prop :=
  (xs = [] ∧ v = .slice none 0 0 ∧ Below w.heap.size w w') ∨
  ∃ g cap ys rest, v = .slice (some ⟨g, 0, none⟩) xs.length cap ∧ ys.length = xs.length ∧ news ys xs.length = lOf xs ∧ At w' g 75 (pls ys ++ rest) ∧ xs.length ≤ cap ∧ cap ≤ maxLen ∧ w.heap.size ≤ g ∧ Below w.heap.size w w'
set_option maxHeartbeats 2000000 in
theorem sorted_any (gf : Nat) (lb : Array Value) (xs : List PlM) (w0 w : World) (eg : ∀ args w, (callFunc gf args).run Tryz.prog w = .ok (.enter gf args) w) (hseq : SeqI Tryz.prog gf lb plE (KpL w0.heap.size) xs w) (hb0 : w0.heap.size ≤ w.heap.size) (hn : xs.length ≤ 100000) (ha : xs.Pairwise Ahead) :
    Calls Tryz.prog 52 #[.func (.func gf) #[] lb, .func (.func 53) #[] #[]] w fun e w' => ∃ v, e = .returned v ∧ SortedAs xs w v w' := by
  have HC := Lib.hid (collect_any gf lb xs w0 w eg hseq hb0 hn)
  have HA := Lib.hid ha
  clear hseq eg ha
  go_enter Tryz.func52, Tryz.ntmps52
  go_upto_region 2 with (go_at_call 73; (refine HC.out.mono ?_); rintro e w1 ⟨v, rfl, ho, hb⟩; have HO := Lib.hid ho; have HB := Lib.hid hb; clear ho hb)
  obtain ⟨hl, ⟨rfl, h0⟩ | ⟨g, cap, cur, rfl, hbg, hg, hc, hmx, hs, ht⟩⟩ := HO.out
  · have HE : Hid (xs = []) := Lib.hid (List.eq_nil_of_length_eq_zero h0)
    clear hl h0
    go_wp2_with (go_at_call 74; (refine (sort_nil _ _).mono ?_); rintro e w2 ⟨rfl, rfl⟩)
    go_ret
    exact ⟨_, rfl, .inl ⟨HE.out, rfl, HB.out⟩⟩
  · obtain ⟨rest, hA1, _, _, _, _⟩ := at_of_own HO.out
    have HS := Lib.hid (sort_any g xs.length cap xs rest w1 hA1 rfl (by omega) HA.out)
    have HBG := Lib.hid hbg
    have HCC := Lib.hid hc
    have HMX := Lib.hid hmx
    clear hl hbg hg hc hmx hs ht hA1
    go_wp2_with (go_at_call 74; (refine HS.out.mono ?_); rintro e w2 ⟨rfl, ys, hyl, hyn, hA2, hT2⟩; have HYL := Lib.hid hyl; have HYN := Lib.hid hyn; have HA2 := Lib.hid hA2; have HT2 := Lib.hid hT2; clear hyl hyn hA2 hT2)
    go_ret
    exact ⟨_, rfl, .inr ⟨g, cap, ys, rest, rfl, HYL.out, HYN.out, HA2.out, HCC.out, HMX.out, HBG.out, HB.out.trans (HT2.out.below (fun k hk => by unfold Just at hk; have := HBG.out; omega) HB.out.size)⟩⟩
set_option maxHeartbeats 2000000 in
theorem compact_nil (w : World) (f : Value) : Calls Tryz.prog 56 #[.slice none 0 0, f] w fun e w' => e = .returned (.slice none 0 0) ∧ w' = w := by
  go_enter Tryz.func56, Tryz.ntmps56
  go_wp2
  go_ret
  exact ⟨rfl, rfl⟩
set_option maxHeartbeats 2000000 in
theorem newest_own (gf : Nat) (lb : Array Value) (xs : List PlM) (w0 w : World) (eg : ∀ args w, (callFunc gf args).run Tryz.prog w = .ok (.enter gf args) w) (hseq : SeqI Tryz.prog gf lb plE (KpL w0.heap.size) xs w) (hb0 : w0.heap.size ≤ w.heap.size) (hn : xs.length ≤ 100000) (ha : xs.Pairwise Ahead) :
    Calls Tryz.prog 39 #[.func (.func gf) #[] lb] w fun e w' => ∃ B cap, e = .returned (.slice B (lOf xs).length cap) ∧ ReadsL w' B (lOf xs).length cap (lOf xs) ∧ Below w.heap.size w w' ∧ ∀ g off, B = some ⟨g, off, none⟩ → w.heap.size ≤ g := by
  have HC := Lib.hid (sorted_any gf lb xs w0 w eg hseq hb0 hn ha)
  clear hseq eg ha
  go_enter Tryz.func39, Tryz.ntmps39
  go_upto_region 2 with (go_at_call 52; (refine HC.out.mono ?_); rintro e w1 ⟨v, rfl, hs⟩; have HS := Lib.hid hs; clear hs)
  obtain ⟨hx, rfl, hb⟩ | ⟨g, cap, ys, rest, rfl, hyl, hyn, hA, hc, hm, hg, hb⟩ := HS.out
  · have HX := Lib.hid hx
    have HB := Lib.hid hb
    clear hx hb
    go_wp2_with (go_at_call 56; (refine (compact_nil _ _).mono ?_); rintro e w2 ⟨rfl, rfl⟩)
    go_ret
    refine ⟨none, 0, ?_, ?_, HB.out, fun _ _ h => by cases h⟩
    · rw [HX.out]; rfl
    · rw [HX.out]; exact ReadsL.none _
  · have HY := Lib.hid (compact_any g xs.length cap ys rest w1 hA hyl hc (by omega) hm)
    have HYN := Lib.hid hyn
    have HC2 := Lib.hid hc
    have HM := Lib.hid hm
    have HG := Lib.hid hg
    have HB := Lib.hid hb
    clear hyl hyn hA hc hm hg hb
    go_wp2_with (go_at_call 56; (refine HY.out.mono ?_); rintro e w2 ⟨k, rest', rfl, hk, hA2, hT2⟩; have HK := Lib.hid hk; have HA2 := Lib.hid hA2; have HT2 := Lib.hid hT2; clear hk hA2 hT2)
    go_ret
    have hk := HK.out
    have hA2 := HA2.out
    rw [HYN.out] at hk hA2
    refine ⟨some ⟨g, 0, none⟩, cap, by rw [← hk]; rfl, ReadsL.of_at hA2 (by have := of_len xs; have := HC2.out; omega) HM.out, HB.out.trans (HT2.out.below (fun k hk => by unfold Just at hk; have := HG.out; omega) HB.out.size), fun _ _ h => by cases h; exact HG.out⟩
theorem lof_own (A : Option Addr) (n c : Nat) (bs : List BlkM) (w : World) (hA : ReadsB w A n c bs) (hn : n ≤ 100) : Calls Tryz.prog 22 #[.slice A n c] w fun e w' => ∃ B cap, e = .returned (.slice B (lOf (cnt bs)).length cap) ∧ ReadsL w' B (lOf (cnt bs)).length cap (lOf (cnt bs)) ∧ Below w.heap.size w w' ∧ ∀ g off, B = some ⟨g, off, none⟩ → w.heap.size ≤ g := by
  have hb1 : Below w.heap.size w (w.alloc (.cells #[.slice A n c] 80)) := (Below.refl _ w).alloc (Nat.le_refl _) _
  have hl : (cnt bs).length ≤ 8 * bs.length := cntU_len bs _
  have hbl := hA.len
  have HC := Lib.hid (newest_own 58 #[.pointer (some ⟨w.heap.size, 0, none⟩)] (cnt bs) w (w.alloc (.cells #[.slice A n c] 80)) (enters_of Tryz.func58 (by kernel_rfl) rfl) (cnt_seq w.heap.size A n c bs w _ hA hb1 (At.news w _ _)) hb1.size (by omega) (cnt_ahead bs))
  have HB1 := Lib.hid hb1
  clear hb1
  go_enter Tryz.func22, Tryz.ntmps22
  go_wp2_with (first
    | (go_at_call 40; (refine (cnt_of _ _ _ _).mono ?_); rintro e w1 ⟨rfl, rfl⟩)
    | (go_at_call 39; (refine HC.out.mono ?_); rintro e w2 ⟨B, cap, rfl, hr, hb, hf⟩; have HR := Lib.hid hr; have HB := Lib.hid hb; have HFR := Lib.hid hf; clear hr hb hf))
  go_ret
  exact ⟨B, cap, rfl, HR.out, HB1.out.trans (HB.out.mono HB1.out.size), fun g off h => Nat.le_trans HB1.out.size (HFR.out g off h)⟩
theorem lof_any (A : Option Addr) (n c : Nat) (bs : List BlkM) (w : World) (hA : ReadsB w A n c bs) (hn : n ≤ 100) : Calls Tryz.prog 22 #[.slice A n c] w fun e w' => ∃ B cap, e = .returned (.slice B (lOf (cnt bs)).length cap) ∧ ReadsL w' B (lOf (cnt bs)).length cap (lOf (cnt bs)) ∧ Below w.heap.size w w' :=
  (lof_own A n c bs w hA hn).mono fun _ _ h => by
    obtain ⟨B, cap, h1, h2, h3, _⟩ := h
    exact ⟨B, cap, h1, h2, h3⟩
end Go.Proofs.YtpkkejdjhnmjiaaGreat
namespace Go.Proofs.YtpkkejdjhnmjiaaGreat
open Go.RowKit Bm Go.Shelf
end Go.Proofs.YtpkkejdjhnmjiaaGreat
namespace Go.Proofs.YtpkkejdjhnmjiaaGreat
open Go.RowKit Bm
end Go.Proofs.YtpkkejdjhnmjiaaGreat
namespace Go.Proofs.YtpkkejdjhnmjiaaGreat
open Go.RowKit Bm Go.Shelf
attribute [local go_sem] Oper.semAt_some
theorem readsL_turned {S : Nat → Prop} {W W' : World} {A : Option Addr} {n c : Nat} {xs : List PlM} (h : ReadsL W A n c xs) (hT : Turned S W W') (hS : ∀ g off, A = some ⟨g, off, none⟩ → 0 < n → ¬ S g) : ReadsL W' A n c xs :=
  ⟨h.len, h.le, h.max, fun hn => by
    obtain ⟨g, off, e, hlt, hc⟩ := h.cell hn
    exact ⟨g, off, e, Nat.lt_of_lt_of_le hlt hT.size, fun j b hb => range_kept (hc j b hb) (hT.block g hlt (hS g off e hn))⟩⟩
end Go.Proofs.YtpkkejdjhnmjiaaGreat
