/- Contract of the law's Theirs (layer scan): the same blocks. -/
import Derived.Test.YtfpfcmgcfbkolaaScanRows
import Derived.Test.YtfpfcmgcfbkolaaBuild
import Derived.Test.YtfpfcmgcfbkolaaScanEq
import Derived.BigRegion
import Derived.Deep.DeepCutAuto
import Derived.Deep.AppendLies
import Derived.Deep.LoopGhost
import Derived.Deep.Light
import Derived.Test.YtfpfcmgcfbkolaaScanRef
namespace Go.Proofs.Ytfpfcmgcfbkolaa.Theirs
open Go.RowKit Bm

attribute [local go_sem] bk_head bk_count

abbrev TS : TypeId := 55
theorem sbk_size : (Try.prog.info? 55).map (·.size) = some 66 := by kernel_rfl
theorem sbk_infoZ : (Try.prog.info? 55).map (fun i => (i.zero, i.size)) = some (some (.agg (bkC bk0).toArray), 66) := by kernel_rfl
theorem sbk_zero (w : World) : (zeroValue 55).run Try.prog w = .ok (.agg (bkC bk0).toArray) w := (zero_of_info sbk_infoZ).1 w
theorem dbk_size : (Try.prog.info? 60).map (·.size) = some 66 := by kernel_rfl
theorem dbk_infoZ : (Try.prog.info? 60).map (fun i => (i.zero, i.size)) = some (some (.agg (bkC bk0).toArray), 66) := by kernel_rfl
theorem dbk_zero (w : World) : (zeroValue 60).run Try.prog w = .ok (.agg (bkC bk0).toArray) w := (zero_of_info dbk_infoZ).1 w
theorem dbk_infoA : (Try.prog.info? 60).map (fun i => (i.zero, i.size, i.bytes)) = some (some (.agg (bkC bk0).toArray), 66, 304) := by kernel_rfl
theorem spg_size : (Try.prog.info? 46).map (·.size) = some 7 := by kernel_rfl
theorem spg_infoZ : (Try.prog.info? 46).map (fun i => (i.zero, i.size)) = some (some (.agg (pgC pg0).toArray), 7) := by kernel_rfl
theorem spg_zero (w : World) : (zeroValue 46).run Try.prog w = .ok (.agg (pgC pg0).toArray) w := (zero_of_info spg_infoZ).1 w
theorem dpg_size : (Try.prog.info? 40).map (·.size) = some 7 := by kernel_rfl
theorem kinds_size : (Try.prog.info? 52).map (·.size) = some 8 := by kernel_rfl
theorem pages_size : (Try.prog.info? 53).map (·.size) = some 56 := by kernel_rfl

set_option maxRecDepth 100000 in
theorem run_build3 (h : Int) (c : BitVec 32) (ks : List Int) (hk : ks.length = 8) (w : World) : (Instr.build 60 #[(0, .int .i64 h), (1, .int .u32 (U c)), (2, .agg (Is ks).toArray)]).run Try.prog w = .ok (.agg (bkC { bk0 with head := h, count := c, kinds := ks }).toArray) w := by
  rw [nm_eight ks hk]
  generalize nm ks 0 = k0
  generalize nm ks 1 = k1
  generalize nm ks 2 = k2
  generalize nm ks 3 = k3
  generalize nm ks 4 = k4
  generalize nm ks 5 = k5
  generalize nm ks 6 = k6
  generalize nm ks 7 = k7
  kernel_rfl
theorem wpList_build3 {ops : Array Oper} {rest : List Oper} {o : Oper} {a : Go.Act} {w : World} {Q : Exit → Go.Act → World → Prop} (x y z : Operand) (h : Int) (c : BitVec 32) (ks : List Int) (hgd : o.guard = none) (ho : o.op = .build 60 #[(0, x), (1, y), (2, z)]) (hx : a.eval x = .int .i64 h) (hy : a.eval y = .int .u32 (U c)) (hz : a.eval z = .agg (Is ks).toArray) (hk : ks.length = 8)
    (hK : wpList Try.prog ops Q rest (a.put o.dst (.agg (bkC { bk0 with head := h, count := c, kinds := ks }).toArray)) w) : wpList Try.prog ops Q (o :: rest) a w :=
  wpList_plain hgd fun K hK' => by
    unfold Oper.wp execOp
    simp only [ho, List.map_toArray, List.map_cons, List.map_nil, hx, hy, hz, Sem.run_bind, run_build3 h c ks hk, Result.andThen_ok]
    exact hK' _ _ hK
theorem run_index (l : List PageM) (hl : l.length = 8) (i : Nat) (hi : i < 8) (w : World) : (Instr.index 53 (.agg (pgs l).toArray) (.int .i64 (i : Int))).run Try.prog w = .ok (.agg (pgC (pgN l i)).toArray) w := by
  have hp := part_agg Try.underlying46 rfl (size_of spg_size) w (pgs l).toArray (i * 7)
  rw [pgs_extract l i (by omega)] at hp
  unfold Instr.index
  simp only [asIntOf, Sem.run_bind, Sem.run_pure, Result.andThen_ok, run_underlying Try.underlying53]
  rw [if_pos (by omega)]
  simp only [Sem.run_bind, size_of spg_size, Result.andThen_ok, Int.toNat_natCast]
  exact hp
theorem wpList_index {ops : Array Oper} {rest : List Oper} {o : Oper} {a : Go.Act} {w : World} {Q : Exit → Go.Act → World → Prop} (x y : Operand) (l : List PageM) (i : Nat) (hgd : o.guard = none) (ho : o.op = .index 53 x y) (hx : a.eval x = .agg (pgs l).toArray) (hy : a.eval y = .int .i64 (i : Int)) (hl : l.length = 8) (hi : i < 8)
    (hK : wpList Try.prog ops Q rest (a.put o.dst (.agg (pgC (pgN l i)).toArray)) w) : wpList Try.prog ops Q (o :: rest) a w :=
  wpList_plain hgd fun K hK' => by
    unfold Oper.wp execOp
    simp only [ho, hx, hy, Sem.run_bind, run_index l hl i hi, Result.andThen_ok]
    exact hK' _ _ hK

theorem own_turned {S : Nat → Prop} {w w' : World} {base n k : Nat} {t : TypeId} {v : Value} {xs : List Value} (h : w.ownsRow base t k v n xs) (hT : Turned S w w') (hS : ∀ g, v.ownBlock = some g → ¬ S g) : w'.ownsRow base t k v n xs := by
  obtain ⟨hl, h⟩ := h
  rcases h with h | ⟨g, cap, cur, rfl, hb, hg, r⟩
  · exact ⟨hl, .inl h⟩
  · exact ⟨hl, .inr ⟨g, cap, cur, rfl, hb, (hT.block g (Array.getElem?_eq_some_iff.1 hg).1 (hS g rfl)).trans hg, r⟩⟩
/-- The pages that were copied so far. -/
def copied (l : List PageM) (k : Nat) : List PageM := (List.range k).foldl (fun acc i => acc.set i (pgN l i)) (List.replicate 8 pg0)
theorem copied_succ (l : List PageM) (k : Nat) : copied l (k + 1) = (copied l k).set k (pgN l k) := by simp [copied, List.range_succ]
theorem copied_len (l : List PageM) (k : Nat) : (copied l k).length = 8 := by
  induction k with
  | zero => rfl
  | succ k ih => rw [copied_succ, List.length_set, ih]
theorem copied_all (l : List PageM) (h : l.length = 8) : copied l 8 = l := by
  match l, h with
  | [a, b, c, d, e, f, g, i], _ => rfl
/-- A block whose first k pages were copied. -/
def part (b : BlkM) (k : Nat) : BlkM := { head := b.head, count := b.count, kinds := b.kinds, pages := copied b.pages k }
theorem part_ok {b : BlkM} (h : BlkOk b) (k : Nat) : BlkOk (part b k) := ⟨h.k, copied_len _ _⟩
theorem part_succ (b : BlkM) (k : Nat) : { part b k with pages := (part b k).pages.set k (pgN b.pages k) } = part b (k + 1) := by
  unfold part
  rw [copied_succ]
theorem part_all {b : BlkM} (h : BlkOk b) : part b 8 = b := by
  unfold part
  rw [copied_all _ h.p]
theorem bk_kinds_range {w : World} {g off : Nat} {b : BlkM} (h : BlkOk b) (hr : w.rangeAt g off (bkC b)) : w.rangeAt g (off + 2) (Is b.kinds) := fun j v hv => by
  have hj := (List.getElem?_eq_some_iff.1 hv).1
  rw [Is_length, h.k] at hj
  rw [Nat.add_assoc]
  refine hr (2 + j) v ?_
  rw [← hv, bk_kind h j hj, Is_get _ _ (by rw [h.k]; exact hj)]
theorem bk_pages_range {w : World} {g off : Nat} {b : BlkM} (h : BlkOk b) (hr : w.rangeAt g off (bkC b)) : w.rangeAt g (off + 10) (pgs b.pages) := fun j v hv => by
  rw [Nat.add_assoc]
  refine hr (10 + j) v ?_
  unfold bkC
  rw [← List.append_assoc, List.getElem?_append_right (by rw [List.length_append, Is_length, h.k]; simp), List.length_append, Is_length, h.k]
  rw [show 10 + j - ([Value.int IntKind.i64 b.head, Value.int IntKind.u32 (U b.count)].length + 8) = j by simp]
  exact hv

set_option maxRecDepth 100000 in
set_option maxHeartbeats 4000000 in
theorem any_own (A : Option Addr) (n c : Nat) (bs : List BlkM) (w : World) (hA : ReadsB w A n c bs) (hn : n ≤ 1000) : Calls Try.prog 10 #[.slice A n c] w fun e w' => ∃ B cap, e = .returned (.slice B n cap) ∧ w'.ownsRow w.heap.size 60 66 (.slice B n cap) n (bks bs) ∧ Below w.heap.size w w' := by
  have hz := sbk_zero
  have hz2 := dbk_zero
  have hz7 := spg_zero
  have HA := Lib.hid hA
  obtain ⟨i0, hin, hz0, hz1, hz2'⟩ := info_parts dbk_infoA
  clear hA
  go_enter Try.func10, Try.ntmps10
  go_wp2
  go_loopg [3, 11] n (fun g o i wr => ∃ j : Nat, j ≤ n ∧ g = n - j ∧ i = .int .i64 j ∧ wr.ownsRow w.heap.size 60 66 o j (bks (bs.take j)) ∧ Below w.heap.size w wr)
  case atStart => exact ⟨0, by omega, rfl, rfl, World.ownsRow_nil _ _ _ _, Below.refl _ _⟩
  case round =>
    obtain ⟨j, hj, rfl, rfl, ho, hB⟩ := hrel
    by_cases hltj : j < n
    · have i0' : (0 : Int) ≤ (j : Int) := by omega
      have i1' : (j : Int) < (n : Int) := by omega
      obtain ⟨g, off, rfl, hg, hr⟩ := (HA.out.kept hB).at_ hltj
      have hok := HA.out.okN hltj
      have HOK := Lib.hid hok
      have HL := Lib.hid (bk_len hok)
      have HR := Lib.hid hr
      have HO := Lib.hid ho
      have HB := Lib.hid hB
      obtain ⟨b, hb⟩ : ∃ b, b = bkN bs j := ⟨_, rfl⟩
      rw [← hb] at HOK HL HR
      have HBE := Lib.hid hb
      clear hr ho hB hok hb
      go_wp2_with (first
        | (refine wpList_ldr _ rfl rfl rfl Try.underlying55 rfl sbk_size HL.out HR.out ?_)
        | (refine wpList_stm (pre := []) (post := []) (xs := bkC bk0) (ys := bkC b) _ _ rfl rfl rfl rfl sbk_size (by rfl) HL.out (bk_one _) rfl (by simp) (At.news _ _ (bkC bk0)) ?_; intro V1 A1 T1; rw [List.nil_append, List.append_nil] at A1; have c0 := A1.cell 0; have c1 := A1.cell 1; rw [bk_head] at c0; rw [bk_count] at c1; have HA1 := Lib.hid A1; have HT1 := Lib.hid T1; clear A1 T1)
        | (refine wpList_ldr _ rfl rfl rfl Try.underlying52 rfl kinds_size (by rw [Is_length]; exact HOK.out.k) (bk_kinds_range HOK.out HA1.out.rng) ?_)
        | (refine wpList_build3 _ _ _ _ _ _ rfl rfl rfl rfl rfl HOK.out.k ?_)
        | (refine wpList_stm (pre := []) (post := []) (xs := bkC bk0) (ys := bkC (part b 0)) _ _ rfl rfl rfl rfl dbk_size (by rfl) (bk_len (part_ok HOK.out 0)) (bk_one _) rfl (by simp) (At.news V1 _ (bkC bk0)) ?_; intro V2 A2 T2; rw [List.nil_append, List.append_nil] at A2; have HA2 := Lib.hid A2; have HT2 := Lib.hid T2; clear A2 T2)
        | (refine wpList_ldr _ rfl rfl rfl Try.underlying53 rfl pages_size (by rw [pgs_len, HOK.out.p]) (bk_pages_range HOK.out (((HA1.out.alloc _).kept HT2.out (by unfold Just; have := HA1.out.lt; omega)).rng)) ?_))
      have hB2 : Below w.heap.size w V2 := HB.out.trans (((((Below.refl _ wr).alloc (Nat.le_refl _) _).trans (HT1.out.below (fun k hk => by unfold Just at hk; omega) (by simp))).trans ((((Below.refl _ V1).alloc (Nat.le_refl _) _).trans (HT2.out.below (fun k hk => by unfold Just at hk; omega) (by simp))).mono (by have := HT1.out.size; simp at this; omega))).mono HB.out.size)
      have hO2 : V2.ownsRow w.heap.size 60 66 u3 j (bks (bs.take j)) := own_below HO.out ((((Below.refl _ wr).alloc (Nat.le_refl _) _).trans (HT1.out.below (fun k hk => by unfold Just at hk; omega) (by simp))).trans ((((Below.refl _ V1).alloc (Nat.le_refl _) _).trans (HT2.out.below (fun k hk => by unfold Just at hk; omega) (by simp))).mono (by have := HT1.out.size; simp at this; omega)))
      have hV1 : w.heap.size ≤ V1.heap.size := by have := HT1.out.size; have := HB.out.size; simp at *; omega
      clear c0 c1
      have HO1 : Hid (∀ k, u3.ownBlock = some k → k < V1.heap.size) := Lib.hid (fun k hk => by have := (HO.out.lt k hk).2; have h1 := HT1.out.size; simp at h1; omega)
      go_loopg [24] 8 (fun g i wq => ∃ t : Nat, t ≤ 8 ∧ g = 8 - t ∧ i = .int .i64 t ∧ At wq V1.heap.size 60 (bkC (part b t)) ∧ wq.ownsRow w.heap.size 60 66 u3 j (bks (bs.take j)) ∧ Below w.heap.size w wq)
      case atStart => exact ⟨0, by omega, rfl, rfl, HA2.out, hO2, hB2⟩
      case round =>
        clear hO2 hB2
        obtain ⟨t, ht, rfl, rfl, hA3, hO3, hB3⟩ := hrel
        have HA3 := Lib.hid hA3
        have HO3 := Lib.hid hO3
        have HB3 := Lib.hid hB3
        clear hA3 hO3 hB3
        by_cases hlt : t < 8
        · have t0 : (0 : Int) ≤ (t : Int) := by omega
          have t1 : (t : Int) < 8 := by omega
          obtain ⟨pr, po, hpl, he, hs⟩ := bk_page (part_ok HOK.out t) t hlt
          have HPL := Lib.hid hpl
          have HE := Lib.hid he
          have HS := Lib.hid hs
          clear hpl he hs
          go_wp2_with (first
            | (refine wpList_index _ _ b.pages t rfl rfl rfl rfl HOK.out.p hlt ?_)
            | (refine wpList_stm (pre := []) (post := []) (xs := pgC pg0) (ys := pgC (pgN b.pages t)) _ _ rfl rfl rfl rfl spg_size (by rfl) (pgC_len _) (pgC_one _) rfl (by simp) (At.news _ _ (pgC pg0)) ?_; intro V4 A5 T5; rw [List.nil_append, List.append_nil] at A5; have HA5 := Lib.hid A5; have HT5 := Lib.hid T5; have HA6 := Lib.hid ((HA3.out.alloc (.cells (pgC pg0).toArray 46)).kept T5 (by unfold Just; have := HA3.out.lt; omega)); clear A5 T5)
            | (refine wpList_ldr _ rfl rfl rfl Try.underlying46 rfl spg_size (pgC_len _) HA5.out.rng ?_)
            | (refine wpList_stm (ys := pgC (pgN b.pages t)) _ _ rfl rfl rfl rfl dpg_size (pgC_len _) (pgC_len _) (pgC_one _) (by rw [HPL.out]; omega) HE.out HA6.out ?_; intro V6 A8 T8; rw [← HS.out] at A8; have HA8 := Lib.hid A8; have HT8 := Lib.hid T8; clear A8 T8))
          have T9 : Turned (fun k => k = V1.heap.size) wr V6 := (((Turned.refl (fun k => k = V1.heap.size) wr).alloc _).after HT5.out (fun k hk h => by unfold Just at h; omega)).trans (HT8.out.mono (fun k _ h => h))
          go_roundg (8 - (t + 1))
          case measure => go_light; omega
          case rel =>
            go_light
            refine ⟨t + 1, by omega, rfl, by go_num, by rw [← part_succ]; exact HA8.out, own_turned HO3.out T9 (fun k hk => by have := HO1.out k hk; omega), HB3.out.trans (T9.below (fun k hk => by omega) HB3.out.size)⟩
        · obtain rfl : t = 8 := by omega
          have HA4 := HA3.out
          rw [part_all HOK.out] at HA4
          have HA5 := Lib.hid HA4
          have HO4 := Lib.hid (HO3.out.alloc (.cells (bkC b).toArray 60))
          clear HA4
          go_wp2_with (first
            | (refine wpList_ldr _ rfl rfl rfl Try.underlying60 rfl dbk_size HL.out HA5.out.rng ?_)
            | (refine wpList_build_one _ rfl rfl rfl Try.underlying24 hin hz0 hz1 (cs := (bkC b).toArray) (by simpa using HL.out) (by omega) (by omega) ?_)
            | (at_builtin; refine halt_here ?_))
          refine Lib.hid ?_
          refine wpList_append_lies _ rfl _ _ _ rfl w.heap.size 60 i0 _ 66 304 Try.underlying24 hin hz0 hz1 hz2' (by show (bkC bk0).toArray.size = 66; simpa using bk_len bk0_ok) (by omega) _ j _ rfl HO4.out ⟨wr.heap.size, 0, none⟩ 1 1 (bkC b) rfl (by rw [HL.out]) (At.news wr _ _).news_at (bk_one _) (by omega) (by unfold maxLen; omega) (by omega) (by have := HB3.out.size; simp; omega) _ rfl ?_
          intro g' cap w' h1 h2 h3 h4
          simp only [Act.put, List.setIfInBounds_toArray, List.set_cons_zero, List.set_cons_succ]
          have hB' : Below w.heap.size w w' := (HB3.out.alloc HB3.out.size (.cells (bkC b).toArray 60)).grown h2 (by have := HB3.out.size; simp; omega) (fun k hk => (HO4.out.lt k hk).1)
          have hn1 : bks (bs.take (j + 1)) = bks (bs.take j) ++ bkC b := by
            rw [List.take_add_one, bkN_get (by rw [HA.out.len]; exact hltj), ← HBE.out]
            exact bks_snoc _ _
          go_wp2
          go_roundg (n - (j + 1))
          case measure => go_light; omega
          case rel =>
            go_light
            exact ⟨j + 1, by omega, rfl, by go_num, by rw [hn1]; exact h1, hB'⟩
    · obtain rfl : j = n := by omega
      go_wp2
      rw [List.take_of_length_le (by rw [HA.out.len]; exact Nat.le_refl _)] at ho
      obtain ⟨B, cap, rfl, _⟩ := ReadsB.of_own ho HA.out.ok HA.out.len.symm
      rw [HA.out.len] at ho
      go_ret
      exact ⟨B, cap, by rw [HA.out.len]; rfl, ho, hB⟩
theorem any (A : Option Addr) (n c : Nat) (bs : List BlkM) (w : World) (hA : ReadsB w A n c bs) (hn : n ≤ 1000) : Calls Try.prog 10 #[.slice A n c] w fun e w' => ∃ B cap, e = .returned (.slice B n cap) ∧ ReadsB w' B n cap bs ∧ Below w.heap.size w w' :=
  (any_own A n c bs w hA hn).mono fun e w' ⟨B, cap, he, ho, hB⟩ => by
    obtain ⟨B', cap', e2, hR⟩ := ReadsB.of_own ho hA.ok hA.len.symm
    rw [hA.len] at e2 hR
    injection e2 with e3 _ e4
    subst e3 e4
    exact ⟨_, _, he, hR, hB⟩
end Go.Proofs.Ytfpfcmgcfbkolaa.Theirs
