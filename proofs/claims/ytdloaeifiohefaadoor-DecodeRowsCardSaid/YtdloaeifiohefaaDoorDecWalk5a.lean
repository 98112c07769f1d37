/- DecodeRows' two helpers: the first of five ops of a name that has a word; has a name an rd. -/
import Derived.Test.YtdloaeifiohefaaDoorDecV
import Derived.Test.YtdloaeifiohefaaDoorDecL
namespace Go.Proofs.YtdloaeifiohefaaDoor
open Go.RowKit Bm

theorem mod69 {a : Int} (h0 : 0 ≤ a) : a.tmod 69 = a % 69 := Int.tmod_eq_emod_of_nonneg h0
theorem mod32' {a : Int} (h0 : 0 ≤ a) : a.tmod 32 = a % 32 := Int.tmod_eq_emod_of_nonneg h0

set_option maxRecDepth 100000 in
set_option maxHeartbeats 8000000 in
theorem writes11_any {k : Nat} (hk : k < 69) (w : World) (hT : Tabs w) : Calls Tryd.prog 17 #[.int .i64 ((k : Int) + 1)] w fun e w' => e = .returned (.bool (wrB ((k : Int) + 1))) ∧ Below w.heap.size w w' := by
  have HT := Lib.hid hT
  have HWR := Lib.hid (e3_wr k hk)
  have H0 : Hid (∀ W, Tabs W → Calls Tryd.prog 12 #[.agg (opC ⟨(k : Int) + 1, 1, 1, 1, 0#32⟩).toArray] W fun e w' => e = .returned (.tuple #[.int .u32 (U (encM ⟨(k : Int) + 1, 1, 1, 1, 0#32⟩)), .bool (encB ⟨(k : Int) + 1, 1, 1, 1, 0#32⟩)]) ∧ Below W.heap.size W w') := Lib.hid (fun W h => encode_any _ _ _ _ _ W h)
  have H1 : Hid (∀ W, Tabs W → Calls Tryd.prog 12 #[.agg (opC ⟨(k : Int) + 1, 1, 1, 0, 0#32⟩).toArray] W fun e w' => e = .returned (.tuple #[.int .u32 (U (encM ⟨(k : Int) + 1, 1, 1, 0, 0#32⟩)), .bool (encB ⟨(k : Int) + 1, 1, 1, 0, 0#32⟩)]) ∧ Below W.heap.size W w') := Lib.hid (fun W h => encode_any _ _ _ _ _ W h)
  have H2 : Hid (∀ W, Tabs W → Calls Tryd.prog 12 #[.agg (opC ⟨(k : Int) + 1, 1, 0, 0, 0#32⟩).toArray] W fun e w' => e = .returned (.tuple #[.int .u32 (U (encM ⟨(k : Int) + 1, 1, 0, 0, 0#32⟩)), .bool (encB ⟨(k : Int) + 1, 1, 0, 0, 0#32⟩)]) ∧ Below W.heap.size W w') := Lib.hid (fun W h => encode_any _ _ _ _ _ W h)
  have HE : Hid (e3B ((k : Int) + 1) = (encB ⟨(k : Int) + 1, 1, 1, 1, 0#32⟩ || (encB ⟨(k : Int) + 1, 1, 1, 0, 0#32⟩ || encB ⟨(k : Int) + 1, 1, 0, 0, 0#32⟩))) := Lib.hid rfl
  obtain ⟨e0, he0⟩ : ∃ e, e = encB ⟨(k : Int) + 1, 1, 1, 1, 0#32⟩ := ⟨_, rfl⟩
  obtain ⟨e1, he1⟩ : ∃ e, e = encB ⟨(k : Int) + 1, 1, 1, 0, 0#32⟩ := ⟨_, rfl⟩
  obtain ⟨e2, he2⟩ : ∃ e, e = encB ⟨(k : Int) + 1, 1, 0, 0, 0#32⟩ := ⟨_, rfl⟩
  rw [← he0] at H0
  rw [← he1] at H1
  rw [← he2] at H2
  rw [← he0, ← he1, ← he2] at HE
  obtain ⟨C, hC⟩ : ∃ C : List Value, C = opC ⟨(k : Int) + 1, 1, 1, 1, 0#32⟩ ++ (opC ⟨(k : Int) + 1, 1, 1, 0, 0#32⟩ ++ opC ⟨(k : Int) + 1, 1, 0, 0, 0#32⟩) := ⟨_, rfl⟩
  have HC := Lib.hid hC
  have AG : Hid (At (w.alloc (.cells C.toArray 25)) w.heap.size 25 C) := Lib.hid (At.news w 25 C)
  have LG : Hid (∀ o, Below w.heap.size w (w.alloc o)) := Lib.hid fun o => (Below.refl _ w).alloc (Nat.le_refl _) _
  clear hT hk he0 he1 he2 hC
  go_enter Tryd.func17, Tryd.ntmps17
  go_wp2
  obtain ⟨g, hg⟩ : ∃ g, g = w.heap.size := ⟨_, rfl⟩
  have GG := Lib.hid hg
  rw [← hg] at AG
  simp only [← hg]
  clear hg
  go_loopw [4, 15] (fun _ i wr => ∃ j : Nat, j ≤ 3 ∧ i = .int .i64 j ∧ At wr g 25 C ∧ Below w.heap.size w wr ∧ (1 ≤ j → e0 = false) ∧ (2 ≤ j → e1 = false) ∧ (3 ≤ j → e2 = false)) (fun _ i _ => 3 - (intOf i).toNat)
  case atStart => exact ⟨0, by omega, rfl, by have := AG.out; rw [HC.out] at this ⊢; exact this, LG.out _, fun h => by omega, fun h => by omega, fun h => by omega⟩
  case round =>
    obtain ⟨j, hj, rfl, hA, hB, f0, f1, f2⟩ := hrel
    have A1 := Lib.hid hA
    have L1 := Lib.hid hB
    have F0 := Lib.hid f0
    have F1 := Lib.hid f1
    have F2 := Lib.hid f2
    clear hA hB f0 f1 f2 AG
    have c : j = 0 ∨ j = 1 ∨ j = 2 ∨ j = 3 := by omega
    rcases c with rfl | rfl | rfl | rfl
    · cases e0
      · go_wp2_with (first
        | (refine wpList_ldm (xs := opC ⟨(k : Int) + 1, 1, 1, 1, 0#32⟩) (pre := []) (post := (opC ⟨(k : Int) + 1, 1, 1, 0, 0#32⟩ ++ opC ⟨(k : Int) + 1, 1, 0, 0, 0#32⟩)) _ rfl rfl rfl Tryd.underlying25 rfl op_size rfl rfl (HC.out.trans rfl) A1.out ?_)
        | (refine wpList_newO 25 ⟨(k : Int) + 1, 1, 1, 1, 0#32⟩ wr _ _ rfl rfl rfl rfl rfl op_size ?_; intro w3 hA hb; have P3 := Lib.hid hA; have A3 := Lib.hid (at_keep A1.out hb); have L3 := Lib.hid (L1.out.trans (hb.mono L1.out.size)); clear hA hb)
        | (refine wpList_ldw _ (by rfl) rfl rfl Tryd.underlying25 rfl op_size rfl P3.out.rng0 ?_)
        | (go_at_call 12; (with_reducible refine (H0.out _ (HT.out.below L3.out HT.out.two)).mono ?_); rintro e w4 ⟨rfl, hb⟩; have A4 := Lib.hid (at_keep A3.out hb); have L4 := Lib.hid (L3.out.trans (hb.mono L3.out.size)); clear hb))
        exact ⟨⟨1, by omega, by first | exact trivial | go_num, A4.out, L4.out, fun _ => by first | exact trivial | rfl, fun h => by omega, fun h => by omega⟩, by decide⟩
      · have hw : Hid (wrB ((k : Int) + 1) = !decide ((k : Int) + 1 = 57)) := Lib.hid (by rw [← HWR.out, HE.out]; simp)
        by_cases h57 : (k : Int) + 1 = 57
        · have q57 : ((k : Int) + 1 == 57) = true := by rw [beq_iff_eq]; exact h57
          have hv : Hid (wrB ((k : Int) + 1) = false) := Lib.hid (by rw [hw.out]; simp [h57])
          have q58 : ((k : Int) + 1 != 57) = false := by simp only [bne, q57]; rfl
          clear h57
          go_wp2_with (first
            | (refine wpList_ldm (xs := opC ⟨(k : Int) + 1, 1, 1, 1, 0#32⟩) (pre := []) (post := (opC ⟨(k : Int) + 1, 1, 1, 0, 0#32⟩ ++ opC ⟨(k : Int) + 1, 1, 0, 0, 0#32⟩)) _ rfl rfl rfl Tryd.underlying25 rfl op_size rfl rfl (HC.out.trans rfl) A1.out ?_)
            | (refine wpList_newO 25 ⟨(k : Int) + 1, 1, 1, 1, 0#32⟩ wr _ _ rfl rfl rfl rfl rfl op_size ?_; intro w3 hA hb; have P3 := Lib.hid hA; have A3 := Lib.hid (at_keep A1.out hb); have L3 := Lib.hid (L1.out.trans (hb.mono L1.out.size)); clear hA hb)
            | (refine wpList_ldw _ (by rfl) rfl rfl Tryd.underlying25 rfl op_size rfl P3.out.rng0 ?_)
            | (go_at_call 12; (with_reducible refine (H0.out _ (HT.out.below L3.out HT.out.two)).mono ?_); rintro e w4 ⟨rfl, hb⟩; have A4 := Lib.hid (at_keep A3.out hb); have L4 := Lib.hid (L3.out.trans (hb.mono L3.out.size)); clear hb))
          go_ret
          exact ⟨by rw [hv.out]; rfl, L4.out⟩
        · have q57 : ((k : Int) + 1 == 57) = false := by rw [beq_eq_false_iff_ne]; exact h57
          have hv : Hid (wrB ((k : Int) + 1) = true) := Lib.hid (by rw [hw.out]; simp [h57])
          have q58 : ((k : Int) + 1 != 57) = true := by simp only [bne, q57]; rfl
          clear h57
          go_wp2_with (first
            | (refine wpList_ldm (xs := opC ⟨(k : Int) + 1, 1, 1, 1, 0#32⟩) (pre := []) (post := (opC ⟨(k : Int) + 1, 1, 1, 0, 0#32⟩ ++ opC ⟨(k : Int) + 1, 1, 0, 0, 0#32⟩)) _ rfl rfl rfl Tryd.underlying25 rfl op_size rfl rfl (HC.out.trans rfl) A1.out ?_)
            | (refine wpList_newO 25 ⟨(k : Int) + 1, 1, 1, 1, 0#32⟩ wr _ _ rfl rfl rfl rfl rfl op_size ?_; intro w3 hA hb; have P3 := Lib.hid hA; have A3 := Lib.hid (at_keep A1.out hb); have L3 := Lib.hid (L1.out.trans (hb.mono L1.out.size)); clear hA hb)
            | (refine wpList_ldw _ (by rfl) rfl rfl Tryd.underlying25 rfl op_size rfl P3.out.rng0 ?_)
            | (go_at_call 12; (with_reducible refine (H0.out _ (HT.out.below L3.out HT.out.two)).mono ?_); rintro e w4 ⟨rfl, hb⟩; have A4 := Lib.hid (at_keep A3.out hb); have L4 := Lib.hid (L3.out.trans (hb.mono L3.out.size)); clear hb))
          go_ret
          exact ⟨by rw [hv.out]; rfl, L4.out⟩
    · cases e1
      · go_wp2_with (first
        | (refine wpList_ldm (xs := opC ⟨(k : Int) + 1, 1, 1, 0, 0#32⟩) (pre := (opC ⟨(k : Int) + 1, 1, 1, 1, 0#32⟩)) (post := (opC ⟨(k : Int) + 1, 1, 0, 0, 0#32⟩)) _ rfl rfl rfl Tryd.underlying25 rfl op_size rfl rfl (HC.out.trans rfl) A1.out ?_)
        | (refine wpList_newO 25 ⟨(k : Int) + 1, 1, 1, 0, 0#32⟩ wr _ _ rfl rfl rfl rfl rfl op_size ?_; intro w3 hA hb; have P3 := Lib.hid hA; have A3 := Lib.hid (at_keep A1.out hb); have L3 := Lib.hid (L1.out.trans (hb.mono L1.out.size)); clear hA hb)
        | (refine wpList_ldw _ (by rfl) rfl rfl Tryd.underlying25 rfl op_size rfl P3.out.rng0 ?_)
        | (go_at_call 12; (with_reducible refine (H1.out _ (HT.out.below L3.out HT.out.two)).mono ?_); rintro e w4 ⟨rfl, hb⟩; have A4 := Lib.hid (at_keep A3.out hb); have L4 := Lib.hid (L3.out.trans (hb.mono L3.out.size)); clear hb))
        exact ⟨⟨2, by omega, by first | exact trivial | go_num, A4.out, L4.out, fun _ => F0.out (by omega), fun _ => by first | exact trivial | rfl, fun h => by omega⟩, by decide⟩
      · have hw : Hid (wrB ((k : Int) + 1) = !decide ((k : Int) + 1 = 57)) := Lib.hid (by rw [← HWR.out, HE.out]; simp)
        by_cases h57 : (k : Int) + 1 = 57
        · have q57 : ((k : Int) + 1 == 57) = true := by rw [beq_iff_eq]; exact h57
          have hv : Hid (wrB ((k : Int) + 1) = false) := Lib.hid (by rw [hw.out]; simp [h57])
          have q58 : ((k : Int) + 1 != 57) = false := by simp only [bne, q57]; rfl
          clear h57
          go_wp2_with (first
            | (refine wpList_ldm (xs := opC ⟨(k : Int) + 1, 1, 1, 0, 0#32⟩) (pre := (opC ⟨(k : Int) + 1, 1, 1, 1, 0#32⟩)) (post := (opC ⟨(k : Int) + 1, 1, 0, 0, 0#32⟩)) _ rfl rfl rfl Tryd.underlying25 rfl op_size rfl rfl (HC.out.trans rfl) A1.out ?_)
            | (refine wpList_newO 25 ⟨(k : Int) + 1, 1, 1, 0, 0#32⟩ wr _ _ rfl rfl rfl rfl rfl op_size ?_; intro w3 hA hb; have P3 := Lib.hid hA; have A3 := Lib.hid (at_keep A1.out hb); have L3 := Lib.hid (L1.out.trans (hb.mono L1.out.size)); clear hA hb)
            | (refine wpList_ldw _ (by rfl) rfl rfl Tryd.underlying25 rfl op_size rfl P3.out.rng0 ?_)
            | (go_at_call 12; (with_reducible refine (H1.out _ (HT.out.below L3.out HT.out.two)).mono ?_); rintro e w4 ⟨rfl, hb⟩; have A4 := Lib.hid (at_keep A3.out hb); have L4 := Lib.hid (L3.out.trans (hb.mono L3.out.size)); clear hb))
          go_ret
          exact ⟨by rw [hv.out]; rfl, L4.out⟩
        · have q57 : ((k : Int) + 1 == 57) = false := by rw [beq_eq_false_iff_ne]; exact h57
          have hv : Hid (wrB ((k : Int) + 1) = true) := Lib.hid (by rw [hw.out]; simp [h57])
          have q58 : ((k : Int) + 1 != 57) = true := by simp only [bne, q57]; rfl
          clear h57
          go_wp2_with (first
            | (refine wpList_ldm (xs := opC ⟨(k : Int) + 1, 1, 1, 0, 0#32⟩) (pre := (opC ⟨(k : Int) + 1, 1, 1, 1, 0#32⟩)) (post := (opC ⟨(k : Int) + 1, 1, 0, 0, 0#32⟩)) _ rfl rfl rfl Tryd.underlying25 rfl op_size rfl rfl (HC.out.trans rfl) A1.out ?_)
            | (refine wpList_newO 25 ⟨(k : Int) + 1, 1, 1, 0, 0#32⟩ wr _ _ rfl rfl rfl rfl rfl op_size ?_; intro w3 hA hb; have P3 := Lib.hid hA; have A3 := Lib.hid (at_keep A1.out hb); have L3 := Lib.hid (L1.out.trans (hb.mono L1.out.size)); clear hA hb)
            | (refine wpList_ldw _ (by rfl) rfl rfl Tryd.underlying25 rfl op_size rfl P3.out.rng0 ?_)
            | (go_at_call 12; (with_reducible refine (H1.out _ (HT.out.below L3.out HT.out.two)).mono ?_); rintro e w4 ⟨rfl, hb⟩; have A4 := Lib.hid (at_keep A3.out hb); have L4 := Lib.hid (L3.out.trans (hb.mono L3.out.size)); clear hb))
          go_ret
          exact ⟨by rw [hv.out]; rfl, L4.out⟩
    · cases e2
      · go_wp2_with (first
        | (refine wpList_ldm (xs := opC ⟨(k : Int) + 1, 1, 0, 0, 0#32⟩) (pre := (opC ⟨(k : Int) + 1, 1, 1, 1, 0#32⟩ ++ opC ⟨(k : Int) + 1, 1, 1, 0, 0#32⟩)) (post := []) _ rfl rfl rfl Tryd.underlying25 rfl op_size rfl rfl (HC.out.trans rfl) A1.out ?_)
        | (refine wpList_newO 25 ⟨(k : Int) + 1, 1, 0, 0, 0#32⟩ wr _ _ rfl rfl rfl rfl rfl op_size ?_; intro w3 hA hb; have P3 := Lib.hid hA; have A3 := Lib.hid (at_keep A1.out hb); have L3 := Lib.hid (L1.out.trans (hb.mono L1.out.size)); clear hA hb)
        | (refine wpList_ldw _ (by rfl) rfl rfl Tryd.underlying25 rfl op_size rfl P3.out.rng0 ?_)
        | (go_at_call 12; (with_reducible refine (H2.out _ (HT.out.below L3.out HT.out.two)).mono ?_); rintro e w4 ⟨rfl, hb⟩; have A4 := Lib.hid (at_keep A3.out hb); have L4 := Lib.hid (L3.out.trans (hb.mono L3.out.size)); clear hb))
        exact ⟨⟨3, by omega, by first | exact trivial | go_num, A4.out, L4.out, fun _ => F0.out (by omega), fun _ => F1.out (by omega), fun _ => by first | exact trivial | rfl⟩, by decide⟩
      · have hw : Hid (wrB ((k : Int) + 1) = !decide ((k : Int) + 1 = 57)) := Lib.hid (by rw [← HWR.out, HE.out]; simp)
        by_cases h57 : (k : Int) + 1 = 57
        · have q57 : ((k : Int) + 1 == 57) = true := by rw [beq_iff_eq]; exact h57
          have hv : Hid (wrB ((k : Int) + 1) = false) := Lib.hid (by rw [hw.out]; simp [h57])
          have q58 : ((k : Int) + 1 != 57) = false := by simp only [bne, q57]; rfl
          clear h57
          go_wp2_with (first
            | (refine wpList_ldm (xs := opC ⟨(k : Int) + 1, 1, 0, 0, 0#32⟩) (pre := (opC ⟨(k : Int) + 1, 1, 1, 1, 0#32⟩ ++ opC ⟨(k : Int) + 1, 1, 1, 0, 0#32⟩)) (post := []) _ rfl rfl rfl Tryd.underlying25 rfl op_size rfl rfl (HC.out.trans rfl) A1.out ?_)
            | (refine wpList_newO 25 ⟨(k : Int) + 1, 1, 0, 0, 0#32⟩ wr _ _ rfl rfl rfl rfl rfl op_size ?_; intro w3 hA hb; have P3 := Lib.hid hA; have A3 := Lib.hid (at_keep A1.out hb); have L3 := Lib.hid (L1.out.trans (hb.mono L1.out.size)); clear hA hb)
            | (refine wpList_ldw _ (by rfl) rfl rfl Tryd.underlying25 rfl op_size rfl P3.out.rng0 ?_)
            | (go_at_call 12; (with_reducible refine (H2.out _ (HT.out.below L3.out HT.out.two)).mono ?_); rintro e w4 ⟨rfl, hb⟩; have A4 := Lib.hid (at_keep A3.out hb); have L4 := Lib.hid (L3.out.trans (hb.mono L3.out.size)); clear hb))
          go_ret
          exact ⟨by rw [hv.out]; rfl, L4.out⟩
        · have q57 : ((k : Int) + 1 == 57) = false := by rw [beq_eq_false_iff_ne]; exact h57
          have hv : Hid (wrB ((k : Int) + 1) = true) := Lib.hid (by rw [hw.out]; simp [h57])
          have q58 : ((k : Int) + 1 != 57) = true := by simp only [bne, q57]; rfl
          clear h57
          go_wp2_with (first
            | (refine wpList_ldm (xs := opC ⟨(k : Int) + 1, 1, 0, 0, 0#32⟩) (pre := (opC ⟨(k : Int) + 1, 1, 1, 1, 0#32⟩ ++ opC ⟨(k : Int) + 1, 1, 1, 0, 0#32⟩)) (post := []) _ rfl rfl rfl Tryd.underlying25 rfl op_size rfl rfl (HC.out.trans rfl) A1.out ?_)
            | (refine wpList_newO 25 ⟨(k : Int) + 1, 1, 0, 0, 0#32⟩ wr _ _ rfl rfl rfl rfl rfl op_size ?_; intro w3 hA hb; have P3 := Lib.hid hA; have A3 := Lib.hid (at_keep A1.out hb); have L3 := Lib.hid (L1.out.trans (hb.mono L1.out.size)); clear hA hb)
            | (refine wpList_ldw _ (by rfl) rfl rfl Tryd.underlying25 rfl op_size rfl P3.out.rng0 ?_)
            | (go_at_call 12; (with_reducible refine (H2.out _ (HT.out.below L3.out HT.out.two)).mono ?_); rintro e w4 ⟨rfl, hb⟩; have A4 := Lib.hid (at_keep A3.out hb); have L4 := Lib.hid (L3.out.trans (hb.mono L3.out.size)); clear hb))
          go_ret
          exact ⟨by rw [hv.out]; rfl, L4.out⟩
    · have hv : Hid (wrB ((k : Int) + 1) = false) := Lib.hid (by rw [← HWR.out, HE.out, F0.out (by omega), F1.out (by omega), F2.out (by omega)]; simp)
      go_wp2
      go_ret
      exact ⟨by rw [hv.out]; rfl, L1.out⟩
end Go.Proofs.YtdloaeifiohefaaDoor
