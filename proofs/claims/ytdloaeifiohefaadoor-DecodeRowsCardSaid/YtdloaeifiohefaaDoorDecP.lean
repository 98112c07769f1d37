/- Layer decode's document: its table's patterns and letters, its masks and numbers. -/
import Derived.Test.YtdloaeifiohefaaDoorDecR
import Derived.Test.YtdloaeifiohefaaDoorDec5
import Derived.Test.YtdloaeifiohefaaDoorBitsRef
namespace Go.Proofs.YtdloaeifiohefaaDoor
open Go.RowKit Bm

def patT : List (BitVec 32) := patL.drop 1
theorem patT_wd : ∀ i, i < 69 → wd patT i = patO (i + 1) := by decide
theorem patterns_any (w : World) : Calls Tryd.prog 20 #[] w fun e w' => e = .returned (.slice (some ⟨w.heap.size, 0, none⟩) 69 69) ∧ At w' w.heap.size 22 (Us patT) ∧ Below w.heap.size w w' := by
  go_enter Tryd.func20, Tryd.ntmps20
  go_wp2
  go_ret
  exact ⟨rfl, At.news w _ (Us patT), (Below.refl _ w).alloc (Nat.le_refl _) _⟩

def formS : ByteArray := ⟨#[85, 85, 74, 73, 66, 66, 66, 66, 66, 66, 73, 73, 73, 73, 73, 83, 83, 83, 73, 73, 73, 73, 73, 73, 72, 72, 72, 82, 82, 82, 82, 82, 82, 82, 82, 82, 82, 82, 82, 82, 82, 82, 82, 82, 82, 76, 65, 65, 65, 65, 65, 65, 65, 65, 65, 65, 70, 69, 69, 69, 69, 69, 86, 67, 67, 67, 67, 67, 67]⟩
theorem formS_size : formS.size = 69 := by decide
theorem forms_any (w : World) : Calls Tryd.prog 21 #[] w fun e w' => e = .returned (.string formS) ∧ w' = w := by
  go_enter Tryd.func21, Tryd.ntmps21
  go_wp2
  go_ret
  exact ⟨rfl, rfl⟩
def letL : List Int := [85, 74, 73, 66, 83, 82, 72, 65, 76, 70, 69, 86, 67]
def letO (f : Nat) : Int := letL.getD f 0
def byN (s : ByteArray) (j : Nat) : Int := if h : j < s.size then (s[j].toNat : Int) else 0
theorem byN_eq {s : ByteArray} {j : Nat} (h : j < s.size) : (s[j].toNat : Int) = byN s j := by unfold byN; rw [dif_pos h]
theorem forms_at : ∀ i, i < 69 → byN formS i = letO (fmO (i + 1)) := by decide +kernel
theorem letO_b : ∀ f, f < 13 → 0 ≤ letO f ∧ letO f ≤ 255 := by decide
def hasB (s : ByteArray) (c : Int) : Bool := (List.range s.size).any fun j => byN s j == c
theorem has_any (s : ByteArray) (hs : s.size ≤ 1000) (c : Int) (w : World) : Calls Tryd.prog 25 #[.string s, .int .u8 c] w fun e w' => e = .returned (.bool (hasB s c)) ∧ w' = w := by
  go_enter Tryd.func25, Tryd.ntmps25
  go_wp2
  go_loopw [5] (fun i wr => ∃ j : Nat, j ≤ s.size ∧ i = .int .i64 j ∧ wr = w ∧ ∀ i, i < j → byN s i ≠ c) (fun i _ => s.size - (intOf i).toNat)
  case atStart => exact ⟨0, by omega, rfl, rfl, fun i h => by omega⟩
  case round =>
    obtain ⟨j, hj, rfl, hw, hno⟩ := hrel
    replace hw := hw.symm
    subst hw
    have HNO := Lib.hid hno
    clear hno
    by_cases hlt : j < s.size
    · have j0 : (0 : Int) ≤ (j : Int) := by omega
      have j1 : (j : Int) < (s.size : Int) := by omega
      by_cases he : byN s j = c
      · have hq : ((s[j].toNat : Int) == c) = true := by rw [byN_eq hlt, he]; simp
        have HH : Hid (hasB s c = true) := Lib.hid (List.any_eq_true.2 ⟨j, List.mem_range.2 hlt, by rw [he]; simp⟩)
        clear he
        go_wp2
        go_ret
        exact ⟨by rw [HH.out]; rfl, rfl⟩
      · have hq : ((s[j].toNat : Int) == c) = false := by rw [byN_eq hlt]; simpa using he
        have HE := Lib.hid he
        clear he
        go_wp2
        exact ⟨⟨j + 1, by omega, by go_num, trivial, fun i hi => by
          by_cases e : i = j
          · rw [e]; exact HE.out
          · exact HNO.out i (by omega)⟩, by simp [intOf]; omega⟩
    · have HH : Hid (hasB s c = false) := Lib.hid (by
        unfold hasB
        rw [List.any_eq_false]
        intro i hi
        simpa using HNO.out i (by have := List.mem_range.1 hi; omega))
      go_wp2
      go_ret
      exact ⟨by rw [HH.out]; rfl, rfl⟩
def strRd : ByteArray := ⟨#[85, 74, 73, 82, 72, 65, 76, 70, 67]⟩
def strR1 : ByteArray := ⟨#[73, 66, 83, 82, 72, 65, 76, 70, 86, 67]⟩
def strR2 : ByteArray := ⟨#[66, 83, 82, 65, 86]⟩
def strWr : ByteArray := ⟨#[85, 74, 73, 82, 72, 65, 76, 67]⟩
theorem has_rd : ∀ f, f < 13 → hasB strRd (letO f) = rdB f := by decide +kernel
theorem has_r1 : ∀ f, f < 13 → hasB strR1 (letO f) = r1B f := by decide +kernel
theorem has_r2 : ∀ f, f < 13 → hasB strR2 (letO f) = r2B f := by decide +kernel
theorem has_wr : ∀ f, f < 13 → hasB strWr (letO f) = (rdB f && !decide (f = 9)) := by decide +kernel

theorem field_one (x : BitVec 32) (i : Int) : fieldB x i 1 = if gb x i then 1#32 else 0#32 := by
  apply gb_ext; intro k h0 h1
  rw [gb_field]
  by_cases h : k = 0
  · subst h
    have : (0 ≤ (0 : Int) ∧ (0 : Int) < 32 ∧ (0 : Int) < 1) := by omega
    simp only [this, and_self, decide_true, Bool.true_and, Int.add_zero]
    cases gb x i <;> rfl
  · have h2 : ¬ (0 ≤ k ∧ k < 32 ∧ k < 1) := by omega
    simp only [h2, decide_false, Bool.false_and]
    have c : k = 1 + (k - 1) := by omega
    cases gb x i
    · rw [if_neg (by simp), gb_zero]
    · rw [if_pos rfl]
      have hk : k.toNat = (k.toNat - 1) + 1 := by omega
      unfold gb
      rw [hk]
      simp
theorem U_ones (b : Bool) : U (if b then 1#32 else 0#32) = if b then 1 else 0 := by cases b <;> rfl
def sameB (a b m : BitVec 32) : Bool := a &&& m == b &&& m
theorem same_any (a b m : BitVec 32) (w : World) : Calls Tryd.prog 22 #[.int .u32 (U a), .int .u32 (U b), .int .u32 (U m)] w fun e w' => e = .returned (.bool (sameB a b m)) ∧ w' = w := by
  have HF := Lib.hid (fun (x : BitVec 32) (i : Int) (h0 : 0 ≤ i) (h1 : i ≤ 32) W => rfield_any x i 1 W (by omega) (by omega))
  go_enter Tryd.func22, Tryd.ntmps22
  go_wp2
  go_loopw [7] (fun i wr => ∃ j : Nat, j ≤ 32 ∧ i = .int .i64 j ∧ wr = w ∧ ∀ i : Nat, i < j → gb m i = true → gb a i = gb b i) (fun i _ => 32 - (intOf i).toNat)
  case atStart => exact ⟨0, by omega, rfl, rfl, fun i h => by omega⟩
  case round =>
    obtain ⟨j, hj, rfl, hw, hno⟩ := hrel
    replace hw := hw.symm
    subst hw
    have HNO := Lib.hid hno
    clear hno
    by_cases hlt : j < 32
    · have j1 : (j : Int) < 32 := by omega
      have HFM := Lib.hid (HF.out m j (by omega) (by omega) w)
      have HFA := Lib.hid (HF.out a j (by omega) (by omega) w)
      have HFB := Lib.hid (HF.out b j (by omega) (by omega) w)
      by_cases hm : gb m j = true
      · have em : U (fieldB m j 1) = 1 := by rw [field_one, hm]; rfl
        rw [em] at HFM
        clear em
        by_cases he : gb a j = gb b j
        · have eab : U (fieldB a j 1) = U (fieldB b j 1) := by rw [field_one, field_one, he]
          rw [eab] at HFA
          have HE := Lib.hid he
          clear eab he hm
          go_wp2_with (first
            | (go_at_call 26; (with_reducible refine HFM.out.mono ?_); rintro e w5 ⟨rfl, hq⟩; replace hq := hq.symm; subst hq)
            | (go_at_call 26; (with_reducible refine HFA.out.mono ?_); rintro e w5 ⟨rfl, hq⟩; replace hq := hq.symm; subst hq)
            | (go_at_call 26; (with_reducible refine HFB.out.mono ?_); rintro e w5 ⟨rfl, hq⟩; replace hq := hq.symm; subst hq))
          exact ⟨⟨j + 1, by omega, by go_num, trivial, fun i hi hi2 => by
            by_cases e : i = j
            · rw [e]; exact HE.out
            · exact HNO.out i (by omega) hi2⟩, by simp [intOf]; omega⟩
        · have eab : (U (fieldB a j 1) == U (fieldB b j 1)) = false := by
            rw [field_one, field_one, U_ones, U_ones]
            revert he
            cases gb a j <;> cases gb b j <;> simp
          have HS : Hid (sameB a b m = false) := Lib.hid (by
            unfold sameB
            rw [beq_eq_false_iff_ne]
            intro e
            have := congrArg (fun x => gb x j) e
            simp only [gb_and, hm, Bool.and_true] at this
            exact he this)
          clear he hm
          go_wp2_with (first
            | (go_at_call 26; (with_reducible refine HFM.out.mono ?_); rintro e w5 ⟨rfl, hq⟩; replace hq := hq.symm; subst hq)
            | (go_at_call 26; (with_reducible refine HFA.out.mono ?_); rintro e w5 ⟨rfl, hq⟩; replace hq := hq.symm; subst hq)
            | (go_at_call 26; (with_reducible refine HFB.out.mono ?_); rintro e w5 ⟨rfl, hq⟩; replace hq := hq.symm; subst hq))
          go_ret
          exact ⟨by rw [HS.out]; rfl, rfl⟩
      · have em : U (fieldB m j 1) = 0 := by rw [field_one, if_neg hm]; rfl
        rw [em] at HFM
        have HM := Lib.hid hm
        clear em hm
        go_wp2_with (go_at_call 26; (with_reducible refine HFM.out.mono ?_); rintro e w5 ⟨rfl, hq⟩; replace hq := hq.symm; subst hq)
        exact ⟨⟨j + 1, by omega, by go_num, trivial, fun i hi hi2 => by
          by_cases e : i = j
          · rw [e] at hi2; exact absurd hi2 HM.out
          · exact HNO.out i (by omega) hi2⟩, by simp [intOf]; omega⟩
    · have HS : Hid (sameB a b m = true) := Lib.hid (by
        unfold sameB
        rw [beq_iff_eq]
        apply gb_ext; intro i i0 i1
        rw [gb_and, gb_and]
        cases hm : gb m i
        · simp
        · have := HNO.out i.toNat (by omega)
          rw [show ((i.toNat : Nat) : Int) = i by omega] at this
          rw [this hm])
      go_wp2
      go_ret
      exact ⟨by rw [HS.out]; rfl, rfl⟩
theorem part_any (x : BitVec 32) (a n t : Int) (w : World) (h1 : 0 ≤ a ∧ a ≤ 1000) (h2 : 0 ≤ t ∧ t ≤ 1000) : Calls Tryd.prog 31 #[.int .u32 (U x), .int .i64 a, .int .i64 n, .int .i64 t] w fun e w' => e = .returned (.int .u32 (U (ptB x a n t))) ∧ w' = w := by
  have HF := Lib.hid (rfield_any x a n w (by omega) (by omega))
  have HP := rput_any 0#32 t n (fieldB x a n) w (by omega) (by omega)
  rw [show U 0#32 = 0 from rfl] at HP
  have HPP := Lib.hid HP
  clear HP
  go_enter Tryd.func31, Tryd.ntmps31
  go_wp2_with (first
    | (go_at_call 26; (with_reducible refine HF.out.mono ?_); rintro e w5 ⟨rfl, hq⟩; replace hq := hq.symm; subst hq)
    | (go_at_call 39; (with_reducible refine HPP.out.mono ?_); rintro e w5 ⟨rfl, hq⟩; replace hq := hq.symm; subst hq))
  go_ret
  exact ⟨rfl, rfl⟩
theorem small_any (n : Int) (w : World) : Calls Tryd.prog 29 #[.int .i64 n] w fun e w' => e = .returned (.bool (decide (0 ≤ n ∧ n < 32))) ∧ w' = w := by
  by_cases h1 : 0 ≤ n
  · by_cases h2 : n < 32
    · go_enter Tryd.func29, Tryd.ntmps29
      go_wp2
      go_ret
      exact ⟨by simp [h1, h2], rfl⟩
    · go_enter Tryd.func29, Tryd.ntmps29
      go_wp2
      go_ret
      exact ⟨by simp [h2], rfl⟩
  · go_enter Tryd.func29, Tryd.ntmps29
    go_wp2
    go_ret
    exact ⟨by simp; omega, rfl⟩
@[go_sem] theorem wrap_addU (x y : BitVec 32) : IntKind.u32.wrap (U x + U y) = U (x + y) := by rw [IntKind.wrap_u32, U_add]
theorem rmask_0 (w : World) : Calls Tryd.prog 23 #[.int .u8 85] w fun e w' => e = .returned (.int .u32 (U (mkO 0))) ∧ w' = w := by
  go_enter Tryd.func23, Tryd.ntmps23
  go_wp2
  go_ret
  exact ⟨rfl, rfl⟩
theorem rmask_1 (w : World) : Calls Tryd.prog 23 #[.int .u8 74] w fun e w' => e = .returned (.int .u32 (U (mkO 1))) ∧ w' = w := by
  go_enter Tryd.func23, Tryd.ntmps23
  go_wp2
  go_ret
  exact ⟨rfl, rfl⟩
theorem rmask_2 (w : World) : Calls Tryd.prog 23 #[.int .u8 73] w fun e w' => e = .returned (.int .u32 (U (mkO 2))) ∧ w' = w := by
  go_enter Tryd.func23, Tryd.ntmps23
  go_wp2
  go_ret
  exact ⟨rfl, rfl⟩
theorem rmask_3 (w : World) : Calls Tryd.prog 23 #[.int .u8 66] w fun e w' => e = .returned (.int .u32 (U (mkO 3))) ∧ w' = w := by
  go_enter Tryd.func23, Tryd.ntmps23
  go_wp2
  go_ret
  exact ⟨rfl, rfl⟩
theorem rmask_4 (w : World) : Calls Tryd.prog 23 #[.int .u8 83] w fun e w' => e = .returned (.int .u32 (U (mkO 4))) ∧ w' = w := by
  go_enter Tryd.func23, Tryd.ntmps23
  go_wp2
  go_ret
  exact ⟨rfl, rfl⟩
theorem rmask_5 (w : World) : Calls Tryd.prog 23 #[.int .u8 82] w fun e w' => e = .returned (.int .u32 (U (mkO 5))) ∧ w' = w := by
  go_enter Tryd.func23, Tryd.ntmps23
  go_wp2
  go_ret
  exact ⟨rfl, rfl⟩
theorem rmask_6 (w : World) : Calls Tryd.prog 23 #[.int .u8 72] w fun e w' => e = .returned (.int .u32 (U (mkO 6))) ∧ w' = w := by
  go_enter Tryd.func23, Tryd.ntmps23
  go_wp2
  go_ret
  exact ⟨rfl, rfl⟩
theorem rmask_7 (w : World) : Calls Tryd.prog 23 #[.int .u8 65] w fun e w' => e = .returned (.int .u32 (U (mkO 7))) ∧ w' = w := by
  go_enter Tryd.func23, Tryd.ntmps23
  go_wp2
  go_ret
  exact ⟨rfl, rfl⟩
theorem rmask_8 (w : World) : Calls Tryd.prog 23 #[.int .u8 76] w fun e w' => e = .returned (.int .u32 (U (mkO 8))) ∧ w' = w := by
  go_enter Tryd.func23, Tryd.ntmps23
  go_wp2
  go_ret
  exact ⟨rfl, rfl⟩
theorem rmask_9 (w : World) : Calls Tryd.prog 23 #[.int .u8 70] w fun e w' => e = .returned (.int .u32 (U (mkO 9))) ∧ w' = w := by
  go_enter Tryd.func23, Tryd.ntmps23
  go_wp2
  go_ret
  exact ⟨rfl, rfl⟩
theorem rmask_10 (w : World) : Calls Tryd.prog 23 #[.int .u8 69] w fun e w' => e = .returned (.int .u32 (U (mkO 10))) ∧ w' = w := by
  go_enter Tryd.func23, Tryd.ntmps23
  go_wp2
  go_ret
  exact ⟨rfl, rfl⟩
theorem rmask_11 (w : World) : Calls Tryd.prog 23 #[.int .u8 86] w fun e w' => e = .returned (.int .u32 (U (mkO 11))) ∧ w' = w := by
  go_enter Tryd.func23, Tryd.ntmps23
  go_wp2
  go_ret
  exact ⟨rfl, rfl⟩
theorem rmask_12 (w : World) : Calls Tryd.prog 23 #[.int .u8 67] w fun e w' => e = .returned (.int .u32 (U (mkO 12))) ∧ w' = w := by
  go_enter Tryd.func23, Tryd.ntmps23
  go_wp2
  go_ret
  exact ⟨rfl, rfl⟩
theorem rmask_any {f : Nat} (hf : f < 13) (w : World) : Calls Tryd.prog 23 #[.int .u8 (letO f)] w fun e w' => e = .returned (.int .u32 (U (mkO f))) ∧ w' = w := by
  have c : f = 0 ∨ f = 1 ∨ f = 2 ∨ f = 3 ∨ f = 4 ∨ f = 5 ∨ f = 6 ∨ f = 7 ∨ f = 8 ∨ f = 9 ∨ f = 10 ∨ f = 11 ∨ f = 12 := by omega
  rcases c with rfl | rfl | rfl | rfl | rfl | rfl | rfl | rfl | rfl | rfl | rfl | rfl | rfl
  · exact rmask_0 w
  · exact rmask_1 w
  · exact rmask_2 w
  · exact rmask_3 w
  · exact rmask_4 w
  · exact rmask_5 w
  · exact rmask_6 w
  · exact rmask_7 w
  · exact rmask_8 w
  · exact rmask_9 w
  · exact rmask_10 w
  · exact rmask_11 w
  · exact rmask_12 w
theorem rimmf_0 (x : BitVec 32) (w : World) : Calls Tryd.prog 24 #[.int .u32 (U x), .int .u8 85] w fun e w' => e = .returned (.int .u32 (U (rImm 0 x))) ∧ w' = w := by
  have H0 := Lib.hid (part_any x 12 20 12 w (by omega) (by omega))
  go_enter Tryd.func24, Tryd.ntmps24
  go_wp2_with (first
    | (go_at_call 31; (with_reducible refine H0.out.mono ?_); rintro e w5 ⟨rfl, hq⟩; replace hq := hq.symm; subst hq))
  go_ret
  exact ⟨rfl, rfl⟩
theorem rimmf_1 (x : BitVec 32) (w : World) : Calls Tryd.prog 24 #[.int .u32 (U x), .int .u8 74] w fun e w' => e = .returned (.int .u32 (U (rImm 1 x))) ∧ w' = w := by
  have H0 := Lib.hid (part_any x 31 1 20 w (by omega) (by omega))
  have H1 := Lib.hid (part_any x 12 8 12 w (by omega) (by omega))
  have H2 := Lib.hid (part_any x 20 1 11 w (by omega) (by omega))
  have H3 := Lib.hid (part_any x 21 10 1 w (by omega) (by omega))
  have HS := Lib.hid (fun v => rsign_any v 21 w)
  go_enter Tryd.func24, Tryd.ntmps24
  go_wp2_with (first
    | (go_at_call 31; (with_reducible refine H0.out.mono ?_); rintro e w5 ⟨rfl, hq⟩; replace hq := hq.symm; subst hq)
    | (go_at_call 31; (with_reducible refine H1.out.mono ?_); rintro e w5 ⟨rfl, hq⟩; replace hq := hq.symm; subst hq)
    | (go_at_call 31; (with_reducible refine H2.out.mono ?_); rintro e w5 ⟨rfl, hq⟩; replace hq := hq.symm; subst hq)
    | (go_at_call 31; (with_reducible refine H3.out.mono ?_); rintro e w5 ⟨rfl, hq⟩; replace hq := hq.symm; subst hq)
    | (go_at_call 36; (with_reducible refine (HS.out _).mono ?_); rintro e w5 ⟨rfl, hq⟩; replace hq := hq.symm; subst hq))
  go_ret
  exact ⟨rfl, rfl⟩
theorem rimmf_2 (x : BitVec 32) (w : World) : Calls Tryd.prog 24 #[.int .u32 (U x), .int .u8 73] w fun e w' => e = .returned (.int .u32 (U (rImm 2 x))) ∧ w' = w := by
  have H0 := Lib.hid (part_any x 20 12 0 w (by omega) (by omega))
  have HS := Lib.hid (fun v => rsign_any v 12 w)
  go_enter Tryd.func24, Tryd.ntmps24
  go_wp2_with (first
    | (go_at_call 31; (with_reducible refine H0.out.mono ?_); rintro e w5 ⟨rfl, hq⟩; replace hq := hq.symm; subst hq)
    | (go_at_call 36; (with_reducible refine (HS.out _).mono ?_); rintro e w5 ⟨rfl, hq⟩; replace hq := hq.symm; subst hq))
  go_ret
  exact ⟨rfl, rfl⟩
theorem rimmf_3 (x : BitVec 32) (w : World) : Calls Tryd.prog 24 #[.int .u32 (U x), .int .u8 66] w fun e w' => e = .returned (.int .u32 (U (rImm 3 x))) ∧ w' = w := by
  have H0 := Lib.hid (part_any x 31 1 12 w (by omega) (by omega))
  have H1 := Lib.hid (part_any x 7 1 11 w (by omega) (by omega))
  have H2 := Lib.hid (part_any x 25 6 5 w (by omega) (by omega))
  have H3 := Lib.hid (part_any x 8 4 1 w (by omega) (by omega))
  have HS := Lib.hid (fun v => rsign_any v 13 w)
  go_enter Tryd.func24, Tryd.ntmps24
  go_wp2_with (first
    | (go_at_call 31; (with_reducible refine H0.out.mono ?_); rintro e w5 ⟨rfl, hq⟩; replace hq := hq.symm; subst hq)
    | (go_at_call 31; (with_reducible refine H1.out.mono ?_); rintro e w5 ⟨rfl, hq⟩; replace hq := hq.symm; subst hq)
    | (go_at_call 31; (with_reducible refine H2.out.mono ?_); rintro e w5 ⟨rfl, hq⟩; replace hq := hq.symm; subst hq)
    | (go_at_call 31; (with_reducible refine H3.out.mono ?_); rintro e w5 ⟨rfl, hq⟩; replace hq := hq.symm; subst hq)
    | (go_at_call 36; (with_reducible refine (HS.out _).mono ?_); rintro e w5 ⟨rfl, hq⟩; replace hq := hq.symm; subst hq))
  go_ret
  exact ⟨rfl, rfl⟩
theorem rimmf_4 (x : BitVec 32) (w : World) : Calls Tryd.prog 24 #[.int .u32 (U x), .int .u8 83] w fun e w' => e = .returned (.int .u32 (U (rImm 4 x))) ∧ w' = w := by
  have H0 := Lib.hid (part_any x 25 7 5 w (by omega) (by omega))
  have H1 := Lib.hid (part_any x 7 5 0 w (by omega) (by omega))
  have HS := Lib.hid (fun v => rsign_any v 12 w)
  go_enter Tryd.func24, Tryd.ntmps24
  go_wp2_with (first
    | (go_at_call 31; (with_reducible refine H0.out.mono ?_); rintro e w5 ⟨rfl, hq⟩; replace hq := hq.symm; subst hq)
    | (go_at_call 31; (with_reducible refine H1.out.mono ?_); rintro e w5 ⟨rfl, hq⟩; replace hq := hq.symm; subst hq)
    | (go_at_call 36; (with_reducible refine (HS.out _).mono ?_); rintro e w5 ⟨rfl, hq⟩; replace hq := hq.symm; subst hq))
  go_ret
  exact ⟨rfl, rfl⟩
theorem rimmf_5 (x : BitVec 32) (w : World) : Calls Tryd.prog 24 #[.int .u32 (U x), .int .u8 82] w fun e w' => e = .returned (.int .u32 (U (rImm 5 x))) ∧ w' = w := by
  go_enter Tryd.func24, Tryd.ntmps24
  go_wp2
  go_ret
  exact ⟨rfl, rfl⟩
theorem rimmf_6 (x : BitVec 32) (w : World) : Calls Tryd.prog 24 #[.int .u32 (U x), .int .u8 72] w fun e w' => e = .returned (.int .u32 (U (rImm 6 x))) ∧ w' = w := by
  have H0 := Lib.hid (part_any x 20 5 0 w (by omega) (by omega))
  go_enter Tryd.func24, Tryd.ntmps24
  go_wp2_with (first
    | (go_at_call 31; (with_reducible refine H0.out.mono ?_); rintro e w5 ⟨rfl, hq⟩; replace hq := hq.symm; subst hq))
  go_ret
  exact ⟨rfl, rfl⟩
theorem rimmf_7 (x : BitVec 32) (w : World) : Calls Tryd.prog 24 #[.int .u32 (U x), .int .u8 65] w fun e w' => e = .returned (.int .u32 (U (rImm 7 x))) ∧ w' = w := by
  have H0 := Lib.hid (part_any x 25 2 0 w (by omega) (by omega))
  go_enter Tryd.func24, Tryd.ntmps24
  go_wp2_with (first
    | (go_at_call 31; (with_reducible refine H0.out.mono ?_); rintro e w5 ⟨rfl, hq⟩; replace hq := hq.symm; subst hq))
  go_ret
  exact ⟨rfl, rfl⟩
theorem rimmf_8 (x : BitVec 32) (w : World) : Calls Tryd.prog 24 #[.int .u32 (U x), .int .u8 76] w fun e w' => e = .returned (.int .u32 (U (rImm 8 x))) ∧ w' = w := by
  have H0 := Lib.hid (part_any x 25 2 0 w (by omega) (by omega))
  go_enter Tryd.func24, Tryd.ntmps24
  go_wp2_with (first
    | (go_at_call 31; (with_reducible refine H0.out.mono ?_); rintro e w5 ⟨rfl, hq⟩; replace hq := hq.symm; subst hq))
  go_ret
  exact ⟨rfl, rfl⟩
theorem rimmf_9 (x : BitVec 32) (w : World) : Calls Tryd.prog 24 #[.int .u32 (U x), .int .u8 70] w fun e w' => e = .returned (.int .u32 (U (rImm 9 x))) ∧ w' = w := by
  have H0 := Lib.hid (part_any x 20 12 0 w (by omega) (by omega))
  go_enter Tryd.func24, Tryd.ntmps24
  go_wp2_with (first
    | (go_at_call 31; (with_reducible refine H0.out.mono ?_); rintro e w5 ⟨rfl, hq⟩; replace hq := hq.symm; subst hq))
  go_ret
  exact ⟨rfl, rfl⟩
theorem rimmf_10 (x : BitVec 32) (w : World) : Calls Tryd.prog 24 #[.int .u32 (U x), .int .u8 69] w fun e w' => e = .returned (.int .u32 (U (rImm 10 x))) ∧ w' = w := by
  go_enter Tryd.func24, Tryd.ntmps24
  go_wp2
  go_ret
  exact ⟨rfl, rfl⟩
theorem rimmf_11 (x : BitVec 32) (w : World) : Calls Tryd.prog 24 #[.int .u32 (U x), .int .u8 86] w fun e w' => e = .returned (.int .u32 (U (rImm 11 x))) ∧ w' = w := by
  go_enter Tryd.func24, Tryd.ntmps24
  go_wp2
  go_ret
  exact ⟨rfl, rfl⟩
theorem rimmf_12 (x : BitVec 32) (w : World) : Calls Tryd.prog 24 #[.int .u32 (U x), .int .u8 67] w fun e w' => e = .returned (.int .u32 (U (rImm 12 x))) ∧ w' = w := by
  have H0 := Lib.hid (part_any x 20 12 0 w (by omega) (by omega))
  go_enter Tryd.func24, Tryd.ntmps24
  go_wp2_with (first
    | (go_at_call 31; (with_reducible refine H0.out.mono ?_); rintro e w5 ⟨rfl, hq⟩; replace hq := hq.symm; subst hq))
  go_ret
  exact ⟨rfl, rfl⟩
theorem rimm_any {f : Nat} (hf : f < 13) (x : BitVec 32) (w : World) : Calls Tryd.prog 24 #[.int .u32 (U x), .int .u8 (letO f)] w fun e w' => e = .returned (.int .u32 (U (rImm f x))) ∧ w' = w := by
  have c : f = 0 ∨ f = 1 ∨ f = 2 ∨ f = 3 ∨ f = 4 ∨ f = 5 ∨ f = 6 ∨ f = 7 ∨ f = 8 ∨ f = 9 ∨ f = 10 ∨ f = 11 ∨ f = 12 := by omega
  rcases c with rfl | rfl | rfl | rfl | rfl | rfl | rfl | rfl | rfl | rfl | rfl | rfl | rfl
  · exact rimmf_0 x w
  · exact rimmf_1 x w
  · exact rimmf_2 x w
  · exact rimmf_3 x w
  · exact rimmf_4 x w
  · exact rimmf_5 x w
  · exact rimmf_6 x w
  · exact rimmf_7 x w
  · exact rimmf_8 x w
  · exact rimmf_9 x w
  · exact rimmf_10 x w
  · exact rimmf_11 x w
  · exact rimmf_12 x w
theorem rnumf_0 (x : BitVec 32) (w : World) : Calls Tryd.prog 30 #[.int .u32 (U x), .int .u8 85] w fun e w' => e = .returned (.int .u32 (U (rNum 0 x))) ∧ w' = w := by
  have H0 := Lib.hid (part_any x 12 20 12 w (by omega) (by omega))
  go_enter Tryd.func30, Tryd.ntmps30
  go_wp2_with (first
    | (go_at_call 31; (with_reducible refine H0.out.mono ?_); rintro e w5 ⟨rfl, hq⟩; replace hq := hq.symm; subst hq))
  go_ret
  exact ⟨rfl, rfl⟩
theorem rnumf_1 (x : BitVec 32) (w : World) : Calls Tryd.prog 30 #[.int .u32 (U x), .int .u8 74] w fun e w' => e = .returned (.int .u32 (U (rNum 1 x))) ∧ w' = w := by
  have H0 := Lib.hid (part_any x 20 1 31 w (by omega) (by omega))
  have H1 := Lib.hid (part_any x 12 8 12 w (by omega) (by omega))
  have H2 := Lib.hid (part_any x 11 1 20 w (by omega) (by omega))
  have H3 := Lib.hid (part_any x 1 10 21 w (by omega) (by omega))
  go_enter Tryd.func30, Tryd.ntmps30
  go_wp2_with (first
    | (go_at_call 31; (with_reducible refine H0.out.mono ?_); rintro e w5 ⟨rfl, hq⟩; replace hq := hq.symm; subst hq)
    | (go_at_call 31; (with_reducible refine H1.out.mono ?_); rintro e w5 ⟨rfl, hq⟩; replace hq := hq.symm; subst hq)
    | (go_at_call 31; (with_reducible refine H2.out.mono ?_); rintro e w5 ⟨rfl, hq⟩; replace hq := hq.symm; subst hq)
    | (go_at_call 31; (with_reducible refine H3.out.mono ?_); rintro e w5 ⟨rfl, hq⟩; replace hq := hq.symm; subst hq))
  go_ret
  exact ⟨rfl, rfl⟩
theorem rnumf_2 (x : BitVec 32) (w : World) : Calls Tryd.prog 30 #[.int .u32 (U x), .int .u8 73] w fun e w' => e = .returned (.int .u32 (U (rNum 2 x))) ∧ w' = w := by
  have H0 := Lib.hid (part_any x 0 12 20 w (by omega) (by omega))
  go_enter Tryd.func30, Tryd.ntmps30
  go_wp2_with (first
    | (go_at_call 31; (with_reducible refine H0.out.mono ?_); rintro e w5 ⟨rfl, hq⟩; replace hq := hq.symm; subst hq))
  go_ret
  exact ⟨rfl, rfl⟩
theorem rnumf_3 (x : BitVec 32) (w : World) : Calls Tryd.prog 30 #[.int .u32 (U x), .int .u8 66] w fun e w' => e = .returned (.int .u32 (U (rNum 3 x))) ∧ w' = w := by
  have H0 := Lib.hid (part_any x 12 1 31 w (by omega) (by omega))
  have H1 := Lib.hid (part_any x 11 1 7 w (by omega) (by omega))
  have H2 := Lib.hid (part_any x 5 6 25 w (by omega) (by omega))
  have H3 := Lib.hid (part_any x 1 4 8 w (by omega) (by omega))
  go_enter Tryd.func30, Tryd.ntmps30
  go_wp2_with (first
    | (go_at_call 31; (with_reducible refine H0.out.mono ?_); rintro e w5 ⟨rfl, hq⟩; replace hq := hq.symm; subst hq)
    | (go_at_call 31; (with_reducible refine H1.out.mono ?_); rintro e w5 ⟨rfl, hq⟩; replace hq := hq.symm; subst hq)
    | (go_at_call 31; (with_reducible refine H2.out.mono ?_); rintro e w5 ⟨rfl, hq⟩; replace hq := hq.symm; subst hq)
    | (go_at_call 31; (with_reducible refine H3.out.mono ?_); rintro e w5 ⟨rfl, hq⟩; replace hq := hq.symm; subst hq))
  go_ret
  exact ⟨rfl, rfl⟩
theorem rnumf_4 (x : BitVec 32) (w : World) : Calls Tryd.prog 30 #[.int .u32 (U x), .int .u8 83] w fun e w' => e = .returned (.int .u32 (U (rNum 4 x))) ∧ w' = w := by
  have H0 := Lib.hid (part_any x 5 7 25 w (by omega) (by omega))
  have H1 := Lib.hid (part_any x 0 5 7 w (by omega) (by omega))
  go_enter Tryd.func30, Tryd.ntmps30
  go_wp2_with (first
    | (go_at_call 31; (with_reducible refine H0.out.mono ?_); rintro e w5 ⟨rfl, hq⟩; replace hq := hq.symm; subst hq)
    | (go_at_call 31; (with_reducible refine H1.out.mono ?_); rintro e w5 ⟨rfl, hq⟩; replace hq := hq.symm; subst hq))
  go_ret
  exact ⟨rfl, rfl⟩
theorem rnumf_5 (x : BitVec 32) (w : World) : Calls Tryd.prog 30 #[.int .u32 (U x), .int .u8 82] w fun e w' => e = .returned (.int .u32 (U (rNum 5 x))) ∧ w' = w := by
  go_enter Tryd.func30, Tryd.ntmps30
  go_wp2
  go_ret
  exact ⟨rfl, rfl⟩
theorem rnumf_6 (x : BitVec 32) (w : World) : Calls Tryd.prog 30 #[.int .u32 (U x), .int .u8 72] w fun e w' => e = .returned (.int .u32 (U (rNum 6 x))) ∧ w' = w := by
  have H0 := Lib.hid (part_any x 0 5 20 w (by omega) (by omega))
  go_enter Tryd.func30, Tryd.ntmps30
  go_wp2_with (first
    | (go_at_call 31; (with_reducible refine H0.out.mono ?_); rintro e w5 ⟨rfl, hq⟩; replace hq := hq.symm; subst hq))
  go_ret
  exact ⟨rfl, rfl⟩
theorem rnumf_7 (x : BitVec 32) (w : World) : Calls Tryd.prog 30 #[.int .u32 (U x), .int .u8 65] w fun e w' => e = .returned (.int .u32 (U (rNum 7 x))) ∧ w' = w := by
  have H0 := Lib.hid (part_any x 0 2 25 w (by omega) (by omega))
  go_enter Tryd.func30, Tryd.ntmps30
  go_wp2_with (first
    | (go_at_call 31; (with_reducible refine H0.out.mono ?_); rintro e w5 ⟨rfl, hq⟩; replace hq := hq.symm; subst hq))
  go_ret
  exact ⟨rfl, rfl⟩
theorem rnumf_8 (x : BitVec 32) (w : World) : Calls Tryd.prog 30 #[.int .u32 (U x), .int .u8 76] w fun e w' => e = .returned (.int .u32 (U (rNum 8 x))) ∧ w' = w := by
  have H0 := Lib.hid (part_any x 0 2 25 w (by omega) (by omega))
  go_enter Tryd.func30, Tryd.ntmps30
  go_wp2_with (first
    | (go_at_call 31; (with_reducible refine H0.out.mono ?_); rintro e w5 ⟨rfl, hq⟩; replace hq := hq.symm; subst hq))
  go_ret
  exact ⟨rfl, rfl⟩
theorem rnumf_9 (x : BitVec 32) (w : World) : Calls Tryd.prog 30 #[.int .u32 (U x), .int .u8 70] w fun e w' => e = .returned (.int .u32 (U (rNum 9 x))) ∧ w' = w := by
  have H0 := Lib.hid (part_any x 0 12 20 w (by omega) (by omega))
  go_enter Tryd.func30, Tryd.ntmps30
  go_wp2_with (first
    | (go_at_call 31; (with_reducible refine H0.out.mono ?_); rintro e w5 ⟨rfl, hq⟩; replace hq := hq.symm; subst hq))
  go_ret
  exact ⟨rfl, rfl⟩
theorem rnumf_10 (x : BitVec 32) (w : World) : Calls Tryd.prog 30 #[.int .u32 (U x), .int .u8 69] w fun e w' => e = .returned (.int .u32 (U (rNum 10 x))) ∧ w' = w := by
  go_enter Tryd.func30, Tryd.ntmps30
  go_wp2
  go_ret
  exact ⟨rfl, rfl⟩
theorem rnumf_11 (x : BitVec 32) (w : World) : Calls Tryd.prog 30 #[.int .u32 (U x), .int .u8 86] w fun e w' => e = .returned (.int .u32 (U (rNum 11 x))) ∧ w' = w := by
  go_enter Tryd.func30, Tryd.ntmps30
  go_wp2
  go_ret
  exact ⟨rfl, rfl⟩
theorem rnumf_12 (x : BitVec 32) (w : World) : Calls Tryd.prog 30 #[.int .u32 (U x), .int .u8 67] w fun e w' => e = .returned (.int .u32 (U (rNum 12 x))) ∧ w' = w := by
  have H0 := Lib.hid (part_any x 0 12 20 w (by omega) (by omega))
  go_enter Tryd.func30, Tryd.ntmps30
  go_wp2_with (first
    | (go_at_call 31; (with_reducible refine H0.out.mono ?_); rintro e w5 ⟨rfl, hq⟩; replace hq := hq.symm; subst hq))
  go_ret
  exact ⟨rfl, rfl⟩
theorem rnum_any {f : Nat} (hf : f < 13) (x : BitVec 32) (w : World) : Calls Tryd.prog 30 #[.int .u32 (U x), .int .u8 (letO f)] w fun e w' => e = .returned (.int .u32 (U (rNum f x))) ∧ w' = w := by
  have c : f = 0 ∨ f = 1 ∨ f = 2 ∨ f = 3 ∨ f = 4 ∨ f = 5 ∨ f = 6 ∨ f = 7 ∨ f = 8 ∨ f = 9 ∨ f = 10 ∨ f = 11 ∨ f = 12 := by omega
  rcases c with rfl | rfl | rfl | rfl | rfl | rfl | rfl | rfl | rfl | rfl | rfl | rfl | rfl
  · exact rnumf_0 x w
  · exact rnumf_1 x w
  · exact rnumf_2 x w
  · exact rnumf_3 x w
  · exact rnumf_4 x w
  · exact rnumf_5 x w
  · exact rnumf_6 x w
  · exact rnumf_7 x w
  · exact rnumf_8 x w
  · exact rnumf_9 x w
  · exact rnumf_10 x w
  · exact rnumf_11 x w
  · exact rnumf_12 x w
end Go.Proofs.YtdloaeifiohefaaDoor
