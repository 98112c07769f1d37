/- The small functions of package csr, whatever they are given. -/
import Derived.Test.YtedpeojgpnnddaaCsrF
import Derived.Test.YtedpeojgpnnddaaSt
import Derived.Laws.BitsAllLaws
import Derived.Deep.DeepCutAuto
namespace Go.Proofs.Ytedpeojgpnnddaa.Bm
open Go Go.RowKit
theorem mask_all (o v : BitVec 32) : maskB o v 4294967295#32 = v := by
  apply gb_ext; intro i h0 h1
  rw [gb_mask _ _ _ _ h0 h1]
  have d : gb 4294967295#32 i = true := by
    have e : (4294967295#32) = ~~~0#32 := rfl
    rw [e, gb_not, gb_zero]; simp; omega
  rw [d]; rfl
/-- Bits 11 and 12 of a word. -/
theorem two_bits13 (v : BitVec 32) : U (v &&& 6144#32) = U v / 2048 % 4 * 2048 := by
  have e : v &&& 6144#32 = ((v >>> 11) &&& 3#32) <<< 11 := by
    have hd : ∀ i : Fin 32, (6144#32).getLsbD i = (decide (11 ≤ i.val) && (3#32).getLsbD (i.val - 11)) := by decide
    apply BitVec.eq_of_getLsbD_eq
    intro i hi
    have := hd ⟨i, hi⟩
    simp only at this
    rw [BitVec.getLsbD_and, this, BitVec.getLsbD_shiftLeft, BitVec.getLsbD_and, BitVec.getLsbD_ushiftRight]
    by_cases c : 11 ≤ i
    · rw [show 11 + (i - 11) = i by omega]; simp [c, hi]
    · have c2 : i < 11 := by omega
      simp [c, c2]
  rw [e]
  unfold U
  rw [BitVec.toNat_shiftLeft, BitVec.toNat_and, BitVec.toNat_ushiftRight, show (3#32).toNat = 2 ^ 2 - 1 from rfl, Nat.and_two_pow_sub_one_eq_mod, Nat.shiftRight_eq_div_pow, Nat.shiftLeft_eq]
  omega
theorem st_clear (v : BitVec 32) (h : U v / 2048 % 4 = 2) : v &&& ~~~6144#32 = v - 4096#32 := by
  have e : v &&& 6144#32 = 4096#32 := U_inj (by rw [two_bits13, h]; rfl)
  have s : (v &&& ~~~6144#32) + (v &&& 6144#32) = v := by
    rw [BitVec.add_eq_or_of_and_eq_zero]
    · apply gb_ext; intro j j0 j1
      rw [gb_or, gb_and, gb_and, gb_not]
      have d : decide (0 ≤ j ∧ j < 32) = true := by simp; omega
      rw [d]
      cases gb 6144#32 j <;> simp
    · apply gb_ext; intro j j0 j1
      rw [gb_and, gb_and, gb_and, gb_not, gb_zero]
      cases gb 6144#32 j <;> simp
  rw [e] at s
  have h2 : (v &&& ~~~6144#32) + 4096#32 - 4096#32 = v - 4096#32 := congrArg (· - 4096#32) s
  rw [← h2, BitVec.add_sub_cancel]
theorem low_half (h l : BitVec 32) : bits .and .u64 (U h * 4294967296 + U l) 4294967295 = U l := by
  have h0 := U_nonneg h
  have h1 := U_lt h
  have l0 := U_nonneg l
  have l1 := U_lt l
  rw [u64_and _ _ (by omega) (by omega) (by omega) (by omega)]
  rw [show (4294967295 : Int).toNat = 2 ^ 32 - 1 from rfl, Nat.and_two_pow_sub_one_eq_mod]
  unfold U at *
  omega
theorem high_half (h l : BitVec 32) : bits .andNot .u64 (U h * 4294967296 + U l) 4294967295 = U h * 4294967296 := by
  have h0 := U_nonneg h
  have h1 := U_lt h
  have l0 := U_nonneg l
  have l1 := U_lt l
  rw [u64_andNot _ _ (by omega) (by omega) (by omega) (by omega)]
  have e : (U h * 4294967296 + U l).toNat = 2 ^ 32 * h.toNat + l.toNat := by unfold U; omega
  rw [e, show 18446744073709551615 - (4294967295 : Int).toNat = 2 ^ 32 * (2 ^ 32 - 1) + 0 from rfl]
  have k : (2 ^ 32 * h.toNat + l.toNat) &&& (2 ^ 32 * (2 ^ 32 - 1) + 0) = 2 ^ 32 * h.toNat + 0 := by
    apply Nat.eq_of_testBit_eq
    intro i
    rw [Nat.testBit_and, Nat.testBit_two_pow_mul_add _ l.isLt, Nat.testBit_two_pow_mul_add _ (by decide), Nat.testBit_two_pow_mul_add _ (by decide)]
    by_cases c : i < 32
    · simp [c]
    · simp only [c, if_false, Nat.testBit_two_pow_sub_one]
      by_cases d : i - 32 < 32
      · simp [d]
      · have t : h.toNat.testBit (i - 32) = false := Nat.testBit_lt_two_pow (Nat.lt_of_lt_of_le h.isLt (Nat.pow_le_pow_right (by decide) (by omega)))
        rw [t]; rfl
  rw [k]
  unfold U
  omega
theorem both_halves (h l : BitVec 32) : bits .or .u64 (U h * 4294967296) (U l) = U h * 4294967296 + U l := by
  have h0 := U_nonneg h
  have h1 := U_lt h
  have l0 := U_nonneg l
  have l1 := U_lt l
  rw [u64_or _ _ (by omega) (by omega) (by omega) (by omega)]
  unfold U
  rw [show ((h.toNat : Int) * 4294967296).toNat = 2 ^ 32 * h.toNat by omega, Int.toNat_natCast, ← Nat.two_pow_add_eq_or_of_lt l.isLt]
  omega
theorem halves_both (h l : BitVec 32) : bits .or .u64 (U l) (U h * 4294967296) = U h * 4294967296 + U l := by
  have h0 := U_nonneg h
  have h1 := U_lt h
  have l0 := U_nonneg l
  have l1 := U_lt l
  rw [u64_or _ _ (by omega) (by omega) (by omega) (by omega)]
  unfold U
  rw [show ((h.toNat : Int) * 4294967296).toNat = 2 ^ 32 * h.toNat by omega, Int.toNat_natCast, Nat.or_comm, ← Nat.two_pow_add_eq_or_of_lt l.isLt]
  omega
/-- What of a word is written by a number. -/
def fitM (n : Int) (v : BitVec 32) : BitVec 32 := if n = 768 then stV v else if n = 261 ∨ n = 773 then v &&& 4294967293#32 else if n = 321 ∨ n = 833 then v &&& 4294967292#32 else v
/-- Which bits of its word a number shows. -/
def shM (f : FileM) (n : Int) : BitVec 32 := if n = 256 then 786722#32 else if n = 260 ∨ n = 324 then f.ml else 4294967295#32
/-- Which a write by it can change. -/
def opM (f : FileM) (n : Int) : BitVec 32 := if n = 768 then 924074#32 else if n = 770 then 46079#32 else if n = 771 then 546#32 else if n = 772 then 2730#32 else if n = 836 then 546#32 else if n = 324 then f.ml &&& 2#32 else shM f n
end Go.Proofs.Ytedpeojgpnnddaa.Bm
namespace Go.Proofs.Ytedpeojgpnnddaa
open Go.RowKit Bm
theorem q13fl_size : (Try.prog.info? 29).map (·.size) = some 17 := by kernel_rfl

theorem q13replace_any (o m v : BitVec 32) (w : World) : Calls Try.prog 25 #[.int .u32 (U o), .int .u32 (U m), .int .u32 (U v)] w fun e w' => e = .returned (.int .u32 (U (maskB o v m))) ∧ w' = w := by
  go_enter Try.func25, Try.ntmps25
  go_wp2
  go_ret
  exact ⟨rfl, rfl⟩

theorem q13lowest_any (n : Int) (w : World) : Calls Try.prog 19 #[.int .i64 n] w fun e w' => e = .returned (.int .i64 (bits .and .i64 (n / 256) 3)) ∧ w' = w := by
  go_enter Try.func19, Try.ntmps19
  go_wp2
  go_ret
  exact ⟨rfl, rfl⟩

theorem q13fixed_any (n : Int) (w : World) : Calls Try.prog 24 #[.int .i64 n] w fun e w' => e = .returned (.bool (bits .and .i64 (n / 1024) 3 == 3)) ∧ w' = w := by
  go_enter Try.func24, Try.ntmps24
  go_wp2
  go_ret
  exact ⟨rfl, rfl⟩

theorem q13word_256 (g : Nat) (w : World) : Calls Try.prog 20 #[.pointer (some ⟨g, 0, none⟩), .int .i64 256] w fun e w' => e = .returned (.pointer (some ⟨g, 0, none⟩)) ∧ w' = w := by
  go_enter Try.func20, Try.ntmps20
  go_wp2
  go_ret
  exact ⟨rfl, rfl⟩

theorem q13word_768 (g : Nat) (w : World) : Calls Try.prog 20 #[.pointer (some ⟨g, 0, none⟩), .int .i64 768] w fun e w' => e = .returned (.pointer (some ⟨g, 0, none⟩)) ∧ w' = w := by
  go_enter Try.func20, Try.ntmps20
  go_wp2
  go_ret
  exact ⟨rfl, rfl⟩

theorem q13word_770 (g : Nat) (w : World) : Calls Try.prog 20 #[.pointer (some ⟨g, 0, none⟩), .int .i64 770] w fun e w' => e = .returned (.pointer (some ⟨g, 1, none⟩)) ∧ w' = w := by
  go_enter Try.func20, Try.ntmps20
  go_wp2
  go_ret
  exact ⟨rfl, rfl⟩

theorem q13word_771 (g : Nat) (w : World) : Calls Try.prog 20 #[.pointer (some ⟨g, 0, none⟩), .int .i64 771] w fun e w' => e = .returned (.pointer (some ⟨g, 2, none⟩)) ∧ w' = w := by
  go_enter Try.func20, Try.ntmps20
  go_wp2
  go_ret
  exact ⟨rfl, rfl⟩

theorem q13word_260 (g : Nat) (w : World) : Calls Try.prog 20 #[.pointer (some ⟨g, 0, none⟩), .int .i64 260] w fun e w' => e = .returned (.pointer (some ⟨g, 3, none⟩)) ∧ w' = w := by
  go_enter Try.func20, Try.ntmps20
  go_wp2
  go_ret
  exact ⟨rfl, rfl⟩

theorem q13word_772 (g : Nat) (w : World) : Calls Try.prog 20 #[.pointer (some ⟨g, 0, none⟩), .int .i64 772] w fun e w' => e = .returned (.pointer (some ⟨g, 3, none⟩)) ∧ w' = w := by
  go_enter Try.func20, Try.ntmps20
  go_wp2
  go_ret
  exact ⟨rfl, rfl⟩

theorem q13word_324 (g : Nat) (w : World) : Calls Try.prog 20 #[.pointer (some ⟨g, 0, none⟩), .int .i64 324] w fun e w' => e = .returned (.pointer (some ⟨g, 4, none⟩)) ∧ w' = w := by
  go_enter Try.func20, Try.ntmps20
  go_wp2
  go_ret
  exact ⟨rfl, rfl⟩

theorem q13word_836 (g : Nat) (w : World) : Calls Try.prog 20 #[.pointer (some ⟨g, 0, none⟩), .int .i64 836] w fun e w' => e = .returned (.pointer (some ⟨g, 4, none⟩)) ∧ w' = w := by
  go_enter Try.func20, Try.ntmps20
  go_wp2
  go_ret
  exact ⟨rfl, rfl⟩

theorem q13word_261 (g : Nat) (w : World) : Calls Try.prog 20 #[.pointer (some ⟨g, 0, none⟩), .int .i64 261] w fun e w' => e = .returned (.pointer (some ⟨g, 10, none⟩)) ∧ w' = w := by
  go_enter Try.func20, Try.ntmps20
  go_wp2
  go_ret
  exact ⟨rfl, rfl⟩

theorem q13word_320 (g : Nat) (w : World) : Calls Try.prog 20 #[.pointer (some ⟨g, 0, none⟩), .int .i64 320] w fun e w' => e = .returned (.pointer (some ⟨g, 11, none⟩)) ∧ w' = w := by
  go_enter Try.func20, Try.ntmps20
  go_wp2
  go_ret
  exact ⟨rfl, rfl⟩

theorem q13word_321 (g : Nat) (w : World) : Calls Try.prog 20 #[.pointer (some ⟨g, 0, none⟩), .int .i64 321] w fun e w' => e = .returned (.pointer (some ⟨g, 12, none⟩)) ∧ w' = w := by
  go_enter Try.func20, Try.ntmps20
  go_wp2
  go_ret
  exact ⟨rfl, rfl⟩

theorem q13word_322 (g : Nat) (w : World) : Calls Try.prog 20 #[.pointer (some ⟨g, 0, none⟩), .int .i64 322] w fun e w' => e = .returned (.pointer (some ⟨g, 13, none⟩)) ∧ w' = w := by
  go_enter Try.func20, Try.ntmps20
  go_wp2
  go_ret
  exact ⟨rfl, rfl⟩

theorem q13word_323 (g : Nat) (w : World) : Calls Try.prog 20 #[.pointer (some ⟨g, 0, none⟩), .int .i64 323] w fun e w' => e = .returned (.pointer (some ⟨g, 14, none⟩)) ∧ w' = w := by
  go_enter Try.func20, Try.ntmps20
  go_wp2
  go_ret
  exact ⟨rfl, rfl⟩

theorem q13word_384 (g : Nat) (w : World) : Calls Try.prog 20 #[.pointer (some ⟨g, 0, none⟩), .int .i64 384] w fun e w' => e = .returned (.pointer (some ⟨g, 15, none⟩)) ∧ w' = w := by
  go_enter Try.func20, Try.ntmps20
  go_wp2
  go_ret
  exact ⟨rfl, rfl⟩

theorem q13word_773 (g : Nat) (w : World) : Calls Try.prog 20 #[.pointer (some ⟨g, 0, none⟩), .int .i64 773] w fun e w' => e = .returned (.pointer (some ⟨g, 5, none⟩)) ∧ w' = w := by
  go_enter Try.func20, Try.ntmps20
  go_wp2
  go_ret
  exact ⟨rfl, rfl⟩

theorem q13word_832 (g : Nat) (w : World) : Calls Try.prog 20 #[.pointer (some ⟨g, 0, none⟩), .int .i64 832] w fun e w' => e = .returned (.pointer (some ⟨g, 6, none⟩)) ∧ w' = w := by
  go_enter Try.func20, Try.ntmps20
  go_wp2
  go_ret
  exact ⟨rfl, rfl⟩

theorem q13word_833 (g : Nat) (w : World) : Calls Try.prog 20 #[.pointer (some ⟨g, 0, none⟩), .int .i64 833] w fun e w' => e = .returned (.pointer (some ⟨g, 7, none⟩)) ∧ w' = w := by
  go_enter Try.func20, Try.ntmps20
  go_wp2
  go_ret
  exact ⟨rfl, rfl⟩

theorem q13word_834 (g : Nat) (w : World) : Calls Try.prog 20 #[.pointer (some ⟨g, 0, none⟩), .int .i64 834] w fun e w' => e = .returned (.pointer (some ⟨g, 8, none⟩)) ∧ w' = w := by
  go_enter Try.func20, Try.ntmps20
  go_wp2
  go_ret
  exact ⟨rfl, rfl⟩

theorem q13word_835 (g : Nat) (w : World) : Calls Try.prog 20 #[.pointer (some ⟨g, 0, none⟩), .int .i64 835] w fun e w' => e = .returned (.pointer (some ⟨g, 9, none⟩)) ∧ w' = w := by
  go_enter Try.func20, Try.ntmps20
  go_wp2
  go_ret
  exact ⟨rfl, rfl⟩

theorem q13word_no (n : Int) (g : Nat) (w : World) (h : ¬ (n = 256 ∨ n = 768 ∨ n = 770 ∨ n = 771 ∨ n = 260 ∨ n = 772 ∨ n = 324 ∨ n = 836 ∨ n = 261 ∨ n = 320 ∨ n = 321 ∨ n = 322 ∨ n = 323 ∨ n = 384 ∨ n = 773 ∨ n = 832 ∨ n = 833 ∨ n = 834 ∨ n = 835)) : Calls Try.prog 20 #[.pointer (some ⟨g, 0, none⟩), .int .i64 n] w fun e w' => e = .returned (.pointer none) ∧ w' = w := by
  simp only [not_or] at h
  obtain ⟨a256, a768, a770, a771, a260, a772, a324, a836, a261, a320, a321, a322, a323, a384, a773, a832, a833, a834, a835⟩ := h
  go_enter Try.func20, Try.ntmps20
  go_wp2
  go_ret
  exact ⟨rfl, rfl⟩

theorem q13fit_st (v : BitVec 32) (w : World) : Calls Try.prog 27 #[.int .i64 768, .int .u32 (U v)] w fun e w' => e = .returned (.int .u32 (U (stV v))) ∧ w' = w := by
  have h1 : bits .and .u32 (U v) 6144 = U (v &&& 6144#32) := U_and v 6144#32
  have h2 : bits .andNot .u32 (U v) 6144 = U (v &&& ~~~6144#32) := U_andNot v 6144#32
  by_cases c : U v / 2048 % 4 = 2
  · have c2 : (U (v &&& 6144#32) == 4096) = true := by rw [two_bits13, c]; rfl
    have HE : Hid (stV v = v &&& ~~~6144#32) := Lib.hid (by unfold stV; rw [if_pos c, st_clear v c])
    clear c
    go_enter Try.func27, Try.ntmps27
    go_wp2
    go_ret
    exact ⟨by rw [HE.out]; rfl, rfl⟩
  · have c2 : (U (v &&& 6144#32) == 4096) = false := by rw [two_bits13]; simp; omega
    have HE : Hid (stV v = v) := Lib.hid (by unfold stV; rw [if_neg c])
    clear c
    go_enter Try.func27, Try.ntmps27
    go_wp2
    go_ret
    exact ⟨by rw [HE.out]; rfl, rfl⟩

theorem q13fit_261 (v : BitVec 32) (w : World) : Calls Try.prog 27 #[.int .i64 261, .int .u32 (U v)] w fun e w' => e = .returned (.int .u32 (U (v &&& 4294967293#32))) ∧ w' = w := by
  have h2 : bits .andNot .u32 (U v) 2 = U (v &&& 4294967293#32) := U_andNot v 2#32
  go_enter Try.func27, Try.ntmps27
  go_wp2
  go_ret
  exact ⟨rfl, rfl⟩

theorem q13fit_773 (v : BitVec 32) (w : World) : Calls Try.prog 27 #[.int .i64 773, .int .u32 (U v)] w fun e w' => e = .returned (.int .u32 (U (v &&& 4294967293#32))) ∧ w' = w := by
  have h2 : bits .andNot .u32 (U v) 2 = U (v &&& 4294967293#32) := U_andNot v 2#32
  go_enter Try.func27, Try.ntmps27
  go_wp2
  go_ret
  exact ⟨rfl, rfl⟩

theorem q13fit_321 (v : BitVec 32) (w : World) : Calls Try.prog 27 #[.int .i64 321, .int .u32 (U v)] w fun e w' => e = .returned (.int .u32 (U (v &&& 4294967292#32))) ∧ w' = w := by
  have h2 : bits .andNot .u32 (U v) 3 = U (v &&& 4294967292#32) := U_andNot v 3#32
  go_enter Try.func27, Try.ntmps27
  go_wp2
  go_ret
  exact ⟨rfl, rfl⟩

theorem q13fit_833 (v : BitVec 32) (w : World) : Calls Try.prog 27 #[.int .i64 833, .int .u32 (U v)] w fun e w' => e = .returned (.int .u32 (U (v &&& 4294967292#32))) ∧ w' = w := by
  have h2 : bits .andNot .u32 (U v) 3 = U (v &&& 4294967292#32) := U_andNot v 3#32
  go_enter Try.func27, Try.ntmps27
  go_wp2
  go_ret
  exact ⟨rfl, rfl⟩

theorem q13fit_no (n : Int) (v : BitVec 32) (w : World) (h : ¬ (n = 768 ∨ n = 261 ∨ n = 773 ∨ n = 321 ∨ n = 833)) : Calls Try.prog 27 #[.int .i64 n, .int .u32 (U v)] w fun e w' => e = .returned (.int .u32 (U v)) ∧ w' = w := by
  simp only [not_or] at h
  obtain ⟨a768, a261, a773, a321, a833⟩ := h
  go_enter Try.func27, Try.ntmps27
  go_wp2
  go_ret
  exact ⟨rfl, rfl⟩

theorem q13fit_any (n : Int) (v : BitVec 32) (w : World) : Calls Try.prog 27 #[.int .i64 n, .int .u32 (U v)] w fun e w' => e = .returned (.int .u32 (U (fitM n v))) ∧ w' = w := by
  by_cases c : n = 768 ∨ n = 261 ∨ n = 773 ∨ n = 321 ∨ n = 833
  · rcases c with rfl | rfl | rfl | rfl | rfl
    · exact q13fit_st v w
    · exact q13fit_261 v w
    · exact q13fit_773 v w
    · exact q13fit_321 v w
    · exact q13fit_833 v w
  · have e : fitM n v = v := by
      simp only [not_or] at c
      obtain ⟨a, b, c, d, e⟩ := c
      simp [fitM, a, b, c, d, e]
    rw [e]
    exact q13fit_no n v w c

theorem q13shown_256 (f : FileM) (w : World) : Calls Try.prog 21 #[.agg (flC f).toArray, .int .i64 256] w fun e w' => e = .returned (.int .u32 (U (shM f 256))) ∧ Below w.heap.size w w' := by
  have e : U (shM f 256) = 786722 := rfl
  rw [e]
  clear e
  go_enter Try.func21, Try.ntmps21
  go_upto_region 1 with (fail)
  obtain ⟨W1, hW1⟩ : ∃ W, W = w.alloc (.cells (flC f).toArray 29) := ⟨_, rfl⟩
  have hB := (Below.refl w.heap.size w).alloc (Nat.le_refl _) (.cells (flC f).toArray 29)
  have hA : At W1 w.heap.size 29 (flC f) := by rw [hW1]; exact At.news w 29 (flC f)
  rw [← hW1] at hB
  try rw [← hW1]
  have HB := Lib.hid hB
  have HA := Lib.hid hA
  clear hW1 hB hA
  go_wp2
  go_ret
  exact ⟨rfl, HB.out⟩

theorem q13shown_260 (f : FileM) (w : World) : Calls Try.prog 21 #[.agg (flC f).toArray, .int .i64 260] w fun e w' => e = .returned (.int .u32 (U (shM f 260))) ∧ Below w.heap.size w w' := by
  have e : U (shM f 260) = U f.ml := rfl
  rw [e]
  clear e
  go_enter Try.func21, Try.ntmps21
  go_upto_region 1 with (fail)
  obtain ⟨W1, hW1⟩ : ∃ W, W = w.alloc (.cells (flC f).toArray 29) := ⟨_, rfl⟩
  have hB := (Below.refl w.heap.size w).alloc (Nat.le_refl _) (.cells (flC f).toArray 29)
  have hA : At W1 w.heap.size 29 (flC f) := by rw [hW1]; exact At.news w 29 (flC f)
  rw [← hW1] at hB
  try rw [← hW1]
  have HB := Lib.hid hB
  have HA := Lib.hid hA
  clear hW1 hB hA
  have c_ml : W1.cell? ⟨w.heap.size, 2, none⟩ = some (.int .u32 (U f.ml)) := HA.out.cell 2
  go_wp2
  go_ret
  exact ⟨rfl, HB.out⟩

theorem q13shown_324 (f : FileM) (w : World) : Calls Try.prog 21 #[.agg (flC f).toArray, .int .i64 324] w fun e w' => e = .returned (.int .u32 (U (shM f 324))) ∧ Below w.heap.size w w' := by
  have e : U (shM f 324) = U f.ml := rfl
  rw [e]
  clear e
  go_enter Try.func21, Try.ntmps21
  go_upto_region 1 with (fail)
  obtain ⟨W1, hW1⟩ : ∃ W, W = w.alloc (.cells (flC f).toArray 29) := ⟨_, rfl⟩
  have hB := (Below.refl w.heap.size w).alloc (Nat.le_refl _) (.cells (flC f).toArray 29)
  have hA : At W1 w.heap.size 29 (flC f) := by rw [hW1]; exact At.news w 29 (flC f)
  rw [← hW1] at hB
  try rw [← hW1]
  have HB := Lib.hid hB
  have HA := Lib.hid hA
  clear hW1 hB hA
  have c_ml : W1.cell? ⟨w.heap.size, 2, none⟩ = some (.int .u32 (U f.ml)) := HA.out.cell 2
  go_wp2
  go_ret
  exact ⟨rfl, HB.out⟩

theorem q13shown_no (f : FileM) (n : Int) (w : World) (h : ¬ (n = 256 ∨ n = 260 ∨ n = 324)) : Calls Try.prog 21 #[.agg (flC f).toArray, .int .i64 n] w fun e w' => e = .returned (.int .u32 4294967295) ∧ Below w.heap.size w w' := by
  simp only [not_or] at h
  obtain ⟨a256, a260, a324⟩ := h
  go_enter Try.func21, Try.ntmps21
  go_upto_region 1 with (fail)
  obtain ⟨W1, hW1⟩ : ∃ W, W = w.alloc (.cells (flC f).toArray 29) := ⟨_, rfl⟩
  have hB := (Below.refl w.heap.size w).alloc (Nat.le_refl _) (.cells (flC f).toArray 29)
  have hA : At W1 w.heap.size 29 (flC f) := by rw [hW1]; exact At.news w 29 (flC f)
  rw [← hW1] at hB
  try rw [← hW1]
  have HB := Lib.hid hB
  have HA := Lib.hid hA
  clear hW1 hB hA
  go_wp2
  go_ret
  exact ⟨rfl, HB.out⟩

theorem q13shown_any (f : FileM) (n : Int) (w : World) : Calls Try.prog 21 #[.agg (flC f).toArray, .int .i64 n] w fun e w' => e = .returned (.int .u32 (U (shM f n))) ∧ Below w.heap.size w w' := by
  by_cases c : n = 256 ∨ n = 260 ∨ n = 324
  · rcases c with rfl | rfl | rfl
    · exact q13shown_256 f w
    · exact q13shown_260 f w
    · exact q13shown_324 f w
  · have e : shM f n = 4294967295#32 := by
      simp only [not_or] at c
      obtain ⟨a, b, c⟩ := c
      simp [shM, a, b, c]
    rw [e]
    exact q13shown_no f n w c

theorem q13open_768 (f : FileM) (w : World) : Calls Try.prog 26 #[.agg (flC f).toArray, .int .i64 768] w fun e w' => e = .returned (.int .u32 924074) ∧ Below w.heap.size w w' := by
  go_enter Try.func26, Try.ntmps26
  go_upto_region 1 with (fail)
  obtain ⟨W1, hW1⟩ : ∃ W, W = w.alloc (.cells (flC f).toArray 29) := ⟨_, rfl⟩
  have hB := (Below.refl w.heap.size w).alloc (Nat.le_refl _) (.cells (flC f).toArray 29)
  have hA : At W1 w.heap.size 29 (flC f) := by rw [hW1]; exact At.news w 29 (flC f)
  rw [← hW1] at hB
  try rw [← hW1]
  have HB := Lib.hid hB
  have HA := Lib.hid hA
  clear hW1 hB hA
  go_wp2
  go_ret
  exact ⟨rfl, HB.out⟩

theorem q13open_770 (f : FileM) (w : World) : Calls Try.prog 26 #[.agg (flC f).toArray, .int .i64 770] w fun e w' => e = .returned (.int .u32 46079) ∧ Below w.heap.size w w' := by
  go_enter Try.func26, Try.ntmps26
  go_upto_region 1 with (fail)
  obtain ⟨W1, hW1⟩ : ∃ W, W = w.alloc (.cells (flC f).toArray 29) := ⟨_, rfl⟩
  have hB := (Below.refl w.heap.size w).alloc (Nat.le_refl _) (.cells (flC f).toArray 29)
  have hA : At W1 w.heap.size 29 (flC f) := by rw [hW1]; exact At.news w 29 (flC f)
  rw [← hW1] at hB
  try rw [← hW1]
  have HB := Lib.hid hB
  have HA := Lib.hid hA
  clear hW1 hB hA
  go_wp2
  go_ret
  exact ⟨rfl, HB.out⟩

theorem q13open_771 (f : FileM) (w : World) : Calls Try.prog 26 #[.agg (flC f).toArray, .int .i64 771] w fun e w' => e = .returned (.int .u32 546) ∧ Below w.heap.size w w' := by
  go_enter Try.func26, Try.ntmps26
  go_upto_region 1 with (fail)
  obtain ⟨W1, hW1⟩ : ∃ W, W = w.alloc (.cells (flC f).toArray 29) := ⟨_, rfl⟩
  have hB := (Below.refl w.heap.size w).alloc (Nat.le_refl _) (.cells (flC f).toArray 29)
  have hA : At W1 w.heap.size 29 (flC f) := by rw [hW1]; exact At.news w 29 (flC f)
  rw [← hW1] at hB
  try rw [← hW1]
  have HB := Lib.hid hB
  have HA := Lib.hid hA
  clear hW1 hB hA
  go_wp2
  go_ret
  exact ⟨rfl, HB.out⟩

theorem q13open_772 (f : FileM) (w : World) : Calls Try.prog 26 #[.agg (flC f).toArray, .int .i64 772] w fun e w' => e = .returned (.int .u32 2730) ∧ Below w.heap.size w w' := by
  go_enter Try.func26, Try.ntmps26
  go_upto_region 1 with (fail)
  obtain ⟨W1, hW1⟩ : ∃ W, W = w.alloc (.cells (flC f).toArray 29) := ⟨_, rfl⟩
  have hB := (Below.refl w.heap.size w).alloc (Nat.le_refl _) (.cells (flC f).toArray 29)
  have hA : At W1 w.heap.size 29 (flC f) := by rw [hW1]; exact At.news w 29 (flC f)
  rw [← hW1] at hB
  try rw [← hW1]
  have HB := Lib.hid hB
  have HA := Lib.hid hA
  clear hW1 hB hA
  go_wp2
  go_ret
  exact ⟨rfl, HB.out⟩

theorem q13open_836 (f : FileM) (w : World) : Calls Try.prog 26 #[.agg (flC f).toArray, .int .i64 836] w fun e w' => e = .returned (.int .u32 546) ∧ Below w.heap.size w w' := by
  go_enter Try.func26, Try.ntmps26
  go_upto_region 1 with (fail)
  obtain ⟨W1, hW1⟩ : ∃ W, W = w.alloc (.cells (flC f).toArray 29) := ⟨_, rfl⟩
  have hB := (Below.refl w.heap.size w).alloc (Nat.le_refl _) (.cells (flC f).toArray 29)
  have hA : At W1 w.heap.size 29 (flC f) := by rw [hW1]; exact At.news w 29 (flC f)
  rw [← hW1] at hB
  try rw [← hW1]
  have HB := Lib.hid hB
  have HA := Lib.hid hA
  clear hW1 hB hA
  go_wp2
  go_ret
  exact ⟨rfl, HB.out⟩

theorem q13open_324 (f : FileM) (w : World) : Calls Try.prog 26 #[.agg (flC f).toArray, .int .i64 324] w fun e w' => e = .returned (.int .u32 (U (f.ml &&& 2#32))) ∧ Below w.heap.size w w' := by
  have HS := Lib.hid (fun W => q13shown_324 f W)
  have e : U (shM f 324) = U f.ml := rfl
  rw [e] at HS
  clear e
  have h1 : bits .and .u32 (U f.ml) 2 = U (f.ml &&& 2#32) := U_and f.ml 2#32
  go_enter Try.func26, Try.ntmps26
  go_upto_region 1 with (fail)
  obtain ⟨W1, hW1⟩ : ∃ W, W = w.alloc (.cells (flC f).toArray 29) := ⟨_, rfl⟩
  have hB := (Below.refl w.heap.size w).alloc (Nat.le_refl _) (.cells (flC f).toArray 29)
  have hA : At W1 w.heap.size 29 (flC f) := by rw [hW1]; exact At.news w 29 (flC f)
  rw [← hW1] at hB
  try rw [← hW1]
  have HB := Lib.hid hB
  have HA := Lib.hid hA
  clear hW1 hB hA
  go_wp2_with (first | (refine wpList_ldS (flC f) _ HA.out (by rfl) rfl rfl Try.underlying29 rfl q13fl_size rfl ?_) | (go_at_call 21; (with_reducible refine (HS.out _).mono ?_); rintro e w6 ⟨rfl, hb⟩; have BL := Lib.hid hb; clear hb))
  go_ret
  exact ⟨rfl, HB.out.trans (BL.out.mono HB.out.size)⟩

theorem q13open_no (f : FileM) (n : Int) (w : World) (h : ¬ (n = 768 ∨ n = 770 ∨ n = 771 ∨ n = 772 ∨ n = 836 ∨ n = 324)) : Calls Try.prog 26 #[.agg (flC f).toArray, .int .i64 n] w fun e w' => e = .returned (.int .u32 (U (shM f n))) ∧ Below w.heap.size w w' := by
  simp only [not_or] at h
  obtain ⟨a768, a770, a771, a772, a836, a324⟩ := h
  have HS := Lib.hid (fun W => q13shown_any f n W)
  generalize shM f n = s at *
  go_enter Try.func26, Try.ntmps26
  go_upto_region 1 with (fail)
  obtain ⟨W1, hW1⟩ : ∃ W, W = w.alloc (.cells (flC f).toArray 29) := ⟨_, rfl⟩
  have hB := (Below.refl w.heap.size w).alloc (Nat.le_refl _) (.cells (flC f).toArray 29)
  have hA : At W1 w.heap.size 29 (flC f) := by rw [hW1]; exact At.news w 29 (flC f)
  rw [← hW1] at hB
  try rw [← hW1]
  have HB := Lib.hid hB
  have HA := Lib.hid hA
  clear hW1 hB hA
  go_wp2_with (first | (refine wpList_ldS (flC f) _ HA.out (by rfl) rfl rfl Try.underlying29 rfl q13fl_size rfl ?_) | (go_at_call 21; (with_reducible refine (HS.out _).mono ?_); rintro e w6 ⟨rfl, hb⟩; have BL := Lib.hid hb; clear hb))
  go_ret
  exact ⟨rfl, HB.out.trans (BL.out.mono HB.out.size)⟩

theorem q13open_any (f : FileM) (n : Int) (w : World) : Calls Try.prog 26 #[.agg (flC f).toArray, .int .i64 n] w fun e w' => e = .returned (.int .u32 (U (opM f n))) ∧ Below w.heap.size w w' := by
  by_cases c : n = 768 ∨ n = 770 ∨ n = 771 ∨ n = 772 ∨ n = 836 ∨ n = 324
  · rcases c with rfl | rfl | rfl | rfl | rfl | rfl
    · exact q13open_768 f w
    · exact q13open_770 f w
    · exact q13open_771 f w
    · exact q13open_772 f w
    · exact q13open_836 f w
    · exact q13open_324 f w
  · have e : opM f n = shM f n := by
      simp only [not_or] at c
      obtain ⟨a, b, c, d, e, g⟩ := c
      simp [opM, a, b, c, d, e, g]
    rw [e]
    exact q13open_no f n w c

theorem q13rest_2816 (f : FileM) (w : World) : Calls Try.prog 22 #[.agg (flC f).toArray, .int .i64 2816] w fun e w' => e = .returned (.tuple #[.int .u32 (U (knM f 2816)), .bool true]) ∧ Below w.heap.size w w' := by
  rw [knM_2816]
  go_enter Try.func22, Try.ntmps22
  go_upto_region 1 with (fail)
  obtain ⟨W1, hW1⟩ : ∃ W, W = w.alloc (.cells (flC f).toArray 29) := ⟨_, rfl⟩
  have hB := (Below.refl w.heap.size w).alloc (Nat.le_refl _) (.cells (flC f).toArray 29)
  have hA : At W1 w.heap.size 29 (flC f) := by rw [hW1]; exact At.news w 29 (flC f)
  rw [← hW1] at hB
  try rw [← hW1]
  have HB := Lib.hid hB
  have HA := Lib.hid hA
  clear hW1 hB hA
  have c_cyc : W1.cell? ⟨w.heap.size, 16, none⟩ = some (.int .u64 f.cyc) := HA.out.cell 16
  have cb := cyc_b f
  have hq : f.cyc.tmod 4294967296 = U f.lo := by rw [Int.tmod_eq_emod_of_nonneg cb.1, cyc_lo]
  have hr : f.cyc % 4294967296 = U f.lo := cyc_lo f
  have hw : U f.lo % 4294967296 = U f.lo := by have := U_nonneg f.lo; have := U_lt f.lo; omega
  clear cb
  go_wp2
  go_ret2
  exact ⟨by first | rfl | (rw [← hr]; rfl), HB.out⟩

theorem q13rest_3072 (f : FileM) (w : World) : Calls Try.prog 22 #[.agg (flC f).toArray, .int .i64 3072] w fun e w' => e = .returned (.tuple #[.int .u32 (U (knM f 3072)), .bool true]) ∧ Below w.heap.size w w' := by
  rw [knM_3072]
  go_enter Try.func22, Try.ntmps22
  go_upto_region 1 with (fail)
  obtain ⟨W1, hW1⟩ : ∃ W, W = w.alloc (.cells (flC f).toArray 29) := ⟨_, rfl⟩
  have hB := (Below.refl w.heap.size w).alloc (Nat.le_refl _) (.cells (flC f).toArray 29)
  have hA : At W1 w.heap.size 29 (flC f) := by rw [hW1]; exact At.news w 29 (flC f)
  rw [← hW1] at hB
  try rw [← hW1]
  have HB := Lib.hid hB
  have HA := Lib.hid hA
  clear hW1 hB hA
  have c_cyc : W1.cell? ⟨w.heap.size, 16, none⟩ = some (.int .u64 f.cyc) := HA.out.cell 16
  have cb := cyc_b f
  have hq : f.cyc.tmod 4294967296 = U f.lo := by rw [Int.tmod_eq_emod_of_nonneg cb.1, cyc_lo]
  have hr : f.cyc % 4294967296 = U f.lo := cyc_lo f
  have hw : U f.lo % 4294967296 = U f.lo := by have := U_nonneg f.lo; have := U_lt f.lo; omega
  clear cb
  go_wp2
  go_ret2
  exact ⟨by first | rfl | (rw [← hr]; rfl), HB.out⟩

theorem q13rest_2944 (f : FileM) (w : World) : Calls Try.prog 22 #[.agg (flC f).toArray, .int .i64 2944] w fun e w' => e = .returned (.tuple #[.int .u32 (U (knM f 2944)), .bool true]) ∧ Below w.heap.size w w' := by
  rw [knM_2944]
  go_enter Try.func22, Try.ntmps22
  go_upto_region 1 with (fail)
  obtain ⟨W1, hW1⟩ : ∃ W, W = w.alloc (.cells (flC f).toArray 29) := ⟨_, rfl⟩
  have hB := (Below.refl w.heap.size w).alloc (Nat.le_refl _) (.cells (flC f).toArray 29)
  have hA : At W1 w.heap.size 29 (flC f) := by rw [hW1]; exact At.news w 29 (flC f)
  rw [← hW1] at hB
  try rw [← hW1]
  have HB := Lib.hid hB
  have HA := Lib.hid hA
  clear hW1 hB hA
  have c_cyc : W1.cell? ⟨w.heap.size, 16, none⟩ = some (.int .u64 f.cyc) := HA.out.cell 16
  have cb := cyc_b f
  have hq : f.cyc.tdiv 4294967296 = U f.hi := by rw [Int.tdiv_eq_ediv_of_nonneg cb.1, cyc_hi]
  have hr : f.cyc / 4294967296 = U f.hi := cyc_hi f
  have hw : U f.hi % 4294967296 = U f.hi := by have := U_nonneg f.hi; have := U_lt f.hi; omega
  clear cb
  go_wp2
  go_ret2
  exact ⟨by first | rfl | (rw [← hr]; rfl), HB.out⟩

theorem q13rest_3200 (f : FileM) (w : World) : Calls Try.prog 22 #[.agg (flC f).toArray, .int .i64 3200] w fun e w' => e = .returned (.tuple #[.int .u32 (U (knM f 3200)), .bool true]) ∧ Below w.heap.size w w' := by
  rw [knM_3200]
  go_enter Try.func22, Try.ntmps22
  go_upto_region 1 with (fail)
  obtain ⟨W1, hW1⟩ : ∃ W, W = w.alloc (.cells (flC f).toArray 29) := ⟨_, rfl⟩
  have hB := (Below.refl w.heap.size w).alloc (Nat.le_refl _) (.cells (flC f).toArray 29)
  have hA : At W1 w.heap.size 29 (flC f) := by rw [hW1]; exact At.news w 29 (flC f)
  rw [← hW1] at hB
  try rw [← hW1]
  have HB := Lib.hid hB
  have HA := Lib.hid hA
  clear hW1 hB hA
  have c_cyc : W1.cell? ⟨w.heap.size, 16, none⟩ = some (.int .u64 f.cyc) := HA.out.cell 16
  have cb := cyc_b f
  have hq : f.cyc.tdiv 4294967296 = U f.hi := by rw [Int.tdiv_eq_ediv_of_nonneg cb.1, cyc_hi]
  have hr : f.cyc / 4294967296 = U f.hi := cyc_hi f
  have hw : U f.hi % 4294967296 = U f.hi := by have := U_nonneg f.hi; have := U_lt f.hi; omega
  clear cb
  go_wp2
  go_ret2
  exact ⟨by first | rfl | (rw [← hr]; rfl), HB.out⟩

theorem q13rest_769 (f : FileM) (w : World) : Calls Try.prog 22 #[.agg (flC f).toArray, .int .i64 769] w fun e w' => e = .returned (.tuple #[.int .u32 (U (knM f 769)), .bool true]) ∧ Below w.heap.size w w' := by
  rw [knM_769]
  go_enter Try.func22, Try.ntmps22
  go_upto_region 1 with (fail)
  obtain ⟨W1, hW1⟩ : ∃ W, W = w.alloc (.cells (flC f).toArray 29) := ⟨_, rfl⟩
  have hB := (Below.refl w.heap.size w).alloc (Nat.le_refl _) (.cells (flC f).toArray 29)
  have hA : At W1 w.heap.size 29 (flC f) := by rw [hW1]; exact At.news w 29 (flC f)
  rw [← hW1] at hB
  try rw [← hW1]
  have HB := Lib.hid hB
  have HA := Lib.hid hA
  clear hW1 hB hA
  go_wp2
  go_ret2
  exact ⟨rfl, HB.out⟩

theorem q13rest_3857 (f : FileM) (w : World) : Calls Try.prog 22 #[.agg (flC f).toArray, .int .i64 3857] w fun e w' => e = .returned (.tuple #[.int .u32 (U (knM f 3857)), .bool true]) ∧ Below w.heap.size w w' := by
  rw [knM_3857]
  go_enter Try.func22, Try.ntmps22
  go_upto_region 1 with (fail)
  obtain ⟨W1, hW1⟩ : ∃ W, W = w.alloc (.cells (flC f).toArray 29) := ⟨_, rfl⟩
  have hB := (Below.refl w.heap.size w).alloc (Nat.le_refl _) (.cells (flC f).toArray 29)
  have hA : At W1 w.heap.size 29 (flC f) := by rw [hW1]; exact At.news w 29 (flC f)
  rw [← hW1] at hB
  try rw [← hW1]
  have HB := Lib.hid hB
  have HA := Lib.hid hA
  clear hW1 hB hA
  go_wp2
  go_ret2
  exact ⟨rfl, HB.out⟩

theorem q13rest_3858 (f : FileM) (w : World) : Calls Try.prog 22 #[.agg (flC f).toArray, .int .i64 3858] w fun e w' => e = .returned (.tuple #[.int .u32 (U (knM f 3858)), .bool true]) ∧ Below w.heap.size w w' := by
  rw [knM_3858]
  go_enter Try.func22, Try.ntmps22
  go_upto_region 1 with (fail)
  obtain ⟨W1, hW1⟩ : ∃ W, W = w.alloc (.cells (flC f).toArray 29) := ⟨_, rfl⟩
  have hB := (Below.refl w.heap.size w).alloc (Nat.le_refl _) (.cells (flC f).toArray 29)
  have hA : At W1 w.heap.size 29 (flC f) := by rw [hW1]; exact At.news w 29 (flC f)
  rw [← hW1] at hB
  try rw [← hW1]
  have HB := Lib.hid hB
  have HA := Lib.hid hA
  clear hW1 hB hA
  go_wp2
  go_ret2
  exact ⟨rfl, HB.out⟩

theorem q13rest_3859 (f : FileM) (w : World) : Calls Try.prog 22 #[.agg (flC f).toArray, .int .i64 3859] w fun e w' => e = .returned (.tuple #[.int .u32 (U (knM f 3859)), .bool true]) ∧ Below w.heap.size w w' := by
  rw [knM_3859]
  go_enter Try.func22, Try.ntmps22
  go_upto_region 1 with (fail)
  obtain ⟨W1, hW1⟩ : ∃ W, W = w.alloc (.cells (flC f).toArray 29) := ⟨_, rfl⟩
  have hB := (Below.refl w.heap.size w).alloc (Nat.le_refl _) (.cells (flC f).toArray 29)
  have hA : At W1 w.heap.size 29 (flC f) := by rw [hW1]; exact At.news w 29 (flC f)
  rw [← hW1] at hB
  try rw [← hW1]
  have HB := Lib.hid hB
  have HA := Lib.hid hA
  clear hW1 hB hA
  go_wp2
  go_ret2
  exact ⟨rfl, HB.out⟩

theorem q13rest_3860 (f : FileM) (w : World) : Calls Try.prog 22 #[.agg (flC f).toArray, .int .i64 3860] w fun e w' => e = .returned (.tuple #[.int .u32 (U (knM f 3860)), .bool true]) ∧ Below w.heap.size w w' := by
  rw [knM_3860]
  go_enter Try.func22, Try.ntmps22
  go_upto_region 1 with (fail)
  obtain ⟨W1, hW1⟩ : ∃ W, W = w.alloc (.cells (flC f).toArray 29) := ⟨_, rfl⟩
  have hB := (Below.refl w.heap.size w).alloc (Nat.le_refl _) (.cells (flC f).toArray 29)
  have hA : At W1 w.heap.size 29 (flC f) := by rw [hW1]; exact At.news w 29 (flC f)
  rw [← hW1] at hB
  try rw [← hW1]
  have HB := Lib.hid hB
  have HA := Lib.hid hA
  clear hW1 hB hA
  go_wp2
  go_ret2
  exact ⟨rfl, HB.out⟩

theorem q13rest_low (f : FileM) (n : Int) (w : World) (h : ¬ (n = 2816 ∨ n = 3072 ∨ n = 2944 ∨ n = 3200 ∨ n = 769 ∨ n = 3857 ∨ n = 3858 ∨ n = 3859 ∨ n = 3860)) (hc : n < 3857) : Calls Try.prog 22 #[.agg (flC f).toArray, .int .i64 n] w fun e w' => e = .returned (.tuple #[.int .u32 0, .bool false]) ∧ Below w.heap.size w w' := by
  simp only [not_or] at h
  obtain ⟨a2816, a3072, a2944, a3200, a769, a3857, a3858, a3859, a3860⟩ := h
  have c1 : ¬ 3857 ≤ n := by omega
  clear a3857 a3858 a3859 a3860 hc
  go_enter Try.func22, Try.ntmps22
  go_upto_region 1 with (fail)
  obtain ⟨W1, hW1⟩ : ∃ W, W = w.alloc (.cells (flC f).toArray 29) := ⟨_, rfl⟩
  have hB := (Below.refl w.heap.size w).alloc (Nat.le_refl _) (.cells (flC f).toArray 29)
  have hA : At W1 w.heap.size 29 (flC f) := by rw [hW1]; exact At.news w 29 (flC f)
  rw [← hW1] at hB
  try rw [← hW1]
  have HB := Lib.hid hB
  have HA := Lib.hid hA
  clear hW1 hB hA
  go_wp2
  go_ret2
  exact ⟨rfl, HB.out⟩

theorem q13rest_high (f : FileM) (n : Int) (w : World) (h : ¬ (n = 2816 ∨ n = 3072 ∨ n = 2944 ∨ n = 3200 ∨ n = 769 ∨ n = 3857 ∨ n = 3858 ∨ n = 3859 ∨ n = 3860)) (hc : ¬ n < 3857) : Calls Try.prog 22 #[.agg (flC f).toArray, .int .i64 n] w fun e w' => e = .returned (.tuple #[.int .u32 0, .bool false]) ∧ Below w.heap.size w w' := by
  simp only [not_or] at h
  obtain ⟨a2816, a3072, a2944, a3200, a769, a3857, a3858, a3859, a3860⟩ := h
  have c1 : 3857 ≤ n := by omega
  have c2 : ¬ n ≤ 3860 := by omega
  clear a3857 a3858 a3859 a3860 hc
  go_enter Try.func22, Try.ntmps22
  go_upto_region 1 with (fail)
  obtain ⟨W1, hW1⟩ : ∃ W, W = w.alloc (.cells (flC f).toArray 29) := ⟨_, rfl⟩
  have hB := (Below.refl w.heap.size w).alloc (Nat.le_refl _) (.cells (flC f).toArray 29)
  have hA : At W1 w.heap.size 29 (flC f) := by rw [hW1]; exact At.news w 29 (flC f)
  rw [← hW1] at hB
  try rw [← hW1]
  have HB := Lib.hid hB
  have HA := Lib.hid hA
  clear hW1 hB hA
  go_wp2
  go_ret2
  exact ⟨rfl, HB.out⟩

theorem q13out (f : FileM) (n : Int) (h : ¬ (n = 2816 ∨ n = 3072 ∨ n = 2944 ∨ n = 3200 ∨ n = 769 ∨ n = 3857 ∨ n = 3858 ∨ n = 3859 ∨ n = 3860)) (hw : ¬ (n = 256 ∨ n = 768 ∨ n = 770 ∨ n = 771 ∨ n = 260 ∨ n = 772 ∨ n = 324 ∨ n = 836 ∨ n = 261 ∨ n = 320 ∨ n = 321 ∨ n = 322 ∨ n = 323 ∨ n = 384 ∨ n = 773 ∨ n = 832 ∨ n = 833 ∨ n = 834 ∨ n = 835)) : knM f n = 0#32 ∧ knIs n = false := by
  simp only [not_or] at h hw
  obtain ⟨a2816, a3072, a2944, a3200, a769, a3857, a3858, a3859, a3860⟩ := h
  obtain ⟨b256, b768, b770, b771, b260, b772, b324, b836, b261, b320, b321, b322, b323, b384, b773, b832, b833, b834, b835⟩ := hw
  constructor
  · unfold knM
    simp only [a2816, a3072, a2944, a3200, a769, b256, b768, b770, b771, b260, b772, b324, b836, b261, b320, b321, b322, b323, b384, b773, b832, b833, b834, b835, if_false]
  · simp [knIs, numL, a2816, a3072, a2944, a3200, a769, a3857, a3858, a3859, a3860, b256, b768, b770, b771, b260, b772, b324, b836, b261, b320, b321, b322, b323, b384, b773, b832, b833, b834, b835]

theorem q13rest_any (f : FileM) (n : Int) (w : World) (hw : ¬ (n = 256 ∨ n = 768 ∨ n = 770 ∨ n = 771 ∨ n = 260 ∨ n = 772 ∨ n = 324 ∨ n = 836 ∨ n = 261 ∨ n = 320 ∨ n = 321 ∨ n = 322 ∨ n = 323 ∨ n = 384 ∨ n = 773 ∨ n = 832 ∨ n = 833 ∨ n = 834 ∨ n = 835)) : Calls Try.prog 22 #[.agg (flC f).toArray, .int .i64 n] w fun e w' => e = .returned (.tuple #[.int .u32 (U (knM f n)), .bool (knIs n)]) ∧ Below w.heap.size w w' := by
  by_cases c : n = 2816 ∨ n = 3072 ∨ n = 2944 ∨ n = 3200 ∨ n = 769 ∨ n = 3857 ∨ n = 3858 ∨ n = 3859 ∨ n = 3860
  · clear hw
    rcases c with rfl | rfl | rfl | rfl | rfl | rfl | rfl | rfl | rfl
    · exact q13rest_2816 f w
    · exact q13rest_3072 f w
    · exact q13rest_2944 f w
    · exact q13rest_3200 f w
    · exact q13rest_769 f w
    · exact q13rest_3857 f w
    · exact q13rest_3858 f w
    · exact q13rest_3859 f w
    · exact q13rest_3860 f w
  · have HO := q13out f n c hw
    rw [HO.1, HO.2]
    by_cases hc : n < 3857
    · exact q13rest_low f n w c hc
    · exact q13rest_high f n w c hc

end Go.Proofs.Ytedpeojgpnnddaa
