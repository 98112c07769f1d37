/- What writes to registers of state leave alone, and what is read behind them (layer csr). -/
import Derived.Test.YtedpeojgpnnddaaCsrM
import Derived.Test.YtedpeojgpnnddaaBitsRefMath
namespace Go.Proofs.Ytedpeojgpnnddaa.Bm
open Go Go.RowKit

theorem two_bits (v : BitVec 32) : (U v / 2048 % 4 = 2) ↔ (gb v 12 = true ∧ gb v 11 = false) := by
  have h1 := bit_quo v 11 (by omega)
  have h2 := bit_quo v 12 (by omega)
  rw [show pw 11 = 2048 from rfl] at h1
  rw [show pw 12 = 4096 from rfl] at h2
  unfold bitI at h1 h2
  cases e1 : gb v 11 <;> cases e2 : gb v 12 <;> simp [e1] at h1 <;> simp [e2] at h2 <;> simp <;> omega
theorem less_bit (v : BitVec 32) (h : gb v 12 = true) (i : Int) (h0 : 0 ≤ i) (h1 : i < 32) : gb (v - 4096#32) i = (gb v i && !decide (i = 12)) := by
  have g12 : ∀ k : Fin 32, gb 4096#32 (k.val : Int) = decide ((k.val : Int) = 12) := by decide
  have g : ∀ j : Int, 0 ≤ j → j < 32 → gb 4096#32 j = decide (j = 12) := fun j a b => by
    have := g12 ⟨j.toNat, by omega⟩
    have e : ((j.toNat : Nat) : Int) = j := by omega
    rw [e] at this
    exact this
  have e : v &&& 4096#32 = 4096#32 := by
    apply gb_ext; intro j j0 j1
    rw [gb_and, g j j0 j1]
    by_cases c : j = 12
    · subst c; simp [h]
    · simp [c]
  have s : (v &&& ~~~4096#32) + (v &&& 4096#32) = v := by
    rw [BitVec.add_eq_or_of_and_eq_zero]
    · apply gb_ext; intro j j0 j1
      rw [gb_or, gb_and, gb_and, gb_not]
      have d : decide (0 ≤ j ∧ j < 32) = true := by simp; omega
      rw [d]
      cases gb 4096#32 j <;> simp
    · apply gb_ext; intro j j0 j1
      rw [gb_and, gb_and, gb_and, gb_not, gb_zero]
      cases gb 4096#32 j <;> simp
  rw [e] at s
  have t : v - 4096#32 = v &&& ~~~4096#32 := by
    have h2 : (v &&& ~~~4096#32) + 4096#32 - 4096#32 = v - 4096#32 := congrArg (· - 4096#32) s
    rw [← h2, BitVec.add_sub_cancel]
  rw [t, gb_and, gb_not, g i h0 h1]
  have d : decide (0 ≤ i ∧ i < 32) = true := by simp; omega
  rw [d, Bool.true_and]
theorem gb_stV (v : BitVec 32) (i : Int) (h0 : 0 ≤ i) (h1 : i < 32) : gb (stV v) i = (gb v i && !(decide (i = 12) && !gb v 11)) := by
  unfold stV
  have h := two_bits v
  by_cases c : U v / 2048 % 4 = 2
  · rw [if_pos c, less_bit v (h.1 c).1 i h0 h1, (h.1 c).2]
    simp
  · rw [if_neg c]
    by_cases e : i = 12
    · subst e
      have n : ¬ (gb v 12 = true ∧ gb v 11 = false) := fun x => c (h.2 x)
      cases a : gb v 12 <;> cases b : gb v 11 <;> simp_all
    · simp [e]
theorem st_again (o v : BitVec 32) : maskB (maskB o (stV v) 924074#32) (stV (maskB o (stV v) 924074#32)) 924074#32 = maskB o (stV v) 924074#32 := by
  have m11 : gb 924074#32 11 = true := by decide
  apply gb_ext; intro i h0 h1
  rw [gb_mask _ _ _ _ h0 h1]
  by_cases m : gb 924074#32 i = true
  · rw [if_pos m, gb_stV _ _ h0 h1, gb_mask _ _ _ _ h0 h1, if_pos m, gb_mask _ _ _ 11 (by omega) (by omega), if_pos m11, gb_stV _ _ h0 h1, gb_stV _ 11 (by omega) (by omega)]
    by_cases e : i = 12
    · subst e
      cases gb v 12 <;> cases gb v 11 <;> simp
    · simp [e]
  · rw [if_neg m]

theorem wrF_256 (f : FileM) (v : BitVec 32) : wrF f 256 v = { f with st := maskB f.st v 786722#32 } := rfl
theorem knM_256 (f : FileM) : knM f 256 = f.st &&& 786722#32 := rfl
theorem wrF_260 (f : FileM) (v : BitVec 32) : wrF f 260 v = { f with mie := maskB f.mie v f.ml } := rfl
theorem knM_260 (f : FileM) : knM f 260 = f.mie &&& f.ml := rfl
theorem wrF_261 (f : FileM) (v : BitVec 32) : wrF f 261 v = { f with stvec := v &&& 4294967293#32 } := rfl
theorem knM_261 (f : FileM) : knM f 261 = f.stvec := rfl
theorem wrF_320 (f : FileM) (v : BitVec 32) : wrF f 320 v = { f with sscr := v } := rfl
theorem knM_320 (f : FileM) : knM f 320 = f.sscr := rfl
theorem wrF_321 (f : FileM) (v : BitVec 32) : wrF f 321 v = { f with sepc := v &&& 4294967292#32 } := rfl
theorem knM_321 (f : FileM) : knM f 321 = f.sepc := rfl
theorem wrF_322 (f : FileM) (v : BitVec 32) : wrF f 322 v = { f with scause := v } := rfl
theorem knM_322 (f : FileM) : knM f 322 = f.scause := rfl
theorem wrF_323 (f : FileM) (v : BitVec 32) : wrF f 323 v = { f with stval := v } := rfl
theorem knM_323 (f : FileM) : knM f 323 = f.stval := rfl
theorem wrF_324 (f : FileM) (v : BitVec 32) : wrF f 324 v = { f with mip := maskB f.mip v (f.ml &&& 2#32) } := rfl
theorem knM_324 (f : FileM) : knM f 324 = f.mip &&& f.ml := rfl
theorem wrF_384 (f : FileM) (v : BitVec 32) : wrF f 384 v = { f with satp := v } := rfl
theorem knM_384 (f : FileM) : knM f 384 = f.satp := rfl
theorem wrF_768 (f : FileM) (v : BitVec 32) : wrF f 768 v = { f with st := maskB f.st (stV v) 924074#32 } := rfl
theorem knM_768 (f : FileM) : knM f 768 = f.st := rfl
theorem wrF_769 (f : FileM) (v : BitVec 32) : wrF f 769 v = f := rfl
theorem knM_769 (f : FileM) : knM f 769 = 1075056897#32 := rfl
theorem wrF_770 (f : FileM) (v : BitVec 32) : wrF f 770 v = { f with md := maskB f.md v 46079#32 } := rfl
theorem knM_770 (f : FileM) : knM f 770 = f.md := rfl
theorem wrF_771 (f : FileM) (v : BitVec 32) : wrF f 771 v = { f with ml := maskB f.ml v 546#32 } := rfl
theorem knM_771 (f : FileM) : knM f 771 = f.ml := rfl
theorem wrF_772 (f : FileM) (v : BitVec 32) : wrF f 772 v = { f with mie := maskB f.mie v 2730#32 } := rfl
theorem knM_772 (f : FileM) : knM f 772 = f.mie := rfl
theorem wrF_773 (f : FileM) (v : BitVec 32) : wrF f 773 v = { f with mtvec := v &&& 4294967293#32 } := rfl
theorem knM_773 (f : FileM) : knM f 773 = f.mtvec := rfl
theorem wrF_832 (f : FileM) (v : BitVec 32) : wrF f 832 v = { f with mscr := v } := rfl
theorem knM_832 (f : FileM) : knM f 832 = f.mscr := rfl
theorem wrF_833 (f : FileM) (v : BitVec 32) : wrF f 833 v = { f with mepc := v &&& 4294967292#32 } := rfl
theorem knM_833 (f : FileM) : knM f 833 = f.mepc := rfl
theorem wrF_834 (f : FileM) (v : BitVec 32) : wrF f 834 v = { f with mcause := v } := rfl
theorem knM_834 (f : FileM) : knM f 834 = f.mcause := rfl
theorem wrF_835 (f : FileM) (v : BitVec 32) : wrF f 835 v = { f with mtval := v } := rfl
theorem knM_835 (f : FileM) : knM f 835 = f.mtval := rfl
theorem wrF_836 (f : FileM) (v : BitVec 32) : wrF f 836 v = { f with mip := maskB f.mip v 546#32 } := rfl
theorem knM_836 (f : FileM) : knM f 836 = f.mip := rfl
theorem wrF_2816 (f : FileM) (v : BitVec 32) : wrF f 2816 v = { f with lo := v } := rfl
theorem knM_2816 (f : FileM) : knM f 2816 = f.lo := rfl
theorem wrF_2944 (f : FileM) (v : BitVec 32) : wrF f 2944 v = { f with hi := v } := rfl
theorem knM_2944 (f : FileM) : knM f 2944 = f.hi := rfl
theorem wrF_3072 (f : FileM) (v : BitVec 32) : wrF f 3072 v = f := rfl
theorem knM_3072 (f : FileM) : knM f 3072 = f.lo := rfl
theorem wrF_3200 (f : FileM) (v : BitVec 32) : wrF f 3200 v = f := rfl
theorem knM_3200 (f : FileM) : knM f 3200 = f.hi := rfl
theorem wrF_3857 (f : FileM) (v : BitVec 32) : wrF f 3857 v = f := rfl
theorem knM_3857 (f : FileM) : knM f 3857 = 0#32 := rfl
theorem wrF_3858 (f : FileM) (v : BitVec 32) : wrF f 3858 v = f := rfl
theorem knM_3858 (f : FileM) : knM f 3858 = 0#32 := rfl
theorem wrF_3859 (f : FileM) (v : BitVec 32) : wrF f 3859 v = f := rfl
theorem knM_3859 (f : FileM) : knM f 3859 = 0#32 := rfl
theorem wrF_3860 (f : FileM) (v : BitVec 32) : wrF f 3860 v = f := rfl
theorem knM_3860 (f : FileM) : knM f 3860 = 0#32 := rfl
/-- What is read behind a write, and written again, changes nothing. -/
theorem wr_again (f : FileM) (n : Int) (v : BitVec 32) (h : n ∈ numL) : wrF (wrF f n v) n (knM (wrF f n v) n) = wrF f n v := by
  have c : n = 256 ∨ n = 260 ∨ n = 261 ∨ n = 320 ∨ n = 321 ∨ n = 322 ∨ n = 323 ∨ n = 324 ∨ n = 384 ∨ n = 768 ∨ n = 769 ∨ n = 770 ∨ n = 771 ∨ n = 772 ∨ n = 773 ∨ n = 832 ∨ n = 833 ∨ n = 834 ∨ n = 835 ∨ n = 836 ∨ n = 2816 ∨ n = 2944 ∨ n = 3072 ∨ n = 3200 ∨ n = 3857 ∨ n = 3858 ∨ n = 3859 ∨ n = 3860 := by simpa [numL] using h
  rcases c with rfl | rfl | rfl | rfl | rfl | rfl | rfl | rfl | rfl | rfl | rfl | rfl | rfl | rfl | rfl | rfl | rfl | rfl | rfl | rfl | rfl | rfl | rfl | rfl | rfl | rfl | rfl | rfl
  · rw [wrF_256, wrF_256, knM_256]; exact congrArg (fun x => { f with st := x }) (mask_view _ _ _)
  · rw [wrF_260, wrF_260, knM_260]; exact congrArg (fun x => { f with mie := x }) (mask_view _ _ _)
  · rw [wrF_261, wrF_261, knM_261]; exact congrArg (fun x => { f with stvec := x }) (and_again _ _)
  · rfl
  · rw [wrF_321, wrF_321, knM_321]; exact congrArg (fun x => { f with sepc := x }) (and_again _ _)
  · rfl
  · rfl
  · rw [wrF_324, wrF_324, knM_324]; exact congrArg (fun x => { f with mip := x }) (mask_less _ _ _ _)
  · rfl
  · rw [wrF_768, wrF_768, knM_768]; exact congrArg (fun x => { f with st := x }) (st_again _ _)
  · rw [wrF_769, wrF_769]
  · rw [wrF_770, wrF_770, knM_770]; exact congrArg (fun x => { f with md := x }) (mask_same _ _)
  · rw [wrF_771, wrF_771, knM_771]; exact congrArg (fun x => { f with ml := x }) (mask_same _ _)
  · rw [wrF_772, wrF_772, knM_772]; exact congrArg (fun x => { f with mie := x }) (mask_same _ _)
  · rw [wrF_773, wrF_773, knM_773]; exact congrArg (fun x => { f with mtvec := x }) (and_again _ _)
  · rfl
  · rw [wrF_833, wrF_833, knM_833]; exact congrArg (fun x => { f with mepc := x }) (and_again _ _)
  · rfl
  · rfl
  · rw [wrF_836, wrF_836, knM_836]; exact congrArg (fun x => { f with mip := x }) (mask_same _ _)
  · rfl
  · rfl
  · rw [wrF_3072, wrF_3072]
  · rw [wrF_3200, wrF_3200]
  · rw [wrF_3857, wrF_3857]
  · rw [wrF_3858, wrF_3858]
  · rw [wrF_3859, wrF_3859]
  · rw [wrF_3860, wrF_3860]
/-- Which registers are views of the same. -/
def famM (n : Int) : Int := if n = 256 ∨ n = 768 then 1 else if n = 260 ∨ n = 772 then 2 else if n = 324 ∨ n = 836 then 3 else if n = 2816 ∨ n = 3072 then 4 else if n = 2944 ∨ n = 3200 then 5 else n
def allL : List Int := [256, 260, 261, 320, 321, 322, 323, 324, 384, 768, 769, 770, 771, 772, 773, 832, 833, 834, 835, 836, 2816, 2944, 3072, 3200, 3857, 3860]
theorem all_num : ∀ n ∈ allL, n ∈ numL := by decide
def Apart13 (f : FileM) (m n : Int) (v : BitVec 32) : Prop := knM (wrF f m v) n = knM f n ∨ famM n = famM m ∨ (m = 771 ∧ (n = 260 ∨ n = 324))
theorem apart_256 (f : FileM) (v : BitVec 32) (n : Int) (h : n ∈ allL) : Apart13 f 256 n v := by
  have c : n = 256 ∨ n = 260 ∨ n = 261 ∨ n = 320 ∨ n = 321 ∨ n = 322 ∨ n = 323 ∨ n = 324 ∨ n = 384 ∨ n = 768 ∨ n = 769 ∨ n = 770 ∨ n = 771 ∨ n = 772 ∨ n = 773 ∨ n = 832 ∨ n = 833 ∨ n = 834 ∨ n = 835 ∨ n = 836 ∨ n = 2816 ∨ n = 2944 ∨ n = 3072 ∨ n = 3200 ∨ n = 3857 ∨ n = 3860 := by simpa [allL] using h
  unfold Apart13
  rw [wrF_256]
  rcases c with rfl | rfl | rfl | rfl | rfl | rfl | rfl | rfl | rfl | rfl | rfl | rfl | rfl | rfl | rfl | rfl | rfl | rfl | rfl | rfl | rfl | rfl | rfl | rfl | rfl | rfl
  · exact .inr (.inl rfl)
  · exact .inl rfl
  · exact .inl rfl
  · exact .inl rfl
  · exact .inl rfl
  · exact .inl rfl
  · exact .inl rfl
  · exact .inl rfl
  · exact .inl rfl
  · exact .inr (.inl rfl)
  · exact .inl rfl
  · exact .inl rfl
  · exact .inl rfl
  · exact .inl rfl
  · exact .inl rfl
  · exact .inl rfl
  · exact .inl rfl
  · exact .inl rfl
  · exact .inl rfl
  · exact .inl rfl
  · exact .inl rfl
  · exact .inl rfl
  · exact .inl rfl
  · exact .inl rfl
  · exact .inl rfl
  · exact .inl rfl
theorem apart_260 (f : FileM) (v : BitVec 32) (n : Int) (h : n ∈ allL) : Apart13 f 260 n v := by
  have c : n = 256 ∨ n = 260 ∨ n = 261 ∨ n = 320 ∨ n = 321 ∨ n = 322 ∨ n = 323 ∨ n = 324 ∨ n = 384 ∨ n = 768 ∨ n = 769 ∨ n = 770 ∨ n = 771 ∨ n = 772 ∨ n = 773 ∨ n = 832 ∨ n = 833 ∨ n = 834 ∨ n = 835 ∨ n = 836 ∨ n = 2816 ∨ n = 2944 ∨ n = 3072 ∨ n = 3200 ∨ n = 3857 ∨ n = 3860 := by simpa [allL] using h
  unfold Apart13
  rw [wrF_260]
  rcases c with rfl | rfl | rfl | rfl | rfl | rfl | rfl | rfl | rfl | rfl | rfl | rfl | rfl | rfl | rfl | rfl | rfl | rfl | rfl | rfl | rfl | rfl | rfl | rfl | rfl | rfl
  · exact .inl rfl
  · exact .inr (.inl rfl)
  · exact .inl rfl
  · exact .inl rfl
  · exact .inl rfl
  · exact .inl rfl
  · exact .inl rfl
  · exact .inl rfl
  · exact .inl rfl
  · exact .inl rfl
  · exact .inl rfl
  · exact .inl rfl
  · exact .inl rfl
  · exact .inr (.inl rfl)
  · exact .inl rfl
  · exact .inl rfl
  · exact .inl rfl
  · exact .inl rfl
  · exact .inl rfl
  · exact .inl rfl
  · exact .inl rfl
  · exact .inl rfl
  · exact .inl rfl
  · exact .inl rfl
  · exact .inl rfl
  · exact .inl rfl
theorem apart_261 (f : FileM) (v : BitVec 32) (n : Int) (h : n ∈ allL) : Apart13 f 261 n v := by
  have c : n = 256 ∨ n = 260 ∨ n = 261 ∨ n = 320 ∨ n = 321 ∨ n = 322 ∨ n = 323 ∨ n = 324 ∨ n = 384 ∨ n = 768 ∨ n = 769 ∨ n = 770 ∨ n = 771 ∨ n = 772 ∨ n = 773 ∨ n = 832 ∨ n = 833 ∨ n = 834 ∨ n = 835 ∨ n = 836 ∨ n = 2816 ∨ n = 2944 ∨ n = 3072 ∨ n = 3200 ∨ n = 3857 ∨ n = 3860 := by simpa [allL] using h
  unfold Apart13
  rw [wrF_261]
  rcases c with rfl | rfl | rfl | rfl | rfl | rfl | rfl | rfl | rfl | rfl | rfl | rfl | rfl | rfl | rfl | rfl | rfl | rfl | rfl | rfl | rfl | rfl | rfl | rfl | rfl | rfl
  · exact .inl rfl
  · exact .inl rfl
  · exact .inr (.inl rfl)
  · exact .inl rfl
  · exact .inl rfl
  · exact .inl rfl
  · exact .inl rfl
  · exact .inl rfl
  · exact .inl rfl
  · exact .inl rfl
  · exact .inl rfl
  · exact .inl rfl
  · exact .inl rfl
  · exact .inl rfl
  · exact .inl rfl
  · exact .inl rfl
  · exact .inl rfl
  · exact .inl rfl
  · exact .inl rfl
  · exact .inl rfl
  · exact .inl rfl
  · exact .inl rfl
  · exact .inl rfl
  · exact .inl rfl
  · exact .inl rfl
  · exact .inl rfl
theorem apart_320 (f : FileM) (v : BitVec 32) (n : Int) (h : n ∈ allL) : Apart13 f 320 n v := by
  have c : n = 256 ∨ n = 260 ∨ n = 261 ∨ n = 320 ∨ n = 321 ∨ n = 322 ∨ n = 323 ∨ n = 324 ∨ n = 384 ∨ n = 768 ∨ n = 769 ∨ n = 770 ∨ n = 771 ∨ n = 772 ∨ n = 773 ∨ n = 832 ∨ n = 833 ∨ n = 834 ∨ n = 835 ∨ n = 836 ∨ n = 2816 ∨ n = 2944 ∨ n = 3072 ∨ n = 3200 ∨ n = 3857 ∨ n = 3860 := by simpa [allL] using h
  unfold Apart13
  rw [wrF_320]
  rcases c with rfl | rfl | rfl | rfl | rfl | rfl | rfl | rfl | rfl | rfl | rfl | rfl | rfl | rfl | rfl | rfl | rfl | rfl | rfl | rfl | rfl | rfl | rfl | rfl | rfl | rfl
  · exact .inl rfl
  · exact .inl rfl
  · exact .inl rfl
  · exact .inr (.inl rfl)
  · exact .inl rfl
  · exact .inl rfl
  · exact .inl rfl
  · exact .inl rfl
  · exact .inl rfl
  · exact .inl rfl
  · exact .inl rfl
  · exact .inl rfl
  · exact .inl rfl
  · exact .inl rfl
  · exact .inl rfl
  · exact .inl rfl
  · exact .inl rfl
  · exact .inl rfl
  · exact .inl rfl
  · exact .inl rfl
  · exact .inl rfl
  · exact .inl rfl
  · exact .inl rfl
  · exact .inl rfl
  · exact .inl rfl
  · exact .inl rfl
theorem apart_321 (f : FileM) (v : BitVec 32) (n : Int) (h : n ∈ allL) : Apart13 f 321 n v := by
  have c : n = 256 ∨ n = 260 ∨ n = 261 ∨ n = 320 ∨ n = 321 ∨ n = 322 ∨ n = 323 ∨ n = 324 ∨ n = 384 ∨ n = 768 ∨ n = 769 ∨ n = 770 ∨ n = 771 ∨ n = 772 ∨ n = 773 ∨ n = 832 ∨ n = 833 ∨ n = 834 ∨ n = 835 ∨ n = 836 ∨ n = 2816 ∨ n = 2944 ∨ n = 3072 ∨ n = 3200 ∨ n = 3857 ∨ n = 3860 := by simpa [allL] using h
  unfold Apart13
  rw [wrF_321]
  rcases c with rfl | rfl | rfl | rfl | rfl | rfl | rfl | rfl | rfl | rfl | rfl | rfl | rfl | rfl | rfl | rfl | rfl | rfl | rfl | rfl | rfl | rfl | rfl | rfl | rfl | rfl
  · exact .inl rfl
  · exact .inl rfl
  · exact .inl rfl
  · exact .inl rfl
  · exact .inr (.inl rfl)
  · exact .inl rfl
  · exact .inl rfl
  · exact .inl rfl
  · exact .inl rfl
  · exact .inl rfl
  · exact .inl rfl
  · exact .inl rfl
  · exact .inl rfl
  · exact .inl rfl
  · exact .inl rfl
  · exact .inl rfl
  · exact .inl rfl
  · exact .inl rfl
  · exact .inl rfl
  · exact .inl rfl
  · exact .inl rfl
  · exact .inl rfl
  · exact .inl rfl
  · exact .inl rfl
  · exact .inl rfl
  · exact .inl rfl
theorem apart_322 (f : FileM) (v : BitVec 32) (n : Int) (h : n ∈ allL) : Apart13 f 322 n v := by
  have c : n = 256 ∨ n = 260 ∨ n = 261 ∨ n = 320 ∨ n = 321 ∨ n = 322 ∨ n = 323 ∨ n = 324 ∨ n = 384 ∨ n = 768 ∨ n = 769 ∨ n = 770 ∨ n = 771 ∨ n = 772 ∨ n = 773 ∨ n = 832 ∨ n = 833 ∨ n = 834 ∨ n = 835 ∨ n = 836 ∨ n = 2816 ∨ n = 2944 ∨ n = 3072 ∨ n = 3200 ∨ n = 3857 ∨ n = 3860 := by simpa [allL] using h
  unfold Apart13
  rw [wrF_322]
  rcases c with rfl | rfl | rfl | rfl | rfl | rfl | rfl | rfl | rfl | rfl | rfl | rfl | rfl | rfl | rfl | rfl | rfl | rfl | rfl | rfl | rfl | rfl | rfl | rfl | rfl | rfl
  · exact .inl rfl
  · exact .inl rfl
  · exact .inl rfl
  · exact .inl rfl
  · exact .inl rfl
  · exact .inr (.inl rfl)
  · exact .inl rfl
  · exact .inl rfl
  · exact .inl rfl
  · exact .inl rfl
  · exact .inl rfl
  · exact .inl rfl
  · exact .inl rfl
  · exact .inl rfl
  · exact .inl rfl
  · exact .inl rfl
  · exact .inl rfl
  · exact .inl rfl
  · exact .inl rfl
  · exact .inl rfl
  · exact .inl rfl
  · exact .inl rfl
  · exact .inl rfl
  · exact .inl rfl
  · exact .inl rfl
  · exact .inl rfl
theorem apart_323 (f : FileM) (v : BitVec 32) (n : Int) (h : n ∈ allL) : Apart13 f 323 n v := by
  have c : n = 256 ∨ n = 260 ∨ n = 261 ∨ n = 320 ∨ n = 321 ∨ n = 322 ∨ n = 323 ∨ n = 324 ∨ n = 384 ∨ n = 768 ∨ n = 769 ∨ n = 770 ∨ n = 771 ∨ n = 772 ∨ n = 773 ∨ n = 832 ∨ n = 833 ∨ n = 834 ∨ n = 835 ∨ n = 836 ∨ n = 2816 ∨ n = 2944 ∨ n = 3072 ∨ n = 3200 ∨ n = 3857 ∨ n = 3860 := by simpa [allL] using h
  unfold Apart13
  rw [wrF_323]
  rcases c with rfl | rfl | rfl | rfl | rfl | rfl | rfl | rfl | rfl | rfl | rfl | rfl | rfl | rfl | rfl | rfl | rfl | rfl | rfl | rfl | rfl | rfl | rfl | rfl | rfl | rfl
  · exact .inl rfl
  · exact .inl rfl
  · exact .inl rfl
  · exact .inl rfl
  · exact .inl rfl
  · exact .inl rfl
  · exact .inr (.inl rfl)
  · exact .inl rfl
  · exact .inl rfl
  · exact .inl rfl
  · exact .inl rfl
  · exact .inl rfl
  · exact .inl rfl
  · exact .inl rfl
  · exact .inl rfl
  · exact .inl rfl
  · exact .inl rfl
  · exact .inl rfl
  · exact .inl rfl
  · exact .inl rfl
  · exact .inl rfl
  · exact .inl rfl
  · exact .inl rfl
  · exact .inl rfl
  · exact .inl rfl
  · exact .inl rfl
theorem apart_324 (f : FileM) (v : BitVec 32) (n : Int) (h : n ∈ allL) : Apart13 f 324 n v := by
  have c : n = 256 ∨ n = 260 ∨ n = 261 ∨ n = 320 ∨ n = 321 ∨ n = 322 ∨ n = 323 ∨ n = 324 ∨ n = 384 ∨ n = 768 ∨ n = 769 ∨ n = 770 ∨ n = 771 ∨ n = 772 ∨ n = 773 ∨ n = 832 ∨ n = 833 ∨ n = 834 ∨ n = 835 ∨ n = 836 ∨ n = 2816 ∨ n = 2944 ∨ n = 3072 ∨ n = 3200 ∨ n = 3857 ∨ n = 3860 := by simpa [allL] using h
  unfold Apart13
  rw [wrF_324]
  rcases c with rfl | rfl | rfl | rfl | rfl | rfl | rfl | rfl | rfl | rfl | rfl | rfl | rfl | rfl | rfl | rfl | rfl | rfl | rfl | rfl | rfl | rfl | rfl | rfl | rfl | rfl
  · exact .inl rfl
  · exact .inl rfl
  · exact .inl rfl
  · exact .inl rfl
  · exact .inl rfl
  · exact .inl rfl
  · exact .inl rfl
  · exact .inr (.inl rfl)
  · exact .inl rfl
  · exact .inl rfl
  · exact .inl rfl
  · exact .inl rfl
  · exact .inl rfl
  · exact .inl rfl
  · exact .inl rfl
  · exact .inl rfl
  · exact .inl rfl
  · exact .inl rfl
  · exact .inl rfl
  · exact .inr (.inl rfl)
  · exact .inl rfl
  · exact .inl rfl
  · exact .inl rfl
  · exact .inl rfl
  · exact .inl rfl
  · exact .inl rfl
theorem apart_384 (f : FileM) (v : BitVec 32) (n : Int) (h : n ∈ allL) : Apart13 f 384 n v := by
  have c : n = 256 ∨ n = 260 ∨ n = 261 ∨ n = 320 ∨ n = 321 ∨ n = 322 ∨ n = 323 ∨ n = 324 ∨ n = 384 ∨ n = 768 ∨ n = 769 ∨ n = 770 ∨ n = 771 ∨ n = 772 ∨ n = 773 ∨ n = 832 ∨ n = 833 ∨ n = 834 ∨ n = 835 ∨ n = 836 ∨ n = 2816 ∨ n = 2944 ∨ n = 3072 ∨ n = 3200 ∨ n = 3857 ∨ n = 3860 := by simpa [allL] using h
  unfold Apart13
  rw [wrF_384]
  rcases c with rfl | rfl | rfl | rfl | rfl | rfl | rfl | rfl | rfl | rfl | rfl | rfl | rfl | rfl | rfl | rfl | rfl | rfl | rfl | rfl | rfl | rfl | rfl | rfl | rfl | rfl
  · exact .inl rfl
  · exact .inl rfl
  · exact .inl rfl
  · exact .inl rfl
  · exact .inl rfl
  · exact .inl rfl
  · exact .inl rfl
  · exact .inl rfl
  · exact .inr (.inl rfl)
  · exact .inl rfl
  · exact .inl rfl
  · exact .inl rfl
  · exact .inl rfl
  · exact .inl rfl
  · exact .inl rfl
  · exact .inl rfl
  · exact .inl rfl
  · exact .inl rfl
  · exact .inl rfl
  · exact .inl rfl
  · exact .inl rfl
  · exact .inl rfl
  · exact .inl rfl
  · exact .inl rfl
  · exact .inl rfl
  · exact .inl rfl
theorem apart_768 (f : FileM) (v : BitVec 32) (n : Int) (h : n ∈ allL) : Apart13 f 768 n v := by
  have c : n = 256 ∨ n = 260 ∨ n = 261 ∨ n = 320 ∨ n = 321 ∨ n = 322 ∨ n = 323 ∨ n = 324 ∨ n = 384 ∨ n = 768 ∨ n = 769 ∨ n = 770 ∨ n = 771 ∨ n = 772 ∨ n = 773 ∨ n = 832 ∨ n = 833 ∨ n = 834 ∨ n = 835 ∨ n = 836 ∨ n = 2816 ∨ n = 2944 ∨ n = 3072 ∨ n = 3200 ∨ n = 3857 ∨ n = 3860 := by simpa [allL] using h
  unfold Apart13
  rw [wrF_768]
  rcases c with rfl | rfl | rfl | rfl | rfl | rfl | rfl | rfl | rfl | rfl | rfl | rfl | rfl | rfl | rfl | rfl | rfl | rfl | rfl | rfl | rfl | rfl | rfl | rfl | rfl | rfl
  · exact .inr (.inl rfl)
  · exact .inl rfl
  · exact .inl rfl
  · exact .inl rfl
  · exact .inl rfl
  · exact .inl rfl
  · exact .inl rfl
  · exact .inl rfl
  · exact .inl rfl
  · exact .inr (.inl rfl)
  · exact .inl rfl
  · exact .inl rfl
  · exact .inl rfl
  · exact .inl rfl
  · exact .inl rfl
  · exact .inl rfl
  · exact .inl rfl
  · exact .inl rfl
  · exact .inl rfl
  · exact .inl rfl
  · exact .inl rfl
  · exact .inl rfl
  · exact .inl rfl
  · exact .inl rfl
  · exact .inl rfl
  · exact .inl rfl
theorem apart_769 (f : FileM) (v : BitVec 32) (n : Int) (h : n ∈ allL) : Apart13 f 769 n v := by
  have c : n = 256 ∨ n = 260 ∨ n = 261 ∨ n = 320 ∨ n = 321 ∨ n = 322 ∨ n = 323 ∨ n = 324 ∨ n = 384 ∨ n = 768 ∨ n = 769 ∨ n = 770 ∨ n = 771 ∨ n = 772 ∨ n = 773 ∨ n = 832 ∨ n = 833 ∨ n = 834 ∨ n = 835 ∨ n = 836 ∨ n = 2816 ∨ n = 2944 ∨ n = 3072 ∨ n = 3200 ∨ n = 3857 ∨ n = 3860 := by simpa [allL] using h
  unfold Apart13
  rw [wrF_769]
  rcases c with rfl | rfl | rfl | rfl | rfl | rfl | rfl | rfl | rfl | rfl | rfl | rfl | rfl | rfl | rfl | rfl | rfl | rfl | rfl | rfl | rfl | rfl | rfl | rfl | rfl | rfl
  · exact .inl rfl
  · exact .inl rfl
  · exact .inl rfl
  · exact .inl rfl
  · exact .inl rfl
  · exact .inl rfl
  · exact .inl rfl
  · exact .inl rfl
  · exact .inl rfl
  · exact .inl rfl
  · exact .inr (.inl rfl)
  · exact .inl rfl
  · exact .inl rfl
  · exact .inl rfl
  · exact .inl rfl
  · exact .inl rfl
  · exact .inl rfl
  · exact .inl rfl
  · exact .inl rfl
  · exact .inl rfl
  · exact .inl rfl
  · exact .inl rfl
  · exact .inl rfl
  · exact .inl rfl
  · exact .inl rfl
  · exact .inl rfl
theorem apart_770 (f : FileM) (v : BitVec 32) (n : Int) (h : n ∈ allL) : Apart13 f 770 n v := by
  have c : n = 256 ∨ n = 260 ∨ n = 261 ∨ n = 320 ∨ n = 321 ∨ n = 322 ∨ n = 323 ∨ n = 324 ∨ n = 384 ∨ n = 768 ∨ n = 769 ∨ n = 770 ∨ n = 771 ∨ n = 772 ∨ n = 773 ∨ n = 832 ∨ n = 833 ∨ n = 834 ∨ n = 835 ∨ n = 836 ∨ n = 2816 ∨ n = 2944 ∨ n = 3072 ∨ n = 3200 ∨ n = 3857 ∨ n = 3860 := by simpa [allL] using h
  unfold Apart13
  rw [wrF_770]
  rcases c with rfl | rfl | rfl | rfl | rfl | rfl | rfl | rfl | rfl | rfl | rfl | rfl | rfl | rfl | rfl | rfl | rfl | rfl | rfl | rfl | rfl | rfl | rfl | rfl | rfl | rfl
  · exact .inl rfl
  · exact .inl rfl
  · exact .inl rfl
  · exact .inl rfl
  · exact .inl rfl
  · exact .inl rfl
  · exact .inl rfl
  · exact .inl rfl
  · exact .inl rfl
  · exact .inl rfl
  · exact .inl rfl
  · exact .inr (.inl rfl)
  · exact .inl rfl
  · exact .inl rfl
  · exact .inl rfl
  · exact .inl rfl
  · exact .inl rfl
  · exact .inl rfl
  · exact .inl rfl
  · exact .inl rfl
  · exact .inl rfl
  · exact .inl rfl
  · exact .inl rfl
  · exact .inl rfl
  · exact .inl rfl
  · exact .inl rfl
theorem apart_771 (f : FileM) (v : BitVec 32) (n : Int) (h : n ∈ allL) : Apart13 f 771 n v := by
  have c : n = 256 ∨ n = 260 ∨ n = 261 ∨ n = 320 ∨ n = 321 ∨ n = 322 ∨ n = 323 ∨ n = 324 ∨ n = 384 ∨ n = 768 ∨ n = 769 ∨ n = 770 ∨ n = 771 ∨ n = 772 ∨ n = 773 ∨ n = 832 ∨ n = 833 ∨ n = 834 ∨ n = 835 ∨ n = 836 ∨ n = 2816 ∨ n = 2944 ∨ n = 3072 ∨ n = 3200 ∨ n = 3857 ∨ n = 3860 := by simpa [allL] using h
  unfold Apart13
  rw [wrF_771]
  rcases c with rfl | rfl | rfl | rfl | rfl | rfl | rfl | rfl | rfl | rfl | rfl | rfl | rfl | rfl | rfl | rfl | rfl | rfl | rfl | rfl | rfl | rfl | rfl | rfl | rfl | rfl
  · exact .inl rfl
  · exact .inr (.inr ⟨rfl, by decide⟩)
  · exact .inl rfl
  · exact .inl rfl
  · exact .inl rfl
  · exact .inl rfl
  · exact .inl rfl
  · exact .inr (.inr ⟨rfl, by decide⟩)
  · exact .inl rfl
  · exact .inl rfl
  · exact .inl rfl
  · exact .inl rfl
  · exact .inr (.inl rfl)
  · exact .inl rfl
  · exact .inl rfl
  · exact .inl rfl
  · exact .inl rfl
  · exact .inl rfl
  · exact .inl rfl
  · exact .inl rfl
  · exact .inl rfl
  · exact .inl rfl
  · exact .inl rfl
  · exact .inl rfl
  · exact .inl rfl
  · exact .inl rfl
theorem apart_772 (f : FileM) (v : BitVec 32) (n : Int) (h : n ∈ allL) : Apart13 f 772 n v := by
  have c : n = 256 ∨ n = 260 ∨ n = 261 ∨ n = 320 ∨ n = 321 ∨ n = 322 ∨ n = 323 ∨ n = 324 ∨ n = 384 ∨ n = 768 ∨ n = 769 ∨ n = 770 ∨ n = 771 ∨ n = 772 ∨ n = 773 ∨ n = 832 ∨ n = 833 ∨ n = 834 ∨ n = 835 ∨ n = 836 ∨ n = 2816 ∨ n = 2944 ∨ n = 3072 ∨ n = 3200 ∨ n = 3857 ∨ n = 3860 := by simpa [allL] using h
  unfold Apart13
  rw [wrF_772]
  rcases c with rfl | rfl | rfl | rfl | rfl | rfl | rfl | rfl | rfl | rfl | rfl | rfl | rfl | rfl | rfl | rfl | rfl | rfl | rfl | rfl | rfl | rfl | rfl | rfl | rfl | rfl
  · exact .inl rfl
  · exact .inr (.inl rfl)
  · exact .inl rfl
  · exact .inl rfl
  · exact .inl rfl
  · exact .inl rfl
  · exact .inl rfl
  · exact .inl rfl
  · exact .inl rfl
  · exact .inl rfl
  · exact .inl rfl
  · exact .inl rfl
  · exact .inl rfl
  · exact .inr (.inl rfl)
  · exact .inl rfl
  · exact .inl rfl
  · exact .inl rfl
  · exact .inl rfl
  · exact .inl rfl
  · exact .inl rfl
  · exact .inl rfl
  · exact .inl rfl
  · exact .inl rfl
  · exact .inl rfl
  · exact .inl rfl
  · exact .inl rfl
theorem apart_773 (f : FileM) (v : BitVec 32) (n : Int) (h : n ∈ allL) : Apart13 f 773 n v := by
  have c : n = 256 ∨ n = 260 ∨ n = 261 ∨ n = 320 ∨ n = 321 ∨ n = 322 ∨ n = 323 ∨ n = 324 ∨ n = 384 ∨ n = 768 ∨ n = 769 ∨ n = 770 ∨ n = 771 ∨ n = 772 ∨ n = 773 ∨ n = 832 ∨ n = 833 ∨ n = 834 ∨ n = 835 ∨ n = 836 ∨ n = 2816 ∨ n = 2944 ∨ n = 3072 ∨ n = 3200 ∨ n = 3857 ∨ n = 3860 := by simpa [allL] using h
  unfold Apart13
  rw [wrF_773]
  rcases c with rfl | rfl | rfl | rfl | rfl | rfl | rfl | rfl | rfl | rfl | rfl | rfl | rfl | rfl | rfl | rfl | rfl | rfl | rfl | rfl | rfl | rfl | rfl | rfl | rfl | rfl
  · exact .inl rfl
  · exact .inl rfl
  · exact .inl rfl
  · exact .inl rfl
  · exact .inl rfl
  · exact .inl rfl
  · exact .inl rfl
  · exact .inl rfl
  · exact .inl rfl
  · exact .inl rfl
  · exact .inl rfl
  · exact .inl rfl
  · exact .inl rfl
  · exact .inl rfl
  · exact .inr (.inl rfl)
  · exact .inl rfl
  · exact .inl rfl
  · exact .inl rfl
  · exact .inl rfl
  · exact .inl rfl
  · exact .inl rfl
  · exact .inl rfl
  · exact .inl rfl
  · exact .inl rfl
  · exact .inl rfl
  · exact .inl rfl
theorem apart_832 (f : FileM) (v : BitVec 32) (n : Int) (h : n ∈ allL) : Apart13 f 832 n v := by
  have c : n = 256 ∨ n = 260 ∨ n = 261 ∨ n = 320 ∨ n = 321 ∨ n = 322 ∨ n = 323 ∨ n = 324 ∨ n = 384 ∨ n = 768 ∨ n = 769 ∨ n = 770 ∨ n = 771 ∨ n = 772 ∨ n = 773 ∨ n = 832 ∨ n = 833 ∨ n = 834 ∨ n = 835 ∨ n = 836 ∨ n = 2816 ∨ n = 2944 ∨ n = 3072 ∨ n = 3200 ∨ n = 3857 ∨ n = 3860 := by simpa [allL] using h
  unfold Apart13
  rw [wrF_832]
  rcases c with rfl | rfl | rfl | rfl | rfl | rfl | rfl | rfl | rfl | rfl | rfl | rfl | rfl | rfl | rfl | rfl | rfl | rfl | rfl | rfl | rfl | rfl | rfl | rfl | rfl | rfl
  · exact .inl rfl
  · exact .inl rfl
  · exact .inl rfl
  · exact .inl rfl
  · exact .inl rfl
  · exact .inl rfl
  · exact .inl rfl
  · exact .inl rfl
  · exact .inl rfl
  · exact .inl rfl
  · exact .inl rfl
  · exact .inl rfl
  · exact .inl rfl
  · exact .inl rfl
  · exact .inl rfl
  · exact .inr (.inl rfl)
  · exact .inl rfl
  · exact .inl rfl
  · exact .inl rfl
  · exact .inl rfl
  · exact .inl rfl
  · exact .inl rfl
  · exact .inl rfl
  · exact .inl rfl
  · exact .inl rfl
  · exact .inl rfl
theorem apart_833 (f : FileM) (v : BitVec 32) (n : Int) (h : n ∈ allL) : Apart13 f 833 n v := by
  have c : n = 256 ∨ n = 260 ∨ n = 261 ∨ n = 320 ∨ n = 321 ∨ n = 322 ∨ n = 323 ∨ n = 324 ∨ n = 384 ∨ n = 768 ∨ n = 769 ∨ n = 770 ∨ n = 771 ∨ n = 772 ∨ n = 773 ∨ n = 832 ∨ n = 833 ∨ n = 834 ∨ n = 835 ∨ n = 836 ∨ n = 2816 ∨ n = 2944 ∨ n = 3072 ∨ n = 3200 ∨ n = 3857 ∨ n = 3860 := by simpa [allL] using h
  unfold Apart13
  rw [wrF_833]
  rcases c with rfl | rfl | rfl | rfl | rfl | rfl | rfl | rfl | rfl | rfl | rfl | rfl | rfl | rfl | rfl | rfl | rfl | rfl | rfl | rfl | rfl | rfl | rfl | rfl | rfl | rfl
  · exact .inl rfl
  · exact .inl rfl
  · exact .inl rfl
  · exact .inl rfl
  · exact .inl rfl
  · exact .inl rfl
  · exact .inl rfl
  · exact .inl rfl
  · exact .inl rfl
  · exact .inl rfl
  · exact .inl rfl
  · exact .inl rfl
  · exact .inl rfl
  · exact .inl rfl
  · exact .inl rfl
  · exact .inl rfl
  · exact .inr (.inl rfl)
  · exact .inl rfl
  · exact .inl rfl
  · exact .inl rfl
  · exact .inl rfl
  · exact .inl rfl
  · exact .inl rfl
  · exact .inl rfl
  · exact .inl rfl
  · exact .inl rfl
theorem apart_834 (f : FileM) (v : BitVec 32) (n : Int) (h : n ∈ allL) : Apart13 f 834 n v := by
  have c : n = 256 ∨ n = 260 ∨ n = 261 ∨ n = 320 ∨ n = 321 ∨ n = 322 ∨ n = 323 ∨ n = 324 ∨ n = 384 ∨ n = 768 ∨ n = 769 ∨ n = 770 ∨ n = 771 ∨ n = 772 ∨ n = 773 ∨ n = 832 ∨ n = 833 ∨ n = 834 ∨ n = 835 ∨ n = 836 ∨ n = 2816 ∨ n = 2944 ∨ n = 3072 ∨ n = 3200 ∨ n = 3857 ∨ n = 3860 := by simpa [allL] using h
  unfold Apart13
  rw [wrF_834]
  rcases c with rfl | rfl | rfl | rfl | rfl | rfl | rfl | rfl | rfl | rfl | rfl | rfl | rfl | rfl | rfl | rfl | rfl | rfl | rfl | rfl | rfl | rfl | rfl | rfl | rfl | rfl
  · exact .inl rfl
  · exact .inl rfl
  · exact .inl rfl
  · exact .inl rfl
  · exact .inl rfl
  · exact .inl rfl
  · exact .inl rfl
  · exact .inl rfl
  · exact .inl rfl
  · exact .inl rfl
  · exact .inl rfl
  · exact .inl rfl
  · exact .inl rfl
  · exact .inl rfl
  · exact .inl rfl
  · exact .inl rfl
  · exact .inl rfl
  · exact .inr (.inl rfl)
  · exact .inl rfl
  · exact .inl rfl
  · exact .inl rfl
  · exact .inl rfl
  · exact .inl rfl
  · exact .inl rfl
  · exact .inl rfl
  · exact .inl rfl
theorem apart_835 (f : FileM) (v : BitVec 32) (n : Int) (h : n ∈ allL) : Apart13 f 835 n v := by
  have c : n = 256 ∨ n = 260 ∨ n = 261 ∨ n = 320 ∨ n = 321 ∨ n = 322 ∨ n = 323 ∨ n = 324 ∨ n = 384 ∨ n = 768 ∨ n = 769 ∨ n = 770 ∨ n = 771 ∨ n = 772 ∨ n = 773 ∨ n = 832 ∨ n = 833 ∨ n = 834 ∨ n = 835 ∨ n = 836 ∨ n = 2816 ∨ n = 2944 ∨ n = 3072 ∨ n = 3200 ∨ n = 3857 ∨ n = 3860 := by simpa [allL] using h
  unfold Apart13
  rw [wrF_835]
  rcases c with rfl | rfl | rfl | rfl | rfl | rfl | rfl | rfl | rfl | rfl | rfl | rfl | rfl | rfl | rfl | rfl | rfl | rfl | rfl | rfl | rfl | rfl | rfl | rfl | rfl | rfl
  · exact .inl rfl
  · exact .inl rfl
  · exact .inl rfl
  · exact .inl rfl
  · exact .inl rfl
  · exact .inl rfl
  · exact .inl rfl
  · exact .inl rfl
  · exact .inl rfl
  · exact .inl rfl
  · exact .inl rfl
  · exact .inl rfl
  · exact .inl rfl
  · exact .inl rfl
  · exact .inl rfl
  · exact .inl rfl
  · exact .inl rfl
  · exact .inl rfl
  · exact .inr (.inl rfl)
  · exact .inl rfl
  · exact .inl rfl
  · exact .inl rfl
  · exact .inl rfl
  · exact .inl rfl
  · exact .inl rfl
  · exact .inl rfl
theorem apart_836 (f : FileM) (v : BitVec 32) (n : Int) (h : n ∈ allL) : Apart13 f 836 n v := by
  have c : n = 256 ∨ n = 260 ∨ n = 261 ∨ n = 320 ∨ n = 321 ∨ n = 322 ∨ n = 323 ∨ n = 324 ∨ n = 384 ∨ n = 768 ∨ n = 769 ∨ n = 770 ∨ n = 771 ∨ n = 772 ∨ n = 773 ∨ n = 832 ∨ n = 833 ∨ n = 834 ∨ n = 835 ∨ n = 836 ∨ n = 2816 ∨ n = 2944 ∨ n = 3072 ∨ n = 3200 ∨ n = 3857 ∨ n = 3860 := by simpa [allL] using h
  unfold Apart13
  rw [wrF_836]
  rcases c with rfl | rfl | rfl | rfl | rfl | rfl | rfl | rfl | rfl | rfl | rfl | rfl | rfl | rfl | rfl | rfl | rfl | rfl | rfl | rfl | rfl | rfl | rfl | rfl | rfl | rfl
  · exact .inl rfl
  · exact .inl rfl
  · exact .inl rfl
  · exact .inl rfl
  · exact .inl rfl
  · exact .inl rfl
  · exact .inl rfl
  · exact .inr (.inl rfl)
  · exact .inl rfl
  · exact .inl rfl
  · exact .inl rfl
  · exact .inl rfl
  · exact .inl rfl
  · exact .inl rfl
  · exact .inl rfl
  · exact .inl rfl
  · exact .inl rfl
  · exact .inl rfl
  · exact .inl rfl
  · exact .inr (.inl rfl)
  · exact .inl rfl
  · exact .inl rfl
  · exact .inl rfl
  · exact .inl rfl
  · exact .inl rfl
  · exact .inl rfl
theorem apart_2816 (f : FileM) (v : BitVec 32) (n : Int) (h : n ∈ allL) : Apart13 f 2816 n v := by
  have c : n = 256 ∨ n = 260 ∨ n = 261 ∨ n = 320 ∨ n = 321 ∨ n = 322 ∨ n = 323 ∨ n = 324 ∨ n = 384 ∨ n = 768 ∨ n = 769 ∨ n = 770 ∨ n = 771 ∨ n = 772 ∨ n = 773 ∨ n = 832 ∨ n = 833 ∨ n = 834 ∨ n = 835 ∨ n = 836 ∨ n = 2816 ∨ n = 2944 ∨ n = 3072 ∨ n = 3200 ∨ n = 3857 ∨ n = 3860 := by simpa [allL] using h
  unfold Apart13
  rw [wrF_2816]
  rcases c with rfl | rfl | rfl | rfl | rfl | rfl | rfl | rfl | rfl | rfl | rfl | rfl | rfl | rfl | rfl | rfl | rfl | rfl | rfl | rfl | rfl | rfl | rfl | rfl | rfl | rfl
  · exact .inl rfl
  · exact .inl rfl
  · exact .inl rfl
  · exact .inl rfl
  · exact .inl rfl
  · exact .inl rfl
  · exact .inl rfl
  · exact .inl rfl
  · exact .inl rfl
  · exact .inl rfl
  · exact .inl rfl
  · exact .inl rfl
  · exact .inl rfl
  · exact .inl rfl
  · exact .inl rfl
  · exact .inl rfl
  · exact .inl rfl
  · exact .inl rfl
  · exact .inl rfl
  · exact .inl rfl
  · exact .inr (.inl rfl)
  · exact .inl rfl
  · exact .inr (.inl rfl)
  · exact .inl rfl
  · exact .inl rfl
  · exact .inl rfl
theorem apart_2944 (f : FileM) (v : BitVec 32) (n : Int) (h : n ∈ allL) : Apart13 f 2944 n v := by
  have c : n = 256 ∨ n = 260 ∨ n = 261 ∨ n = 320 ∨ n = 321 ∨ n = 322 ∨ n = 323 ∨ n = 324 ∨ n = 384 ∨ n = 768 ∨ n = 769 ∨ n = 770 ∨ n = 771 ∨ n = 772 ∨ n = 773 ∨ n = 832 ∨ n = 833 ∨ n = 834 ∨ n = 835 ∨ n = 836 ∨ n = 2816 ∨ n = 2944 ∨ n = 3072 ∨ n = 3200 ∨ n = 3857 ∨ n = 3860 := by simpa [allL] using h
  unfold Apart13
  rw [wrF_2944]
  rcases c with rfl | rfl | rfl | rfl | rfl | rfl | rfl | rfl | rfl | rfl | rfl | rfl | rfl | rfl | rfl | rfl | rfl | rfl | rfl | rfl | rfl | rfl | rfl | rfl | rfl | rfl
  · exact .inl rfl
  · exact .inl rfl
  · exact .inl rfl
  · exact .inl rfl
  · exact .inl rfl
  · exact .inl rfl
  · exact .inl rfl
  · exact .inl rfl
  · exact .inl rfl
  · exact .inl rfl
  · exact .inl rfl
  · exact .inl rfl
  · exact .inl rfl
  · exact .inl rfl
  · exact .inl rfl
  · exact .inl rfl
  · exact .inl rfl
  · exact .inl rfl
  · exact .inl rfl
  · exact .inl rfl
  · exact .inl rfl
  · exact .inr (.inl rfl)
  · exact .inl rfl
  · exact .inr (.inl rfl)
  · exact .inl rfl
  · exact .inl rfl
theorem apart_3072 (f : FileM) (v : BitVec 32) (n : Int) (h : n ∈ allL) : Apart13 f 3072 n v := by
  have c : n = 256 ∨ n = 260 ∨ n = 261 ∨ n = 320 ∨ n = 321 ∨ n = 322 ∨ n = 323 ∨ n = 324 ∨ n = 384 ∨ n = 768 ∨ n = 769 ∨ n = 770 ∨ n = 771 ∨ n = 772 ∨ n = 773 ∨ n = 832 ∨ n = 833 ∨ n = 834 ∨ n = 835 ∨ n = 836 ∨ n = 2816 ∨ n = 2944 ∨ n = 3072 ∨ n = 3200 ∨ n = 3857 ∨ n = 3860 := by simpa [allL] using h
  unfold Apart13
  rw [wrF_3072]
  rcases c with rfl | rfl | rfl | rfl | rfl | rfl | rfl | rfl | rfl | rfl | rfl | rfl | rfl | rfl | rfl | rfl | rfl | rfl | rfl | rfl | rfl | rfl | rfl | rfl | rfl | rfl
  · exact .inl rfl
  · exact .inl rfl
  · exact .inl rfl
  · exact .inl rfl
  · exact .inl rfl
  · exact .inl rfl
  · exact .inl rfl
  · exact .inl rfl
  · exact .inl rfl
  · exact .inl rfl
  · exact .inl rfl
  · exact .inl rfl
  · exact .inl rfl
  · exact .inl rfl
  · exact .inl rfl
  · exact .inl rfl
  · exact .inl rfl
  · exact .inl rfl
  · exact .inl rfl
  · exact .inl rfl
  · exact .inr (.inl rfl)
  · exact .inl rfl
  · exact .inr (.inl rfl)
  · exact .inl rfl
  · exact .inl rfl
  · exact .inl rfl
theorem apart_3200 (f : FileM) (v : BitVec 32) (n : Int) (h : n ∈ allL) : Apart13 f 3200 n v := by
  have c : n = 256 ∨ n = 260 ∨ n = 261 ∨ n = 320 ∨ n = 321 ∨ n = 322 ∨ n = 323 ∨ n = 324 ∨ n = 384 ∨ n = 768 ∨ n = 769 ∨ n = 770 ∨ n = 771 ∨ n = 772 ∨ n = 773 ∨ n = 832 ∨ n = 833 ∨ n = 834 ∨ n = 835 ∨ n = 836 ∨ n = 2816 ∨ n = 2944 ∨ n = 3072 ∨ n = 3200 ∨ n = 3857 ∨ n = 3860 := by simpa [allL] using h
  unfold Apart13
  rw [wrF_3200]
  rcases c with rfl | rfl | rfl | rfl | rfl | rfl | rfl | rfl | rfl | rfl | rfl | rfl | rfl | rfl | rfl | rfl | rfl | rfl | rfl | rfl | rfl | rfl | rfl | rfl | rfl | rfl
  · exact .inl rfl
  · exact .inl rfl
  · exact .inl rfl
  · exact .inl rfl
  · exact .inl rfl
  · exact .inl rfl
  · exact .inl rfl
  · exact .inl rfl
  · exact .inl rfl
  · exact .inl rfl
  · exact .inl rfl
  · exact .inl rfl
  · exact .inl rfl
  · exact .inl rfl
  · exact .inl rfl
  · exact .inl rfl
  · exact .inl rfl
  · exact .inl rfl
  · exact .inl rfl
  · exact .inl rfl
  · exact .inl rfl
  · exact .inr (.inl rfl)
  · exact .inl rfl
  · exact .inr (.inl rfl)
  · exact .inl rfl
  · exact .inl rfl
theorem apart_3857 (f : FileM) (v : BitVec 32) (n : Int) (h : n ∈ allL) : Apart13 f 3857 n v := by
  have c : n = 256 ∨ n = 260 ∨ n = 261 ∨ n = 320 ∨ n = 321 ∨ n = 322 ∨ n = 323 ∨ n = 324 ∨ n = 384 ∨ n = 768 ∨ n = 769 ∨ n = 770 ∨ n = 771 ∨ n = 772 ∨ n = 773 ∨ n = 832 ∨ n = 833 ∨ n = 834 ∨ n = 835 ∨ n = 836 ∨ n = 2816 ∨ n = 2944 ∨ n = 3072 ∨ n = 3200 ∨ n = 3857 ∨ n = 3860 := by simpa [allL] using h
  unfold Apart13
  rw [wrF_3857]
  rcases c with rfl | rfl | rfl | rfl | rfl | rfl | rfl | rfl | rfl | rfl | rfl | rfl | rfl | rfl | rfl | rfl | rfl | rfl | rfl | rfl | rfl | rfl | rfl | rfl | rfl | rfl
  · exact .inl rfl
  · exact .inl rfl
  · exact .inl rfl
  · exact .inl rfl
  · exact .inl rfl
  · exact .inl rfl
  · exact .inl rfl
  · exact .inl rfl
  · exact .inl rfl
  · exact .inl rfl
  · exact .inl rfl
  · exact .inl rfl
  · exact .inl rfl
  · exact .inl rfl
  · exact .inl rfl
  · exact .inl rfl
  · exact .inl rfl
  · exact .inl rfl
  · exact .inl rfl
  · exact .inl rfl
  · exact .inl rfl
  · exact .inl rfl
  · exact .inl rfl
  · exact .inl rfl
  · exact .inr (.inl rfl)
  · exact .inl rfl
theorem apart_3860 (f : FileM) (v : BitVec 32) (n : Int) (h : n ∈ allL) : Apart13 f 3860 n v := by
  have c : n = 256 ∨ n = 260 ∨ n = 261 ∨ n = 320 ∨ n = 321 ∨ n = 322 ∨ n = 323 ∨ n = 324 ∨ n = 384 ∨ n = 768 ∨ n = 769 ∨ n = 770 ∨ n = 771 ∨ n = 772 ∨ n = 773 ∨ n = 832 ∨ n = 833 ∨ n = 834 ∨ n = 835 ∨ n = 836 ∨ n = 2816 ∨ n = 2944 ∨ n = 3072 ∨ n = 3200 ∨ n = 3857 ∨ n = 3860 := by simpa [allL] using h
  unfold Apart13
  rw [wrF_3860]
  rcases c with rfl | rfl | rfl | rfl | rfl | rfl | rfl | rfl | rfl | rfl | rfl | rfl | rfl | rfl | rfl | rfl | rfl | rfl | rfl | rfl | rfl | rfl | rfl | rfl | rfl | rfl
  · exact .inl rfl
  · exact .inl rfl
  · exact .inl rfl
  · exact .inl rfl
  · exact .inl rfl
  · exact .inl rfl
  · exact .inl rfl
  · exact .inl rfl
  · exact .inl rfl
  · exact .inl rfl
  · exact .inl rfl
  · exact .inl rfl
  · exact .inl rfl
  · exact .inl rfl
  · exact .inl rfl
  · exact .inl rfl
  · exact .inl rfl
  · exact .inl rfl
  · exact .inl rfl
  · exact .inl rfl
  · exact .inl rfl
  · exact .inl rfl
  · exact .inl rfl
  · exact .inl rfl
  · exact .inl rfl
  · exact .inr (.inl rfl)
theorem wr_apart (f : FileM) (m n : Int) (v : BitVec 32) (hm : m ∈ allL) (hn : n ∈ allL) : Apart13 f m n v := by
  have c : m = 256 ∨ m = 260 ∨ m = 261 ∨ m = 320 ∨ m = 321 ∨ m = 322 ∨ m = 323 ∨ m = 324 ∨ m = 384 ∨ m = 768 ∨ m = 769 ∨ m = 770 ∨ m = 771 ∨ m = 772 ∨ m = 773 ∨ m = 832 ∨ m = 833 ∨ m = 834 ∨ m = 835 ∨ m = 836 ∨ m = 2816 ∨ m = 2944 ∨ m = 3072 ∨ m = 3200 ∨ m = 3857 ∨ m = 3860 := by simpa [allL] using hm
  rcases c with rfl | rfl | rfl | rfl | rfl | rfl | rfl | rfl | rfl | rfl | rfl | rfl | rfl | rfl | rfl | rfl | rfl | rfl | rfl | rfl | rfl | rfl | rfl | rfl | rfl | rfl
  · exact apart_256 f v n hn
  · exact apart_260 f v n hn
  · exact apart_261 f v n hn
  · exact apart_320 f v n hn
  · exact apart_321 f v n hn
  · exact apart_322 f v n hn
  · exact apart_323 f v n hn
  · exact apart_324 f v n hn
  · exact apart_384 f v n hn
  · exact apart_768 f v n hn
  · exact apart_769 f v n hn
  · exact apart_770 f v n hn
  · exact apart_771 f v n hn
  · exact apart_772 f v n hn
  · exact apart_773 f v n hn
  · exact apart_832 f v n hn
  · exact apart_833 f v n hn
  · exact apart_834 f v n hn
  · exact apart_835 f v n hn
  · exact apart_836 f v n hn
  · exact apart_2816 f v n hn
  · exact apart_2944 f v n hn
  · exact apart_3072 f v n hn
  · exact apart_3200 f v n hn
  · exact apart_3857 f v n hn
  · exact apart_3860 f v n hn
end Go.Proofs.Ytedpeojgpnnddaa.Bm
