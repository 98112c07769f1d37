/- Plain mathematics of layer csr: a hart's registers of state, what is read of them, what a write makes of them. -/
import Derived.Test.YtedpeojgpnnddaaBitsMem
namespace Go.Proofs.Ytedpeojgpnnddaa.Bm
open Go Go.RowKit

/-- The registers; the counter in halves. -/
structure FileM where
  st : BitVec 32
  md : BitVec 32
  ml : BitVec 32
  mie : BitVec 32
  mip : BitVec 32
  mtvec : BitVec 32
  mscr : BitVec 32
  mepc : BitVec 32
  mcause : BitVec 32
  mtval : BitVec 32
  stvec : BitVec 32
  sscr : BitVec 32
  sepc : BitVec 32
  scause : BitVec 32
  stval : BitVec 32
  satp : BitVec 32
  lo : BitVec 32
  hi : BitVec 32
  deriving DecidableEq, Inhabited
def FileM.cyc (f : FileM) : Int := U f.hi * 4294967296 + U f.lo
def flC (f : FileM) : List Value := [.int .u32 (U f.st), .int .u32 (U f.md), .int .u32 (U f.ml), .int .u32 (U f.mie), .int .u32 (U f.mip), .int .u32 (U f.mtvec), .int .u32 (U f.mscr), .int .u32 (U f.mepc), .int .u32 (U f.mcause), .int .u32 (U f.mtval), .int .u32 (U f.stvec), .int .u32 (U f.sscr), .int .u32 (U f.sepc), .int .u32 (U f.scause), .int .u32 (U f.stval), .int .u32 (U f.satp), .int .u64 f.cyc]
def fl0 : FileM := ⟨0#32, 0#32, 0#32, 0#32, 0#32, 0#32, 0#32, 0#32, 0#32, 0#32, 0#32, 0#32, 0#32, 0#32, 0#32, 0#32, 0#32, 0#32⟩
theorem fl_len (f : FileM) : (flC f).length = 17 := rfl
theorem fl_one (f : FileM) : ∀ u ∈ flC f, u.oneCell' = true := by
  intro u hu
  simp only [flC, List.mem_cons, List.not_mem_nil, or_false] at hu
  rcases hu with rfl | rfl | rfl | rfl | rfl | rfl | rfl | rfl | rfl | rfl | rfl | rfl | rfl | rfl | rfl | rfl | rfl <;> rfl
theorem cyc_b (f : FileM) : 0 ≤ f.cyc ∧ f.cyc < 18446744073709551616 := by
  have := U_nonneg f.hi
  have := U_lt f.hi
  have := U_nonneg f.lo
  have := U_lt f.lo
  unfold FileM.cyc
  omega
theorem cyc_lo (f : FileM) : f.cyc % 4294967296 = U f.lo := by
  have := U_nonneg f.lo
  have := U_lt f.lo
  unfold FileM.cyc
  omega
theorem cyc_hi (f : FileM) : f.cyc / 4294967296 = U f.hi := by
  have := U_nonneg f.lo
  have := U_lt f.lo
  unfold FileM.cyc
  omega
theorem cyc_inj {h l h' l' : BitVec 32} (e : U h * 4294967296 + U l = U h' * 4294967296 + U l') : h = h' ∧ l = l' := by
  have := U_nonneg l
  have := U_lt l
  have := U_nonneg l'
  have := U_lt l'
  exact ⟨U_inj (by omega), U_inj (by omega)⟩
/-- A word with other bits where a mask has them. -/
def maskB (old v m : BitVec 32) : BitVec 32 := (old &&& ~~~m) ||| (v &&& m)
/-- What of a word is written to mstatus. -/
def stV (v : BitVec 32) : BitVec 32 := if U v / 2048 % 4 = 2 then v - 4096#32 else v
def numL : List Int := [256, 260, 261, 320, 321, 322, 323, 324, 384, 768, 769, 770, 771, 772, 773, 832, 833, 834, 835, 836, 2816, 2944, 3072, 3200, 3857, 3858, 3859, 3860]
def knIs (n : Int) : Bool := numL.contains n
def knM (f : FileM) (n : Int) : BitVec 32 :=
  if n = 256 then f.st &&& 786722#32
  else if n = 260 then f.mie &&& f.ml
  else if n = 261 then f.stvec
  else if n = 320 then f.sscr
  else if n = 321 then f.sepc
  else if n = 322 then f.scause
  else if n = 323 then f.stval
  else if n = 324 then f.mip &&& f.ml
  else if n = 384 then f.satp
  else if n = 768 then f.st
  else if n = 769 then 1075056897#32
  else if n = 770 then f.md
  else if n = 771 then f.ml
  else if n = 772 then f.mie
  else if n = 773 then f.mtvec
  else if n = 832 then f.mscr
  else if n = 833 then f.mepc
  else if n = 834 then f.mcause
  else if n = 835 then f.mtval
  else if n = 836 then f.mip
  else if n = 2816 then f.lo
  else if n = 3072 then f.lo
  else if n = 2944 then f.hi
  else if n = 3200 then f.hi
  else 0#32
def rdIs (n p : Int) : Bool := knIs n && decide (n / 256 % 4 ≤ p)
def rdM (f : FileM) (n p : Int) : BitVec 32 := if rdIs n p then knM f n else 0#32
def wrIs (n p : Int) : Bool := rdIs n p && !decide (n / 1024 % 4 = 3)
def wrF (f : FileM) (n : Int) (v : BitVec 32) : FileM :=
  if n = 256 then { f with st := maskB f.st v 786722#32 }
  else if n = 260 then { f with mie := maskB f.mie v f.ml }
  else if n = 261 then { f with stvec := v &&& 4294967293#32 }
  else if n = 320 then { f with sscr := v }
  else if n = 321 then { f with sepc := v &&& 4294967292#32 }
  else if n = 322 then { f with scause := v }
  else if n = 323 then { f with stval := v }
  else if n = 324 then { f with mip := maskB f.mip v (f.ml &&& 2#32) }
  else if n = 384 then { f with satp := v }
  else if n = 768 then { f with st := maskB f.st (stV v) 924074#32 }
  else if n = 770 then { f with md := maskB f.md v 46079#32 }
  else if n = 771 then { f with ml := maskB f.ml v 546#32 }
  else if n = 772 then { f with mie := maskB f.mie v 2730#32 }
  else if n = 773 then { f with mtvec := v &&& 4294967293#32 }
  else if n = 832 then { f with mscr := v }
  else if n = 833 then { f with mepc := v &&& 4294967292#32 }
  else if n = 834 then { f with mcause := v }
  else if n = 835 then { f with mtval := v }
  else if n = 836 then { f with mip := maskB f.mip v 546#32 }
  else if n = 2816 then { f with lo := v }
  else if n = 2944 then { f with hi := v }
  else f
def wrM (f : FileM) (n p : Int) (v : BitVec 32) : FileM := if wrIs n p then wrF f n v else f
def lnM (f : FileM) (l : BitVec 32) : FileM := { f with mip := maskB f.mip l 2184#32 }

theorem gb_mask (o v m : BitVec 32) (i : Int) (h0 : 0 ≤ i) (h1 : i < 32) : gb (maskB o v m) i = if gb m i then gb v i else gb o i := by
  unfold maskB
  rw [gb_or, gb_and, gb_and, gb_not]
  have d : decide (0 ≤ i ∧ i < 32) = true := by simp; omega
  rw [d]
  cases gb m i <;> simp
theorem mask_sum (o v m : BitVec 32) : (U (o &&& ~~~m) + U (v &&& m)) % 4294967296 = U (maskB o v m) := by
  rw [U_add]
  congr 1
  unfold maskB
  apply BitVec.add_eq_or_of_and_eq_zero
  apply gb_ext; intro i h0 h1
  rw [gb_and, gb_and, gb_and, gb_not, gb_zero]
  cases gb m i <;> simp
theorem mask_not (m : BitVec 32) : (4294967295 - U m) % 4294967296 = U (~~~m) := by
  have := U_nonneg m
  have := U_lt m
  unfold U at *
  rw [BitVec.toNat_not]
  omega
theorem mask_same (o m : BitVec 32) : maskB o o m = o := by
  apply gb_ext; intro i h0 h1
  rw [gb_mask _ _ _ _ h0 h1]
  split <;> rfl
theorem mask_again (o v m : BitVec 32) : maskB (maskB o v m) v m = maskB o v m := by
  apply gb_ext; intro i h0 h1
  simp only [gb_mask _ _ _ _ h0 h1]
  split <;> rfl
theorem mask_view (o v m : BitVec 32) : maskB (maskB o v m) (maskB o v m &&& m) m = maskB o v m := by
  apply gb_ext; intro i h0 h1
  simp only [gb_mask _ _ _ _ h0 h1, gb_and]
  cases gb m i <;> simp
/-- Read behind a write through a lesser mask, and written again. -/
theorem mask_less (o v m k : BitVec 32) : maskB (maskB o v (m &&& k)) (maskB o v (m &&& k) &&& m) (m &&& k) = maskB o v (m &&& k) := by
  apply gb_ext; intro i h0 h1
  simp only [gb_mask _ _ _ _ h0 h1, gb_and]
  cases gb m i <;> cases gb k i <;> simp
theorem and_again (v m : BitVec 32) : (v &&& m) &&& m = v &&& m := by rw [BitVec.and_assoc, BitVec.and_self]

end Go.Proofs.Ytedpeojgpnnddaa.Bm
