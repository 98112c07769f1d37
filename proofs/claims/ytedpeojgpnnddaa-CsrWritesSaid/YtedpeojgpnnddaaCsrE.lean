/- Registers of state compared by value (layer csr). -/
import Derived.Test.YtedpeojgpnnddaaCsrM
import Derived.Test.YtedpeojgpnnddaaSEq
namespace Go.Proofs.Ytedpeojgpnnddaa
open Go.RowKit Bm

def flK (i : Nat) : IntKind := if i = 16 then .u64 else .u32
def flV (f : FileM) (i : Nat) : Int := match i with
  | 0 => U f.st
  | 1 => U f.md
  | 2 => U f.ml
  | 3 => U f.mie
  | 4 => U f.mip
  | 5 => U f.mtvec
  | 6 => U f.mscr
  | 7 => U f.mepc
  | 8 => U f.mcause
  | 9 => U f.mtval
  | 10 => U f.stvec
  | 11 => U f.sscr
  | 12 => U f.sepc
  | 13 => U f.scause
  | 14 => U f.stval
  | 15 => U f.satp
  | _ => f.cyc
theorem fl_at (f : FileM) (i : Nat) (h : i < 17) : (flC f).toArray[i]? = some (.int (flK i) (flV f i)) := by
  have c : i = 0 ∨ i = 1 ∨ i = 2 ∨ i = 3 ∨ i = 4 ∨ i = 5 ∨ i = 6 ∨ i = 7 ∨ i = 8 ∨ i = 9 ∨ i = 10 ∨ i = 11 ∨ i = 12 ∨ i = 13 ∨ i = 14 ∨ i = 15 ∨ i = 16 := by omega
  rcases c with rfl | rfl | rfl | rfl | rfl | rfl | rfl | rfl | rfl | rfl | rfl | rfl | rfl | rfl | rfl | rfl | rfl <;> rfl
theorem cyc_eq (x y : FileM) : x.cyc = y.cyc ↔ x.hi = y.hi ∧ x.lo = y.lo := by
  constructor
  · intro h
    exact cyc_inj h
  · rintro ⟨h1, h2⟩
    unfold FileM.cyc
    rw [h1, h2]
theorem fl_beq (x y : FileM) : ((List.range 17).all fun o => flV x o == flV y o) = decide (x = y) := by
  rw [Bool.eq_iff_iff]
  simp only [List.all_eq_true, List.mem_range, beq_iff_eq, decide_eq_true_eq]
  constructor
  · intro h
    have h0 : x.st = y.st := U_inj (h 0 (by omega))
    have h1 : x.md = y.md := U_inj (h 1 (by omega))
    have h2 : x.ml = y.ml := U_inj (h 2 (by omega))
    have h3 : x.mie = y.mie := U_inj (h 3 (by omega))
    have h4 : x.mip = y.mip := U_inj (h 4 (by omega))
    have h5 : x.mtvec = y.mtvec := U_inj (h 5 (by omega))
    have h6 : x.mscr = y.mscr := U_inj (h 6 (by omega))
    have h7 : x.mepc = y.mepc := U_inj (h 7 (by omega))
    have h8 : x.mcause = y.mcause := U_inj (h 8 (by omega))
    have h9 : x.mtval = y.mtval := U_inj (h 9 (by omega))
    have h10 : x.stvec = y.stvec := U_inj (h 10 (by omega))
    have h11 : x.sscr = y.sscr := U_inj (h 11 (by omega))
    have h12 : x.sepc = y.sepc := U_inj (h 12 (by omega))
    have h13 : x.scause = y.scause := U_inj (h 13 (by omega))
    have h14 : x.stval = y.stval := U_inj (h 14 (by omega))
    have h15 : x.satp = y.satp := U_inj (h 15 (by omega))
    have h16 := (cyc_eq x y).1 (h 16 (by omega))
    cases x
    cases y
    simp only [FileM.mk.injEq]
    exact ⟨h0, h1, h2, h3, h4, h5, h6, h7, h8, h9, h10, h11, h12, h13, h14, h15, h16.2, h16.1⟩
  · rintro rfl i _
    rfl
/-- The document's registers. -/
theorem run_eqR (x y : FileM) (w : World) : (Op.equalIn 10000 25 (.agg (flC x).toArray) (.agg (flC y).toArray)).run Try.prog w = .ok (decide (x = y)) w := by
  rw [← fl_beq]
  exact run_eqS 9998 (n := 17) _ _ (flV x) (flV y) flK w (by kernel_rfl) (by kernel_rfl) (by kernel_rfl) (by kernel_rfl) (by kernel_rfl) (fl_at x) (fl_at y)
/-- The program's registers. -/
theorem run_eqC (x y : FileM) (w : World) : (Op.equalIn 10000 29 (.agg (flC x).toArray) (.agg (flC y).toArray)).run Try.prog w = .ok (decide (x = y)) w := by
  rw [← fl_beq]
  exact run_eqS 9998 (n := 17) _ _ (flV x) (flV y) flK w (by kernel_rfl) (by kernel_rfl) (by kernel_rfl) (by kernel_rfl) (by kernel_rfl) (fl_at x) (fl_at y)
end Go.Proofs.Ytedpeojgpnnddaa
