/- CsrReads: what is read of any register is the document's. -/
import Derived.Test.YtedpeojgpnnddaaCsrV
import Derived.Test.YtedpeojgpnnddaaCsrE
import Derived.Deep.DeepCutAuto
namespace Go.Proofs.Ytedpeojgpnnddaa
open Go.RowKit Bm

set_option maxHeartbeats 4000000 in
theorem csrReads_walk (f : FileM) (a1 : Int) (_ : (Lit.int .i64 a1).wf = true) (a2 : Int) (_ : (Lit.int .i64 a2).wf = true) (w : World) :
    Calls Try.prog 3 #[.agg (flC f).toArray, .int .i64 a1, .int .i64 a2] w fun e w' => e = .returned (.bool true) ∧ Below w.heap.size w w' := by
  have HP := Lib.hid (fun W => read13_any f a1 a2 W)
  have HD := Lib.hid (fun W => r13read_any f a1 a2 W)
  generalize rdM f a1 a2 = r at *
  generalize rdIs a1 a2 = t at *

  go_enter Try.func3, Try.ntmps3
  go_upto_region 1 with (fail)
  obtain ⟨W1, hW1⟩ : ∃ W, W = w.alloc (.cells (flC f).toArray 25) := ⟨_, rfl⟩
  have hB := (Below.refl w.heap.size w).alloc (Nat.le_refl _) (.cells (flC f).toArray 25)
  have hA : At W1 w.heap.size 25 (flC f) := by rw [hW1]; exact At.news w 25 (flC f)
  rw [← hW1] at hB
  try rw [← hW1]
  have LW1 := Lib.hid hB
  have A1 := Lib.hid hA
  clear hW1 hB hA
  go_wp2_with (first
    | (go_at_call 10; (with_reducible refine (alive13_any _).mono ?_); rintro e w2 ⟨rfl, hb⟩; have A2 := Lib.hid (A1.out.keep hb); have Lw2 := Lib.hid (LW1.out.trans (hb.mono LW1.out.size)); clear hb)
    | (refine wpList_ldS (flC f) _ A2.out (by rfl) rfl rfl Try.underlying25 rfl r13fl_size rfl ?_)
    | (go_at_call 11; (with_reducible refine (HP.out _).mono ?_); rintro e w3 ⟨rfl, hb⟩; have A3 := Lib.hid (A2.out.keep hb); have Lw3 := Lib.hid (Lw2.out.trans (hb.mono Lw2.out.size)); clear hb)
    | (refine wpList_ldS (flC f) _ A3.out (by rfl) rfl rfl Try.underlying25 rfl r13fl_size rfl ?_)
    | (go_at_call 12; (with_reducible refine (HD.out _).mono ?_); rintro e w4 ⟨rfl, hb⟩; have Lw4 := Lib.hid (Lw3.out.trans (hb.mono Lw3.out.size)); clear hb))
  go_ret
  exact ⟨by simp, Lw4.out⟩
end Go.Proofs.Ytedpeojgpnnddaa
