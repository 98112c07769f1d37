/- Layer decode: the answers that the document fixes; what a statement's variables hold. -/
import Derived.Test.YtdloaeifiohefaaDoorDec7
import Derived.Test.YtdloaeifiohefaaDoorDecU
namespace Go.Proofs.YtdloaeifiohefaaDoor
open Go.RowKit Bm

set_option maxRecDepth 10000 in
theorem fix_all : wordM 5243027#32 = ⟨19, 1, 0, 0, 5#32⟩ ∧ isM 5243027#32 = true ∧ encM ⟨19, 1, 0, 0, 5#32⟩ = 5243027#32 ∧ encB ⟨19, 1, 0, 0, 5#32⟩ = true ∧ wordM 0#32 = op0 ∧ isM 0#32 = false ∧ wrB 19 = true ∧ wrB 18 = false := by decide +kernel

theorem alive11_any (w : World) (hT : Tabs w) : Calls Tryd.prog 9 #[] w fun e w' => e = .returned (.bool true) ∧ Below w.heap.size w w' := by
  obtain ⟨e1, e2, e3, e4, e5, e6, e7, e8⟩ := fix_all
  have HT := Lib.hid hT
  have HW1 : Hid (∀ W, Tabs W → Calls Tryd.prog 10 #[.int .u32 5243027] W fun e w' => e = .returned (.tuple #[.agg #[.int .i64 19, .int .i64 1, .int .i64 0, .int .i64 0, .int .u32 5], .bool true]) ∧ Below W.heap.size W w') := Lib.hid (fun W h => by
    have := word_any 5243027#32 W h
    rw [e1, e2] at this
    exact this)
  have HE1 : Hid (∀ W, Tabs W → Calls Tryd.prog 12 #[.agg #[.int .i64 19, .int .i64 1, .int .i64 0, .int .i64 0, .int .u32 5]] W fun e w' => e = .returned (.tuple #[.int .u32 5243027, .bool true]) ∧ Below W.heap.size W w') := Lib.hid (fun W h => by
    have := encode_any 19 1 0 0 5#32 W h
    rw [e3, e4] at this
    exact this)
  have HW2 : Hid (∀ W, Tabs W → Calls Tryd.prog 10 #[.int .u32 0] W fun e w' => e = .returned (.tuple #[.agg #[.int .i64 0, .int .i64 0, .int .i64 0, .int .i64 0, .int .u32 0], .bool false]) ∧ Below W.heap.size W w') := Lib.hid (fun W h => by
    have := word_any 0#32 W h
    rw [e5, e6] at this
    exact this)
  have HR1 : Hid (∀ W, Calls Tryd.prog 14 #[.int .i64 19] W fun e w' => e = .returned (.bool true) ∧ Below W.heap.size W w') := Lib.hid (fun W => by have := writes_any 19 W; rw [e7] at this; exact this)
  have HR2 : Hid (∀ W, Calls Tryd.prog 14 #[.int .i64 18] W fun e w' => e = .returned (.bool false) ∧ Below W.heap.size W w') := Lib.hid (fun W => by have := writes_any 18 W; rw [e8] at this; exact this)
  have hq : ∀ W : World, (Op.equalIn 10000 25 (.agg (opC ⟨19, 1, 0, 0, 5#32⟩).toArray) (.agg #[.int .i64 19, .int .i64 1, .int .i64 0, .int .i64 0, .int .u32 5])).run Tryd.prog W = .ok true W := fun W => run_eqO ⟨19, 1, 0, 0, 5#32⟩ ⟨19, 1, 0, 0, 5#32⟩ W
  clear hT e1 e2 e3 e4 e5 e6 e7 e8
  go_enter Tryd.func9, Tryd.ntmps9
  go_wp2_with (first
    | (go_at_call 10; (with_reducible refine (HW1.out _ HT.out).mono ?_); rintro e w1 ⟨rfl, hb⟩; have L1 := Lib.hid hb; clear hb)
    | (go_at_call 12; (with_reducible refine (HE1.out _ (HT.out.below (L1.out.alloc L1.out.size _) HT.out.two)).mono ?_); rintro e w2 ⟨rfl, hb⟩; have L2 := Lib.hid ((L1.out.alloc L1.out.size (.cells #[.int .i64 19, .int .i64 1, .int .i64 0, .int .i64 0, .int .u32 5] 25)).trans (hb.mono (L1.out.alloc L1.out.size _).size)); have A2 := Lib.hid (at_keep (At.news w1 25 (opC ⟨19, 1, 0, 0, 5#32⟩)) hb); clear hb)
    | (go_at_call 10; (with_reducible refine (HW2.out _ (HT.out.below L2.out HT.out.two)).mono ?_); rintro e w3 ⟨rfl, hb⟩; have L3 := Lib.hid (L2.out.trans (hb.mono L2.out.size)); have A3 := Lib.hid (at_keep A2.out hb); clear hb)
    | (refine wpList_ldw _ (by rfl) rfl rfl Tryd.underlying25 rfl op_size rfl (A3.out.alloc _).rng0 ?_)
    | (go_at_call 14; (with_reducible refine (HR1.out _).mono ?_); rintro e w4 ⟨rfl, hb⟩; have L4 := Lib.hid ((L3.out.alloc L3.out.size _).trans (hb.mono (L3.out.alloc L3.out.size _).size)); clear hb)
    | (go_at_call 14; (with_reducible refine (HR2.out _).mono ?_); rintro e w5 ⟨rfl, hb⟩; have L5 := Lib.hid (L4.out.trans (hb.mono L4.out.size)); clear hb))
  go_ret
  exact ⟨rfl, L5.out⟩

section
variable {ops : Array Oper} {rest : List Oper} {o : Oper} {a : Go.Act} {w : World} {Q : Exit → Go.Act → World → Prop}
/-- An op stored into a variable that has just been laid. -/
theorem wpList_newO (T : TypeId) (v : OpM) (W : World) (x y : Operand) (hgd : o.guard = none) (ho : o.op = .store T x y) (hy : a.eval y = .agg (opC v).toArray) (hx : a.eval x = .pointer (some ⟨W.heap.size, 0, none⟩)) (hw : w = W.alloc (.cells (opC op0).toArray T)) (hi : (Tryd.prog.info? T).map (·.size) = some 5)
    (h : ∀ w', At w' W.heap.size T (opC v) → Below W.heap.size W w' → wpList Tryd.prog ops Q rest (a.put o.dst undef) w') : wpList Tryd.prog ops Q (o :: rest) a w := by
  subst hw
  refine wpList_stm (xs := opC op0) (pre := []) (post := []) x y hgd ho hx hy hi rfl rfl (op_one _) rfl (by simp) (At.news W T (opC op0)) fun w' hA hT => ?_
  rw [List.nil_append, List.append_nil] at hA
  exact h w' hA (((Below.refl _ W).alloc (Nat.le_refl _) _).trans (hT.below (B := W.heap.size) (fun k hk => by unfold Just at hk; omega) (by simp)))
end
end Go.Proofs.YtdloaeifiohefaaDoor
