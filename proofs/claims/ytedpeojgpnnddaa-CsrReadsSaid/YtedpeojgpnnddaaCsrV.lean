/- The answers that the document fixes (layer csr); registers of state compared. -/
import Derived.Test.YtedpeojgpnnddaaCsrP
import Derived.Test.YtedpeojgpnnddaaCsrW
import Derived.OpenShut
namespace Go.Proofs.Ytedpeojgpnnddaa
open Go.RowKit Bm

theorem cfl_size : (Try.prog.info? 29).map (·.size) = some 17 := by kernel_rfl
theorem field_mip (g : FileM) (w : World) : (Instr.field 29 (.agg (flC g).toArray) 4).run Try.prog w = .ok (.int .u32 (U g.mip)) w := by kernel_rfl
theorem fix13 : rdM fl0 769 3 = 1075056897#32 ∧ rdIs 769 3 = true ∧ rdM fl0 768 1 = 0#32 ∧ rdIs 768 1 = false ∧ wrIs 832 3 = true ∧ rdM (wrM fl0 832 3 7#32) 832 3 = 7#32 ∧ rdIs 832 3 = true ∧ wrM fl0 3072 3 7#32 = fl0 ∧ wrIs 3072 3 = false ∧ (lnM (wrM fl0 832 3 7#32) 4095#32).mip = 2184#32 := by decide +kernel
set_option maxHeartbeats 2000000 in
theorem alive13_any (w : World) : Calls Try.prog 10 #[] w fun e w' => e = .returned (.bool true) ∧ Below w.heap.size w w' := by
  obtain ⟨e1, e2, e3, e4, e5, e6, e7, e8, e9, e10⟩ := fix13
  have R1 : Hid (∀ W, Calls Try.prog 11 #[.agg #[.int .u32 0, .int .u32 0, .int .u32 0, .int .u32 0, .int .u32 0, .int .u32 0, .int .u32 0, .int .u32 0, .int .u32 0, .int .u32 0, .int .u32 0, .int .u32 0, .int .u32 0, .int .u32 0, .int .u32 0, .int .u32 0, .int .u64 0], .int .i64 769, .int .i64 3] W fun e w' => e = .returned (.tuple #[.int .u32 1075056897, .bool true]) ∧ Below W.heap.size W w') := Lib.hid (fun W => by
    have := read13_any fl0 769 3 W
    rw [e1, e2] at this
    exact this)
  have R2 : Hid (∀ W, Calls Try.prog 11 #[.agg #[.int .u32 0, .int .u32 0, .int .u32 0, .int .u32 0, .int .u32 0, .int .u32 0, .int .u32 0, .int .u32 0, .int .u32 0, .int .u32 0, .int .u32 0, .int .u32 0, .int .u32 0, .int .u32 0, .int .u32 0, .int .u32 0, .int .u64 0], .int .i64 768, .int .i64 1] W fun e w' => e = .returned (.tuple #[.int .u32 0, .bool false]) ∧ Below W.heap.size W w') := Lib.hid (fun W => by
    have := read13_any fl0 768 1 W
    rw [e3, e4] at this
    exact this)
  obtain ⟨F, hF⟩ : ∃ F, F = wrM fl0 832 3 7#32 := ⟨_, rfl⟩
  have P1 : Hid (∀ W, Calls Try.prog 13 #[.agg #[.int .u32 0, .int .u32 0, .int .u32 0, .int .u32 0, .int .u32 0, .int .u32 0, .int .u32 0, .int .u32 0, .int .u32 0, .int .u32 0, .int .u32 0, .int .u32 0, .int .u32 0, .int .u32 0, .int .u32 0, .int .u32 0, .int .u64 0], .int .i64 832, .int .i64 3, .int .u32 7] W fun e w' => e = .returned (.tuple #[.agg (flC F).toArray, .bool true]) ∧ Below W.heap.size W w') := Lib.hid (fun W => by
    have := write13_any fl0 832 3 7#32 W
    rw [e5, ← hF] at this
    exact this)
  have R3 : Hid (∀ W, Calls Try.prog 11 #[.agg (flC F).toArray, .int .i64 832, .int .i64 3] W fun e w' => e = .returned (.tuple #[.int .u32 7, .bool true]) ∧ Below W.heap.size W w') := Lib.hid (fun W => by
    have := read13_any F 832 3 W
    rw [hF, e6, e7] at this
    rw [hF]
    exact this)
  obtain ⟨O, hO⟩ : ∃ O, O = fl0 := ⟨_, rfl⟩
  have P2 : Hid (∀ W, Calls Try.prog 13 #[.agg #[.int .u32 0, .int .u32 0, .int .u32 0, .int .u32 0, .int .u32 0, .int .u32 0, .int .u32 0, .int .u32 0, .int .u32 0, .int .u32 0, .int .u32 0, .int .u32 0, .int .u32 0, .int .u32 0, .int .u32 0, .int .u32 0, .int .u64 0], .int .i64 3072, .int .i64 3, .int .u32 7] W fun e w' => e = .returned (.tuple #[.agg (flC O).toArray, .bool false]) ∧ Below W.heap.size W w') := Lib.hid (fun W => by
    have := write13_any fl0 3072 3 7#32 W
    rw [e8, e9] at this
    rw [hO]
    exact this)
  obtain ⟨G, hG⟩ : ∃ G, G = lnM F 4095#32 := ⟨_, rfl⟩
  have hm : U G.mip = 2184 := by rw [hG, hF, e10]; rfl
  have LN : Hid (∀ W, Calls Try.prog 15 #[.agg (flC F).toArray, .int .u32 4095] W fun e w' => e = .returned (.agg (flC G).toArray) ∧ Below W.heap.size W w') := Lib.hid (fun W => by
    have := lines13_any F 4095#32 W
    rw [← hG] at this
    exact this)
  have hf : ∀ W, (Instr.field 29 (.agg (flC G).toArray) 4).run Try.prog W = .ok (.int .u32 2184) W := fun W => by rw [← hm]; exact field_mip G W
  clear e1 e2 e3 e4 e5 e6 e7 e8 e9 e10 hF hG hm hO
  go_enter Try.func10, Try.ntmps10
  go_wp2_with (first
    | (go_at_call 11; (with_reducible refine (R1.out _).mono ?_); rintro e w1 ⟨rfl, hb⟩; have L1 := Lib.hid hb; clear hb)
    | (go_at_call 11; (with_reducible refine (R2.out _).mono ?_); rintro e w2 ⟨rfl, hb⟩; have L2 := Lib.hid (L1.out.trans (hb.mono L1.out.size)); clear hb)
    | (go_at_call 13; (with_reducible refine (P1.out _).mono ?_); rintro e w3 ⟨rfl, hb⟩; have L3 := Lib.hid (L2.out.trans (hb.mono L2.out.size)); clear hb)
    | (refine wpList_newS 29 [.int .u32 0, .int .u32 0, .int .u32 0, .int .u32 0, .int .u32 0, .int .u32 0, .int .u32 0, .int .u32 0, .int .u32 0, .int .u32 0, .int .u32 0, .int .u32 0, .int .u32 0, .int .u32 0, .int .u32 0, .int .u32 0, .int .u64 0] (flC F) w3 _ _ rfl rfl rfl rfl rfl cfl_size rfl rfl (fl_one _) ?_; intro w4 hA hb; have A4 := Lib.hid hA; have L4 := Lib.hid (L3.out.trans (hb.mono L3.out.size)); clear hA hb)
    | (refine wpList_ldS (flC F) _ A4.out (by rfl) rfl rfl Try.underlying29 rfl cfl_size rfl ?_)
    | (go_at_call 11; (with_reducible refine (R3.out _).mono ?_); rintro e w5 ⟨rfl, hb⟩; have A5 := Lib.hid (A4.out.keep hb); have L5 := Lib.hid (L4.out.trans (hb.mono L4.out.size)); clear hb)
    | (go_at_call 13; (with_reducible refine (P2.out _).mono ?_); rintro e w6 ⟨rfl, hb⟩; have A6 := Lib.hid (A5.out.keep hb); have L6 := Lib.hid (L5.out.trans (hb.mono L5.out.size)); clear hb)
    | (refine wpList_newS 29 [.int .u32 0, .int .u32 0, .int .u32 0, .int .u32 0, .int .u32 0, .int .u32 0, .int .u32 0, .int .u32 0, .int .u32 0, .int .u32 0, .int .u32 0, .int .u32 0, .int .u32 0, .int .u32 0, .int .u32 0, .int .u32 0, .int .u64 0] (flC O) w6 _ _ rfl rfl rfl rfl rfl cfl_size rfl rfl (fl_one _) ?_; intro w7 hA hb; have A7 := Lib.hid (A6.out.keep hb); have L7 := Lib.hid (L6.out.trans (hb.mono L6.out.size)); clear hA hb)
    | (refine wpList_ldS (flC F) _ A7.out (by rfl) rfl rfl Try.underlying29 rfl cfl_size rfl ?_)
    | (go_at_call 15; (with_reducible refine (LN.out _).mono ?_); rintro e w8 ⟨rfl, hb⟩; have L8 := Lib.hid (L7.out.trans (hb.mono L7.out.size)); clear hb))
  go_ret
  exact ⟨rfl, L8.out⟩
end Go.Proofs.Ytedpeojgpnnddaa
