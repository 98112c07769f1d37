/- DecodeTells: what any word says is the document's. -/
import Derived.Test.YtdloaeifiohefaaDoorDecV
namespace Go.Proofs.YtdloaeifiohefaaDoor
open Go.RowKit Bm

theorem decodeTells_walk (a0 : Int) (b0 : (Lit.int .u32 a0).wf = true) (w : World) (hT : Tabs w) :
    Calls Tryd.prog 3 #[.int .u32 a0] w fun e w' => e = .returned (.bool true) ∧ Below w.heap.size w w' := by
  have bd := bounds_u32 b0
  obtain ⟨x, rfl⟩ := U_of bd.1 (by omega)
  have HT := Lib.hid hT
  have HW := Lib.hid (fun W (h : Tabs W) => word_any x W h)
  have HV := Lib.hid (fun W => rword_any x W)
  obtain ⟨o, ho⟩ : ∃ o, o = wordM x := ⟨_, rfl⟩
  obtain ⟨s, hs⟩ : ∃ s, s = isM x := ⟨_, rfl⟩
  rw [← ho, ← hs] at HW HV
  have hq : ∀ W : World, (Op.equalIn 10000 28 (.agg (opC o).toArray) (.agg (opC o).toArray)).run Tryd.prog W = .ok true W := fun W => (run_eqR o o W).trans (by simp)
  clear hT ho hs b0 bd
  go_enter Tryd.func3, Tryd.ntmps3
  go_wp2_with (first
    | (go_at_call 9; (with_reducible refine (alive11_any _ HT.out).mono ?_); rintro e w1 ⟨rfl, hb⟩; have L1 := Lib.hid hb; clear hb)
    | (go_at_call 10; (with_reducible refine (HW.out _ (HT.out.below L1.out HT.out.two)).mono ?_); rintro e w2 ⟨rfl, hb⟩; have L2 := Lib.hid (L1.out.trans (hb.mono L1.out.size)); clear hb)
    | (refine wpList_newO 25 o w2 _ _ rfl rfl rfl rfl rfl op_size ?_; intro w3 hA hb; have A3 := Lib.hid hA; have L3 := Lib.hid (L2.out.trans (hb.mono L2.out.size)); clear hA hb)
    | (go_at_call 11; (with_reducible refine (HV.out _).mono ?_); rintro e w4 ⟨rfl, hb⟩; have A4 := Lib.hid (at_keep A3.out hb); have L4 := Lib.hid (L3.out.trans (hb.mono L3.out.size)); clear hb)
    | (refine wpList_newO 28 o w4 _ _ rfl rfl rfl rfl rfl rop_size ?_; intro w5 hA hb; have A5 := Lib.hid hA; have B5 := Lib.hid (at_keep A4.out hb); have L5 := Lib.hid (L4.out.trans (hb.mono L4.out.size)); clear hA hb)
    | (refine wpList_ldw _ (by rfl) rfl rfl Tryd.underlying25 rfl op_size rfl B5.out.rng0 ?_)
    | (refine wpList_ldw _ (by rfl) rfl rfl Tryd.underlying28 rfl rop_size rfl A5.out.rng0 ?_))
  go_ret
  exact ⟨by simp, L5.out⟩
end Go.Proofs.YtdloaeifiohefaaDoor
