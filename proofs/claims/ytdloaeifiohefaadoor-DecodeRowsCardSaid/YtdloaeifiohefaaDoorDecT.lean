/- The program's two tables (layer decode): what the condition on the listed variables gives; the door's own run meets it. -/
import Derived.Test.YtdloaeifiohefaaDoorRows
import Derived.Test.YtdloaeifiohefaaDoorDec3
import Derived.ProofKit
import Derived.LaidMore
import Derived.OpenShut
import Derived.ChangeSame
import Derived.Stop.Joined
namespace Go.Proofs.YtdloaeifiohefaaDoor
open Go.ChangeShapes Go.WideShapes Go.ChangeAt Go.RowKit Bm

def laidT : List (String × DataW Unit) := [("dioptra/decode.formats", Rows.laid_dioptra_decode_formats), ("dioptra/decode.patterns", Rows.laid_dioptra_decode_patterns)]
theorem gFm : Tryd.prog.globalNamed "dioptra/decode.formats" = some 0 := by kernel_rfl
theorem gPt : Tryd.prog.globalNamed "dioptra/decode.patterns" = some 1 := by kernel_rfl
theorem tFm : (Tryd.prog.globals[0]?).map (·.type) = some 47 := by kernel_rfl
theorem tPt : (Tryd.prog.globals[1]?).map (·.type) = some 49 := by kernel_rfl
set_option maxRecDepth 100000 in
theorem pt_datum : (Rows.laid_dioptra_decode_patterns : DataW Unit) = .agg (patL.map fun x => .lit (.int .u32 (U x))) := by kernel_rfl
set_option maxRecDepth 100000 in
theorem fm_datum : (Rows.laid_dioptra_decode_formats : DataW Unit) = .agg ((List.range 13).map fun f => .agg [.lit (.int .u32 (U (mkO f))), .lit (.int .i64 (sgO f))]) := by kernel_rfl

theorem cut_one {cs : List Value} {j : Nat} {v : Value} (h : (cs.drop j).take 1 = [v]) : cs[j]? = some v := by
  have := congrArg (fun l : List Value => l[0]?) h
  simpa [List.getElem?_take, List.getElem?_drop] using this
theorem of_laid {W : World} (h : laidMetH Tryd.prog laidT W) : Tabs W := by
  rw [MakeChecks.laidMetH_plain _ _ _ (by kernel_rfl)] at h
  obtain ⟨ps, ⟨g0, t0, cs0, f0, p0, q0, hg0, ht0, hv0, hd0, ⟨g1, t1, cs1, f1, p1, q1, hg1, ht1, hv1, hd1, _, _⟩, _⟩, _, _⟩ := h
  obtain rfl := Option.some.inj (gFm.symm.trans hg0)
  obtain rfl := Option.some.inj (gPt.symm.trans hg1)
  obtain rfl := Option.some.inj (tFm.symm.trans ht0)
  obtain rfl := Option.some.inj (tPt.symm.trans ht1)
  rw [fm_datum] at hd0
  rw [pt_datum] at hd1
  have c22 : Tryd.prog.cellsOf 22 = 1 := by kernel_rfl
  have c46 : Tryd.prog.cellsOf 46 = 2 := by kernel_rfl
  obtain ⟨xs1, m1, _, hx1, _, hn1, hel1⟩ := DataW.trod_array Tryd.underlying49 hd1
  obtain ⟨xs0, m0, _, hx0, _, hn0, hel0⟩ := DataW.trod_array Tryd.underlying47 hd0
  simp only [Prod.mk.injEq, DataW.agg.injEq] at hx0 hx1
  have pt : ∀ n, n < 70 → W.cell? ⟨1, n, none⟩ = some (.int .u32 (U (patO n))) := by
    intro n hn
    have e := hel1 n hn
    rw [c22, Nat.mul_one, List.getElem?_eq_getElem (by omega)] at e
    obtain ⟨z, e1, e2, _⟩ := DataW.trod_int Tryd.underlying22 e
    have hd : (xs1.map (·.1))[n]? = some (.lit (.int .u32 (U (patO n)))) := by
      rw [← hx1.1, List.getElem?_map]
      have : patL[n]? = some (patO n) := by
        unfold patO
        rw [List.getD_eq_getElem?_getD, List.getElem?_eq_getElem (by show n < 70; exact hn)]
        rfl
      rw [this]
      rfl
    rw [List.getElem?_map, List.getElem?_eq_getElem (by omega)] at hd
    simp only [Option.map_some, Option.some.injEq] at hd
    rw [e2] at hd
    simp only [DataW.lit.injEq, Lit.int.injEq, true_and] at hd
    have := World.var?_cell hg1 hv1 n
    rw [← Array.getElem?_toList, cut_one e1, hd] at this
    exact this
  refine ⟨fun f hf => ?_, pt, ?_⟩
  · have e := hel0 f hf
    rw [c46, List.getElem?_eq_getElem (by omega)] at e
    obtain ⟨y0, y1, m2, e2, _, e3, e4⟩ := trod_struct2 Tryd.underlying46 e
    rw [c22] at e3
    have c3 : Tryd.prog.cellsOf 3 = 1 := by kernel_rfl
    rw [c3] at e4
    obtain ⟨z0, a1, a2, _⟩ := DataW.trod_int Tryd.underlying22 e3
    obtain ⟨z1, b1, b2, _⟩ := DataW.trod_int Tryd.underlying3 e4
    have hd : (xs0.map (·.1))[f]? = some (.agg [.lit (.int .u32 (U (mkO f))), .lit (.int .i64 (sgO f))]) := by
      rw [← hx0.1, List.getElem?_map, List.getElem?_range hf]
      rfl
    rw [List.getElem?_map, List.getElem?_eq_getElem (by omega)] at hd
    simp only [Option.map_some, Option.some.injEq] at hd
    rw [e2, a2, b2] at hd
    simp only [DataW.agg.injEq, List.cons.injEq, DataW.lit.injEq, Lit.int.injEq, true_and, and_true] at hd
    have h0 := World.var?_cell hg0 hv0 (2 * f)
    have h1 := World.var?_cell hg0 hv0 (2 * f + 1)
    have k0 : cs0.toList[2 * f]? = some (.int .u32 z0) := by
      have := cut_one a1
      rw [List.getElem?_take] at this
      simpa [List.getElem?_drop, Nat.mul_comm] using this
    have k1 : cs0.toList[2 * f + 1]? = some (.int .i64 z1) := by
      have := cut_one b1
      rw [List.getElem?_take] at this
      simpa [List.getElem?_drop, Nat.mul_comm] using this
    rw [← Array.getElem?_toList, k0, hd.1] at h0
    rw [← Array.getElem?_toList, k1, hd.2] at h1
    exact ⟨h0, h1⟩
  · exact World.block_lt_of_cell? W _ (pt 0 (by omega))

/-- The door's own heap meets the condition. -/
theorem door_met (os : Os) (args : Array Value) : laidMetH Tryd.prog laidT ((World.doorLaid Tryd.prog 32 os).forCall (fun _ _ => 0) ⟨#[], args, []⟩).memory :=
  laidMetH_of_parts3 (fuel := 8) (laidMet_of_run' 8 (by kernel_rfl) (by kernel_rfl)) (by kernel_rfl) (by kernel_rfl)
end Go.Proofs.YtdloaeifiohefaaDoor
