/- Whole loads of places within a region that draws its order, held; one place written out as a slice. -/
import Derived.Test.YtfpfcmgcfbkolaaLatAlive
import Derived.Test.YtfpfcmgcfbkolaaHeld
namespace Go.Proofs.Ytfpfcmgcfbkolaa
open Go.RowKit Bm

theorem ldN_at {T : TypeId} {n : Nat} {desc : TypeDesc} (hu : Try.prog.underlying T = some desc) (hd : desc.isRow = true) (hi : (Try.prog.info? T).map (·.size) = some n) {W : World} {g off : Nat} {cs : List Value} (hc : W.rangeAt g off cs) (hn : cs.length = n) : (op_ex (ldB T) (.pointer (some ⟨g, off, none⟩)) W).choose = .ok (.value (.agg cs.toArray)) W := by
  have h := run_loadAt_mid W g off _ cs _ hc hu hd (by rw [hi, hn])
  rw [op_is]
  unfold ldB execOp
  simp only [Sem.run_bind, h, Result.andThen_ok, Sem.run_pure]
theorem ldPR_eq (ρ : Operand → Value) (d : Option Tmp) (x : Operand) (ty : TypeId) (pos : String) (af : Array Edge) (gd : Option (Nat × Bool)) (W : World) : (execOp ρ ⟨d, .load 48 x, ty, pos, af, gd⟩).run Try.prog W = (op_ex (ldB 48) (ρ x) W).choose := ldB_is _ ρ d x ty pos af gd W
theorem ldPR_at {W : World} {g off : Nat} {x : PlM} (hc : W.rangeAt g off (plC x)) : (op_ex (ldB 48) (.pointer (some ⟨g, off, none⟩)) W).choose = .ok (.value (.agg (plC x).toArray)) W := ldN_at Try.underlying48 rfl rpl_size hc (plC_len _)
theorem ldPS_at {W : World} {g off : Nat} {x : PlM} (hc : W.rangeAt g off (plC x)) : (op_ex (ldB 42) (.pointer (some ⟨g, off, none⟩)) W).choose = .ok (.value (.agg (plC x).toArray)) W := ldN_at Try.underlying42 rfl spl_size hc (plC_len _)
/-- One place written out as a slice: held. -/
def bsO : Oper := ⟨none, .buildSlice 29 1 #[(0, .tmp 0)], 0, "", #[], none⟩
theorem bs_eq (ρ : Operand → Value) (d : Option Tmp) (x : Operand) (ty : TypeId) (pos : String) (af : Array Edge) (gd : Option (Nat × Bool)) (W : World) : (execOp ρ ⟨d, .buildSlice 29 1 #[(0, x)], ty, pos, af, gd⟩).run Try.prog W = (op_ex bsO (ρ x) W).choose := by
  rw [op_is]
  unfold bsO execOp
  simp only [List.map_toArray, List.map_cons, List.map_nil]
theorem bs_at (W : World) (x : PlM) : (op_ex bsO (.agg (plC x).toArray) W).choose = .ok (.value (.slice (some ⟨W.heap.size, 0, none⟩) 1 1)) (W.alloc (.cells (plC x).toArray 42)) := by
  obtain ⟨i0, hin, hz0, hz1, hz2⟩ := info_parts spl_infoA
  have hr := run_build_one (cs := (plC x).toArray) Try.underlying29 hin hz0 (hz1.trans (by rfl)) (by show 0 < 9; omega) (by show 9 ≤ 10000; omega) W
  rw [op_is]
  unfold bsO execOp
  simp only [List.map_toArray, List.map_cons, List.map_nil, Sem.run_bind, hr, Result.andThen_ok, Sem.run_pure]
theorem reads_pl (W : World) (x : PlM) : ReadsL (W.alloc (.cells (plC x).toArray 42)) (some ⟨W.heap.size, 0, none⟩) 1 1 [x] := by
  have h := At.news W 42 (plC x)
  exact ReadsL.of_at (xs := [x]) (rest := []) (by rw [List.append_nil, show pls [x] = plC x by simp [pls]]; exact h) (Nat.le_refl 1) (by unfold maxLen; omega)
/-- The latest places are pages that count. -/
theorem of_atB {all : List PlM} {j : Nat} (hj : j < (lOf all).length) : best all (plN (lOf all) j).p.s = some (plN (lOf all) j) ∧ ∀ k, k < j → U (plN (lOf all) k).p.s < U (plN (lOf all) j).p.s := by
  have hr := of_rises all
  unfold Rises at hr
  rw [List.pairwise_iff_getElem] at hr
  have ej : plN (lOf all) j = (lOf all)[j] := by unfold plN; rw [List.getD_eq_getElem?_getD, List.getElem?_eq_getElem hj]; rfl
  have lt : ∀ k, k < j → U (plN (lOf all) k).p.s < U (plN (lOf all) j).p.s := fun k hk => by
    have h2 := hr k j (by omega) hj hk
    have ek : plN (lOf all) k = (lOf all)[k]'(by omega) := by unfold plN; rw [List.getD_eq_getElem?_getD, List.getElem?_eq_getElem (by omega)]; rfl
    rw [ek, ej]
    exact h2
  refine ⟨?_, lt⟩
  rw [← of_find]
  refine lFind_at hj (fun k hk e => ?_) rfl
  have := lt k hk
  rw [e] at this
  omega
end Go.Proofs.Ytfpfcmgcfbkolaa
