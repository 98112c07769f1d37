/- The walk of layer ftl's statement FtlAgain: mounted once more, and formatted once more, a store is what it has to be. -/
import Derived.Test.YtnfgpjfldgocaaaGreatFtlHp
import Derived.Test.YtnfgpjfldgocaaaGreatFtlOp
import Derived.Test.YtnfgpjfldgocaaaGreatLaw
import Derived.OpenShut
namespace Go.Proofs.YtnfgpjfldgocaaaGreat
open Go.RowKit Bm Go.Shelf

theorem a8_size : (Tryz.prog.info? 40).map (·.size) = some 3 := by kernel_rfl
def a8Z : List Value := [.int .u8 0, .int .i64 0, .int .u32 0]
theorem a8_one (x : Act8) : ∀ u ∈ a8C x, u.oneCell' = true := by
  intro u hu
  simp only [a8C, List.mem_cons, List.not_mem_nil, or_false] at hu
  rcases hu with rfl | rfl | rfl <;> rfl
theorem wdC_one (p q : Nat) : ∀ u ∈ wdC p q, u.oneCell' = true := by
  intro u hu
  simp only [wdC, List.mem_cons, List.not_mem_nil, or_false] at hu
  rcases hu with rfl | rfl <;> rfl
theorem d40_len : d40.length = 4 := rfl
theorem val8_len (k : Nat) (a : Act8) (V : BitVec 32 → List (BitVec 32)) (hV : ∀ n, (V n).length = 4) (n : BitVec 32) : (val8 k a V n).length = 4 := by
  unfold val8
  split
  · unfold v8
    split <;> rfl
  · exact hV n
section
variable {C : Prop} {B p f q s k : Nat} {K : Nat → Prop} {Q W T E : Int} {V : BitVec 32 → List (BitVec 32)} {d : DrvM} {x : StoM} {w w' : World}
theorem ReadsA8.at_ {A : Option Addr} {n cap : Nat} {xs : List Act8} (h : ReadsA8 w A n cap xs) {j : Nat} (hj : j < n) : ∃ g off x, A = some ⟨g, off, none⟩ ∧ A8Ok x ∧ xs[j]? = some x ∧ w.cell? ⟨g, off + j * 3, none⟩ = some (.int .u8 x.k) ∧ w.cell? ⟨g, off + j * 3 + 1, none⟩ = some (.int .i64 x.s) ∧ w.cell? ⟨g, off + j * 3 + 2, none⟩ = some (.int .u32 (U x.v)) := by
  obtain ⟨g, off, e, _, hc⟩ := h.cell (by omega)
  have hl := h.len
  have hx : xs[j]? = some xs[j] := List.getElem?_eq_getElem (by omega)
  obtain ⟨h1, h2⟩ := hc j _ hx
  exact ⟨g, off, xs[j], e, h1, hx, h2 0 _ rfl, h2 1 _ rfl, h2 2 _ rfl⟩
theorem Well.grow {Q' W' T' : Int} (h : Well C B p f q s k K Q W T E V w d x) (hQ : Q ≤ Q') (hW : W ≤ W') (hT : T ≤ T') : Well C B p f q s k K Q' W' T' E V w d x := by
  obtain ⟨hs, hf, hl, he, h0, h1, hv⟩ := h
  exact ⟨hs, ⟨hf.sys, hf.head, hf.ret, hf.off, hf.un, hf.sec, fun p hp => by have := hf.seq p hp; omega, hf.emp, fun b => by have := hf.wear b; omega, hf.cw, hf.en⟩, hl, he, h0, by omega, hv⟩
theorem Well.dv (h : Well C B p f q s k K Q W T E V w d x) : Dv B p f q k K d w := by
  obtain ⟨⟨g, hs⟩, _⟩ := h
  exact hs.dv.less fun i e => .inl e
/-- Fewer blocks are kept. -/
theorem Well.less (h : Well C B p f q s k K Q W T E V w d x) {K' : Nat → Prop} (hk : ∀ i, K' i → K i) : Well C B p f q s k K' Q W T E V w d x := by
  obtain ⟨⟨g, hs⟩, h2, h3, h4, h5, h6, h7⟩ := h
  exact ⟨⟨g, hs.less hk⟩, h2, h3, h4, h5, h6, h7⟩
end

end Go.Proofs.YtnfgpjfldgocaaaGreat
