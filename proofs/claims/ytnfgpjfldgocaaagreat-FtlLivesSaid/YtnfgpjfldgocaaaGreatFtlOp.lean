import Derived.Test.YtnfgpjfldgocaaaGreatOpens
import Derived.Test.YtnfgpjfldgocaaaGreatFtlHp
namespace Go.Proofs.YtnfgpjfldgocaaaGreat
open Go.ChangeShapes Go.WideShapes Go.ChangeAt Go.RowKit Bm
structure ReadsA8 (w : World) (A : Option Addr) (n cap : Nat) (xs : List Act8) : Prop where
 len : xs.length = n
 le : n <= cap
 max : cap <= maxLen
 cell : 0 < n -> ∃ g off, A = some ⟨g, off, none⟩ /\ g < w.heap.size /\ ∀ j x, xs[j]? = some x -> A8Ok x /\ w.rangeAt g (off + j * 3) (a8C x)
section
variable {w w' : World} {A : Option Addr} {n cap : Nat} {xs : List Act8}
theorem ReadsA8.kept (h : ReadsA8 w A n cap xs) (hB : Below w.heap.size w w') : ReadsA8 w' A n cap xs :=
 ⟨h.len, h.le, h.max, fun hn => by
  obtain ⟨g, off, e, hlt, hc⟩ := h.cell hn
  exact ⟨g, off, e, Nat.lt_of_lt_of_le hlt hB.size, fun j x hx => ⟨(hc j x hx).1, range_kept (hc j x hx).2 (hB.block g hlt)⟩⟩⟩
end
section
variable {H : Type} {enc : TypeId × Value -> H} {W : World}
theorem no_spot8 {a : Addr} {v : Value} (h : W.cell? a = some v) : a = ⟨a.block, a.off, none⟩ := by
 have : a.spot = none := by
  cases hs : a.spot with
  | none => rfl
  | some s => unfold World.cell? at h; simp only [hs] at h; split at h <;> simp at h
 cases a
 simp_all
theorem slot_int8 {k : IntKind} {f : TypeId} {fuel : Nat} {cs : List Value} {y : Option (DataW H × List MemPlace)} {c : Value} (hf : Tryz.prog.underlying f = some (.int k)) (hc : cs = [c]) (h : DataW.trod enc Tryz.prog W 0 (fun _ => true) true fuel f cs = y) (hy : y.isSome = true) :
  ∃ z, c = .int k z /\ (Lit.int k z).wf = true := by
 obtain ⟨x, rfl⟩ := Option.isSome_iff_exists.1 hy
 rw [hc] at h
 obtain ⟨z, e1, _, wz⟩ := DataW.trod_int hf h
 simp only [List.cons.injEq, and_true] at e1
 exact ⟨z, e1, wz⟩
end
end Go.Proofs.YtnfgpjfldgocaaaGreat
