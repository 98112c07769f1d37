/- A struct or an array by value loaded and stored whole, within a round of a range over a function. -/
import Derived.Test.YtlbcebkllddhgaaIn
import Derived.Test.YtlbcebkllddhgaaMid
namespace Go.Proofs.Ytlbcebkllddhgaa
open Go.RowKit Bm
section
variable {P : Program} {ops : Array Oper} {rest : List Oper} {o : Oper} {a : Go.Act} {w : World} {Q : Exit → Go.Act → World → Prop} {g off n m l : Nat} {t ty : TypeId} {pre xs ys post cs : List Value} {d : TypeDesc}
theorem wpListIn_ldr (x : Operand) (hgd : o.guard = none) (ho : o.op = .load ty x) (hx : a.eval x = .pointer (some ⟨g, off, none⟩)) (hu : P.underlying ty = some d) (hd : d.isRow = true) (hi : (P.info? ty).map (·.size) = some n) (hn : xs.length = n) (hc : w.rangeAt g off xs)
    (h : wpListIn (Fence.wide.inRound l) m P ops Q rest (a.put o.dst (.agg xs.toArray)) w) : wpListIn (Fence.wide.inRound l) m P ops Q (o :: rest) a w :=
  wpListIn_plain hgd fun _ hK => oper_in (by unfold calmOper; rw [ho]) (wp_load_mid ty x ho g off hx xs d hc hu hd (by rw [hi, hn]) (hK _ _ h))
theorem wpListIn_stm (x y : Operand) (hgd : o.guard = none) (ho : o.op = .store ty x y) (hx : a.eval x = .pointer (some ⟨g, off, none⟩)) (hy : a.eval y = .agg ys.toArray) (hi : (P.info? ty).map (·.size) = some n) (hn : xs.length = n) (hn' : ys.length = n) (h1 : ∀ u ∈ ys, u.oneCell' = true) (hp : pre.length = off) (hc : cs = pre ++ (xs ++ post)) (hA : At w g t cs)
    (h : ∀ w', At w' g t (pre ++ (ys ++ post)) → Turned (Just g) w w' → wpListIn (Fence.wide.inRound l) m P ops Q rest (a.put o.dst undef) w') : wpListIn (Fence.wide.inRound l) m P ops Q (o :: rest) a w := by
  subst hc hp
  have ht : w.there g pre.length ys.toArray.size := by
    have := hA.there
    rw [hn] at this
    simpa [hn'] using this
  refine wpListIn_plain hgd fun _ hK => oper_in (by unfold calmOper; rw [ho]) (wp_store_mid ty x y ho g pre.length ys.toArray hx hy ht (by simp [hi, hn']) (one_all h1) (hK _ _ ?_))
  exact h _ (At.setCells ys pre xs hA (by omega)) (turned_setCells g ys _ w)
theorem wpListIn_ldr_w (x : Operand) (hgd : o.guard = none) (ho : o.op = .load ty x) (hx : a.eval x = .pointer (some ⟨g, off, none⟩)) (hu : P.underlying ty = some d) (hd : d.isRow = true) (hi : (P.info? ty).map (·.size) = some n) (hn : xs.length = n) (hc : w.rangeAt g off xs)
    (h : wpListIn Fence.wide m P ops Q rest (a.put o.dst (.agg xs.toArray)) w) : wpListIn Fence.wide m P ops Q (o :: rest) a w :=
  wpListIn_plain hgd fun _ hK => oper_wide (wp_load_mid ty x ho g off hx xs d hc hu hd (by rw [hi, hn]) (hK _ _ h))
theorem wpListIn_stm_w (x y : Operand) (hgd : o.guard = none) (ho : o.op = .store ty x y) (hx : a.eval x = .pointer (some ⟨g, off, none⟩)) (hy : a.eval y = .agg ys.toArray) (hi : (P.info? ty).map (·.size) = some n) (hn : xs.length = n) (hn' : ys.length = n) (h1 : ∀ u ∈ ys, u.oneCell' = true) (hp : pre.length = off) (hc : cs = pre ++ (xs ++ post)) (hA : At w g t cs)
    (h : ∀ w', At w' g t (pre ++ (ys ++ post)) → Turned (Just g) w w' → wpListIn Fence.wide m P ops Q rest (a.put o.dst undef) w') : wpListIn Fence.wide m P ops Q (o :: rest) a w := by
  subst hc hp
  have ht : w.there g pre.length ys.toArray.size := by
    have := hA.there
    rw [hn] at this
    simpa [hn'] using this
  refine wpListIn_plain hgd fun _ hK => oper_wide (wp_store_mid ty x y ho g pre.length ys.toArray hx hy ht (by simp [hi, hn']) (one_all h1) (hK _ _ ?_))
  exact h _ (At.setCells ys pre xs hA (by omega)) (turned_setCells g ys _ w)
end
end Go.Proofs.Ytlbcebkllddhgaa
