/- A whole load within a region that draws its order, held: for elements of any width. -/
import Derived.Test.YtedpeojgpnnddaaKd
import Derived.Deep.MidRow
import Derived.Deep.DrawnRows
import Derived.Deep.RegionHeld3
import Derived.Deep.DeepCutAuto
import Derived.BigRegion
namespace Go.Proofs.Ytedpeojgpnnddaa
open Go.RowKit Bm

/-- The run of an operation on one value, held (as a choice: no code is made of it). -/
def RunAs (o : Oper) (v : Value) (W : World) (R : Result Next) : Prop := R = (execOp (fun _ => v) o).run Try.prog W
theorem run_ex (o : Oper) (v : Value) (W : World) : ∃ R, RunAs o v W R := ⟨_, rfl⟩
theorem run_as (o : Oper) (v : Value) (W : World) : (run_ex o v W).choose = (execOp (fun _ => v) o).run Try.prog W := (run_ex o v W).choose_spec
def loadOf (T : TypeId) : Oper := ⟨none, .load T (.tmp 0), 0, "", #[], none⟩
theorem load_is (T : TypeId) (ρ : Operand → Value) (d : Option Tmp) (x : Operand) (ty : TypeId) (pos : String) (af : Array Edge) (gd : Option (Nat × Bool)) (W : World) : (execOp ρ ⟨d, .load T x, ty, pos, af, gd⟩).run Try.prog W = (run_ex (loadOf T) (ρ x) W).choose := (run_as (loadOf T) (ρ x) W).symm
theorem load_at {T : TypeId} {desc : TypeDesc} {n : Nat} (hu : Try.prog.underlying T = some desc) (hd : desc.isRow = true) (hi : (Try.prog.info? T).map (·.size) = some n) {W : World} {g off : Nat} {cs : List Value} (hc : W.rangeAt g off cs) (hn : cs.length = n) : (run_ex (loadOf T) (.pointer (some ⟨g, off, none⟩)) W).choose = .ok (.value (.agg cs.toArray)) W := by
  have h := run_loadAt_mid W g off _ cs _ hc hu hd (by rw [hi, hn])
  rw [run_as]
  unfold loadOf execOp
  simp only [Sem.run_bind, h, Result.andThen_ok, Sem.run_pure]

/-! ### Rows of a list, under short names (for `simp only` behind each operation) -/
theorem see1 {α : Type _} {l : List α} {i : Nat} (h : i < l.toArray.size) : l.toArray[i] = l[i]'(by simpa using h) := rfl
theorem see2 {α : Type _} (x : α) (l : List α) (h : 0 < (x :: l).length) : (x :: l)[0] = x := rfl
theorem see3 {α : Type _} (x : α) (l : List α) (i : Nat) (h : i + 1 < (x :: l).length) : (x :: l)[i + 1] = l[i]'(by simpa using h) := rfl
theorem see4 {α : Type _} (l : List α) (i : Nat) (x : α) : l.toArray.setIfInBounds i x = (l.set i x).toArray := by simp
theorem see5 {α : Type _} {x y : α} {l : List α} : (x :: l).set 0 y = y :: l := rfl
theorem see6 {α : Type _} {x y : α} {l : List α} {i : Nat} : (x :: l).set (i + 1) y = x :: l.set i y := rfl

/-! ### A region that draws its order, walked by hand -/
section
variable {P : Program} {ops : Array Oper} {Q : Exit → Go.Act → World → Prop} {md : Region.Mode} {S : World → Prop}
theorem op_goes {K : Go.Act → World → Prop} {a : Go.Act} {w : World} {o : Oper} {i : Nat} (hi : ops[i]? = some o) (hw : Region.wanted o (yielded ops a.tmps) = true) (h : o.wp P a w K Q) : wpOp P ops Q i K a w := by
  unfold wpOp
  rw [hi]
  simp only [hw, if_true]
  exact .inl h
/-- One operation of the region is taken: it yields v. -/
theorem aT (i : Nat) (v : Value) {oi : Oper} {fuel : Nat} {listed : Array Bool} {a : Go.Act} {w : World} (hi : ops[i]? = some oi)
    (h : wpAnyH P md ops Q S fuel (listed.setIfInBounds i true) (a.put oi.dst v) w)
    (hs : Region.noSelect ops = true := by kernel_rfl) (hf : Region.free md ops listed i = true := by kernel_rfl) (hr : (Region.ready md ops listed).contains i = true := by kernel_rfl)
    (hQ : ∀ c a w, Q (.panic c) (a.put oi.dst v) w → Q (.panic c) a w := by exact fun _ _ _ h => h)
    (h1 : Region.wanted oi (yielded ops a.tmps) = true := by rfl)
    (h2 : ∀ w, S w → (execOp a.eval oi).run P w = .ok (.value v) w := by intro w hS; go_simp; done)
    (hS : S w := by assumption) : wpAnyH P md ops Q S (fuel + 1) listed a w := wpAnyH_take hi hs hf hr hQ (.inl ⟨h1, h2⟩) hS h
/-- One is passed over. -/
theorem aU (i : Nat) {oi : Oper} {fuel : Nat} {listed : Array Bool} {a : Go.Act} {w : World} (hi : ops[i]? = some oi)
    (h : wpAnyH P md ops Q S fuel (listed.setIfInBounds i true) (a.put oi.dst undef) w)
    (hs : Region.noSelect ops = true := by kernel_rfl) (hf : Region.free md ops listed i = true := by kernel_rfl) (hr : (Region.ready md ops listed).contains i = true := by kernel_rfl)
    (hQ : ∀ c a w, Q (.panic c) (a.put oi.dst undef) w → Q (.panic c) a w := by exact fun _ _ _ h => h)
    (h1 : Region.wanted oi (yielded ops a.tmps) = false := by rfl)
    (hS : S w := by assumption) : wpAnyH P md ops Q S (fuel + 1) listed a w := wpAnyH_take hi hs hf hr hQ (.inr ⟨h1, rfl⟩) hS h
end
section
variable {P : Program} {ops : Array Oper} {Q : Exit → Go.Act → World → Prop} {md : Region.Mode} {S : World → Prop}
/-- A whole store, the one operation that may come up. -/
theorem aS (i : Nat) {oi : Oper} {fuel : Nat} {listed : Array Bool} {a : Go.Act} {w : World} {g off n : Nat} {t ty : TypeId} {pre xs ys post cs : List Value} (x y : Operand) (hi : ops[i]? = some oi) (ho : oi.op = .store ty x y)
    (hx : a.eval x = .pointer (some ⟨g, off, none⟩)) (hy : a.eval y = .agg ys.toArray) (hz : (P.info? ty).map (·.size) = some n) (hn : xs.length = n) (hn' : ys.length = n) (h1 : ∀ u ∈ ys, u.oneCell' = true) (hp : pre.length = off) (hc : cs = pre ++ (xs ++ post)) (hA : At w g t cs)
    (h : ∀ w', At w' g t (pre ++ (ys ++ post)) → Turned (Just g) w w' → S w' ∧ wpAnyH P md ops Q S fuel (listed.setIfInBounds i true) (a.put oi.dst undef) w')
    (hr : Region.ready md ops listed = [i] := by kernel_rfl) (hw : Region.wanted oi (yielded ops a.tmps) = true := by rfl) : wpAnyH P md ops Q S (fuel + 1) listed a w := by
  subst hc hp
  refine wpAnyH_all hr (by simp) fun j hj => ?_
  obtain rfl : j = i := by simpa using hj
  refine op_goes hi hw ?_
  have ht : w.there g pre.length ys.toArray.size := by
    have := hA.there
    rw [hn] at this
    simpa [hn'] using this
  refine wp_store_mid ty x y ho g pre.length ys.toArray hx hy ht (by simp [hz, hn']) (one_all h1) ?_
  exact h _ (At.setCells ys pre xs hA (by omega)) (turned_setCells g ys _ w)
end
end Go.Proofs.Ytedpeojgpnnddaa
