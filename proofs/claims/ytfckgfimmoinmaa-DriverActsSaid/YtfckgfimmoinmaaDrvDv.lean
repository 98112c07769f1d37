/- A driver, its flash and its chip as a statement's walk has them. -/
import Derived.Test.YtfckgfimmoinmaaCfiS
import Derived.Test.YtfckgfimmoinmaaCfiMap
import Derived.Test.YtfckgfimmoinmaaDrvM
import Derived.Test.YtfckgfimmoinmaaNorSame
import Derived.Test.YtfckgfimmoinmaaLaw
namespace Go.Proofs.Ytfckgfimmoinmaa
open Go.RowKit Bm

/-- The cells of a driver of the flash at f, of k blocks, that has counted t ticks. -/
def drvCells (f k : Nat) (t : Int) : List Value := [.pointer (some ⟨f, 0, none⟩), .int .i64 k, .int .i64 t]

/-- A driver, its flash and its chip as a statement's walk has them; the blocks of K are kept. -/
structure Dv (B p f q k : Nat) (K : Nat → Prop) (d : DrvM) (w : World) : Prop where
  st : StK B p f (fun i => K i ∨ i = q) d.f w
  own : At w q 73 (drvCells f k d.t)
  qB : May B K q
def DvOut (B p f q k : Nat) (K : Nat → Prop) (d : DrvM) (v : Value) (w : World) (e : Ending) (w' : World) : Prop := e = .returned v ∧ Dv B p f q k K d w' ∧ Turned (May B K) w w'
/-- The blocks of K, and the one that a slice lies in. -/
def KA (K : Nat → Prop) (A : Option Addr) (i : Nat) : Prop := K i ∨ ∃ a, A = some a ∧ i = a.block
/-- .. with words, in a block of their own that is kept from then on. -/
def DvRead (B p f q k : Nat) (K : Nat → Prop) (x : DrvM × List (BitVec 32) × Int) (w : World) (e : Ending) (w' : World) : Prop :=
  ∃ A cap, e = .returned (.tuple #[.slice A x.2.1.length cap, .int .i64 x.2.2]) ∧ ReadsU w' A x.2.1.length cap x.2.1 ∧ (A = none → cap = 0) ∧ Dv B p f q k (KA K A) x.1 w' ∧ Turned (May B K) w w'

section
variable {B p f q k : Nat} {K : Nat → Prop} {d : DrvM} {w w' : World}
theorem Dv.below (s : Dv B p f q k K d w) (hB : Below w.heap.size w w') : Dv B p f q k K d w' :=
  ⟨s.st.below hB, s.own.kept (Turned.of_below hB (Nat.le_refl _) NoBlock) (fun h => h), s.qB⟩
theorem Dv.size (s : Dv B p f q k K d w) : B ≤ w.heap.size := s.st.size

/-- A block that was made behind w is kept from now on. -/
theorem Dv.more (s : Dv B p f q k K d w) (hB : Below w.heap.size w w') (g : Nat) (h1 : w.heap.size ≤ g) (h2 : g < w'.heap.size) : Dv B p f q k (fun i => K i ∨ i = g) d w' :=
  ⟨(s.st.more hB g h1 h2).less (fun i h => by
    rcases h with (h | h) | h
    · exact .inl (.inl h)
    · exact .inr h
    · exact .inl (.inr h)), s.own.kept (Turned.of_below hB (Nat.le_refl _) NoBlock) (fun h => h), ⟨s.qB.1, fun e => by
    rcases e with e | e
    · exact s.qB.2 e
    · have := s.own.lt
      omega⟩⟩
theorem Dv.less (s : Dv B p f q k K d w) {K' : Nat → Prop} (h : ∀ i, K' i → K i) : Dv B p f q k K' d w :=
  ⟨s.st.less (fun i e => by
    rcases e with e | e
    · exact .inl (h i e)
    · exact .inr e), s.own, ⟨s.qB.1, fun e => s.qB.2 (h q e)⟩⟩
theorem Dv.renew {K' : Nat → Prop} (s : Dv B p f q k K d w) (hb : Below w.heap.size w w') (h : ∀ i, K' i → (K i ∨ w.heap.size ≤ i) ∧ i < w'.heap.size) : Dv B p f q k K' d w' :=
  ⟨s.st.renew hb (fun i e => by
    rcases e with e | e
    · obtain ⟨h1, h2⟩ := h i e
      exact ⟨h1.imp (fun h => .inl h) (fun h => h), h2⟩
    · rw [e]
      exact ⟨.inl (.inr rfl), Nat.lt_of_lt_of_le s.own.lt hb.size⟩), s.own.kept (Turned.of_below hb (Nat.le_refl _) NoBlock) (fun h => h), ⟨s.qB.1, fun e => by
    rcases (h q e).1 with h1 | h1
    · exact s.qB.2 h1
    · have := s.own.lt
      omega⟩⟩
theorem may_less {B : Nat} {K K' : Nat → Prop} {w w' : World} (t : Turned (May B K) w w') (h : ∀ i, K' i → K i) : Turned (May B K') w w' := t.mono fun i _ e => ⟨e.1, fun e2 => e.2 (h i e2)⟩

theorem ReadsU.act {A : Option Addr} {n cap : Nat} {xs : List (BitVec 32)} {S : Nat → Prop} (h : ReadsU w A n cap xs) (t : Turned S w w') (hA : ∀ a, A = some a → ¬ S a.block) : ReadsU w' A n cap xs :=
  ⟨h.len, h.le, h.max, fun hn => by
    obtain ⟨ad, e, hlt, hc⟩ := h.cell hn
    exact ⟨ad, e, Nat.lt_of_lt_of_le hlt t.size, fun j u hu => (t.cell (p := ad.add j) (by unfold Addr.add; split <;> exact hlt) (by unfold Addr.add; split <;> exact hA ad e)).trans (hc j u hu)⟩⟩
theorem ka_not {A : Option Addr} : ∀ a, A = some a → ¬ May B (KA K A) a.block := fun a e h => h.2 (.inr ⟨a, e, rfl⟩)

end
/-! A driver that New did not create: nil, or zero. -/
def zeroDrv : List Value := [.pointer none, .int .i64 0, .int .i64 0]
def NoDrv (w : World) (v : Value) : Prop := v = .pointer none ∨ ∃ p, v = .pointer (some ⟨p, 0, none⟩) ∧ At w p 73 zeroDrv
theorem NoDrv.below {w w' : World} {v : Value} (h : NoDrv w v) (hb : Below w.heap.size w w') : NoDrv w' v := by
  rcases h with h | ⟨p, e, h⟩
  · exact .inl h
  · exact .inr ⟨p, e, h.kept (Turned.of_below hb (Nat.le_refl _) NoBlock) (fun h => h)⟩
end Go.Proofs.Ytfckgfimmoinmaa
