/- The last step of a statement 'whatever it is given its function returns true, and its arguments read as before': out of a walk that leaves all old memory alone; and what arguments read as. -/
import Derived.Test.YtedpeojgpnnddaaRows
import Derived.Test.YtedpeojgpnnddaaBitsMem
import Derived.WalkKit
import Derived.ProofKit
import Derived.OpenShut
import Derived.Carry
namespace Go.Proofs.Ytedpeojgpnnddaa
open Go.ChangeShapes Go.WideShapes Go.ChangeAt Go.RowKit Bm

/-- May be read anew in a later world. -/
def readableB (P : Program) (ts : List TypeId) : Bool := ts.all fun t => P.readableRec t && decide (t < P.types.size)

section
variable {H : Type} {enc : TypeId × Value → H} {P : Program} {W W' : World}
theorem trodAll_below (hl : laidOutB P = true) (hB : Below W.heap.size W W') : ∀ (ts : List TypeId) (vs : List Value) (ds : List (DataW H)) (ps : List MemPlace), readableB P ts = true → (∀ x ∈ ps, x.block < W.heap.size) →
    DataW.TrodAll enc P W 0 (fun _ => true) true ts vs ds ps → DataW.TrodAll enc P W' 0 (fun b => decide (b < W.heap.size)) true ts vs ds ps
  | [], [], [], _, _, _, h => h
  | t :: ts, v :: vs, d :: ds, ps, hr, hlt, h => by
    obtain ⟨p, q, h1, h2, rfl⟩ := h
    simp only [readableB, List.all_cons, Bool.and_eq_true, decide_eq_true_eq] at hr
    exact ⟨p, q, Below.trod hl hr.1.1 hr.1.2 h1 hB (fun x hx => hlt x (List.mem_append_left _ hx)), trodAll_below hl hB ts vs ds q hr.2 (fun x hx => hlt x (List.mem_append_right _ hx)) h2, rfl⟩

theorem law_post (hl : laidOutB P = true) {f : Func} {s : ChangeSpec} {args : Array Value} {ds gs : List (DataW H)} {before : List MemPlace} {tb : TypeId} (hpar : readableB P f.params.toList = true) (hrt : f.resultTypes = #[tb]) (hb : P.underlying tb = some .bool)
    (hvars : s.vars = []) (hW : DataW.Whole enc P f.params.toList s.vars false W args.toList ds gs before) (hs : ∀ xs : List (DataW H), xs = ds → s.fn H xs = { results := [.lit (.bool true)], args := xs }) (hB : Below W.heap.size W W') :
    s.post enc P f false true false false W args (.bool true) W' := by
  have hW' := hW
  obtain ⟨p, q, h1, h2, rfl, _, _⟩ := hW
  have hlt : ∀ x ∈ p ++ q, x.block < W.heap.size := fun x hx => hW'.lt x hx
  rw [hvars] at h2
  obtain ⟨rfl, rfl⟩ : gs = [] ∧ q = [] := by
    cases gs with
    | nil => exact ⟨rfl, h2⟩
    | cons g gs => exact h2.elim
  have e := hs (ds ++ []) (List.append_nil _)
  refine ⟨ds, [], _, [], p, [], hW', ?_, ?_, ?_, hB.frame _, fun h => by cases h⟩
  · rw [e, hrt]
    exact trodAll_cons_mk (shut_bool hb true) trodAll_mk0
  · rw [e]
    simp only [List.append_nil]
    exact trodAll_below hl hB _ _ _ _ hpar (fun x hx => hlt x (List.mem_append_left _ hx)) h1
  · rw [e, hvars]
    rfl
end

/-- A slice that came in (nil too) reads as the words xs: its n elements. -/
structure ReadsU (w : World) (A : Option Addr) (n cap : Nat) (xs : List (BitVec 32)) : Prop where
  len : xs.length = n
  le : n ≤ cap
  max : cap ≤ maxLen
  cell : 0 < n → ∃ ad, A = some ad ∧ ad.block < w.heap.size ∧ ∀ j u, (Us xs)[j]? = some u → w.cell? (ad.add j) = some u

theorem ReadsU.kept {w w' : World} {A : Option Addr} {n cap : Nat} {xs : List (BitVec 32)} (h : ReadsU w A n cap xs) (hB : Below w.heap.size w w') : ReadsU w' A n cap xs :=
  ⟨h.len, h.le, h.max, fun hn => by
    obtain ⟨ad, e, hlt, hc⟩ := h.cell hn
    exact ⟨ad, e, Nat.lt_of_lt_of_le hlt hB.size, fun j u hu => (hB.cell (p := ad.add j) (by unfold Addr.add; split <;> exact hlt)).trans (hc j u hu)⟩⟩
/-- An element of a slice that came in. -/
theorem ReadsU.at_ {w : World} {A : Option Addr} {n cap : Nat} {xs : List (BitVec 32)} (h : ReadsU w A n cap xs) {j : Nat} (hj : j < n) : ∃ ad : Addr, A = some ad ∧ w.cell? (ad.add j) = some (.int .u32 (U (wd xs j))) := by
  obtain ⟨ad, e, _, hc⟩ := h.cell (by omega)
  exact ⟨ad, e, hc j _ (Us_get xs j (by rw [h.len]; exact hj))⟩


/-- A struct of a byte, a number and a word, as layer nor's statements have it. -/
structure ActM where
  kind : Int
  at_ : Int
  v : BitVec 32
  deriving Inhabited
structure ActAt (w : World) (a : Addr) (x : ActM) : Prop where
  b0 : 0 ≤ x.kind ∧ x.kind ≤ 255
  b1 : -9223372036854775808 ≤ x.at_ ∧ x.at_ ≤ 9223372036854775807
  c0 : w.cell? (a.add 0) = some (.int .u8 x.kind)
  c1 : w.cell? (a.add 1) = some (.int .i64 x.at_)
  c2 : w.cell? (a.add 2) = some (.int .u32 (U x.v))
structure ReadsA (w : World) (A : Option Addr) (n cap : Nat) (xs : List ActM) : Prop where
  len : xs.length = n
  le : n ≤ cap
  max : cap ≤ maxLen
  cell : 0 < n → ∃ ad, A = some ad ∧ ad.block < w.heap.size ∧ ∀ j x, xs[j]? = some x → ActAt w (ad.add (j * 3)) x
theorem add_block (a : Addr) (j : Nat) : (a.add j).block = a.block := by unfold Addr.add; split <;> rfl
theorem ActAt.kept {w w' : World} {a : Addr} {x : ActM} (h : ActAt w a x) (hlt : a.block < w.heap.size) (hB : Below w.heap.size w w') : ActAt w' a x :=
  ⟨h.b0, h.b1, (hB.cell (p := a.add 0) (by rw [add_block]; exact hlt)).trans h.c0, (hB.cell (p := a.add 1) (by rw [add_block]; exact hlt)).trans h.c1, (hB.cell (p := a.add 2) (by rw [add_block]; exact hlt)).trans h.c2⟩
theorem ReadsA.kept {w w' : World} {A : Option Addr} {n cap : Nat} {xs : List ActM} (h : ReadsA w A n cap xs) (hB : Below w.heap.size w w') : ReadsA w' A n cap xs :=
  ⟨h.len, h.le, h.max, fun hn => by
    obtain ⟨ad, e, hlt, hc⟩ := h.cell hn
    exact ⟨ad, e, Nat.lt_of_lt_of_le hlt hB.size, fun j x hx => (hc j x hx).kept (by rw [add_block]; exact hlt) hB⟩⟩
theorem ReadsA.at_ {w : World} {A : Option Addr} {n cap : Nat} {xs : List ActM} (h : ReadsA w A n cap xs) {j : Nat} (hj : j < n) : ∃ ad x, A = some ad ∧ ActAt w (ad.add (j * 3)) x := by
  obtain ⟨ad, e, _, hc⟩ := h.cell (by omega)
  have hl : j < xs.length := by rw [h.len]; exact hj
  exact ⟨ad, xs[j], e, hc j _ (List.getElem?_eq_getElem hl)⟩
/-- Its three cells as a load of the whole struct asks for them. -/
theorem ActAt.d0 {w : World} {a : Addr} {x : ActM} (h : ActAt w a x) : w.cell? a = some (.int .u8 x.kind) := by have := h.c0; unfold Addr.add at this; rwa [if_pos rfl] at this
theorem ActAt.d1 {w : World} {a : Addr} {x : ActM} (h : ActAt w a x) : w.cell? ⟨a.block, a.off + 1, none⟩ = some (.int .i64 x.at_) := h.c1
theorem ActAt.d2 {w : World} {a : Addr} {x : ActM} (h : ActAt w a x) : w.cell? ⟨a.block, a.off + 2, none⟩ = some (.int .u32 (U x.v)) := h.c2
end Go.Proofs.Ytedpeojgpnnddaa
