/- Plain mathematics of layer decode: the table of instructions, the parts of each format's words, what a word says, and which word says an op. -/
import Derived.Test.YtdloaeifiohefaaDoorBitsMem
namespace Go.Proofs.YtdloaeifiohefaaDoor.Bm
open Go Go.RowKit

/-- A part of a word: n bits from bit a on are bits t on of field f. -/
structure PtM where
  a : Nat
  f : Nat
  n : Nat
  t : Nat
  deriving DecidableEq, Inhabited

/-- The parts of each format (U J I B S R H A L F E V C). -/
def ptsL : List (List PtM) :=
  [[⟨7, 0, 5, 0⟩, ⟨12, 3, 20, 12⟩],
   [⟨7, 0, 5, 0⟩, ⟨12, 3, 8, 12⟩, ⟨20, 3, 1, 11⟩, ⟨21, 3, 10, 1⟩, ⟨31, 3, 1, 20⟩],
   [⟨7, 0, 5, 0⟩, ⟨15, 1, 5, 0⟩, ⟨20, 3, 12, 0⟩],
   [⟨7, 3, 1, 11⟩, ⟨8, 3, 4, 1⟩, ⟨15, 1, 5, 0⟩, ⟨20, 2, 5, 0⟩, ⟨25, 3, 6, 5⟩, ⟨31, 3, 1, 12⟩],
   [⟨7, 3, 5, 0⟩, ⟨15, 1, 5, 0⟩, ⟨20, 2, 5, 0⟩, ⟨25, 3, 7, 5⟩],
   [⟨7, 0, 5, 0⟩, ⟨15, 1, 5, 0⟩, ⟨20, 2, 5, 0⟩],
   [⟨7, 0, 5, 0⟩, ⟨15, 1, 5, 0⟩, ⟨20, 3, 5, 0⟩],
   [⟨7, 0, 5, 0⟩, ⟨15, 1, 5, 0⟩, ⟨20, 2, 5, 0⟩, ⟨25, 3, 2, 0⟩],
   [⟨7, 0, 5, 0⟩, ⟨15, 1, 5, 0⟩, ⟨25, 3, 2, 0⟩],
   [⟨7, 0, 5, 0⟩, ⟨15, 1, 5, 0⟩, ⟨20, 3, 12, 0⟩],
   [],
   [⟨15, 1, 5, 0⟩, ⟨20, 2, 5, 0⟩],
   [⟨7, 0, 5, 0⟩, ⟨15, 1, 5, 0⟩, ⟨20, 3, 12, 0⟩]]
def ptsOf (f : Nat) : List PtM := ptsL.getD f []
def mkL : List (BitVec 32) := [127#32, 127#32, 28799#32, 28799#32, 28799#32, 4261441663#32, 4261441663#32, 4160778367#32, 4193284223#32, 28799#32, 4294967295#32, 4261445631#32, 28799#32]
def mkO (f : Nat) : BitVec 32 := mkL.getD f 0#32
def sgL : List Int := [0, 21, 12, 13, 12, 0, 0, 0, 0, 0, 0, 0, 0]
def sgO (f : Nat) : Int := sgL.getD f 0
def patL : List (BitVec 32) := [0#32, 55#32, 23#32, 111#32, 103#32, 99#32, 4195#32, 16483#32, 20579#32, 24675#32, 28771#32, 3#32, 4099#32, 8195#32, 16387#32, 20483#32, 35#32, 4131#32, 8227#32, 19#32, 8211#32, 12307#32, 16403#32, 24595#32, 28691#32, 4115#32, 20499#32, 1073762323#32, 51#32, 1073741875#32, 4147#32, 8243#32, 12339#32, 16435#32, 20531#32, 1073762355#32, 24627#32, 28723#32, 33554483#32, 33558579#32, 33562675#32, 33566771#32, 33570867#32, 33574963#32, 33579059#32, 33583155#32, 268443695#32, 402661423#32, 134225967#32, 8239#32, 536879151#32, 1610620975#32, 1073750063#32, 2147491887#32, 2684362799#32, 3221233711#32, 3758104623#32, 15#32, 115#32, 1048691#32, 807403635#32, 270532723#32, 273678451#32, 301990003#32, 4211#32, 8307#32, 12403#32, 20595#32, 24691#32, 28787#32]
def patO (n : Nat) : BitVec 32 := patL.getD n 0#32
def fmL : List Nat := [0, 0, 0, 1, 2, 3, 3, 3, 3, 3, 3, 2, 2, 2, 2, 2, 4, 4, 4, 2, 2, 2, 2, 2, 2, 6, 6, 6, 5, 5, 5, 5, 5, 5, 5, 5, 5, 5, 5, 5, 5, 5, 5, 5, 5, 5, 8, 7, 7, 7, 7, 7, 7, 7, 7, 7, 7, 9, 10, 10, 10, 10, 10, 11, 12, 12, 12, 12, 12, 12]
def fmO (n : Nat) : Nat := fmL.getD n 0
theorem fmO_lt (n : Nat) : fmO n < 13 := by
  by_cases h : n < 70
  · have : ∀ m, m < 70 → fmO m < 13 := by decide
    exact this n h
  · unfold fmO
    rw [List.getD_eq_getElem?_getD, List.getElem?_eq_none (by show 70 ≤ n; omega)]
    decide

/-- One part taken from a word; one part put into a word. -/
def stU (w : BitVec 32) (v : Nat → BitVec 32) (p : PtM) : Nat → BitVec 32 := fun k => if k = p.f then putB (v k) p.t p.n (fieldB w p.a p.n) else v k
def unL (w : BitVec 32) (l : List PtM) : Nat → BitVec 32 := l.foldl (stU w) (fun _ => 0#32)
def unF (f : Nat) (w : BitVec 32) : Nat → BitVec 32 := unL w (ptsOf f)
def stP (v : Nat → BitVec 32) (x : BitVec 32) (p : PtM) : BitVec 32 := putB x p.a p.n (fieldB (v p.f) p.t p.n)
def pkL (v : Nat → BitVec 32) (x : BitVec 32) (l : List PtM) : BitVec 32 := l.foldl (stP v) x
def pkF (f : Nat) (v : Nat → BitVec 32) (x : BitVec 32) : BitVec 32 := pkL v x (ptsOf f)

theorem put_comm (x : BitVec 32) (a n a' n' : Nat) (u v : BitVec 32) (h : a + n ≤ a' ∨ a' + n' ≤ a) : putB (putB x a n u) a' n' v = putB (putB x a' n' v) a n u := by
  apply gb_ext; intro i _ _
  simp only [gb_put]
  split <;> split <;> first | rfl | omega
def apart2 (p q : PtM) : Bool := decide (p = q) || (decide (p.a + p.n ≤ q.a ∨ q.a + q.n ≤ p.a) && (!decide (p.f = q.f) || decide (p.t + p.n ≤ q.t ∨ q.t + q.n ≤ p.t)))
theorem apart_all : ∀ f, f < 13 → ((ptsOf f).all fun p => (ptsOf f).all fun q => apart2 p q) = true := by decide
theorem apart_of {f : Nat} (hf : f < 13) {p q : PtM} (hp : p ∈ ptsOf f) (hq : q ∈ ptsOf f) : p = q ∨ ((p.a + p.n ≤ q.a ∨ q.a + q.n ≤ p.a) ∧ (p.f ≠ q.f ∨ (p.t + p.n ≤ q.t ∨ q.t + q.n ≤ p.t))) := by
  have h := List.all_eq_true.1 (List.all_eq_true.1 (apart_all f hf) p hp) q hq
  simp only [apart2, Bool.or_eq_true, Bool.and_eq_true, decide_eq_true_eq, Bool.not_eq_true', decide_eq_false_iff_not] at h
  exact h
theorem stU_comm (w : BitVec 32) {f : Nat} (hf : f < 13) {p q : PtM} (hp : p ∈ ptsOf f) (hq : q ∈ ptsOf f) (v : Nat → BitVec 32) : stU w (stU w v p) q = stU w (stU w v q) p := by
  rcases apart_of hf hp hq with rfl | ⟨_, h⟩
  · rfl
  · funext k
    simp only [stU]
    by_cases h1 : k = p.f
    · by_cases h2 : k = q.f
      · rw [if_pos h2, if_pos h1, if_pos h1, if_pos h2]
        rcases h with h | h
        · exact absurd (h1.symm.trans h2) h
        · exact put_comm _ _ _ _ _ _ _ h
      · rw [if_neg h2, if_pos h1, if_neg h2, if_pos h1]
    · by_cases h2 : k = q.f
      · rw [if_pos h2, if_neg h1, if_neg h1, if_pos h2]
      · rw [if_neg h2, if_neg h1, if_neg h1, if_neg h2]
theorem stP_comm (v : Nat → BitVec 32) {f : Nat} (hf : f < 13) {p q : PtM} (hp : p ∈ ptsOf f) (hq : q ∈ ptsOf f) (x : BitVec 32) : stP v (stP v x p) q = stP v (stP v x q) p := by
  rcases apart_of hf hp hq with rfl | ⟨h, _⟩
  · rfl
  · exact put_comm _ _ _ _ _ _ _ h
/-- A fold does not hang on the order. -/
theorem foldl_perm {α β : Type} (g : β → α → β) {l l' : List α} (h : l.Perm l') : (∀ x ∈ l, ∀ y ∈ l, ∀ b, g (g b x) y = g (g b y) x) → ∀ b, l.foldl g b = l'.foldl g b := by
  induction h with
  | nil => intro _ _; rfl
  | cons a _ ih => intro hc b; exact ih (fun x hx y hy => hc x (List.mem_cons_of_mem _ hx) y (List.mem_cons_of_mem _ hy)) (g b a)
  | swap a a' l => intro hc b; simp only [List.foldl_cons]; rw [hc a' (by simp) a (by simp) b]
  | trans h1 _ ih1 ih2 => intro hc b; exact (ih1 hc b).trans (ih2 (fun x hx y hy => hc x (h1.mem_iff.2 hx) y (h1.mem_iff.2 hy)) b)
theorem unL_perm (w : BitVec 32) {f : Nat} (hf : f < 13) {l : List PtM} (h : l.Perm (ptsOf f)) : unL w l = unF f w :=
  foldl_perm (stU w) h (fun _ hx _ hy b => stU_comm w hf (h.mem_iff.1 hx) (h.mem_iff.1 hy) b) _
theorem pkL_perm (v : Nat → BitVec 32) (x : BitVec 32) {f : Nat} (hf : f < 13) {l : List PtM} (h : l.Perm (ptsOf f)) : pkL v x l = pkF f v x :=
  foldl_perm (stP v) h (fun _ hx _ hy b => stP_comm v hf (h.mem_iff.1 hx) (h.mem_iff.1 hy) b) _
theorem pts_f : ∀ f, f < 13 → ∀ p ∈ ptsOf f, p.f < 4 := by decide
theorem pts_len : ∀ f, f < 13 → (ptsOf f).length ≤ 6 := by decide

/-- What a hart does. -/
structure OpM where
  name : Int
  rd : Int
  rs1 : Int
  rs2 : Int
  imm : BitVec 32
  deriving DecidableEq
def op0 : OpM := ⟨0, 0, 0, 0, 0#32⟩
def unpk (n : Nat) (w : BitVec 32) : OpM := ⟨n, U (unF (fmO n) w 0), U (unF (fmO n) w 1), U (unF (fmO n) w 2), signB (unF (fmO n) w 3) (sgO (fmO n))⟩
/-- Does row n have the word? -/
def rowB (n : Nat) (w : BitVec 32) : Bool := w &&& mkO (fmO n) == patO n
def findW (w : BitVec 32) : Option Nat := ((List.range' 1 69).find? fun n => rowB n w)
def wordM (w : BitVec 32) : OpM := match findW w with | some n => unpk n w | none => op0
def isM (w : BitVec 32) : Bool := (findW w).isSome
def uw (i : Int) : BitVec 32 := BitVec.ofInt 32 i
def vOf (o : OpM) : Nat → BitVec 32 := fun k => match k with | 0 => uw o.rd | 1 => uw o.rs1 | 2 => uw o.rs2 | _ => o.imm
def pk (o : OpM) : BitVec 32 := pkF (fmO o.name.toNat) (vOf o) (patO o.name.toNat)
def named (n : Int) : Bool := decide (1 ≤ n) && decide (n ≤ 69)
def encB (o : OpM) : Bool := named o.name && decide (wordM (pk o) = o)
def encM (o : OpM) : BitVec 32 := if encB o then pk o else 0#32
def wrB (n : Int) : Bool := named n && !decide (n = 57) && (ptsOf (fmO n.toNat)).any fun p => p.f == 0

theorem uw_U (x : BitVec 32) : uw (U x) = x := by
  unfold uw U
  rw [BitVec.ofInt_natCast, BitVec.ofNat_toNat]
  simp

/-- No word is of two rows. -/
theorem rows_apart : ((List.range' 1 69).all fun i => (List.range' 1 69).all fun j => i == j || !(patO i &&& mkO (fmO j) == patO j &&& mkO (fmO i))) = true := by decide +kernel
theorem row_one {i j : Nat} (hi : i ∈ List.range' 1 69) (hj : j ∈ List.range' 1 69) {w : BitVec 32} (h : rowB i w = true) (k : rowB j w = true) : i = j := by
  have e := List.all_eq_true.1 (List.all_eq_true.1 rows_apart i hi) j hj
  simp only [Bool.or_eq_true, beq_iff_eq] at e
  rcases e with e | e
  · exact e
  · unfold rowB at h k
    rw [beq_iff_eq] at h k
    rw [← h, ← k, BitVec.and_assoc, BitVec.and_assoc, BitVec.and_comm (mkO (fmO i))] at e
    simp at e
theorem mem_names {n : Nat} : n ∈ List.range' 1 69 ↔ 1 ≤ n ∧ n ≤ 69 := by
  rw [List.mem_range'_1]; omega
theorem find_of {n : Nat} (h : 1 ≤ n ∧ n ≤ 69) {w : BitVec 32} (hr : rowB n w = true) : findW w = some n := by
  unfold findW
  cases e : (List.range' 1 69).find? fun n => rowB n w with
  | none => exact absurd hr (by have := List.find?_eq_none.1 e n (mem_names.2 h); simpa using this)
  | some m =>
    have hm := List.mem_of_find?_eq_some e
    have hr' := List.find?_some e
    rw [row_one hm (mem_names.2 h) hr' hr]
theorem find_some {n : Nat} {w : BitVec 32} (e : findW w = some n) : (1 ≤ n ∧ n ≤ 69) ∧ rowB n w = true :=
  ⟨mem_names.1 (List.mem_of_find?_eq_some e), by have := List.find?_some e; exact this⟩
theorem word_of {n : Nat} (h : 1 ≤ n ∧ n ≤ 69) {w : BitVec 32} (hr : rowB n w = true) : wordM w = unpk n w ∧ isM w = true := by
  unfold wordM isM; rw [find_of h hr]; exact ⟨rfl, rfl⟩
theorem word_none {w : BitVec 32} (h : findW w = none) : wordM w = op0 ∧ isM w = false := by
  unfold wordM isM; rw [h]; exact ⟨rfl, rfl⟩
theorem word_named {w : BitVec 32} (h : named (wordM w).name = true) : ∃ n, (1 ≤ n ∧ n ≤ 69) ∧ rowB n w = true ∧ wordM w = unpk n w := by
  cases e : findW w with
  | none => rw [(word_none e).1] at h; exact absurd h (by decide)
  | some n => exact ⟨n, (find_some e).1, (find_some e).2, (word_of (find_some e).1 (find_some e).2).1⟩
theorem is_some {w : BitVec 32} (h : isM w = true) : ∃ n, (1 ≤ n ∧ n ≤ 69) ∧ rowB n w = true ∧ wordM w = unpk n w := by
  cases e : findW w with
  | none => rw [(word_none e).2] at h; cases h
  | some n => exact ⟨n, (find_some e).1, (find_some e).2, (word_of (find_some e).1 (find_some e).2).1⟩
end Go.Proofs.YtdloaeifiohefaaDoor.Bm
