/- Contracts of the document's own answers for layer page: which pages may be, and their words. | Contracts of the document's own answers for layer page: two rows of words compared; free; heads; places. | Contracts of the document's own answers for layer page: what words are, as a head, and as a page. | Contract of the document's own answer for layer page: what words are, as a page. -/
import Derived.Test.YtpkkejdjhnmjiaaGreatPageMath
import Derived.Test.YtpkkejdjhnmjiaaGreatOpens
import Derived.Test.YtpkkejdjhnmjiaaGreatNorLawM
import Derived.Test.YtpkkejdjhnmjiaaGreatPageEq
import Derived.Laws.Rows
import Derived.Test.YtpkkejdjhnmjiaaGreatWordsEq
import Derived.BigRegion
import Derived.Deep.DeepCutAuto
import Derived.Deep.RegionHeld3
import Derived.Lib.Hide
namespace Go.Proofs.YtpkkejdjhnmjiaaGreat
open Go.RowKit Bm
def OutW (w : World) (xs : List (BitVec 32)) (e : Ending) (w' : World) : Prop :=
  ∃ A cap, e = .returned (.slice A xs.length cap) ∧ ReadsU w' A xs.length cap xs ∧ (0 < xs.length → ∃ g rest, A = some ⟨g, 0, none⟩ ∧ At w' g 36 (Us xs ++ rest) ∧ (Us xs ++ rest).length = cap ∧ w.heap.size ≤ g) ∧ Below w.heap.size w w'
theorem reads_nil (w : World) (A : Option Addr) : ReadsU w A 0 0 [] := ⟨rfl, Nat.le_refl _, by unfold maxLen; omega, fun h => absurd h (by omega)⟩
theorem outW_nil {w w' : World} {A : Option Addr} (h : Below w.heap.size w w') : OutW w [] (.returned (.slice A 0 0)) w' := ⟨A, 0, rfl, reads_nil _ _, fun h => absurd h (by simp), h⟩
theorem outW_new {w w' : World} {g : Nat} {xs : List (BitVec 32)} {n : Nat} (hn : n = xs.length) (hA : At w' g 36 (Us xs)) (hm : xs.length ≤ maxLen) (hg : w.heap.size ≤ g) (h : Below w.heap.size w w') : OutW w xs (.returned (.slice (some ⟨g, 0, none⟩) n n)) w' := by
  subst hn
  refine ⟨some ⟨g, 0, none⟩, xs.length, rfl, ?_, fun _ => ⟨g, [], rfl, by simpa using hA, by simp [Us_length], hg⟩, h⟩
  exact ReadsU.of_at (rest := []) (by simpa using hA) (by simp [Us_length]) hm
theorem At.on {w w' : World} {b : Nat} {t : TypeId} {cs : List Value} (h : At w b t cs) (hb : Below w.heap.size w w') : At w' b t cs := h.kept (Turned.of_below hb (Nat.le_refl _) NoBlock) (fun h => h)
structure PgAt (w : World) (b : Nat) (t : TypeId) (p : PageM) : Prop where
  at_ : At w b t (pgC p)
theorem PgAt.cells {w : World} {b : Nat} {t : TypeId} {p : PageM} (h : PgAt w b t p) : w.cell? ⟨b, 0, none⟩ = some (.int .u32 (U p.s)) ∧ w.cell? ⟨b, 1, none⟩ = some (.int .u32 (U p.q)) ∧ w.cell? ⟨b, 2, none⟩ = some (.bool p.g) ∧ w.cell? ⟨b, 3, none⟩ = some (.int .u32 (U p.d0)) ∧ w.cell? ⟨b, 4, none⟩ = some (.int .u32 (U p.d1)) ∧ w.cell? ⟨b, 5, none⟩ = some (.int .u32 (U p.d2)) ∧ w.cell? ⟨b, 6, none⟩ = some (.int .u32 (U p.d3)) :=
  ⟨h.at_.cell 0, h.at_.cell 1, h.at_.cell 2, h.at_.cell 3, h.at_.cell 4, h.at_.cell 5, h.at_.cell 6⟩
theorem PgAt.news (w : World) (t : TypeId) (p : PageM) : PgAt (w.alloc (.cells (pgC p).toArray t)) w.heap.size t p := ⟨At.news w t _⟩
theorem PgAt.on {w w' : World} {b : Nat} {t : TypeId} {p : PageM} (h : PgAt w b t p) (hb : Below w.heap.size w w') : PgAt w' b t p := ⟨h.at_.on hb⟩
theorem PgAt.other {w w' : World} {b b' : Nat} {t : TypeId} {p : PageM} (h : PgAt w b t p) (hb : Turned (fun i => i = b') w w') (hne : b ≠ b') : PgAt w' b t p := ⟨h.at_.kept hb hne⟩
theorem PgAt.put7 {w : World} {g : Nat} {t : TypeId} {p0 : PageM} (h : PgAt w g t p0) (p : PageM) : PgAt (((((((w.setCell ⟨g, 0, none⟩ (.int .u32 (U p.s))).setCell ⟨g, 1, none⟩ (.int .u32 (U p.q))).setCell ⟨g, 2, none⟩ (.bool p.g)).setCell ⟨g, 3, none⟩ (.int .u32 (U p.d0))).setCell ⟨g, 4, none⟩ (.int .u32 (U p.d1))).setCell ⟨g, 5, none⟩ (.int .u32 (U p.d2))).setCell ⟨g, 6, none⟩ (.int .u32 (U p.d3))) g t p :=
  ⟨(((((((h.at_.put 0 _).put 1 _).put 2 _).put 3 _).put 4 _).put 5 _).put 6 _).as rfl⟩
theorem PgAt.put7_below {a w : World} {B g : Nat} (h : Below B a w) (hg : B ≤ g) (v0 v1 v2 v3 v4 v5 v6 : Value) : Below B a (((((((w.setCell ⟨g, 0, none⟩ v0).setCell ⟨g, 1, none⟩ v1).setCell ⟨g, 2, none⟩ v2).setCell ⟨g, 3, none⟩ v3).setCell ⟨g, 4, none⟩ v4).setCell ⟨g, 5, none⟩ v5).setCell ⟨g, 6, none⟩ v6) :=
  ((((((h.setCell (p := ⟨g, 0, none⟩) hg _).setCell (p := ⟨g, 1, none⟩) hg _).setCell (p := ⟨g, 2, none⟩) hg _).setCell (p := ⟨g, 3, none⟩) hg _).setCell (p := ⟨g, 4, none⟩) hg _).setCell (p := ⟨g, 5, none⟩) hg _).setCell (p := ⟨g, 6, none⟩) hg _
theorem PgAt.drewN {w : World} {g : Nat} {t : TypeId} {p : PageM} (h : PgAt w g t p) (n : Nat) : PgAt (w.drewN n) g t p := ⟨h.at_.drewN n⟩
theorem PgAt.drew {w : World} {g : Nat} {t : TypeId} {p : PageM} (h : PgAt w g t p) : PgAt w.drew g t p := ⟨h.at_.drew⟩
theorem U0 (x : BitVec 32) : (U x == 0) = (x == 0#32) := U_beq x 0#32
end Go.Proofs.YtpkkejdjhnmjiaaGreat
namespace Go.Proofs.YtpkkejdjhnmjiaaGreat
open Go.RowKit Bm
end Go.Proofs.YtpkkejdjhnmjiaaGreat
namespace Go.Proofs.YtpkkejdjhnmjiaaGreat
open Go.RowKit Bm
theorem below_drewN' (B : Nat) (w : World) (n : Nat) : Below B w (w.drewN n) := ⟨rfl, rfl, rfl, Nat.le_refl _, fun _ _ => rfl⟩
theorem hdRd_far {xs : List (BitVec 32)} (h : xs.length ≠ 4) : hdRd xs = (0#32, 2) := by unfold hdRd; rw [if_neg h]
theorem hdRd_free {xs : List (BitVec 32)} (h : xs.length = 4) (hf : freeB xs = true) : hdRd xs = (0#32, 0) := by unfold hdRd; rw [if_pos h, if_pos hf]
theorem hdRd_good {xs : List (BitVec 32)} (h : xs.length = 4) (hf : freeB xs = false) (e : hdWs (wd xs 1) = xs) : hdRd xs = (wd xs 1, 1) := by unfold hdRd; rw [if_pos h, if_neg (by simp [hf]), if_pos e]
theorem hdRd_torn {xs : List (BitVec 32)} (h : xs.length = 4) (hf : freeB xs = false) (e : ¬ hdWs (wd xs 1) = xs) : hdRd xs = (0#32, 2) := by unfold hdRd; rw [if_pos h, if_neg (by simp [hf]), if_neg e]
theorem pgRd_far {xs : List (BitVec 32)} (h : xs.length ≠ 7) : pgRd xs = (pg0, 2) := by unfold pgRd; rw [if_neg h]
theorem pgRd_free {xs : List (BitVec 32)} (h : xs.length = 7) (hf : freeB xs = true) : pgRd xs = (pg0, 0) := by unfold pgRd; rw [if_pos h, if_pos hf]
theorem pgRd_good {xs : List (BitVec 32)} (h : xs.length = 7) (hf : freeB xs = false) (e : pgWs (pgOf xs) = xs) : pgRd xs = (pgOf xs, 1) := by unfold pgRd; rw [if_pos h, if_neg (by simp [hf]), if_pos e]
theorem pgRd_torn {xs : List (BitVec 32)} (h : xs.length = 7) (hf : freeB xs = false) (e : ¬ pgWs (pgOf xs) = xs) : pgRd xs = (pg0, 2) := by unfold pgRd; rw [if_pos h, if_neg (by simp [hf]), if_neg e]
theorem ReadsU.some_ {w : World} {A : Option Addr} {n cap : Nat} {xs : List (BitVec 32)} (h : ReadsU w A n cap xs) (hn : 0 < n) : ∃ a, A = some a := by
  obtain ⟨a, e, _⟩ := h.cell hn
  exact ⟨a, e⟩
theorem ReadsU.c0 {w : World} {a : Addr} {n cap : Nat} {xs : List (BitVec 32)} (h : ReadsU w (some a) n cap xs) (hn : 0 < n) : w.cell? a = some (.int .u32 (U (wd xs 0))) := by
  obtain ⟨b, e, hc⟩ := h.at_ hn
  injection e with e
  subst e
  unfold Addr.add at hc
  rwa [if_pos rfl] at hc
theorem ReadsU.cj {w : World} {a : Addr} {n cap : Nat} {xs : List (BitVec 32)} (h : ReadsU w (some a) n cap xs) (j : Nat) (hj : j < n) (h0 : 0 < j) : w.cell? ⟨a.block, a.off + j, none⟩ = some (.int .u32 (U (wd xs j))) := by
  obtain ⟨b, e, hc⟩ := h.at_ hj
  injection e with e
  subst e
  unfold Addr.add at hc
  rwa [if_neg (by omega)] at hc
end Go.Proofs.YtpkkejdjhnmjiaaGreat

namespace Go.Proofs.YtpkkejdjhnmjiaaGreat
open Go.RowKit Bm
theorem ReadsU.lt {w : World} {a : Addr} {n cap : Nat} {xs : List (BitVec 32)} (h : ReadsU w (some a) n cap xs) (hn : 0 < n) : a.block < w.heap.size := by
  obtain ⟨b, e, hl, _⟩ := h.cell hn
  injection e with e
  rw [e]; exact hl
end Go.Proofs.YtpkkejdjhnmjiaaGreat
