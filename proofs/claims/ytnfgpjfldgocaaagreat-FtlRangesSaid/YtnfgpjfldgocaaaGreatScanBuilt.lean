/- Contract of the law's Built (layer scan): the words of blocks that are written out. -/
import Derived.Test.YtnfgpjfldgocaaaGreatScanMath
import Derived.Test.YtnfgpjfldgocaaaGreatMid
import Derived.Test.YtnfgpjfldgocaaaGreatNorBR
import Derived.Test.YtnfgpjfldgocaaaGreatPageRef
import Derived.Test.YtnfgpjfldgocaaaGreatOpens
import Derived.BigRegion
import Derived.Deep.DeepCutAuto
import Derived.Deep.AppendLies
import Derived.Deep.LoopGhost
import Derived.Deep.Light
import Derived.Lib.Hide
namespace Go.Proofs.YtnfgpjfldgocaaaGreat
open Go.RowKit Bm

/-- A slice (nil too) reads as these pages; a slice of such slices. -/
structure ReadsP (w : World) (A : Option Addr) (n cap : Nat) (ps : List PageM) : Prop where
  len : ps.length = n
  le : n ≤ cap
  max : cap ≤ maxLen
  cell : 0 < n → ∃ g off, A = some ⟨g, off, none⟩ ∧ g < w.heap.size ∧ ∀ j p, ps[j]? = some p → w.rangeAt g (off + j * 7) (pgC p)
structure ReadsPP (w : World) (A : Option Addr) (n cap : Nat) (ll : List (List PageM)) : Prop where
  len : ll.length = n
  le : n ≤ cap
  max : cap ≤ maxLen
  cell : 0 < n → ∃ ad, A = some ad ∧ ad.block < w.heap.size ∧ ∀ j ps, ll[j]? = some ps → ∃ Aj nj cj, w.cell? (ad.add j) = some (.slice Aj nj cj) ∧ ReadsP w Aj nj cj ps
theorem rng_kept {w w' : World} {g off : Nat} {cs : List Value} (h : w.rangeAt g off cs) (hb : w'.heap[g]? = w.heap[g]?) : w'.rangeAt g off cs := fun j v hv => (World.cell?_of_block (a := ⟨g, off + j, none⟩) hb).trans (h j v hv)
section
variable {w w' : World} {A : Option Addr} {n cap : Nat}
theorem ReadsP.kept {ps : List PageM} (h : ReadsP w A n cap ps) (hB : Below w.heap.size w w') : ReadsP w' A n cap ps :=
  ⟨h.len, h.le, h.max, fun hn => by
    obtain ⟨g, off, e, hlt, hc⟩ := h.cell hn
    exact ⟨g, off, e, Nat.lt_of_lt_of_le hlt hB.size, fun j p hp => rng_kept (hc j p hp) (hB.block g hlt)⟩⟩
theorem ReadsPP.kept {ll : List (List PageM)} (h : ReadsPP w A n cap ll) (hB : Below w.heap.size w w') : ReadsPP w' A n cap ll :=
  ⟨h.len, h.le, h.max, fun hn => by
    obtain ⟨ad, e, hlt, hc⟩ := h.cell hn
    refine ⟨ad, e, Nat.lt_of_lt_of_le hlt hB.size, fun j ps hp => ?_⟩
    obtain ⟨Aj, nj, cj, h1, h2⟩ := hc j ps hp
    exact ⟨Aj, nj, cj, (hB.cell (p := ad.add j) (by rw [add_block]; exact hlt)).trans h1, h2.kept hB⟩⟩
theorem ReadsP.at_ {ps : List PageM} (h : ReadsP w A n cap ps) {j : Nat} (hj : j < n) : ∃ g off, A = some ⟨g, off, none⟩ ∧ w.rangeAt g (off + j * 7) (pgC (pgN ps j)) := by
  obtain ⟨g, off, e, _, hc⟩ := h.cell (by omega)
  refine ⟨g, off, e, hc j _ ?_⟩
  unfold pgN
  rw [List.getD_eq_getElem?_getD, List.getElem?_eq_getElem (by rw [h.len]; exact hj)]
  rfl
theorem ReadsPP.at_ {ll : List (List PageM)} (h : ReadsPP w A n cap ll) {j : Nat} (hj : j < n) : ∃ ad Aj nj cj, A = some ad ∧ ad.block < w.heap.size ∧ w.cell? (ad.add j) = some (.slice Aj nj cj) ∧ ReadsP w Aj nj cj (ll.getD j []) := by
  obtain ⟨ad, e, hlt, hc⟩ := h.cell (by omega)
  obtain ⟨Aj, nj, cj, h1, h2⟩ := hc j (ll.getD j []) (by rw [List.getD_eq_getElem?_getD, List.getElem?_eq_getElem (by rw [h.len]; exact hj)]; rfl)
  exact ⟨ad, Aj, nj, cj, e, hlt, h1, h2⟩
end

/-- The words of the first j blocks; and of the head, and t pages, of the next one. -/
def bltPre (ll : List (List PageM)) (j : Nat) : List (BitVec 32) := (List.range j).flatMap fun i => blkW i (ll.getD i [])
def bltCur (ll : List (List PageM)) (j t : Nat) : List (BitVec 32) := bltPre ll j ++ (hdWs (BitVec.ofNat 32 j) ++ (List.range t).flatMap (slotW (ll.getD j [])))
theorem bltPre_succ (ll : List (List PageM)) (j : Nat) : bltPre ll (j + 1) = bltCur ll j 8 ++ onesW 4 := by
  unfold bltPre bltCur
  rw [show List.range (j + 1) = List.range j ++ [j] from List.range_succ, List.flatMap_append, List.flatMap_singleton]
  unfold bltPre blkW
  simp only [List.append_assoc]
theorem bltCur_zero (ll : List (List PageM)) (j : Nat) : bltCur ll j 0 = bltPre ll j ++ hdWs (BitVec.ofNat 32 j) := by unfold bltCur; simp
theorem bltCur_succ (ll : List (List PageM)) (j t : Nat) : bltCur ll j (t + 1) = bltCur ll j t ++ slotW (ll.getD j []) t := by
  unfold bltCur
  rw [List.range_succ, List.flatMap_append, List.flatMap_singleton]
  simp only [List.append_assoc]
theorem bltPre_len (ll : List (List PageM)) (j : Nat) (h : j ≤ 2147483648) : (bltPre ll j).length = 64 * j := by
  unfold bltPre
  rw [flat_len _ 64 _ (fun i hi => blkW_len (by simp at hi; omega) _), List.length_range]
theorem bltCur_len (ll : List (List PageM)) (j t : Nat) (h : j ≤ 2147483648) : (bltCur ll j t).length = 64 * j + 4 + 7 * t := by
  unfold bltCur
  rw [List.length_append, List.length_append, bltPre_len ll j h, hd_len h, flat_len _ 7 _ (fun k _ => slotW_len _ k), List.length_range]
  omega
theorem own_lift {w w' : World} {base n k : Nat} {t : TypeId} {v : Value} {xs : List Value} (h : w.ownsRow base t k v n xs) (hb : Below w.heap.size w w') : w'.ownsRow base t k v n xs :=
  h.kept (w' := w') (row := none) ⟨hb.os, hb.tape, hb.output, hb.size, fun k hk _ => hb.block k hk⟩ (by cases v.ownBlock <;> simp)
theorem ReadsU.news {w : World} {A : Option Addr} {n cap : Nat} {xs : List (BitVec 32)} (h : ReadsU w A n cap xs) (hn : 0 < n) : ∃ ad, A = some ad ∧ ∀ j u, (Us xs)[j]? = some u → w.cell? (ad.add j) = some u := by
  obtain ⟨ad, e, _, hc⟩ := h.cell hn
  exact ⟨ad, e, hc⟩

theorem readsU_of_own {w : World} {base n : Nat} {v : Value} {xs : List (BitVec 32)} (h : w.ownsRow base 38 1 v n (Us xs)) (hn : xs.length = n) : ∃ A cap, v = .slice A n cap ∧ ReadsU w A n cap xs := by
  have h0 := h
  rcases h.2 with ⟨rfl, e⟩ | ⟨g, cap, cur, rfl, _⟩
  · subst e
    have : xs = [] := List.eq_nil_of_length_eq_zero hn
    subst this
    exact ⟨Option.none, 0, rfl, reads_nil _ _⟩
  · obtain ⟨rest, hA, h1, h2, h3, _⟩ := at_of_own h0
    have := ReadsU.of_at hA (by rw [h1, Nat.mul_one]) h3
    rw [hn] at this
    exact ⟨_, cap, rfl, this⟩
/-- Words are put behind words. -/
theorem wpList_appW {ops : Array Oper} {rest : List Oper} {o : Oper} {a : Go.Act} {w : World} {Q : Exit → Go.Act → World → Prop} {base n m c : Nat} {xs ys : List (BitVec 32)} {v : Value} {ad : Addr} (s x : Operand) (hgd : o.guard = none) (hop : o.op = .call { callee := .builtin .append, args := #[s, x], argTypes := #[58, 58] })
    (hs : a.eval s = v) (hown : w.ownsRow base 38 1 v n (Us xs)) (hx : a.eval x = .slice (some ad) m c) (hr : ReadsU w (some ad) m c ys) (hm : 0 < m) (hl : n + m ≤ 1000000) (hb : base ≤ w.heap.size)
    (h : ∀ g cap w', w'.ownsRow base 38 1 (.slice (some ⟨g, 0, none⟩) (n + m) cap) (n + m) (Us (xs ++ ys)) → Below base w w' → wpList Tryz.prog ops Q rest (a.put o.dst (.slice (some ⟨g, 0, none⟩) (n + m) cap)) w') : wpList Tryz.prog ops Q (o :: rest) a w := by
  obtain ⟨i0, hin, hz0, hz1, hz2⟩ := info_parts infoU
  obtain ⟨ad', e, hn⟩ := hr.news hm
  cases e
  refine wpList_append_lies _ hgd s x _ hop base 38 i0 _ 1 4 Tryz.underlying58 hin hz0 hz1 hz2 rfl (by omega) v n _ hs hown ad m c (Us ys) hx (by rw [Us_length, hr.len]; omega) hn (Us_one _) hm (by unfold maxLen; omega) (by omega) hb _ rfl ?_
  intro g cap w' h1 h2 _ _
  exact h g cap w' (by rw [Us_append]; exact h1) ((Below.refl base w).grown h2 hb (fun k hk => (hown.lt k hk).1))

end Go.Proofs.YtnfgpjfldgocaaaGreat
