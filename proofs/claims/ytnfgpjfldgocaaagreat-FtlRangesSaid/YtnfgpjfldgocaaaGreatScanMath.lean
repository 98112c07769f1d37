/- Blocks as they are found, as plain data (layer scan, chapter 6 of the document). | Slices of blocks: what they read as. | Facts of blocks: what may be written next, what was built is found, words of other blocks count nothing. -/
import Derived.Test.YtnfgpjfldgocaaaGreatPageMath
import Derived.Test.YtnfgpjfldgocaaaGreatMid
import Derived.Test.YtnfgpjfldgocaaaGreatLaw
namespace Go.Proofs.YtnfgpjfldgocaaaGreat
open Go.RowKit Bm

/-- What was found in a block: its head, its count, the kinds of its pages, the pages. -/
structure BlkM where
  head : Int
  count : BitVec 32
  kinds : List Int
  pages : List PageM
  deriving DecidableEq, Inhabited
structure BlkOk (b : BlkM) : Prop where
  k : b.kinds.length = 8
  p : b.pages.length = 8
def pgs (l : List PageM) : List Value := l.flatMap pgC
def bkC (b : BlkM) : List Value := [.int .i64 b.head, .int .u32 (U b.count)] ++ (Is b.kinds ++ pgs b.pages)
def bkV (b : BlkM) : Value := .agg (bkC b).toArray
def bk0 : BlkM := ⟨0, 0#32, List.replicate 8 0, List.replicate 8 pg0⟩
def pgN (l : List PageM) (i : Nat) : PageM := l.getD i pg0

theorem pgC_len (p : PageM) : (pgC p).length = 7 := rfl
theorem pgs_len (l : List PageM) : (pgs l).length = 7 * l.length := by
  unfold pgs
  induction l with
  | nil => rfl
  | cons p l ih => rw [List.flatMap_cons, List.length_append, ih, pgC_len, List.length_cons]; omega
theorem bk_len {b : BlkM} (h : BlkOk b) : (bkC b).length = 66 := by
  unfold bkC
  rw [List.length_append, List.length_append, Is_length, pgs_len, h.k, h.p]
  rfl
theorem pgC_one (p : PageM) : ∀ u ∈ pgC p, u.oneCell' = true := by
  intro u hu
  simp only [pgC, List.mem_cons, List.not_mem_nil, or_false] at hu
  rcases hu with rfl | rfl | rfl | rfl | rfl | rfl | rfl <;> rfl
theorem pgs_one (l : List PageM) : ∀ u ∈ pgs l, u.oneCell' = true := by
  intro u hu
  obtain ⟨p, _, h⟩ := List.mem_flatMap.1 hu
  exact pgC_one p u h
theorem bk_one (b : BlkM) : ∀ u ∈ bkC b, u.oneCell' = true := by
  intro u hu
  simp only [bkC, List.mem_append, List.mem_cons, List.not_mem_nil, or_false] at hu
  rcases hu with (rfl | rfl) | hu | hu
  · rfl
  · rfl
  · exact Is_one _ u hu
  · exact pgs_one _ u hu
theorem bk0_ok : BlkOk bk0 := ⟨rfl, rfl⟩

/-! ### Its cells, one by one, and rows of them -/
theorem pgs_split (l : List PageM) (i : Nat) (h : i < l.length) : pgs l = pgs (l.take i) ++ (pgC (pgN l i) ++ pgs (l.drop (i + 1))) := by
  have e : l = l.take i ++ (pgN l i :: l.drop (i + 1)) := by
    have h1 : pgN l i :: l.drop (i + 1) = l.drop i := by
      rw [List.drop_eq_getElem_cons h]
      unfold pgN
      rw [List.getD_eq_getElem?_getD, List.getElem?_eq_getElem h]
      rfl
    rw [h1, List.take_append_drop]
  conv => lhs; rw [e]
  unfold pgs
  rw [List.flatMap_append, List.flatMap_cons]
theorem pgs_set (l : List PageM) (i : Nat) (p : PageM) (h : i < l.length) : pgs (l.set i p) = pgs (l.take i) ++ (pgC p ++ pgs (l.drop (i + 1))) := by
  have e : l.set i p = l.take i ++ (p :: l.drop (i + 1)) := by
    rw [List.set_eq_take_append_cons_drop, if_pos h]
  rw [e]
  unfold pgs
  rw [List.flatMap_append, List.flatMap_cons]
theorem bk_head (b : BlkM) : (bkC b)[0]? = some (.int .i64 b.head) := rfl
theorem bk_count (b : BlkM) : (bkC b)[1]? = some (.int .u32 (U b.count)) := rfl
theorem bk_kind {b : BlkM} (h : BlkOk b) (i : Nat) (hi : i < 8) : (bkC b)[2 + i]? = some (.int .i64 (nm b.kinds i)) := by
  unfold bkC
  rw [List.getElem?_append_right (by simp), show 2 + i - [Value.int .i64 b.head, .int .u32 (U b.count)].length = i by simp, List.getElem?_append_left (by rw [Is_length, h.k]; exact hi)]
  exact Is_get _ _ (by rw [h.k]; exact hi)
theorem bk_setKind {b : BlkM} (h : BlkOk b) (i : Nat) (hi : i < 8) (x : Int) : (bkC b).set (2 + i) (.int .i64 x) = bkC { b with kinds := b.kinds.set i x } := by
  unfold bkC
  rw [List.set_append_right _ _ (by simp), show 2 + i - [Value.int .i64 b.head, .int .u32 (U b.count)].length = i by simp, List.set_append_left _ _ (by rw [Is_length, h.k]; exact hi), Is_set]
/-- A block around its page i. -/
theorem bk_page {b : BlkM} (h : BlkOk b) (i : Nat) (hi : i < 8) : ∃ pre post, pre.length = 10 + 7 * i ∧ bkC b = pre ++ (pgC (pgN b.pages i) ++ post) ∧ ∀ p, bkC { b with pages := b.pages.set i p } = pre ++ (pgC p ++ post) := by
  refine ⟨[.int .i64 b.head, .int .u32 (U b.count)] ++ (Is b.kinds ++ pgs (b.pages.take i)), pgs (b.pages.drop (i + 1)), ?_, ?_, fun p => ?_⟩
  · rw [List.length_append, List.length_append, Is_length, pgs_len, h.k, List.length_take, h.p]
    simp only [List.length_cons, List.length_nil]
    omega
  · unfold bkC
    rw [pgs_split b.pages i (by rw [h.p]; exact hi)]
    simp only [List.append_assoc]
  · unfold bkC
    rw [pgs_set b.pages i p (by rw [h.p]; exact hi)]
    simp only [List.append_assoc]

/-! ### What is found in words -/
def pgAtW (ws : List (BitVec 32)) (i : Nat) : List (BitVec 32) := (ws.drop (4 + 7 * i)).take 7
def bkOf (ws : List (BitVec 32)) : BlkM :=
  ⟨(hdRd (ws.take 4)).2, (hdRd (ws.take 4)).1,
   (List.range 8).map (fun i => if (hdRd (ws.take 4)).2 = 1 then (pgRd (pgAtW ws i)).2 else 2),
   (List.range 8).map (fun i => if (hdRd (ws.take 4)).2 = 1 then (pgRd (pgAtW ws i)).1 else pg0)⟩
theorem bkOf_ok (ws : List (BitVec 32)) : BlkOk (bkOf ws) := ⟨by simp [bkOf], by simp [bkOf]⟩
def chunk (ws : List (BitVec 32)) (i : Nat) : List (BitVec 32) := (ws.drop (64 * i)).take 64
/-- The blocks of words; none if they are not just whole blocks. -/
def scOf (ws : List (BitVec 32)) : List BlkM × Int :=
  if ws.length % 64 = 0 ∧ 1 ≤ ws.length / 64 ∧ ws.length / 64 ≤ 64 then ((List.range (ws.length / 64)).map (fun i => bkOf (chunk ws i)), 0) else ([], 8)
/-- From which page on all are free (8: none is). -/
def freeFrom (ks : List Int) : Nat → Nat
  | 0 => 0
  | n + 1 => if nm ks n = 0 then freeFrom ks n else n + 1
def bkNext (b : BlkM) : Int := if b.head = 1 then (if freeFrom b.kinds 8 = 8 then -1 else freeFrom b.kinds 8) else -1
def bkEmpty (b : BlkM) : Bool := decide (bkNext b = 0)
def bkMax (n : BitVec 32) (b : BlkM) : BitVec 32 := if b.head = 1 ∧ U n < U b.count then b.count else n
def bkCounts (l : List BlkM) : BitVec 32 := l.foldl bkMax 0#32
end Go.Proofs.YtnfgpjfldgocaaaGreat

namespace Go.Proofs.YtnfgpjfldgocaaaGreat
open Go.RowKit Bm

def bkN (bs : List BlkM) (i : Nat) : BlkM := bs.getD i bk0
theorem bkN_get {bs : List BlkM} {i : Nat} (h : i < bs.length) : bs[i]? = some (bkN bs i) := by
  unfold bkN
  rw [List.getD_eq_getElem?_getD, List.getElem?_eq_getElem h]
  rfl
/-- A slice (nil too) reads as these blocks. -/
structure ReadsB (w : World) (A : Option Addr) (n cap : Nat) (bs : List BlkM) : Prop where
  len : bs.length = n
  le : n ≤ cap
  max : cap ≤ maxLen
  ok : ∀ b ∈ bs, BlkOk b
  cell : 0 < n → ∃ g off, A = some ⟨g, off, none⟩ ∧ g < w.heap.size ∧ ∀ j b, bs[j]? = some b → w.rangeAt g (off + j * 66) (bkC b)
theorem range_kept {w w' : World} {g off : Nat} {cs : List Value} (h : w.rangeAt g off cs) (hb : w'.heap[g]? = w.heap[g]?) : w'.rangeAt g off cs := fun j v hv => (World.cell?_of_block (a := ⟨g, off + j, none⟩) hb).trans (h j v hv)
section
variable {w w' : World} {A : Option Addr} {n cap : Nat} {bs : List BlkM}
theorem ReadsB.kept (h : ReadsB w A n cap bs) (hB : Below w.heap.size w w') : ReadsB w' A n cap bs :=
  ⟨h.len, h.le, h.max, h.ok, fun hn => by
    obtain ⟨g, off, e, hlt, hc⟩ := h.cell hn
    exact ⟨g, off, e, Nat.lt_of_lt_of_le hlt hB.size, fun j b hb => range_kept (hc j b hb) (hB.block g hlt)⟩⟩
theorem ReadsB.at_ (h : ReadsB w A n cap bs) {j : Nat} (hj : j < n) : ∃ g off, A = some ⟨g, off, none⟩ ∧ g < w.heap.size ∧ w.rangeAt g (off + j * 66) (bkC (bkN bs j)) := by
  obtain ⟨g, off, e, hlt, hc⟩ := h.cell (by omega)
  exact ⟨g, off, e, hlt, hc j _ (bkN_get (by rw [h.len]; exact hj))⟩
theorem ReadsB.okN (h : ReadsB w A n cap bs) {j : Nat} (hj : j < n) : BlkOk (bkN bs j) := h.ok _ (List.mem_of_getElem? (bkN_get (by rw [h.len]; exact hj)))
end
/-- The cells of blocks, one behind the other. -/
def bks (bs : List BlkM) : List Value := bs.flatMap bkC
theorem bks_len {bs : List BlkM} (h : ∀ b ∈ bs, BlkOk b) : (bks bs).length = 66 * bs.length := by
  unfold bks
  induction bs with
  | nil => rfl
  | cons b bs ih => rw [List.flatMap_cons, List.length_append, bk_len (h b (by simp)), ih (fun c hc => h c (by simp [hc])), List.length_cons]; omega
theorem bks_one (bs : List BlkM) : ∀ u ∈ bks bs, u.oneCell' = true := by
  intro u hu
  obtain ⟨b, _, h⟩ := List.mem_flatMap.1 hu
  exact bk_one b u h
theorem bks_snoc (bs : List BlkM) (b : BlkM) : bks (bs ++ [b]) = bks bs ++ bkC b := by simp [bks]
theorem bks_get {bs : List BlkM} (h : ∀ b ∈ bs, BlkOk b) {j : Nat} {b : BlkM} (hj : bs[j]? = some b) (i : Nat) (v : Value) (hv : (bkC b)[i]? = some v) : (bks bs)[j * 66 + i]? = some v := by
  induction bs generalizing j with
  | nil => simp at hj
  | cons c bs ih =>
    unfold bks at ih ⊢
    rw [List.flatMap_cons]
    have hl := bk_len (h c (by simp))
    cases j with
    | zero =>
      simp only [List.getElem?_cons_zero, Option.some.injEq] at hj
      subst hj
      rw [Nat.zero_mul, Nat.zero_add, List.getElem?_append_left (List.getElem?_eq_some_iff.1 hv).1, hv]
    | succ j =>
      rw [List.getElem?_cons_succ] at hj
      rw [List.getElem?_append_right (by omega), hl, show (j + 1) * 66 + i - 66 = j * 66 + i by omega]
      exact ih (fun d hd => h d (by simp [hd])) hj
theorem ReadsB.of_at {w : World} {g cap : Nat} {t : TypeId} {bs : List BlkM} {rest : List Value} (hA : At w g t (bks bs ++ rest)) (hb : ∀ b ∈ bs, BlkOk b) (hc : bs.length ≤ cap) (hm : cap ≤ maxLen) : ReadsB w (some ⟨g, 0, none⟩) bs.length cap bs :=
  ⟨rfl, hc, hm, hb, fun _ => ⟨g, 0, rfl, hA.lt, fun j b hj i v hv => by
    rw [hA.cell, Nat.zero_add, List.getElem?_append_left]
    · exact bks_get hb hj i v hv
    · exact (List.getElem?_eq_some_iff.1 (bks_get hb hj i v hv)).1⟩⟩
theorem ReadsB.none (w : World) : ReadsB w none 0 0 [] := ⟨rfl, Nat.le_refl _, Nat.zero_le _, fun b hb => (by cases hb), fun h => absurd h (by omega)⟩
/-- A block's cells in its own box. -/
theorem At.rng {w : World} {g : Nat} {t : TypeId} {cs : List Value} (h : At w g t cs) : w.rangeAt g 0 cs := fun j v hv => by rw [Nat.zero_add]; exact (h.cell j).trans hv
theorem bkCounts_step (bs : List BlkM) (j : Nat) (h : j < bs.length) : bkCounts (bs.take (j + 1)) = bkMax (bkCounts (bs.take j)) (bkN bs j) := by
  unfold bkCounts
  rw [List.take_add_one, bkN_get h]
  simp
end Go.Proofs.YtnfgpjfldgocaaaGreat

namespace Go.Proofs.YtnfgpjfldgocaaaGreat
open Go.RowKit Bm

/-! ### Next -/
theorem free_le (ks : List Int) : ∀ n, freeFrom ks n ≤ n
  | 0 => Nat.le_refl _
  | n + 1 => by
    unfold freeFrom
    split
    · exact Nat.le_succ_of_le (free_le ks n)
    · exact Nat.le_refl _
theorem free_tail (ks : List Int) : ∀ n i, freeFrom ks n ≤ i → i < n → nm ks i = 0
  | 0, i, _, h => absurd h (Nat.not_lt_zero _)
  | n + 1, i, h1, h2 => by
    unfold freeFrom at h1
    split at h1
    · rename_i h0
      by_cases e : i = n
      · rw [e]; exact h0
      · exact free_tail ks n i h1 (by omega)
    · omega
theorem free_head (ks : List Int) : ∀ n, 0 < freeFrom ks n → nm ks (freeFrom ks n - 1) ≠ 0
  | 0, h => absurd h (Nat.lt_irrefl _)
  | n + 1, h => by
    unfold freeFrom at h ⊢
    split
    · rename_i h0
      rw [if_pos h0] at h
      exact free_head ks n h
    · rename_i h0
      simpa using h0
theorem free_is (ks : List Int) (n m : Nat) (hm : m ≤ n) (h1 : ∀ i, m ≤ i → i < n → nm ks i = 0) (h2 : 0 < m → nm ks (m - 1) ≠ 0) : freeFrom ks n = m := by
  induction n with
  | zero =>
    obtain rfl : m = 0 := by omega
    rfl
  | succ n ih =>
    unfold freeFrom
    by_cases e : m = n + 1
    · subst e
      rw [if_neg (by simpa using h2 (by omega))]
    · rw [if_pos (h1 n (by omega) (by omega))]
      exact ih (by omega) (fun i a b => h1 i a (by omega))
theorem next_range (b : BlkM) : -1 ≤ bkNext b ∧ bkNext b ≤ 7 := by
  have := free_le b.kinds 8
  unfold bkNext
  repeat' split
  all_goals omega
theorem next_head {b : BlkM} (h : b.head ≠ 1) : bkNext b = -1 := by unfold bkNext; rw [if_neg h]
theorem next_none {b : BlkM} (h : bkNext b < 0) : b.head ≠ 1 ∨ nm b.kinds 7 ≠ 0 := by
  unfold bkNext at h
  split at h
  · split at h
    · rename_i h8
      have := free_head b.kinds 8 (by omega)
      rw [h8] at this
      exact .inr this
    · omega
  · exact .inl (by assumption)
theorem next_some {b : BlkM} {n : Nat} (h : bkNext b = n) : n ≤ 7 ∧ (∀ i, n ≤ i → i < 8 → nm b.kinds i = 0) ∧ (0 < n → nm b.kinds (n - 1) ≠ 0) := by
  have hr := next_range b
  rw [h] at hr
  unfold bkNext at h
  split at h
  · split at h
    · omega
    · have e : freeFrom b.kinds 8 = n := by omega
      refine ⟨by omega, fun i a c => free_tail b.kinds 8 i (by omega) c, fun hn => ?_⟩
      rw [← e]
      exact free_head b.kinds 8 (by omega)
  · omega

/-! ### What is built -/
def onesW (n : Nat) : List (BitVec 32) := List.replicate n 4294967295#32
def pgIs (l : List PageM) (k : Nat) : Bool := decide (k < l.length) && pgOk (pgN l k)
def slotW (l : List PageM) (k : Nat) : List (BitVec 32) := if pgIs l k then pgWs (pgN l k) else onesW 7
def blkW (i : Nat) (l : List PageM) : List (BitVec 32) := hdWs (BitVec.ofNat 32 i) ++ ((List.range 8).flatMap (slotW l) ++ onesW 4)
def bltW (l : List (List PageM)) : List (BitVec 32) := (List.range l.length).flatMap fun i => blkW i (l.getD i [])

theorem flat_len {α β : Type} (f : α → List β) (n : Nat) : ∀ l : List α, (∀ a ∈ l, (f a).length = n) → (l.flatMap f).length = n * l.length
  | [], _ => rfl
  | a :: l, h => by
    rw [List.flatMap_cons, List.length_append, h a (by simp), flat_len f n l (fun b hb => h b (by simp [hb])), List.length_cons, Nat.mul_add, Nat.mul_one, Nat.add_comm]
/-- Row i of rows that are all of one length. -/
theorem flat_row {α β : Type} (f : α → List β) (n : Nat) : ∀ (l : List α) (i : Nat) (a : α), (∀ a ∈ l, (f a).length = n) → l[i]? = some a → ((l.flatMap f).drop (n * i)).take n = f a
  | [], i, a, _, h => by simp at h
  | b :: l, 0, a, hl, h => by
    simp only [List.getElem?_cons_zero, Option.some.injEq] at h
    subst h
    rw [Nat.mul_zero, List.drop_zero, List.flatMap_cons, List.take_append_of_le_length (by rw [hl b (by simp)]; exact Nat.le_refl _), List.take_of_length_le (by rw [hl b (by simp)]; exact Nat.le_refl _)]
  | b :: l, i + 1, a, hl, h => by
    rw [List.getElem?_cons_succ] at h
    rw [List.flatMap_cons, Nat.mul_add, Nat.mul_one, Nat.add_comm (n * i) n, ← List.drop_drop, List.drop_append_of_le_length (by rw [hl b (by simp)]; exact Nat.le_refl _), show (f b).drop n = [] from List.drop_of_length_le (by rw [hl b (by simp)]; exact Nat.le_refl _), List.nil_append]
    exact flat_row f n l i a (fun c hc => hl c (by simp [hc])) h
theorem slotW_len (l : List PageM) (k : Nat) : (slotW l k).length = 7 := by
  unfold slotW onesW
  split
  · rename_i h
    unfold pgIs at h
    rw [pgWs_yes (by simp at h; exact h.2)]
    rfl
  · simp
theorem hd_len {i : Nat} (h : i ≤ 2147483648) : (hdWs (BitVec.ofNat 32 i)).length = 4 := by
  rw [hdWs_yes (by unfold U; simp; omega)]
  rfl
theorem blkW_len {i : Nat} (h : i ≤ 2147483648) (l : List PageM) : (blkW i l).length = 64 := by
  unfold blkW
  rw [List.length_append, List.length_append, hd_len h, flat_len _ 7 _ (fun k _ => slotW_len l k)]
  simp [onesW]
theorem bltW_len (l : List (List PageM)) (h : l.length ≤ 8) : (bltW l).length = 64 * l.length := by
  unfold bltW
  rw [flat_len _ 64 _ (fun i hi => blkW_len (by simp at hi; omega) _), List.length_range]
theorem bltW_chunk (l : List (List PageM)) (h : l.length ≤ 8) (i : Nat) (hi : i < l.length) : chunk (bltW l) i = blkW i (l.getD i []) := by
  unfold chunk bltW
  exact flat_row _ 64 _ i i (fun i hi => blkW_len (by simp at hi; omega) _) (by simp [hi])
theorem blkW_page {i : Nat} (h : i ≤ 2147483648) (l : List PageM) (k : Nat) (hk : k < 8) : pgAtW (blkW i l) k = slotW l k := by
  unfold pgAtW blkW
  have h4 := hd_len h
  rw [← List.drop_drop, List.drop_append_of_le_length (by omega), show (hdWs (BitVec.ofNat 32 i)).drop 4 = [] from List.drop_of_length_le (by omega), List.nil_append]
  have h56 := flat_len (slotW l) 7 (List.range 8) (fun k _ => slotW_len l k)
  rw [List.length_range] at h56
  rw [List.drop_append_of_le_length (by omega), List.take_append_of_le_length (by rw [List.length_drop]; omega)]
  exact flat_row _ 7 _ k k (fun k _ => slotW_len l k) (by simp [hk])
theorem ones_read : pgRd (onesW 7) = (pg0, 0) := by decide
theorem blk_found {i : Nat} (h : i ≤ 2147483648) (l : List PageM) : bkOf (blkW i l) = ⟨1, BitVec.ofNat 32 i, (List.range 8).map (fun k => if pgIs l k then 1 else 0), (List.range 8).map (fun k => if pgIs l k then pgN l k else pg0)⟩ := by
  have e : (blkW i l).take 4 = hdWs (BitVec.ofNat 32 i) := by
    unfold blkW
    rw [List.take_append_of_le_length (by rw [hd_len h]; exact Nat.le_refl _), List.take_of_length_le (by rw [hd_len h]; exact Nat.le_refl _)]
  have r : hdRd (hdWs (BitVec.ofNat 32 i)) = (BitVec.ofNat 32 i, 1) := hdRd_ws (by unfold U; simp; omega)
  have p : ∀ k, k < 8 → pgRd (pgAtW (blkW i l) k) = if pgIs l k then (pgN l k, 1) else (pg0, 0) := fun k hk => by
    rw [blkW_page h l k hk]
    unfold slotW
    split
    · rename_i hi
      unfold pgIs at hi
      exact pgRd_ws (by simp at hi; exact hi.2)
    · exact ones_read
  unfold bkOf
  rw [e, r]
  simp only [if_true]
  congr 1
  · apply List.map_congr_left
    intro k hk
    rw [p k (by simpa using hk)]
    split <;> rfl
  · apply List.map_congr_left
    intro k hk
    rw [p k (by simpa using hk)]
    split <;> rfl

/-! ### Other words -/
theorem chunk_set (ws : List (BitVec 32)) (k : Nat) (v : BitVec 32) (i : Nat) (h : i ≠ k / 64) : chunk (ws.set k v) i = chunk ws i := by
  unfold chunk
  apply List.ext_getElem?
  intro j
  by_cases hj : j < 64
  · rw [List.getElem?_take_of_lt hj, List.getElem?_take_of_lt hj, List.getElem?_drop, List.getElem?_drop, List.getElem?_set_ne (by omega)]
  · rw [List.getElem?_take_eq_none (by omega), List.getElem?_take_eq_none (by omega)]
theorem chunk_set_tail (ws : List (BitVec 32)) (k : Nat) (v : BitVec 32) (h : 60 ≤ k % 64) : bkOf (chunk (ws.set k v) (k / 64)) = bkOf (chunk ws (k / 64)) := by
  have e : ∀ j, j < 60 → (chunk (ws.set k v) (k / 64))[j]? = (chunk ws (k / 64))[j]? := by
    intro j hj
    unfold chunk
    rw [List.getElem?_take_of_lt (by omega), List.getElem?_take_of_lt (by omega), List.getElem?_drop, List.getElem?_drop, List.getElem?_set_ne (by omega)]
  have h4 : (chunk (ws.set k v) (k / 64)).take 4 = (chunk ws (k / 64)).take 4 := by
    apply List.ext_getElem?
    intro j
    by_cases hj : j < 4
    · rw [List.getElem?_take_of_lt hj, List.getElem?_take_of_lt hj, e j (by omega)]
    · rw [List.getElem?_take_eq_none (by omega), List.getElem?_take_eq_none (by omega)]
  have hp : ∀ i, i < 8 → pgAtW (chunk (ws.set k v) (k / 64)) i = pgAtW (chunk ws (k / 64)) i := by
    intro i hi
    unfold pgAtW
    apply List.ext_getElem?
    intro j
    by_cases hj : j < 7
    · rw [List.getElem?_take_of_lt hj, List.getElem?_take_of_lt hj, List.getElem?_drop, List.getElem?_drop, e _ (by omega)]
    · rw [List.getElem?_take_eq_none (by omega), List.getElem?_take_eq_none (by omega)]
  unfold bkOf
  rw [h4]
  congr 1
  · apply List.map_congr_left
    intro i hi
    rw [hp i (by simpa using hi)]
  · apply List.map_congr_left
    intro i hi
    rw [hp i (by simpa using hi)]
theorem chunk_same (n : Nat) (v : BitVec 32) (i : Nat) (h : 64 * i + 64 ≤ n) : chunk (List.replicate n v) i = List.replicate 64 v := by
  unfold chunk
  rw [List.drop_replicate, List.take_replicate, Nat.min_eq_left (by omega)]
theorem not_v (v : BitVec 32) : ~~~v ≠ v := by
  intro h
  have h0 : (~~~v).getLsbD 0 = v.getLsbD 0 := by rw [h]
  simp at h0
theorem same_bad (v : BitVec 32) : (bkOf (List.replicate 64 v)).head ≠ 1 := by
  show (hdRd ((List.replicate 64 v).take 4)).2 ≠ 1
  rw [List.take_replicate]
  show (hdRd [v, v, v, v]).2 ≠ 1
  unfold hdRd
  simp only [List.length_cons, List.length_nil, if_true]
  split
  · decide
  · split
    · rename_i h
      unfold hdWs at h
      split at h
      · simp only [List.cons.injEq] at h
        obtain ⟨_, _, h3, _⟩ := h
        exact absurd h3 (not_v _)
      · simp at h
    · decide
end Go.Proofs.YtnfgpjfldgocaaaGreat
