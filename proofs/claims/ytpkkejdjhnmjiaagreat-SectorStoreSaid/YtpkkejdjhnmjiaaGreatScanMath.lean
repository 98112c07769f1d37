/- Blocks as they are found, as plain data (layer scan, chapter 6 of the document). | Slices of blocks: what they read as. | Facts of blocks: what may be written next, what was built is found, words of other blocks count nothing. -/
import Derived.Test.YtpkkejdjhnmjiaaGreatPageMath
import Derived.Test.YtpkkejdjhnmjiaaGreatMid
import Derived.Test.YtpkkejdjhnmjiaaGreatOpens
namespace Go.Proofs.YtpkkejdjhnmjiaaGreat
open Go.RowKit Bm
structure BlkM where
  head : Int
  count : BitVec 32
  kinds : List Int
  pages : List PageM
  deriving DecidableEq, Inhabited
structure BlkOk (b : BlkM) : Prop where
  k : b.kinds.length = 8
  p : b.pages.length = 8
def pgs (l : List PageM) : List Value := l.flatMap pgC
def bkC (b : BlkM) : List Value := [.int .i64 b.head, .int .u32 (U b.count)] ++ (Is b.kinds ++ pgs b.pages)
def bkV (b : BlkM) : Value := .agg (bkC b).toArray
def bk0 : BlkM := ⟨0, 0#32, List.replicate 8 0, List.replicate 8 pg0⟩
def pgN (l : List PageM) (i : Nat) : PageM := l.getD i pg0
theorem pgC_len (p : PageM) : (pgC p).length = 7 := rfl
theorem pgs_len (l : List PageM) : (pgs l).length = 7 * l.length := by
  unfold pgs
  induction l with
  | nil => rfl
  | cons p l ih => rw [List.flatMap_cons, List.length_append, ih, pgC_len, List.length_cons]; omega
theorem bk_len {b : BlkM} (h : BlkOk b) : (bkC b).length = 66 := by
  unfold bkC
  rw [List.length_append, List.length_append, Is_length, pgs_len, h.k, h.p]
  rfl
theorem pgC_one (p : PageM) : ∀ u ∈ pgC p, u.oneCell' = true := by
  intro u hu
  simp only [pgC, List.mem_cons, List.not_mem_nil, or_false] at hu
  rcases hu with rfl | rfl | rfl | rfl | rfl | rfl | rfl <;> rfl
theorem pgs_one (l : List PageM) : ∀ u ∈ pgs l, u.oneCell' = true := by
  intro u hu
  obtain ⟨p, _, h⟩ := List.mem_flatMap.1 hu
  exact pgC_one p u h
theorem bk_one (b : BlkM) : ∀ u ∈ bkC b, u.oneCell' = true := by
  intro u hu
  simp only [bkC, List.mem_append, List.mem_cons, List.not_mem_nil, or_false] at hu
  rcases hu with (rfl | rfl) | hu | hu
  · rfl
  · rfl
  · exact Is_one _ u hu
  · exact pgs_one _ u hu
theorem bk0_ok : BlkOk bk0 := ⟨rfl, rfl⟩
theorem pgs_split (l : List PageM) (i : Nat) (h : i < l.length) : pgs l = pgs (l.take i) ++ (pgC (pgN l i) ++ pgs (l.drop (i + 1))) := by
  have e : l = l.take i ++ (pgN l i :: l.drop (i + 1)) := by
    have h1 : pgN l i :: l.drop (i + 1) = l.drop i := by
      rw [List.drop_eq_getElem_cons h]
      unfold pgN
      rw [List.getD_eq_getElem?_getD, List.getElem?_eq_getElem h]
      rfl
    rw [h1, List.take_append_drop]
  conv => lhs; rw [e]
  unfold pgs
  rw [List.flatMap_append, List.flatMap_cons]
theorem pgs_set (l : List PageM) (i : Nat) (p : PageM) (h : i < l.length) : pgs (l.set i p) = pgs (l.take i) ++ (pgC p ++ pgs (l.drop (i + 1))) := by
  have e : l.set i p = l.take i ++ (p :: l.drop (i + 1)) := by
    rw [List.set_eq_take_append_cons_drop, if_pos h]
  rw [e]
  unfold pgs
  rw [List.flatMap_append, List.flatMap_cons]
theorem bk_head (b : BlkM) : (bkC b)[0]? = some (.int .i64 b.head) := rfl
theorem bk_count (b : BlkM) : (bkC b)[1]? = some (.int .u32 (U b.count)) := rfl
theorem bk_kind {b : BlkM} (h : BlkOk b) (i : Nat) (hi : i < 8) : (bkC b)[2 + i]? = some (.int .i64 (nm b.kinds i)) := by
  unfold bkC
  rw [List.getElem?_append_right (by simp), show 2 + i - [Value.int .i64 b.head, .int .u32 (U b.count)].length = i by simp, List.getElem?_append_left (by rw [Is_length, h.k]; exact hi)]
  exact Is_get _ _ (by rw [h.k]; exact hi)
theorem bk_setKind {b : BlkM} (h : BlkOk b) (i : Nat) (hi : i < 8) (x : Int) : (bkC b).set (2 + i) (.int .i64 x) = bkC { b with kinds := b.kinds.set i x } := by
  unfold bkC
  rw [List.set_append_right _ _ (by simp), show 2 + i - [Value.int .i64 b.head, .int .u32 (U b.count)].length = i by simp, List.set_append_left _ _ (by rw [Is_length, h.k]; exact hi), Is_set]
theorem bk_page {b : BlkM} (h : BlkOk b) (i : Nat) (hi : i < 8) : ∃ pre post, pre.length = 10 + 7 * i ∧ bkC b = pre ++ (pgC (pgN b.pages i) ++ post) ∧ ∀ p, bkC { b with pages := b.pages.set i p } = pre ++ (pgC p ++ post) := by
  refine ⟨[.int .i64 b.head, .int .u32 (U b.count)] ++ (Is b.kinds ++ pgs (b.pages.take i)), pgs (b.pages.drop (i + 1)), ?_, ?_, fun p => ?_⟩
  · rw [List.length_append, List.length_append, Is_length, pgs_len, h.k, List.length_take, h.p]
    simp only [List.length_cons, List.length_nil]
    omega
  · unfold bkC
    rw [pgs_split b.pages i (by rw [h.p]; exact hi)]
    simp only [List.append_assoc]
  · unfold bkC
    rw [pgs_set b.pages i p (by rw [h.p]; exact hi)]
    simp only [List.append_assoc]
def pgAtW (ws : List (BitVec 32)) (i : Nat) : List (BitVec 32) := (ws.drop (4 + 7 * i)).take 7
def bkOf (ws : List (BitVec 32)) : BlkM :=
  ⟨(hdRd (ws.take 4)).2, (hdRd (ws.take 4)).1,
   (List.range 8).map (fun i => if (hdRd (ws.take 4)).2 = 1 then (pgRd (pgAtW ws i)).2 else 2),
   (List.range 8).map (fun i => if (hdRd (ws.take 4)).2 = 1 then (pgRd (pgAtW ws i)).1 else pg0)⟩
theorem bkOf_ok (ws : List (BitVec 32)) : BlkOk (bkOf ws) := ⟨by simp [bkOf], by simp [bkOf]⟩
def chunk (ws : List (BitVec 32)) (i : Nat) : List (BitVec 32) := (ws.drop (64 * i)).take 64
def scOf (ws : List (BitVec 32)) : List BlkM × Int :=
  if ws.length % 64 = 0 ∧ 1 ≤ ws.length / 64 ∧ ws.length / 64 ≤ 64 then ((List.range (ws.length / 64)).map (fun i => bkOf (chunk ws i)), 0) else ([], 8)
def freeFrom (ks : List Int) : Nat → Nat
  | 0 => 0
  | n + 1 => if nm ks n = 0 then freeFrom ks n else n + 1
def bkNext (b : BlkM) : Int := if b.head = 1 then (if freeFrom b.kinds 8 = 8 then -1 else freeFrom b.kinds 8) else -1
def bkEmpty (b : BlkM) : Bool := decide (bkNext b = 0)
def bkMax (n : BitVec 32) (b : BlkM) : BitVec 32 := if b.head = 1 ∧ U n < U b.count then b.count else n
def bkCounts (l : List BlkM) : BitVec 32 := l.foldl bkMax 0#32
end Go.Proofs.YtpkkejdjhnmjiaaGreat
namespace Go.Proofs.YtpkkejdjhnmjiaaGreat
open Go.RowKit Bm
def bkN (bs : List BlkM) (i : Nat) : BlkM := bs.getD i bk0
theorem bkN_get {bs : List BlkM} {i : Nat} (h : i < bs.length) : bs[i]? = some (bkN bs i) := by
  unfold bkN
  rw [List.getD_eq_getElem?_getD, List.getElem?_eq_getElem h]
  rfl
structure ReadsB (w : World) (A : Option Addr) (n cap : Nat) (bs : List BlkM) : Prop where
  len : bs.length = n
  le : n ≤ cap
  max : cap ≤ maxLen
  ok : ∀ b ∈ bs, BlkOk b
  cell : 0 < n → ∃ g off, A = some ⟨g, off, none⟩ ∧ g < w.heap.size ∧ ∀ j b, bs[j]? = some b → w.rangeAt g (off + j * 66) (bkC b)
theorem range_kept {w w' : World} {g off : Nat} {cs : List Value} (h : w.rangeAt g off cs) (hb : w'.heap[g]? = w.heap[g]?) : w'.rangeAt g off cs := fun j v hv => (World.cell?_of_block (a := ⟨g, off + j, none⟩) hb).trans (h j v hv)
section
variable {w w' : World} {A : Option Addr} {n cap : Nat} {bs : List BlkM}
theorem ReadsB.kept (h : ReadsB w A n cap bs) (hB : Below w.heap.size w w') : ReadsB w' A n cap bs :=
  ⟨h.len, h.le, h.max, h.ok, fun hn => by
    obtain ⟨g, off, e, hlt, hc⟩ := h.cell hn
    exact ⟨g, off, e, Nat.lt_of_lt_of_le hlt hB.size, fun j b hb => range_kept (hc j b hb) (hB.block g hlt)⟩⟩
theorem ReadsB.at_ (h : ReadsB w A n cap bs) {j : Nat} (hj : j < n) : ∃ g off, A = some ⟨g, off, none⟩ ∧ g < w.heap.size ∧ w.rangeAt g (off + j * 66) (bkC (bkN bs j)) := by
  obtain ⟨g, off, e, hlt, hc⟩ := h.cell (by omega)
  exact ⟨g, off, e, hlt, hc j _ (bkN_get (by rw [h.len]; exact hj))⟩
theorem ReadsB.okN (h : ReadsB w A n cap bs) {j : Nat} (hj : j < n) : BlkOk (bkN bs j) := h.ok _ (List.mem_of_getElem? (bkN_get (by rw [h.len]; exact hj)))
end
def bks (bs : List BlkM) : List Value := bs.flatMap bkC
theorem bks_len {bs : List BlkM} (h : ∀ b ∈ bs, BlkOk b) : (bks bs).length = 66 * bs.length := by
  unfold bks
  induction bs with
  | nil => rfl
  | cons b bs ih => rw [List.flatMap_cons, List.length_append, bk_len (h b (by simp)), ih (fun c hc => h c (by simp [hc])), List.length_cons]; omega
theorem bks_one (bs : List BlkM) : ∀ u ∈ bks bs, u.oneCell' = true := by
  intro u hu
  obtain ⟨b, _, h⟩ := List.mem_flatMap.1 hu
  exact bk_one b u h
theorem bks_snoc (bs : List BlkM) (b : BlkM) : bks (bs ++ [b]) = bks bs ++ bkC b := by simp [bks]
theorem bks_get {bs : List BlkM} (h : ∀ b ∈ bs, BlkOk b) {j : Nat} {b : BlkM} (hj : bs[j]? = some b) (i : Nat) (v : Value) (hv : (bkC b)[i]? = some v) : (bks bs)[j * 66 + i]? = some v := by
  induction bs generalizing j with
  | nil => simp at hj
  | cons c bs ih =>
    unfold bks at ih ⊢
    rw [List.flatMap_cons]
    have hl := bk_len (h c (by simp))
    cases j with
    | zero =>
      simp only [List.getElem?_cons_zero, Option.some.injEq] at hj
      subst hj
      rw [Nat.zero_mul, Nat.zero_add, List.getElem?_append_left (List.getElem?_eq_some_iff.1 hv).1, hv]
    | succ j =>
      rw [List.getElem?_cons_succ] at hj
      rw [List.getElem?_append_right (by omega), hl, show (j + 1) * 66 + i - 66 = j * 66 + i by omega]
      exact ih (fun d hd => h d (by simp [hd])) hj
theorem ReadsB.of_at {w : World} {g cap : Nat} {t : TypeId} {bs : List BlkM} {rest : List Value} (hA : At w g t (bks bs ++ rest)) (hb : ∀ b ∈ bs, BlkOk b) (hc : bs.length ≤ cap) (hm : cap ≤ maxLen) : ReadsB w (some ⟨g, 0, none⟩) bs.length cap bs :=
  ⟨rfl, hc, hm, hb, fun _ => ⟨g, 0, rfl, hA.lt, fun j b hj i v hv => by
    rw [hA.cell, Nat.zero_add, List.getElem?_append_left]
    · exact bks_get hb hj i v hv
    · exact (List.getElem?_eq_some_iff.1 (bks_get hb hj i v hv)).1⟩⟩
theorem ReadsB.none (w : World) : ReadsB w none 0 0 [] := ⟨rfl, Nat.le_refl _, Nat.zero_le _, fun b hb => (by cases hb), fun h => absurd h (by omega)⟩
theorem At.rng {w : World} {g : Nat} {t : TypeId} {cs : List Value} (h : At w g t cs) : w.rangeAt g 0 cs := fun j v hv => by rw [Nat.zero_add]; exact (h.cell j).trans hv
theorem bkCounts_step (bs : List BlkM) (j : Nat) (h : j < bs.length) : bkCounts (bs.take (j + 1)) = bkMax (bkCounts (bs.take j)) (bkN bs j) := by
  unfold bkCounts
  rw [List.take_add_one, bkN_get h]
  simp
end Go.Proofs.YtpkkejdjhnmjiaaGreat
namespace Go.Proofs.YtpkkejdjhnmjiaaGreat
open Go.RowKit Bm
theorem free_is (ks : List Int) (n m : Nat) (hm : m ≤ n) (h1 : ∀ i, m ≤ i → i < n → nm ks i = 0) (h2 : 0 < m → nm ks (m - 1) ≠ 0) : freeFrom ks n = m := by
  induction n with
  | zero =>
    obtain rfl : m = 0 := by omega
    rfl
  | succ n ih =>
    unfold freeFrom
    by_cases e : m = n + 1
    · subst e
      rw [if_neg (by simpa using h2 (by omega))]
    · rw [if_pos (h1 n (by omega) (by omega))]
      exact ih (by omega) (fun i a b => h1 i a (by omega))
theorem next_head {b : BlkM} (h : b.head ≠ 1) : bkNext b = -1 := by unfold bkNext; rw [if_neg h]
def onesW (n : Nat) : List (BitVec 32) := List.replicate n 4294967295#32
theorem ones_read : pgRd (onesW 7) = (pg0, 0) := by decide
end Go.Proofs.YtpkkejdjhnmjiaaGreat
