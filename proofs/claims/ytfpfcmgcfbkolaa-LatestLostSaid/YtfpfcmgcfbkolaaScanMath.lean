/- Blocks as they are found, as plain data (layer scan, chapter 6 of the document). -/
import Derived.Test.YtfpfcmgcfbkolaaPageMath
namespace Go.Proofs.Ytfpfcmgcfbkolaa
open Go.RowKit Bm

/-- What was found in a block: its head, its count, the kinds of its pages, the pages. -/
structure BlkM where
  head : Int
  count : BitVec 32
  kinds : List Int
  pages : List PageM
  deriving DecidableEq, Inhabited
structure BlkOk (b : BlkM) : Prop where
  k : b.kinds.length = 8
  p : b.pages.length = 8
def pgs (l : List PageM) : List Value := l.flatMap pgC
def bkC (b : BlkM) : List Value := [.int .i64 b.head, .int .u32 (U b.count)] ++ (Is b.kinds ++ pgs b.pages)
def bkV (b : BlkM) : Value := .agg (bkC b).toArray
def bk0 : BlkM := ⟨0, 0#32, List.replicate 8 0, List.replicate 8 pg0⟩
def pgN (l : List PageM) (i : Nat) : PageM := l.getD i pg0

theorem pgC_len (p : PageM) : (pgC p).length = 7 := rfl
theorem pgs_len (l : List PageM) : (pgs l).length = 7 * l.length := by
  unfold pgs
  induction l with
  | nil => rfl
  | cons p l ih => rw [List.flatMap_cons, List.length_append, ih, pgC_len, List.length_cons]; omega
theorem bk_len {b : BlkM} (h : BlkOk b) : (bkC b).length = 66 := by
  unfold bkC
  rw [List.length_append, List.length_append, Is_length, pgs_len, h.k, h.p]
  rfl
theorem pgC_one (p : PageM) : ∀ u ∈ pgC p, u.oneCell' = true := by
  intro u hu
  simp only [pgC, List.mem_cons, List.not_mem_nil, or_false] at hu
  rcases hu with rfl | rfl | rfl | rfl | rfl | rfl | rfl <;> rfl
theorem pgs_one (l : List PageM) : ∀ u ∈ pgs l, u.oneCell' = true := by
  intro u hu
  obtain ⟨p, _, h⟩ := List.mem_flatMap.1 hu
  exact pgC_one p u h
theorem bk_one (b : BlkM) : ∀ u ∈ bkC b, u.oneCell' = true := by
  intro u hu
  simp only [bkC, List.mem_append, List.mem_cons, List.not_mem_nil, or_false] at hu
  rcases hu with (rfl | rfl) | hu | hu
  · rfl
  · rfl
  · exact Is_one _ u hu
  · exact pgs_one _ u hu
theorem bk0_ok : BlkOk bk0 := ⟨rfl, rfl⟩

/-! ### Its cells, one by one, and rows of them -/
theorem pgs_split (l : List PageM) (i : Nat) (h : i < l.length) : pgs l = pgs (l.take i) ++ (pgC (pgN l i) ++ pgs (l.drop (i + 1))) := by
  have e : l = l.take i ++ (pgN l i :: l.drop (i + 1)) := by
    have h1 : pgN l i :: l.drop (i + 1) = l.drop i := by
      rw [List.drop_eq_getElem_cons h]
      unfold pgN
      rw [List.getD_eq_getElem?_getD, List.getElem?_eq_getElem h]
      rfl
    rw [h1, List.take_append_drop]
  conv => lhs; rw [e]
  unfold pgs
  rw [List.flatMap_append, List.flatMap_cons]
theorem pgs_set (l : List PageM) (i : Nat) (p : PageM) (h : i < l.length) : pgs (l.set i p) = pgs (l.take i) ++ (pgC p ++ pgs (l.drop (i + 1))) := by
  have e : l.set i p = l.take i ++ (p :: l.drop (i + 1)) := by
    rw [List.set_eq_take_append_cons_drop, if_pos h]
  rw [e]
  unfold pgs
  rw [List.flatMap_append, List.flatMap_cons]
theorem bk_head (b : BlkM) : (bkC b)[0]? = some (.int .i64 b.head) := rfl
theorem bk_count (b : BlkM) : (bkC b)[1]? = some (.int .u32 (U b.count)) := rfl
theorem bk_kind {b : BlkM} (h : BlkOk b) (i : Nat) (hi : i < 8) : (bkC b)[2 + i]? = some (.int .i64 (nm b.kinds i)) := by
  unfold bkC
  rw [List.getElem?_append_right (by simp), show 2 + i - [Value.int .i64 b.head, .int .u32 (U b.count)].length = i by simp, List.getElem?_append_left (by rw [Is_length, h.k]; exact hi)]
  exact Is_get _ _ (by rw [h.k]; exact hi)
theorem bk_setKind {b : BlkM} (h : BlkOk b) (i : Nat) (hi : i < 8) (x : Int) : (bkC b).set (2 + i) (.int .i64 x) = bkC { b with kinds := b.kinds.set i x } := by
  unfold bkC
  rw [List.set_append_right _ _ (by simp), show 2 + i - [Value.int .i64 b.head, .int .u32 (U b.count)].length = i by simp, List.set_append_left _ _ (by rw [Is_length, h.k]; exact hi), Is_set]
/-- A block around its page i. -/
theorem bk_page {b : BlkM} (h : BlkOk b) (i : Nat) (hi : i < 8) : ∃ pre post, pre.length = 10 + 7 * i ∧ bkC b = pre ++ (pgC (pgN b.pages i) ++ post) ∧ ∀ p, bkC { b with pages := b.pages.set i p } = pre ++ (pgC p ++ post) := by
  refine ⟨[.int .i64 b.head, .int .u32 (U b.count)] ++ (Is b.kinds ++ pgs (b.pages.take i)), pgs (b.pages.drop (i + 1)), ?_, ?_, fun p => ?_⟩
  · rw [List.length_append, List.length_append, Is_length, pgs_len, h.k, List.length_take, h.p]
    simp only [List.length_cons, List.length_nil]
    omega
  · unfold bkC
    rw [pgs_split b.pages i (by rw [h.p]; exact hi)]
    simp only [List.append_assoc]
  · unfold bkC
    rw [pgs_set b.pages i p (by rw [h.p]; exact hi)]
    simp only [List.append_assoc]

/-! ### What is found in words -/
def pgAtW (ws : List (BitVec 32)) (i : Nat) : List (BitVec 32) := (ws.drop (4 + 7 * i)).take 7
def bkOf (ws : List (BitVec 32)) : BlkM :=
  ⟨(hdRd (ws.take 4)).2, (hdRd (ws.take 4)).1,
   (List.range 8).map (fun i => if (hdRd (ws.take 4)).2 = 1 then (pgRd (pgAtW ws i)).2 else 2),
   (List.range 8).map (fun i => if (hdRd (ws.take 4)).2 = 1 then (pgRd (pgAtW ws i)).1 else pg0)⟩
theorem bkOf_ok (ws : List (BitVec 32)) : BlkOk (bkOf ws) := ⟨by simp [bkOf], by simp [bkOf]⟩
def chunk (ws : List (BitVec 32)) (i : Nat) : List (BitVec 32) := (ws.drop (64 * i)).take 64
/-- The blocks of words; none if they are not just whole blocks. -/
def scOf (ws : List (BitVec 32)) : List BlkM × Int :=
  if ws.length % 64 = 0 ∧ 1 ≤ ws.length / 64 ∧ ws.length / 64 ≤ 64 then ((List.range (ws.length / 64)).map (fun i => bkOf (chunk ws i)), 0) else ([], 8)
/-- From which page on all are free (8: none is). -/
def freeFrom (ks : List Int) : Nat → Nat
  | 0 => 0
  | n + 1 => if nm ks n = 0 then freeFrom ks n else n + 1
def bkNext (b : BlkM) : Int := if b.head = 1 then (if freeFrom b.kinds 8 = 8 then -1 else freeFrom b.kinds 8) else -1
def bkEmpty (b : BlkM) : Bool := decide (bkNext b = 0)
def bkMax (n : BitVec 32) (b : BlkM) : BitVec 32 := if b.head = 1 ∧ U n < U b.count then b.count else n
def bkCounts (l : List BlkM) : BitVec 32 := l.foldl bkMax 0#32
end Go.Proofs.Ytfpfcmgcfbkolaa
