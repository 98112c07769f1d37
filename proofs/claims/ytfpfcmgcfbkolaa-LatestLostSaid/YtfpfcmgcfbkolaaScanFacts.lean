/- Facts of blocks: what may be written next, what was built is found, words of other blocks count nothing. -/
import Derived.Test.YtfpfcmgcfbkolaaScanMath
import Derived.Test.YtfpfcmgcfbkolaaPageMath
namespace Go.Proofs.Ytfpfcmgcfbkolaa
open Go.RowKit Bm

/-! ### Next -/
theorem free_le (ks : List Int) : ∀ n, freeFrom ks n ≤ n
  | 0 => Nat.le_refl _
  | n + 1 => by
    unfold freeFrom
    split
    · exact Nat.le_succ_of_le (free_le ks n)
    · exact Nat.le_refl _
theorem free_tail (ks : List Int) : ∀ n i, freeFrom ks n ≤ i → i < n → nm ks i = 0
  | 0, i, _, h => absurd h (Nat.not_lt_zero _)
  | n + 1, i, h1, h2 => by
    unfold freeFrom at h1
    split at h1
    · rename_i h0
      by_cases e : i = n
      · rw [e]; exact h0
      · exact free_tail ks n i h1 (by omega)
    · omega
theorem free_head (ks : List Int) : ∀ n, 0 < freeFrom ks n → nm ks (freeFrom ks n - 1) ≠ 0
  | 0, h => absurd h (Nat.lt_irrefl _)
  | n + 1, h => by
    unfold freeFrom at h ⊢
    split
    · rename_i h0
      rw [if_pos h0] at h
      exact free_head ks n h
    · rename_i h0
      simpa using h0
theorem free_is (ks : List Int) (n m : Nat) (hm : m ≤ n) (h1 : ∀ i, m ≤ i → i < n → nm ks i = 0) (h2 : 0 < m → nm ks (m - 1) ≠ 0) : freeFrom ks n = m := by
  induction n with
  | zero =>
    obtain rfl : m = 0 := by omega
    rfl
  | succ n ih =>
    unfold freeFrom
    by_cases e : m = n + 1
    · subst e
      rw [if_neg (by simpa using h2 (by omega))]
    · rw [if_pos (h1 n (by omega) (by omega))]
      exact ih (by omega) (fun i a b => h1 i a (by omega))
theorem next_range (b : BlkM) : -1 ≤ bkNext b ∧ bkNext b ≤ 7 := by
  have := free_le b.kinds 8
  unfold bkNext
  repeat' split
  all_goals omega
theorem next_head {b : BlkM} (h : b.head ≠ 1) : bkNext b = -1 := by unfold bkNext; rw [if_neg h]
theorem next_none {b : BlkM} (h : bkNext b < 0) : b.head ≠ 1 ∨ nm b.kinds 7 ≠ 0 := by
  unfold bkNext at h
  split at h
  · split at h
    · rename_i h8
      have := free_head b.kinds 8 (by omega)
      rw [h8] at this
      exact .inr this
    · omega
  · exact .inl (by assumption)
theorem next_some {b : BlkM} {n : Nat} (h : bkNext b = n) : n ≤ 7 ∧ (∀ i, n ≤ i → i < 8 → nm b.kinds i = 0) ∧ (0 < n → nm b.kinds (n - 1) ≠ 0) := by
  have hr := next_range b
  rw [h] at hr
  unfold bkNext at h
  split at h
  · split at h
    · omega
    · have e : freeFrom b.kinds 8 = n := by omega
      refine ⟨by omega, fun i a c => free_tail b.kinds 8 i (by omega) c, fun hn => ?_⟩
      rw [← e]
      exact free_head b.kinds 8 (by omega)
  · omega

/-! ### What is built -/
def ones (n : Nat) : List (BitVec 32) := List.replicate n 4294967295#32
def pgIs (l : List PageM) (k : Nat) : Bool := decide (k < l.length) && pgOk (pgN l k)
def slotW (l : List PageM) (k : Nat) : List (BitVec 32) := if pgIs l k then pgWs (pgN l k) else ones 7
def blkW (i : Nat) (l : List PageM) : List (BitVec 32) := hdWs (BitVec.ofNat 32 i) ++ ((List.range 8).flatMap (slotW l) ++ ones 4)
def bltW (l : List (List PageM)) : List (BitVec 32) := (List.range l.length).flatMap fun i => blkW i (l.getD i [])

theorem flat_len {α β : Type} (f : α → List β) (n : Nat) : ∀ l : List α, (∀ a ∈ l, (f a).length = n) → (l.flatMap f).length = n * l.length
  | [], _ => rfl
  | a :: l, h => by
    rw [List.flatMap_cons, List.length_append, h a (by simp), flat_len f n l (fun b hb => h b (by simp [hb])), List.length_cons, Nat.mul_add, Nat.mul_one, Nat.add_comm]
/-- Row i of rows that are all of one length. -/
theorem flat_row {α β : Type} (f : α → List β) (n : Nat) : ∀ (l : List α) (i : Nat) (a : α), (∀ a ∈ l, (f a).length = n) → l[i]? = some a → ((l.flatMap f).drop (n * i)).take n = f a
  | [], i, a, _, h => by simp at h
  | b :: l, 0, a, hl, h => by
    simp only [List.getElem?_cons_zero, Option.some.injEq] at h
    subst h
    rw [Nat.mul_zero, List.drop_zero, List.flatMap_cons, List.take_append_of_le_length (by rw [hl b (by simp)]; exact Nat.le_refl _), List.take_of_length_le (by rw [hl b (by simp)]; exact Nat.le_refl _)]
  | b :: l, i + 1, a, hl, h => by
    rw [List.getElem?_cons_succ] at h
    rw [List.flatMap_cons, Nat.mul_add, Nat.mul_one, Nat.add_comm (n * i) n, ← List.drop_drop, List.drop_append_of_le_length (by rw [hl b (by simp)]; exact Nat.le_refl _), show (f b).drop n = [] from List.drop_of_length_le (by rw [hl b (by simp)]; exact Nat.le_refl _), List.nil_append]
    exact flat_row f n l i a (fun c hc => hl c (by simp [hc])) h
theorem slotW_len (l : List PageM) (k : Nat) : (slotW l k).length = 7 := by
  unfold slotW ones
  split
  · rename_i h
    unfold pgIs at h
    rw [pgWs_yes (by simp at h; exact h.2)]
    rfl
  · simp
theorem hd_len {i : Nat} (h : i ≤ 2147483648) : (hdWs (BitVec.ofNat 32 i)).length = 4 := by
  rw [hdWs_yes (by unfold U; simp; omega)]
  rfl
theorem blkW_len {i : Nat} (h : i ≤ 2147483648) (l : List PageM) : (blkW i l).length = 64 := by
  unfold blkW
  rw [List.length_append, List.length_append, hd_len h, flat_len _ 7 _ (fun k _ => slotW_len l k)]
  simp [ones]
theorem bltW_len (l : List (List PageM)) (h : l.length ≤ 8) : (bltW l).length = 64 * l.length := by
  unfold bltW
  rw [flat_len _ 64 _ (fun i hi => blkW_len (by simp at hi; omega) _), List.length_range]
theorem bltW_chunk (l : List (List PageM)) (h : l.length ≤ 8) (i : Nat) (hi : i < l.length) : chunk (bltW l) i = blkW i (l.getD i []) := by
  unfold chunk bltW
  exact flat_row _ 64 _ i i (fun i hi => blkW_len (by simp at hi; omega) _) (by simp [hi])
theorem blkW_page {i : Nat} (h : i ≤ 2147483648) (l : List PageM) (k : Nat) (hk : k < 8) : pgAtW (blkW i l) k = slotW l k := by
  unfold pgAtW blkW
  have h4 := hd_len h
  rw [← List.drop_drop, List.drop_append_of_le_length (by omega), show (hdWs (BitVec.ofNat 32 i)).drop 4 = [] from List.drop_of_length_le (by omega), List.nil_append]
  have h56 := flat_len (slotW l) 7 (List.range 8) (fun k _ => slotW_len l k)
  rw [List.length_range] at h56
  rw [List.drop_append_of_le_length (by omega), List.take_append_of_le_length (by rw [List.length_drop]; omega)]
  exact flat_row _ 7 _ k k (fun k _ => slotW_len l k) (by simp [hk])
theorem ones_read : pgRd (ones 7) = (pg0, 0) := by decide
theorem blk_found {i : Nat} (h : i ≤ 2147483648) (l : List PageM) : bkOf (blkW i l) = ⟨1, BitVec.ofNat 32 i, (List.range 8).map (fun k => if pgIs l k then 1 else 0), (List.range 8).map (fun k => if pgIs l k then pgN l k else pg0)⟩ := by
  have e : (blkW i l).take 4 = hdWs (BitVec.ofNat 32 i) := by
    unfold blkW
    rw [List.take_append_of_le_length (by rw [hd_len h]; exact Nat.le_refl _), List.take_of_length_le (by rw [hd_len h]; exact Nat.le_refl _)]
  have r : hdRd (hdWs (BitVec.ofNat 32 i)) = (BitVec.ofNat 32 i, 1) := hdRd_ws (by unfold U; simp; omega)
  have p : ∀ k, k < 8 → pgRd (pgAtW (blkW i l) k) = if pgIs l k then (pgN l k, 1) else (pg0, 0) := fun k hk => by
    rw [blkW_page h l k hk]
    unfold slotW
    split
    · rename_i hi
      unfold pgIs at hi
      exact pgRd_ws (by simp at hi; exact hi.2)
    · exact ones_read
  unfold bkOf
  rw [e, r]
  simp only [if_true]
  congr 1
  · apply List.map_congr_left
    intro k hk
    rw [p k (by simpa using hk)]
    split <;> rfl
  · apply List.map_congr_left
    intro k hk
    rw [p k (by simpa using hk)]
    split <;> rfl

/-! ### Other words -/
theorem chunk_set (ws : List (BitVec 32)) (k : Nat) (v : BitVec 32) (i : Nat) (h : i ≠ k / 64) : chunk (ws.set k v) i = chunk ws i := by
  unfold chunk
  apply List.ext_getElem?
  intro j
  by_cases hj : j < 64
  · rw [List.getElem?_take_of_lt hj, List.getElem?_take_of_lt hj, List.getElem?_drop, List.getElem?_drop, List.getElem?_set_ne (by omega)]
  · rw [List.getElem?_take_eq_none (by omega), List.getElem?_take_eq_none (by omega)]
theorem chunk_set_tail (ws : List (BitVec 32)) (k : Nat) (v : BitVec 32) (h : 60 ≤ k % 64) : bkOf (chunk (ws.set k v) (k / 64)) = bkOf (chunk ws (k / 64)) := by
  have e : ∀ j, j < 60 → (chunk (ws.set k v) (k / 64))[j]? = (chunk ws (k / 64))[j]? := by
    intro j hj
    unfold chunk
    rw [List.getElem?_take_of_lt (by omega), List.getElem?_take_of_lt (by omega), List.getElem?_drop, List.getElem?_drop, List.getElem?_set_ne (by omega)]
  have h4 : (chunk (ws.set k v) (k / 64)).take 4 = (chunk ws (k / 64)).take 4 := by
    apply List.ext_getElem?
    intro j
    by_cases hj : j < 4
    · rw [List.getElem?_take_of_lt hj, List.getElem?_take_of_lt hj, e j (by omega)]
    · rw [List.getElem?_take_eq_none (by omega), List.getElem?_take_eq_none (by omega)]
  have hp : ∀ i, i < 8 → pgAtW (chunk (ws.set k v) (k / 64)) i = pgAtW (chunk ws (k / 64)) i := by
    intro i hi
    unfold pgAtW
    apply List.ext_getElem?
    intro j
    by_cases hj : j < 7
    · rw [List.getElem?_take_of_lt hj, List.getElem?_take_of_lt hj, List.getElem?_drop, List.getElem?_drop, e _ (by omega)]
    · rw [List.getElem?_take_eq_none (by omega), List.getElem?_take_eq_none (by omega)]
  unfold bkOf
  rw [h4]
  congr 1
  · apply List.map_congr_left
    intro i hi
    rw [hp i (by simpa using hi)]
  · apply List.map_congr_left
    intro i hi
    rw [hp i (by simpa using hi)]
theorem chunk_same (n : Nat) (v : BitVec 32) (i : Nat) (h : 64 * i + 64 ≤ n) : chunk (List.replicate n v) i = List.replicate 64 v := by
  unfold chunk
  rw [List.drop_replicate, List.take_replicate, Nat.min_eq_left (by omega)]
theorem not_v (v : BitVec 32) : ~~~v ≠ v := by
  intro h
  have h0 : (~~~v).getLsbD 0 = v.getLsbD 0 := by rw [h]
  simp at h0
theorem same_bad (v : BitVec 32) : (bkOf (List.replicate 64 v)).head ≠ 1 := by
  show (hdRd ((List.replicate 64 v).take 4)).2 ≠ 1
  rw [List.take_replicate]
  show (hdRd [v, v, v, v]).2 ≠ 1
  unfold hdRd
  simp only [List.length_cons, List.length_nil, if_true]
  split
  · decide
  · split
    · rename_i h
      unfold hdWs at h
      split at h
      · simp only [List.cons.injEq] at h
        obtain ⟨_, _, h3, _⟩ := h
        exact absurd h3 (not_v _)
      · simp at h
    · decide
end Go.Proofs.Ytfpfcmgcfbkolaa
