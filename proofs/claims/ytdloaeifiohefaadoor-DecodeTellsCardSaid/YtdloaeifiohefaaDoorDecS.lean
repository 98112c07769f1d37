/- Words with another register (layer decode), and the bounds of what a word's fields are. -/
import Derived.Test.YtdloaeifiohefaaDoorDecR
import Derived.Test.YtdloaeifiohefaaDoorBitsLawMath
namespace Go.Proofs.YtdloaeifiohefaaDoor.Bm
open Go Go.RowKit

theorem set0_0 (w k : BitVec 32) : putB w 7 5 k &&& mkO 0 = w &&& mkO 0 ∧ unF 0 (putB w 7 5 k) 0 = fieldB k 0 5 ∧ unF 0 (putB w 7 5 k) 1 = unF 0 w 1 ∧ unF 0 (putB w 7 5 k) 2 = unF 0 w 2 ∧ unF 0 (putB w 7 5 k) 3 = unF 0 w 3 := by
  obtain ⟨e0, e1, e2, e3⟩ := un_0 (putB w 7 5 k)
  obtain ⟨d0, d1, d2, d3⟩ := un_0 w
  rw [e0, e1, e2, e3, d1, d2, d3, show mkO 0 = 127#32 from rfl]
  refine ⟨?_, ?_, ?_, ?_, ?_⟩
  · refine gb_ext32 ?_; simp [gb_put, gb_and, gb_lit]
  · refine gb_ext32 ?_; simp [gb_put, gb_field, gb_zero]
  · rfl
  · rfl
  · refine gb_ext32 ?_; simp [gb_put, gb_field, gb_zero]
theorem set0_1 (w k : BitVec 32) : putB w 7 5 k &&& mkO 1 = w &&& mkO 1 ∧ unF 1 (putB w 7 5 k) 0 = fieldB k 0 5 ∧ unF 1 (putB w 7 5 k) 1 = unF 1 w 1 ∧ unF 1 (putB w 7 5 k) 2 = unF 1 w 2 ∧ unF 1 (putB w 7 5 k) 3 = unF 1 w 3 := by
  obtain ⟨e0, e1, e2, e3⟩ := un_1 (putB w 7 5 k)
  obtain ⟨d0, d1, d2, d3⟩ := un_1 w
  rw [e0, e1, e2, e3, d1, d2, d3, show mkO 1 = 127#32 from rfl]
  refine ⟨?_, ?_, ?_, ?_, ?_⟩
  · refine gb_ext32 ?_; simp [gb_put, gb_and, gb_lit]
  · refine gb_ext32 ?_; simp [gb_put, gb_field, gb_zero]
  · rfl
  · rfl
  · refine gb_ext32 ?_; simp [gb_put, gb_field, gb_zero]
theorem set0_2 (w k : BitVec 32) : putB w 7 5 k &&& mkO 2 = w &&& mkO 2 ∧ unF 2 (putB w 7 5 k) 0 = fieldB k 0 5 ∧ unF 2 (putB w 7 5 k) 1 = unF 2 w 1 ∧ unF 2 (putB w 7 5 k) 2 = unF 2 w 2 ∧ unF 2 (putB w 7 5 k) 3 = unF 2 w 3 := by
  obtain ⟨e0, e1, e2, e3⟩ := un_2 (putB w 7 5 k)
  obtain ⟨d0, d1, d2, d3⟩ := un_2 w
  rw [e0, e1, e2, e3, d1, d2, d3, show mkO 2 = 28799#32 from rfl]
  refine ⟨?_, ?_, ?_, ?_, ?_⟩
  · refine gb_ext32 ?_; simp [gb_put, gb_and, gb_lit]
  · refine gb_ext32 ?_; simp [gb_put, gb_field, gb_zero]
  · refine gb_ext32 ?_; simp [gb_put, gb_field, gb_zero]
  · rfl
  · refine gb_ext32 ?_; simp [gb_put, gb_field, gb_zero]
theorem set0_5 (w k : BitVec 32) : putB w 7 5 k &&& mkO 5 = w &&& mkO 5 ∧ unF 5 (putB w 7 5 k) 0 = fieldB k 0 5 ∧ unF 5 (putB w 7 5 k) 1 = unF 5 w 1 ∧ unF 5 (putB w 7 5 k) 2 = unF 5 w 2 ∧ unF 5 (putB w 7 5 k) 3 = unF 5 w 3 := by
  obtain ⟨e0, e1, e2, e3⟩ := un_5 (putB w 7 5 k)
  obtain ⟨d0, d1, d2, d3⟩ := un_5 w
  rw [e0, e1, e2, e3, d1, d2, d3, show mkO 5 = 4261441663#32 from rfl]
  refine ⟨?_, ?_, ?_, ?_, ?_⟩
  · refine gb_ext32 ?_; simp [gb_put, gb_and, gb_lit]
  · refine gb_ext32 ?_; simp [gb_put, gb_field, gb_zero]
  · refine gb_ext32 ?_; simp [gb_put, gb_field, gb_zero]
  · refine gb_ext32 ?_; simp [gb_put, gb_field, gb_zero]
  · rfl
theorem set0_6 (w k : BitVec 32) : putB w 7 5 k &&& mkO 6 = w &&& mkO 6 ∧ unF 6 (putB w 7 5 k) 0 = fieldB k 0 5 ∧ unF 6 (putB w 7 5 k) 1 = unF 6 w 1 ∧ unF 6 (putB w 7 5 k) 2 = unF 6 w 2 ∧ unF 6 (putB w 7 5 k) 3 = unF 6 w 3 := by
  obtain ⟨e0, e1, e2, e3⟩ := un_6 (putB w 7 5 k)
  obtain ⟨d0, d1, d2, d3⟩ := un_6 w
  rw [e0, e1, e2, e3, d1, d2, d3, show mkO 6 = 4261441663#32 from rfl]
  refine ⟨?_, ?_, ?_, ?_, ?_⟩
  · refine gb_ext32 ?_; simp [gb_put, gb_and, gb_lit]
  · refine gb_ext32 ?_; simp [gb_put, gb_field, gb_zero]
  · refine gb_ext32 ?_; simp [gb_put, gb_field, gb_zero]
  · rfl
  · refine gb_ext32 ?_; simp [gb_put, gb_field, gb_zero]
theorem set0_7 (w k : BitVec 32) : putB w 7 5 k &&& mkO 7 = w &&& mkO 7 ∧ unF 7 (putB w 7 5 k) 0 = fieldB k 0 5 ∧ unF 7 (putB w 7 5 k) 1 = unF 7 w 1 ∧ unF 7 (putB w 7 5 k) 2 = unF 7 w 2 ∧ unF 7 (putB w 7 5 k) 3 = unF 7 w 3 := by
  obtain ⟨e0, e1, e2, e3⟩ := un_7 (putB w 7 5 k)
  obtain ⟨d0, d1, d2, d3⟩ := un_7 w
  rw [e0, e1, e2, e3, d1, d2, d3, show mkO 7 = 4160778367#32 from rfl]
  refine ⟨?_, ?_, ?_, ?_, ?_⟩
  · refine gb_ext32 ?_; simp [gb_put, gb_and, gb_lit]
  · refine gb_ext32 ?_; simp [gb_put, gb_field, gb_zero]
  · refine gb_ext32 ?_; simp [gb_put, gb_field, gb_zero]
  · refine gb_ext32 ?_; simp [gb_put, gb_field, gb_zero]
  · refine gb_ext32 ?_; simp [gb_put, gb_field, gb_zero]
theorem set0_8 (w k : BitVec 32) : putB w 7 5 k &&& mkO 8 = w &&& mkO 8 ∧ unF 8 (putB w 7 5 k) 0 = fieldB k 0 5 ∧ unF 8 (putB w 7 5 k) 1 = unF 8 w 1 ∧ unF 8 (putB w 7 5 k) 2 = unF 8 w 2 ∧ unF 8 (putB w 7 5 k) 3 = unF 8 w 3 := by
  obtain ⟨e0, e1, e2, e3⟩ := un_8 (putB w 7 5 k)
  obtain ⟨d0, d1, d2, d3⟩ := un_8 w
  rw [e0, e1, e2, e3, d1, d2, d3, show mkO 8 = 4193284223#32 from rfl]
  refine ⟨?_, ?_, ?_, ?_, ?_⟩
  · refine gb_ext32 ?_; simp [gb_put, gb_and, gb_lit]
  · refine gb_ext32 ?_; simp [gb_put, gb_field, gb_zero]
  · refine gb_ext32 ?_; simp [gb_put, gb_field, gb_zero]
  · rfl
  · refine gb_ext32 ?_; simp [gb_put, gb_field, gb_zero]
theorem set0_9 (w k : BitVec 32) : putB w 7 5 k &&& mkO 9 = w &&& mkO 9 ∧ unF 9 (putB w 7 5 k) 0 = fieldB k 0 5 ∧ unF 9 (putB w 7 5 k) 1 = unF 9 w 1 ∧ unF 9 (putB w 7 5 k) 2 = unF 9 w 2 ∧ unF 9 (putB w 7 5 k) 3 = unF 9 w 3 := by
  obtain ⟨e0, e1, e2, e3⟩ := un_9 (putB w 7 5 k)
  obtain ⟨d0, d1, d2, d3⟩ := un_9 w
  rw [e0, e1, e2, e3, d1, d2, d3, show mkO 9 = 28799#32 from rfl]
  refine ⟨?_, ?_, ?_, ?_, ?_⟩
  · refine gb_ext32 ?_; simp [gb_put, gb_and, gb_lit]
  · refine gb_ext32 ?_; simp [gb_put, gb_field, gb_zero]
  · refine gb_ext32 ?_; simp [gb_put, gb_field, gb_zero]
  · rfl
  · refine gb_ext32 ?_; simp [gb_put, gb_field, gb_zero]
theorem set0_12 (w k : BitVec 32) : putB w 7 5 k &&& mkO 12 = w &&& mkO 12 ∧ unF 12 (putB w 7 5 k) 0 = fieldB k 0 5 ∧ unF 12 (putB w 7 5 k) 1 = unF 12 w 1 ∧ unF 12 (putB w 7 5 k) 2 = unF 12 w 2 ∧ unF 12 (putB w 7 5 k) 3 = unF 12 w 3 := by
  obtain ⟨e0, e1, e2, e3⟩ := un_12 (putB w 7 5 k)
  obtain ⟨d0, d1, d2, d3⟩ := un_12 w
  rw [e0, e1, e2, e3, d1, d2, d3, show mkO 12 = 28799#32 from rfl]
  refine ⟨?_, ?_, ?_, ?_, ?_⟩
  · refine gb_ext32 ?_; simp [gb_put, gb_and, gb_lit]
  · refine gb_ext32 ?_; simp [gb_put, gb_field, gb_zero]
  · refine gb_ext32 ?_; simp [gb_put, gb_field, gb_zero]
  · rfl
  · refine gb_ext32 ?_; simp [gb_put, gb_field, gb_zero]
theorem set0 {f : Nat} (hf : f < 13) (h : rdB f = true) (w k : BitVec 32) : putB w 7 5 k &&& mkO f = w &&& mkO f ∧ unF f (putB w 7 5 k) 0 = fieldB k 0 5 ∧ unF f (putB w 7 5 k) 1 = unF f w 1 ∧ unF f (putB w 7 5 k) 2 = unF f w 2 ∧ unF f (putB w 7 5 k) 3 = unF f w 3 := by
  have c : f = 0 ∨ f = 1 ∨ f = 2 ∨ f = 3 ∨ f = 4 ∨ f = 5 ∨ f = 6 ∨ f = 7 ∨ f = 8 ∨ f = 9 ∨ f = 10 ∨ f = 11 ∨ f = 12 := by omega
  rcases c with rfl | rfl | rfl | rfl | rfl | rfl | rfl | rfl | rfl | rfl | rfl | rfl | rfl
  · exact set0_0 w k
  · exact set0_1 w k
  · exact set0_2 w k
  · exact absurd h (by decide)
  · exact absurd h (by decide)
  · exact set0_5 w k
  · exact set0_6 w k
  · exact set0_7 w k
  · exact set0_8 w k
  · exact set0_9 w k
  · exact absurd h (by decide)
  · exact absurd h (by decide)
  · exact set0_12 w k
theorem set1_2 (w k : BitVec 32) : putB w 15 5 k &&& mkO 2 = w &&& mkO 2 ∧ unF 2 (putB w 15 5 k) 0 = unF 2 w 0 ∧ unF 2 (putB w 15 5 k) 1 = fieldB k 0 5 ∧ unF 2 (putB w 15 5 k) 2 = unF 2 w 2 ∧ unF 2 (putB w 15 5 k) 3 = unF 2 w 3 := by
  obtain ⟨e0, e1, e2, e3⟩ := un_2 (putB w 15 5 k)
  obtain ⟨d0, d1, d2, d3⟩ := un_2 w
  rw [e0, e1, e2, e3, d0, d2, d3, show mkO 2 = 28799#32 from rfl]
  refine ⟨?_, ?_, ?_, ?_, ?_⟩
  · refine gb_ext32 ?_; simp [gb_put, gb_and, gb_lit]
  · refine gb_ext32 ?_; simp [gb_put, gb_field, gb_zero]
  · refine gb_ext32 ?_; simp [gb_put, gb_field, gb_zero]
  · rfl
  · refine gb_ext32 ?_; simp [gb_put, gb_field, gb_zero]
theorem set1_3 (w k : BitVec 32) : putB w 15 5 k &&& mkO 3 = w &&& mkO 3 ∧ unF 3 (putB w 15 5 k) 0 = unF 3 w 0 ∧ unF 3 (putB w 15 5 k) 1 = fieldB k 0 5 ∧ unF 3 (putB w 15 5 k) 2 = unF 3 w 2 ∧ unF 3 (putB w 15 5 k) 3 = unF 3 w 3 := by
  obtain ⟨e0, e1, e2, e3⟩ := un_3 (putB w 15 5 k)
  obtain ⟨d0, d1, d2, d3⟩ := un_3 w
  rw [e0, e1, e2, e3, d0, d2, d3, show mkO 3 = 28799#32 from rfl]
  refine ⟨?_, ?_, ?_, ?_, ?_⟩
  · refine gb_ext32 ?_; simp [gb_put, gb_and, gb_lit]
  · rfl
  · refine gb_ext32 ?_; simp [gb_put, gb_field, gb_zero]
  · refine gb_ext32 ?_; simp [gb_put, gb_field, gb_zero]
  · refine gb_ext32 ?_; simp [gb_put, gb_field, gb_zero]
theorem set1_4 (w k : BitVec 32) : putB w 15 5 k &&& mkO 4 = w &&& mkO 4 ∧ unF 4 (putB w 15 5 k) 0 = unF 4 w 0 ∧ unF 4 (putB w 15 5 k) 1 = fieldB k 0 5 ∧ unF 4 (putB w 15 5 k) 2 = unF 4 w 2 ∧ unF 4 (putB w 15 5 k) 3 = unF 4 w 3 := by
  obtain ⟨e0, e1, e2, e3⟩ := un_4 (putB w 15 5 k)
  obtain ⟨d0, d1, d2, d3⟩ := un_4 w
  rw [e0, e1, e2, e3, d0, d2, d3, show mkO 4 = 28799#32 from rfl]
  refine ⟨?_, ?_, ?_, ?_, ?_⟩
  · refine gb_ext32 ?_; simp [gb_put, gb_and, gb_lit]
  · rfl
  · refine gb_ext32 ?_; simp [gb_put, gb_field, gb_zero]
  · refine gb_ext32 ?_; simp [gb_put, gb_field, gb_zero]
  · refine gb_ext32 ?_; simp [gb_put, gb_field, gb_zero]
theorem set1_5 (w k : BitVec 32) : putB w 15 5 k &&& mkO 5 = w &&& mkO 5 ∧ unF 5 (putB w 15 5 k) 0 = unF 5 w 0 ∧ unF 5 (putB w 15 5 k) 1 = fieldB k 0 5 ∧ unF 5 (putB w 15 5 k) 2 = unF 5 w 2 ∧ unF 5 (putB w 15 5 k) 3 = unF 5 w 3 := by
  obtain ⟨e0, e1, e2, e3⟩ := un_5 (putB w 15 5 k)
  obtain ⟨d0, d1, d2, d3⟩ := un_5 w
  rw [e0, e1, e2, e3, d0, d2, d3, show mkO 5 = 4261441663#32 from rfl]
  refine ⟨?_, ?_, ?_, ?_, ?_⟩
  · refine gb_ext32 ?_; simp [gb_put, gb_and, gb_lit]
  · refine gb_ext32 ?_; simp [gb_put, gb_field, gb_zero]
  · refine gb_ext32 ?_; simp [gb_put, gb_field, gb_zero]
  · refine gb_ext32 ?_; simp [gb_put, gb_field, gb_zero]
  · rfl
theorem set1_6 (w k : BitVec 32) : putB w 15 5 k &&& mkO 6 = w &&& mkO 6 ∧ unF 6 (putB w 15 5 k) 0 = unF 6 w 0 ∧ unF 6 (putB w 15 5 k) 1 = fieldB k 0 5 ∧ unF 6 (putB w 15 5 k) 2 = unF 6 w 2 ∧ unF 6 (putB w 15 5 k) 3 = unF 6 w 3 := by
  obtain ⟨e0, e1, e2, e3⟩ := un_6 (putB w 15 5 k)
  obtain ⟨d0, d1, d2, d3⟩ := un_6 w
  rw [e0, e1, e2, e3, d0, d2, d3, show mkO 6 = 4261441663#32 from rfl]
  refine ⟨?_, ?_, ?_, ?_, ?_⟩
  · refine gb_ext32 ?_; simp [gb_put, gb_and, gb_lit]
  · refine gb_ext32 ?_; simp [gb_put, gb_field, gb_zero]
  · refine gb_ext32 ?_; simp [gb_put, gb_field, gb_zero]
  · rfl
  · refine gb_ext32 ?_; simp [gb_put, gb_field, gb_zero]
theorem set1_7 (w k : BitVec 32) : putB w 15 5 k &&& mkO 7 = w &&& mkO 7 ∧ unF 7 (putB w 15 5 k) 0 = unF 7 w 0 ∧ unF 7 (putB w 15 5 k) 1 = fieldB k 0 5 ∧ unF 7 (putB w 15 5 k) 2 = unF 7 w 2 ∧ unF 7 (putB w 15 5 k) 3 = unF 7 w 3 := by
  obtain ⟨e0, e1, e2, e3⟩ := un_7 (putB w 15 5 k)
  obtain ⟨d0, d1, d2, d3⟩ := un_7 w
  rw [e0, e1, e2, e3, d0, d2, d3, show mkO 7 = 4160778367#32 from rfl]
  refine ⟨?_, ?_, ?_, ?_, ?_⟩
  · refine gb_ext32 ?_; simp [gb_put, gb_and, gb_lit]
  · refine gb_ext32 ?_; simp [gb_put, gb_field, gb_zero]
  · refine gb_ext32 ?_; simp [gb_put, gb_field, gb_zero]
  · refine gb_ext32 ?_; simp [gb_put, gb_field, gb_zero]
  · refine gb_ext32 ?_; simp [gb_put, gb_field, gb_zero]
theorem set1_8 (w k : BitVec 32) : putB w 15 5 k &&& mkO 8 = w &&& mkO 8 ∧ unF 8 (putB w 15 5 k) 0 = unF 8 w 0 ∧ unF 8 (putB w 15 5 k) 1 = fieldB k 0 5 ∧ unF 8 (putB w 15 5 k) 2 = unF 8 w 2 ∧ unF 8 (putB w 15 5 k) 3 = unF 8 w 3 := by
  obtain ⟨e0, e1, e2, e3⟩ := un_8 (putB w 15 5 k)
  obtain ⟨d0, d1, d2, d3⟩ := un_8 w
  rw [e0, e1, e2, e3, d0, d2, d3, show mkO 8 = 4193284223#32 from rfl]
  refine ⟨?_, ?_, ?_, ?_, ?_⟩
  · refine gb_ext32 ?_; simp [gb_put, gb_and, gb_lit]
  · refine gb_ext32 ?_; simp [gb_put, gb_field, gb_zero]
  · refine gb_ext32 ?_; simp [gb_put, gb_field, gb_zero]
  · rfl
  · refine gb_ext32 ?_; simp [gb_put, gb_field, gb_zero]
theorem set1_9 (w k : BitVec 32) : putB w 15 5 k &&& mkO 9 = w &&& mkO 9 ∧ unF 9 (putB w 15 5 k) 0 = unF 9 w 0 ∧ unF 9 (putB w 15 5 k) 1 = fieldB k 0 5 ∧ unF 9 (putB w 15 5 k) 2 = unF 9 w 2 ∧ unF 9 (putB w 15 5 k) 3 = unF 9 w 3 := by
  obtain ⟨e0, e1, e2, e3⟩ := un_9 (putB w 15 5 k)
  obtain ⟨d0, d1, d2, d3⟩ := un_9 w
  rw [e0, e1, e2, e3, d0, d2, d3, show mkO 9 = 28799#32 from rfl]
  refine ⟨?_, ?_, ?_, ?_, ?_⟩
  · refine gb_ext32 ?_; simp [gb_put, gb_and, gb_lit]
  · refine gb_ext32 ?_; simp [gb_put, gb_field, gb_zero]
  · refine gb_ext32 ?_; simp [gb_put, gb_field, gb_zero]
  · rfl
  · refine gb_ext32 ?_; simp [gb_put, gb_field, gb_zero]
theorem set1_11 (w k : BitVec 32) : putB w 15 5 k &&& mkO 11 = w &&& mkO 11 ∧ unF 11 (putB w 15 5 k) 0 = unF 11 w 0 ∧ unF 11 (putB w 15 5 k) 1 = fieldB k 0 5 ∧ unF 11 (putB w 15 5 k) 2 = unF 11 w 2 ∧ unF 11 (putB w 15 5 k) 3 = unF 11 w 3 := by
  obtain ⟨e0, e1, e2, e3⟩ := un_11 (putB w 15 5 k)
  obtain ⟨d0, d1, d2, d3⟩ := un_11 w
  rw [e0, e1, e2, e3, d0, d2, d3, show mkO 11 = 4261445631#32 from rfl]
  refine ⟨?_, ?_, ?_, ?_, ?_⟩
  · refine gb_ext32 ?_; simp [gb_put, gb_and, gb_lit]
  · rfl
  · refine gb_ext32 ?_; simp [gb_put, gb_field, gb_zero]
  · refine gb_ext32 ?_; simp [gb_put, gb_field, gb_zero]
  · rfl
theorem set1_12 (w k : BitVec 32) : putB w 15 5 k &&& mkO 12 = w &&& mkO 12 ∧ unF 12 (putB w 15 5 k) 0 = unF 12 w 0 ∧ unF 12 (putB w 15 5 k) 1 = fieldB k 0 5 ∧ unF 12 (putB w 15 5 k) 2 = unF 12 w 2 ∧ unF 12 (putB w 15 5 k) 3 = unF 12 w 3 := by
  obtain ⟨e0, e1, e2, e3⟩ := un_12 (putB w 15 5 k)
  obtain ⟨d0, d1, d2, d3⟩ := un_12 w
  rw [e0, e1, e2, e3, d0, d2, d3, show mkO 12 = 28799#32 from rfl]
  refine ⟨?_, ?_, ?_, ?_, ?_⟩
  · refine gb_ext32 ?_; simp [gb_put, gb_and, gb_lit]
  · refine gb_ext32 ?_; simp [gb_put, gb_field, gb_zero]
  · refine gb_ext32 ?_; simp [gb_put, gb_field, gb_zero]
  · rfl
  · refine gb_ext32 ?_; simp [gb_put, gb_field, gb_zero]
theorem set1 {f : Nat} (hf : f < 13) (h : r1B f = true) (w k : BitVec 32) : putB w 15 5 k &&& mkO f = w &&& mkO f ∧ unF f (putB w 15 5 k) 0 = unF f w 0 ∧ unF f (putB w 15 5 k) 1 = fieldB k 0 5 ∧ unF f (putB w 15 5 k) 2 = unF f w 2 ∧ unF f (putB w 15 5 k) 3 = unF f w 3 := by
  have c : f = 0 ∨ f = 1 ∨ f = 2 ∨ f = 3 ∨ f = 4 ∨ f = 5 ∨ f = 6 ∨ f = 7 ∨ f = 8 ∨ f = 9 ∨ f = 10 ∨ f = 11 ∨ f = 12 := by omega
  rcases c with rfl | rfl | rfl | rfl | rfl | rfl | rfl | rfl | rfl | rfl | rfl | rfl | rfl
  · exact absurd h (by decide)
  · exact absurd h (by decide)
  · exact set1_2 w k
  · exact set1_3 w k
  · exact set1_4 w k
  · exact set1_5 w k
  · exact set1_6 w k
  · exact set1_7 w k
  · exact set1_8 w k
  · exact set1_9 w k
  · exact absurd h (by decide)
  · exact set1_11 w k
  · exact set1_12 w k
theorem U_and_le (x y : BitVec 32) : U (x &&& y) ≤ U y := by
  unfold U; rw [BitVec.toNat_and]; exact Int.ofNat_le.2 Nat.and_le_right
theorem field_le (w : BitVec 32) (a n : Int) : U (fieldB w a n) ≤ U (lowB n) := U_and_le _ _
theorem field5_lt (w : BitVec 32) (a : Int) : U (fieldB w a 5) < 32 := by
  have := field_le w a 5
  have e : U (lowB 5) = 31 := by decide
  omega
theorem reg_lt {f : Nat} (hf : f < 13) (w : BitVec 32) : U (unF f w 0) < 32 ∧ U (unF f w 1) < 32 ∧ U (unF f w 2) < 32 := by
  obtain ⟨e0, e1, e2⟩ := regs_is hf w
  rw [e0, e1, e2, U_if, U_if, U_if]
  have := field5_lt w 7
  have := field5_lt w 15
  have := field5_lt w 20
  refine ⟨?_, ?_, ?_⟩ <;> split <;> omega
theorem U_mod2 (x : BitVec 32) (h : gb x 0 = false) : U x % 2 = 0 := by
  have e : x.toNat.testBit 0 = false := by simpa [gb, BitVec.getLsbD] using h
  rw [Nat.testBit_zero] at e
  have : ¬ x.toNat % 2 = 1 := by simpa using e
  unfold U; omega
theorem toInt_U (x : BitVec 32) : x.toInt = U x ∨ x.toInt = U x - 4294967296 := by
  rw [BitVec.toInt_eq_toNat_cond]; unfold U
  split
  · exact .inl rfl
  · exact .inr rfl
theorem even_of (x : BitVec 32) (h : gb x 0 = false) : x.toInt % 2 = 0 := by
  have := U_mod2 x h
  rcases toInt_U x with e | e <;> omega
theorem imm_1 (w : BitVec 32) : -1048576 ≤ (signB (unF 1 w 3) 21).toInt ∧ (signB (unF 1 w 3) 21).toInt < 1048576 ∧ (signB (unF 1 w 3) 21).toInt % 2 = 0 := by
  have h := sign_ends (unF 1 w 3) 21 (by omega) (by omega)
  have e : (2 : Int) ^ (21 - 1) = 1048576 := by decide
  rw [e] at h
  refine ⟨h.1, h.2, even_of _ ?_⟩
  rw [(un_1 w).2.2.2]
  simp [gb_put, gb_sign, gb_zero]
theorem imm_3 (w : BitVec 32) : -4096 ≤ (signB (unF 3 w 3) 13).toInt ∧ (signB (unF 3 w 3) 13).toInt < 4096 ∧ (signB (unF 3 w 3) 13).toInt % 2 = 0 := by
  have h := sign_ends (unF 3 w 3) 13 (by omega) (by omega)
  have e : (2 : Int) ^ (13 - 1) = 4096 := by decide
  rw [e] at h
  refine ⟨h.1, h.2, even_of _ ?_⟩
  rw [(un_3 w).2.2.2]
  simp [gb_put, gb_sign, gb_zero]
theorem imm_12 (v : BitVec 32) : -2048 ≤ (signB v 12).toInt ∧ (signB v 12).toInt < 2048 := by
  have h := sign_ends v 12 (by omega) (by omega)
  have e : (2 : Int) ^ (12 - 1) = 2048 := by decide
  rwa [e] at h
theorem imm_0 (w : BitVec 32) : signB (unF 0 w 3) 0 = w &&& ~~~4095#32 ∧ U (signB (unF 0 w 3) 0) % 4096 = 0 := by
  have e : signB (unF 0 w 3) 0 = w &&& ~~~4095#32 := by
    rw [(un_0 w).2.2.2]
    refine gb_ext32 ?_
    simp [gb_put, gb_field, gb_and, signB, gb_lit]
  refine ⟨e, ?_⟩
  rw [e]
  have h : (w &&& ~~~4095#32) &&& 4095#32 = 0#32 := by
    rw [BitVec.and_assoc]
    simp
  have h2 : ((w &&& ~~~4095#32) &&& 4095#32).toNat = (w &&& ~~~4095#32).toNat % 2 ^ 12 := by
    rw [BitVec.toNat_and, show (4095#32).toNat = 2 ^ 12 - 1 from rfl, Nat.and_two_pow_sub_one_eq_mod]
  rw [h] at h2
  have h3 : (w &&& ~~~4095#32).toNat % 4096 = 0 := h2.symm
  unfold U; omega
theorem imm_low {f : Nat} (hf : f < 13) (h : 5 ≤ f) (w : BitVec 32) : U (signB (unF f w 3) (sgO f)) < 4096 ∧ (f = 6 → U (signB (unF f w 3) (sgO f)) < 32) := by
  have a5 := field5_lt w 20
  have a2 : U (fieldB w 25 2) < 4 := by
    have := field_le w 25 2
    have e : U (lowB 2) = 3 := by decide
    omega
  have a12 : U (fieldB w 20 12) < 4096 := by
    have := field_le w 20 12
    have e : U (lowB 12) = 4095 := by decide
    omega
  rw [← rimm_is hf]
  have c : f = 5 ∨ f = 6 ∨ f = 7 ∨ f = 8 ∨ f = 9 ∨ f = 10 ∨ f = 11 ∨ f = 12 := by omega
  rcases c with rfl | rfl | rfl | rfl | rfl | rfl | rfl | rfl
  · exact ⟨show U 0#32 < 4096 by decide, fun h => by omega⟩
  · have e : rImm 6 w = fieldB w 20 5 := put_low _ _ _
    rw [e]; exact ⟨by omega, fun _ => a5⟩
  · have e : rImm 7 w = fieldB w 25 2 := put_low _ _ _
    rw [e]; exact ⟨by omega, fun h => by omega⟩
  · have e : rImm 8 w = fieldB w 25 2 := put_low _ _ _
    rw [e]; exact ⟨by omega, fun h => by omega⟩
  · have e : rImm 9 w = fieldB w 20 12 := put_low _ _ _
    rw [e]; exact ⟨by omega, fun h => by omega⟩
  · exact ⟨show U 0#32 < 4096 by decide, fun h => by omega⟩
  · exact ⟨show U 0#32 < 4096 by decide, fun h => by omega⟩
  · have e : rImm 12 w = fieldB w 20 12 := put_low _ _ _
    rw [e]; exact ⟨by omega, fun h => by omega⟩
end Go.Proofs.YtdloaeifiohefaaDoor.Bm
