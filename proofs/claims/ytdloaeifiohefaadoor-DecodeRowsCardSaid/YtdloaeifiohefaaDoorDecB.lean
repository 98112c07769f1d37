/- The bits of each format's words (layer decode): a word is its row's pattern and its parts, put together; the document's numbers are the program's; another register changes its bits alone. -/
import Derived.Test.YtdloaeifiohefaaDoorDecM
namespace Go.Proofs.YtdloaeifiohefaaDoor.Bm
open Go Go.RowKit

theorem gb_ext32 {x y : BitVec 32} (h : gb x 0 = gb y 0 ∧ gb x 1 = gb y 1 ∧ gb x 2 = gb y 2 ∧ gb x 3 = gb y 3 ∧ gb x 4 = gb y 4 ∧ gb x 5 = gb y 5 ∧ gb x 6 = gb y 6 ∧ gb x 7 = gb y 7 ∧ gb x 8 = gb y 8 ∧ gb x 9 = gb y 9 ∧ gb x 10 = gb y 10 ∧ gb x 11 = gb y 11 ∧ gb x 12 = gb y 12 ∧ gb x 13 = gb y 13 ∧ gb x 14 = gb y 14 ∧ gb x 15 = gb y 15 ∧ gb x 16 = gb y 16 ∧ gb x 17 = gb y 17 ∧ gb x 18 = gb y 18 ∧ gb x 19 = gb y 19 ∧ gb x 20 = gb y 20 ∧ gb x 21 = gb y 21 ∧ gb x 22 = gb y 22 ∧ gb x 23 = gb y 23 ∧ gb x 24 = gb y 24 ∧ gb x 25 = gb y 25 ∧ gb x 26 = gb y 26 ∧ gb x 27 = gb y 27 ∧ gb x 28 = gb y 28 ∧ gb x 29 = gb y 29 ∧ gb x 30 = gb y 30 ∧ gb x 31 = gb y 31) : x = y := by
  apply gb_ext; intro i h0 h1
  obtain ⟨e0, e1, e2, e3, e4, e5, e6, e7, e8, e9, e10, e11, e12, e13, e14, e15, e16, e17, e18, e19, e20, e21, e22, e23, e24, e25, e26, e27, e28, e29, e30, e31⟩ := h
  have c : i = 0 ∨ i = 1 ∨ i = 2 ∨ i = 3 ∨ i = 4 ∨ i = 5 ∨ i = 6 ∨ i = 7 ∨ i = 8 ∨ i = 9 ∨ i = 10 ∨ i = 11 ∨ i = 12 ∨ i = 13 ∨ i = 14 ∨ i = 15 ∨ i = 16 ∨ i = 17 ∨ i = 18 ∨ i = 19 ∨ i = 20 ∨ i = 21 ∨ i = 22 ∨ i = 23 ∨ i = 24 ∨ i = 25 ∨ i = 26 ∨ i = 27 ∨ i = 28 ∨ i = 29 ∨ i = 30 ∨ i = 31 := by omega
  rcases c with rfl | rfl | rfl | rfl | rfl | rfl | rfl | rfl | rfl | rfl | rfl | rfl | rfl | rfl | rfl | rfl | rfl | rfl | rfl | rfl | rfl | rfl | rfl | rfl | rfl | rfl | rfl | rfl | rfl | rfl | rfl | rfl <;> assumption
theorem gb_lit (m : Nat) (i : Int) : gb (BitVec.ofNat 32 m) i = (decide (0 ≤ i) && (BitVec.ofNat 32 m).getLsbD i.toNat) := rfl
theorem un_0 (w : BitVec 32) : unF 0 w 0 = putB (0#32) 0 5 (fieldB w 7 5) ∧ unF 0 w 1 = 0#32 ∧ unF 0 w 2 = 0#32 ∧ unF 0 w 3 = putB (0#32) 12 20 (fieldB w 12 20) := ⟨rfl, rfl, rfl, rfl⟩
theorem un_1 (w : BitVec 32) : unF 1 w 0 = putB (0#32) 0 5 (fieldB w 7 5) ∧ unF 1 w 1 = 0#32 ∧ unF 1 w 2 = 0#32 ∧ unF 1 w 3 = putB (putB (putB (putB (0#32) 12 8 (fieldB w 12 8)) 11 1 (fieldB w 20 1)) 1 10 (fieldB w 21 10)) 20 1 (fieldB w 31 1) := ⟨rfl, rfl, rfl, rfl⟩
theorem un_2 (w : BitVec 32) : unF 2 w 0 = putB (0#32) 0 5 (fieldB w 7 5) ∧ unF 2 w 1 = putB (0#32) 0 5 (fieldB w 15 5) ∧ unF 2 w 2 = 0#32 ∧ unF 2 w 3 = putB (0#32) 0 12 (fieldB w 20 12) := ⟨rfl, rfl, rfl, rfl⟩
theorem un_3 (w : BitVec 32) : unF 3 w 0 = 0#32 ∧ unF 3 w 1 = putB (0#32) 0 5 (fieldB w 15 5) ∧ unF 3 w 2 = putB (0#32) 0 5 (fieldB w 20 5) ∧ unF 3 w 3 = putB (putB (putB (putB (0#32) 11 1 (fieldB w 7 1)) 1 4 (fieldB w 8 4)) 5 6 (fieldB w 25 6)) 12 1 (fieldB w 31 1) := ⟨rfl, rfl, rfl, rfl⟩
theorem un_4 (w : BitVec 32) : unF 4 w 0 = 0#32 ∧ unF 4 w 1 = putB (0#32) 0 5 (fieldB w 15 5) ∧ unF 4 w 2 = putB (0#32) 0 5 (fieldB w 20 5) ∧ unF 4 w 3 = putB (putB (0#32) 0 5 (fieldB w 7 5)) 5 7 (fieldB w 25 7) := ⟨rfl, rfl, rfl, rfl⟩
theorem un_5 (w : BitVec 32) : unF 5 w 0 = putB (0#32) 0 5 (fieldB w 7 5) ∧ unF 5 w 1 = putB (0#32) 0 5 (fieldB w 15 5) ∧ unF 5 w 2 = putB (0#32) 0 5 (fieldB w 20 5) ∧ unF 5 w 3 = 0#32 := ⟨rfl, rfl, rfl, rfl⟩
theorem un_6 (w : BitVec 32) : unF 6 w 0 = putB (0#32) 0 5 (fieldB w 7 5) ∧ unF 6 w 1 = putB (0#32) 0 5 (fieldB w 15 5) ∧ unF 6 w 2 = 0#32 ∧ unF 6 w 3 = putB (0#32) 0 5 (fieldB w 20 5) := ⟨rfl, rfl, rfl, rfl⟩
theorem un_7 (w : BitVec 32) : unF 7 w 0 = putB (0#32) 0 5 (fieldB w 7 5) ∧ unF 7 w 1 = putB (0#32) 0 5 (fieldB w 15 5) ∧ unF 7 w 2 = putB (0#32) 0 5 (fieldB w 20 5) ∧ unF 7 w 3 = putB (0#32) 0 2 (fieldB w 25 2) := ⟨rfl, rfl, rfl, rfl⟩
theorem un_8 (w : BitVec 32) : unF 8 w 0 = putB (0#32) 0 5 (fieldB w 7 5) ∧ unF 8 w 1 = putB (0#32) 0 5 (fieldB w 15 5) ∧ unF 8 w 2 = 0#32 ∧ unF 8 w 3 = putB (0#32) 0 2 (fieldB w 25 2) := ⟨rfl, rfl, rfl, rfl⟩
theorem un_9 (w : BitVec 32) : unF 9 w 0 = putB (0#32) 0 5 (fieldB w 7 5) ∧ unF 9 w 1 = putB (0#32) 0 5 (fieldB w 15 5) ∧ unF 9 w 2 = 0#32 ∧ unF 9 w 3 = putB (0#32) 0 12 (fieldB w 20 12) := ⟨rfl, rfl, rfl, rfl⟩
theorem un_10 (w : BitVec 32) : unF 10 w 0 = 0#32 ∧ unF 10 w 1 = 0#32 ∧ unF 10 w 2 = 0#32 ∧ unF 10 w 3 = 0#32 := ⟨rfl, rfl, rfl, rfl⟩
theorem un_11 (w : BitVec 32) : unF 11 w 0 = 0#32 ∧ unF 11 w 1 = putB (0#32) 0 5 (fieldB w 15 5) ∧ unF 11 w 2 = putB (0#32) 0 5 (fieldB w 20 5) ∧ unF 11 w 3 = 0#32 := ⟨rfl, rfl, rfl, rfl⟩
theorem un_12 (w : BitVec 32) : unF 12 w 0 = putB (0#32) 0 5 (fieldB w 7 5) ∧ unF 12 w 1 = putB (0#32) 0 5 (fieldB w 15 5) ∧ unF 12 w 2 = 0#32 ∧ unF 12 w 3 = putB (0#32) 0 12 (fieldB w 20 12) := ⟨rfl, rfl, rfl, rfl⟩
/-- What a word's parts are as fields of an op. -/
def fld (f : Nat) (w : BitVec 32) : Nat → BitVec 32 := fun k => match k with | 0 => unF f w 0 | 1 => unF f w 1 | 2 => unF f w 2 | _ => signB (unF f w 3) (sgO f)
theorem pkF_0 (v : Nat → BitVec 32) (x : BitVec 32) : pkF 0 v x = putB (putB (x) 7 5 (fieldB (v 0) 0 5)) 12 20 (fieldB (v 3) 12 20) := rfl
theorem pkF_1 (v : Nat → BitVec 32) (x : BitVec 32) : pkF 1 v x = putB (putB (putB (putB (putB (x) 7 5 (fieldB (v 0) 0 5)) 12 8 (fieldB (v 3) 12 8)) 20 1 (fieldB (v 3) 11 1)) 21 10 (fieldB (v 3) 1 10)) 31 1 (fieldB (v 3) 20 1) := rfl
theorem pkF_2 (v : Nat → BitVec 32) (x : BitVec 32) : pkF 2 v x = putB (putB (putB (x) 7 5 (fieldB (v 0) 0 5)) 15 5 (fieldB (v 1) 0 5)) 20 12 (fieldB (v 3) 0 12) := rfl
theorem pkF_3 (v : Nat → BitVec 32) (x : BitVec 32) : pkF 3 v x = putB (putB (putB (putB (putB (putB (x) 7 1 (fieldB (v 3) 11 1)) 8 4 (fieldB (v 3) 1 4)) 15 5 (fieldB (v 1) 0 5)) 20 5 (fieldB (v 2) 0 5)) 25 6 (fieldB (v 3) 5 6)) 31 1 (fieldB (v 3) 12 1) := rfl
theorem pkF_4 (v : Nat → BitVec 32) (x : BitVec 32) : pkF 4 v x = putB (putB (putB (putB (x) 7 5 (fieldB (v 3) 0 5)) 15 5 (fieldB (v 1) 0 5)) 20 5 (fieldB (v 2) 0 5)) 25 7 (fieldB (v 3) 5 7) := rfl
theorem pkF_5 (v : Nat → BitVec 32) (x : BitVec 32) : pkF 5 v x = putB (putB (putB (x) 7 5 (fieldB (v 0) 0 5)) 15 5 (fieldB (v 1) 0 5)) 20 5 (fieldB (v 2) 0 5) := rfl
theorem pkF_6 (v : Nat → BitVec 32) (x : BitVec 32) : pkF 6 v x = putB (putB (putB (x) 7 5 (fieldB (v 0) 0 5)) 15 5 (fieldB (v 1) 0 5)) 20 5 (fieldB (v 3) 0 5) := rfl
theorem pkF_7 (v : Nat → BitVec 32) (x : BitVec 32) : pkF 7 v x = putB (putB (putB (putB (x) 7 5 (fieldB (v 0) 0 5)) 15 5 (fieldB (v 1) 0 5)) 20 5 (fieldB (v 2) 0 5)) 25 2 (fieldB (v 3) 0 2) := rfl
theorem pkF_8 (v : Nat → BitVec 32) (x : BitVec 32) : pkF 8 v x = putB (putB (putB (x) 7 5 (fieldB (v 0) 0 5)) 15 5 (fieldB (v 1) 0 5)) 25 2 (fieldB (v 3) 0 2) := rfl
theorem pkF_9 (v : Nat → BitVec 32) (x : BitVec 32) : pkF 9 v x = putB (putB (putB (x) 7 5 (fieldB (v 0) 0 5)) 15 5 (fieldB (v 1) 0 5)) 20 12 (fieldB (v 3) 0 12) := rfl
theorem pkF_10 (v : Nat → BitVec 32) (x : BitVec 32) : pkF 10 v x = x := rfl
theorem pkF_11 (v : Nat → BitVec 32) (x : BitVec 32) : pkF 11 v x = putB (putB (x) 15 5 (fieldB (v 1) 0 5)) 20 5 (fieldB (v 2) 0 5) := rfl
theorem pkF_12 (v : Nat → BitVec 32) (x : BitVec 32) : pkF 12 v x = putB (putB (putB (x) 7 5 (fieldB (v 0) 0 5)) 15 5 (fieldB (v 1) 0 5)) 20 12 (fieldB (v 3) 0 12) := rfl
theorem whole_0 (w : BitVec 32) : pkF 0 (fld 0 w) (w &&& mkO 0) = w := by
  obtain ⟨e0, _, _, e3⟩ := un_0 w
  rw [pkF_0]
  unfold fld
  simp only [e0, e3, show mkO 0 = 127#32 from rfl, show sgO 0 = 0 from rfl]
  refine gb_ext32 ?_
  simp [gb_put, gb_field, gb_and, signB, gb_lit]
theorem whole_1 (w : BitVec 32) : pkF 1 (fld 1 w) (w &&& mkO 1) = w := by
  obtain ⟨e0, _, _, e3⟩ := un_1 w
  rw [pkF_1]
  unfold fld
  simp only [e0, e3, show mkO 1 = 127#32 from rfl, show sgO 1 = 21 from rfl]
  refine gb_ext32 ?_
  simp [gb_put, gb_field, gb_and, gb_sign, gb_lit]
theorem whole_2 (w : BitVec 32) : pkF 2 (fld 2 w) (w &&& mkO 2) = w := by
  obtain ⟨e0, e1, _, e3⟩ := un_2 w
  rw [pkF_2]
  unfold fld
  simp only [e0, e1, e3, show mkO 2 = 28799#32 from rfl, show sgO 2 = 12 from rfl]
  refine gb_ext32 ?_
  simp [gb_put, gb_field, gb_and, gb_sign, gb_lit]
theorem whole_3 (w : BitVec 32) : pkF 3 (fld 3 w) (w &&& mkO 3) = w := by
  obtain ⟨_, e1, e2, e3⟩ := un_3 w
  rw [pkF_3]
  unfold fld
  simp only [e1, e2, e3, show mkO 3 = 28799#32 from rfl, show sgO 3 = 13 from rfl]
  refine gb_ext32 ?_
  simp [gb_put, gb_field, gb_and, gb_sign, gb_lit]
theorem whole_4 (w : BitVec 32) : pkF 4 (fld 4 w) (w &&& mkO 4) = w := by
  obtain ⟨_, e1, e2, e3⟩ := un_4 w
  rw [pkF_4]
  unfold fld
  simp only [e1, e2, e3, show mkO 4 = 28799#32 from rfl, show sgO 4 = 12 from rfl]
  refine gb_ext32 ?_
  simp [gb_put, gb_field, gb_and, gb_sign, gb_lit]
theorem whole_5 (w : BitVec 32) : pkF 5 (fld 5 w) (w &&& mkO 5) = w := by
  obtain ⟨e0, e1, e2, _⟩ := un_5 w
  rw [pkF_5]
  unfold fld
  simp only [e0, e1, e2, show mkO 5 = 4261441663#32 from rfl]
  refine gb_ext32 ?_
  simp [gb_put, gb_field, gb_and, gb_lit]
theorem whole_6 (w : BitVec 32) : pkF 6 (fld 6 w) (w &&& mkO 6) = w := by
  obtain ⟨e0, e1, _, e3⟩ := un_6 w
  rw [pkF_6]
  unfold fld
  simp only [e0, e1, e3, show mkO 6 = 4261441663#32 from rfl, show sgO 6 = 0 from rfl]
  refine gb_ext32 ?_
  simp [gb_put, gb_field, gb_and, signB, gb_lit]
theorem whole_7 (w : BitVec 32) : pkF 7 (fld 7 w) (w &&& mkO 7) = w := by
  obtain ⟨e0, e1, e2, e3⟩ := un_7 w
  rw [pkF_7]
  unfold fld
  simp only [e0, e1, e2, e3, show mkO 7 = 4160778367#32 from rfl, show sgO 7 = 0 from rfl]
  refine gb_ext32 ?_
  simp [gb_put, gb_field, gb_and, signB, gb_lit]
theorem whole_8 (w : BitVec 32) : pkF 8 (fld 8 w) (w &&& mkO 8) = w := by
  obtain ⟨e0, e1, _, e3⟩ := un_8 w
  rw [pkF_8]
  unfold fld
  simp only [e0, e1, e3, show mkO 8 = 4193284223#32 from rfl, show sgO 8 = 0 from rfl]
  refine gb_ext32 ?_
  simp [gb_put, gb_field, gb_and, signB, gb_lit]
theorem whole_9 (w : BitVec 32) : pkF 9 (fld 9 w) (w &&& mkO 9) = w := by
  obtain ⟨e0, e1, _, e3⟩ := un_9 w
  rw [pkF_9]
  unfold fld
  simp only [e0, e1, e3, show mkO 9 = 28799#32 from rfl, show sgO 9 = 0 from rfl]
  refine gb_ext32 ?_
  simp [gb_put, gb_field, gb_and, signB, gb_lit]
theorem whole_10 (w : BitVec 32) : pkF 10 (fld 10 w) (w &&& mkO 10) = w := by
  show w &&& 4294967295#32 = w
  refine gb_ext32 ?_
  simp [gb_and, gb_lit]
theorem whole_11 (w : BitVec 32) : pkF 11 (fld 11 w) (w &&& mkO 11) = w := by
  obtain ⟨_, e1, e2, _⟩ := un_11 w
  rw [pkF_11]
  unfold fld
  simp only [e1, e2, show mkO 11 = 4261445631#32 from rfl]
  refine gb_ext32 ?_
  simp [gb_put, gb_field, gb_and, gb_lit]
theorem whole_12 (w : BitVec 32) : pkF 12 (fld 12 w) (w &&& mkO 12) = w := by
  obtain ⟨e0, e1, _, e3⟩ := un_12 w
  rw [pkF_12]
  unfold fld
  simp only [e0, e1, e3, show mkO 12 = 28799#32 from rfl, show sgO 12 = 0 from rfl]
  refine gb_ext32 ?_
  simp [gb_put, gb_field, gb_and, signB, gb_lit]
theorem whole {f : Nat} (hf : f < 13) (w : BitVec 32) : pkF f (fld f w) (w &&& mkO f) = w := by
  have c : f = 0 ∨ f = 1 ∨ f = 2 ∨ f = 3 ∨ f = 4 ∨ f = 5 ∨ f = 6 ∨ f = 7 ∨ f = 8 ∨ f = 9 ∨ f = 10 ∨ f = 11 ∨ f = 12 := by omega
  rcases c with rfl | rfl | rfl | rfl | rfl | rfl | rfl | rfl | rfl | rfl | rfl | rfl | rfl
  · exact whole_0 w
  · exact whole_1 w
  · exact whole_2 w
  · exact whole_3 w
  · exact whole_4 w
  · exact whole_5 w
  · exact whole_6 w
  · exact whole_7 w
  · exact whole_8 w
  · exact whole_9 w
  · exact whole_10 w
  · exact whole_11 w
  · exact whole_12 w
theorem vOf_unpk (n : Nat) (w : BitVec 32) : vOf (unpk n w) = fld (fmO n) w := by
  funext k
  match k with
  | 0 => exact uw_U _
  | 1 => exact uw_U _
  | 2 => exact uw_U _
  | _ + 3 => rfl
theorem pk_unpk {n : Nat} {w : BitVec 32} (h : rowB n w = true) : pk (unpk n w) = w := by
  have e : w &&& mkO (fmO n) = patO n := by simpa [rowB] using h
  unfold pk
  rw [show (unpk n w).name.toNat = n from rfl, vOf_unpk, ← e]
  exact whole (fmO_lt n) w
end Go.Proofs.YtdloaeifiohefaaDoor.Bm
