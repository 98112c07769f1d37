/- The document's answers of layer decode are the program's: its numbers, its registers, the word that it puts together. -/
import Derived.Test.YtdloaeifiohefaaDoorDecB
namespace Go.Proofs.YtdloaeifiohefaaDoor.Bm
open Go Go.RowKit

/-- Bits of a word at another place. -/
def ptB (w : BitVec 32) (a n t : Int) : BitVec 32 := putB 0#32 t n (fieldB w a n)
def rImm (f : Nat) (w : BitVec 32) : BitVec 32 := match f with
  | 0 => ptB w 12 20 12
  | 1 => signB (ptB w 31 1 20 + ptB w 12 8 12 + ptB w 20 1 11 + ptB w 21 10 1) 21
  | 2 => signB (ptB w 20 12 0) 12
  | 3 => signB (ptB w 31 1 12 + ptB w 7 1 11 + ptB w 25 6 5 + ptB w 8 4 1) 13
  | 4 => signB (ptB w 25 7 5 + ptB w 7 5 0) 12
  | 6 => ptB w 20 5 0
  | 7 | 8 => ptB w 25 2 0
  | 9 | 12 => ptB w 20 12 0
  | _ => 0#32
def rNum (f : Nat) (n : BitVec 32) : BitVec 32 := match f with
  | 0 => ptB n 12 20 12
  | 1 => ptB n 20 1 31 + ptB n 12 8 12 + ptB n 11 1 20 + ptB n 1 10 21
  | 3 => ptB n 12 1 31 + ptB n 11 1 7 + ptB n 5 6 25 + ptB n 1 4 8
  | 4 => ptB n 5 7 25 + ptB n 0 5 7
  | 6 => ptB n 0 5 20
  | 7 | 8 => ptB n 0 2 25
  | 2 | 9 | 12 => ptB n 0 12 20
  | _ => 0#32
def rdB (f : Nat) : Bool := [true, true, true, false, false, true, true, true, true, true, false, false, true].getD f false
def r1B (f : Nat) : Bool := [false, false, true, true, true, true, true, true, true, true, false, true, true].getD f false
def r2B (f : Nat) : Bool := [false, false, false, true, true, true, false, true, false, false, false, true, false].getD f false
def rUnpk (n : Nat) (w : BitVec 32) : OpM := ⟨n, if rdB (fmO n) then U (fieldB w 7 5) else 0, if r1B (fmO n) then U (fieldB w 15 5) else 0, if r2B (fmO n) then U (fieldB w 20 5) else 0, rImm (fmO n) w⟩
def addIf (b : Bool) (x y : BitVec 32) : BitVec 32 := if b then x + y else x
def rCand (f : Nat) (p a b c i : BitVec 32) : BitVec 32 := addIf (r2B f) (addIf (r1B f) (addIf (rdB f) (p + rNum f i) (ptB a 0 5 7)) (ptB b 0 5 15)) (ptB c 0 5 20)
theorem add_or {x y : BitVec 32} (h : x &&& y = 0#32) : x + y = x ||| y := BitVec.add_eq_or_of_and_eq_zero _ _ h
theorem gb_pt (w : BitVec 32) (a n t j : Int) : gb (ptB w a n t) j = if 0 ≤ j ∧ j < 32 ∧ 0 ≤ j - t ∧ j - t < 32 ∧ j - t < n then gb (fieldB w a n) (j - t) else false := by
  unfold ptB; rw [gb_put]; split
  · rfl
  · exact gb_zero j
theorem put_low (x : BitVec 32) (a n : Int) : putB 0#32 0 n (fieldB x a n) = fieldB x a n := by
  apply gb_ext; intro i h0 h1
  rw [gb_put, show i - 0 = i by omega]
  by_cases h : i < n
  · rw [if_pos (by omega)]
  · rw [if_neg (by omega), gb_zero, gb_field]
    have : ¬ (0 ≤ i ∧ i < 32 ∧ i < n) := fun k => h k.2.2
    simp only [this, decide_false, Bool.false_and]
theorem rimm_0 (w : BitVec 32) : rImm 0 w = signB (unF 0 w 3) (sgO 0) := by
  rw [(un_0 w).2.2.2]
  show ptB w 12 20 12 = signB _ 0
  refine gb_ext32 ?_
  simp [gb_put, gb_field, signB, gb_pt, gb_zero]
theorem rimm_1 (w : BitVec 32) : rImm 1 w = signB (unF 1 w 3) (sgO 1) := by
  rw [(un_1 w).2.2.2]
  show signB (ptB w 31 1 20 + ptB w 12 8 12 + ptB w 20 1 11 + ptB w 21 10 1) 21 = _
  rw [add_or (x := (ptB w 31 1 20)) (y := (ptB w 12 8 12)) (by refine gb_ext32 ?_; simp [gb_and, gb_pt, gb_lit])]
  rw [add_or (x := ((ptB w 31 1 20) ||| (ptB w 12 8 12))) (y := (ptB w 20 1 11)) (by refine gb_ext32 ?_; simp [gb_and, gb_pt, gb_lit, gb_or])]
  rw [add_or (x := (((ptB w 31 1 20) ||| (ptB w 12 8 12)) ||| (ptB w 20 1 11))) (y := (ptB w 21 10 1)) (by refine gb_ext32 ?_; simp [gb_and, gb_pt, gb_lit, gb_or])]
  simp only [show sgO 1 = 21 from rfl]
  refine gb_ext32 ?_
  simp [gb_put, gb_field, gb_sign, gb_pt, gb_zero, gb_or]
theorem rimm_2 (w : BitVec 32) : rImm 2 w = signB (unF 2 w 3) (sgO 2) := by
  rw [(un_2 w).2.2.2]
  show signB (ptB w 20 12 0) 12 = _
  simp only [show sgO 2 = 12 from rfl]
  refine gb_ext32 ?_
  simp [gb_put, gb_field, gb_sign, gb_pt]
theorem rimm_3 (w : BitVec 32) : rImm 3 w = signB (unF 3 w 3) (sgO 3) := by
  rw [(un_3 w).2.2.2]
  show signB (ptB w 31 1 12 + ptB w 7 1 11 + ptB w 25 6 5 + ptB w 8 4 1) 13 = _
  rw [add_or (x := (ptB w 31 1 12)) (y := (ptB w 7 1 11)) (by refine gb_ext32 ?_; simp [gb_and, gb_pt, gb_lit])]
  rw [add_or (x := ((ptB w 31 1 12) ||| (ptB w 7 1 11))) (y := (ptB w 25 6 5)) (by refine gb_ext32 ?_; simp [gb_and, gb_pt, gb_lit, gb_or])]
  rw [add_or (x := (((ptB w 31 1 12) ||| (ptB w 7 1 11)) ||| (ptB w 25 6 5))) (y := (ptB w 8 4 1)) (by refine gb_ext32 ?_; simp [gb_and, gb_pt, gb_lit, gb_or])]
  simp only [show sgO 3 = 13 from rfl]
  refine gb_ext32 ?_
  simp [gb_put, gb_field, gb_sign, gb_pt, gb_zero, gb_or]
theorem rimm_4 (w : BitVec 32) : rImm 4 w = signB (unF 4 w 3) (sgO 4) := by
  rw [(un_4 w).2.2.2]
  show signB (ptB w 25 7 5 + ptB w 7 5 0) 12 = _
  rw [add_or (x := (ptB w 25 7 5)) (y := (ptB w 7 5 0)) (by refine gb_ext32 ?_; simp [gb_and, gb_pt, gb_lit])]
  simp only [show sgO 4 = 12 from rfl]
  refine gb_ext32 ?_
  simp [gb_put, gb_field, gb_sign, gb_pt, gb_or]
theorem rimm_5 (w : BitVec 32) : rImm 5 w = signB (unF 5 w 3) (sgO 5) := by
  rw [(un_5 w).2.2.2]
  rfl
theorem rimm_6 (w : BitVec 32) : rImm 6 w = signB (unF 6 w 3) (sgO 6) := by
  rw [(un_6 w).2.2.2]
  show ptB w 20 5 0 = signB _ 0
  refine gb_ext32 ?_
  simp [gb_put, gb_field, signB, gb_pt, gb_zero]
theorem rimm_7 (w : BitVec 32) : rImm 7 w = signB (unF 7 w 3) (sgO 7) := by
  rw [(un_7 w).2.2.2]
  show ptB w 25 2 0 = signB _ 0
  refine gb_ext32 ?_
  simp [gb_put, gb_field, signB, gb_pt, gb_zero]
theorem rimm_8 (w : BitVec 32) : rImm 8 w = signB (unF 8 w 3) (sgO 8) := by
  rw [(un_8 w).2.2.2]
  show ptB w 25 2 0 = signB _ 0
  refine gb_ext32 ?_
  simp [gb_put, gb_field, signB, gb_pt, gb_zero]
theorem rimm_9 (w : BitVec 32) : rImm 9 w = signB (unF 9 w 3) (sgO 9) := by
  rw [(un_9 w).2.2.2]
  show ptB w 20 12 0 = signB _ 0
  refine gb_ext32 ?_
  simp [gb_put, gb_field, signB, gb_pt, gb_zero]
theorem rimm_10 (w : BitVec 32) : rImm 10 w = signB (unF 10 w 3) (sgO 10) := by
  rw [(un_10 w).2.2.2]
  rfl
theorem rimm_11 (w : BitVec 32) : rImm 11 w = signB (unF 11 w 3) (sgO 11) := by
  rw [(un_11 w).2.2.2]
  rfl
theorem rimm_12 (w : BitVec 32) : rImm 12 w = signB (unF 12 w 3) (sgO 12) := by
  rw [(un_12 w).2.2.2]
  show ptB w 20 12 0 = signB _ 0
  refine gb_ext32 ?_
  simp [gb_put, gb_field, signB, gb_pt, gb_zero]
theorem rimm_is {f : Nat} (hf : f < 13) (w : BitVec 32) : rImm f w = signB (unF f w 3) (sgO f) := by
  have c : f = 0 ∨ f = 1 ∨ f = 2 ∨ f = 3 ∨ f = 4 ∨ f = 5 ∨ f = 6 ∨ f = 7 ∨ f = 8 ∨ f = 9 ∨ f = 10 ∨ f = 11 ∨ f = 12 := by omega
  rcases c with rfl | rfl | rfl | rfl | rfl | rfl | rfl | rfl | rfl | rfl | rfl | rfl | rfl
  · exact rimm_0 w
  · exact rimm_1 w
  · exact rimm_2 w
  · exact rimm_3 w
  · exact rimm_4 w
  · exact rimm_5 w
  · exact rimm_6 w
  · exact rimm_7 w
  · exact rimm_8 w
  · exact rimm_9 w
  · exact rimm_10 w
  · exact rimm_11 w
  · exact rimm_12 w
theorem regs_is {f : Nat} (hf : f < 13) (w : BitVec 32) : unF f w 0 = (if rdB f then fieldB w 7 5 else 0#32) ∧ unF f w 1 = (if r1B f then fieldB w 15 5 else 0#32) ∧ unF f w 2 = (if r2B f then fieldB w 20 5 else 0#32) := by
  have c : f = 0 ∨ f = 1 ∨ f = 2 ∨ f = 3 ∨ f = 4 ∨ f = 5 ∨ f = 6 ∨ f = 7 ∨ f = 8 ∨ f = 9 ∨ f = 10 ∨ f = 11 ∨ f = 12 := by omega
  rcases c with rfl | rfl | rfl | rfl | rfl | rfl | rfl | rfl | rfl | rfl | rfl | rfl | rfl
  · exact ⟨put_low _ _ _, rfl, rfl⟩
  · exact ⟨put_low _ _ _, rfl, rfl⟩
  · exact ⟨put_low _ _ _, put_low _ _ _, rfl⟩
  · exact ⟨rfl, put_low _ _ _, put_low _ _ _⟩
  · exact ⟨rfl, put_low _ _ _, put_low _ _ _⟩
  · exact ⟨put_low _ _ _, put_low _ _ _, put_low _ _ _⟩
  · exact ⟨put_low _ _ _, put_low _ _ _, rfl⟩
  · exact ⟨put_low _ _ _, put_low _ _ _, put_low _ _ _⟩
  · exact ⟨put_low _ _ _, put_low _ _ _, rfl⟩
  · exact ⟨put_low _ _ _, put_low _ _ _, rfl⟩
  · exact ⟨rfl, rfl, rfl⟩
  · exact ⟨rfl, put_low _ _ _, put_low _ _ _⟩
  · exact ⟨put_low _ _ _, put_low _ _ _, rfl⟩
theorem U_if (b : Bool) (x : BitVec 32) : U (if b then x else 0#32) = if b then U x else 0 := by cases b <;> rfl
theorem runpk_is (n : Nat) (w : BitVec 32) : rUnpk n w = unpk n w := by
  obtain ⟨e0, e1, e2⟩ := regs_is (fmO_lt n) w
  unfold rUnpk unpk
  rw [e0, e1, e2, U_if, U_if, U_if, rimm_is (fmO_lt n)]
theorem cand_0 (w : BitVec 32) : rCand 0 (w &&& mkO 0) (fld 0 w 0) (fld 0 w 1) (fld 0 w 2) (fld 0 w 3) = w := by
  obtain ⟨e0, _, _, e3⟩ := un_0 w
  show ((w &&& 127#32) + (ptB (fld 0 w 3) 12 20 12)) + ptB (fld 0 w 0) 0 5 7 = w
  rw [add_or (x := (w &&& 127#32)) (y := (ptB (fld 0 w 3) 12 20 12)) (by refine gb_ext32 ?_; simp [gb_and, gb_pt, gb_field, gb_lit])]
  rw [add_or (x := ((w &&& 127#32) ||| (ptB (fld 0 w 3) 12 20 12))) (y := (ptB (fld 0 w 0) 0 5 7)) (by refine gb_ext32 ?_; simp [gb_or, gb_and, gb_pt, gb_field, gb_lit])]
  unfold fld
  simp only [e0, e3, show sgO 0 = 0 from rfl]
  refine gb_ext32 ?_
  simp [gb_put, gb_field, gb_and, gb_or, gb_pt, signB, gb_lit]
theorem cand_1 (w : BitVec 32) : rCand 1 (w &&& mkO 1) (fld 1 w 0) (fld 1 w 1) (fld 1 w 2) (fld 1 w 3) = w := by
  obtain ⟨e0, _, _, e3⟩ := un_1 w
  show ((w &&& 127#32) + (ptB (fld 1 w 3) 20 1 31 + ptB (fld 1 w 3) 12 8 12 + ptB (fld 1 w 3) 11 1 20 + ptB (fld 1 w 3) 1 10 21)) + ptB (fld 1 w 0) 0 5 7 = w
  rw [add_or (x := (ptB (fld 1 w 3) 20 1 31)) (y := (ptB (fld 1 w 3) 12 8 12)) (by refine gb_ext32 ?_; simp [gb_and, gb_pt, gb_field, gb_lit])]
  rw [add_or (x := ((ptB (fld 1 w 3) 20 1 31) ||| (ptB (fld 1 w 3) 12 8 12))) (y := (ptB (fld 1 w 3) 11 1 20)) (by refine gb_ext32 ?_; simp [gb_or, gb_and, gb_pt, gb_field, gb_lit])]
  rw [add_or (x := (((ptB (fld 1 w 3) 20 1 31) ||| (ptB (fld 1 w 3) 12 8 12)) ||| (ptB (fld 1 w 3) 11 1 20))) (y := (ptB (fld 1 w 3) 1 10 21)) (by refine gb_ext32 ?_; simp [gb_or, gb_and, gb_pt, gb_field, gb_lit])]
  rw [add_or (x := (w &&& 127#32)) (y := ((((ptB (fld 1 w 3) 20 1 31) ||| (ptB (fld 1 w 3) 12 8 12)) ||| (ptB (fld 1 w 3) 11 1 20)) ||| (ptB (fld 1 w 3) 1 10 21))) (by refine gb_ext32 ?_; simp [gb_or, gb_and, gb_pt, gb_field, gb_lit])]
  rw [add_or (x := ((w &&& 127#32) ||| ((((ptB (fld 1 w 3) 20 1 31) ||| (ptB (fld 1 w 3) 12 8 12)) ||| (ptB (fld 1 w 3) 11 1 20)) ||| (ptB (fld 1 w 3) 1 10 21)))) (y := (ptB (fld 1 w 0) 0 5 7)) (by refine gb_ext32 ?_; simp [gb_or, gb_and, gb_pt, gb_field, gb_lit])]
  unfold fld
  simp only [e0, e3, show sgO 1 = 21 from rfl]
  refine gb_ext32 ?_
  simp [gb_put, gb_field, gb_and, gb_or, gb_pt, gb_sign, gb_lit]
theorem cand_2 (w : BitVec 32) : rCand 2 (w &&& mkO 2) (fld 2 w 0) (fld 2 w 1) (fld 2 w 2) (fld 2 w 3) = w := by
  obtain ⟨e0, e1, _, e3⟩ := un_2 w
  show (((w &&& 28799#32) + (ptB (fld 2 w 3) 0 12 20)) + ptB (fld 2 w 0) 0 5 7) + ptB (fld 2 w 1) 0 5 15 = w
  rw [add_or (x := (w &&& 28799#32)) (y := (ptB (fld 2 w 3) 0 12 20)) (by refine gb_ext32 ?_; simp [gb_and, gb_pt, gb_field, gb_lit])]
  rw [add_or (x := ((w &&& 28799#32) ||| (ptB (fld 2 w 3) 0 12 20))) (y := (ptB (fld 2 w 0) 0 5 7)) (by refine gb_ext32 ?_; simp [gb_or, gb_and, gb_pt, gb_field, gb_lit])]
  rw [add_or (x := (((w &&& 28799#32) ||| (ptB (fld 2 w 3) 0 12 20)) ||| (ptB (fld 2 w 0) 0 5 7))) (y := (ptB (fld 2 w 1) 0 5 15)) (by refine gb_ext32 ?_; simp [gb_or, gb_and, gb_pt, gb_field, gb_lit])]
  unfold fld
  simp only [e0, e1, e3, show sgO 2 = 12 from rfl]
  refine gb_ext32 ?_
  simp [gb_put, gb_field, gb_and, gb_or, gb_pt, gb_sign, gb_lit]
theorem cand_3 (w : BitVec 32) : rCand 3 (w &&& mkO 3) (fld 3 w 0) (fld 3 w 1) (fld 3 w 2) (fld 3 w 3) = w := by
  obtain ⟨_, e1, e2, e3⟩ := un_3 w
  show (((w &&& 28799#32) + (ptB (fld 3 w 3) 12 1 31 + ptB (fld 3 w 3) 11 1 7 + ptB (fld 3 w 3) 5 6 25 + ptB (fld 3 w 3) 1 4 8)) + ptB (fld 3 w 1) 0 5 15) + ptB (fld 3 w 2) 0 5 20 = w
  rw [add_or (x := (ptB (fld 3 w 3) 12 1 31)) (y := (ptB (fld 3 w 3) 11 1 7)) (by refine gb_ext32 ?_; simp [gb_and, gb_pt, gb_field, gb_lit])]
  rw [add_or (x := ((ptB (fld 3 w 3) 12 1 31) ||| (ptB (fld 3 w 3) 11 1 7))) (y := (ptB (fld 3 w 3) 5 6 25)) (by refine gb_ext32 ?_; simp [gb_or, gb_and, gb_pt, gb_field, gb_lit])]
  rw [add_or (x := (((ptB (fld 3 w 3) 12 1 31) ||| (ptB (fld 3 w 3) 11 1 7)) ||| (ptB (fld 3 w 3) 5 6 25))) (y := (ptB (fld 3 w 3) 1 4 8)) (by refine gb_ext32 ?_; simp [gb_or, gb_and, gb_pt, gb_field, gb_lit])]
  rw [add_or (x := (w &&& 28799#32)) (y := ((((ptB (fld 3 w 3) 12 1 31) ||| (ptB (fld 3 w 3) 11 1 7)) ||| (ptB (fld 3 w 3) 5 6 25)) ||| (ptB (fld 3 w 3) 1 4 8))) (by refine gb_ext32 ?_; simp [gb_or, gb_and, gb_pt, gb_field, gb_lit])]
  rw [add_or (x := ((w &&& 28799#32) ||| ((((ptB (fld 3 w 3) 12 1 31) ||| (ptB (fld 3 w 3) 11 1 7)) ||| (ptB (fld 3 w 3) 5 6 25)) ||| (ptB (fld 3 w 3) 1 4 8)))) (y := (ptB (fld 3 w 1) 0 5 15)) (by refine gb_ext32 ?_; simp [gb_or, gb_and, gb_pt, gb_field, gb_lit])]
  rw [add_or (x := (((w &&& 28799#32) ||| ((((ptB (fld 3 w 3) 12 1 31) ||| (ptB (fld 3 w 3) 11 1 7)) ||| (ptB (fld 3 w 3) 5 6 25)) ||| (ptB (fld 3 w 3) 1 4 8))) ||| (ptB (fld 3 w 1) 0 5 15))) (y := (ptB (fld 3 w 2) 0 5 20)) (by refine gb_ext32 ?_; simp [gb_or, gb_and, gb_pt, gb_field, gb_lit])]
  unfold fld
  simp only [e1, e2, e3, show sgO 3 = 13 from rfl]
  refine gb_ext32 ?_
  simp [gb_put, gb_field, gb_and, gb_or, gb_pt, gb_sign, gb_lit]
theorem cand_4 (w : BitVec 32) : rCand 4 (w &&& mkO 4) (fld 4 w 0) (fld 4 w 1) (fld 4 w 2) (fld 4 w 3) = w := by
  obtain ⟨_, e1, e2, e3⟩ := un_4 w
  show (((w &&& 28799#32) + (ptB (fld 4 w 3) 5 7 25 + ptB (fld 4 w 3) 0 5 7)) + ptB (fld 4 w 1) 0 5 15) + ptB (fld 4 w 2) 0 5 20 = w
  rw [add_or (x := (ptB (fld 4 w 3) 5 7 25)) (y := (ptB (fld 4 w 3) 0 5 7)) (by refine gb_ext32 ?_; simp [gb_and, gb_pt, gb_field, gb_lit])]
  rw [add_or (x := (w &&& 28799#32)) (y := ((ptB (fld 4 w 3) 5 7 25) ||| (ptB (fld 4 w 3) 0 5 7))) (by refine gb_ext32 ?_; simp [gb_or, gb_and, gb_pt, gb_field, gb_lit])]
  rw [add_or (x := ((w &&& 28799#32) ||| ((ptB (fld 4 w 3) 5 7 25) ||| (ptB (fld 4 w 3) 0 5 7)))) (y := (ptB (fld 4 w 1) 0 5 15)) (by refine gb_ext32 ?_; simp [gb_or, gb_and, gb_pt, gb_field, gb_lit])]
  rw [add_or (x := (((w &&& 28799#32) ||| ((ptB (fld 4 w 3) 5 7 25) ||| (ptB (fld 4 w 3) 0 5 7))) ||| (ptB (fld 4 w 1) 0 5 15))) (y := (ptB (fld 4 w 2) 0 5 20)) (by refine gb_ext32 ?_; simp [gb_or, gb_and, gb_pt, gb_field, gb_lit])]
  unfold fld
  simp only [e1, e2, e3, show sgO 4 = 12 from rfl]
  refine gb_ext32 ?_
  simp [gb_put, gb_field, gb_and, gb_or, gb_pt, gb_sign, gb_lit]
theorem cand_5 (w : BitVec 32) : rCand 5 (w &&& mkO 5) (fld 5 w 0) (fld 5 w 1) (fld 5 w 2) (fld 5 w 3) = w := by
  obtain ⟨e0, e1, e2, _⟩ := un_5 w
  show ((((w &&& 4261441663#32) + (0#32)) + ptB (fld 5 w 0) 0 5 7) + ptB (fld 5 w 1) 0 5 15) + ptB (fld 5 w 2) 0 5 20 = w
  rw [BitVec.add_zero]
  rw [add_or (x := (w &&& 4261441663#32)) (y := (ptB (fld 5 w 0) 0 5 7)) (by refine gb_ext32 ?_; simp [gb_and, gb_pt, gb_field, gb_lit])]
  rw [add_or (x := ((w &&& 4261441663#32) ||| (ptB (fld 5 w 0) 0 5 7))) (y := (ptB (fld 5 w 1) 0 5 15)) (by refine gb_ext32 ?_; simp [gb_or, gb_and, gb_pt, gb_field, gb_lit])]
  rw [add_or (x := (((w &&& 4261441663#32) ||| (ptB (fld 5 w 0) 0 5 7)) ||| (ptB (fld 5 w 1) 0 5 15))) (y := (ptB (fld 5 w 2) 0 5 20)) (by refine gb_ext32 ?_; simp [gb_or, gb_and, gb_pt, gb_field, gb_lit])]
  unfold fld
  simp only [e0, e1, e2]
  refine gb_ext32 ?_
  simp [gb_put, gb_field, gb_and, gb_or, gb_pt, gb_lit]
theorem cand_6 (w : BitVec 32) : rCand 6 (w &&& mkO 6) (fld 6 w 0) (fld 6 w 1) (fld 6 w 2) (fld 6 w 3) = w := by
  obtain ⟨e0, e1, _, e3⟩ := un_6 w
  show (((w &&& 4261441663#32) + (ptB (fld 6 w 3) 0 5 20)) + ptB (fld 6 w 0) 0 5 7) + ptB (fld 6 w 1) 0 5 15 = w
  rw [add_or (x := (w &&& 4261441663#32)) (y := (ptB (fld 6 w 3) 0 5 20)) (by refine gb_ext32 ?_; simp [gb_and, gb_pt, gb_field, gb_lit])]
  rw [add_or (x := ((w &&& 4261441663#32) ||| (ptB (fld 6 w 3) 0 5 20))) (y := (ptB (fld 6 w 0) 0 5 7)) (by refine gb_ext32 ?_; simp [gb_or, gb_and, gb_pt, gb_field, gb_lit])]
  rw [add_or (x := (((w &&& 4261441663#32) ||| (ptB (fld 6 w 3) 0 5 20)) ||| (ptB (fld 6 w 0) 0 5 7))) (y := (ptB (fld 6 w 1) 0 5 15)) (by refine gb_ext32 ?_; simp [gb_or, gb_and, gb_pt, gb_field, gb_lit])]
  unfold fld
  simp only [e0, e1, e3, show sgO 6 = 0 from rfl]
  refine gb_ext32 ?_
  simp [gb_put, gb_field, gb_and, gb_or, gb_pt, signB, gb_lit]
theorem cand_7 (w : BitVec 32) : rCand 7 (w &&& mkO 7) (fld 7 w 0) (fld 7 w 1) (fld 7 w 2) (fld 7 w 3) = w := by
  obtain ⟨e0, e1, e2, e3⟩ := un_7 w
  show ((((w &&& 4160778367#32) + (ptB (fld 7 w 3) 0 2 25)) + ptB (fld 7 w 0) 0 5 7) + ptB (fld 7 w 1) 0 5 15) + ptB (fld 7 w 2) 0 5 20 = w
  rw [add_or (x := (w &&& 4160778367#32)) (y := (ptB (fld 7 w 3) 0 2 25)) (by refine gb_ext32 ?_; simp [gb_and, gb_pt, gb_field, gb_lit])]
  rw [add_or (x := ((w &&& 4160778367#32) ||| (ptB (fld 7 w 3) 0 2 25))) (y := (ptB (fld 7 w 0) 0 5 7)) (by refine gb_ext32 ?_; simp [gb_or, gb_and, gb_pt, gb_field, gb_lit])]
  rw [add_or (x := (((w &&& 4160778367#32) ||| (ptB (fld 7 w 3) 0 2 25)) ||| (ptB (fld 7 w 0) 0 5 7))) (y := (ptB (fld 7 w 1) 0 5 15)) (by refine gb_ext32 ?_; simp [gb_or, gb_and, gb_pt, gb_field, gb_lit])]
  rw [add_or (x := ((((w &&& 4160778367#32) ||| (ptB (fld 7 w 3) 0 2 25)) ||| (ptB (fld 7 w 0) 0 5 7)) ||| (ptB (fld 7 w 1) 0 5 15))) (y := (ptB (fld 7 w 2) 0 5 20)) (by refine gb_ext32 ?_; simp [gb_or, gb_and, gb_pt, gb_field, gb_lit])]
  unfold fld
  simp only [e0, e1, e2, e3, show sgO 7 = 0 from rfl]
  refine gb_ext32 ?_
  simp [gb_put, gb_field, gb_and, gb_or, gb_pt, signB, gb_lit]
theorem cand_8 (w : BitVec 32) : rCand 8 (w &&& mkO 8) (fld 8 w 0) (fld 8 w 1) (fld 8 w 2) (fld 8 w 3) = w := by
  obtain ⟨e0, e1, _, e3⟩ := un_8 w
  show (((w &&& 4193284223#32) + (ptB (fld 8 w 3) 0 2 25)) + ptB (fld 8 w 0) 0 5 7) + ptB (fld 8 w 1) 0 5 15 = w
  rw [add_or (x := (w &&& 4193284223#32)) (y := (ptB (fld 8 w 3) 0 2 25)) (by refine gb_ext32 ?_; simp [gb_and, gb_pt, gb_field, gb_lit])]
  rw [add_or (x := ((w &&& 4193284223#32) ||| (ptB (fld 8 w 3) 0 2 25))) (y := (ptB (fld 8 w 0) 0 5 7)) (by refine gb_ext32 ?_; simp [gb_or, gb_and, gb_pt, gb_field, gb_lit])]
  rw [add_or (x := (((w &&& 4193284223#32) ||| (ptB (fld 8 w 3) 0 2 25)) ||| (ptB (fld 8 w 0) 0 5 7))) (y := (ptB (fld 8 w 1) 0 5 15)) (by refine gb_ext32 ?_; simp [gb_or, gb_and, gb_pt, gb_field, gb_lit])]
  unfold fld
  simp only [e0, e1, e3, show sgO 8 = 0 from rfl]
  refine gb_ext32 ?_
  simp [gb_put, gb_field, gb_and, gb_or, gb_pt, signB, gb_lit]
theorem cand_9 (w : BitVec 32) : rCand 9 (w &&& mkO 9) (fld 9 w 0) (fld 9 w 1) (fld 9 w 2) (fld 9 w 3) = w := by
  obtain ⟨e0, e1, _, e3⟩ := un_9 w
  show (((w &&& 28799#32) + (ptB (fld 9 w 3) 0 12 20)) + ptB (fld 9 w 0) 0 5 7) + ptB (fld 9 w 1) 0 5 15 = w
  rw [add_or (x := (w &&& 28799#32)) (y := (ptB (fld 9 w 3) 0 12 20)) (by refine gb_ext32 ?_; simp [gb_and, gb_pt, gb_field, gb_lit])]
  rw [add_or (x := ((w &&& 28799#32) ||| (ptB (fld 9 w 3) 0 12 20))) (y := (ptB (fld 9 w 0) 0 5 7)) (by refine gb_ext32 ?_; simp [gb_or, gb_and, gb_pt, gb_field, gb_lit])]
  rw [add_or (x := (((w &&& 28799#32) ||| (ptB (fld 9 w 3) 0 12 20)) ||| (ptB (fld 9 w 0) 0 5 7))) (y := (ptB (fld 9 w 1) 0 5 15)) (by refine gb_ext32 ?_; simp [gb_or, gb_and, gb_pt, gb_field, gb_lit])]
  unfold fld
  simp only [e0, e1, e3, show sgO 9 = 0 from rfl]
  refine gb_ext32 ?_
  simp [gb_put, gb_field, gb_and, gb_or, gb_pt, signB, gb_lit]
theorem cand_10 (w : BitVec 32) : rCand 10 (w &&& mkO 10) (fld 10 w 0) (fld 10 w 1) (fld 10 w 2) (fld 10 w 3) = w := by
  show (w &&& 4294967295#32) + 0#32 = w
  rw [BitVec.add_zero]
  refine gb_ext32 ?_
  simp [gb_and, gb_lit]
theorem cand_11 (w : BitVec 32) : rCand 11 (w &&& mkO 11) (fld 11 w 0) (fld 11 w 1) (fld 11 w 2) (fld 11 w 3) = w := by
  obtain ⟨_, e1, e2, _⟩ := un_11 w
  show (((w &&& 4261445631#32) + (0#32)) + ptB (fld 11 w 1) 0 5 15) + ptB (fld 11 w 2) 0 5 20 = w
  rw [BitVec.add_zero]
  rw [add_or (x := (w &&& 4261445631#32)) (y := (ptB (fld 11 w 1) 0 5 15)) (by refine gb_ext32 ?_; simp [gb_and, gb_pt, gb_field, gb_lit])]
  rw [add_or (x := ((w &&& 4261445631#32) ||| (ptB (fld 11 w 1) 0 5 15))) (y := (ptB (fld 11 w 2) 0 5 20)) (by refine gb_ext32 ?_; simp [gb_or, gb_and, gb_pt, gb_field, gb_lit])]
  unfold fld
  simp only [e1, e2]
  refine gb_ext32 ?_
  simp [gb_put, gb_field, gb_and, gb_or, gb_pt, gb_lit]
theorem cand_12 (w : BitVec 32) : rCand 12 (w &&& mkO 12) (fld 12 w 0) (fld 12 w 1) (fld 12 w 2) (fld 12 w 3) = w := by
  obtain ⟨e0, e1, _, e3⟩ := un_12 w
  show (((w &&& 28799#32) + (ptB (fld 12 w 3) 0 12 20)) + ptB (fld 12 w 0) 0 5 7) + ptB (fld 12 w 1) 0 5 15 = w
  rw [add_or (x := (w &&& 28799#32)) (y := (ptB (fld 12 w 3) 0 12 20)) (by refine gb_ext32 ?_; simp [gb_and, gb_pt, gb_field, gb_lit])]
  rw [add_or (x := ((w &&& 28799#32) ||| (ptB (fld 12 w 3) 0 12 20))) (y := (ptB (fld 12 w 0) 0 5 7)) (by refine gb_ext32 ?_; simp [gb_or, gb_and, gb_pt, gb_field, gb_lit])]
  rw [add_or (x := (((w &&& 28799#32) ||| (ptB (fld 12 w 3) 0 12 20)) ||| (ptB (fld 12 w 0) 0 5 7))) (y := (ptB (fld 12 w 1) 0 5 15)) (by refine gb_ext32 ?_; simp [gb_or, gb_and, gb_pt, gb_field, gb_lit])]
  unfold fld
  simp only [e0, e1, e3, show sgO 12 = 0 from rfl]
  refine gb_ext32 ?_
  simp [gb_put, gb_field, gb_and, gb_or, gb_pt, signB, gb_lit]
theorem cand_is {f : Nat} (hf : f < 13) (w : BitVec 32) : rCand f (w &&& mkO f) (fld f w 0) (fld f w 1) (fld f w 2) (fld f w 3) = w := by
  have c : f = 0 ∨ f = 1 ∨ f = 2 ∨ f = 3 ∨ f = 4 ∨ f = 5 ∨ f = 6 ∨ f = 7 ∨ f = 8 ∨ f = 9 ∨ f = 10 ∨ f = 11 ∨ f = 12 := by omega
  rcases c with rfl | rfl | rfl | rfl | rfl | rfl | rfl | rfl | rfl | rfl | rfl | rfl | rfl
  · exact cand_0 w
  · exact cand_1 w
  · exact cand_2 w
  · exact cand_3 w
  · exact cand_4 w
  · exact cand_5 w
  · exact cand_6 w
  · exact cand_7 w
  · exact cand_8 w
  · exact cand_9 w
  · exact cand_10 w
  · exact cand_11 w
  · exact cand_12 w
end Go.Proofs.YtdloaeifiohefaaDoor.Bm
