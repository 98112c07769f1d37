/- The walk of layer nor's statement NorNobody: a chip that no call made, nil or zero. -/
import Derived.Test.YtmhkcbdkimnakaaNor5
import Derived.Test.YtmhkcbdkimnakaaLaw
import Derived.OpenShut
namespace Go.Proofs.Ytmhkcbdkimnakaa
open Go.RowKit Bm

def zeroChip : List Value := [.slice none 0 0, .slice none 0 0, .int .i64 0, .bool false, .int .i64 0, .int .u32 0]
/-- nil, or a zero chip. -/
def Nobody (w : World) (v : Value) : Prop := v = .pointer none ∨ ∃ p, v = .pointer (some ⟨p, 0, none⟩) ∧ At w p 53 zeroChip

theorem nob_blocks (v : Value) (w : World) (h : Nobody w v) : Calls Try.prog 19 #[v] w fun e w' => e = .returned (.int .i64 0) ∧ w' = w := by
  rcases h with rfl | ⟨p, rfl, h⟩
  · go_enter Try.func19, Try.ntmps19
    go_wp2
    go_ret
    exact ⟨rfl, rfl⟩
  · have g := h.cell 1
    simp only [zeroChip, List.getElem?_cons_succ, List.getElem?_cons_zero] at g
    go_enter Try.func19, Try.ntmps19
    go_wp2
    go_ret
    exact ⟨rfl, rfl⟩
theorem nob_up (v : Value) (w : World) (h : Nobody w v) : Calls Try.prog 15 #[v] w fun e w' => e = .returned (.bool false) ∧ w' = w := by
  rcases h with rfl | ⟨p, rfl, h⟩
  · go_enter Try.func15, Try.ntmps15
    go_wp2
    go_ret
    exact ⟨rfl, rfl⟩
  · have g := h.cell 3
    simp only [zeroChip, List.getElem?_cons_succ, List.getElem?_cons_zero] at g
    go_enter Try.func15, Try.ntmps15
    go_wp2
    go_ret
    exact ⟨rfl, rfl⟩
theorem nob_refuse (v : Value) (n m : Int) (w : World) (h : Nobody w v) : Calls Try.prog 35 #[v, .int .i64 n, .int .i64 m] w fun e w' => e = .returned (.int .i64 1) ∧ w' = w := by
  have B := Lib.hid (nob_blocks v w h)
  rcases h with rfl | ⟨p, rfl, h⟩ <;>
  · go_enter Try.func35, Try.ntmps35
    go_wp2_with fail
    refine B.out.mono ?_
    rintro e w' ⟨rfl, rfl⟩
    go_wp2
    go_ret
    exact ⟨rfl, rfl⟩
theorem nob_read (v : Value) (n : Int) (w : World) (h : Nobody w v) : Calls Try.prog 24 #[v, .int .i64 n] w fun e w' => e = .returned (.tuple #[.int .u32 0, .int .i64 1]) ∧ w' = w := by
  have B := Lib.hid (nob_blocks v w h)
  have R := Lib.hid fun m => nob_refuse v n m w h
  rcases h with rfl | ⟨p, rfl, h⟩ <;>
  · go_enter Try.func24, Try.ntmps24
    go_wp2_with fail
    refine B.out.mono ?_
    rintro e w' ⟨rfl, rfl⟩
    go_wp2_with fail
    refine (R.out _).mono ?_
    rintro e w'' ⟨rfl, rfl⟩
    go_wp2
    go_ret2
    exact ⟨rfl, rfl⟩
theorem nob_program (v : Value) (n : Int) (x : BitVec 32) (w : World) (h : Nobody w v) : Calls Try.prog 23 #[v, .int .i64 n, .int .u32 (U x)] w fun e w' => e = .returned (.int .i64 1) ∧ w' = w := by
  have B := Lib.hid (nob_blocks v w h)
  have R := Lib.hid fun m => nob_refuse v n m w h
  rcases h with rfl | ⟨p, rfl, h⟩ <;>
  · go_enter Try.func23, Try.ntmps23
    go_wp2_with fail
    refine B.out.mono ?_
    rintro e w' ⟨rfl, rfl⟩
    go_wp2_with fail
    refine (R.out _).mono ?_
    rintro e w'' ⟨rfl, rfl⟩
    go_wp2
    go_ret
    exact ⟨rfl, rfl⟩
theorem nob_erase (v : Value) (n : Int) (w : World) (h : Nobody w v) : Calls Try.prog 20 #[v, .int .i64 n] w fun e w' => e = .returned (.int .i64 1) ∧ w' = w := by
  have B := Lib.hid (nob_blocks v w h)
  have R := Lib.hid fun m => nob_refuse v n m w h
  rcases h with rfl | ⟨p, rfl, h⟩ <;>
  · go_enter Try.func20, Try.ntmps20
    go_wp2_with fail
    refine B.out.mono ?_
    rintro e w' ⟨rfl, rfl⟩
    go_wp2_with fail
    refine (R.out _).mono ?_
    rintro e w'' ⟨rfl, rfl⟩
    go_wp2
    go_ret
    exact ⟨rfl, rfl⟩
theorem nob_wear (v : Value) (n : Int) (w : World) (h : Nobody w v) : Calls Try.prog 18 #[v, .int .i64 n] w fun e w' => e = .returned (.int .i64 0) ∧ w' = w := by
  have B := Lib.hid (nob_blocks v w h)
  rcases h with rfl | ⟨p, rfl, h⟩ <;>
  · by_cases hn : n < 0
    · go_enter Try.func18, Try.ntmps18
      go_wp2
      go_ret
      exact ⟨rfl, rfl⟩
    · have hn2 : 0 ≤ n := by omega
      go_enter Try.func18, Try.ntmps18
      go_wp2_with fail
      refine B.out.mono ?_
      rintro e w' ⟨rfl, rfl⟩
      go_wp2
      go_ret
      exact ⟨rfl, rfl⟩
theorem nob_fuse (v : Value) (n : Int) (x : BitVec 32) (w : World) (h : Nobody w v) : Calls Try.prog 21 #[v, .int .i64 n, .int .u32 (U x)] w fun e w' => e = .returned (.tuple #[]) ∧ w' = w := by
  have B := Lib.hid (nob_blocks v w h)
  rcases h with rfl | ⟨p, rfl, h⟩ <;>
  · go_enter Try.func21, Try.ntmps21
    go_wp2_with fail
    refine B.out.mono ?_
    rintro e w' ⟨rfl, rfl⟩
    go_wp2
    refine bodyPost_ret (results_none rfl _ _ _) rfl ?_
    exact ⟨rfl, rfl⟩
theorem nob_cut (v : Value) (w : World) (h : Nobody w v) : Calls Try.prog 26 #[v] w fun e w' => e = .returned (.tuple #[]) ∧ w' = w := by
  have B := Lib.hid (nob_blocks v w h)
  rcases h with rfl | ⟨p, rfl, h⟩ <;>
  · go_enter Try.func26, Try.ntmps26
    go_wp2_with fail
    refine B.out.mono ?_
    rintro e w' ⟨rfl, rfl⟩
    go_wp2
    refine bodyPost_ret (results_none rfl _ _ _) rfl ?_
    exact ⟨rfl, rfl⟩
theorem nob_on (v : Value) (w : World) (h : Nobody w v) : Calls Try.prog 22 #[v] w fun e w' => e = .returned (.tuple #[]) ∧ w' = w := by
  have B := Lib.hid (nob_blocks v w h)
  rcases h with rfl | ⟨p, rfl, h⟩ <;>
  · go_enter Try.func22, Try.ntmps22
    go_wp2_with fail
    refine B.out.mono ?_
    rintro e w' ⟨rfl, rfl⟩
    go_wp2
    refine bodyPost_ret (results_none rfl _ _ _) rfl ?_
    exact ⟨rfl, rfl⟩
theorem clone_nil (w : World) : Calls Try.prog 34 #[.slice none 0 0] w fun e w' => e = .returned (.slice none 0 0) ∧ w' = w := by
  have qe : ∀ W : World, (binOp .eql 26 (.slice none 0 0) (.slice none 0 0)).run Try.prog W = .ok (.bool true) W := fun W => Lib.run_eql_slice_nil W _ _ _ _ _ _ _ Try.underlying26
  go_enter Try.func34, Try.ntmps34
  go_wp2
  go_ret
  exact ⟨rfl, rfl⟩
theorem nob_words (v : Value) (w : World) (h : Nobody w v) : Calls Try.prog 17 #[v] w fun e w' => e = .returned (.slice none 0 0) ∧ w' = w := by
  rcases h with rfl | ⟨p, rfl, h⟩
  · go_enter Try.func17, Try.ntmps17
    go_wp2
    go_ret
    exact ⟨rfl, rfl⟩
  · have g := h.cell 0
    simp only [zeroChip, List.getElem?_cons_zero] at g
    go_enter Try.func17, Try.ntmps17
    go_wp2_with fail
    refine (clone_nil w).mono ?_
    rintro e w' ⟨rfl, rfl⟩
    go_wp2
    go_ret
    exact ⟨rfl, rfl⟩

theorem nob_new0 (w : World) : Calls Try.prog 12 #[.int .i64 0, .int .i64 1] w fun e w' => e = .returned (.pointer none) ∧ w' = w := new_no 0 1 w (by omega)
theorem nob_new65 (w : World) : Calls Try.prog 12 #[.int .i64 65, .int .i64 1] w fun e w' => e = .returned (.pointer none) ∧ w' = w := new_no 65 1 w (by omega)
theorem nob_new1 (w : World) : Calls Try.prog 12 #[.int .i64 1, .int .i64 (-1)] w fun e w' => e = .returned (.pointer none) ∧ Below w.heap.size w w' := new_neg 1 (-1) w (by omega) (by omega) (by omega)

set_option maxHeartbeats 1000000 in
theorem norNobody_walk (a0 : Int) (_b0 : (Lit.int .i64 a0).wf = true) (a1 : Int) (b1 : (Lit.int .u32 a1).wf = true) (w : World) :
    Calls Try.prog 8 #[.int .i64 a0, .int .u32 a1] w fun e w' => e = .returned (.bool true) ∧ Below w.heap.size w w' := by
  have c1 := bounds_u32 b1
  obtain ⟨x, rfl⟩ := U_of c1.1 (by omega)
  clear b1 c1
  go_enter Try.func8, Try.ntmps8
  go_wp2_with fail
  refine (alive_any w).mono ?_
  rintro e wa ⟨rfl, hBa⟩
  go_wp2
  obtain ⟨P, hP⟩ : ∃ P, P = wa.heap.size := ⟨_, rfl⟩
  have hA1 : At ((wa.alloc (.cells zeroChip.toArray 53)).alloc (.cells #[.pointer none, .pointer (some ⟨wa.heap.size, 0, none⟩)] 24)) P 53 zeroChip := by
    rw [hP]; exact (At.news wa _ _).alloc _
  have hA2 : At ((wa.alloc (.cells zeroChip.toArray 53)).alloc (.cells #[.pointer none, .pointer (some ⟨wa.heap.size, 0, none⟩)] 24)) (P + 1) 24 [.pointer none, .pointer (some ⟨P, 0, none⟩)] := by
    have := At.news (wa.alloc (.cells zeroChip.toArray 53)) 24 [.pointer none, .pointer (some ⟨P, 0, none⟩)]
    rw [World.size_alloc] at this
    rw [hP] at this ⊢
    exact this
  have hB2 : Below w.heap.size w ((wa.alloc (.cells zeroChip.toArray 53)).alloc (.cells #[.pointer none, .pointer (some ⟨wa.heap.size, 0, none⟩)] 24)) := (hBa.alloc hBa.size _).alloc (by have := hBa.size; rw [World.size_alloc]; omega) _
  rw [← hP] at hA1 hA2 hB2 ⊢
  simp only [zeroChip] at hA1 hA2 hB2
  generalize hW : ((wa.alloc (Obj.cells [Value.slice none 0 0, Value.slice none 0 0, Value.int IntKind.i64 0, Value.bool false, Value.int IntKind.i64 0, Value.int IntKind.u32 0].toArray 53)).alloc (Obj.cells #[Value.pointer none, Value.pointer (some { block := P, off := 0, spot := none })] 24)) = W1 at hA1 hA2 hB2 ⊢
  clear hW hP hBa
  go_loop [15] (fun i => ∃ j : Nat, j ≤ 2 ∧ i = .int .i64 j) (fun i => 2 - (intOf i).toNat)
  case atStart => exact ⟨0, by omega, rfl⟩
  case round =>
    obtain ⟨j, hj, rfl⟩ := hrel
    by_cases hlt : j < 2
    · obtain ⟨v, hcell, hv⟩ : ∃ v, W1.cell? ⟨P + 1, j, none⟩ = some v ∧ Nobody W1 v := by
        match j, hlt with
        | 0, _ => exact ⟨_, hA2.cell 0, .inl rfl⟩
        | 1, _ => exact ⟨_, hA2.cell 1, .inr ⟨P, rfl, hA1⟩⟩
      go_wp2_with fail
      refine (nob_fuse v a0 x _ hv).mono ?_
      rintro e w10 ⟨rfl, rfl⟩
      go_wp2_with fail
      refine (nob_on v _ hv).mono ?_
      rintro e w11 ⟨rfl, rfl⟩
      go_wp2_with fail
      refine (nob_cut v _ hv).mono ?_
      rintro e w12 ⟨rfl, rfl⟩
      go_wp2_with fail
      refine (nob_read v a0 _ hv).mono ?_
      rintro e w13 ⟨rfl, rfl⟩
      go_wp2_with fail
      refine (nob_program v a0 x _ hv).mono ?_
      rintro e w14 ⟨rfl, rfl⟩
      go_wp2_with fail
      refine (nob_erase v a0 _ hv).mono ?_
      rintro e w15 ⟨rfl, rfl⟩
      go_wp2_with fail
      refine (nob_blocks v _ hv).mono ?_
      rintro e w16 ⟨rfl, rfl⟩
      go_wp2_with fail
      refine (nob_up v _ hv).mono ?_
      rintro e w17 ⟨rfl, rfl⟩
      go_wp2_with fail
      refine (nob_wear v a0 _ hv).mono ?_
      rintro e w18 ⟨rfl, rfl⟩
      go_wp2_with fail
      refine (nob_words v _ hv).mono ?_
      rintro e w19 ⟨rfl, rfl⟩
      go_wp2
      go_round
      case rel => exact ⟨j + 1, by omega, by go_num⟩
      case measure => simp [intOf]; omega
    · obtain rfl : j = 2 := by omega
      go_wp2_with fail
      refine (nob_new0 _).mono ?_
      rintro e w10 ⟨rfl, rfl⟩
      go_wp2_with fail
      refine (nob_new65 _).mono ?_
      rintro e w11 ⟨rfl, rfl⟩
      go_wp2_with fail
      refine (nob_new1 _).mono ?_
      rintro e w12 ⟨rfl, hB3⟩
      have hB4 := hB2.trans (hB3.mono hB2.size)
      go_wp2
      go_ret
      exact ⟨rfl, hB4⟩
end Go.Proofs.Ytmhkcbdkimnakaa
