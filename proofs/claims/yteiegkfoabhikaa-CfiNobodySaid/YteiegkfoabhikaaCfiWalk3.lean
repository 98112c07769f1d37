/- The walk of layer cfi's statement CfiNobody: a flash that no call made, nil or zero. -/
import Derived.Test.YteiegkfoabhikaaCfiSt
import Derived.Test.YteiegkfoabhikaaLaw
import Derived.OpenShut
namespace Go.Proofs.Yteiegkfoabhikaa
open Go.RowKit Bm

def zeroFlash : List Value := [.pointer none, .int .i64 0, .nilFunc, .int .u32 0, .map none, .int .i64 0, .nilFunc]
def zeroChip3 : List Value := [.slice none 0 0, .slice none 0 0, .int .i64 0, .bool false, .int .i64 0, .int .u32 0]
/-- nil, or a zero flash. -/
def NoFlash (w : World) (v : Value) : Prop := v = .pointer none ∨ ∃ p, v = .pointer (some ⟨p, 0, none⟩) ∧ At w p 69 zeroFlash

theorem nof_made (v : Value) (w : World) (h : NoFlash w v) : Calls Try.prog 46 #[v] w fun e w' => e = .returned (.bool false) ∧ w' = w := by
  rcases h with rfl | ⟨p, rfl, h⟩
  · go_enter Try.func46, Try.ntmps46
    go_wp2
    go_ret
    exact ⟨rfl, rfl⟩
  · have g := h.cell 0
    simp only [zeroFlash, List.getElem?_cons_zero] at g
    go_enter Try.func46, Try.ntmps46
    go_wp2
    go_ret
    exact ⟨rfl, rfl⟩
theorem nof_refuse (v : Value) (n : Int) (w : World) (h : NoFlash w v) : Calls Try.prog 35 #[v, .int .i64 n] w fun e w' => e = .returned (.int .i64 1) ∧ w' = w := by
  have B := Lib.hid (nof_made v w h)
  rcases h with rfl | ⟨p, rfl, h⟩ <;>
  · go_enter Try.func35, Try.ntmps35
    go_wp2_with fail
    refine B.out.mono ?_
    rintro e w' ⟨rfl, rfl⟩
    go_wp2
    go_ret
    exact ⟨rfl, rfl⟩
theorem nof_read (v : Value) (n : Int) (w : World) (h : NoFlash w v) : Calls Try.prog 13 #[v, .int .i64 n] w fun e w' => e = .returned (.tuple #[.int .u32 0, .int .i64 1]) ∧ w' = w := by
  have B := Lib.hid (nof_refuse v n w h)
  rcases h with rfl | ⟨p, rfl, h⟩ <;>
  · go_enter Try.func13, Try.ntmps13
    go_wp2_with fail
    refine B.out.mono ?_
    rintro e w' ⟨rfl, rfl⟩
    go_wp2
    go_ret2
    exact ⟨rfl, rfl⟩
theorem nof_write (v : Value) (n : Int) (x : BitVec 32) (w : World) (h : NoFlash w v) : Calls Try.prog 23 #[v, .int .i64 n, .int .u32 (U x)] w fun e w' => e = .returned (.int .i64 1) ∧ w' = w := by
  have B := Lib.hid (nof_refuse v n w h)
  rcases h with rfl | ⟨p, rfl, h⟩ <;>
  · go_enter Try.func23, Try.ntmps23
    go_wp2_with fail
    refine B.out.mono ?_
    rintro e w' ⟨rfl, rfl⟩
    go_wp2
    go_ret
    exact ⟨rfl, rfl⟩
theorem nof_tick (v : Value) (n : Int) (w : World) (h : NoFlash w v) : Calls Try.prog 15 #[v, .int .i64 n] w fun e w' => e = .returned (.int .i64 1) ∧ w' = w := by
  have B := Lib.hid (nof_refuse v 0 w h)
  rcases h with rfl | ⟨p, rfl, h⟩ <;>
  · go_enter Try.func15, Try.ntmps15
    go_wp2_with fail
    refine B.out.mono ?_
    rintro e w' ⟨rfl, rfl⟩
    go_wp2
    go_ret
    exact ⟨rfl, rfl⟩
theorem nof_status (v : Value) (w : World) (h : NoFlash w v) : Calls Try.prog 25 #[v] w fun e w' => e = .returned (.int .u32 0) ∧ w' = w := by
  have B := Lib.hid (nof_made v w h)
  rcases h with rfl | ⟨p, rfl, h⟩ <;>
  · go_enter Try.func25, Try.ntmps25
    go_wp2_with fail
    refine B.out.mono ?_
    rintro e w' ⟨rfl, rfl⟩
    go_wp2
    go_ret
    exact ⟨rfl, rfl⟩
theorem nof_reset (v : Value) (w : World) (h : NoFlash w v) : Calls Try.prog 20 #[v] w fun e w' => e = .returned (.tuple #[]) ∧ w' = w := by
  have B := Lib.hid (nof_made v w h)
  rcases h with rfl | ⟨p, rfl, h⟩ <;>
  · go_enter Try.func20, Try.ntmps20
    go_wp2_with fail
    refine B.out.mono ?_
    rintro e w' ⟨rfl, rfl⟩
    go_wp2
    refine bodyPost_ret (results_none rfl _ _ _) rfl ?_
    exact ⟨rfl, rfl⟩
theorem noc_blocks_nil (w : World) : Calls Try.prog 45 #[.pointer none] w fun e w' => e = .returned (.int .i64 0) ∧ w' = w := by
  go_enter Try.func45, Try.ntmps45
  go_wp2
  go_ret
  exact ⟨rfl, rfl⟩
theorem noc_blocks_zero (p : Nat) (w : World) (h : At w p 73 zeroChip3) : Calls Try.prog 45 #[.pointer (some ⟨p, 0, none⟩)] w fun e w' => e = .returned (.int .i64 0) ∧ w' = w := by
  have g := h.cell 1
  simp only [zeroChip3, List.getElem?_cons_succ, List.getElem?_cons_zero] at g
  go_enter Try.func45, Try.ntmps45
  go_wp2
  go_ret
  exact ⟨rfl, rfl⟩
theorem noc_new (v : Value) (w : World) (h : Calls Try.prog 45 #[v] w fun e w' => e = .returned (.int .i64 0) ∧ w' = w) : Calls Try.prog 30 #[v] w fun e w' => e = .returned (.pointer none) ∧ w' = w := by
  have B := Lib.hid h
  clear h
  go_enter Try.func30, Try.ntmps30
  go_wp2_with fail
  refine B.out.mono ?_
  rintro e w' ⟨rfl, rfl⟩
  go_wp2
  go_ret
  exact ⟨rfl, rfl⟩

set_option maxRecDepth 100000 in
set_option maxHeartbeats 2000000 in
theorem cfiNobody_walk (a0 : Int) (_b0 : (Lit.int .i64 a0).wf = true) (a1 : Int) (b1 : (Lit.int .u32 a1).wf = true) (w : World) :
    Calls Try.prog 7 #[.int .i64 a0, .int .u32 a1] w fun e w' => e = .returned (.bool true) ∧ Below w.heap.size w w' := by
  have c1 := bounds_u32 b1
  obtain ⟨x, rfl⟩ := U_of c1.1 (by omega)
  clear b1 c1
  go_enter Try.func7, Try.ntmps7
  go_wp2_with fail
  refine (alive3_any w).mono ?_
  rintro e wa ⟨rfl, hBa⟩
  go_wp2
  obtain ⟨P, hP⟩ : ∃ P, P = wa.heap.size := ⟨_, rfl⟩
  have hA1 : At ((wa.alloc (.cells zeroFlash.toArray 69)).alloc (.cells #[.pointer none, .pointer (some ⟨wa.heap.size, 0, none⟩)] 25)) P 69 zeroFlash := by
    rw [hP]; exact (At.news wa _ _).alloc _
  have hA2 : At ((wa.alloc (.cells zeroFlash.toArray 69)).alloc (.cells #[.pointer none, .pointer (some ⟨wa.heap.size, 0, none⟩)] 25)) (P + 1) 25 [.pointer none, .pointer (some ⟨P, 0, none⟩)] := by
    have := At.news (wa.alloc (.cells zeroFlash.toArray 69)) 25 [.pointer none, .pointer (some ⟨P, 0, none⟩)]
    rw [World.size_alloc] at this
    rw [hP] at this ⊢
    exact this
  have hB2 : Below w.heap.size w ((wa.alloc (.cells zeroFlash.toArray 69)).alloc (.cells #[.pointer none, .pointer (some ⟨wa.heap.size, 0, none⟩)] 25)) := (hBa.alloc hBa.size _).alloc (by have := hBa.size; rw [World.size_alloc]; omega) _
  rw [← hP] at hA1 hA2 hB2 ⊢
  simp only [zeroFlash] at hA1 hA2 hB2
  generalize hW : ((wa.alloc (Obj.cells [Value.pointer none, Value.int IntKind.i64 0, Value.nilFunc, Value.int IntKind.u32 0, Value.map none, Value.int IntKind.i64 0, Value.nilFunc].toArray 69)).alloc (Obj.cells #[Value.pointer none, Value.pointer (some { block := P, off := 0, spot := none })] 25)) = W1 at hA1 hA2 hB2 ⊢
  clear hW hP hBa
  go_loop [15] (fun i => ∃ j : Nat, j ≤ 2 ∧ i = .int .i64 j) (fun i => 2 - (intOf i).toNat)
  case atStart => exact ⟨0, by omega, rfl⟩
  case round =>
    obtain ⟨j, hj, rfl⟩ := hrel
    by_cases hlt : j < 2
    · obtain ⟨v, hcell, hv⟩ : ∃ v, W1.cell? ⟨P + 1, j, none⟩ = some v ∧ NoFlash W1 v := by
        match j, hlt with
        | 0, _ => exact ⟨_, hA2.cell 0, .inl rfl⟩
        | 1, _ => exact ⟨_, hA2.cell 1, .inr ⟨P, rfl, hA1⟩⟩
      go_wp2_with fail
      refine (nof_reset v _ hv).mono ?_
      rintro e w10 ⟨rfl, rfl⟩
      go_wp2_with fail
      refine (nof_read v a0 _ hv).mono ?_
      rintro e w13 ⟨rfl, rfl⟩
      go_wp2_with fail
      refine (nof_write v a0 x _ hv).mono ?_
      rintro e w14 ⟨rfl, rfl⟩
      go_wp2_with fail
      refine (nof_tick v a0 _ hv).mono ?_
      rintro e w15 ⟨rfl, rfl⟩
      go_wp2_with fail
      refine (nof_status v _ hv).mono ?_
      rintro e w16 ⟨rfl, rfl⟩
      go_wp2
      go_round
      case rel => exact ⟨j + 1, by omega, by go_num⟩
      case measure => simp [intOf]; omega
    · obtain rfl : j = 2 := by omega
      go_wp2_with fail
      refine (noc_new _ _ (noc_blocks_nil _)).mono ?_
      rintro e w10 ⟨rfl, rfl⟩
      go_wp2_with fail
      refine (noc_new _ _ (noc_blocks_zero _ _ (At.alloc_new _ _ _ rfl rfl))).mono ?_
      rintro e w11 ⟨rfl, rfl⟩
      have hB4 := hB2.alloc (B := w.heap.size) hB2.size (.cells zeroChip3.toArray 73)
      go_wp2
      go_ret
      exact ⟨rfl, hB4⟩
end Go.Proofs.Yteiegkfoabhikaa
