/- The walk of layer sector's statement SectorNobody: a device that no call made answers ErrNil. -/
import Derived.Test.YtpkkejdjhnmjiaaPd6
import Derived.Test.YtpkkejdjhnmjiaaLaw
import Derived.OpenShut
namespace Go.Proofs.Ytpkkejdjhnmjiaa
open Go.RowKit Bm

/-- A nil device, or one without a disk. -/
def NoPd (v : Value) (w : World) : Prop := v = .pointer none ∨ ∃ q, v = .pointer (some ⟨q, 0, none⟩) ∧ w.cell? ⟨q, 0, none⟩ = some .nilIface
section
variable {v : Value} {w : World}
theorem nop_made (h : NoPd v w) : Calls Try.prog 22 #[v] w fun e w' => e = .returned (.bool false) ∧ w' = w := by
  rcases h with rfl | ⟨q, rfl, c0⟩
  all_goals (
    go_enter Try.func22, Try.ntmps22
    go_wp2
    go_ret
    exact ⟨rfl, rfl⟩)
theorem nop_refuse (h : NoPd v w) (reg : Int) : Calls Try.prog 18 #[v, .int .i64 reg] w fun e w' => e = .returned (.int .i64 1) ∧ w' = w := by
  have HM := Lib.hid (nop_made h)
  clear h
  go_enter Try.func18, Try.ntmps18
  go_wp2_with (go_at_call 22; (with_reducible refine HM.out.mono ?_); rintro e w1 ⟨rfl, hw⟩; obtain rfl := hw.symm)
  go_ret
  exact ⟨rfl, rfl⟩
theorem nop_get (h : NoPd v w) (reg : Int) : Calls Try.prog 14 #[v, .int .i64 reg] w fun e w' => e = .returned (.tuple #[.int .u32 0, .int .i64 1]) ∧ w' = w := by
  have HM := Lib.hid (nop_refuse h reg)
  clear h
  go_enter Try.func14, Try.ntmps14
  go_wp2_with (go_at_call 18; (with_reducible refine HM.out.mono ?_); rintro e w1 ⟨rfl, hw⟩; obtain rfl := hw.symm)
  go_ret2
  exact ⟨rfl, rfl⟩
theorem nop_set (h : NoPd v w) (reg x : Int) : Calls Try.prog 13 #[v, .int .i64 reg, .int .u32 x] w fun e w' => e = .returned (.int .i64 1) ∧ w' = w := by
  have HM := Lib.hid (nop_refuse h reg)
  clear h
  go_enter Try.func13, Try.ntmps13
  go_wp2_with (go_at_call 18; (with_reducible refine HM.out.mono ?_); rintro e w1 ⟨rfl, hw⟩; obtain rfl := hw.symm)
  go_ret
  exact ⟨rfl, rfl⟩
theorem nop_up (h : NoPd v w) : Calls Try.prog 15 #[v] w fun e w' => e = .returned (.bool false) ∧ w' = w := by
  have HM := Lib.hid (nop_made h)
  clear h
  go_enter Try.func15, Try.ntmps15
  go_wp2_with (go_at_call 22; (with_reducible refine HM.out.mono ?_); rintro e w1 ⟨rfl, hw⟩; obtain rfl := hw.symm)
  go_ret
  exact ⟨rfl, rfl⟩
theorem nop_new : Calls Try.prog 10 #[.nilIface] w fun e w' => e = .returned (.pointer none) ∧ w' = w := by
  go_enter Try.func10, Try.ntmps10
  go_wp2
  go_ret
  exact ⟨rfl, rfl⟩
end
def pdZ : List Value := [.nilIface, .int .u32 0, .int .u32 0, .int .u32 0, .int .u32 0, .int .u32 0, .int .u32 0, .int .u32 0, .int .u32 0, .int .u32 0, .int .u32 0, .int .u32 0, .int .u32 0, .int .u32 0, .int .u32 0, .int .u32 0, .int .u32 0, .int .u32 0, .int .u32 0, .int .u32 0, .int .u32 0, .int .i64 0]
set_option maxRecDepth 100000 in
set_option maxHeartbeats 2000000 in
theorem sectorNobody_walk (a0 : Int) (_b0 : (Lit.int .i64 a0).wf = true) (a1 : Int) (_b1 : (Lit.int .u32 a1).wf = true) (w : World) :
    Calls Try.prog 6 #[.int .i64 a0, .int .u32 a1] w fun e w' => e = .returned (.bool true) ∧ Below w.heap.size w w' := by
  clear _b0 _b1
  go_enter Try.func6, Try.ntmps6
  go_wp2_with fail
  refine (alive10_any w).mono ?_
  rintro e wa ⟨rfl, hBa⟩
  go_wp2
  obtain ⟨P, hP⟩ : ∃ P, P = wa.heap.size := ⟨_, rfl⟩
  have hA1 : At ((wa.alloc (.cells pdZ.toArray 52)).alloc (.cells #[.pointer none, .pointer (some ⟨wa.heap.size, 0, none⟩)] 29)) P 52 pdZ := by
    rw [hP]; exact (At.news wa _ _).alloc _
  have hA2 : At ((wa.alloc (.cells pdZ.toArray 52)).alloc (.cells #[.pointer none, .pointer (some ⟨wa.heap.size, 0, none⟩)] 29)) (P + 1) 29 [.pointer none, .pointer (some ⟨P, 0, none⟩)] := by
    have := At.news (wa.alloc (.cells pdZ.toArray 52)) 29 [.pointer none, .pointer (some ⟨P, 0, none⟩)]
    rw [World.size_alloc] at this
    rw [hP] at this ⊢
    exact this
  have hB2 : Below w.heap.size w ((wa.alloc (.cells pdZ.toArray 52)).alloc (.cells #[.pointer none, .pointer (some ⟨wa.heap.size, 0, none⟩)] 29)) := (hBa.alloc hBa.size _).alloc (by have := hBa.size; rw [World.size_alloc]; omega) _
  change Code.wp _ _ _ _ ((wa.alloc (.cells pdZ.toArray 52)).alloc (.cells #[.pointer none, .pointer (some ⟨wa.heap.size, 0, none⟩)] 29))
  generalize ((wa.alloc (.cells pdZ.toArray 52)).alloc (.cells #[.pointer none, .pointer (some ⟨wa.heap.size, 0, none⟩)] 29)) = W1 at hA1 hA2 hB2 ⊢
  rw [← hP] at ⊢
  have A1 := Lib.hid hA1
  have A2 := Lib.hid hA2
  have B2 := Lib.hid hB2
  clear hP hBa hA1 hA2 hB2
  go_loopw [15] (fun i wr => ∃ j : Nat, j ≤ 2 ∧ i = .int .i64 j ∧ wr = W1) (fun i _ => 2 - (intOf i).toNat)
  case atStart => exact ⟨0, by omega, rfl, rfl⟩
  case round =>
    obtain ⟨j, hj, rfl, rfl⟩ := hrel
    by_cases hlt : j < 2
    · obtain ⟨v, hcell, hv⟩ : ∃ v, wr.cell? ⟨P + 1, j, none⟩ = some v ∧ NoPd v wr := by
        match j, hlt with
        | 0, _ => exact ⟨_, A2.out.cell 0, .inl rfl⟩
        | 1, _ => exact ⟨_, A2.out.cell 1, .inr ⟨P, rfl, A1.out.cell 0⟩⟩
      have V0 := Lib.hid hv
      clear hv
      go_wp2_with (first
        | (go_at_call 14; (with_reducible refine (nop_get V0.out a0).mono ?_); rintro e w2 ⟨rfl, hw⟩; obtain rfl := hw.symm)
        | (go_at_call 13; (with_reducible refine (nop_set V0.out a0 a1).mono ?_); rintro e w2 ⟨rfl, hw⟩; obtain rfl := hw.symm)
        | (go_at_call 15; (with_reducible refine (nop_up V0.out).mono ?_); rintro e w2 ⟨rfl, hw⟩; obtain rfl := hw.symm))
      go_roundw
      case rel => exact ⟨j + 1, by omega, by go_num, trivial⟩
      case measure => simp [intOf]; omega
    · obtain rfl : j = 2 := by omega
      go_wp2_with (go_at_call 10; (with_reducible refine nop_new.mono ?_); rintro e w2 ⟨rfl, hw⟩; obtain rfl := hw.symm)
      go_ret
      exact ⟨rfl, B2.out⟩
end Go.Proofs.Ytpkkejdjhnmjiaa
