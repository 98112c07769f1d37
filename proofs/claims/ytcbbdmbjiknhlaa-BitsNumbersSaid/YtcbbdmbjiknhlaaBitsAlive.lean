/- The helper alive of layer bits' statements returns true, whatever the memory. -/
import Derived.Test.YtcbbdmbjiknhlaaBits
namespace Go.Proofs.Ytcbbdmbjiknhlaa
open Go.RowKit Bm

theorem fieldC (w : World) : Calls Try.prog 11 #[.int .u32 43981, .int .i64 4, .int .i64 8] w fun e w' => e = .returned (.int .u32 188) ∧ w' = w :=
  field_any 43981#32 4 8 w (by decide) (by decide)
theorem putC (w : World) : Calls Try.prog 13 #[.int .u32 0, .int .i64 4, .int .i64 8, .int .u32 4028] w fun e w' => e = .returned (.int .u32 3008) ∧ w' = w :=
  put_any 0#32 4 8 4028#32 w (by decide) (by decide)
theorem signC (w : World) : Calls Try.prog 15 #[.int .u32 8, .int .i64 4] w fun e w' => e = .returned (.int .u32 4294967288) ∧ w' = w :=
  sign_any 8#32 4 w (by decide) (by decide)
theorem partialC (w : World) : Calls Try.prog 17 #[.int .u32 255, .int .u32 240, .int .u32 1] w fun e w' => e = .returned (.int .u32 254) ∧ w' = w :=
  partial_any 255#32 240#32 1#32 w
theorem turnC (w : World) : Calls Try.prog 19 #[.int .u32 1, .int .i64 (-1)] w fun e w' => e = .returned (.int .u32 2147483648) ∧ ∃ n, w' = w.drewN n :=
  turn_any 1#32 (-1) w

theorem alive_any (w : World) : Calls Try.prog 10 #[] w fun e w' => e = .returned (.bool true) ∧ ∃ n, w' = w.drewN n := by
  go_enter Try.func10, Try.ntmps10
  go_wp2_with (first
    | (go_at_call 11; refine (fieldC _).mono ?_; rintro e w' ⟨rfl, rfl⟩)
    | (go_at_call 13; refine (putC _).mono ?_; rintro e w' ⟨rfl, rfl⟩)
    | (go_at_call 15; refine (signC _).mono ?_; rintro e w' ⟨rfl, rfl⟩)
    | (go_at_call 17; refine (partialC _).mono ?_; rintro e w' ⟨rfl, rfl⟩)
    | (go_at_call 19; refine (turnC _).mono ?_; rintro e w' ⟨rfl, n, rfl⟩))
  go_ret
  exact ⟨rfl, _, rfl⟩
end Go.Proofs.Ytcbbdmbjiknhlaa
