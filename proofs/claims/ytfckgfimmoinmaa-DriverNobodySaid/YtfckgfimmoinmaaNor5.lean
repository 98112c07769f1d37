/- Each call of a chip, whatever it is given, in one contract; and the helper alive of layer nor's statements. -/
import Derived.Test.YtfckgfimmoinmaaNor2
import Derived.Test.YtfckgfimmoinmaaNor4
namespace Go.Proofs.Ytfckgfimmoinmaa
open Go.RowKit Bm

theorem turned_drewN {S : Nat → Prop} (w : World) (n : Nat) : Turned S w (w.drewN n) := (Turned.refl S w).drewN n

theorem program_any (h : Hd) (c : ChipM) (k : Nat) (a : Int) (v : BitVec 32) (w : World) (hc : ChipAt w h c) (ok : ChipOk k c) :
    Calls Try.prog 91 #[.pointer (some ⟨h.p, 0, none⟩), .int .i64 a, .int .u32 (U v)] w fun e w' => e = .returned (.int .i64 (mProgram c a v).2) ∧ ChipAt w' h (mProgram c a v).1 ∧ Turned h.own w w' := by
  by_cases hr : mRefuse c a c.ws.length = 0
  · obtain ⟨_, h1, h2⟩ := refuse_zero hr
    obtain ⟨i, rfl⟩ := Int.eq_ofNat_of_zero_le h1
    refine (program_yes h c k i v w hc ok (by omega) hr).mono fun e w' ⟨he, hc', ht⟩ => ?_
    unfold mProgram
    rw [if_pos hr]
    exact ⟨he, hc', ht⟩
  · refine (program_no h c k a v w hc ok hr).mono fun e w' ⟨he, hw⟩ => ?_
    subst hw
    unfold mProgram
    rw [if_neg hr]
    exact ⟨he, hc, Turned.refl _ _⟩

theorem erase_any (h : Hd) (c : ChipM) (k : Nat) (b : Int) (w : World) (hc : ChipAt w h c) (ok : ChipOk k c) :
    Calls Try.prog 93 #[.pointer (some ⟨h.p, 0, none⟩), .int .i64 b] w fun e w' => e = .returned (.int .i64 (mErase c b).2) ∧ ChipAt w' h (mErase c b).1 ∧ Turned h.own w w' := by
  by_cases hr : mRefuse c b c.wear.length = 0
  · obtain ⟨_, h1, h2⟩ := refuse_zero hr
    obtain ⟨i, rfl⟩ := Int.eq_ofNat_of_zero_le h1
    unfold mErase
    rw [if_pos hr]
    by_cases hw : c.endure ≤ nm c.wear i
    · refine (erase_worn h c k i w hc ok (by omega) hr hw).mono fun e w' ⟨he, n, hw'⟩ => ?_
      subst hw'
      rw [if_pos (show c.endure ≤ nm c.wear (i : Int).toNat from hw)]
      exact ⟨he, hc.drewN n, turned_drewN w n⟩
    · refine (erase_yes h c k i w hc ok (by omega) hr (by omega)).mono fun e w' ⟨he, hc', ht⟩ => ?_
      rw [if_neg (show ¬ c.endure ≤ nm c.wear (i : Int).toNat from hw)]
      exact ⟨he, hc', ht⟩
  · refine (erase_no h c k b w hc ok hr).mono fun e w' ⟨he, hw⟩ => ?_
    subst hw
    unfold mErase
    rw [if_neg hr]
    exact ⟨he, hc, Turned.refl _ _⟩

theorem read_any (h : Hd) (c : ChipM) (k : Nat) (a : Int) (w : World) (hc : ChipAt w h c) (ok : ChipOk k c) :
    Calls Try.prog 73 #[.pointer (some ⟨h.p, 0, none⟩), .int .i64 a] w fun e w' => e = .returned (.tuple #[.int .u32 (U (mRead c a).1), .int .i64 (mRead c a).2]) ∧ w' = w := by
  by_cases hr : mRefuse c a c.ws.length = 0
  · obtain ⟨_, h1, h2⟩ := refuse_zero hr
    obtain ⟨i, rfl⟩ := Int.eq_ofNat_of_zero_le h1
    refine (read_yes h c k i w hc ok (by omega) hr).mono fun e w' ⟨he, hw⟩ => ?_
    unfold mRead
    rw [if_pos hr]
    exact ⟨he, hw⟩
  · refine (read_no h c k a w hc ok hr).mono fun e w' ⟨he, hw⟩ => ?_
    unfold mRead
    rw [if_neg hr]
    exact ⟨he, hw⟩

end Go.Proofs.Ytfckgfimmoinmaa
