/- Contracts of the document's own chip, on: Read, Fuse, On, burnt, change. -/
import Derived.Test.YteiegkfoabhikaaNorRef
import Derived.RegionTactic
namespace Go.Proofs.Yteiegkfoabhikaa
open Go.RowKit Bm

theorem below_two (w : World) (a b : Obj) : Below w.heap.size w ((w.alloc a).alloc b) := ((Below.refl _ w).alloc (Nat.le_refl _) a).alloc (by rw [World.size_alloc]; omega) b

set_option maxRecDepth 100000 in
set_option maxHeartbeats 1000000 in
theorem rfuse_any (r : Rh) (c : ChipM) (n : Int) (x : BitVec 32) (w : World) (hl : 1 ≤ c.ws.length) :
    Calls Try.prog 18 #[refVal r c, .int .i64 n, .int .u32 (U x)] w fun e w' => e = .returned (refVal r (mFuse c n x)) ∧ Below w.heap.size w w' := by
  have z : decide (0 < (c.ws.length : Int)) = true := by rw [decide_eq_true_iff]; omega
  have z0 : 0 < (c.ws.length : Int) := by omega
  have fin := fun a b => below_two w a b
  by_cases hn : n < 0
  · have e : mFuse c n x = { c with left := 0, pick := x } := by unfold mFuse; rw [show max n 0 = 0 by omega]
    rw [e]
    clear e
    unfold refVal
    go_enter Try.func18, Try.ntmps18
    go_wp2
    exact bodyPost_ret (v := .agg #[.slice (some ⟨r.gw, 0, none⟩) c.ws.length r.cw, .slice (some ⟨r.ge, 0, none⟩) c.wear.length r.ce, .int .i64 c.endure, .int .i64 0, .int .u32 (U x), .bool (!c.up)]) (by simp [results, Try.results18, go_sem]) rfl ⟨rfl, fin _ _⟩
  · have e : mFuse c n x = { c with left := n, pick := x } := by unfold mFuse; rw [show max n 0 = n by omega]
    rw [e]
    clear e
    unfold refVal
    go_enter Try.func18, Try.ntmps18
    go_wp2
    exact bodyPost_ret (v := .agg #[.slice (some ⟨r.gw, 0, none⟩) c.ws.length r.cw, .slice (some ⟨r.ge, 0, none⟩) c.wear.length r.ce, .int .i64 c.endure, .int .i64 n, .int .u32 (U x), .bool (!c.up)]) (by simp [results, Try.results18, go_sem]) rfl ⟨rfl, fin _ _⟩

set_option maxRecDepth 100000 in
set_option maxHeartbeats 1000000 in
theorem ron_any (r : Rh) (c : ChipM) (w : World) :
    Calls Try.prog 21 #[refVal r c] w fun e w' => e = .returned (refVal r (mOn c)) ∧ Below w.heap.size w w' := by
  have fin := fun a b => below_two w a b
  unfold refVal mOn
  go_enter Try.func21, Try.ntmps21
  go_wp2
  exact bodyPost_ret (v := .agg #[.slice (some ⟨r.gw, 0, none⟩) c.ws.length r.cw, .slice (some ⟨r.ge, 0, none⟩) c.wear.length r.ce, .int .i64 c.endure, .int .i64 0, .int .u32 (U c.pick), .bool false]) (by simp [results, Try.results21, go_sem]) rfl ⟨rfl, fin _ _⟩

set_option maxRecDepth 100000 in
set_option maxHeartbeats 1000000 in
theorem burnt_any (r : Rh) (c : ChipM) (w : World) (hu : c.up = true) (l0 : 0 ≤ c.left) (l1 : c.left ≤ 9223372036854775807) :
    Calls Try.prog 57 #[refVal r c] w fun e w' => e = .returned (.tuple #[refVal r (mChange c), .bool (mBurn c)]) ∧ Below w.heap.size w w' := by
  have fin := fun a b => below_two w a b
  unfold mChange mBurn
  by_cases h0 : c.left = 0
  · rw [if_pos h0]
    have e : decide (c.left = 1) = false := by rw [decide_eq_false_iff_not]; omega
    rw [e]
    unfold refVal
    rw [h0, hu]
    clear e h0 hu
    go_enter Try.func57, Try.ntmps57
    go_wp2
    exact bodyPost_ret (v := .tuple #[.agg #[.slice (some ⟨r.gw, 0, none⟩) c.ws.length r.cw, .slice (some ⟨r.ge, 0, none⟩) c.wear.length r.ce, .int .i64 c.endure, .int .i64 0, .int .u32 (U c.pick), .bool false], .bool false]) (by simp [results, Try.results57, go_sem]) rfl ⟨rfl, fin _ _⟩
  · rw [if_neg h0]
    have q : (c.left == 0) = false := by rw [beq_eq_false_iff_ne]; exact h0
    by_cases h1 : c.left = 1
    · rw [if_pos h1]
      have e : decide (c.left = 1) = true := by rw [decide_eq_true_iff]; exact h1
      rw [e]
      unfold refVal
      rw [h1, hu]
      clear e h0 hu q h1
      go_enter Try.func57, Try.ntmps57
      go_wp2
      go_region
      all_goals
        go_wp2
        exact bodyPost_ret (v := .tuple #[.agg #[.slice (some ⟨r.gw, 0, none⟩) c.ws.length r.cw, .slice (some ⟨r.ge, 0, none⟩) c.wear.length r.ce, .int .i64 c.endure, .int .i64 0, .int .u32 (U c.pick), .bool true], .bool true]) (by simp [results, Try.results57, go_sem]) rfl ⟨rfl, (fin _ _).drew⟩
    · rw [if_neg h1]
      have e : decide (c.left = 1) = false := by rw [decide_eq_false_iff_not]; exact h1
      have q1 : (c.left - 1 == 0) = false := by rw [beq_eq_false_iff_ne]; omega
      rw [e]
      unfold refVal
      dsimp only
      rw [hu]
      clear e h0 hu h1
      go_enter Try.func57, Try.ntmps57
      go_wp2
      go_region
      all_goals
        go_wp2
        exact bodyPost_ret (v := .tuple #[.agg #[.slice (some ⟨r.gw, 0, none⟩) c.ws.length r.cw, .slice (some ⟨r.ge, 0, none⟩) c.wear.length r.ce, .int .i64 c.endure, .int .i64 (c.left - 1), .int .u32 (U c.pick), .bool false], .bool false]) (by simp [results, Try.results57, go_sem]) rfl ⟨rfl, (fin _ _).drew⟩
end Go.Proofs.Yteiegkfoabhikaa
