/- Pages, their words, and what words are, as plain functions (layer page). -/
import Derived.Test.YtpkkejdjhnmjiaaGreatBitsMem
namespace Go.Proofs.YtpkkejdjhnmjiaaGreat
open Go.RowKit Bm
structure PageM where
  s : BitVec 32
  q : BitVec 32
  g : Bool
  d0 : BitVec 32
  d1 : BitVec 32
  d2 : BitVec 32
  d3 : BitVec 32
  deriving DecidableEq, Inhabited
def pg0 : PageM := ⟨0#32, 0#32, false, 0#32, 0#32, 0#32, 0#32⟩
def pgC (p : PageM) : List Value := [.int .u32 (U p.s), .int .u32 (U p.q), .bool p.g, .int .u32 (U p.d0), .int .u32 (U p.d1), .int .u32 (U p.d2), .int .u32 (U p.d3)]
def pgV (p : PageM) : Value := .agg (pgC p).toArray
def pgData0 (p : PageM) : Bool := p.d0 == 0#32 && (p.d1 == 0#32 && (p.d2 == 0#32 && p.d3 == 0#32))
def pgOk (p : PageM) : Bool := decide (U p.s < 512) && (decide (1 ≤ U p.q) && (decide (U p.q ≤ 2147483648) && (!p.g || pgData0 p)))
def pgFirst (p : PageM) : BitVec 32 := if p.g then p.s + 2147483648#32 else p.s
def pgWs (p : PageM) : List (BitVec 32) := if pgOk p then [pgFirst p, p.q, p.d0, p.d1, p.d2, p.d3, 1526644958#32] else []
def freeB (ws : List (BitVec 32)) : Bool := ws.all (· == 4294967295#32)
def pgOf (ws : List (BitVec 32)) : PageM := ⟨BitVec.ofNat 32 ((wd ws 0).toNat % 2147483648), wd ws 1, decide (2147483648 ≤ U (wd ws 0)), wd ws 2, wd ws 3, wd ws 4, wd ws 5⟩
def pgRd (ws : List (BitVec 32)) : PageM × Int := if ws.length = 7 then (if freeB ws then (pg0, 0) else if pgWs (pgOf ws) = ws then (pgOf ws, 1) else (pg0, 2)) else (pg0, 2)
def hdWs (c : BitVec 32) : List (BitVec 32) := if U c ≤ 2147483648 then [2970353665#32, c, ~~~c, 1526644958#32] else []
def hdRd (ws : List (BitVec 32)) : BitVec 32 × Int := if ws.length = 4 then (if freeB ws then (0#32, 0) else if hdWs (wd ws 1) = ws then (wd ws 1, 1) else (0#32, 2)) else (0#32, 2)
def pgAt (b k : Int) : Int := if 0 ≤ b ∧ b ≤ 63 ∧ 0 ≤ k ∧ k ≤ 7 then b * 64 + 4 + k * 7 else -1
theorem pgFirst_U {p : PageM} (h : U p.s < 512) (hg : p.g = true) : U (pgFirst p) = U p.s + 2147483648 := by
  unfold pgFirst
  rw [if_pos hg, ← U_add]
  have h0 := U_nonneg p.s
  have e : U 2147483648#32 = 2147483648 := rfl
  rw [e]
  omega
theorem pgWs_yes {p : PageM} (h : pgOk p = true) : pgWs p = [pgFirst p, p.q, p.d0, p.d1, p.d2, p.d3, 1526644958#32] := by
  unfold pgWs; rw [if_pos h]
theorem pgWs_no {p : PageM} (h : pgOk p = false) : pgWs p = [] := by
  unfold pgWs; rw [h]; rfl
theorem pgWs_len (p : PageM) : (pgWs p).length = 7 ∨ (pgWs p).length = 0 := by
  cases h : pgOk p
  · right; rw [pgWs_no h]; rfl
  · left; rw [pgWs_yes h]; rfl
theorem hdWs_yes {c : BitVec 32} (h : U c ≤ 2147483648) : hdWs c = [2970353665#32, c, ~~~c, 1526644958#32] := by
  unfold hdWs; rw [if_pos h]
theorem hdWs_no {c : BitVec 32} (h : ¬ U c ≤ 2147483648) : hdWs c = [] := by
  unfold hdWs; rw [if_neg h]
theorem hdWs_len (c : BitVec 32) : (hdWs c).length = 4 ∨ (hdWs c).length = 0 := by
  by_cases h : U c ≤ 2147483648
  · left; rw [hdWs_yes h]; rfl
  · right; rw [hdWs_no h]; rfl
theorem U_first (x : BitVec 32) : U (BitVec.ofNat 32 (x.toNat % 2147483648)) = U x % 2147483648 := by
  rw [U_ofNat _ (by omega)]
  unfold U
  omega
theorem pgOf_ws {p : PageM} (h : pgOk p = true) : pgOf (pgWs p) = p := by
  rw [pgWs_yes h]
  obtain ⟨s, q, g, d0, d1, d2, d3⟩ := p
  have hs : U s < 512 := by
    unfold pgOk at h
    simp only [Bool.and_eq_true, decide_eq_true_eq] at h
    exact h.1
  have h0 := U_nonneg s
  have key : U (pgFirst ⟨s, q, g, d0, d1, d2, d3⟩) = if g then U s + 2147483648 else U s := by
    cases g
    · rfl
    · exact pgFirst_U (p := ⟨s, q, true, d0, d1, d2, d3⟩) hs rfl
  have e1 : BitVec.ofNat 32 ((pgFirst ⟨s, q, g, d0, d1, d2, d3⟩).toNat % 2147483648) = s := by
    apply U_inj
    rw [U_first, key]
    split <;> omega
  have e2 : decide (2147483648 ≤ U (pgFirst ⟨s, q, g, d0, d1, d2, d3⟩)) = g := by
    rw [key]
    cases g
    · rw [if_neg (by simp), decide_eq_false_iff_not]; omega
    · rw [if_pos rfl, decide_eq_true_eq]; omega
  unfold pgOf
  simp only [wd, List.getD_cons_zero, List.getD_cons_succ, e1, e2]
theorem pgRd_ws {p : PageM} (h : pgOk p = true) : pgRd (pgWs p) = (p, 1) := by
  have e := pgOf_ws h
  unfold pgRd
  rw [e, if_pos (by rw [pgWs_yes h]; rfl), if_neg (by rw [pgWs_yes h]; simp [freeB]), if_pos rfl]
theorem hdRd_ws {c : BitVec 32} (h : U c ≤ 2147483648) : hdRd (hdWs c) = (c, 1) := by
  unfold hdRd
  have e : wd (hdWs c) 1 = c := by rw [hdWs_yes h]; rfl
  rw [e, if_pos (by rw [hdWs_yes h]; rfl), if_neg (by rw [hdWs_yes h]; simp [freeB]), if_pos rfl]
end Go.Proofs.YtpkkejdjhnmjiaaGreat
