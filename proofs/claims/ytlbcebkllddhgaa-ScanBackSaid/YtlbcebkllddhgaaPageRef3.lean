/- Contracts of the document's own answers for layer page: what words are, as a head, and as a page. -/
import Derived.Test.YtlbcebkllddhgaaPageRef2
import Derived.BigRegion
namespace Go.Proofs.Ytlbcebkllddhgaa
open Go.RowKit Bm

theorem below_drewN' (B : Nat) (w : World) (n : Nat) : Below B w (w.drewN n) := ⟨rfl, rfl, rfl, Nat.le_refl _, fun _ _ => rfl⟩
theorem hdRd_far {xs : List (BitVec 32)} (h : xs.length ≠ 4) : hdRd xs = (0#32, 2) := by unfold hdRd; rw [if_neg h]
theorem hdRd_free {xs : List (BitVec 32)} (h : xs.length = 4) (hf : freeB xs = true) : hdRd xs = (0#32, 0) := by unfold hdRd; rw [if_pos h, if_pos hf]
theorem hdRd_good {xs : List (BitVec 32)} (h : xs.length = 4) (hf : freeB xs = false) (e : hdWs (wd xs 1) = xs) : hdRd xs = (wd xs 1, 1) := by unfold hdRd; rw [if_pos h, if_neg (by simp [hf]), if_pos e]
theorem hdRd_torn {xs : List (BitVec 32)} (h : xs.length = 4) (hf : freeB xs = false) (e : ¬ hdWs (wd xs 1) = xs) : hdRd xs = (0#32, 2) := by unfold hdRd; rw [if_pos h, if_neg (by simp [hf]), if_neg e]
theorem pgRd_far {xs : List (BitVec 32)} (h : xs.length ≠ 7) : pgRd xs = (pg0, 2) := by unfold pgRd; rw [if_neg h]
theorem pgRd_free {xs : List (BitVec 32)} (h : xs.length = 7) (hf : freeB xs = true) : pgRd xs = (pg0, 0) := by unfold pgRd; rw [if_pos h, if_pos hf]
theorem pgRd_good {xs : List (BitVec 32)} (h : xs.length = 7) (hf : freeB xs = false) (e : pgWs (pgOf xs) = xs) : pgRd xs = (pgOf xs, 1) := by unfold pgRd; rw [if_pos h, if_neg (by simp [hf]), if_pos e]
theorem pgRd_torn {xs : List (BitVec 32)} (h : xs.length = 7) (hf : freeB xs = false) (e : ¬ pgWs (pgOf xs) = xs) : pgRd xs = (pg0, 2) := by unfold pgRd; rw [if_pos h, if_neg (by simp [hf]), if_neg e]

theorem ReadsU.some_ {w : World} {A : Option Addr} {n cap : Nat} {xs : List (BitVec 32)} (h : ReadsU w A n cap xs) (hn : 0 < n) : ∃ a, A = some a := by
  obtain ⟨a, e, _⟩ := h.cell hn
  exact ⟨a, e⟩
theorem ReadsU.c0 {w : World} {a : Addr} {n cap : Nat} {xs : List (BitVec 32)} (h : ReadsU w (some a) n cap xs) (hn : 0 < n) : w.cell? a = some (.int .u32 (U (wd xs 0))) := by
  obtain ⟨b, e, hc⟩ := h.at_ hn
  injection e with e
  subst e
  unfold Addr.add at hc
  rwa [if_pos rfl] at hc
theorem ReadsU.cj {w : World} {a : Addr} {n cap : Nat} {xs : List (BitVec 32)} (h : ReadsU w (some a) n cap xs) (j : Nat) (hj : j < n) (h0 : 0 < j) : w.cell? ⟨a.block, a.off + j, none⟩ = some (.int .u32 (U (wd xs j))) := by
  obtain ⟨b, e, hc⟩ := h.at_ hj
  injection e with e
  subst e
  unfold Addr.add at hc
  rwa [if_neg (by omega)] at hc

set_option maxRecDepth 100000 in
theorem rcount_any (A : Option Addr) (n c : Nat) (xs : List (BitVec 32)) (w : World) (hA : ReadsU w A n c xs) (hn : n ≤ 1000000) :
    Calls Try.prog 33 #[.slice A n c] w fun e w' => e = .returned (.tuple #[.int .u32 (U (hdRd xs).1), .int .i64 (hdRd xs).2]) ∧ Below w.heap.size w w' := by
  have hAl := hA.le
  have hlen := hA.len
  by_cases h7 : n = 4
  · subst h7
    have FR := Lib.hid (fun W (h : ReadsU W A 4 c xs) => rfree_any A 4 c xs W h (by omega))
    cases hf : freeB xs
    · rw [hf] at FR
      obtain ⟨a, rfl⟩ := hA.some_ (by omega)
      have HC := Lib.hid (rheader_any (wd xs 1) w)
      have HA := Lib.hid hA
      have c1 := hA.cj 1 (by omega) (by omega)
      have hl : (hdWs (wd xs 1)).length ≤ 1000000 := by rcases hdWs_len (wd xs 1) with h | h <;> omega
      have HL := Lib.hid hl
      by_cases hv : hdWs (wd xs 1) = xs
      · rw [hdRd_good hlen hf hv]
        have HV := Lib.hid (decide_eq_true hv)
        clear hv hf hlen hA hl
        go_enter Try.func33, Try.ntmps33
        go_wp2_with (first
          | (go_at_call 42; (refine (FR.out _ HA.out).mono ?_); rintro e w1 ⟨rfl, rfl⟩)
          | (go_at_call 27; (refine HC.out.mono ?_); rintro e w2 ⟨A2, c2, rfl, hr, _, hb⟩; have HR := Lib.hid hr; have HB := Lib.hid hb; have HA2 := Lib.hid (HA.out.kept hb); have c2 := HA2.out.cj 1 (by omega) (by omega); clear hr hb)
          | (go_at_call 43; (refine (words_eq_any _ _ _ _ _ _ _ _ _ HR.out HA2.out HL.out (by omega)).mono ?_); rintro e w3 ⟨rfl, k, rfl⟩; rw [HV.out]))
        go_ret2
        exact ⟨rfl, HB.out.trans (below_drewN' _ _ _)⟩
      · rw [hdRd_torn hlen hf hv]
        have HV := Lib.hid (decide_eq_false hv)
        clear hv hf hlen hA hl
        go_enter Try.func33, Try.ntmps33
        go_wp2_with (first
          | (go_at_call 42; (refine (FR.out _ HA.out).mono ?_); rintro e w1 ⟨rfl, rfl⟩)
          | (go_at_call 27; (refine HC.out.mono ?_); rintro e w2 ⟨A2, c2, rfl, hr, _, hb⟩; have HR := Lib.hid hr; have HB := Lib.hid hb; have HA2 := Lib.hid (HA.out.kept hb); clear hr hb)
          | (go_at_call 43; (refine (words_eq_any _ _ _ _ _ _ _ _ _ HR.out HA2.out HL.out (by omega)).mono ?_); rintro e w3 ⟨rfl, k, rfl⟩; rw [HV.out]))
        go_ret2
        exact ⟨rfl, HB.out.trans (below_drewN' _ _ _)⟩
    · rw [hf] at FR
      rw [hdRd_free hlen hf]
      have HA := Lib.hid hA
      clear hf hlen hA
      go_enter Try.func33, Try.ntmps33
      go_wp2_with (go_at_call 42; (refine (FR.out _ HA.out).mono ?_); rintro e w1 ⟨rfl, rfl⟩)
      go_ret2
      exact ⟨rfl, Below.refl _ _⟩
  · rw [hdRd_far (by omega)]
    have h7' : ¬ (n : Int) = 4 := by omega
    go_enter Try.func33, Try.ntmps33
    go_wp2
    go_ret2
    exact ⟨rfl, Below.refl _ _⟩
end Go.Proofs.Ytlbcebkllddhgaa
