/- Contracts of the document's own answers for layer page: what words are, as a head, and as a page. -/
import Derived.Test.YtfpfcmgcfbkolaaPageRef2
import Derived.BigRegion
namespace Go.Proofs.Ytfpfcmgcfbkolaa
open Go.RowKit Bm

theorem below_drewN' (B : Nat) (w : World) (n : Nat) : Below B w (w.drewN n) := ⟨rfl, rfl, rfl, Nat.le_refl _, fun _ _ => rfl⟩
theorem hdRd_far {xs : List (BitVec 32)} (h : xs.length ≠ 4) : hdRd xs = (0#32, 2) := by unfold hdRd; rw [if_neg h]
theorem hdRd_free {xs : List (BitVec 32)} (h : xs.length = 4) (hf : freeB xs = true) : hdRd xs = (0#32, 0) := by unfold hdRd; rw [if_pos h, if_pos hf]
theorem hdRd_good {xs : List (BitVec 32)} (h : xs.length = 4) (hf : freeB xs = false) (e : hdWs (wd xs 1) = xs) : hdRd xs = (wd xs 1, 1) := by unfold hdRd; rw [if_pos h, if_neg (by simp [hf]), if_pos e]
theorem hdRd_torn {xs : List (BitVec 32)} (h : xs.length = 4) (hf : freeB xs = false) (e : ¬ hdWs (wd xs 1) = xs) : hdRd xs = (0#32, 2) := by unfold hdRd; rw [if_pos h, if_neg (by simp [hf]), if_neg e]
theorem pgRd_far {xs : List (BitVec 32)} (h : xs.length ≠ 7) : pgRd xs = (pg0, 2) := by unfold pgRd; rw [if_neg h]
theorem pgRd_free {xs : List (BitVec 32)} (h : xs.length = 7) (hf : freeB xs = true) : pgRd xs = (pg0, 0) := by unfold pgRd; rw [if_pos h, if_pos hf]
theorem pgRd_good {xs : List (BitVec 32)} (h : xs.length = 7) (hf : freeB xs = false) (e : pgWs (pgOf xs) = xs) : pgRd xs = (pgOf xs, 1) := by unfold pgRd; rw [if_pos h, if_neg (by simp [hf]), if_pos e]
theorem pgRd_torn {xs : List (BitVec 32)} (h : xs.length = 7) (hf : freeB xs = false) (e : ¬ pgWs (pgOf xs) = xs) : pgRd xs = (pg0, 2) := by unfold pgRd; rw [if_pos h, if_neg (by simp [hf]), if_neg e]

theorem ReadsU.some_ {w : World} {A : Option Addr} {n cap : Nat} {xs : List (BitVec 32)} (h : ReadsU w A n cap xs) (hn : 0 < n) : ∃ a, A = some a := by
  obtain ⟨a, e, _⟩ := h.cell hn
  exact ⟨a, e⟩
theorem ReadsU.c0 {w : World} {a : Addr} {n cap : Nat} {xs : List (BitVec 32)} (h : ReadsU w (some a) n cap xs) (hn : 0 < n) : w.cell? a = some (.int .u32 (U (wd xs 0))) := by
  obtain ⟨b, e, hc⟩ := h.at_ hn
  injection e with e
  subst e
  unfold Addr.add at hc
  rwa [if_pos rfl] at hc
theorem ReadsU.cj {w : World} {a : Addr} {n cap : Nat} {xs : List (BitVec 32)} (h : ReadsU w (some a) n cap xs) (j : Nat) (hj : j < n) (h0 : 0 < j) : w.cell? ⟨a.block, a.off + j, none⟩ = some (.int .u32 (U (wd xs j))) := by
  obtain ⟨b, e, hc⟩ := h.at_ hj
  injection e with e
  subst e
  unfold Addr.add at hc
  rwa [if_neg (by omega)] at hc

end Go.Proofs.Ytfpfcmgcfbkolaa
