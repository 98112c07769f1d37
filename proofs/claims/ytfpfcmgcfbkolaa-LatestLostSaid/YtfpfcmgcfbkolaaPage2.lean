/- Contract of the program's page.Count. -/
import Derived.Test.YtfpfcmgcfbkolaaPage1
import Derived.BigRegion
namespace Go.Proofs.Ytfpfcmgcfbkolaa
open Go.RowKit Bm

theorem ne_replicate {xs : List (BitVec 32)} {n : Nat} (h : xs.length ≠ n) : decide (xs = List.replicate n 4294967295#32) = false := by
  rw [decide_eq_false_iff_not]
  intro e
  exact h (by rw [e, List.length_replicate])

set_option maxRecDepth 100000 in
theorem pcount_any (A : Option Addr) (n c : Nat) (xs : List (BitVec 32)) (w : World) (hA : ReadsU w A n c xs) (hn : n ≤ 1000000) :
    Calls Try.prog 44 #[.slice A n c] w fun e w' => e = .returned (.tuple #[.int .u32 (U (hdRd xs).1), .int .i64 (hdRd xs).2]) ∧ Below w.heap.size w w' := by
  have hAl := hA.le
  have hlen := hA.len
  have FR := Lib.hid (pfree_any A n c 4 xs w hA hn (by omega) (by omega))
  by_cases h7 : n = 4
  · subst h7
    rw [freeB_iff hlen] at FR
    cases hf : freeB xs
    · rw [hf] at FR
      obtain ⟨a, rfl⟩ := hA.some_ (by omega)
      have HC := Lib.hid (fun W => pheader_any (wd xs 1) W)
      have HA := Lib.hid hA
      have hl : (hdWs (wd xs 1)).length ≤ 1000000 := by rcases hdWs_len (wd xs 1) with h | h <;> omega
      have HL := Lib.hid hl
      by_cases hv : hdWs (wd xs 1) = xs
      · rw [hdRd_good hlen hf hv]
        have HV := Lib.hid (decide_eq_true hv)
        clear hv hf hlen hA hl
        go_enter Try.func44, Try.ntmps44
        go_wp2_with (first
          | (go_at_call 50; (refine FR.out.mono ?_); rintro e w1 ⟨rfl, hb⟩; have HB := Lib.hid hb; have HA1 := Lib.hid (HA.out.kept hb); have c1 := HA1.out.cj 1 (by omega) (by omega); clear hb)
          | (go_at_call 52; (refine (HC.out _).mono ?_); rintro e w2 ⟨A2, cc2, rfl, hr, _, hb⟩; have HR := Lib.hid hr; have HB2 := Lib.hid (HB.out.trans (hb.mono HB.out.size)); have HA2 := Lib.hid (HA1.out.kept hb); have c2 := HA2.out.cj 1 (by omega) (by omega); clear hr hb)
          | (go_at_call 51; (refine (equal_any _ _ _ _ _ _ _ _ _ HR.out HA2.out HL.out (by omega)).mono ?_); rintro e w3 ⟨rfl, k, rfl⟩; rw [HV.out]))
        go_ret2
        exact ⟨rfl, HB2.out.trans (below_drewN' _ _ _)⟩
      · rw [hdRd_torn hlen hf hv]
        have HV := Lib.hid (decide_eq_false hv)
        clear hv hf hlen hA hl
        go_enter Try.func44, Try.ntmps44
        go_wp2_with (first
          | (go_at_call 50; (refine FR.out.mono ?_); rintro e w1 ⟨rfl, hb⟩; have HB := Lib.hid hb; have HA1 := Lib.hid (HA.out.kept hb); have c1 := HA1.out.cj 1 (by omega) (by omega); clear hb)
          | (go_at_call 52; (refine (HC.out _).mono ?_); rintro e w2 ⟨A2, cc2, rfl, hr, _, hb⟩; have HR := Lib.hid hr; have HB2 := Lib.hid (HB.out.trans (hb.mono HB.out.size)); have HA2 := Lib.hid (HA1.out.kept hb); clear hr hb)
          | (go_at_call 51; (refine (equal_any _ _ _ _ _ _ _ _ _ HR.out HA2.out HL.out (by omega)).mono ?_); rintro e w3 ⟨rfl, k, rfl⟩; rw [HV.out]))
        go_ret2
        exact ⟨rfl, HB2.out.trans (below_drewN' _ _ _)⟩
    · rw [hf] at FR
      rw [hdRd_free hlen hf]
      clear hf hlen hA
      go_enter Try.func44, Try.ntmps44
      go_wp2_with (go_at_call 50; (refine FR.out.mono ?_); rintro e w1 ⟨rfl, hb⟩; have HB := Lib.hid hb; clear hb)
      go_ret2
      exact ⟨rfl, HB.out⟩
  · rw [ne_replicate (by omega)] at FR
    rw [hdRd_far (by omega)]
    have h7' : ¬ (n : Int) = 4 := by omega
    clear hA
    go_enter Try.func44, Try.ntmps44
    go_wp2_with (go_at_call 50; (refine FR.out.mono ?_); rintro e w1 ⟨rfl, hb⟩; have HB := Lib.hid hb; clear hb)
    go_ret2
    exact ⟨rfl, HB.out⟩
end Go.Proofs.Ytfpfcmgcfbkolaa
