/- The walk of layer driver's statement DriverWords. -/
import Derived.Test.YtfckgfimmoinmaaDrvWalk1
import Derived.Test.YtfckgfimmoinmaaDrvWordF
import Derived.Test.YtfckgfimmoinmaaLaw
import Derived.OpenShut
namespace Go.Proofs.Ytfckgfimmoinmaa
open Go.RowKit Bm

theorem reads_out {w : World} {A : Option Addr} {n cap : Nat} {xs : List (BitVec 32)} (h : ReadsU w A n cap xs) {K : Nat → Prop} : 0 < n → ∀ g, A = some g → ¬ May w.heap.size K g.block := fun hn g e hm => by
  obtain ⟨a, e2, hl, _⟩ := h.cell hn
  rw [e] at e2
  injection e2 with e2
  rw [e2] at hm
  have := hm.1
  omega

set_option maxRecDepth 100000 in
set_option maxHeartbeats 8000000 in
theorem driverWords_walk (a0 : Int) (b0 : (Lit.int .u8 a0).wf = true) (A : Option Addr) (n cap : Nat) (xs : List (BitVec 32)) (B : Option Addr) (m cap' : Nat) (ys : List (BitVec 32)) (w : World) (hr : ReadsU w A n cap xs) (hs : ReadsU w B m cap' ys) :
    Calls Try.prog 4 #[.int .u8 a0, .slice A n cap, .slice B m cap'] w fun e w' => e = .returned (.bool true) ∧ Below w.heap.size w w' := by
  have c0 := bounds_u8 b0
  have hle := hr.le
  have hmx := hr.max
  have hle' := hs.le
  have hmx' := hs.max
  unfold maxLen at hmx hmx'
  clear b0
  by_cases hn : 10 < n ∨ 10 < m
  · have BH : Hid (10 < n ∨ 10 < m) := Lib.hid hn
    by_cases h1 : 10 < n
    · clear hn
      go_enter Try.func4, Try.ntmps4
      go_wp2_with fail
      refine (alive5_any w).mono ?_
      rintro e wa ⟨rfl, hBa⟩
      go_wp2
      go_ret
      exact ⟨rfl, hBa⟩
    · have h2 : 10 < m := by omega
      clear hn
      go_enter Try.func4, Try.ntmps4
      go_wp2_with fail
      refine (alive5_any w).mono ?_
      rintro e wa ⟨rfl, hBa⟩
      go_wp2
      go_ret
      exact ⟨rfl, hBa⟩
  have hn1 : n ≤ 10 := by omega
  have hm1 : m ≤ 10 := by omega
  clear hn
  obtain ⟨k, hk⟩ : ∃ k : Nat, a0 % 100 = (k : Int) := ⟨(a0 % 100).toNat, by omega⟩
  have hk1 : k < 100 := by omega
  obtain ⟨N, hN⟩ : ∃ N, N = max n m := ⟨_, rfl⟩
  have hN1 : N ≤ 10 := by omega
  have hNmax : max (n : Int) (m : Int) = (N : Int) := by omega
  obtain ⟨d1, d2, d3, l, F⟩ := wordF k xs ys N hk1 (by rw [hr.len]; exact hn1) (by rw [hs.len]; exact hm1) hN1
  have FF := Lib.hid F
  have HN := Lib.hid hN
  have HR := Lib.hid hr
  have HS := Lib.hid hs
  have ft : d2.t = 3 * ((n : Int) + (m : Int)) := by rw [F.t2, hr.len, hs.len]
  have FT := Lib.hid ft
  clear F hN ft hr hs
  go_enter Try.func4, Try.ntmps4
  go_wp2_with fail
  refine (alive5_any w).mono ?_
  rintro e wa ⟨rfl, hBa⟩
  have BA := Lib.hid hBa
  clear hBa
  go_wp2_with fail
  refine (begin5_any w.heap.size 2 5 wa BA.out.size (by omega) (by omega) (by omega) (by omega)).mono ?_
  rintro e w1 ⟨p, f, q, rfl, s0, t1⟩
  have S0 := Lib.hid s0
  have B0 := Lib.hid (BA.out.trans t1)
  have OK0 := Lib.hid (drvNew_ok 2 5 (by omega) (by omega) (by omega) (by omega))
  clear s0 t1
  go_wp2_with fail
  refine (S0.out.program OK0.out k A n cap xs (HR.out.kept B0.out) (by omega) (by omega) (by omega) (by simp) (by simp) (reads_out HR.out)).mono ?_
  rw [FF.out.e1]
  rintro e w1' ⟨rfl, s1, t1⟩
  have S1 : Hid (Dv _ _ _ _ _ _ d1 _) := Lib.hid s1
  have B1 := Lib.hid (B0.out.trans (may_below t1 S0.out.size))
  clear s1 t1
  go_wp2_with fail
  refine (S1.out.program FF.out.f1.ok k B m cap' ys (HS.out.kept B1.out) (by omega) (by omega) (by omega) (by rw [FF.out.t1]; omega) (by rw [FF.out.t1, HR.out.len]; omega) (reads_out HS.out)).mono ?_
  rw [FF.out.e2]
  rintro e w2 ⟨rfl, s2, t2⟩
  have S2 : Hid (Dv _ _ _ _ _ _ d2 _) := Lib.hid s2
  have B2 := Lib.hid (B1.out.trans (may_below t2 S1.out.size))
  clear s2 t2
  go_wp2_with fail
  refine (S2.out.ticks FF.out.f2.ok).mono ?_
  rw [FT.out]
  rintro e w3 ⟨rfl, b3⟩
  have S3 := Lib.hid (S2.out.below b3)
  have B3 := Lib.hid (B2.out.trans (b3.mono B2.out.size))
  clear b3
  have wr1 : IntKind.i64.wrap ((n : Int) + (m : Int)) = (n : Int) + (m : Int) := by rw [IntKind.wrap_i64]; omega
  have wr2 : IntKind.i64.wrap (3 * ((n : Int) + (m : Int))) = 3 * ((n : Int) + (m : Int)) := by rw [IntKind.wrap_i64]; omega
  go_wp2_with fail
  · have e : m = N := by have := HN.out; omega
    subst e
    refine (S3.out.read FF.out.f2.ok k _ (by omega) (by omega) (by omega) (by omega)).mono ?_
    rw [FF.out.e3]
    rintro e w4 ⟨A4, c4, rfl, r4, z4, s4, t4⟩
    rw [FF.out.len] at r4 ⊢
    have R4 := Lib.hid r4
    have S4 : Hid (Dv _ _ _ _ _ _ d3 _) := Lib.hid s4
    have B4 := Lib.hid (B3.out.trans (may_below t4 S3.out.size))
    clear r4 s4 t4
    go_wp2_with fail
    refine (S4.out.wordsAt FF.out.f3.ok 128 FF.out.f3.len).mono ?_
    rintro e w5 ⟨g, cg, rfl, hcell, hcap, hmax, b5⟩
    rw [FF.out.c3] at hcell
    have HC := Lib.hid hcell
    have R5 := Lib.hid (R4.out.kept b5)
    have B5 := Lib.hid (B4.out.trans (b5.mono B4.out.size))
    have XA := Lib.hid (HR.out.kept B5.out)
    have YA := Lib.hid (HS.out.kept B5.out)
    clear hcell b5 hk c0
    go_wp2
    go_loop [81] (fun i => ∃ j : Nat, j ≤ 128 ∧ i = .int .i64 j) (fun i => 128 - (intOf i).toNat)
    case atStart => exact ⟨0, by omega, rfl⟩
    case round =>
      obtain ⟨j, hj, rfl⟩ := hrel
      by_cases hlt : j < 128
      · have g0 := HC.out j hlt
        rw [FF.out.ws j hlt, HR.out.len, HS.out.len] at g0
        have j0 : (0 : Int) ≤ (j : Int) := by omega
        have j1 : (j : Int) < 128 := by omega
        by_cases hkj : k ≤ j
        · have k0 : (k : Int) ≤ (j : Int) := by omega
          have ejk : (j : Int) - (k : Int) = ((j - k : Nat) : Int) := by omega
          have rd := FF.out.rd (j - k)
          rw [show k + (j - k) = j by omega, FF.out.ws j hlt, HR.out.len, HS.out.len] at rd
          by_cases hxa : j < k + n
          · have x0 : (j : Int) < (k : Int) + (n : Int) := by omega
            obtain ⟨xa, rfl, hxc⟩ := XA.out.at_ (show j - k < n by omega)
            by_cases hyb : j < k + m
            · have y0 : (j : Int) < (k : Int) + (m : Int) := by omega
              obtain ⟨ya, rfl, hyc⟩ := YA.out.at_ (show j - k < m by omega)
              obtain ⟨za, rfl, hzc⟩ := R5.out.at_ (show j - k < m by omega)
              rw [rd (by omega)] at hzc
              rw [if_pos ⟨hkj, hyb⟩, if_pos ⟨hkj, hxa⟩] at g0 hzc
              rw [and_ones] at g0 hzc
              have ex : bits .and .u32 4294967295 (U (wd xs (j - k))) = U (wd xs (j - k)) := by have := U_and ones (wd xs (j - k)); rw [and_ones] at this; exact this
              clear rd
              go_wp2
              go_round
              case rel => exact ⟨j + 1, by omega, by go_num⟩
              case measure => simp [intOf]; omega
            · exact absurd hyb (by omega)
          · have x0 : ¬ (j : Int) < (k : Int) + (n : Int) := by omega
            by_cases hyb : j < k + m
            · have y0 : (j : Int) < (k : Int) + (m : Int) := by omega
              obtain ⟨ya, rfl, hyc⟩ := YA.out.at_ (show j - k < m by omega)
              obtain ⟨za, rfl, hzc⟩ := R5.out.at_ (show j - k < m by omega)
              rw [rd (by omega)] at hzc
              rw [if_pos ⟨hkj, hyb⟩, if_neg (fun h => hxa h.2)] at g0 hzc
              rw [and_ones] at g0 hzc
              have ey : bits .and .u32 4294967295 (U (wd ys (j - k))) = U (wd ys (j - k)) := by have := U_and ones (wd ys (j - k)); rw [and_ones] at this; exact this
              clear rd
              go_wp2
              go_round
              case rel => exact ⟨j + 1, by omega, by go_num⟩
              case measure => simp [intOf]; omega
            · have y0 : ¬ (j : Int) < (k : Int) + (m : Int) := by omega
              rw [if_neg (fun h => hyb h.2), if_neg (fun h => hxa h.2)] at g0
              have g1 : w5.cell? ⟨g, j, none⟩ = some (.int .u32 4294967295) := g0
              clear g0
              clear rd
              go_wp2
              go_round
              case rel => exact ⟨j + 1, by omega, by go_num⟩
              case measure => simp [intOf]; omega
        · have k0 : ¬ (k : Int) ≤ (j : Int) := by omega
          rw [if_neg (fun h => hkj h.1), if_neg (fun h => hkj h.1)] at g0
          have g1 : w5.cell? ⟨g, j, none⟩ = some (.int .u32 4294967295) := g0
          clear g0
          go_wp2
          go_round
          case rel => exact ⟨j + 1, by omega, by go_num⟩
          case measure => simp [intOf]; omega
      · obtain rfl : j = 128 := by omega
        go_wp2
        go_ret
        exact ⟨rfl, B5.out⟩
  · have e : n = N := by have := HN.out; omega
    subst e
    refine (S3.out.read FF.out.f2.ok k _ (by omega) (by omega) (by omega) (by omega)).mono ?_
    rw [FF.out.e3]
    rintro e w4 ⟨A4, c4, rfl, r4, z4, s4, t4⟩
    rw [FF.out.len] at r4 ⊢
    have R4 := Lib.hid r4
    have S4 : Hid (Dv _ _ _ _ _ _ d3 _) := Lib.hid s4
    have B4 := Lib.hid (B3.out.trans (may_below t4 S3.out.size))
    clear r4 s4 t4
    go_wp2_with fail
    refine (S4.out.wordsAt FF.out.f3.ok 128 FF.out.f3.len).mono ?_
    rintro e w5 ⟨g, cg, rfl, hcell, hcap, hmax, b5⟩
    rw [FF.out.c3] at hcell
    have HC := Lib.hid hcell
    have R5 := Lib.hid (R4.out.kept b5)
    have B5 := Lib.hid (B4.out.trans (b5.mono B4.out.size))
    have XA := Lib.hid (HR.out.kept B5.out)
    have YA := Lib.hid (HS.out.kept B5.out)
    clear hcell b5 hk c0
    go_wp2
    go_loop [81] (fun i => ∃ j : Nat, j ≤ 128 ∧ i = .int .i64 j) (fun i => 128 - (intOf i).toNat)
    case atStart => exact ⟨0, by omega, rfl⟩
    case round =>
      obtain ⟨j, hj, rfl⟩ := hrel
      by_cases hlt : j < 128
      · have g0 := HC.out j hlt
        rw [FF.out.ws j hlt, HR.out.len, HS.out.len] at g0
        have j0 : (0 : Int) ≤ (j : Int) := by omega
        have j1 : (j : Int) < 128 := by omega
        by_cases hkj : k ≤ j
        · have k0 : (k : Int) ≤ (j : Int) := by omega
          have ejk : (j : Int) - (k : Int) = ((j - k : Nat) : Int) := by omega
          have rd := FF.out.rd (j - k)
          rw [show k + (j - k) = j by omega, FF.out.ws j hlt, HR.out.len, HS.out.len] at rd
          by_cases hxa : j < k + n
          · have x0 : (j : Int) < (k : Int) + (n : Int) := by omega
            obtain ⟨xa, rfl, hxc⟩ := XA.out.at_ (show j - k < n by omega)
            by_cases hyb : j < k + m
            · have y0 : (j : Int) < (k : Int) + (m : Int) := by omega
              obtain ⟨ya, rfl, hyc⟩ := YA.out.at_ (show j - k < m by omega)
              obtain ⟨za, rfl, hzc⟩ := R5.out.at_ (show j - k < n by omega)
              rw [rd (by omega)] at hzc
              rw [if_pos ⟨hkj, hyb⟩, if_pos ⟨hkj, hxa⟩] at g0 hzc
              rw [and_ones] at g0 hzc
              have ex : bits .and .u32 4294967295 (U (wd xs (j - k))) = U (wd xs (j - k)) := by have := U_and ones (wd xs (j - k)); rw [and_ones] at this; exact this
              clear rd
              go_wp2
              go_round
              case rel => exact ⟨j + 1, by omega, by go_num⟩
              case measure => simp [intOf]; omega
            · have y0 : ¬ (j : Int) < (k : Int) + (m : Int) := by omega
              obtain ⟨za, rfl, hzc⟩ := R5.out.at_ (show j - k < n by omega)
              rw [rd (by omega)] at hzc
              rw [if_neg (fun h => hyb h.2), if_pos ⟨hkj, hxa⟩] at g0 hzc
              rw [and_ones] at g0 hzc
              have ex : bits .and .u32 4294967295 (U (wd xs (j - k))) = U (wd xs (j - k)) := by have := U_and ones (wd xs (j - k)); rw [and_ones] at this; exact this
              clear rd
              go_wp2
              go_round
              case rel => exact ⟨j + 1, by omega, by go_num⟩
              case measure => simp [intOf]; omega
          · have x0 : ¬ (j : Int) < (k : Int) + (n : Int) := by omega
            by_cases hyb : j < k + m
            · exact absurd hyb (by omega)
            · have y0 : ¬ (j : Int) < (k : Int) + (m : Int) := by omega
              rw [if_neg (fun h => hyb h.2), if_neg (fun h => hxa h.2)] at g0
              have g1 : w5.cell? ⟨g, j, none⟩ = some (.int .u32 4294967295) := g0
              clear g0
              clear rd
              go_wp2
              go_round
              case rel => exact ⟨j + 1, by omega, by go_num⟩
              case measure => simp [intOf]; omega
        · have k0 : ¬ (k : Int) ≤ (j : Int) := by omega
          rw [if_neg (fun h => hkj h.1), if_neg (fun h => hkj h.1)] at g0
          have g1 : w5.cell? ⟨g, j, none⟩ = some (.int .u32 4294967295) := g0
          clear g0
          go_wp2
          go_round
          case rel => exact ⟨j + 1, by omega, by go_num⟩
          case measure => simp [intOf]; omega
      · obtain rfl : j = 128 := by omega
        go_wp2
        go_ret
        exact ⟨rfl, B5.out⟩
end Go.Proofs.Ytfckgfimmoinmaa
