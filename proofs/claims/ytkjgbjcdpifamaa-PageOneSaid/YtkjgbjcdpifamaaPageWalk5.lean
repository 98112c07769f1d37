/- The walk of layer page's statement PageOne. -/
import Derived.Test.YtkjgbjcdpifamaaPageWalk4
namespace Go.Proofs.Ytkjgbjcdpifamaa
open Go.RowKit Bm

theorem flip_last : ∀ n : Nat, n < 32 → (1526644958#32 ^^^ (1#32 <<< n)) ≠ 4294967295#32 := by decide
theorem flip_zero : ∀ n : Nat, n < 32 → (1#32 <<< n) ≠ 0#32 := by decide
theorem flip_ne (x : BitVec 32) (n : Nat) (hn : n < 32) : x ≠ x ^^^ (1#32 <<< n) := by
  intro e
  apply flip_zero n hn
  have : x ^^^ x = x ^^^ (x ^^^ (1#32 <<< n)) := by rw [← e]
  rw [BitVec.xor_self, ← BitVec.xor_assoc, BitVec.xor_self, BitVec.zero_xor] at this
  exact this.symm

set_option maxRecDepth 100000 in
set_option maxHeartbeats 16000000 in
theorem pageOne_walk (p : PageM) (a0 : Int) (ha0 : (Lit.int .u8 a0).wf = true) (b0 : Int) (hb0 : (Lit.int .u8 b0).wf = true) (w : World) :
    Calls Try.prog 8 #[pgV p, .int .u8 a0, .int .u8 b0] w fun e w' => e = .returned (.bool true) ∧ Below w.heap.size w w' := by
  have ca := bounds_u8 ha0
  have cb := bounds_u8 hb0
  clear ha0 hb0
  have HAL := Lib.hid (fun W => alive4_any W)
  obtain ⟨Z0, hZ0⟩ : ∃ Z, Z = w.alloc (.cells (pgC p).toArray 25) := ⟨_, rfl⟩
  have b0' : Below w.heap.size w Z0 := by rw [hZ0]; exact (Below.refl _ w).alloc (Nat.le_refl _) _
  have AZ : PgAt Z0 w.heap.size 25 p := by rw [hZ0]; exact PgAt.news w _ _
  have B0 := Lib.hid b0'
  have HZ := Lib.hid hZ0
  have P0 := Lib.hid AZ
  clear b0' AZ hZ0
  have PW := Lib.hid (fun W => pwords_any p W)
  have PR := Lib.hid (fun W => pright_any p W)
  cases hp : pgOk p
  · rw [pgWs_no hp] at PW
    rw [hp] at PR
    clear hp
    unfold pgV pgC at PW PR ⊢
    go_enter Try.func8, Try.ntmps8
    go_upto_region 1 with fail
    change Code.wp _ _ _ _ (w.alloc (.cells (pgC p).toArray 25))
    rw [← HZ.out]
    go_wp2_with (first
      | (go_at_call 9; (refine (HAL.out _).mono ?_); rintro e w1 ⟨rfl, hb⟩; have P1 := Lib.hid (P0.out.on hb); have B1 := Lib.hid (below_then B0.out hb); clear hb; obtain ⟨p10, p11, p12, p13, p14, p15, p16⟩ := P1.out.cells)
      | (go_at_call 15; (refine (PW.out _).mono ?_); rintro e w2 ⟨A2, c2, rfl, h2, _, hb⟩; have P2 := Lib.hid (P1.out.on hb); have B2 := Lib.hid (below_then B1.out hb); clear hb h2; obtain ⟨p20, p21, p22, p23, p24, p25, p26⟩ := P2.out.cells)
      | (go_at_call 12; (refine (PR.out _).mono ?_); rintro e w3 ⟨rfl, hb⟩; have B3 := Lib.hid (below_then B2.out hb); clear hb))
    go_ret
    exact ⟨rfl, B3.out⟩
  · rw [pgWs_yes hp] at PW
    clear PR
    unfold pgV pgC at PW ⊢
    go_enter Try.func8, Try.ntmps8
    go_upto_region 1 with fail
    change Code.wp _ _ _ _ (w.alloc (.cells (pgC p).toArray 25))
    rw [← HZ.out]
    go_upto_region 6 with (first
      | (go_at_call 9; (refine (HAL.out _).mono ?_); rintro e w1 ⟨rfl, hb⟩; have P1 := Lib.hid (P0.out.on hb); have B1 := Lib.hid (below_then B0.out hb); clear hb; obtain ⟨p10, p11, p12, p13, p14, p15, p16⟩ := P1.out.cells)
      | (go_at_call 15; (refine (PW.out _).mono ?_); rintro e w2 ⟨A2, c2, rfl, h2, ho, hb⟩; obtain ⟨g, rest, rfl, hA, hc, hg⟩ := ho (by simp); have HA := Lib.hid hA; have HC := Lib.hid hc; have HG := Lib.hid hg; have HR2 := Lib.hid h2; have P2 := Lib.hid (P1.out.on hb); have B2 := Lib.hid (below_then B1.out hb); have L1 := Lib.hid (P1.out.at_.lt); clear hb h2 ho hA hc hg; obtain ⟨p20, p21, p22, p23, p24, p25, p26⟩ := P2.out.cells))
    obtain ⟨ws, hws⟩ : ∃ ws, ws = [pgFirst p, p.q, p.d0, p.d1, p.d2, p.d3, 1526644958#32] := ⟨_, rfl⟩
    have hwl : ws.length = 7 := by rw [hws]; rfl
    have HA' := HA.out
    rw [← hws] at HA'
    have i0 : (0 : Int) ≤ a0 % 7 := by omega
    have i1 : a0 % 7 < 7 := by omega
    have i2 : (a0 % 7).toNat < 7 := by omega
    have gi : w2.cell? ⟨g, (a0 % 7).toNat, none⟩ = some (.int .u32 (U (wd ws (a0 % 7).toNat))) := by
      rw [HA'.cell, List.getElem?_append_left (by rw [Us_length]; omega)]
      exact Us_get ws _ (by omega)
    have fi := HA'.frozen (a0 % 7).toNat
    have HA2 := Lib.hid HA'
    have HWS := Lib.hid hws
    have HWL := Lib.hid hwl
    have I2 := Lib.hid i2
    clear HA' hws hwl i2
    obtain ⟨y, hy⟩ : ∃ y, y = wd ws (a0 % 7).toNat ^^^ (1#32 <<< (b0 % 32).toNat) := ⟨_, rfl⟩
    have hsh : (2 : Int) ^ (b0 % 32).toNat % 4294967296 = U (1#32 <<< (b0 % 32).toNat) := by
      have := U_shl 1#32 (b0 % 32).toNat
      rw [show U 1#32 = 1 from rfl, Int.one_mul] at this
      exact this
    have hyy := hy.symm
    have HY := Lib.hid hy
    clear hy
    go_upto_region 7 with fail
    have hy := HY.out
    obtain ⟨V, hV⟩ : ∃ V, V = w2.setCell ⟨g, (a0 % 7).toNat, none⟩ (.int .u32 (U y)) := ⟨_, rfl⟩
    rw [← hV]
    obtain ⟨vs, hvs⟩ : ∃ vs, vs = ws.set (a0 % 7).toNat y := ⟨_, rfl⟩
    have hlt := I2.out
    have AV : At V g 22 (Us vs ++ rest) := by
      rw [hV, hvs]
      refine (HA2.out.put (a0 % 7).toNat _).as ?_
      rw [List.set_append_left _ _ (by rw [Us_length, HWL.out]; exact hlt), Us_set]
    have hvl : vs.length = 7 := by rw [hvs, List.length_set, HWL.out]
    have RV := ReadsU.of_at AV (cap := c2) (by rw [List.length_append, Us_length, hvl, ← HC.out, List.length_append, Us_length]; rfl) HR2.out.max
    rw [hvl] at RV
    have hg0 : w.heap.size ≤ g := Nat.le_trans (Nat.le_of_lt (Nat.lt_of_lt_of_le L1.out (Nat.le_refl _))) HG.out
    have PV : PgAt V w.heap.size 25 p := by
      rw [hV]
      exact ⟨P2.out.at_.far (P2.out.at_.ne HA2.out (by decide)) _⟩
    have BV : Below w.heap.size w V := by rw [hV]; exact B2.out.setCell (p := ⟨g, (a0 % 7).toNat, none⟩) hg0 _
    have hfree : freeB vs = false := by
      refine freeB_no (i := 6) (by omega) ?_
      have hw6 : wd ws 6 = 1526644958#32 := by rw [HWS.out]; rfl
      by_cases e6 : (a0 % 7).toNat = 6
      · rw [show wd vs 6 = y by rw [hvs, e6]; unfold wd; rw [List.getD_eq_getElem?_getD, List.getElem?_set_self (by rw [HWL.out]; omega)]; rfl]
        rw [hy, e6, hw6]
        exact flip_last _ (by omega)
      · rw [show wd vs 6 = wd ws 6 by rw [hvs]; unfold wd; rw [List.getD_eq_getElem?_getD, List.getD_eq_getElem?_getD, List.getElem?_set_ne e6], hw6]
        decide
    have hdiff : vs ≠ ws := by
      intro e
      have h1 : wd vs (a0 % 7).toNat = y := by rw [hvs]; unfold wd; rw [List.getD_eq_getElem?_getD, List.getElem?_set_self (by rw [HWL.out]; exact hlt)]; rfl
      rw [e, hy] at h1
      exact flip_ne (wd ws (a0 % 7).toNat) (b0 % 32).toNat (by omega) h1
    obtain ⟨v0, v1, v2, v3, v4, v5, v6⟩ := PV.cells
    have RVV := Lib.hid RV
    have PVV := Lib.hid PV
    have BVV := Lib.hid BV
    have HVS := Lib.hid hvs
    have HVL := Lib.hid hvl
    clear hV AV RV PV BV hvs hlt hg0 hsh hyy hy gi fi p20 p21 p22 p23 p24 p25 p26
    by_cases hv : pgWs (pgOf vs) = vs
    · have ER := Lib.hid (pgRd_good HVL.out hfree hv)
      obtain ⟨r, hr⟩ : ∃ r, r = pgOf vs := ⟨_, rfl⟩
      rw [← hr] at hv ER
      have hrp : r ≠ p := by
        intro e
        apply hdiff
        rw [← hv, e, HWS.out]
        exact pgWs_yes hp
      have df := pg_eql_no hrp
      have PWr := Lib.hid (fun W => pwords_any r W)
      rw [hv] at PWr
      unfold pgV pgC at PWr
      have HL7 := Lib.hid (show vs.length ≤ 1000000 by rw [HVL.out]; omega)
      clear hv hr hrp hfree hdiff hp hvl
      go_wp2_with (first
        | (go_at_call 10; (refine (pread_any _ _ _ _ _ RVV.out (by omega)).mono ?_); rintro e w4 ⟨rfl, hb⟩; rw [ER.out]; simp only [pgV, pgC]; have al := (Below.refl _ w4).alloc (Nat.le_refl _) (.cells (pgC r).toArray 28); have R4 := Lib.hid ((RVV.out.kept hb).kept al); have P4 := Lib.hid ((PVV.out.on hb).on al); have X4 := Lib.hid (PgAt.news w4 28 r); have B4 := Lib.hid (below_then (below_then BVV.out hb) al); obtain ⟨p40, p41, p42, p43, p44, p45, p46⟩ := P4.out.cells; obtain ⟨x40, x41, x42, x43, x44, x45, x46⟩ := X4.out.cells; simp only [pgC] at p40 p41 p42 p43 p44 p45 p46 x40 x41 x42 x43 x44 x45 x46; clear hb al)
        | (go_at_call 15; (refine (PWr.out _).mono ?_); rintro e w5 ⟨A5, c5, rfl, h5, _, hb⟩; have HR5 := Lib.hid h5; have R5 := Lib.hid (R4.out.kept hb); have B5 := Lib.hid (below_then B4.out hb); clear hb h5; rw [HVL.out] at HR5 ⊢)
        | (go_at_call 14; (refine (same_words _ _ _ _ _ _ _ HR5.out R5.out (by omega)).mono ?_); rintro e w6 ⟨rfl, mm, rfl⟩))
      go_ret
      exact ⟨rfl, B5.out.trans (below_drewN' _ _ _)⟩
    · have ER := Lib.hid (pgRd_torn HVL.out hfree hv)
      clear hv hfree hdiff hp hvl
      go_wp2_with (go_at_call 10; (refine (pread_any _ _ _ _ _ RVV.out (by omega)).mono ?_); rintro e w4 ⟨rfl, hb⟩; rw [ER.out]; simp only [pgV, pgC, pg0]; have B4 := Lib.hid (below_then BVV.out hb); clear hb)
      go_ret
      exact ⟨rfl, below_then B4.out ((Below.refl _ w4).alloc (Nat.le_refl _) _)⟩
end Go.Proofs.Ytkjgbjcdpifamaa
