/- The walk of layer sector's statement SectorTurns: the window goes through its sixteen words, and begins anew. -/
import Derived.Test.YtpkkejdjhnmjiaaPd6
import Derived.Test.YtpkkejdjhnmjiaaLaw
import Derived.OpenShut
namespace Go.Proofs.Ytpkkejdjhnmjiaa
open Go.RowKit Bm

theorem w16_size : (Try.prog.info? 32).map (·.size) = some 16 := by kernel_rfl
theorem part_u32 (w : World) (cs : Array Value) (i : Nat) (v : Value) (h : cs[i]? = some v) : (Go.part 31 cs i).run Try.prog w = .ok v w := run_part4 w cs i v h
theorem run_ix16 (ks : List (BitVec 32)) (hk : ks.length = 16) (i : Nat) (hi : i < 16) (W : World) : (Instr.index 32 (.agg (Us ks).toArray) (.int .i64 (i : Int))).run Try.prog W = .ok (.int .u32 (U (wd ks i))) W := by
  have hp := run_part4 W (Us ks).toArray i (.int .u32 (U (wd ks i))) (by rw [List.getElem?_toArray]; exact Us_get ks i (by omega))
  have hs := run_size4 W
  unfold Instr.index
  simp only [asIntOf, Sem.run_bind, Sem.run_pure, Result.andThen_ok, run_underlying Try.underlying32]
  rw [if_pos (by omega)]
  simp only [Sem.run_bind, hs, Result.andThen_ok, Int.toNat_natCast, Nat.mul_one]
  exact hp
section
variable {α : Type} {D : Dk10 α} {d : DvM} {a : α}
/-- A command of no sectors. -/
theorem cmd_none2 (v : BitVec 32) (hm : d.many = 0#32) : (pSet D 0 v d a).1.place = 0 ∧ (pSet D 0 v d a).1.buf = d.buf ∧ (pSet D 0 v d a).2.1 = a := by
  have hf : pFar (D.len a) (dCalm d) := .inl (by show U d.many < 1; rw [hm]; decide)
  show (pCmd D (U v) d a).1.place = 0 ∧ (pCmd D (U v) d a).1.buf = d.buf ∧ (pCmd D (U v) d a).2 = a
  unfold pCmd pTrans
  rw [if_pos hf]
  split
  · exact ⟨rfl, rfl, rfl⟩
  split
  · exact ⟨rfl, rfl, rfl⟩
  · exact ⟨rfl, rfl, rfl⟩
end
set_option maxRecDepth 100000 in
set_option maxHeartbeats 4000000 in
theorem sectorTurns_walk (ws : List (BitVec 32)) (hl : ws.length = 16) (n : Int) (wn : (Lit.int .u8 n).wf = true) (v : Int) (wv : (Lit.int .u32 v).wf = true) (w : World) :
    Calls Try.prog 7 #[.agg (Us ws).toArray, .int .u8 n, .int .u32 v] w fun e w' => e = .returned (.bool true) ∧ Below w.heap.size w w' := by
  have bn := bounds_u8 wn
  have bv := bounds_u32 wv
  obtain ⟨x, rfl⟩ := U_of bv.1 (by omega)
  have n0 := bn.1
  have n1 := bn.2
  clear wn wv bn bv
  obtain ⟨W0, hW0⟩ : ∃ W0, W0 = w.alloc (.cells (Us ws).toArray 32) := ⟨_, rfl⟩
  have a0 : At W0 w.heap.size 32 (Us ws) := by rw [hW0]; exact At.news w _ _
  have b0 : Below w.heap.size w W0 := by rw [hW0]; exact (Below.refl _ w).alloc (Nat.le_refl _) _
  have HA0 := Lib.hid a0
  have HB0 := Lib.hid b0
  have HL := Lib.hid hl
  have HLU : Hid ((Us ws).length = 16) := Lib.hid (by rw [Us_length]; exact hl)
  obtain ⟨i0, hin, hz0, hz1, hz2⟩ := info_parts v4_infoA
  clear a0 b0
  go_enter Try.func7, Try.ntmps7
  go_upto_region 1 with (fail)
  change Code.wp _ _ _ _ (w.alloc (.cells (Us ws).toArray 32))
  rw [← hW0]
  clear hW0
  go_wp2_with (first
    | (go_at_call 9; (refine (alive10_any W0).mono ?_); rintro e wa ⟨rfl, hBa⟩; have HBA := Lib.hid hBa; clear hBa)
    | (at_make; refine halt_here ?_))
  refine Lib.hid ?_
  refine wpList_madeK v4K wa rfl _ _ rfl wa.heap.size Try.underlying25 hin hz0 hz1 hz2 (by omega) 2 (by rfl) (by rfl) (by omega) (Nat.le_refl _) ?_
  intro w1 h1 h2
  have HB1 := Lib.hid (HB0.out.trans ((HBA.out.trans (h2.mono HBA.out.size)).mono (by have := HB0.out.size; omega)))
  have HA1 := Lib.hid (at_stay HA0.out (HBA.out.trans (h2.mono HBA.out.size)))
  have HZ1 : Hid (w.heap.size < wa.heap.size ∧ wa.heap.size ≤ w1.heap.size) := Lib.hid ⟨by have := HA0.out.lt; have := HBA.out.size; omega, h2.size⟩
  have HNW := Lib.hid (fun W hW => new_mem (B := w.heap.size) (m := (⟨[v40, v40], 0, 0⟩ : MemM)) (w := W) (K := Just w.heap.size) (own_base h1 (by have := HZ1.out; omega)) (by decide) (by decide) HB1.out.size (fun i e => by rw [show i = w.heap.size from e]; have := HZ1.out; omega) (fun g e e2 => by have h9 := HZ1.out; have h8 : wa.heap.size = g := congrArg Addr.block (Option.some.inj e); unfold Just at e2; omega) hW)
  clear h1 h2 HBA HA0 HB0
  simp only [Act.put, List.setIfInBounds_toArray, List.set_cons_zero, List.set_cons_succ]
  go_upto_region 5 with (go_at_call 10; (refine (HNW.out _ rfl).mono ?_); rintro e w2 ⟨q, rfl, p0, b0, -⟩; have P0 := Lib.hid p0; have B0 := Lib.hid (HB1.out.trans (b0.mono HB1.out.size)); have HA2 := Lib.hid (at_stay HA1.out b0); clear p0 b0)
  obtain ⟨D, hDd⟩ : ∃ D, D = memD w.heap.size w1.heap.size (some ⟨wa.heap.size, 0, none⟩) 2 := ⟨_, rfl⟩
  have HD : Hid D.Is := Lib.hid (by rw [hDd]; exact mem_is ..)
  have HDB : Hid (D.B = w.heap.size) := Lib.hid (by rw [hDd]; rfl)
  have HRM : Hid (∀ m n, D.room m n) := Lib.hid (by rw [hDd]; exact fun _ _ => trivial)
  rw [← hDd] at P0
  obtain ⟨m, hm⟩ : ∃ m : MemM, m = ⟨[v40, v40], 0, 0⟩ := ⟨_, rfl⟩
  rw [← hm] at P0
  obtain ⟨b3, hb3⟩ : ∃ b3, b3 = w.heap.size := ⟨_, rfl⟩
  rw [← hb3] at P0 HA2 ⊢
  have HB3 := Lib.hid hb3
  clear hDd hm HNW HA1 HB1 HZ1 hb3
  have HUN : Hid (∀ {W W' : World}, Turned (Un10 D.B (Just b3)) W W' → At W b3 32 (Us ws) → Below w.heap.size w W → At W' b3 32 (Us ws) ∧ Below w.heap.size w W') := Lib.hid (fun t hA hB => ⟨hA.kept t (fun e => e.2 rfl), by rw [HDB.out] at t; exact hB.trans (un_below t hB.size)⟩)
  have hix := run_ix16 ws HL.out
  go_upto_region 8 with (refine wpList_ldr (xs := Us ws) _ rfl rfl rfl Try.underlying32 rfl w16_size HLU.out HA2.out.rng0 ?_)
  go_loopw [27] (fun i wr => ∃ (j : Nat) (d : DvM), j ≤ 16 ∧ i = .int .i64 j ∧ PdAt D q (Just b3) d m wr ∧ At wr b3 32 (Us ws) ∧ Below w.heap.size w wr ∧ d.place = j % 16 ∧ ∀ i, i < j → wd d.buf i = wd ws i) (fun i _ => 16 - (intOf i).toNat)
  case atStart => exact ⟨0, pd0, Nat.zero_le _, rfl, P0.out, HA2.out, B0.out, rfl, fun i hi => absurd hi (by omega)⟩
  case round =>
    obtain ⟨j, d, hj, rfl, hp, hA, hB, hpl, hw⟩ := hrel
    have HP := Lib.hid hp
    have HA := Lib.hid hA
    have HB := Lib.hid hB
    have HPL := Lib.hid hpl
    have HW := Lib.hid hw
    clear hp hA hB hpl hw P0 HA2 B0
    by_cases hlt : j < 16
    · have ht : (j : Int) < 16 := by omega
      have hx := hix j hlt
      have HS := Lib.hid (HP.out.setTo HD.out (HRM.out m 4) 5 (wd ws j) (d' := { d with buf := d.buf.set d.place (wd ws j), place := dNext d.place }) (a' := m) (e0 := 0) rfl rfl)
      go_wp2_with (go_at_call 13; (with_reducible refine HS.out.mono ?_); rintro e w3 ⟨rfl, p1, t1⟩; have HP1 := Lib.hid p1; have HU := Lib.hid (HUN.out t1 HA.out HB.out); clear p1 t1)
      go_roundw
      case rel =>
        refine ⟨j + 1, _, by omega, by go_num, HP1.out, HU.out.1, HU.out.2, ?_, fun i hi => ?_⟩
        · show dNext d.place = _
          rw [HPL.out]
          unfold dNext
          omega
        · have hpj : d.place = j := by rw [HPL.out]; omega
          show wd (d.buf.set d.place (wd ws j)) i = wd ws i
          rw [hpj]
          by_cases he : i = j
          · subst he
            unfold wd
            rw [List.getD_eq_getElem?_getD, List.getElem?_set_self (by rw [HP.out.b]; exact hlt)]
            rfl
          · have := HW.out i (by omega)
            unfold wd at this ⊢
            rw [List.getD_eq_getElem?_getD, List.getElem?_set_ne (by omega), ← List.getD_eq_getElem?_getD]
            exact this
      case measure => simp [intOf]; omega
    · have HJ16 : Hid (j = 16) := Lib.hid (by omega)
      have hge : ¬ (j : Int) < 16 := by omega
      have hbuf : d.buf = ws := List.ext_getElem (by rw [HP.out.b, HL.out]) (fun i h1 h2 => by
        have := HW.out i (by rw [HJ16.out]; rw [HL.out] at h2; exact h2)
        unfold wd at this
        rw [List.getD_eq_getElem?_getD, List.getD_eq_getElem?_getD, List.getElem?_eq_getElem h1, List.getElem?_eq_getElem h2] at this
        exact this)
      have HBF := Lib.hid hbuf
      obtain ⟨N, hN, hN1⟩ : ∃ N : Nat, (16 : Int) + n % 16 = (N : Int) ∧ N ≤ 32 := ⟨(16 + n % 16).toNat, by omega, by omega⟩
      have hN0 : (0 : Int) ≤ N := by omega
      clear hbuf hix
      have hpl0 : d.place = 0 % 16 := by rw [HPL.out, HJ16.out]
      have HPL0 := Lib.hid hpl0
      clear hlt hj hpl0
      rename World => wr1
      go_wp2
      go_loopw [38] (fun i wr => ∃ (j : Nat) (d : DvM), j ≤ N ∧ i = .int .i64 j ∧ PdAt D q (Just b3) d m wr ∧ At wr b3 32 (Us ws) ∧ Below w.heap.size w wr ∧ d.place = j % 16 ∧ d.buf = ws) (fun i _ => N - (intOf i).toNat)
      case atStart => exact ⟨0, d, Nat.zero_le _, rfl, HP.out, HA.out, HB.out, HPL0.out, HBF.out⟩
      case round =>
        obtain ⟨j, d2, hj, rfl, hp, hA, hB, hpl, hb⟩ := hrel
        have HP2 := Lib.hid hp
        have HA2 := Lib.hid hA
        have HB2 := Lib.hid hB
        have HPL2 := Lib.hid hpl
        have HBF2 := Lib.hid hb
        clear hp hA hB hpl hb HP HA HB HPL HW HBF HPL0
        by_cases hlt : j < N
        · have ht : (j : Int) < N := by omega
          have hj0 : (0 : Int) ≤ j := by omega
          obtain ⟨r, hr⟩ : ∃ r, r = j % 16 := ⟨_, rfl⟩
          have hm0 : (j : Int) % 16 = (r : Int) := by omega
          have hm1 : (r : Int) < 16 := by omega
          have hm2 : (0 : Int) ≤ r := by omega
          have HM16 : Hid (r < 16) := Lib.hid (by omega)
          have HRJ := Lib.hid hr
          clear hr
          have HG : Hid (Calls Try.prog 14 #[.pointer (some ⟨q, 0, none⟩), .int .i64 5] wr fun e w' => e = .returned (.tuple #[.int .u32 (U (wd ws r)), .int .i64 0]) ∧ PdAt D q (Just b3) { d2 with place := dNext d2.place } m w' ∧ Turned (Un10 D.B (Just b3)) wr w') := Lib.hid (by
            have h := HP2.out.getTo HD.out 5 (n := D.len m) rfl (d' := { d2 with place := dNext d2.place }) (v := wd d2.buf d2.place) (e0 := 0) rfl rfl
            rw [HBF2.out, HPL2.out, ← HRJ.out] at h
            rw [HBF2.out, HPL2.out, ← HRJ.out]
            exact h)
          go_upto_region 16 with (go_at_call 14; (with_reducible refine HG.out.mono ?_); rintro e w3 ⟨rfl, p1, t1⟩; have HP3 := Lib.hid p1; have HU := Lib.hid (HUN.out t1 HA2.out HB2.out); clear p1 t1)
          have cj : w3.cell? ⟨b3, r, none⟩ = some (.int .u32 (U (wd ws r))) := by
            rw [HU.out.1.cell]
            exact Us_get _ _ (by rw [HL.out]; exact HM16.out)
          go_wp2
          go_roundw
          case rel =>
            refine ⟨j + 1, _, by omega, by go_num, HP3.out, HU.out.1, HU.out.2, ?_, HBF2.out⟩
            show dNext d2.place = _
            rw [HPL2.out]
            unfold dNext
            omega
          case measure => simp [intOf]; omega
        · obtain rfl : j = N := by omega
          have HS1 := Lib.hid (HP2.out.setTo HD.out (HRM.out m 4) 2 0#32 (d' := { d2 with many := 0#32 }) (a' := m) (e0 := 0) (V := 0) rfl rfl)
          go_upto_region 20 with (go_at_call 13; (with_reducible refine HS1.out.mono ?_); rintro e w3 ⟨rfl, p1, t1⟩; have HP3 := Lib.hid p1; have HU3 := Lib.hid (HUN.out t1 HA2.out HB2.out); clear p1 t1)
          obtain ⟨g1, g2, g3⟩ := cmd_none2 (D := D) (d := { d2 with many := 0#32 }) (a := m) x rfl
          have g4 : (pSet D 0 x { d2 with many := 0#32 } m).2.2 = 0 := rfl
          obtain ⟨r, hr⟩ : ∃ r, r = pSet D 0 x { d2 with many := 0#32 } m := ⟨_, rfl⟩
          rw [← hr] at g1 g2 g3 g4
          obtain ⟨d4, m4, e4⟩ := r
          dsimp only at g1 g2 g3 g4
          subst g3 g4
          have HS2 := Lib.hid (HP3.out.setTo HD.out (HRM.out m4 4) 0 x hr.symm rfl)
          have HG4 : Hid (d4.place = 0 ∧ d4.buf = ws) := Lib.hid ⟨g1, g2.trans HBF2.out⟩
          clear hr g1 g2
          go_upto_region 21 with (go_at_call 13; (with_reducible refine HS2.out.mono ?_); rintro e w4 ⟨rfl, p1, t1⟩; have HP4 := Lib.hid p1; have HU4 := Lib.hid (HUN.out t1 HU3.out.1 HU3.out.2); clear p1 t1)
          have HG : Hid (Calls Try.prog 14 #[.pointer (some ⟨q, 0, none⟩), .int .i64 5] w4 fun e w' => e = .returned (.tuple #[.int .u32 (U (wd ws 0)), .int .i64 0]) ∧ PdAt D q (Just b3) { d4 with place := dNext d4.place } m4 w' ∧ Turned (Un10 D.B (Just b3)) w4 w') := Lib.hid (by
            have h := HP4.out.getTo HD.out 5 (n := D.len m4) rfl (d' := { d4 with place := dNext d4.place }) (v := wd d4.buf d4.place) (e0 := 0) rfl rfl
            rw [HG4.out.1, HG4.out.2] at h
            rw [HG4.out.1, HG4.out.2]
            exact h)
          go_upto_region 22 with (go_at_call 14; (with_reducible refine HG.out.mono ?_); rintro e w5 ⟨rfl, p1, t1⟩; have HU5 := Lib.hid (HUN.out t1 HU4.out.1 HU4.out.2); clear p1 t1)
          have c0 : w5.cell? ⟨b3, 0, none⟩ = some (.int .u32 (U (wd ws 0))) := by
            rw [HU5.out.1.cell]
            exact Us_get _ _ (by rw [HL.out]; omega)
          go_wp2
          go_ret
          exact ⟨rfl, HU5.out.2⟩
end Go.Proofs.Ytpkkejdjhnmjiaa
