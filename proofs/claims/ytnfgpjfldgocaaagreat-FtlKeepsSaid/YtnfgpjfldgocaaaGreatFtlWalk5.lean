/- The walk of layer ftl's statement FtlKeeps: without a cut each sector is what it was written last, or nothing. -/
import Derived.Test.YtnfgpjfldgocaaaGreatFtlWalk3
namespace Go.Proofs.YtnfgpjfldgocaaaGreat
open Go.RowKit Bm Go.Shelf

/-- A slice of values, its row known. -/
theorem own_vals {w : World} {base n cap : Nat} {A : Option Addr} {V : BitVec 32 → List (BitVec 32)} (hV : ∀ n, (V n).length = 4) (h : w.ownsRow base 44 4 (.slice A n cap) n (vls V n)) : ReadsV w A n cap (fun j => V (BitVec.ofNat 32 j)) := by
  obtain ⟨A', cap', e, hr⟩ := own_readsV hV h
  simp only [Value.slice.injEq] at e
  obtain ⟨rfl, _, rfl⟩ := e
  exact hr
theorem sectors8_any (k : Nat) (k3 : 3 ≤ k) (k64 : k ≤ 64) (w : World) : Calls Tryz.prog 14 #[.int .i64 k] w fun e w' => e = .returned (.int .i64 (secs k)) ∧ w' = w := by
  have h1 : ((k : Int) - 3) * 6 = secs k := rfl
  have h2 : (3 : Int) ≤ (k : Int) := by omega
  have h3 : (k : Int) ≤ 64 := by omega
  go_enter Tryz.func14, Tryz.ntmps14
  go_wp2
  go_ret
  exact ⟨rfl, rfl⟩
/-- What the document puts is what the store has. -/
theorem vls_put (k n : Nat) (V : BitVec 32 → List (BitVec 32)) (a : Act8) (hn : (n : Int) ≤ secs k) (h5 : secs k ≤ 400) : vls (putV V a.s (v8 a)) n = vls (val8 k a V) n := by
  induction n with
  | zero => rfl
  | succ n ih =>
    rw [vls_succ, vls_succ, ih (by omega)]
    congr 2
    have hU : U (BitVec.ofNat 32 n) = (n : Int) := U_ofNat n (by omega)
    unfold putV val8
    rw [hU]
    by_cases he : (n : Int) = a.s
    · rw [if_pos he, if_pos ⟨⟨by omega, by omega⟩, by rw [← he, Int.toNat_natCast]⟩]
    · rw [if_neg he, if_neg]
      rintro ⟨⟨h1, h2⟩, h3⟩
      have h4 := congrArg U h3
      rw [hU, U_ofNat a.s.toNat (by omega)] at h4
      omega

theorem Well.retired {C : Prop} {B p f q s k : Nat} {K : Nat → Prop} {Q W T E : Int} {V : BitVec 32 → List (BitVec 32)} {d : DrvM} {x : StoM} {w : World} (h : Well C B p f q s k K Q W T E V w d x) : Calls Tryz.prog 22 #[.pointer (some ⟨s, 0, none⟩)] w fun e w' => e = .returned (.int .i64 0) ∧ w' = w := by
  obtain ⟨⟨g, hs⟩, hf, _⟩ := h
  have := hs.retired
  rw [nTrue_none hf.ret] at this
  exact this

set_option maxRecDepth 100000 in
set_option maxHeartbeats 8000000 in
theorem ftlKeeps_walk (a0 : Int) (b0 : (Lit.int .u8 a0).wf = true) (A : Option Addr) (n cap : Nat) (xs : List Act8) (a2 : Int) (b2 : (Lit.int .u8 a2).wf = true) (w : World) (hr : ReadsA8 w A n cap xs) :
    Calls Tryz.prog 3 #[.int .u8 a0, .slice A n cap, .int .u8 a2] w fun e w' => e = .returned (.bool true) ∧ Below w.heap.size w w' := by
  have c0 := bounds_u8 b0
  have c2 := bounds_u8 b2
  have hle := hr.le
  have hmx := hr.max
  unfold maxLen at hmx
  have HR := Lib.hid hr
  obtain ⟨k, hk, k5, k8⟩ : ∃ k : Nat, 5 + a0 % 4 = (k : Int) ∧ 5 ≤ k ∧ k ≤ 8 := ⟨(5 + a0 % 4).toNat, by omega, by omega, by omega⟩
  obtain ⟨S, hS, hS2⟩ : ∃ S : Nat, S = (k - 3) * 6 ∧ S ≤ 30 := ⟨_, rfl, by omega⟩
  have hsec : secs k = (S : Int) := by unfold secs; omega
  have HSEC := Lib.hid hsec
  have HS := Lib.hid hS
  clear hr b0 b2 hS hsec
  go_enter Tryz.func3, Tryz.ntmps3
  go_upto_region 3 with (first
    | (go_at_call 10; (refine (alive8_any w).mono ?_); rintro e wa ⟨rfl, hBa⟩; have HBA := Lib.hid hBa; clear hBa))
  by_cases hn180 : 180 < n
  · have hn' : (180 : Int) < (n : Int) := by omega
    go_wp2
    go_ret
    exact ⟨rfl, HBA.out⟩
  have hn' : ¬ ((180 : Int) < (n : Int)) := by omega
  go_upto_region 7 with (first
    | (go_at_call 11; (refine (begin8_any (B := w.heap.size) k 100000 wa HBA.out.size (by omega) (by omega) (by omega) (by omega)).mono ?_); rintro e w1 ⟨p, f, q, rfl, s0, b1⟩; have S1 : Hid (Dv w.heap.size p f q k NoBlock ⟨fNew (mNew k 100000), 0⟩ w1) := Lib.hid s0; have B1 := Lib.hid (HBA.out.trans (b1.mono HBA.out.size)); clear s0 b1)
    | (refine wpList_stm (pre := []) (post := []) (xs := wd0) (ys := wdC p q) _ _ rfl rfl rfl rfl wd_size rfl rfl (wdC_one p q) rfl (by simp) (At.news w1 _ wd0) ?_; intro w2 A2 T2; rw [List.nil_append, List.append_nil] at A2; have HA2 := Lib.hid A2; have HB2 : Hid (Below w1.heap.size w1 w2) := Lib.hid (((Below.refl _ w1).alloc (Nat.le_refl _) _).trans (T2.below (fun i hi => by unfold Just at hi; omega) (by simp))); clear A2 T2))
  obtain ⟨bt, hbt⟩ : ∃ bt, bt = w1.heap.size := ⟨_, rfl⟩
  rw [← hbt] at HA2 ⊢
  have B2 := Lib.hid (B1.out.trans (HB2.out.mono B1.out.size))
  have S2 : Hid (Dv w.heap.size p f q k (Just bt) ⟨fNew (mNew k 100000), 0⟩ w2) := Lib.hid (S1.out.move rfl (S := NoBlock) (fun _ e => e.elim) (Turned.of_below HB2.out (Nat.le_refl _) _) (fun i e => by unfold Just at e; rw [e]; exact ⟨.inr (by omega), HA2.out.lt⟩))
  have FO := Lib.hid (format_new (C := True) S2.out (by omega) (by omega) (by omega) (by omega))
  have c1 : w2.cell? ⟨bt, 1, none⟩ = some (.pointer (some ⟨q, 0, none⟩)) := HA2.out.cell 1
  obtain ⟨s1, hs1⟩ : ∃ s1, s1 = w2.heap.size := ⟨_, rfl⟩
  rw [← hs1] at FO
  clear hbt hs1 S1
  go_upto_region 10 with (first
    | (go_at_call 12; (with_reducible refine FO.out.mono ?_); rintro e w3 ⟨rfl, ⟨d3, x3, s3⟩, t3⟩; have S3 := Lib.hid s3; have T3 := Lib.hid t3; clear s3 t3))
  have HA3 : Hid (At w3 bt 27 (wdC p q)) := Lib.hid (HA2.out.kept T3.out (fun e => e.2 rfl))
  have B3 := Lib.hid (B2.out.trans (mayB_below T3.out B2.out.size))
  have SE := Lib.hid S3.out.sectors
  have SR := Lib.hid (sectors8_any k (by omega) (by omega) w3)
  rw [HSEC.out] at SE SR
  have NW := Lib.hid (new8_any S (by omega) w3)
  clear c1 FO S2 HA2 B2
  go_upto_region 13 with (first
    | (go_at_call 13; (with_reducible refine SE.out.mono ?_); rintro e w4 ⟨rfl, hw⟩; obtain rfl := hw.symm)
    | (go_at_call 14; (with_reducible refine SR.out.mono ?_); rintro e w4 ⟨rfl, hw⟩; obtain rfl := hw.symm)
    | (go_at_call 15; (with_reducible refine NW.out.mono ?_); rintro e w5 ⟨v, rfl, hrow, hb5⟩; have HROW := Lib.hid hrow; have HB5 := Lib.hid hb5; clear hrow hb5))
  have HW5 : Hid (Well True w.heap.size p f q s1 k (KV (Just bt) v) 0 1 800 100000 (fun _ => d40) w5 d3 x3) := Lib.hid ((S3.out.move (K' := KV (Just bt) v) (S := NoBlock) (fun _ e => e.elim) (Turned.of_below HB5.out (Nat.le_refl _) _) (fun i e => by
    have hz := HROW.out.lt
    rcases e with e | e
    · exact ⟨.inl e, by have := HA3.out.lt; have := HB5.out.size; rw [show i = bt from e]; omega⟩
    · exact ⟨.inr (hz i e).1, (hz i e).2⟩)).grow (by omega) (by omega) (by omega))
  have HA5 : Hid (At w5 bt 27 (wdC p q)) := Lib.hid (HA3.out.kept (Turned.of_below HB5.out (Nat.le_refl _) NoBlock) (fun h => h))
  have B5 := Lib.hid (B3.out.trans (HB5.out.mono B3.out.size))
  have HROW5 : Hid (w5.ownsRow w.heap.size 44 4 v S (vls (fun _ => d40) S)) := Lib.hid (own_lower HROW.out B3.out.size)
  clear HROW HB5 B3 HA3 S3 NW SE SR T3
  have HC2 := Lib.hid c2
  clear c0 c2
  go_wp2
  go_loopw [12, 10, 61] (fun v sp i wr => ∃ (j : Nat) (s : Nat) (d : DrvM) (x : StoM) (V : BitVec 32 → List (BitVec 32)), j ≤ n ∧ i = .int .i64 j ∧ sp = .pointer (some ⟨s, 0, none⟩) ∧ Well True w.heap.size p f q s k (KV (Just bt) v) (j : Int) (1 + 64 * (j : Int)) (800 + 198000 * (j : Int)) 100000 V wr d x ∧ (∀ n, (V n).length = 4) ∧ At wr bt 27 (wdC p q) ∧ wr.ownsRow w.heap.size 44 4 v S (vls V S) ∧ Below w.heap.size w wr) (fun _ _ i _ => n - (intOf i).toNat)
  case atStart => exact ⟨0, s1, d3, x3, _, by omega, rfl, rfl, HW5.out.grow (by omega) (by omega) (by omega), fun _ => d40_len, HA5.out, HROW5.out, B5.out⟩
  case round =>
    obtain ⟨j, s, d, x, V, hj, rfl, rfl, hwell, hV, hA, hrow, hB⟩ := hrel
    have HWE := Lib.hid hwell
    have HV := Lib.hid hV
    have HA := Lib.hid hA
    have HROW := Lib.hid hrow
    have HB := Lib.hid hB
    obtain ⟨A1, cap1, rfl, R1⟩ := own_readsV hV hrow
    have HR1 := Lib.hid R1
    clear hwell hV hA hrow hB HW5 HA5 B5 HROW5 R1
    by_cases hlt : j < n
    · have j0 : (0 : Int) ≤ (j : Int) := by omega
      have j1 : (j : Int) < (n : Int) := by omega
      obtain ⟨g, off, y, rfl, hy, _, y0, y1, y2⟩ := (HR.out.kept HB.out).at_ hlt
      have HY := Lib.hid hy
      clear hy
      go_upto_region 16 with (first
        | (refine wpList_stm (pre := []) (post := []) (xs := a8Z) (ys := a8C y) _ _ rfl rfl rfl rfl a8_size rfl rfl (a8_one y) rfl (by simp) (At.news wr _ a8Z) ?_; intro w4 A4 T4; rw [List.nil_append, List.append_nil] at A4; have HA4 := Lib.hid A4; have HB4 : Hid (Below wr.heap.size wr w4) := Lib.hid (((Below.refl _ wr).alloc (Nat.le_refl _) _).trans (T4.below (fun i hi => by unfold Just at hi; omega) (by simp))); clear A4 T4))
      obtain ⟨b4, hb4⟩ : ∃ b4, b4 = wr.heap.size := ⟨_, rfl⟩
      rw [← hb4] at HA4 ⊢
      have HB4N : Hid (b4 ≠ bt) := Lib.hid (by have := HA.out.lt; omega)
      have HW4 : Hid (Well True w.heap.size p f q s k (fun i => KV (Just bt) (.slice A1 S cap1) i ∨ i = b4) (j : Int) (1 + 64 * (j : Int)) (800 + 198000 * (j : Int)) 100000 V w4 d x) := Lib.hid (HWE.out.move (S := NoBlock) (fun _ e => e.elim) (Turned.of_below HB4.out (Nat.le_refl _) _) (fun i e => by
        rcases e with e | e
        · exact ⟨.inl e, Nat.lt_of_lt_of_le (HWE.out.kin i e) HB4.out.size⟩
        · exact ⟨.inr (by omega), by rw [e]; exact HA4.out.lt⟩))
      have DO := HW4.out.act (by omega) (by omega) (by omega) (by omega) (by omega) (by omega) y HY.out
      obtain ⟨bi, hbi⟩ : ∃ bi : Bool, bi = decide (in8 k y) := ⟨_, rfl⟩
      obtain ⟨rr, hrr⟩ : ∃ rr : Int, rr = if in8 k y then 0 else 10 := ⟨_, rfl⟩
      rw [← hrr] at DO
      have HDO := Lib.hid DO
      have HBI := Lib.hid hbi
      have HRRR : Hid (rr = if bi then 0 else 10) := Lib.hid (by
        rw [hrr, hbi]
        by_cases e : in8 k y
        · rw [if_pos e, decide_eq_true e]; rfl
        · rw [if_neg e, decide_eq_false e]; rfl)
      have z0 : w4.cell? ⟨b4, 0, none⟩ = some (.int .u8 y.k) := HA4.out.cell 0
      have z1 : w4.cell? ⟨b4, 1, none⟩ = some (.int .i64 y.s) := HA4.out.cell 1
      have z2 : w4.cell? ⟨b4, 2, none⟩ = some (.int .u32 (U y.v)) := HA4.out.cell 2
      have HBT2 : Hid (w.heap.size ≤ b4) := Lib.hid (by rw [hb4]; exact HB.out.size)
      clear y0 y1 y2 hbi hrr DO hb4 HWE
      simp only [Act.put]
      go_cut [15] (fun s15 wx => s15 = .bool bi ∧ wx = w4)
      case first =>
        have h3 : (¬ (0 ≤ y.s)) ∨ (0 ≤ y.s ∧ ¬ (y.s < (S : Int))) ∨ (0 ≤ y.s ∧ y.s < (S : Int)) := by omega
        rcases h3 with h | ⟨h, h'⟩ | ⟨h, h'⟩
        · obtain rfl : bi = false := by rw [HBI.out]; exact decide_eq_false (fun e => h e.1)
          go_wp2
          go_meet
          exact ⟨rfl, rfl⟩
        · obtain rfl : bi = false := by rw [HBI.out]; exact decide_eq_false (fun e => h' (by rw [← HSEC.out]; exact e.2))
          go_wp2
          go_meet
          exact ⟨rfl, rfl⟩
        · obtain rfl : bi = true := by rw [HBI.out]; exact decide_eq_true ⟨h, by rw [HSEC.out]; exact h'⟩
          go_wp2
          go_meet
          exact ⟨rfl, rfl⟩
      case rest =>
        obtain ⟨rfl, hwx⟩ := hcut
        obtain rfl := hwx.symm
        go_upto_region 18 with (first
          | (go_at_call 16; (with_reducible refine HDO.out.mono ?_); rintro e w5 ⟨rfl, ⟨d5, x5, s5⟩, t5⟩; have S5 := Lib.hid s5; have T5 := Lib.hid t5; clear s5 t5))
        have HA5 : Hid (At w5 bt 27 (wdC p q)) := Lib.hid ((HA.out.kept (Turned.of_below HB4.out (Nat.le_refl _) NoBlock) (fun h => h)).kept T5.out (fun e => e.2 (.inl (.inl rfl))))
        have HP5 : Hid (At w5 b4 40 (a8C y)) := Lib.hid (HA4.out.kept T5.out (fun e => e.2 (.inr rfl)))
        have HROW5 : Hid (w5.ownsRow w.heap.size 44 4 (.slice A1 S cap1) S (vls V S)) := Lib.hid (Theirs.own_turned (Theirs.own_turned HROW.out (Turned.of_below HB4.out (Nat.le_refl _) NoBlock) (fun _ _ h => h)) T5.out (fun r e h => h.2 (.inl (.inr e))))
        have B4 := HB.out.trans (HB4.out.mono HB.out.size)
        have B5 := Lib.hid (B4.trans (mayB_below T5.out B4.size))
        obtain ⟨q0, q1, q2, q3, hz⟩ : ∃ q0 q1 q2 q3 : BitVec 32, v8 y = [q0, q1, q2, q3] := by
          unfold v8
          split
          · exact ⟨_, _, _, _, rfl⟩
          · exact ⟨_, _, _, _, rfl⟩
        have VA := fun W => value8_any y HY.out W
        rw [hz] at VA
        have HVA := Lib.hid VA
        have HVP : Hid (vls (putV V y.s [q0, q1, q2, q3]) S = vls (val8 k y V) S) := Lib.hid (by rw [← hz]; exact vls_put k S V y (by rw [HSEC.out]; exact Int.le_refl _) (by rw [HSEC.out]; omega))
        have PU := Lib.hid (fun W (hW : Below w5.heap.size w5 W) => put8_any ((own_vals HV.out HROW5.out).kept hW) (by omega) y.s q0 q1 q2 q3)
        have l0 : ∀ W, Below w5.heap.size w5 W → W.cell? ⟨b4, 0, none⟩ = some (.int .u8 y.k) := fun W hW => (HP5.out.kept (Turned.of_below hW (Nat.le_refl _) NoBlock) (fun h => h)).cell 0
        have l1 : ∀ W, Below w5.heap.size w5 W → W.cell? ⟨b4, 1, none⟩ = some (.int .i64 y.s) := fun W hW => (HP5.out.kept (Turned.of_below hW (Nat.le_refl _) NoBlock) (fun h => h)).cell 1
        have l2 : ∀ W, Below w5.heap.size w5 W → W.cell? ⟨b4, 2, none⟩ = some (.int .u32 (U y.v)) := fun W hW => (HP5.out.kept (Turned.of_below hW (Nat.le_refl _) NoBlock) (fun h => h)).cell 2
        have HV5 := Lib.hid (fun n => val8_len k y V HV.out n)
        clear VA hz B4 z0 z1 z2
        cases bi
        all_goals
          first
          | obtain rfl : rr = 10 := HRRR.out
          | obtain rfl : rr = 0 := HRRR.out
          go_wp2_with fail
          go_region_held3 (fun W => Below w5.heap.size w5 W) (first | assumption | exact (Below.refl _ w5).drew) (first
            | (go_at_call 18; (refine (HVA.out _).mono ?_); rintro e v6 ⟨rfl, hb⟩; have S6 := Below.trans (by assumption) (hb.mono (Below.size (by assumption))); clear hb)
            | (go_at_call 17; (refine (PU.out _ (by assumption)).mono ?_); rintro e v7 ⟨vr, rfl, hrow7, hb⟩; have HR7 : Hid (v7.ownsRow w5.heap.size 44 4 vr S (vls (val8 k y V) S)) := Lib.hid (by rw [← HVP.out]; exact own_lower hrow7 (Below.size (by assumption))); have S7 := Below.trans (by assumption) (hb.mono (Below.size (by assumption))); clear hb hrow7))
          have S7 : Below w5.heap.size w5 v7 := by assumption
          have HB7 := Lib.hid S7
          have HW7 : Hid (Well True w.heap.size p f q s k (KV (Just bt) vr) ((j + 1 : Nat) : Int) (1 + 64 * ((j + 1 : Nat) : Int)) (800 + 198000 * ((j + 1 : Nat) : Int)) 100000 (val8 k y V) v7 d5 x5) := Lib.hid ((S5.out.move (K' := KV (Just bt) vr) (S := NoBlock) (fun _ e => e.elim) (Turned.of_below HB7.out (Nat.le_refl _) _) (fun i e => by
            rcases e with e | e
            · exact ⟨.inl (.inl (.inl e)), by have := HA5.out.lt; have := HB7.out.size; rw [show i = bt from e]; omega⟩
            · exact ⟨.inr (HR7.out.lt i e).1, (HR7.out.lt i e).2⟩)).grow (by omega) (by omega) (by omega))
          have HA7 : Hid (At v7 bt 27 (wdC p q)) := Lib.hid (HA5.out.kept (Turned.of_below HB7.out (Nat.le_refl _) NoBlock) (fun h => h))
          have B7 := Lib.hid (B5.out.trans (HB7.out.mono B5.out.size))
          have HR7 : Hid (v7.ownsRow w.heap.size 44 4 vr S (vls (val8 k y V) S)) := Lib.hid (own_lower HR7.out B5.out.size)
          clear S7 l0 l1 l2 PU HVA HVP HA HA4 HB4 HROW HROW5 HA5 HP5 T5 S5 HW4 HDO HR1 HB HB7 B5
          have c20 := HC2.out.1
          have c21 := HC2.out.2
          by_cases hat : (j : Int) = a2
          · have eat : ((j : Int) == a2) = true := by rw [beq_iff_eq]; exact hat
            have MO := HW7.out.mount (by omega) (by omega)
            obtain ⟨s8, hs8⟩ : ∃ s8, s8 = v7.heap.size := ⟨_, rfl⟩
            rw [← hs8] at MO
            have HMO := Lib.hid MO
            have c1 : v7.cell? ⟨bt, 1, none⟩ = some (.pointer (some ⟨q, 0, none⟩)) := HA7.out.cell 1
            clear MO hs8 hat
            go_upto_region 25 with (first
              | (go_at_call 19; (with_reducible refine HMO.out.mono ?_); rintro e v8 ⟨rfl, ⟨d8, x8, s8'⟩, t8⟩; have HW8 := Lib.hid s8'; have T8 := Lib.hid t8; clear s8' t8))
            have HA8 : Hid (At v8 bt 27 (wdC p q)) := Lib.hid (HA7.out.kept T8.out (fun e => e.2 (.inl rfl)))
            have HR8 : Hid (v8.ownsRow w.heap.size 44 4 vr S (vls (val8 k y V) S)) := Lib.hid (Theirs.own_turned HR7.out T8.out (fun r e h => h.2 (.inr e)))
            have B8 := Lib.hid (B7.out.trans (mayB_below T8.out B7.out.size))
            clear c1 HMO HW7 HA7 HR7 B7 T8
            by_cases h16 : (j : Int) % 16 = 0
            · have e16 : ((j : Int) % 16 == 0) = true := by rw [beq_iff_eq]; exact h16
              have VA2 := HW8.out.values (by omega) HV5.out
              unfold ValsOut at VA2
              rw [← HS.out] at VA2
              have HVA2 := Lib.hid VA2
              clear VA2 h16
              go_upto_region 27 with (first
                | (go_at_call 20; (with_reducible refine HVA2.out.mono ?_); rintro e v9 ⟨vv, d9, rfl, hrow9, hw9, t9⟩; have HROW9 := Lib.hid hrow9; have HW9 := Lib.hid hw9; have T9 := Lib.hid t9; clear hrow9 hw9 t9))
              have HA9 : Hid (At v9 bt 27 (wdC p q)) := Lib.hid (HA8.out.kept T9.out (fun e => e.2 (.inl rfl)))
              have HRV9 : Hid (v9.ownsRow w.heap.size 44 4 vr S (vls (val8 k y V) S)) := Lib.hid (Theirs.own_turned HR8.out T9.out (fun r e h => h.2 (.inr e)))
              have B9 := Lib.hid (B8.out.trans (mayB_below T9.out B8.out.size))
              obtain ⟨A8, cap8, rfl, R8⟩ := own_readsV HV5.out HRV9.out
              obtain ⟨A9, cap9, rfl, R9⟩ := own_readsV HV5.out HROW9.out
              have SA := Lib.hid (same8_any R9 R8 (by omega))
              have HW9' := Lib.hid (HW9.out.less (K' := KV (Just bt) (.slice A8 S cap8)) (fun i e => .inl e))
              clear R8 R9 HROW9 HW9 T9 HVA2
              go_wp2_with (first
                | (go_at_call 21; (with_reducible refine SA.out.mono ?_); rintro e v10 ⟨rfl, hb10⟩; have HB10 := Lib.hid hb10; clear hb10))
              go_roundw
              case rel =>
                have tb := Turned.of_below HB10.out (Nat.le_refl _) NoBlock
                exact ⟨j + 1, _, d9, _, val8 k y V, by omega, by go_num, rfl, HW9'.out.below HB10.out, HV5.out, HA9.out.kept tb (fun h => h), Theirs.own_turned HRV9.out tb (fun _ _ h => h), B9.out.trans (HB10.out.mono B9.out.size)⟩
              case measure => simp [intOf]; omega
            · have e16 : ((j : Int) % 16 == 0) = false := by rw [beq_eq_false_iff_ne]; exact h16
              clear h16
              go_wp2_with fail
              go_roundw
              case rel => exact ⟨j + 1, _, _, _, val8 k y V, by omega, by go_num, rfl, HW8.out, HV5.out, HA8.out, HR8.out, B8.out⟩
              case measure => simp [intOf]; omega
          · have eat : ((j : Int) == a2) = false := by rw [beq_eq_false_iff_ne]; exact hat
            clear hat
            go_upto_region 25 with (fail)
            by_cases h16 : (j : Int) % 16 = 0
            · have e16 : ((j : Int) % 16 == 0) = true := by rw [beq_iff_eq]; exact h16
              have VA2 := HW7.out.values (by omega) HV5.out
              unfold ValsOut at VA2
              rw [← HS.out] at VA2
              have HVA2 := Lib.hid VA2
              clear VA2 h16
              go_upto_region 27 with (first
                | (go_at_call 20; (with_reducible refine HVA2.out.mono ?_); rintro e v9 ⟨vv, d9, rfl, hrow9, hw9, t9⟩; have HROW9 := Lib.hid hrow9; have HW9 := Lib.hid hw9; have T9 := Lib.hid t9; clear hrow9 hw9 t9))
              have HA9 : Hid (At v9 bt 27 (wdC p q)) := Lib.hid (HA7.out.kept T9.out (fun e => e.2 (.inl rfl)))
              have HRV9 : Hid (v9.ownsRow w.heap.size 44 4 vr S (vls (val8 k y V) S)) := Lib.hid (Theirs.own_turned HR7.out T9.out (fun r e h => h.2 (.inr e)))
              have B9 := Lib.hid (B7.out.trans (mayB_below T9.out B7.out.size))
              obtain ⟨A8, cap8, rfl, R8⟩ := own_readsV HV5.out HRV9.out
              obtain ⟨A9, cap9, rfl, R9⟩ := own_readsV HV5.out HROW9.out
              have SA := Lib.hid (same8_any R9 R8 (by omega))
              have HW9' := Lib.hid (HW9.out.less (K' := KV (Just bt) (.slice A8 S cap8)) (fun i e => .inl e))
              clear R8 R9 HROW9 HW9 T9 HVA2
              go_wp2_with (first
                | (go_at_call 21; (with_reducible refine SA.out.mono ?_); rintro e v10 ⟨rfl, hb10⟩; have HB10 := Lib.hid hb10; clear hb10))
              go_roundw
              case rel =>
                have tb := Turned.of_below HB10.out (Nat.le_refl _) NoBlock
                exact ⟨j + 1, _, d9, _, val8 k y V, by omega, by go_num, rfl, HW9'.out.below HB10.out, HV5.out, HA9.out.kept tb (fun h => h), Theirs.own_turned HRV9.out tb (fun _ _ h => h), B9.out.trans (HB10.out.mono B9.out.size)⟩
              case measure => simp [intOf]; omega
            · have e16 : ((j : Int) % 16 == 0) = false := by rw [beq_eq_false_iff_ne]; exact h16
              clear h16
              go_wp2_with fail
              go_roundw
              case rel => exact ⟨j + 1, _, _, _, val8 k y V, by omega, by go_num, rfl, HW7.out, HV5.out, HA7.out, HR7.out, B7.out⟩
              case measure => simp [intOf]; omega
    · obtain rfl : j = n := by omega
      have VA := HWE.out.values (by omega) HV.out
      unfold ValsOut at VA
      rw [← HS.out] at VA
      have HVA := Lib.hid VA
      clear VA
      go_upto_region 31 with (first
        | (go_at_call 20; (with_reducible refine HVA.out.mono ?_); rintro e v9 ⟨vv, d9, rfl, hrow9, hw9, t9⟩; have HROW9 := Lib.hid hrow9; have HW9 := Lib.hid hw9; have T9 := Lib.hid t9; clear hrow9 hw9 t9))
      have HRV9 : Hid (v9.ownsRow w.heap.size 44 4 (.slice A1 S cap1) S (vls V S)) := Lib.hid (Theirs.own_turned HROW.out T9.out (fun r e h => h.2 (.inr e)))
      have B9 := Lib.hid (HB.out.trans (mayB_below T9.out HB.out.size))
      obtain ⟨A9, cap9, rfl, R9⟩ := own_readsV HV.out HROW9.out
      have SA := Lib.hid (same8_any R9 (own_vals HV.out HRV9.out) (by omega))
      have RT := Lib.hid (fun W (hW : Below v9.heap.size v9 W) => (HW9.out.below hW).retired)
      clear R9 HROW9 HW9 T9 HVA HWE HA HROW HB HR1
      go_wp2_with (first
        | (go_at_call 21; (with_reducible refine SA.out.mono ?_); rintro e v10 ⟨rfl, hb10⟩; have HB10 := Lib.hid hb10; clear hb10)
        | (go_at_call 22; (with_reducible refine (RT.out _ HB10.out).mono ?_); rintro e v11 ⟨rfl, hw⟩; obtain rfl := hw.symm))
      go_ret
      exact ⟨rfl, B9.out.trans (HB10.out.mono B9.out.size)⟩
end Go.Proofs.YtnfgpjfldgocaaaGreat
