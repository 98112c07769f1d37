/- The walk of layer driver's statement DriverStops. -/
import Derived.Test.YtfckgfimmoinmaaDrvWalk3
import Derived.Test.YtfckgfimmoinmaaDrvStopF
import Derived.Test.YtfckgfimmoinmaaLaw
import Derived.OpenShut
import Derived.BigQuiet
namespace Go.Proofs.Ytfckgfimmoinmaa
open Go.RowKit Bm

theorem Dv.fuse {B p f q k : Nat} {K : Nat → Prop} {d : DrvM} {w : World} (s : Dv B p f q k K d w) (ok : DrvOk k d) (n : Int) (v : BitVec 32) :
    Calls Try.prog 22 #[.pointer (some ⟨p, 0, none⟩), .int .i64 n, .int .u32 (U v)] w (DvOut B p f q k K ⟨{ d.f with chip := mFuse d.f.chip n v }, d.t⟩ (.tuple #[]) w) := by
  refine (s.st.fuse ok.ok n v).mono ?_
  rintro e w' ⟨rfl, s', t⟩
  exact ⟨rfl, ⟨s', s.own.kept t (fun h => h.2 (.inr rfl)), s.qB⟩, may_less t (fun i h => .inl h)⟩

set_option maxRecDepth 100000 in
set_option maxHeartbeats 8000000 in
theorem driverStops_walk (a0 : Int) (b0 : (Lit.int .u8 a0).wf = true) (a1 : Int) (b1 : (Lit.int .u8 a1).wf = true) (pick : BitVec 32) (A : Option Addr) (n cap : Nat) (xs : List (BitVec 32)) (w : World) (hr : ReadsU w A n cap xs) :
    Calls Try.prog 5 #[.agg #[.int .u8 a0, .int .u8 a1, .int .u32 (U pick), .slice A n cap]] w fun e w' => e = .returned (.bool true) ∧ Below w.heap.size w w' := by
  have c0 := bounds_u8 b0
  have c1 := bounds_u8 b1
  have hle := hr.le
  have hmx := hr.max
  unfold maxLen at hmx
  have hb0 : Below w.heap.size w (w.alloc (.cells #[.int .u8 a0, .int .u8 a1, .int .u32 (U pick), .slice A n cap] 68)) := (Below.refl _ w).alloc (Nat.le_refl _) _
  have hA : At (w.alloc (.cells #[.int .u8 a0, .int .u8 a1, .int .u32 (U pick), .slice A n cap] 68)) w.heap.size 68 [.int .u8 a0, .int .u8 a1, .int .u32 (U pick), .slice A n cap] := At.news w _ _
  clear b0 b1
  go_enter Try.func5, Try.ntmps5
  go_wp2_with fail
  refine (alive5_any _).mono ?_
  rintro e wa ⟨rfl, hBa⟩
  have hA2 := hA.kept (Turned.of_below hBa (Nat.le_refl _) NoBlock) (fun h => h)
  have hBB := hb0.trans (hBa.mono hb0.size)
  have g0 := hA2.cell 0
  have g1 := hA2.cell 1
  have g2 := hA2.cell 2
  have g3 := hA2.cell 3
  simp only [List.getElem?_cons_succ, List.getElem?_cons_zero] at g0 g1 g2 g3
  have BA := Lib.hid hBB
  clear hBa hBB hA hb0 hA2
  go_wp2_with fail
  go_quiet (fail)
  by_cases hn : 10 < n
  · go_wp2
    go_ret
    exact ⟨rfl, BA.out.trans (below_drewN _ _ _)⟩
  have hn1 : n ≤ 10 := by omega
  obtain ⟨k, hk⟩ : ∃ k : Nat, a0 % 100 = (k : Int) := ⟨(a0 % 100).toNat, by omega⟩
  obtain ⟨L, hL⟩ : ∃ L : Nat, 1 + a1 % 12 = (L : Int) := ⟨(1 + a1 % 12).toNat, by omega⟩
  have hk1 : k < 100 := by omega
  have hL1 : 1 ≤ L := by omega
  have hL2 : L ≤ 12 := by omega
  obtain ⟨d0, d1, N, F⟩ := stopF k xs L pick hk1 (by rw [hr.len]; exact hn1) hL1 hL2
  have FF := Lib.hid F
  have HR := Lib.hid hr
  have LX := Lib.hid hr.len
  have BA2 := Lib.hid (BA.out.trans (below_drewN w.heap.size wa nq))
  clear F hr g0 g1 g2 g3 hn
  go_wp2_with fail
  refine (begin5_any w.heap.size 2 5 _ BA2.out.size (by omega) (by omega) (by omega) (by omega)).mono ?_
  rintro e w1 ⟨p, f, q, rfl, s0, t1⟩
  have S0 := Lib.hid s0
  have B0 := Lib.hid (BA2.out.trans t1)
  have OK0 := Lib.hid (drvNew_ok 2 5 (by omega) (by omega) (by omega) (by omega))
  clear s0 t1
  go_wp2_with fail
  refine (S0.out.fuse OK0.out (L : Int) pick).mono ?_
  rintro e w2 ⟨rfl, s2, t2⟩
  have S2 : Hid (Dv w.heap.size p f q 2 NoBlock d0 w2) := Lib.hid (by rw [FF.out.e0]; exact s2)
  rw [hk]
  have B2 := Lib.hid (B0.out.trans (may_below t2 S0.out.size))
  clear s2 t2
  go_wp2_with fail
  refine (S2.out.program FF.out.o0 k A n cap xs (HR.out.kept B2.out) (by omega) (by omega) (by omega) (by rw [FF.out.e0]; simp) (by rw [FF.out.e0]; simp) (reads_out HR.out)).mono ?_
  rw [FF.out.e1]
  rintro e w3 ⟨rfl, s3, t3⟩
  have S3 : Hid (Dv _ _ _ _ _ _ d1 _) := Lib.hid s3
  have B3 := Lib.hid (B2.out.trans (may_below t3 S2.out.size))
  clear s3 t3 c0 c1
  by_cases hfar : n < L
  · obtain ⟨e0, e1⟩ := FF.out.far (by rw [LX.out]; exact hfar)
    subst e0
    have UP := Lib.hid (S3.out.st.st.up)
    rw [e1] at UP
    have hf : (n : Int) < (L : Int) := by omega
    clear e1
    go_wp2_with (go_at_call 33; (refine UP.out.mono ?_); rintro e w4 ⟨rfl, rfl⟩)
    go_ret
    exact ⟨rfl, B3.out⟩
  · have hnear : L ≤ xs.length := by rw [LX.out]; omega
    obtain ⟨e0, e1⟩ := FF.out.near hnear
    subst e0
    have UP := Lib.hid (S3.out.st.st.up)
    rw [e1] at UP
    have E1 := Lib.hid e1
    have HNR := Lib.hid hnear
    have hf : ¬ (n : Int) < (L : Int) := by omega
    clear e1 hnear
    go_wp2_with (go_at_call 33; (refine UP.out.mono ?_); rintro e w4 ⟨rfl, rfl⟩)
    go_loopw [69] (fun i wr => ∃ j : Nat, j ≤ n ∧ i = .int .i64 j ∧ Dv w.heap.size p f q 2 NoBlock d1 wr ∧ Below w.heap.size w wr) (fun i _ => n - (intOf i).toNat)
    case atStart => exact ⟨0, by omega, rfl, S3.out, B3.out⟩
    case round =>
      clear S3 B3 UP hk hL
      obtain ⟨j, hj, rfl, s, hb⟩ := hrel
      have S := Lib.hid s
      have B := Lib.hid hb
      clear s hb
      by_cases hlt : j < n
      · obtain ⟨xa, rfl, hxc⟩ := (HR.out.kept B.out).at_ hlt
        have i0 : (0 : Int) ≤ (j : Int) := by omega
        have i1 : (j : Int) < (n : Int) := by omega
        have hlen : d1.f.chip.ws.length = 128 := FF.out.o1.ok.chip.words
        have i2 : (k : Int) + (j : Int) < 128 := by omega
        have ekj : ((k : Int) + (j : Int)).toNat = k + j := by omega
        go_wp2_with fail
        refine (S.out.wordsAt FF.out.o1 128 hlen).mono ?_
        rintro e w5 ⟨g, cg, rfl, hcell, hcap, hmax, b5⟩
        have gj := hcell (k + j) (by omega)
        have S5 := Lib.hid (S.out.below b5)
        have B5 := Lib.hid (B.out.trans (b5.mono B.out.size))
        clear hcell b5 hlen hxc
        by_cases ha : j + 1 < L
        · have ha' : (j : Int) + 1 < (L : Int) := by omega
          rw [FF.out.ahead HNR.out j ha] at gj
          clear ha
          go_wp2
          go_roundw
          case rel => exact ⟨j + 1, by omega, by go_num, S5.out, B5.out⟩
          case measure => simp [intOf]; omega
        · have ha' : ¬ (j : Int) + 1 < (L : Int) := by omega
          by_cases hb2 : L < j + 1
          · have hb' : (L : Int) < (j : Int) + 1 := by omega
            rw [FF.out.behind HNR.out j hb2 (by rw [LX.out]; exact hlt)] at gj
            have gj2 : w5.cell? ⟨g, k + j, none⟩ = some (.int .u32 4294967295) := gj
            have hc' : ¬ (j : Int) + 1 = (L : Int) := by omega
            clear ha hb2 gj
            go_wp2
            go_roundw
            case rel => exact ⟨j + 1, by omega, by go_num, S5.out, B5.out⟩
            case measure => simp [intOf]; omega
          · have hb' : ¬ (L : Int) < (j : Int) + 1 := by omega
            have hc' : (j : Int) + 1 = (L : Int) := by omega
            have hp := FF.out.part HNR.out j (by omega)
            obtain ⟨y, hy⟩ : ∃ y, y = wd d1.f.chip.ws (k + j) := ⟨_, rfl⟩
            rw [← hy] at gj hp
            have hp0 : U (y &&& ~~~(wd xs j ||| ~~~pick)) = 0 := by rw [hp]; rfl
            have hx0 : bits .xor .u32 (if IntKind.u32.signed = true then -1 else IntKind.u32.max) (U pick) = U (~~~pick) := by rw [if_neg (by decide)]; exact U_notMax pick
            have hp1 : (bits .andNot .u32 (U y) (bits .or .u32 (U (wd xs j)) (bits .xor .u32 (if IntKind.u32.signed = true then -1 else IntKind.u32.max) (U pick))) != 0) = false := by rw [hx0, U_or, U_andNot, hp0]; rfl
            clear ha hb2 hy hp
            go_wp2
            go_roundw
            case rel => exact ⟨j + 1, by omega, by go_num, S5.out, B5.out⟩
            case measure => simp [intOf]; omega
      · obtain rfl : j = n := by omega
        go_wp2_with (first
          | (go_at_call 17; (refine (S.out.read FF.out.o1 0 1 (by omega) (by omega) (by omega) (by omega)).mono ?_); rw [off_read E1.out]; rintro e w6 ⟨A6, c6, rfl, r6, z6, s6, t6⟩; have S6 := Lib.hid s6; have B6 := Lib.hid (B.out.trans (may_below t6 S.out.size)); clear r6 s6 t6)
          | (go_at_call 15; (refine (S6.out.erase FF.out.o1 0 (by omega) (by omega) FF.out.t1.1 (by have := FF.out.t1.2; omega)).mono ?_); rw [off_erase E1.out]; rintro e w7 ⟨rfl, s7, t7⟩; have S7 := Lib.hid s7; have B7 := Lib.hid (B6.out.trans (may_below t7 S6.out.size)); clear s7 t7)
          | (go_at_call 28; (refine (S7.out.programNew FF.out.o1 0 [1#32] (by simp) (by omega) (by omega) FF.out.t1.1 (by have := FF.out.t1.2; omega)).mono ?_); rw [off_put E1.out]; rintro e w8 ⟨rfl, s8, t8⟩; have B8 := Lib.hid (B7.out.trans (may_below t8 S7.out.size)); clear s8 t8))
        go_ret
        exact ⟨rfl, B8.out⟩
end Go.Proofs.Ytfckgfimmoinmaa
