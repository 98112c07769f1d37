/- DecodeRegisters: with another register in the place of one a word says the same, but for that. -/
import Derived.Test.YtdloaeifiohefaaDoorDecV
import Derived.Test.YtdloaeifiohefaaDoorDecL
namespace Go.Proofs.YtdloaeifiohefaaDoor
open Go.RowKit Bm

theorem mod32 {a : Int} (h0 : 0 ≤ a) : a.tmod 32 = a % 32 := Int.tmod_eq_emod_of_nonneg h0

set_option maxRecDepth 100000 in
set_option maxHeartbeats 4000000 in
theorem decodeRegisters_walk (a0 : Int) (b0 : (Lit.int .u32 a0).wf = true) (a1 : Int) (b1 : (Lit.int .u8 a1).wf = true) (w : World) (hT : Tabs w) :
    Calls Tryd.prog 8 #[.int .u32 a0, .int .u8 a1] w fun e w' => e = .returned (.bool true) ∧ Below w.heap.size w w' := by
  have bd := bounds_u32 b0
  obtain ⟨x, rfl⟩ := U_of bd.1 (by omega)
  have be := bounds_u8 b1
  have HT := Lib.hid hT
  have HX := Lib.hid (fun W (h : Tabs W) => word_any x W h)
  clear bd b0 b1 hT
  by_cases hi : isM x = true
  · obtain ⟨n, hn, hr, e⟩ := is_some hi
    rw [hi] at HX
    obtain ⟨k, hk⟩ : ∃ k, k = a1 % 32 := ⟨_, rfl⟩
    have k0 : 0 ≤ k := by omega
    have k1 : k < 32 := by omega
    have hm := mod32 be.1
    rw [← hk] at hm
    have hw : IntKind.i64.wrap a1 = a1 := by rw [IntKind.wrap_i64]; omega
    have hkw : IntKind.i64.wrap k = k := by rw [IntKind.wrap_i64]; omega
    obtain ⟨p0, hp0⟩ : ∃ p, p = (wordM x).rd := ⟨_, rfl⟩
    obtain ⟨p1, hp1⟩ : ∃ p, p = (wordM x).rs1 := ⟨_, rfl⟩
    obtain ⟨p2, hp2⟩ : ∃ p, p = (wordM x).rs2 := ⟨_, rfl⟩
    obtain ⟨im, him⟩ : ∃ p, p = (wordM x).imm := ⟨_, rfl⟩
    have eo : wordM x = ⟨n, p0, p1, p2, im⟩ := by rw [hp0, hp1, hp2, him, e]; rfl
    rw [eo] at HX
    have EO := Lib.hid eo
    have HN := Lib.hid hn
    have HRB := Lib.hid hr
    have HKK := Lib.hid hk
    have E := Lib.hid e
    have HI := Lib.hid hi
    clear e eo hp0 hp1 hp2 him hn hr hk hi be
    have HEP : Hid (∀ W, Tabs W → Calls Tryd.prog 12 #[.agg (opC ⟨n, k, p1, p2, im⟩).toArray] W fun e w' => e = .returned (.tuple #[.int .u32 (U (encM ⟨n, k, p1, p2, im⟩)), .bool (encB ⟨n, k, p1, p2, im⟩)]) ∧ Below W.heap.size W w') := Lib.hid (fun W h => encode_any _ _ _ _ _ W h)
    have HEQ : Hid (∀ W, Tabs W → Calls Tryd.prog 12 #[.agg (opC ⟨n, p0, k, p2, im⟩).toArray] W fun e w' => e = .returned (.tuple #[.int .u32 (U (encM ⟨n, p0, k, p2, im⟩)), .bool (encB ⟨n, p0, k, p2, im⟩)]) ∧ Below W.heap.size W w') := Lib.hid (fun W h => encode_any _ _ _ _ _ W h)
    have HWR := Lib.hid (fun W => writes_any n W)
    have FP : Hid (wrB n = true → encB ⟨n, k, p1, p2, im⟩ = true ∧ encM ⟨n, k, p1, p2, im⟩ = putB x 7 5 (uw k)) := Lib.hid (fun h => by
      have := reg_put HN.out HRB.out k0 k1 (wr_has n (by have := HN.out; omega) h)
      rw [← E.out, EO.out] at this
      exact this)
    have FQ : Hid (k ≠ p1 → encB ⟨n, p0, k, p2, im⟩ = true → encM ⟨n, p0, k, p2, im⟩ = putB x 15 5 (uw k)) := Lib.hid (fun h h2 => by
      have := reg1_put HN.out HRB.out k0 k1
      rw [← E.out, EO.out] at this
      exact this h h2)
    have FS : Hid (k = p1 → encB ⟨n, p0, k, p2, im⟩ = true ∧ encM ⟨n, p0, k, p2, im⟩ = x) := Lib.hid (fun h => by
      have := reg_same HI.out (k := k)
      rw [EO.out] at this
      exact this h)
    obtain ⟨y, hy⟩ : ∃ y, y = encM ⟨n, k, p1, p2, im⟩ := ⟨_, rfl⟩
    obtain ⟨yb, hyb⟩ : ∃ y, y = encB ⟨n, k, p1, p2, im⟩ := ⟨_, rfl⟩
    obtain ⟨z, hz⟩ : ∃ y, y = encM ⟨n, p0, k, p2, im⟩ := ⟨_, rfl⟩
    obtain ⟨zb, hzb⟩ : ∃ y, y = encB ⟨n, p0, k, p2, im⟩ := ⟨_, rfl⟩
    obtain ⟨wr, hwr⟩ : ∃ y, y = wrB n := ⟨_, rfl⟩
    rw [← hy, ← hyb] at HEP FP
    rw [← hz, ← hzb] at HEQ FS
    rw [← hz, ← hzb] at FQ
    rw [← hwr] at HWR FP
    have hku : IntKind.u32.wrap k = k := by rw [IntKind.wrap_u32]; omega
    have a7 : ∀ v : BitVec 32, bits .andNot .u32 (U (putB x 7 5 v)) 3968 = bits .andNot .u32 (U x) 3968 := fun v => by rw [show (3968 : Int) = U 3968#32 from rfl, U_andNot, U_andNot, put7_rest]
    have a15 : ∀ v : BitVec 32, bits .andNot .u32 (U (putB x 15 5 v)) 1015808 = bits .andNot .u32 (U x) 1015808 := fun v => by rw [show (1015808 : Int) = U 1015808#32 from rfl, U_andNot, U_andNot, put15_rest]
    have s7 : bits .and .u32 (U (putB x 7 5 (uw k)) / 128) 31 = k := by
      rw [show (128 : Int) = 2 ^ 7 from rfl, U_shr, show (31 : Int) = U 31#32 from rfl, U_and, put7_reg x k0 k1, uw_lt k0 k1]
    have s15 : bits .and .u32 (U (putB x 15 5 (uw k)) / 32768) 31 = k := by
      rw [show (32768 : Int) = 2 ^ 15 from rfl, U_shr, show (31 : Int) = U 31#32 from rfl, U_and, put15_reg x k0 k1, uw_lt k0 k1]
    have S7 := Lib.hid s7
    have S15 := Lib.hid s15
    have A7 := Lib.hid a7
    have A15 := Lib.hid a15
    clear hy hyb hz hzb hwr s7 s15 a7 a15
    go_enter Tryd.func8, Tryd.ntmps8
    go_upto_region 7 with (first
      | (go_at_call 9; (with_reducible refine (alive11_any _ HT.out).mono ?_); rintro e w1 ⟨rfl, hb⟩; have L1 := Lib.hid hb; clear hb)
      | (go_at_call 10; (with_reducible refine (HX.out _ (HT.out.below L1.out HT.out.two)).mono ?_); rintro e w2 ⟨rfl, hb⟩; have L2 := Lib.hid (L1.out.trans (hb.mono L1.out.size)); clear hb)
      | (refine wpList_newO 25 ⟨n, p0, p1, p2, im⟩ w2 _ _ rfl rfl rfl rfl rfl op_size ?_; intro w3 hA hb; have A3 := Lib.hid hA; have L3 := Lib.hid (L2.out.trans (hb.mono L2.out.size)); clear hA hb))
    have c0 : w3.cell? ⟨w2.heap.size, 0, none⟩ = some (.int .i64 n) := A3.out.cell 0
    have c1 : w3.cell? ⟨w2.heap.size, 1, none⟩ = some (.int .i64 p0) := A3.out.cell 1
    have c2 : w3.cell? ⟨w2.heap.size, 2, none⟩ = some (.int .i64 p1) := A3.out.cell 2
    have c3 : w3.cell? ⟨w2.heap.size, 3, none⟩ = some (.int .i64 p2) := A3.out.cell 3
    have c4 : w3.cell? ⟨w2.heap.size, 4, none⟩ = some (.int .u32 (U im)) := A3.out.cell 4
    have hlt : w2.heap.size < w3.heap.size := A3.out.lt
    go_region
    · obtain ⟨W4, hW4⟩ : ∃ W4, W4 = ((w3.alloc (.cells #[.int .i64 n, .int .i64 p0, .int .i64 p1, .int .i64 p2, .int .u32 (U im)] 25)).alloc (.cells #[.int .i64 n, .int .i64 p0, .int .i64 p1, .int .i64 p2, .int .u32 (U im)] 25)).drew := ⟨_, rfl⟩
      have X1 : At W4 w3.heap.size 25 (opC ⟨n, p0, p1, p2, im⟩) := by rw [hW4]; exact ((At.news w3 _ (opC ⟨n, p0, p1, p2, im⟩)).alloc _).drew
      have X2 : At W4 (w3.heap.size + 1) 25 (opC ⟨n, p0, p1, p2, im⟩) := by rw [hW4]; exact (At.alloc_new _ _ (opC ⟨n, p0, p1, p2, im⟩) (by simp) rfl).drew
      have A4 : At W4 w2.heap.size 25 (opC ⟨n, p0, p1, p2, im⟩) := by rw [hW4]; exact ((A3.out.alloc _).alloc _).drew
      have L4 : Below w.heap.size w W4 := by rw [hW4]; exact ((L3.out.alloc L3.out.size _).alloc (L3.out.alloc L3.out.size _).size _).drew
      rw [← hW4]
      have f8 : W4.frozen? ⟨w3.heap.size, 1, none⟩ = false := X1.frozen 1
      have g8 : W4.cell? ⟨w3.heap.size, 1, none⟩ = some (.int .i64 p0) := X1.cell 1
      have f9 : W4.frozen? ⟨w3.heap.size + 1, 2, none⟩ = false := X2.frozen 2
      have g9 : W4.cell? ⟨w3.heap.size + 1, 2, none⟩ = some (.int .i64 p1) := X2.cell 2
      have HX1 := Lib.hid X1
      have HX2 := Lib.hid X2
      have HA4 := Lib.hid A4
      have HL4 := Lib.hid L4
      clear hW4 X1 X2 A4 L4 c0 c1 c2 c3 c4
      go_upto_region 9 with (fail)
      obtain ⟨W5, hW5⟩ : ∃ W5, W5 = (W4.setCell ⟨w3.heap.size, 1, none⟩ (.int .i64 k)).setCell ⟨w3.heap.size + 1, 2, none⟩ (.int .i64 k) := ⟨_, rfl⟩
      have P5 : At W5 (w3.heap.size) 25 (opC ⟨n, k, p1, p2, im⟩) := by rw [hW5]; exact ((HX1.out.put 1 (.int .i64 k)).far (by simp) _).as rfl
      have Q5 : At W5 (w3.heap.size + 1) 25 (opC ⟨n, p0, k, p2, im⟩) := by rw [hW5]; exact ((HX2.out.far (by simp) _).put 2 (.int .i64 k)).as rfl
      have A5 : At W5 w2.heap.size 25 (opC ⟨n, p0, p1, p2, im⟩) := by rw [hW5]; exact (HA4.out.far (by simp; omega) _).far (by simp; omega) _
      have hwl : w.heap.size ≤ w3.heap.size := L3.out.size
      have T5 : Turned (fun b => w3.heap.size ≤ b) W4 W5 := by rw [hW5]; exact ((Turned.refl (fun b => w3.heap.size ≤ b) W4).setCell (p := ⟨w3.heap.size, 1, none⟩) (fun _ => by simp) _).setCell (p := ⟨w3.heap.size + 1, 2, none⟩) (fun _ => by simp) _
      have L5 : Below w.heap.size w W5 := HL4.out.trans (T5.below (B := w.heap.size) (fun b hb => Nat.le_trans hwl hb) HL4.out.size)
      rw [← hW5]
      have HP5 := Lib.hid P5
      have HQ5 := Lib.hid Q5
      have HA5 := Lib.hid A5
      have HL5 := Lib.hid L5
      clear hW5 P5 Q5 A5 L5 T5 f8 g8 f9 g9
      go_upto_region 10 with (first
        | (refine wpList_ldw (ty := 25) _ (by rfl) rfl rfl Tryd.underlying25 rfl op_size rfl HP5.out.rng0 ?_)
        | (go_at_call 12; (with_reducible refine (HEP.out _ (HT.out.below HL5.out HT.out.two)).mono ?_); rintro e w6 ⟨rfl, hb⟩; have A6 := Lib.hid (at_keep HA5.out hb); have Q6 := Lib.hid (at_keep HQ5.out hb); have L6 := Lib.hid (HL5.out.trans (hb.mono HL5.out.size)); clear hb))
      have c6 : w6.cell? ⟨w2.heap.size, 0, none⟩ = some (.int .i64 n) := A6.out.cell 0
      cases wr
      · go_upto_region 12 with (go_at_call 14; (with_reducible refine (HWR.out _).mono ?_); rintro e w7 ⟨rfl, hb⟩; have A7' := Lib.hid (at_keep A6.out hb); have Q7 := Lib.hid (at_keep Q6.out hb); have L7 := Lib.hid (L6.out.trans (hb.mono L6.out.size)); clear hb)
        go_upto_region 13 with (first
          | (refine wpList_ldw (ty := 25) _ (by rfl) rfl rfl Tryd.underlying25 rfl op_size rfl Q7.out.rng0 ?_)
          | (go_at_call 12; (with_reducible refine (HEQ.out _ (HT.out.below L7.out HT.out.two)).mono ?_); rintro e w8 ⟨rfl, hb⟩; have A8 := Lib.hid (at_keep A7'.out hb); have L8 := Lib.hid (L7.out.trans (hb.mono L7.out.size)); clear hb))
        have c8 : w8.cell? ⟨w2.heap.size, 2, none⟩ = some (.int .i64 p1) := A8.out.cell 2
        by_cases hk : k = p1
        · obtain ⟨rfl, hz⟩ := FS.out hk
          have ek : (k == p1) = true := by simpa using hk
          subst hz
          clear hk
          go_wp2
          go_ret
          exact ⟨rfl, L8.out⟩
        · have ek : (k == p1) = false := by simpa using hk
          have HFQ := Lib.hid (FQ.out hk)
          clear hk
          cases zb
          · go_wp2
            go_ret
            exact ⟨rfl, L8.out⟩
          · obtain rfl := HFQ.out rfl
            have a15 := A15.out (uw k)
            have s15 := S15.out
            go_wp2
            go_ret
            exact ⟨rfl, L8.out⟩
      · obtain ⟨rfl, rfl⟩ := FP.out rfl
        have a7 := A7.out (uw k)
        have s7 := S7.out
        go_upto_region 12 with (go_at_call 14; (with_reducible refine (HWR.out _).mono ?_); rintro e w7 ⟨rfl, hb⟩; have A7' := Lib.hid (at_keep A6.out hb); have Q7 := Lib.hid (at_keep Q6.out hb); have L7 := Lib.hid (L6.out.trans (hb.mono L6.out.size)); clear hb)
        go_upto_region 13 with (first
          | (refine wpList_ldw (ty := 25) _ (by rfl) rfl rfl Tryd.underlying25 rfl op_size rfl Q7.out.rng0 ?_)
          | (go_at_call 12; (with_reducible refine (HEQ.out _ (HT.out.below L7.out HT.out.two)).mono ?_); rintro e w8 ⟨rfl, hb⟩; have A8 := Lib.hid (at_keep A7'.out hb); have L8 := Lib.hid (L7.out.trans (hb.mono L7.out.size)); clear hb))
        clear a7 s7
        have c8 : w8.cell? ⟨w2.heap.size, 2, none⟩ = some (.int .i64 p1) := A8.out.cell 2
        by_cases hk : k = p1
        · obtain ⟨rfl, hz⟩ := FS.out hk
          have ek : (k == p1) = true := by simpa using hk
          subst hz
          clear hk
          go_wp2
          go_ret
          exact ⟨rfl, L8.out⟩
        · have ek : (k == p1) = false := by simpa using hk
          have HFQ := Lib.hid (FQ.out hk)
          clear hk
          cases zb
          · go_wp2
            go_ret
            exact ⟨rfl, L8.out⟩
          · obtain rfl := HFQ.out rfl
            have a15 := A15.out (uw k)
            have s15 := S15.out
            go_wp2
            go_ret
            exact ⟨rfl, L8.out⟩
    · obtain ⟨W4, hW4⟩ : ∃ W4, W4 = ((w3.alloc (.cells #[.int .i64 n, .int .i64 p0, .int .i64 p1, .int .i64 p2, .int .u32 (U im)] 25)).alloc (.cells #[.int .i64 n, .int .i64 p0, .int .i64 p1, .int .i64 p2, .int .u32 (U im)] 25)).drew := ⟨_, rfl⟩
      have X1 : At W4 w3.heap.size 25 (opC ⟨n, p0, p1, p2, im⟩) := by rw [hW4]; exact ((At.news w3 _ (opC ⟨n, p0, p1, p2, im⟩)).alloc _).drew
      have X2 : At W4 (w3.heap.size + 1) 25 (opC ⟨n, p0, p1, p2, im⟩) := by rw [hW4]; exact (At.alloc_new _ _ (opC ⟨n, p0, p1, p2, im⟩) (by simp) rfl).drew
      have A4 : At W4 w2.heap.size 25 (opC ⟨n, p0, p1, p2, im⟩) := by rw [hW4]; exact ((A3.out.alloc _).alloc _).drew
      have L4 : Below w.heap.size w W4 := by rw [hW4]; exact ((L3.out.alloc L3.out.size _).alloc (L3.out.alloc L3.out.size _).size _).drew
      rw [← hW4]
      have f8 : W4.frozen? ⟨w3.heap.size + 1, 1, none⟩ = false := X2.frozen 1
      have g8 : W4.cell? ⟨w3.heap.size + 1, 1, none⟩ = some (.int .i64 p0) := X2.cell 1
      have f9 : W4.frozen? ⟨w3.heap.size, 2, none⟩ = false := X1.frozen 2
      have g9 : W4.cell? ⟨w3.heap.size, 2, none⟩ = some (.int .i64 p1) := X1.cell 2
      have HX1 := Lib.hid X1
      have HX2 := Lib.hid X2
      have HA4 := Lib.hid A4
      have HL4 := Lib.hid L4
      clear hW4 X1 X2 A4 L4 c0 c1 c2 c3 c4
      go_upto_region 9 with (fail)
      obtain ⟨W5, hW5⟩ : ∃ W5, W5 = (W4.setCell ⟨w3.heap.size + 1, 1, none⟩ (.int .i64 k)).setCell ⟨w3.heap.size, 2, none⟩ (.int .i64 k) := ⟨_, rfl⟩
      have P5 : At W5 (w3.heap.size + 1) 25 (opC ⟨n, k, p1, p2, im⟩) := by rw [hW5]; exact ((HX2.out.put 1 (.int .i64 k)).far (by simp) _).as rfl
      have Q5 : At W5 (w3.heap.size) 25 (opC ⟨n, p0, k, p2, im⟩) := by rw [hW5]; exact ((HX1.out.far (by simp) _).put 2 (.int .i64 k)).as rfl
      have A5 : At W5 w2.heap.size 25 (opC ⟨n, p0, p1, p2, im⟩) := by rw [hW5]; exact (HA4.out.far (by simp; omega) _).far (by simp; omega) _
      have hwl : w.heap.size ≤ w3.heap.size := L3.out.size
      have T5 : Turned (fun b => w3.heap.size ≤ b) W4 W5 := by rw [hW5]; exact ((Turned.refl (fun b => w3.heap.size ≤ b) W4).setCell (p := ⟨w3.heap.size + 1, 1, none⟩) (fun _ => by simp) _).setCell (p := ⟨w3.heap.size, 2, none⟩) (fun _ => by simp) _
      have L5 : Below w.heap.size w W5 := HL4.out.trans (T5.below (B := w.heap.size) (fun b hb => Nat.le_trans hwl hb) HL4.out.size)
      rw [← hW5]
      have HP5 := Lib.hid P5
      have HQ5 := Lib.hid Q5
      have HA5 := Lib.hid A5
      have HL5 := Lib.hid L5
      clear hW5 P5 Q5 A5 L5 T5 f8 g8 f9 g9
      go_upto_region 10 with (first
        | (refine wpList_ldw (ty := 25) _ (by rfl) rfl rfl Tryd.underlying25 rfl op_size rfl HP5.out.rng0 ?_)
        | (go_at_call 12; (with_reducible refine (HEP.out _ (HT.out.below HL5.out HT.out.two)).mono ?_); rintro e w6 ⟨rfl, hb⟩; have A6 := Lib.hid (at_keep HA5.out hb); have Q6 := Lib.hid (at_keep HQ5.out hb); have L6 := Lib.hid (HL5.out.trans (hb.mono HL5.out.size)); clear hb))
      have c6 : w6.cell? ⟨w2.heap.size, 0, none⟩ = some (.int .i64 n) := A6.out.cell 0
      cases wr
      · go_upto_region 12 with (go_at_call 14; (with_reducible refine (HWR.out _).mono ?_); rintro e w7 ⟨rfl, hb⟩; have A7' := Lib.hid (at_keep A6.out hb); have Q7 := Lib.hid (at_keep Q6.out hb); have L7 := Lib.hid (L6.out.trans (hb.mono L6.out.size)); clear hb)
        go_upto_region 13 with (first
          | (refine wpList_ldw (ty := 25) _ (by rfl) rfl rfl Tryd.underlying25 rfl op_size rfl Q7.out.rng0 ?_)
          | (go_at_call 12; (with_reducible refine (HEQ.out _ (HT.out.below L7.out HT.out.two)).mono ?_); rintro e w8 ⟨rfl, hb⟩; have A8 := Lib.hid (at_keep A7'.out hb); have L8 := Lib.hid (L7.out.trans (hb.mono L7.out.size)); clear hb))
        have c8 : w8.cell? ⟨w2.heap.size, 2, none⟩ = some (.int .i64 p1) := A8.out.cell 2
        by_cases hk : k = p1
        · obtain ⟨rfl, hz⟩ := FS.out hk
          have ek : (k == p1) = true := by simpa using hk
          subst hz
          clear hk
          go_wp2
          go_ret
          exact ⟨rfl, L8.out⟩
        · have ek : (k == p1) = false := by simpa using hk
          have HFQ := Lib.hid (FQ.out hk)
          clear hk
          cases zb
          · go_wp2
            go_ret
            exact ⟨rfl, L8.out⟩
          · obtain rfl := HFQ.out rfl
            have a15 := A15.out (uw k)
            have s15 := S15.out
            go_wp2
            go_ret
            exact ⟨rfl, L8.out⟩
      · obtain ⟨rfl, rfl⟩ := FP.out rfl
        have a7 := A7.out (uw k)
        have s7 := S7.out
        go_upto_region 12 with (go_at_call 14; (with_reducible refine (HWR.out _).mono ?_); rintro e w7 ⟨rfl, hb⟩; have A7' := Lib.hid (at_keep A6.out hb); have Q7 := Lib.hid (at_keep Q6.out hb); have L7 := Lib.hid (L6.out.trans (hb.mono L6.out.size)); clear hb)
        go_upto_region 13 with (first
          | (refine wpList_ldw (ty := 25) _ (by rfl) rfl rfl Tryd.underlying25 rfl op_size rfl Q7.out.rng0 ?_)
          | (go_at_call 12; (with_reducible refine (HEQ.out _ (HT.out.below L7.out HT.out.two)).mono ?_); rintro e w8 ⟨rfl, hb⟩; have A8 := Lib.hid (at_keep A7'.out hb); have L8 := Lib.hid (L7.out.trans (hb.mono L7.out.size)); clear hb))
        clear a7 s7
        have c8 : w8.cell? ⟨w2.heap.size, 2, none⟩ = some (.int .i64 p1) := A8.out.cell 2
        by_cases hk : k = p1
        · obtain ⟨rfl, hz⟩ := FS.out hk
          have ek : (k == p1) = true := by simpa using hk
          subst hz
          clear hk
          go_wp2
          go_ret
          exact ⟨rfl, L8.out⟩
        · have ek : (k == p1) = false := by simpa using hk
          have HFQ := Lib.hid (FQ.out hk)
          clear hk
          cases zb
          · go_wp2
            go_ret
            exact ⟨rfl, L8.out⟩
          · obtain rfl := HFQ.out rfl
            have a15 := A15.out (uw k)
            have s15 := S15.out
            go_wp2
            go_ret
            exact ⟨rfl, L8.out⟩
  · have hf : isM x = false := by simpa using hi
    rw [hf] at HX
    clear hi hf
    go_enter Tryd.func8, Tryd.ntmps8
    go_wp2_with (first
      | (go_at_call 9; (with_reducible refine (alive11_any _ HT.out).mono ?_); rintro e w1 ⟨rfl, hb⟩; have L1 := Lib.hid hb; clear hb)
      | (go_at_call 10; (with_reducible refine (HX.out _ (HT.out.below L1.out HT.out.two)).mono ?_); rintro e w2 ⟨rfl, hb⟩; have L2 := Lib.hid (L1.out.trans (hb.mono L1.out.size)); clear hb)
      | (refine wpList_newO 25 (wordM x) w2 _ _ rfl rfl rfl rfl rfl op_size ?_; intro w3 hA hb; have L3 := Lib.hid (L2.out.trans (hb.mono L2.out.size)); clear hA hb))
    go_ret
    exact ⟨rfl, L3.out⟩
end Go.Proofs.YtdloaeifiohefaaDoor
