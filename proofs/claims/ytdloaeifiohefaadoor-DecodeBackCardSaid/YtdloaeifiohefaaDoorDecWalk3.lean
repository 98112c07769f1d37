/- DecodeBack: words come back from their ops, and ops from their words. -/
import Derived.Test.YtdloaeifiohefaaDoorDecV
import Derived.Test.YtdloaeifiohefaaDoorDecL
namespace Go.Proofs.YtdloaeifiohefaaDoor
open Go.RowKit Bm

set_option maxHeartbeats 1000000 in
theorem decodeBack_walk (a0 : Int) (b0 : (Lit.int .u32 a0).wf = true) (a1 : Int) (b1 : (Lit.int .u32 a1).wf = true) (a b c d : Int) (i : BitVec 32) (w : World) (hT : Tabs w) :
    Calls Tryd.prog 5 #[.int .u32 a0, .int .u32 a1, .agg #[.int .i64 a, .int .i64 b, .int .i64 c, .int .i64 d, .int .u32 (U i)]] w fun e w' => e = .returned (.bool true) ∧ Below w.heap.size w w' := by
  have bd := bounds_u32 b0
  obtain ⟨x, rfl⟩ := U_of bd.1 (by omega)
  have bd := bounds_u32 b1
  obtain ⟨y, rfl⟩ := U_of bd.1 (by omega)
  have HT := Lib.hid hT
  obtain ⟨o, ho⟩ : ∃ o, o = (⟨a, b, c, d, i⟩ : OpM) := ⟨_, rfl⟩
  have HO := Lib.hid ho
  have HX := Lib.hid (fun W (h : Tabs W) => word_any x W h)
  have HY := Lib.hid (fun W (h : Tabs W) => word_any y W h)
  have HEX : Hid (∀ W, Tabs W → Calls Tryd.prog 12 #[.agg (opC (wordM x)).toArray] W fun e w' => e = .returned (.tuple #[.int .u32 (U (encM (wordM x))), .bool (encB (wordM x))]) ∧ Below W.heap.size W w') := Lib.hid (fun W h => encode_any _ _ _ _ _ W h)
  have HEO : Hid (∀ W, Tabs W → Calls Tryd.prog 12 #[.agg (opC o).toArray] W fun e w' => e = .returned (.tuple #[.int .u32 (U (encM o)), .bool (encB o)]) ∧ Below W.heap.size W w') := Lib.hid (fun W h => encode_any _ _ _ _ _ W h)
  have HZ := Lib.hid (fun W (h : Tabs W) => word_any (encM o) W h)
  have HB1 := Lib.hid (fun h : isM x = true => wordBack h)
  have HNX := Lib.hid (fun h : isM x = false => is_not h)
  have HIJ := Lib.hid (fun (h : isM x = true) (h2 : isM y = true) => word_inj h h2)
  have HB2 := Lib.hid (fun h : encB o = true => opBack h)
  have HNO := Lib.hid (fun h : encB o = false => enc_no h)
  obtain ⟨p, hp⟩ : ∃ p, p = wordM x := ⟨_, rfl⟩
  obtain ⟨q, hq⟩ : ∃ q, q = wordM y := ⟨_, rfl⟩
  obtain ⟨sx, hsx⟩ : ∃ s, s = isM x := ⟨_, rfl⟩
  obtain ⟨sy, hsy⟩ : ∃ s, s = isM y := ⟨_, rfl⟩
  rw [← hp, ← hsx] at HX
  rw [← hp] at HEX HB1 HNX
  rw [← hsx] at HB1 HNX
  rw [← hp, ← hq, ← hsx, ← hsy] at HIJ
  rw [← hq, ← hsy] at HY
  obtain ⟨z, hz⟩ : ∃ z, z = encM o := ⟨_, rfl⟩
  obtain ⟨sz, hsz⟩ : ∃ s, s = encB o := ⟨_, rfl⟩
  rw [← hz, ← hsz] at HEO HB2
  rw [← hz, ← hsz] at HNO
  rw [← hz] at HZ
  obtain ⟨m, hm⟩ : ∃ m, m = encM p := ⟨_, rfl⟩
  obtain ⟨sm, hsm⟩ : ∃ s, s = encB p := ⟨_, rfl⟩
  rw [← hm, ← hsm] at HEX HB1
  obtain ⟨r, hr⟩ : ∃ r, r = wordM z := ⟨_, rfl⟩
  obtain ⟨sr, hsr⟩ : ∃ s, s = isM z := ⟨_, rfl⟩
  rw [← hr, ← hsr] at HZ HB2
  have qa : ∀ W : World, (Op.equalIn 10000 25 (.agg (opC p).toArray) (.agg (opC q).toArray)).run Tryd.prog W = .ok (decide (p = q)) W := fun W => run_eqO p q W
  have qr : ∀ W : World, (Op.equalIn 10000 28 (.agg (opC o).toArray) (.agg (opC o).toArray)).run Tryd.prog W = .ok true W := fun W => (run_eqR o o W).trans (by simp)
  have q0 : ∀ W : World, (Op.equalIn 10000 25 (.agg (opC op0).toArray) (.agg #[.int .i64 0, .int .i64 0, .int .i64 0, .int .i64 0, .int .u32 0])).run Tryd.prog W = .ok true W := fun W => run_eqO op0 op0 W
  have qi : sx = true → sy = true → decide (p = q) = (U x == U y) := fun h1 h2 => by rw [HIJ.out h1 h2, U_beq]; by_cases e : x = y <;> simp [e]
  have QI := Lib.hid qi
  have AB0 := Lib.hid (At.news w 28 (opC o))
  have LB0 : Hid (∀ o, Below w.heap.size w (w.alloc o)) := Lib.hid fun o => (Below.refl _ w).alloc (Nat.le_refl _) _
  obtain ⟨B, hB⟩ : ∃ B, B = w.heap.size := ⟨_, rfl⟩
  have HBV := Lib.hid hB
  have bw : w.heap.size = B := hB.symm
  rw [← hB] at AB0
  clear hT hB hp hq hsx hsy hz hsz hm hsm hr hsr b0 b1 bd qi ho HIJ
  go_enter Tryd.func5, Tryd.ntmps5
  go_upto_region 5 with (first
    | (go_at_call 9; (with_reducible refine (alive11_any _ (HT.out.below (LB0.out _) HT.out.two)).mono ?_); rintro e w1 ⟨rfl, hb⟩; have A1 := Lib.hid (at_keep AB0.out (show Below (w.alloc (.cells (opC o).toArray 28)).heap.size _ w1 by rw [HO.out]; exact hb)); have L1 := Lib.hid ((LB0.out _).trans (hb.mono (LB0.out _).size)); clear hb)
    | (go_at_call 10; (with_reducible refine (HX.out _ (HT.out.below L1.out HT.out.two)).mono ?_); rintro e w2 ⟨rfl, hb⟩; have A2 := Lib.hid (at_keep A1.out hb); have L2 := Lib.hid (L1.out.trans (hb.mono L1.out.size)); clear hb)
    | (refine wpList_newO 25 p w2 _ _ rfl rfl rfl rfl rfl op_size ?_; intro w3 hA hb; have P3 := Lib.hid hA; have A3 := Lib.hid (at_keep A2.out hb); have L3 := Lib.hid (L2.out.trans (hb.mono L2.out.size)); clear hA hb)
    | (go_at_call 10; (with_reducible refine (HY.out _ (HT.out.below L3.out HT.out.two)).mono ?_); rintro e w4 ⟨rfl, hb⟩; have A4 := Lib.hid (at_keep A3.out hb); have P4 := Lib.hid (at_keep P3.out hb); have L4 := Lib.hid (L3.out.trans (hb.mono L3.out.size)); clear hb)
    | (refine wpList_newO 25 q w4 _ _ rfl rfl rfl rfl rfl op_size ?_; intro w5 hA hb; have Q5 := Lib.hid hA; have A5 := Lib.hid (at_keep A4.out hb); have P5 := Lib.hid (at_keep P4.out hb); have L5 := Lib.hid (L4.out.trans (hb.mono L4.out.size)); clear hA hb))
  cases sx
  · obtain rfl := HNX.out rfl
    go_upto_region 13 with (first
      | (refine wpList_ldw _ (by rfl) rfl rfl Tryd.underlying25 rfl op_size rfl P5.out.rng0 ?_))
    have W6 : Hid (∃ w6, w6 = w5) := Lib.hid ⟨_, rfl⟩
    obtain ⟨A6, L6⟩ : At w5 B 28 (opC o) ∧ Below w.heap.size w w5 := ⟨A5.out, L5.out⟩
    have HA6 := Lib.hid A6
    have HL6 := Lib.hid L6
    obtain ⟨w6, hw6⟩ : ∃ w6, w6 = w5 := ⟨_, rfl⟩
    rw [← hw6] at HA6 HL6 ⊢
    clear hw6 W6 A6 L6
    cases sz
    · obtain rfl := HNO.out rfl
      go_wp2_with (first
        | (refine wpList_ldw _ (by rfl) rfl rfl Tryd.underlying28 rfl rop_size rfl HA6.out.rng0 ?_)
        | (go_at_call 12; (with_reducible refine (HEO.out _ (HT.out.below HL6.out HT.out.two)).mono ?_); rintro e w7 ⟨rfl, hb⟩; have L7 := Lib.hid (HL6.out.trans (hb.mono HL6.out.size)); clear hb))
      go_ret
      exact ⟨rfl, L7.out⟩
    · obtain ⟨hr1, hr2⟩ := HB2.out rfl
      subst hr1 hr2
      go_wp2_with (first
        | (refine wpList_ldw _ (by rfl) rfl rfl Tryd.underlying28 rfl rop_size rfl HA6.out.rng0 ?_)
        | (go_at_call 12; (with_reducible refine (HEO.out _ (HT.out.below HL6.out HT.out.two)).mono ?_); rintro e w7 ⟨rfl, hb⟩; have A7 := Lib.hid (at_keep HA6.out hb); have L7 := Lib.hid (HL6.out.trans (hb.mono HL6.out.size)); clear hb)
        | (go_at_call 10; (with_reducible refine (HZ.out _ (HT.out.below L7.out HT.out.two)).mono ?_); rintro e w8 ⟨rfl, hb⟩; have A8 := Lib.hid (at_keep A7.out hb); have L8 := Lib.hid (L7.out.trans (hb.mono L7.out.size)); clear hb)
        | (refine wpList_newO 25 r w8 _ _ rfl rfl rfl rfl rfl op_size ?_; intro w9 hA hb; have R9 := Lib.hid hA; have A9 := Lib.hid (at_keep A8.out hb); have L9 := Lib.hid (L8.out.trans (hb.mono L8.out.size)); clear hA hb)
        | (refine wpList_ldw _ (by rfl) rfl rfl Tryd.underlying25 rfl op_size rfl R9.out.rng0 ?_)
        | (refine wpList_ldw _ (by rfl) rfl rfl Tryd.underlying28 rfl rop_size rfl A9.out.rng0 ?_))
      go_ret
      exact ⟨rfl, L9.out⟩
  · obtain ⟨hm1, hm2⟩ := HB1.out rfl
    subst hm1 hm2
    cases sy
    · go_upto_region 13 with (first
        | (refine wpList_ldw _ (by rfl) rfl rfl Tryd.underlying25 rfl op_size rfl P5.out.rng0 ?_)
        | (go_at_call 12; (with_reducible refine (HEX.out _ (HT.out.below L5.out HT.out.two)).mono ?_); rintro e w6 ⟨rfl, hb⟩; have HA6 := Lib.hid (at_keep A5.out hb); have HL6 := Lib.hid (L5.out.trans (hb.mono L5.out.size)); clear hb))
      cases sz
      · obtain rfl := HNO.out rfl
        go_wp2_with (first
          | (refine wpList_ldw _ (by rfl) rfl rfl Tryd.underlying28 rfl rop_size rfl HA6.out.rng0 ?_)
          | (go_at_call 12; (with_reducible refine (HEO.out _ (HT.out.below HL6.out HT.out.two)).mono ?_); rintro e w7 ⟨rfl, hb⟩; have L7 := Lib.hid (HL6.out.trans (hb.mono HL6.out.size)); clear hb))
        go_ret
        exact ⟨rfl, L7.out⟩
      · obtain ⟨hr1, hr2⟩ := HB2.out rfl
        subst hr1 hr2
        go_wp2_with (first
          | (refine wpList_ldw _ (by rfl) rfl rfl Tryd.underlying28 rfl rop_size rfl HA6.out.rng0 ?_)
          | (go_at_call 12; (with_reducible refine (HEO.out _ (HT.out.below HL6.out HT.out.two)).mono ?_); rintro e w7 ⟨rfl, hb⟩; have A7 := Lib.hid (at_keep HA6.out hb); have L7 := Lib.hid (HL6.out.trans (hb.mono HL6.out.size)); clear hb)
          | (go_at_call 10; (with_reducible refine (HZ.out _ (HT.out.below L7.out HT.out.two)).mono ?_); rintro e w8 ⟨rfl, hb⟩; have A8 := Lib.hid (at_keep A7.out hb); have L8 := Lib.hid (L7.out.trans (hb.mono L7.out.size)); clear hb)
          | (refine wpList_newO 25 r w8 _ _ rfl rfl rfl rfl rfl op_size ?_; intro w9 hA hb; have R9 := Lib.hid hA; have A9 := Lib.hid (at_keep A8.out hb); have L9 := Lib.hid (L8.out.trans (hb.mono L8.out.size)); clear hA hb)
          | (refine wpList_ldw _ (by rfl) rfl rfl Tryd.underlying25 rfl op_size rfl R9.out.rng0 ?_)
          | (refine wpList_ldw _ (by rfl) rfl rfl Tryd.underlying28 rfl rop_size rfl A9.out.rng0 ?_))
        go_ret
        exact ⟨rfl, L9.out⟩
    · have qi := QI.out rfl rfl
      rw [qi] at qa
      go_upto_region 13 with (first
        | (refine wpList_ldw _ (by rfl) rfl rfl Tryd.underlying25 rfl op_size rfl P5.out.rng0 ?_)
        | (go_at_call 12; (with_reducible refine (HEX.out _ (HT.out.below L5.out HT.out.two)).mono ?_); rintro e w6 ⟨rfl, hb⟩; have HA6 := Lib.hid (at_keep A5.out hb); have HP6 := Lib.hid (at_keep P5.out hb); have HQ6 := Lib.hid (at_keep Q5.out hb); have HL6 := Lib.hid (L5.out.trans (hb.mono L5.out.size)); clear hb)
        | (refine wpList_ldw _ (by rfl) rfl rfl Tryd.underlying25 rfl op_size rfl HP6.out.rng0 ?_)
        | (refine wpList_ldw _ (by rfl) rfl rfl Tryd.underlying25 rfl op_size rfl HQ6.out.rng0 ?_))
      cases sz
      · obtain rfl := HNO.out rfl
        go_wp2_with (first
          | (refine wpList_ldw _ (by rfl) rfl rfl Tryd.underlying28 rfl rop_size rfl HA6.out.rng0 ?_)
          | (go_at_call 12; (with_reducible refine (HEO.out _ (HT.out.below HL6.out HT.out.two)).mono ?_); rintro e w7 ⟨rfl, hb⟩; have L7 := Lib.hid (HL6.out.trans (hb.mono HL6.out.size)); clear hb))
        go_ret
        exact ⟨rfl, L7.out⟩
      · obtain ⟨hr1, hr2⟩ := HB2.out rfl
        subst hr1 hr2
        go_wp2_with (first
          | (refine wpList_ldw _ (by rfl) rfl rfl Tryd.underlying28 rfl rop_size rfl HA6.out.rng0 ?_)
          | (go_at_call 12; (with_reducible refine (HEO.out _ (HT.out.below HL6.out HT.out.two)).mono ?_); rintro e w7 ⟨rfl, hb⟩; have A7 := Lib.hid (at_keep HA6.out hb); have L7 := Lib.hid (HL6.out.trans (hb.mono HL6.out.size)); clear hb)
          | (go_at_call 10; (with_reducible refine (HZ.out _ (HT.out.below L7.out HT.out.two)).mono ?_); rintro e w8 ⟨rfl, hb⟩; have A8 := Lib.hid (at_keep A7.out hb); have L8 := Lib.hid (L7.out.trans (hb.mono L7.out.size)); clear hb)
          | (refine wpList_newO 25 r w8 _ _ rfl rfl rfl rfl rfl op_size ?_; intro w9 hA hb; have R9 := Lib.hid hA; have A9 := Lib.hid (at_keep A8.out hb); have L9 := Lib.hid (L8.out.trans (hb.mono L8.out.size)); clear hA hb)
          | (refine wpList_ldw _ (by rfl) rfl rfl Tryd.underlying25 rfl op_size rfl R9.out.rng0 ?_)
          | (refine wpList_ldw _ (by rfl) rfl rfl Tryd.underlying28 rfl rop_size rfl A9.out.rng0 ?_))
        go_ret
        exact ⟨rfl, L9.out⟩
end Go.Proofs.YtdloaeifiohefaaDoor
