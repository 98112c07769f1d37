/- Which block is in the way of a page (inTheWay). | Read of a store. | A store makes room for a page, and writes it (add). -/
import Derived.Test.YtpkkejdjhnmjiaaGreatFtl6
import Derived.Deep.LoopGhost
namespace Go.Proofs.YtpkkejdjhnmjiaaGreat
open Go.RowKit Bm Go.Shelf
def wayB (y : PlM × PlM) : Nat := if 0 < U y.2.p.q then y.2.b.toNat else y.1.b.toNat
def wayM (k : Nat) (x : StoM) (G : BitVec 32 → Option (PlM × PlM)) (sec : BitVec 32) : Int × Bool :=
  if roomyM x = false ∧ (cheapM x (mvOf G ((k - 3) * 6))).2 = true then (((cheapM x (mvOf G ((k - 3) * 6))).1 : Int), true) else
  if U ((G sec).getD co0).1.p.q < 2147483648 then (0, false) else
  ((wayB ((G sec).getD co0) : Int), fitsM x (wayB ((G sec).getD co0)) (mvOf G ((k - 3) * 6) (wayB ((G sec).getD co0))))
def Within (k : Nat) (G : BitVec 32 → Option (PlM × PlM)) : Prop := ∀ s y, G s = some y → (∃ b : Nat, b < k ∧ y.1.b = (b : Int)) ∧ (0 < U y.2.p.q → ∃ b : Nat, b < k ∧ y.2.b = (b : Int))
section
variable {B p f q s k g : Nat} {K : Nat → Prop} {d d' : DrvM} {x : StoM} {w w' : World}
set_option maxRecDepth 100000 in
set_option maxHeartbeats 1000000 in
theorem Sto.inTheWay (h : Sto B p f q s k g K d x w) (hk : k ≤ 19) (k3 : 3 ≤ k) {mb mn : Nat} {G : BitVec 32 → Option (PlM × PlM)} (hM : MapC w mb mn G) (hG : Within k G) (sec : BitVec 32) :
    Calls Tryz.prog 144 #[.pointer (some ⟨s, 0, none⟩), .map (some mb), .int .u32 (U sec)] w fun e w' => e = .returned (.tuple #[.int .i64 (wayM k x G sec).1, .bool (wayM k x G sec).2]) ∧ Below w.heap.size w w' := by
  have MV := Lib.hid (h.moves k3 hM (fun s y e => (hG s y e).1))
  have RO := Lib.hid (fun W (hW : Below w.heap.size w W) => (h.below hW).roomy hk)
  obtain ⟨F, hF⟩ : ∃ F, F = mvOf G ((k - 3) * 6) := ⟨_, rfl⟩
  have HFL : Hid (∀ b, (F b).length ≤ 100000) := Lib.hid (fun b => by rw [hF]; have := mvOf_len G ((k - 3) * 6) b; omega)
  have CH := Lib.hid (fun W (hW : Below w.heap.size w W) (gm : Nat) (vs : List Value) (B' : Nat) (hR : RowMV B' gm k F vs W) => (h.below hW).cheapest hk k3 hR HFL.out)
  have FI := Lib.hid (fun W (hW : Below w.heap.size w W) (b : Nat) (hb : b < k) (A : Option Addr) (cap : Nat) (hA : ReadsM W A (F b).length cap (F b)) => (h.below hW).fits b hb hA (HFL.out b))
  have HWM : Hid (wayM k x G sec = if roomyM x = false ∧ (cheapM x F).2 = true then (((cheapM x F).1 : Int), true) else
      if U ((G sec).getD co0).1.p.q < 2147483648 then (0, false) else
      ((wayB ((G sec).getD co0) : Int), fitsM x (wayB ((G sec).getD co0)) (F (wayB ((G sec).getD co0))))) := Lib.hid (by rw [hF]; rfl)
  rw [← hF] at MV
  obtain ⟨y, hy⟩ : ∃ y, y = (G sec).getD co0 := ⟨_, rfl⟩
  rw [← hy] at HWM
  have HWY : Hid (2147483648 ≤ U y.1.p.q → wayB y < k) := Lib.hid (by
    intro hq
    unfold wayB
    cases hg : G sec with
    | none =>
      rw [hg] at hy
      rw [hy] at hq
      exact absurd hq (by decide)
    | some z =>
      rw [hg] at hy
      rw [hy]
      obtain ⟨⟨b1, h1, e1⟩, h2⟩ := hG sec z hg
      show (if 0 < U z.2.p.q then z.2.b.toNat else z.1.b.toNat) < k
      split
      · next h0 =>
        obtain ⟨b2, h3, e3⟩ := h2 h0
        rw [e3]
        omega
      · rw [e1]
        omega)
  have HWB : Hid (2147483648 ≤ U y.1.p.q → (0 < U y.2.p.q → y.2.b = (wayB y : Int)) ∧ (¬ 0 < U y.2.p.q → y.1.b = (wayB y : Int))) := Lib.hid (by
    intro hq
    unfold wayB
    cases hg : G sec with
    | none =>
      rw [hg] at hy
      rw [hy] at hq
      exact absurd hq (by decide)
    | some z =>
      rw [hg] at hy
      rw [hy]
      obtain ⟨⟨b1, h1, e1⟩, h2⟩ := hG sec z hg
      show (0 < U z.2.p.q → z.2.b = ((if 0 < U z.2.p.q then z.2.b.toNat else z.1.b.toNat : Nat) : Int)) ∧ (¬ 0 < U z.2.p.q → z.1.b = ((if 0 < U z.2.p.q then z.2.b.toNat else z.1.b.toNat : Nat) : Int))
      refine ⟨fun h0 => ?_, fun h0 => ?_⟩
      · obtain ⟨b2, h3, e3⟩ := h2 h0
        rw [if_pos h0, e3]
        omega
      · rw [if_neg h0, e1]
        omega)
  have HY := Lib.hid hy
  have HM := Lib.hid hM
  obtain ⟨R, hR⟩ : ∃ R, R = wayM k x G sec := ⟨_, rfl⟩
  rw [← hR] at HWM ⊢
  have hk2 := h.k2
  obtain ⟨ro, hro⟩ : ∃ ro, ro = roomyM x := ⟨_, rfl⟩
  obtain ⟨ch, hch⟩ : ∃ ch, ch = cheapM x F := ⟨_, rfl⟩
  rw [← hro, ← hch] at HWM
  rw [← hro] at RO
  rw [← hch] at CH
  obtain ⟨c1, c2⟩ := ch
  simp only at CH HWM
  clear h hM hG hF hy hR hro hch
  by_cases h3 : ro = false ∧ c2 = true
  · obtain ⟨rfl, rfl⟩ := h3
    have HRR : Hid (R = ((c1 : Int), true)) := Lib.hid (by rw [HWM.out, if_pos ⟨rfl, rfl⟩])
    go_enter Tryz.func144, Tryz.ntmps144
    go_wp2_with (first
      | (go_at_call 146; (with_reducible refine MV.out.mono ?_); rintro e w1 ⟨gm, rfl, ⟨vs, hrow⟩, hgm, hb1⟩; have HROW := Lib.hid hrow; have HB1 := Lib.hid hb1; clear hrow hb1)
      | (go_at_call 150; (with_reducible refine (RO.out _ HB1.out).mono ?_); rintro e w2 ⟨rfl, hb2⟩; have HB2 : Hid (Below w.heap.size w w2) := Lib.hid (HB1.out.trans (hb2.mono HB1.out.size)); have HROW2 := Lib.hid (HROW.out.below hb2); clear hb2)
      | (go_at_call 151; (with_reducible refine (CH.out _ HB2.out _ _ _ HROW2.out).mono ?_); rintro e w3 ⟨rfl, hb3⟩; have HB3 : Hid (Below w.heap.size w w3) := Lib.hid (HB2.out.trans (hb3.mono HB2.out.size)); have HROW3 := Lib.hid (HROW2.out.below hb3); clear hb3))
    refine bodyPost_ret (results_tmp2 rfl _ _ _) rfl ⟨?_, HB3.out⟩
    rw [HRR.out]
    rfl
  · obtain ⟨T, hT⟩ : ∃ T, T = U y.1.p.q := ⟨_, rfl⟩
    have HT := Lib.hid hT
    obtain ⟨T2, hT2⟩ : ∃ T2, T2 = U y.2.p.q := ⟨_, rfl⟩
    have HT2 := Lib.hid hT2
    rw [← hT, ← hT2] at HWB
    rw [← hT] at HWM HWY
    have HRR : Hid (R = if T < 2147483648 then (0, false) else ((wayB y : Int), fitsM x (wayB y) (F (wayB y)))) := Lib.hid (by rw [HWM.out, if_neg h3])
    have h4 : ro = true ∨ (ro = false ∧ c2 = false) := by
      cases ro
      · cases c2
        · exact .inr ⟨rfl, rfl⟩
        · exact absurd ⟨rfl, rfl⟩ h3
      · exact .inl rfl
    have H4 := Lib.hid h4
    clear h3 h4 hT hT2
    go_enter Tryz.func144, Tryz.ntmps144
    go_upto_region 2 with (first
      | (go_at_call 146; (with_reducible refine MV.out.mono ?_); rintro e w1 ⟨gm, rfl, ⟨vs, hrow⟩, hgm, hb1⟩; have HROW := Lib.hid hrow; have HB1 := Lib.hid hb1; clear hrow hb1))
    rcases H4.out with rfl | ⟨rfl, rfl⟩
    · go_upto_region 6 with (first
        | (go_at_call 150; (with_reducible refine (RO.out _ HB1.out).mono ?_); rintro e wz ⟨rfl, hb2⟩; have HBz : Hid (Below w.heap.size w wz) := Lib.hid (HB1.out.trans (hb2.mono HB1.out.size)); have HROWz := Lib.hid (HROW.out.below hb2); clear hb2))
      have HMZ := Lib.hid (HM.out.below HBz.out)
      clear RO CH MV
      go_upto_region 7 with (first
        | (refine wpList_lookC _ _ sec rfl rfl rfl rfl HMZ.out ?_; rw [← HY.out])
        | (refine wpList_stm (pre := []) (post := []) (xs := coC co0) (ys := coC y) _ _ rfl rfl rfl rfl co_size (coC_len _) (coC_len _) (coC_one _) rfl (by simp) (At.news wz _ (coC co0)) ?_; intro w4 A4 T4; rw [List.nil_append, List.append_nil] at A4; have HA4 := Lib.hid A4; have HT4 : Hid (Below wz.heap.size wz w4) := Lib.hid (((Below.refl _ wz).alloc (Nat.le_refl _) _).trans (T4.below (fun i hi => by unfold Just at hi; omega) (by simp))); clear A4 T4))
      have HB4 : Hid (Below w.heap.size w w4) := Lib.hid (HBz.out.trans (HT4.out.mono HBz.out.size))
      have HROW4 := Lib.hid (HROWz.out.below HT4.out)
      obtain ⟨bx, hbx⟩ : ∃ bx, bx = wz.heap.size := ⟨_, rfl⟩
      rw [← hbx] at HA4 ⊢
      clear hbx HROWz HMZ
      have a0 : w4.cell? ⟨bx, 0, none⟩ = some (.int .i64 y.1.b) := HA4.out.cell 0
      have a3 : w4.cell? ⟨bx, 3, none⟩ = some (.int .u32 T) := by rw [HT.out]; exact HA4.out.cell 3
      have a9 : w4.cell? ⟨bx, 9, none⟩ = some (.int .i64 y.2.b) := HA4.out.cell 9
      have a12 : w4.cell? ⟨bx, 12, none⟩ = some (.int .u32 T2) := by rw [HT2.out]; exact HA4.out.cell 12
      by_cases q1 : T < 2147483648
      · have HRN : Hid (R = (0, false)) := Lib.hid (by rw [HRR.out, if_pos q1])
        go_wp2
        refine bodyPost_ret (results_tmp2 rfl _ _ _) rfl ⟨?_, HB4.out⟩
        rw [HRN.out]
        rfl
      · have HRN : Hid (R = ((wayB y : Int), fitsM x (wayB y) (F (wayB y)))) := Lib.hid (by rw [HRR.out, if_neg q1])
        have hwk := HWY.out (by omega)
        have HWB2 := Lib.hid (HWB.out (by omega))
        obtain ⟨bb, hbb⟩ : ∃ bb, bb = wayB y := ⟨_, rfl⟩
        rw [← hbb] at HRN hwk HWB2
        obtain ⟨v, hv⟩ : ∃ v, vs[bb]? = some v := ⟨_, List.getElem?_eq_getElem (by rw [HROW4.out.len]; exact hwk)⟩
        obtain ⟨A, cap, rfl, hA⟩ := own_reads (HROW4.out.own bb v hv)
        have gc : w4.cell? ⟨gm, bb, none⟩ = some (.slice A (F bb).length cap) := by rw [HROW4.out.at'.cell]; exact hv
        have FI2 := Lib.hid (FI.out w4 HB4.out bb hwk A cap hA)
        have b0 : (0 : Int) ≤ (bb : Int) := by omega
        have b1 : (bb : Int) < (k : Int) := by omega
        clear FI HWY HWB hbb hA hv HROW4 hwk
        by_cases q2 : 0 < T2
        · have ebb := HWB2.out.1 q2
          rw [ebb] at a9
          have EBB := Lib.hid ebb
          clear ebb HWB2
          go_wp2_with (first
            | (go_at_call 152; (with_reducible refine FI2.out.mono ?_); rintro e w5 ⟨rfl, hb5⟩; have HB5 : Hid (Below w.heap.size w w5) := Lib.hid (HB4.out.trans (hb5.mono HB4.out.size)); clear hb5))
          refine bodyPost_ret (results_tmp2 rfl _ _ _) rfl ⟨?_, HB5.out⟩
          rw [HRN.out]
          rfl
        · have ebb := HWB2.out.2 (by omega)
          rw [ebb] at a0
          have EBB := Lib.hid ebb
          clear ebb HWB2
          go_wp2_with (first
            | (go_at_call 152; (with_reducible refine FI2.out.mono ?_); rintro e w5 ⟨rfl, hb5⟩; have HB5 : Hid (Below w.heap.size w w5) := Lib.hid (HB4.out.trans (hb5.mono HB4.out.size)); clear hb5))
          refine bodyPost_ret (results_tmp2 rfl _ _ _) rfl ⟨?_, HB5.out⟩
          rw [HRN.out]
          rfl
    · go_upto_region 6 with (first
        | (go_at_call 150; (with_reducible refine (RO.out _ HB1.out).mono ?_); rintro e w2 ⟨rfl, hb2⟩; have HB2 : Hid (Below w.heap.size w w2) := Lib.hid (HB1.out.trans (hb2.mono HB1.out.size)); have HROW2 := Lib.hid (HROW.out.below hb2); clear hb2)
        | (go_at_call 151; (with_reducible refine (CH.out _ HB2.out _ _ _ HROW2.out).mono ?_); rintro e wz ⟨rfl, hb3⟩; have HBz : Hid (Below w.heap.size w wz) := Lib.hid (HB2.out.trans (hb3.mono HB2.out.size)); have HROWz := Lib.hid (HROW2.out.below hb3); clear hb3))
      have HMZ := Lib.hid (HM.out.below HBz.out)
      clear RO CH MV
      go_upto_region 7 with (first
        | (refine wpList_lookC _ _ sec rfl rfl rfl rfl HMZ.out ?_; rw [← HY.out])
        | (refine wpList_stm (pre := []) (post := []) (xs := coC co0) (ys := coC y) _ _ rfl rfl rfl rfl co_size (coC_len _) (coC_len _) (coC_one _) rfl (by simp) (At.news wz _ (coC co0)) ?_; intro w4 A4 T4; rw [List.nil_append, List.append_nil] at A4; have HA4 := Lib.hid A4; have HT4 : Hid (Below wz.heap.size wz w4) := Lib.hid (((Below.refl _ wz).alloc (Nat.le_refl _) _).trans (T4.below (fun i hi => by unfold Just at hi; omega) (by simp))); clear A4 T4))
      have HB4 : Hid (Below w.heap.size w w4) := Lib.hid (HBz.out.trans (HT4.out.mono HBz.out.size))
      have HROW4 := Lib.hid (HROWz.out.below HT4.out)
      obtain ⟨bx, hbx⟩ : ∃ bx, bx = wz.heap.size := ⟨_, rfl⟩
      rw [← hbx] at HA4 ⊢
      clear hbx HROWz HMZ
      have a0 : w4.cell? ⟨bx, 0, none⟩ = some (.int .i64 y.1.b) := HA4.out.cell 0
      have a3 : w4.cell? ⟨bx, 3, none⟩ = some (.int .u32 T) := by rw [HT.out]; exact HA4.out.cell 3
      have a9 : w4.cell? ⟨bx, 9, none⟩ = some (.int .i64 y.2.b) := HA4.out.cell 9
      have a12 : w4.cell? ⟨bx, 12, none⟩ = some (.int .u32 T2) := by rw [HT2.out]; exact HA4.out.cell 12
      by_cases q1 : T < 2147483648
      · have HRN : Hid (R = (0, false)) := Lib.hid (by rw [HRR.out, if_pos q1])
        go_wp2
        refine bodyPost_ret (results_tmp2 rfl _ _ _) rfl ⟨?_, HB4.out⟩
        rw [HRN.out]
        rfl
      · have HRN : Hid (R = ((wayB y : Int), fitsM x (wayB y) (F (wayB y)))) := Lib.hid (by rw [HRR.out, if_neg q1])
        have hwk := HWY.out (by omega)
        have HWB2 := Lib.hid (HWB.out (by omega))
        obtain ⟨bb, hbb⟩ : ∃ bb, bb = wayB y := ⟨_, rfl⟩
        rw [← hbb] at HRN hwk HWB2
        obtain ⟨v, hv⟩ : ∃ v, vs[bb]? = some v := ⟨_, List.getElem?_eq_getElem (by rw [HROW4.out.len]; exact hwk)⟩
        obtain ⟨A, cap, rfl, hA⟩ := own_reads (HROW4.out.own bb v hv)
        have gc : w4.cell? ⟨gm, bb, none⟩ = some (.slice A (F bb).length cap) := by rw [HROW4.out.at'.cell]; exact hv
        have FI2 := Lib.hid (FI.out w4 HB4.out bb hwk A cap hA)
        have b0 : (0 : Int) ≤ (bb : Int) := by omega
        have b1 : (bb : Int) < (k : Int) := by omega
        clear FI HWY HWB hbb hA hv HROW4 hwk
        by_cases q2 : 0 < T2
        · have ebb := HWB2.out.1 q2
          rw [ebb] at a9
          have EBB := Lib.hid ebb
          clear ebb HWB2
          go_wp2_with (first
            | (go_at_call 152; (with_reducible refine FI2.out.mono ?_); rintro e w5 ⟨rfl, hb5⟩; have HB5 : Hid (Below w.heap.size w w5) := Lib.hid (HB4.out.trans (hb5.mono HB4.out.size)); clear hb5))
          refine bodyPost_ret (results_tmp2 rfl _ _ _) rfl ⟨?_, HB5.out⟩
          rw [HRN.out]
          rfl
        · have ebb := HWB2.out.2 (by omega)
          rw [ebb] at a0
          have EBB := Lib.hid ebb
          clear ebb HWB2
          go_wp2_with (first
            | (go_at_call 152; (with_reducible refine FI2.out.mono ?_); rintro e w5 ⟨rfl, hb5⟩; have HB5 : Hid (Below w.heap.size w w5) := Lib.hid (HB4.out.trans (hb5.mono HB4.out.size)); clear hb5))
          refine bodyPost_ret (results_tmp2 rfl _ _ _) rfl ⟨?_, HB5.out⟩
          rw [HRN.out]
          rfl
end
end Go.Proofs.YtpkkejdjhnmjiaaGreat
namespace Go.Proofs.YtpkkejdjhnmjiaaGreat
open Go.RowKit Bm Go.Shelf
def d4Of (p : PageM) : List (BitVec 32) := [p.d0, p.d1, p.d2, p.d3]
def d40 : List (BitVec 32) := [0#32, 0#32, 0#32, 0#32]
theorem d4_size : (Tryz.prog.info? 43).map (·.size) = some 4 := by kernel_rfl
theorem pl9_size : (Tryz.prog.info? 75).map (·.size) = some 9 := by kernel_rfl
theorem run_bd4 (w : World) : (Instr.build 43 #[]).run Tryz.prog w = .ok (.agg (Us d40).toArray) w := by kernel_rfl
theorem d4_res2 {fn : Func} {i j : Tmp} (h : fn.results = #[.cell i 43, .tmp j]) (tmps : Array Value) {w : World} {g : Nat} {cs : List Value} {v : Value} (hp : tmps.getD i undef = .pointer (some ⟨g, 0, none⟩)) (hq : tmps.getD j undef = v) (hA : At w g 43 cs) (hn : cs.length = 4) :
    (results fn tmps).run Tryz.prog w = .ok (.tuple #[.agg cs.toArray, v]) w := by
  have hp' : tmps[i]?.getD undef = .pointer (some ⟨g, 0, none⟩) := by simpa using hp
  have hq' : tmps[j]?.getD undef = v := by simpa using hq
  simp [results, h, hp', hq', asAddr, run_loadVar_row (P := Tryz.prog) w g 43 43 cs.toArray (0, 0) _ hA Tryz.underlying43 rfl (by rw [d4_size]; simp [hn])]
section
variable {ops : Array Oper} {rest : List Oper} {o : Oper} {a : Go.Act} {w : World} {Q : Exit → Go.Act → World → Prop}
theorem wpList_bd4 (hgd : o.guard = none) (ho : o.op = .build 43 #[])
    (hK : wpList Tryz.prog ops Q rest (a.put o.dst (.agg (Us d40).toArray)) w) : wpList Tryz.prog ops Q (o :: rest) a w :=
  wpList_plain hgd fun K hK' => by
    unfold Oper.wp execOp
    simp only [ho, List.map_toArray, List.map_nil, Sem.run_bind, run_bd4, Result.andThen_ok]
    exact hK' _ _ hK
end
section
variable {B p f q s k g : Nat} {K : Nat → Prop} {d d' : DrvM} {x : StoM} {w w' : World}
theorem begin_calm (ok : DrvOk k d) (x : StoM) (a : Int) : DrvOk k (mBegin k d x a).1 := by
  unfold mBegin
  split
  · exact ok
  · split
    · exact ok
    · exact look_calm ok
theorem begin_range {d : DrvM} {x : StoM} {a : Int} (h : (mBegin k d x a).2.2 = 0) : 0 ≤ a ∧ a < secs k := by
  unfold mBegin at h
  split at h
  · cases h
  · omega
def rdOf (x : StoM) (n : Nat) : List (BitVec 32) := d4Of ((lFind (lOf (cnt x.bs)) (BitVec.ofNat 32 n)).getD pl0).p
def rdM (k : Nat) (d : DrvM) (x : StoM) (a : Int) : List (BitVec 32) := if (mBegin k d x a).2.2 = 0 then rdOf (mBegin k d x a).2.1 a.toNat else d40
set_option maxRecDepth 100000 in
set_option maxHeartbeats 1000000 in
theorem Sto.read (h : Sto B p f q s k g K d x w) (ok : DrvOk k d) (k1 : 3 ≤ k) (a : Int) (a0 : -9223372036854775808 ≤ a) (a1 : a ≤ 9223372036854775807) :
    Calls Tryz.prog 9 #[.pointer (some ⟨s, 0, none⟩), .int .i64 a] w fun e w' => e = .returned (.tuple #[.agg (Us (rdM k d x a)).toArray, .int .i64 (mBegin k d x a).2.2]) ∧ (∃ g', Sto B p f q s k g' K (mBegin k d x a).1 (mBegin k d x a).2.1 w') ∧ Turned (May B K) w w' := by
  obtain ⟨W0, hW0⟩ : ∃ W0, W0 = w.alloc (.cells (Us d40).toArray 43) := ⟨_, rfl⟩
  have hW0' : w.alloc (.cells #[.int .u32 0, .int .u32 0, .int .u32 0, .int .u32 0] 43) = W0 := hW0.symm
  have A0 : At W0 w.heap.size 43 (Us d40) := by rw [hW0]; exact At.news w _ _
  have B0 : Below w.heap.size w W0 := by rw [hW0]; exact (Below.refl _ w).alloc (Nat.le_refl _) _
  have hS0 : Sto B p f q s k g (fun i => K i ∨ i = w.heap.size) d x W0 := h.renew ok.calm.job B0 (fun i e => by
    rcases e with e | rfl
    · exact ⟨.inl e, Nat.lt_of_lt_of_le (h.kin i e) B0.size⟩
    · exact ⟨.inr (Nat.le_refl _), A0.lt⟩)
  have BE := Lib.hid (hS0.begin ok k1 a a0 a1)
  have HRG : Hid ((mBegin k d x a).2.2 = 0 → 0 ≤ a ∧ a < secs k) := Lib.hid begin_range
  have HCL := Lib.hid (begin_calm (k := k) ok x a)
  have HRD : Hid (rdM k d x a = if (mBegin k d x a).2.2 = 0 then rdOf (mBegin k d x a).2.1 a.toNat else d40) := Lib.hid rfl
  obtain ⟨r, hr⟩ : ∃ r, r = mBegin k d x a := ⟨_, rfl⟩
  obtain ⟨rd, hrd⟩ : ∃ rd, rd = rdM k d x a := ⟨_, rfl⟩
  rw [← hr] at BE HRG HCL HRD ⊢
  rw [← hrd] at HRD ⊢
  have HA0 := Lib.hid A0
  have HB0 := Lib.hid B0
  have hk2 := h.k2
  have hsz := Lib.hid h.size
  obtain ⟨bx, hbx⟩ : ∃ bx, bx = w.heap.size := ⟨_, rfl⟩
  have HBX := Lib.hid hbx
  rw [← hbx] at HA0 BE
  clear h ok hr hrd A0 B0 hS0 hbx hW0
  by_cases he : r.2.2 = 0
  · obtain ⟨n0, n1⟩ := HRG.out he
    obtain ⟨n, rfl⟩ : ∃ n : Nat, a = (n : Int) := ⟨a.toNat, by omega⟩
    have hn4 : (n : Int) < 400 := by unfold secs at n1; omega
    have HE := Lib.hid he
    have b1 : (r.2.2 != 0) = false := by rw [bne_eq_false_iff_eq]; exact he
    have HR2 : Hid (rd = rdOf r.2.1 n) := Lib.hid (by rw [HRD.out, if_pos HE.out, Int.toNat_natCast])
    have hU : U (BitVec.ofNat 32 n) = (n : Int) := U_ofNat n (by omega)
    have HU := Lib.hid hU
    clear he hU HRG HRD n1 a0 a1
    go_enter Tryz.func9, Tryz.ntmps9
    go_upto_region 1 with (fail)
    rw [← HBX.out]
    clear hW0'
    go_upto_region 4 with (first
      | (go_at_call 20; (with_reducible refine BE.out.mono ?_); rintro e w1 ⟨rfl, ⟨g1, hs1⟩, t1⟩; have HS1 := Lib.hid hs1; have HT1 := Lib.hid t1; clear hs1 t1))
    have HAB : Hid (At w1 bx 43 (Us d40)) := Lib.hid (HA0.out.kept HT1.out (fun e => e.2 (.inr rfl)))
    have c1 := HS1.out.c1
    have OF := Lib.hid (lof_any _ _ _ r.2.1.bs w1 HS1.out.reads (by rw [HS1.out.len]; omega))
    have HLL : Hid ((lOf (cnt r.2.1.bs)).length ≤ 100000) := Lib.hid (by
      have h1 := of_len (cnt r.2.1.bs)
      have h2 := cnt_len r.2.1.bs
      have h3 := HS1.out.len
      omega)
    obtain ⟨L, hL⟩ : ∃ L, L = lOf (cnt r.2.1.bs) := ⟨_, rfl⟩
    obtain ⟨y, hy⟩ : ∃ y, y = (lFind L (BitVec.ofNat 32 n)).getD pl0 := ⟨_, rfl⟩
    obtain ⟨is, his⟩ : ∃ is, is = (lFind L (BitVec.ofNat 32 n)).isSome := ⟨_, rfl⟩
    have HRY : Hid (rd = d4Of y.p) := Lib.hid (by rw [HR2.out, hy, hL]; rfl)
    rw [← hL] at OF HLL
    have FI : Hid (∀ A cap W, ReadsL W A L.length cap L → Calls Tryz.prog 21 #[.slice A L.length cap, .int .u32 (n : Int)] W fun e w' => e = .returned (.tuple #[plV y, .bool is]) ∧ Below W.heap.size W w') := Lib.hid (fun A cap W hA => by
      have := lfind_any A L.length cap L (BitVec.ofNat 32 n) W hA HLL.out
      rw [HU.out, ← hy, ← his] at this
      exact this)
    obtain ⟨nb, hnb⟩ : ∃ nb, nb = r.2.1.bs.length := ⟨_, rfl⟩
    rw [← hnb] at c1 OF
    clear hL hy his HR2 BE hnb HLL hk2
    go_upto_region 5 with (first
      | (go_at_call 22; (with_reducible refine OF.out.mono ?_); rintro e w2 ⟨A2, cap2, rfl, hr2, hb2⟩; have HR2 := Lib.hid hr2; have HB2 := Lib.hid hb2; clear hr2 hb2)
      | (go_at_call 21; (with_reducible refine (FI.out _ _ _ HR2.out).mono ?_); rintro e w3 ⟨rfl, hb3⟩; have HB3 := Lib.hid (HB2.out.trans (hb3.mono HB2.out.size)); clear hb3)
      | (refine wpList_stm (pre := []) (post := []) (xs := plC pl0) (ys := plC y) _ _ rfl rfl rfl rfl pl9_size (plC_len _) (plC_len _) (plC_one _) rfl (by simp) (At.news w3 _ (plC pl0)) ?_; intro w4 A4 T4; rw [List.nil_append, List.append_nil] at A4; have HA4 := Lib.hid A4; have HT4 : Hid (Below w3.heap.size w3 w4) := Lib.hid (((Below.refl _ w3).alloc (Nat.le_refl _) _).trans (T4.below (fun i hi => by unfold Just at hi; omega) (by simp))); clear A4 T4))
    have HB4 : Hid (Below w1.heap.size w1 w4) := Lib.hid (HB3.out.trans (HT4.out.mono HB3.out.size))
    have HAB4 : Hid (At w4 bx 43 (Us d40)) := Lib.hid (HAB.out.kept (Turned.of_below HB4.out (Nat.le_refl _) NoBlock) (fun h => h))
    have HRNG : Hid (w4.rangeAt w3.heap.size 5 (Us (d4Of y.p))) := Lib.hid (fun j v hj => by
      rw [HA4.out.cell]
      unfold plC pgC
      simp only [Us, d4Of, List.map_cons, List.map_nil] at hj
      rcases j with _ | _ | _ | _ | j <;> simp_all)
    go_wp2_with (first
      | (refine wpList_ldr _ rfl rfl rfl Tryz.underlying43 rfl d4_size (by rfl) HRNG.out ?_)
      | (refine wpList_stm (pre := []) (post := []) (xs := Us d40) (ys := Us (d4Of y.p)) _ _ rfl rfl rfl rfl d4_size rfl rfl (Us_one _) rfl (by simp) HAB4.out ?_; intro w5 A5 T5; rw [List.nil_append, List.append_nil] at A5; have HA5 := Lib.hid A5; have HT5 := Lib.hid T5; clear A5 T5))
    have HS5 : Hid (Sto B p f q s k g1 (fun i => K i ∨ i = bx) r.1 r.2.1 w5) := Lib.hid (by
      have h4 := HS1.out.below HB4.out
      exact h4.move HCL.out.calm.job (S := Just bx) (fun i e => .inr e) HT5.out (fun i e => ⟨.inl e, Nat.lt_of_lt_of_le (h4.kin i e) HT5.out.size⟩))
    refine bodyPost_ret (d4_res2 (cs := Us (d4Of y.p)) Tryz.results9 _ rfl rfl HA5.out rfl) rfl ⟨by rw [HRY.out, HE.out]; rfl, ⟨g1, HS5.out.less fun _ e => .inl e⟩, ?_⟩
    have t1 : Turned (May B K) W0 w1 := may_less HT1.out fun _ e => .inl e
    have t4 : Turned (May B K) w1 w4 := Turned.of_below HB4.out (Nat.le_refl _) _
    exact ((Turned.of_below HB0.out (Nat.le_refl _) _).trans (t1.trans t4)).after HT5.out (fun i hi h => by unfold Just at h; have := HBX.out; omega)
  · have b1 : (r.2.2 != 0) = true := by rw [bne_iff_ne]; exact he
    have HR2 : Hid (rd = d40) := Lib.hid (by rw [HRD.out, if_neg he])
    clear he HRG HRD
    go_enter Tryz.func9, Tryz.ntmps9
    go_upto_region 1 with (fail)
    rw [← HBX.out]
    clear hW0'
    go_upto_region 3 with (first
      | (go_at_call 20; (with_reducible refine BE.out.mono ?_); rintro e w1 ⟨rfl, ⟨g1, hs1⟩, t1⟩; have HS1 := Lib.hid hs1; have HT1 := Lib.hid t1; clear hs1 t1))
    have HAB : Hid (At w1 bx 43 (Us d40)) := Lib.hid (HA0.out.kept HT1.out (fun e => e.2 (.inr rfl)))
    go_wp2_with (first
      | (refine wpList_bd4 rfl rfl ?_)
      | (refine wpList_stm (pre := []) (post := []) (xs := Us d40) (ys := Us d40) _ _ rfl rfl rfl rfl d4_size rfl rfl (Us_one _) rfl (by simp) HAB.out ?_; intro w5 A5 T5; rw [List.nil_append, List.append_nil] at A5; have HA5 := Lib.hid A5; have HT5 := Lib.hid T5; clear A5 T5))
    have HS5 : Hid (Sto B p f q s k g1 (fun i => K i ∨ i = bx) r.1 r.2.1 w5) := Lib.hid (by
      have h4 := HS1.out
      exact h4.move HCL.out.calm.job (S := Just bx) (fun i e => .inr e) HT5.out (fun i e => ⟨.inl e, Nat.lt_of_lt_of_le (h4.kin i e) HT5.out.size⟩))
    refine bodyPost_ret (d4_res2 (cs := Us d40) Tryz.results9 _ rfl rfl HA5.out rfl) rfl ⟨by rw [HR2.out]; rfl, ⟨g1, HS5.out.less fun _ e => .inl e⟩, ?_⟩
    have t1 : Turned (May B K) W0 w1 := may_less HT1.out fun _ e => .inl e
    exact ((Turned.of_below HB0.out (Nat.le_refl _) _).trans t1).after HT5.out (fun i hi h => by unfold Just at h; have := HBX.out; omega)
end
end Go.Proofs.YtpkkejdjhnmjiaaGreat
namespace Go.Proofs.YtpkkejdjhnmjiaaGreat
open Go.RowKit Bm Go.Shelf
theorem own_row_at {w : World} {B : Nat} {v : Value} {ms : List PageM} (h : w.ownsRow B 73 7 v ms.length (pgs ms)) : ∃ A cap, v = .slice A ms.length cap ∧ ReadsM w A ms.length cap ms ∧ ∀ a o, A = some ⟨a, o, none⟩ → B ≤ a ∧ a < w.heap.size := by
  obtain ⟨A, cap, rfl, hr⟩ := own_reads h
  refine ⟨A, cap, rfl, hr, fun a o e => ?_⟩
  obtain ⟨hl, ⟨e2, h0⟩ | ⟨g, cap', cur, e2, hb, hg, hn, hm, hs, ht⟩⟩ := h
  · injection e2 with e2
    rw [e2] at e
    cases e
  · injection e2 with e2
    rw [e2] at e
    injection e with e
    injection e with e _ _
    subst e
    exact ⟨hb, (Array.getElem?_eq_some_iff.1 hg).1⟩
theorem RowMM.row {B gm k : Nat} {F : Nat → List PageM} {w : World} (h : RowMM B gm k F w) {b : Nat} (hb : b < k) : ∃ A cap, w.cell? ⟨gm, b, none⟩ = some (.slice A (F b).length cap) ∧ ReadsM w A (F b).length cap (F b) ∧ ∀ a o, A = some ⟨a, o, none⟩ → B ≤ a ∧ a < w.heap.size := by
  obtain ⟨vs, hv⟩ := h
  obtain ⟨v, hvb⟩ : ∃ v, vs[b]? = some v := ⟨_, List.getElem?_eq_getElem (by rw [hv.len]; exact hb)⟩
  obtain ⟨A, cap, rfl, hr, ha⟩ := own_row_at (hv.own b v hvb)
  exact ⟨A, cap, by rw [hv.at'.cell]; exact hvb, hr, ha⟩
section
variable {B p f q s k g : Nat} {K : Nat → Prop} {d d' : DrvM} {x : StoM} {w w' W : World}
theorem of_in {bs : List BlkM} {y : PlM} (h : y ∈ lOf (cnt bs)) : ∃ b : Nat, b < bs.length ∧ y.b = (b : Int) := by
  obtain ⟨h1, _, _⟩ := best_some _ _ _ (of_mem h)
  obtain ⟨b, i, hb, hi, _, e⟩ := mem_cnt.1 h1
  exact ⟨b, hb, by rw [e]⟩
theorem allG_within {bs : List BlkM} (h : bs.length = k) (k0 : 0 < k) : Within k (allG bs) := by
  intro s y hy
  unfold allG at hy
  obtain ⟨L1, hL1⟩ : ∃ L, L = lOf (cnt bs) := ⟨_, rfl⟩
  obtain ⟨L2, hL2⟩ : ∃ L, L = lOf (cnt (restM L1 bs L1.length)) := ⟨_, rfl⟩
  rw [← hL1, ← hL2] at hy
  have h1 : ∀ z ∈ L1, ∃ b : Nat, b < k ∧ z.b = (b : Int) := fun z hz => by
    rw [hL1] at hz
    obtain ⟨b, hb, e⟩ := of_in hz
    exact ⟨b, by omega, e⟩
  have h2 : ∀ z ∈ L2, ∃ b : Nat, b < k ∧ z.b = (b : Int) := fun z hz => by
    rw [hL2] at hz
    obtain ⟨b, hb, e⟩ := of_in hz
    rw [restM_len] at hb
    exact ⟨b, by omega, e⟩
  unfold G2 at hy
  cases h3 : lFind (L2.take L2.length) s with
  | none =>
    rw [h3] at hy
    simp only [Option.map_eq_some_iff] at hy
    obtain ⟨z, hz, rfl⟩ := hy
    exact ⟨h1 z (find_mem hz).1, fun h0 => absurd h0 (by show ¬ 0 < U pl0.p.q; decide)⟩
  | some z =>
    rw [h3] at hy
    injection hy with hy
    subst hy
    refine ⟨?_, fun _ => h2 z (List.mem_of_mem_take (find_mem h3).1)⟩
    cases h4 : lFind L1 s with
    | none => exact ⟨0, k0, rfl⟩
    | some u => exact h1 u (find_mem h4).1
theorem Sto.reclaimNew (h : Sto B p f q s k g K d x w) (ok : DrvOk k d) (hB : Below w.heap.size w W) (b : Nat) (hb : b < k) (hk : k ≤ 19) {A : Option Addr} {n cap : Nat} {ms : List PageM} (hR : ReadsM W A n cap ms) (hA : ∀ a o, A = some ⟨a, o, none⟩ → w.heap.size ≤ a ∧ a < W.heap.size) (hn : n ≤ (spotsM x b).length) (t0 : 0 ≤ d.t) (t1 : d.t ≤ 80000000000000) :
    Calls Tryz.prog 145 #[.pointer (some ⟨s, 0, none⟩), .int .i64 b, .slice A n cap] W fun e w' => e = .returned (.int .i64 (mReclaim d x b ms).2.2) ∧ (∃ g', Sto B p f q s k g' K (mReclaim d x b ms).1 (mReclaim d x b ms).2.1 w') ∧ Turned (May B K) w w' := by
  have h2 := h.renew ok.calm.job (K' := fun j => K j ∨ ∃ o, A = some ⟨j, o, none⟩) hB (fun i e => by
    rcases e with e | ⟨o, e⟩
    · exact ⟨.inl e, Nat.lt_of_lt_of_le (h.kin i e) hB.size⟩
    · exact ⟨.inr (hA i o e).1, (hA i o e).2⟩)
  refine (h2.reclaim ok b hb hk hR (fun a o e => .inr ⟨o, e⟩) hn t0 t1).mono ?_
  rintro e w3 ⟨rfl, ⟨g', s3⟩, t3⟩
  exact ⟨rfl, ⟨g', s3.less fun _ e => .inl e⟩, (Turned.of_below hB (Nat.le_refl _) _).trans (may_less t3 fun _ e => .inl e)⟩
theorem Sto.mine (h : Sto B p f q s k g K d x w) (hj : d.f.job = 0) {b : Nat} (hb : K b) (t : Turned (Just b) w w') : Sto B p f q s k g K d x w' :=
  h.move hj (S := Just b) (fun i e => by unfold Just at e; rw [e]; exact hb) t (fun i e => ⟨.inl e, Nat.lt_of_lt_of_le (h.kin i e) t.size⟩)
end
def lastP (x : StoM) (pg : PageM) : PageM := { pg with q := ((allG x.bs pg.s).getD co0).1.p.q + 1#32 }
def mLastL (d : DrvM) (x : StoM) (pg : PageM) : List (Nat × Nat) → DrvM × StoM × Int
  | [] => (d, x, 9)
  | z :: _ => if pgOk pg then mPut d x z.1 z.2 pg else (d, x, 9)
def mLast (d : DrvM) (x : StoM) (pg : PageM) : DrvM × StoM × Int := mLastL d x (lastP x pg) (spotsM x (-1))
def mvAll (k : Nat) (x : StoM) (b : Nat) : List PageM := mvOf (allG x.bs) ((k - 3) * 6) b
inductive AddTo (k : Nat) (pg : PageM) : Nat → DrvM → StoM → DrvM × StoM × Int → Prop
  | done {n : Nat} {d : DrvM} {x : StoM} : (wayM k x (allG x.bs) pg.s).2 = false → AddTo k pg n d x (mLast d x pg)
  | stop {n : Nat} {d : DrvM} {x : StoM} (b : Nat) : wayM k x (allG x.bs) pg.s = ((b : Int), true) → b < k → (mvAll k x b).length ≤ (spotsM x b).length → (mReclaim d x b (mvAll k x b)).2.2 ≠ 0 → AddTo k pg n d x (mReclaim d x b (mvAll k x b))
  | more {n : Nat} {d : DrvM} {x : StoM} {R : DrvM × StoM × Int} (b : Nat) : wayM k x (allG x.bs) pg.s = ((b : Int), true) → b < k → (mvAll k x b).length ≤ (spotsM x b).length → (mReclaim d x b (mvAll k x b)).2.2 = 0 → AddTo k pg n (mReclaim d x b (mvAll k x b)).1 (mReclaim d x b (mvAll k x b)).2.1 R → AddTo k pg (n + 1) d x R
theorem AddTo.inv {k n : Nat} {pg : PageM} {d : DrvM} {x : StoM} {R : DrvM × StoM × Int} (h : AddTo k pg n d x R) :
    ((wayM k x (allG x.bs) pg.s).2 = false ∧ R = mLast d x pg) ∨ ∃ b : Nat, wayM k x (allG x.bs) pg.s = ((b : Int), true) ∧ b < k ∧ (mvAll k x b).length ≤ (spotsM x b).length ∧
      (((mReclaim d x b (mvAll k x b)).2.2 ≠ 0 ∧ R = mReclaim d x b (mvAll k x b)) ∨ ((mReclaim d x b (mvAll k x b)).2.2 = 0 ∧ ∃ m, n = m + 1 ∧ AddTo k pg m (mReclaim d x b (mvAll k x b)).1 (mReclaim d x b (mvAll k x b)).2.1 R)) := by
  cases h with
  | done h1 => exact .inl ⟨h1, rfl⟩
  | stop b h1 h2 h3 h4 => exact .inr ⟨b, h1, h2, h3, .inl ⟨h4, rfl⟩⟩
  | more b h1 h2 h3 h4 h5 => exact .inr ⟨b, h1, h2, h3, .inr ⟨h4, _, rfl, h5⟩⟩
theorem reclaim_ticks {k : Nat} (d : DrvM) (x : StoM) (b : Nat) (hk : k ≤ 19) : d.t ≤ (mReclaim d x b (mvAll k x b)).1.t ∧ (mReclaim d x b (mvAll k x b)).1.t ≤ d.t + 3000 := by
  have h1 := puts_ticks ((spotsM x b).zip (mvAll k x b)) d x
  have h2 : ((spotsM x b).zip (mvAll k x b)).length ≤ 96 := by
    rw [List.length_zip]
    have : (mvAll k x b).length ≤ (k - 3) * 6 := mvOf_len _ _ _
    omega
  unfold mReclaim
  dsimp only
  split
  · omega
  · have h3 := mRenew_ticks (mPuts d x ((spotsM x b).zip (mvAll k x b))).1 (mPuts d x ((spotsM x b).zip (mvAll k x b))).2.1 b
    omega
section
variable {B p f q s k g : Nat} {K : Nat → Prop} {d d' : DrvM} {x : StoM} {w w' : World}
set_option maxRecDepth 100000 in
set_option maxHeartbeats 1000000 in
theorem Sto.add (h : Sto B p f q s k g K d x w) (ok : DrvOk k d) (hk : k ≤ 19) (k3 : 3 ≤ k) {n : Nat} {pg : PageM} {R : DrvM × StoM × Int} (hR : AddTo k pg n d x R) (t0 : 0 ≤ d.t) (t1 : d.t + 3000 * (n : Int) ≤ 80000000000000) :
    Calls Tryz.prog 142 #[.pointer (some ⟨s, 0, none⟩), pgV pg] w (StoOut B p f q s k K R w) := by
  have hzc := co_zero
  have hk2 := h.k2
  obtain ⟨W0, hW0⟩ : ∃ W0, W0 = w.alloc (.cells (pgC pg).toArray 73) := ⟨_, rfl⟩
  have A0 : At W0 w.heap.size 73 (pgC pg) := by rw [hW0]; exact At.news w _ _
  have B0 : Below w.heap.size w W0 := by rw [hW0]; exact (Below.refl _ w).alloc (Nat.le_refl _) _
  obtain ⟨bx, hbx⟩ : ∃ bx, bx = w.heap.size := ⟨_, rfl⟩
  obtain ⟨K2, hK2⟩ : ∃ K2 : Nat → Prop, K2 = fun i => K i ∨ i = bx := ⟨_, rfl⟩
  have HKX : Hid (K2 bx) := Lib.hid (by rw [hK2]; exact .inr rfl)
  have HKK : Hid (∀ i, K i → K2 i) := Lib.hid (fun i e => by rw [hK2]; exact .inl e)
  have hS0 : Sto B p f q s k g K2 d x W0 := h.renew ok.calm.job B0 (fun i e => by
    rw [hK2] at e
    rcases e with e | rfl
    · exact ⟨.inl e, Nat.lt_of_lt_of_le (h.kin i e) B0.size⟩
    · exact ⟨.inr (by omega), by rw [hbx]; exact A0.lt⟩)
  have CP := Lib.hid (fun W x' d' g' (hs : Sto B p f q s k g' K2 d' x' W) => hs.copies (by omega))
  have CP0 := Lib.hid (hS0.copies (by omega))
  have HS0 := Lib.hid hS0
  have HAD := Lib.hid hR
  have HOK := Lib.hid ok
  have HT := Lib.hid (show 0 ≤ d.t ∧ d.t + 3000 * (n : Int) ≤ 80000000000000 from ⟨t0, t1⟩)
  have HBX := Lib.hid hbx
  have HSZ := Lib.hid h.size
  have hW0' : w.alloc (.cells (pgC pg).toArray 73) = W0 := hW0.symm
  rw [← hbx] at A0
  have HA0 := Lib.hid A0
  have HB0 := Lib.hid B0
  have HKN := Lib.hid hk
  have HK3 := Lib.hid k3
  clear h ok hR t0 t1 A0 B0 hbx hS0 hK2 hW0
  unfold pgV
  go_enter Tryz.func142, Tryz.ntmps142
  go_upto_region 1 with (fail)
  rw [← HBX.out]
  clear hW0'
  go_wp2_with (first
    | (go_at_call 143; (with_reducible refine CP0.out.mono ?_); rintro e w1 ⟨mb, mn, rfl, hm, _, _, hb1⟩; have HM1 := Lib.hid hm; have HB1 := Lib.hid hb1; clear hm hb1))
  go_loopg [5] n (fun gk a5 wr => ∃ (d' : DrvM) (x' : StoM) (g' mb mn : Nat), a5 = .map (some mb) ∧ MapC wr mb mn (allG x'.bs) ∧ Sto B p f q s k g' K2 d' x' wr ∧ DrvOk k d' ∧ AddTo k pg gk d' x' R ∧ 0 ≤ d'.t ∧ d'.t + 3000 * (gk : Int) ≤ 80000000000000 ∧ At wr bx 73 (pgC pg) ∧ Turned (May B K) w wr)
  case atStart => exact ⟨d, x, g, mb, mn, rfl, HM1.out, HS0.out.below HB1.out, HOK.out, HAD.out, HT.out.1, HT.out.2, HA0.out.kept (Turned.of_below HB1.out (Nat.le_refl _) NoBlock) (fun h => h), (Turned.of_below HB0.out (Nat.le_refl _) _).trans (Turned.of_below HB1.out (Nat.le_refl _) _)⟩
  case round =>
    obtain ⟨d', x', g', mb', mn', rfl, hm, hs, hok, had, ht0, ht1, hat, htn⟩ := hrel
    have HM := Lib.hid hm
    have HS := Lib.hid hs
    have HOK' := Lib.hid hok
    have HT' := Lib.hid (show 0 ≤ d'.t ∧ d'.t + 3000 * (gk : Int) ≤ 80000000000000 from ⟨ht0, ht1⟩)
    have HAT := Lib.hid hat
    have HTN := Lib.hid htn
    have HWI : Hid (Within k (allG x'.bs)) := Lib.hid (allG_within hs.len (by have := HK3.out; omega))
    have IW := Lib.hid (hs.inTheWay HKN.out HK3.out hm HWI.out pg.s)
    have p0 : wr.cell? ⟨bx, 0, none⟩ = some (.int .u32 (U pg.s)) := hat.cell 0
    obtain ⟨WY, hWY⟩ : ∃ y, y = wayM k x' (allG x'.bs) pg.s := ⟨_, rfl⟩
    rw [← hWY] at IW
    have HAI := Lib.hid had.inv
    rw [← hWY] at HAI
    clear hm hs hok had ht0 ht1 hat htn hWY HM1 HB1 HAD HT HS0 HA0 HB0 CP0
    obtain ⟨wy1, wy2⟩ := WY
    simp only at IW HAI
    rcases HAI.out with ⟨hw, hRR⟩ | ⟨b, hw, hbk, hlen, hrest⟩
    · subst hw
      have HRR := Lib.hid hRR
      clear hRR HAI
      go_upto_region 8 with (first
        | (go_at_call 144; (with_reducible refine IW.out.mono ?_); rintro e w2 ⟨rfl, hb2⟩; have HB2 := Lib.hid hb2; clear hb2))
      have hs2 := HS.out.below HB2.out
      have hat2 : At w2 bx 73 (pgC pg) := HAT.out.kept (Turned.of_below HB2.out (Nat.le_refl _) NoBlock) (fun h => h)
      have HAT2 := Lib.hid hat2
      have HS2 := Lib.hid hs2
      have p0' : w2.cell? ⟨bx, 0, none⟩ = some (.int .u32 (U pg.s)) := hat2.cell 0
      have p1' : w2.cell? ⟨bx, 1, none⟩ = some (.int .u32 (U pg.q)) := hat2.cell 1
      have pf : w2.frozen? ⟨bx, 1, none⟩ = false := hat2.frozen 1
      obtain ⟨z, hz⟩ : ∃ z, z = (allG x'.bs pg.s).getD co0 := ⟨_, rfl⟩
      have HM2 := Lib.hid (HM.out.below HB2.out)
      obtain ⟨p9, hp9⟩ : ∃ p9, p9 = lastP x' pg := ⟨_, rfl⟩
      have HP9 : Hid (p9 = { pg with q := z.1.p.q + 1#32 }) := Lib.hid (by rw [hp9, hz]; rfl)
      obtain ⟨L, hL⟩ : ∃ L, L = spotsM x' (-1) := ⟨_, rfl⟩
      have HRN : Hid (R = mLastL d' x' p9 L) := Lib.hid (by rw [HRR.out, hL, hp9]; rfl)
      have HZ := Lib.hid hz
      have HL := Lib.hid hL
      have HSOK : Hid (∀ z ∈ L, z.1 < k ∧ z.2 < 8) := Lib.hid (fun z hz => by rw [hL] at hz; have := spots_ok hz; rw [hs2.len] at this; exact this)
      clear hs2 hat2 hz hp9 hL HRR IW p0
      go_upto_region 9 with (first
        | (refine wpList_lookC _ _ pg.s rfl rfl rfl rfl HM2.out ?_; rw [← HZ.out]; refine wpList_fld (T := 207) (v := coV z) (u := .agg (plC z.1).toArray) _ rfl rfl rfl (fun W => run_fco z.1 z.2 W) ?_; refine wpList_fld (T := 75) (v := .agg (plC z.1).toArray) (u := .agg (pgC z.1.p).toArray) _ rfl rfl rfl (fun W => run_fpl z.1 W) ?_; refine wpList_fld (T := 73) (v := .agg (pgC z.1.p).toArray) (u := .int .u32 (U z.1.p.q)) _ rfl rfl rfl (fun W => run_fpg z.1.p W) ?_))
      obtain ⟨W8, hW8⟩ : ∃ W8, W8 = w2.setCell ⟨bx, 1, none⟩ (.int .u32 ((U z.1.p.q + 1) % 4294967296)) := ⟨_, rfl⟩
      rw [← hW8]
      have A8 := HAT2.out.put 1 (.int .u32 ((U z.1.p.q + 1) % 4294967296))
      rw [← hW8, show (pgC pg).set 1 (.int .u32 ((U z.1.p.q + 1) % 4294967296)) = pgC p9 from by rw [HP9.out, show (U z.1.p.q + 1) % 4294967296 = U (z.1.p.q + 1#32) from U_add z.1.p.q 1#32]; rfl] at A8
      have T8 : Turned (Just bx) w2 W8 := by rw [hW8]; exact (Turned.refl (Just bx) w2).setCell (p := ⟨bx, 1, none⟩) (fun _ => rfl) _
      have hs8 := HS2.out.mine HOK'.out.calm.job HKX.out T8
      have TF : Hid (Turned (May B K) w W8) := Lib.hid ((HTN.out.trans (Turned.of_below HB2.out (Nat.le_refl _) _)).after T8 (fun i hi h => by unfold Just at h; have := HBX.out; omega))
      have SP := Lib.hid (hs8.spots HKN.out (-1) (by omega) (by omega))
      rw [← HL.out] at SP
      obtain ⟨n9, hn9⟩ : ∃ n9, n9 = L.length := ⟨_, rfl⟩
      rw [← hn9] at SP
      have HN9 := Lib.hid hn9
      have HA8 := Lib.hid A8
      have HS8 := Lib.hid hs8
      clear A8 T8 hs8 hW8 hn9 HL HAT2 HS2 HM2 pf p0' p1' HTN HM HS HAT
      go_upto_region 10 with (first
        | (go_at_call 147; (with_reducible refine SP.out.mono ?_); rintro e w9 ⟨A9, cap9, rfl, hb9, hsp⟩; have HB9 := Lib.hid hb9; have HSP := Lib.hid hsp; clear hb9 hsp))
      have hs9 := HS8.out.below HB9.out
      have hat9 : At w9 bx 73 (pgC p9) := HA8.out.kept (Turned.of_below HB9.out (Nat.le_refl _) NoBlock) (fun h => h)
      have TF9 : Hid (Turned (May B K) w w9) := Lib.hid (TF.out.trans (Turned.of_below HB9.out (Nat.le_refl _) _))
      have p0 : w9.cell? ⟨bx, 0, none⟩ = some (.int .u32 (U p9.s)) := hat9.cell 0
      have p1 : w9.cell? ⟨bx, 1, none⟩ = some (.int .u32 (U p9.q)) := hat9.cell 1
      have p2 : w9.cell? ⟨bx, 2, none⟩ = some (.bool p9.g) := hat9.cell 2
      have p3 : w9.cell? ⟨bx, 3, none⟩ = some (.int .u32 (U p9.d0)) := hat9.cell 3
      have p4 : w9.cell? ⟨bx, 4, none⟩ = some (.int .u32 (U p9.d1)) := hat9.cell 4
      have p5 : w9.cell? ⟨bx, 5, none⟩ = some (.int .u32 (U p9.d2)) := hat9.cell 5
      have p6 : w9.cell? ⟨bx, 6, none⟩ = some (.int .u32 (U p9.d3)) := hat9.cell 6
      have LEN := len_spots A9 n9 cap9
      have PR : Hid (∀ W, Calls Tryz.prog 110 #[.agg #[.int .u32 (U p9.s), .int .u32 (U p9.q), .bool p9.g, .int .u32 (U p9.d0), .int .u32 (U p9.d1), .int .u32 (U p9.d2), .int .u32 (U p9.d3)]] W fun e w' => e = .returned (.bool (pgOk p9)) ∧ Below W.heap.size W w') := Lib.hid (fun W => pright_any p9 W)
      have HS9 := Lib.hid hs9
      have HA9 := Lib.hid hat9
      clear hs9 hat9 SP TF HB9
      by_cases h0 : n9 = 0
      · have l0 : ((n9 : Int) == 0) = true := by rw [beq_iff_eq]; omega
        have HRF : Hid (R = (d', x', 9)) := Lib.hid (by
          have : L = [] := List.eq_nil_of_length_eq_zero (by rw [← HN9.out]; exact h0)
          rw [HRN.out, this]
          rfl)
        clear h0
        go_wp2
        go_ret
        rw [HRF.out]
        exact ⟨rfl, ⟨g', HS9.out.less HKK.out⟩, TF9.out⟩
      · have l0 : ((n9 : Int) == 0) = false := by rw [beq_eq_false_iff_ne]; omega
        obtain ⟨z0, L', hL'⟩ : ∃ z0 L', L = z0 :: L' := by
          cases L with
          | nil => exact absurd HN9.out h0
          | cons a b => exact ⟨a, b, rfl⟩
        have HRF : Hid (R = if pgOk p9 then mPut d' x' z0.1 z0.2 p9 else (d', x', 9)) := Lib.hid (by rw [HRN.out, hL']; rfl)
        have HL' := Lib.hid hL'
        have i1 : (0 : Int) < (n9 : Int) := by omega
        have N0 := Lib.hid (show 0 < n9 by omega)
        clear h0 hL'
        obtain ⟨okp, hokp⟩ : ∃ b, b = pgOk p9 := ⟨_, rfl⟩
        rw [← hokp] at PR HRF
        have HOKP := Lib.hid hokp
        clear hokp
        cases okp with
        | false =>
          go_wp2_with (first
            | (go_at_call 110; (with_reducible refine (PR.out _).mono ?_); rintro e w10 ⟨rfl, hb10⟩; have HB10 := Lib.hid hb10; clear hb10))
          go_ret
          rw [HRF.out]
          exact ⟨rfl, ⟨g', (HS9.out.below HB10.out).less HKK.out⟩, TF9.out.trans (Turned.of_below HB10.out (Nat.le_refl _) _)⟩
        | true =>
          go_upto_region 12 with (first
            | (go_at_call 110; (with_reducible refine (PR.out _).mono ?_); rintro e w10 ⟨rfl, hb10⟩; have HB10 := Lib.hid hb10; clear hb10))
          have hs10 := HS9.out.below HB10.out
          have HS10 := Lib.hid hs10
          have TF10 : Hid (Turned (May B K) w w10) := Lib.hid (TF9.out.trans (Turned.of_below HB10.out (Nat.le_refl _) _))
          have hat10 : At w10 bx 73 (pgC p9) := HA9.out.kept (Turned.of_below HB10.out (Nat.le_refl _) NoBlock) (fun h => h)
          have p0 : w10.cell? ⟨bx, 0, none⟩ = some (.int .u32 (U p9.s)) := hat10.cell 0
          have p1 : w10.cell? ⟨bx, 1, none⟩ = some (.int .u32 (U p9.q)) := hat10.cell 1
          have p2 : w10.cell? ⟨bx, 2, none⟩ = some (.bool p9.g) := hat10.cell 2
          have p3 : w10.cell? ⟨bx, 3, none⟩ = some (.int .u32 (U p9.d0)) := hat10.cell 3
          have p4 : w10.cell? ⟨bx, 4, none⟩ = some (.int .u32 (U p9.d1)) := hat10.cell 4
          have p5 : w10.cell? ⟨bx, 5, none⟩ = some (.int .u32 (U p9.d2)) := hat10.cell 5
          have p6 : w10.cell? ⟨bx, 6, none⟩ = some (.int .u32 (U p9.d3)) := hat10.cell 6
          obtain ⟨gs, rest, rfl, hgs, hsa⟩ := HSP.out N0.out
          have hsa10 : At w10 gs 212 (sps L ++ rest) := hsa.kept (Turned.of_below HB10.out (Nat.le_refl _) NoBlock) (fun h => h)
          have hz0 : L[0]? = some z0 := by rw [HL'.out]; rfl
          obtain ⟨s1, s2⟩ := sps_at hsa10 hz0
          simp only [Nat.zero_mul, Nat.zero_add] at s1 s2
          obtain ⟨r, hr⟩ : ∃ r, r = mPut d' x' z0.1 z0.2 p9 := ⟨_, rfl⟩
          have HRG : Hid (R = r) := Lib.hid (by rw [HRF.out, hr]; simp)
          have hzk := HSOK.out z0 (by rw [HL'.out]; exact List.mem_cons_self)
          have PUT : Hid (∀ W, Below w10.heap.size w10 W → Calls Tryz.prog 148 #[.pointer (some ⟨s, 0, none⟩), .agg #[.int .i64 (z0.1 : Int), .int .i64 (z0.2 : Int)], pgV p9] W (StoOut B p f q s k K2 r W)) := Lib.hid (fun W hb => by
            rw [hr]
            have h2 := HT'.out
            exact (hs10.below hb).put HOK'.out z0.1 z0.2 hzk.1 hzk.2 p9 (by omega) (by omega))
          unfold pgV at PUT
          clear hs10 hat10 hgs hsa hsa10 hz0 hr hzk HSP LEN HA9 HS9 TF9
          go_region_with ((first
            | (go_at_call 148; (refine (PUT.out _ (by first | exact Below.refl _ _ | exact (Below.refl _ _).drew)).mono ?_); rintro e w5 ⟨rfl, hs5, ht5⟩; have HS5 := Lib.hid hs5; have ht5' : Turned (May B K2) w10 w5 := ⟨ht5.os, ht5.tape, ht5.output, ht5.size, ht5.block⟩; have HT5 := Lib.hid ht5'; clear hs5 ht5 ht5')))
          all_goals
            go_wp2_with fail
            go_ret
            obtain ⟨g9, h9⟩ := HS5.out
            rw [HRG.out]
            exact ⟨rfl, ⟨g9, h9.less HKK.out⟩, TF10.out.trans (may_less HT5.out HKK.out)⟩
    · injection hw with hw1 hw2
      subst hw1 hw2
      have HBK := Lib.hid hbk
      have HLEN := Lib.hid hlen
      have HREST := Lib.hid hrest
      obtain ⟨ms, hms⟩ : ∃ ms, ms = mvAll k x' b := ⟨_, rfl⟩
      obtain ⟨nm, hnm⟩ : ∃ nm, nm = ms.length := ⟨_, rfl⟩
      obtain ⟨r, hr⟩ : ∃ r, r = mReclaim d' x' b (mvAll k x' b) := ⟨_, rfl⟩
      have RW : Hid (∀ (W : World) (B' gm : Nat), RowMM B' gm k (mvOf (allG x'.bs) ((k - 3) * 6)) W → ∃ A cap, W.cell? ⟨gm, b, none⟩ = some (.slice A nm cap) ∧ ReadsM W A nm cap ms ∧ ∀ a o, A = some ⟨a, o, none⟩ → B' ≤ a ∧ a < W.heap.size) := Lib.hid (fun W B' gm h => by rw [hnm, hms]; exact h.row hbk)
      have MV := Lib.hid (fun W (hW : Below wr.heap.size wr W) => (HS.out.below hW).moves HK3.out (HM.out.below hW) (fun s y e => (HWI.out s y e).1))
      have RC : Hid (∀ (W : World) (A : Option Addr) (cap : Nat), Below wr.heap.size wr W → ReadsM W A nm cap ms → (∀ a o, A = some ⟨a, o, none⟩ → wr.heap.size ≤ a ∧ a < W.heap.size) →
          Calls Tryz.prog 145 #[.pointer (some ⟨s, 0, none⟩), .int .i64 b, .slice A nm cap] W fun e w' => e = .returned (.int .i64 r.2.2) ∧ (∃ g', Sto B p f q s k g' K2 r.1 r.2.1 w') ∧ Turned (May B K2) wr w') := Lib.hid (fun W A cap hB hR hA => by
        rw [hr]
        have h2 := HT'.out
        rw [hms] at hR
        exact HS.out.reclaimNew HOK'.out hB b hbk HKN.out hR hA (by rw [hnm, hms]; exact hlen) h2.1 (by omega))
      have HTR : Hid (d'.t ≤ r.1.t ∧ r.1.t ≤ d'.t + 3000) := Lib.hid (by rw [hr]; exact reclaim_ticks d' x' b HKN.out)
      have HCR : Hid (DrvOk k r.1) := Lib.hid (by rw [hr]; exact reclaim_calm HOK'.out x' b _)
      rw [← hr] at HREST
      have b0 : (0 : Int) ≤ (b : Int) := by omega
      have b1 : (b : Int) < (k : Int) := by omega
      have HNX : Hid (w.heap.size ≤ wr.heap.size) := Lib.hid HTN.out.size
      clear hbk hlen hrest HAI hms hnm hr
      go_upto_region 5 with (first
        | (go_at_call 144; (with_reducible refine IW.out.mono ?_); rintro e w2 ⟨rfl, hb2⟩; have HB2 := Lib.hid hb2; clear hb2)
        | (go_at_call 146; (with_reducible refine (MV.out _ HB2.out).mono ?_); rintro e w3 ⟨gm, rfl, hrow, hgm, hb3⟩; have HB3 := Lib.hid (HB2.out.trans (hb3.mono HB2.out.size)); obtain ⟨A3, cap3, gc, hr3, ha3⟩ := RW.out _ _ _ hrow; have HR3 := Lib.hid hr3; have HA3 : Hid (∀ a o, A3 = some ⟨a, o, none⟩ → wr.heap.size ≤ a ∧ a < w3.heap.size) := Lib.hid (fun a o e => ⟨Nat.le_trans HB2.out.size (ha3 a o e).1, (ha3 a o e).2⟩); clear hrow hgm hb3 hr3 ha3)
        | (go_at_call 145; (with_reducible refine (RC.out _ _ _ HB3.out HR3.out HA3.out).mono ?_); rintro e w4 ⟨rfl, ⟨g4, hs4⟩, ht4⟩; have HS4 := Lib.hid hs4; have HT4 := Lib.hid ht4; clear hs4 ht4))
      have TF4 : Hid (Turned (May B K) w w4) := Lib.hid (HTN.out.trans (may_less HT4.out HKK.out))
      have HAT4 : Hid (At w4 bx 73 (pgC pg)) := Lib.hid (HAT.out.kept HT4.out (fun e => e.2 HKX.out))
      clear gc HR3 HA3 HB3 HB2 p0
      rcases HREST.out with ⟨h0, hRR⟩ | ⟨h0, m, hgm, had⟩
      · have e0 : (r.2.2 != 0) = true := by rw [bne_iff_ne]; exact h0
        have HRR := Lib.hid hRR
        clear h0 hRR HREST
        go_wp2_with fail
        go_ret
        rw [HRR.out]
        exact ⟨rfl, ⟨g4, HS4.out.less HKK.out⟩, TF4.out⟩
      · have e0 : (r.2.2 != 0) = false := by rw [bne_eq_false_iff_eq]; exact h0
        have HGM := Lib.hid hgm
        have HAD := Lib.hid had
        clear h0 hgm had HREST
        go_wp2_with (first
          | (go_at_call 143; (with_reducible refine (CP.out _ _ _ _ HS4.out).mono ?_); rintro e w5 ⟨mb5, mn5, rfl, hm5, _, _, hb5⟩; have HM5 := Lib.hid hm5; have HB5 := Lib.hid hb5; clear hm5 hb5))
        go_roundg m
        case measure => have := HGM.out; omega
        case rel =>
          have h2 := HT'.out
          have h3 := HTR.out
          have h4 := HGM.out
          exact ⟨r.1, r.2.1, g4, mb5, mn5, rfl, HM5.out, HS4.out.below HB5.out, HCR.out, HAD.out, by omega, by omega, HAT4.out.kept (Turned.of_below HB5.out (Nat.le_refl _) NoBlock) (fun h => h), TF4.out.trans (Turned.of_below HB5.out (Nat.le_refl _) _)⟩
end
end Go.Proofs.YtpkkejdjhnmjiaaGreat
