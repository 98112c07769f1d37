/- Contract of the helper does, on: erasures and programs. -/
import Derived.Test.YtmhkcbdkimnakaaNorDoes
namespace Go.Proofs.Ytmhkcbdkimnakaa
open Go.RowKit Bm
attribute [local go_sem ↓] Go.wp_at_zero Go.wp_at_succ

set_option maxHeartbeats 4000000 in
theorem does_erase (w : World) (h : Hd) (r : Rh) (d : ChipM) (k : Nat) (x : ActM) (hc : ChipAt w h d) (hr : RefAt w r d) (n1 : ¬ h.own r.gw) (n2 : ¬ h.own r.ge) (ok : ChipOk k d) (b0 : 0 ≤ x.kind ∧ x.kind ≤ 255) (hk : x.kind % 8 = 3) :
    Calls Try.prog 14 #[.pointer (some ⟨h.p, 0, none⟩), refVal r d, actVal x] w (DoesOut w h r (mErase d x.at_).1) := by
  have D := does_in w h r d x hc hr n1 n2
  have k3 : (x.kind % 8 == 3) = true := by rw [beq_iff_eq]; exact hk
  have DD := Lib.hid D
  have CH := Lib.hid (fun (W : World) (hW : ChipAt W h d) => erase_any h d k x.at_ W hW ok)
  have RR := Lib.hid (fun (W : World) (hW : RefAt W r d) => rerase_any r d k x.at_ W hW ok)
  obtain ⟨W4, hW4⟩ : ∃ W4, W4 = (((w.alloc (.cells (refCells r d).toArray 30)).alloc (.cells (actCells x).toArray 33)).alloc (.cells refZero.toArray 30)) := ⟨_, rfl⟩
  have DW := DD.out
  rw [← hW4] at DW
  clear D hk hc hr
  obtain ⟨P, hP⟩ : ∃ P, P = w.heap.size := ⟨_, rfl⟩
  have H4 := Lib.hid hW4
  clear hW4
  obtain ⟨o2, ho2⟩ : ∃ o2, o2 = (mErase d x.at_).2 := ⟨_, rfl⟩
  obtain ⟨f, hf⟩ : ∃ f, f = (mErase d x.at_).1 := ⟨_, rfl⟩
  rw [← ho2, ← hf] at CH RR
  have FE := Lib.hid hf
  clear ho2 hf
  unfold refVal actVal
  go_enter Try.func14, Try.ntmps14
  go_wp2_with fail
  have R1 := RR.out _ DD.out.rf
  refine Calls.mono R1 ?_
  rintro e w5 ⟨r', rfl, hr5, hB5, hn5⟩
  clear R1
  have hB5' : Below W4.heap.size W4 w5 := by rw [H4.out]; exact hB5
  have hn5' : RefNew W4 r r' := by rw [H4.out]; exact hn5
  have HP := Lib.hid hP
  rw [← hP]
  clear hP hB5 hn5
  obtain ⟨B0, B1, B2, _, htw⟩ := DW.keep (Turned.of_below hB5' (Nat.le_refl _) h.own)
  have hc5 : ChipAt w5 h d := DW.chip.kept (Turned.of_below hB5' (Nat.le_refl _) NoBlock) (fun _ _ h => h)
  rw [← HP.out] at B0 B1 B2
  simp only [refVal]
  obtain ⟨W, hW⟩ : ∃ W, W = w5.alloc (.cells #[.slice (some ⟨r'.gw, 0, none⟩) f.ws.length r'.cw, .slice (some ⟨r'.ge, 0, none⟩) f.wear.length r'.ce, .int .i64 f.endure, .int .i64 f.left, .int .u32 (U f.pick), .bool (!f.up)] 30) := ⟨_, rfl⟩
  have B1W : At W (P + 1) 33 (actCells x) := by rw [hW]; exact B1.alloc _
  have B2W : At W (P + 2) 30 refZero := by rw [hW]; exact B2.alloc _
  have B3W : At W w5.heap.size 30 (refCells r' f) := by rw [hW]; exact At.news w5 _ _
  have hcW : ChipAt W h d := by rw [hW]; exact hc5.kept ((Turned.refl NoBlock w5).alloc _) (fun _ _ h => h)
  have hrW : RefAt W r' f := by rw [hW]; exact hr5.kept ((Turned.refl NoBlock w5).alloc _) (fun h => h) (fun h => h)
  have htW : Turned h.own w W := by rw [hW]; exact htw.alloc _
  obtain ⟨Q, hQ⟩ : ∃ Q, Q = w5.heap.size := ⟨_, rfl⟩
  rw [← hQ] at B3W
  have hQ2 : P + 2 < Q := by have := B2.lt; omega
  have HQ := Lib.hid hQ
  have HW := Lib.hid hW
  have own : ∀ i, h.own i → i < P := HP.out ▸ DW.own
  have nr1 : ¬ h.own r'.gw := by
    have hs := DW.size
    have hp := HP.out
    rcases hn5'.1 with e | e
    · intro hh; have := own _ hh; omega
    · rw [e]; exact n1
  have nr2 : ¬ h.own r'.ge := by
    have hs := DW.size
    have hp := HP.out
    rcases hn5'.2 with e | e
    · intro hh; have := own _ hh; omega
    · rw [e]; exact n2
  have hnw : RefNew w r r' := (RefNew.refl w r).trans (by have := DW.below.size; exact this) hn5'
  clear hW hQ B0 B1 B2 hc5 hr5 htw hB5' hn5'
  go_wp2
  rw [← HW.out, ← HQ.out]
  have OWN := Lib.hid own
  clear own
  simp only [refCells, actCells, refZero] at B1W B2W B3W
  obtain ⟨a0, a1, a2⟩ := B1W.all3
  obtain ⟨c0, c1, c2, c3, c4, c5⟩ := B3W.all6
  obtain ⟨z0, z1, z2, z3, z4, z5⟩ := B2W.all6
  obtain ⟨t0, t1, t2, t3, t4, t5⟩ := B2W.thaw6
  have hcS : ChipAt (six W (P + 2) (.slice (some ⟨r'.gw, 0, none⟩) f.ws.length r'.cw) (.slice (some ⟨r'.ge, 0, none⟩) f.wear.length r'.ce) (.int .i64 f.endure) (.int .i64 f.left) (.int .u32 (U f.pick)) (.bool (!f.up))).drew h d := (hcW.kept ((Turned.refl (Just (P + 2)) W).six (P := P + 2) (fun _ => rfl) (.slice (some ⟨r'.gw, 0, none⟩) f.ws.length r'.cw) (.slice (some ⟨r'.ge, 0, none⟩) f.wear.length r'.ce) (.int .i64 f.endure) (.int .i64 f.left) (.int .u32 (U f.pick)) (.bool (!f.up))) (fun i hi e => by have a := OWN.out i hi; have b : i = P + 2 := e; omega)).drewN 1
  have TS : Turned (Just (P + 2)) W (six W (P + 2) (.slice (some ⟨r'.gw, 0, none⟩) f.ws.length r'.cw) (.slice (some ⟨r'.ge, 0, none⟩) f.wear.length r'.ce) (.int .i64 f.endure) (.int .i64 f.left) (.int .u32 (U f.pick)) (.bool (!f.up))).drew := ((Turned.refl (Just (P + 2)) W).six (P := P + 2) (fun _ => rfl) (.slice (some ⟨r'.gw, 0, none⟩) f.ws.length r'.cw) (.slice (some ⟨r'.ge, 0, none⟩) f.wear.length r'.ce) (.int .i64 f.endure) (.int .i64 f.left) (.int .u32 (U f.pick)) (.bool (!f.up))).drew
  have RS := (B2W.six (.slice (some ⟨r'.gw, 0, none⟩) f.ws.length r'.cw) (.slice (some ⟨r'.ge, 0, none⟩) f.wear.length r'.ce) (.int .i64 f.endure) (.int .i64 f.left) (.int .u32 (U f.pick)) (.bool (!f.up))).drew
  have CA := Lib.hid (CH.out W.drew (hcW.drewN 1))
  have CB := Lib.hid (CH.out _ hcS)
  -- behind the call of the chip, where it came ahead of the store
  have KA := Lib.hid (fun (w1 : World) (t : Turned h.own W.drew w1) => (⟨B2W.drew.kept t (fun e => by have a := OWN.out _ e; omega), B3W.drew.kept t (fun e => by have a := OWN.out _ e; omega)⟩ : At w1 (P + 2) 30 _ ∧ At w1 Q 30 _))
  have KB := Lib.hid (fun (w1 : World) (t : Turned h.own (six W (P + 2) (.slice (some ⟨r'.gw, 0, none⟩) f.ws.length r'.cw) (.slice (some ⟨r'.ge, 0, none⟩) f.wear.length r'.ce) (.int .i64 f.endure) (.int .i64 f.left) (.int .u32 (U f.pick)) (.bool (!f.up))).drew w1) => (RS.kept t (fun e => by have a := OWN.out _ e; omega) : At w1 (P + 2) _ _))
  have OA := Lib.hid (fun (w1 : World) (hc1 : ChipAt w1 h f) (t : Turned h.own W.drew w1) => does_end (d' := f) HP.out (OWN.out) (B2W.drew.kept t (fun e => by have a := OWN.out _ e; omega)) hc1 (hrW.kept (((Turned.refl h.own W).drew).trans t) nr1 nr2) hnw (htW.drew.trans t))
  simp only [six] at CB
  clear hcS
  go_region_with (first
    | (go_at_call 20; (with_reducible refine Calls.mono CA.out ?_); rintro e w1 ⟨rfl, hc1, ht1⟩
       obtain ⟨K2, KQ⟩ := KA.out w1 ht1
       obtain ⟨q0, q1, q2, q3, q4, q5⟩ := KQ.all6; obtain ⟨y0, y1, y2, y3, y4, y5⟩ := K2.all6; obtain ⟨u0, u1, u2, u3, u4, u5⟩ := K2.thaw6)
    | (go_at_call 20; (with_reducible refine Calls.mono CB.out ?_); rintro e w1 ⟨rfl, hc1, ht1⟩))
  all_goals (try simp only [List.getElem_toArray, List.getElem_cons_succ, List.getElem_cons_zero])
  all_goals (try go_simp)
  all_goals go_wp2
  all_goals (
    have OUT := OA.out w1 hc1 ht1
    have R9 := K2.six (.slice (some ⟨r'.gw, 0, none⟩) f.ws.length r'.cw) (.slice (some ⟨r'.ge, 0, none⟩) f.wear.length r'.ce) (.int .i64 f.endure) (.int .i64 f.left) (.int .u32 (U f.pick)) (.bool (!f.up))
    change bodyPost _ _ _ _ _ (six w1 (P + 2) (.slice (some ⟨r'.gw, 0, none⟩) f.ws.length r'.cw) (.slice (some ⟨r'.ge, 0, none⟩) f.wear.length r'.ce) (.int .i64 f.endure) (.int .i64 f.left) (.int .u32 (U f.pick)) (.bool (!f.up)))
    rw [← FE.out]
    obtain ⟨W9, hW9⟩ : ∃ W9, W9 = six w1 (P + 2) (.slice (some ⟨r'.gw, 0, none⟩) f.ws.length r'.cw) (.slice (some ⟨r'.ge, 0, none⟩) f.wear.length r'.ce) (.int .i64 f.endure) (.int .i64 f.left) (.int .u32 (U f.pick)) (.bool (!f.up)) := ⟨_, rfl⟩
    rw [← hW9] at R9 OUT ⊢
    clear hW9 q0 q1 q2 q3 q4 q5 y0 y1 y2 y3 y4 y5 u0 u1 u2 u3 u4 u5
    obtain ⟨e0, e1, e2, e3, e4, e5⟩ := R9.all6
    exact bodyPost_ret (v := .tuple #[.agg #[.slice (some ⟨r'.gw, 0, none⟩) f.ws.length r'.cw, .slice (some ⟨r'.ge, 0, none⟩) f.wear.length r'.ce, .int .i64 f.endure, .int .i64 f.left, .int .u32 (U f.pick), .bool (!f.up)], .bool true]) (by simp [results, Try.results14, go_sem, e0, e1, e2, e3, e4, e5]) rfl OUT)

set_option maxHeartbeats 4000000 in
theorem does_program (w : World) (h : Hd) (r : Rh) (d : ChipM) (k : Nat) (x : ActM) (hc : ChipAt w h d) (hr : RefAt w r d) (n1 : ¬ h.own r.gw) (n2 : ¬ h.own r.ge) (ok : ChipOk k d) (b0 : 0 ≤ x.kind ∧ x.kind ≤ 255) (hk : ¬ x.kind % 8 = 3 ∧ ¬ x.kind % 8 = 4 ∧ ¬ x.kind % 8 = 5 ∧ ¬ x.kind % 8 = 6 ∧ ¬ x.kind % 8 = 7) :
    Calls Try.prog 14 #[.pointer (some ⟨h.p, 0, none⟩), refVal r d, actVal x] w (DoesOut w h r (mProgram d x.at_ x.v).1) := by
  have D := does_in w h r d x hc hr n1 n2
  have k3 : (x.kind % 8 == 3) = false := by rw [beq_eq_false_iff_ne]; omega
  have k4 : (x.kind % 8 == 4) = false := by rw [beq_eq_false_iff_ne]; omega
  have k5 : (x.kind % 8 == 5) = false := by rw [beq_eq_false_iff_ne]; omega
  have k6 : (x.kind % 8 == 6) = false := by rw [beq_eq_false_iff_ne]; omega
  have k7 : (x.kind % 8 == 7) = false := by rw [beq_eq_false_iff_ne]; omega
  have DD := Lib.hid D
  have CH := Lib.hid (fun (W : World) (hW : ChipAt W h d) => program_any h d k x.at_ x.v W hW ok)
  have RR := Lib.hid (fun (W : World) (hW : RefAt W r d) => rprogram_any r d k x.at_ x.v W hW ok)
  obtain ⟨W4, hW4⟩ : ∃ W4, W4 = (((w.alloc (.cells (refCells r d).toArray 30)).alloc (.cells (actCells x).toArray 33)).alloc (.cells refZero.toArray 30)) := ⟨_, rfl⟩
  have DW := DD.out
  rw [← hW4] at DW
  clear D hk hc hr
  obtain ⟨P, hP⟩ : ∃ P, P = w.heap.size := ⟨_, rfl⟩
  have H4 := Lib.hid hW4
  clear hW4
  obtain ⟨o2, ho2⟩ : ∃ o2, o2 = (mProgram d x.at_ x.v).2 := ⟨_, rfl⟩
  obtain ⟨f, hf⟩ : ∃ f, f = (mProgram d x.at_ x.v).1 := ⟨_, rfl⟩
  rw [← ho2, ← hf] at CH RR
  have FE := Lib.hid hf
  clear ho2 hf
  unfold refVal actVal
  go_enter Try.func14, Try.ntmps14
  go_wp2_with fail
  have R1 := RR.out _ DD.out.rf
  refine Calls.mono R1 ?_
  rintro e w5 ⟨r', rfl, hr5, hB5, hn5⟩
  clear R1
  have hB5' : Below W4.heap.size W4 w5 := by rw [H4.out]; exact hB5
  have hn5' : RefNew W4 r r' := by rw [H4.out]; exact hn5
  have HP := Lib.hid hP
  rw [← hP]
  clear hP hB5 hn5
  obtain ⟨B0, B1, B2, _, htw⟩ := DW.keep (Turned.of_below hB5' (Nat.le_refl _) h.own)
  have hc5 : ChipAt w5 h d := DW.chip.kept (Turned.of_below hB5' (Nat.le_refl _) NoBlock) (fun _ _ h => h)
  rw [← HP.out] at B0 B1 B2
  simp only [refVal]
  obtain ⟨W, hW⟩ : ∃ W, W = w5.alloc (.cells #[.slice (some ⟨r'.gw, 0, none⟩) f.ws.length r'.cw, .slice (some ⟨r'.ge, 0, none⟩) f.wear.length r'.ce, .int .i64 f.endure, .int .i64 f.left, .int .u32 (U f.pick), .bool (!f.up)] 30) := ⟨_, rfl⟩
  have B1W : At W (P + 1) 33 (actCells x) := by rw [hW]; exact B1.alloc _
  have B2W : At W (P + 2) 30 refZero := by rw [hW]; exact B2.alloc _
  have B3W : At W w5.heap.size 30 (refCells r' f) := by rw [hW]; exact At.news w5 _ _
  have hcW : ChipAt W h d := by rw [hW]; exact hc5.kept ((Turned.refl NoBlock w5).alloc _) (fun _ _ h => h)
  have hrW : RefAt W r' f := by rw [hW]; exact hr5.kept ((Turned.refl NoBlock w5).alloc _) (fun h => h) (fun h => h)
  have htW : Turned h.own w W := by rw [hW]; exact htw.alloc _
  obtain ⟨Q, hQ⟩ : ∃ Q, Q = w5.heap.size := ⟨_, rfl⟩
  rw [← hQ] at B3W
  have hQ2 : P + 2 < Q := by have := B2.lt; omega
  have HQ := Lib.hid hQ
  have HW := Lib.hid hW
  have own : ∀ i, h.own i → i < P := HP.out ▸ DW.own
  have nr1 : ¬ h.own r'.gw := by
    have hs := DW.size
    have hp := HP.out
    rcases hn5'.1 with e | e
    · intro hh; have := own _ hh; omega
    · rw [e]; exact n1
  have nr2 : ¬ h.own r'.ge := by
    have hs := DW.size
    have hp := HP.out
    rcases hn5'.2 with e | e
    · intro hh; have := own _ hh; omega
    · rw [e]; exact n2
  have hnw : RefNew w r r' := (RefNew.refl w r).trans (by have := DW.below.size; exact this) hn5'
  clear hW hQ B0 B1 B2 hc5 hr5 htw hB5' hn5'
  go_wp2
  rw [← HW.out, ← HQ.out]
  have OWN := Lib.hid own
  clear own
  simp only [refCells, actCells, refZero] at B1W B2W B3W
  obtain ⟨a0, a1, a2⟩ := B1W.all3
  obtain ⟨c0, c1, c2, c3, c4, c5⟩ := B3W.all6
  obtain ⟨z0, z1, z2, z3, z4, z5⟩ := B2W.all6
  obtain ⟨t0, t1, t2, t3, t4, t5⟩ := B2W.thaw6
  have hcS : ChipAt (six W (P + 2) (.slice (some ⟨r'.gw, 0, none⟩) f.ws.length r'.cw) (.slice (some ⟨r'.ge, 0, none⟩) f.wear.length r'.ce) (.int .i64 f.endure) (.int .i64 f.left) (.int .u32 (U f.pick)) (.bool (!f.up))).drew h d := (hcW.kept ((Turned.refl (Just (P + 2)) W).six (P := P + 2) (fun _ => rfl) (.slice (some ⟨r'.gw, 0, none⟩) f.ws.length r'.cw) (.slice (some ⟨r'.ge, 0, none⟩) f.wear.length r'.ce) (.int .i64 f.endure) (.int .i64 f.left) (.int .u32 (U f.pick)) (.bool (!f.up))) (fun i hi e => by have a := OWN.out i hi; have b : i = P + 2 := e; omega)).drewN 1
  have TS : Turned (Just (P + 2)) W (six W (P + 2) (.slice (some ⟨r'.gw, 0, none⟩) f.ws.length r'.cw) (.slice (some ⟨r'.ge, 0, none⟩) f.wear.length r'.ce) (.int .i64 f.endure) (.int .i64 f.left) (.int .u32 (U f.pick)) (.bool (!f.up))).drew := ((Turned.refl (Just (P + 2)) W).six (P := P + 2) (fun _ => rfl) (.slice (some ⟨r'.gw, 0, none⟩) f.ws.length r'.cw) (.slice (some ⟨r'.ge, 0, none⟩) f.wear.length r'.ce) (.int .i64 f.endure) (.int .i64 f.left) (.int .u32 (U f.pick)) (.bool (!f.up))).drew
  have RS := (B2W.six (.slice (some ⟨r'.gw, 0, none⟩) f.ws.length r'.cw) (.slice (some ⟨r'.ge, 0, none⟩) f.wear.length r'.ce) (.int .i64 f.endure) (.int .i64 f.left) (.int .u32 (U f.pick)) (.bool (!f.up))).drew
  have CA := Lib.hid (CH.out W.drew (hcW.drewN 1))
  have CB := Lib.hid (CH.out _ hcS)
  -- behind the call of the chip, where it came ahead of the store
  have KA := Lib.hid (fun (w1 : World) (t : Turned h.own W.drew w1) => (⟨B2W.drew.kept t (fun e => by have a := OWN.out _ e; omega), B3W.drew.kept t (fun e => by have a := OWN.out _ e; omega)⟩ : At w1 (P + 2) 30 _ ∧ At w1 Q 30 _))
  have KB := Lib.hid (fun (w1 : World) (t : Turned h.own (six W (P + 2) (.slice (some ⟨r'.gw, 0, none⟩) f.ws.length r'.cw) (.slice (some ⟨r'.ge, 0, none⟩) f.wear.length r'.ce) (.int .i64 f.endure) (.int .i64 f.left) (.int .u32 (U f.pick)) (.bool (!f.up))).drew w1) => (RS.kept t (fun e => by have a := OWN.out _ e; omega) : At w1 (P + 2) _ _))
  have OA := Lib.hid (fun (w1 : World) (hc1 : ChipAt w1 h f) (t : Turned h.own W.drew w1) => does_end (d' := f) HP.out (OWN.out) (B2W.drew.kept t (fun e => by have a := OWN.out _ e; omega)) hc1 (hrW.kept (((Turned.refl h.own W).drew).trans t) nr1 nr2) hnw (htW.drew.trans t))
  simp only [six] at CB
  clear hcS
  go_region_with (first
    | (go_at_call 23; (with_reducible refine Calls.mono CA.out ?_); rintro e w1 ⟨rfl, hc1, ht1⟩
       obtain ⟨K2, KQ⟩ := KA.out w1 ht1
       obtain ⟨q0, q1, q2, q3, q4, q5⟩ := KQ.all6; obtain ⟨y0, y1, y2, y3, y4, y5⟩ := K2.all6; obtain ⟨u0, u1, u2, u3, u4, u5⟩ := K2.thaw6)
    | (go_at_call 23; (with_reducible refine Calls.mono CB.out ?_); rintro e w1 ⟨rfl, hc1, ht1⟩))
  all_goals (try simp only [List.getElem_toArray, List.getElem_cons_succ, List.getElem_cons_zero])
  all_goals (try go_simp)
  all_goals go_wp2
  all_goals (
    have OUT := OA.out w1 hc1 ht1
    have R9 := K2.six (.slice (some ⟨r'.gw, 0, none⟩) f.ws.length r'.cw) (.slice (some ⟨r'.ge, 0, none⟩) f.wear.length r'.ce) (.int .i64 f.endure) (.int .i64 f.left) (.int .u32 (U f.pick)) (.bool (!f.up))
    change bodyPost _ _ _ _ _ (six w1 (P + 2) (.slice (some ⟨r'.gw, 0, none⟩) f.ws.length r'.cw) (.slice (some ⟨r'.ge, 0, none⟩) f.wear.length r'.ce) (.int .i64 f.endure) (.int .i64 f.left) (.int .u32 (U f.pick)) (.bool (!f.up)))
    rw [← FE.out]
    obtain ⟨W9, hW9⟩ : ∃ W9, W9 = six w1 (P + 2) (.slice (some ⟨r'.gw, 0, none⟩) f.ws.length r'.cw) (.slice (some ⟨r'.ge, 0, none⟩) f.wear.length r'.ce) (.int .i64 f.endure) (.int .i64 f.left) (.int .u32 (U f.pick)) (.bool (!f.up)) := ⟨_, rfl⟩
    rw [← hW9] at R9 OUT ⊢
    clear hW9 q0 q1 q2 q3 q4 q5 y0 y1 y2 y3 y4 y5 u0 u1 u2 u3 u4 u5
    obtain ⟨e0, e1, e2, e3, e4, e5⟩ := R9.all6
    exact bodyPost_ret (v := .tuple #[.agg #[.slice (some ⟨r'.gw, 0, none⟩) f.ws.length r'.cw, .slice (some ⟨r'.ge, 0, none⟩) f.wear.length r'.ce, .int .i64 f.endure, .int .i64 f.left, .int .u32 (U f.pick), .bool (!f.up)], .bool true]) (by simp [results, Try.results14, go_sem, e0, e1, e2, e3, e4, e5]) rfl OUT)
end Go.Proofs.Ytmhkcbdkimnakaa
