/- The document's driver: the contract of Program. -/
import Derived.Test.YtfckgfimmoinmaaDrvRB
import Derived.Deep.RegionHeld3
namespace Go.Proofs.Ytfckgfimmoinmaa
open Go.RowKit Bm

/-- A whole store of a driver, held. -/
def HStD (d : Option Tmp) (x y : Operand) (ty : TypeId) (pos : String) (af : Array Edge) (gd : Option (Nat × Bool)) (a : Go.Act) (w : World) (K : Go.Act → World → Prop) (Q : Exit → Go.Act → World → Prop) : Prop :=
  Oper.wp Try.prog ⟨d, .store 41 x y, ty, pos, af, gd⟩ a w K Q
theorem h_std (d : Option Tmp) (x y : Operand) (ty : TypeId) (pos : String) (af : Array Edge) (gd : Option (Nat × Bool)) (a : Go.Act) (w : World) (K : Go.Act → World → Prop) (Q : Exit → Go.Act → World → Prop) :
    Oper.wp Try.prog ⟨d, .store 41 x y, ty, pos, af, gd⟩ a w K Q = HStD d x y ty pos af gd a w K Q := rfl
theorem HStD.of {d : Option Tmp} {x y : Operand} {ty T : TypeId} {pos : String} {af : Array Edge} {gd : Option (Nat × Bool)} {a : Go.Act} {w : World} {K : Go.Act → World → Prop} {Q : Exit → Go.Act → World → Prop} {M : Nat} {cs ys : List Value}
    (hx : a.eval x = .pointer (some ⟨M, 0, none⟩)) (hy : a.eval y = .agg ys.toArray) (hA : At w M T cs) (hn : cs.length = 78) (hn' : ys.length = 78) (h1 : ∀ u ∈ ys, u.oneCell' = true)
    (h : ∀ w', At w' M T ys → Turned (Just M) w w' → K (a.put d undef) w') : HStD d x y ty pos af gd a w K Q :=
  wp_sth (post := []) x y rfl hx hy rd_size hA (List.append_nil _).symm hn hn' h1 (fun w' hA' ht => h w' (by simpa using hA') ht)
attribute [local go_sem ↓] Go.wp_at_zero Go.wp_at_succ ldF_eq ldD_eq h_std

theorem reads_twoN {n : Nat} (w : World) (x y : BitVec 32) (hn : n = w.heap.size) : ReadsU (w.alloc (.cells #[.int .u32 (U x), .int .u32 (U y)] 33)) (some ⟨n, 0, none⟩) 2 2 [x, y] := by
  subst hn
  exact reads_two w x y
/-- Both blocks of a call, and the chip's rows. -/
structure DS (w : World) (r : Rh) (m : FlashM) (t : Int) (W : World) : Prop where
  p : Pair 41 w (rdCells r m t) rdZero W
  c : RefAt W r m.chip
theorem DS.call {w W W' : World} {r : Rh} {m : FlashM} {t : Int} (h : DS w r m t W) (hb : Below W.heap.size W W') : DS w r m t W' := ⟨h.p.call hb, h.c.below hb⟩
theorem DS.drew {w W : World} {r : Rh} {m : FlashM} {t : Int} (h : DS w r m t W) : DS w r m t W.drew := h.call ((Below.refl _ W).drew)
theorem DS.alloc {w W : World} {r : Rh} {m : FlashM} {t : Int} (h : DS w r m t W) (o : Obj) : DS w r m t (W.alloc o) := h.call ((Below.refl _ W).alloc (Nat.le_refl _) o)
theorem DS.far {w W W' : World} {r : Rh} {m : FlashM} {t : Int} (h : DS w r m t W) {P : Nat} {cs : List Value} (hA : At W P 41 cs) (hP : w.heap.size + 2 ≤ P) (ht : Turned (Just P) W W') : DS w r m t W' :=
  ⟨h.p.far hP ht, h.c.otherT hA (by decide) (by decide) ht⟩

set_option maxRecDepth 100000 in
set_option maxHeartbeats 4000000 in
theorem rprogram5_any (r : Rh) (m : FlashM) (t : Int) (k : Nat) (a : Int) (A : Option Addr) (n c : Nat) (xs : List (BitVec 32)) (w : World) (h : DrvOk k ⟨m, t⟩) (hc : RefAt w r m.chip) (hr : ReadsU w A n c xs) (hn : n ≤ 1000) (b0 : -1125899906842624 ≤ a) (b1 : a ≤ 1125899906842624) (t0 : 0 ≤ t) (t1 : t ≤ 100000000000000) :
    Calls Try.prog 29 #[rdVal r m t, .int .i64 a, .slice A n c] w (DrvOut r (dProgram ⟨m, t⟩ a xs) w) := by
  have hz := rf_zero
  have hz2 := rd_zero
  have hle := hr.le
  have HLN := Lib.hid hr.len
  have P0 := Lib.hid (Pair.start 41 w (rdCells r m t) rdZero)
  have C0 := Lib.hid (hc.below (below_two w (.cells (rdCells r m t).toArray 41) (.cells rdZero.toArray 41)))
  clear hc
  change Calls _ _ #[.agg (rdCells r m t).toArray, _, _] _ _
  go_enter Try.func29, Try.ntmps29
  go_wp2_with fail
  go_loopw [8] (fun i wr => ∃ (j : Nat) (d : DrvM) (r' : Rh), j ≤ n ∧ i = .int .i64 j ∧ DS w r' d.f d.t wr ∧ RefNew w r r' ∧ DrvOk k d ∧ 0 ≤ d.t ∧ d.t ≤ t + 3 * j ∧ dProgram ⟨m, t⟩ a xs = dProgram d (a + j) (xs.drop j)) (fun i _ => n - (intOf i).toNat)
  case atStart => exact ⟨0, ⟨m, t⟩, r, by omega, rfl, ⟨P0.out, C0.out⟩, RefNew.refl _ _, h, t0, by simp, by simp⟩
  case round =>
    clear P0 C0 h t0
    obtain ⟨j, ⟨m', t'⟩, r', hj, rfl, S, hnw, ok', t2, t3, hw⟩ := hrel
    simp only at S t2 t3
    have HW := Lib.hid hw
    have HN := Lib.hid hnw
    have OK := Lib.hid ok'
    clear hw hnw ok'
    by_cases hlt : j < n
    · obtain ⟨ad, rfl, _⟩ := (hr.kept S.p.below).at_ hlt
      have i0 : (0 : Int) ≤ (j : Int) := by omega
      have i1 : (j : Int) < (n : Int) := by omega
      have wr0 : IntKind.i64.wrap (a + (j : Int)) = a + (j : Int) := by rw [IntKind.wrap_i64]; omega
      have hcl : ∀ W, DS w r' m' t' W → W.cell? (ad.add j) = some (.int .u32 (U (wd xs j))) := fun W PW => by
        obtain ⟨b, e, h⟩ := (hr.kept PW.p.below).at_ hlt
        injection e with e
        rw [e]; exact h
      have hld : ∀ W, DS w r' m' t' W → (op_ex ldD (.pointer (some ⟨w.heap.size, 0, none⟩)) W).choose = .ok (.value (.agg (rdCells r' m' t').toArray)) W := fun W PW => ldD_at PW.p.a (rd_len _ _ _)
      obtain ⟨v, hv⟩ : ∃ v, v = wd xs j := ⟨_, rfl⟩
      rw [← hv] at hcl
      have hw2 : dProgram ⟨m', t'⟩ (a + j) (xs.drop j) = if (dPut ⟨m', t'⟩ (a + j) v).2 = 0 then dProgram (dPut ⟨m', t'⟩ (a + j) v).1 (a + (j + 1 : Nat)) (xs.drop (j + 1)) else dPut ⟨m', t'⟩ (a + j) v := by
        rw [drop_wd (by rw [HLN.out]; exact hlt), dProgram, ← hv, show a + (j : Int) + 1 = a + ((j + 1 : Nat) : Int) by omega]
      have HW2 := Lib.hid hw2
      have HS := Lib.hid S
      have cl := fun W g (hr : ReadsU W (some ⟨g, 0, none⟩) 2 2 [64#32, v]) => rwrites_any r' m' t' k (a + j) (some ⟨g, 0, none⟩) 2 2 [64#32, v] W OK.out.ok hr (by omega)
      rw [put_writes OK.out.calm (a + j) v] at cl
      have R1 := Lib.hid ((reads_two wr 64#32 v).kept ((Below.refl _ _).drew))
      have R2 := Lib.hid (((reads_two wr 64#32 v).kept ((Below.refl _ _).alloc (Nat.le_refl _) (.cells rdZero.toArray 41))).kept ((Below.refl _ _).drew))
      have R3 := Lib.hid ((reads_twoN (n := wr.heap.size + 1) (wr.alloc (.cells rdZero.toArray 41)) 64#32 v (by simp)).kept ((Below.refl _ _).drew))
      clear hv hw2
      by_cases hrf : fRefuse m' (a + j) = 0
      · rw [if_pos hrf] at cl
        obtain ⟨m1, hm1⟩ : ∃ m1, m1 = putM m' (a + j) v := ⟨_, rfl⟩
        rw [← hm1] at cl
        have CL := Lib.hid cl
        have HM := Lib.hid hm1
        clear cl hm1
        have wk := put_ok OK.out.ok OK.out.calm (a + j) v hrf
        have wl := put_left OK.out.ok OK.out.calm (a + j) v
        have wc := putM_chip m' (a + j) v
        have ww := put_waits OK.out.ok OK.out.calm t' (a + j) v hrf
        rw [← HM.out] at wk wl wc ww
        obtain ⟨y, hy⟩ : ∃ y, y = dPut ⟨m', t'⟩ (a + j) v := ⟨_, rfl⟩
        have yk := put_calm OK.out (a + j) v
        have yt := put_ticks ⟨m', t'⟩ (a + j) v
        have h2 := HW2.out
        rw [← hy] at ww h2 yk yt
        have wa := fun W hW => rwait_any r' m1 t' k W wk hW t2 (by omega)
        rw [ww] at wa
        have WA := Lib.hid wa
        have WC := Lib.hid wc
        have H2 := Lib.hid h2
        have YK := Lib.hid yk
        have YT := Lib.hid yt
        clear wk wl wc ww hy wa h2 yk yt hrf
        go_wp2_with fail
        go_region_held3 (fun w' => DS w r' m' t' w') (first | assumption | exact DS.drew (by assumption) | exact DS.alloc (by assumption) _) (first
          | (go_at_call 44; (refine (CL.out _ _ (by first | exact R1.out | exact R2.out | exact R3.out)).mono ?_); rintro e w2 ⟨rfl, hb⟩; simp only [rdVal]; have S2 := DS.call (by assumption) hb; (first | have AZ := Lib.hid (((At.news wr 41 rdZero).alloc (.cells #[.int .u32 (U 64#32), .int .u32 (U v)] 33)).drew.kept (Turned.of_below hb (Nat.le_refl _) NoBlock) (fun h => h)) | have AZ := Lib.hid ((At.alloc_new (w := wr.alloc (.cells #[.int .u32 (U 64#32), .int .u32 (U v)] 33)) _ (n := wr.heap.size + 1) 41 rdZero (by simp) rfl).drew.kept (Turned.of_below hb (Nat.le_refl _) NoBlock) (fun h => h)) | skip); clear hb)
          | ((refine HStD.of (ys := rdCells r' m1 t') (cs := rdZero) (by rfl) (by rfl) (by first | exact AZ.out | exact At.alloc_new _ _ rdZero (by rfl) rfl) rdZero_len (rd_len _ _ _) (rd_one _ _ _) ?_); intro w4 A4 T4; have A4' := Lib.hid A4; have S4 := DS.far (by assumption) (by first | exact AZ.out | exact At.alloc_new _ _ rdZero (by rfl) rfl) (by have := S2.p.size; have := HS.out.p.size; simp; omega) T4; clear A4 T4))
        all_goals
          have SS := Lib.hid S4
          clear S4
          by_cases hy0 : y.2 = 0
          · have hy1 : (y.2 != 0) = false := by rw [hy0]; rfl
            have H3 := H2.out
            rw [if_pos hy0] at H3
            have HW3 := Lib.hid (HW.out.trans H3)
            clear H3
            go_wp2_with (first
              | ((refine wpList_ldh (ty := 41) (xs := rdCells r' m1 t') (post := []) _ rfl (by rfl) (by rfl) Try.underlying41 rfl rd_size A4'.out (List.append_nil _).symm (rd_len _ _ _) ?_))
              | (go_at_call 45; (refine (WA.out _ (by rw [WC.out]; exact SS.out.c)).mono ?_); rintro e w5 ⟨r5, rfl, hc5, hb, hn5⟩; simp only [rdVal]; have P5 := Lib.hid (SS.out.p.call hb); have C5 := Lib.hid hc5; have N5 := Lib.hid (HN.out.trans (by have := SS.out.p.size; omega) hn5); clear hc5 hb hn5)
              | ((refine wpList_sth (ty := 41) (xs := rdZero) (ys := rdCells r5 y.1.f y.1.t) (post := []) _ _ rfl (by rfl) (by rfl) (by rfl) rd_size (At.news w5 _ rdZero) (List.append_nil _).symm rdZero_len (rd_len _ _ _) (rd_one _ _ _) ?_); intro w6 A6 T6; have A6' : Hid (At w6 w5.heap.size 41 (rdCells r5 y.1.f y.1.t)) := Lib.hid (by simpa using A6); have P6 := Lib.hid ((P5.out.alloc _).far P5.out.size T6); have C6 := Lib.hid ((C5.out.below ((Below.refl _ w5).alloc (Nat.le_refl _) (.cells rdZero.toArray 41))).otherT (At.news w5 _ rdZero) (by decide) (by decide) T6); clear A6 T6)
              | ((refine wpList_ldh (ty := 41) (xs := rdCells r5 y.1.f y.1.t) (post := []) _ rfl (by rfl) (by rfl) Try.underlying41 rfl rd_size A6'.out (List.append_nil _).symm (rd_len _ _ _) ?_))
              | ((refine wpList_sth (ty := 41) (xs := rdCells r' m' t') (ys := rdCells r5 y.1.f y.1.t) (post := []) _ _ rfl (by rfl) (by rfl) (by rfl) rd_size P6.out.a (List.append_nil _).symm (rd_len _ _ _) (rd_len _ _ _) (rd_one _ _ _) ?_); intro w7 A7 T7; have P7 := Lib.hid (P6.out.sta (cs' := rdCells r5 y.1.f y.1.t) (by simpa using A7) T7); have C7 := Lib.hid (C6.out.otherT P6.out.a (by decide) (by decide) T7); clear A7 T7))
            go_roundw
            case rel => exact ⟨j + 1, y.1, r5, by omega, by go_num, ⟨P7.out, C7.out⟩, N5.out, YK.out, by have := YT.out; omega, by have := YT.out; omega, HW3.out⟩
            case measure => simp [intOf]; omega
          · have hy1 : (y.2 != 0) = true := by simpa using hy0
            have H3 := H2.out
            rw [if_neg hy0] at H3
            have HW3 := Lib.hid (HW.out.trans H3)
            clear H3
            go_wp2_with (first
              | ((refine wpList_ldh (ty := 41) (xs := rdCells r' m1 t') (post := []) _ rfl (by rfl) (by rfl) Try.underlying41 rfl rd_size A4'.out (List.append_nil _).symm (rd_len _ _ _) ?_))
              | (go_at_call 45; (refine (WA.out _ (by rw [WC.out]; exact SS.out.c)).mono ?_); rintro e w5 ⟨r5, rfl, hc5, hb, hn5⟩; simp only [rdVal]; have P5 := Lib.hid (SS.out.p.call hb); have C5 := Lib.hid hc5; have N5 := Lib.hid (HN.out.trans (by have := SS.out.p.size; omega) hn5); clear hc5 hb hn5)
              | ((refine wpList_sth (ty := 41) (xs := rdZero) (ys := rdCells r5 y.1.f y.1.t) (post := []) _ _ rfl (by rfl) (by rfl) (by rfl) rd_size (At.news w5 _ rdZero) (List.append_nil _).symm rdZero_len (rd_len _ _ _) (rd_one _ _ _) ?_); intro w6 A6 T6; have A6' : Hid (At w6 w5.heap.size 41 (rdCells r5 y.1.f y.1.t)) := Lib.hid (by simpa using A6); have P6 := Lib.hid ((P5.out.alloc _).far P5.out.size T6); have C6 := Lib.hid ((C5.out.below ((Below.refl _ w5).alloc (Nat.le_refl _) (.cells rdZero.toArray 41))).otherT (At.news w5 _ rdZero) (by decide) (by decide) T6); clear A6 T6)
              | ((refine wpList_ldh (ty := 41) (xs := rdCells r5 y.1.f y.1.t) (post := []) _ rfl (by rfl) (by rfl) Try.underlying41 rfl rd_size A6'.out (List.append_nil _).symm (rd_len _ _ _) ?_))
              | ((refine wpList_sth (ty := 41) (xs := rdCells r' m' t') (ys := rdCells r5 y.1.f y.1.t) (post := []) _ _ rfl (by rfl) (by rfl) (by rfl) rd_size P6.out.a (List.append_nil _).symm (rd_len _ _ _) (rd_len _ _ _) (rd_one _ _ _) ?_); intro w7 A7 T7; have P7 := Lib.hid (P6.out.sta (cs' := rdCells r5 y.1.f y.1.t) (by simpa using A7) T7); have C7 := Lib.hid (C6.out.otherT P6.out.a (by decide) (by decide) T7); clear A7 T7)
              | ((refine wpList_ldh (ty := 41) (xs := rdCells r5 y.1.f y.1.t) (post := []) _ rfl (by rfl) (by rfl) Try.underlying41 rfl rd_size P7.out.a (List.append_nil _).symm (rd_len _ _ _) ?_))
              | ((refine wpList_sth (ty := 41) (xs := rdZero) (ys := rdCells r5 y.1.f y.1.t) (post := []) _ _ rfl (by rfl) (by rfl) (by rfl) rd_size P7.out.b (List.append_nil _).symm rdZero_len (rd_len _ _ _) (rd_one _ _ _) ?_); intro w8 A8 T8; have P8 := Lib.hid (P7.out.stb (ds' := rdCells r5 y.1.f y.1.t) (by simpa using A8) T8); have C8 := Lib.hid (C7.out.otherT P7.out.b (by decide) (by decide) T8); clear A8 T8))
            exact bodyPost_ret (rd_res2 Try.results29 _ rfl rfl P8.out.b (rd_len _ _ _)) rfl (drvOut_mk HW3.out C8.out P8.out.below N5.out)
      · rw [if_neg hrf] at cl
        obtain ⟨q, hq⟩ : ∃ q, q = fRefuse m' (a + j) := ⟨_, rfl⟩
        have hd : dPut ⟨m', t'⟩ (a + j) v = (⟨m', t'⟩, fRefuse m' (a + j)) := if_neg hrf
        have hx1 : (fRefuse m' (a + j) != 0) = true := by simpa using hrf
        have h2 := HW2.out
        rw [hd, if_neg (by exact hrf)] at h2
        rw [← hq] at cl hx1 h2
        have CL := Lib.hid cl
        have HW3 := Lib.hid (HW.out.trans h2)
        clear cl hd h2 hq hrf
        go_wp2_with fail
        go_region_held3 (fun w' => DS w r' m' t' w') (first | assumption | exact DS.drew (by assumption) | exact DS.alloc (by assumption) _) (first
          | (go_at_call 44; (refine (CL.out _ _ (by first | exact R1.out | exact R2.out | exact R3.out)).mono ?_); rintro e w2 ⟨rfl, hb⟩; simp only [rdVal]; have S2 := DS.call (by assumption) hb; (first | have AZ := Lib.hid (((At.news wr 41 rdZero).alloc (.cells #[.int .u32 (U 64#32), .int .u32 (U v)] 33)).drew.kept (Turned.of_below hb (Nat.le_refl _) NoBlock) (fun h => h)) | have AZ := Lib.hid ((At.alloc_new (w := wr.alloc (.cells #[.int .u32 (U 64#32), .int .u32 (U v)] 33)) _ (n := wr.heap.size + 1) 41 rdZero (by simp) rfl).drew.kept (Turned.of_below hb (Nat.le_refl _) NoBlock) (fun h => h)) | skip); clear hb)
          | ((refine HStD.of (ys := rdCells r' m' t') (cs := rdZero) (by rfl) (by rfl) (by first | exact AZ.out | exact At.alloc_new _ _ rdZero (by rfl) rfl) rdZero_len (rd_len _ _ _) (rd_one _ _ _) ?_); intro w4 A4 T4; have A4' := Lib.hid A4; have S4 := DS.far (by assumption) (by first | exact AZ.out | exact At.alloc_new _ _ rdZero (by rfl) rfl) (by have := S2.p.size; have := HS.out.p.size; simp; omega) T4; clear A4 T4))
        all_goals
          have SS := Lib.hid S4
          clear S4
          go_wp2_with (first
            | ((refine wpList_ldh (ty := 41) (xs := rdCells r' m' t') (post := []) _ rfl (by rfl) (by rfl) Try.underlying41 rfl rd_size A4'.out (List.append_nil _).symm (rd_len _ _ _) ?_))
            | ((refine wpList_sth (ty := 41) (xs := rdZero) (ys := rdCells r' m' t') (post := []) _ _ rfl (by rfl) (by rfl) (by rfl) rd_size SS.out.p.b (List.append_nil _).symm rdZero_len (rd_len _ _ _) (rd_one _ _ _) ?_); intro w8 A8 T8; have P8 := Lib.hid (SS.out.p.stb (ds' := rdCells r' m' t') (by simpa using A8) T8); have C8 := Lib.hid (SS.out.c.otherT SS.out.p.b (by decide) (by decide) T8); clear A8 T8))
          exact bodyPost_ret (rd_res2 Try.results29 _ rfl rfl P8.out.b (rd_len _ _ _)) rfl (drvOut_mk HW3.out C8.out P8.out.below HN.out)
    · obtain rfl : j = n := by omega
      have H2 := HW.out
      rw [show xs.drop j = [] from List.drop_eq_nil_of_le (by rw [HLN.out]; omega), dProgram] at H2
      have HW3 := Lib.hid H2
      have PP := Lib.hid S.p
      have CC := Lib.hid S.c
      clear H2 S
      go_wp2_with (first
        | ((refine wpList_ldh (ty := 41) (xs := rdCells r' m' t') (post := []) _ rfl (by rfl) (by rfl) Try.underlying41 rfl rd_size PP.out.a (List.append_nil _).symm (rd_len _ _ _) ?_))
        | ((refine wpList_sth (ty := 41) (xs := rdZero) (ys := rdCells r' m' t') (post := []) _ _ rfl (by rfl) (by rfl) (by rfl) rd_size PP.out.b (List.append_nil _).symm rdZero_len (rd_len _ _ _) (rd_one _ _ _) ?_); intro w8 A8 T8; have P8 := Lib.hid (PP.out.stb (ds' := rdCells r' m' t') (by simpa using A8) T8); have C8 := Lib.hid (CC.out.otherT PP.out.b (by decide) (by decide) T8); clear A8 T8))
      exact bodyPost_ret (rd_res2 Try.results29 _ rfl rfl P8.out.b (rd_len _ _ _)) rfl (drvOut_mk HW3.out C8.out P8.out.below HN.out)
end Go.Proofs.Ytfckgfimmoinmaa
