/- The walk of layer nor's statement NorActs: whatever is done to a chip, it is and answers as the document's. -/
import Derived.Test.YtmhkcbdkimnakaaNorDoes2
import Derived.Test.YtmhkcbdkimnakaaNorSame
import Derived.OpenShut
namespace Go.Proofs.Ytmhkcbdkimnakaa
open Go.RowKit Bm
attribute [local go_sem ↓] Go.wp_at_zero Go.wp_at_succ

theorem does_any (w : World) (h : Hd) (r : Rh) (d : ChipM) (k : Nat) (x : ActM) (hc : ChipAt w h d) (hr : RefAt w r d) (n1 : ¬ h.own r.gw) (n2 : ¬ h.own r.ge) (ok : ChipOk k d) (b0 : 0 ≤ x.kind ∧ x.kind ≤ 255) :
    Calls Try.prog 14 #[.pointer (some ⟨h.p, 0, none⟩), refVal r d, actVal x] w (DoesOut w h r (mAct d x)) := by
  unfold mAct
  by_cases h3 : x.kind % 8 = 3
  · rw [if_pos h3]; exact does_erase w h r d k x hc hr n1 n2 ok b0 h3
  · rw [if_neg h3]
    by_cases h4 : x.kind % 8 = 4
    · rw [if_pos h4]; exact does_read w h r d k x hc hr n1 n2 ok b0 h4
    · rw [if_neg h4]
      by_cases h5 : x.kind % 8 = 5
      · rw [if_pos h5]; exact does_fuse w h r d k x hc hr n1 n2 ok b0 h5
      · rw [if_neg h5]
        by_cases h6 : x.kind % 8 = 6
        · rw [if_pos h6]; exact does_cut w h r d k x hc hr n1 n2 ok b0 h6
        · rw [if_neg h6]
          by_cases h7 : x.kind % 8 = 7
          · rw [if_pos h7]; exact does_on w h r d k x hc hr n1 n2 ok b0 h7
          · rw [if_neg h7]; exact does_program w h r d k x hc hr n1 n2 ok b0 ⟨h3, h4, h5, h6, h7⟩

theorem acts_new (n m : Int) (w : World) (k1 : 1 ≤ n) (k2 : n ≤ 4) (e0 : 0 ≤ m) (e1 : m ≤ 3) : Calls Try.prog 12 #[.int .i64 n, .int .i64 m] w (MadeChip w (mNew n.toNat m)) := by
  have e : n = (n.toNat : Int) := by omega
  have := new_yes n.toNat m w (by omega) (by omega) e0 (by omega)
  rw [← e] at this
  exact this
theorem acts_rnew (n m : Int) (w : World) (k1 : 1 ≤ n) (k2 : n ≤ 4) (e0 : 0 ≤ m) (e1 : m ≤ 3) : Calls Try.prog 13 #[.int .i64 n, .int .i64 m] w (RefMade w (mNew n.toNat m)) := by
  have e : n = (n.toNat : Int) := by omega
  have := rnew_yes n.toNat m w (by omega) (by omega) e0 (by omega)
  rw [← e] at this
  exact this
theorem acts_ok (n : Nat) (m : Int) (k1 : 1 ≤ n) (k2 : n ≤ 4) (e0 : 0 ≤ m) (e1 : m ≤ 3) : ChipOk n (mNew n m) := ChipOk.of _ n m (by omega) (by omega) List.length_replicate (by omega) (by omega)

theorem words_reads (h : Hd) (c : ChipM) (w : World) (hc : ChipAt w h c) (h1 : 0 < c.ws.length) (h2 : c.ws.length ≤ 1000000) :
    Calls Try.prog 17 #[.pointer (some ⟨h.p, 0, none⟩)] w fun e w' => ∃ g cap, e = .returned (.slice (some ⟨g, 0, none⟩) c.ws.length cap) ∧ ReadsU w' (some ⟨g, 0, none⟩) c.ws.length cap c.ws ∧ Below w.heap.size w w' := by
  refine (words_any h c w hc h1 h2).mono ?_
  rintro e w2 ⟨g, c2, rest, rfl, hA2, hl2, hm2, hg2, hB2⟩
  exact ⟨g, c2, by rw [Us_length], ReadsU.of_at hA2 hl2 hm2, hB2⟩
theorem wear_at (h : Hd) (c : ChipM) (b : Nat) (w : World) (hc : ChipAt w h c) (hl : c.wear.length ≤ 64) (_hb : b < c.wear.length) :
    Calls Try.prog 18 #[.pointer (some ⟨h.p, 0, none⟩), .int .i64 b] w fun e w' => e = .returned (.int .i64 (nm c.wear b)) ∧ w' = w := by
  have := wear_any h c b w hc hl
  unfold mWear at this
  rw [if_neg (by omega)] at this
  exact this
theorem wear_neg (h : Hd) (c : ChipM) (w : World) (hc : ChipAt w h c) (hl : c.wear.length ≤ 64) :
    Calls Try.prog 18 #[.pointer (some ⟨h.p, 0, none⟩), .int .i64 (-1)] w fun e w' => e = .returned (.int .i64 0) ∧ w' = w := by
  have := wear_any h c (-1) w hc hl
  unfold mWear at this
  rw [if_pos (by omega)] at this
  exact this
theorem wear_past (h : Hd) (c : ChipM) (w : World) (hc : ChipAt w h c) (hl : c.wear.length ≤ 64) :
    Calls Try.prog 18 #[.pointer (some ⟨h.p, 0, none⟩), .int .i64 c.wear.length] w fun e w' => e = .returned (.int .i64 0) ∧ w' = w := by
  have := wear_any h c c.wear.length w hc hl
  unfold mWear at this
  have z : nm c.wear (c.wear.length : Int).toNat = 0 := by simp [nm]
  rw [if_neg (by omega), z] at this
  exact this

set_option maxRecDepth 100000 in
set_option maxHeartbeats 4000000 in
theorem norActs_walk (nn endure : Int) (A : Option Addr) (n cap : Nat) (xs : List ActM) (w : World) (hn0 : 0 ≤ nn) (hn1 : nn ≤ 255) (he0 : 0 ≤ endure) (he1 : endure ≤ 255) (hr : ReadsA w A n cap xs) :
    Calls Try.prog 3 #[.int .u8 nn, .int .u8 endure, .slice A n cap] w fun e w' => e = .returned (.bool true) ∧ Below w.heap.size w w' := by
  have hle := hr.le
  have hmx := hr.max
  unfold maxLen at hmx
  by_cases hn : 60 < n
  · go_enter Try.func3, Try.ntmps3
    go_wp2_with fail
    refine (alive_any w).mono ?_
    rintro e wa ⟨rfl, hBa⟩
    go_wp2
    go_ret
    exact ⟨rfl, hBa⟩
  · have q0 : 0 ≤ nn % 4 := by omega
    have q1 : nn % 4 ≤ 3 := by omega
    have q2 : 0 ≤ endure % 4 := by omega
    have q3 : endure % 4 ≤ 3 := by omega
    go_enter Try.func3, Try.ntmps3
    go_wp2_with fail
    refine (alive_any w).mono ?_
    rintro e wa ⟨rfl, hBa⟩
    go_wp2_with fail
    refine (acts_new _ _ wa (by omega) (by omega) (by omega) (by omega)).mono ?_
    rintro e wn ⟨h, rfl, hc, ho, hB⟩
    have hBn : Below w.heap.size w wn := hBa.trans (hB.mono hBa.size)
    have hon : ∀ i, h.own i → w.heap.size ≤ i := fun i hi => Nat.le_trans hBa.size (ho i hi)
    clear hBa hB ho
    go_wp2_with fail
    refine (acts_rnew _ _ wn (by omega) (by omega) (by omega) (by omega)).mono ?_
    rintro e wm ⟨r, rfl, hrf, hBm, g1, g2⟩
    have ok := acts_ok (1 + nn % 4).toNat (endure % 4) (by omega) (by omega) (by omega) (by omega)
    have hcm : ChipAt wm h (mNew (1 + nn % 4).toNat (endure % 4)) := hc.kept (Turned.of_below hBm (Nat.le_refl _) NoBlock) (fun _ _ h => h)
    have hog : ∀ i, h.own i → i < wn.heap.size := by
      intro i hi
      rcases hi with rfl | rfl | rfl
      · exact hc.own.lt
      · exact hc.words.lt
      · exact hc.wear.lt
    have z1 : ¬ h.own r.gw := fun hh => by have := hog _ hh; omega
    have z2 : ¬ h.own r.ge := fun hh => by have := hog _ hh; omega
    have hB1 : Below w.heap.size w wm := hBn.trans (hBm.mono hBn.size)
    obtain ⟨d0, hd0⟩ : ∃ d0, d0 = mNew (1 + nn % 4).toNat (endure % 4) := ⟨_, rfl⟩
    obtain ⟨k, hk⟩ : ∃ k, k = (1 + nn % 4).toNat := ⟨_, rfl⟩
    have k4 : k ≤ 4 := by omega
    rw [← hd0] at hcm hrf ok ⊢
    rw [← hk] at ok
    clear hd0 hk hc hBm hBn g1 g2 hog q0 q1 q2 q3
    simp only [refVal]
    obtain ⟨P8, hP8⟩ : ∃ P8, P8 = wm.heap.size := ⟨_, rfl⟩
    have hM : At (wm.alloc (.cells (refCells r d0).toArray 30)) P8 30 (refCells r d0) := by rw [hP8]; exact At.news _ _ _
    have p8 : w.heap.size ≤ P8 := by rw [hP8]; exact hB1.size
    have hB2 : Below w.heap.size w (wm.alloc (.cells (refCells r d0).toArray 30)) := hB1.alloc hB1.size _
    have hc2 : ChipAt (wm.alloc (.cells (refCells r d0).toArray 30)) h d0 := hcm.kept ((Turned.refl NoBlock wm).alloc _) (fun _ _ h => h)
    have hr2 : RefAt (wm.alloc (.cells (refCells r d0).toArray 30)) r d0 := hrf.kept ((Turned.refl NoBlock wm).alloc _) (fun h => h) (fun h => h)
    simp only [refCells] at hM hB2 hc2 hr2
    clear hcm hrf hB1
    go_wp2
    rw [← hP8]
    have HP8 := Lib.hid hP8
    clear hP8
    go_loopw [39] (fun i wr => ∃ j : Nat, ∃ d r, j ≤ n ∧ i = .int .i64 j ∧ ChipAt wr h d ∧ RefAt wr r d ∧ ChipOk k d ∧ ¬ h.own r.gw ∧ ¬ h.own r.ge ∧ At wr P8 30 (refCells r d) ∧ Below w.heap.size w wr) (fun i _ => n - (intOf i).toNat)
    case atStart => exact ⟨0, d0, r, by omega, rfl, hc2, hr2, ok, z1, z2, hM, hB2⟩
    case round =>
      clear hM hB2 hc2 hr2 ok z1 z2 HP8
      obtain ⟨j, d, r, hj, rfl, hc, hrf, ok, z1, z2, hM, hB⟩ := hrel
      by_cases hlt : j < n
      · obtain ⟨ad, x, rfl, hx⟩ := (hr.kept hB).at_ hlt
        have b0 := hx.b0
        have b1 := hx.b1
        have x0 := hx.d0
        have x1 := hx.d1
        have x2 := hx.d2
        clear hx
        obtain ⟨P, hP⟩ : ∃ P, P = wr.heap.size := ⟨_, rfl⟩
        have hB1 := hB.alloc hB.size (.cells [.int .u8 x.kind, .int .i64 x.at_, .int .u32 (U x.v)].toArray 33)
        have hc1 : ChipAt (wr.alloc (.cells [.int .u8 x.kind, .int .i64 x.at_, .int .u32 (U x.v)].toArray 33)) h d := hc.kept ((Turned.refl NoBlock wr).alloc _) (fun _ _ h => h)
        have hr1 : RefAt (wr.alloc (.cells [.int .u8 x.kind, .int .i64 x.at_, .int .u32 (U x.v)].toArray 33)) r d := hrf.kept ((Turned.refl NoBlock wr).alloc _) (fun h => h) (fun h => h)
        have hM1 : At (wr.alloc (.cells [.int .u8 x.kind, .int .i64 x.at_, .int .u32 (U x.v)].toArray 33)) P8 30 (refCells r d) := hM.alloc _
        simp only [refCells] at hM1
        have DA := Lib.hid (does_any _ h r d k x hc1 hr1 z1 z2 ok b0)
        obtain ⟨m0, m1, m2, m3, m4, m5⟩ := hM1.all6
        go_wp2_with fail
        refine Calls.mono DA.out ?_
        rintro e w5 ⟨r', rfl, hc5, hr5, hn5, ht5⟩
        have hs1 : (wr.alloc (.cells [.int .u8 x.kind, .int .i64 x.at_, .int .u32 (U x.v)].toArray 33)).heap.size = wr.heap.size + 1 := by simp
        have hog : ∀ i, h.own i → i < wr.heap.size := by
          intro i hi
          rcases hi with rfl | rfl | rfl
          · exact hc.own.lt
          · exact hc.words.lt
          · exact hc.wear.lt
        have z3 : ¬ h.own r'.gw := by
          rcases hn5.1 with e | e
          · intro hh; have := hog _ hh; omega
          · rw [e]; exact z1
        have z4 : ¬ h.own r'.ge := by
          rcases hn5.2 with e | e
          · intro hh; have := hog _ hh; omega
          · rw [e]; exact z2
        have z8 : ¬ h.own P8 := by
          rintro (e | e | e)
          · exact hM.ne hc.own (by decide) e
          · exact hM.ne hc.words (by decide) e
          · exact hM.ne hc.wear (by decide) e
        have ok5 := mAct_ok ok x b1.2
        have hB5 : Below w.heap.size w w5 := hB1.trans (ht5.below hon hB1.size)
        have hM5 := hM1.kept ht5 z8
        obtain ⟨f, hf⟩ : ∃ f, f = mAct d x := ⟨_, rfl⟩
        rw [← hf] at hc5 hr5 ok5 ⊢
        clear hf DA hc hrf hM hB hc1 hr1 hM1 hB1 ok z1 z2 m0 m1 m2 m3 m4 m5 hs1 hog hn5 ht5 x0 x1 x2
        rw [← hP]
        have HP := Lib.hid hP
        clear hP
        simp only [refVal]
        have hcW : ChipAt (w5.alloc (.cells #[.slice (some ⟨r'.gw, 0, none⟩) f.ws.length r'.cw, .slice (some ⟨r'.ge, 0, none⟩) f.wear.length r'.ce, .int .i64 f.endure, .int .i64 f.left, .int .u32 (U f.pick), .bool (!f.up)] 30)) h f := hc5.kept ((Turned.refl NoBlock w5).alloc _) (fun _ _ h => h)
        have hrW : RefAt (w5.alloc (.cells #[.slice (some ⟨r'.gw, 0, none⟩) f.ws.length r'.cw, .slice (some ⟨r'.ge, 0, none⟩) f.wear.length r'.ce, .int .i64 f.endure, .int .i64 f.left, .int .u32 (U f.pick), .bool (!f.up)] 30)) r' f := hr5.kept ((Turned.refl NoBlock w5).alloc _) (fun h => h) (fun h => h)
        have hBW : Below w.heap.size w (w5.alloc (.cells #[.slice (some ⟨r'.gw, 0, none⟩) f.ws.length r'.cw, .slice (some ⟨r'.ge, 0, none⟩) f.wear.length r'.ce, .int .i64 f.endure, .int .i64 f.left, .int .u32 (U f.pick), .bool (!f.up)] 30)) := hB5.alloc hB5.size _
        have hMW := hM5.alloc (.cells #[.slice (some ⟨r'.gw, 0, none⟩) f.ws.length r'.cw, .slice (some ⟨r'.ge, 0, none⟩) f.wear.length r'.ce, .int .i64 f.endure, .int .i64 f.left, .int .u32 (U f.pick), .bool (!f.up)] 30)
        have hNW : At (w5.alloc (.cells #[.slice (some ⟨r'.gw, 0, none⟩) f.ws.length r'.cw, .slice (some ⟨r'.ge, 0, none⟩) f.wear.length r'.ce, .int .i64 f.endure, .int .i64 f.left, .int .u32 (U f.pick), .bool (!f.up)] 30)) w5.heap.size 30 (refCells r' f) := At.news w5 _ _
        simp only [refCells] at hNW
        obtain ⟨c0, c1, c2, c3, c4, c5⟩ := hNW.all6
        obtain ⟨t0, t1, t2, t3, t4, t5⟩ := hMW.thaw6
        obtain ⟨y0, y1, y2, y3, y4, y5⟩ := hMW.all6
        have T6 := (Turned.refl (Just P8) (w5.alloc (.cells #[.slice (some ⟨r'.gw, 0, none⟩) f.ws.length r'.cw, .slice (some ⟨r'.ge, 0, none⟩) f.wear.length r'.ce, .int .i64 f.endure, .int .i64 f.left, .int .u32 (U f.pick), .bool (!f.up)] 30))).six (P := P8) (fun _ => rfl) (.slice (some ⟨r'.gw, 0, none⟩) f.ws.length r'.cw) (.slice (some ⟨r'.ge, 0, none⟩) f.wear.length r'.ce) (.int .i64 f.endure) (.int .i64 f.left) (.int .u32 (U f.pick)) (.bool (!f.up))
        have n8 : r'.gw ≠ P8 := hr5.words.ne hM5 (by decide)
        have n9 : r'.ge ≠ P8 := hr5.wear.ne hM5 (by decide)
        have hc6 := hcW.kept T6 (fun i hi e => by have b : i = P8 := e; exact z8 (b ▸ hi))
        have hr6 := hrW.kept T6 n8 n9
        have hM6 := hMW.six (.slice (some ⟨r'.gw, 0, none⟩) f.ws.length r'.cw) (.slice (some ⟨r'.ge, 0, none⟩) f.wear.length r'.ce) (.int .i64 f.endure) (.int .i64 f.left) (.int .u32 (U f.pick)) (.bool (!f.up))
        have hB6 := hBW.trans (T6.below (fun i hi => by have b : i = P8 := hi; omega) hBW.size)
        obtain ⟨W, hW⟩ : ∃ W, W = six (w5.alloc (.cells #[.slice (some ⟨r'.gw, 0, none⟩) f.ws.length r'.cw, .slice (some ⟨r'.ge, 0, none⟩) f.wear.length r'.ce, .int .i64 f.endure, .int .i64 f.left, .int .u32 (U f.pick), .bool (!f.up)] 30)) P8 (.slice (some ⟨r'.gw, 0, none⟩) f.ws.length r'.cw) (.slice (some ⟨r'.ge, 0, none⟩) f.wear.length r'.ce) (.int .i64 f.endure) (.int .i64 f.left) (.int .u32 (U f.pick)) (.bool (!f.up)) := ⟨_, rfl⟩
        rw [← hW] at hc6 hr6 hM6 hB6
        simp only [six] at hW
        have HW := Lib.hid hW
        clear hW T6 hcW hrW hBW hMW hNW hB5 hM5 hr5 hc5
        go_wp2
        rw [← HW.out]
        clear c0 c1 c2 c3 c4 c5 t0 t1 t2 t3 t4 t5 y0 y1 y2 y3 y4 y5
        have hl5 := ok5.words
        have he5 := ok5.wears
        have k1 := ok5.k1
        have CU := Lib.hid (up_any h f W.drew (hc6.drewN 1))
        have CW := Lib.hid (words_reads h f W.drew (hc6.drewN 1) (by omega) (by omega))
        have KW := Lib.hid (fun (w2 : World) (hB : Below W.drew.heap.size W.drew w2) => (hM6.drew.kept (Turned.of_below hB (Nat.le_refl _) NoBlock) (fun h => h) : At w2 P8 _ _))
        have SW := Lib.hid (fun (w2 : World) (hB : Below W.drew.heap.size W.drew w2) (g cap : Nat) (hg : ReadsU w2 (some ⟨g, 0, none⟩) f.ws.length cap f.ws) => same_words (some ⟨g, 0, none⟩) (some ⟨r'.gw, 0, none⟩) f.ws.length cap r'.cw f.ws w2 hg (ReadsU.of_at (hr6.words.drew.kept (Turned.of_below hB (Nat.le_refl _) NoBlock) (fun h => h)) hr6.wl hr6.wm) (by omega))
        have HL := Lib.hid hl5
        have HE := Lib.hid he5
        clear hl5 he5
        obtain ⟨m0, m1, m2, m3, m4, m5⟩ := hM6.drew.all6
        have u0 : (f.up == !f.up) = false := by cases f.up <;> rfl
        go_region_with (first
          | (go_at_call 15; (with_reducible refine Calls.mono CU.out ?_); rintro e w1 ⟨rfl, rfl⟩)
          | (go_at_call 17; (with_reducible refine Calls.mono CW.out ?_); rintro e w2 ⟨g, cg, rfl, hg, hB2⟩
             obtain ⟨v0, v1, v2, v3, v4, v5⟩ := (KW.out w2 hB2).all6
             have S2 := SW.out w2 hB2 g cg hg)
          | (go_at_call 16; (with_reducible refine Calls.mono S2 ?_); rintro e w3 ⟨rfl, mm, rfl⟩))
        all_goals (try simp only [List.getElem_toArray, List.getElem_cons_succ, List.getElem_cons_zero])
        all_goals (try go_simp)
        all_goals (
          have TB := Turned.of_below hB2 (Nat.le_refl _) NoBlock
          have hcq := ((hc6.drewN 1).kept TB (fun _ _ h => h)).drewN mm
          have hrq := (hr6.kept (((Turned.refl NoBlock W).drew.trans TB).drewN mm) (fun h => h) (fun h => h))
          have hMq := (KW.out w2 hB2).drewN mm
          have hBq : Below w.heap.size w (w2.drewN mm) := hB6.trans ((((Turned.refl NoBlock W).drew.trans TB).drewN mm).below (fun _ h => h.elim) hB6.size)
          obtain ⟨wq, hwq⟩ : ∃ wq, wq = w2.drewN mm := ⟨_, rfl⟩
          rw [← hwq] at hcq hrq hMq hBq ⊢
          clear hwq TB S2 hB2 hg v0 v1 v2 v3 v4 v5 m0 m1 m2 m3 m4 m5 CU CW KW SW hc6 hr6 hM6 hB6
          have HEE := HE.out
          obtain ⟨m0, m1, m2, m3, m4, m5⟩ := hMq.all6
          have i9 : (f.wear.length : Int) ≤ 64 := by have := ok5.k2; omega
          clear HEE
          go_wp2
          go_loopw [71] (fun i wq => ∃ t : Nat, t ≤ f.wear.length ∧ i = .int .i64 t ∧ ChipAt wq h f ∧ RefAt wq r' f ∧ At wq P8 30 (refCells r' f) ∧ Below w.heap.size w wq) (fun i _ => f.wear.length - (intOf i).toNat)
          case atStart => exact ⟨0, by omega, rfl, hcq, hrq, hMq, hBq⟩
          case round =>
            clear hcq hrq hMq hBq m0 m1 m2 m3 m4 m5
            obtain ⟨t, ht, rfl, hcq, hrq, hMq, hBq⟩ := hrel
            by_cases hlt2 : t < f.wear.length
            · have q0 : wr.drew.cell? ⟨r'.ge, t, none⟩ = some (.int .i64 (nm f.wear t)) := hrq.worn t hlt2
              simp only [refCells] at hMq
              obtain ⟨m0, m1, m2, m3, m4, m5⟩ := hMq.drew.all6
              have CE := Lib.hid (wear_at h f t wr.drew (hcq.drewN 1) (by omega) hlt2)
              have i0 : (0 : Int) ≤ (t : Int) := by omega
              have i1 : (t : Int) < (f.wear.length : Int) := by omega
              generalize nm f.wear t = v at q0 CE
              go_wp2
              go_region_with (go_at_call 18; (with_reducible refine Calls.mono CE.out ?_); rintro e w1 ⟨rfl, rfl⟩)
              all_goals (try simp only [List.getElem_toArray, List.getElem_cons_succ, List.getElem_cons_zero])
              all_goals (try go_simp)
              all_goals (
                go_wp2
                go_roundw
                case rel => exact ⟨t + 1, by omega, by go_num, hcq.drewN 1, hrq.kept (Turned.refl NoBlock wr).drew (fun h => h) (fun h => h), hMq.drew, hBq.drew⟩
                case measure => simp [intOf]; omega)
            · obtain rfl : t = f.wear.length := by omega
              go_wp2
              go_roundw
              case rel => exact ⟨j + 1, f, r', by omega, by go_num, hcq, hrq, ok5, z3, z4, hMq, hBq⟩
              case measure => simp [intOf]; omega)
      · obtain rfl : j = n := by omega
        have he5 := ok.wears
        have k2 := ok.k2
        simp only [refCells] at hM
        have CN := Lib.hid (wear_neg h d wr.drew (hc.drewN 1) (by omega))
        have CP := Lib.hid (wear_past h d wr.drew (hc.drewN 1) (by omega))
        have CB := Lib.hid (blocks_any h d wr.drew (hc.drewN 1))
        clear he5
        obtain ⟨m0, m1, m2, m3, m4, m5⟩ := hM.drew.all6
        go_wp2
        go_region_with (first
          | (go_at_call 18; (with_reducible refine Calls.mono CN.out ?_); rintro e w1 ⟨rfl, rfl⟩)
          | (go_at_call 18; (with_reducible refine Calls.mono CP.out ?_); rintro e w1 ⟨rfl, rfl⟩)
          | (go_at_call 19; (with_reducible refine Calls.mono CB.out ?_); rintro e w1 ⟨rfl, rfl⟩))
        all_goals (try simp only [List.getElem_toArray, List.getElem_cons_succ, List.getElem_cons_zero])
        all_goals (try go_simp)
        all_goals (
          go_wp2
          go_ret
          exact ⟨rfl, hB.drew⟩)
end Go.Proofs.Ytmhkcbdkimnakaa
