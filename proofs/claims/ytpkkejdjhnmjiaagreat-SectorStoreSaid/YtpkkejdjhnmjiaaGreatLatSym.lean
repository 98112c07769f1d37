/- The contract of the library's merge, at places (layer latest): a row of one place ahead of another row. | The contract of the library's merge, at places (layer latest): a row of one place behind another row. | The contract of the library's merge, at places (layer latest). | The contract of the library's stable sort, at places (layer latest). | The contract of the library's stable sort at no places (layer latest). | The contract of the library's CompactFunc, at places (layer latest). -/
import Derived.Test.YtpkkejdjhnmjiaaGreatLatSwap
import Derived.Deep.RegionWith
import Derived.Deep.DeepCutAuto
import Derived.Lib.SliceRun
namespace Go.Proofs.YtpkkejdjhnmjiaaGreat
open Go.RowKit Bm
attribute [local go_sem ↓] Go.wp_at_zero Go.wp_at_succ ldPS_eq stP_eq
set_option maxRecDepth 100000 in
set_option maxHeartbeats 4000000 in
theorem symA_any (g n cap a m b : Nat) (xs : List PlM) (rest : List Value) (w : World) (hA : At w g 75 (pls xs ++ rest)) (hn : xs.length = n) (ham : m = a + 1) (hab : m < b) (hb : b ≤ n) (hm : n ≤ 1000000)
    (hl : Srt xs a m) (hr : Srt xs m b) (ho : Bef xs a m b) :
    Calls Tryz.prog 104 #[.slice (some ⟨g, 0, none⟩) n cap, .int .i64 a, .int .i64 m, .int .i64 b, .func (.func 53) #[] #[]] w fun e w' => e = .returned (.tuple #[]) ∧ ∃ ys, Mix a b xs ys ∧ Srt ys a b ∧ At w' g 75 (pls ys ++ rest) ∧ Turned (Just g) w w' := by
  have HN := Lib.hid hn
  have HA := Lib.hid hA
  have HO := Lib.hid ho
  have HL := Lib.hid hl
  have HR := Lib.hid hr
  have CM := Lib.hid cmp_any
  have hab' : (m : Int) < (b : Int) := by omega
  have ham' : (a : Int) < (m : Int) := by omega
  have hb' : (b : Int) ≤ (n : Int) := by omega
  have hm' : (n : Int) ≤ 1000000 := by omega
  have d1 : (m : Int) - (a : Int) = 1 := by omega
  have HM1 := Lib.hid ham
  clear ham hn hA ho hl hr
  go_enter Tryz.func104, Tryz.ntmps104
  go_wp2
  go_loopg [10, 11] (b - m) (fun gh i j wr => ∃ (p q : Nat), m ≤ p ∧ p ≤ q ∧ q ≤ b ∧ gh = q - p ∧ i = .int .i64 p ∧ j = .int .i64 q ∧ Below w.heap.size w wr ∧ (∀ k, m ≤ k → k < p → LtP (plN xs k) (plN xs a)) ∧ (∀ k, q ≤ k → k < b → LtP (plN xs a) (plN xs k)))
  case atStart => exact ⟨m, b, by omega, by omega, by omega, rfl, rfl, rfl, Below.refl _ _, fun k h1 h2 => by omega, fun k h1 h2 => by omega⟩
  case round =>
    obtain ⟨p, q, hp, hpq, hqb, rfl, rfl, rfl, hB, h1, h2⟩ := hrel
    have HB := Lib.hid hB
    have H1 := Lib.hid h1
    have H2 := Lib.hid h2
    clear hB h1 h2
    by_cases hlt : p < q
    · have hlt' : (p : Int) < (q : Int) := by omega
      have hqb' : (q : Int) ≤ (b : Int) := by omega
      have hp' : (0 : Int) ≤ (p : Int) := by omega
      obtain ⟨h, hh⟩ : ∃ h : Nat, ((p : Int) + (q : Int)) / 2 = (h : Int) := ⟨((p + q) / 2 : Nat), by omega⟩
      have hh1 : p ≤ h := by omega
      have hh2 : h < q := by omega
      have hn1 : (h : Int) < (n : Int) := by omega
      have hn2 : (0 : Int) ≤ (h : Int) := by omega
      have hn3 : (a : Int) < (n : Int) := by omega
      have hn4 : (0 : Int) ≤ (a : Int) := by omega
      obtain ⟨x, hx⟩ : ∃ x, x = plN xs h := ⟨_, rfl⟩
      obtain ⟨y, hy⟩ : ∃ y, y = plN xs a := ⟨_, rfl⟩
      have hA1 : At wr g 75 (pls xs ++ rest) := HA.out.kept (Turned.of_below HB.out (Nat.le_refl _) NoBlock) (fun h => h)
      have rx := hA1.place (j := h) (by have := HN.out; omega)
      have ry := hA1.place (j := a) (by have := HN.out; omega)
      rw [← hx] at rx
      rw [← hy] at ry
      have HX := Lib.hid hx
      have HY := Lib.hid hy
      have HRX := Lib.hid rx
      have HRY := Lib.hid ry
      have HG := Lib.hid hA1.lt
      have lx : ∀ W, Below wr.heap.size wr W → (op_ex (ldB 75) (.pointer (some ⟨g, h * 9, none⟩)) W).choose = .ok (.value (.agg (plC x).toArray)) W := fun W hW => ldP_at (range_kept HRX.out (hW.block g HG.out))
      have ly : ∀ W, Below wr.heap.size wr W → (op_ex (ldB 75) (.pointer (some ⟨g, a * 9, none⟩)) W).choose = .ok (.value (.agg (plC y).toArray)) W := fun W hW => ldP_at (range_kept HRY.out (hW.block g HG.out))
      clear hx hy rx ry hA1
      by_cases hc : cmpP x y < 0
      · have HC := Lib.hid (lt_of_cmp hc)
        go_wp2_with fail
        go_region_held3 (fun W => Below wr.heap.size wr W) (first | assumption | exact (Below.refl _ wr).drew) (first
          | (go_at_call 53; (refine (CM.out x y _).mono ?_); rintro e v1 ⟨rfl, hb⟩; have S1 := Below.trans (by assumption) (hb.mono (Below.size (by assumption))); clear hb))
        have S3 : Below wr.heap.size wr v1 := by assumption
        have HB3 := Lib.hid (HB.out.trans (S3.mono HB.out.size))
        clear lx ly S3
        go_wp2
        go_roundg (q - (h + 1))
        case measure => omega
        case rel => exact ⟨h + 1, q, by omega, by omega, hqb, rfl, by go_num, rfl, HB3.out, fun k h1 h2 => by
          by_cases e : k = h
          · rw [e, ← HX.out, ← HY.out]; exact HC.out
          · have hk : LtP (plN xs k) x := by rw [HX.out]; exact HR.out k h h1 (by omega) (by omega)
            rw [← HY.out]; exact hk.trans HC.out, H2.out⟩
      · have HC : Hid (LtP y x) := Lib.hid (lt_of_not (by rw [HX.out, HY.out]; exact HO.out a h (Nat.le_refl _) (by omega) (by omega) (by omega)) hc)
        go_wp2_with fail
        go_region_held3 (fun W => Below wr.heap.size wr W) (first | assumption | exact (Below.refl _ wr).drew) (first
          | (go_at_call 53; (refine (CM.out x y _).mono ?_); rintro e v1 ⟨rfl, hb⟩; have S1 := Below.trans (by assumption) (hb.mono (Below.size (by assumption))); clear hb))
        have S3 : Below wr.heap.size wr v1 := by assumption
        have HB3 := Lib.hid (HB.out.trans (S3.mono HB.out.size))
        clear lx ly S3
        go_wp2
        go_roundg (h - p)
        case measure => omega
        case rel => exact ⟨p, h, hp, hh1, by omega, rfl, rfl, by go_num, HB3.out, H1.out, fun k h1 h2 => by
          by_cases e : k = h
          · rw [e, ← HX.out, ← HY.out]; exact HC.out
          · have hk : LtP x (plN xs k) := by rw [HX.out]; exact HR.out h k (by omega) (by omega) h2
            rw [← HY.out]; exact HC.out.trans hk⟩
    · obtain rfl : p = q := by omega
      have hA1 : At wr g 75 (pls xs ++ rest) := HA.out.kept (Turned.of_below HB.out (Nat.le_refl _) NoBlock) (fun h => h)
      have HAt := Lib.hid hA1
      have HT0 := Lib.hid (Turned.of_below HB.out (Nat.le_refl _) (Just g))
      have hp' : (m : Int) ≤ (p : Int) := by omega
      have hpb' : (p : Int) ≤ (b : Int) := by omega
      have HSP := Lib.hid (Split.one_low (xs := xs) (b := b) HM1.out ⟨hp, hqb⟩ H1.out)
      clear hA1
      go_wp2
      go_loopg [13] (p - 1 - a) (fun gh i wr => ∃ (k : Nat) (ys : List PlM), a ≤ k ∧ k + 1 ≤ p ∧ gh = p - 1 - k ∧ i = .int .i64 k ∧ Rot xs ys a m (k + 1) ∧ At wr g 75 (pls ys ++ rest) ∧ Turned (Just g) w wr)
      case atStart => exact ⟨a, xs, by omega, by have := HM1.out; omega, rfl, rfl, Rot.none (by omega) (by have := HM1.out; omega) (.inr HM1.out.symm), HAt.out, HT0.out⟩
      case round =>
        obtain ⟨k, ys, hak, hkp, rfl, rfl, hr, hA, hT⟩ := hrel
        by_cases hlt2 : k + 1 < p
        · have hl : ys.length = n := hr.len.trans HN.out
          obtain ⟨W1, W2, l1, l2, s1, s2, hA2, hT2⟩ := swap_at hA.drew (i := k) (j := k + 1) (by omega) (by omega)
          have HS := Lib.hid (Rot.up_of HM1.out hr hak (by have := HN.out; omega))
          have HA2 := Lib.hid hA2
          have HT := Lib.hid (hT.drew.trans hT2)
          clear hr hA2 hA hT hT2 hl
          obtain ⟨x, hx⟩ : ∃ x, x = plN ys k := ⟨_, rfl⟩
          obtain ⟨y, hy⟩ : ∃ y, y = plN ys (k + 1) := ⟨_, rfl⟩
          rw [← hx] at l1 s2
          rw [← hy] at l2 s1
          clear hx hy
          have e1 : ((k : Int) + 1).toNat = k + 1 := by omega
          have f1 : (0 : Int) ≤ (k : Int) := by omega
          have f2 : (0 : Int) ≤ (k : Int) + 1 := by omega
          have f3 : (k : Int) < (n : Int) := by omega
          have f4 : (k : Int) + 1 < (n : Int) := by omega
          have i0 : (k : Int) < (p : Int) - 1 := by omega
          go_wp2_with fail
          go_big_region
          all_goals
            go_wp2
            go_roundg (p - 1 - (k + 1))
            case measure => omega
            case rel => exact ⟨k + 1, _, by omega, by omega, rfl, by go_num, HS.out, HA2.out, HT.out⟩
        · obtain rfl : k + 1 = p := by omega
          have i0 : ¬ (k : Int) < ((k + 1 : Nat) : Int) - 1 := by omega
          have HS := Lib.hid (HSP.out.sorted_low HL.out HR.out hr HM1.out H2.out)
          have HM := Lib.hid (HSP.out.mix hr)
          have HAe := Lib.hid hA
          have HTe := Lib.hid hT
          clear hr hA hT
          go_wp2
          refine bodyPost_ret (results_none rfl _ _ _) rfl ?_
          exact ⟨rfl, ys, HM.out, HS.out, HAe.out, HTe.out⟩
end Go.Proofs.YtpkkejdjhnmjiaaGreat
namespace Go.Proofs.YtpkkejdjhnmjiaaGreat
open Go.RowKit Bm
attribute [local go_sem ↓] Go.wp_at_zero Go.wp_at_succ ldPS_eq stP_eq
set_option maxRecDepth 100000 in
set_option maxHeartbeats 4000000 in
theorem symB_any (g n cap a m b : Nat) (xs : List PlM) (rest : List Value) (w : World) (hA : At w g 75 (pls xs ++ rest)) (hn : xs.length = n) (hbm : b = m + 1) (hab : a + 1 < m) (hb : b ≤ n) (hm : n ≤ 1000000)
    (hl : Srt xs a m) (hr : Srt xs m b) (ho : Bef xs a m b) :
    Calls Tryz.prog 104 #[.slice (some ⟨g, 0, none⟩) n cap, .int .i64 a, .int .i64 m, .int .i64 b, .func (.func 53) #[] #[]] w fun e w' => e = .returned (.tuple #[]) ∧ ∃ ys, Mix a b xs ys ∧ Srt ys a b ∧ At w' g 75 (pls ys ++ rest) ∧ Turned (Just g) w w' := by
  have HN := Lib.hid hn
  have HA := Lib.hid hA
  have HO := Lib.hid ho
  have HL := Lib.hid hl
  have HR := Lib.hid hr
  have CM := Lib.hid cmp_any
  have hab' : (a : Int) + 1 < (m : Int) := by omega
  have hmb' : (m : Int) < (b : Int) := by omega
  have hb' : (b : Int) ≤ (n : Int) := by omega
  have hm' : (n : Int) ≤ 1000000 := by omega
  have d0 : ((m : Int) - (a : Int) == 1) = false := by rw [beq_eq_false_iff_ne]; omega
  have d1 : (b : Int) - (m : Int) = 1 := by omega
  have HM1 := Lib.hid hbm
  clear hbm hn hA ho hl hr
  go_enter Tryz.func104, Tryz.ntmps104
  go_wp2
  go_loopg [14, 15] (m - a) (fun gh i j wr => ∃ (p q : Nat), a ≤ p ∧ p ≤ q ∧ q ≤ m ∧ gh = q - p ∧ i = .int .i64 p ∧ j = .int .i64 q ∧ Below w.heap.size w wr ∧ (∀ k, a ≤ k → k < p → LtP (plN xs k) (plN xs m)) ∧ (∀ k, q ≤ k → k < m → LtP (plN xs m) (plN xs k)))
  case atStart => exact ⟨a, m, by omega, by omega, by omega, rfl, rfl, rfl, Below.refl _ _, fun k h1 h2 => by omega, fun k h1 h2 => by omega⟩
  case round =>
    obtain ⟨p, q, hp, hpq, hqb, rfl, rfl, rfl, hB, h1, h2⟩ := hrel
    have HB := Lib.hid hB
    have H1 := Lib.hid h1
    have H2 := Lib.hid h2
    clear hB h1 h2
    by_cases hlt : p < q
    · have hlt' : (p : Int) < (q : Int) := by omega
      have hqb' : (q : Int) ≤ (m : Int) := by omega
      have hp' : (a : Int) ≤ (p : Int) := by omega
      obtain ⟨h, hh⟩ : ∃ h : Nat, ((p : Int) + (q : Int)) / 2 = (h : Int) := ⟨((p + q) / 2 : Nat), by omega⟩
      have hh1 : p ≤ h := by omega
      have hh2 : h < q := by omega
      have hn1 : (h : Int) < (n : Int) := by omega
      have hn2 : (0 : Int) ≤ (h : Int) := by omega
      have hn3 : (m : Int) < (n : Int) := by omega
      have hn4 : (0 : Int) ≤ (m : Int) := by omega
      obtain ⟨x, hx⟩ : ∃ x, x = plN xs m := ⟨_, rfl⟩
      obtain ⟨y, hy⟩ : ∃ y, y = plN xs h := ⟨_, rfl⟩
      have hA1 : At wr g 75 (pls xs ++ rest) := HA.out.kept (Turned.of_below HB.out (Nat.le_refl _) NoBlock) (fun h => h)
      have rx := hA1.place (j := m) (by have := HN.out; omega)
      have ry := hA1.place (j := h) (by have := HN.out; omega)
      rw [← hx] at rx
      rw [← hy] at ry
      have HX := Lib.hid hx
      have HY := Lib.hid hy
      have HRX := Lib.hid rx
      have HRY := Lib.hid ry
      have HG := Lib.hid hA1.lt
      have lx : ∀ W, Below wr.heap.size wr W → (op_ex (ldB 75) (.pointer (some ⟨g, m * 9, none⟩)) W).choose = .ok (.value (.agg (plC x).toArray)) W := fun W hW => ldP_at (range_kept HRX.out (hW.block g HG.out))
      have ly : ∀ W, Below wr.heap.size wr W → (op_ex (ldB 75) (.pointer (some ⟨g, h * 9, none⟩)) W).choose = .ok (.value (.agg (plC y).toArray)) W := fun W hW => ldP_at (range_kept HRY.out (hW.block g HG.out))
      clear hx hy rx ry hA1
      by_cases hc : cmpP x y < 0
      · have HC := Lib.hid (lt_of_cmp hc)
        have hcd : decide (cmpP x y < 0) = true := decide_eq_true hc
        clear hc
        go_wp2_with fail
        go_region_held3 (fun W => Below wr.heap.size wr W) (first | assumption | exact (Below.refl _ wr).drew) (first
          | (go_at_call 53; (refine (CM.out x y _).mono ?_); rintro e v1 ⟨rfl, hb⟩; have S1 := Below.trans (by assumption) (hb.mono (Below.size (by assumption))); clear hb))
        have S3 : Below wr.heap.size wr v1 := by assumption
        have HB3 := Lib.hid (HB.out.trans (S3.mono HB.out.size))
        clear lx ly S3
        go_wp2
        go_roundg (h - p)
        case measure => omega
        case rel => exact ⟨p, h, hp, hh1, by omega, rfl, rfl, by go_num, HB3.out, H1.out, fun k h1 h2 => by
          by_cases e : k = h
          · rw [e, ← HX.out, ← HY.out]; exact HC.out
          · have hk : LtP y (plN xs k) := by rw [HY.out]; exact HL.out h k (by omega) (by omega) h2
            rw [← HX.out]; exact HC.out.trans hk⟩
      · have HC : Hid (LtP y x) := Lib.hid (lt_of_not (by rw [HX.out, HY.out]; exact HO.out h m (by omega) (by omega) (by omega) (by omega)) hc)
        have hcd : decide (cmpP x y < 0) = false := decide_eq_false hc
        clear hc
        go_wp2_with fail
        go_region_held3 (fun W => Below wr.heap.size wr W) (first | assumption | exact (Below.refl _ wr).drew) (first
          | (go_at_call 53; (refine (CM.out x y _).mono ?_); rintro e v1 ⟨rfl, hb⟩; have S1 := Below.trans (by assumption) (hb.mono (Below.size (by assumption))); clear hb))
        have S3 : Below wr.heap.size wr v1 := by assumption
        have HB3 := Lib.hid (HB.out.trans (S3.mono HB.out.size))
        clear lx ly S3
        go_wp2
        go_roundg (q - (h + 1))
        case measure => omega
        case rel => exact ⟨h + 1, q, by omega, by omega, hqb, rfl, by go_num, rfl, HB3.out, fun k h1 h2 => by
          by_cases e : k = h
          · rw [e, ← HX.out, ← HY.out]; exact HC.out
          · have hk : LtP (plN xs k) y := by rw [HY.out]; exact HL.out k h h1 (by omega) (by omega)
            rw [← HX.out]; exact hk.trans HC.out, H2.out⟩
    · obtain rfl : p = q := by omega
      have hA1 : At wr g 75 (pls xs ++ rest) := HA.out.kept (Turned.of_below HB.out (Nat.le_refl _) NoBlock) (fun h => h)
      have HAt := Lib.hid hA1
      have HT0 := Lib.hid (Turned.of_below HB.out (Nat.le_refl _) (Just g))
      have hp' : (p : Int) ≤ (m : Int) := by omega
      have HSP := Lib.hid (Split.one_high (xs := xs) (a := a) HM1.out ⟨hp, hqb⟩ H2.out)
      clear hA1
      go_wp2
      go_loopg [17] (m - p) (fun gh i wr => ∃ (k : Nat) (ys : List PlM), p ≤ k ∧ k ≤ m ∧ gh = k - p ∧ i = .int .i64 k ∧ Rot xs ys k m b ∧ At wr g 75 (pls ys ++ rest) ∧ Turned (Just g) w wr)
      case atStart => exact ⟨m, xs, by omega, by omega, rfl, rfl, Rot.none (by omega) (by have := HM1.out; omega) (.inl rfl), HAt.out, HT0.out⟩
      case round =>
        obtain ⟨k, ys, hak, hkp, rfl, rfl, hr, hA, hT⟩ := hrel
        by_cases hlt2 : p < k
        · obtain ⟨k, rfl⟩ : ∃ k', k = k' + 1 := ⟨k - 1, by omega⟩
          have hl : ys.length = n := hr.len.trans HN.out
          obtain ⟨W1, W2, l1, l2, s1, s2, hA2, hT2⟩ := swap_at hA.drew (i := k + 1) (j := k) (by omega) (by omega)
          have HS := Lib.hid (Rot.down_of HM1.out hr (by omega) (by have := HN.out; omega))
          have HA2 := Lib.hid hA2
          have HT := Lib.hid (hT.drew.trans hT2)
          clear hr hA2 hA hT hT2 hl
          obtain ⟨x, hx⟩ : ∃ x, x = plN ys (k + 1) := ⟨_, rfl⟩
          obtain ⟨y, hy⟩ : ∃ y, y = plN ys k := ⟨_, rfl⟩
          rw [← hx] at l1 s2
          rw [← hy] at l2 s1
          clear hx hy
          have e1 : ((k : Int) + 1).toNat = k + 1 := by omega
          have f1 : (0 : Int) ≤ (k : Int) := by omega
          have f2 : (0 : Int) ≤ (k : Int) + 1 := by omega
          have f3 : (k : Int) < (n : Int) := by omega
          have f4 : (k : Int) + 1 < (n : Int) := by omega
          have i0 : (p : Int) < (k : Int) + 1 := by omega
          have hwp : IntKind.i64.wrap (k : Int) = (k : Int) := by rw [IntKind.wrap_i64]; omega
          go_wp2_with fail
          go_big_region
          all_goals
            go_wp2
            go_roundg (k - p)
            case measure => omega
            case rel => exact ⟨k, _, by omega, by omega, rfl, by go_num, HS.out, HA2.out, HT.out⟩
        · obtain rfl : k = p := by omega
          have HS := Lib.hid (HSP.out.sorted_high HL.out HR.out hr HM1.out H1.out)
          have HM := Lib.hid (HSP.out.mix hr)
          have HAe := Lib.hid hA
          have HTe := Lib.hid hT
          clear hr hA hT
          go_wp2
          refine bodyPost_ret (results_none rfl _ _ _) rfl ?_
          exact ⟨rfl, ys, HM.out, HS.out, HAe.out, HTe.out⟩
end Go.Proofs.YtpkkejdjhnmjiaaGreat
namespace Go.Proofs.YtpkkejdjhnmjiaaGreat
open Go.RowKit Bm
attribute [local go_sem ↓] Go.wp_at_zero Go.wp_at_succ ldPS_eq stP_eq
section
variable {xs ys zs : List PlM} {a s m e b mid : Nat}
theorem Split.no_left (h : Split xs a s m e b) (hl : Srt xs a m) (hr : Srt xs m b) (hy : Rot xs ys s m e) (hm : s + (e - m) = mid) (hn : ¬ (a < s ∧ s < mid)) : Srt ys a mid := by
  obtain ⟨r1, r2, _, _⟩ := h.rows hl hr hy
  have hle := h.le
  rw [hm] at r2
  by_cases e1 : a < s
  · obtain rfl : mid = s := by omega
    exact r1
  · obtain rfl : s = a := by omega
    exact r2
theorem Split.no_right (h : Split xs a s m e b) (hl : Srt xs a m) (hr : Srt xs m b) (hy : Rot xs ys s m e) (hm : s + (e - m) = mid) (hz : Mix a mid ys zs) (hn : ¬ (mid < e ∧ e < b)) : Srt zs mid b := by
  obtain ⟨_, _, r3, r4⟩ := h.rows hl hr hy
  have hle := h.le
  rw [hm] at r3
  by_cases e1 : mid < e
  · obtain rfl : e = b := by omega
    exact r3.out hz (.inr (Nat.le_refl _))
  · obtain rfl : mid = e := by omega
    exact r4.out hz (.inr (Nat.le_refl _))
end
def SymSays (g n cap : Nat) (rest : List Value) (d : Nat) : Prop :=
  ∀ (a m b : Nat) (xs : List PlM) (w : World), b - a ≤ d → At w g 75 (pls xs ++ rest) → xs.length = n → a < m → m < b → b ≤ n → Srt xs a m → Srt xs m b → Bef xs a m b →
    Calls Tryz.prog 104 #[.slice (some ⟨g, 0, none⟩) n cap, .int .i64 a, .int .i64 m, .int .i64 b, .func (.func 53) #[] #[]] w fun e w' => e = .returned (.tuple #[]) ∧ ∃ ys, Mix a b xs ys ∧ Srt ys a b ∧ At w' g 75 (pls ys ++ rest) ∧ Turned (Just g) w w'
set_option maxRecDepth 100000 in
set_option maxHeartbeats 8000000 in
theorem symC_any (g n cap d : Nat) (rest : List Value) (IH : SymSays g n cap rest d) (a m b : Nat) (xs : List PlM) (w : World) (hd : b - a ≤ d + 1) (hA : At w g 75 (pls xs ++ rest)) (hn : xs.length = n) (ham : a + 1 < m) (hmb : m + 1 < b) (hb : b ≤ n) (hm : n ≤ 1000000)
    (hl : Srt xs a m) (hr : Srt xs m b) (ho : Bef xs a m b) :
    Calls Tryz.prog 104 #[.slice (some ⟨g, 0, none⟩) n cap, .int .i64 a, .int .i64 m, .int .i64 b, .func (.func 53) #[] #[]] w fun e w' => e = .returned (.tuple #[]) ∧ ∃ ys, Mix a b xs ys ∧ Srt ys a b ∧ At w' g 75 (pls ys ++ rest) ∧ Turned (Just g) w w' := by
  have HN := Lib.hid hn
  have HA := Lib.hid hA
  have HO := Lib.hid ho
  have HL := Lib.hid hl
  have HR := Lib.hid hr
  have HIH := Lib.hid IH
  have CM := Lib.hid cmp_any
  have ham' : (a : Int) + 1 < (m : Int) := by omega
  have hmb' : (m : Int) + 1 < (b : Int) := by omega
  have hb' : (b : Int) ≤ (n : Int) := by omega
  have hm' : (n : Int) ≤ 1000000 := by omega
  have d0 : ((m : Int) - (a : Int) == 1) = false := by rw [beq_eq_false_iff_ne]; omega
  have d1 : ((b : Int) - (m : Int) == 1) = false := by rw [beq_eq_false_iff_ne]; omega
  obtain ⟨mid, hmid⟩ : ∃ k : Nat, ((a : Int) + (b : Int)) / 2 = (k : Int) := ⟨((a + b) / 2 : Nat), by omega⟩
  have HMD : Hid (mid = (a + b) / 2) := Lib.hid (by omega)
  have hmid1 : (a : Int) + 1 < (mid : Int) := by omega
  have hmid2 : (mid : Int) + 1 < (b : Int) := by omega
  clear hn hA ho hl hr IH
  go_enter Tryz.func104, Tryz.ntmps104
  go_upto_if 140 with fail
  go_cut [20, 21] (fun s20 s21 wx => ∃ lo hi : Nat, s20 = .int .i64 lo ∧ s21 = .int .i64 hi ∧ wx = w ∧ Hid ((m ≤ mid ∧ lo = a ∧ hi = m) ∨ (mid < m ∧ lo = mid + m - b ∧ hi = mid)))
  case first =>
    by_cases h1 : mid < m
    · have h1' : (mid : Int) < (m : Int) := by omega
      obtain ⟨lo, hlo⟩ : ∃ k : Nat, (mid : Int) + (m : Int) - (b : Int) = (k : Int) := ⟨(mid + m - b : Nat), by omega⟩
      have HLO : Hid (lo = mid + m - b) := Lib.hid (by omega)
      go_wp2
      go_meet
      exact ⟨lo, mid, rfl, rfl, rfl, Lib.hid (.inr ⟨h1, HLO.out, rfl⟩)⟩
    · have h1' : ¬ (mid : Int) < (m : Int) := by omega
      go_wp2
      go_meet
      exact ⟨a, m, rfl, rfl, rfl, Lib.hid (.inl ⟨by omega, rfl, rfl⟩)⟩
  case rest =>
    obtain ⟨lo, hi, rfl, rfl, rfl, HC⟩ := hcut
    have hlo : a ≤ lo ∧ lo ≤ hi ∧ hi ≤ m := by have := HC.out; have := HMD.out; omega
    have HLH := Lib.hid hlo
    clear hlo
    go_wp2
    go_loopg [20, 21] (hi - lo) (fun gh i j wr => ∃ (p q : Nat), lo ≤ p ∧ p ≤ q ∧ q ≤ hi ∧ gh = q - p ∧ i = .int .i64 p ∧ j = .int .i64 q ∧ Below wc.heap.size wc wr ∧ (∀ c, lo ≤ c → c < p → LtP (plN xs c) (plN xs (mid + m - 1 - c))) ∧ (∀ c, q ≤ c → c < hi → LtP (plN xs (mid + m - 1 - c)) (plN xs c)))
    case atStart => exact ⟨lo, hi, by omega, HLH.out.2.1, by omega, rfl, rfl, rfl, Below.refl _ _, fun k h1 h2 => by omega, fun k h1 h2 => by omega⟩
    case round =>
      obtain ⟨p, q, hp, hpq, hqb, rfl, rfl, rfl, hB, h1, h2⟩ := hrel
      have HB := Lib.hid hB
      have H1 := Lib.hid h1
      have H2 := Lib.hid h2
      clear hB h1 h2
      by_cases hlt : p < q
      · have hlt' : (p : Int) < (q : Int) := by omega
        have hqb' : (q : Int) ≤ (m : Int) := by have := HLH.out; omega
        have hp' : (a : Int) ≤ (p : Int) := by have := HLH.out; omega
        obtain ⟨h, hh⟩ : ∃ h : Nat, ((p : Int) + (q : Int)) / 2 = (h : Int) := ⟨((p + q) / 2 : Nat), by omega⟩
        have hh1 : p ≤ h := by omega
        have hh2 : h < q := by omega
        have hh3 : lo ≤ h ∧ h < hi := by omega
        obtain ⟨t, ht⟩ : ∃ t : Nat, (mid : Int) + (m : Int) - 1 - (h : Int) = (t : Int) := ⟨(mid + m - 1 - h : Nat), by have := HLH.out; omega⟩
        have ht0 : mid + m - 1 - h = t := by omega
        have ht1 : m ≤ t ∧ t < b := by have := HC.out; have := HLH.out; have := HMD.out; omega
        have hh4 : a ≤ h ∧ h < m := by have := HLH.out; omega
        have HT0 := Lib.hid ht0
        have hn1 : (h : Int) < (n : Int) := by omega
        have hn2 : (0 : Int) ≤ (h : Int) := by omega
        have hn3 : (t : Int) < (n : Int) := by omega
        have hn4 : (0 : Int) ≤ (t : Int) := by omega
        have hwt : IntKind.i64.wrap (t : Int) = (t : Int) := by rw [IntKind.wrap_i64]; omega
        obtain ⟨x, hx⟩ : ∃ x, x = plN xs t := ⟨_, rfl⟩
        obtain ⟨y, hy⟩ : ∃ y, y = plN xs h := ⟨_, rfl⟩
        have hA1 : At wr g 75 (pls xs ++ rest) := HA.out.kept (Turned.of_below HB.out (Nat.le_refl _) NoBlock) (fun h => h)
        have rx := hA1.place (j := t) (by have := HN.out; omega)
        have ry := hA1.place (j := h) (by have := HN.out; omega)
        rw [← hx] at rx
        rw [← hy] at ry
        have HX := Lib.hid hx
        have HY := Lib.hid hy
        have HRX := Lib.hid rx
        have HRY := Lib.hid ry
        have HG := Lib.hid hA1.lt
        have lx : ∀ W, Below wr.heap.size wr W → (op_ex (ldB 75) (.pointer (some ⟨g, t * 9, none⟩)) W).choose = .ok (.value (.agg (plC x).toArray)) W := fun W hW => ldP_at (range_kept HRX.out (hW.block g HG.out))
        have ly : ∀ W, Below wr.heap.size wr W → (op_ex (ldB 75) (.pointer (some ⟨g, h * 9, none⟩)) W).choose = .ok (.value (.agg (plC y).toArray)) W := fun W hW => ldP_at (range_kept HRY.out (hW.block g HG.out))
        have HLA : Hid (∀ c, c < h → lo ≤ c → LtP (plN xs c) y ∧ LtP x (plN xs (mid + m - 1 - c))) := Lib.hid fun c c1 c2 => by
          rw [HX.out, HY.out]
          have := HLH.out
          have := HC.out
          exact ⟨HL.out c h (by omega) c1 (by omega), HR.out t _ (by omega) (by omega) (by omega)⟩
        have HLB : Hid (∀ c, h < c → c < hi → LtP y (plN xs c) ∧ LtP (plN xs (mid + m - 1 - c)) x) := Lib.hid fun c c1 c2 => by
          rw [HX.out, HY.out]
          have := HLH.out
          have := HC.out
          exact ⟨HL.out h c (by omega) c1 (by omega), HR.out _ t (by omega) (by omega) (by omega)⟩
        clear hx hy rx ry hA1 ht0
        by_cases hc : cmpP x y < 0
        · have HCC := Lib.hid (lt_of_cmp hc)
          have hcd : decide (cmpP x y < 0) = true := decide_eq_true hc
          clear hc
          go_wp2_with fail
          go_region_held3 (fun W => Below wr.heap.size wr W) (first | assumption | exact (Below.refl _ wr).drew) (first
            | (go_at_call 53; (refine (CM.out x y _).mono ?_); rintro e v1 ⟨rfl, hb⟩; have S1 := Below.trans (by assumption) (hb.mono (Below.size (by assumption))); clear hb))
          have S3 : Below wr.heap.size wr v1 := by assumption
          have HB3 := Lib.hid (HB.out.trans (S3.mono HB.out.size))
          clear lx ly S3
          go_wp2
          go_roundg (h - p)
          case measure => omega
          case rel => exact ⟨p, h, hp, hh1, by omega, rfl, rfl, by go_num, HB3.out, H1.out, fun c c1 c2 => by
            by_cases e : c = h
            · rw [e, HT0.out, ← HX.out, ← HY.out]; exact HCC.out
            · obtain ⟨k1, k2⟩ := HLB.out c (by omega) c2
              exact (k2.trans HCC.out).trans k1⟩
        · have HCC : Hid (LtP y x) := Lib.hid (lt_of_not (by rw [HX.out, HY.out]; exact HO.out h t (by omega) (by omega) (by omega) (by omega)) hc)
          have hcd : decide (cmpP x y < 0) = false := decide_eq_false hc
          clear hc
          go_wp2_with fail
          go_region_held3 (fun W => Below wr.heap.size wr W) (first | assumption | exact (Below.refl _ wr).drew) (first
            | (go_at_call 53; (refine (CM.out x y _).mono ?_); rintro e v1 ⟨rfl, hb⟩; have S1 := Below.trans (by assumption) (hb.mono (Below.size (by assumption))); clear hb))
          have S3 : Below wr.heap.size wr v1 := by assumption
          have HB3 := Lib.hid (HB.out.trans (S3.mono HB.out.size))
          clear lx ly S3
          go_wp2
          go_roundg (q - (h + 1))
          case measure => omega
          case rel => exact ⟨h + 1, q, by omega, by omega, hqb, rfl, by go_num, rfl, HB3.out, fun c c1 c2 => by
            by_cases e : c = h
            · rw [e, HT0.out, ← HX.out, ← HY.out]; exact HCC.out
            · obtain ⟨k1, k2⟩ := HLA.out c (by omega) c1
              exact (k1.trans HCC.out).trans k2, H2.out⟩
      · obtain rfl : p = q := by omega
        obtain ⟨e, he⟩ : ∃ t : Nat, (mid : Int) + (m : Int) - (p : Int) = (t : Int) := ⟨(mid + m - p : Nat), by have := HLH.out; omega⟩
        have he0 : e = mid + m - p := by omega
        have SP : Split xs a p m e b := by rw [he0]; exact Split.found (by omega) (by omega) HL.out HR.out HC.out HMD.out ⟨hp, hqb⟩ H1.out H2.out
        have hle := SP.le
        have hsm : p + (e - m) = mid := by omega
        have HSP := Lib.hid SP
        have HSM := Lib.hid hsm
        have HAt : Hid (At wr g 75 (pls xs ++ rest)) := Lib.hid (HA.out.kept (Turned.of_below HB.out (Nat.le_refl _) NoBlock) (fun h => h))
        have HT0 := Lib.hid (Turned.of_below HB.out (Nat.le_refl _) (Just g))
        have RT : Hid (p < m → m < e → Calls Tryz.prog 112 #[.slice (some ⟨g, 0, none⟩) n cap, .int .i64 p, .int .i64 m, .int .i64 e, .func (.func 53) #[] #[]] wr fun e' w' => e' = .returned (.tuple #[]) ∧ ∃ ys, Rot xs ys p m e ∧ At w' g 75 (pls ys ++ rest) ∧ Turned (Just g) wr w') := Lib.hid fun k1 k2 => rot_any g n cap p m e xs rest _ wr HAt.out HN.out k1 k2 (by omega) hm
        have LF : Hid (∀ ys W, Rot xs ys p m e → a < p → p < mid → At W g 75 (pls ys ++ rest) → Calls Tryz.prog 104 #[.slice (some ⟨g, 0, none⟩) n cap, .int .i64 a, .int .i64 p, .int .i64 mid, .func (.func 53) #[] #[]] W fun e' w' => e' = .returned (.tuple #[]) ∧ ∃ zs, Mix a mid ys zs ∧ Srt zs a mid ∧ At w' g 75 (pls zs ++ rest) ∧ Turned (Just g) W w') := Lib.hid fun ys W hy k1 k2 hA => by
          obtain ⟨r1, r2, _, _⟩ := HSP.out.rows HL.out HR.out hy
          obtain ⟨b1, _⟩ := HSP.out.befs HO.out hy
          rw [HSM.out] at r2 b1
          exact HIH.out a p mid ys W (by omega) hA (hy.len.trans HN.out) k1 k2 (by omega) r1 r2 b1
        have RG : Hid (∀ ys zs W, Rot xs ys p m e → Mix a mid ys zs → mid < e → e < b → At W g 75 (pls zs ++ rest) → Calls Tryz.prog 104 #[.slice (some ⟨g, 0, none⟩) n cap, .int .i64 mid, .int .i64 e, .int .i64 b, .func (.func 53) #[] #[]] W fun e' w' => e' = .returned (.tuple #[]) ∧ ∃ us, Mix mid b zs us ∧ Srt us mid b ∧ At w' g 75 (pls us ++ rest) ∧ Turned (Just g) W w') := Lib.hid fun ys zs W hy hz k1 k2 hA => by
          obtain ⟨_, _, r3, r4⟩ := HSP.out.rows HL.out HR.out hy
          obtain ⟨_, b2⟩ := HSP.out.befs HO.out hy
          rw [HSM.out] at r3 b2
          refine HIH.out mid e b zs W (by omega) hA ((hz.len.trans hy.len).trans HN.out) k1 k2 hb (r3.out hz (.inr (Nat.le_refl _))) (r4.out hz (.inr (by omega))) fun i j h1 h2 h3 h4 => ?_
          rw [hz.out i (by omega), hz.out j (by omega)]
          exact b2 i j h1 h2 h3 h4
        have EN : Hid (∀ ys zs us, Rot xs ys p m e → Mix a mid ys zs → Srt zs a mid → Mix mid b zs us → Srt us mid b → Mix a b xs us ∧ Srt us a b) := Lib.hid fun ys zs us hy m1 s1 m2 s2 => by
          have := HSM.out
          subst this
          exact HSP.out.end_ HL.out HR.out hy m1 s1 m2 s2
        have he1 : (m : Int) ≤ (e : Int) := by omega
        have he2 : (e : Int) ≤ (b : Int) := by omega
        have hp1 : (a : Int) ≤ (p : Int) := by omega
        have hp2 : (p : Int) ≤ (m : Int) := by omega
        have HE0 := Lib.hid he0
        clear SP hsm he0
        by_cases h1 : p < m
        · by_cases h2 : m < e
          · have h1' : (p : Int) < (m : Int) := by omega
            have h2' : (m : Int) < (e : Int) := by omega
            have h5 : p < mid := by have := HSM.out; omega
            have h6 : mid < e := by have := HSM.out; omega
            have h5' : (p : Int) < (mid : Int) := by omega
            have h6' : (mid : Int) < (e : Int) := by omega
            by_cases h4 : a < p
            · have h4' : (a : Int) < (p : Int) := by omega
              by_cases h7 : e < b
              · have h7' : (e : Int) < (b : Int) := by omega
                go_wp2_with (first
                  | (go_at_call 112; (refine (RT.out h1 h2).mono ?_); rintro e' w1 ⟨rfl, ys, hy, hA1, hT1⟩; have HRO := Lib.hid hy; have HA1 := Lib.hid hA1; have HT1 := Lib.hid (HT0.out.trans hT1); clear hy hA1 hT1)
                  | (go_at_call_of 104 (Value.int .i64 (a : Int)); (refine (LF.out ys _ HRO.out h4 h5 HA1.out).mono ?_); rintro e' w2 ⟨rfl, zs, m1, s1, hA2, hT2⟩; have HM1 := Lib.hid m1; have HS1 := Lib.hid s1; have HA2 := Lib.hid hA2; have HT2 := Lib.hid (HT1.out.trans hT2); clear m1 s1 hA2 hT2)
                  | (go_at_call_of 104 (Value.int .i64 (b : Int)); (refine (RG.out ys zs _ HRO.out HM1.out h6 h7 HA2.out).mono ?_); rintro e' w3 ⟨rfl, us, m2, s2, hA3, hT3⟩; have HM2 := Lib.hid m2; have HS2 := Lib.hid s2; have HA3 := Lib.hid hA3; have HT3 := Lib.hid (HT2.out.trans hT3); clear m2 s2 hA3 hT3))
                go_end0
                obtain ⟨e1, e2⟩ := EN.out ys zs us HRO.out HM1.out HS1.out HM2.out HS2.out
                exact ⟨rfl, us, e1, e2, HA3.out, HT3.out⟩
              · have h7' : ¬ (e : Int) < (b : Int) := by omega
                go_wp2_with (first
                  | (go_at_call 112; (refine (RT.out h1 h2).mono ?_); rintro e' w1 ⟨rfl, ys, hy, hA1, hT1⟩; have HRO := Lib.hid hy; have HA1 := Lib.hid hA1; have HT1 := Lib.hid (HT0.out.trans hT1); clear hy hA1 hT1)
                  | (go_at_call_of 104 (Value.int .i64 (a : Int)); (refine (LF.out ys _ HRO.out h4 h5 HA1.out).mono ?_); rintro e' w2 ⟨rfl, zs, m1, s1, hA2, hT2⟩; have HM1 := Lib.hid m1; have HS1 := Lib.hid s1; have HA2 := Lib.hid hA2; have HT2 := Lib.hid (HT1.out.trans hT2); clear m1 s1 hA2 hT2))
                go_end0
                obtain ⟨e1, e2⟩ := EN.out ys zs zs HRO.out HM1.out HS1.out (Mix.refl _ _ _) (HSP.out.no_right HL.out HR.out HRO.out HSM.out HM1.out (by omega))
                exact ⟨rfl, zs, e1, e2, HA2.out, HT2.out⟩
            · have h4' : ¬ (a : Int) < (p : Int) := by omega
              by_cases h7 : e < b
              · have h7' : (e : Int) < (b : Int) := by omega
                go_wp2_with (first
                  | (go_at_call 112; (refine (RT.out h1 h2).mono ?_); rintro e' w1 ⟨rfl, ys, hy, hA1, hT1⟩; have HRO := Lib.hid hy; have HA1 := Lib.hid hA1; have HT1 := Lib.hid (HT0.out.trans hT1); clear hy hA1 hT1)
                  | (go_at_call_of 104 (Value.int .i64 (b : Int)); (refine (RG.out ys ys _ HRO.out (Mix.refl _ _ _) h6 h7 HA1.out).mono ?_); rintro e' w3 ⟨rfl, us, m2, s2, hA3, hT3⟩; have HM2 := Lib.hid m2; have HS2 := Lib.hid s2; have HA3 := Lib.hid hA3; have HT3 := Lib.hid (HT1.out.trans hT3); clear m2 s2 hA3 hT3))
                go_end0
                obtain ⟨e1, e2⟩ := EN.out ys ys us HRO.out (Mix.refl _ _ _) (HSP.out.no_left HL.out HR.out HRO.out HSM.out (by omega)) HM2.out HS2.out
                exact ⟨rfl, us, e1, e2, HA3.out, HT3.out⟩
              · have h7' : ¬ (e : Int) < (b : Int) := by omega
                go_wp2_with (go_at_call 112; (refine (RT.out h1 h2).mono ?_); rintro e' w1 ⟨rfl, ys, hy, hA1, hT1⟩; have HRO := Lib.hid hy; have HA1 := Lib.hid hA1; have HT1 := Lib.hid (HT0.out.trans hT1); clear hy hA1 hT1)
                go_end0
                obtain ⟨e1, e2⟩ := EN.out ys ys ys HRO.out (Mix.refl _ _ _) (HSP.out.no_left HL.out HR.out HRO.out HSM.out (by omega)) (Mix.refl _ _ _) (HSP.out.no_right HL.out HR.out HRO.out HSM.out (Mix.refl _ _ _) (by omega))
                exact ⟨rfl, ys, e1, e2, HA1.out, HT1.out⟩
          · have h1' : (p : Int) < (m : Int) := by omega
            have h2' : ¬ (m : Int) < (e : Int) := by omega
            have h5' : ¬ (p : Int) < (mid : Int) := by have := HSM.out; omega
            have h6 : mid < e := by have := HSM.out; omega
            have h7 : e < b := by omega
            have h6' : (mid : Int) < (e : Int) := by omega
            have h7' : (e : Int) < (b : Int) := by omega
            have h4' : (a : Int) < (p : Int) := by have := HSM.out; omega
            have HRO : Hid (Rot xs xs p m e) := Lib.hid (Rot.none (by omega) (by omega) (.inr (by omega)))
            go_wp2_with (go_at_call 104; (refine (RG.out xs xs _ HRO.out (Mix.refl _ _ _) h6 h7 HAt.out).mono ?_); rintro e' w3 ⟨rfl, us, m2, s2, hA3, hT3⟩; have HM2 := Lib.hid m2; have HS2 := Lib.hid s2; have HA3 := Lib.hid hA3; have HT3 := Lib.hid (HT0.out.trans hT3); clear m2 s2 hA3 hT3)
            go_end0
            obtain ⟨e1, e2⟩ := EN.out xs xs us HRO.out (Mix.refl _ _ _) (HSP.out.no_left HL.out HR.out HRO.out HSM.out (by omega)) HM2.out HS2.out
            exact ⟨rfl, us, e1, e2, HA3.out, HT3.out⟩
        · by_cases h2 : m < e
          · have h1' : ¬ (p : Int) < (m : Int) := by omega
            have h3' : ¬ (mid : Int) < (e : Int) := by have := HSM.out; omega
            have h4 : a < p := by omega
            have h5 : p < mid := by have := HSM.out; omega
            have h4' : (a : Int) < (p : Int) := by omega
            have h5' : (p : Int) < (mid : Int) := by omega
            have HRO : Hid (Rot xs xs p m e) := Lib.hid (Rot.none (by omega) (by omega) (.inl (by omega)))
            go_wp2_with (go_at_call 104; (refine (LF.out xs _ HRO.out h4 h5 HAt.out).mono ?_); rintro e' w1 ⟨rfl, zs, m1, s1, hA1, hT1⟩; have HM1 := Lib.hid m1; have HS1 := Lib.hid s1; have HA1 := Lib.hid hA1; have HT1 := Lib.hid (HT0.out.trans hT1); clear m1 s1 hA1 hT1)
            go_end0
            obtain ⟨e1, e2⟩ := EN.out xs zs zs HRO.out HM1.out HS1.out (Mix.refl _ _ _) (HSP.out.no_right HL.out HR.out HRO.out HSM.out HM1.out (by omega))
            exact ⟨rfl, zs, e1, e2, HA1.out, HT1.out⟩
          · have h1' : ¬ (p : Int) < (m : Int) := by omega
            have h3' : ¬ (mid : Int) < (e : Int) := by have := HSM.out; omega
            have h4' : (a : Int) < (p : Int) := by omega
            have h5' : ¬ (p : Int) < (mid : Int) := by have := HSM.out; omega
            have HRO : Hid (Rot xs xs p m e) := Lib.hid (Rot.none (by omega) (by omega) (.inl (by omega)))
            go_wp2
            go_end0
            obtain ⟨e1, e2⟩ := EN.out xs xs xs HRO.out (Mix.refl _ _ _) (HSP.out.no_left HL.out HR.out HRO.out HSM.out (by omega)) (Mix.refl _ _ _) (HSP.out.no_right HL.out HR.out HRO.out HSM.out (Mix.refl _ _ _) (by omega))
            exact ⟨rfl, xs, e1, e2, HAt.out, HT0.out⟩
theorem sym_any (g n cap : Nat) (rest : List Value) (hm : n ≤ 1000000) : ∀ d, SymSays g n cap rest d
  | 0 => fun a m b xs w hd hA hn ham hmb hb hl hr ho => by omega
  | d + 1 => fun a m b xs w hd hA hn ham hmb hb hl hr ho => by
    by_cases h1 : m = a + 1
    · exact symA_any g n cap a m b xs rest w hA hn h1 hmb hb hm hl hr ho
    · by_cases h2 : b = m + 1
      · exact symB_any g n cap a m b xs rest w hA hn h2 (by omega) hb hm hl hr ho
      · exact symC_any g n cap d rest (sym_any g n cap rest hm d) a m b xs w hd hA hn (by omega) (by omega) hb hm hl hr ho
end Go.Proofs.YtpkkejdjhnmjiaaGreat
namespace Go.Proofs.YtpkkejdjhnmjiaaGreat
open Go.RowKit Bm
section
variable {xs ys zs : List PlM} {a b k n : Nat}
theorem Cuts.ins (h : Cuts (fun c => a ≤ c ∨ 20 ∣ c) xs ys) (ha : 20 ∣ a) (hb : b = a + 20 ∨ (b = xs.length ∧ b < a + 20)) (hbn : b ≤ xs.length) (hm : Mix a b ys zs) (hs : Srt zs a b) : Cuts (fun c => b ≤ c ∨ 20 ∣ c) xs zs := by
  refine (h.step (.inr (.inl (Nat.le_refl _))) ?_ hbn hm hs).congr fun c c1 c2 => ?_
  · rcases hb with hb | hb
    · exact .inl (.inl (by omega))
    · exact .inr hb.1
  · omega
theorem Cuts.ins_bef (h : Cuts (fun c => a ≤ c ∨ 20 ∣ c) xs ys) (hx : ∀ i j, i < j → j < xs.length → Ahead (plN xs i) (plN xs j)) (hb : b ≤ xs.length) : ∀ i j, a ≤ i → i < j → j < b → Ahead (plN ys i) (plN ys j) := fun i j h1 h2 h3 =>
  h.bef hx (c := j) (.inl (by omega)) h2 (Nat.le_refl _) (by omega)
theorem Cuts.two (h : Cuts (fun c => (k ∣ c ∧ a ≤ c) ∨ 2 * k ∣ c) xs ys) (hx : ∀ i j, i < j → j < xs.length → Ahead (plN xs i) (plN xs j)) (ha : 2 * k ∣ a) (hab : a + k ≤ b) (hb : b ≤ a + 2 * k) (hbn : b ≤ xs.length) :
    Srt ys a (a + k) ∧ Srt ys (a + k) b ∧ Bef ys a (a + k) b := by
  have hk : k ∣ a := Nat.dvd_trans ⟨2, Nat.mul_comm _ _⟩ ha
  have hk1 : k ∣ a + k := (Nat.dvd_add_right hk).2 (Nat.dvd_refl k)
  have hd : ∀ c, ((k ∣ c ∧ a ≤ c) ∨ 2 * k ∣ c) → k ∣ c := fun c hc => by
    rcases hc with hc | hc
    · exact hc.1
    · exact Nat.dvd_trans ⟨2, Nat.mul_comm _ _⟩ hc
  refine ⟨h.rows (by omega) fun c c1 c2 hc => no_mult hk (hd c hc) c1 c2, h.rows hbn fun c c1 c2 hc => no_mult hk1 (hd c hc) c1 (by omega), fun i j h1 h2 h3 h4 => h.bef hx (c := a + k) (.inl ⟨hk1, by omega⟩) h2 h3 (by omega)⟩
theorem Cuts.merged (h : Cuts (fun c => (k ∣ c ∧ a ≤ c) ∨ 2 * k ∣ c) xs ys) (ha : 2 * k ∣ a) (hb : b = a + 2 * k) (hbn : b ≤ xs.length) (hm : Mix a b ys zs) (hs : Srt zs a b) : Cuts (fun c => (k ∣ c ∧ b ≤ c) ∨ 2 * k ∣ c) xs zs := by
  have hk : k ∣ a := Nat.dvd_trans ⟨2, Nat.mul_comm _ _⟩ ha
  have hbk : 2 * k ∣ b := by rw [hb]; exact (Nat.dvd_add_right ha).2 (Nat.dvd_refl _)
  refine (h.step (.inr (.inr ha)) (.inl (.inr hbk)) hbn hm hs).congr fun c c1 c2 => ⟨?_, ?_⟩
  · rintro ⟨hc | hc, hn⟩
    · by_cases e : c = a
      · exact .inr (e ▸ ha)
      · exact .inl ⟨hc.1, by omega⟩
    · exact .inr hc
  · rintro (hc | hc)
    · exact ⟨.inl ⟨hc.1, by omega⟩, by omega⟩
    · exact ⟨.inr hc, fun hn => no_mult ha hc hn.1 (by omega)⟩
theorem Cuts.last (h : Cuts (fun c => (k ∣ c ∧ a ≤ c) ∨ 2 * k ∣ c) xs ys) (ha : 2 * k ∣ a) (han : a ≤ xs.length) (hb : xs.length < a + 2 * k) (hm : Mix a xs.length ys zs) (hs : Srt zs a xs.length) : Cuts (fun c => 2 * k ∣ c) xs zs := by
  refine (h.step (.inr (.inr ha)) (.inr rfl) (Nat.le_refl _) hm hs).congr fun c c1 c2 => ⟨?_, ?_⟩
  · rintro ⟨hc | hc, hn⟩
    · obtain rfl : c = a := by omega
      exact ha
    · exact hc
  · intro hc
    exact ⟨.inr hc, fun hn => no_mult ha hc hn.1 (by omega)⟩
theorem Cuts.rest (h : Cuts (fun c => (k ∣ c ∧ a ≤ c) ∨ 2 * k ∣ c) xs ys) (ha : 2 * k ∣ a) (hb : xs.length ≤ a + k) : Cuts (fun c => 2 * k ∣ c) xs ys := by
  have hk : k ∣ a := Nat.dvd_trans ⟨2, Nat.mul_comm _ _⟩ ha
  refine h.congr fun c c1 c2 => ⟨?_, .inr⟩
  rintro (hc | hc)
  · by_cases e : c = a
    · exact e ▸ ha
    · exact (no_mult hk hc.1 (by omega) (by omega)).elim
  · exact hc
end
set_option maxRecDepth 100000 in
set_option maxHeartbeats 4000000 in
theorem stable_any (g n cap : Nat) (xs : List PlM) (rest : List Value) (w : World) (hA : At w g 75 (pls xs ++ rest)) (hn : xs.length = n) (hm : n ≤ 1000000) (hx : ∀ i j, i < j → j < xs.length → Ahead (plN xs i) (plN xs j)) :
    Calls Tryz.prog 89 #[.slice (some ⟨g, 0, none⟩) n cap, .int .i64 n, .func (.func 53) #[] #[]] w fun e w' => e = .returned (.tuple #[]) ∧ ∃ ys, Cuts (fun _ => False) xs ys ∧ At w' g 75 (pls ys ++ rest) ∧ Turned (Just g) w w' := by
  have HN := Lib.hid hn
  have HA := Lib.hid hA
  have HX := Lib.hid hx
  have hm' : (n : Int) ≤ 1000000 := by omega
  have hn0 : (0 : Int) ≤ (n : Int) := by omega
  clear hn hA hx
  go_enter Tryz.func89, Tryz.ntmps89
  go_wp2
  go_loopg [7, 8] (n + 20) (fun gh s7 s8 wr => ∃ (a b : Nat) (ys : List PlM), a ≤ n ∧ gh = n + 20 - a ∧ s7 = .int .i64 a ∧ s8 = .int .i64 b ∧ Hid (b = a + 20 ∧ 20 ∣ a) ∧ Cuts (fun c => a ≤ c ∨ 20 ∣ c) xs ys ∧ At wr g 75 (pls ys ++ rest) ∧ Turned (Just g) w wr)
  case atStart => exact ⟨0, 20, xs, by omega, by omega, rfl, rfl, Lib.hid ⟨rfl, ⟨0, rfl⟩⟩, (Cuts.all xs).congr (fun c _ _ => ⟨fun _ => .inl (Nat.zero_le _), fun _ => trivial⟩), HA.out, Turned.refl _ _⟩
  case round =>
    obtain ⟨a, b, ys, han, rfl, rfl, rfl, HE, hc, hA, hT⟩ := hrel
    have HC := Lib.hid hc
    have HAt := Lib.hid hA
    have HT := Lib.hid hT
    clear hc hA hT
    have hab : (a : Int) < (b : Int) := by have := HE.out; omega
    have hb20 : (b : Int) ≤ 1000020 := by have := HE.out; omega
    by_cases hbn : b ≤ n
    · have hbn' : (b : Int) ≤ (n : Int) := by omega
      have HI := Lib.hid (fun W h => ins_any g n cap a b ys rest W h (HC.out.len.trans HN.out) (by omega) hbn hm (HC.out.ins_bef HX.out (by rw [HN.out]; exact hbn)))
      go_wp2_with (go_at_call 103; (refine (HI.out _ HAt.out).mono ?_); rintro e w1 ⟨rfl, zs, hz, hs, hA1, hT1⟩; have HZ := Lib.hid hz; have HS := Lib.hid hs; have HA1 := Lib.hid hA1; have HT1 := Lib.hid (HT.out.trans hT1); clear hz hs hA1 hT1)
      go_roundg (n + 20 - b)
      case measure => have := HE.out; omega
      case rel => exact ⟨b, b + 20, zs, hbn, rfl, rfl, by go_num, Lib.hid ⟨rfl, by have := HE.out; omega⟩, HC.out.ins HE.out.2 (.inl HE.out.1) (by rw [HN.out]; exact hbn) HZ.out HS.out, HA1.out, HT1.out⟩
    · have hbn' : ¬ (b : Int) ≤ (n : Int) := by omega
      have HI := Lib.hid (fun W h => ins_any g n cap a n ys rest W h (HC.out.len.trans HN.out) han (Nat.le_refl _) hm (HC.out.ins_bef HX.out (by rw [HN.out]; exact Nat.le_refl _)))
      go_wp2_with (go_at_call 103; (refine (HI.out _ HAt.out).mono ?_); rintro e w1 ⟨rfl, zs, hz, hs, hA1, hT1⟩; have HZ := Lib.hid hz; have HS := Lib.hid hs; have HA1 := Lib.hid hA1; have HT1 := Lib.hid (HT.out.trans hT1); clear hz hs hA1 hT1)
      have hc1 : Cuts (fun c => 20 ∣ c) xs zs := (HC.out.ins HE.out.2 (b := n) (.inr ⟨HN.out.symm, by have := HE.out; omega⟩) (by rw [HN.out]; exact Nat.le_refl _) HZ.out HS.out).congr (fun c _ h2 => by rw [HN.out] at h2; constructor; (intro h; rcases h with h | h; omega; exact h); exact .inr)
      have HC1 := Lib.hid hc1
      clear hc1
      go_loopg [6] (2 * n + 20 - 20) (fun gh s6 wr => ∃ (k : Nat) (us : List PlM), 0 < k ∧ k ≤ 2 * n + 20 ∧ gh = 2 * n + 20 - k ∧ s6 = .int .i64 k ∧ Cuts (fun c => k ∣ c) xs us ∧ At wr g 75 (pls us ++ rest) ∧ Turned (Just g) w wr)
      case atStart => exact ⟨20, zs, by omega, by omega, rfl, rfl, HC1.out, HA1.out, HT1.out⟩
      case round =>
        obtain ⟨k, us, hk0, hkn, rfl, rfl, hc, hA, hT⟩ := hrel
        have HC2 := Lib.hid hc
        have HA2 := Lib.hid hA
        have HT2 := Lib.hid hT
        clear hc hA hT HE HC HAt HT HI HZ HS HC1 HA1 HT1
        have hk0' : (0 : Int) < (k : Int) := by omega
        by_cases hkl : k < n
        · have hkl' : (k : Int) < (n : Int) := by omega
          go_wp2
          go_loopg [7, 8] (n + 2 * k) (fun gh s7 s8 wr => ∃ (a b : Nat) (ys : List PlM), a ≤ n ∧ gh = n + 2 * k - a ∧ s7 = .int .i64 a ∧ s8 = .int .i64 b ∧ Hid (b = a + 2 * k ∧ 2 * k ∣ a) ∧ Cuts (fun c => (k ∣ c ∧ a ≤ c) ∨ 2 * k ∣ c) xs ys ∧ At wr g 75 (pls ys ++ rest) ∧ Turned (Just g) w wr)
          case atStart => exact ⟨0, 2 * k, us, by omega, by omega, rfl, by go_num, Lib.hid ⟨by omega, ⟨0, rfl⟩⟩, HC2.out.congr (fun c _ _ => ⟨fun h => .inl ⟨h, Nat.zero_le _⟩, fun h => by
            rcases h with h | h
            · exact h.1
            · exact Nat.dvd_trans ⟨2, Nat.mul_comm _ _⟩ h⟩), HA2.out, HT2.out⟩
          case round =>
            obtain ⟨a, b, ys, han, rfl, rfl, rfl, HE, hc, hA, hT⟩ := hrel
            have HC := Lib.hid hc
            have HAt := Lib.hid hA
            have HT := Lib.hid hT
            clear hc hA hT
            have hab : (a : Int) + (k : Int) < (b : Int) := by have := HE.out; omega
            have hb3 : (b : Int) ≤ (n : Int) + 2 * (k : Int) := by have := HE.out; omega
            obtain ⟨m, hmk⟩ : ∃ m : Nat, (a : Int) + (k : Int) = (m : Int) := ⟨a + k, by omega⟩
            have hm0 : m = a + k := by omega
            have HM0 := Lib.hid hm0
            clear hm0
            by_cases hbn : b ≤ n
            · have hbn' : (b : Int) ≤ (n : Int) := by omega
              have HI : Hid (∀ W, At W g 75 (pls ys ++ rest) → Calls Tryz.prog 104 #[.slice (some ⟨g, 0, none⟩) n cap, .int .i64 a, .int .i64 m, .int .i64 b, .func (.func 53) #[] #[]] W fun e w' => e = .returned (.tuple #[]) ∧ ∃ zs, Mix a b ys zs ∧ Srt zs a b ∧ At w' g 75 (pls zs ++ rest) ∧ Turned (Just g) W w') := Lib.hid fun W h => by
                obtain ⟨t1, t2, t3⟩ := HC.out.two HX.out (b := b) HE.out.2 (by have := HE.out; omega) (by have := HE.out; omega) (by rw [HN.out]; exact hbn)
                rw [← HM0.out] at t1 t2 t3
                exact sym_any g n cap rest hm _ a m b ys W (Nat.le_refl _) h (HC.out.len.trans HN.out) (by have := HM0.out; omega) (by have := HE.out; have := HM0.out; omega) hbn t1 t2 t3
              go_wp2_with (go_at_call 104; (refine (HI.out _ HAt.out).mono ?_); rintro e w1 ⟨rfl, zs, hz, hs, hA1, hT1⟩; have HZ := Lib.hid hz; have HS := Lib.hid hs; have HA1 := Lib.hid hA1; have HT1 := Lib.hid (HT.out.trans hT1); clear hz hs hA1 hT1)
              go_roundg (n + 2 * k - b)
              case measure => have := HE.out; omega
              case rel => exact ⟨b, b + 2 * k, zs, hbn, rfl, rfl, by go_num, Lib.hid ⟨rfl, by rw [HE.out.1]; exact (Nat.dvd_add_right HE.out.2).2 (Nat.dvd_refl _)⟩, HC.out.merged HE.out.2 HE.out.1 (by rw [HN.out]; exact hbn) HZ.out HS.out, HA1.out, HT1.out⟩
            · have hbn' : ¬ (b : Int) ≤ (n : Int) := by omega
              by_cases hmn : m < n
              · have hmn' : (m : Int) < (n : Int) := by omega
                have HI : Hid (∀ W, At W g 75 (pls ys ++ rest) → Calls Tryz.prog 104 #[.slice (some ⟨g, 0, none⟩) n cap, .int .i64 a, .int .i64 m, .int .i64 n, .func (.func 53) #[] #[]] W fun e w' => e = .returned (.tuple #[]) ∧ ∃ zs, Mix a n ys zs ∧ Srt zs a n ∧ At w' g 75 (pls zs ++ rest) ∧ Turned (Just g) W w') := Lib.hid fun W h => by
                  obtain ⟨t1, t2, t3⟩ := HC.out.two HX.out (b := n) HE.out.2 (by have := HE.out; have := HM0.out; omega) (by have := HE.out; omega) (by rw [HN.out]; exact Nat.le_refl _)
                  rw [← HM0.out] at t1 t2 t3
                  exact sym_any g n cap rest hm _ a m n ys W (Nat.le_refl _) h (HC.out.len.trans HN.out) (by have := HM0.out; omega) hmn (Nat.le_refl _) t1 t2 t3
                go_wp2_with (go_at_call 104; (refine (HI.out _ HAt.out).mono ?_); rintro e w1 ⟨rfl, zs, hz, hs, hA1, hT1⟩; have HZ := Lib.hid hz; have HS := Lib.hid hs; have HA1 := Lib.hid hA1; have HT1 := Lib.hid (HT.out.trans hT1); clear hz hs hA1 hT1)
                go_roundg (2 * n + 20 - (k * 2))
                case measure => omega
                case rel => exact ⟨k * 2, zs, by omega, by omega, rfl, by go_num, by
                  have := HC.out.last (zs := zs) HE.out.2 (by rw [HN.out]; exact han) (by rw [HN.out]; have := HE.out; omega) (by rw [HN.out]; exact HZ.out) (by rw [HN.out]; exact HS.out)
                  rwa [Nat.mul_comm] at this, HA1.out, HT1.out⟩
              · have hmn' : ¬ (m : Int) < (n : Int) := by omega
                go_wp2
                go_roundg (2 * n + 20 - (k * 2))
                case measure => omega
                case rel => exact ⟨k * 2, ys, by omega, by omega, rfl, by go_num, by
                  have := HC.out.rest HE.out.2 (by rw [HN.out]; have := HM0.out; omega)
                  rwa [Nat.mul_comm] at this, HAt.out, HT.out⟩
        · have hkl' : ¬ (k : Int) < (n : Int) := by omega
          go_wp2
          go_end0
          exact ⟨rfl, us, HC2.out.congr (fun c c1 c2 => ⟨fun h => no_mult (Nat.dvd_zero k) h c1 (by rw [HN.out] at c2; omega), fun h => h.elim⟩), HA2.out, HT2.out⟩
set_option maxHeartbeats 2000000 in
theorem sort_any (g n cap : Nat) (xs : List PlM) (rest : List Value) (w : World) (hA : At w g 75 (pls xs ++ rest)) (hn : xs.length = n) (hm : n ≤ 1000000) (hx : xs.Pairwise Ahead) :
    Calls Tryz.prog 74 #[.slice (some ⟨g, 0, none⟩) n cap, .func (.func 53) #[] #[]] w fun e w' => e = .returned (.tuple #[]) ∧ ∃ ys, ys.length = n ∧ news ys n = lOf xs ∧ At w' g 75 (pls ys ++ rest) ∧ Turned (Just g) w w' := by
  have HS := Lib.hid (stable_any g n cap xs rest w hA hn hm fun i j => pair_at hx)
  have HN := Lib.hid hn
  have HX := Lib.hid hx
  clear hA hn hx
  go_enter Tryz.func74, Tryz.ntmps74
  go_wp2_with (go_at_call 89; (refine HS.out.mono ?_); rintro e w1 ⟨rfl, ys, hc, hA1, hT1⟩; have HC := Lib.hid hc; have HA1 := Lib.hid hA1; have HT1 := Lib.hid hT1; clear hc hA1 hT1)
  go_end0
  refine ⟨rfl, ys, HC.out.len.trans HN.out, ?_, HA1.out, HT1.out⟩
  have := news_of HX.out HC.out.len (HC.out.sorted fun _ _ _ h => h) (fun i hi => by obtain ⟨j, h1, h2, _⟩ := HC.out.to i hi; exact ⟨j, h1, h2⟩) HC.out.of
  rwa [HC.out.len, HN.out] at this
end Go.Proofs.YtpkkejdjhnmjiaaGreat
namespace Go.Proofs.YtpkkejdjhnmjiaaGreat
open Go.RowKit Bm
set_option maxHeartbeats 2000000 in
theorem ins_nil (w : World) (f : Value) : Calls Tryz.prog 103 #[.slice none 0 0, .int .i64 0, .int .i64 0, f] w fun e w' => e = .returned (.tuple #[]) ∧ w' = w := by
  go_enter Tryz.func103, Tryz.ntmps103
  go_wp2
  go_loopw [8] (fun i wr => i = .int .i64 1 ∧ wr = w) (fun _ _ => 0)
  case atStart => exact ⟨rfl, rfl⟩
  case round =>
    obtain ⟨rfl, rfl⟩ := hrel
    go_wp2
    go_end0
    exact ⟨rfl, rfl⟩
set_option maxHeartbeats 2000000 in
theorem stable_nil (w : World) (f : Value) : Calls Tryz.prog 89 #[.slice none 0 0, .int .i64 0, f] w fun e w' => e = .returned (.tuple #[]) ∧ w' = w := by
  go_enter Tryz.func89, Tryz.ntmps89
  go_wp2
  go_loopw [7, 8] (fun i j wr => i = .int .i64 0 ∧ j = .int .i64 20 ∧ wr = w) (fun _ _ _ => 0)
  case atStart => exact ⟨rfl, rfl, rfl⟩
  case round =>
    obtain ⟨rfl, rfl, rfl⟩ := hrel
    go_wp2_with (go_at_call 103; (refine (ins_nil _ _).mono ?_); rintro e w1 ⟨rfl, rfl⟩)
    go_loopw [6] (fun i wq => i = .int .i64 20 ∧ wq = w1) (fun _ _ => 0)
    case atStart => exact ⟨rfl, rfl⟩
    case round =>
      obtain ⟨rfl, rfl⟩ := hrel
      go_wp2
      go_end0
      exact ⟨rfl, rfl⟩
set_option maxHeartbeats 2000000 in
theorem sort_nil (w : World) (f : Value) : Calls Tryz.prog 74 #[.slice none 0 0, f] w fun e w' => e = .returned (.tuple #[]) ∧ w' = w := by
  go_enter Tryz.func74, Tryz.ntmps74
  go_wp2_with (go_at_call 89; (refine (stable_nil _ _).mono ?_); rintro e w1 ⟨rfl, rfl⟩)
  go_end0
  exact ⟨rfl, rfl⟩
end Go.Proofs.YtpkkejdjhnmjiaaGreat
namespace Go.Proofs.YtpkkejdjhnmjiaaGreat
open Go.RowKit Bm
attribute [local go_sem ↓] Go.wp_at_zero Go.wp_at_succ ldPS_eq stP_eq
def zeros9 (n : Nat) : List Value := (Builtin.zeroCells (plC pl0).toArray n).toList
theorem zeros9_len (n : Nat) : (zeros9 n).length = n * 9 := by unfold zeros9 Builtin.zeroCells; simp [plC_len]
theorem zeros9_one (n : Nat) : ∀ u ∈ zeros9 n, u.oneCell' = true := by
  intro u hu
  unfold zeros9 Builtin.zeroCells at hu
  simp only [Array.toList_map, List.mem_map] at hu
  obtain ⟨i, _, rfl⟩ := hu
  have hlt : i % (plC pl0).toArray.size < (plC pl0).toArray.size := Nat.mod_lt _ (by simp [plC_len])
  have e := getElem!_pos (plC pl0).toArray (i % (plC pl0).toArray.size) hlt
  rw [e]
  exact plC_one pl0 _ (by rw [List.getElem_toArray]; exact List.getElem_mem _)
theorem clear_at {W : World} {g k m c : Nat} {ys : List PlM} {rest : List Value} (hA : At W g 75 (pls ys ++ rest)) (hk : k + m = ys.length) (hm : 0 < m) (ty : TypeId) :
    ∃ W1, (Builtin.clear_ #[78] ty #[.slice (some ⟨g, k * 9, none⟩) m c]).run Tryz.prog W = .ok (.tuple #[]) W1 ∧ At W1 g 75 (pls (ys.take k) ++ (zeros9 m ++ rest)) ∧ Turned (Just g) W W1 := by
  have e : pls ys ++ rest = pls (ys.take k) ++ (pls (ys.drop k) ++ rest) := by
    rw [← List.append_assoc, show pls (ys.take k) ++ pls (ys.drop k) = pls ys by unfold pls; rw [← List.flatMap_append, List.take_append_drop]]
  rw [e] at hA
  have h1 : (pls (ys.take k)).length = k * 9 := by rw [pls_len, List.length_take, Nat.min_eq_left (by omega), Nat.mul_comm]
  have h2 : (pls (ys.drop k)).length = m * 9 := by rw [pls_len, List.length_drop, Nat.mul_comm]; congr 1; omega
  have h3 := At.setCells (zeros9 m) _ _ hA (by rw [zeros9_len, h2])
  rw [h1] at h3
  have ht := hA.there
  rw [h1, h2, ← zeros9_len m] at ht
  have hst := run_storeCells_cells (P := Tryz.prog) g (k * 9) (zeros9 m) 0 W (fun j hj => (ht j hj).1) (fun j hj => (ht j hj).2) (zeros9_one m)
  refine ⟨_, ?_, h3, turned_setCells g _ _ W⟩
  obtain ⟨d, rfl⟩ : ∃ d, m = d + 1 := ⟨m - 1, by omega⟩
  simp only [Nat.add_zero] at hst
  unfold zeros9 at hst ⊢
  simp [Builtin.clear_, run_underlying Tryz.underlying78]
  show (Sem.run Tryz.prog (storeCells { block := g, off := k * 9 } (Builtin.zeroCells (plC pl0).toArray (d + 1)).toList) W).andThen _ = _
  rw [hst]
  rfl
set_option maxRecDepth 100000 in
set_option maxHeartbeats 4000000 in
theorem compact_any (g n cap : Nat) (zs : List PlM) (rest : List Value) (w : World) (hA : At w g 75 (pls zs ++ rest)) (hn : zs.length = n) (hcap : n ≤ cap) (hm : n ≤ 1000000) (hcm : cap ≤ maxLen) :
    Calls Tryz.prog 56 #[.slice (some ⟨g, 0, none⟩) n cap, .func (.func 57) #[] #[]] w fun e w' => ∃ k rest', e = .returned (.slice (some ⟨g, 0, none⟩) k cap) ∧ k = (news zs n).length ∧ At w' g 75 (pls (news zs n) ++ rest') ∧ Turned (Just g) w w' := by
  have HN := Lib.hid hn
  have HA := Lib.hid hA
  have SM := Lib.hid same_any
  have hm' : (n : Int) ≤ 1000000 := by omega
  have hcap' : (n : Int) ≤ (cap : Int) := by omega
  have hcm' : (cap : Int) ≤ 9223372036854775807 := by unfold maxLen at hcm; omega
  have HZ0 : Hid (newAt zs 0 = true) := Lib.hid (by unfold newAt; simp)
  clear hn hA
  by_cases h2 : n < 2
  · have h2' : (n : Int) < 2 := by omega
    have HE : Hid (news zs n = zs) := Lib.hid (by
      rw [news_all (by rw [HN.out]; exact Nat.le_refl _) (fun i hi => by rw [show i = 0 by omega]; exact HZ0.out), ← HN.out, List.take_length])
    go_enter Tryz.func56, Tryz.ntmps56
    go_wp2
    go_ret
    exact ⟨n, rest, rfl, by rw [HE.out, HN.out], by rw [HE.out]; exact HA.out, Turned.refl _ _⟩
  · have h2' : ¬ (n : Int) < 2 := by omega
    go_enter Tryz.func56, Tryz.ntmps56
    go_wp2
    go_loopg [5] (n - 1) (fun gh i wr => ∃ k : Nat, 1 ≤ k ∧ k ≤ n ∧ gh = n - k ∧ i = .int .i64 k ∧ Below w.heap.size w wr ∧ ∀ j, j < k → newAt zs j = true)
    case atStart => exact ⟨1, Nat.le_refl _, by omega, rfl, rfl, Below.refl _ _, fun j hj => by rw [show j = 0 by omega]; exact HZ0.out⟩
    case round =>
      obtain ⟨k, hk1, hkn, rfl, rfl, hB, hN⟩ := hrel
      have HB := Lib.hid hB
      have HNW := Lib.hid hN
      clear hB hN
      by_cases hlt : k < n
      · obtain ⟨q, rfl⟩ : ∃ q, k = q + 1 := ⟨k - 1, by omega⟩
        have hlt' : (q : Int) + 1 < (n : Int) := by omega
        have hq0 : (0 : Int) ≤ (q : Int) := by omega
        have hq1 : (0 : Int) ≤ (q : Int) + 1 := by omega
        have hq2 : (q : Int) < (n : Int) := by omega
        have hwq : IntKind.i64.wrap (q : Int) = (q : Int) := by rw [IntKind.wrap_i64]; omega
        have e1 : ((q : Int) + 1).toNat = q + 1 := by omega
        obtain ⟨x, hx⟩ : ∃ x, x = plN zs (q + 1) := ⟨_, rfl⟩
        obtain ⟨y, hy⟩ : ∃ y, y = plN zs q := ⟨_, rfl⟩
        have hA1 : At wr g 75 (pls zs ++ rest) := HA.out.kept (Turned.of_below HB.out (Nat.le_refl _) NoBlock) (fun h => h)
        have rx := hA1.place (j := q + 1) (by have := HN.out; omega)
        have ry := hA1.place (j := q) (by have := HN.out; omega)
        rw [← hx] at rx
        rw [← hy] at ry
        have HX := Lib.hid hx
        have HY := Lib.hid hy
        have HRX := Lib.hid rx
        have HRY := Lib.hid ry
        have HAt := Lib.hid hA1
        have HG := Lib.hid hA1.lt
        have lx : ∀ W, Below wr.heap.size wr W → (op_ex (ldB 75) (.pointer (some ⟨g, (q + 1) * 9, none⟩)) W).choose = .ok (.value (.agg (plC x).toArray)) W := fun W hW => ldP_at (range_kept HRX.out (hW.block g HG.out))
        have ly : ∀ W, Below wr.heap.size wr W → (op_ex (ldB 75) (.pointer (some ⟨g, q * 9, none⟩)) W).choose = .ok (.value (.agg (plC y).toArray)) W := fun W hW => ldP_at (range_kept HRY.out (hW.block g HG.out))
        clear hx hy rx ry hA1
        by_cases hc : x.p.s = y.p.s
        · have hcd : decide (x.p.s = y.p.s) = true := decide_eq_true hc
          have HNA : Hid (newAt zs (q + 1) = false) := Lib.hid (by
            unfold newAt
            rw [Nat.add_sub_cancel, ← HX.out, ← HY.out]
            exact decide_eq_false (by rintro (h | h); omega; exact h hc))
          clear hc
          obtain ⟨hna0, hnl0⟩ := NewAt.start (zs := zs) (k := q + 1) (by rw [HN.out]; exact hlt) HNW.out HNA.out
          have HNA0 := Lib.hid hna0
          have HNL0 := Lib.hid hnl0
          clear hna0 hnl0
          go_wp2_with fail
          go_region_held3 (fun W => Below wr.heap.size wr W) (first | assumption | exact (Below.refl _ wr).drew) (first
            | (go_at_call 57; (refine (SM.out x y _).mono ?_); rintro e v1 ⟨rfl, hb⟩; have S1 := Below.trans (by assumption) (hb.mono (Below.size (by assumption))); clear hb))
          have S3 : Below wr.heap.size wr v1 := by assumption
          have HB3 := Lib.hid (HB.out.trans (S3.mono HB.out.size))
          have HA3 := Lib.hid (HAt.out.kept (Turned.of_below S3 (Nat.le_refl _) NoBlock) (fun h => h))
          clear lx ly S3
          go_wp2
          go_loopg [5, 7] (n - (q + 1 + 1)) (fun gh i j wr => ∃ (t j' : Nat) (ys : List PlM), 1 ≤ j' ∧ q + 1 + j' ≤ n ∧ gh = n - (q + 1 + j') ∧ i = .int .i64 t ∧ j = .int .i64 j' ∧ Hid (t = (news zs (q + 1 + j')).length) ∧ NewAt zs ys (q + 1 + j') ∧ At wr g 75 (pls ys ++ rest) ∧ Turned (Just g) w wr)
          case atStart => exact ⟨q + 1, 1, zs, Nat.le_refl _, hlt, rfl, by go_num, rfl, Lib.hid HNL0.out.symm, HNA0.out, HA3.out, Turned.of_below HB3.out (Nat.le_refl _) _⟩
          case round =>
            obtain ⟨t, j, ys, hj1, hjn, rfl, rfl, rfl, HTL, hna, hA, hT⟩ := hrel
            have HNE := Lib.hid hna
            have HA4 := Lib.hid hA
            have HT4 := Lib.hid hT
            have HLE : Hid (t < q + 1 + j) := Lib.hid (by rw [HTL.out]; exact hna.le)
            have HYL : Hid (ys.length = n) := Lib.hid (hna.len.trans HN.out)
            clear hna hA hT
            by_cases hlt2 : q + 1 + j < n
            · obtain ⟨i, rfl⟩ : ∃ i, j = i + 1 := ⟨j - 1, by omega⟩
              have hL : ((n - (q + 1) : Nat) : Int) = (n : Int) - ((q : Int) + 1) := by omega
              have hj0 : (0 : Int) ≤ (i : Int) := by omega
              have hj2 : (0 : Int) ≤ (i : Int) + 1 := by omega
              have hj3 : (i : Int) + 1 < ((n - (q + 1) : Nat) : Int) := by omega
              have hj4 : (i : Int) < ((n - (q + 1) : Nat) : Int) := by omega
              have hwi : IntKind.i64.wrap (i : Int) = (i : Int) := by rw [IntKind.wrap_i64]; omega
              have e2 : ((i : Int) + 1).toNat = i + 1 := by omega
              have ht0 : (0 : Int) ≤ (t : Int) := by omega
              have ht1 : (t : Int) < (n : Int) := by have := HLE.out; omega
              obtain ⟨x', hx⟩ : ∃ x, x = plN zs (q + 1 + (i + 1)) := ⟨_, rfl⟩
              obtain ⟨y', hy⟩ : ∃ y, y = plN zs (q + 1 + i) := ⟨_, rfl⟩
              have rx := HA4.out.place (j := q + 1 + (i + 1)) (by have := HYL.out; omega)
              have ry := HA4.out.place (j := q + 1 + i) (by have := HYL.out; omega)
              rw [HNE.out.old _ (by omega), ← hx, Nat.add_mul (q + 1) (i + 1) 9] at rx
              rw [HNE.out.old _ (by omega), ← hy, Nat.add_mul (q + 1) i 9] at ry
              have HX2 := Lib.hid hx
              have HY2 := Lib.hid hy
              have HRX2 := Lib.hid rx
              have HRY2 := Lib.hid ry
              have HG2 := Lib.hid HA4.out.lt
              have lx : ∀ W, Below wr.heap.size wr W → (op_ex (ldB 75) (.pointer (some ⟨g, (q + 1) * 9 + (i + 1) * 9, none⟩)) W).choose = .ok (.value (.agg (plC x').toArray)) W := fun W hW => ldP_at (range_kept HRX2.out (hW.block g HG2.out))
              have ly : ∀ W, Below wr.heap.size wr W → (op_ex (ldB 75) (.pointer (some ⟨g, (q + 1) * 9 + i * 9, none⟩)) W).choose = .ok (.value (.agg (plC y').toArray)) W := fun W hW => ldP_at (range_kept HRY2.out (hW.block g HG2.out))
              clear hx hy rx ry hL
              by_cases hc : x'.p.s = y'.p.s
              · have hcd2 : decide (x'.p.s = y'.p.s) = true := decide_eq_true hc
                have HNB : Hid (newAt zs (q + 1 + (i + 1)) = false) := Lib.hid (by
                  unfold newAt
                  rw [show q + 1 + (i + 1) - 1 = q + 1 + i by omega, ← HX2.out, ← HY2.out]
                  exact decide_eq_false (by rintro (h | h); omega; exact h hc))
                clear hc
                go_wp2_with fail
                go_region_held3 (fun W => Below wr.heap.size wr W) (first | assumption | exact (Below.refl _ wr).drew) (first
                  | (go_at_call 57; (refine (SM.out x' y' _).mono ?_); rintro e v2 ⟨rfl, hb⟩; have S1 := Below.trans (by assumption) (hb.mono (Below.size (by assumption))); clear hb))
                have S3 : Below wr.heap.size wr v2 := by assumption
                have HA5 := Lib.hid (HA4.out.kept (Turned.of_below S3 (Nat.le_refl _) NoBlock) (fun h => h))
                have HT5 := Lib.hid (HT4.out.trans (Turned.of_below S3 (Nat.le_refl _) _))
                clear lx ly S3
                go_wp2
                go_roundg (n - (q + 1 + (i + 1 + 1)))
                case measure => omega
                case rel =>
                  obtain ⟨n1, n2⟩ := HNE.out.skip HNB.out
                  exact ⟨t, i + 1 + 1, ys, by omega, by omega, rfl, rfl, by go_num, Lib.hid (by rw [HTL.out]; exact congrArg List.length n2.symm), n1, HA5.out, HT5.out⟩
              · have hcd2 : decide (x'.p.s = y'.p.s) = false := decide_eq_false hc
                have HNB : Hid (newAt zs (q + 1 + (i + 1)) = true) := Lib.hid (by
                  unfold newAt
                  rw [show q + 1 + (i + 1) - 1 = q + 1 + i by omega, ← HX2.out, ← HY2.out]
                  exact decide_eq_true (.inr hc))
                clear hc
                go_wp2_with fail
                go_region_held3 (fun W => Below wr.heap.size wr W) (first | assumption | exact (Below.refl _ wr).drew) (first
                  | (go_at_call 57; (refine (SM.out x' y' _).mono ?_); rintro e v2 ⟨rfl, hb⟩; have S1 := Below.trans (by assumption) (hb.mono (Below.size (by assumption))); clear hb))
                have S3 : Below wr.heap.size wr v2 := by assumption
                have hA5 : At v2 g 75 (pls ys ++ rest) := HA4.out.kept (Turned.of_below S3 (Nat.le_refl _) NoBlock) (fun h => h)
                have HT5 := Lib.hid (HT4.out.trans (Turned.of_below S3 (Nat.le_refl _) _))
                have lx2 := lx v2 S3
                have hlt9 : t < ys.length := by have := HYL.out; have := HLE.out; omega
                have st2 := stP_at hA5 hlt9 x'
                obtain ⟨V3, hV3⟩ : ∃ V, V = v2.setCells g (t * 9) (plC x') := ⟨_, rfl⟩
                rw [← hV3] at st2
                have hA6 := hA5.put9 hlt9 x'
                have hT6 := turned_setCells g (plC x') (t * 9) v2
                rw [← hV3] at hA6 hT6
                have HA6 := Lib.hid hA6
                have HT6 := Lib.hid (HT5.out.trans hT6)
                clear lx ly S3 hA5 hA6 hT6 hV3 hlt9
                go_wp2
                go_roundg (n - (q + 1 + (i + 1 + 1)))
                case measure => omega
                case rel =>
                  obtain ⟨n1, n2⟩ := HNE.out.take (by rw [HN.out]; exact hlt2) HNB.out
                  rw [← HTL.out, ← HX2.out] at n1
                  exact ⟨t + 1, i + 1 + 1, _, by omega, by omega, rfl, by go_num, by go_num, Lib.hid (by rw [HTL.out]; exact n2.symm), n1, HA6.out, HT6.out⟩
            · have hjn2 : q + 1 + j = n := by omega
              have hj3 : ¬ (j : Int) < ((n - (q + 1) : Nat) : Int) := by omega
              have ht0 : (0 : Int) ≤ (t : Int) := by omega
              have ht1 : (t : Int) < (n : Int) := by have := HLE.out; omega
              have ht2 : (t : Int) ≤ (n : Int) := by omega
              have ht3 : (t : Int) ≤ (cap : Int) := by omega
              have ht4 : ¬ cap = t := by omega
              have hne := HNE.out
              rw [hjn2, ← HN.out] at hne
              have HEND := Lib.hid hne.end_
              have HTE : Hid (t = (news zs n).length) := Lib.hid (by rw [HTL.out, hjn2])
              obtain ⟨W1, hcl, hA7, hT7⟩ : ∃ W1, (∀ ty, (Builtin.clear_ #[78] ty #[.slice (some ⟨g, t * 9, none⟩) (n - t) (cap - t)]).run Tryz.prog wr = .ok (.tuple #[]) W1) ∧ At W1 g 75 (pls (ys.take t) ++ (zeros9 (n - t) ++ rest)) ∧ Turned (Just g) wr W1 := by
                obtain ⟨W1, a1, a2, a3⟩ := clear_at (c := cap - t) HA4.out (k := t) (m := n - t) (by have := HYL.out; omega) (by omega) 0
                exact ⟨W1, fun ty => a1, a2, a3⟩
              have HA7 := Lib.hid hA7
              have HT7 := Lib.hid (HT4.out.trans hT7)
              clear hne hA7 hT7
              go_wp2
              go_ret
              refine ⟨t, rfl, HTE.out, ⟨zeros9 (n - t) ++ rest, ?_⟩, HT7.out⟩
              have e9 := HEND.out
              rw [HN.out, ← HTE.out] at e9
              rw [← e9]
              exact HA7.out
        · have hcd : decide (x.p.s = y.p.s) = false := decide_eq_false hc
          have HNA : Hid (newAt zs (q + 1) = true) := Lib.hid (by
            unfold newAt
            rw [Nat.add_sub_cancel, ← HX.out, ← HY.out]
            exact decide_eq_true (.inr hc))
          clear hc
          go_wp2_with fail
          go_region_held3 (fun W => Below wr.heap.size wr W) (first | assumption | exact (Below.refl _ wr).drew) (first
            | (go_at_call 57; (refine (SM.out x y _).mono ?_); rintro e v1 ⟨rfl, hb⟩; have S1 := Below.trans (by assumption) (hb.mono (Below.size (by assumption))); clear hb))
          have S3 : Below wr.heap.size wr v1 := by assumption
          have HB3 := Lib.hid (HB.out.trans (S3.mono HB.out.size))
          clear lx ly S3
          go_wp2
          go_roundg (n - (q + 1 + 1))
          case measure => omega
          case rel => exact ⟨q + 1 + 1, by omega, by omega, rfl, by go_num, HB3.out, fun j hj => by
            by_cases e : j = q + 1
            · rw [e]; exact HNA.out
            · exact HNW.out j (by omega)⟩
      · obtain rfl : k = n := by omega
        have HE : Hid (news zs k = zs) := Lib.hid (by
          rw [news_all (by rw [HN.out]; exact Nat.le_refl _) HNW.out, ← HN.out, List.take_length])
        go_wp2
        go_ret
        exact ⟨k, rest, rfl, by rw [HE.out, HN.out], by rw [HE.out]; exact HA.out.kept (Turned.of_below HB.out (Nat.le_refl _) NoBlock) (fun h => h), Turned.of_below HB.out (Nat.le_refl _) _⟩
end Go.Proofs.YtpkkejdjhnmjiaaGreat
