/- The contract of the library's merge, at places (layer latest): a row of one place ahead of another row. | The contract of the library's merge, at places (layer latest): a row of one place behind another row. | The contract of the library's merge, at places (layer latest). -/
import Derived.Test.YtfpfcmgcfbkolaaLatSwap
import Derived.Deep.RegionWith
import Derived.Deep.DeepCutAuto
namespace Go.Proofs.Ytfpfcmgcfbkolaa
open Go.RowKit Bm

attribute [local go_sem ↓] Go.wp_at_zero Go.wp_at_succ ldPS_eq stP_eq

set_option maxRecDepth 100000 in
set_option maxHeartbeats 4000000 in
theorem symA_any (g n cap a m b : Nat) (xs : List PlM) (rest : List Value) (w : World) (hA : At w g 42 (pls xs ++ rest)) (hn : xs.length = n) (ham : m = a + 1) (hab : m < b) (hb : b ≤ n) (hm : n ≤ 1000000)
    (hl : Srt xs a m) (hr : Srt xs m b) (ho : Bef xs a m b) :
    Calls Try.prog 61 #[.slice (some ⟨g, 0, none⟩) n cap, .int .i64 a, .int .i64 m, .int .i64 b, .func (.func 36) #[] #[]] w fun e w' => e = .returned (.tuple #[]) ∧ ∃ ys, Mix a b xs ys ∧ Srt ys a b ∧ At w' g 42 (pls ys ++ rest) ∧ Turned (Just g) w w' := by
  have HN := Lib.hid hn
  have HA := Lib.hid hA
  have HO := Lib.hid ho
  have HL := Lib.hid hl
  have HR := Lib.hid hr
  have CM := Lib.hid cmp_any
  have hab' : (m : Int) < (b : Int) := by omega
  have ham' : (a : Int) < (m : Int) := by omega
  have hb' : (b : Int) ≤ (n : Int) := by omega
  have hm' : (n : Int) ≤ 1000000 := by omega
  have d1 : (m : Int) - (a : Int) = 1 := by omega
  have HM1 := Lib.hid ham
  clear ham hn hA ho hl hr
  go_enter Try.func61, Try.ntmps61
  go_wp2
  go_loopg [10, 11] (b - m) (fun gh i j wr => ∃ (p q : Nat), m ≤ p ∧ p ≤ q ∧ q ≤ b ∧ gh = q - p ∧ i = .int .i64 p ∧ j = .int .i64 q ∧ Below w.heap.size w wr ∧ (∀ k, m ≤ k → k < p → LtP (plN xs k) (plN xs a)) ∧ (∀ k, q ≤ k → k < b → LtP (plN xs a) (plN xs k)))
  case atStart => exact ⟨m, b, by omega, by omega, by omega, rfl, rfl, rfl, Below.refl _ _, fun k h1 h2 => by omega, fun k h1 h2 => by omega⟩
  case round =>
    obtain ⟨p, q, hp, hpq, hqb, rfl, rfl, rfl, hB, h1, h2⟩ := hrel
    have HB := Lib.hid hB
    have H1 := Lib.hid h1
    have H2 := Lib.hid h2
    clear hB h1 h2
    by_cases hlt : p < q
    · have hlt' : (p : Int) < (q : Int) := by omega
      have hqb' : (q : Int) ≤ (b : Int) := by omega
      have hp' : (0 : Int) ≤ (p : Int) := by omega
      obtain ⟨h, hh⟩ : ∃ h : Nat, ((p : Int) + (q : Int)) / 2 = (h : Int) := ⟨((p + q) / 2 : Nat), by omega⟩
      have hh1 : p ≤ h := by omega
      have hh2 : h < q := by omega
      have hn1 : (h : Int) < (n : Int) := by omega
      have hn2 : (0 : Int) ≤ (h : Int) := by omega
      have hn3 : (a : Int) < (n : Int) := by omega
      have hn4 : (0 : Int) ≤ (a : Int) := by omega
      obtain ⟨x, hx⟩ : ∃ x, x = plN xs h := ⟨_, rfl⟩
      obtain ⟨y, hy⟩ : ∃ y, y = plN xs a := ⟨_, rfl⟩
      have hA1 : At wr g 42 (pls xs ++ rest) := HA.out.kept (Turned.of_below HB.out (Nat.le_refl _) NoBlock) (fun h => h)
      have rx := hA1.place (j := h) (by have := HN.out; omega)
      have ry := hA1.place (j := a) (by have := HN.out; omega)
      rw [← hx] at rx
      rw [← hy] at ry
      have HX := Lib.hid hx
      have HY := Lib.hid hy
      have HRX := Lib.hid rx
      have HRY := Lib.hid ry
      have HG := Lib.hid hA1.lt
      have lx : ∀ W, Below wr.heap.size wr W → (op_ex (ldB 42) (.pointer (some ⟨g, h * 9, none⟩)) W).choose = .ok (.value (.agg (plC x).toArray)) W := fun W hW => ldP_at (range_kept HRX.out (hW.block g HG.out))
      have ly : ∀ W, Below wr.heap.size wr W → (op_ex (ldB 42) (.pointer (some ⟨g, a * 9, none⟩)) W).choose = .ok (.value (.agg (plC y).toArray)) W := fun W hW => ldP_at (range_kept HRY.out (hW.block g HG.out))
      clear hx hy rx ry hA1
      by_cases hc : cmpP x y < 0
      · have HC := Lib.hid (lt_of_cmp hc)
        go_wp2_with fail
        go_region_held3 (fun W => Below wr.heap.size wr W) (first | assumption | exact (Below.refl _ wr).drew) (first
          | (go_at_call 36; (refine (CM.out x y _).mono ?_); rintro e v1 ⟨rfl, hb⟩; have S1 := Below.trans (by assumption) (hb.mono (Below.size (by assumption))); clear hb))
        have S3 : Below wr.heap.size wr v1 := by assumption
        have HB3 := Lib.hid (HB.out.trans (S3.mono HB.out.size))
        clear lx ly S3
        go_wp2
        go_roundg (q - (h + 1))
        case measure => omega
        case rel => exact ⟨h + 1, q, by omega, by omega, hqb, rfl, by go_num, rfl, HB3.out, fun k h1 h2 => by
          by_cases e : k = h
          · rw [e, ← HX.out, ← HY.out]; exact HC.out
          · have hk : LtP (plN xs k) x := by rw [HX.out]; exact HR.out k h h1 (by omega) (by omega)
            rw [← HY.out]; exact hk.trans HC.out, H2.out⟩
      · have HC : Hid (LtP y x) := Lib.hid (lt_of_not (by rw [HX.out, HY.out]; exact HO.out a h (Nat.le_refl _) (by omega) (by omega) (by omega)) hc)
        go_wp2_with fail
        go_region_held3 (fun W => Below wr.heap.size wr W) (first | assumption | exact (Below.refl _ wr).drew) (first
          | (go_at_call 36; (refine (CM.out x y _).mono ?_); rintro e v1 ⟨rfl, hb⟩; have S1 := Below.trans (by assumption) (hb.mono (Below.size (by assumption))); clear hb))
        have S3 : Below wr.heap.size wr v1 := by assumption
        have HB3 := Lib.hid (HB.out.trans (S3.mono HB.out.size))
        clear lx ly S3
        go_wp2
        go_roundg (h - p)
        case measure => omega
        case rel => exact ⟨p, h, hp, hh1, by omega, rfl, rfl, by go_num, HB3.out, H1.out, fun k h1 h2 => by
          by_cases e : k = h
          · rw [e, ← HX.out, ← HY.out]; exact HC.out
          · have hk : LtP x (plN xs k) := by rw [HX.out]; exact HR.out h k (by omega) (by omega) h2
            rw [← HY.out]; exact HC.out.trans hk⟩
    · obtain rfl : p = q := by omega
      have hA1 : At wr g 42 (pls xs ++ rest) := HA.out.kept (Turned.of_below HB.out (Nat.le_refl _) NoBlock) (fun h => h)
      have HAt := Lib.hid hA1
      have HT0 := Lib.hid (Turned.of_below HB.out (Nat.le_refl _) (Just g))
      have hp' : (m : Int) ≤ (p : Int) := by omega
      have hpb' : (p : Int) ≤ (b : Int) := by omega
      have HSP := Lib.hid (Split.one_low (xs := xs) (b := b) HM1.out ⟨hp, hqb⟩ H1.out)
      clear hA1
      go_wp2
      go_loopg [13] (p - 1 - a) (fun gh i wr => ∃ (k : Nat) (ys : List PlM), a ≤ k ∧ k + 1 ≤ p ∧ gh = p - 1 - k ∧ i = .int .i64 k ∧ Rot xs ys a m (k + 1) ∧ At wr g 42 (pls ys ++ rest) ∧ Turned (Just g) w wr)
      case atStart => exact ⟨a, xs, by omega, by have := HM1.out; omega, rfl, rfl, Rot.none (by omega) (by have := HM1.out; omega) (.inr HM1.out.symm), HAt.out, HT0.out⟩
      case round =>
        obtain ⟨k, ys, hak, hkp, rfl, rfl, hr, hA, hT⟩ := hrel
        by_cases hlt2 : k + 1 < p
        · have hl : ys.length = n := hr.len.trans HN.out
          obtain ⟨W1, W2, l1, l2, s1, s2, hA2, hT2⟩ := swap_at hA.drew (i := k) (j := k + 1) (by omega) (by omega)
          have HS := Lib.hid (Rot.up_of HM1.out hr hak (by have := HN.out; omega))
          have HA2 := Lib.hid hA2
          have HT := Lib.hid (hT.drew.trans hT2)
          clear hr hA2 hA hT hT2 hl
          obtain ⟨x, hx⟩ : ∃ x, x = plN ys k := ⟨_, rfl⟩
          obtain ⟨y, hy⟩ : ∃ y, y = plN ys (k + 1) := ⟨_, rfl⟩
          rw [← hx] at l1 s2
          rw [← hy] at l2 s1
          clear hx hy
          have e1 : ((k : Int) + 1).toNat = k + 1 := by omega
          have f1 : (0 : Int) ≤ (k : Int) := by omega
          have f2 : (0 : Int) ≤ (k : Int) + 1 := by omega
          have f3 : (k : Int) < (n : Int) := by omega
          have f4 : (k : Int) + 1 < (n : Int) := by omega
          have i0 : (k : Int) < (p : Int) - 1 := by omega
          go_wp2_with fail
          go_big_region
          all_goals
            go_wp2
            go_roundg (p - 1 - (k + 1))
            case measure => omega
            case rel => exact ⟨k + 1, _, by omega, by omega, rfl, by go_num, HS.out, HA2.out, HT.out⟩
        · obtain rfl : k + 1 = p := by omega
          have i0 : ¬ (k : Int) < ((k + 1 : Nat) : Int) - 1 := by omega
          have HS := Lib.hid (HSP.out.sorted_low HL.out HR.out hr HM1.out H2.out)
          have HM := Lib.hid (HSP.out.mix hr)
          have HAe := Lib.hid hA
          have HTe := Lib.hid hT
          clear hr hA hT
          go_wp2
          refine bodyPost_ret (results_none rfl _ _ _) rfl ?_
          exact ⟨rfl, ys, HM.out, HS.out, HAe.out, HTe.out⟩
end Go.Proofs.Ytfpfcmgcfbkolaa

namespace Go.Proofs.Ytfpfcmgcfbkolaa
open Go.RowKit Bm

attribute [local go_sem ↓] Go.wp_at_zero Go.wp_at_succ ldPS_eq stP_eq

set_option maxRecDepth 100000 in
set_option maxHeartbeats 4000000 in
theorem symB_any (g n cap a m b : Nat) (xs : List PlM) (rest : List Value) (w : World) (hA : At w g 42 (pls xs ++ rest)) (hn : xs.length = n) (hbm : b = m + 1) (hab : a + 1 < m) (hb : b ≤ n) (hm : n ≤ 1000000)
    (hl : Srt xs a m) (hr : Srt xs m b) (ho : Bef xs a m b) :
    Calls Try.prog 61 #[.slice (some ⟨g, 0, none⟩) n cap, .int .i64 a, .int .i64 m, .int .i64 b, .func (.func 36) #[] #[]] w fun e w' => e = .returned (.tuple #[]) ∧ ∃ ys, Mix a b xs ys ∧ Srt ys a b ∧ At w' g 42 (pls ys ++ rest) ∧ Turned (Just g) w w' := by
  have HN := Lib.hid hn
  have HA := Lib.hid hA
  have HO := Lib.hid ho
  have HL := Lib.hid hl
  have HR := Lib.hid hr
  have CM := Lib.hid cmp_any
  have hab' : (a : Int) + 1 < (m : Int) := by omega
  have hmb' : (m : Int) < (b : Int) := by omega
  have hb' : (b : Int) ≤ (n : Int) := by omega
  have hm' : (n : Int) ≤ 1000000 := by omega
  have d0 : ((m : Int) - (a : Int) == 1) = false := by rw [beq_eq_false_iff_ne]; omega
  have d1 : (b : Int) - (m : Int) = 1 := by omega
  have HM1 := Lib.hid hbm
  clear hbm hn hA ho hl hr
  go_enter Try.func61, Try.ntmps61
  go_wp2
  go_loopg [14, 15] (m - a) (fun gh i j wr => ∃ (p q : Nat), a ≤ p ∧ p ≤ q ∧ q ≤ m ∧ gh = q - p ∧ i = .int .i64 p ∧ j = .int .i64 q ∧ Below w.heap.size w wr ∧ (∀ k, a ≤ k → k < p → LtP (plN xs k) (plN xs m)) ∧ (∀ k, q ≤ k → k < m → LtP (plN xs m) (plN xs k)))
  case atStart => exact ⟨a, m, by omega, by omega, by omega, rfl, rfl, rfl, Below.refl _ _, fun k h1 h2 => by omega, fun k h1 h2 => by omega⟩
  case round =>
    obtain ⟨p, q, hp, hpq, hqb, rfl, rfl, rfl, hB, h1, h2⟩ := hrel
    have HB := Lib.hid hB
    have H1 := Lib.hid h1
    have H2 := Lib.hid h2
    clear hB h1 h2
    by_cases hlt : p < q
    · have hlt' : (p : Int) < (q : Int) := by omega
      have hqb' : (q : Int) ≤ (m : Int) := by omega
      have hp' : (a : Int) ≤ (p : Int) := by omega
      obtain ⟨h, hh⟩ : ∃ h : Nat, ((p : Int) + (q : Int)) / 2 = (h : Int) := ⟨((p + q) / 2 : Nat), by omega⟩
      have hh1 : p ≤ h := by omega
      have hh2 : h < q := by omega
      have hn1 : (h : Int) < (n : Int) := by omega
      have hn2 : (0 : Int) ≤ (h : Int) := by omega
      have hn3 : (m : Int) < (n : Int) := by omega
      have hn4 : (0 : Int) ≤ (m : Int) := by omega
      obtain ⟨x, hx⟩ : ∃ x, x = plN xs m := ⟨_, rfl⟩
      obtain ⟨y, hy⟩ : ∃ y, y = plN xs h := ⟨_, rfl⟩
      have hA1 : At wr g 42 (pls xs ++ rest) := HA.out.kept (Turned.of_below HB.out (Nat.le_refl _) NoBlock) (fun h => h)
      have rx := hA1.place (j := m) (by have := HN.out; omega)
      have ry := hA1.place (j := h) (by have := HN.out; omega)
      rw [← hx] at rx
      rw [← hy] at ry
      have HX := Lib.hid hx
      have HY := Lib.hid hy
      have HRX := Lib.hid rx
      have HRY := Lib.hid ry
      have HG := Lib.hid hA1.lt
      have lx : ∀ W, Below wr.heap.size wr W → (op_ex (ldB 42) (.pointer (some ⟨g, m * 9, none⟩)) W).choose = .ok (.value (.agg (plC x).toArray)) W := fun W hW => ldP_at (range_kept HRX.out (hW.block g HG.out))
      have ly : ∀ W, Below wr.heap.size wr W → (op_ex (ldB 42) (.pointer (some ⟨g, h * 9, none⟩)) W).choose = .ok (.value (.agg (plC y).toArray)) W := fun W hW => ldP_at (range_kept HRY.out (hW.block g HG.out))
      clear hx hy rx ry hA1
      by_cases hc : cmpP x y < 0
      · have HC := Lib.hid (lt_of_cmp hc)
        have hcd : decide (cmpP x y < 0) = true := decide_eq_true hc
        clear hc
        go_wp2_with fail
        go_region_held3 (fun W => Below wr.heap.size wr W) (first | assumption | exact (Below.refl _ wr).drew) (first
          | (go_at_call 36; (refine (CM.out x y _).mono ?_); rintro e v1 ⟨rfl, hb⟩; have S1 := Below.trans (by assumption) (hb.mono (Below.size (by assumption))); clear hb))
        have S3 : Below wr.heap.size wr v1 := by assumption
        have HB3 := Lib.hid (HB.out.trans (S3.mono HB.out.size))
        clear lx ly S3
        go_wp2
        go_roundg (h - p)
        case measure => omega
        case rel => exact ⟨p, h, hp, hh1, by omega, rfl, rfl, by go_num, HB3.out, H1.out, fun k h1 h2 => by
          by_cases e : k = h
          · rw [e, ← HX.out, ← HY.out]; exact HC.out
          · have hk : LtP y (plN xs k) := by rw [HY.out]; exact HL.out h k (by omega) (by omega) h2
            rw [← HX.out]; exact HC.out.trans hk⟩
      · have HC : Hid (LtP y x) := Lib.hid (lt_of_not (by rw [HX.out, HY.out]; exact HO.out h m (by omega) (by omega) (by omega) (by omega)) hc)
        have hcd : decide (cmpP x y < 0) = false := decide_eq_false hc
        clear hc
        go_wp2_with fail
        go_region_held3 (fun W => Below wr.heap.size wr W) (first | assumption | exact (Below.refl _ wr).drew) (first
          | (go_at_call 36; (refine (CM.out x y _).mono ?_); rintro e v1 ⟨rfl, hb⟩; have S1 := Below.trans (by assumption) (hb.mono (Below.size (by assumption))); clear hb))
        have S3 : Below wr.heap.size wr v1 := by assumption
        have HB3 := Lib.hid (HB.out.trans (S3.mono HB.out.size))
        clear lx ly S3
        go_wp2
        go_roundg (q - (h + 1))
        case measure => omega
        case rel => exact ⟨h + 1, q, by omega, by omega, hqb, rfl, by go_num, rfl, HB3.out, fun k h1 h2 => by
          by_cases e : k = h
          · rw [e, ← HX.out, ← HY.out]; exact HC.out
          · have hk : LtP (plN xs k) y := by rw [HY.out]; exact HL.out k h h1 (by omega) (by omega)
            rw [← HX.out]; exact hk.trans HC.out, H2.out⟩
    · obtain rfl : p = q := by omega
      have hA1 : At wr g 42 (pls xs ++ rest) := HA.out.kept (Turned.of_below HB.out (Nat.le_refl _) NoBlock) (fun h => h)
      have HAt := Lib.hid hA1
      have HT0 := Lib.hid (Turned.of_below HB.out (Nat.le_refl _) (Just g))
      have hp' : (p : Int) ≤ (m : Int) := by omega
      have HSP := Lib.hid (Split.one_high (xs := xs) (a := a) HM1.out ⟨hp, hqb⟩ H2.out)
      clear hA1
      go_wp2
      go_loopg [17] (m - p) (fun gh i wr => ∃ (k : Nat) (ys : List PlM), p ≤ k ∧ k ≤ m ∧ gh = k - p ∧ i = .int .i64 k ∧ Rot xs ys k m b ∧ At wr g 42 (pls ys ++ rest) ∧ Turned (Just g) w wr)
      case atStart => exact ⟨m, xs, by omega, by omega, rfl, rfl, Rot.none (by omega) (by have := HM1.out; omega) (.inl rfl), HAt.out, HT0.out⟩
      case round =>
        obtain ⟨k, ys, hak, hkp, rfl, rfl, hr, hA, hT⟩ := hrel
        by_cases hlt2 : p < k
        · obtain ⟨k, rfl⟩ : ∃ k', k = k' + 1 := ⟨k - 1, by omega⟩
          have hl : ys.length = n := hr.len.trans HN.out
          obtain ⟨W1, W2, l1, l2, s1, s2, hA2, hT2⟩ := swap_at hA.drew (i := k + 1) (j := k) (by omega) (by omega)
          have HS := Lib.hid (Rot.down_of HM1.out hr (by omega) (by have := HN.out; omega))
          have HA2 := Lib.hid hA2
          have HT := Lib.hid (hT.drew.trans hT2)
          clear hr hA2 hA hT hT2 hl
          obtain ⟨x, hx⟩ : ∃ x, x = plN ys (k + 1) := ⟨_, rfl⟩
          obtain ⟨y, hy⟩ : ∃ y, y = plN ys k := ⟨_, rfl⟩
          rw [← hx] at l1 s2
          rw [← hy] at l2 s1
          clear hx hy
          have e1 : ((k : Int) + 1).toNat = k + 1 := by omega
          have f1 : (0 : Int) ≤ (k : Int) := by omega
          have f2 : (0 : Int) ≤ (k : Int) + 1 := by omega
          have f3 : (k : Int) < (n : Int) := by omega
          have f4 : (k : Int) + 1 < (n : Int) := by omega
          have i0 : (p : Int) < (k : Int) + 1 := by omega
          have hwp : IntKind.i64.wrap (k : Int) = (k : Int) := by rw [IntKind.wrap_i64]; omega
          go_wp2_with fail
          go_big_region
          all_goals
            go_wp2
            go_roundg (k - p)
            case measure => omega
            case rel => exact ⟨k, _, by omega, by omega, rfl, by go_num, HS.out, HA2.out, HT.out⟩
        · obtain rfl : k = p := by omega
          have HS := Lib.hid (HSP.out.sorted_high HL.out HR.out hr HM1.out H1.out)
          have HM := Lib.hid (HSP.out.mix hr)
          have HAe := Lib.hid hA
          have HTe := Lib.hid hT
          clear hr hA hT
          go_wp2
          refine bodyPost_ret (results_none rfl _ _ _) rfl ?_
          exact ⟨rfl, ys, HM.out, HS.out, HAe.out, HTe.out⟩
end Go.Proofs.Ytfpfcmgcfbkolaa

namespace Go.Proofs.Ytfpfcmgcfbkolaa
open Go.RowKit Bm

attribute [local go_sem ↓] Go.wp_at_zero Go.wp_at_succ ldPS_eq stP_eq

section
variable {xs ys zs : List PlM} {a s m e b mid : Nat}
theorem Split.no_left (h : Split xs a s m e b) (hl : Srt xs a m) (hr : Srt xs m b) (hy : Rot xs ys s m e) (hm : s + (e - m) = mid) (hn : ¬ (a < s ∧ s < mid)) : Srt ys a mid := by
  obtain ⟨r1, r2, _, _⟩ := h.rows hl hr hy
  have hle := h.le
  rw [hm] at r2
  by_cases e1 : a < s
  · obtain rfl : mid = s := by omega
    exact r1
  · obtain rfl : s = a := by omega
    exact r2
theorem Split.no_right (h : Split xs a s m e b) (hl : Srt xs a m) (hr : Srt xs m b) (hy : Rot xs ys s m e) (hm : s + (e - m) = mid) (hz : Mix a mid ys zs) (hn : ¬ (mid < e ∧ e < b)) : Srt zs mid b := by
  obtain ⟨_, _, r3, r4⟩ := h.rows hl hr hy
  have hle := h.le
  rw [hm] at r3
  by_cases e1 : mid < e
  · obtain rfl : e = b := by omega
    exact r3.out hz (.inr (Nat.le_refl _))
  · obtain rfl : mid = e := by omega
    exact r4.out hz (.inr (Nat.le_refl _))
end

/-- What a merge says of itself. -/
def SymSays (g n cap : Nat) (rest : List Value) (d : Nat) : Prop :=
  ∀ (a m b : Nat) (xs : List PlM) (w : World), b - a ≤ d → At w g 42 (pls xs ++ rest) → xs.length = n → a < m → m < b → b ≤ n → Srt xs a m → Srt xs m b → Bef xs a m b →
    Calls Try.prog 61 #[.slice (some ⟨g, 0, none⟩) n cap, .int .i64 a, .int .i64 m, .int .i64 b, .func (.func 36) #[] #[]] w fun e w' => e = .returned (.tuple #[]) ∧ ∃ ys, Mix a b xs ys ∧ Srt ys a b ∧ At w' g 42 (pls ys ++ rest) ∧ Turned (Just g) w w'

set_option maxRecDepth 100000 in
set_option maxHeartbeats 8000000 in
theorem symC_any (g n cap d : Nat) (rest : List Value) (IH : SymSays g n cap rest d) (a m b : Nat) (xs : List PlM) (w : World) (hd : b - a ≤ d + 1) (hA : At w g 42 (pls xs ++ rest)) (hn : xs.length = n) (ham : a + 1 < m) (hmb : m + 1 < b) (hb : b ≤ n) (hm : n ≤ 1000000)
    (hl : Srt xs a m) (hr : Srt xs m b) (ho : Bef xs a m b) :
    Calls Try.prog 61 #[.slice (some ⟨g, 0, none⟩) n cap, .int .i64 a, .int .i64 m, .int .i64 b, .func (.func 36) #[] #[]] w fun e w' => e = .returned (.tuple #[]) ∧ ∃ ys, Mix a b xs ys ∧ Srt ys a b ∧ At w' g 42 (pls ys ++ rest) ∧ Turned (Just g) w w' := by
  have HN := Lib.hid hn
  have HA := Lib.hid hA
  have HO := Lib.hid ho
  have HL := Lib.hid hl
  have HR := Lib.hid hr
  have HIH := Lib.hid IH
  have CM := Lib.hid cmp_any
  have ham' : (a : Int) + 1 < (m : Int) := by omega
  have hmb' : (m : Int) + 1 < (b : Int) := by omega
  have hb' : (b : Int) ≤ (n : Int) := by omega
  have hm' : (n : Int) ≤ 1000000 := by omega
  have d0 : ((m : Int) - (a : Int) == 1) = false := by rw [beq_eq_false_iff_ne]; omega
  have d1 : ((b : Int) - (m : Int) == 1) = false := by rw [beq_eq_false_iff_ne]; omega
  obtain ⟨mid, hmid⟩ : ∃ k : Nat, ((a : Int) + (b : Int)) / 2 = (k : Int) := ⟨((a + b) / 2 : Nat), by omega⟩
  have HMD : Hid (mid = (a + b) / 2) := Lib.hid (by omega)
  have hmid1 : (a : Int) + 1 < (mid : Int) := by omega
  have hmid2 : (mid : Int) + 1 < (b : Int) := by omega
  clear hn hA ho hl hr IH
  go_enter Try.func61, Try.ntmps61
  go_upto_if 140 with fail
  go_cut [20, 21] (fun s20 s21 wx => ∃ lo hi : Nat, s20 = .int .i64 lo ∧ s21 = .int .i64 hi ∧ wx = w ∧ Hid ((m ≤ mid ∧ lo = a ∧ hi = m) ∨ (mid < m ∧ lo = mid + m - b ∧ hi = mid)))
  case first =>
    by_cases h1 : mid < m
    · have h1' : (mid : Int) < (m : Int) := by omega
      obtain ⟨lo, hlo⟩ : ∃ k : Nat, (mid : Int) + (m : Int) - (b : Int) = (k : Int) := ⟨(mid + m - b : Nat), by omega⟩
      have HLO : Hid (lo = mid + m - b) := Lib.hid (by omega)
      go_wp2
      go_meet
      exact ⟨lo, mid, rfl, rfl, rfl, Lib.hid (.inr ⟨h1, HLO.out, rfl⟩)⟩
    · have h1' : ¬ (mid : Int) < (m : Int) := by omega
      go_wp2
      go_meet
      exact ⟨a, m, rfl, rfl, rfl, Lib.hid (.inl ⟨by omega, rfl, rfl⟩)⟩
  case rest =>
    obtain ⟨lo, hi, rfl, rfl, rfl, HC⟩ := hcut
    have hlo : a ≤ lo ∧ lo ≤ hi ∧ hi ≤ m := by have := HC.out; have := HMD.out; omega
    have HLH := Lib.hid hlo
    clear hlo
    go_wp2
    go_loopg [20, 21] (hi - lo) (fun gh i j wr => ∃ (p q : Nat), lo ≤ p ∧ p ≤ q ∧ q ≤ hi ∧ gh = q - p ∧ i = .int .i64 p ∧ j = .int .i64 q ∧ Below wc.heap.size wc wr ∧ (∀ c, lo ≤ c → c < p → LtP (plN xs c) (plN xs (mid + m - 1 - c))) ∧ (∀ c, q ≤ c → c < hi → LtP (plN xs (mid + m - 1 - c)) (plN xs c)))
    case atStart => exact ⟨lo, hi, by omega, HLH.out.2.1, by omega, rfl, rfl, rfl, Below.refl _ _, fun k h1 h2 => by omega, fun k h1 h2 => by omega⟩
    case round =>
      obtain ⟨p, q, hp, hpq, hqb, rfl, rfl, rfl, hB, h1, h2⟩ := hrel
      have HB := Lib.hid hB
      have H1 := Lib.hid h1
      have H2 := Lib.hid h2
      clear hB h1 h2
      by_cases hlt : p < q
      · have hlt' : (p : Int) < (q : Int) := by omega
        have hqb' : (q : Int) ≤ (m : Int) := by have := HLH.out; omega
        have hp' : (a : Int) ≤ (p : Int) := by have := HLH.out; omega
        obtain ⟨h, hh⟩ : ∃ h : Nat, ((p : Int) + (q : Int)) / 2 = (h : Int) := ⟨((p + q) / 2 : Nat), by omega⟩
        have hh1 : p ≤ h := by omega
        have hh2 : h < q := by omega
        have hh3 : lo ≤ h ∧ h < hi := by omega
        obtain ⟨t, ht⟩ : ∃ t : Nat, (mid : Int) + (m : Int) - 1 - (h : Int) = (t : Int) := ⟨(mid + m - 1 - h : Nat), by have := HLH.out; omega⟩
        have ht0 : mid + m - 1 - h = t := by omega
        have ht1 : m ≤ t ∧ t < b := by have := HC.out; have := HLH.out; have := HMD.out; omega
        have hh4 : a ≤ h ∧ h < m := by have := HLH.out; omega
        have HT0 := Lib.hid ht0
        have hn1 : (h : Int) < (n : Int) := by omega
        have hn2 : (0 : Int) ≤ (h : Int) := by omega
        have hn3 : (t : Int) < (n : Int) := by omega
        have hn4 : (0 : Int) ≤ (t : Int) := by omega
        have hwt : IntKind.i64.wrap (t : Int) = (t : Int) := by rw [IntKind.wrap_i64]; omega
        obtain ⟨x, hx⟩ : ∃ x, x = plN xs t := ⟨_, rfl⟩
        obtain ⟨y, hy⟩ : ∃ y, y = plN xs h := ⟨_, rfl⟩
        have hA1 : At wr g 42 (pls xs ++ rest) := HA.out.kept (Turned.of_below HB.out (Nat.le_refl _) NoBlock) (fun h => h)
        have rx := hA1.place (j := t) (by have := HN.out; omega)
        have ry := hA1.place (j := h) (by have := HN.out; omega)
        rw [← hx] at rx
        rw [← hy] at ry
        have HX := Lib.hid hx
        have HY := Lib.hid hy
        have HRX := Lib.hid rx
        have HRY := Lib.hid ry
        have HG := Lib.hid hA1.lt
        have lx : ∀ W, Below wr.heap.size wr W → (op_ex (ldB 42) (.pointer (some ⟨g, t * 9, none⟩)) W).choose = .ok (.value (.agg (plC x).toArray)) W := fun W hW => ldP_at (range_kept HRX.out (hW.block g HG.out))
        have ly : ∀ W, Below wr.heap.size wr W → (op_ex (ldB 42) (.pointer (some ⟨g, h * 9, none⟩)) W).choose = .ok (.value (.agg (plC y).toArray)) W := fun W hW => ldP_at (range_kept HRY.out (hW.block g HG.out))
        have HLA : Hid (∀ c, c < h → lo ≤ c → LtP (plN xs c) y ∧ LtP x (plN xs (mid + m - 1 - c))) := Lib.hid fun c c1 c2 => by
          rw [HX.out, HY.out]
          have := HLH.out
          have := HC.out
          exact ⟨HL.out c h (by omega) c1 (by omega), HR.out t _ (by omega) (by omega) (by omega)⟩
        have HLB : Hid (∀ c, h < c → c < hi → LtP y (plN xs c) ∧ LtP (plN xs (mid + m - 1 - c)) x) := Lib.hid fun c c1 c2 => by
          rw [HX.out, HY.out]
          have := HLH.out
          have := HC.out
          exact ⟨HL.out h c (by omega) c1 (by omega), HR.out _ t (by omega) (by omega) (by omega)⟩
        clear hx hy rx ry hA1 ht0
        by_cases hc : cmpP x y < 0
        · have HCC := Lib.hid (lt_of_cmp hc)
          have hcd : decide (cmpP x y < 0) = true := decide_eq_true hc
          clear hc
          go_wp2_with fail
          go_region_held3 (fun W => Below wr.heap.size wr W) (first | assumption | exact (Below.refl _ wr).drew) (first
            | (go_at_call 36; (refine (CM.out x y _).mono ?_); rintro e v1 ⟨rfl, hb⟩; have S1 := Below.trans (by assumption) (hb.mono (Below.size (by assumption))); clear hb))
          have S3 : Below wr.heap.size wr v1 := by assumption
          have HB3 := Lib.hid (HB.out.trans (S3.mono HB.out.size))
          clear lx ly S3
          go_wp2
          go_roundg (h - p)
          case measure => omega
          case rel => exact ⟨p, h, hp, hh1, by omega, rfl, rfl, by go_num, HB3.out, H1.out, fun c c1 c2 => by
            by_cases e : c = h
            · rw [e, HT0.out, ← HX.out, ← HY.out]; exact HCC.out
            · obtain ⟨k1, k2⟩ := HLB.out c (by omega) c2
              exact (k2.trans HCC.out).trans k1⟩
        · have HCC : Hid (LtP y x) := Lib.hid (lt_of_not (by rw [HX.out, HY.out]; exact HO.out h t (by omega) (by omega) (by omega) (by omega)) hc)
          have hcd : decide (cmpP x y < 0) = false := decide_eq_false hc
          clear hc
          go_wp2_with fail
          go_region_held3 (fun W => Below wr.heap.size wr W) (first | assumption | exact (Below.refl _ wr).drew) (first
            | (go_at_call 36; (refine (CM.out x y _).mono ?_); rintro e v1 ⟨rfl, hb⟩; have S1 := Below.trans (by assumption) (hb.mono (Below.size (by assumption))); clear hb))
          have S3 : Below wr.heap.size wr v1 := by assumption
          have HB3 := Lib.hid (HB.out.trans (S3.mono HB.out.size))
          clear lx ly S3
          go_wp2
          go_roundg (q - (h + 1))
          case measure => omega
          case rel => exact ⟨h + 1, q, by omega, by omega, hqb, rfl, by go_num, rfl, HB3.out, fun c c1 c2 => by
            by_cases e : c = h
            · rw [e, HT0.out, ← HX.out, ← HY.out]; exact HCC.out
            · obtain ⟨k1, k2⟩ := HLA.out c (by omega) c1
              exact (k1.trans HCC.out).trans k2, H2.out⟩
      · obtain rfl : p = q := by omega
        obtain ⟨e, he⟩ : ∃ t : Nat, (mid : Int) + (m : Int) - (p : Int) = (t : Int) := ⟨(mid + m - p : Nat), by have := HLH.out; omega⟩
        have he0 : e = mid + m - p := by omega
        have SP : Split xs a p m e b := by rw [he0]; exact Split.found (by omega) (by omega) HL.out HR.out HC.out HMD.out ⟨hp, hqb⟩ H1.out H2.out
        have hle := SP.le
        have hsm : p + (e - m) = mid := by omega
        have HSP := Lib.hid SP
        have HSM := Lib.hid hsm
        have HAt : Hid (At wr g 42 (pls xs ++ rest)) := Lib.hid (HA.out.kept (Turned.of_below HB.out (Nat.le_refl _) NoBlock) (fun h => h))
        have HT0 := Lib.hid (Turned.of_below HB.out (Nat.le_refl _) (Just g))
        have RT : Hid (p < m → m < e → Calls Try.prog 63 #[.slice (some ⟨g, 0, none⟩) n cap, .int .i64 p, .int .i64 m, .int .i64 e, .func (.func 36) #[] #[]] wr fun e' w' => e' = .returned (.tuple #[]) ∧ ∃ ys, Rot xs ys p m e ∧ At w' g 42 (pls ys ++ rest) ∧ Turned (Just g) wr w') := Lib.hid fun k1 k2 => rot_any g n cap p m e xs rest _ wr HAt.out HN.out k1 k2 (by omega) hm
        have LF : Hid (∀ ys W, Rot xs ys p m e → a < p → p < mid → At W g 42 (pls ys ++ rest) → Calls Try.prog 61 #[.slice (some ⟨g, 0, none⟩) n cap, .int .i64 a, .int .i64 p, .int .i64 mid, .func (.func 36) #[] #[]] W fun e' w' => e' = .returned (.tuple #[]) ∧ ∃ zs, Mix a mid ys zs ∧ Srt zs a mid ∧ At w' g 42 (pls zs ++ rest) ∧ Turned (Just g) W w') := Lib.hid fun ys W hy k1 k2 hA => by
          obtain ⟨r1, r2, _, _⟩ := HSP.out.rows HL.out HR.out hy
          obtain ⟨b1, _⟩ := HSP.out.befs HO.out hy
          rw [HSM.out] at r2 b1
          exact HIH.out a p mid ys W (by omega) hA (hy.len.trans HN.out) k1 k2 (by omega) r1 r2 b1
        have RG : Hid (∀ ys zs W, Rot xs ys p m e → Mix a mid ys zs → mid < e → e < b → At W g 42 (pls zs ++ rest) → Calls Try.prog 61 #[.slice (some ⟨g, 0, none⟩) n cap, .int .i64 mid, .int .i64 e, .int .i64 b, .func (.func 36) #[] #[]] W fun e' w' => e' = .returned (.tuple #[]) ∧ ∃ us, Mix mid b zs us ∧ Srt us mid b ∧ At w' g 42 (pls us ++ rest) ∧ Turned (Just g) W w') := Lib.hid fun ys zs W hy hz k1 k2 hA => by
          obtain ⟨_, _, r3, r4⟩ := HSP.out.rows HL.out HR.out hy
          obtain ⟨_, b2⟩ := HSP.out.befs HO.out hy
          rw [HSM.out] at r3 b2
          refine HIH.out mid e b zs W (by omega) hA ((hz.len.trans hy.len).trans HN.out) k1 k2 hb (r3.out hz (.inr (Nat.le_refl _))) (r4.out hz (.inr (by omega))) fun i j h1 h2 h3 h4 => ?_
          rw [hz.out i (by omega), hz.out j (by omega)]
          exact b2 i j h1 h2 h3 h4
        have EN : Hid (∀ ys zs us, Rot xs ys p m e → Mix a mid ys zs → Srt zs a mid → Mix mid b zs us → Srt us mid b → Mix a b xs us ∧ Srt us a b) := Lib.hid fun ys zs us hy m1 s1 m2 s2 => by
          have := HSM.out
          subst this
          exact HSP.out.end_ HL.out HR.out hy m1 s1 m2 s2
        have he1 : (m : Int) ≤ (e : Int) := by omega
        have he2 : (e : Int) ≤ (b : Int) := by omega
        have hp1 : (a : Int) ≤ (p : Int) := by omega
        have hp2 : (p : Int) ≤ (m : Int) := by omega
        have HE0 := Lib.hid he0
        clear SP hsm he0
        by_cases h1 : p < m
        · by_cases h2 : m < e
          · have h1' : (p : Int) < (m : Int) := by omega
            have h2' : (m : Int) < (e : Int) := by omega
            have h5 : p < mid := by have := HSM.out; omega
            have h6 : mid < e := by have := HSM.out; omega
            have h5' : (p : Int) < (mid : Int) := by omega
            have h6' : (mid : Int) < (e : Int) := by omega
            by_cases h4 : a < p
            · have h4' : (a : Int) < (p : Int) := by omega
              by_cases h7 : e < b
              · have h7' : (e : Int) < (b : Int) := by omega
                go_wp2_with (first
                  | (go_at_call 63; (refine (RT.out h1 h2).mono ?_); rintro e' w1 ⟨rfl, ys, hy, hA1, hT1⟩; have HRO := Lib.hid hy; have HA1 := Lib.hid hA1; have HT1 := Lib.hid (HT0.out.trans hT1); clear hy hA1 hT1)
                  | (go_at_call_of 61 (Value.int .i64 (a : Int)); (refine (LF.out ys _ HRO.out h4 h5 HA1.out).mono ?_); rintro e' w2 ⟨rfl, zs, m1, s1, hA2, hT2⟩; have HM1 := Lib.hid m1; have HS1 := Lib.hid s1; have HA2 := Lib.hid hA2; have HT2 := Lib.hid (HT1.out.trans hT2); clear m1 s1 hA2 hT2)
                  | (go_at_call_of 61 (Value.int .i64 (b : Int)); (refine (RG.out ys zs _ HRO.out HM1.out h6 h7 HA2.out).mono ?_); rintro e' w3 ⟨rfl, us, m2, s2, hA3, hT3⟩; have HM2 := Lib.hid m2; have HS2 := Lib.hid s2; have HA3 := Lib.hid hA3; have HT3 := Lib.hid (HT2.out.trans hT3); clear m2 s2 hA3 hT3))
                go_end0
                obtain ⟨e1, e2⟩ := EN.out ys zs us HRO.out HM1.out HS1.out HM2.out HS2.out
                exact ⟨rfl, us, e1, e2, HA3.out, HT3.out⟩
              · have h7' : ¬ (e : Int) < (b : Int) := by omega
                go_wp2_with (first
                  | (go_at_call 63; (refine (RT.out h1 h2).mono ?_); rintro e' w1 ⟨rfl, ys, hy, hA1, hT1⟩; have HRO := Lib.hid hy; have HA1 := Lib.hid hA1; have HT1 := Lib.hid (HT0.out.trans hT1); clear hy hA1 hT1)
                  | (go_at_call_of 61 (Value.int .i64 (a : Int)); (refine (LF.out ys _ HRO.out h4 h5 HA1.out).mono ?_); rintro e' w2 ⟨rfl, zs, m1, s1, hA2, hT2⟩; have HM1 := Lib.hid m1; have HS1 := Lib.hid s1; have HA2 := Lib.hid hA2; have HT2 := Lib.hid (HT1.out.trans hT2); clear m1 s1 hA2 hT2))
                go_end0
                obtain ⟨e1, e2⟩ := EN.out ys zs zs HRO.out HM1.out HS1.out (Mix.refl _ _ _) (HSP.out.no_right HL.out HR.out HRO.out HSM.out HM1.out (by omega))
                exact ⟨rfl, zs, e1, e2, HA2.out, HT2.out⟩
            · have h4' : ¬ (a : Int) < (p : Int) := by omega
              by_cases h7 : e < b
              · have h7' : (e : Int) < (b : Int) := by omega
                go_wp2_with (first
                  | (go_at_call 63; (refine (RT.out h1 h2).mono ?_); rintro e' w1 ⟨rfl, ys, hy, hA1, hT1⟩; have HRO := Lib.hid hy; have HA1 := Lib.hid hA1; have HT1 := Lib.hid (HT0.out.trans hT1); clear hy hA1 hT1)
                  | (go_at_call_of 61 (Value.int .i64 (b : Int)); (refine (RG.out ys ys _ HRO.out (Mix.refl _ _ _) h6 h7 HA1.out).mono ?_); rintro e' w3 ⟨rfl, us, m2, s2, hA3, hT3⟩; have HM2 := Lib.hid m2; have HS2 := Lib.hid s2; have HA3 := Lib.hid hA3; have HT3 := Lib.hid (HT1.out.trans hT3); clear m2 s2 hA3 hT3))
                go_end0
                obtain ⟨e1, e2⟩ := EN.out ys ys us HRO.out (Mix.refl _ _ _) (HSP.out.no_left HL.out HR.out HRO.out HSM.out (by omega)) HM2.out HS2.out
                exact ⟨rfl, us, e1, e2, HA3.out, HT3.out⟩
              · have h7' : ¬ (e : Int) < (b : Int) := by omega
                go_wp2_with (go_at_call 63; (refine (RT.out h1 h2).mono ?_); rintro e' w1 ⟨rfl, ys, hy, hA1, hT1⟩; have HRO := Lib.hid hy; have HA1 := Lib.hid hA1; have HT1 := Lib.hid (HT0.out.trans hT1); clear hy hA1 hT1)
                go_end0
                obtain ⟨e1, e2⟩ := EN.out ys ys ys HRO.out (Mix.refl _ _ _) (HSP.out.no_left HL.out HR.out HRO.out HSM.out (by omega)) (Mix.refl _ _ _) (HSP.out.no_right HL.out HR.out HRO.out HSM.out (Mix.refl _ _ _) (by omega))
                exact ⟨rfl, ys, e1, e2, HA1.out, HT1.out⟩
          · have h1' : (p : Int) < (m : Int) := by omega
            have h2' : ¬ (m : Int) < (e : Int) := by omega
            have h5' : ¬ (p : Int) < (mid : Int) := by have := HSM.out; omega
            have h6 : mid < e := by have := HSM.out; omega
            have h7 : e < b := by omega
            have h6' : (mid : Int) < (e : Int) := by omega
            have h7' : (e : Int) < (b : Int) := by omega
            have h4' : (a : Int) < (p : Int) := by have := HSM.out; omega
            have HRO : Hid (Rot xs xs p m e) := Lib.hid (Rot.none (by omega) (by omega) (.inr (by omega)))
            go_wp2_with (go_at_call 61; (refine (RG.out xs xs _ HRO.out (Mix.refl _ _ _) h6 h7 HAt.out).mono ?_); rintro e' w3 ⟨rfl, us, m2, s2, hA3, hT3⟩; have HM2 := Lib.hid m2; have HS2 := Lib.hid s2; have HA3 := Lib.hid hA3; have HT3 := Lib.hid (HT0.out.trans hT3); clear m2 s2 hA3 hT3)
            go_end0
            obtain ⟨e1, e2⟩ := EN.out xs xs us HRO.out (Mix.refl _ _ _) (HSP.out.no_left HL.out HR.out HRO.out HSM.out (by omega)) HM2.out HS2.out
            exact ⟨rfl, us, e1, e2, HA3.out, HT3.out⟩
        · by_cases h2 : m < e
          · have h1' : ¬ (p : Int) < (m : Int) := by omega
            have h3' : ¬ (mid : Int) < (e : Int) := by have := HSM.out; omega
            have h4 : a < p := by omega
            have h5 : p < mid := by have := HSM.out; omega
            have h4' : (a : Int) < (p : Int) := by omega
            have h5' : (p : Int) < (mid : Int) := by omega
            have HRO : Hid (Rot xs xs p m e) := Lib.hid (Rot.none (by omega) (by omega) (.inl (by omega)))
            go_wp2_with (go_at_call 61; (refine (LF.out xs _ HRO.out h4 h5 HAt.out).mono ?_); rintro e' w1 ⟨rfl, zs, m1, s1, hA1, hT1⟩; have HM1 := Lib.hid m1; have HS1 := Lib.hid s1; have HA1 := Lib.hid hA1; have HT1 := Lib.hid (HT0.out.trans hT1); clear m1 s1 hA1 hT1)
            go_end0
            obtain ⟨e1, e2⟩ := EN.out xs zs zs HRO.out HM1.out HS1.out (Mix.refl _ _ _) (HSP.out.no_right HL.out HR.out HRO.out HSM.out HM1.out (by omega))
            exact ⟨rfl, zs, e1, e2, HA1.out, HT1.out⟩
          · have h1' : ¬ (p : Int) < (m : Int) := by omega
            have h3' : ¬ (mid : Int) < (e : Int) := by have := HSM.out; omega
            have h4' : (a : Int) < (p : Int) := by omega
            have h5' : ¬ (p : Int) < (mid : Int) := by have := HSM.out; omega
            have HRO : Hid (Rot xs xs p m e) := Lib.hid (Rot.none (by omega) (by omega) (.inl (by omega)))
            go_wp2
            go_end0
            obtain ⟨e1, e2⟩ := EN.out xs xs xs HRO.out (Mix.refl _ _ _) (HSP.out.no_left HL.out HR.out HRO.out HSM.out (by omega)) (Mix.refl _ _ _) (HSP.out.no_right HL.out HR.out HRO.out HSM.out (Mix.refl _ _ _) (by omega))
            exact ⟨rfl, xs, e1, e2, HAt.out, HT0.out⟩

theorem sym_any (g n cap : Nat) (rest : List Value) (hm : n ≤ 1000000) : ∀ d, SymSays g n cap rest d
  | 0 => fun a m b xs w hd hA hn ham hmb hb hl hr ho => by omega
  | d + 1 => fun a m b xs w hd hA hn ham hmb hb hl hr ho => by
    by_cases h1 : m = a + 1
    · exact symA_any g n cap a m b xs rest w hA hn h1 hmb hb hm hl hr ho
    · by_cases h2 : b = m + 1
      · exact symB_any g n cap a m b xs rest w hA hn h2 (by omega) hb hm hl hr ho
      · exact symC_any g n cap d rest (sym_any g n cap rest hm d) a m b xs w hd hA hn (by omega) (by omega) hb hm hl hr ho
end Go.Proofs.Ytfpfcmgcfbkolaa
