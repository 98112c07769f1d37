/- Contracts of the program's comparisons of places (layer latest). | A row of places in memory: loads, stores, an exchange (layer latest). | Contracts of the library's exchange of two rows, and of its rotation, at places (layer latest). | The contract of the library's insertion sort, at places (layer latest). -/
import Derived.Test.YtpkkejdjhnmjiaaGreatLatSort
import Derived.Test.YtpkkejdjhnmjiaaGreatLatTools
import Derived.Test.YtpkkejdjhnmjiaaGreatHeld
import Derived.Deep.LoopGhost
import Derived.BigQuiet
import Derived.Deep.QuietTactic
namespace Go.Proofs.YtpkkejdjhnmjiaaGreat
open Go.RowKit Bm
theorem nan_any (a : BitVec 32) (w : World) : Calls Tryz.prog 75 #[.int .u32 (U a)] w fun e w' => e = .returned (.bool false) ∧ w' = w := by
  go_enter Tryz.func75, Tryz.ntmps75
  go_wp2
  go_ret
  exact ⟨by simp, rfl⟩
set_option maxHeartbeats 2000000 in
theorem compare_any (a b : BitVec 32) (w : World) : Calls Tryz.prog 55 #[.int .u32 (U a), .int .u32 (U b)] w fun e w' => e = .returned (.int .i64 (cmpI a b)) ∧ w' = w := by
  have N1 := Lib.hid (nan_any a)
  have N2 := Lib.hid (nan_any b)
  unfold cmpI
  by_cases h1 : U a < U b
  · rw [if_pos h1]
    go_enter Tryz.func55, Tryz.ntmps55
    go_wp2_with (go_at_call 75; (first | (with_reducible refine (N1.out _).mono ?_) | (with_reducible refine (N2.out _).mono ?_)); rintro e w1 ⟨rfl, rfl⟩)
    go_ret
    exact ⟨rfl, rfl⟩
  · rw [if_neg h1]
    by_cases h2 : U b < U a
    · rw [if_pos h2]
      go_enter Tryz.func55, Tryz.ntmps55
      go_wp2_with (go_at_call 75; (first | (with_reducible refine (N1.out _).mono ?_) | (with_reducible refine (N2.out _).mono ?_)); rintro e w1 ⟨rfl, rfl⟩)
      go_ret
      exact ⟨rfl, rfl⟩
    · rw [if_neg h2]
      go_enter Tryz.func55, Tryz.ntmps55
      go_wp2_with (go_at_call 75; (first | (with_reducible refine (N1.out _).mono ?_) | (with_reducible refine (N2.out _).mono ?_)); rintro e w1 ⟨rfl, rfl⟩)
      go_ret
      exact ⟨rfl, rfl⟩
set_option maxHeartbeats 2000000 in
theorem or_any (g : Nat) (a b : Int) (w : World) (hA : At w g 3 [.int .i64 a, .int .i64 b]) : Calls Tryz.prog 54 #[.slice (some ⟨g, 0, none⟩) 2 2] w fun e w' => e = .returned (.int .i64 (if a ≠ 0 then a else b)) ∧ w' = w := by
  have c0 : w.cell? ⟨g, 0, none⟩ = some (.int .i64 a) := hA.cell 0
  have c1 : w.cell? ⟨g, 1, none⟩ = some (.int .i64 b) := hA.cell 1
  clear hA
  obtain ⟨r, hr⟩ : ∃ r, r = if a ≠ 0 then a else b := ⟨_, rfl⟩
  rw [← hr]
  have HR := Lib.hid hr
  clear hr
  go_enter Tryz.func54, Tryz.ntmps54
  go_wp2
  go_loopw [5, 8] (fun v i wr => wr = w ∧ (i = .int .i64 0 ∨ (i = .int .i64 1 ∧ a = 0) ∨ (i = .int .i64 2 ∧ a = 0 ∧ b = 0))) (fun v i _ => 2 - (intOf i).toNat)
  case atStart => exact ⟨rfl, .inl rfl⟩
  case round =>
    obtain ⟨rfl, rfl | ⟨rfl, h0⟩ | ⟨rfl, h0, h1⟩⟩ := hrel
    · by_cases h : a = 0
      · have h' : (a != 0) = false := by rw [bne_eq_false_iff_eq]; exact h
        have H := Lib.hid h
        clear h
        go_wp2
        go_roundw
        case rel => exact ⟨trivial, .inr (.inl ⟨rfl, H.out⟩)⟩
        case measure => simp [intOf]
      · have h' : (a != 0) = true := by rw [bne_iff_ne]; exact h
        have H := Lib.hid h
        clear h
        go_wp2
        go_ret
        exact ⟨by rw [HR.out, if_pos H.out]; rfl, rfl⟩
    · have H0 := Lib.hid h0
      clear h0
      by_cases h : b = 0
      · have h' : (b != 0) = false := by rw [bne_eq_false_iff_eq]; exact h
        have H := Lib.hid h
        clear h
        go_wp2
        go_roundw
        case rel => exact ⟨trivial, .inr (.inr ⟨rfl, H0.out, H.out⟩)⟩
        case measure => simp [intOf]
      · have h' : (b != 0) = true := by rw [bne_iff_ne]; exact h
        clear h
        go_wp2
        go_ret
        exact ⟨by rw [HR.out, if_neg (by simp [H0.out])]; rfl, rfl⟩
    · have H0 := Lib.hid h0
      have H1 := Lib.hid h1
      clear h0 h1
      go_wp2
      go_ret
      exact ⟨by rw [HR.out, if_neg (by simp [H0.out]), H1.out]; rfl, rfl⟩
set_option maxRecDepth 100000 in
set_option maxHeartbeats 4000000 in
theorem cmp_any (x y : PlM) (w : World) : Calls Tryz.prog 53 #[.agg (plC x).toArray, .agg (plC y).toArray] w fun e w' => e = .returned (.int .i64 (cmpP x y)) ∧ Below w.heap.size w w' := by
  obtain ⟨W0, hW0⟩ : ∃ W0, W0 = (w.alloc (.cells (plC x).toArray 75)).alloc (.cells (plC y).toArray 75) := ⟨_, rfl⟩
  have ax : At W0 w.heap.size 75 (plC x) := by rw [hW0]; exact (At.news w _ _).alloc _
  have ay : At W0 (w.heap.size + 1) 75 (plC y) := by rw [hW0]; exact At.alloc_new _ _ _ (by simp) rfl
  have hb : Below w.heap.size w W0 := by rw [hW0]; exact below_two w _ _
  have C1 := Lib.hid (compare_any x.p.s y.p.s)
  have C2 := Lib.hid (compare_any y.p.q x.p.q)
  have HB := Lib.hid hb
  have HW := Lib.hid hW0
  have AX := Lib.hid ax
  have AY := Lib.hid ay
  clear hb hW0 ax ay
  have x2 : ∀ W, Below W0.heap.size W0 W → W.cell? ⟨w.heap.size, 2, none⟩ = some (.int .u32 (U x.p.s)) := fun W h => (h.cell (p := ⟨w.heap.size, 2, none⟩) AX.out.lt).trans (AX.out.cell 2)
  have x3 : ∀ W, Below W0.heap.size W0 W → W.cell? ⟨w.heap.size, 3, none⟩ = some (.int .u32 (U x.p.q)) := fun W h => (h.cell (p := ⟨w.heap.size, 3, none⟩) AX.out.lt).trans (AX.out.cell 3)
  have y2 : ∀ W, Below W0.heap.size W0 W → W.cell? ⟨w.heap.size + 1, 2, none⟩ = some (.int .u32 (U y.p.s)) := fun W h => (h.cell (p := ⟨w.heap.size + 1, 2, none⟩) AY.out.lt).trans (AY.out.cell 2)
  have y3 : ∀ W, Below W0.heap.size W0 W → W.cell? ⟨w.heap.size + 1, 3, none⟩ = some (.int .u32 (U y.p.q)) := fun W h => (h.cell (p := ⟨w.heap.size + 1, 3, none⟩) AY.out.lt).trans (AY.out.cell 3)
  go_enter Tryz.func53, Tryz.ntmps53
  go_wp2_with fail
  rw [← HW.out]
  have OR : Hid (∀ g W, At W g 3 [.int .i64 (cmpI x.p.s y.p.s), .int .i64 (cmpI y.p.q x.p.q)] → Calls Tryz.prog 54 #[.slice (some ⟨g, 0, none⟩) 2 2] W fun e w' => e = .returned (.int .i64 (cmpP x y)) ∧ w' = W) := Lib.hid fun g W h => or_any g _ _ W h
  have BL := Lib.hid (fun o => ((Below.refl W0.heap.size W0).alloc (Nat.le_refl _) o).drew)
  go_region_held3 (fun W => Below W0.heap.size W0 W) (first | assumption | exact (Below.refl _ W0).drew | exact BL.out _) (first
    | (go_at_call 55; (first | (with_reducible refine (C1.out _).mono ?_) | (with_reducible refine (C2.out _).mono ?_)); rintro e w1 ⟨rfl, rfl⟩)
    | (go_at_call 54; (refine (OR.out W0.heap.size _ (At.news W0 3 [_, _]).drew).mono ?_); rintro e w1 ⟨rfl, rfl⟩))
  go_wp2
  go_ret
  exact ⟨rfl, HB.out.trans ((BL.out _).mono HB.out.size)⟩
set_option maxRecDepth 100000 in
set_option maxHeartbeats 4000000 in
theorem same_any (x y : PlM) (w : World) : Calls Tryz.prog 57 #[.agg (plC x).toArray, .agg (plC y).toArray] w fun e w' => e = .returned (.bool (decide (x.p.s = y.p.s))) ∧ Below w.heap.size w w' := by
  obtain ⟨W0, hW0⟩ : ∃ W0, W0 = (w.alloc (.cells (plC x).toArray 75)).alloc (.cells (plC y).toArray 75) := ⟨_, rfl⟩
  have ax : At W0 w.heap.size 75 (plC x) := by rw [hW0]; exact (At.news w _ _).alloc _
  have ay : At W0 (w.heap.size + 1) 75 (plC y) := by rw [hW0]; exact At.alloc_new _ _ _ (by simp) rfl
  have hb : Below w.heap.size w W0 := by rw [hW0]; exact below_two w _ _
  have HB := Lib.hid hb
  have HW := Lib.hid hW0
  have x2 : W0.cell? ⟨w.heap.size, 2, none⟩ = some (.int .u32 (U x.p.s)) := ax.cell 2
  have y2 : W0.cell? ⟨w.heap.size + 1, 2, none⟩ = some (.int .u32 (U y.p.s)) := ay.cell 2
  clear hb hW0 ax ay
  go_enter Tryz.func57, Tryz.ntmps57
  go_upto_region 1 with fail
  rw [← HW.out]
  go_wp2
  go_ret
  refine ⟨?_, HB.out⟩
  have e : (U x.p.s == U y.p.s) = decide (x.p.s = y.p.s) := by
    by_cases h : x.p.s = y.p.s
    · simp [h]
    · rw [decide_eq_false h, beq_eq_false_iff_ne]; exact fun e => h (U_inj e)
  rw [← e]
  rfl
end Go.Proofs.YtpkkejdjhnmjiaaGreat
namespace Go.Proofs.YtpkkejdjhnmjiaaGreat
open Go.RowKit Bm
theorem ldPS_eq (ρ : Operand → Value) (d : Option Tmp) (x : Operand) (ty : TypeId) (pos : String) (af : Array Edge) (gd : Option (Nat × Bool)) (W : World) : (execOp ρ ⟨d, .load 75 x, ty, pos, af, gd⟩).run Tryz.prog W = (op_ex (ldB 75) (ρ x) W).choose := ldB_is _ ρ d x ty pos af gd W
theorem ldP_at {W : World} {g off : Nat} {x : PlM} (hc : W.rangeAt g off (plC x)) : (op_ex (ldB 75) (.pointer (some ⟨g, off, none⟩)) W).choose = .ok (.value (.agg (plC x).toArray)) W := by
  have h := run_loadAt_mid W g off _ (plC x) _ hc Tryz.underlying75 rfl (by rw [spl_size, plC_len])
  rw [op_is]
  unfold ldB execOp
  simp only [Sem.run_bind, h, Result.andThen_ok, Sem.run_pure]
def two (u v : Value) : Operand → Value
  | .tmp 0 => u
  | _ => v
def OpIs2 (o : Oper) (u v : Value) (W : World) (R : Result Next) : Prop := R = (execOp (two u v) o).run Tryz.prog W
theorem op2_ex (o : Oper) (u v : Value) (W : World) : ∃ R, OpIs2 o u v W R := ⟨_, rfl⟩
theorem op2_is (o : Oper) (u v : Value) (W : World) : (op2_ex o u v W).choose = (execOp (two u v) o).run Tryz.prog W := (op2_ex o u v W).choose_spec
def stP : Oper := ⟨none, .store 75 (.tmp 0) (.tmp 1), 0, "", #[], none⟩
theorem stP_eq (ρ : Operand → Value) (d : Option Tmp) (x y : Operand) (ty : TypeId) (pos : String) (af : Array Edge) (gd : Option (Nat × Bool)) (W : World) : (execOp ρ ⟨d, .store 75 x y, ty, pos, af, gd⟩).run Tryz.prog W = (op2_ex stP (ρ x) (ρ y) W).choose := by
  rw [op2_is]
  unfold stP execOp
  rfl
theorem pls_at (xs : List PlM) (j : Nat) (h : j < xs.length) (rest : List Value) : pls xs ++ rest = pls (xs.take j) ++ (plC (plN xs j) ++ (pls (xs.drop (j + 1)) ++ rest)) := by
  have e : xs = xs.take j ++ plN xs j :: xs.drop (j + 1) := by
    have h1 : plN xs j = xs[j] := by unfold plN; rw [List.getD_eq_getElem?_getD, List.getElem?_eq_getElem h]; rfl
    rw [h1, List.getElem_cons_drop, List.take_append_drop]
  conv => lhs; rw [e]
  simp [pls]
theorem pls_set (xs : List PlM) (j : Nat) (y : PlM) (h : j < xs.length) (rest : List Value) : pls (xs.set j y) ++ rest = pls (xs.take j) ++ (plC y ++ (pls (xs.drop (j + 1)) ++ rest)) := by
  rw [pls_at (xs.set j y) j (by simpa using h), List.take_set_of_le (Nat.le_refl _), List.drop_set_of_lt (by omega), plN_set _ _ _ _ h, if_pos rfl]
section
variable {W : World} {g : Nat} {t : TypeId} {xs : List PlM} {rest : List Value}
theorem At.place (h : At W g t (pls xs ++ rest)) {j : Nat} (hj : j < xs.length) : W.rangeAt g (j * 9) (plC (plN xs j)) := by
  rw [pls_at xs j hj rest] at h
  have := h.range
  rwa [pls_len, List.length_take, Nat.min_eq_left (by omega), Nat.mul_comm] at this
theorem At.put9 (h : At W g t (pls xs ++ rest)) {j : Nat} (hj : j < xs.length) (y : PlM) : At (W.setCells g (j * 9) (plC y)) g t (pls (xs.set j y) ++ rest) := by
  rw [pls_set xs j y hj rest]
  rw [pls_at xs j hj rest] at h
  have := At.setCells (plC y) _ _ h (by rw [plC_len, plC_len])
  rwa [pls_len, List.length_take, Nat.min_eq_left (by omega), Nat.mul_comm] at this
theorem stP_at (h : At W g t (pls xs ++ rest)) {j : Nat} (hj : j < xs.length) (y : PlM) : (op2_ex stP (.pointer (some ⟨g, j * 9, none⟩)) (.agg (plC y).toArray) W).choose = .ok .skip (W.setCells g (j * 9) (plC y)) := by
  have ht : W.there g (j * 9) (plC y).toArray.size := by
    rw [pls_at xs j hj rest] at h
    have := h.there
    rw [pls_len, List.length_take, Nat.min_eq_left (by omega), Nat.mul_comm, plC_len] at this
    simpa [plC_len] using this
  have hr := run_storeAt_mid W g (j * 9) 75 (plC y).toArray ht (by rw [spl_size]; simp [plC_len]) (all_oneCell_toArray (plC_one y))
  rw [op2_is]
  unfold stP execOp
  simp only [two, Sem.run_bind, hr, Result.andThen_ok, Sem.run_pure]
theorem swap_at (h : At W g t (pls xs ++ rest)) {i j : Nat} (hi : i < xs.length) (hj : j < xs.length) : ∃ W1 W2,
    (op_ex (ldB 75) (.pointer (some ⟨g, i * 9, none⟩)) W).choose = .ok (.value (.agg (plC (plN xs i)).toArray)) W ∧
    (op_ex (ldB 75) (.pointer (some ⟨g, j * 9, none⟩)) W).choose = .ok (.value (.agg (plC (plN xs j)).toArray)) W ∧
    (op2_ex stP (.pointer (some ⟨g, i * 9, none⟩)) (.agg (plC (plN xs j)).toArray) W).choose = .ok .skip W1 ∧
    (op2_ex stP (.pointer (some ⟨g, j * 9, none⟩)) (.agg (plC (plN xs i)).toArray) W1).choose = .ok .skip W2 ∧
    At W2 g t (pls (swp xs i j) ++ rest) ∧ Turned (Just g) W W2 := by
  have h1 := h.put9 hi (plN xs j)
  have h2 := h1.put9 (by simpa using hj) (plN xs i)
  exact ⟨_, _, ldP_at (h.place hi), ldP_at (h.place hj), stP_at h hi _, stP_at h1 (by simpa using hj) _, h2, (turned_setCells g _ _ W).trans (turned_setCells g _ _ _)⟩
end
end Go.Proofs.YtpkkejdjhnmjiaaGreat
namespace Go.Proofs.YtpkkejdjhnmjiaaGreat
open Go.RowKit Bm
attribute [local go_sem ↓] Go.wp_at_zero Go.wp_at_succ ldPS_eq stP_eq
set_option maxRecDepth 100000 in
set_option maxHeartbeats 600000 in
theorem swr_any (g n cap a b c : Nat) (xs : List PlM) (rest : List Value) (cv : Value) (w : World) (hA : At w g 75 (pls xs ++ rest)) (hn : xs.length = n) (hab : a + c ≤ b) (hb : b + c ≤ n) (hm : n ≤ 1000000) :
    Calls Tryz.prog 117 #[.slice (some ⟨g, 0, none⟩) n cap, .int .i64 a, .int .i64 b, .int .i64 c, cv] w fun e w' => e = .returned (.tuple #[]) ∧ ∃ ys, SwR xs ys a b c ∧ At w' g 75 (pls ys ++ rest) ∧ Turned (Just g) w w' := by
  have HN := Lib.hid hn
  have HA := Lib.hid hA
  clear hn hA
  go_enter Tryz.func117, Tryz.ntmps117
  go_wp2
  go_loopg [10] c (fun gh i wr => ∃ (k : Nat) (ys : List PlM), k ≤ c ∧ gh = c - k ∧ i = .int .i64 k ∧ SwR xs ys a b k ∧ At wr g 75 (pls ys ++ rest) ∧ Turned (Just g) w wr)
  case atStart => exact ⟨0, xs, by omega, rfl, rfl, SwR.zero _ _ _, HA.out, Turned.refl _ _⟩
  case round =>
    obtain ⟨k, ys, hk, rfl, rfl, hs, hA, hT⟩ := hrel
    by_cases hlt : k < c
    · have hl : ys.length = n := hs.len.trans HN.out
      obtain ⟨W1, W2, l1, l2, s1, s2, hA2, hT2⟩ := swap_at hA.drew (i := a + k) (j := b + k) (by omega) (by omega)
      have hs2 := hs.step (by omega) (by rw [HN.out]; omega)
      have HS := Lib.hid hs2
      have HA2 := Lib.hid hA2
      have HT := Lib.hid (hT.drew.trans hT2)
      clear hs hs2 hA2 hA hT hT2 hl
      obtain ⟨x, hx⟩ : ∃ x, x = plN ys (a + k) := ⟨_, rfl⟩
      obtain ⟨y, hy⟩ : ∃ y, y = plN ys (b + k) := ⟨_, rfl⟩
      rw [← hx] at l1 s2
      rw [← hy] at l2 s1
      clear hx hy
      have e1 : ((a : Int) + (k : Int)).toNat = a + k := by omega
      have e2 : ((b : Int) + (k : Int)).toNat = b + k := by omega
      have f1 : (0 : Int) ≤ (a : Int) + (k : Int) := by omega
      have f2 : (0 : Int) ≤ (b : Int) + (k : Int) := by omega
      have f3 : (a : Int) + (k : Int) < (n : Int) := by omega
      have f4 : (b : Int) + (k : Int) < (n : Int) := by omega
      have hm' : (n : Int) ≤ 1000000 := by omega
      have i0 : (k : Int) < (c : Int) := by omega
      go_wp2_with fail
      go_big_region
      all_goals
        go_wp2
        go_roundg (c - (k + 1))
        case measure => omega
        case rel => exact ⟨k + 1, _, by omega, rfl, by go_num, HS.out, HA2.out, HT.out⟩
    · obtain rfl : k = c := by omega
      have HS := Lib.hid hs
      have HA2 := Lib.hid hA
      have HT := Lib.hid hT
      clear hs hA hT
      go_wp2
      go_end0
      exact ⟨rfl, ys, HS.out, HA2.out, HT.out⟩
set_option maxRecDepth 100000 in
set_option maxHeartbeats 4000000 in
theorem rot_any (g n cap a m b : Nat) (xs : List PlM) (rest : List Value) (cv : Value) (w : World) (hA : At w g 75 (pls xs ++ rest)) (hn : xs.length = n) (ham : a < m) (hmb : m < b) (hb : b ≤ n) (hm : n ≤ 1000000) :
    Calls Tryz.prog 112 #[.slice (some ⟨g, 0, none⟩) n cap, .int .i64 a, .int .i64 m, .int .i64 b, cv] w fun e w' => e = .returned (.tuple #[]) ∧ ∃ ys, Rot xs ys a m b ∧ At w' g 75 (pls ys ++ rest) ∧ Turned (Just g) w w' := by
  obtain ⟨zs, hz⟩ := rot_is xs m (m - a) (b - m) (by omega) (by omega)
  have hzl := hz.len
  have HZ := Lib.hid hz
  have HN := Lib.hid hn
  have HA := Lib.hid hA
  have HR := Lib.hid (hz.rot (by omega) (by omega))
  have hma : (a : Int) < (m : Int) := by omega
  have hmb' : (m : Int) < (b : Int) := by omega
  have hb' : (b : Int) ≤ 1000000 := by omega
  clear hn hA hz hzl
  go_enter Tryz.func112, Tryz.ntmps112
  go_wp2
  go_loopg [10, 11] (b - a) (fun gh i j wr => ∃ (p q : Nat) (ys : List PlM), 0 < p ∧ 0 < q ∧ p ≤ m - a ∧ q ≤ b - m ∧ gh = p + q ∧ i = .int .i64 p ∧ j = .int .i64 q ∧ ys.length = n ∧ RotAt ys zs m p q ∧ At wr g 75 (pls ys ++ rest) ∧ Turned (Just g) w wr)
  case atStart => exact ⟨m - a, b - m, xs, by omega, by omega, by omega, by omega, by omega, by go_num, by go_num, HN.out, HZ.out, HA.out, Turned.refl _ _⟩
  case round =>
    obtain ⟨p, q, ys, hp, hq, hpa, hqb, rfl, rfl, rfl, hl, hr, hA, hT⟩ := hrel
    have HL := Lib.hid hl
    have HRt := Lib.hid hr
    have HAt := Lib.hid hA
    have HT := Lib.hid hT
    clear hl hr hA hT
    have SW : ∀ (i j k : Int) (a' b' c' : Nat) (W : World), i = (a' : Int) → j = (b' : Int) → k = (c' : Int) → a' + c' ≤ b' → b' + c' ≤ n → At W g 75 (pls ys ++ rest) → Calls Tryz.prog 117 #[.slice (some ⟨g, 0, none⟩) n cap, .int .i64 i, .int .i64 j, .int .i64 k, cv] W fun e w' => e = .returned (.tuple #[]) ∧ ∃ zs, SwR ys zs a' b' c' ∧ At w' g 75 (pls zs ++ rest) ∧ Turned (Just g) W w' := by
      rintro i j k a' b' c' W rfl rfl rfl h1 h2 h3
      exact swr_any g n cap a' b' c' ys rest cv W h3 HL.out h1 h2 hm
    have HSW := Lib.hid SW
    clear SW
    have hm' : (m : Int) ≤ 1000000 := by omega
    have hq' : (m : Int) + (q : Int) ≤ 1000000 := by omega
    have hp' : (p : Int) ≤ (m : Int) := by omega
    have hp0 : (0 : Int) < (p : Int) := by omega
    have hq0 : (0 : Int) < (q : Int) := by omega
    by_cases h1 : p = q
    · subst h1
      have ne : ((p : Int) != (p : Int)) = false := by simp
      go_wp2_with (go_at_call 117; (refine (HSW.out _ _ _ (m - p) m p _ (by omega) rfl rfl (by omega) (by omega) HAt.out).mono ?_); rintro e w1 ⟨rfl, us, hs, hA1, hT1⟩; have HS := Lib.hid hs; have HA1 := Lib.hid hA1; have HT1 := Lib.hid (HT.out.trans hT1); clear hs hA1 hT1)
      go_end0
      obtain ⟨e1, e2⟩ := HRt.out.last (by omega) HS.out
      exact ⟨rfl, us, ⟨e1.symm.trans HR.out.len, fun k => (e2 k).symm.trans (HR.out.at_ k)⟩, HA1.out, HT1.out⟩
    · have ne : ((p : Int) != (q : Int)) = true := by rw [bne_iff_ne]; omega
      have HNE := Lib.hid h1
      clear h1
      by_cases h2 : q < p
      · have h2' : (q : Int) < (p : Int) := by omega
        go_wp2_with (go_at_call 117; (refine (HSW.out _ _ _ (m - p) m q _ (by omega) rfl rfl (by omega) (by omega) HAt.out).mono ?_); rintro e w1 ⟨rfl, us, hs, hA1, hT1⟩; have HS := Lib.hid hs; have HA1 := Lib.hid hA1; have HT1 := Lib.hid (HT.out.trans hT1); clear hs hA1 hT1)
        go_roundg (p - q + q)
        case measure => omega
        case rel => exact ⟨p - q, q, us, by omega, by omega, by omega, by omega, rfl, by go_num, rfl, HS.out.len.trans HL.out, HRt.out.more (by omega) h2 HS.out, HA1.out, HT1.out⟩
      · have h2' : ¬ (q : Int) < (p : Int) := by omega
        have h3 : p < q := by have := HNE.out; omega
        go_wp2_with (go_at_call 117; (refine (HSW.out _ _ _ (m - p) (m + q - p) p _ (by omega) (by omega) rfl (by omega) (by omega) HAt.out).mono ?_); rintro e w1 ⟨rfl, us, hs, hA1, hT1⟩; have HS := Lib.hid hs; have HA1 := Lib.hid hA1; have HT1 := Lib.hid (HT.out.trans hT1); clear hs hA1 hT1)
        go_roundg (p + (q - p))
        case measure => omega
        case rel => exact ⟨p, q - p, us, by omega, by omega, by omega, by omega, rfl, rfl, by go_num, HS.out.len.trans HL.out, HRt.out.less (by omega) h3 HS.out, HA1.out, HT1.out⟩
end Go.Proofs.YtpkkejdjhnmjiaaGreat
namespace Go.Proofs.YtpkkejdjhnmjiaaGreat
open Go.RowKit Bm
attribute [local go_sem ↓] Go.wp_at_zero Go.wp_at_succ ldPS_eq stP_eq
set_option maxRecDepth 100000 in
set_option maxHeartbeats 4000000 in
theorem ins_any (g n cap a b : Nat) (xs : List PlM) (rest : List Value) (w : World) (hA : At w g 75 (pls xs ++ rest)) (hn : xs.length = n) (hab : a ≤ b) (hb : b ≤ n) (hm : n ≤ 1000000)
    (ho : ∀ i j, a ≤ i → i < j → j < b → Ahead (plN xs i) (plN xs j)) :
    Calls Tryz.prog 103 #[.slice (some ⟨g, 0, none⟩) n cap, .int .i64 a, .int .i64 b, .func (.func 53) #[] #[]] w fun e w' => e = .returned (.tuple #[]) ∧ ∃ ys, Mix a b xs ys ∧ Srt ys a b ∧ At w' g 75 (pls ys ++ rest) ∧ Turned (Just g) w w' := by
  have HN := Lib.hid hn
  have HA := Lib.hid hA
  have HO := Lib.hid ho
  have CM := Lib.hid cmp_any
  have hab' : (a : Int) ≤ (b : Int) := by omega
  have hb' : (b : Int) ≤ (n : Int) := by omega
  have hm' : (n : Int) ≤ 1000000 := by omega
  clear hn hA ho
  go_enter Tryz.func103, Tryz.ntmps103
  go_wp2
  go_loopg [8] (b + 1 - (a + 1)) (fun gh i wr => ∃ (k : Nat) (ys : List PlM), a < k ∧ k ≤ b + 1 ∧ gh = b + 1 - k ∧ i = .int .i64 k ∧ Mix a (min k b) xs ys ∧ Srt ys a (min k b) ∧ At wr g 75 (pls ys ++ rest) ∧ Turned (Just g) w wr)
  case atStart => exact ⟨a + 1, xs, by omega, by omega, by omega, by go_num, Mix.refl _ _ _, fun i j h1 h2 h3 => by omega, HA.out, Turned.refl _ _⟩
  case round =>
    obtain ⟨k, ys, hak, hkb, rfl, rfl, hmx, hs, hA, hT⟩ := hrel
    have HAt := Lib.hid hA
    have HT := Lib.hid hT
    by_cases hlt : k < b
    · have hlt' : (k : Int) < (b : Int) := by omega
      rw [Nat.min_eq_left (by omega)] at hmx hs
      have HI := Lib.hid (InsB.start hmx hs (by omega))
      have hk0 : (0 : Int) ≤ (k : Int) := by omega
      clear hmx hs hA hT
      go_wp2
      go_loopg [9] (k - a) (fun gh j wr => ∃ (q : Nat) (zs : List PlM), a ≤ q ∧ q ≤ k ∧ gh = q - a ∧ j = .int .i64 q ∧ InsB xs zs a q k ∧ At wr g 75 (pls zs ++ rest) ∧ Turned (Just g) w wr)
      case atStart => exact ⟨k, ys, by omega, Nat.le_refl _, rfl, rfl, HI.out, HAt.out, HT.out⟩
      case round =>
        obtain ⟨q, zs, haq, hqk, rfl, rfl, hI, hA2, hT2⟩ := hrel
        have HL : Hid (zs.length = n) := Lib.hid (hI.mix.len.trans HN.out)
        have HI2 := Lib.hid hI
        have HT2 := Lib.hid hT2
        have HA2 := Lib.hid hA2
        clear hI hT2 hA2
        by_cases hqa : a < q
        · obtain ⟨p, rfl⟩ : ∃ p, q = p + 1 := ⟨q - 1, by omega⟩
          have hqa' : (a : Int) < (p : Int) + 1 := by omega
          have hpn : (p : Int) + 1 < (n : Int) := by omega
          have hp0 : (0 : Int) ≤ (p : Int) := by omega
          have hp1 : (0 : Int) ≤ (p : Int) + 1 := by omega
          have hp2 : (p : Int) < (n : Int) := by omega
          have hwp : IntKind.i64.wrap (p : Int) = (p : Int) := by rw [IntKind.wrap_i64]; omega
          have e1 : ((p : Int) + 1).toNat = p + 1 := by omega
          obtain ⟨x, hx⟩ : ∃ x, x = plN zs (p + 1) := ⟨_, rfl⟩
          obtain ⟨y, hy⟩ : ∃ y, y = plN zs p := ⟨_, rfl⟩
          have rx := HA2.out.place (j := p + 1) (by have := HL.out; omega)
          have ry := HA2.out.place (j := p) (by have := HL.out; omega)
          rw [← hx] at rx
          rw [← hy] at ry
          have HX := Lib.hid hx
          have HY := Lib.hid hy
          have HRX := Lib.hid rx
          have HRY := Lib.hid ry
          have hlt9 := HA2.out.lt
          have HG := Lib.hid hlt9
          have lx : ∀ W, Below wr.heap.size wr W → (op_ex (ldB 75) (.pointer (some ⟨g, (p + 1) * 9, none⟩)) W).choose = .ok (.value (.agg (plC x).toArray)) W := fun W hW => ldP_at (range_kept HRX.out (hW.block g HG.out))
          have ly : ∀ W, Below wr.heap.size wr W → (op_ex (ldB 75) (.pointer (some ⟨g, p * 9, none⟩)) W).choose = .ok (.value (.agg (plC y).toArray)) W := fun W hW => ldP_at (range_kept HRY.out (hW.block g HG.out))
          clear hx hy rx ry hlt9
          by_cases hc : cmpP x y < 0
          · go_wp2_with fail
            go_region_held3 (fun W => Below wr.heap.size wr W) (first | assumption | exact (Below.refl _ wr).drew) (first
              | (go_at_call 53; (refine (CM.out x y _).mono ?_); rintro e v1 ⟨rfl, hb⟩; have S1 := Below.trans (by assumption) (hb.mono (Below.size (by assumption))); clear hb))
            have S3 : Below wr.heap.size wr v1 := by assumption
            have hlen : p + 1 < zs.length := by have := HL.out; omega
            have hA3 : At v1 g 75 (pls zs ++ rest) := HA2.out.kept (Turned.of_below S3 (Nat.le_refl _) NoBlock) (fun h => h)
            obtain ⟨W1, W2, l1, l2, s1, s2, hA4, hT4⟩ := swap_at hA3.drew (i := p + 1) (j := p) hlen (by omega)
            rw [← HX.out] at l1 s2
            rw [← HY.out] at l2 s1
            have HA4 := Lib.hid hA4
            have HT4 := Lib.hid ((HT2.out.trans (Turned.of_below S3 (Nat.le_refl _) _)).drew.trans hT4)
            have HI4 := Lib.hid (HI2.out.step (by omega) (by have := HL.out; omega) (by rw [← HX.out, Nat.add_sub_cancel, ← HY.out]; exact lt_of_cmp hc))
            clear lx ly S3 hlen hA3 hA4 hT4
            go_wp2_with fail
            go_big_region
            all_goals
              go_wp2
              go_roundg (p - a)
              case measure => omega
              case rel => exact ⟨p, _, by omega, by omega, rfl, by go_num, HI4.out, HA4.out, HT4.out⟩
          · have hlt3 := lt_of_not (HI2.out.ahead (by omega) (fun u h1 h2 => HO.out u k h1 h2 hlt)) (by rw [Nat.add_sub_cancel, ← HX.out, ← HY.out]; exact hc)
            have HD := Lib.hid (HI2.out.ins.done (.inr hlt3))
            clear hlt3
            go_wp2_with fail
            go_region_held3 (fun W => Below wr.heap.size wr W) (first | assumption | exact (Below.refl _ wr).drew) (first
              | (go_at_call 53; (refine (CM.out x y _).mono ?_); rintro e v1 ⟨rfl, hb⟩; have S1 := Below.trans (by assumption) (hb.mono (Below.size (by assumption))); clear hb))
            have S3 : Below wr.heap.size wr v1 := by assumption
            have HA3 := Lib.hid (HA2.out.kept (Turned.of_below S3 (Nat.le_refl _) NoBlock) (fun h => h))
            have HT3 := Lib.hid (HT2.out.trans (Turned.of_below S3 (Nat.le_refl _) _))
            clear lx ly S3
            go_wp2
            go_roundg (b + 1 - (k + 1))
            case measure => omega
            case rel => exact ⟨k + 1, zs, by omega, by omega, rfl, by go_num, by rw [Nat.min_eq_left (by omega)]; exact HI2.out.mix, by rw [Nat.min_eq_left (by omega)]; exact HD.out, HA3.out, HT3.out⟩
        · obtain rfl : q = a := by omega
          have HD := Lib.hid (HI2.out.ins.done (.inl rfl))
          go_wp2_with fail
          go_quiet (fail)
          go_wp2
          go_roundg (b + 1 - (k + 1))
          case measure => omega
          case rel => exact ⟨k + 1, zs, by omega, by omega, rfl, by go_num, by rw [Nat.min_eq_left (by omega)]; exact HI2.out.mix, by rw [Nat.min_eq_left (by omega)]; exact HD.out, HA2.out.drewN nq, HT2.out.drewN nq⟩
    · have hlt' : ¬ (k : Int) < (b : Int) := by omega
      rw [Nat.min_eq_right (by omega)] at hmx hs
      have HM := Lib.hid hmx
      have HS := Lib.hid hs
      clear hmx hs hA hT
      go_wp2
      go_end0
      exact ⟨rfl, ys, HM.out, HS.out, HAt.out, HT.out⟩
end Go.Proofs.YtpkkejdjhnmjiaaGreat
