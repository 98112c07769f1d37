/- Layer sector, the document's device: a command. -/
import Derived.Test.YtpkkejdjhnmjiaaSec3
namespace Go.Proofs.Ytpkkejdjhnmjiaa
set_option linter.unusedSimpArgs false
open Go.RowKit Bm

def v4N (x : V4) (k : Nat) : BitVec 32 := if k = 0 then x.a else if k = 1 then x.b else if k = 2 then x.c else x.d
/-- The first k words of x, put into b from at on. -/
def putW (b : List (BitVec 32)) (at_ : Nat) (x : V4) (k : Nat) : List (BitVec 32) := (List.range k).foldl (fun b i => b.set (at_ + i) (v4N x i)) b
theorem putW_zero (b : List (BitVec 32)) (at_ : Nat) (x : V4) : putW b at_ x 0 = b := rfl
theorem putW_succ (b : List (BitVec 32)) (at_ : Nat) (x : V4) (k : Nat) : putW b at_ x (k + 1) = (putW b at_ x k).set (at_ + k) (v4N x k) := by unfold putW; rw [List.range_succ, List.foldl_append]; rfl
theorem putW_len (b : List (BitVec 32)) (at_ : Nat) (x : V4) (k : Nat) : (putW b at_ x k).length = b.length := by
  induction k with
  | zero => rfl
  | succ k ih => rw [putW_succ, List.length_set, ih]
theorem v4_at {w : World} {g off : Nat} {x : V4} (h : w.rangeAt g off (v4C x)) {q : Nat} (hq : q < 4) : w.cell? ⟨g, off + q, none⟩ = some (.int .u32 (U (v4N x q))) := by
  refine h q _ ?_
  obtain rfl | rfl | rfl | rfl : q = 0 ∨ q = 1 ∨ q = 2 ∨ q = 3 := by omega
  all_goals rfl
/-- What command v does with sector j of the ones it is of. -/
def dTurn (v : Int) (d : DvM) (j : Nat) : DvM :=
  if v = 1 then { d with buf := putW d.buf (4 * j) (vN d.disk (d.first.toNat + j)) 4 }
  else if v = 2 then { d with disk := d.disk.set (d.first.toNat + j) ⟨wd d.buf (4 * j), wd d.buf (4 * j + 1), wd d.buf (4 * j + 2), wd d.buf (4 * j + 3)⟩ }
  else { d with disk := d.disk.set (d.first.toNat + j) v40 }
def dTurns (v : Int) (d : DvM) (n : Nat) : DvM := (List.range n).foldl (dTurn v) d
def dFar (d : DvM) : Prop := U d.many < 1 ∨ 4 < U d.many ∨ (d.disk.length : Int) < U d.first + U d.many
instance (d : DvM) : Decidable (dFar d) := inferInstanceAs (Decidable (_ ∨ _ ∨ _))
def dCalm (d : DvM) : DvM := { d with place := 0, line := 1#32, err := 0#32 }
def dCmd (d : DvM) (v : Int) : DvM :=
  if v < 1 ∨ 4 < v then { dCalm d with err := 1#32 } else if v ≠ 4 ∧ dFar d then { dCalm d with err := 2#32 }
  else if v = 4 then dCalm d else dTurns v (dCalm d) d.many.toNat
theorem dTurns_zero (v : Int) (d : DvM) : dTurns v d 0 = d := rfl
theorem dTurns_succ (v : Int) (d : DvM) (n : Nat) : dTurns v d (n + 1) = dTurn v (dTurns v d n) n := by unfold dTurns; rw [List.range_succ, List.foldl_append]; rfl
theorem dTurn_same (v : Int) (d : DvM) (j : Nat) : (dTurn v d j).first = d.first ∧ (dTurn v d j).many = d.many ∧ (dTurn v d j).err = d.err ∧ (dTurn v d j).line = d.line ∧ (dTurn v d j).place = d.place ∧ (dTurn v d j).disk.length = d.disk.length ∧ (dTurn v d j).buf.length = d.buf.length := by
  unfold dTurn
  split
  · exact ⟨rfl, rfl, rfl, rfl, rfl, rfl, putW_len _ _ _ _⟩
  split
  · exact ⟨rfl, rfl, rfl, rfl, rfl, by simp, rfl⟩
  · exact ⟨rfl, rfl, rfl, rfl, rfl, by simp, rfl⟩
theorem dTurns_same (v : Int) (d : DvM) (n : Nat) : (dTurns v d n).first = d.first ∧ (dTurns v d n).many = d.many ∧ (dTurns v d n).disk.length = d.disk.length ∧ (dTurns v d n).buf.length = d.buf.length ∧ (dTurns v d n).place = d.place := by
  induction n with
  | zero => exact ⟨rfl, rfl, rfl, rfl, rfl⟩
  | succ n ih =>
    rw [dTurns_succ]
    obtain ⟨h1, h2, _, _, h5, h6, h7⟩ := dTurn_same v (dTurns v d n) n
    exact ⟨h1.trans ih.1, h2.trans ih.2.1, h6.trans ih.2.2.1, h7.trans ih.2.2.2.1, h5.trans ih.2.2.2.2⟩
theorem dCalm_ok {d : DvM} (ok : DvOk d) : DvOk (dCalm d) := ⟨ok.b, by show 0 < 16; decide, ok.few⟩
theorem dTurns_ok {v : Int} {d : DvM} (ok : DvOk d) (n : Nat) : DvOk (dTurns v d n) := by
  obtain ⟨_, _, h3, h4, h5⟩ := dTurns_same v d n
  exact ⟨h4.trans ok.b, by rw [h5]; exact ok.p, by rw [h3]; exact ok.few⟩
theorem dCmd_ok {v : Int} {d : DvM} (ok : DvOk d) : DvOk (dCmd d v) := by
  have h := dCalm_ok ok
  unfold dCmd
  split
  · exact ⟨h.b, h.p, h.few⟩
  split
  · exact ⟨h.b, h.p, h.few⟩
  split
  · exact h
  · exact dTurns_ok h _
theorem dCmd_disk (v : Int) (d : DvM) : (dCmd d v).disk.length = d.disk.length := by
  unfold dCmd
  split
  · rfl
  split
  · rfl
  split
  · rfl
  · exact (dTurns_same v (dCalm d) _).2.2.1
theorem dv_pl0 {sl : Value} {d : DvM} (ok : DvOk d) : (dvC sl d).set 20 (.int .i64 0) = dvC sl { d with place := 0 } := by
  unfold dvC
  rw [List.set_append_right _ _ (by simp), List.set_append_right _ _ (by rw [Us_length, ok.b]; simp), Us_length, ok.b]
  rfl
theorem dv_line {sl : Value} {d : DvM} (x : BitVec 32) : (dvC sl d).set 3 (.int .u32 (U x)) = dvC sl { d with line := x } := rfl
theorem dv_err {sl : Value} {d : DvM} (x : BitVec 32) : (dvC sl d).set 2 (.int .u32 (U x)) = dvC sl { d with err := x } := rfl
theorem dv_disk {sl sl' : Value} {d : DvM} (x : List V4) (ok : DvOk d) : (dvC sl d).set 21 sl' = dvC sl' { d with disk := x } := by
  unfold dvC
  rw [List.set_append_right _ _ (by simp), List.set_append_right _ _ (by rw [Us_length, ok.b]; simp), Us_length, ok.b]
  rfl
theorem dv_buf {sl : Value} {d : DvM} (ok : DvOk d) {k : Nat} (hk : k < 16) (x : BitVec 32) : (dvC sl d).set (4 + k) (.int .u32 (U x)) = dvC sl { d with buf := d.buf.set k x } := by
  unfold dvC
  rw [List.set_append_right _ _ (by simp), show 4 + k - [Value.int .u32 (U d.first), .int .u32 (U d.many), .int .u32 (U d.err), .int .u32 (U d.line)].length = k by simp, List.set_append_left _ _ (by rw [Us_length, ok.b]; exact hk), Us_set]
/-- The device, the result's cell. -/
structure DvAt (w0 w : World) (sl : Value) (d : DvM) : Prop where
  dev : At w w0.heap.size 34 (dvC sl d)
  out : At w (w0.heap.size + 1) 34 dvZ
  below : Below w0.heap.size w0 w
  size : w0.heap.size + 2 ≤ w.heap.size
theorem DvAt.start (w : World) (sl : Value) (d : DvM) : DvAt w (V2 w (dvC sl d)) sl d := ⟨V2_a _ _, V2_b _ _, V2_below _ _, by rw [V2_size]; omega⟩
theorem DvAt.put {w0 w : World} {sl sl' : Value} {d d' : DvM} (h : DvAt w0 w sl d) (o : Nat) (u : Value) (e : (dvC sl d).set o u = dvC sl' d') : ∃ W, w.setCell ⟨w0.heap.size, o, none⟩ u = W ∧ DvAt w0 W sl' d' ∧ Turned (Just w0.heap.size) w W :=
  ⟨_, rfl, ⟨(h.dev.put o u).as e, h.out.far (by simp) _, h.below.trans (below_set o (Nat.le_refl _) (by have := h.size; omega) u), by rw [World.size_setCell]; exact h.size⟩, turned_set w _ o u⟩
theorem DvAt.kept {w0 w w' : World} {sl : Value} {d : DvM} (h : DvAt w0 w sl d) (b : Below w.heap.size w w') : DvAt w0 w' sl d := ⟨at_stay h.dev b, at_stay h.out b, h.below.trans (b.mono (by have := h.size; omega)), Nat.le_trans h.size b.size⟩
theorem own_lo10 {w : World} {base n k cap g off : Nat} {t : TypeId} {xs : List Value} {A : Option Addr} (h : w.ownsRow base t k (.slice A n cap) n xs) (e : A = some ⟨g, off, none⟩) : base ≤ g := by
  rcases h.2 with ⟨h1, _⟩ | ⟨g', cap', cur, h1, hb, _⟩
  · cases h1; cases e
  · cases h1; cases e; exact hb
theorem own_hi10 {w : World} {base n k cap g off : Nat} {t : TypeId} {xs : List Value} {A : Option Addr} (h : w.ownsRow base t k (.slice A n cap) n xs) (e : A = some ⟨g, off, none⟩) : g < w.heap.size := by
  rcases h.2 with ⟨h1, _⟩ | ⟨g', cap', cur, h1, _, hg, _⟩
  · cases h1; cases e
  · cases h1; cases e; exact (Array.getElem?_eq_some_iff.1 hg).1
theorem dv_new {w0 w1 : World} {sl : Value} {d : DvM} {base n cap : Nat} {B : Option Addr} {xs : List V4} (h : DvAt w0 w1 sl d) (ok : DvOk d) (hO : w1.ownsRow base 39 4 (.slice B n cap) n (v4K.all xs)) (hn : n = xs.length) (hb : w0.heap.size + 2 ≤ base) :
    DvAt w0 (w1.setCell ⟨w0.heap.size, 21, none⟩ (.slice B n cap)) (.slice B n cap) { d with disk := xs } ∧ v4K.Reads (w1.setCell ⟨w0.heap.size, 21, none⟩ (.slice B n cap)) B n cap xs ∧ ∀ g off, B = some ⟨g, off, none⟩ → w0.heap.size + 2 ≤ g ∧ g < (w1.setCell ⟨w0.heap.size, 21, none⟩ (.slice B n cap)).heap.size := by
  obtain ⟨W, e, hD, hT⟩ := h.put 21 (.slice B n cap) (dv_disk (sl' := .slice B n cap) xs ok)
  rw [e]
  have hne : ∀ g off, B = some ⟨g, off, none⟩ → w0.heap.size + 2 ≤ g ∧ g < W.heap.size := fun g off e => by have h1 := own_lo10 hO e; have h2 := own_hi10 hO e; have h3 := hT.size; omega
  obtain ⟨A', c', e2, hr, _⟩ := Kd.Reads.of_own (K := v4K) hO hn
  cases e2
  exact ⟨hD, hr.turned hT (fun g off e => by have := hne g off e; unfold Just; omega), hne⟩
theorem DvAt.fin {w0 w V : World} {sl : Value} {d : DvM} (h : DvAt w0 w sl d) (hT : Turned (Just (w0.heap.size + 1)) w V) : Below w0.heap.size w0 V := h.below.trans (below_just hT (by omega) (by have := h.size; omega))




set_option maxRecDepth 100000 in
set_option maxHeartbeats 4000000 in
theorem rcmd10_any (A : Option Addr) (c : Nat) (d : DvM) (ok : DvOk d) (v : BitVec 32) (w : World) (hR : v4K.Reads w A d.disk.length c d.disk) (hlow : ∀ g off, A = some ⟨g, off, none⟩ → g < w.heap.size) :
    Calls Try.prog 23 #[.agg (dvC (.slice A d.disk.length c) d).toArray, .int .u32 (U v)] w fun e w' => ∃ A' c', e = .returned (.agg (dvC (.slice A' d.disk.length c') (dCmd d (U v))).toArray) ∧ v4K.Reads w' A' d.disk.length c' (dCmd d (U v)).disk ∧ Below w.heap.size w w' ∧ ∀ g off, A' = some ⟨g, off, none⟩ → A' = A ∨ (w.heap.size + 2 ≤ g ∧ g < w'.heap.size) := by
  obtain ⟨W0, hW0⟩ : ∃ W0, W0 = V2 w (dvC (.slice A d.disk.length c) d) := ⟨_, rfl⟩
  have hz := dv_zero
  have D0 := DvAt.start w (.slice A d.disk.length c) d
  have hW1 := hW0
  unfold V2 at hW1
  rw [← hW0] at D0
  have f20 := D0.dev.frozen 20
  have c20 := (dv_cells D0.dev ok).2.2.2.2.1
  have HD0 := Lib.hid D0
  have HOK := Lib.hid ok
  have HR := Lib.hid (hR.kept D0.below)
  clear D0 hW0 hR
  go_enter Try.func23, Try.ntmps23
  go_upto_region 1 with (fail)
  change Code.wp _ _ _ _ ((w.alloc (.cells (dvC (.slice A d.disk.length c) d).toArray 34)).alloc (.cells dvZ.toArray 34))
  rw [← hW1]
  clear hW1
  go_upto_region 2 with (fail)
  obtain ⟨W1, e1, D1, T1⟩ := HD0.out.put 20 _ (dv_pl0 HOK.out)
  rw [e1]
  have f3 := D1.dev.frozen 3
  have c3 : W1.cell? ⟨w.heap.size, 3, none⟩ = some (.int .u32 (U d.line)) := D1.dev.cell 3
  have HD1 := Lib.hid D1
  clear e1 D1 f20 c20
  go_upto_region 3 with (fail)
  obtain ⟨W2, e2, D2, T2⟩ := HD1.out.put 3 _ (dv_line 1#32)
  rw [show W1.setCell ⟨w.heap.size, 3, none⟩ (.int .u32 1) = W2 from e2]
  have f2 := D2.dev.frozen 2
  have c2 : W2.cell? ⟨w.heap.size, 2, none⟩ = some (.int .u32 (U d.err)) := D2.dev.cell 2
  have HD2 := Lib.hid D2
  clear e2 D2 f3 c3
  go_upto_region 4 with (fail)
  obtain ⟨W3, e3, D3, T3⟩ := HD2.out.put 2 _ (dv_err 0#32)
  rw [show W2.setCell ⟨w.heap.size, 2, none⟩ (.int .u32 0) = W3 from e3]
  have HD3 : Hid (DvAt w W3 (.slice A d.disk.length c) (dCalm d)) := Lib.hid D3
  have T := (T1.trans T2).trans T3
  have HR3 := Lib.hid (HR.out.turned T (fun g off e => by
    have := hlow g off e
    unfold Just
    omega))
  clear e3 D3 f2 c2 T T1 T2 T3 HD2 HD1
  have HEND : Hid (∀ W V : World, Turned (Just w.heap.size) W3 W → Turned (Just (w.heap.size + 1)) W V → v4K.Reads V A d.disk.length c d.disk) := Lib.hid fun W V h h' => (HR3.out.turned h (fun g off e => by have := hlow g off e; unfold Just; omega)).turned h' (fun g off e => by have := hlow g off e; unfold Just; omega)
  have f2 := HD3.out.dev.frozen 2
  have c2 : W3.cell? ⟨w.heap.size, 2, none⟩ = some (.int .u32 0) := HD3.out.dev.cell 2
  have v0 := U_nonneg v
  by_cases k1 : U v < 1
  · have HC : Hid (dCmd d (U v) = { dCalm d with err := 1#32 }) := Lib.hid (by unfold dCmd; rw [if_pos (.inl k1)])
    go_upto_region 6 with (fail)
    obtain ⟨W4, e4, D4, T4⟩ := HD3.out.put 2 _ (dv_err 1#32)
    rw [show W3.setCell ⟨w.heap.size, 2, none⟩ (.int .u32 1) = W4 from e4]
    have HD4 := Lib.hid D4
    have HTW := Lib.hid T4
    have HOK' : Hid (DvOk { dCalm d with err := 1#32 }) := Lib.hid ⟨(dCalm_ok HOK.out).b, (dCalm_ok HOK.out).p, (dCalm_ok HOK.out).few⟩
    clear e4 D4 T4 f2 c2
    have HLt := Lib.hid (dv_len (sl := .slice A d.disk.length c) (HOK'.out))
    go_wp2_with (first
      | (refine wpList_ldr (xs := dvC (.slice A d.disk.length c) _) _ rfl rfl rfl Try.underlying34 rfl dv_size HLt.out (HD4).out.dev.rng0 ?_)
      | (refine wpList_stm (pre := []) (post := []) (xs := dvZ) (ys := dvC (.slice A d.disk.length c) _) _ _ rfl rfl rfl rfl dv_size dvZ_len HLt.out (dv_one _) rfl (by simp) (HD4).out.out ?_; intro V A9 T9; rw [List.nil_append, List.append_nil] at A9; have HA9 := Lib.hid A9; have HT9 := Lib.hid T9; clear A9 T9))
    refine bodyPost_ret (results_cell_row Try.results23 _ _ _ 34 _ (0, 0) _ rfl HA9.out Try.underlying34 rfl (by rw [dv_size]; simp [HLt.out])) rfl ?_
    rw [HC.out]
    exact ⟨A, c, rfl, HEND.out _ _ HTW.out HT9.out, (HD4).out.fin HT9.out, fun _ _ _ => .inl rfl⟩
  by_cases k2 : 4 < U v
  · have HC : Hid (dCmd d (U v) = { dCalm d with err := 1#32 }) := Lib.hid (by unfold dCmd; rw [if_pos (.inr k2)])
    go_upto_region 6 with (fail)
    obtain ⟨W4, e4, D4, T4⟩ := HD3.out.put 2 _ (dv_err 1#32)
    rw [show W3.setCell ⟨w.heap.size, 2, none⟩ (.int .u32 1) = W4 from e4]
    have HD4 := Lib.hid D4
    have HTW := Lib.hid T4
    have HOK' : Hid (DvOk { dCalm d with err := 1#32 }) := Lib.hid ⟨(dCalm_ok HOK.out).b, (dCalm_ok HOK.out).p, (dCalm_ok HOK.out).few⟩
    clear e4 D4 T4 f2 c2
    have HLt := Lib.hid (dv_len (sl := .slice A d.disk.length c) (HOK'.out))
    go_wp2_with (first
      | (refine wpList_ldr (xs := dvC (.slice A d.disk.length c) _) _ rfl rfl rfl Try.underlying34 rfl dv_size HLt.out (HD4).out.dev.rng0 ?_)
      | (refine wpList_stm (pre := []) (post := []) (xs := dvZ) (ys := dvC (.slice A d.disk.length c) _) _ _ rfl rfl rfl rfl dv_size dvZ_len HLt.out (dv_one _) rfl (by simp) (HD4).out.out ?_; intro V A9 T9; rw [List.nil_append, List.append_nil] at A9; have HA9 := Lib.hid A9; have HT9 := Lib.hid T9; clear A9 T9))
    refine bodyPost_ret (results_cell_row Try.results23 _ _ _ 34 _ (0, 0) _ rfl HA9.out Try.underlying34 rfl (by rw [dv_size]; simp [HLt.out])) rfl ?_
    rw [HC.out]
    exact ⟨A, c, rfl, HEND.out _ _ HTW.out HT9.out, (HD4).out.fin HT9.out, fun _ _ _ => .inl rfl⟩
  have c1 : W3.cell? ⟨w.heap.size, 1, none⟩ = some (.int .u32 (U d.many)) := HD3.out.dev.cell 1
  have c0 : W3.cell? ⟨w.heap.size, 0, none⟩ = some (.int .u32 (U d.first)) := HD3.out.dev.cell 0
  have c21 : W3.cell? ⟨w.heap.size, 21, none⟩ = some (.slice A d.disk.length c) := (dv_cells HD3.out.dev (dCalm_ok HOK.out)).2.2.2.2.2
  obtain ⟨M, hM⟩ : ∃ M, M = U d.many := ⟨_, rfl⟩
  obtain ⟨F, hF⟩ : ∃ F, F = U d.first := ⟨_, rfl⟩
  rw [← hM] at c1
  rw [← hF] at c0
  have m0 : 0 ≤ M := by rw [hM]; exact U_nonneg _
  have m1 : M < 4294967296 := by rw [hM]; exact U_lt _
  have n0 : 0 ≤ F := by rw [hF]; exact U_nonneg _
  have n1 : F < 4294967296 := by rw [hF]; exact U_lt _
  have HM := Lib.hid hM
  have HF := Lib.hid hF
  clear hM hF
  have hf := HOK.out.few
  have l1 : (d.disk.length : Int) ≤ 1000 := by omega
  have l0 : (0 : Int) ≤ d.disk.length := by omega
  clear hf
  by_cases far : U v ≠ 4 ∧ dFar d
  · have k4 := far.1
    have e4 : (U v == 4) = false := by rw [beq_eq_false_iff_ne]; exact k4
    have HC : Hid (dCmd d (U v) = { dCalm d with err := 2#32 }) := Lib.hid (by unfold dCmd; rw [if_neg (fun h => h.elim k1 k2), if_pos far])
    have HOK' : Hid (DvOk { dCalm d with err := 2#32 }) := Lib.hid ⟨(dCalm_ok HOK.out).b, (dCalm_ok HOK.out).p, (dCalm_ok HOK.out).few⟩
    by_cases p1 : M < 1
    · clear m1 n1 l0 l1
      go_upto_region 9 with (fail)
      obtain ⟨W4, e4, D4, T4⟩ := HD3.out.put 2 _ (dv_err 2#32)
      rw [show W3.setCell ⟨w.heap.size, 2, none⟩ (.int .u32 2) = W4 from e4]
      have HD4 := Lib.hid D4
      have HTW := Lib.hid T4
      clear e4 D4 T4
      have HLt := Lib.hid (dv_len (sl := .slice A d.disk.length c) (HOK'.out))
      go_wp2_with (first
        | (refine wpList_ldr (xs := dvC (.slice A d.disk.length c) _) _ rfl rfl rfl Try.underlying34 rfl dv_size HLt.out (HD4).out.dev.rng0 ?_)
        | (refine wpList_stm (pre := []) (post := []) (xs := dvZ) (ys := dvC (.slice A d.disk.length c) _) _ _ rfl rfl rfl rfl dv_size dvZ_len HLt.out (dv_one _) rfl (by simp) (HD4).out.out ?_; intro V A9 T9; rw [List.nil_append, List.append_nil] at A9; have HA9 := Lib.hid A9; have HT9 := Lib.hid T9; clear A9 T9))
      refine bodyPost_ret (results_cell_row Try.results23 _ _ _ 34 _ (0, 0) _ rfl HA9.out Try.underlying34 rfl (by rw [dv_size]; simp [HLt.out])) rfl ?_
      rw [HC.out]
      exact ⟨A, c, rfl, HEND.out _ _ HTW.out HT9.out, (HD4).out.fin HT9.out, fun _ _ _ => .inl rfl⟩
    by_cases p2 : 4 < M
    · clear m1 n1 l0 l1
      go_upto_region 9 with (fail)
      obtain ⟨W4, e4, D4, T4⟩ := HD3.out.put 2 _ (dv_err 2#32)
      rw [show W3.setCell ⟨w.heap.size, 2, none⟩ (.int .u32 2) = W4 from e4]
      have HD4 := Lib.hid D4
      have HTW := Lib.hid T4
      clear e4 D4 T4
      have HLt := Lib.hid (dv_len (sl := .slice A d.disk.length c) (HOK'.out))
      go_wp2_with (first
        | (refine wpList_ldr (xs := dvC (.slice A d.disk.length c) _) _ rfl rfl rfl Try.underlying34 rfl dv_size HLt.out (HD4).out.dev.rng0 ?_)
        | (refine wpList_stm (pre := []) (post := []) (xs := dvZ) (ys := dvC (.slice A d.disk.length c) _) _ _ rfl rfl rfl rfl dv_size dvZ_len HLt.out (dv_one _) rfl (by simp) (HD4).out.out ?_; intro V A9 T9; rw [List.nil_append, List.append_nil] at A9; have HA9 := Lib.hid A9; have HT9 := Lib.hid T9; clear A9 T9))
      refine bodyPost_ret (results_cell_row Try.results23 _ _ _ 34 _ (0, 0) _ rfl HA9.out Try.underlying34 rfl (by rw [dv_size]; simp [HLt.out])) rfl ?_
      rw [HC.out]
      exact ⟨A, c, rfl, HEND.out _ _ HTW.out HT9.out, (HD4).out.fin HT9.out, fun _ _ _ => .inl rfl⟩
    have p3 : (d.disk.length : Int) < F + M := by
      have := HM.out
      have := HF.out
      have hfar := far.2
      unfold dFar at hfar
      omega
    have e5 : (U v != 4) = true := by rw [bne, e4]; rfl
    have hw : IntKind.u64.wrap (IntKind.u64.wrap F + M) = F + M := by
      show ((F % 18446744073709551616) + M) % 18446744073709551616 = F + M
      omega
    clear m0 n0
    go_upto_region 9 with (fail)
    obtain ⟨W4, e4, D4, T4⟩ := HD3.out.put 2 _ (dv_err 2#32)
    rw [show W3.setCell ⟨w.heap.size, 2, none⟩ (.int .u32 2) = W4 from e4]
    have HD4 := Lib.hid D4
    have HTW := Lib.hid T4
    clear e4 D4 T4
    have HLt := Lib.hid (dv_len (sl := .slice A d.disk.length c) (HOK'.out))
    go_wp2_with (first
      | (refine wpList_ldr (xs := dvC (.slice A d.disk.length c) _) _ rfl rfl rfl Try.underlying34 rfl dv_size HLt.out (HD4).out.dev.rng0 ?_)
      | (refine wpList_stm (pre := []) (post := []) (xs := dvZ) (ys := dvC (.slice A d.disk.length c) _) _ _ rfl rfl rfl rfl dv_size dvZ_len HLt.out (dv_one _) rfl (by simp) (HD4).out.out ?_; intro V A9 T9; rw [List.nil_append, List.append_nil] at A9; have HA9 := Lib.hid A9; have HT9 := Lib.hid T9; clear A9 T9))
    refine bodyPost_ret (results_cell_row Try.results23 _ _ _ 34 _ (0, 0) _ rfl HA9.out Try.underlying34 rfl (by rw [dv_size]; simp [HLt.out])) rfl ?_
    rw [HC.out]
    exact ⟨A, c, rfl, HEND.out _ _ HTW.out HT9.out, (HD4).out.fin HT9.out, fun _ _ _ => .inl rfl⟩
  obtain ⟨m, hm⟩ : ∃ m : Nat, m = if U v = 4 then 0 else d.many.toNat := ⟨_, rfl⟩
  have HC : Hid (dCmd d (U v) = dTurns (U v) (dCalm d) m) := Lib.hid (by
    unfold dCmd
    rw [if_neg (fun h => h.elim k1 k2), if_neg far, hm]
    split
    · rfl
    · rfl)
  have hnear : U v = 4 ∨ (1 ≤ M ∧ M ≤ 4 ∧ F + M ≤ d.disk.length) := by
    rcases Classical.em (U v = 4) with e | e
    · exact .inl e
    · have := HM.out
      have := HF.out
      have h : ¬ dFar d := fun h => far ⟨e, h⟩
      unfold dFar at h
      exact .inr (by omega)
  have HNEAR := Lib.hid hnear
  by_cases k4 : U v = 4
  · have e4 : (U v == 4) = true := by rw [beq_iff_eq]; exact k4
    have m4 : m = 0 := by rw [hm, if_pos k4]
    have e5 : (U v != 4) = false := by rw [bne, e4]; rfl
    subst m4
    have HOK' : Hid (DvOk (dTurns (U v) (dCalm d) 0)) := Lib.hid (dCalm_ok HOK.out)
    have HTW : Hid (Turned (Just w.heap.size) W3 W3) := Lib.hid (Turned.refl _ _)
    have HD4 : Hid (DvAt w W3 (.slice A d.disk.length c) (dTurns (U v) (dCalm d) 0)) := HD3
    clear hm hnear far l0 l1 n0 n1 c0 c2 c21 f2 k4
    go_wp2
    go_loopw [5] (fun i wr => i = .int .i64 0 ∧ wr = W3) (fun _ _ => 0)
    case atStart => exact ⟨rfl, rfl⟩
    case round =>
      obtain ⟨rfl, rfl⟩ := hrel
      by_cases k0 : 0 < M
      · (have HLt := Lib.hid (dv_len (sl := .slice A d.disk.length c) (HOK'.out))
         go_wp2_with (first
           | (refine wpList_ldr (xs := dvC (.slice A d.disk.length c) _) _ rfl rfl rfl Try.underlying34 rfl dv_size HLt.out (HD4).out.dev.rng0 ?_)
           | (refine wpList_stm (pre := []) (post := []) (xs := dvZ) (ys := dvC (.slice A d.disk.length c) _) _ _ rfl rfl rfl rfl dv_size dvZ_len HLt.out (dv_one _) rfl (by simp) (HD4).out.out ?_; intro V A9 T9; rw [List.nil_append, List.append_nil] at A9; have HA9 := Lib.hid A9; have HT9 := Lib.hid T9; clear A9 T9))
         refine bodyPost_ret (results_cell_row Try.results23 _ _ _ 34 _ (0, 0) _ rfl HA9.out Try.underlying34 rfl (by rw [dv_size]; simp [HLt.out])) rfl ?_
         rw [HC.out]
         exact ⟨A, c, rfl, HEND.out _ _ HTW.out HT9.out, (HD4).out.fin HT9.out, fun _ _ _ => .inl rfl⟩)
      · (have HLt := Lib.hid (dv_len (sl := .slice A d.disk.length c) (HOK'.out))
         go_wp2_with (first
           | (refine wpList_ldr (xs := dvC (.slice A d.disk.length c) _) _ rfl rfl rfl Try.underlying34 rfl dv_size HLt.out (HD4).out.dev.rng0 ?_)
           | (refine wpList_stm (pre := []) (post := []) (xs := dvZ) (ys := dvC (.slice A d.disk.length c) _) _ _ rfl rfl rfl rfl dv_size dvZ_len HLt.out (dv_one _) rfl (by simp) (HD4).out.out ?_; intro V A9 T9; rw [List.nil_append, List.append_nil] at A9; have HA9 := Lib.hid A9; have HT9 := Lib.hid T9; clear A9 T9))
         refine bodyPost_ret (results_cell_row Try.results23 _ _ _ 34 _ (0, 0) _ rfl HA9.out Try.underlying34 rfl (by rw [dv_size]; simp [HLt.out])) rfl ?_
         rw [HC.out]
         exact ⟨A, c, rfl, HEND.out _ _ HTW.out HT9.out, (HD4).out.fin HT9.out, fun _ _ _ => .inl rfl⟩)
  · have e4 : (U v == 4) = false := by rw [beq_eq_false_iff_ne]; exact k4
    obtain ⟨x1, x2, x3⟩ := hnear.resolve_left k4
    have e5 : (U v != 4) = true := by rw [bne, e4]; rfl
    have hw : IntKind.u64.wrap (IntKind.u64.wrap F + M) = F + M := by
      show ((F % 18446744073709551616) + M) % 18446744073709551616 = F + M
      omega
    have hmM : (m : Int) = M := by
      have h := HM.out
      rw [hm, if_neg k4]
      unfold U at h
      omega
    clear hm hnear far
    go_wp2
    have HMM := Lib.hid hmM
    clear hmM
    go_loopw [5] (fun i wr => ∃ (j : Nat) (A' : Option Addr) (c' : Nat), j ≤ m ∧ i = .int .i64 j ∧ DvAt w wr (.slice A' d.disk.length c') (dTurns (U v) (dCalm d) j) ∧ v4K.Reads wr A' d.disk.length c' (dTurns (U v) (dCalm d) j).disk ∧ (∀ g off, A' = some ⟨g, off, none⟩ → A' = A ∨ (w.heap.size + 2 ≤ g ∧ g < wr.heap.size))) (fun i _ => m - (intOf i).toNat)
    case atStart => exact ⟨0, A, c, by omega, rfl, HD3.out, HR3.out, fun _ _ _ => .inl rfl⟩
    case round =>
      obtain ⟨j, A', c', hj, rfl, hD, hRd, hnew⟩ := hrel
      have HNEW := Lib.hid hnew
      have hne : ∀ g off, A' = some ⟨g, off, none⟩ → g ≠ w.heap.size ∧ g ≠ w.heap.size + 1 := fun g off e => by
        rcases hnew g off e with h | h
        · have := hlow g off (h ▸ e)
          omega
        · omega
      clear hnew
      have HDj := Lib.hid hD
      have HRj := Lib.hid hRd
      have HNE := Lib.hid hne
      have HOKj : Hid (DvOk (dTurns (U v) (dCalm d) j)) := Lib.hid (dTurns_ok (dCalm_ok HOK.out) j)
      have sm := dTurns_same (U v) (dCalm d) j
      have c1j : wr.cell? ⟨w.heap.size, 1, none⟩ = some (.int .u32 M) := by
        have := hD.dev.cell 1
        rw [HM.out]
        rw [this]
        show some (Value.int .u32 (U (dTurns (U v) (dCalm d) j).many)) = _
        rw [sm.2.1]
        rfl
      have c0j : wr.cell? ⟨w.heap.size, 0, none⟩ = some (.int .u32 F) := by
        have := hD.dev.cell 0
        rw [HF.out]
        rw [this]
        show some (Value.int .u32 (U (dTurns (U v) (dCalm d) j).first)) = _
        rw [sm.1]
        rfl
      have c21j : wr.cell? ⟨w.heap.size, 21, none⟩ = some (.slice A' d.disk.length c') := (dv_cells hD.dev HOKj.out).2.2.2.2.2
      clear hD hRd hne sm c0 c1 c2 c21 f2
      by_cases hlt : j < m
      · have hl1 : (j : Int) < M := by have := HMM.out; omega
        by_cases v1 : U v = 1
        · have q1 : (U v == 1) = true := by rw [beq_iff_eq]; exact v1
          obtain ⟨fN, eF⟩ : ∃ fN : Nat, F = fN := ⟨F.toNat, by omega⟩
          subst eF
          have hfd : d.first.toNat = fN := by
            have h := HF.out
            unfold U at h
            omega
          have hin : fN + j < d.disk.length := by have := HMM.out; omega
          have hjm : j < 4 := by have := HMM.out; omega
          obtain ⟨g, off, eA, hg, hrg⟩ := HRj.out.at_ hin
          subst eA
          have gne := (HNE.out g off rfl).1
          have HRG := Lib.hid hrg
          have HFD := Lib.hid hfd
          have HIN := Lib.hid hin
          have HJM := Lib.hid hjm
          have i1 : (fN : Int) + (j : Int) < d.disk.length := by omega
          have i0 : (0 : Int) ≤ (fN : Int) + (j : Int) := by omega
          have j4 : (j : Int) < 4 := by omega
          clear hrg hfd hin hjm
          obtain ⟨x, hx⟩ : ∃ x, x = v4K.nth (dTurns (U v) (dCalm d) j).disk (fN + j) := ⟨_, rfl⟩
          rw [← hx] at HRG
          have HX := Lib.hid hx
          have i2 : (fN : Int) ≤ 1000 := by have := HIN.out; omega
          clear hx n0 n1 m0 m1 l0 hw
          go_wp2
          go_loopw [7] (fun kq wr2 => ∃ q : Nat, q ≤ 4 ∧ kq = .int .i64 q ∧ DvAt w wr2 (.slice (some ⟨g, off, none⟩) d.disk.length c') { dTurns (U v) (dCalm d) j with buf := putW (dTurns (U v) (dCalm d) j).buf (4 * j) x q } ∧ Turned (Just w.heap.size) wr wr2) (fun kq _ => 4 - (intOf kq).toNat)
          case atStart => exact ⟨0, by omega, rfl, HDj.out, Turned.refl _ _⟩
          case round =>
            obtain ⟨q, hq, rfl, hD2, hT2⟩ := hrel
            by_cases hq4 : q < 4
            · have HD2 := Lib.hid hD2
              have HT2 := Lib.hid hT2
              have okq : DvOk { dTurns (U v) (dCalm d) j with buf := putW (dTurns (U v) (dCalm d) j).buf (4 * j) x q } := ⟨(putW_len _ _ _ _).trans HOKj.out.b, HOKj.out.p, HOKj.out.few⟩
              have ck : wr.cell? ⟨g, off + (fN + j) * 4 + q, none⟩ = some (.int .u32 (U (v4N x q))) := v4_at (range_keep HRG.out (hT2.block g hg (fun e => gne e))) hq4
              have fk : wr.frozen? ⟨w.heap.size, 4 + (4 * j + q), none⟩ = false := hD2.dev.frozen _
              have co := dv_word hD2.dev okq (j := 4 * j + q) (by have := HJM.out; omega)
              have c21k : wr.cell? ⟨w.heap.size, 21, none⟩ = some (.slice (some ⟨g, off, none⟩) d.disk.length c') := (dv_cells hD2.dev okq).2.2.2.2.2
              have HOKQ := Lib.hid okq
              have q4 : (q : Int) < 4 := by omega
              have g1 : (0 : Int) ≤ 4 * (j : Int) + (q : Int) := by omega
              have g2 : 4 * (j : Int) + (q : Int) < 16 := by have := HJM.out; omega
              clear hD2 hT2 okq
              go_wp2
              obtain ⟨W9, e9, D9, T9⟩ := HD2.out.put _ _ (dv_buf HOKQ.out (k := 4 * j + q) (by have := HJM.out; omega) (v4N x q))
              rw [e9]
              exact ⟨⟨q + 1, by omega, by go_num, by rw [putW_succ]; exact D9, HT2.out.trans T9⟩, by simp [intOf]; omega⟩
            · obtain rfl : q = 4 := by omega
              have HD2 := Lib.hid hD2
              have HT2 := Lib.hid hT2
              have ev : dTurns (U v) (dCalm d) (j + 1) = { dTurns (U v) (dCalm d) j with buf := putW (dTurns (U v) (dCalm d) j).buf (4 * j) x 4 } := by
                have hfi : (dTurns (U v) (dCalm d) j).first.toNat = fN := by rw [(dTurns_same _ _ _).1]; exact HFD.out
                rw [dTurns_succ, dTurn, if_pos v1, hfi, HX.out]
                rfl
              have EV := Lib.hid ev
              clear hD2 hT2 ev
              go_wp2
              exact ⟨⟨j + 1, some ⟨g, off, none⟩, c', by omega, by go_num, by rw [EV.out]; exact HD2.out, by rw [EV.out]; exact HRj.out.turned HT2.out (fun g' off' e => by have := HNE.out g' off' e; unfold Just; omega), fun g' off' e => (HNEW.out g' off' e).imp id (fun h => ⟨h.1, Nat.lt_of_lt_of_le h.2 HT2.out.size⟩)⟩, by simp [intOf]; omega⟩
        have q1 : (U v == 1) = false := by rw [beq_eq_false_iff_ne]; exact v1
        by_cases v2 : U v = 2
        · have q2 : (U v == 2) = true := by rw [beq_iff_eq]; exact v2
          obtain ⟨x, hx⟩ : ∃ x : V4, x = ⟨wd (dTurns (U v) (dCalm d) j).buf (4 * j), wd (dTurns (U v) (dCalm d) j).buf (4 * j + 1), wd (dTurns (U v) (dCalm d) j).buf (4 * j + 2), wd (dTurns (U v) (dCalm d) j).buf (4 * j + 3)⟩ := ⟨_, rfl⟩
          have hFj : F + (j : Int) = ((d.first.toNat + j : Nat) : Int) := by
            have h := HF.out
            unfold U at h
            omega
          have HP : Hid (∀ W, DvAt w W (.slice A' d.disk.length c') (dTurns (U v) (dCalm d) j) → Below wr.heap.size wr W → Calls Try.prog 27 #[.slice A' d.disk.length c', .int .i64 (F + (j : Int)), .agg (v4C x).toArray] W fun e w' => ∃ B cap, e = .returned (.slice B d.disk.length cap) ∧ w'.ownsRow W.heap.size 39 4 (.slice B d.disk.length cap) d.disk.length (v4K.all ((dTurns (U v) (dCalm d) j).disk.set (d.first.toNat + j) x)) ∧ Below W.heap.size W w') := Lib.hid (fun W _ hb => by
            rw [hFj]
            refine rput10_any A' _ c' _ W (HRj.out.kept hb) HOK.out.few _ ?_ x
            omega)
          have HFJ := Lib.hid hFj
          have hjm : j < 4 := by have := HMM.out; omega
          have g0 : (0 : Int) ≤ 4 * (j : Int) := by omega
          have g1 : 4 * (j : Int) < 16 := by omega
          have g2 : 4 * (j : Int) + 1 < 16 := by omega
          have g3 : 4 * (j : Int) + 2 < 16 := by omega
          have g4 : 4 * (j : Int) + 3 < 16 := by omega
          have HX := Lib.hid hx
          have cw : ∀ k, 4 * j + k < 16 → ∀ W : World, (∀ o, o < 20 → W.cell? ⟨w.heap.size, o, none⟩ = (dvC (.slice A' d.disk.length c') (dTurns (U v) (dCalm d) j))[o]?) → W.cell? ⟨w.heap.size, 4 + (4 * j + k), none⟩ = some (.int .u32 (U (wd (dTurns (U v) (dCalm d) j).buf (4 * j + k)))) := by
            intro k hk W hS
            rw [hS _ (by omega), ← HDj.out.dev.cell]
            exact dv_word HDj.out.dev HOKj.out hk
          have HCW := Lib.hid cw
          have HJ4 := Lib.hid hjm
          have cw0 : ∀ W : World, (∀ o, o < 20 → W.cell? ⟨w.heap.size, o, none⟩ = (dvC (.slice A' d.disk.length c') (dTurns (U v) (dCalm d) j))[o]?) → W.cell? ⟨w.heap.size, 4 + 4 * j, none⟩ = some (.int .u32 (U (wd (dTurns (U v) (dCalm d) j).buf (4 * j)))) := fun W hS => cw 0 (by omega) W hS
          have HCW0 := Lib.hid cw0
          have wF : wrap64 (wrap64 F + (j : Int)) = F + (j : Int) := by unfold wrap64; omega
          have w40 : IntKind.i64.wrap (4 * (j : Int)) = 4 * (j : Int) := by rw [IntKind.wrap_i64]; omega
          have w41 : IntKind.i64.wrap (4 * (j : Int) + 1) = 4 * (j : Int) + 1 := by rw [IntKind.wrap_i64]; omega
          have w42 : IntKind.i64.wrap (4 * (j : Int) + 2) = 4 * (j : Int) + 2 := by rw [IntKind.wrap_i64]; omega
          have w43 : IntKind.i64.wrap (4 * (j : Int) + 3) = 4 * (j : Int) + 3 := by rw [IntKind.wrap_i64]; omega
          have t41 : (4 * (j : Int) + 1).toNat = 4 * j + 1 := by omega
          have t42 : (4 * (j : Int) + 2).toNat = 4 * j + 2 := by omega
          have t43 : (4 * (j : Int) + 3).toNat = 4 * j + 3 := by omega
          have z41 : 0 ≤ 4 * (j : Int) + 1 := by omega
          have z42 : 0 ≤ 4 * (j : Int) + 2 := by omega
          have z43 : 0 ≤ 4 * (j : Int) + 3 := by omega
          have HV1 := Lib.hid v1
          have HV2 := Lib.hid v2
          clear hFj hx cw cw0 hjm hw m0 m1 n0 n1 l0 l1 v1 v2
          go_upto_region 21 with (fail)
          have SD : ∀ o, o < 20 → wr.drew.cell? ⟨w.heap.size, o, none⟩ = (dvC (.slice A' d.disk.length c') (dTurns (U v) (dCalm d) j))[o]? := fun o _ => HDj.out.dev.cell o
          refine wp_region_held_drew (S := fun W => ∀ o, o < 20 → W.cell? ⟨w.heap.size, o, none⟩ = (dvC (.slice A' d.disk.length c') (dTurns (U v) (dCalm d) j))[o]?) (by kernel_rfl) SD ?_
          intro S0
          replace S0 : ∀ o, o < 20 → wr.drew.cell? ⟨w.heap.size, o, none⟩ = (dvC (.slice A' d.disk.length c') (dTurns (U v) (dCalm d) j))[o]? := SD
          refine aT 0 (.pointer (some ⟨w.heap.size, 21, none⟩)) rfl ?_; simp only [see1, see2, see3, Act.put, see4, see5, see6]
          refine aT 2 (.int .i64 (F + (j : Int))) rfl ?_; simp only [see1, see2, see3, Act.put, see4, see5, see6]
          refine aT 3 (.int .i64 j) rfl ?_; simp only [see1, see2, see3, Act.put, see4, see5, see6]
          refine aT 4 (.int .i64 (4 * (j : Int))) rfl ?_; simp only [see1, see2, see3, Act.put, see4, see5, see6]
          refine aT 5 (.pointer (some ⟨w.heap.size, 4, none⟩)) rfl ?_; simp only [see1, see2, see3, Act.put, see4, see5, see6]
          refine aT 6 (.pointer (some ⟨w.heap.size, 4 + 4 * j, none⟩)) rfl ?_; simp only [see1, see2, see3, Act.put, see4, see5, see6]
          refine aT 7 (.int .u32 (U (wd (dTurns (U v) (dCalm d) j).buf (4 * j)))) rfl ?_ (h2 := fun W hS => by have c9 := HCW0.out W hS; go_simp; done); simp only [see1, see2, see3, Act.put, see4, see5, see6]
          refine aT 8 (.int .i64 j) rfl ?_; simp only [see1, see2, see3, Act.put, see4, see5, see6]
          refine aT 9 (.int .i64 (4 * (j : Int))) rfl ?_; simp only [see1, see2, see3, Act.put, see4, see5, see6]
          refine aT 10 (.int .i64 (4 * (j : Int) + 1)) rfl ?_; simp only [see1, see2, see3, Act.put, see4, see5, see6]
          refine aT 11 (.pointer (some ⟨w.heap.size, 4, none⟩)) rfl ?_; simp only [see1, see2, see3, Act.put, see4, see5, see6]
          refine aT 12 (.pointer (some ⟨w.heap.size, 4 + (4 * j + 1), none⟩)) rfl ?_; simp only [see1, see2, see3, Act.put, see4, see5, see6]
          refine aT 13 (.int .u32 (U (wd (dTurns (U v) (dCalm d) j).buf (4 * j + 1)))) rfl ?_ (h2 := fun W hS => by have c9 := HCW.out 1 (by have := HJ4.out; omega) W hS; go_simp; done); simp only [see1, see2, see3, Act.put, see4, see5, see6]
          refine aT 14 (.int .i64 j) rfl ?_; simp only [see1, see2, see3, Act.put, see4, see5, see6]
          refine aT 15 (.int .i64 (4 * (j : Int))) rfl ?_; simp only [see1, see2, see3, Act.put, see4, see5, see6]
          refine aT 16 (.int .i64 (4 * (j : Int) + 2)) rfl ?_; simp only [see1, see2, see3, Act.put, see4, see5, see6]
          refine aT 17 (.pointer (some ⟨w.heap.size, 4, none⟩)) rfl ?_; simp only [see1, see2, see3, Act.put, see4, see5, see6]
          refine aT 18 (.pointer (some ⟨w.heap.size, 4 + (4 * j + 2), none⟩)) rfl ?_; simp only [see1, see2, see3, Act.put, see4, see5, see6]
          refine aT 19 (.int .u32 (U (wd (dTurns (U v) (dCalm d) j).buf (4 * j + 2)))) rfl ?_ (h2 := fun W hS => by have c9 := HCW.out 2 (by have := HJ4.out; omega) W hS; go_simp; done); simp only [see1, see2, see3, Act.put, see4, see5, see6]
          refine aT 20 (.int .i64 j) rfl ?_; simp only [see1, see2, see3, Act.put, see4, see5, see6]
          refine aT 21 (.int .i64 (4 * (j : Int))) rfl ?_; simp only [see1, see2, see3, Act.put, see4, see5, see6]
          refine aT 22 (.int .i64 (4 * (j : Int) + 3)) rfl ?_; simp only [see1, see2, see3, Act.put, see4, see5, see6]
          refine aT 23 (.pointer (some ⟨w.heap.size, 4, none⟩)) rfl ?_; simp only [see1, see2, see3, Act.put, see4, see5, see6]
          refine aT 24 (.pointer (some ⟨w.heap.size, 4 + (4 * j + 3), none⟩)) rfl ?_; simp only [see1, see2, see3, Act.put, see4, see5, see6]
          refine aT 25 (.int .u32 (U (wd (dTurns (U v) (dCalm d) j).buf (4 * j + 3)))) rfl ?_ (h2 := fun W hS => by have c9 := HCW.out 3 (by have := HJ4.out; omega) W hS; go_simp; done); simp only [see1, see2, see3, Act.put, see4, see5, see6]
          refine aT 26 (.agg (v4C x).toArray) rfl ?_ (h2 := fun W hS => by rw [HX.out]; first | (go_simp; done) | (go_simp; rfl)); simp only [see1, see2, see3, Act.put, see4, see5, see6]
          refine wpAnyH_all (rs := [1]) (by kernel_rfl) (by simp) ?_
          intro i1 hi1
          obtain rfl : i1 = 1 := by simpa using hi1
          refine op_goes rfl (by rfl) ?_
          go_simp
          refine ⟨S0, ?_⟩
          refine wpAnyH_all (rs := [27]) (by kernel_rfl) (by simp) ?_
          intro i27 hi27
          obtain rfl : i27 = 27 := by simpa using hi27
          refine op_goes rfl (by rfl) ?_
          go_simp
          refine (HP.out wr.drew ⟨HDj.out.dev.drew, HDj.out.out.drew, HDj.out.below.drew, HDj.out.size⟩ (Below.refl _ _).drew).mono ?_
          rintro e w1 ⟨B, cap, rfl, o1, b1⟩
          have D1 := (show DvAt w wr.drew (.slice A' d.disk.length c') (dTurns (U v) (dCalm d) j) from ⟨HDj.out.dev.drew, HDj.out.out.drew, HDj.out.below.drew, HDj.out.size⟩).kept b1
          have S1 : ∀ o, o < 20 → w1.cell? ⟨w.heap.size, o, none⟩ = (dvC (.slice A' d.disk.length c') (dTurns (U v) (dCalm d) j))[o]? := fun o _ => D1.dev.cell o
          obtain ⟨d1, r1, n1⟩ := dv_new D1 HOKj.out o1 (by rw [List.length_set, (dTurns_same _ _ _).2.2.1]; rfl) HDj.out.size
          have f21 := D1.dev.frozen 21
          have c21b := (dv_cells D1.dev HOKj.out).2.2.2.2.2
          have HDD := Lib.hid d1
          have HRR := Lib.hid r1
          have HNN := Lib.hid n1
          have HD1 := Lib.hid D1
          clear o1 b1 d1 r1 n1 D1
          dsimp only
          refine ⟨S1, ?_⟩
          refine aT 28 (.pointer (some ⟨w.heap.size, 21, none⟩)) rfl ?_; simp only [see1, see2, see3, Act.put, see4, see5, see6]
          refine wpAnyH_all (rs := [29]) (by kernel_rfl) (by simp) ?_
          intro i29 hi29
          obtain rfl : i29 = 29 := by simpa using hi29
          refine op_goes rfl (by rfl) ?_
          go_simp
          refine ⟨fun o ho => by rw [(HD1.out.dev.put 21 _).cell, List.getElem?_set_ne (by omega)], ?_⟩
          refine wpAnyH_done (by kernel_rfl) ?_ _
          have ev : dTurns (U v) (dCalm d) (j + 1) = { dTurns (U v) (dCalm d) j with disk := (dTurns (U v) (dCalm d) j).disk.set (d.first.toNat + j) x } := by
            have hfi : (dTurns (U v) (dCalm d) j).first.toNat = d.first.toNat := by rw [(dTurns_same _ _ _).1]; rfl
            rw [dTurns_succ, dTurn, if_neg HV1.out, if_pos HV2.out, hfi, HX.out]
          have EV := Lib.hid ev
          clear ev f21 c21b S1
          go_wp2
          exact ⟨⟨j + 1, B, cap, by omega, by go_num, by rw [EV.out]; exact HDD.out, by rw [EV.out]; exact HRR.out, fun g off e => .inr (HNN.out g off e)⟩, by simp [intOf]; omega⟩
        have q2 : (U v == 2) = false := by rw [beq_eq_false_iff_ne]; exact v2
        have q3 : (U v == 3) = true := by rw [beq_iff_eq]; omega
        have hFj : F + (j : Int) = ((d.first.toNat + j : Nat) : Int) := by
          have h := HF.out
          unfold U at h
          omega
        have HP : Hid (Calls Try.prog 27 #[.slice A' d.disk.length c', .int .i64 (F + (j : Int)), .agg (v4C v40).toArray] wr fun e w' => ∃ B cap, e = .returned (.slice B d.disk.length cap) ∧ w'.ownsRow wr.heap.size 39 4 (.slice B d.disk.length cap) d.disk.length (v4K.all ((dTurns (U v) (dCalm d) j).disk.set (d.first.toNat + j) v40)) ∧ Below wr.heap.size wr w') := Lib.hid (by
          rw [hFj]
          refine rput10_any A' _ c' _ wr HRj.out HOK.out.few _ ?_ v40
          omega)
        have HFJ := Lib.hid hFj
        clear hFj
        have hz4 := v4_zero
        go_wp2_with (first
          | (go_at_call 27; (with_reducible refine HP.out.mono ?_); rintro e w1 ⟨B, cap, rfl, o1, b1⟩; have D1 := HDj.out.kept b1; have f21 := D1.dev.frozen 21; have c21b := (dv_cells D1.dev HOKj.out).2.2.2.2.2; have HO1 := Lib.hid o1; have HB1 := Lib.hid b1; have HD1 := Lib.hid D1; clear o1 b1 D1))
        obtain ⟨d1, r1, n1⟩ := dv_new HD1.out HOKj.out HO1.out (by rw [List.length_set, (dTurns_same _ _ _).2.2.1]; rfl) HDj.out.size
        have ev : dTurns (U v) (dCalm d) (j + 1) = { dTurns (U v) (dCalm d) j with disk := (dTurns (U v) (dCalm d) j).disk.set (d.first.toNat + j) v40 } := by
          have hfi : (dTurns (U v) (dCalm d) j).first.toNat = d.first.toNat := by rw [(dTurns_same _ _ _).1]; rfl
          rw [dTurns_succ, dTurn, if_neg v1, if_neg v2, hfi]
        exact ⟨⟨j + 1, B, cap, by omega, by go_num, by rw [ev]; exact d1, by rw [ev]; exact r1, fun g off e => .inr (n1 g off e)⟩, by simp [intOf]; omega⟩
      · obtain rfl : j = m := by omega
        have hge : ¬ (j : Int) < M := by have := HMM.out; omega
        have HLt := Lib.hid (dv_len (sl := .slice A' d.disk.length c') HOKj.out)
        go_wp2_with (first
          | (refine wpList_ldr (xs := dvC (.slice A' d.disk.length c') _) _ rfl rfl rfl Try.underlying34 rfl dv_size HLt.out HDj.out.dev.rng0 ?_)
          | (refine wpList_stm (pre := []) (post := []) (xs := dvZ) (ys := dvC (.slice A' d.disk.length c') _) _ _ rfl rfl rfl rfl dv_size dvZ_len HLt.out (dv_one _) rfl (by simp) HDj.out.out ?_; intro V A9 T9; rw [List.nil_append, List.append_nil] at A9; have HA9 := Lib.hid A9; have HT9 := Lib.hid T9; clear A9 T9))
        refine bodyPost_ret (results_cell_row Try.results23 _ _ _ 34 _ (0, 0) _ rfl HA9.out Try.underlying34 rfl (by rw [dv_size]; simp [HLt.out])) rfl ?_
        rw [HC.out]
        exact ⟨A', c', rfl, HRj.out.turned HT9.out (fun g off e => by have := HNE.out g off e; unfold Just; omega), HDj.out.fin HT9.out, fun g off e => (HNEW.out g off e).imp id (fun h => ⟨h.1, Nat.lt_of_lt_of_le h.2 HT9.out.size⟩)⟩
end Go.Proofs.Ytpkkejdjhnmjiaa
