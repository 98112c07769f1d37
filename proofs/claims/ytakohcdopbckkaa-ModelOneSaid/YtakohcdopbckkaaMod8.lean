/- The statements' helper of layer model: what it asks is so. -/
import Derived.Test.YtakohcdopbckkaaMod7
namespace Go.Proofs.Ytakohcdopbckkaa
open Go.RowKit Bm

def v7 : V4 := ⟨7#32, 0#32, 0#32, 0#32⟩
def v1 : V4 := ⟨1#32, 0#32, 0#32, 0#32⟩
def aS : StM := ⟨[v40, v40], true, 1, v7⟩
theorem v7_lit : (.agg (v4C v7).toArray : Value) = .agg #[.int .u32 7, .int .u32 0, .int .u32 0, .int .u32 0] := by kernel_rfl
theorem v1_lit : (.agg (v4C v1).toArray : Value) = .agg #[.int .u32 1, .int .u32 0, .int .u32 0, .int .u32 0] := by kernel_rfl
theorem aS_lit (A : Option Addr) (c : Nat) : (.agg (stC (.slice A 2 c) aS).toArray : Value) = .agg #[.slice A 2 c, .bool true, .int .i64 1, .int .u32 7, .int .u32 0, .int .u32 0, .int .u32 0] := rfl
theorem calm_lit (A : Option Addr) (c : Nat) (l : List V4) : (.agg (stC (.slice A 2 c) (calmS l)).toArray : Value) = .agg #[.slice A 2 c, .bool false, .int .i64 0, .int .u32 0, .int .u32 0, .int .u32 0, .int .u32 0] := rfl
theorem lit_reads {W : World} {x y : V4} {X : Array Value} (hX : X = (v4K.all [x, y]).toArray) : v4K.Reads (W.alloc (.cells X 24)) (some ⟨W.heap.size, 0, none⟩) 2 2 [x, y] := by
  subst hX
  exact Kd.Reads.of_at (K := v4K) (xs := [x, y]) (cap := 2) (rest := []) (t := 24) (by rw [List.append_nil]; exact At.news W _ _) (Nat.le_refl _) (by unfold maxLen; omega)

theorem a_new (W : World) : Calls Try.prog 19 #[.int .i64 2] W fun e w' => ∃ B cap, e = .returned (.agg #[.slice B 2 cap, .bool false, .int .i64 0, .int .u32 0, .int .u32 0, .int .u32 0, .int .u32 0]) ∧ v4K.Reads w' B 2 cap [v40, v40] ∧ Below W.heap.size W w' := by
  refine (new4_any 2 W).mono ?_
  rintro e w' ⟨B, cap, rfl, h1, h2⟩
  have e2 : sNew 2 = calmS [v40, v40] := rfl
  rw [e2] at h1 ⊢
  obtain ⟨B', cap', e3, hr, _⟩ := Kd.Reads.of_own (K := v4K) h1 rfl
  cases e3
  exact ⟨B, cap, rfl, hr, h2⟩
theorem a_begun (A : Option Addr) (c : Nat) (W : World) (hR : v4K.Reads W A 2 c [v40, v40]) : Calls Try.prog 15 #[.agg #[.slice A 2 c, .bool false, .int .i64 0, .int .u32 0, .int .u32 0, .int .u32 0, .int .u32 0], .int .i64 1, .agg #[.int .u32 7, .int .u32 0, .int .u32 0, .int .u32 0]] W fun e w' => ∃ B cap, e = .returned (.agg #[.slice B 2 cap, .bool true, .int .i64 1, .int .u32 7, .int .u32 0, .int .u32 0, .int .u32 0]) ∧ v4K.Reads w' B 2 cap [v40, v40] ∧ Below W.heap.size W w' := by
  rw [← calm_lit A c [v40, v40], ← v7_lit]
  refine (begun4_any A c (calmS [v40, v40]) 1 v7 W hR (by decide)).mono ?_
  rintro e w' ⟨B, cap, rfl, h1, h2⟩
  have e2 : sBegun (calmS [v40, v40]) 1 v7 = aS := by decide +kernel
  rw [e2] at h1 ⊢
  obtain ⟨B', cap', e3, hr, _⟩ := Kd.Reads.of_own (K := v4K) h1 rfl
  cases e3
  exact ⟨B, cap, rfl, hr, h2⟩
theorem a_seen (A : Option Addr) (c : Nat) (W : World) (X : Array Value) (hX : X = (v4K.all [v40, v7]).toArray) (hR : v4K.Reads W A 2 c [v40, v40]) : Calls Try.prog 10 #[.agg #[.slice A 2 c, .bool true, .int .i64 1, .int .u32 7, .int .u32 0, .int .u32 0, .int .u32 0], .slice (some ⟨W.heap.size, 0, none⟩) 2 2] (W.alloc (.cells X 24)) fun e w' => ∃ B cap, e = .returned (.tuple #[.agg #[.slice B 2 cap, .bool false, .int .i64 0, .int .u32 0, .int .u32 0, .int .u32 0, .int .u32 0], .bool true]) ∧ v4K.Reads w' B 2 cap [v40, v7] ∧ Below W.heap.size W w' := by
  rw [← aS_lit A c]
  have hb : Below W.heap.size W (W.alloc (.cells X 24)) := (Below.refl _ W).alloc (Nat.le_refl _) _
  refine (seen4_any A c aS (some ⟨W.heap.size, 0, none⟩) 2 [v40, v7] _ (hR.kept hb) (lit_reads hX) (by decide) (by decide)).mono ?_
  rintro e w' ⟨B, cap, rfl, h1, h2⟩
  have e2 : sSeen aS [v40, v7] = calmS [v40, v7] := by decide +kernel
  have e4 : decide (sMay aS [v40, v7]) = true := by decide +kernel
  rw [e2] at h1 ⊢
  rw [e4]
  obtain ⟨B', cap', e3, hr, _⟩ := Kd.Reads.of_own (K := v4K) h1 rfl
  cases e3
  exact ⟨B, cap, rfl, hr, hb.trans (h2.mono hb.size)⟩
theorem a_may (x y : V4) (b : Bool) (hb : decide (sMay aS [x, y]) = b) (A : Option Addr) (c : Nat) (W : World) (X : Array Value) (hX : X = (v4K.all [x, y]).toArray) (hR : v4K.Reads W A 2 c [v40, v40]) : Calls Try.prog 17 #[.agg #[.slice A 2 c, .bool true, .int .i64 1, .int .u32 7, .int .u32 0, .int .u32 0, .int .u32 0], .slice (some ⟨W.heap.size, 0, none⟩) 2 2] (W.alloc (.cells X 24)) fun e w' => e = .returned (.bool b) ∧ Below W.heap.size W w' := by
  rw [← aS_lit A c]
  have hb : Below W.heap.size W (W.alloc (.cells X 24)) := (Below.refl _ W).alloc (Nat.le_refl _) _
  refine (may4_any A c aS (some ⟨W.heap.size, 0, none⟩) 2 [x, y] _ (hR.kept hb) (lit_reads hX) (by simp)).mono ?_
  rintro e w' ⟨rfl, h2⟩
  subst b
  exact ⟨rfl, hb.trans (h2.mono hb.size)⟩
theorem a_done (A : Option Addr) (c : Nat) (W : World) (hR : v4K.Reads W A 2 c [v40, v40]) : Calls Try.prog 13 #[.agg #[.slice A 2 c, .bool true, .int .i64 1, .int .u32 7, .int .u32 0, .int .u32 0, .int .u32 0], .int .i64 0, .agg #[.int .u32 1, .int .u32 0, .int .u32 0, .int .u32 0]] W fun e w' => ∃ B cap, e = .returned (.agg #[.slice B 2 cap, .bool false, .int .i64 0, .int .u32 0, .int .u32 0, .int .u32 0, .int .u32 0]) ∧ Below W.heap.size W w' := by
  rw [← aS_lit A c, ← v1_lit]
  refine (done4_any A c aS 0 v1 W hR (by decide)).mono ?_
  rintro e w' ⟨B, cap, rfl, h1, h2⟩
  have e2 : sDone aS 0 v1 = calmS [v1, v40] := by decide +kernel
  rw [e2]
  exact ⟨B, cap, rfl, h2⟩

theorem run_fst (A : Option Addr) (n c : Nat) (w : World) : (Instr.field 28 (.agg #[.slice A n c, .bool false, .int .i64 0, .int .u32 0, .int .u32 0, .int .u32 0, .int .u32 0]) 0).run Try.prog w = .ok (.slice A n c) w := by kernel_rfl
/-- The two states that alive holds. -/
structure AF (b b2 : Nat) (D : Option Addr) (c2 : Nat) (E : Option Addr) (c3 : Nat) (W : World) : Prop where
  a : At W b 28 (stC (.slice D 2 c2) aS)
  a2 : At W b2 28 (stC (.slice E 2 c3) st0)
  r : v4K.Reads W D 2 c2 [v40, v40]
  r2 : v4K.Reads W E 2 c3 [v40, v7]
section
variable {b b2 : Nat} {D : Option Addr} {c2 : Nat} {E : Option Addr} {c3 : Nat} {W W' : World}
theorem AF.kept (h : AF b b2 D c2 E c3 W) (hB : Below W.heap.size W W') : AF b b2 D c2 E c3 W' :=
  ⟨h.a.kept (Turned.of_below hB (Nat.le_refl _) NoBlock) (fun h => h), h.a2.kept (Turned.of_below hB (Nat.le_refl _) NoBlock) (fun h => h), h.r.kept hB, h.r2.kept hB⟩
theorem AF.cells (h : AF b b2 D c2 E c3 W) : W.cell? ⟨b, 0, none⟩ = some (.slice D 2 c2) ∧ W.cell? ⟨b, 1, none⟩ = some (.bool true) ∧ W.cell? ⟨b, 2, none⟩ = some (.int .i64 1) ∧ W.cell? ⟨b, 3, none⟩ = some (.int .u32 7) ∧ W.cell? ⟨b, 4, none⟩ = some (.int .u32 0) ∧ W.cell? ⟨b, 5, none⟩ = some (.int .u32 0) ∧ W.cell? ⟨b, 6, none⟩ = some (.int .u32 0) ∧ W.cell? ⟨b2, 0, none⟩ = some (.slice E 2 c3) ∧ W.cell? ⟨b2, 1, none⟩ = some (.bool false) :=
  ⟨h.a.cell 0, h.a.cell 1, h.a.cell 2, h.a.cell 3, h.a.cell 4, h.a.cell 5, h.a.cell 6, h.a2.cell 0, h.a2.cell 1⟩
theorem AF.seven {g off : Nat} (h : AF b b2 D c2 (some ⟨g, off, none⟩) c3 W) : W.cell? ⟨g, off + 4, none⟩ = some (.int .u32 7) := by
  obtain ⟨g', off', e, _, hr⟩ := h.r2.at_ (j := 1) (by omega)
  cases e
  exact hr 0 _ rfl
end

set_option maxRecDepth 100000 in
set_option maxHeartbeats 2000000 in
theorem alive9_any (w : World) : Calls Try.prog 9 #[] w fun e w' => e = .returned (.bool true) ∧ Below w.heap.size w w' := by
  have hz := st_zero
  go_enter Try.func9, Try.ntmps9
  go_upto_region 2 with (first
    | (go_at_call 19; (with_reducible refine (a_new _).mono ?_); rintro e w1 ⟨B, c1, rfl, h1, h2⟩; have HR1 := Lib.hid h1; have HB1 := Lib.hid h2; clear h1 h2)
    | (go_at_call 15; (with_reducible refine (a_begun _ _ _ HR1.out).mono ?_); rintro e w2 ⟨D, c2, rfl, h1, h2⟩; have HR2 := Lib.hid h1; have HB2 := Lib.hid h2; clear h1 h2)
    | (refine wpList_stm (pre := []) (post := []) (xs := stC (.slice none 0 0) st0) (ys := stC (.slice D 2 c2) aS) _ _ rfl rfl rfl rfl st_size (by rfl) (stC_len _ _) (stC_one _) rfl (by simp) (At.news w2 _ _) ?_; intro V A8 T8; rw [List.nil_append, List.append_nil] at A8; have HA8 := Lib.hid A8; have HT8 := Lib.hid T8; clear A8 T8))
  have hb2 : Below w.heap.size w w2 := HB1.out.trans (HB2.out.mono HB1.out.size)
  have hbv : Below w2.heap.size w2 V := ((Below.refl _ w2).alloc (Nat.le_refl _) _).trans (below_just HT8.out (Nat.le_refl _) (by simp))
  obtain ⟨b, hb⟩ : ∃ b, b = w2.heap.size := ⟨_, rfl⟩
  have HBV := Lib.hid (hb2.trans (hbv.mono hb2.size))
  have HR3 := Lib.hid (HR2.out.kept hbv)
  have HRS : Hid (w2.heap.size < V.heap.size) := Lib.hid HA8.out.lt
  rw [← hb] at HA8 HRS ⊢
  have g0 : V.cell? ⟨b, 0, none⟩ = some (.slice D 2 c2) := HA8.out.cell 0
  have g1 : V.cell? ⟨b, 1, none⟩ = some (.bool true) := HA8.out.cell 1
  have g2 : V.cell? ⟨b, 2, none⟩ = some (.int .i64 1) := HA8.out.cell 2
  have g3 : V.cell? ⟨b, 3, none⟩ = some (.int .u32 7) := HA8.out.cell 3
  have g4 : V.cell? ⟨b, 4, none⟩ = some (.int .u32 0) := HA8.out.cell 4
  have g5 : V.cell? ⟨b, 5, none⟩ = some (.int .u32 0) := HA8.out.cell 5
  have g6 : V.cell? ⟨b, 6, none⟩ = some (.int .u32 0) := HA8.out.cell 6
  clear hb hb2 hbv HB1 HR1 HB2 HR2 HT8
  go_upto_region 3 with (first
    | (go_at_call 10; (with_reducible refine (a_seen _ _ _ _ (by kernel_rfl) HR3.out).mono ?_); rintro e w3 ⟨E, c3, rfl, h1, h2⟩; have HR4 := Lib.hid h1; have HB4 := Lib.hid h2; clear h1 h2)
    | (refine wpList_stm (pre := []) (post := []) (xs := stC (.slice none 0 0) st0) (ys := stC (.slice E 2 c3) st0) _ _ rfl rfl rfl rfl st_size (by rfl) (stC_len _ _) (stC_one _) rfl (by simp) (At.news w3 _ _) ?_; intro V2 A9 T9; rw [List.nil_append, List.append_nil] at A9; have HA9 := Lib.hid A9; have HT9 := Lib.hid T9; clear A9 T9))
  have hb4 := HB4.out
  have hbv2 : Below V.heap.size V V2 := hb4.trans (((Below.refl _ w3).alloc (Nat.le_refl _) _).trans (below_just HT9.out (Nat.le_refl _) (by simp)) |>.mono hb4.size)
  obtain ⟨b2, hb2⟩ : ∃ b2, b2 = w3.heap.size := ⟨_, rfl⟩
  have hf : AF b b2 D c2 E c3 V2 := ⟨HA8.out.kept (Turned.of_below hbv2 (Nat.le_refl _) NoBlock) (fun h => h), by rw [hb2]; exact HA9.out, HR3.out.kept hbv2, HR4.out.kept (((Below.refl _ w3).alloc (Nat.le_refl _) _).trans (below_just HT9.out (Nat.le_refl _) (by simp)))⟩
  obtain ⟨ge, oe, rfl, _, _⟩ := HR4.out.at_ (j := 0) (by omega)
  rw [← hb2]
  have HF := Lib.hid hf
  have HBT := Lib.hid (HBV.out.trans (hbv2.mono HBV.out.size))
  obtain ⟨p0, p1, p2, p3, p4, p5, p6, p7, p8⟩ := hf.cells
  clear g0 g1 g2 g3 g4 g5 g6 hb4 hbv2 hb2 hf HA9 HT9 HA8 HR3 HR4 HB4 HBV
  go_wp2_with (first
    | (go_at_call 17; (with_reducible refine (a_may v40 v40 true (by decide +kernel) _ _ V2 _ (by kernel_rfl) HF.out.r).mono ?_); rintro e w4 ⟨rfl, h2⟩; have HF4 := Lib.hid (HF.out.kept h2); have HB4 := Lib.hid (HBT.out.trans (h2.mono HBT.out.size)); obtain ⟨q0, q1, q2, q3, q4, q5, q6, q7, q8⟩ := HF4.out.cells; clear h2 p0 p1 p2 p3 p4 p5 p6 p7 p8)
    | (go_at_call 17; (with_reducible refine (a_may v40 v7 true (by decide +kernel) _ _ w4 _ (by kernel_rfl) HF4.out.r).mono ?_); rintro e w5 ⟨rfl, h2⟩; have HF5 := Lib.hid (HF4.out.kept h2); have HB5 := Lib.hid (HB4.out.trans (h2.mono HB4.out.size)); obtain ⟨r0, r1, r2, r3, r4, r5, r6, r7, r8⟩ := HF5.out.cells; clear h2 q0 q1 q2 q3 q4 q5 q6 q7 q8)
    | (go_at_call 17; (with_reducible refine (a_may v7 v40 false (by decide +kernel) _ _ w5 _ (by kernel_rfl) HF5.out.r).mono ?_); rintro e w6 ⟨rfl, h2⟩; have HF6 := Lib.hid (HF5.out.kept h2); have HB6 := Lib.hid (HB5.out.trans (h2.mono HB5.out.size)); obtain ⟨s0, s1, s2, s3, s4, s5, s6, s7, s8⟩ := HF6.out.cells; have s9 := HF6.out.seven; clear h2 r0 r1 r2 r3 r4 r5 r6 r7 r8)
    | (go_at_call 13; (with_reducible refine (a_done _ _ w6 HF6.out.r).mono ?_); rintro e w7 ⟨X, c7, rfl, h2⟩; have HB7 := Lib.hid (HB6.out.trans (h2.mono HB6.out.size)); clear h2)
    | (refine wpList_fldw _ (by rfl) rfl rfl (run_fst _ _ _) ?_))
  go_ret
  exact ⟨rfl, HB7.out⟩
end Go.Proofs.Ytakohcdopbckkaa
