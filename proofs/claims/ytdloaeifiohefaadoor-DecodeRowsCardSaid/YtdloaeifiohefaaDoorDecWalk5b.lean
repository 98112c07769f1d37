/- DecodeRows' closure: the first of five ops of a name that has a word. -/
import Derived.Test.YtdloaeifiohefaaDoorDecWalk5a
namespace Go.Proofs.YtdloaeifiohefaaDoor
open Go.RowKit Bm

theorem res_op3 {fn : Func} {i j l : Tmp} (h : fn.results = #[.tmp i, .cell j 25, .tmp l]) (tmps : Array Value) {w : World} {g : Nat} {o : OpM} {u v : Value} (hu : tmps.getD i undef = u) (hp : tmps.getD j undef = .pointer (some ⟨g, 0, none⟩)) (hq : tmps.getD l undef = v) (hA : At w g 25 (opC o)) :
    (results fn tmps).run Tryd.prog w = .ok (.tuple #[u, .agg (opC o).toArray, v]) w := by
  have hu' : tmps[i]?.getD undef = u := by simpa using hu
  have hp' : tmps[j]?.getD undef = .pointer (some ⟨g, 0, none⟩) := by simpa using hp
  have hq' : tmps[l]?.getD undef = v := by simpa using hq
  simp [results, h, hu', hp', hq', asAddr, run_loadVar_row (P := Tryd.prog) w g 25 25 (opC o).toArray (0, 0) _ hA Tryd.underlying25 rfl (by rw [op_size]; simp [opC])]

set_option maxRecDepth 100000 in
set_option maxHeartbeats 8000000 in
theorem first_any (nn g0 g1 g2 : Int) (hn : 0 ≤ nn ∧ nn ≤ 255) (h0 : 0 ≤ g0 ∧ g0 ≤ 255) (h1 : 0 ≤ g1 ∧ g1 ≤ 255) (h2 : 0 ≤ g2 ∧ g2 ≤ 255) (B : Nat) (w : World) (hT : Tabs w) (hA : At w B 38 [.int .u8 g0, .int .u8 g1, .int .u8 g2]) :
    Calls Tryd.prog 16 #[.int .u8 nn, .pointer (some ⟨B, 0, none⟩)] w fun e w' => ∃ o : OpM, e = .returned (.tuple #[.int .u32 (U (encM o)), .agg (opC o).toArray, .bool true]) ∧ encB o = true ∧ o.name = nn % 69 + 1 ∧ Below w.heap.size w w' := by
  have HT := Lib.hid hT
  obtain ⟨k, hk⟩ : ∃ k : Nat, nn % 69 = (k : Int) := ⟨(nn % 69).toNat, by omega⟩
  obtain ⟨r0, hr0⟩ : ∃ r, r = g0 % 32 := ⟨_, rfl⟩
  obtain ⟨r1, hr1⟩ : ∃ r, r = g1 % 32 := ⟨_, rfl⟩
  obtain ⟨r2, hr2⟩ : ∃ r, r = g2 % 32 := ⟨_, rfl⟩
  have m0 : nn.tmod 69 = (k : Int) := by rw [mod69 hn.1, hk]
  have m1 : g0.tmod 32 = r0 := by rw [mod32' h0.1, hr0]
  have m2 : g1.tmod 32 = r1 := by rw [mod32' h1.1, hr1]
  have m3 : g2.tmod 32 = r2 := by rw [mod32' h2.1, hr2]
  have v0 : IntKind.i64.wrap nn = nn := by rw [IntKind.wrap_i64]; omega
  have v1 : IntKind.i64.wrap g0 = g0 := by rw [IntKind.wrap_i64]; omega
  have v2 : IntKind.i64.wrap g1 = g1 := by rw [IntKind.wrap_i64]; omega
  have v3 : IntKind.i64.wrap g2 = g2 := by rw [IntKind.wrap_i64]; omega
  have x0 : IntKind.i64.wrap (k : Int) = (k : Int) := by rw [IntKind.wrap_i64]; omega
  have x1 : IntKind.i64.wrap r0 = r0 := by rw [IntKind.wrap_i64]; omega
  have x2 : IntKind.i64.wrap r1 = r1 := by rw [IntKind.wrap_i64]; omega
  have x3 : IntKind.i64.wrap r2 = r2 := by rw [IntKind.wrap_i64]; omega
  have x4 : IntKind.i64.wrap (1 + (k : Int)) = (k : Int) + 1 := by rw [IntKind.wrap_i64]; omega
  have HK := Lib.hid hk
  have HL2 : Hid (2 ≤ w.heap.size) := Lib.hid hT.two
  have HZ := Lib.hid (zero_enc k (by omega))
  have c0 : w.cell? ⟨B, 0, none⟩ = some (.int .u8 g0) := hA.cell 0
  have c1 : w.cell? ⟨B, 1, none⟩ = some (.int .u8 g1) := hA.cell 1
  have c2 : w.cell? ⟨B, 2, none⟩ = some (.int .u8 g2) := hA.cell 2
  have hlt := hA.lt
  have d0 : ∀ o, (w.alloc o).cell? ⟨B, 0, none⟩ = some (.int .u8 g0) := fun o => (hA.alloc o).cell 0
  have d1 : ∀ o, (w.alloc o).cell? ⟨B, 1, none⟩ = some (.int .u8 g1) := fun o => (hA.alloc o).cell 1
  have d2 : ∀ o, (w.alloc o).cell? ⟨B, 2, none⟩ = some (.int .u8 g2) := fun o => (hA.alloc o).cell 2
  have H0 : Hid (∀ W, Tabs W → Calls Tryd.prog 12 #[.agg (opC ⟨(k : Int) + 1, r0, r1, r2, 0#32⟩).toArray] W fun e w' => e = .returned (.tuple #[.int .u32 (U (encM ⟨(k : Int) + 1, r0, r1, r2, 0#32⟩)), .bool (encB ⟨(k : Int) + 1, r0, r1, r2, 0#32⟩)]) ∧ Below W.heap.size W w') := Lib.hid (fun W h => encode_any _ _ _ _ _ W h)
  obtain ⟨e0, he0⟩ : ∃ e, e = encB ⟨(k : Int) + 1, r0, r1, r2, 0#32⟩ := ⟨_, rfl⟩
  have HE0 := Lib.hid he0
  rw [← he0] at H0
  clear he0
  have H1 : Hid (∀ W, Tabs W → Calls Tryd.prog 12 #[.agg (opC ⟨(k : Int) + 1, r0, r1, 0, 0#32⟩).toArray] W fun e w' => e = .returned (.tuple #[.int .u32 (U (encM ⟨(k : Int) + 1, r0, r1, 0, 0#32⟩)), .bool (encB ⟨(k : Int) + 1, r0, r1, 0, 0#32⟩)]) ∧ Below W.heap.size W w') := Lib.hid (fun W h => encode_any _ _ _ _ _ W h)
  obtain ⟨e1, he1⟩ : ∃ e, e = encB ⟨(k : Int) + 1, r0, r1, 0, 0#32⟩ := ⟨_, rfl⟩
  have HE1 := Lib.hid he1
  rw [← he1] at H1
  clear he1
  have H2 : Hid (∀ W, Tabs W → Calls Tryd.prog 12 #[.agg (opC ⟨(k : Int) + 1, 0, r1, r2, 0#32⟩).toArray] W fun e w' => e = .returned (.tuple #[.int .u32 (U (encM ⟨(k : Int) + 1, 0, r1, r2, 0#32⟩)), .bool (encB ⟨(k : Int) + 1, 0, r1, r2, 0#32⟩)]) ∧ Below W.heap.size W w') := Lib.hid (fun W h => encode_any _ _ _ _ _ W h)
  obtain ⟨e2, he2⟩ : ∃ e, e = encB ⟨(k : Int) + 1, 0, r1, r2, 0#32⟩ := ⟨_, rfl⟩
  have HE2 := Lib.hid he2
  rw [← he2] at H2
  clear he2
  have H3 : Hid (∀ W, Tabs W → Calls Tryd.prog 12 #[.agg (opC ⟨(k : Int) + 1, r0, 0, 0, 0#32⟩).toArray] W fun e w' => e = .returned (.tuple #[.int .u32 (U (encM ⟨(k : Int) + 1, r0, 0, 0, 0#32⟩)), .bool (encB ⟨(k : Int) + 1, r0, 0, 0, 0#32⟩)]) ∧ Below W.heap.size W w') := Lib.hid (fun W h => encode_any _ _ _ _ _ W h)
  obtain ⟨e3, he3⟩ : ∃ e, e = encB ⟨(k : Int) + 1, r0, 0, 0, 0#32⟩ := ⟨_, rfl⟩
  have HE3 := Lib.hid he3
  rw [← he3] at H3
  clear he3
  have H4 : Hid (∀ W, Tabs W → Calls Tryd.prog 12 #[.agg (opC ⟨(k : Int) + 1, 0, 0, 0, 0#32⟩).toArray] W fun e w' => e = .returned (.tuple #[.int .u32 (U (encM ⟨(k : Int) + 1, 0, 0, 0, 0#32⟩)), .bool (encB ⟨(k : Int) + 1, 0, 0, 0, 0#32⟩)]) ∧ Below W.heap.size W w') := Lib.hid (fun W h => encode_any _ _ _ _ _ W h)
  rw [HZ.out] at H4
  obtain ⟨C, hC⟩ : ∃ C : List Value, C = opC ⟨(k : Int) + 1, r0, r1, r2, 0#32⟩ ++ (opC ⟨(k : Int) + 1, r0, r1, 0, 0#32⟩ ++ (opC ⟨(k : Int) + 1, 0, r1, r2, 0#32⟩ ++ (opC ⟨(k : Int) + 1, r0, 0, 0, 0#32⟩ ++ (opC ⟨(k : Int) + 1, 0, 0, 0, 0#32⟩)))) := ⟨_, rfl⟩
  have HC := Lib.hid hC
  have R0 : Hid (∀ o o', At (((w.alloc (.cells (opC op0).toArray 25)).alloc o).alloc o') w.heap.size 25 (opC op0)) := Lib.hid (fun o o' => ((At.news w 25 (opC op0)).alloc o).alloc o')
  have G0 : Hid (∀ o o', At (((w.alloc o).alloc o').alloc (.cells C.toArray 25)) (w.heap.size + 1 + 1) 25 C) := Lib.hid (fun o o' => At.alloc_new _ _ C (by simp) rfl)
  have L0 : Hid (∀ o o' o'', Below w.heap.size w (((w.alloc o).alloc o').alloc o'')) := Lib.hid fun o o' o'' => (((Below.refl _ w).alloc (Nat.le_refl _) _).alloc (by simp) _).alloc (by simp <;> omega) _
  clear hT hA hk hn h0 h1 h2 hr0 hr1 hr2 hC
  go_enter Tryd.func16, Tryd.ntmps16
  go_wp2
  obtain ⟨R, hR⟩ : ∃ R, R = w.heap.size := ⟨_, rfl⟩
  have HRV := Lib.hid hR
  obtain ⟨W0, hW0⟩ : ∃ W0, W0 = (((w.alloc (.cells #[.int .i64 0, .int .i64 0, .int .i64 0, .int .i64 0, .int .u32 0] 25)).alloc (.cells #[.int .i64 ((k : Int) + 1), .int .i64 r0, .int .i64 r1, .int .i64 r2, .int .u32 0] 25)).alloc (.cells #[.int .i64 ((k : Int) + 1), .int .i64 r0, .int .i64 r1, .int .i64 r2, .int .u32 0, .int .i64 ((k : Int) + 1), .int .i64 r0, .int .i64 r1, .int .i64 0, .int .u32 0, .int .i64 ((k : Int) + 1), .int .i64 0, .int .i64 r1, .int .i64 r2, .int .u32 0, .int .i64 ((k : Int) + 1), .int .i64 r0, .int .i64 0, .int .i64 0, .int .u32 0, .int .i64 ((k : Int) + 1), .int .i64 0, .int .i64 0, .int .i64 0, .int .u32 0] 25)) := ⟨_, rfl⟩
  have AR : At W0 R 25 (opC op0) := by rw [hW0, hR]; exact R0.out _ _
  have AG : At W0 (R + 1 + 1) 25 C := by
    rw [hW0, hR]
    have := G0.out (.cells #[.int .i64 0, .int .i64 0, .int .i64 0, .int .i64 0, .int .u32 0] 25) (.cells #[.int .i64 ((k : Int) + 1), .int .i64 r0, .int .i64 r1, .int .i64 r2, .int .u32 0] 25)
    rw [HC.out] at this ⊢
    exact this
  have LB : Below w.heap.size w W0 := by rw [hW0]; exact L0.out _ _ _
  rw [← hW0]
  simp only [← hR]
  have HAR := Lib.hid AR
  have HAG := Lib.hid AG
  have HLB := Lib.hid LB
  clear hW0 AR AG LB hR R0 G0 L0 d0 d1 d2
  go_loopw [53, 8, 9, 10] (fun i _ _ _ wr => ∃ j : Nat, j ≤ 4 ∧ i = .int .i64 j ∧ At wr R 25 (opC op0) ∧ At wr (R + 1 + 1) 25 C ∧ Below w.heap.size w wr) (fun i _ _ _ _ => 5 - (intOf i).toNat)
  case atStart => exact ⟨0, by omega, rfl, HAR.out, HAG.out, HLB.out⟩
  case round =>
    obtain ⟨j, hj, rfl, hA, hG, hB⟩ := hrel
    have A1 := Lib.hid hA
    have G1 := Lib.hid hG
    have L1 := Lib.hid hB
    clear hA hG hB HAR HAG HLB
    have c : j = 0 ∨ j = 1 ∨ j = 2 ∨ j = 3 ∨ j = 4 := by omega
    rcases c with rfl | rfl | rfl | rfl | rfl
    · cases e0
      · go_upto_region 6 with (first
          | (refine wpList_ldm (ty := 25) (xs := opC ⟨(k : Int) + 1, r0, r1, r2, 0#32⟩) (pre := []) (post := (opC ⟨(k : Int) + 1, r0, r1, 0, 0#32⟩ ++ (opC ⟨(k : Int) + 1, 0, r1, r2, 0#32⟩ ++ (opC ⟨(k : Int) + 1, r0, 0, 0, 0#32⟩ ++ opC ⟨(k : Int) + 1, 0, 0, 0, 0#32⟩)))) _ rfl rfl rfl Tryd.underlying25 rfl op_size rfl rfl (HC.out.trans rfl) G1.out ?_)
          | (refine wpList_newO 25 ⟨(k : Int) + 1, r0, r1, r2, 0#32⟩ wr _ _ rfl rfl rfl rfl rfl op_size ?_; intro w3 hA hb; have P3 := Lib.hid hA; have A3 := Lib.hid (at_keep A1.out hb); have G3 := Lib.hid (at_keep G1.out hb); have L3 := Lib.hid (L1.out.trans (hb.mono L1.out.size)); clear hA hb)
          | (refine wpList_ldw (ty := 25) _ (by rfl) rfl rfl Tryd.underlying25 rfl op_size rfl P3.out.rng0 ?_)
          | (go_at_call 12; (with_reducible refine (H0.out _ (HT.out.below L3.out HL2.out)).mono ?_); rintro e w4 ⟨rfl, hb⟩; have A4 := Lib.hid (at_keep A3.out hb); have G4 := Lib.hid (at_keep G3.out hb); have P4 := Lib.hid (at_keep P3.out hb); have L4 := Lib.hid (L3.out.trans (hb.mono L3.out.size)); clear hb))
        go_wp2
        exact ⟨⟨1, by omega, by first | exact trivial | go_num, A4.out, G4.out, L4.out⟩, by decide⟩
      · go_upto_region 6 with (first
          | (refine wpList_ldm (ty := 25) (xs := opC ⟨(k : Int) + 1, r0, r1, r2, 0#32⟩) (pre := []) (post := (opC ⟨(k : Int) + 1, r0, r1, 0, 0#32⟩ ++ (opC ⟨(k : Int) + 1, 0, r1, r2, 0#32⟩ ++ (opC ⟨(k : Int) + 1, r0, 0, 0, 0#32⟩ ++ opC ⟨(k : Int) + 1, 0, 0, 0, 0#32⟩)))) _ rfl rfl rfl Tryd.underlying25 rfl op_size rfl rfl (HC.out.trans rfl) G1.out ?_)
          | (refine wpList_newO 25 ⟨(k : Int) + 1, r0, r1, r2, 0#32⟩ wr _ _ rfl rfl rfl rfl rfl op_size ?_; intro w3 hA hb; have P3 := Lib.hid hA; have A3 := Lib.hid (at_keep A1.out hb); have G3 := Lib.hid (at_keep G1.out hb); have L3 := Lib.hid (L1.out.trans (hb.mono L1.out.size)); clear hA hb)
          | (refine wpList_ldw (ty := 25) _ (by rfl) rfl rfl Tryd.underlying25 rfl op_size rfl P3.out.rng0 ?_)
          | (go_at_call 12; (with_reducible refine (H0.out _ (HT.out.below L3.out HL2.out)).mono ?_); rintro e w4 ⟨rfl, hb⟩; have A4 := Lib.hid (at_keep A3.out hb); have G4 := Lib.hid (at_keep G3.out hb); have P4 := Lib.hid (at_keep P3.out hb); have L4 := Lib.hid (L3.out.trans (hb.mono L3.out.size)); clear hb))
        obtain ⟨bx, hbx⟩ : ∃ bx, bx = wr.heap.size := ⟨_, rfl⟩
        have HNE : Hid (R ≠ bx) := Lib.hid (by have := A1.out.lt; omega)
        rw [← hbx] at P4
        simp only [← hbx]
        clear hbx
        go_upto_region 7 with (fail)
        have SD : At w4.drew bx 25 (opC ⟨(k : Int) + 1, r0, r1, r2, 0#32⟩) := P4.out.drew
        refine wp_region_held_drew (S := fun W => At W bx 25 (opC ⟨(k : Int) + 1, r0, r1, r2, 0#32⟩)) (by kernel_rfl) SD ?_
        intro S0
        replace S0 : At w4.drew bx 25 (opC ⟨(k : Int) + 1, r0, r1, r2, 0#32⟩) := SD
        refine aT 0 (.int .u32 (U (encM ⟨(k : Int) + 1, r0, r1, r2, 0#32⟩))) rfl ?_; simp only [see1, see2, Act.put, see4, see5, see6]
        refine aT 1 (.agg (opC ⟨(k : Int) + 1, r0, r1, r2, 0#32⟩).toArray) rfl ?_ (h2 := fun W hS => (load_is _ _ _ _ _ _ _ _ W).trans (load_at Tryd.underlying25 rfl op_size hS.rng0 rfl)); simp only [see1, see2, see3, Act.put, see4, see5, see6]
        refine aT 2 (.int .u32 (U (encM ⟨(k : Int) + 1, r0, r1, r2, 0#32⟩))) rfl ?_; simp only [see1, see2, see3, Act.put, see4, see5, see6]
        refine aS (xs := opC op0) (pre := []) (post := []) 3 _ _ rfl rfl rfl rfl op_size rfl rfl (op_one _) rfl (by simp) A4.out.drew ?_
        intro w10 hA10 hT10
        rw [List.nil_append, List.append_nil] at hA10
        refine ⟨S0.kept hT10 (by unfold Just; exact fun h => HNE.out h.symm), ?_⟩
        have S1 : At w10 bx 25 (opC ⟨(k : Int) + 1, r0, r1, r2, 0#32⟩) := S0.kept hT10 (by unfold Just; exact fun h => HNE.out h.symm)
        refine aT 4 (.bool true) rfl ?_; simp only [see1, see2, see3, Act.put, see4, see5, see6]
        refine wpAnyH_done (by kernel_rfl) ?_ _
        have HA10 := Lib.hid hA10
        have HB10 := Lib.hid (L4.out.drew.trans (hT10.below (B := w.heap.size) (fun b hb => by unfold Just at hb; have := HRV.out; omega) L4.out.drew.size))
        clear hA10 hT10 S0 S1
        go_wp2
        refine bodyPost_ret (res_op3 (o := ⟨(k : Int) + 1, r0, r1, r2, 0#32⟩) (v := .bool true) Tryd.results16 _ rfl rfl rfl HA10.out) rfl ⟨⟨(k : Int) + 1, r0, r1, r2, 0#32⟩, rfl, HE0.out.symm, by rw [HK.out], HB10.out⟩
    · cases e1
      · go_upto_region 6 with (first
          | (refine wpList_ldm (ty := 25) (xs := opC ⟨(k : Int) + 1, r0, r1, 0, 0#32⟩) (pre := (opC ⟨(k : Int) + 1, r0, r1, r2, 0#32⟩)) (post := (opC ⟨(k : Int) + 1, 0, r1, r2, 0#32⟩ ++ (opC ⟨(k : Int) + 1, r0, 0, 0, 0#32⟩ ++ opC ⟨(k : Int) + 1, 0, 0, 0, 0#32⟩))) _ rfl rfl rfl Tryd.underlying25 rfl op_size rfl rfl (HC.out.trans rfl) G1.out ?_)
          | (refine wpList_newO 25 ⟨(k : Int) + 1, r0, r1, 0, 0#32⟩ wr _ _ rfl rfl rfl rfl rfl op_size ?_; intro w3 hA hb; have P3 := Lib.hid hA; have A3 := Lib.hid (at_keep A1.out hb); have G3 := Lib.hid (at_keep G1.out hb); have L3 := Lib.hid (L1.out.trans (hb.mono L1.out.size)); clear hA hb)
          | (refine wpList_ldw (ty := 25) _ (by rfl) rfl rfl Tryd.underlying25 rfl op_size rfl P3.out.rng0 ?_)
          | (go_at_call 12; (with_reducible refine (H1.out _ (HT.out.below L3.out HL2.out)).mono ?_); rintro e w4 ⟨rfl, hb⟩; have A4 := Lib.hid (at_keep A3.out hb); have G4 := Lib.hid (at_keep G3.out hb); have P4 := Lib.hid (at_keep P3.out hb); have L4 := Lib.hid (L3.out.trans (hb.mono L3.out.size)); clear hb))
        go_wp2
        exact ⟨⟨2, by omega, by first | exact trivial | go_num, A4.out, G4.out, L4.out⟩, by decide⟩
      · go_upto_region 6 with (first
          | (refine wpList_ldm (ty := 25) (xs := opC ⟨(k : Int) + 1, r0, r1, 0, 0#32⟩) (pre := (opC ⟨(k : Int) + 1, r0, r1, r2, 0#32⟩)) (post := (opC ⟨(k : Int) + 1, 0, r1, r2, 0#32⟩ ++ (opC ⟨(k : Int) + 1, r0, 0, 0, 0#32⟩ ++ opC ⟨(k : Int) + 1, 0, 0, 0, 0#32⟩))) _ rfl rfl rfl Tryd.underlying25 rfl op_size rfl rfl (HC.out.trans rfl) G1.out ?_)
          | (refine wpList_newO 25 ⟨(k : Int) + 1, r0, r1, 0, 0#32⟩ wr _ _ rfl rfl rfl rfl rfl op_size ?_; intro w3 hA hb; have P3 := Lib.hid hA; have A3 := Lib.hid (at_keep A1.out hb); have G3 := Lib.hid (at_keep G1.out hb); have L3 := Lib.hid (L1.out.trans (hb.mono L1.out.size)); clear hA hb)
          | (refine wpList_ldw (ty := 25) _ (by rfl) rfl rfl Tryd.underlying25 rfl op_size rfl P3.out.rng0 ?_)
          | (go_at_call 12; (with_reducible refine (H1.out _ (HT.out.below L3.out HL2.out)).mono ?_); rintro e w4 ⟨rfl, hb⟩; have A4 := Lib.hid (at_keep A3.out hb); have G4 := Lib.hid (at_keep G3.out hb); have P4 := Lib.hid (at_keep P3.out hb); have L4 := Lib.hid (L3.out.trans (hb.mono L3.out.size)); clear hb))
        obtain ⟨bx, hbx⟩ : ∃ bx, bx = wr.heap.size := ⟨_, rfl⟩
        have HNE : Hid (R ≠ bx) := Lib.hid (by have := A1.out.lt; omega)
        rw [← hbx] at P4
        simp only [← hbx]
        clear hbx
        go_upto_region 7 with (fail)
        have SD : At w4.drew bx 25 (opC ⟨(k : Int) + 1, r0, r1, 0, 0#32⟩) := P4.out.drew
        refine wp_region_held_drew (S := fun W => At W bx 25 (opC ⟨(k : Int) + 1, r0, r1, 0, 0#32⟩)) (by kernel_rfl) SD ?_
        intro S0
        replace S0 : At w4.drew bx 25 (opC ⟨(k : Int) + 1, r0, r1, 0, 0#32⟩) := SD
        refine aT 0 (.int .u32 (U (encM ⟨(k : Int) + 1, r0, r1, 0, 0#32⟩))) rfl ?_; simp only [see1, see2, Act.put, see4, see5, see6]
        refine aT 1 (.agg (opC ⟨(k : Int) + 1, r0, r1, 0, 0#32⟩).toArray) rfl ?_ (h2 := fun W hS => (load_is _ _ _ _ _ _ _ _ W).trans (load_at Tryd.underlying25 rfl op_size hS.rng0 rfl)); simp only [see1, see2, see3, Act.put, see4, see5, see6]
        refine aT 2 (.int .u32 (U (encM ⟨(k : Int) + 1, r0, r1, 0, 0#32⟩))) rfl ?_; simp only [see1, see2, see3, Act.put, see4, see5, see6]
        refine aS (xs := opC op0) (pre := []) (post := []) 3 _ _ rfl rfl rfl rfl op_size rfl rfl (op_one _) rfl (by simp) A4.out.drew ?_
        intro w10 hA10 hT10
        rw [List.nil_append, List.append_nil] at hA10
        refine ⟨S0.kept hT10 (by unfold Just; exact fun h => HNE.out h.symm), ?_⟩
        have S1 : At w10 bx 25 (opC ⟨(k : Int) + 1, r0, r1, 0, 0#32⟩) := S0.kept hT10 (by unfold Just; exact fun h => HNE.out h.symm)
        refine aT 4 (.bool true) rfl ?_; simp only [see1, see2, see3, Act.put, see4, see5, see6]
        refine wpAnyH_done (by kernel_rfl) ?_ _
        have HA10 := Lib.hid hA10
        have HB10 := Lib.hid (L4.out.drew.trans (hT10.below (B := w.heap.size) (fun b hb => by unfold Just at hb; have := HRV.out; omega) L4.out.drew.size))
        clear hA10 hT10 S0 S1
        go_wp2
        refine bodyPost_ret (res_op3 (o := ⟨(k : Int) + 1, r0, r1, 0, 0#32⟩) (v := .bool true) Tryd.results16 _ rfl rfl rfl HA10.out) rfl ⟨⟨(k : Int) + 1, r0, r1, 0, 0#32⟩, rfl, HE1.out.symm, by rw [HK.out], HB10.out⟩
    · cases e2
      · go_upto_region 6 with (first
          | (refine wpList_ldm (ty := 25) (xs := opC ⟨(k : Int) + 1, 0, r1, r2, 0#32⟩) (pre := (opC ⟨(k : Int) + 1, r0, r1, r2, 0#32⟩ ++ opC ⟨(k : Int) + 1, r0, r1, 0, 0#32⟩)) (post := (opC ⟨(k : Int) + 1, r0, 0, 0, 0#32⟩ ++ opC ⟨(k : Int) + 1, 0, 0, 0, 0#32⟩)) _ rfl rfl rfl Tryd.underlying25 rfl op_size rfl rfl (HC.out.trans rfl) G1.out ?_)
          | (refine wpList_newO 25 ⟨(k : Int) + 1, 0, r1, r2, 0#32⟩ wr _ _ rfl rfl rfl rfl rfl op_size ?_; intro w3 hA hb; have P3 := Lib.hid hA; have A3 := Lib.hid (at_keep A1.out hb); have G3 := Lib.hid (at_keep G1.out hb); have L3 := Lib.hid (L1.out.trans (hb.mono L1.out.size)); clear hA hb)
          | (refine wpList_ldw (ty := 25) _ (by rfl) rfl rfl Tryd.underlying25 rfl op_size rfl P3.out.rng0 ?_)
          | (go_at_call 12; (with_reducible refine (H2.out _ (HT.out.below L3.out HL2.out)).mono ?_); rintro e w4 ⟨rfl, hb⟩; have A4 := Lib.hid (at_keep A3.out hb); have G4 := Lib.hid (at_keep G3.out hb); have P4 := Lib.hid (at_keep P3.out hb); have L4 := Lib.hid (L3.out.trans (hb.mono L3.out.size)); clear hb))
        go_wp2
        exact ⟨⟨3, by omega, by first | exact trivial | go_num, A4.out, G4.out, L4.out⟩, by decide⟩
      · go_upto_region 6 with (first
          | (refine wpList_ldm (ty := 25) (xs := opC ⟨(k : Int) + 1, 0, r1, r2, 0#32⟩) (pre := (opC ⟨(k : Int) + 1, r0, r1, r2, 0#32⟩ ++ opC ⟨(k : Int) + 1, r0, r1, 0, 0#32⟩)) (post := (opC ⟨(k : Int) + 1, r0, 0, 0, 0#32⟩ ++ opC ⟨(k : Int) + 1, 0, 0, 0, 0#32⟩)) _ rfl rfl rfl Tryd.underlying25 rfl op_size rfl rfl (HC.out.trans rfl) G1.out ?_)
          | (refine wpList_newO 25 ⟨(k : Int) + 1, 0, r1, r2, 0#32⟩ wr _ _ rfl rfl rfl rfl rfl op_size ?_; intro w3 hA hb; have P3 := Lib.hid hA; have A3 := Lib.hid (at_keep A1.out hb); have G3 := Lib.hid (at_keep G1.out hb); have L3 := Lib.hid (L1.out.trans (hb.mono L1.out.size)); clear hA hb)
          | (refine wpList_ldw (ty := 25) _ (by rfl) rfl rfl Tryd.underlying25 rfl op_size rfl P3.out.rng0 ?_)
          | (go_at_call 12; (with_reducible refine (H2.out _ (HT.out.below L3.out HL2.out)).mono ?_); rintro e w4 ⟨rfl, hb⟩; have A4 := Lib.hid (at_keep A3.out hb); have G4 := Lib.hid (at_keep G3.out hb); have P4 := Lib.hid (at_keep P3.out hb); have L4 := Lib.hid (L3.out.trans (hb.mono L3.out.size)); clear hb))
        obtain ⟨bx, hbx⟩ : ∃ bx, bx = wr.heap.size := ⟨_, rfl⟩
        have HNE : Hid (R ≠ bx) := Lib.hid (by have := A1.out.lt; omega)
        rw [← hbx] at P4
        simp only [← hbx]
        clear hbx
        go_upto_region 7 with (fail)
        have SD : At w4.drew bx 25 (opC ⟨(k : Int) + 1, 0, r1, r2, 0#32⟩) := P4.out.drew
        refine wp_region_held_drew (S := fun W => At W bx 25 (opC ⟨(k : Int) + 1, 0, r1, r2, 0#32⟩)) (by kernel_rfl) SD ?_
        intro S0
        replace S0 : At w4.drew bx 25 (opC ⟨(k : Int) + 1, 0, r1, r2, 0#32⟩) := SD
        refine aT 0 (.int .u32 (U (encM ⟨(k : Int) + 1, 0, r1, r2, 0#32⟩))) rfl ?_; simp only [see1, see2, Act.put, see4, see5, see6]
        refine aT 1 (.agg (opC ⟨(k : Int) + 1, 0, r1, r2, 0#32⟩).toArray) rfl ?_ (h2 := fun W hS => (load_is _ _ _ _ _ _ _ _ W).trans (load_at Tryd.underlying25 rfl op_size hS.rng0 rfl)); simp only [see1, see2, see3, Act.put, see4, see5, see6]
        refine aT 2 (.int .u32 (U (encM ⟨(k : Int) + 1, 0, r1, r2, 0#32⟩))) rfl ?_; simp only [see1, see2, see3, Act.put, see4, see5, see6]
        refine aS (xs := opC op0) (pre := []) (post := []) 3 _ _ rfl rfl rfl rfl op_size rfl rfl (op_one _) rfl (by simp) A4.out.drew ?_
        intro w10 hA10 hT10
        rw [List.nil_append, List.append_nil] at hA10
        refine ⟨S0.kept hT10 (by unfold Just; exact fun h => HNE.out h.symm), ?_⟩
        have S1 : At w10 bx 25 (opC ⟨(k : Int) + 1, 0, r1, r2, 0#32⟩) := S0.kept hT10 (by unfold Just; exact fun h => HNE.out h.symm)
        refine aT 4 (.bool true) rfl ?_; simp only [see1, see2, see3, Act.put, see4, see5, see6]
        refine wpAnyH_done (by kernel_rfl) ?_ _
        have HA10 := Lib.hid hA10
        have HB10 := Lib.hid (L4.out.drew.trans (hT10.below (B := w.heap.size) (fun b hb => by unfold Just at hb; have := HRV.out; omega) L4.out.drew.size))
        clear hA10 hT10 S0 S1
        go_wp2
        refine bodyPost_ret (res_op3 (o := ⟨(k : Int) + 1, 0, r1, r2, 0#32⟩) (v := .bool true) Tryd.results16 _ rfl rfl rfl HA10.out) rfl ⟨⟨(k : Int) + 1, 0, r1, r2, 0#32⟩, rfl, HE2.out.symm, by rw [HK.out], HB10.out⟩
    · cases e3
      · go_upto_region 6 with (first
          | (refine wpList_ldm (ty := 25) (xs := opC ⟨(k : Int) + 1, r0, 0, 0, 0#32⟩) (pre := (opC ⟨(k : Int) + 1, r0, r1, r2, 0#32⟩ ++ (opC ⟨(k : Int) + 1, r0, r1, 0, 0#32⟩ ++ opC ⟨(k : Int) + 1, 0, r1, r2, 0#32⟩))) (post := (opC ⟨(k : Int) + 1, 0, 0, 0, 0#32⟩)) _ rfl rfl rfl Tryd.underlying25 rfl op_size rfl rfl (HC.out.trans rfl) G1.out ?_)
          | (refine wpList_newO 25 ⟨(k : Int) + 1, r0, 0, 0, 0#32⟩ wr _ _ rfl rfl rfl rfl rfl op_size ?_; intro w3 hA hb; have P3 := Lib.hid hA; have A3 := Lib.hid (at_keep A1.out hb); have G3 := Lib.hid (at_keep G1.out hb); have L3 := Lib.hid (L1.out.trans (hb.mono L1.out.size)); clear hA hb)
          | (refine wpList_ldw (ty := 25) _ (by rfl) rfl rfl Tryd.underlying25 rfl op_size rfl P3.out.rng0 ?_)
          | (go_at_call 12; (with_reducible refine (H3.out _ (HT.out.below L3.out HL2.out)).mono ?_); rintro e w4 ⟨rfl, hb⟩; have A4 := Lib.hid (at_keep A3.out hb); have G4 := Lib.hid (at_keep G3.out hb); have P4 := Lib.hid (at_keep P3.out hb); have L4 := Lib.hid (L3.out.trans (hb.mono L3.out.size)); clear hb))
        go_wp2
        exact ⟨⟨4, by omega, by first | exact trivial | go_num, A4.out, G4.out, L4.out⟩, by decide⟩
      · go_upto_region 6 with (first
          | (refine wpList_ldm (ty := 25) (xs := opC ⟨(k : Int) + 1, r0, 0, 0, 0#32⟩) (pre := (opC ⟨(k : Int) + 1, r0, r1, r2, 0#32⟩ ++ (opC ⟨(k : Int) + 1, r0, r1, 0, 0#32⟩ ++ opC ⟨(k : Int) + 1, 0, r1, r2, 0#32⟩))) (post := (opC ⟨(k : Int) + 1, 0, 0, 0, 0#32⟩)) _ rfl rfl rfl Tryd.underlying25 rfl op_size rfl rfl (HC.out.trans rfl) G1.out ?_)
          | (refine wpList_newO 25 ⟨(k : Int) + 1, r0, 0, 0, 0#32⟩ wr _ _ rfl rfl rfl rfl rfl op_size ?_; intro w3 hA hb; have P3 := Lib.hid hA; have A3 := Lib.hid (at_keep A1.out hb); have G3 := Lib.hid (at_keep G1.out hb); have L3 := Lib.hid (L1.out.trans (hb.mono L1.out.size)); clear hA hb)
          | (refine wpList_ldw (ty := 25) _ (by rfl) rfl rfl Tryd.underlying25 rfl op_size rfl P3.out.rng0 ?_)
          | (go_at_call 12; (with_reducible refine (H3.out _ (HT.out.below L3.out HL2.out)).mono ?_); rintro e w4 ⟨rfl, hb⟩; have A4 := Lib.hid (at_keep A3.out hb); have G4 := Lib.hid (at_keep G3.out hb); have P4 := Lib.hid (at_keep P3.out hb); have L4 := Lib.hid (L3.out.trans (hb.mono L3.out.size)); clear hb))
        obtain ⟨bx, hbx⟩ : ∃ bx, bx = wr.heap.size := ⟨_, rfl⟩
        have HNE : Hid (R ≠ bx) := Lib.hid (by have := A1.out.lt; omega)
        rw [← hbx] at P4
        simp only [← hbx]
        clear hbx
        go_upto_region 7 with (fail)
        have SD : At w4.drew bx 25 (opC ⟨(k : Int) + 1, r0, 0, 0, 0#32⟩) := P4.out.drew
        refine wp_region_held_drew (S := fun W => At W bx 25 (opC ⟨(k : Int) + 1, r0, 0, 0, 0#32⟩)) (by kernel_rfl) SD ?_
        intro S0
        replace S0 : At w4.drew bx 25 (opC ⟨(k : Int) + 1, r0, 0, 0, 0#32⟩) := SD
        refine aT 0 (.int .u32 (U (encM ⟨(k : Int) + 1, r0, 0, 0, 0#32⟩))) rfl ?_; simp only [see1, see2, Act.put, see4, see5, see6]
        refine aT 1 (.agg (opC ⟨(k : Int) + 1, r0, 0, 0, 0#32⟩).toArray) rfl ?_ (h2 := fun W hS => (load_is _ _ _ _ _ _ _ _ W).trans (load_at Tryd.underlying25 rfl op_size hS.rng0 rfl)); simp only [see1, see2, see3, Act.put, see4, see5, see6]
        refine aT 2 (.int .u32 (U (encM ⟨(k : Int) + 1, r0, 0, 0, 0#32⟩))) rfl ?_; simp only [see1, see2, see3, Act.put, see4, see5, see6]
        refine aS (xs := opC op0) (pre := []) (post := []) 3 _ _ rfl rfl rfl rfl op_size rfl rfl (op_one _) rfl (by simp) A4.out.drew ?_
        intro w10 hA10 hT10
        rw [List.nil_append, List.append_nil] at hA10
        refine ⟨S0.kept hT10 (by unfold Just; exact fun h => HNE.out h.symm), ?_⟩
        have S1 : At w10 bx 25 (opC ⟨(k : Int) + 1, r0, 0, 0, 0#32⟩) := S0.kept hT10 (by unfold Just; exact fun h => HNE.out h.symm)
        refine aT 4 (.bool true) rfl ?_; simp only [see1, see2, see3, Act.put, see4, see5, see6]
        refine wpAnyH_done (by kernel_rfl) ?_ _
        have HA10 := Lib.hid hA10
        have HB10 := Lib.hid (L4.out.drew.trans (hT10.below (B := w.heap.size) (fun b hb => by unfold Just at hb; have := HRV.out; omega) L4.out.drew.size))
        clear hA10 hT10 S0 S1
        go_wp2
        refine bodyPost_ret (res_op3 (o := ⟨(k : Int) + 1, r0, 0, 0, 0#32⟩) (v := .bool true) Tryd.results16 _ rfl rfl rfl HA10.out) rfl ⟨⟨(k : Int) + 1, r0, 0, 0, 0#32⟩, rfl, HE3.out.symm, by rw [HK.out], HB10.out⟩
    · go_upto_region 6 with (first
        | (refine wpList_ldm (ty := 25) (xs := opC ⟨(k : Int) + 1, 0, 0, 0, 0#32⟩) (pre := (opC ⟨(k : Int) + 1, r0, r1, r2, 0#32⟩ ++ (opC ⟨(k : Int) + 1, r0, r1, 0, 0#32⟩ ++ (opC ⟨(k : Int) + 1, 0, r1, r2, 0#32⟩ ++ opC ⟨(k : Int) + 1, r0, 0, 0, 0#32⟩)))) (post := []) _ rfl rfl rfl Tryd.underlying25 rfl op_size rfl rfl (HC.out.trans rfl) G1.out ?_)
        | (refine wpList_newO 25 ⟨(k : Int) + 1, 0, 0, 0, 0#32⟩ wr _ _ rfl rfl rfl rfl rfl op_size ?_; intro w3 hA hb; have P3 := Lib.hid hA; have A3 := Lib.hid (at_keep A1.out hb); have G3 := Lib.hid (at_keep G1.out hb); have L3 := Lib.hid (L1.out.trans (hb.mono L1.out.size)); clear hA hb)
        | (refine wpList_ldw (ty := 25) _ (by rfl) rfl rfl Tryd.underlying25 rfl op_size rfl P3.out.rng0 ?_)
        | (go_at_call 12; (with_reducible refine (H4.out _ (HT.out.below L3.out HL2.out)).mono ?_); rintro e w4 ⟨rfl, hb⟩; have A4 := Lib.hid (at_keep A3.out hb); have G4 := Lib.hid (at_keep G3.out hb); have P4 := Lib.hid (at_keep P3.out hb); have L4 := Lib.hid (L3.out.trans (hb.mono L3.out.size)); clear hb))
      obtain ⟨bx, hbx⟩ : ∃ bx, bx = wr.heap.size := ⟨_, rfl⟩
      have HNE : Hid (R ≠ bx) := Lib.hid (by have := A1.out.lt; omega)
      rw [← hbx] at P4
      simp only [← hbx]
      clear hbx
      go_upto_region 7 with (fail)
      have SD : At w4.drew bx 25 (opC ⟨(k : Int) + 1, 0, 0, 0, 0#32⟩) := P4.out.drew
      refine wp_region_held_drew (S := fun W => At W bx 25 (opC ⟨(k : Int) + 1, 0, 0, 0, 0#32⟩)) (by kernel_rfl) SD ?_
      intro S0
      replace S0 : At w4.drew bx 25 (opC ⟨(k : Int) + 1, 0, 0, 0, 0#32⟩) := SD
      refine aT 0 (.int .u32 (U (encM ⟨(k : Int) + 1, 0, 0, 0, 0#32⟩))) rfl ?_; simp only [see1, see2, Act.put, see4, see5, see6]
      refine aT 1 (.agg (opC ⟨(k : Int) + 1, 0, 0, 0, 0#32⟩).toArray) rfl ?_ (h2 := fun W hS => (load_is _ _ _ _ _ _ _ _ W).trans (load_at Tryd.underlying25 rfl op_size hS.rng0 rfl)); simp only [see1, see2, see3, Act.put, see4, see5, see6]
      refine aT 2 (.int .u32 (U (encM ⟨(k : Int) + 1, 0, 0, 0, 0#32⟩))) rfl ?_; simp only [see1, see2, see3, Act.put, see4, see5, see6]
      refine aS (xs := opC op0) (pre := []) (post := []) 3 _ _ rfl rfl rfl rfl op_size rfl rfl (op_one _) rfl (by simp) A4.out.drew ?_
      intro w10 hA10 hT10
      rw [List.nil_append, List.append_nil] at hA10
      refine ⟨S0.kept hT10 (by unfold Just; exact fun h => HNE.out h.symm), ?_⟩
      have S1 : At w10 bx 25 (opC ⟨(k : Int) + 1, 0, 0, 0, 0#32⟩) := S0.kept hT10 (by unfold Just; exact fun h => HNE.out h.symm)
      refine aT 4 (.bool true) rfl ?_; simp only [see1, see2, see3, Act.put, see4, see5, see6]
      refine wpAnyH_done (by kernel_rfl) ?_ _
      have HA10 := Lib.hid hA10
      have HB10 := Lib.hid (L4.out.drew.trans (hT10.below (B := w.heap.size) (fun b hb => by unfold Just at hb; have := HRV.out; omega) L4.out.drew.size))
      clear hA10 hT10 S0 S1
      go_wp2
      refine bodyPost_ret (res_op3 (o := ⟨(k : Int) + 1, 0, 0, 0, 0#32⟩) (v := .bool true) Tryd.results16 _ rfl rfl rfl HA10.out) rfl ⟨⟨(k : Int) + 1, 0, 0, 0, 0#32⟩, rfl, HZ.out, by rw [HK.out], HB10.out⟩
end Go.Proofs.YtdloaeifiohefaaDoor
