/- Contracts of the program's May, Seen and New (layer model). -/
import Derived.Test.YtakohcdopbckkaaMod1
namespace Go.Proofs.Ytakohcdopbckkaa
open Go.RowKit Bm

/-! ### May -/
theorem run_size4 (w : World) : (sizeOf 23).run Try.prog w = .ok 1 w := by
  simp [sizeOf]
  rfl
theorem run_part4 (w : World) (cs : Array Value) (i : Nat) (v : Value) (h : cs[i]? = some v) : (part 23 cs i).run Try.prog w = .ok v w := by
  simp [part, isAgg, run_underlying Try.underlying23, h]
theorem run_eq4 (d : Nat) (a b : Int) (w : World) : (Op.equalIn (d + 1) 23 (.int .u32 a) (.int .u32 b)).run Try.prog w = .ok (a == b) w := run_equalIn_int w d _ _ _ a b Try.underlying23
set_option maxRecDepth 10000 in
theorem run_eq_four (d : Nat) (a0 a1 a2 a3 b0 b1 b2 b3 : Int) (w : World) :
    (Op.equalIn (d + 2) 24 (.agg #[.int .u32 a0, .int .u32 a1, .int .u32 a2, .int .u32 a3]) (.agg #[.int .u32 b0, .int .u32 b1, .int .u32 b2, .int .u32 b3])).run Try.prog w =
      .ok (a0 == b0 && (a1 == b1 && (a2 == b2 && a3 == b3))) w := by
  have q := run_part4
  have e := run_eq4
  unfold Op.equalIn
  simp only [Sem.run_bind, run_underlying Try.underlying24, Result.andThen_ok, run_size4]
  rw [Std.Legacy.Range.forIn_eq_forIn_range']
  simp only [List.range', Std.Legacy.Range.size, List.forIn_cons, List.forIn_nil, Sem.run_bind]
  cases h0 : a0 == b0 <;> cases h1 : a1 == b1 <;> cases h2 : a2 == b2 <;> cases h3 : a3 == b3 <;> simp [q, e, h0, h1, h2, h3]
theorem v4_beq (x y : V4) : (U x.a == U y.a && (U x.b == U y.b && (U x.c == U y.c && U x.d == U y.d))) = decide (x = y) := by
  obtain ⟨a, b, c, d⟩ := x
  obtain ⟨a', b', c', d'⟩ := y
  rw [Bool.eq_iff_iff]
  simp only [Bool.and_eq_true, beq_iff_eq, U_eq_iff, decide_eq_true_eq, V4.mk.injEq]
/-- Two values are compared. -/
theorem run_eqv (x y : V4) (w : World) : (Op.equalIn 10000 24 (.agg #[.int .u32 (U x.a), .int .u32 (U x.b), .int .u32 (U x.c), .int .u32 (U x.d)]) (.agg #[.int .u32 (U y.a), .int .u32 (U y.b), .int .u32 (U y.c), .int .u32 (U y.d)])).run Try.prog w = .ok (decide (x = y)) w := by
  rw [← v4_beq]
  exact run_eq_four 9998 _ _ _ _ _ _ _ _ w
theorem v4_cells {w : World} {g off : Nat} {v : V4} (h : w.rangeAt g off (v4C v)) : w.cell? ⟨g, off, none⟩ = some (.int .u32 (U v.a)) ∧ w.cell? ⟨g, off + 1, none⟩ = some (.int .u32 (U v.b)) ∧ w.cell? ⟨g, off + 2, none⟩ = some (.int .u32 (U v.c)) ∧ w.cell? ⟨g, off + 3, none⟩ = some (.int .u32 (U v.d)) :=
  ⟨h 0 _ rfl, h 1 _ rfl, h 2 _ rfl, h 3 _ rfl⟩
theorem may_false {s : StM} {l : List V4} {j : Nat} (hj : j < l.length) (h : ¬ okAt s l j) : decide (sMay s l) = false := by
  simp only [decide_eq_false_iff_not]
  exact fun hm => h (hm.2 j hj)

set_option maxRecDepth 100000 in
set_option maxHeartbeats 2000000 in
theorem may4_any (A : Option Addr) (c : Nat) (s : StM) (B : Option Addr) (cb : Nat) (l : List V4) (w : World) (hR : v4K.Reads w A s.sure.length c s.sure) (hL : v4K.Reads w B l.length cb l) (hn : l.length ≤ 50000) :
    Calls Try.prog 17 #[.agg (stC (.slice A s.sure.length c) s).toArray, .slice B l.length cb] w fun e w' => e = .returned (.bool (decide (sMay s l))) ∧ Below w.heap.size w w' := by
  obtain ⟨W0, hW0⟩ : ∃ W0, W0 = w.alloc (.cells (stC (.slice A s.sure.length c) s).toArray 28) := ⟨_, rfl⟩
  have A0 : At W0 w.heap.size 28 (stC (.slice A s.sure.length c) s) := by rw [hW0]; exact At.news w _ _
  have B0 : Below w.heap.size w W0 := by rw [hW0]; exact (Below.refl _ w).alloc (Nat.le_refl _) _
  have s0 : W0.heap.size = w.heap.size + 1 := by rw [hW0, World.size_alloc]
  have c0 : W0.cell? ⟨w.heap.size, 0, none⟩ = some (.slice A s.sure.length c) := A0.cell 0
  have HA0 := Lib.hid A0
  have HB0 := Lib.hid B0
  have HS0 := Lib.hid s0
  have HRA := Lib.hid (hR.kept B0)
  have HRB := Lib.hid (hL.kept B0)
  have hz := v4_zero
  obtain ⟨n, hnE⟩ : ∃ n, n = l.length := ⟨_, rfl⟩
  have HNE := Lib.hid hnE
  rw [← hnE] at HRB hn ⊢
  obtain ⟨m, hmE⟩ : ∃ m, m = s.sure.length := ⟨_, rfl⟩
  have HME := Lib.hid hmE
  rw [← hmE] at HRA c0 HA0 hW0 ⊢
  clear A0 B0 s0 hR hL hnE hmE
  by_cases hl : n = m
  · subst hl
    go_enter Try.func17, Try.ntmps17
    go_upto_region 1 with (fail)
    change Code.wp _ _ _ _ (w.alloc (.cells (stC (.slice A n c) s).toArray 28))
    rw [← hW0]
    clear hW0
    go_wp2
    go_loopw [16] (fun i wr => ∃ j : Nat, j ≤ n ∧ i = .int .i64 j ∧ Below W0.heap.size W0 wr ∧ ∀ k, k < j → okAt s l k) (fun i _ => n - (intOf i).toNat)
    case atStart => exact ⟨0, by omega, rfl, Below.refl _ _, fun k h => absurd h (by omega)⟩
    case round =>
      obtain ⟨j, hj, rfl, hB, hs⟩ := hrel
      have HB := Lib.hid hB
      have HS := Lib.hid hs
      clear hB hs
      by_cases hlt : j < n
      · obtain ⟨g, off, rfl, hg, hr⟩ := (HRB.out.kept HB.out).at_ hlt
        obtain ⟨g2, off2, rfl, hg2, hr2⟩ := (HRA.out.kept HB.out).at_ hlt
        have i0 : (0 : Int) ≤ (j : Int) := by omega
        have i1 : (j : Int) < (n : Int) := by omega
        obtain ⟨x, hx⟩ : ∃ x, x = v4K.nth l j := ⟨_, rfl⟩
        obtain ⟨y, hy⟩ : ∃ y, y = v4K.nth s.sure j := ⟨_, rfl⟩
        rw [← hx] at hr
        rw [← hy] at hr2
        have HX := Lib.hid hx
        have HY := Lib.hid hy
        have HR := Lib.hid hr
        have HR2 := Lib.hid hr2
        have HG : Hid (g < wr.heap.size ∧ g2 < wr.heap.size) := Lib.hid ⟨hg, hg2⟩
        obtain ⟨b, hb⟩ : ∃ b, b = wr.heap.size := ⟨_, rfl⟩
        have HBN := Lib.hid hb
        clear hr hr2 hx hy hg hg2 hb
        go_upto_region 6 with (first
          | (refine wpList_ldr (xs := v4C x) _ rfl rfl rfl Try.underlying24 rfl v4_size (v4_len _) HR.out ?_)
          | (refine wpList_stm (pre := []) (post := []) (xs := v4C v40) (ys := v4C x) _ _ rfl rfl rfl rfl v4_size (by rfl) (v4_len _) (v4_one _) rfl (by simp) (At.news wr _ _) ?_; intro V A3 T3; rw [List.nil_append, List.append_nil] at A3))
        have a0 : At V w.heap.size 28 (stC (.slice (some ⟨g2, off2, none⟩) n c) s) := ((HA0.out.kept (Turned.of_below HB.out (Nat.le_refl _) NoBlock) (fun h => h)).alloc _).kept T3 (fun e => by have := HS0.out; have := HB.out.size; unfold Just at e; omega)
        have a1 : V.rangeAt g2 (off2 + j * 4) (v4C y) := range_keep HR2.out ((T3.block g2 (by rw [World.size_alloc]; have := HG.out; omega) (fun e => by have := HG.out; unfold Just at e; omega)).trans (Below.heap_alloc wr _ g2 HG.out.2))
        have hbv : Below W0.heap.size W0 V := (HB.out.alloc HB.out.size _).trans (below_just T3 HB.out.size (by rw [World.size_alloc]; have := HB.out.size; omega))
        have HBV := Lib.hid hbv
        have k0 : V.cell? ⟨w.heap.size, 0, none⟩ = some (.slice (some ⟨g2, off2, none⟩) n c) := a0.cell 0
        have k1 : V.cell? ⟨w.heap.size, 1, none⟩ = some (.bool s.go) := a0.cell 1
        have k2 : V.cell? ⟨w.heap.size, 2, none⟩ = some (.int .i64 s.at_) := a0.cell 2
        have k3 : V.cell? ⟨w.heap.size, 3, none⟩ = some (.int .u32 (U s.next.a)) := a0.cell 3
        have k4 : V.cell? ⟨w.heap.size, 4, none⟩ = some (.int .u32 (U s.next.b)) := a0.cell 4
        have k5 : V.cell? ⟨w.heap.size, 5, none⟩ = some (.int .u32 (U s.next.c)) := a0.cell 5
        have k6 : V.cell? ⟨w.heap.size, 6, none⟩ = some (.int .u32 (U s.next.d)) := a0.cell 6
        obtain ⟨l0, l1, l2, l3⟩ := v4_cells A3.rng0
        obtain ⟨m0, m1, m2, m3⟩ := v4_cells a1
        simp only [Nat.zero_add] at l0 l1 l2 l3
        obtain ⟨gb, hgb⟩ : ∃ q, q = s.go := ⟨_, rfl⟩
        obtain ⟨ab, hab⟩ : ∃ q, q = ((j : Int) == s.at_) := ⟨_, rfl⟩
        obtain ⟨nb, hnb⟩ : ∃ q, q = decide (x = s.next) := ⟨_, rfl⟩
        obtain ⟨eb, heb⟩ : ∃ q, q = decide (x = y) := ⟨_, rfl⟩
        have qn := fun W => run_eqv x s.next W
        have qe := fun W => run_eqv x y W
        rw [← hnb] at qn
        rw [← heb] at qe
        rw [← hgb] at k1
        have hok : decide (okAt s l j) = (eb || (gb && ab && nb)) := by
          rw [hgb, hab, hnb, heb, HX.out, HY.out, Bool.eq_iff_iff]
          simp only [decide_eq_true_eq, Bool.or_eq_true, Bool.and_eq_true, beq_iff_eq, and_assoc]
          exact Iff.rfl
        have hab' := hab.symm
        have HOK := Lib.hid hok
        clear a0 a1 hbv A3 T3 hgb hnb heb hok hab
        cases eb
        · by_cases hno : (gb && ab && nb) = true
          · obtain ⟨⟨rfl, rfl⟩, rfl⟩ : (gb = true ∧ ab = true) ∧ nb = true := by simpa using hno
            clear hno
            go_wp2
            go_quiet (fail)
            go_wp2
            go_roundw
            case rel => exact ⟨j + 1, by omega, by go_num, HBV.out.trans (Kd.drewB _ _ _), fun k hk => by
              by_cases e : k = j
              · rw [e]; have := HOK.out; simpa using this
              · exact HS.out k (by omega)⟩
            case measure => simp [intOf]; omega
          · have hno' : gb = false ∨ (gb = true ∧ ab = false) ∨ (gb = true ∧ ab = true ∧ nb = false) := by
              cases gb <;> cases ab <;> cases nb <;> simp_all
            clear hno
            rcases hno' with rfl | ⟨rfl, rfl⟩ | ⟨rfl, rfl, rfl⟩
            all_goals
              go_wp2
              go_quiet (fail)
              go_wp2
              go_ret
              exact ⟨by rw [may_false (j := j) (by have := HNE.out; omega) (fun h => by have := HOK.out; simp [h] at this)]; rfl, (HB0.out.trans (HBV.out.mono (by have := HS0.out; omega))).trans (Kd.drewB _ _ _)⟩
        · have hno' : gb = false ∨ (gb = true ∧ ab = false) ∨ (gb = true ∧ ab = true ∧ nb = false) ∨ (gb = true ∧ ab = true ∧ nb = true) := by
            cases gb <;> cases ab <;> cases nb <;> simp_all
          rcases hno' with rfl | ⟨rfl, rfl⟩ | ⟨rfl, rfl, rfl⟩ | ⟨rfl, rfl, rfl⟩
          all_goals
            go_wp2
            go_quiet (fail)
            go_wp2
            go_roundw
            case rel => exact ⟨j + 1, by omega, by go_num, HBV.out.trans (Kd.drewB _ _ _), fun k hk => by
              by_cases e : k = j
              · rw [e]; have := HOK.out; simpa using this
              · exact HS.out k (by omega)⟩
            case measure => simp [intOf]; omega
      · obtain rfl : j = n := by omega
        have ht : decide (sMay s l) = true := by
          have h1 := HNE.out
          have h2 := HME.out
          simp only [decide_eq_true_eq]
          exact ⟨by omega, fun i hi => HS.out i (by omega)⟩
        have HT := Lib.hid ht
        clear ht
        go_wp2
        go_ret
        exact ⟨by rw [HT.out]; rfl, HB0.out.trans (HB.out.mono (by have := HS0.out; omega))⟩
  · have hne : ((n : Int) == (m : Int)) = false := by rw [beq_eq_false_iff_ne]; omega
    have hf : decide (sMay s l) = false := by
      have h1 := HNE.out
      have h2 := HME.out
      simp only [decide_eq_false_iff_not]
      exact fun h => hl (by have := h.1; omega)
    have HF := Lib.hid hf
    clear hf hl
    go_enter Try.func17, Try.ntmps17
    go_upto_region 1 with (fail)
    change Code.wp _ _ _ _ (w.alloc (.cells (stC (.slice A m c) s).toArray 28))
    rw [← hW0]
    clear hW0
    go_wp2
    go_ret
    exact ⟨by rw [HF.out]; rfl, HB0.out⟩
end Go.Proofs.Ytakohcdopbckkaa
