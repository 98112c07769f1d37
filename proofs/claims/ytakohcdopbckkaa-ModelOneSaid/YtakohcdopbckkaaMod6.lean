/- Contracts of the document's Same, Seen and New (layer model). -/
import Derived.Test.YtakohcdopbckkaaMod5
namespace Go.Proofs.Ytakohcdopbckkaa
open Go.RowKit Bm

def R2 (w : World) (cs vs : List Value) : World := (w.alloc (.cells cs.toArray 26)).alloc (.cells vs.toArray 26)
theorem R2_a (w : World) (cs vs : List Value) : At (R2 w cs vs) w.heap.size 26 cs := (At.news w _ _).alloc _
theorem R2_b (w : World) (cs vs : List Value) : At (R2 w cs vs) (w.heap.size + 1) 26 vs := At.alloc_new _ _ _ (by rw [World.size_alloc]) rfl
theorem R2_size (w : World) (cs vs : List Value) : (R2 w cs vs).heap.size = w.heap.size + 2 := by unfold R2; rw [World.size_alloc, World.size_alloc]
theorem R2_below (w : World) (cs vs : List Value) : Below w.heap.size w (R2 w cs vs) := below_two w _ _
theorem st_ext {s t : StM} (h0 : s.sure = t.sure) (h1 : s.go = t.go) (h2 : s.at_ = t.at_) (h3 : s.next = t.next) : s = t := by
  cases s; cases t; simp_all

set_option maxRecDepth 100000 in
set_option maxHeartbeats 2000000 in
theorem same4_any (A : Option Addr) (c : Nat) (s : StM) (B : Option Addr) (d : Nat) (t : StM) (w : World) (hR : v4K.Reads w A s.sure.length c s.sure) (hL : v4K.Reads w B t.sure.length d t.sure) (hn : s.sure.length ≤ 50000) :
    Calls Try.prog 12 #[.agg (stC (.slice A s.sure.length c) s).toArray, .agg (stC (.slice B t.sure.length d) t).toArray] w fun e w' => e = .returned (.bool (decide (s = t))) ∧ Below w.heap.size w w' := by
  obtain ⟨W0, hW0⟩ : ∃ W0, W0 = R2 w (stC (.slice A s.sure.length c) s) (stC (.slice B t.sure.length d) t) := ⟨_, rfl⟩
  have A0 := R2_a w (stC (.slice A s.sure.length c) s) (stC (.slice B t.sure.length d) t)
  have A1 := R2_b w (stC (.slice A s.sure.length c) s) (stC (.slice B t.sure.length d) t)
  have B0 := R2_below w (stC (.slice A s.sure.length c) s) (stC (.slice B t.sure.length d) t)
  have s0 := R2_size w (stC (.slice A s.sure.length c) s) (stC (.slice B t.sure.length d) t)
  have hW1 := hW0
  unfold R2 at hW1
  rw [← hW0] at A0 A1 B0 s0
  have HB0 := Lib.hid B0
  have HS0 := Lib.hid s0
  have HRA := Lib.hid (hR.kept B0)
  have HRB := Lib.hid (hL.kept B0)
  obtain ⟨n, hnE⟩ : ∃ n, n = s.sure.length := ⟨_, rfl⟩
  have HNE := Lib.hid hnE
  rw [← hnE] at HRA hn A0 hW1 ⊢
  obtain ⟨m, hmE⟩ : ∃ m, m = t.sure.length := ⟨_, rfl⟩
  have HME := Lib.hid hmE
  rw [← hmE] at HRB A1 hW1 ⊢
  obtain ⟨p, hp⟩ : ∃ p, p = s.go := ⟨_, rfl⟩
  obtain ⟨q, hq⟩ : ∃ q, q = t.go := ⟨_, rfl⟩
  obtain ⟨x, hx⟩ : ∃ x, x = s.next := ⟨_, rfl⟩
  obtain ⟨y, hy⟩ : ∃ y, y = t.next := ⟨_, rfl⟩
  obtain ⟨ia, hia⟩ : ∃ ia, ia = s.at_ := ⟨_, rfl⟩
  obtain ⟨ib, hib⟩ : ∃ ib, ib = t.at_ := ⟨_, rfl⟩
  have c0 : W0.cell? ⟨w.heap.size, 0, none⟩ = some (.slice A n c) := A0.cell 0
  have c1 : W0.cell? ⟨w.heap.size, 1, none⟩ = some (.bool p) := by rw [hp]; exact A0.cell 1
  have c2 : W0.cell? ⟨w.heap.size, 2, none⟩ = some (.int .i64 ia) := by rw [hia]; exact A0.cell 2
  have c3 : W0.cell? ⟨w.heap.size, 3, none⟩ = some (.int .u32 (U x.a)) := by rw [hx]; exact A0.cell 3
  have c4 : W0.cell? ⟨w.heap.size, 4, none⟩ = some (.int .u32 (U x.b)) := by rw [hx]; exact A0.cell 4
  have c5 : W0.cell? ⟨w.heap.size, 5, none⟩ = some (.int .u32 (U x.c)) := by rw [hx]; exact A0.cell 5
  have c6 : W0.cell? ⟨w.heap.size, 6, none⟩ = some (.int .u32 (U x.d)) := by rw [hx]; exact A0.cell 6
  have d0 : W0.cell? ⟨w.heap.size + 1, 0, none⟩ = some (.slice B m d) := A1.cell 0
  have d1 : W0.cell? ⟨w.heap.size + 1, 1, none⟩ = some (.bool q) := by rw [hq]; exact A1.cell 1
  have d2 : W0.cell? ⟨w.heap.size + 1, 2, none⟩ = some (.int .i64 ib) := by rw [hib]; exact A1.cell 2
  have d3 : W0.cell? ⟨w.heap.size + 1, 3, none⟩ = some (.int .u32 (U y.a)) := by rw [hy]; exact A1.cell 3
  have d4 : W0.cell? ⟨w.heap.size + 1, 4, none⟩ = some (.int .u32 (U y.b)) := by rw [hy]; exact A1.cell 4
  have d5 : W0.cell? ⟨w.heap.size + 1, 5, none⟩ = some (.int .u32 (U y.c)) := by rw [hy]; exact A1.cell 5
  have d6 : W0.cell? ⟨w.heap.size + 1, 6, none⟩ = some (.int .u32 (U y.d)) := by rw [hy]; exact A1.cell 6
  have qe := fun W => run_eqv x y W
  have HA0 := Lib.hid A0
  have HA1 := Lib.hid A1
  have HP := Lib.hid hp
  have HQ := Lib.hid hq
  have HX := Lib.hid hx
  have HY := Lib.hid hy
  have HIA := Lib.hid hia
  have HIB := Lib.hid hib
  clear A0 A1 B0 s0 hR hL hnE hmE hp hq hx hy hia hib hW0
  by_cases hall : (n = m ∧ p = q ∧ ia = ib ∧ x = y)
  · obtain ⟨rfl, rfl, rfl, rfl⟩ := hall
    simp only [decide_true] at qe
    go_enter Try.func12, Try.ntmps12
    go_upto_region 1 with (fail)
    change Code.wp _ _ _ _ ((w.alloc (.cells (stC (.slice A n c) s).toArray 26)).alloc (.cells (stC (.slice B n d) t).toArray 26))
    rw [← hW1]
    clear hW1
    go_wp2
    go_loopw [5] (fun i wr => ∃ j : Nat, j ≤ n ∧ i = .int .i64 j ∧ Below W0.heap.size W0 wr ∧ ∀ k, k < j → v4K.nth s.sure k = v4K.nth t.sure k) (fun i _ => n - (intOf i).toNat)
    case atStart => exact ⟨0, by omega, rfl, Below.refl _ _, fun k h => absurd h (by omega)⟩
    case round =>
      clear c0 c1 c2 c3 c4 c5 c6 d0 d1 d2 d3 d4 d5 d6 qe
      obtain ⟨j, hj, rfl, hB, hs⟩ := hrel
      have HB := Lib.hid hB
      have HS := Lib.hid hs
      have k0 : wr.cell? ⟨w.heap.size, 0, none⟩ = some (.slice A n c) := (HA0.out.kept (Turned.of_below hB (Nat.le_refl _) NoBlock) (fun h => h)).cell 0
      have k1 : wr.cell? ⟨w.heap.size + 1, 0, none⟩ = some (.slice B n d) := (HA1.out.kept (Turned.of_below hB (Nat.le_refl _) NoBlock) (fun h => h)).cell 0
      clear hs hB
      by_cases hlt : j < n
      · obtain ⟨g, off, rfl, hg, hr⟩ := (HRA.out.kept HB.out).at_ hlt
        obtain ⟨g2, off2, rfl, hg2, hr2⟩ := (HRB.out.kept HB.out).at_ hlt
        have i0 : (0 : Int) ≤ (j : Int) := by omega
        have i1 : (j : Int) < (n : Int) := by omega
        obtain ⟨x', hx⟩ : ∃ x', x' = v4K.nth s.sure j := ⟨_, rfl⟩
        obtain ⟨y', hy⟩ : ∃ y', y' = v4K.nth t.sure j := ⟨_, rfl⟩
        rw [← hx] at hr
        rw [← hy] at hr2
        have HX' := Lib.hid hx
        have HY' := Lib.hid hy
        obtain ⟨l0, l1, l2, l3⟩ := v4_cells (off := off + j * 4) hr
        obtain ⟨m0, m1, m2, m3⟩ := v4_cells (off := off2 + j * 4) hr2
        have qe := fun W => run_eqv x' y' W
        clear hr hr2 hx hy hg hg2
        by_cases he : x' = y'
        · simp only [he, decide_true] at qe
          rw [he] at l0 l1 l2 l3 HX'
          clear he
          go_wp2
          go_quiet (fail)
          go_wp2
          go_roundw
          case rel => exact ⟨j + 1, by omega, by go_num, HB.out.trans (Kd.drewB _ _ _), fun k hk => by
            by_cases e : k = j
            · rw [e, ← HX'.out, ← HY'.out]
            · exact HS.out k (by omega)⟩
          case measure => simp [intOf]; omega
        · have hd : decide (x' = y') = false := by simp [he]
          rw [hd] at qe
          have HE := Lib.hid he
          clear hd he
          go_wp2
          go_quiet (fail)
          go_wp2
          go_ret
          refine ⟨?_, (HB0.out.trans (HB.out.mono (by have := HS0.out; omega))).trans (Kd.drewB _ _ _)⟩
          have : decide (s = t) = false := by
            simp only [decide_eq_false_iff_not]
            intro e
            exact HE.out (by rw [HX'.out, HY'.out, e])
          rw [this]
          rfl
      · obtain rfl : j = n := by omega
        have ht : decide (s = t) = true := by
          simp only [decide_eq_true_eq]
          exact st_ext (v4K.ext (by rw [← HNE.out, ← HME.out]) (fun i hi => HS.out i (by rw [HNE.out]; exact hi))) (by rw [← HP.out, ← HQ.out]) (by rw [← HIA.out, ← HIB.out]) (by rw [← HX.out, ← HY.out])
        have HT := Lib.hid ht
        clear ht
        go_wp2
        go_ret
        exact ⟨by rw [HT.out]; rfl, HB0.out.trans (HB.out.mono (by have := HS0.out; omega))⟩
  · have hf : decide (s = t) = false := by
      simp only [decide_eq_false_iff_not]
      intro e
      exact hall ⟨by rw [HNE.out, HME.out, e], by rw [HP.out, HQ.out, e], by rw [HIA.out, HIB.out, e], by rw [HX.out, HY.out, e]⟩
    have HF := Lib.hid hf
    have hc : (n ≠ m) ∨ (n = m ∧ p ≠ q) ∨ (n = m ∧ p = q ∧ ia ≠ ib) ∨ (n = m ∧ p = q ∧ ia = ib ∧ x ≠ y) := by
      by_cases h1 : n = m
      · by_cases h2 : p = q
        · by_cases h3 : ia = ib
          · exact .inr (.inr (.inr ⟨h1, h2, h3, fun h4 => hall ⟨h1, h2, h3, h4⟩⟩))
          · exact .inr (.inr (.inl ⟨h1, h2, h3⟩))
        · exact .inr (.inl ⟨h1, h2⟩)
      · exact .inl h1
    clear hf hall
    have fin : ∀ V, V = W0 → (Ending.returned (Value.bool false) = Ending.returned (.bool (decide (s = t))) ∧ Below w.heap.size w V) := by
      rintro V rfl
      exact ⟨by rw [HF.out], HB0.out⟩
    have FIN := Lib.hid fin
    clear fin
    rcases hc with h | ⟨rfl, h⟩ | ⟨rfl, rfl, h⟩ | ⟨rfl, rfl, rfl, h⟩
    · have h1 : ((n : Int) != (m : Int)) = true := by rw [bne_iff_ne]; omega
      have h2 : ((n : Int) == (m : Int)) = false := by rw [beq_eq_false_iff_ne]; omega
      clear h
      go_enter Try.func12, Try.ntmps12
      go_upto_region 1 with (fail)
      change Code.wp _ _ _ _ ((w.alloc (.cells (stC (.slice A n c) s).toArray 26)).alloc (.cells (stC (.slice B m d) t).toArray 26))
      rw [← hW1]
      clear hW1
      go_wp2
      go_ret
      exact FIN.out _ rfl
    · have h1 : (p != q) = true := by rw [bne_iff_ne]; exact h
      have h2 : (p == q) = false := by rw [beq_eq_false_iff_ne]; exact h
      clear h
      go_enter Try.func12, Try.ntmps12
      go_upto_region 1 with (fail)
      change Code.wp _ _ _ _ ((w.alloc (.cells (stC (.slice A n c) s).toArray 26)).alloc (.cells (stC (.slice B n d) t).toArray 26))
      rw [← hW1]
      clear hW1
      go_wp2
      go_ret
      exact FIN.out _ rfl
    · have h1 : (ia != ib) = true := by rw [bne_iff_ne]; exact h
      have h2 : (ia == ib) = false := by rw [beq_eq_false_iff_ne]; exact h
      clear h
      go_enter Try.func12, Try.ntmps12
      go_upto_region 1 with (fail)
      change Code.wp _ _ _ _ ((w.alloc (.cells (stC (.slice A n c) s).toArray 26)).alloc (.cells (stC (.slice B n d) t).toArray 26))
      rw [← hW1]
      clear hW1
      go_wp2
      go_ret
      exact FIN.out _ rfl
    · have hd : decide (x = y) = false := by simp [h]
      rw [hd] at qe
      clear h hd
      go_enter Try.func12, Try.ntmps12
      go_upto_region 1 with (fail)
      change Code.wp _ _ _ _ ((w.alloc (.cells (stC (.slice A n c) s).toArray 26)).alloc (.cells (stC (.slice B n d) t).toArray 26))
      rw [← hW1]
      clear hW1
      go_wp2
      go_ret
      exact FIN.out _ rfl
end Go.Proofs.Ytakohcdopbckkaa
