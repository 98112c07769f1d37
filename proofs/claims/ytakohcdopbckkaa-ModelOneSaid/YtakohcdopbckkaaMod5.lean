/- Contracts of the document's May, Seen, New and Same (layer model). -/
import Derived.Test.YtakohcdopbckkaaMod4
namespace Go.Proofs.Ytakohcdopbckkaa
open Go.RowKit Bm

set_option maxRecDepth 100000 in
set_option maxHeartbeats 2000000 in
theorem rmay4_any (A : Option Addr) (c : Nat) (s : StM) (B : Option Addr) (cb : Nat) (l : List V4) (w : World) (hR : v4K.Reads w A s.sure.length c s.sure) (hL : v4K.Reads w B l.length cb l) (hn : l.length ≤ 50000) :
    Calls Try.prog 18 #[.agg (stC (.slice A s.sure.length c) s).toArray, .slice B l.length cb] w fun e w' => e = .returned (.bool (decide (sMay s l))) ∧ Below w.heap.size w w' := by
  obtain ⟨W0, hW0⟩ : ∃ W0, W0 = w.alloc (.cells (stC (.slice A s.sure.length c) s).toArray 26) := ⟨_, rfl⟩
  have A0 : At W0 w.heap.size 26 (stC (.slice A s.sure.length c) s) := by rw [hW0]; exact At.news w _ _
  have B0 : Below w.heap.size w W0 := by rw [hW0]; exact (Below.refl _ w).alloc (Nat.le_refl _) _
  have s0 : W0.heap.size = w.heap.size + 1 := by rw [hW0, World.size_alloc]
  have c0 : W0.cell? ⟨w.heap.size, 0, none⟩ = some (.slice A s.sure.length c) := A0.cell 0
  have HA0 := Lib.hid A0
  have HB0 := Lib.hid B0
  have HS0 := Lib.hid s0
  have HRA := Lib.hid (hR.kept B0)
  have HRB := Lib.hid (hL.kept B0)
  obtain ⟨n, hnE⟩ : ∃ n, n = l.length := ⟨_, rfl⟩
  have HNE := Lib.hid hnE
  rw [← hnE] at HRB hn ⊢
  obtain ⟨m, hmE⟩ : ∃ m, m = s.sure.length := ⟨_, rfl⟩
  have HME := Lib.hid hmE
  rw [← hmE] at HRA c0 HA0 hW0 ⊢
  clear A0 B0 s0 hR hL hnE hmE
  by_cases hl : n = m
  · subst hl
    go_enter Try.func18, Try.ntmps18
    go_upto_region 1 with (fail)
    change Code.wp _ _ _ _ (w.alloc (.cells (stC (.slice A n c) s).toArray 26))
    rw [← hW0]
    clear hW0
    go_wp2
    go_loopw [5] (fun i wr => ∃ j : Nat, j ≤ n ∧ i = .int .i64 j ∧ Below W0.heap.size W0 wr ∧ ∀ k, k < j → okAt s l k) (fun i _ => n - (intOf i).toNat)
    case atStart => exact ⟨0, by omega, rfl, Below.refl _ _, fun k h => absurd h (by omega)⟩
    case round =>
      obtain ⟨j, hj, rfl, hB, hs⟩ := hrel
      have HB := Lib.hid hB
      have HS := Lib.hid hs
      clear hs
      by_cases hlt : j < n
      · obtain ⟨g, off, rfl, hg, hr⟩ := (HRB.out.kept HB.out).at_ hlt
        obtain ⟨g2, off2, rfl, hg2, hr2⟩ := (HRA.out.kept HB.out).at_ hlt
        have i0 : (0 : Int) ≤ (j : Int) := by omega
        have i1 : (j : Int) < (n : Int) := by omega
        obtain ⟨x, hx⟩ : ∃ x, x = v4K.nth l j := ⟨_, rfl⟩
        obtain ⟨y, hy⟩ : ∃ y, y = v4K.nth s.sure j := ⟨_, rfl⟩
        rw [← hx] at hr
        rw [← hy] at hr2
        have HX := Lib.hid hx
        have HY := Lib.hid hy
        have a0 : At wr w.heap.size 26 (stC (.slice (some ⟨g2, off2, none⟩) n c) s) := HA0.out.kept (Turned.of_below hB (Nat.le_refl _) NoBlock) (fun h => h)
        have k0 : wr.cell? ⟨w.heap.size, 0, none⟩ = some (.slice (some ⟨g2, off2, none⟩) n c) := a0.cell 0
        have k1 : wr.cell? ⟨w.heap.size, 1, none⟩ = some (.bool s.go) := a0.cell 1
        have k2 : wr.cell? ⟨w.heap.size, 2, none⟩ = some (.int .i64 s.at_) := a0.cell 2
        have k3 : wr.cell? ⟨w.heap.size, 3, none⟩ = some (.int .u32 (U s.next.a)) := a0.cell 3
        have k4 : wr.cell? ⟨w.heap.size, 4, none⟩ = some (.int .u32 (U s.next.b)) := a0.cell 4
        have k5 : wr.cell? ⟨w.heap.size, 5, none⟩ = some (.int .u32 (U s.next.c)) := a0.cell 5
        have k6 : wr.cell? ⟨w.heap.size, 6, none⟩ = some (.int .u32 (U s.next.d)) := a0.cell 6
        obtain ⟨l0, l1, l2, l3⟩ := v4_cells (off := off + j * 4) hr
        obtain ⟨m0, m1, m2, m3⟩ := v4_cells (off := off2 + j * 4) hr2
        obtain ⟨gb, hgb⟩ : ∃ q, q = s.go := ⟨_, rfl⟩
        obtain ⟨ab, hab⟩ : ∃ q, q = ((j : Int) == s.at_) := ⟨_, rfl⟩
        obtain ⟨nb, hnb⟩ : ∃ q, q = decide (x = s.next) := ⟨_, rfl⟩
        obtain ⟨eb, heb⟩ : ∃ q, q = decide (x = y) := ⟨_, rfl⟩
        have qn := fun W => run_eqv x s.next W
        have qe := fun W => run_eqv x y W
        rw [← hnb] at qn
        rw [← heb] at qe
        rw [← hgb] at k1
        have hok : decide (okAt s l j) = (eb || (gb && ab && nb)) := by
          rw [hgb, hab, hnb, heb, HX.out, HY.out, Bool.eq_iff_iff]
          simp only [decide_eq_true_eq, Bool.or_eq_true, Bool.and_eq_true, beq_iff_eq, and_assoc]
          exact Iff.rfl
        have hab' := hab.symm
        have hab2 : ((j : Int) != s.at_) = !ab := by rw [hab]; rfl
        have HOK := Lib.hid hok
        clear a0 hr hr2 hx hy hg hg2 hB hgb hnb heb hok hab
        cases eb
        · by_cases hno : (gb && ab && nb) = true
          · obtain ⟨⟨rfl, rfl⟩, rfl⟩ : (gb = true ∧ ab = true) ∧ nb = true := by simpa using hno
            simp only [Bool.not_true] at hab2
            clear hno
            go_wp2
            go_quiet (fail)
            go_wp2
            go_roundw
            case rel => exact ⟨j + 1, by omega, by go_num, HB.out.trans (Kd.drewB _ _ _), fun k hk => by
              by_cases e : k = j
              · rw [e]; have := HOK.out; simpa using this
              · exact HS.out k (by omega)⟩
            case measure => simp [intOf]; omega
          · have hno' : gb = false ∨ (gb = true ∧ ab = false) ∨ (gb = true ∧ ab = true ∧ nb = false) := by
              cases gb <;> cases ab <;> cases nb <;> simp_all
            clear hno
            rcases hno' with rfl | ⟨rfl, rfl⟩ | ⟨rfl, rfl, rfl⟩
            all_goals
              try simp only [Bool.not_true, Bool.not_false] at hab2
              go_wp2
              go_quiet (fail)
              go_wp2
              go_ret
              exact ⟨by rw [may_false (j := j) (by have := HNE.out; omega) (fun h => by have := HOK.out; simp [h] at this)]; rfl, (HB0.out.trans (HB.out.mono (by have := HS0.out; omega))).trans (Kd.drewB _ _ _)⟩
        · go_wp2
          go_quiet (fail)
          go_wp2
          go_roundw
          case rel => exact ⟨j + 1, by omega, by go_num, HB.out.trans (Kd.drewB _ _ _), fun k hk => by
            by_cases e : k = j
            · rw [e]; have := HOK.out; simpa using this
            · exact HS.out k (by omega)⟩
          case measure => simp [intOf]; omega
      · obtain rfl : j = n := by omega
        have ht : decide (sMay s l) = true := by
          have h1 := HNE.out
          have h2 := HME.out
          simp only [decide_eq_true_eq]
          exact ⟨by omega, fun i hi => HS.out i (by omega)⟩
        have HT := Lib.hid ht
        clear ht
        go_wp2
        go_ret
        exact ⟨by rw [HT.out]; rfl, HB0.out.trans (HB.out.mono (by have := HS0.out; omega))⟩
  · have hne : ((n : Int) == (m : Int)) = false := by rw [beq_eq_false_iff_ne]; omega
    have hf : decide (sMay s l) = false := by
      have h1 := HNE.out
      have h2 := HME.out
      simp only [decide_eq_false_iff_not]
      exact fun h => hl (by have := h.1; omega)
    have HF := Lib.hid hf
    clear hf hl
    go_enter Try.func18, Try.ntmps18
    go_upto_region 1 with (fail)
    change Code.wp _ _ _ _ (w.alloc (.cells (stC (.slice A m c) s).toArray 26))
    rw [← hW0]
    clear hW0
    go_wp2
    go_ret
    exact ⟨by rw [HF.out]; rfl, HB0.out⟩
end Go.Proofs.Ytakohcdopbckkaa
