/- The walk of layer page's statement PageBack. -/
import Derived.Test.YtkjgbjcdpifamaaPageAlive
import Derived.Deep.RegionHeld3
import Derived.Deep.QuietTactic
import Derived.BigQuiet
import Derived.Deep.DeepCutAuto
import Derived.Lib.Hide
namespace Go.Proofs.Ytkjgbjcdpifamaa
open Go.RowKit Bm

theorem ReadsU.drew {w : World} {A : Option Addr} {n cap : Nat} {xs : List (BitVec 32)} (h : ReadsU w A n cap xs) : ReadsU w.drew A n cap xs := ⟨h.len, h.le, h.max, h.cell⟩
theorem pg_same (p : PageM) : (U p.s == U p.s && (U p.q == U p.q && (p.g == p.g && (U p.d0 == U p.d0 && (U p.d1 == U p.d1 && (U p.d2 == U p.d2 && U p.d3 == U p.d3)))))) = true := by simp
theorem pg_differ {p q : PageM} (h : p ≠ q) : (U p.s == U q.s && (U p.q == U q.q && (p.g == q.g && (U p.d0 == U q.d0 && (U p.d1 == U q.d1 && (U p.d2 == U q.d2 && U p.d3 == U q.d3)))))) = false := by
  obtain ⟨s, k, g, d0, d1, d2, d3⟩ := p
  obtain ⟨s', k', g', e0, e1, e2, e3⟩ := q
  rw [Bool.eq_false_iff]
  intro e
  simp only [Bool.and_eq_true, beq_iff_eq, U_eq_iff] at e
  obtain ⟨rfl, rfl, rfl, rfl, rfl, rfl, rfl⟩ := e
  exact h rfl

theorem pg_eql_no {p q : PageM} (h : p ≠ q) (W : World) : Sem.run Try.prog (Op.equalIn 10000 25 (.agg #[.int .u32 (U p.s), .int .u32 (U p.q), .bool p.g, .int .u32 (U p.d0), .int .u32 (U p.d1), .int .u32 (U p.d2), .int .u32 (U p.d3)]) (.agg #[.int .u32 (U q.s), .int .u32 (U q.q), .bool q.g, .int .u32 (U q.d0), .int .u32 (U q.d1), .int .u32 (U q.d2), .int .u32 (U q.d3)])) W = .ok false W :=
  (run_eq_rpage 9997 _ _ _ _ _ _ _ _ _ _ _ _ _ _ W).trans (by rw [pg_differ h])

set_option maxRecDepth 100000 in
set_option maxHeartbeats 16000000 in
theorem pageBack_walk (p q : PageM) (x0 : Int) (hx0 : (Lit.int .u32 x0).wf = true) (w : World) :
    Calls Try.prog 5 #[pgV p, pgV q, .int .u32 x0] w fun e w' => e = .returned (.bool true) ∧ Below w.heap.size w w' := by
  have cx := bounds_u32 hx0
  obtain ⟨x, rfl⟩ := U_of cx.1 (by omega)
  have x0 := U_nonneg x
  clear hx0 cx
  have HAL := Lib.hid (fun W => alive4_any W)
  obtain ⟨Z0, hZ0⟩ : ∃ Z, Z = (w.alloc (.cells (pgC p).toArray 25)).alloc (.cells (pgC q).toArray 25) := ⟨_, rfl⟩
  have e1 : (w.alloc (.cells (pgC p).toArray 25)).heap.size = w.heap.size + 1 := by simp
  have b0' : Below w.heap.size w Z0 := by rw [hZ0]; exact ((Below.refl _ w).alloc (Nat.le_refl _) _).alloc (by omega) _
  have Pp : PgAt Z0 w.heap.size 25 p := by rw [hZ0]; exact ⟨(At.news w _ _).alloc _⟩
  have Pq : PgAt Z0 (w.heap.size + 1) 25 q := by rw [hZ0, ← e1]; exact PgAt.news _ _ _
  have B0 := Lib.hid b0'
  have HZ := Lib.hid hZ0
  have P0 := Lib.hid Pp
  have Q0 := Lib.hid Pq
  clear b0' Pp Pq hZ0 e1
  have PWp := Lib.hid (fun W => pwords_any p W)
  have PWq := Lib.hid (fun W => pwords_any q W)
  have HDP := Lib.hid (fun W => pheader_any x W)
  cases hp : pgOk p
  · rw [pgWs_no hp] at PWp
    clear hp
    unfold pgV pgC at PWp PWq ⊢
    go_enter Try.func5, Try.ntmps5
    go_upto_region 1 with fail
    change Code.wp _ _ _ _ ((w.alloc (.cells (pgC p).toArray 25)).alloc (.cells (pgC q).toArray 25))
    rw [← HZ.out]
    go_upto_region 3 with (go_at_call 9; (refine (HAL.out _).mono ?_); rintro e w1 ⟨rfl, hb⟩; have P1 := Lib.hid (P0.out.on hb); have Q1 := Lib.hid (Q0.out.on hb); have B1 := Lib.hid (below_then B0.out hb); clear hb)
    obtain ⟨p10, p11, p12, p13, p14, p15, p16⟩ := P1.out.cells
    obtain ⟨q10, q11, q12, q13, q14, q15, q16⟩ := Q1.out.cells
    have PW1 := Lib.hid (PWp.out w1.drew)
    go_region_held3 (fun w' => (w'.cell? ⟨w.heap.size, 0, none⟩ = some (.int .u32 (U p.s)) ∧ w'.cell? ⟨w.heap.size, 1, none⟩ = some (.int .u32 (U p.q)) ∧ w'.cell? ⟨w.heap.size, 2, none⟩ = some (.bool p.g) ∧ w'.cell? ⟨w.heap.size, 3, none⟩ = some (.int .u32 (U p.d0)) ∧ w'.cell? ⟨w.heap.size, 4, none⟩ = some (.int .u32 (U p.d1)) ∧ w'.cell? ⟨w.heap.size, 5, none⟩ = some (.int .u32 (U p.d2)) ∧ w'.cell? ⟨w.heap.size, 6, none⟩ = some (.int .u32 (U p.d3))) ∧ (w'.cell? ⟨w.heap.size + 1, 0, none⟩ = some (.int .u32 (U q.s)) ∧ w'.cell? ⟨w.heap.size + 1, 1, none⟩ = some (.int .u32 (U q.q)) ∧ w'.cell? ⟨w.heap.size + 1, 2, none⟩ = some (.bool q.g) ∧ w'.cell? ⟨w.heap.size + 1, 3, none⟩ = some (.int .u32 (U q.d0)) ∧ w'.cell? ⟨w.heap.size + 1, 4, none⟩ = some (.int .u32 (U q.d1)) ∧ w'.cell? ⟨w.heap.size + 1, 5, none⟩ = some (.int .u32 (U q.d2)) ∧ w'.cell? ⟨w.heap.size + 1, 6, none⟩ = some (.int .u32 (U q.d3)))) (go_keep)
      (first
        | (go_at_call 15; (with_reducible refine Calls.mono PW1.out ?_); rintro e w2 ⟨A2, c2, rfl, h2, _, hb⟩; have HR2 := Lib.hid h2; have P2 := Lib.hid (P1.out.drew.on hb); have Q2 := Lib.hid (Q1.out.drew.on hb); have B2 := Lib.hid (below_then B1.out ((Below.refl _ w1).drew.trans hb)); clear hb h2; obtain ⟨p20, p21, p22, p23, p24, p25, p26⟩ := P2.out.cells; obtain ⟨q20, q21, q22, q23, q24, q25, q26⟩ := Q2.out.cells)
        | (go_at_call 15; (with_reducible refine Calls.mono (PWq.out _) ?_); rintro e w3 ⟨A3, c3, rfl, h3, _, hb⟩; have HR3 := Lib.hid h3; have HR2' := Lib.hid (HR2.out.kept hb); have P3 := Lib.hid (P2.out.on hb); have Q3 := Lib.hid (Q2.out.on hb); have B3 := Lib.hid (below_then B2.out hb); clear hb h3; obtain ⟨p30, p31, p32, p33, p34, p35, p36⟩ := P3.out.cells; obtain ⟨q30, q31, q32, q33, q34, q35, q36⟩ := Q3.out.cells))
    go_upto_region 10 with fail
    obtain ⟨W, hW⟩ : ∃ W, W = w3 := ⟨_, rfl⟩
    have BW : Hid (Below w.heap.size w W) := by rw [hW]; exact Lib.hid (B3.out)
    rw [← hW]
    clear hW
    by_cases hx : U x ≤ 2147483648
    · rw [hdWs_yes hx] at HDP
      have EC := Lib.hid (hdRd_ws hx)
      rw [hdWs_yes hx] at EC
      go_wp2_with (first
        | (go_at_call 19; (refine (HDP.out _).mono ?_); rintro e w5 ⟨A5, c5, rfl, h5, _, hb⟩; have HR5 := Lib.hid h5; have B6 := Lib.hid (below_then BW.out hb); clear hb h5)
        | (go_at_call 17; (refine (pcount_any A5 _ c5 _ _ HR5.out (by simp)).mono ?_); rintro e w6 ⟨rfl, hb⟩; rw [EC.out]; have B7 := Lib.hid (below_then B6.out hb); clear hb))
      go_ret
      exact ⟨rfl, B7.out⟩
    · rw [hdWs_no hx] at HDP
      go_wp2_with (go_at_call 19; (refine (HDP.out _).mono ?_); rintro e w5 ⟨A5, c5, rfl, h5, _, hb⟩; have B6 := Lib.hid (below_then BW.out hb); clear hb h5)
      go_ret
      exact ⟨rfl, B6.out⟩
  · rw [pgWs_yes hp] at PWp
    have ER := Lib.hid (pgRd_ws hp)
    rw [pgWs_yes hp] at ER
    cases hq : pgOk q
    · rw [pgWs_no hq] at PWq
      clear hp hq
      unfold pgV pgC at PWp PWq ⊢
      go_enter Try.func5, Try.ntmps5
      go_upto_region 1 with fail
      change Code.wp _ _ _ _ ((w.alloc (.cells (pgC p).toArray 25)).alloc (.cells (pgC q).toArray 25))
      rw [← HZ.out]
      go_upto_region 3 with (go_at_call 9; (refine (HAL.out _).mono ?_); rintro e w1 ⟨rfl, hb⟩; have P1 := Lib.hid (P0.out.on hb); have Q1 := Lib.hid (Q0.out.on hb); have B1 := Lib.hid (below_then B0.out hb); clear hb)
      obtain ⟨p10, p11, p12, p13, p14, p15, p16⟩ := P1.out.cells
      obtain ⟨q10, q11, q12, q13, q14, q15, q16⟩ := Q1.out.cells
      have PW1 := Lib.hid (PWp.out w1.drew)
      go_region_held3 (fun w' => (w'.cell? ⟨w.heap.size, 0, none⟩ = some (.int .u32 (U p.s)) ∧ w'.cell? ⟨w.heap.size, 1, none⟩ = some (.int .u32 (U p.q)) ∧ w'.cell? ⟨w.heap.size, 2, none⟩ = some (.bool p.g) ∧ w'.cell? ⟨w.heap.size, 3, none⟩ = some (.int .u32 (U p.d0)) ∧ w'.cell? ⟨w.heap.size, 4, none⟩ = some (.int .u32 (U p.d1)) ∧ w'.cell? ⟨w.heap.size, 5, none⟩ = some (.int .u32 (U p.d2)) ∧ w'.cell? ⟨w.heap.size, 6, none⟩ = some (.int .u32 (U p.d3))) ∧ (w'.cell? ⟨w.heap.size + 1, 0, none⟩ = some (.int .u32 (U q.s)) ∧ w'.cell? ⟨w.heap.size + 1, 1, none⟩ = some (.int .u32 (U q.q)) ∧ w'.cell? ⟨w.heap.size + 1, 2, none⟩ = some (.bool q.g) ∧ w'.cell? ⟨w.heap.size + 1, 3, none⟩ = some (.int .u32 (U q.d0)) ∧ w'.cell? ⟨w.heap.size + 1, 4, none⟩ = some (.int .u32 (U q.d1)) ∧ w'.cell? ⟨w.heap.size + 1, 5, none⟩ = some (.int .u32 (U q.d2)) ∧ w'.cell? ⟨w.heap.size + 1, 6, none⟩ = some (.int .u32 (U q.d3)))) (go_keep)
        (first
          | (go_at_call 15; (with_reducible refine Calls.mono PW1.out ?_); rintro e w2 ⟨A2, c2, rfl, h2, _, hb⟩; have HR2 := Lib.hid h2; have P2 := Lib.hid (P1.out.drew.on hb); have Q2 := Lib.hid (Q1.out.drew.on hb); have B2 := Lib.hid (below_then B1.out ((Below.refl _ w1).drew.trans hb)); clear hb h2; obtain ⟨p20, p21, p22, p23, p24, p25, p26⟩ := P2.out.cells; obtain ⟨q20, q21, q22, q23, q24, q25, q26⟩ := Q2.out.cells)
          | (go_at_call 15; (with_reducible refine Calls.mono (PWq.out _) ?_); rintro e w3 ⟨A3, c3, rfl, h3, _, hb⟩; have HR3 := Lib.hid h3; have HR2' := Lib.hid (HR2.out.kept hb); have P3 := Lib.hid (P2.out.on hb); have Q3 := Lib.hid (Q2.out.on hb); have B3 := Lib.hid (below_then B2.out hb); clear hb h3; obtain ⟨p30, p31, p32, p33, p34, p35, p36⟩ := P3.out.cells; obtain ⟨q30, q31, q32, q33, q34, q35, q36⟩ := Q3.out.cells))
      go_upto_region 8 with (go_at_call 10; (refine (pread_any A2 _ c2 _ _ HR2'.out (by simp)).mono ?_); rintro e w4 ⟨rfl, hb⟩; rw [ER.out]; simp only [pgV, pgC]; have al := (Below.refl _ w4).alloc (Nat.le_refl _) (.cells (pgC p).toArray 28); have HR24 := Lib.hid ((HR2'.out.kept hb).kept al); have HR34 := Lib.hid ((HR3.out.kept hb).kept al); have P4 := Lib.hid ((P3.out.on hb).on al); have Q4 := Lib.hid ((Q3.out.on hb).on al); have X4 := Lib.hid (PgAt.news w4 28 p); have B4 := Lib.hid (below_then (below_then B3.out hb) al); obtain ⟨p40, p41, p42, p43, p44, p45, p46⟩ := P4.out.cells; obtain ⟨q40, q41, q42, q43, q44, q45, q46⟩ := Q4.out.cells; obtain ⟨x40, x41, x42, x43, x44, x45, x46⟩ := X4.out.cells; simp only [pgC] at p40 p41 p42 p43 p44 p45 p46 q40 q41 q42 q43 q44 q45 q46 x40 x41 x42 x43 x44 x45 x46; clear hb al)
      change Code.wp _ _ _ _ (w4.alloc (.cells (pgC p).toArray 28))
      obtain ⟨V, hV⟩ : ∃ V, V = w4.alloc (.cells (pgC p).toArray 28) := ⟨_, rfl⟩
      have P5 : Hid (PgAt V w.heap.size 25 p) := by rw [hV]; exact P4
      have Q5 : Hid (PgAt V (w.heap.size + 1) 25 q) := by rw [hV]; exact Q4
      have R5 : Hid (ReadsU V A2 7 c2 [pgFirst p, p.q, p.d0, p.d1, p.d2, p.d3, 1526644958#32]) := by rw [hV]; exact HR24
      have R6 : Hid (ReadsU V A3 0 c3 []) := by rw [hV]; exact HR34
      have B5 : Hid (Below w.heap.size w V) := by rw [hV]; exact B4
      rw [← hV]
      clear hV
      obtain ⟨p50, p51, p52, p53, p54, p55, p56⟩ := P5.out.cells
      obtain ⟨q50, q51, q52, q53, q54, q55, q56⟩ := Q5.out.cells
      go_quiet (fail)
      go_upto_region 10 with fail
      obtain ⟨W, hW⟩ : ∃ W, W = V.drewN nq := ⟨_, rfl⟩
      have BW : Hid (Below w.heap.size w W) := by rw [hW]; exact Lib.hid (B5.out.trans (below_drewN' _ _ _))
      rw [← hW]
      clear hW
      by_cases hx : U x ≤ 2147483648
      · rw [hdWs_yes hx] at HDP
        have EC := Lib.hid (hdRd_ws hx)
        rw [hdWs_yes hx] at EC
        go_wp2_with (first
          | (go_at_call 19; (refine (HDP.out _).mono ?_); rintro e w5 ⟨A5, c5, rfl, h5, _, hb⟩; have HR5 := Lib.hid h5; have B6 := Lib.hid (below_then BW.out hb); clear hb h5)
          | (go_at_call 17; (refine (pcount_any A5 _ c5 _ _ HR5.out (by simp)).mono ?_); rintro e w6 ⟨rfl, hb⟩; rw [EC.out]; have B7 := Lib.hid (below_then B6.out hb); clear hb))
        go_ret
        exact ⟨rfl, B7.out⟩
      · rw [hdWs_no hx] at HDP
        go_wp2_with (go_at_call 19; (refine (HDP.out _).mono ?_); rintro e w5 ⟨A5, c5, rfl, h5, _, hb⟩; have B6 := Lib.hid (below_then BW.out hb); clear hb h5)
        go_ret
        exact ⟨rfl, B6.out⟩
    · have HI := Lib.hid (pgWs_inj hp hq)
      rw [pgWs_yes hp, pgWs_yes hq] at HI
      rw [pgWs_yes hq] at PWq
      clear hp hq
      by_cases hpq : p = q
      · subst hpq
        clear HI
        unfold pgV pgC at PWp PWq ⊢
        go_enter Try.func5, Try.ntmps5
        go_upto_region 1 with fail
        change Code.wp _ _ _ _ ((w.alloc (.cells (pgC p).toArray 25)).alloc (.cells (pgC p).toArray 25))
        rw [← HZ.out]
        go_upto_region 3 with (go_at_call 9; (refine (HAL.out _).mono ?_); rintro e w1 ⟨rfl, hb⟩; have P1 := Lib.hid (P0.out.on hb); have Q1 := Lib.hid (Q0.out.on hb); have B1 := Lib.hid (below_then B0.out hb); clear hb)
        obtain ⟨p10, p11, p12, p13, p14, p15, p16⟩ := P1.out.cells
        obtain ⟨q10, q11, q12, q13, q14, q15, q16⟩ := Q1.out.cells
        have PW1 := Lib.hid (PWp.out w1.drew)
        go_region_held3 (fun w' => (w'.cell? ⟨w.heap.size, 0, none⟩ = some (.int .u32 (U p.s)) ∧ w'.cell? ⟨w.heap.size, 1, none⟩ = some (.int .u32 (U p.q)) ∧ w'.cell? ⟨w.heap.size, 2, none⟩ = some (.bool p.g) ∧ w'.cell? ⟨w.heap.size, 3, none⟩ = some (.int .u32 (U p.d0)) ∧ w'.cell? ⟨w.heap.size, 4, none⟩ = some (.int .u32 (U p.d1)) ∧ w'.cell? ⟨w.heap.size, 5, none⟩ = some (.int .u32 (U p.d2)) ∧ w'.cell? ⟨w.heap.size, 6, none⟩ = some (.int .u32 (U p.d3))) ∧ (w'.cell? ⟨w.heap.size + 1, 0, none⟩ = some (.int .u32 (U p.s)) ∧ w'.cell? ⟨w.heap.size + 1, 1, none⟩ = some (.int .u32 (U p.q)) ∧ w'.cell? ⟨w.heap.size + 1, 2, none⟩ = some (.bool p.g) ∧ w'.cell? ⟨w.heap.size + 1, 3, none⟩ = some (.int .u32 (U p.d0)) ∧ w'.cell? ⟨w.heap.size + 1, 4, none⟩ = some (.int .u32 (U p.d1)) ∧ w'.cell? ⟨w.heap.size + 1, 5, none⟩ = some (.int .u32 (U p.d2)) ∧ w'.cell? ⟨w.heap.size + 1, 6, none⟩ = some (.int .u32 (U p.d3)))) (go_keep)
          (first
            | (go_at_call 15; (with_reducible refine Calls.mono PW1.out ?_); rintro e w2 ⟨A2, c2, rfl, h2, _, hb⟩; have HR2 := Lib.hid h2; have P2 := Lib.hid (P1.out.drew.on hb); have Q2 := Lib.hid (Q1.out.drew.on hb); have B2 := Lib.hid (below_then B1.out ((Below.refl _ w1).drew.trans hb)); clear hb h2; obtain ⟨p20, p21, p22, p23, p24, p25, p26⟩ := P2.out.cells; obtain ⟨q20, q21, q22, q23, q24, q25, q26⟩ := Q2.out.cells)
            | (go_at_call 15; (with_reducible refine Calls.mono (PWq.out _) ?_); rintro e w3 ⟨A3, c3, rfl, h3, _, hb⟩; have HR3 := Lib.hid h3; have HR2' := Lib.hid (HR2.out.kept hb); have P3 := Lib.hid (P2.out.on hb); have Q3 := Lib.hid (Q2.out.on hb); have B3 := Lib.hid (below_then B2.out hb); clear hb h3; obtain ⟨p30, p31, p32, p33, p34, p35, p36⟩ := P3.out.cells; obtain ⟨q30, q31, q32, q33, q34, q35, q36⟩ := Q3.out.cells))
        go_upto_region 8 with (go_at_call 10; (refine (pread_any A2 _ c2 _ _ HR2'.out (by simp)).mono ?_); rintro e w4 ⟨rfl, hb⟩; rw [ER.out]; simp only [pgV, pgC]; have al := (Below.refl _ w4).alloc (Nat.le_refl _) (.cells (pgC p).toArray 28); have HR24 := Lib.hid ((HR2'.out.kept hb).kept al); have HR34 := Lib.hid ((HR3.out.kept hb).kept al); have P4 := Lib.hid ((P3.out.on hb).on al); have Q4 := Lib.hid ((Q3.out.on hb).on al); have X4 := Lib.hid (PgAt.news w4 28 p); have B4 := Lib.hid (below_then (below_then B3.out hb) al); obtain ⟨p40, p41, p42, p43, p44, p45, p46⟩ := P4.out.cells; obtain ⟨q40, q41, q42, q43, q44, q45, q46⟩ := Q4.out.cells; obtain ⟨x40, x41, x42, x43, x44, x45, x46⟩ := X4.out.cells; simp only [pgC] at p40 p41 p42 p43 p44 p45 p46 q40 q41 q42 q43 q44 q45 q46 x40 x41 x42 x43 x44 x45 x46; clear hb al)
        change Code.wp _ _ _ _ (w4.alloc (.cells (pgC p).toArray 28))
        obtain ⟨V, hV⟩ : ∃ V, V = w4.alloc (.cells (pgC p).toArray 28) := ⟨_, rfl⟩
        have P5 : Hid (PgAt V w.heap.size 25 p) := by rw [hV]; exact P4
        have Q5 : Hid (PgAt V (w.heap.size + 1) 25 p) := by rw [hV]; exact Q4
        have R5 : Hid (ReadsU V A2 7 c2 [pgFirst p, p.q, p.d0, p.d1, p.d2, p.d3, 1526644958#32]) := by rw [hV]; exact HR24
        have R6 : Hid (ReadsU V A3 7 c3 [pgFirst p, p.q, p.d0, p.d1, p.d2, p.d3, 1526644958#32]) := by rw [hV]; exact HR34
        have B5 : Hid (Below w.heap.size w V) := by rw [hV]; exact B4
        rw [← hV]
        clear hV
        obtain ⟨p50, p51, p52, p53, p54, p55, p56⟩ := P5.out.cells
        obtain ⟨q50, q51, q52, q53, q54, q55, q56⟩ := Q5.out.cells
        go_region_held3 (fun w' => (w'.cell? ⟨w.heap.size, 0, none⟩ = some (.int .u32 (U p.s)) ∧ w'.cell? ⟨w.heap.size, 1, none⟩ = some (.int .u32 (U p.q)) ∧ w'.cell? ⟨w.heap.size, 2, none⟩ = some (.bool p.g) ∧ w'.cell? ⟨w.heap.size, 3, none⟩ = some (.int .u32 (U p.d0)) ∧ w'.cell? ⟨w.heap.size, 4, none⟩ = some (.int .u32 (U p.d1)) ∧ w'.cell? ⟨w.heap.size, 5, none⟩ = some (.int .u32 (U p.d2)) ∧ w'.cell? ⟨w.heap.size, 6, none⟩ = some (.int .u32 (U p.d3))) ∧ (w'.cell? ⟨w.heap.size + 1, 0, none⟩ = some (.int .u32 (U p.s)) ∧ w'.cell? ⟨w.heap.size + 1, 1, none⟩ = some (.int .u32 (U p.q)) ∧ w'.cell? ⟨w.heap.size + 1, 2, none⟩ = some (.bool p.g) ∧ w'.cell? ⟨w.heap.size + 1, 3, none⟩ = some (.int .u32 (U p.d0)) ∧ w'.cell? ⟨w.heap.size + 1, 4, none⟩ = some (.int .u32 (U p.d1)) ∧ w'.cell? ⟨w.heap.size + 1, 5, none⟩ = some (.int .u32 (U p.d2)) ∧ w'.cell? ⟨w.heap.size + 1, 6, none⟩ = some (.int .u32 (U p.d3)))) (go_keep)
          ((go_at_call 14; (refine (same_words _ _ _ _ _ _ _ R5.out.drew R6.out.drew (by omega)).mono ?_); rintro e w8 ⟨rfl, mm, rfl⟩))
        go_upto_region 10 with fail
        obtain ⟨W, hW⟩ : ∃ W, W = V.drewN (1 + mm) := ⟨_, rfl⟩
        have BW : Hid (Below w.heap.size w W) := by rw [hW]; exact Lib.hid (B5.out.trans (below_drewN' _ _ _))
        rw [← hW]
        clear hW
        by_cases hx : U x ≤ 2147483648
        · rw [hdWs_yes hx] at HDP
          have EC := Lib.hid (hdRd_ws hx)
          rw [hdWs_yes hx] at EC
          go_wp2_with (first
            | (go_at_call 19; (refine (HDP.out _).mono ?_); rintro e w5 ⟨A5, c5, rfl, h5, _, hb⟩; have HR5 := Lib.hid h5; have B6 := Lib.hid (below_then BW.out hb); clear hb h5)
            | (go_at_call 17; (refine (pcount_any A5 _ c5 _ _ HR5.out (by simp)).mono ?_); rintro e w6 ⟨rfl, hb⟩; rw [EC.out]; have B7 := Lib.hid (below_then B6.out hb); clear hb))
          go_ret
          exact ⟨rfl, B7.out⟩
        · rw [hdWs_no hx] at HDP
          go_wp2_with (go_at_call 19; (refine (HDP.out _).mono ?_); rintro e w5 ⟨A5, c5, rfl, h5, _, hb⟩; have B6 := Lib.hid (below_then BW.out hb); clear hb h5)
          go_ret
          exact ⟨rfl, B6.out⟩
      · have HD := Lib.hid (decide_eq_false (fun e => hpq (HI.out.1 e)))
        have df := pg_eql_no hpq
        clear HI hpq
        unfold pgV pgC at PWp PWq ⊢
        go_enter Try.func5, Try.ntmps5
        go_upto_region 1 with fail
        change Code.wp _ _ _ _ ((w.alloc (.cells (pgC p).toArray 25)).alloc (.cells (pgC q).toArray 25))
        rw [← HZ.out]
        go_upto_region 3 with (go_at_call 9; (refine (HAL.out _).mono ?_); rintro e w1 ⟨rfl, hb⟩; have P1 := Lib.hid (P0.out.on hb); have Q1 := Lib.hid (Q0.out.on hb); have B1 := Lib.hid (below_then B0.out hb); clear hb)
        obtain ⟨p10, p11, p12, p13, p14, p15, p16⟩ := P1.out.cells
        obtain ⟨q10, q11, q12, q13, q14, q15, q16⟩ := Q1.out.cells
        have PW1 := Lib.hid (PWp.out w1.drew)
        go_region_held3 (fun w' => (w'.cell? ⟨w.heap.size, 0, none⟩ = some (.int .u32 (U p.s)) ∧ w'.cell? ⟨w.heap.size, 1, none⟩ = some (.int .u32 (U p.q)) ∧ w'.cell? ⟨w.heap.size, 2, none⟩ = some (.bool p.g) ∧ w'.cell? ⟨w.heap.size, 3, none⟩ = some (.int .u32 (U p.d0)) ∧ w'.cell? ⟨w.heap.size, 4, none⟩ = some (.int .u32 (U p.d1)) ∧ w'.cell? ⟨w.heap.size, 5, none⟩ = some (.int .u32 (U p.d2)) ∧ w'.cell? ⟨w.heap.size, 6, none⟩ = some (.int .u32 (U p.d3))) ∧ (w'.cell? ⟨w.heap.size + 1, 0, none⟩ = some (.int .u32 (U q.s)) ∧ w'.cell? ⟨w.heap.size + 1, 1, none⟩ = some (.int .u32 (U q.q)) ∧ w'.cell? ⟨w.heap.size + 1, 2, none⟩ = some (.bool q.g) ∧ w'.cell? ⟨w.heap.size + 1, 3, none⟩ = some (.int .u32 (U q.d0)) ∧ w'.cell? ⟨w.heap.size + 1, 4, none⟩ = some (.int .u32 (U q.d1)) ∧ w'.cell? ⟨w.heap.size + 1, 5, none⟩ = some (.int .u32 (U q.d2)) ∧ w'.cell? ⟨w.heap.size + 1, 6, none⟩ = some (.int .u32 (U q.d3)))) (go_keep)
          (first
            | (go_at_call 15; (with_reducible refine Calls.mono PW1.out ?_); rintro e w2 ⟨A2, c2, rfl, h2, _, hb⟩; have HR2 := Lib.hid h2; have P2 := Lib.hid (P1.out.drew.on hb); have Q2 := Lib.hid (Q1.out.drew.on hb); have B2 := Lib.hid (below_then B1.out ((Below.refl _ w1).drew.trans hb)); clear hb h2; obtain ⟨p20, p21, p22, p23, p24, p25, p26⟩ := P2.out.cells; obtain ⟨q20, q21, q22, q23, q24, q25, q26⟩ := Q2.out.cells)
            | (go_at_call 15; (with_reducible refine Calls.mono (PWq.out _) ?_); rintro e w3 ⟨A3, c3, rfl, h3, _, hb⟩; have HR3 := Lib.hid h3; have HR2' := Lib.hid (HR2.out.kept hb); have P3 := Lib.hid (P2.out.on hb); have Q3 := Lib.hid (Q2.out.on hb); have B3 := Lib.hid (below_then B2.out hb); clear hb h3; obtain ⟨p30, p31, p32, p33, p34, p35, p36⟩ := P3.out.cells; obtain ⟨q30, q31, q32, q33, q34, q35, q36⟩ := Q3.out.cells))
        go_upto_region 8 with (go_at_call 10; (refine (pread_any A2 _ c2 _ _ HR2'.out (by simp)).mono ?_); rintro e w4 ⟨rfl, hb⟩; rw [ER.out]; simp only [pgV, pgC]; have al := (Below.refl _ w4).alloc (Nat.le_refl _) (.cells (pgC p).toArray 28); have HR24 := Lib.hid ((HR2'.out.kept hb).kept al); have HR34 := Lib.hid ((HR3.out.kept hb).kept al); have P4 := Lib.hid ((P3.out.on hb).on al); have Q4 := Lib.hid ((Q3.out.on hb).on al); have X4 := Lib.hid (PgAt.news w4 28 p); have B4 := Lib.hid (below_then (below_then B3.out hb) al); obtain ⟨p40, p41, p42, p43, p44, p45, p46⟩ := P4.out.cells; obtain ⟨q40, q41, q42, q43, q44, q45, q46⟩ := Q4.out.cells; obtain ⟨x40, x41, x42, x43, x44, x45, x46⟩ := X4.out.cells; simp only [pgC] at p40 p41 p42 p43 p44 p45 p46 q40 q41 q42 q43 q44 q45 q46 x40 x41 x42 x43 x44 x45 x46; clear hb al)
        change Code.wp _ _ _ _ (w4.alloc (.cells (pgC p).toArray 28))
        obtain ⟨V, hV⟩ : ∃ V, V = w4.alloc (.cells (pgC p).toArray 28) := ⟨_, rfl⟩
        have P5 : Hid (PgAt V w.heap.size 25 p) := by rw [hV]; exact P4
        have Q5 : Hid (PgAt V (w.heap.size + 1) 25 q) := by rw [hV]; exact Q4
        have R5 : Hid (ReadsU V A2 7 c2 [pgFirst p, p.q, p.d0, p.d1, p.d2, p.d3, 1526644958#32]) := by rw [hV]; exact HR24
        have R6 : Hid (ReadsU V A3 7 c3 [pgFirst q, q.q, q.d0, q.d1, q.d2, q.d3, 1526644958#32]) := by rw [hV]; exact HR34
        have B5 : Hid (Below w.heap.size w V) := by rw [hV]; exact B4
        rw [← hV]
        clear hV
        obtain ⟨p50, p51, p52, p53, p54, p55, p56⟩ := P5.out.cells
        obtain ⟨q50, q51, q52, q53, q54, q55, q56⟩ := Q5.out.cells
        go_region_held3 (fun w' => (w'.cell? ⟨w.heap.size, 0, none⟩ = some (.int .u32 (U p.s)) ∧ w'.cell? ⟨w.heap.size, 1, none⟩ = some (.int .u32 (U p.q)) ∧ w'.cell? ⟨w.heap.size, 2, none⟩ = some (.bool p.g) ∧ w'.cell? ⟨w.heap.size, 3, none⟩ = some (.int .u32 (U p.d0)) ∧ w'.cell? ⟨w.heap.size, 4, none⟩ = some (.int .u32 (U p.d1)) ∧ w'.cell? ⟨w.heap.size, 5, none⟩ = some (.int .u32 (U p.d2)) ∧ w'.cell? ⟨w.heap.size, 6, none⟩ = some (.int .u32 (U p.d3))) ∧ (w'.cell? ⟨w.heap.size + 1, 0, none⟩ = some (.int .u32 (U q.s)) ∧ w'.cell? ⟨w.heap.size + 1, 1, none⟩ = some (.int .u32 (U q.q)) ∧ w'.cell? ⟨w.heap.size + 1, 2, none⟩ = some (.bool q.g) ∧ w'.cell? ⟨w.heap.size + 1, 3, none⟩ = some (.int .u32 (U q.d0)) ∧ w'.cell? ⟨w.heap.size + 1, 4, none⟩ = some (.int .u32 (U q.d1)) ∧ w'.cell? ⟨w.heap.size + 1, 5, none⟩ = some (.int .u32 (U q.d2)) ∧ w'.cell? ⟨w.heap.size + 1, 6, none⟩ = some (.int .u32 (U q.d3)))) (go_keep)
          ((go_at_call 14; (refine (words_eq_any _ _ _ _ _ _ _ _ _ R5.out.drew R6.out.drew (by omega) (by omega)).mono ?_); rintro e w8 ⟨rfl, mm, rfl⟩; rw [HD.out]))
        go_upto_region 10 with fail
        obtain ⟨W, hW⟩ : ∃ W, W = V.drewN (1 + mm) := ⟨_, rfl⟩
        have BW : Hid (Below w.heap.size w W) := by rw [hW]; exact Lib.hid (B5.out.trans (below_drewN' _ _ _))
        rw [← hW]
        clear hW
        by_cases hx : U x ≤ 2147483648
        · rw [hdWs_yes hx] at HDP
          have EC := Lib.hid (hdRd_ws hx)
          rw [hdWs_yes hx] at EC
          go_wp2_with (first
            | (go_at_call 19; (refine (HDP.out _).mono ?_); rintro e w5 ⟨A5, c5, rfl, h5, _, hb⟩; have HR5 := Lib.hid h5; have B6 := Lib.hid (below_then BW.out hb); clear hb h5)
            | (go_at_call 17; (refine (pcount_any A5 _ c5 _ _ HR5.out (by simp)).mono ?_); rintro e w6 ⟨rfl, hb⟩; rw [EC.out]; have B7 := Lib.hid (below_then B6.out hb); clear hb))
          go_ret
          exact ⟨rfl, B7.out⟩
        · rw [hdWs_no hx] at HDP
          go_wp2_with (go_at_call 19; (refine (HDP.out _).mono ?_); rintro e w5 ⟨A5, c5, rfl, h5, _, hb⟩; have B6 := Lib.hid (below_then BW.out hb); clear hb h5)
          go_ret
          exact ⟨rfl, B6.out⟩
end Go.Proofs.Ytkjgbjcdpifamaa
