/- The walk of layer page's statement PageTells. -/
import Derived.Test.YtkjgbjcdpifamaaPageAlive
import Derived.Deep.RegionHeld3
import Derived.Deep.DeepCutAuto
import Derived.Lib.Hide
namespace Go.Proofs.Ytkjgbjcdpifamaa
open Go.RowKit Bm

set_option maxRecDepth 100000 in
set_option maxHeartbeats 8000000 in
theorem pageTells_walk (p : PageM) (A : Option Addr) (n cap : Nat) (xs : List (BitVec 32)) (w : World) (hr : ReadsU w A n cap xs) :
    Calls Try.prog 3 #[pgV p, .slice A n cap] w fun e w' => e = .returned (.bool true) ∧ Below w.heap.size w w' := by
  have hle := hr.le
  have HAL := Lib.hid (fun W => alive4_any W)
  obtain ⟨Z0, hZ0⟩ : ∃ Z, Z = w.alloc (.cells (pgC p).toArray 25) := ⟨_, rfl⟩
  have b0' : Below w.heap.size w Z0 := by rw [hZ0]; exact (Below.refl _ w).alloc (Nat.le_refl _) _
  have AZ : PgAt Z0 w.heap.size 25 p := by rw [hZ0]; exact PgAt.news w _ _
  have B0 := Lib.hid b0'
  have HZ := Lib.hid hZ0
  have Z := Lib.hid AZ
  clear b0' AZ hZ0
  have HR0 := Lib.hid (hr.kept B0.out)
  have hl : (pgWs p).length ≤ 1000000 := by rcases pgWs_len p with h | h <;> omega
  have HL := Lib.hid hl
  have PR := Lib.hid (fun W => pright_any p W)
  have RR := Lib.hid (fun W => rright_any p W)
  have PW := Lib.hid (fun W => pwords_any p W)
  have RW := Lib.hid (fun W => rwords_any p W)
  have PD := Lib.hid (fun W (h : ReadsU W A n cap xs) (hn : n ≤ 1000000) => pread_any A n cap xs W h hn)
  have RD := Lib.hid (fun W (h : ReadsU W A n cap xs) (hn : n ≤ 1000000) => rread_any A n cap xs W h hn)
  obtain ⟨⟨r, k⟩, hrk⟩ : ∃ y, y = pgRd xs := ⟨_, rfl⟩
  rw [← hrk] at PD RD
  clear hl hr hrk
  unfold pgV pgC at PR RR PW RW PD RD ⊢
  simp only at PD RD
  go_enter Try.func3, Try.ntmps3
  go_upto_region 1 with fail
  change Code.wp _ _ _ _ (w.alloc (.cells (pgC p).toArray 25))
  rw [← HZ.out]
  by_cases hn : 100 < n
  · go_wp2_with (go_at_call 9; (refine (HAL.out _).mono ?_); rintro e w1 ⟨rfl, hb⟩)
    go_ret
    exact ⟨rfl, below_then B0.out hb⟩
  go_upto_region 7 with (first
    | (go_at_call 9; (refine (HAL.out _).mono ?_); rintro e w1 ⟨rfl, hb⟩; have HR1 := Lib.hid (HR0.out.kept hb); have Z1 := Lib.hid (Z.out.on hb); have B1 := Lib.hid (below_then B0.out hb); clear hb)
    | (go_at_call 10; (refine (PD.out _ HR1.out (by omega)).mono ?_); rintro e w2 ⟨rfl, hb⟩; have al := (Below.refl _ w2).alloc (Nat.le_refl _) (.cells (pgC r).toArray 28); have HR2 := Lib.hid ((HR1.out.kept hb).kept al); have Z2 := Lib.hid ((Z1.out.on hb).on al); have B2 := Lib.hid (below_then (below_then B1.out hb) al); clear hb al)
    | (go_at_call 11; (refine (RD.out _ HR2.out (by omega)).mono ?_); rintro e w3 ⟨rfl, hb⟩; have al := (Below.refl _ w3).alloc (Nat.le_refl _) (.cells (pgC r).toArray 25); have Z3 := Lib.hid ((Z2.out.on hb).on al); have X3 := Lib.hid (((PgAt.news w2 28 r).on hb).on al); have Y3 := Lib.hid (PgAt.news w3 25 r); have B3 := Lib.hid (below_then (below_then B2.out hb) al); clear hb al))
  change Code.wp _ _ _ _ (w3.alloc (.cells (pgC r).toArray 25))
  obtain ⟨V, hV⟩ : ∃ V, V = w3.alloc (.cells (pgC r).toArray 25) := ⟨_, rfl⟩
  rw [← hV] at Z3 X3 Y3 B3 ⊢
  have HV := Lib.hid hV
  clear hV
  obtain ⟨z0, z1, z2, z3, z4, z5, z6⟩ := Z3.out.cells
  obtain ⟨x0, x1, x2, x3, x4, x5, x6⟩ := X3.out.cells
  obtain ⟨y0, y1, y2, y3, y4, y5, y6⟩ := Y3.out.cells
  go_region_held3 (fun w' => (w'.cell? ⟨w.heap.size, 0, none⟩ = some (.int .u32 (U p.s)) ∧ w'.cell? ⟨w.heap.size, 1, none⟩ = some (.int .u32 (U p.q)) ∧ w'.cell? ⟨w.heap.size, 2, none⟩ = some (.bool p.g) ∧ w'.cell? ⟨w.heap.size, 3, none⟩ = some (.int .u32 (U p.d0)) ∧ w'.cell? ⟨w.heap.size, 4, none⟩ = some (.int .u32 (U p.d1)) ∧ w'.cell? ⟨w.heap.size, 5, none⟩ = some (.int .u32 (U p.d2)) ∧ w'.cell? ⟨w.heap.size, 6, none⟩ = some (.int .u32 (U p.d3))) ∧
    (w'.cell? ⟨w2.heap.size, 0, none⟩ = some (.int .u32 (U r.s)) ∧ w'.cell? ⟨w2.heap.size, 1, none⟩ = some (.int .u32 (U r.q)) ∧ w'.cell? ⟨w2.heap.size, 2, none⟩ = some (.bool r.g) ∧ w'.cell? ⟨w2.heap.size, 3, none⟩ = some (.int .u32 (U r.d0)) ∧ w'.cell? ⟨w2.heap.size, 4, none⟩ = some (.int .u32 (U r.d1)) ∧ w'.cell? ⟨w2.heap.size, 5, none⟩ = some (.int .u32 (U r.d2)) ∧ w'.cell? ⟨w2.heap.size, 6, none⟩ = some (.int .u32 (U r.d3))) ∧
    (w'.cell? ⟨w3.heap.size, 0, none⟩ = some (.int .u32 (U r.s)) ∧ w'.cell? ⟨w3.heap.size, 1, none⟩ = some (.int .u32 (U r.q)) ∧ w'.cell? ⟨w3.heap.size, 2, none⟩ = some (.bool r.g) ∧ w'.cell? ⟨w3.heap.size, 3, none⟩ = some (.int .u32 (U r.d0)) ∧ w'.cell? ⟨w3.heap.size, 4, none⟩ = some (.int .u32 (U r.d1)) ∧ w'.cell? ⟨w3.heap.size, 5, none⟩ = some (.int .u32 (U r.d2)) ∧ w'.cell? ⟨w3.heap.size, 6, none⟩ = some (.int .u32 (U r.d3)))) (go_keep)
    (first
      | (go_at_call 12; (refine (PR.out _).mono ?_); rintro e w4 ⟨rfl, hb⟩; have Z4 := Lib.hid (Z3.out.drew.on hb); have X4 := Lib.hid (X3.out.drew.on hb); have Y4 := Lib.hid (Y3.out.drew.on hb); have B4 := Lib.hid (below_then B3.out ((Below.refl _ V).drew.trans hb)); clear hb; obtain ⟨z40, z41, z42, z43, z44, z45, z46⟩ := Z4.out.cells; obtain ⟨x40, x41, x42, x43, x44, x45, x46⟩ := X4.out.cells; obtain ⟨y40, y41, y42, y43, y44, y45, y46⟩ := Y4.out.cells)
      | (go_at_call 13; (refine (RR.out _).mono ?_); rintro e w5 ⟨rfl, hb⟩; have Z5 := Lib.hid (Z4.out.on hb); have X5 := Lib.hid (X4.out.on hb); have Y5 := Lib.hid (Y4.out.on hb); have B5 := Lib.hid (below_then B4.out hb); clear hb; obtain ⟨z50, z51, z52, z53, z54, z55, z56⟩ := Z5.out.cells; obtain ⟨x50, x51, x52, x53, x54, x55, x56⟩ := X5.out.cells; obtain ⟨y50, y51, y52, y53, y54, y55, y56⟩ := Y5.out.cells)
      | (go_at_call 15; (refine (PW.out _).mono ?_); rintro e w6 ⟨A6, c6, rfl, h6, _, hb⟩; have HR6 := Lib.hid h6; have Z6 := Lib.hid (Z5.out.on hb); have X6 := Lib.hid (X5.out.on hb); have Y6 := Lib.hid (Y5.out.on hb); have B6 := Lib.hid (below_then B5.out hb); clear hb h6; obtain ⟨z60, z61, z62, z63, z64, z65, z66⟩ := Z6.out.cells; obtain ⟨x60, x61, x62, x63, x64, x65, x66⟩ := X6.out.cells; obtain ⟨y60, y61, y62, y63, y64, y65, y66⟩ := Y6.out.cells)
      | (go_at_call 16; (refine (RW.out _).mono ?_); rintro e w7 ⟨A7, c7, rfl, h7, _, hb⟩; have HR7 := Lib.hid h7; have HR6' := Lib.hid (HR6.out.kept hb); have Z7 := Lib.hid (Z6.out.on hb); have X7 := Lib.hid (X6.out.on hb); have Y7 := Lib.hid (Y6.out.on hb); have B7 := Lib.hid (below_then B6.out hb); clear hb h7; obtain ⟨z70, z71, z72, z73, z74, z75, z76⟩ := Z7.out.cells; obtain ⟨x70, x71, x72, x73, x74, x75, x76⟩ := X7.out.cells; obtain ⟨y70, y71, y72, y73, y74, y75, y76⟩ := Y7.out.cells)
      | (go_at_call 14; (refine (same_words _ _ _ _ _ _ _ HR6'.out HR7.out HL.out).mono ?_); rintro e w8 ⟨rfl, mm, rfl⟩))
  go_wp2
  go_ret
  exact ⟨rfl, B7.out.trans (below_drewN' _ _ _)⟩
end Go.Proofs.Ytkjgbjcdpifamaa
