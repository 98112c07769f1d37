/- Contract of the document's own answer for layer page: what words are, as a page. -/
import Derived.Test.YtnfgpjfldgocaaaGreatPageRef
import Derived.BigRegion
import Derived.Deep.DeepCutAuto
import Derived.Deep.RegionHeld3
import Derived.Lib.Hide
namespace Go.Proofs.YtnfgpjfldgocaaaGreat
open Go.RowKit Bm

theorem ReadsU.lt {w : World} {a : Addr} {n cap : Nat} {xs : List (BitVec 32)} (h : ReadsU w (some a) n cap xs) (hn : 0 < n) : a.block < w.heap.size := by
  obtain ⟨b, e, hl, _⟩ := h.cell hn
  injection e with e
  rw [e]; exact hl

set_option maxRecDepth 100000 in
set_option maxHeartbeats 1000000 in
theorem rread_any (A : Option Addr) (n c : Nat) (xs : List (BitVec 32)) (w : World) (hA : ReadsU w A n c xs) (hn : n ≤ 1000000) :
    Calls Tryz.prog 68 #[.slice A n c] w fun e w' => e = .returned (.tuple #[pgV (pgRd xs).1, .int .i64 (pgRd xs).2]) ∧ Below w.heap.size w w' := by
  have hAl := hA.le
  have hlen := hA.len
  by_cases h7 : n = 7
  · subst h7
    have FR := Lib.hid (fun W (h : ReadsU W A 7 c xs) => rfree_any A 7 c xs W h (by omega))
    cases hf : freeB xs
    · rw [hf] at FR
      obtain ⟨a, rfl⟩ := hA.some_ (by omega)
      have HA := Lib.hid hA
      by_cases hv : pgWs (pgOf xs) = xs
      · rw [pgRd_good hlen hf hv]
        have HV := Lib.hid (decide_eq_true hv)
        clear hv hf hlen hA
        go_enter Tryz.func68, Tryz.ntmps68
        go_upto_region 5 with (first
          | (go_at_call 88; (refine (FR.out _ (HA.out.kept ((Below.refl _ w).alloc (Nat.le_refl _) _))).mono ?_); rintro e w1 ⟨rfl, rfl⟩))
        change Code.wp _ _ _ _ (w.alloc (.cells (pgC pg0).toArray 69))
        have hbV : Below w.heap.size w (w.alloc (.cells (pgC pg0).toArray 69)) := (Below.refl _ w).alloc (Nat.le_refl _) _
        have R := PgAt.news w 69 pg0
        obtain ⟨V, hV⟩ : ∃ V, V = w.alloc (.cells (pgC pg0).toArray 69) := ⟨_, rfl⟩
        rw [← hV] at hbV R ⊢
        have HAV := HA.out.kept hbV
        have HBV := Lib.hid hbV
        obtain ⟨p, hp⟩ : ∃ p, p = pgOf xs := ⟨_, rfl⟩
        rw [← hp] at HV
        have c0 := HAV.c0 (by omega)
        have c1 := HAV.cj 1 (by omega) (by omega)
        have c2 := HAV.cj 2 (by omega) (by omega)
        have c3 := HAV.cj 3 (by omega) (by omega)
        have c4 := HAV.cj 4 (by omega) (by omega)
        have c5 := HAV.cj 5 (by omega) (by omega)
        rw [show wd xs 1 = p.q by rw [hp]; rfl] at c1
        rw [show wd xs 2 = p.d0 by rw [hp]; rfl] at c2
        rw [show wd xs 3 = p.d1 by rw [hp]; rfl] at c3
        rw [show wd xs 4 = p.d2 by rw [hp]; rfl] at c4
        rw [show wd xs 5 = p.d3 by rw [hp]; rfl] at c5
        have KA : ∀ o, ReadsU (V.alloc o) (some a) 7 c xs := fun o => HAV.kept ((Below.refl _ V).alloc (Nat.le_refl _) o)
        have k0 := fun o => (KA o).c0 (by omega)
        have k1 := fun o => (KA o).cj 1 (by omega) (by omega)
        have k2 := fun o => (KA o).cj 2 (by omega) (by omega)
        have k3 := fun o => (KA o).cj 3 (by omega) (by omega)
        have k4 := fun o => (KA o).cj 4 (by omega) (by omega)
        have k5 := fun o => (KA o).cj 5 (by omega) (by omega)
        rw [show wd xs 1 = p.q by rw [hp]; rfl] at k1
        rw [show wd xs 2 = p.d0 by rw [hp]; rfl] at k2
        rw [show wd xs 3 = p.d1 by rw [hp]; rfl] at k3
        rw [show wd xs 4 = p.d2 by rw [hp]; rfl] at k4
        rw [show wd xs 5 = p.d3 by rw [hp]; rfl] at k5
        have KAA := Lib.hid KA
        clear KA
        have es : (U (wd xs 0)).tmod 2147483648 = U p.s := by rw [hp, Int.tmod_eq_emod_of_nonneg (U_nonneg _)]; exact (U_first _).symm
        have eg : decide (2147483648 ≤ U (wd xs 0)) = p.g := by rw [hp]; rfl
        have u0 := U_nonneg (wd xs 0)
        have HVV := Lib.hid hV
        have HP := Lib.hid hp
        have RR := Lib.hid R
        have HAVV := Lib.hid HAV
        clear hV hp hbV R HAV
        have hab : a.block < V.heap.size := HAVV.out.lt (by omega)
        have hne : a.block ≠ V.heap.size := by omega
        have hne' : ¬ V.heap.size = a.block := by omega
        have hab' : a.block < V.drew.heap.size := hab
        go_region_held3 (fun w' => w'.cell? a = some (.int .u32 (U (wd xs 0))) ∧ w'.cell? ⟨a.block, a.off + 1, none⟩ = some (.int .u32 (U p.q)) ∧ w'.cell? ⟨a.block, a.off + 2, none⟩ = some (.int .u32 (U p.d0)) ∧ w'.cell? ⟨a.block, a.off + 3, none⟩ = some (.int .u32 (U p.d1)) ∧ w'.cell? ⟨a.block, a.off + 4, none⟩ = some (.int .u32 (U p.d2)) ∧ w'.cell? ⟨a.block, a.off + 5, none⟩ = some (.int .u32 (U p.d3))) (go_keep) (fail)
        obtain ⟨T, hT⟩ : ∃ T, T = (V.alloc (.cells (pgC p).toArray 69)).drew := ⟨_, rfl⟩
        change Exit.then _ _ _ _ ((V.alloc (.cells (pgC p).toArray 69)).drew)
        have hbT : Below V.heap.size V T := by rw [hT]; exact ((Below.refl _ V).alloc (Nat.le_refl _) _).drew
        have pT : PgAt T V.heap.size 69 p := by rw [hT]; exact ⟨(At.news V _ _).drew⟩
        rw [← hT]
        have RT := RR.out.on hbT
        have HAT := HAVV.out.kept hbT
        have BT := HBV.out.trans (hbT.mono HBV.out.size)
        obtain ⟨p0, p1, p2, p3, p4, p5, p6⟩ := pT.cells
        have RW := Lib.hid (fun W => rwords_any p W)
        unfold pgV pgC at RW
        have hl : (pgWs p).length ≤ 1000000 := by rcases pgWs_len p with h | h <;> omega
        have HL := Lib.hid hl
        have PT := Lib.hid pT
        have RTT := Lib.hid RT
        have HATT := Lib.hid HAT
        have BTT := Lib.hid BT
        clear hT hbT pT RT HAT BT hl
        clear c0 c1 c2 c3 c4 c5 k0 k1 k2 k3 k4 k5 es eg
        go_wp2_with (first
          | (go_at_call 91; (refine (RW.out _).mono ?_); rintro e w2 ⟨A2, cc2, rfl, hr, _, hb⟩; have HR := Lib.hid hr; have HA2 := Lib.hid (HATT.out.kept hb); have HB2 := Lib.hid (BTT.out.trans (hb.mono BTT.out.size)); have R2 := Lib.hid (RTT.out.on hb); have P2 := Lib.hid (PT.out.on hb); clear hr hb)
          | (go_at_call 89; (refine (words_eq_any _ _ _ _ _ _ _ _ _ HR.out HA2.out HL.out (by omega)).mono ?_); rintro e w3 ⟨rfl, k, rfl⟩; rw [HV.out]; obtain ⟨q0, q1, q2, q3, q4, q5, q6⟩ := P2.out.cells; obtain ⟨r0, r1, r2, r3, r4, r5, r6⟩ := R2.out.cells; have f0 := R2.out.at_.frozen 0; have f1 := R2.out.at_.frozen 1; have f2 := R2.out.at_.frozen 2; have f3 := R2.out.at_.frozen 3; have f4 := R2.out.at_.frozen 4; have f5 := R2.out.at_.frozen 5; have f6 := R2.out.at_.frozen 6))
        rw [← HP.out]
        exact bodyPost_ret (rpg_res2 Tryz.results68 _ rfl rfl ((R2.out.drewN k).put7 p)) rfl ⟨rfl, PgAt.put7_below (HB2.out.trans (below_drewN' _ _ _)) (Nat.le_refl _) _ _ _ _ _ _ _⟩
      · rw [pgRd_torn hlen hf hv]
        have HV := Lib.hid (decide_eq_false hv)
        clear hv hf hlen hA
        go_enter Tryz.func68, Tryz.ntmps68
        go_upto_region 5 with (first
          | (go_at_call 88; (refine (FR.out _ (HA.out.kept ((Below.refl _ w).alloc (Nat.le_refl _) _))).mono ?_); rintro e w1 ⟨rfl, rfl⟩))
        change Code.wp _ _ _ _ (w.alloc (.cells (pgC pg0).toArray 69))
        have hbV : Below w.heap.size w (w.alloc (.cells (pgC pg0).toArray 69)) := (Below.refl _ w).alloc (Nat.le_refl _) _
        have R := PgAt.news w 69 pg0
        obtain ⟨V, hV⟩ : ∃ V, V = w.alloc (.cells (pgC pg0).toArray 69) := ⟨_, rfl⟩
        rw [← hV] at hbV R ⊢
        have HAV := HA.out.kept hbV
        have HBV := Lib.hid hbV
        obtain ⟨p, hp⟩ : ∃ p, p = pgOf xs := ⟨_, rfl⟩
        rw [← hp] at HV
        have c0 := HAV.c0 (by omega)
        have c1 := HAV.cj 1 (by omega) (by omega)
        have c2 := HAV.cj 2 (by omega) (by omega)
        have c3 := HAV.cj 3 (by omega) (by omega)
        have c4 := HAV.cj 4 (by omega) (by omega)
        have c5 := HAV.cj 5 (by omega) (by omega)
        rw [show wd xs 1 = p.q by rw [hp]; rfl] at c1
        rw [show wd xs 2 = p.d0 by rw [hp]; rfl] at c2
        rw [show wd xs 3 = p.d1 by rw [hp]; rfl] at c3
        rw [show wd xs 4 = p.d2 by rw [hp]; rfl] at c4
        rw [show wd xs 5 = p.d3 by rw [hp]; rfl] at c5
        have KA : ∀ o, ReadsU (V.alloc o) (some a) 7 c xs := fun o => HAV.kept ((Below.refl _ V).alloc (Nat.le_refl _) o)
        have k0 := fun o => (KA o).c0 (by omega)
        have k1 := fun o => (KA o).cj 1 (by omega) (by omega)
        have k2 := fun o => (KA o).cj 2 (by omega) (by omega)
        have k3 := fun o => (KA o).cj 3 (by omega) (by omega)
        have k4 := fun o => (KA o).cj 4 (by omega) (by omega)
        have k5 := fun o => (KA o).cj 5 (by omega) (by omega)
        rw [show wd xs 1 = p.q by rw [hp]; rfl] at k1
        rw [show wd xs 2 = p.d0 by rw [hp]; rfl] at k2
        rw [show wd xs 3 = p.d1 by rw [hp]; rfl] at k3
        rw [show wd xs 4 = p.d2 by rw [hp]; rfl] at k4
        rw [show wd xs 5 = p.d3 by rw [hp]; rfl] at k5
        have KAA := Lib.hid KA
        clear KA
        have es : (U (wd xs 0)).tmod 2147483648 = U p.s := by rw [hp, Int.tmod_eq_emod_of_nonneg (U_nonneg _)]; exact (U_first _).symm
        have eg : decide (2147483648 ≤ U (wd xs 0)) = p.g := by rw [hp]; rfl
        have u0 := U_nonneg (wd xs 0)
        have HVV := Lib.hid hV
        have HP := Lib.hid hp
        have RR := Lib.hid R
        have HAVV := Lib.hid HAV
        clear hV hp hbV R HAV
        have hab : a.block < V.heap.size := HAVV.out.lt (by omega)
        have hne : a.block ≠ V.heap.size := by omega
        have hne' : ¬ V.heap.size = a.block := by omega
        have hab' : a.block < V.drew.heap.size := hab
        go_region_held3 (fun w' => w'.cell? a = some (.int .u32 (U (wd xs 0))) ∧ w'.cell? ⟨a.block, a.off + 1, none⟩ = some (.int .u32 (U p.q)) ∧ w'.cell? ⟨a.block, a.off + 2, none⟩ = some (.int .u32 (U p.d0)) ∧ w'.cell? ⟨a.block, a.off + 3, none⟩ = some (.int .u32 (U p.d1)) ∧ w'.cell? ⟨a.block, a.off + 4, none⟩ = some (.int .u32 (U p.d2)) ∧ w'.cell? ⟨a.block, a.off + 5, none⟩ = some (.int .u32 (U p.d3))) (go_keep) (fail)
        obtain ⟨T, hT⟩ : ∃ T, T = (V.alloc (.cells (pgC p).toArray 69)).drew := ⟨_, rfl⟩
        change Exit.then _ _ _ _ ((V.alloc (.cells (pgC p).toArray 69)).drew)
        have hbT : Below V.heap.size V T := by rw [hT]; exact ((Below.refl _ V).alloc (Nat.le_refl _) _).drew
        have pT : PgAt T V.heap.size 69 p := by rw [hT]; exact ⟨(At.news V _ _).drew⟩
        rw [← hT]
        have RT := RR.out.on hbT
        have HAT := HAVV.out.kept hbT
        have BT := HBV.out.trans (hbT.mono HBV.out.size)
        obtain ⟨p0, p1, p2, p3, p4, p5, p6⟩ := pT.cells
        have RW := Lib.hid (fun W => rwords_any p W)
        unfold pgV pgC at RW
        have hl : (pgWs p).length ≤ 1000000 := by rcases pgWs_len p with h | h <;> omega
        have HL := Lib.hid hl
        have PT := Lib.hid pT
        have RTT := Lib.hid RT
        have HATT := Lib.hid HAT
        have BTT := Lib.hid BT
        clear hT hbT pT RT HAT BT hl
        clear c0 c1 c2 c3 c4 c5 k0 k1 k2 k3 k4 k5 es eg
        go_wp2_with (first
          | (go_at_call 91; (refine (RW.out _).mono ?_); rintro e w2 ⟨A2, cc2, rfl, hr, _, hb⟩; have HR := Lib.hid hr; have HA2 := Lib.hid (HATT.out.kept hb); have HB2 := Lib.hid (BTT.out.trans (hb.mono BTT.out.size)); have R2 := Lib.hid (RTT.out.on hb); have P2 := Lib.hid (PT.out.on hb); clear hr hb)
          | (go_at_call 89; (refine (words_eq_any _ _ _ _ _ _ _ _ _ HR.out HA2.out HL.out (by omega)).mono ?_); rintro e w3 ⟨rfl, k, rfl⟩; rw [HV.out]; obtain ⟨q0, q1, q2, q3, q4, q5, q6⟩ := P2.out.cells; obtain ⟨r0, r1, r2, r3, r4, r5, r6⟩ := R2.out.cells; have f0 := R2.out.at_.frozen 0; have f1 := R2.out.at_.frozen 1; have f2 := R2.out.at_.frozen 2; have f3 := R2.out.at_.frozen 3; have f4 := R2.out.at_.frozen 4; have f5 := R2.out.at_.frozen 5; have f6 := R2.out.at_.frozen 6))
        exact bodyPost_ret (rpg_res2 Tryz.results68 _ rfl rfl ((R2.out.drewN k).put7 pg0)) rfl ⟨rfl, PgAt.put7_below (HB2.out.trans (below_drewN' _ _ _)) (Nat.le_refl _) _ _ _ _ _ _ _⟩
    · rw [hf] at FR
      rw [pgRd_free hlen hf]
      have HA := Lib.hid hA
      clear hf hlen hA
      go_enter Tryz.func68, Tryz.ntmps68
      go_wp2_with (go_at_call 88; (refine (FR.out _ (HA.out.kept ((Below.refl _ w).alloc (Nat.le_refl _) _))).mono ?_); rintro e w1 ⟨rfl, rfl⟩)
      exact bodyPost_ret (rpg_res2 Tryz.results68 _ rfl rfl (PgAt.news w _ pg0)) rfl ⟨rfl, (Below.refl _ w).alloc (Nat.le_refl _) _⟩
  · rw [pgRd_far (by omega)]
    have h7' : ¬ (n : Int) = 7 := by omega
    go_enter Tryz.func68, Tryz.ntmps68
    go_wp2
    exact bodyPost_ret (rpg_res2 Tryz.results68 _ rfl rfl (PgAt.news w _ pg0)) rfl ⟨rfl, (Below.refl _ w).alloc (Nat.le_refl _) _⟩
end Go.Proofs.YtnfgpjfldgocaaaGreat
