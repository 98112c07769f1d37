/- AluPicks: two words, the first the greater, signed. -/
import Derived.Test.YtffmbpenhgbhnaaAluPk
namespace Go.Proofs.Ytffmbpenhgbhnaa
open Go.RowKit Bm

set_option maxHeartbeats 4000000 in
theorem pkw12_10 (a b : BitVec 32) (hab : a ≠ b) (x y : Int) (P : Pk12 a b b a a b x y) (w : World) :
    Calls Try.prog 10 #[.int .u32 (U a), .int .u32 (U b)] w fun e w' => e = .returned (.bool true) ∧ Below w.heap.size w w' := by
  have HA := Lib.hid alive12_any
  have wl := P.wl
  have wh := P.wh
  have le := P.le
  have leu := P.leu
  have nab : ¬ U a = U b := fun e => hab (U_inj e)
  have nba : ¬ U b = U a := fun e => hab (U_inj e).symm
  obtain ⟨t, ht⟩ : ∃ t, (U a + U b) % 4294967296 = t := ⟨_, rfl⟩
  have ht2 : (U b + U a) % 4294967296 = t := by rw [Int.add_comm]; exact ht
  clear hab
  go_enter Try.func10, Try.ntmps10
  go_upto_region 1 with (fail)
  obtain ⟨W0, hW0⟩ : ∃ W, W = (w.alloc (.cells #[.int .u32 (U a)] 22)).alloc (.cells #[.int .u32 (U b)] 22) := ⟨_, rfl⟩
  have hB := (((Below.refl w.heap.size w).alloc (Nat.le_refl _) (.cells #[.int .u32 (U a)] 22)).alloc (by simp) (.cells #[.int .u32 (U b)] 22))
  have hA : At W0 w.heap.size 22 [.int .u32 (U a)] := by rw [hW0]; exact (At.news w 22 [.int .u32 (U a)]).alloc _
  have hA2 : At W0 (w.heap.size + 1) 22 [.int .u32 (U b)] := by rw [hW0]; exact At.alloc_new _ 22 [.int .u32 (U b)] (by simp) rfl
  rw [← hW0] at hB
  rw [← hW0]
  have c1 : W0.cell? ⟨w.heap.size, 0, none⟩ = some (.int .u32 (U a)) := hA.cell 0
  have c2 : W0.cell? ⟨w.heap.size + 1, 0, none⟩ = some (.int .u32 (U b)) := hA2.cell 0
  have HB := Lib.hid hB
  have HW : Hid (∀ k, (W0.drewN k).heap = W0.heap) := Lib.hid (fun _ => rfl)
  have K53 : Hid (∀ W : World, W.heap = W0.heap → Calls Try.prog 24 #[.int .i64 53, .pointer (some ⟨w.heap.size, 0, none⟩), .pointer (some ⟨w.heap.size + 1, 0, none⟩)] W fun e w' => e = .returned (.int .u32 (U b)) ∧ ∃ k, w' = W.drewN k) := Lib.hid (fun W h => amo12_any 53 a b b _ _ W P.low ((World.cell?_of_block (a := ⟨w.heap.size, 0, none⟩) (by rw [h])).trans c1) ((World.cell?_of_block (a := ⟨w.heap.size + 1, 0, none⟩) (by rw [h])).trans c2))
  have K54 : Hid (∀ W : World, W.heap = W0.heap → Calls Try.prog 24 #[.int .i64 54, .pointer (some ⟨w.heap.size, 0, none⟩), .pointer (some ⟨w.heap.size + 1, 0, none⟩)] W fun e w' => e = .returned (.int .u32 (U a)) ∧ ∃ k, w' = W.drewN k) := Lib.hid (fun W h => amo12_any 54 a b a _ _ W P.high ((World.cell?_of_block (a := ⟨w.heap.size, 0, none⟩) (by rw [h])).trans c1) ((World.cell?_of_block (a := ⟨w.heap.size + 1, 0, none⟩) (by rw [h])).trans c2))
  have K55 : Hid (∀ W : World, W.heap = W0.heap → Calls Try.prog 24 #[.int .i64 55, .pointer (some ⟨w.heap.size, 0, none⟩), .pointer (some ⟨w.heap.size + 1, 0, none⟩)] W fun e w' => e = .returned (.int .u32 (U a)) ∧ ∃ k, w' = W.drewN k) := Lib.hid (fun W h => amo12_any 55 a b a _ _ W P.under ((World.cell?_of_block (a := ⟨w.heap.size, 0, none⟩) (by rw [h])).trans c1) ((World.cell?_of_block (a := ⟨w.heap.size + 1, 0, none⟩) (by rw [h])).trans c2))
  have K56 : Hid (∀ W : World, W.heap = W0.heap → Calls Try.prog 24 #[.int .i64 56, .pointer (some ⟨w.heap.size, 0, none⟩), .pointer (some ⟨w.heap.size + 1, 0, none⟩)] W fun e w' => e = .returned (.int .u32 (U b)) ∧ ∃ k, w' = W.drewN k) := Lib.hid (fun W h => amo12_any 56 a b b _ _ W P.over ((World.cell?_of_block (a := ⟨w.heap.size, 0, none⟩) (by rw [h])).trans c1) ((World.cell?_of_block (a := ⟨w.heap.size + 1, 0, none⟩) (by rw [h])).trans c2))
  have K48 : Hid (∀ W : World, W.heap = W0.heap → Calls Try.prog 24 #[.int .i64 48, .pointer (some ⟨w.heap.size, 0, none⟩), .pointer (some ⟨w.heap.size + 1, 0, none⟩)] W fun e w' => e = .returned (.int .u32 (U b)) ∧ ∃ k, w' = W.drewN k) := Lib.hid (fun W h => amo12_any 48 a b b _ _ W rfl ((World.cell?_of_block (a := ⟨w.heap.size, 0, none⟩) (by rw [h])).trans c1) ((World.cell?_of_block (a := ⟨w.heap.size + 1, 0, none⟩) (by rw [h])).trans c2))
  have K49 : Hid (∀ W : World, W.heap = W0.heap → Calls Try.prog 24 #[.int .i64 49, .pointer (some ⟨w.heap.size, 0, none⟩), .pointer (some ⟨w.heap.size + 1, 0, none⟩)] W fun e w' => e = .returned (.int .u32 (U (a + b))) ∧ ∃ k, w' = W.drewN k) := Lib.hid (fun W h => amo12_any 49 a b (a + b) _ _ W rfl ((World.cell?_of_block (a := ⟨w.heap.size, 0, none⟩) (by rw [h])).trans c1) ((World.cell?_of_block (a := ⟨w.heap.size + 1, 0, none⟩) (by rw [h])).trans c2))
  have K50 : Hid (∀ W : World, W.heap = W0.heap → Calls Try.prog 24 #[.int .i64 50, .pointer (some ⟨w.heap.size, 0, none⟩), .pointer (some ⟨w.heap.size + 1, 0, none⟩)] W fun e w' => e = .returned (.int .u32 (U (a ^^^ b))) ∧ ∃ k, w' = W.drewN k) := Lib.hid (fun W h => amo12_any 50 a b (a ^^^ b) _ _ W rfl ((World.cell?_of_block (a := ⟨w.heap.size, 0, none⟩) (by rw [h])).trans c1) ((World.cell?_of_block (a := ⟨w.heap.size + 1, 0, none⟩) (by rw [h])).trans c2))
  have K51 : Hid (∀ W : World, W.heap = W0.heap → Calls Try.prog 24 #[.int .i64 51, .pointer (some ⟨w.heap.size, 0, none⟩), .pointer (some ⟨w.heap.size + 1, 0, none⟩)] W fun e w' => e = .returned (.int .u32 (U (a &&& b))) ∧ ∃ k, w' = W.drewN k) := Lib.hid (fun W h => amo12_any 51 a b (a &&& b) _ _ W rfl ((World.cell?_of_block (a := ⟨w.heap.size, 0, none⟩) (by rw [h])).trans c1) ((World.cell?_of_block (a := ⟨w.heap.size + 1, 0, none⟩) (by rw [h])).trans c2))
  have K52 : Hid (∀ W : World, W.heap = W0.heap → Calls Try.prog 24 #[.int .i64 52, .pointer (some ⟨w.heap.size, 0, none⟩), .pointer (some ⟨w.heap.size + 1, 0, none⟩)] W fun e w' => e = .returned (.int .u32 (U (a ||| b))) ∧ ∃ k, w' = W.drewN k) := Lib.hid (fun W h => amo12_any 52 a b (a ||| b) _ _ W rfl ((World.cell?_of_block (a := ⟨w.heap.size, 0, none⟩) (by rw [h])).trans c1) ((World.cell?_of_block (a := ⟨w.heap.size + 1, 0, none⟩) (by rw [h])).trans c2))
  have D28 := Lib.hid (fun W => do12_any 28 a b (a + b) rfl W)
  have D33 := Lib.hid (fun W => do12_any 33 a b (a ^^^ b) rfl W)
  have D37 := Lib.hid (fun W => do12_any 37 a b (a &&& b) rfl W)
  have D36 := Lib.hid (fun W => do12_any 36 a b (a ||| b) rfl W)
  clear hW0 hB hA hA2 P
  go_upto_region 7 with (first | (go_at_call 11; (with_reducible refine (HA.out _).mono ?_); rintro e w5 ⟨rfl, k0, hq⟩; replace hq := hq.symm; subst hq) | (go_at_call 24; (with_reducible refine (K53.out _ (HW.out _)).mono ?_); rintro e w5 ⟨rfl, k1, hq⟩; replace hq := hq.symm; subst hq) | (go_at_call 24; (with_reducible refine (K54.out _ (HW.out _)).mono ?_); rintro e w5 ⟨rfl, k2, hq⟩; replace hq := hq.symm; subst hq) | (go_at_call 24; (with_reducible refine (K55.out _ (HW.out _)).mono ?_); rintro e w5 ⟨rfl, k3, hq⟩; replace hq := hq.symm; subst hq) | (go_at_call 24; (with_reducible refine (K56.out _ (HW.out _)).mono ?_); rintro e w5 ⟨rfl, k4, hq⟩; replace hq := hq.symm; subst hq))
  obtain ⟨V, hV⟩ : ∃ V, V = W0.drewN (k0 + k1 + k2 + k3 + k4) := ⟨_, rfl⟩
  have d1 : V.cell? ⟨w.heap.size, 0, none⟩ = some (.int .u32 (U a)) := by rw [hV]; exact c1
  have d2 : V.cell? ⟨w.heap.size + 1, 0, none⟩ = some (.int .u32 (U b)) := by rw [hV]; exact c2
  have HBV : Hid (Below w.heap.size w V) := Lib.hid (by rw [hV]; exact below_drewN HB.out _)
  have HV : Hid (∀ n, (V.drewN n).heap = W0.heap) := Lib.hid (fun _ => by rw [hV]; rfl)
  rw [← hV]
  clear hV c1 c2 HB
  go_quiet ((first
    | (go_at_call 24; with_reducible exact Calls.quiet_of (K48.out _ (HV.out _)))
    | (go_at_call 24; with_reducible exact Calls.quiet_of (K49.out _ (HV.out _)))
    | (go_at_call 24; with_reducible exact Calls.quiet_of (K50.out _ (HV.out _)))
    | (go_at_call 24; with_reducible exact Calls.quiet_of (K51.out _ (HV.out _)))
    | (go_at_call 24; with_reducible exact Calls.quiet_of (K52.out _ (HV.out _)))
    | (go_at_call 22; with_reducible exact Calls.quiet_of (D28.out _))
    | (go_at_call 22; with_reducible exact Calls.quiet_of (D33.out _))
    | (go_at_call 22; with_reducible exact Calls.quiet_of (D37.out _))
    | (go_at_call 22; with_reducible exact Calls.quiet_of (D36.out _))))
  go_wp2
  go_ret
  exact ⟨by simp, below_drewN HBV.out _⟩
set_option maxHeartbeats 4000000 in
theorem pkw12_11 (a b : BitVec 32) (hab : a ≠ b) (x y : Int) (P : Pk12 a b b a b a x y) (w : World) :
    Calls Try.prog 10 #[.int .u32 (U a), .int .u32 (U b)] w fun e w' => e = .returned (.bool true) ∧ Below w.heap.size w w' := by
  have HA := Lib.hid alive12_any
  have wl := P.wl
  have wh := P.wh
  have le := P.le
  have leu := P.leu
  have nab : ¬ U a = U b := fun e => hab (U_inj e)
  have nba : ¬ U b = U a := fun e => hab (U_inj e).symm
  obtain ⟨t, ht⟩ : ∃ t, (U a + U b) % 4294967296 = t := ⟨_, rfl⟩
  have ht2 : (U b + U a) % 4294967296 = t := by rw [Int.add_comm]; exact ht
  clear hab
  go_enter Try.func10, Try.ntmps10
  go_upto_region 1 with (fail)
  obtain ⟨W0, hW0⟩ : ∃ W, W = (w.alloc (.cells #[.int .u32 (U a)] 22)).alloc (.cells #[.int .u32 (U b)] 22) := ⟨_, rfl⟩
  have hB := (((Below.refl w.heap.size w).alloc (Nat.le_refl _) (.cells #[.int .u32 (U a)] 22)).alloc (by simp) (.cells #[.int .u32 (U b)] 22))
  have hA : At W0 w.heap.size 22 [.int .u32 (U a)] := by rw [hW0]; exact (At.news w 22 [.int .u32 (U a)]).alloc _
  have hA2 : At W0 (w.heap.size + 1) 22 [.int .u32 (U b)] := by rw [hW0]; exact At.alloc_new _ 22 [.int .u32 (U b)] (by simp) rfl
  rw [← hW0] at hB
  rw [← hW0]
  have c1 : W0.cell? ⟨w.heap.size, 0, none⟩ = some (.int .u32 (U a)) := hA.cell 0
  have c2 : W0.cell? ⟨w.heap.size + 1, 0, none⟩ = some (.int .u32 (U b)) := hA2.cell 0
  have HB := Lib.hid hB
  have HW : Hid (∀ k, (W0.drewN k).heap = W0.heap) := Lib.hid (fun _ => rfl)
  have K53 : Hid (∀ W : World, W.heap = W0.heap → Calls Try.prog 24 #[.int .i64 53, .pointer (some ⟨w.heap.size, 0, none⟩), .pointer (some ⟨w.heap.size + 1, 0, none⟩)] W fun e w' => e = .returned (.int .u32 (U b)) ∧ ∃ k, w' = W.drewN k) := Lib.hid (fun W h => amo12_any 53 a b b _ _ W P.low ((World.cell?_of_block (a := ⟨w.heap.size, 0, none⟩) (by rw [h])).trans c1) ((World.cell?_of_block (a := ⟨w.heap.size + 1, 0, none⟩) (by rw [h])).trans c2))
  have K54 : Hid (∀ W : World, W.heap = W0.heap → Calls Try.prog 24 #[.int .i64 54, .pointer (some ⟨w.heap.size, 0, none⟩), .pointer (some ⟨w.heap.size + 1, 0, none⟩)] W fun e w' => e = .returned (.int .u32 (U a)) ∧ ∃ k, w' = W.drewN k) := Lib.hid (fun W h => amo12_any 54 a b a _ _ W P.high ((World.cell?_of_block (a := ⟨w.heap.size, 0, none⟩) (by rw [h])).trans c1) ((World.cell?_of_block (a := ⟨w.heap.size + 1, 0, none⟩) (by rw [h])).trans c2))
  have K55 : Hid (∀ W : World, W.heap = W0.heap → Calls Try.prog 24 #[.int .i64 55, .pointer (some ⟨w.heap.size, 0, none⟩), .pointer (some ⟨w.heap.size + 1, 0, none⟩)] W fun e w' => e = .returned (.int .u32 (U b)) ∧ ∃ k, w' = W.drewN k) := Lib.hid (fun W h => amo12_any 55 a b b _ _ W P.under ((World.cell?_of_block (a := ⟨w.heap.size, 0, none⟩) (by rw [h])).trans c1) ((World.cell?_of_block (a := ⟨w.heap.size + 1, 0, none⟩) (by rw [h])).trans c2))
  have K56 : Hid (∀ W : World, W.heap = W0.heap → Calls Try.prog 24 #[.int .i64 56, .pointer (some ⟨w.heap.size, 0, none⟩), .pointer (some ⟨w.heap.size + 1, 0, none⟩)] W fun e w' => e = .returned (.int .u32 (U a)) ∧ ∃ k, w' = W.drewN k) := Lib.hid (fun W h => amo12_any 56 a b a _ _ W P.over ((World.cell?_of_block (a := ⟨w.heap.size, 0, none⟩) (by rw [h])).trans c1) ((World.cell?_of_block (a := ⟨w.heap.size + 1, 0, none⟩) (by rw [h])).trans c2))
  have K48 : Hid (∀ W : World, W.heap = W0.heap → Calls Try.prog 24 #[.int .i64 48, .pointer (some ⟨w.heap.size, 0, none⟩), .pointer (some ⟨w.heap.size + 1, 0, none⟩)] W fun e w' => e = .returned (.int .u32 (U b)) ∧ ∃ k, w' = W.drewN k) := Lib.hid (fun W h => amo12_any 48 a b b _ _ W rfl ((World.cell?_of_block (a := ⟨w.heap.size, 0, none⟩) (by rw [h])).trans c1) ((World.cell?_of_block (a := ⟨w.heap.size + 1, 0, none⟩) (by rw [h])).trans c2))
  have K49 : Hid (∀ W : World, W.heap = W0.heap → Calls Try.prog 24 #[.int .i64 49, .pointer (some ⟨w.heap.size, 0, none⟩), .pointer (some ⟨w.heap.size + 1, 0, none⟩)] W fun e w' => e = .returned (.int .u32 (U (a + b))) ∧ ∃ k, w' = W.drewN k) := Lib.hid (fun W h => amo12_any 49 a b (a + b) _ _ W rfl ((World.cell?_of_block (a := ⟨w.heap.size, 0, none⟩) (by rw [h])).trans c1) ((World.cell?_of_block (a := ⟨w.heap.size + 1, 0, none⟩) (by rw [h])).trans c2))
  have K50 : Hid (∀ W : World, W.heap = W0.heap → Calls Try.prog 24 #[.int .i64 50, .pointer (some ⟨w.heap.size, 0, none⟩), .pointer (some ⟨w.heap.size + 1, 0, none⟩)] W fun e w' => e = .returned (.int .u32 (U (a ^^^ b))) ∧ ∃ k, w' = W.drewN k) := Lib.hid (fun W h => amo12_any 50 a b (a ^^^ b) _ _ W rfl ((World.cell?_of_block (a := ⟨w.heap.size, 0, none⟩) (by rw [h])).trans c1) ((World.cell?_of_block (a := ⟨w.heap.size + 1, 0, none⟩) (by rw [h])).trans c2))
  have K51 : Hid (∀ W : World, W.heap = W0.heap → Calls Try.prog 24 #[.int .i64 51, .pointer (some ⟨w.heap.size, 0, none⟩), .pointer (some ⟨w.heap.size + 1, 0, none⟩)] W fun e w' => e = .returned (.int .u32 (U (a &&& b))) ∧ ∃ k, w' = W.drewN k) := Lib.hid (fun W h => amo12_any 51 a b (a &&& b) _ _ W rfl ((World.cell?_of_block (a := ⟨w.heap.size, 0, none⟩) (by rw [h])).trans c1) ((World.cell?_of_block (a := ⟨w.heap.size + 1, 0, none⟩) (by rw [h])).trans c2))
  have K52 : Hid (∀ W : World, W.heap = W0.heap → Calls Try.prog 24 #[.int .i64 52, .pointer (some ⟨w.heap.size, 0, none⟩), .pointer (some ⟨w.heap.size + 1, 0, none⟩)] W fun e w' => e = .returned (.int .u32 (U (a ||| b))) ∧ ∃ k, w' = W.drewN k) := Lib.hid (fun W h => amo12_any 52 a b (a ||| b) _ _ W rfl ((World.cell?_of_block (a := ⟨w.heap.size, 0, none⟩) (by rw [h])).trans c1) ((World.cell?_of_block (a := ⟨w.heap.size + 1, 0, none⟩) (by rw [h])).trans c2))
  have D28 := Lib.hid (fun W => do12_any 28 a b (a + b) rfl W)
  have D33 := Lib.hid (fun W => do12_any 33 a b (a ^^^ b) rfl W)
  have D37 := Lib.hid (fun W => do12_any 37 a b (a &&& b) rfl W)
  have D36 := Lib.hid (fun W => do12_any 36 a b (a ||| b) rfl W)
  clear hW0 hB hA hA2 P
  go_upto_region 7 with (first | (go_at_call 11; (with_reducible refine (HA.out _).mono ?_); rintro e w5 ⟨rfl, k0, hq⟩; replace hq := hq.symm; subst hq) | (go_at_call 24; (with_reducible refine (K53.out _ (HW.out _)).mono ?_); rintro e w5 ⟨rfl, k1, hq⟩; replace hq := hq.symm; subst hq) | (go_at_call 24; (with_reducible refine (K54.out _ (HW.out _)).mono ?_); rintro e w5 ⟨rfl, k2, hq⟩; replace hq := hq.symm; subst hq) | (go_at_call 24; (with_reducible refine (K55.out _ (HW.out _)).mono ?_); rintro e w5 ⟨rfl, k3, hq⟩; replace hq := hq.symm; subst hq) | (go_at_call 24; (with_reducible refine (K56.out _ (HW.out _)).mono ?_); rintro e w5 ⟨rfl, k4, hq⟩; replace hq := hq.symm; subst hq))
  obtain ⟨V, hV⟩ : ∃ V, V = W0.drewN (k0 + k1 + k2 + k3 + k4) := ⟨_, rfl⟩
  have d1 : V.cell? ⟨w.heap.size, 0, none⟩ = some (.int .u32 (U a)) := by rw [hV]; exact c1
  have d2 : V.cell? ⟨w.heap.size + 1, 0, none⟩ = some (.int .u32 (U b)) := by rw [hV]; exact c2
  have HBV : Hid (Below w.heap.size w V) := Lib.hid (by rw [hV]; exact below_drewN HB.out _)
  have HV : Hid (∀ n, (V.drewN n).heap = W0.heap) := Lib.hid (fun _ => by rw [hV]; rfl)
  rw [← hV]
  clear hV c1 c2 HB
  go_quiet ((first
    | (go_at_call 24; with_reducible exact Calls.quiet_of (K48.out _ (HV.out _)))
    | (go_at_call 24; with_reducible exact Calls.quiet_of (K49.out _ (HV.out _)))
    | (go_at_call 24; with_reducible exact Calls.quiet_of (K50.out _ (HV.out _)))
    | (go_at_call 24; with_reducible exact Calls.quiet_of (K51.out _ (HV.out _)))
    | (go_at_call 24; with_reducible exact Calls.quiet_of (K52.out _ (HV.out _)))
    | (go_at_call 22; with_reducible exact Calls.quiet_of (D28.out _))
    | (go_at_call 22; with_reducible exact Calls.quiet_of (D33.out _))
    | (go_at_call 22; with_reducible exact Calls.quiet_of (D37.out _))
    | (go_at_call 22; with_reducible exact Calls.quiet_of (D36.out _))))
  go_wp2
  go_ret
  exact ⟨by simp, below_drewN HBV.out _⟩
end Go.Proofs.Ytffmbpenhgbhnaa
