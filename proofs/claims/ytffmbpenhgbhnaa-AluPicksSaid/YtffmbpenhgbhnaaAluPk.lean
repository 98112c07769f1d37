/- AluPicks: the lesser and the greater of two are these two; what is done at once is done as by numbers. -/
import Derived.Test.YtffmbpenhgbhnaaAluV
import Derived.Deep.DeepCutAuto
namespace Go.Proofs.Ytffmbpenhgbhnaa
open Go.RowKit Bm

/-- The statement's helper: what is stored, of the two words in the cells. -/
theorem amo12_any (n : Int) (a b r : BitVec 32) (p q : Addr) (W : World) (h : amM n a b = r) (c1 : W.cell? p = some (.int .u32 (U a))) (c2 : W.cell? q = some (.int .u32 (U b))) :
    Calls Try.prog 24 #[.int .i64 n, .pointer (some p), .pointer (some q)] W fun e w' => e = .returned (.int .u32 (U r)) ∧ ∃ k, w' = W.drewN k := by
  subst h
  have HB := Lib.hid (amo_any n a b W)
  go_enter Try.func24, Try.ntmps24
  go_wp2_with (go_at_call 16; (with_reducible refine HB.out.mono ?_); rintro e w5 ⟨rfl, k, hq⟩; replace hq := hq.symm; subst hq)
  go_ret
  exact ⟨rfl, k, rfl⟩
/-- What is known of the two words: the lesser and the greater, signed (x, y) and not signed (u, v), are these two. -/
structure Pk12 (a b l h u v : BitVec 32) (x y : Int) : Prop where
  low : amM 53 a b = l
  high : amM 54 a b = h
  under : amM 55 a b = u
  over : amM 56 a b = v
  wl : IntKind.i32.wrap (U l) = x
  wh : IntKind.i32.wrap (U h) = y
  le : x ≤ y
  leu : U u ≤ U v
theorem pk12 (a b : BitVec 32) : Pk12 a b (mOp 5 a b) (mOp 6 a b) (mOp 7 a b) (mOp 8 a b) (mOp 5 a b).toInt (mOp 6 a b).toInt where
  low := rfl
  high := rfl
  under := rfl
  over := rfl
  wl := wrap32_tI _
  wh := wrap32_tI _
  le := by
    show (if a.toInt < b.toInt then a else b).toInt ≤ (if b.toInt < a.toInt then a else b).toInt
    by_cases h : a.toInt < b.toInt
    · rw [if_pos h, if_neg (by omega)]; omega
    · by_cases h2 : b.toInt < a.toInt
      · rw [if_neg h, if_pos h2]; omega
      · rw [if_neg h, if_neg h2]; omega
  leu := by
    show U (if U a < U b then a else b) ≤ U (if U b < U a then a else b)
    by_cases h : U a < U b
    · rw [if_pos h, if_neg (by omega)]; omega
    · by_cases h2 : U b < U a
      · rw [if_neg h, if_pos h2]; omega
      · rw [if_neg h, if_neg h2]; omega
theorem pk_pair (a b : BitVec 32) (hab : a ≠ b) : (mOp 5 a b = a ∧ mOp 6 a b = b ∨ mOp 5 a b = b ∧ mOp 6 a b = a) ∧ (mOp 7 a b = a ∧ mOp 8 a b = b ∨ mOp 7 a b = b ∧ mOp 8 a b = a) := by
  have h1 : a.toInt ≠ b.toInt := fun e => hab (BitVec.eq_of_toInt_eq e)
  have h2 : U a ≠ U b := fun e => hab (U_inj e)
  constructor
  · show ((if a.toInt < b.toInt then a else b) = a ∧ (if b.toInt < a.toInt then a else b) = b) ∨ ((if a.toInt < b.toInt then a else b) = b ∧ (if b.toInt < a.toInt then a else b) = a)
    by_cases h : a.toInt < b.toInt
    · left; exact ⟨if_pos h, if_neg (by omega)⟩
    · right; exact ⟨if_neg h, if_pos (by omega)⟩
  · show ((if U a < U b then a else b) = a ∧ (if U b < U a then a else b) = b) ∨ ((if U a < U b then a else b) = b ∧ (if U b < U a then a else b) = a)
    by_cases h : U a < U b
    · left; exact ⟨if_pos h, if_neg (by omega)⟩
    · right; exact ⟨if_neg h, if_pos (by omega)⟩
theorem pk_same (a : BitVec 32) : mOp 5 a a = a ∧ mOp 6 a a = a ∧ mOp 7 a a = a ∧ mOp 8 a a = a := by
  refine ⟨?_, ?_, ?_, ?_⟩
  · show (if a.toInt < a.toInt then a else a) = a; split <;> rfl
  · show (if a.toInt < a.toInt then a else a) = a; split <;> rfl
  · show (if U a < U a then a else a) = a; split <;> rfl
  · show (if U a < U a then a else a) = a; split <;> rfl
set_option maxHeartbeats 4000000 in
theorem pkw12_same (a : BitVec 32) (x y : Int) (P : Pk12 a a a a a a x y) (w : World) :
    Calls Try.prog 10 #[.int .u32 (U a), .int .u32 (U a)] w fun e w' => e = .returned (.bool true) ∧ Below w.heap.size w w' := by
  have HA := Lib.hid alive12_any
  have wl := P.wl
  have wh := P.wh
  have le := P.le
  go_enter Try.func10, Try.ntmps10
  go_upto_region 1 with (fail)
  obtain ⟨W0, hW0⟩ : ∃ W, W = (w.alloc (.cells #[.int .u32 (U a)] 22)).alloc (.cells #[.int .u32 (U a)] 22) := ⟨_, rfl⟩
  have hB := (((Below.refl w.heap.size w).alloc (Nat.le_refl _) (.cells #[.int .u32 (U a)] 22)).alloc (by simp) (.cells #[.int .u32 (U a)] 22))
  have hA : At W0 w.heap.size 22 [.int .u32 (U a)] := by rw [hW0]; exact (At.news w 22 [.int .u32 (U a)]).alloc _
  have hA2 : At W0 (w.heap.size + 1) 22 [.int .u32 (U a)] := by rw [hW0]; exact At.alloc_new _ 22 [.int .u32 (U a)] (by simp) rfl
  rw [← hW0] at hB
  rw [← hW0]
  have c1 : W0.cell? ⟨w.heap.size, 0, none⟩ = some (.int .u32 (U a)) := hA.cell 0
  have c2 : W0.cell? ⟨w.heap.size + 1, 0, none⟩ = some (.int .u32 (U a)) := hA2.cell 0
  have HB := Lib.hid hB
  have HW : Hid (∀ k, (W0.drewN k).heap = W0.heap) := Lib.hid (fun _ => rfl)
  have K53 : Hid (∀ W : World, W.heap = W0.heap → Calls Try.prog 24 #[.int .i64 53, .pointer (some ⟨w.heap.size, 0, none⟩), .pointer (some ⟨w.heap.size + 1, 0, none⟩)] W fun e w' => e = .returned (.int .u32 (U a)) ∧ ∃ k, w' = W.drewN k) := Lib.hid (fun W h => amo12_any 53 a a a _ _ W P.low ((World.cell?_of_block (a := ⟨w.heap.size, 0, none⟩) (by rw [h])).trans c1) ((World.cell?_of_block (a := ⟨w.heap.size + 1, 0, none⟩) (by rw [h])).trans c2))
  have K54 : Hid (∀ W : World, W.heap = W0.heap → Calls Try.prog 24 #[.int .i64 54, .pointer (some ⟨w.heap.size, 0, none⟩), .pointer (some ⟨w.heap.size + 1, 0, none⟩)] W fun e w' => e = .returned (.int .u32 (U a)) ∧ ∃ k, w' = W.drewN k) := Lib.hid (fun W h => amo12_any 54 a a a _ _ W P.high ((World.cell?_of_block (a := ⟨w.heap.size, 0, none⟩) (by rw [h])).trans c1) ((World.cell?_of_block (a := ⟨w.heap.size + 1, 0, none⟩) (by rw [h])).trans c2))
  have K55 : Hid (∀ W : World, W.heap = W0.heap → Calls Try.prog 24 #[.int .i64 55, .pointer (some ⟨w.heap.size, 0, none⟩), .pointer (some ⟨w.heap.size + 1, 0, none⟩)] W fun e w' => e = .returned (.int .u32 (U a)) ∧ ∃ k, w' = W.drewN k) := Lib.hid (fun W h => amo12_any 55 a a a _ _ W P.under ((World.cell?_of_block (a := ⟨w.heap.size, 0, none⟩) (by rw [h])).trans c1) ((World.cell?_of_block (a := ⟨w.heap.size + 1, 0, none⟩) (by rw [h])).trans c2))
  have K56 : Hid (∀ W : World, W.heap = W0.heap → Calls Try.prog 24 #[.int .i64 56, .pointer (some ⟨w.heap.size, 0, none⟩), .pointer (some ⟨w.heap.size + 1, 0, none⟩)] W fun e w' => e = .returned (.int .u32 (U a)) ∧ ∃ k, w' = W.drewN k) := Lib.hid (fun W h => amo12_any 56 a a a _ _ W P.over ((World.cell?_of_block (a := ⟨w.heap.size, 0, none⟩) (by rw [h])).trans c1) ((World.cell?_of_block (a := ⟨w.heap.size + 1, 0, none⟩) (by rw [h])).trans c2))
  have K48 : Hid (∀ W : World, W.heap = W0.heap → Calls Try.prog 24 #[.int .i64 48, .pointer (some ⟨w.heap.size, 0, none⟩), .pointer (some ⟨w.heap.size + 1, 0, none⟩)] W fun e w' => e = .returned (.int .u32 (U a)) ∧ ∃ k, w' = W.drewN k) := Lib.hid (fun W h => amo12_any 48 a a a _ _ W rfl ((World.cell?_of_block (a := ⟨w.heap.size, 0, none⟩) (by rw [h])).trans c1) ((World.cell?_of_block (a := ⟨w.heap.size + 1, 0, none⟩) (by rw [h])).trans c2))
  have K49 : Hid (∀ W : World, W.heap = W0.heap → Calls Try.prog 24 #[.int .i64 49, .pointer (some ⟨w.heap.size, 0, none⟩), .pointer (some ⟨w.heap.size + 1, 0, none⟩)] W fun e w' => e = .returned (.int .u32 (U (a + a))) ∧ ∃ k, w' = W.drewN k) := Lib.hid (fun W h => amo12_any 49 a a (a + a) _ _ W rfl ((World.cell?_of_block (a := ⟨w.heap.size, 0, none⟩) (by rw [h])).trans c1) ((World.cell?_of_block (a := ⟨w.heap.size + 1, 0, none⟩) (by rw [h])).trans c2))
  have K50 : Hid (∀ W : World, W.heap = W0.heap → Calls Try.prog 24 #[.int .i64 50, .pointer (some ⟨w.heap.size, 0, none⟩), .pointer (some ⟨w.heap.size + 1, 0, none⟩)] W fun e w' => e = .returned (.int .u32 (U (a ^^^ a))) ∧ ∃ k, w' = W.drewN k) := Lib.hid (fun W h => amo12_any 50 a a (a ^^^ a) _ _ W rfl ((World.cell?_of_block (a := ⟨w.heap.size, 0, none⟩) (by rw [h])).trans c1) ((World.cell?_of_block (a := ⟨w.heap.size + 1, 0, none⟩) (by rw [h])).trans c2))
  have K51 : Hid (∀ W : World, W.heap = W0.heap → Calls Try.prog 24 #[.int .i64 51, .pointer (some ⟨w.heap.size, 0, none⟩), .pointer (some ⟨w.heap.size + 1, 0, none⟩)] W fun e w' => e = .returned (.int .u32 (U (a &&& a))) ∧ ∃ k, w' = W.drewN k) := Lib.hid (fun W h => amo12_any 51 a a (a &&& a) _ _ W rfl ((World.cell?_of_block (a := ⟨w.heap.size, 0, none⟩) (by rw [h])).trans c1) ((World.cell?_of_block (a := ⟨w.heap.size + 1, 0, none⟩) (by rw [h])).trans c2))
  have K52 : Hid (∀ W : World, W.heap = W0.heap → Calls Try.prog 24 #[.int .i64 52, .pointer (some ⟨w.heap.size, 0, none⟩), .pointer (some ⟨w.heap.size + 1, 0, none⟩)] W fun e w' => e = .returned (.int .u32 (U (a ||| a))) ∧ ∃ k, w' = W.drewN k) := Lib.hid (fun W h => amo12_any 52 a a (a ||| a) _ _ W rfl ((World.cell?_of_block (a := ⟨w.heap.size, 0, none⟩) (by rw [h])).trans c1) ((World.cell?_of_block (a := ⟨w.heap.size + 1, 0, none⟩) (by rw [h])).trans c2))
  have D28 := Lib.hid (fun W => do12_any 28 a a (a + a) rfl W)
  have D33 := Lib.hid (fun W => do12_any 33 a a (a ^^^ a) rfl W)
  have D37 := Lib.hid (fun W => do12_any 37 a a (a &&& a) rfl W)
  have D36 := Lib.hid (fun W => do12_any 36 a a (a ||| a) rfl W)
  clear hW0 hB hA hA2 P
  go_upto_region 7 with (first | (go_at_call 11; (with_reducible refine (HA.out _).mono ?_); rintro e w5 ⟨rfl, k0, hq⟩; replace hq := hq.symm; subst hq) | (go_at_call 24; (with_reducible refine (K53.out _ (HW.out _)).mono ?_); rintro e w5 ⟨rfl, k1, hq⟩; replace hq := hq.symm; subst hq) | (go_at_call 24; (with_reducible refine (K54.out _ (HW.out _)).mono ?_); rintro e w5 ⟨rfl, k2, hq⟩; replace hq := hq.symm; subst hq) | (go_at_call 24; (with_reducible refine (K55.out _ (HW.out _)).mono ?_); rintro e w5 ⟨rfl, k3, hq⟩; replace hq := hq.symm; subst hq) | (go_at_call 24; (with_reducible refine (K56.out _ (HW.out _)).mono ?_); rintro e w5 ⟨rfl, k4, hq⟩; replace hq := hq.symm; subst hq))
  obtain ⟨V, hV⟩ : ∃ V, V = W0.drewN (k0 + k1 + k2 + k3 + k4) := ⟨_, rfl⟩
  have d1 : V.cell? ⟨w.heap.size, 0, none⟩ = some (.int .u32 (U a)) := by rw [hV]; exact c1
  have d2 : V.cell? ⟨w.heap.size + 1, 0, none⟩ = some (.int .u32 (U a)) := by rw [hV]; exact c2
  have HBV : Hid (Below w.heap.size w V) := Lib.hid (by rw [hV]; exact below_drewN HB.out _)
  have HV : Hid (∀ n, (V.drewN n).heap = W0.heap) := Lib.hid (fun _ => by rw [hV]; rfl)
  rw [← hV]
  clear hV c1 c2 HB
  go_quiet ((first
    | (go_at_call 24; with_reducible exact Calls.quiet_of (K48.out _ (HV.out _)))
    | (go_at_call 24; with_reducible exact Calls.quiet_of (K49.out _ (HV.out _)))
    | (go_at_call 24; with_reducible exact Calls.quiet_of (K50.out _ (HV.out _)))
    | (go_at_call 24; with_reducible exact Calls.quiet_of (K51.out _ (HV.out _)))
    | (go_at_call 24; with_reducible exact Calls.quiet_of (K52.out _ (HV.out _)))
    | (go_at_call 22; with_reducible exact Calls.quiet_of (D28.out _))
    | (go_at_call 22; with_reducible exact Calls.quiet_of (D33.out _))
    | (go_at_call 22; with_reducible exact Calls.quiet_of (D37.out _))
    | (go_at_call 22; with_reducible exact Calls.quiet_of (D36.out _))))
  go_wp2
  go_ret
  exact ⟨by simp, below_drewN HBV.out _⟩
end Go.Proofs.Ytffmbpenhgbhnaa
