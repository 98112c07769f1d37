/- The answers that layer scan's statements begin with. -/
import Derived.Test.YtlbcebkllddhgaaScanBuilt
import Derived.Test.YtlbcebkllddhgaaScan3
import Derived.Test.YtlbcebkllddhgaaHeld
import Derived.Deep.RegionWith
namespace Go.Proofs.Ytlbcebkllddhgaa
open Go.RowKit Bm

attribute [local go_sem ↓] ldS_eq

def pgL : PageM := ⟨3#32, 5#32, false, 0#32, 0#32, 0#32, 0#32⟩
def blA : BlkM := ⟨1, 0#32, [1, 0, 0, 0, 0, 0, 0, 0], [pgL, pg0, pg0, pg0, pg0, pg0, pg0, pg0]⟩
def blB : BlkM := ⟨1, 1#32, [0, 0, 0, 0, 0, 0, 0, 0], [pg0, pg0, pg0, pg0, pg0, pg0, pg0, pg0]⟩
theorem alive_found : scOf (bltPre [[pgL], []] 2) = ([blA, blB], 0) := by decide +kernel
theorem alive_none : scOf [] = ([], 8) := by decide +kernel
theorem below_then {a b c : World} (h : Below a.heap.size a b) (k : Below b.heap.size b c) : Below a.heap.size a c := h.trans (k.mono h.size)

set_option maxRecDepth 100000 in
set_option maxHeartbeats 4000000 in
theorem alive6_any (w : World) : Calls Try.prog 9 #[] w fun e w' => e = .returned (.bool true) ∧ Below w.heap.size w w' := by
  obtain ⟨W2, hW2⟩ : ∃ W2, (w.alloc (.cells (pgC pgL).toArray 45)).alloc (.cells #[.slice (some ⟨w.heap.size, 0, none⟩) 1 1, .slice none 0 0] 56) = W2 := ⟨_, rfl⟩
  have b2 : Below w.heap.size w W2 := by rw [← hW2]; exact (((Below.refl _ w).alloc (Nat.le_refl _) _).alloc (by simp) _)
  have p2 : At W2 w.heap.size 45 (pgC pgL) := by rw [← hW2]; exact (At.news w _ _).alloc _
  have q2 : At W2 (w.heap.size + 1) 56 [.slice (some ⟨w.heap.size, 0, none⟩) 1 1, .slice none 0 0] := by rw [← hW2]; exact At.alloc_new _ _ _ (by simp) rfl
  have rp : ReadsPP W2 (some ⟨w.heap.size + 1, 0, none⟩) 2 2 [[pgL], []] := ⟨rfl, by omega, by unfold maxLen; omega, fun _ => ⟨_, rfl, q2.lt, fun j ps hp => by
    have e : (⟨w.heap.size + 1, 0, none⟩ : Addr).add j = ⟨w.heap.size + 1, j, none⟩ := by unfold Addr.add; split <;> simp_all
    have hj : j < 2 := (List.getElem?_eq_some_iff.1 hp).1
    obtain rfl | rfl : j = 0 ∨ j = 1 := by omega
    · simp only [List.getElem?_cons_zero, Option.some.injEq] at hp
      subst hp
      refine ⟨_, 1, 1, by rw [e]; exact q2.cell 0, rfl, by omega, by unfold maxLen; omega, fun _ => ⟨_, 0, rfl, p2.lt, fun j p hp => ?_⟩⟩
      have hj : j < 1 := (List.getElem?_eq_some_iff.1 hp).1
      obtain rfl : j = 0 := by omega
      simp only [List.getElem?_cons_zero, Option.some.injEq] at hp
      subst hp
      intro i v hv
      simp only [Nat.zero_mul, Nat.zero_add]
      exact (p2.cell i).trans hv
    · simp only [List.getElem?_cons_succ, List.getElem?_cons_zero, Option.some.injEq] at hp
      subst hp
      exact ⟨none, 0, 0, by rw [e]; exact q2.cell 1, rfl, by omega, by unfold maxLen; omega, fun h => absurd h (by omega)⟩⟩⟩
  have PB := built_any _ 2 2 _ W2 rp (by omega)
  rw [← hW2] at PB
  have PBH := Lib.hid PB
  have HB2 := Lib.hid b2
  rw [← hW2] at HB2
  clear PB b2 p2 q2 rp
  have HN := Lib.hid alive_none
  have HF := Lib.hid alive_found
  unfold pgC at PBH
  have u3 : U pgL.s = 3 := rfl
  have u5 : U pgL.q = 5 := rfl
  have ug : pgL.g = false := rfl
  have u0 : U pgL.d0 = 0 := rfl
  have u1 : U pgL.d1 = 0 := rfl
  have u2 : U pgL.d2 = 0 := rfl
  have u4 : U pgL.d3 = 0 := rfl
  rw [u3, u5, ug, u0, u1, u2, u4] at PBH
  clear u3 u5 ug u0 u1 u2 u4
  go_enter Try.func9, Try.ntmps9
  go_upto_region 2 with (first
    | (go_at_call 21; (refine PBH.out.mono ?_); rintro e w3 ⟨B3, c3, rfl, hr, hb⟩; have HR3 := Lib.hid hr; have HB3 := Lib.hid (below_then HB2.out hb); clear hr hb)
    | (go_at_call 10; (refine (swords_any _ _ _ _ _ HR3.out).mono ?_); rintro e w4 ⟨B4, c4, rfl, hr, hb⟩; rw [HF.out] at hr ⊢; have HR4 := Lib.hid hr; have HB4 := Lib.hid (below_then HB3.out hb); clear hr hb))
  obtain ⟨g, off, rfl, hg, hc⟩ := HR4.out.cell (by simp)
  have r0 : w4.rangeAt g off (bkC blA) := by have := hc 0 blA rfl; rwa [Nat.zero_mul, Nat.add_zero] at this
  have r1 : w4.rangeAt g (off + 66) (bkC blB) := hc 1 blB rfl
  have HG := Lib.hid hg
  have HR0 := Lib.hid r0
  have HR1 := Lib.hid r1
  have hl0 : ∀ W, Below w4.heap.size w4 W → (op_ex (ldB 43) (.pointer (some ⟨g, off, none⟩)) W).choose = .ok (.value (.agg (bkC blA).toArray)) W := fun W hW => ldS_at (range_kept HR0.out (hW.block g HG.out)) (by rfl)
  have hl1 : ∀ W, Below w4.heap.size w4 W → (op_ex (ldB 43) (.pointer (some ⟨g, off + 66, none⟩)) W).choose = .ok (.value (.agg (bkC blB).toArray)) W := fun W hW => ldS_at (range_kept HR1.out (hW.block g HG.out)) (by rfl)
  clear r0 r1 hg hc
  go_upto_region 3 with (go_at_call 10; (refine (swords_any _ _ _ _ _ (reads_nil _ none)).mono ?_); rintro e w5 ⟨B5, c5, rfl, hr, hb⟩; rw [HN.out] at hr ⊢; have S5 : Below w4.heap.size w4 w5 := hb; have k0 : w5.cell? ⟨g, off, none⟩ = some (.int .i64 1) := (range_kept HR0.out (hb.block g HG.out)) 0 _ rfl; have k1 : w5.cell? ⟨g, off + 10, none⟩ = some (.int .u32 3) := (range_kept HR0.out (hb.block g HG.out)) 10 _ rfl; have k2 : w5.cell? ⟨g, off + 66 + 1, none⟩ = some (.int .u32 1) := (range_kept HR1.out (hb.block g HG.out)) 1 _ rfl; clear hr hb)
  have SN := Lib.hid (fun W => snext_any blA (by constructor <;> rfl) W)
  have SE := Lib.hid (fun W => sempty_any blA (by constructor <;> rfl) W)
  have SE2 := Lib.hid (fun W => sempty_any blB (by constructor <;> rfl) W)
  have n1 : bkNext blA = 1 := by decide +kernel
  have n2 : bkEmpty blA = false := by decide +kernel
  have n3 : bkEmpty blB = true := by decide +kernel
  have n4 : bkCounts [blA, blB] = 1#32 := by decide +kernel
  rw [n1] at SN
  rw [n2] at SE
  rw [n3] at SE2
  unfold bkV at SN SE SE2
  have HN4 := Lib.hid n4
  clear n1 n2 n3 n4
  have HS5 := Lib.hid S5
  have RB := Lib.hid HR4.out
  go_wp2_with (first
    | (go_at_call 16; (refine (SN.out _).mono ?_); rintro e w6 ⟨rfl, hb⟩; have S6 := S5.trans (hb.mono S5.size); clear hb)
    | (go_at_call_of 18 (Value.agg (bkC blA).toArray); (refine (SE.out _).mono ?_); rintro e w7 ⟨rfl, hb⟩; have S7 := S6.trans (hb.mono S6.size); clear hb)
    | (go_at_call_of 18 (Value.agg (bkC blB).toArray); (refine (SE2.out _).mono ?_); rintro e w8 ⟨rfl, hb⟩; have S8 := S7.trans (hb.mono S7.size); clear hb)
    | (go_at_call 14; (refine (scounts_any _ _ _ _ _ (RB.out.kept S8) (by simp)).mono ?_); rintro e w9 ⟨rfl, hb⟩; rw [HN4.out]; have S9 := S8.trans (hb.mono S8.size); clear hb))
  go_ret
  exact ⟨rfl, below_then HB4.out S9⟩
end Go.Proofs.Ytlbcebkllddhgaa
