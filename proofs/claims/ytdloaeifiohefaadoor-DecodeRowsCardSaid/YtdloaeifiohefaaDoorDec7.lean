/- Layer decode's program: the word that says an op. -/
import Derived.Test.YtdloaeifiohefaaDoorDec6
namespace Go.Proofs.YtdloaeifiohefaaDoor
open Go.RowKit Bm

set_option maxHeartbeats 1000000 in
theorem encode_any (a b c d : Int) (i : BitVec 32) (w : World) (hT : Tabs w) :
    Calls Tryd.prog 12 #[.agg #[.int .i64 a, .int .i64 b, .int .i64 c, .int .i64 d, .int .u32 (U i)]] w fun e w' => e = .returned (.tuple #[.int .u32 (U (encM ⟨a, b, c, d, i⟩)), .bool (encB ⟨a, b, c, d, i⟩)]) ∧ Below w.heap.size w w' := by
  have HT := Lib.hid hT
  have HN := Lib.hid (named_any a)
  have AB0 := Lib.hid (At.news w 25 (opC ⟨a, b, c, d, i⟩))
  have LB0 : Hid (∀ o, Below w.heap.size w (w.alloc o)) := Lib.hid fun o => (Below.refl _ w).alloc (Nat.le_refl _) _
  clear hT
  by_cases hn : named a = true
  · obtain ⟨n, rfl⟩ : ∃ n : Nat, a = n := ⟨a.toNat, by simp [named] at hn; omega⟩
    have hk : 1 ≤ n ∧ n ≤ 69 := by simp [named] at hn; omega
    have HPK := Lib.hid (fun W (hW : Tabs W) => pack_any hk b c d i W hW)
    rw [hn] at HN
    obtain ⟨x, hx⟩ : ∃ x, x = pk ⟨n, b, c, d, i⟩ := ⟨_, rfl⟩
    have HX := Lib.hid hx
    rw [← hx] at HPK
    have HWD := Lib.hid (fun W (hW : Tabs W) => word_any x W hW)
    obtain ⟨o, ho⟩ : ∃ o, o = (⟨n, b, c, d, i⟩ : OpM) := ⟨_, rfl⟩
    have HO := Lib.hid ho
    have HEB : Hid (encB o = decide (wordM x = o)) := Lib.hid (by rw [ho]; unfold encB; rw [← hx]; simp [hn])
    have HEM : Hid (encM o = if encB o then x else 0#32) := Lib.hid (by rw [ho]; unfold encM; rw [← hx])
    rw [← ho] at AB0 ⊢
    by_cases he : wordM x = o
    · have hq : ∀ W : World, (Op.equalIn 10000 25 (.agg (opC (wordM x)).toArray) (.agg (opC o).toArray)).run Tryd.prog W = .ok true W := fun W => by rw [run_eqO, decide_eq_true he]
      have HE := Lib.hid he
      clear hn hk hx ho he
      go_enter Tryd.func12, Tryd.ntmps12
      go_wp2_with (first
        | (go_at_call 27; (with_reducible refine (HN.out _).mono ?_); rintro e w1 ⟨rfl, rfl⟩)
        | (go_at_call 28; (with_reducible refine (HPK.out _ (HT.out.below (LB0.out _) HT.out.two)).mono ?_); rintro e w2 ⟨rfl, hb⟩; have AB2 := Lib.hid (at_keep AB0.out (show Below (w.alloc (.cells (opC o).toArray 25)).heap.size _ w2 by rw [HO.out]; exact hb)); have LB2 := Lib.hid ((LB0.out _).trans (hb.mono (LB0.out _).size)); clear hb)
        | (go_at_call 10; (with_reducible refine (HWD.out _ (HT.out.below LB2.out HT.out.two)).mono ?_); rintro e w3 ⟨rfl, hb⟩; have AB3 := Lib.hid (at_keep AB2.out hb); have LB3 := Lib.hid (LB2.out.trans (hb.mono LB2.out.size)); clear hb)
        | (refine wpList_stm (xs := opC op0) (ys := opC (wordM x)) (pre := []) (post := []) _ _ rfl rfl rfl rfl op_size rfl rfl (op_one _) rfl (by simp) (At.news w3 _ (opC op0)) ?_; intro w5 hA5 hT5; rw [List.nil_append, List.append_nil] at hA5; have HA5 := Lib.hid hA5; have AB5 := Lib.hid ((AB3.out.alloc _).kept hT5 (by have := AB3.out.lt; unfold Just; omega)); have LB5 := Lib.hid ((LB3.out.alloc LB3.out.size _).trans (hT5.below (B := w.heap.size) (fun k hk => by unfold Just at hk; have := LB3.out.size; omega) (LB3.out.alloc LB3.out.size _).size)); clear hA5 hT5)
        | (refine wpList_ldm (xs := opC (wordM x)) (pre := []) (post := []) _ rfl rfl rfl Tryd.underlying25 rfl op_size rfl rfl (by simp) HA5.out ?_)
        | (refine wpList_ldm (xs := opC o) (pre := []) (post := []) _ rfl rfl rfl Tryd.underlying25 rfl op_size rfl rfl (by simp) AB5.out ?_))
      go_ret2
      have hb1 : encB o = true := by rw [HEB.out, decide_eq_true HE.out]
      exact ⟨by rw [HEM.out, hb1]; rfl, LB5.out⟩
    · have hq : ∀ W : World, (Op.equalIn 10000 25 (.agg (opC (wordM x)).toArray) (.agg (opC o).toArray)).run Tryd.prog W = .ok false W := fun W => by rw [run_eqO, decide_eq_false he]
      have HE := Lib.hid he
      clear hn hk hx ho he
      go_enter Tryd.func12, Tryd.ntmps12
      go_wp2_with (first
        | (go_at_call 27; (with_reducible refine (HN.out _).mono ?_); rintro e w1 ⟨rfl, rfl⟩)
        | (go_at_call 28; (with_reducible refine (HPK.out _ (HT.out.below (LB0.out _) HT.out.two)).mono ?_); rintro e w2 ⟨rfl, hb⟩; have AB2 := Lib.hid (at_keep AB0.out (show Below (w.alloc (.cells (opC o).toArray 25)).heap.size _ w2 by rw [HO.out]; exact hb)); have LB2 := Lib.hid ((LB0.out _).trans (hb.mono (LB0.out _).size)); clear hb)
        | (go_at_call 10; (with_reducible refine (HWD.out _ (HT.out.below LB2.out HT.out.two)).mono ?_); rintro e w3 ⟨rfl, hb⟩; have AB3 := Lib.hid (at_keep AB2.out hb); have LB3 := Lib.hid (LB2.out.trans (hb.mono LB2.out.size)); clear hb)
        | (refine wpList_stm (xs := opC op0) (ys := opC (wordM x)) (pre := []) (post := []) _ _ rfl rfl rfl rfl op_size rfl rfl (op_one _) rfl (by simp) (At.news w3 _ (opC op0)) ?_; intro w5 hA5 hT5; rw [List.nil_append, List.append_nil] at hA5; have HA5 := Lib.hid hA5; have AB5 := Lib.hid ((AB3.out.alloc _).kept hT5 (by have := AB3.out.lt; unfold Just; omega)); have LB5 := Lib.hid ((LB3.out.alloc LB3.out.size _).trans (hT5.below (B := w.heap.size) (fun k hk => by unfold Just at hk; have := LB3.out.size; omega) (LB3.out.alloc LB3.out.size _).size)); clear hA5 hT5)
        | (refine wpList_ldm (xs := opC (wordM x)) (pre := []) (post := []) _ rfl rfl rfl Tryd.underlying25 rfl op_size rfl rfl (by simp) HA5.out ?_)
        | (refine wpList_ldm (xs := opC o) (pre := []) (post := []) _ rfl rfl rfl Tryd.underlying25 rfl op_size rfl rfl (by simp) AB5.out ?_))
      go_ret2
      have hb1 : encB o = false := by rw [HEB.out, decide_eq_false HE.out]
      exact ⟨by rw [HEM.out, hb1]; rfl, LB5.out⟩
  · have hf : named a = false := by simpa using hn
    have HEB : Hid (encB ⟨a, b, c, d, i⟩ = false) := Lib.hid (by unfold encB; simp [hf])
    have HEM : Hid (encM ⟨a, b, c, d, i⟩ = 0#32) := Lib.hid (by unfold encM; rw [HEB.out]; rfl)
    rw [hf] at HN
    clear hn hf
    go_enter Tryd.func12, Tryd.ntmps12
    go_wp2_with (go_at_call 27; (with_reducible refine (HN.out _).mono ?_); rintro e w1 ⟨rfl, hq⟩; replace hq := hq.symm; subst hq)
    go_ret2
    exact ⟨by rw [HEM.out, HEB.out]; rfl, LB0.out _⟩
end Go.Proofs.YtdloaeifiohefaaDoor
