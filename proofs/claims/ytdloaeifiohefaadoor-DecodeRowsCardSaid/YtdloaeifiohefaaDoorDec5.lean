/- Layer decode's program: what a word says; what writes a register. -/
import Derived.Test.YtdloaeifiohefaaDoorDec4
import Derived.Laws.StructEq
namespace Go.Proofs.YtdloaeifiohefaaDoor
open Go.RowKit Bm

theorem opM_eq (x y : OpM) : decide (x = y) = (x.name == y.name && (x.rd == y.rd && (x.rs1 == y.rs1 && (x.rs2 == y.rs2 && U x.imm == U y.imm)))) := by
  obtain ⟨a, b, c, d, i⟩ := x
  obtain ⟨a', b', c', d', i'⟩ := y
  simp only [OpM.mk.injEq, U_beq, Bool.decide_and]
  rfl
set_option maxRecDepth 10000 in
theorem run_eq_op (d : Nat) (a b c e a' b' c' e' i i' : Int) (w : World) :
    (Op.equalIn (d + 3) 25 (.agg #[.int .i64 a, .int .i64 b, .int .i64 c, .int .i64 e, .int .u32 i]) (.agg #[.int .i64 a', .int .i64 b', .int .i64 c', .int .i64 e', .int .u32 i'])).run Tryd.prog w =
      .ok (a == a' && (b == b' && (c == c' && (e == e' && i == i')))) w := by
  go_simp
  by_cases h0 : a = a' <;> by_cases h1 : b = b' <;> by_cases h2 : c = c' <;> by_cases h3 : e = e' <;> by_cases h4 : i = i' <;> simp [h0, h1, h2, h3, h4]
theorem run_eqO (x y : OpM) (w : World) : (Op.equalIn 10000 25 (.agg (opC x).toArray) (.agg (opC y).toArray)).run Tryd.prog w = .ok (decide (x = y)) w := by
  rw [opM_eq]; exact run_eq_op 9997 _ _ _ _ _ _ _ _ _ _ w

set_option maxHeartbeats 1000000 in
theorem writes_any (n : Int) (w : World) : Calls Tryd.prog 14 #[.int .i64 n] w fun e w' => e = .returned (.bool (wrB n)) ∧ Below w.heap.size w w' := by
  have HN := Lib.hid (named_any n)
  by_cases hn : named n = true
  · by_cases h57 : n = 57
    · have hw : Hid (wrB n = false) := Lib.hid (by simp [wrB, h57])
      have e57 : (n == 57) = true := by simpa using h57
      rw [hn] at HN
      clear h57 hn
      go_enter Tryd.func14, Tryd.ntmps14
      go_wp2_with (go_at_call 27; (with_reducible refine (HN.out _).mono ?_); rintro e w1 ⟨rfl, hq⟩; replace hq := hq.symm; subst hq)
      go_ret
      exact ⟨by rw [hw.out]; rfl, Below.refl _ _⟩
    · obtain ⟨k, rfl⟩ : ∃ k : Nat, n = k := ⟨n.toNat, by simp [named] at hn; omega⟩
      have hk : 1 ≤ k ∧ k ≤ 69 := by simp [named] at hn; omega
      have hf := fmO_lt k
      have hw : Hid (wrB k = (ptsOf (fmO k)).any fun p => p.f == 0) := Lib.hid (by simp [wrB, hn, h57])
      have HF := Lib.hid (formatOf_any hk)
      have HP := Lib.hid (partsOf_any hf)
      obtain ⟨ps, hps⟩ : ∃ ps, ps = ptsOf (fmO k) := ⟨_, rfl⟩
      rw [← hps] at HP hw
      have e57 : ((k : Int) == 57) = false := by simpa using h57
      obtain ⟨f, hfe⟩ : ∃ f, f = fmO k := ⟨_, rfl⟩
      rw [← hfe] at HF HP
      rw [hn] at HN
      clear h57 hn hps hfe hf
      go_enter Tryd.func14, Tryd.ntmps14
      go_wp2_with (first
        | (go_at_call 27; (with_reducible refine (HN.out _).mono ?_); rintro e w1 ⟨rfl, hq⟩; replace hq := hq.symm; subst hq)
        | (go_at_call 18; (with_reducible refine (HF.out _).mono ?_); rintro e w1 ⟨rfl, hq⟩; replace hq := hq.symm; subst hq)
        | (go_at_call 32; (with_reducible refine (HP.out _).mono ?_); rintro e w2 ⟨m, rfl, hm, hb, hmb⟩; have HM := Lib.hid hm; have LB2 := Lib.hid hb; clear hm hb hmb)
        | (refine wpList_rangeP _ rfl rfl rfl HM.out ?_; intro w3 hr hb hsz; have HR := Lib.hid hr; have LB3 := Lib.hid (LB2.out.trans (hb.mono LB2.out.size)); clear hr hb hsz))
      go_frame
      obtain ⟨r, hr⟩ : ∃ r, r = w2.heap.size := ⟨_, rfl⟩
      have HRL : Hid (w.heap.size ≤ r) := Lib.hid (by rw [hr]; exact LB2.out.size)
      rw [← hr] at HR
      simp only [← hr]
      clear hr LB2 HM
      go_loopw [4] (fun _ wr => ∃ js, RangeP wr m r ps js ∧ (∀ j ∈ js, (ptN ps j).f ≠ 0) ∧ Below w.heap.size w wr) (fun _ wr => leftP wr r ps.length)
      case atStart => exact ⟨[], HR.out, fun _ h => (by cases h), LB3.out⟩
      case round =>
        obtain ⟨js, hr0, hj0, hb0⟩ := hrel
        have HR0 := Lib.hid hr0
        have HJ0 := Lib.hid hj0
        have HB0 := Lib.hid hb0
        clear hr0 hj0 hb0 HR LB3
        go_wp2_with (at_next; refine wpList_nextP _ rfl rfl rfl HR0.out ?_ ?_)
        · intro hp
          have HA : Hid ((ps.any fun p => p.f == 0) = false) := Lib.hid (by
            rw [List.any_eq_false]
            intro p hpm
            obtain ⟨j, hj, rfl⟩ := List.mem_map.1 ((pts_perm hp).mem_iff.2 hpm)
            simpa using HJ0.out j hj)
          clear hp
          go_wp2
          go_ret
          exact ⟨by rw [hw.out, HA.out]; rfl, HB0.out⟩
        · intro j w1 hj hjs hr1 hT1 hen
          have HR1 := Lib.hid hr1
          have HB1 := Lib.hid (HB0.out.trans (hT1.below (B := w.heap.size) (fun k hk => by unfold Just at hk; rw [hk]; exact HRL.out) HB0.out.size))
          have HLE := Lib.hid (HR0.out.left_eq.trans rfl)
          have HMM := Lib.hid (ptN_mem hj)
          clear hr1 hT1
          obtain ⟨p, hp⟩ : ∃ p, p = ptN ps j := ⟨_, rfl⟩
          have HPJ := Lib.hid hp
          unfold ptV at hen ⊢
          rw [← hp] at hen HMM ⊢
          clear hp hj hjs
          have HR5 := Lib.hid (fun o => HR1.out.below ((Below.refl _ w1).alloc (Nat.le_refl _) o))
          have HB5 := Lib.hid (fun o => HB1.out.alloc HB1.out.size o)
          by_cases h0 : p.f = 0
          · have e0 : ((p.f : Int) == 0) = true := by rw [h0]; rfl
            have HA : Hid ((ps.any fun p => p.f == 0) = true) := Lib.hid (List.any_eq_true.2 ⟨p, HMM.out, by simpa using h0⟩)
            clear h0
            go_wp2
            go_ret
            exact ⟨by rw [hw.out, HA.out]; rfl, HB5.out _⟩
          · have e0 : ((p.f : Int) == 0) = false := by rw [beq_eq_false_iff_ne]; omega
            have hle := nodup_le HR1.out.nd HR1.out.lt
            rw [List.length_append, List.length_singleton] at hle
            have HLL := Lib.hid hle
            have H0 := Lib.hid h0
            clear hle h0
            go_wp2
            exact ⟨⟨js ++ [j], HR5.out _, fun i hi => (by
              rcases List.mem_append.1 hi with hi | hi
              · exact HJ0.out i hi
              · rw [List.mem_singleton.1 hi, ← HPJ.out]; exact H0.out), HB5.out _⟩, by rw [(HR5.out _).left_eq, HLE.out, List.length_append, List.length_singleton]; have := HLL.out; omega⟩
  · have hf : named n = false := by simpa using hn
    have hw : Hid (wrB n = false) := Lib.hid (by simp [wrB, hf])
    rw [hf] at HN
    clear hf hn
    go_enter Tryd.func14, Tryd.ntmps14
    go_wp2_with (go_at_call 27; (with_reducible refine (HN.out _).mono ?_); rintro e w1 ⟨rfl, hq⟩; replace hq := hq.symm; subst hq)
    go_ret
    exact ⟨by rw [hw.out]; rfl, Below.refl _ _⟩
end Go.Proofs.YtdloaeifiohefaaDoor
