/- The walk of layer sector's statement SectorRefuses: what was refused changes no sector, nor the buffer. -/
import Derived.Test.YtpkkejdjhnmjiaaPd6
import Derived.Test.YtpkkejdjhnmjiaaLaw
import Derived.OpenShut
namespace Go.Proofs.Ytpkkejdjhnmjiaa
open Go.RowKit Bm

/-- What the statement writes into the buffer; its disk. -/
def rfW : List (BitVec 32) := (List.range 16).map fun i => BitVec.ofNat 32 (i + 100)
def rfL : List V4 := [⟨1, 0, 0, 0⟩, ⟨2, 0, 0, 0⟩, ⟨3, 0, 0, 0⟩, ⟨4, 0, 0, 0⟩, ⟨5, 0, 0, 0⟩]
theorem rfW_len : rfW.length = 16 := rfl
theorem rfW_at {i : Nat} (h : i < 16) : U (wd rfW i) = (i : Int) + 100 := by
  have : ∀ i : Fin 16, U (wd rfW i.val) = ((i.val : Nat) : Int) + 100 := by decide +kernel
  exact this ⟨i, h⟩
section
variable {α : Type} {D : Dk10 α} {d : DvM} {a : α} {I : α → Prop} {view : α → List V4}
/-- A command on a disk of five sectors that doesn't fail: what it tells, and what stays. -/
theorem cmd_five (hD : D.Is) (hF : Faith D I view) (hI : I a) (h5 : D.len a = 5) (v : BitVec 32) :
    (pSet D 0 v d a).2.2 = 0 ∧ (pSet D 0 v d a).1.line = 1#32 ∧ (pSet D 0 v d a).1.place = 0 ∧
    (¬ (1 ≤ U v ∧ U v ≤ 4) → (pSet D 0 v d a).1.err = 1#32 ∧ (pSet D 0 v d a).1.buf = d.buf ∧ (pSet D 0 v d a).2.1 = a) ∧
    (1 ≤ U v ∧ U v ≤ 3 → ¬ (1 ≤ U d.many ∧ U d.many ≤ 4 ∧ U d.first + U d.many ≤ 5) → (pSet D 0 v d a).1.err = 2#32 ∧ (pSet D 0 v d a).1.buf = d.buf ∧ (pSet D 0 v d a).2.1 = a) ∧
    (1 ≤ U v ∧ U v ≤ 3 → (1 ≤ U d.many ∧ U d.many ≤ 4 ∧ U d.first + U d.many ≤ 5) → (pSet D 0 v d a).1.err = 0#32) ∧
    (U v = 4 → (pSet D 0 v d a).1.err = 0#32 ∧ (pSet D 0 v d a).1.buf = d.buf ∧ (pSet D 0 v d a).2.1 = a) := by
  show (0 : Int) = 0 ∧ (pCmd D (U v) d a).1.line = 1#32 ∧ (pCmd D (U v) d a).1.place = 0 ∧ (¬ (1 ≤ U v ∧ U v ≤ 4) → (pCmd D (U v) d a).1.err = 1#32 ∧ (pCmd D (U v) d a).1.buf = d.buf ∧ (pCmd D (U v) d a).2 = a) ∧
    (1 ≤ U v ∧ U v ≤ 3 → ¬ (1 ≤ U d.many ∧ U d.many ≤ 4 ∧ U d.first + U d.many ≤ 5) → (pCmd D (U v) d a).1.err = 2#32 ∧ (pCmd D (U v) d a).1.buf = d.buf ∧ (pCmd D (U v) d a).2 = a) ∧
    (1 ≤ U v ∧ U v ≤ 3 → (1 ≤ U d.many ∧ U d.many ≤ 4 ∧ U d.first + U d.many ≤ 5) → (pCmd D (U v) d a).1.err = 0#32) ∧
    (U v = 4 → (pCmd D (U v) d a).1.err = 0#32 ∧ (pCmd D (U v) d a).1.buf = d.buf ∧ (pCmd D (U v) d a).2 = a)
  obtain ⟨V, hV⟩ : ∃ V, V = U v := ⟨_, rfl⟩
  rw [← hV]
  clear hV
  refine ⟨rfl, ?_⟩
  have hs := pTrans_same (D := D) V (dCalm d) a
  unfold pCmd
  by_cases h123 : V = 1 ∨ V = 2 ∨ V = 3
  · rw [if_pos h123]
    refine ⟨hs.2.2.1, hs.2.2.2.1, fun h => absurd h (fun h => h ⟨by omega, by omega⟩), fun _ hf => ?_, fun _ hf => ?_, fun h => by omega⟩
    · have hp : pFar (D.len a) (dCalm d) := by
        unfold pFar
        rw [h5]
        show U d.many < 1 ∨ 4 < U d.many ∨ (5 : Int) < U d.first + U d.many
        omega
      unfold pTrans
      rw [if_pos hp]
      exact ⟨rfl, rfl, rfl⟩
    · have hp : ¬ pFar (D.len a) (dCalm d) := by
        unfold pFar
        rw [h5]
        show ¬ (U d.many < 1 ∨ 4 < U d.many ∨ (5 : Int) < U d.first + U d.many)
        omega
      have hm : ((dCalm d).first.toNat : Int) + 0 + ((dCalm d).many.toNat : Int) ≤ D.len a := by
        unfold pFar U at hp
        omega
      unfold pTrans
      rw [if_neg hp]
      exact (moves_doc hD hF V h123 (dCalm d).many.toNat (dCalm d) a 0 hI (by omega)).1
  · rw [if_neg h123]
    by_cases h4 : V = 4
    · rw [if_pos h4]
      exact ⟨rfl, rfl, fun h => absurd h (fun h => h ⟨by omega, by omega⟩), fun h => by omega, fun h => by omega, fun _ => ⟨rfl, rfl, rfl⟩⟩
    · rw [if_neg h4]
      exact ⟨rfl, rfl, fun _ => ⟨rfl, rfl, rfl⟩, fun h => by omega, fun h => by omega, fun h => absurd h h4⟩
end
theorem same_five {A : Option Addr} {wr W : World} (h : v4K.Reads wr A 5 5 rfL) (hW : W = wr.alloc (.cells (v4K.all rfL).toArray 39)) :
    Calls Try.prog 12 #[.slice A 5 5, .slice (some ⟨wr.heap.size, 0, none⟩) 5 5] W fun e w' => e = .returned (.bool true) ∧ Below wr.heap.size wr w' := by
  subst hW
  have hb : Below wr.heap.size wr (wr.alloc (.cells (v4K.all rfL).toArray 39)) := (Below.refl _ wr).alloc (Nat.le_refl _) _
  have hy : v4K.Reads (wr.alloc (.cells (v4K.all rfL).toArray 39)) (some ⟨wr.heap.size, 0, none⟩) 5 5 rfL := Kd.Reads.of_at (K := v4K) (xs := rfL) (cap := 5) (rest := []) (t := 39) (by rw [List.append_nil]; exact At.news wr _ _) (Nat.le_refl _) (by unfold maxLen; omega)
  refine (rsame10_any A (some ⟨wr.heap.size, 0, none⟩) 5 5 5 5 rfL rfL _ (h.kept hb) hy (by omega) (by omega)).mono ?_
  rintro e w' ⟨rfl, h2⟩
  exact ⟨by rw [decide_eq_true rfl], hb.trans (h2.mono hb.size)⟩
set_option maxRecDepth 100000 in
set_option maxHeartbeats 4000000 in
theorem sectorRefuses_walk (f : Int) (wf : (Lit.int .u32 f).wf = true) (m : Int) (wm : (Lit.int .u32 m).wf = true) (v : Int) (wv : (Lit.int .u32 v).wf = true) (w : World) :
    Calls Try.prog 4 #[.int .u32 f, .int .u32 m, .int .u32 v] w fun e w' => e = .returned (.bool true) ∧ Below w.heap.size w w' := by
  have bf := bounds_u32 wf
  have bm := bounds_u32 wm
  have bv := bounds_u32 wv
  obtain ⟨F, hF⟩ := U_of bf.1 (by omega)
  obtain ⟨M, hM⟩ := U_of bm.1 (by omega)
  obtain ⟨V, hV⟩ := U_of bv.1 (by omega)
  have HF := Lib.hid hF
  have HM := Lib.hid hM
  have HV := Lib.hid hV
  have f0 := bf.1
  have f1 := bf.2
  have m0 := bm.1
  have m1 := bm.2
  have v0 := bv.1
  have v1 := bv.2
  clear wf wm wv bf bm bv hF hM hV
  go_enter Try.func4, Try.ntmps4
  go_upto_region 4 with (go_at_call 9; (refine (alive10_any w).mono ?_); rintro e wa ⟨rfl, hBa⟩; have HBA := Lib.hid hBa; clear hBa)
  obtain ⟨w1, hw1⟩ : ∃ w1, w1 = wa.alloc (.cells (v4K.all rfL).toArray 39) := ⟨_, rfl⟩
  have z1 : w1.heap.size = wa.heap.size + 1 := by rw [hw1, World.size_alloc]
  have HB1 : Hid (Below w.heap.size w w1) := Lib.hid (by rw [hw1]; exact HBA.out.alloc HBA.out.size _)
  have ho : w1.ownsRow w.heap.size 39 4 (.slice (some ⟨wa.heap.size, 0, none⟩) 5 5) 5 (v4K.all rfL) := by
    have hA : At w1 wa.heap.size 39 (v4K.all rfL ++ []) := by rw [hw1, List.append_nil]; exact At.news wa _ _
    exact own_of_at hA HBA.out.size rfl rfl (Nat.le_refl _) (by unfold maxLen; omega)
  have HNW := Lib.hid (fun W hW => new_mem (B := w.heap.size) (m := (⟨rfL, 0, 0⟩ : MemM)) (w := W) (w1 := w1) (K := NoBlock) ho (by decide) (by decide) HB1.out.size (fun i e => e.elim) (fun g e e2 => e2) hW)
  rw [z1] at HNW
  have HNW2 : Hid (∀ W, W = (wa.alloc (.cells (v4K.all rfL).toArray 39)).alloc (.cells #[.slice (some ⟨wa.heap.size, 0, none⟩) 5 5, .int .i64 0, .int .i64 0] 28) → Calls Try.prog 10 #[.iface 24 (.pointer (some ⟨wa.heap.size + 1, 0, none⟩))] W fun e w' => ∃ q, e = .returned (.pointer (some ⟨q, 0, none⟩)) ∧ PdAt (memD w.heap.size (wa.heap.size + 1) (some ⟨wa.heap.size, 0, none⟩) 5) q NoBlock pd0 ⟨rfL, 0, 0⟩ w' ∧ Below (wa.heap.size + 1) w1 w' ∧ wa.heap.size + 1 < q) := Lib.hid (by rw [← hw1]; exact HNW.out)
  have HZ : Hid (w.heap.size ≤ wa.heap.size + 1) := Lib.hid (by have := HBA.out.size; omega)
  clear hw1 z1 ho HNW HBA
  go_upto_region 5 with (go_at_call 10; (refine (HNW2.out _ rfl).mono ?_); rintro e w2 ⟨q, rfl, p0, b0, -⟩; have P0 := Lib.hid p0; have B0 := Lib.hid (HB1.out.trans (b0.mono HZ.out)); clear p0 b0)
  obtain ⟨p, hp⟩ : ∃ p, p = wa.heap.size + 1 := ⟨_, rfl⟩
  obtain ⟨A, hA⟩ : ∃ A : Option Addr, A = some ⟨wa.heap.size, 0, none⟩ := ⟨_, rfl⟩
  rw [← hp, ← hA] at P0
  rw [← hp]
  obtain ⟨D, hDd⟩ : ∃ D, D = memD w.heap.size p A 5 := ⟨_, rfl⟩
  have HD : Hid D.Is := Lib.hid (by rw [hDd]; exact mem_is ..)
  have HFT : Hid (Faith D (fun m => m.fail = 0) (fun m => m.l)) := Lib.hid (by rw [hDd]; exact mem_faith ..)
  have HDB : Hid (D.B = w.heap.size) := Lib.hid (by rw [hDd]; rfl)
  have HRM : Hid (∀ m n, D.room m n) := Lib.hid (by rw [hDd]; exact fun _ _ => trivial)
  have HST : Hid (∀ {K : Nat → Prop} {m : MemM} {W : World}, D.st K m W → MemAt w.heap.size p A 5 m W) := Lib.hid (by rw [hDd]; exact fun h => h.1)
  rw [← hDd] at P0
  have HDL : Hid (D.len (⟨rfL, 0, 0⟩ : MemM) = 5) := Lib.hid (by rw [hDd]; rfl)
  obtain ⟨m5, hm5⟩ : ∃ m : MemM, m = ⟨rfL, 0, 0⟩ := ⟨_, rfl⟩
  rw [← hm5] at P0 HDL
  have HM5 := Lib.hid hm5
  clear hp hA hDd HNW2 HB1 HZ hm5
  have HUN : Hid (∀ {W W' : World}, Turned (Un10 D.B NoBlock) W W' → Below w.heap.size w W → Below w.heap.size w W') := Lib.hid (fun t hB => by rw [HDB.out] at t; exact hB.trans (un_below t hB.size))
  go_upto_region 8 with (fail)
  go_loopw [35] (fun i wr => ∃ (j : Nat) (d : DvM), j ≤ 16 ∧ i = .int .i64 j ∧ PdAt D q NoBlock d m5 wr ∧ Below w.heap.size w wr ∧ d.place = j % 16 ∧ ∀ i, i < j → wd d.buf i = wd rfW i) (fun i _ => 16 - (intOf i).toNat)
  case atStart => exact ⟨0, pd0, Nat.zero_le _, rfl, P0.out, B0.out, rfl, fun i hi => absurd hi (by omega)⟩
  case round =>
    obtain ⟨j, d, hj, rfl, hp, hB, hpl, hw⟩ := hrel
    have HP := Lib.hid hp
    have HB := Lib.hid hB
    have HPL := Lib.hid hpl
    have HW := Lib.hid hw
    clear hp hB hpl hw P0 B0
    by_cases hlt : j < 16
    · have ht : (j : Int) < 16 := by omega
      have ht0 : (0 : Int) ≤ j := by omega
      have HS := Lib.hid (HP.out.setTo HD.out (HRM.out m5 4) 5 (wd rfW j) (d' := { d with buf := d.buf.set d.place (wd rfW j), place := dNext d.place }) (a' := m5) (e0 := 0) rfl (rfW_at hlt))
      go_wp2_with (go_at_call 13; (with_reducible refine HS.out.mono ?_); rintro e w3 ⟨rfl, p1, t1⟩; have HP1 := Lib.hid p1; have HU := Lib.hid (HUN.out t1 HB.out); clear p1 t1)
      go_roundw
      case rel =>
        refine ⟨j + 1, _, by omega, by go_num, HP1.out, HU.out, ?_, fun i hi => ?_⟩
        · show dNext d.place = _
          rw [HPL.out]
          unfold dNext
          omega
        · have hpj : d.place = j := by rw [HPL.out]; omega
          show wd (d.buf.set d.place (wd rfW j)) i = wd rfW i
          rw [hpj]
          by_cases he : i = j
          · subst he
            unfold wd
            rw [List.getD_eq_getElem?_getD, List.getElem?_set_self (by rw [HP.out.b]; exact hlt)]
            rfl
          · have := HW.out i (by omega)
            unfold wd at this ⊢
            rw [List.getD_eq_getElem?_getD, List.getElem?_set_ne (by omega), ← List.getD_eq_getElem?_getD]
            exact this
      case measure => simp [intOf]; omega
    · have HJ16 : Hid (j = 16) := Lib.hid (by omega)
      have hge : ¬ (j : Int) < 16 := by omega
      have hbuf : d.buf = rfW := List.ext_getElem (by rw [HP.out.b, rfW_len]) (fun i h1 h2 => by
        have := HW.out i (by rw [HJ16.out]; rw [rfW_len] at h2; exact h2)
        unfold wd at this
        rw [List.getD_eq_getElem?_getD, List.getD_eq_getElem?_getD, List.getElem?_eq_getElem h1, List.getElem?_eq_getElem h2] at this
        exact this)
      have HBF := Lib.hid hbuf
      clear hbuf hlt hj
      have HS1 := Lib.hid (HP.out.setTo HD.out (HRM.out m5 4) 1 F (d' := { d with first := F }) (a' := m5) (e0 := 0) rfl HF.out.symm)
      rename World => wr1
      go_upto_region 13 with (go_at_call 13; (with_reducible refine HS1.out.mono ?_); rintro e w3 ⟨rfl, p1, t1⟩; have HP3 := Lib.hid p1; have HU3 := Lib.hid (HUN.out t1 HB.out); clear p1 t1)
      have HS2 := Lib.hid (HP3.out.setTo HD.out (HRM.out m5 4) 2 M (d' := { d with first := F, many := M }) (a' := m5) (e0 := 0) rfl HM.out.symm)
      go_upto_region 14 with (go_at_call 13; (with_reducible refine HS2.out.mono ?_); rintro e w4 ⟨rfl, p1, t1⟩; have HP4 := Lib.hid p1; have HU4 := Lib.hid (HUN.out t1 HU3.out); clear p1 t1)
      have hc := cmd_five (d := { d with first := F, many := M }) HD.out HFT.out (a := m5) (by rw [HM5.out]) HDL.out V
      obtain ⟨r, hr⟩ : ∃ r, r = pSet D 0 V { d with first := F, many := M } m5 := ⟨_, rfl⟩
      rw [← hr] at hc
      obtain ⟨d4, m4, e4⟩ := r
      dsimp only at hc
      obtain ⟨g0, gl, gp, gr⟩ := hc
      subst g0
      have HS3 := Lib.hid (HP4.out.setTo HD.out (HRM.out m5 4) 0 V hr.symm HV.out.symm)
      rw [← HV.out, ← HM.out, ← HF.out, HBF.out] at gr
      have HGR := Lib.hid gr
      have HGL := Lib.hid gl
      have HGP := Lib.hid gp
      clear hr gl gp gr
      go_upto_region 15 with (go_at_call 13; (with_reducible refine HS3.out.mono ?_); rintro e w5 ⟨rfl, p1, t1⟩; have HP5 := Lib.hid p1; have HU5 := Lib.hid (HUN.out t1 HU4.out); clear p1 t1)
      clear HS1 HS2 HS3 HP HP3 HP4 HU3 HU4 HB HW HPL
      obtain ⟨E, hE⟩ : ∃ E, E = d4.err := ⟨_, rfl⟩
      have HG1 := Lib.hid (HP5.out.getTo HD.out 4 (n := D.len m4) rfl (d' := d4) (v := E) (e0 := 0) (by rw [hE]; rfl) rfl)
      have HE := Lib.hid hE
      clear hE
      go_upto_region 16 with (go_at_call 14; (with_reducible refine HG1.out.mono ?_); rintro e w6 ⟨rfl, p1, t1⟩; have HP6 := Lib.hid p1; have HU6 := Lib.hid (HUN.out t1 HU5.out); clear p1 t1)
      obtain ⟨S, hS⟩ : ∃ S, S = stB d4 := ⟨_, rfl⟩
      have HG2 := Lib.hid (HP6.out.getTo HD.out 3 (n := D.len m4) rfl (d' := d4) (v := S) (e0 := 0) (by rw [hS]; rfl) rfl)
      have HS := Lib.hid hS
      clear hS
      go_upto_region 17 with (go_at_call 14; (with_reducible refine HG2.out.mono ?_); rintro e w7 ⟨rfl, p1, t1⟩; have HP7 := Lib.hid p1; have HU7 := Lib.hid (HUN.out t1 HU6.out); clear p1 t1)
      clear HG1 HG2 HP5 HP6 HU5 HU6
      obtain ⟨kB, hk⟩ : ∃ k : Bool, k = decide (1 ≤ v ∧ v ≤ 4) := ⟨_, rfl⟩
      obtain ⟨iB, hi⟩ : ∃ k : Bool, k = decide (1 ≤ m ∧ m ≤ 4 ∧ f + m ≤ 5) := ⟨_, rfl⟩
      have HK := Lib.hid hk
      have HI := Lib.hid hi
      clear hk hi
      go_cut [14] (fun s14 wx => s14 = .bool kB ∧ wx = w7)
      case first =>
        by_cases h1 : 1 ≤ v
        · by_cases h2 : v ≤ 4
          · go_wp2_with fail
            go_meet
            exact ⟨congrArg Value.bool (by rw [HK.out]; symm; first | (rw [decide_eq_true_eq]; omega) | (rw [decide_eq_false_iff_not]; omega)), rfl⟩
          · go_wp2_with fail
            go_meet
            exact ⟨congrArg Value.bool (by rw [HK.out]; symm; first | (rw [decide_eq_true_eq]; omega) | (rw [decide_eq_false_iff_not]; omega)), rfl⟩
        · go_wp2_with fail
          go_meet
          exact ⟨congrArg Value.bool (by rw [HK.out]; symm; first | (rw [decide_eq_true_eq]; omega) | (rw [decide_eq_false_iff_not]; omega)), rfl⟩
      case rest =>
      obtain ⟨rfl, hwc⟩ := hcut
      rw [hwc]
      clear hwc
      have hw1 : IntKind.u64.wrap f = f := by
        show f % 18446744073709551616 = f
        omega
      have hw2 : IntKind.u64.wrap m = m := by
        show m % 18446744073709551616 = m
        omega
      have hw3 : IntKind.u64.wrap (f + m) = f + m := by
        show (f + m) % 18446744073709551616 = f + m
        omega
      go_upto_region 18 with (fail)
      go_cut [15] (fun s15 wx => s15 = .bool iB ∧ wx = w7)
      case first =>
        by_cases h1 : 1 ≤ m
        · by_cases h2 : m ≤ 4
          · by_cases h3 : f + m ≤ 5
            · go_wp2_with fail
              go_meet
              exact ⟨congrArg Value.bool (by rw [HI.out]; symm; first | (rw [decide_eq_true_eq]; omega) | (rw [decide_eq_false_iff_not]; omega)), rfl⟩
            · go_wp2_with fail
              go_meet
              exact ⟨congrArg Value.bool (by rw [HI.out]; symm; first | (rw [decide_eq_true_eq]; omega) | (rw [decide_eq_false_iff_not]; omega)), rfl⟩
          · go_wp2_with fail
            go_meet
            exact ⟨congrArg Value.bool (by rw [HI.out]; symm; first | (rw [decide_eq_true_eq]; omega) | (rw [decide_eq_false_iff_not]; omega)), rfl⟩
        · go_wp2_with fail
          go_meet
          exact ⟨congrArg Value.bool (by rw [HI.out]; symm; first | (rw [decide_eq_true_eq]; omega) | (rw [decide_eq_false_iff_not]; omega)), rfl⟩
      case rest =>
      obtain ⟨rfl, hwc⟩ := hcut
      rw [hwc]
      clear hwc
      clear hw1 hw2 hw3
      have hst : ∀ e : BitVec 32, d4.err = e → e ≠ 0#32 → U S = 3 := fun e h h2 => by
        rw [HS.out]
        unfold stB
        rw [if_neg (by rw [h]; intro h3; exact h2 (U_inj (h3.trans (show (0 : Int) = U 0#32 from rfl))))]
        rfl
      have hst0 : d4.err = 0#32 → U S = 1 := fun h => by
        rw [HS.out]
        unfold stB
        rw [if_pos (by rw [h]; rfl)]
        rfl
      have key : (kB = false ∧ U E = 1 ∧ U S = 3 ∧ d4.buf = rfW ∧ m4 = m5) ∨ (kB = true ∧ v = 4 ∧ U E = 0 ∧ U S = 1 ∧ d4.buf = rfW ∧ m4 = m5) ∨ (kB = true ∧ v ≠ 4 ∧ iB = false ∧ U E = 2 ∧ U S = 3 ∧ d4.buf = rfW ∧ m4 = m5) ∨ (kB = true ∧ v ≠ 4 ∧ iB = true ∧ U E = 0 ∧ U S = 1) := by
        obtain ⟨r1, r2, r3, r4⟩ := HGR.out
        rw [HE.out]
        by_cases k1 : 1 ≤ v ∧ v ≤ 4
        · have hk : kB = true := by rw [HK.out, decide_eq_true_eq]; exact k1
          by_cases k4 : v = 4
          · obtain ⟨x1, x2, x3⟩ := r4 k4
            exact .inr (.inl ⟨hk, k4, by rw [x1]; rfl, hst0 x1, x2, x3⟩)
          · by_cases k2 : 1 ≤ m ∧ m ≤ 4 ∧ f + m ≤ 5
            · have x1 := r3 ⟨k1.1, by omega⟩ k2
              exact .inr (.inr (.inr ⟨hk, k4, by rw [HI.out, decide_eq_true_eq]; exact k2, by rw [x1]; rfl, hst0 x1⟩))
            · obtain ⟨x1, x2, x3⟩ := r2 ⟨k1.1, by omega⟩ k2
              exact .inr (.inr (.inl ⟨hk, k4, by rw [HI.out, decide_eq_false_iff_not]; exact k2, by rw [x1]; rfl, hst _ x1 (by decide), x2, x3⟩))
        · obtain ⟨x1, x2, x3⟩ := r1 k1
          exact .inl ⟨by rw [HK.out, decide_eq_false_iff_not]; exact k1, by rw [x1]; rfl, hst _ x1 (by decide), x2, x3⟩
      have HUP := Lib.hid (up10 HP7.out)
      have hup : (U d4.line == 1) = true := by rw [HGL.out]; rfl
      clear hst hst0 HGR
      rcases key with ⟨rfl, hE, hS, hq⟩ | ⟨rfl, h4, hE, hS, hq⟩ | ⟨rfl, h4, rfl, hE, hS, hq⟩ | ⟨rfl, h4, rfl, hE, hS⟩
      case inr.inr.inr =>
        have h4' : ¬ v = 4 := h4
        go_wp2_with (go_at_call 15; (with_reducible refine HUP.out.mono ?_); rintro e w8 ⟨rfl, hw⟩; obtain rfl := hw.symm)
        go_ret
        exact ⟨rfl, HU7.out⟩
      all_goals (
        have HQ := Lib.hid hq
        clear hq)
      all_goals (
        go_upto_region 28 with (go_at_call 15; (with_reducible refine HUP.out.mono ?_); rintro e w8 ⟨rfl, hw⟩; obtain rfl := hw.symm)
        clear hE hS hup HUP
        have HPQ : Hid (PdAt D q NoBlock d4 m5 w7) := Lib.hid (by rw [← HQ.out.2]; exact HP7.out)
        have HB7 := Lib.hid HU7.out
        clear HP7 HU7
        go_upto_region 29 with (fail)
        go_loopw [121] (fun i wr => ∃ (j : Nat) (d : DvM), j ≤ 16 ∧ i = .int .i64 j ∧ PdAt D q NoBlock d m5 wr ∧ Below w.heap.size w wr ∧ d.place = j % 16 ∧ d.buf = rfW) (fun i _ => 16 - (intOf i).toNat)
        case atStart => exact ⟨0, d4, Nat.zero_le _, rfl, HPQ.out, HB7.out, HGP.out, HQ.out.1⟩
        case round =>
          obtain ⟨j2, d2, hj, rfl, hp, hB, hpl, hb⟩ := hrel
          have HP2 := Lib.hid hp
          have HB2 := Lib.hid hB
          have HPL2 := Lib.hid hpl
          have HBF2 := Lib.hid hb
          clear hp hB hpl hb HPQ HB7
          by_cases hlt : j2 < 16
          · have ht : (j2 : Int) < 16 := by omega
            have ht0 : (0 : Int) ≤ j2 := by omega
            have HG : Hid (Calls Try.prog 14 #[.pointer (some ⟨q, 0, none⟩), .int .i64 5] wr fun e w' => e = .returned (.tuple #[.int .u32 ((j2 : Int) + 100), .int .i64 0]) ∧ PdAt D q NoBlock { d2 with place := dNext d2.place } m5 w' ∧ Turned (Un10 D.B NoBlock) wr w') := Lib.hid (by
              have h := HP2.out.getTo HD.out 5 (n := D.len m5) rfl (d' := { d2 with place := dNext d2.place }) (v := wd d2.buf d2.place) (e0 := 0) rfl rfl
              rw [HBF2.out, HPL2.out, Nat.mod_eq_of_lt hlt, rfW_at hlt] at h
              rw [HBF2.out, HPL2.out, Nat.mod_eq_of_lt hlt]
              exact h)
            go_wp2_with (go_at_call 14; (with_reducible refine HG.out.mono ?_); rintro e w3 ⟨rfl, p1, t1⟩; have HP3 := Lib.hid p1; have HU := Lib.hid (HUN.out t1 HB2.out); clear p1 t1)
            go_roundw
            case rel =>
              refine ⟨j2 + 1, _, by omega, by go_num, HP3.out, HU.out, ?_, HBF2.out⟩
              show dNext d2.place = _
              rw [HPL2.out]
              unfold dNext
              omega
            case measure => simp [intOf]; omega
          · have hge2 : ¬ (j2 : Int) < 16 := by omega
            have hM := HST.out HP2.out.dk
            have c0 := hM.at_.cell 0
            have hrd := hM.reads
            have hl5 : m5.l = rfL := by rw [HM5.out]
            rw [hl5] at c0 hrd
            have HRD := Lib.hid hrd
            have c0' : wr.cell? ⟨p, 0, none⟩ = some (.slice A 5 5) := c0
            clear hlt hM c0 hrd hl5
            have HSM := Lib.hid (fun W hW => same_five (W := W) (wr := wr) HRD.out hW)
            go_wp2_with (go_at_call 12; (refine (HSM.out _ rfl).mono ?_); rintro e w9 ⟨rfl, hb⟩; have HB9 := Lib.hid hb; clear hb)
            go_ret
            exact ⟨rfl, HB2.out.trans (HB9.out.mono HB2.out.size)⟩)
end Go.Proofs.Ytpkkejdjhnmjiaa
