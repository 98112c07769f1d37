/- The walk of layer sector's statement SectorActs: a device answers every register, in every order, as the document says. -/
import Derived.Test.YtpkkejdjhnmjiaaPd7
import Derived.Test.YtpkkejdjhnmjiaaLaw
import Derived.OpenShut
namespace Go.Proofs.Ytpkkejdjhnmjiaa
set_option linter.unusedSimpArgs false
open Go.RowKit Bm

set_option maxRecDepth 100000 in
set_option maxHeartbeats 4000000 in
theorem sectorActs_walk (a0 : Int) (b0 : (Lit.int .u8 a0).wf = true) (A : Option Addr) (cap : Nat) (xs : List Act10) (bo : ∀ a ∈ xs, Act10.Ok a) (w : World) (r : act10K.Reads w A xs.length cap xs) :
    Calls Try.prog 3 #[.int .u8 a0, .slice A xs.length cap] w fun e w' => e = .returned (.bool true) ∧ Below w.heap.size w w' := by
  have c0 := (bounds_u8 b0).1
  have c1 := (bounds_u8 b0).2
  obtain ⟨i0, hin, hz0, hz1, hz2⟩ := info_parts v4_infoA
  have hle := r.le
  have hmx := r.max
  unfold maxLen at hmx
  have HR := Lib.hid r
  have HBO := Lib.hid bo
  obtain ⟨n, hn⟩ : ∃ n, n = xs.length := ⟨_, rfl⟩
  rw [← hn] at HR hle ⊢
  have hnb : (n : Int) ≤ 9223372036854775807 := by omega
  have hn0 : (0 : Int) ≤ n := by omega
  clear b0 bo r hn hle hmx
  go_enter Try.func3, Try.ntmps3
  go_upto_region 3 with (go_at_call 9; (refine (alive10_any w).mono ?_); rintro e wa ⟨rfl, hBa⟩; have HBA := Lib.hid hBa; clear hBa)
  by_cases h100 : 100 < n
  · have hn' : (100 : Int) < (n : Int) := by omega
    go_wp2
    go_ret
    exact ⟨rfl, HBA.out⟩
  have hn' : ¬ ((100 : Int) < (n : Int)) := by omega
  obtain ⟨N, hN, hN1⟩ : ∃ N : Nat, a0 % 10 = (N : Int) ∧ N ≤ 9 := ⟨(a0 % 10).toNat, by omega, by omega⟩
  have hN0 : (0 : Int) ≤ N := by omega
  have hN9 : (N : Int) ≤ 9 := by omega
  go_wp2_with (at_make; refine halt_here ?_)
  refine Lib.hid ?_
  refine wpList_madeK v4K wa rfl _ _ rfl wa.heap.size Try.underlying25 hin hz0 hz1 hz2 (by omega) N (by rfl) (by rfl) (by omega) (Nat.le_refl _) ?_
  intro w1 h1 h2
  have HB1 := Lib.hid (HBA.out.trans (h2.mono HBA.out.size))
  have HNW := Lib.hid (fun W hW => new_mem (B := w.heap.size) (m := (⟨List.replicate N v40, 0, 0⟩ : MemM)) (w := W) (w1 := w1) (K := NoBlock) (A := some ⟨wa.heap.size, 0, none⟩) (c := N) (by rw [List.length_replicate]; exact own_base h1 HBA.out.size) (by simp; omega) (by simp) HB1.out.size (fun i e => e.elim) (fun g e e2 => e2) hW)
  rw [List.length_replicate] at HNW
  clear h1 h2 HBA
  simp only [Act.put, List.setIfInBounds_toArray, List.set_cons_zero, List.set_cons_succ]
  go_upto_region 7 with (go_at_call 10; (refine (HNW.out _ rfl).mono ?_); rintro e w2 ⟨q, rfl, p0, b0, -⟩; have P0 := Lib.hid p0; have B2 := Lib.hid (HB1.out.trans (b0.mono HB1.out.size)); clear p0 b0)
  obtain ⟨p, hp⟩ : ∃ p, p = w1.heap.size := ⟨_, rfl⟩
  rw [← hp] at P0 ⊢
  obtain ⟨A1, hA1⟩ : ∃ A1 : Option Addr, A1 = some ⟨wa.heap.size, 0, none⟩ := ⟨_, rfl⟩
  rw [← hA1] at P0
  obtain ⟨D, hDd⟩ : ∃ D, D = memD w.heap.size p A1 N := ⟨_, rfl⟩
  have HD : Hid D.Is := Lib.hid (by rw [hDd]; exact mem_is ..)
  have HFT : Hid (Faith D (fun m => m.fail = 0) (fun m => m.l)) := Lib.hid (by rw [hDd]; exact mem_faith ..)
  have HDB : Hid (D.B = w.heap.size) := Lib.hid (by rw [hDd]; rfl)
  have HRM : Hid (∀ m n, D.room m n) := Lib.hid (by rw [hDd]; exact fun _ _ => trivial)
  have HST : Hid (∀ {K : Nat → Prop} {m : MemM} {W : World}, D.st K m W → MemAt w.heap.size p A1 N m W) := Lib.hid (by rw [hDd]; exact fun h => h.1)
  have HDL : Hid (∀ m, D.len m = m.l.length) := Lib.hid (by rw [hDd]; exact fun _ => rfl)
  rw [← hDd] at P0
  clear hDd HNW hA1 hp HB1
  go_wp2_with (at_make; refine halt_here ?_)
  refine Lib.hid ?_
  refine wpList_madeK v4K w2 rfl _ _ rfl w2.heap.size Try.underlying25 hin hz0 hz1 hz2 (by omega) N (by rw [← hN]; rfl) (by rw [← hN]; rfl) (by omega) (Nat.le_refl _) ?_
  intro w3 h1 h2
  have HO3 := Lib.hid h1
  have HB3 := Lib.hid h2
  have HLT3 : Hid (w2.heap.size < w3.heap.size) := Lib.hid (own_hi10 h1 rfl)
  clear h1 h2
  simp only [Act.put, List.setIfInBounds_toArray, List.set_cons_zero, List.set_cons_succ]
  have HP3 : Hid (PdAt D q (Just w2.heap.size) pd0 ⟨List.replicate N v40, 0, 0⟩ w3) := Lib.hid (P0.out.move HD.out (S := NoBlock) (fun _ e => e.elim) (Turned.of_below HB3.out (Nat.le_refl _) _) (fun i e => by rw [show i = w2.heap.size from e]; exact ⟨.inr (Nat.le_refl _), HLT3.out⟩))
  have HRUN := Lib.hid (run10_any HD.out HFT.out HP3.out rfl N n (by rw [HDL.out]; exact List.length_replicate) (HRM.out _ _) (some ⟨w2.heap.size, 0, none⟩) N (by
      obtain ⟨A', c', e, hr, _⟩ := Kd.Reads.of_own (K := v4K) HO3.out List.length_replicate.symm
      cases e
      exact hr) (fun g off e => by cases e; rfl) A cap xs (HR.out.kept (B2.out.trans (HB3.out.mono B2.out.size))) HBO.out (fun h0 g off e => by
      obtain ⟨g', off', e', hg', _⟩ := HR.out.cell h0
      rw [e] at e'
      cases e'
      rw [HDB.out]
      exact hg'))
  have hz34 := dv_zero
  go_upto_region 10 with (first
    | (go_at_call 11; (refine HRUN.out.mono ?_); rintro e w4 ⟨A4, c4, d4, m4, rfl, p4, i4, r4, -, t4⟩; have HP4 := Lib.hid p4; have HR4 := Lib.hid r4; have HT4 := Lib.hid t4; have HOK4 := Lib.hid (doc_ok HFT.out HD.out p4); clear p4 i4 r4 t4)
    | (refine wpList_stm (pre := []) (post := []) (xs := dvZ) (ys := dvC (.slice A4 N c4) (docOf (fun m : MemM => m.l) d4 m4)) _ _ rfl rfl rfl rfl dv_size dvZ_len (dv_len HOK4.out) (dv_one _) rfl (by simp) (At.news w4 _ dvZ) ?_; intro w5 A5 T5; rw [List.nil_append, List.append_nil] at A5; have HA5 := Lib.hid A5; have HB5 : Hid (Below w4.heap.size w4 w5) := Lib.hid (((Below.refl _ w4).alloc (Nat.le_refl _) _).trans (T5.below (fun i hi => by unfold Just at hi; omega) (by simp))); clear A5 T5))
  have hl4 := HR4.out.len
  have hM := HST.out HP4.out.dk
  have hc0 : w4.cell? ⟨p, 0, none⟩ = some (.slice A1 N N) := by
    have := hM.at_.cell 0
    rw [hl4] at this
    exact this
  have hrd : v4K.Reads w4 A1 N N m4.l := by
    have := hM.reads
    rw [hl4] at this
    exact this
  have HC5 : Hid (w5.cell? ⟨p, 0, none⟩ = some (.slice A1 N N)) := Lib.hid ((HB5.out.cell (p := ⟨p, 0, none⟩) hM.at_.lt).trans hc0)
  have HRD := Lib.hid (hrd.kept HB5.out)
  have HRX := Lib.hid (HR4.out.kept HB5.out)
  obtain ⟨b7, hb7⟩ : ∃ b7, b7 = w4.heap.size := ⟨_, rfl⟩
  rw [← hb7] at HA5 ⊢
  have hD5 : w5.cell? ⟨b7, 21, none⟩ = some (.slice A4 N c4) := (dv_cells HA5.out HOK4.out).2.2.2.2.2
  have HD5 := Lib.hid hD5
  have HP5 : Hid (p < w5.heap.size ∧ b7 < w5.heap.size) := Lib.hid ⟨by have := hM.at_.lt; have := HB5.out.size; omega, HA5.out.lt⟩
  have HW5 : Hid (Below w.heap.size w w5) := Lib.hid (by
    have h1 := B2.out.trans (HB3.out.mono B2.out.size)
    have h2 := h1.trans (un_below (by rw [← HDB.out]; exact HT4.out) h1.size)
    exact h2.trans (HB5.out.mono h2.size))
  clear hl4 hM hc0 hrd hD5 hb7
  have SD : Below w5.heap.size w5 w5.drew := (Below.refl _ _).drew
  refine wp_region_held_drew (S := fun W => Below w5.heap.size w5 W) (by kernel_rfl) SD ?_
  intro S0
  replace S0 : Below w5.heap.size w5 w5.drew := SD
  refine aT 0 (.bool true) rfl ?_; simp only [see1, see2, see3, Act.put, see4, see5, see6]
  refine aT 1 (.bool true) rfl ?_; simp only [see1, see2, see3, Act.put, see4, see5, see6]
  refine aT 2 (.pointer (some ⟨p, 0, none⟩)) rfl ?_; simp only [see1, see2, see3, Act.put, see4, see5, see6]
  refine aT 3 (.pointer (some ⟨p, 0, none⟩)) rfl ?_; simp only [see1, see2, see3, Act.put, see4, see5, see6]
  refine aT 4 (.pointer (some ⟨p, 0, none⟩)) rfl ?_; simp only [see1, see2, see3, Act.put, see4, see5, see6]
  refine aT 5 (.slice A1 N N) rfl ?_ (h2 := fun W hS => by have c9 := (hS.cell (p := ⟨p, 0, none⟩) HP5.out.1).trans HC5.out; go_simp; done); simp only [see1, see2, see3, Act.put, see4, see5, see6]
  refine aT 6 (.pointer (some ⟨b7, 21, none⟩)) rfl ?_; simp only [see1, see2, see3, Act.put, see4, see5, see6]
  refine aT 7 (.slice A4 N c4) rfl ?_ (h2 := fun W hS => by have c9 := (hS.cell (p := ⟨b7, 21, none⟩) HP5.out.2).trans HD5.out; go_simp; done); simp only [see1, see2, see3, Act.put, see4, see5, see6]
  refine wpAnyH_all (rs := [8]) (by kernel_rfl) (by simp) ?_
  intro i8 hi8
  obtain rfl : i8 = 8 := by simpa using hi8
  refine op_goes rfl (by rfl) ?_
  go_simp
  refine (rsame10_any A1 A4 N N N c4 m4.l m4.l _ (HRD.out.kept S0) (HRX.out.kept S0) (by omega) (by omega)).mono ?_
  rintro e w6 ⟨rfl, hb⟩
  have S1 := S0.trans (hb.mono S0.size)
  rw [decide_eq_true rfl]
  dsimp only
  refine ⟨S1, ?_⟩
  refine aT 9 (.bool true) rfl ?_; simp only [see1, see2, see3, Act.put, see4, see5, see6]
  refine aT 10 (.bool true) rfl ?_; simp only [see1, see2, see3, Act.put, see4, see5, see6]
  refine wpAnyH_done (by kernel_rfl) ?_ _
  go_wp2
  go_ret
  exact ⟨rfl, HW5.out.trans (S1.mono HW5.out.size)⟩
end Go.Proofs.Ytpkkejdjhnmjiaa
