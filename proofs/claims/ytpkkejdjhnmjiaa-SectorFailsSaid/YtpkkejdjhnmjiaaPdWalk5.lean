/- The walk of layer sector's statement SectorFails: an error of the disk is told by its number; sectors ahead of it are done, none behind it. -/
import Derived.Test.YtpkkejdjhnmjiaaPd7
import Derived.Test.YtpkkejdjhnmjiaaLaw
import Derived.OpenShut
namespace Go.Proofs.Ytpkkejdjhnmjiaa
set_option linter.unusedSimpArgs false
open Go.RowKit Bm

/-- A row that is made, as one operation. -/
theorem wp_madeK {α : Type} (K : Kd α) {P : Program} (w : World) {o : Oper} {a : Go.Act} {next : Go.Act → World → Prop} {Q : Exit → Go.Act → World → Prop} {T SL : TypeId} {i0 : TypeInfo} {bytes : Nat}
    (l c : Operand) (hop : o.op = Op.makeSlice SL l c) (base : Nat) (hS : P.underlying SL = some (.slice T)) (hin : P.info? T = some i0) (hz0 : i0.zero = some (.agg (K.c K.d).toArray)) (hz1 : i0.size = K.k) (hz2 : i0.bytes = bytes) (hby : bytes ≤ 10000)
    (n : Nat) (hl : a.eval l = .int .i64 n) (hc : a.eval c = .int .i64 n) (hn : n ≤ 1000000) (hb : base ≤ w.heap.size)
    (hK : ∀ w', w'.ownsRow base T K.k (.slice (some ⟨w.heap.size, 0, none⟩) n n) n (K.all (List.replicate n K.d)) → Below base w w' → next (a.put o.dst (.slice (some ⟨w.heap.size, 0, none⟩) n n)) w') : o.wp P a w next Q := by
  have hbb : bytes * n ≤ 10000 * 1000000 := Nat.mul_le_mul hby hn
  obtain ⟨w', hrun, h1, h2⟩ := run_make_full (P := P) (w := w) base SL T i0 _ K.k hS hin hz0 hz1 .i64 .i64 n (by rw [hz2]; omega) (by unfold maxLen; omega) hb
  unfold Oper.wp
  simp [execOp, hop, hl, hc, hrun, Result.andThen]
  refine hK w' ?_ ((Below.refl base w).grown h2 hb (fun k e => by cases e))
  rw [← K.made]
  exact h1
/-- What the statement writes into the buffer. -/
def flW (v : BitVec 32) : List (BitVec 32) := (List.range 16).map fun i => v ||| BitVec.ofNat 32 i ||| 1#32
theorem flW_len (v : BitVec 32) : (flW v).length = 16 := rfl
theorem flW_at (v : BitVec 32) {i : Nat} (h : i < 16) : wd (flW v) i = v ||| BitVec.ofNat 32 i ||| 1#32 := by
  unfold flW wd
  rw [List.getD_eq_getElem?_getD, List.getElem?_map, List.getElem?_range h]
  rfl
theorem fl_ne (v : BitVec 32) {i : Nat} (h : i < 4) : quad (flW v) i ≠ v40 := by
  intro e
  have h0 : wd (flW v) (4 * i) = 0#32 := congrArg V4.a e
  rw [flW_at v (by omega)] at h0
  have h1 := congrArg (fun x : BitVec 32 => x.getLsbD 0) h0
  simp at h1
def flE : List Int := [9, 4, 5, 6]
def flX : List Int := [3, 4, 5, 5]
theorem fl_fB {r : Nat} (h : r < 4) : U (fB (nm flE r)) = nm flX r := by
  have : ∀ r : Fin 4, U (fB (nm flE r.val)) = nm flX r.val := by decide +kernel
  exact this ⟨r, h⟩
set_option maxRecDepth 100000 in
/-- The command on a disk that fails. -/
theorem fl_cmd (B p : Nat) (A : Option Addr) (c : Nat) (ws : List (BitVec 32)) (hw : ws.length = 16) (k : Nat) (hk : k < 6) (r : Nat) (hr : r < 4) (err line : BitVec 32) (pl : Nat) (dk : List V4) :
    ∃ d' m', pSet (memD B p A c) 0 2#32 ⟨0#32, 4#32, err, line, ws, pl, dk⟩ ⟨List.replicate 6 v40, nm flE r, k⟩ = (d', m', 0) ∧ d'.err = (if 4 ≤ k then 0#32 else fB (nm flE r)) ∧ m'.l.length = 6 ∧ ∀ i, i < 6 → vN m'.l i = if i < min k 4 then quad ws i else v40 := by
  obtain ⟨b0, b1, b2, b3, b4, b5, b6, b7, b8, b9, b10, b11, b12, b13, b14, b15, rfl⟩ := list_16 ws hw
  obtain rfl | rfl | rfl | rfl | rfl | rfl : k = 0 ∨ k = 1 ∨ k = 2 ∨ k = 3 ∨ k = 4 ∨ k = 5 := by omega
  all_goals (
    obtain rfl | rfl | rfl | rfl : r = 0 ∨ r = 1 ∨ r = 2 ∨ r = 3 := by omega
    all_goals (
      refine ⟨_, _, rfl, by kernel_rfl, by kernel_rfl, fun i hi => ?_⟩
      obtain rfl | rfl | rfl | rfl | rfl | rfl : i = 0 ∨ i = 1 ∨ i = 2 ∨ i = 3 ∨ i = 4 ∨ i = 5 := by omega
      all_goals kernel_rfl))
set_option maxRecDepth 100000 in
set_option maxHeartbeats 8000000 in
theorem sectorFails_walk (a0 : Int) (b0 : (Lit.int .u8 a0).wf = true) (a1 : Int) (b1 : (Lit.int .u8 a1).wf = true) (a2 : Int) (b2 : (Lit.int .u32 a2).wf = true) (w : World) :
    Calls Try.prog 5 #[.int .u8 a0, .int .u8 a1, .int .u32 a2] w fun e w' => e = .returned (.bool true) ∧ Below w.heap.size w w' := by
  have p0 := (bounds_u8 b0).1
  have p1 := (bounds_u8 b0).2
  have q0 := (bounds_u8 b1).1
  have q1 := (bounds_u8 b1).2
  have bv := bounds_u32 b2
  obtain ⟨v, rfl⟩ := U_of bv.1 (by omega)
  obtain ⟨i0, hin, hz0, hz1, hz2⟩ := info_parts v4_infoA
  obtain ⟨k, hk, hk6⟩ : ∃ k : Nat, a0 % 6 = (k : Int) ∧ k < 6 := ⟨(a0 % 6).toNat, by omega, by omega⟩
  obtain ⟨r, hr, hr4⟩ : ∃ r : Nat, a1 % 4 = (r : Int) ∧ r < 4 := ⟨(a1 % 4).toNat, by omega, by omega⟩
  have kI0 : (0 : Int) ≤ k := by omega
  have kI1 : (k : Int) < 6 := by omega
  have rI0 : (0 : Int) ≤ r := by omega
  have rI1 : (r : Int) < 4 := by omega
  have HK6 := Lib.hid hk6
  have HR4 := Lib.hid hr4
  clear b0 b1 b2 bv hk6 hr4
  go_enter Try.func5, Try.ntmps5
  go_upto_region 5 with (go_at_call 9; (refine (alive10_any w).mono ?_); rintro e wa ⟨rfl, hBa⟩; have HBA := Lib.hid hBa; clear hBa)
  obtain ⟨W1, hW1⟩ : ∃ W1, W1 = wa.alloc (.cells (Is flE).toArray 26) := ⟨_, rfl⟩
  change Code.wp _ _ _ _ (wa.alloc (.cells (Is flE).toArray 26))
  rw [← hW1]
  have hB1 : Below wa.heap.size wa W1 := by rw [hW1]; exact (Below.refl _ wa).alloc (Nat.le_refl _) _
  have hA1 : At W1 wa.heap.size 26 (Is flE) := by rw [hW1]; exact At.news wa _ _
  have cE : W1.cell? ⟨wa.heap.size, r, none⟩ = some (.int .i64 (nm flE r)) := by
    rw [hA1.cell]
    exact Is_get flE r HR4.out
  obtain ⟨b7, hb7⟩ : ∃ b7, b7 = wa.heap.size := ⟨_, rfl⟩
  rw [← hb7] at cE ⊢
  have HLT : Hid (b7 < W1.heap.size) := Lib.hid (by rw [hb7]; exact hA1.lt)
  have HB1 : Hid (Below w.heap.size w W1) := Lib.hid (HBA.out.trans (hB1.mono HBA.out.size))
  have CE := Lib.hid cE
  clear hW1 hB1 hA1 cE hb7 HBA
  have ht : a1.tmod 4 = (r : Int) := by rw [Int.tmod_eq_emod_of_nonneg q0]; exact hr
  have SD : Below W1.heap.size W1 W1.drew := (Below.refl _ _).drew
  refine wp_region_held_drew (S := fun W => Below W1.heap.size W1 W) (by kernel_rfl) SD ?_
  intro S0
  replace S0 : Below W1.heap.size W1 W1.drew := SD
  refine aT 1 (.slice (some ⟨b7, 0, none⟩) 4 4) rfl ?_; simp only [see1, see2, see3, Act.put, see4, see5, see6]
  refine aT 2 (.int .u8 a1) rfl ?_; simp only [see1, see2, see3, Act.put, see4, see5, see6]
  refine aT 3 (.int .u8 (r : Int)) rfl ?_; simp only [see1, see2, see3, Act.put, see4, see5, see6]
  refine aT 4 (.pointer (some ⟨b7, r, none⟩)) rfl ?_; simp only [see1, see2, see3, Act.put, see4, see5, see6]
  refine aT 5 (.int .i64 (nm flE r)) rfl ?_ (h2 := fun W hS => by have c9 := (hS.cell (p := ⟨b7, r, none⟩) HLT.out).trans CE.out; go_simp; done); simp only [see1, see2, see3, Act.put, see4, see5, see6]
  refine aT 6 (.int .i64 (k : Int)) rfl ?_; simp only [see1, see2, see3, Act.put, see4, see5, see6]
  refine wpAnyH_all (rs := [0]) (by kernel_rfl) (by simp) ?_
  intro i0' hi0
  obtain rfl : i0' = 0 := by simpa using hi0
  refine op_goes rfl (by rfl) ?_
  refine wp_madeK v4K W1.drew _ _ rfl W1.drew.heap.size Try.underlying25 hin hz0 hz1 hz2 (by omega) 6 (by rfl) (by rfl) (by omega) (Nat.le_refl _) ?_
  intro w1 h1 h2
  have S1 : Below W1.heap.size W1 w1 := S0.trans (h2.mono S0.size)
  have HO1 := Lib.hid h1
  clear h1 h2
  refine ⟨S1, ?_⟩
  simp only [see1, see2, see3, Act.put, see4, see5, see6]
  obtain ⟨g1, hg1⟩ : ∃ g1, g1 = W1.drew.heap.size := ⟨_, rfl⟩
  rw [← hg1] at HO1 ⊢
  have HG1 : Hid (g1 = W1.heap.size) := Lib.hid hg1
  clear hg1
  refine aT 7 (.agg #[.slice (some ⟨g1, 0, none⟩) 6 6, .int .i64 (nm flE r), .int .i64 (k : Int)]) rfl ?_; simp only [see1, see2, see3, Act.put, see4, see5, see6]
  refine wpAnyH_all (rs := [8]) (by kernel_rfl) (by simp) ?_
  intro i8 hi8
  obtain rfl : i8 = 8 := by simpa using hi8
  refine op_goes rfl (by rfl) ?_
  go_simp
  have HB2 := Lib.hid (HB1.out.trans (S1.mono HB1.out.size))
  have HNW := Lib.hid (fun W hW => new_mem (B := w.heap.size) (m := (⟨List.replicate 6 v40, nm flE r, k⟩ : MemM)) (w := W) (w1 := w1) (K := NoBlock) (A := some ⟨g1, 0, none⟩) (c := 6) (own_base HO1.out (by rw [HG1.out]; exact HB1.out.size)) (by show (List.replicate 6 v40).length ≤ 1000; decide) (by dsimp only; omega) HB2.out.size (fun i e => e.elim) (fun g e e2 => e2) hW)
  have S2 := S1.alloc S1.size (.cells #[.slice (some ⟨g1, 0, none⟩) 6 6, .int .i64 (nm flE r), .int .i64 (k : Int)] 28)
  refine ⟨S2, ?_⟩
  refine aT 9 (.pointer (some ⟨w1.heap.size, 0, none⟩)) rfl ?_; simp only [see1, see2, see3, Act.put, see4, see5, see6]
  refine wpAnyH_done (by kernel_rfl) ?_ _
  clear ht S0 S1 S2 SD
  go_upto_region 7 with (go_at_call 10; (refine (HNW.out _ rfl).mono ?_); rintro e w2 ⟨q, rfl, p0, b0, -⟩; have P0 := Lib.hid p0; have B2 := Lib.hid (HB2.out.trans (b0.mono HB2.out.size)); clear p0 b0)
  obtain ⟨p, hp⟩ : ∃ p, p = w1.heap.size := ⟨_, rfl⟩
  obtain ⟨A, hA⟩ : ∃ A : Option Addr, A = some ⟨g1, 0, none⟩ := ⟨_, rfl⟩
  rw [← hp, ← hA] at P0
  rw [← hp]
  obtain ⟨D, hDd⟩ : ∃ D, D = memD w.heap.size p A 6 := ⟨_, rfl⟩
  have HD : Hid D.Is := Lib.hid (by rw [hDd]; exact mem_is ..)
  have HDB : Hid (D.B = w.heap.size) := Lib.hid (by rw [hDd]; rfl)
  have HRM : Hid (∀ m n, D.room m n) := Lib.hid (by rw [hDd]; exact fun _ _ => trivial)
  have HST : Hid (∀ {K : Nat → Prop} {m : MemM} {W : World}, D.st K m W → MemAt w.heap.size p A 6 m W) := Lib.hid (by rw [hDd]; exact fun h => h.1)
  obtain ⟨m5, hm5⟩ : ∃ m : MemM, m = ⟨List.replicate 6 v40, nm flE r, k⟩ := ⟨_, rfl⟩
  have HCMD : Hid (∀ (d : DvM), d.first = 0#32 → d.many = 4#32 → d.buf = flW v → ∃ d' m', pSet D 0 2#32 d m5 = (d', m', 0) ∧ d'.err = (if 4 ≤ k then 0#32 else fB (nm flE r)) ∧ m'.l.length = 6 ∧ ∀ i, i < 6 → vN m'.l i = if i < min k 4 then quad (flW v) i else v40) := Lib.hid (by
    rintro ⟨df, dm, de, dl, db, dp, dk⟩ h1 h2 h3
    dsimp only at h1 h2 h3
    subst h1 h2 h3
    rw [hDd, hm5]
    exact fl_cmd w.heap.size p A 6 (flW v) (flW_len v) k HK6.out r HR4.out de dl dp dk)
  rw [← hm5, ← hDd] at P0
  clear hp hA hDd HNW hm5 HO1 HG1
  have HUN : Hid (∀ {W W' : World}, Turned (Un10 D.B NoBlock) W W' → Below w.heap.size w W → Below w.heap.size w W') := Lib.hid (fun t hB => by rw [HDB.out] at t; exact hB.trans (un_below t hB.size))
  go_upto_region 10 with (fail)
  go_loopw [37] (fun i wr => ∃ (j : Nat) (d : DvM), j ≤ 16 ∧ i = .int .i64 j ∧ PdAt D q NoBlock d m5 wr ∧ Below w.heap.size w wr ∧ d.first = 0#32 ∧ d.place = j % 16 ∧ ∀ i, i < j → wd d.buf i = wd (flW v) i) (fun i _ => 16 - (intOf i).toNat)
  case atStart => exact ⟨0, pd0, Nat.zero_le _, rfl, P0.out, B2.out, rfl, rfl, fun i hi => absurd hi (by omega)⟩
  case round =>
    obtain ⟨j, d, hj, rfl, hp, hB, hfi, hpl, hw⟩ := hrel
    have HP := Lib.hid hp
    have HB := Lib.hid hB
    have HFI := Lib.hid hfi
    have HPL := Lib.hid hpl
    have HW := Lib.hid hw
    clear hp hB hfi hpl hw P0 B2
    by_cases hlt : j < 16
    · have ht : (j : Int) < 16 := by omega
      have ht0 : (0 : Int) ≤ j := by omega
      have hor : bits .or .u32 (bits .or .u32 (U v) (j : Int)) 1 = U (wd (flW v) j) := by
        rw [flW_at v hlt, ← U_or, ← U_or, U_ofNat j (by omega)]
        rfl
      have HS := Lib.hid (HP.out.setTo HD.out (HRM.out m5 4) 5 (wd (flW v) j) (d' := { d with buf := d.buf.set d.place (wd (flW v) j), place := dNext d.place }) (a' := m5) (e0 := 0) rfl rfl)
      go_wp2_with (go_at_call 13; (with_reducible refine HS.out.mono ?_); rintro e w3 ⟨rfl, p1, t1⟩; have HP1 := Lib.hid p1; have HU := Lib.hid (HUN.out t1 HB.out); clear p1 t1)
      go_roundw
      case rel =>
        refine ⟨j + 1, _, by omega, by go_num, HP1.out, HU.out, HFI.out, ?_, fun i hi => ?_⟩
        · show dNext d.place = _
          rw [HPL.out]
          unfold dNext
          omega
        · have hpj : d.place = j := by rw [HPL.out]; omega
          show wd (d.buf.set d.place (wd (flW v) j)) i = wd (flW v) i
          rw [hpj]
          by_cases he : i = j
          · subst he
            unfold wd
            rw [List.getD_eq_getElem?_getD, List.getElem?_set_self (by rw [HP.out.b]; exact hlt)]
            rfl
          · have := HW.out i (by omega)
            unfold wd at this ⊢
            rw [List.getD_eq_getElem?_getD, List.getElem?_set_ne (by omega), ← List.getD_eq_getElem?_getD]
            exact this
      case measure => simp [intOf]; omega
    · have HJ16 : Hid (j = 16) := Lib.hid (by omega)
      have hge : ¬ (j : Int) < 16 := by omega
      have hbuf : d.buf = flW v := List.ext_getElem (by rw [HP.out.b, flW_len]) (fun i h1 h2 => by
        have := HW.out i (by rw [HJ16.out]; rw [flW_len] at h2; exact h2)
        unfold wd at this
        rw [List.getD_eq_getElem?_getD, List.getD_eq_getElem?_getD, List.getElem?_eq_getElem h1, List.getElem?_eq_getElem h2] at this
        exact this)
      have HBF := Lib.hid hbuf
      clear hbuf hlt hj
      have HS1 := Lib.hid (HP.out.setTo HD.out (HRM.out m5 4) 2 4#32 (d' := { d with many := 4#32 }) (a' := m5) (e0 := 0) (V := 4) rfl rfl)
      rename World => wr1
      go_upto_region 15 with (go_at_call 13; (with_reducible refine HS1.out.mono ?_); rintro e w3 ⟨rfl, p1, t1⟩; have HP3 := Lib.hid p1; have HU3 := Lib.hid (HUN.out t1 HB.out); clear p1 t1)
      obtain ⟨d4, m4, hset, herr, hlen, hrow⟩ := HCMD.out { d with many := 4#32 } HFI.out rfl HBF.out
      have HS2 := Lib.hid (HP3.out.setTo HD.out (HRM.out m5 4) 0 2#32 (V := 2) hset rfl)
      have HERR := Lib.hid herr
      have HLEN := Lib.hid hlen
      have HROW := Lib.hid hrow
      clear hset herr hlen hrow
      go_upto_region 16 with (go_at_call 13; (with_reducible refine HS2.out.mono ?_); rintro e w4 ⟨rfl, p1, t1⟩; have HP4 := Lib.hid p1; have HU4 := Lib.hid (HUN.out t1 HU3.out); clear p1 t1)
      obtain ⟨E, hE⟩ : ∃ E, E = d4.err := ⟨_, rfl⟩
      have HG1 := Lib.hid (HP4.out.getTo HD.out 4 (n := D.len m4) rfl (d' := d4) (v := E) (e0 := 0) (by rw [hE]; rfl) rfl)
      have HE := Lib.hid hE
      clear hE
      go_upto_region 17 with (go_at_call 14; (with_reducible refine HG1.out.mono ?_); rintro e w5 ⟨rfl, p1, t1⟩; have HP5 := Lib.hid p1; have HU5 := Lib.hid (HUN.out t1 HU4.out); clear p1 t1)
      clear HS1 HS2 HG1 HP HP3 HP4 HU3 HU4 HB HW HPL
      have hcx : ∀ W, W = w5.alloc (.cells #[.int .u32 3, .int .u32 4, .int .u32 5, .int .u32 5] 31) → W.cell? ⟨w5.heap.size, r, none⟩ = some (.int .u32 (nm flX r)) := fun W hW => by
        subst hW
        have h : At (w5.alloc (.cells #[.int .u32 3, .int .u32 4, .int .u32 5, .int .u32 5] 31)) w5.heap.size 31 [.int .u32 3, .int .u32 4, .int .u32 5, .int .u32 5] := At.news w5 _ _
        rw [h.cell]
        have hr4 := HR4.out
        obtain rfl | rfl | rfl | rfl : r = 0 ∨ r = 1 ∨ r = 2 ∨ r = 3 := by omega
        all_goals rfl
      have HB6 : Hid (∀ W, W = w5.alloc (.cells #[.int .u32 3, .int .u32 4, .int .u32 5, .int .u32 5] 31) → PdAt D q NoBlock d4 m4 W ∧ Below w.heap.size w W) := Lib.hid fun W hW => by
        subst hW
        have hb : Below w5.heap.size w5 (w5.alloc (.cells #[.int .u32 3, .int .u32 4, .int .u32 5, .int .u32 5] 31)) := (Below.refl _ w5).alloc (Nat.le_refl _) _
        exact ⟨HP5.out.below HD.out hb, HU5.out.trans (hb.mono HU5.out.size)⟩
      have hcx1 := hcx _ rfl
      clear hcx
      go_upto_region 18 with (fail)
      obtain ⟨W6, hW6⟩ : ∃ W6, W6 = w5.alloc (.cells #[.int .u32 3, .int .u32 4, .int .u32 5, .int .u32 5] 31) := ⟨_, rfl⟩
      obtain ⟨hp6, hb6⟩ := HB6.out _ hW6
      rw [← hW6]
      have hM := HST.out hp6.dk
      have c0 : W6.cell? ⟨p, 0, none⟩ = some (.slice A 6 6) := by
        have := hM.at_.cell 0
        rw [HLEN.out] at this
        exact this
      have hrd : v4K.Reads W6 A 6 6 m4.l := by
        have := hM.reads
        rw [HLEN.out] at this
        exact this
      have HRD := Lib.hid hrd
      have HBW := Lib.hid hb6
      clear hW6 hp6 hb6 hM hrd HB6 HP5 HU5 hcx1
      have key : ((4 ≤ k ∧ U E = 0) ∨ (k < 4 ∧ U E = nm flX r)) := by
        rw [HE.out, HERR.out]
        by_cases h4 : 4 ≤ k
        · left
          rw [if_pos h4]
          exact ⟨h4, rfl⟩
        · right
          rw [if_neg h4]
          exact ⟨by omega, fl_fB HR4.out⟩
      rcases key with ⟨h4, hE⟩ | ⟨h4, hE⟩
      · have h4' : (4 : Int) ≤ k := by omega
        have hmin : (if (4 : Int) < (k : Int) then (4 : Int) else (k : Int)) = 4 := by split <;> omega
        have HK4 := Lib.hid h4
        have HEE := Lib.hid hE
        clear h4 hE hr hk
        have hz4 := v4_zero
        go_upto_region 21 with (fail)
        go_loopw [69] (fun i wr => ∃ j : Nat, j ≤ 6 ∧ i = .int .i64 j ∧ Below W6.heap.size W6 wr) (fun i _ => 6 - (intOf i).toNat)
        case atStart => exact ⟨0, Nat.zero_le _, rfl, Below.refl _ _⟩
        case round =>
          obtain ⟨j2, hj, rfl, hB⟩ := hrel
          have HB2 := Lib.hid hB
          clear hB
          by_cases hlt : j2 < 6
          · have ht : (j2 : Int) < 6 := by omega
            have ht0 : (0 : Int) ≤ j2 := by omega
            obtain ⟨g, off, eA, hg, hrg⟩ := (HRD.out.kept HB2.out).at_ hlt
            subst eA
            obtain ⟨x, hx⟩ : ∃ x, x = v4K.nth m4.l j2 := ⟨_, rfl⟩
            rw [← hx] at hrg
            have hxv : x = if j2 < min k 4 then quad (flW v) j2 else v40 := hx.trans (HROW.out j2 hlt)
            have HRG : Hid (wr.rangeAt g (off + j2 * 4) (v4C x)) := Lib.hid hrg
            have hxx : (j2 < min k 4 ∧ x ≠ v40) ∨ (¬ j2 < min k 4 ∧ x = v40) := by
              by_cases hm : j2 < min k 4
              · rw [if_pos hm] at hxv
                exact .inl ⟨hm, by rw [hxv]; exact fl_ne v (by omega)⟩
              · rw [if_neg hm] at hxv
                exact .inr ⟨hm, hxv⟩
            clear hx hrg hxv
            rcases hxx with ⟨hm, hne⟩ | ⟨hm, hne⟩
            · have q9 : ∀ W : World, (Op.equalIn 10000 39 (.agg (v4C x).toArray) (.agg (v4C v40).toArray)).run Try.prog W = .ok false W := fun W => by
                have := run_eqv x v40 W
                rw [decide_eq_false hne] at this
                exact this
              have hm' : (j2 : Int) < 4 := by omega
              clear hm hne
              go_wp2_with (first
                | (refine wpList_ldr (xs := v4C x) _ rfl rfl rfl Try.underlying39 rfl v4_size (v4_len _) HRG.out ?_)
                | (refine wpList_stm (pre := []) (post := []) (xs := v4C v40) (ys := v4C x) _ _ rfl rfl rfl rfl v4_size (v4_len _) (v4_len _) (v4_one _) rfl (by simp) (At.news wr _ (v4C v40)) ?_; intro w9 A9 T9; rw [List.nil_append, List.append_nil] at A9; have HA9 := Lib.hid A9; have HB9 : Hid (Below wr.heap.size wr w9) := Lib.hid (((Below.refl _ wr).alloc (Nat.le_refl _) _).trans (T9.below (fun i hi => by unfold Just at hi; omega) (by simp))); clear A9 T9)
                | (refine wpList_ldr (xs := v4C x) _ rfl rfl rfl Try.underlying39 rfl v4_size (v4_len _) HA9.out.rng0 ?_))
              go_roundw
              case rel => exact ⟨j2 + 1, by omega, by go_num, HB2.out.trans (HB9.out.mono HB2.out.size)⟩
              case measure => simp [intOf]; omega
            · have q9 : ∀ W : World, (Op.equalIn 10000 39 (.agg (v4C x).toArray) (.agg (v4C v40).toArray)).run Try.prog W = .ok true W := fun W => by
                have := run_eqv x v40 W
                rw [decide_eq_true hne] at this
                exact this
              have hm' : ¬ (j2 : Int) < 4 := by omega
              clear hm hne
              go_wp2_with (first
                | (refine wpList_ldr (xs := v4C x) _ rfl rfl rfl Try.underlying39 rfl v4_size (v4_len _) HRG.out ?_)
                | (refine wpList_stm (pre := []) (post := []) (xs := v4C v40) (ys := v4C x) _ _ rfl rfl rfl rfl v4_size (v4_len _) (v4_len _) (v4_one _) rfl (by simp) (At.news wr _ (v4C v40)) ?_; intro w9 A9 T9; rw [List.nil_append, List.append_nil] at A9; have HA9 := Lib.hid A9; have HB9 : Hid (Below wr.heap.size wr w9) := Lib.hid (((Below.refl _ wr).alloc (Nat.le_refl _) _).trans (T9.below (fun i hi => by unfold Just at hi; omega) (by simp))); clear A9 T9)
                | (refine wpList_ldr (xs := v4C x) _ rfl rfl rfl Try.underlying39 rfl v4_size (v4_len _) HA9.out.rng0 ?_))
              go_roundw
              case rel => exact ⟨j2 + 1, by omega, by go_num, HB2.out.trans (HB9.out.mono HB2.out.size)⟩
              case measure => simp [intOf]; omega
          · have hge2 : ¬ (j2 : Int) < 6 := by omega
            have hE := HEE.out
            clear hlt
            go_wp2
            go_ret
            exact ⟨rfl, HBW.out.trans (HB2.out.mono HBW.out.size)⟩
      · have h4' : (k : Int) < 4 := by omega
        have HK4 := Lib.hid h4
        have HEE := Lib.hid hE
        clear h4 hE hr hk
        have hz4 := v4_zero
        go_upto_region 21 with (fail)
        go_loopw [69] (fun i wr => ∃ j : Nat, j ≤ 6 ∧ i = .int .i64 j ∧ Below W6.heap.size W6 wr) (fun i _ => 6 - (intOf i).toNat)
        case atStart => exact ⟨0, Nat.zero_le _, rfl, Below.refl _ _⟩
        case round =>
          obtain ⟨j2, hj, rfl, hB⟩ := hrel
          have HB2 := Lib.hid hB
          clear hB
          by_cases hlt : j2 < 6
          · have ht : (j2 : Int) < 6 := by omega
            have ht0 : (0 : Int) ≤ j2 := by omega
            obtain ⟨g, off, eA, hg, hrg⟩ := (HRD.out.kept HB2.out).at_ hlt
            subst eA
            obtain ⟨x, hx⟩ : ∃ x, x = v4K.nth m4.l j2 := ⟨_, rfl⟩
            rw [← hx] at hrg
            have hxv : x = if j2 < min k 4 then quad (flW v) j2 else v40 := hx.trans (HROW.out j2 hlt)
            have HRG : Hid (wr.rangeAt g (off + j2 * 4) (v4C x)) := Lib.hid hrg
            have hxx : (j2 < min k 4 ∧ x ≠ v40) ∨ (¬ j2 < min k 4 ∧ x = v40) := by
              by_cases hm : j2 < min k 4
              · rw [if_pos hm] at hxv
                exact .inl ⟨hm, by rw [hxv]; exact fl_ne v (by omega)⟩
              · rw [if_neg hm] at hxv
                exact .inr ⟨hm, hxv⟩
            clear hx hrg hxv
            rcases hxx with ⟨hm, hne⟩ | ⟨hm, hne⟩
            · have q9 : ∀ W : World, (Op.equalIn 10000 39 (.agg (v4C x).toArray) (.agg (v4C v40).toArray)).run Try.prog W = .ok false W := fun W => by
                have := run_eqv x v40 W
                rw [decide_eq_false hne] at this
                exact this
              have hm' : (j2 : Int) < k := by omega
              clear hm hne
              go_wp2_with (first
                | (refine wpList_ldr (xs := v4C x) _ rfl rfl rfl Try.underlying39 rfl v4_size (v4_len _) HRG.out ?_)
                | (refine wpList_stm (pre := []) (post := []) (xs := v4C v40) (ys := v4C x) _ _ rfl rfl rfl rfl v4_size (v4_len _) (v4_len _) (v4_one _) rfl (by simp) (At.news wr _ (v4C v40)) ?_; intro w9 A9 T9; rw [List.nil_append, List.append_nil] at A9; have HA9 := Lib.hid A9; have HB9 : Hid (Below wr.heap.size wr w9) := Lib.hid (((Below.refl _ wr).alloc (Nat.le_refl _) _).trans (T9.below (fun i hi => by unfold Just at hi; omega) (by simp))); clear A9 T9)
                | (refine wpList_ldr (xs := v4C x) _ rfl rfl rfl Try.underlying39 rfl v4_size (v4_len _) HA9.out.rng0 ?_))
              go_roundw
              case rel => exact ⟨j2 + 1, by omega, by go_num, HB2.out.trans (HB9.out.mono HB2.out.size)⟩
              case measure => simp [intOf]; omega
            · have q9 : ∀ W : World, (Op.equalIn 10000 39 (.agg (v4C x).toArray) (.agg (v4C v40).toArray)).run Try.prog W = .ok true W := fun W => by
                have := run_eqv x v40 W
                rw [decide_eq_true hne] at this
                exact this
              have hm' : ¬ (j2 : Int) < k := by omega
              clear hm hne
              go_wp2_with (first
                | (refine wpList_ldr (xs := v4C x) _ rfl rfl rfl Try.underlying39 rfl v4_size (v4_len _) HRG.out ?_)
                | (refine wpList_stm (pre := []) (post := []) (xs := v4C v40) (ys := v4C x) _ _ rfl rfl rfl rfl v4_size (v4_len _) (v4_len _) (v4_one _) rfl (by simp) (At.news wr _ (v4C v40)) ?_; intro w9 A9 T9; rw [List.nil_append, List.append_nil] at A9; have HA9 := Lib.hid A9; have HB9 : Hid (Below wr.heap.size wr w9) := Lib.hid (((Below.refl _ wr).alloc (Nat.le_refl _) _).trans (T9.below (fun i hi => by unfold Just at hi; omega) (by simp))); clear A9 T9)
                | (refine wpList_ldr (xs := v4C x) _ rfl rfl rfl Try.underlying39 rfl v4_size (v4_len _) HA9.out.rng0 ?_))
              go_roundw
              case rel => exact ⟨j2 + 1, by omega, by go_num, HB2.out.trans (HB9.out.mono HB2.out.size)⟩
              case measure => simp [intOf]; omega
          · have hge2 : ¬ (j2 : Int) < 6 := by omega
            have hE := HEE.out
            clear hlt
            go_wp2
            go_ret
            exact ⟨rfl, HBW.out.trans (HB2.out.mono HBW.out.size)⟩
end Go.Proofs.Ytpkkejdjhnmjiaa
