/- The walk of layer sector's statement SectorCopies: what is read of sectors is written to others, as it was. -/
import Derived.Test.YtpkkejdjhnmjiaaPd7
import Derived.Test.YtpkkejdjhnmjiaaLaw
import Derived.OpenShut
namespace Go.Proofs.Ytpkkejdjhnmjiaa
set_option linter.unusedSimpArgs false
open Go.RowKit Bm

theorem quad_put {b : List (BitVec 32)} (hb : b.length = 16) {j i : Nat} (hj : j < 4) (hi : i < 4) (x : V4) : quad (putW b (4 * j) x 4) i = if i = j then x else quad b i := by
  obtain ⟨b0, b1, b2, b3, b4, b5, b6, b7, b8, b9, b10, b11, b12, b13, b14, b15, rfl⟩ := list_16 b hb
  obtain rfl | rfl | rfl | rfl : j = 0 ∨ j = 1 ∨ j = 2 ∨ j = 3 := by omega
  all_goals (
    obtain rfl | rfl | rfl | rfl : i = 0 ∨ i = 1 ∨ i = 2 ∨ i = 3 := by omega
    all_goals rfl)
/-- Sectors are read into the buffer. -/
theorem turns_read (d : DvM) (hb : d.buf.length = 16) : ∀ n, n ≤ 4 → (dTurns 1 d n).disk = d.disk ∧ ∀ i, i < n → quad (dTurns 1 d n).buf i = vN d.disk (d.first.toNat + i)
  | 0, _ => ⟨rfl, fun i h => absurd h (by omega)⟩
  | n + 1, hn => by
    obtain ⟨h1, h2⟩ := turns_read d hb n (by omega)
    obtain ⟨g1, _, _, g4, _⟩ := dTurns_same 1 d n
    rw [dTurns_succ]
    refine ⟨h1, fun i hi => ?_⟩
    show quad (putW (dTurns 1 d n).buf (4 * n) (vN (dTurns 1 d n).disk ((dTurns 1 d n).first.toNat + n)) 4) i = _
    rw [quad_put (g4.trans hb) (by omega) (by omega), h1, g1]
    by_cases he : i = n
    · rw [if_pos he, he]
    · rw [if_neg he]
      exact h2 i (by omega)
/-- The buffer is written to sectors. -/
theorem turns_write (d : DvM) : ∀ n, n ≤ 4 → d.first.toNat + n ≤ d.disk.length → (dTurns 2 d n).buf = d.buf ∧ (dTurns 2 d n).err = d.err ∧ ∀ i, vN (dTurns 2 d n).disk i = if d.first.toNat ≤ i ∧ i < d.first.toNat + n then quad d.buf (i - d.first.toNat) else vN d.disk i
  | 0, _, _ => ⟨rfl, rfl, fun i => by rw [if_neg (by omega)]; rfl⟩
  | n + 1, hn, hl => by
    obtain ⟨h1, h0, h2⟩ := turns_write d n (by omega) (by omega)
    obtain ⟨g1, _, g3, _, _⟩ := dTurns_same 2 d n
    rw [dTurns_succ]
    refine ⟨h1, h0, fun i => ?_⟩
    show vN ((dTurns 2 d n).disk.set ((dTurns 2 d n).first.toNat + n) (quad (dTurns 2 d n).buf n)) i = _
    unfold vN at h2 ⊢
    rw [v4K.nth_set _ (by rw [g3, g1]; omega), h1, g1]
    by_cases he : i = d.first.toNat + n
    · rw [if_pos he, if_pos (by omega), he, Nat.add_sub_cancel_left]
    · rw [if_neg he, h2 i]
      by_cases hr : d.first.toNat ≤ i ∧ i < d.first.toNat + n
      · rw [if_pos hr, if_pos (by omega)]
      · rw [if_neg hr, if_neg (by omega)]
theorem turns_err (v : Int) (d : DvM) : ∀ n, (dTurns v d n).err = d.err
  | 0 => rfl
  | n + 1 => by rw [dTurns_succ]; exact (dTurn_same v _ n).2.2.1.trans (turns_err v d n)
/-- Sectors are copied. -/
theorem copy_doc (d : DvM) (hb : d.buf.length = 16) (hl : d.disk.length = 8) (k a b : Nat) (hk : 1 ≤ k ∧ k ≤ 4) (ha : a + k ≤ 8) (hbb : b + k ≤ 8) :
    (dCmd { dCmd { { d with many := BitVec.ofNat 32 k } with first := BitVec.ofNat 32 a } 1 with first := BitVec.ofNat 32 b } 2).err = 0#32 ∧
    (dCmd { dCmd { { d with many := BitVec.ofNat 32 k } with first := BitVec.ofNat 32 a } 1 with first := BitVec.ofNat 32 b } 2).disk.length = 8 ∧
    ∀ i, vN (dCmd { dCmd { { d with many := BitVec.ofNat 32 k } with first := BitVec.ofNat 32 a } 1 with first := BitVec.ofNat 32 b } 2).disk i = if b ≤ i ∧ i < b + k then vN d.disk (a + i - b) else vN d.disk i := by
  have nk : (BitVec.ofNat 32 k).toNat = k := by rw [BitVec.toNat_ofNat, Nat.mod_eq_of_lt (by omega)]
  have na : (BitVec.ofNat 32 a).toNat = a := by rw [BitVec.toNat_ofNat, Nat.mod_eq_of_lt (by omega)]
  have nb : (BitVec.ofNat 32 b).toNat = b := by rw [BitVec.toNat_ofNat, Nat.mod_eq_of_lt (by omega)]
  obtain ⟨d2, hd2⟩ : ∃ d2 : DvM, d2 = { { d with many := BitVec.ofNat 32 k } with first := BitVec.ofNat 32 a } := ⟨_, rfl⟩
  rw [← hd2]
  have f2 : d2.first.toNat = a := by rw [hd2]; exact na
  have m2 : d2.many = BitVec.ofNat 32 k := by rw [hd2]
  have k2 : d2.disk = d.disk := by rw [hd2]
  have b2 : d2.buf.length = 16 := by rw [hd2]; exact hb
  have e1 : dCmd d2 1 = dTurns 1 (dCalm d2) k := by
    unfold dCmd
    rw [if_neg (by omega), if_neg (by unfold dFar U; rw [m2, nk, f2, k2, hl]; omega), if_neg (by omega), m2, nk]
  rw [e1]
  obtain ⟨r1, r2⟩ := turns_read (dCalm d2) b2 k (by omega)
  obtain ⟨s1, s2, s3, s4, _⟩ := dTurns_same 1 (dCalm d2) k
  obtain ⟨d4, hd4⟩ : ∃ d4 : DvM, d4 = { dTurns 1 (dCalm d2) k with first := BitVec.ofNat 32 b } := ⟨_, rfl⟩
  rw [← hd4]
  have f4 : d4.first.toNat = b := by rw [hd4]; exact nb
  have m4 : d4.many = BitVec.ofNat 32 k := by rw [hd4]; exact s2.trans m2
  have k4 : d4.disk = d.disk := by rw [hd4]; exact r1.trans k2
  have q4 : ∀ i, i < k → quad d4.buf i = vN d.disk (a + i) := fun i hi => by
    rw [hd4]
    show quad (dTurns 1 (dCalm d2) k).buf i = _
    rw [r2 i hi]
    show vN d2.disk (d2.first.toNat + i) = _
    rw [k2, f2]
  have e2 : dCmd d4 2 = dTurns 2 (dCalm d4) k := by
    unfold dCmd
    rw [if_neg (by omega), if_neg (by unfold dFar U; rw [m4, nk, f4, k4, hl]; omega), if_neg (by omega), m4, nk]
  rw [e2]
  obtain ⟨_, w1, w2⟩ := turns_write (dCalm d4) k (by omega) (by show d4.first.toNat + k ≤ d4.disk.length; rw [f4, k4, hl]; omega)
  refine ⟨w1, ?_, fun i => ?_⟩
  · rw [(dTurns_same 2 (dCalm d4) k).2.2.1]
    show d4.disk.length = 8
    rw [k4, hl]
  · rw [w2 i]
    show (if d4.first.toNat ≤ i ∧ i < d4.first.toNat + k then quad d4.buf (i - d4.first.toNat) else vN d4.disk i) = _
    rw [f4, k4]
    by_cases hr : b ≤ i ∧ i < b + k
    · rw [if_pos hr, if_pos hr, q4 _ (by omega), show a + (i - b) = a + i - b by omega]
    · rw [if_neg hr, if_neg hr]
theorem PdAt.setDoc {α : Type} {D : Dk10 α} {q : Nat} {K : Nat → Prop} {d : DvM} {a : α} {w : World} {I : α → Prop} {view : α → List V4} (h : PdAt D q K d a w) (hD : D.Is) (hF : Faith D I view) (hI : I a) (hr : D.room a 4) (reg : Int) (v : BitVec 32) {dd dd' : DvM} {e0 : Int} (hdd : docOf view d a = dd) (he : dSet dd reg v = (dd', e0)) {V : Int} (hV : U v = V) :
    Calls Try.prog 13 #[.pointer (some ⟨q, 0, none⟩), .int .i64 reg, .int .u32 V] w fun e w' => e = .returned (.int .i64 e0) ∧ (∃ d' a', docOf view d' a' = dd' ∧ I a' ∧ PdAt D q K d' a' w') ∧ Turned (Un10 D.B K) w w' := by
  have h1 := set10 h hD hr reg v
  obtain ⟨h2, h3⟩ := set_doc hD hF hI reg v d
  rw [hdd, he] at h2
  have e1 : docOf view (pSet D reg v d a).1 (pSet D reg v d a).2.1 = dd' := congrArg Prod.fst h2
  have e2 : (pSet D reg v d a).2.2 = e0 := congrArg Prod.snd h2
  rw [hV, e2] at h1
  exact h1.mono fun e w' ⟨g1, g2, g3⟩ => ⟨g1, ⟨_, _, e1, h3, g2⟩, g3⟩
theorem cp_size : (Try.prog.info? 56).map (·.size) = some 32 := by kernel_rfl
theorem cp_infoZ : (Try.prog.info? 56).map (fun i => (i.zero, i.size)) = some (some (.agg (v4K.all (List.replicate 8 v40)).toArray), 32) := by kernel_rfl
theorem cp_zero (w : World) : (zeroValue 56).run Try.prog w = .ok (.agg (v4K.all (List.replicate 8 v40)).toArray) w := (zero_of_info cp_infoZ).1 w
def cpC (l : List V4) (f t m : Int) : List Value := v4K.all l ++ [.int .u8 f, .int .u8 t, .int .u8 m]
set_option maxRecDepth 100000 in
set_option maxHeartbeats 8000000 in
theorem sectorCopies_walk (l : List V4) (hl : l.length = 8) (f : Int) (wf : (Lit.int .u8 f).wf = true) (t : Int) (wt : (Lit.int .u8 t).wf = true) (m : Int) (wm : (Lit.int .u8 m).wf = true) (w : World) :
    Calls Try.prog 8 #[.agg (v4K.all l ++ [Value.int .u8 f, .int .u8 t, .int .u8 m]).toArray] w fun e w' => e = .returned (.bool true) ∧ Below w.heap.size w w' := by
  have f0 := (bounds_u8 wf).1
  have f1 := (bounds_u8 wf).2
  have t0 := (bounds_u8 wt).1
  have t1 := (bounds_u8 wt).2
  have m0 := (bounds_u8 wm).1
  have m1 := (bounds_u8 wm).2
  obtain ⟨i0, hin, hz0, hz1, hz2⟩ := info_parts v4_infoA
  obtain ⟨W0, hW0⟩ : ∃ W0, W0 = w.alloc (.cells (cpC l f t m).toArray 58) := ⟨_, rfl⟩
  have a0 : At W0 w.heap.size 58 (cpC l f t m) := by rw [hW0]; exact At.news w _ _
  have b0 : Below w.heap.size w W0 := by rw [hW0]; exact (Below.refl _ w).alloc (Nat.le_refl _) _
  have HA0 := Lib.hid a0
  have HB0 := Lib.hid b0
  have HL := Lib.hid hl
  have HLA : Hid ((v4K.all l).length = 32) := Lib.hid (by rw [v4K.all_len, hl]; rfl)
  clear wf wt wm a0 b0 hl
  go_enter Try.func8, Try.ntmps8
  go_upto_region 1 with (fail)
  change Code.wp _ _ _ _ (w.alloc (.cells (cpC l f t m).toArray 58))
  rw [← hW0]
  clear hW0
  go_upto_region 3 with (go_at_call 9; (refine (alive10_any W0).mono ?_); rintro e wa ⟨rfl, hBa⟩; have HBA := Lib.hid hBa; clear hBa)
  obtain ⟨b1, hb1⟩ : ∃ b1, b1 = w.heap.size := ⟨_, rfl⟩
  rw [← hb1] at HA0 ⊢
  have HA1 : Hid (At wa b1 58 (cpC l f t m)) := Lib.hid (at_stay HA0.out HBA.out)
  have HBW : Hid (Below w.heap.size w wa) := Lib.hid (HB0.out.trans (HBA.out.mono HB0.out.size))
  have HB1 := Lib.hid hb1
  clear hb1 HA0 HB0 HBA
  have hA : ∀ W, Below wa.heap.size wa W → At W b1 58 (cpC l f t m) := fun W h => at_stay HA1.out h
  have HAT := Lib.hid hA
  have HRL : Hid (∀ W, Below wa.heap.size wa W → W.rangeAt b1 0 (v4K.all l)) := Lib.hid fun W h j v hv => (HAT.out W h).rng0 j v (by unfold cpC; rw [List.getElem?_append_left (List.getElem?_eq_some_iff.1 hv).1]; exact hv)
  have HC : Hid (∀ W, Below wa.heap.size wa W → W.cell? ⟨b1, 32, none⟩ = some (.int .u8 f) ∧ W.cell? ⟨b1, 33, none⟩ = some (.int .u8 t) ∧ W.cell? ⟨b1, 34, none⟩ = some (.int .u8 m)) := Lib.hid fun W h => by
    refine ⟨?_, ?_, ?_⟩
    all_goals (
      rw [(HAT.out W h).cell]
      unfold cpC
      rw [List.getElem?_append_right (by rw [HLA.out]; omega), HLA.out]
      rfl)
  clear hA
  have hz56 := cp_zero
  have SD : Below wa.heap.size wa wa.drew := (Below.refl _ _).drew
  refine wp_region_held_drew (S := fun W => Below wa.heap.size wa W) (by kernel_rfl) SD ?_
  intro S0
  replace S0 : Below wa.heap.size wa wa.drew := SD
  refine aT 0 (.pointer (some ⟨b1, 0, none⟩)) rfl ?_; simp only [see1, see2, see3, Act.put, see4, see5, see6]
  refine aT 1 (.agg (v4K.all l).toArray) rfl ?_ (h2 := fun W hS => (load_is _ _ _ _ _ _ _ _ W).trans (load_at Try.underlying56 rfl cp_size (HRL.out W hS) HLA.out)); simp only [see1, see2, see3, Act.put, see4, see5, see6]
  refine aT 2 (.pointer (some ⟨b1, 32, none⟩)) rfl ?_; simp only [see1, see2, see3, Act.put, see4, see5, see6]
  refine aT 3 (.int .u8 f) rfl ?_ (h2 := fun W hS => by have c9 := (HC.out W hS).1; go_simp; done); simp only [see1, see2, see3, Act.put, see4, see5, see6]
  refine aT 4 (.pointer (some ⟨b1, 33, none⟩)) rfl ?_; simp only [see1, see2, see3, Act.put, see4, see5, see6]
  refine aT 5 (.int .u8 t) rfl ?_ (h2 := fun W hS => by have c9 := (HC.out W hS).2.1; go_simp; done); simp only [see1, see2, see3, Act.put, see4, see5, see6]
  refine aT 6 (.pointer (some ⟨b1, 34, none⟩)) rfl ?_; simp only [see1, see2, see3, Act.put, see4, see5, see6]
  refine aT 7 (.int .u8 m) rfl ?_ (h2 := fun W hS => by have c9 := (HC.out W hS).2.2; go_simp; done); simp only [see1, see2, see3, Act.put, see4, see5, see6]
  refine wpAnyH_all (rs := [8]) (by kernel_rfl) (by simp) ?_
  intro i8 hi8
  obtain rfl : i8 = 8 := by simpa using hi8
  refine op_goes rfl (by rfl) ?_
  go_simp
  have S1 : Below wa.heap.size wa (wa.alloc (.cells (v4K.all (List.replicate 8 v40)).toArray 56)).drew := ((Below.refl _ wa).alloc (Nat.le_refl _) _).drew
  refine ⟨S1, ?_⟩
  have HA3 : Hid (At (wa.alloc (.cells (v4K.all (List.replicate 8 v40)).toArray 56)).drew wa.heap.size 56 (v4K.all (List.replicate 8 v40))) := Lib.hid (At.news wa _ _).drew
  refine aS 9 (pre := []) (post := []) (xs := v4K.all (List.replicate 8 v40)) (ys := v4K.all l) _ _ rfl rfl rfl rfl cp_size rfl HLA.out (v4K.all_one _) rfl (by simp) HA3.out ?_
  intro V A9 T9
  rw [List.nil_append, List.append_nil] at A9
  have HA9 := Lib.hid A9
  have S2 : Below wa.heap.size wa V := S1.trans (T9.below (fun i hi => by rw [show i = wa.heap.size from hi]; omega) S1.size)
  clear A9 T9
  refine ⟨S2, ?_⟩
  refine aT 10 (.int .u8 f) rfl ?_; simp only [see1, see2, see3, Act.put, see4, see5, see6]
  refine aT 11 (.int .u8 t) rfl ?_; simp only [see1, see2, see3, Act.put, see4, see5, see6]
  refine aT 12 (.int .u8 m) rfl ?_; simp only [see1, see2, see3, Act.put, see4, see5, see6]
  refine wpAnyH_done (by kernel_rfl) ?_ _
  have HBV := Lib.hid (HBW.out.trans (S2.mono HBW.out.size))
  obtain ⟨b3, hb3⟩ : ∃ b3, b3 = wa.heap.size := ⟨_, rfl⟩
  rw [← hb3] at HA9 ⊢
  have HB3 : Hid (w.heap.size ≤ b3) := Lib.hid (by rw [hb3]; exact HBW.out.size)
  clear SD S0 S1 S2 hb3 HA3 HA1 HBW HAT HRL HC
  have HRV : Hid (v4K.Reads V (some ⟨b3, 0, none⟩) 8 8 l) := Lib.hid (by
    have := Kd.Reads.of_at (K := v4K) (xs := l) (cap := 8) (rest := []) (g := b3) (w := V) (t := 56) (by rw [List.append_nil]; exact HA9.out) (by rw [HL.out]; exact Nat.le_refl _) (by unfold maxLen; omega)
    rw [HL.out] at this
    exact this)
  go_wp2_with (at_builtin; refine halt_here ?_)
  refine Lib.hid ?_
  refine wpList_join (K := v4K) (base := V.heap.size) (xs := []) (ys := l) _ (.tmp 26) rfl rfl Try.underlying25 hin hz0 hz1 hz2 (by rfl) (by omega) (v := .slice none 0 0) (by rfl) (World.ownsRow_nil _ _ _ _) (by rfl) HRV.out (by simp) (Nat.le_refl _) ?_
  intro g4 cap w1 o1 b1' _
  have HO1 := Lib.hid o1
  have HBB := Lib.hid b1'
  clear o1 b1'
  simp only [Act.put, List.setIfInBounds_toArray, List.set_cons_zero, List.set_cons_succ]
  have e8 : ([] : List V4).length + 8 = 8 := rfl
  rw [e8, List.nil_append] at HO1
  rw [e8]
  have HB1w := Lib.hid (HBV.out.trans (HBB.out.mono HBV.out.size))
  have HA91 : Hid (At w1 b3 56 (v4K.all l)) := Lib.hid (at_stay HA9.out HBB.out)
  have HBV3 : Hid (b3 < V.heap.size) := Lib.hid HA9.out.lt
  have HNW := Lib.hid (fun W hW => new_mem (B := w.heap.size) (m := (⟨l, 0, 0⟩ : MemM)) (w := W) (w1 := w1) (K := Just b3) (A := g4) (c := cap) (by rw [HL.out]; exact own_base HO1.out HBV.out.size) (by rw [HL.out]; omega) (by dsimp only; omega) HB1w.out.size (fun i e => by rw [show i = b3 from e]; exact HA91.out.lt) (fun g e e2 => by have h1 := (own_small HO1.out e).2; have h2 := HBV3.out; rw [show g = b3 from e2] at h1; omega) hW)
  rw [show (⟨l, 0, 0⟩ : MemM).l.length = 8 from HL.out] at HNW
  clear e8
  go_upto_region 6 with (go_at_call 10; (refine (HNW.out _ rfl).mono ?_); rintro e w2 ⟨q, rfl, p0, b0, -⟩; have P0 := Lib.hid p0; have B2 := Lib.hid (HB1w.out.trans (b0.mono HB1w.out.size)); have HA92 := Lib.hid (at_stay HA91.out b0); clear p0 b0)
  obtain ⟨p, hp⟩ : ∃ p, p = w1.heap.size := ⟨_, rfl⟩
  rw [← hp] at P0 ⊢
  obtain ⟨D, hDd⟩ : ∃ D, D = memD w.heap.size p g4 cap := ⟨_, rfl⟩
  have HD : Hid D.Is := Lib.hid (by rw [hDd]; exact mem_is ..)
  have HFT : Hid (Faith D (fun m => m.fail = 0) (fun m => m.l)) := Lib.hid (by rw [hDd]; exact mem_faith ..)
  have HDB : Hid (D.B = w.heap.size) := Lib.hid (by rw [hDd]; rfl)
  have HRM : Hid (∀ m n, D.room m n) := Lib.hid (by rw [hDd]; exact fun _ _ => trivial)
  have HST : Hid (∀ {K : Nat → Prop} {m : MemM} {W : World}, D.st K m W → MemAt w.heap.size p g4 cap m W) := Lib.hid (by rw [hDd]; exact fun h => h.1)
  rw [← hDd] at P0
  clear hp hDd HNW HO1 HBB HB1w HA91 HBV HBV3 HRV HA9
  have HUN : Hid (∀ {W W' : World}, Turned (Un10 D.B (Just b3)) W W' → At W b3 56 (v4K.all l) ∧ Below w.heap.size w W → At W' b3 56 (v4K.all l) ∧ Below w.heap.size w W') := Lib.hid (fun tt h => ⟨h.1.kept tt (fun e => e.2 rfl), by rw [HDB.out] at tt; exact h.2.trans (un_below tt h.2.size)⟩)
  have HU2 : Hid (At w2 b3 56 (v4K.all l) ∧ Below w.heap.size w w2) := Lib.hid ⟨HA92.out, B2.out⟩
  clear HA92 B2
  obtain ⟨k, hk, hk1, hk4⟩ : ∃ k : Nat, (1 : Int) + m % 4 = (k : Int) ∧ 1 ≤ k ∧ k ≤ 4 := ⟨(1 + m % 4).toNat, by omega, by omega, by omega⟩
  have kI0 : (1 : Int) ≤ k := by omega
  have kI4 : (k : Int) ≤ 4 := by omega
  go_upto_region 9 with (fail)
  have hk9 : ¬ ((9 : Int) - k = 0) := by omega
  have hk90 : (0 : Int) < 9 - k := by omega
  obtain ⟨a, ha, ha8⟩ : ∃ a : Nat, f % (9 - (k : Int)) = (a : Int) ∧ a + k ≤ 8 := ⟨(f % (9 - (k : Int))).toNat, by have h1 := Int.emod_nonneg f hk9; omega, by have h1 := Int.emod_nonneg f hk9; have h2 := Int.emod_lt_of_pos f hk90; omega⟩
  obtain ⟨b, hb, hb8⟩ : ∃ b : Nat, t % (9 - (k : Int)) = (b : Int) ∧ b + k ≤ 8 := ⟨(t % (9 - (k : Int))).toNat, by have h1 := Int.emod_nonneg t hk9; omega, by have h1 := Int.emod_nonneg t hk9; have h2 := Int.emod_lt_of_pos t hk90; omega⟩
  have aI0 : (0 : Int) ≤ a := by omega
  have bI0 : (0 : Int) ≤ b := by omega
  have aI8 : (a : Int) ≤ 8 := by omega
  have bI8 : (b : Int) ≤ 8 := by omega
  have HAB : Hid (1 ≤ k ∧ k ≤ 4 ∧ a + k ≤ 8 ∧ b + k ≤ 8) := Lib.hid ⟨hk1, hk4, ha8, hb8⟩
  go_upto_region 10 with (go_quiet (fail))
  rw [ha, hb]
  clear ha hb hk hk9 hk90
  have P1 : Hid (PdAt D q (Just b3) pd0 ⟨l, 0, 0⟩ (w2.drewN nq)) := Lib.hid (P0.out.drewN HD.out nq)
  have HU3 : Hid (At (w2.drewN nq) b3 56 (v4K.all l) ∧ Below w.heap.size w (w2.drewN nq)) := Lib.hid ⟨HU2.out.1.drewN nq, HU2.out.2.trans (un_below (K := NoBlock) ((Turned.refl _ w2).drewN nq) HU2.out.2.size)⟩
  generalize w2.drewN nq = w3 at P1 HU3 ⊢
  clear P0 HU2
  obtain ⟨dd, hdd⟩ : ∃ dd, dd = docOf (fun m : MemM => m.l) pd0 (⟨l, 0, 0⟩ : MemM) := ⟨_, rfl⟩
  have HDD := Lib.hid hdd
  have nk : U (BitVec.ofNat 32 k) = (k : Int) := U_ofNat k (by omega)
  have na : U (BitVec.ofNat 32 a) = (a : Int) := U_ofNat a (by omega)
  have nb : U (BitVec.ofNat 32 b) = (b : Int) := U_ofNat b (by omega)
  have S1 := Lib.hid (P1.out.setDoc HD.out HFT.out rfl (HRM.out _ 4) 2 (BitVec.ofNat 32 k) hdd.symm (dd' := { dd with many := BitVec.ofNat 32 k }) (e0 := 0) rfl nk)
  have NA := Lib.hid na
  have NB := Lib.hid nb
  clear hdd nk na nb
  go_upto_region 11 with (go_at_call 13; (with_reducible refine S1.out.mono ?_); rintro e w4 ⟨rfl, ⟨d4, m4, g4', i4, p4⟩, t4⟩; have HP4 := Lib.hid p4; have HI4 := Lib.hid i4; have HG4 := Lib.hid g4'; have HU4 := Lib.hid (HUN.out t4 HU3.out); clear g4' i4 p4 t4)
  have S2 := Lib.hid (HP4.out.setDoc HD.out HFT.out HI4.out (HRM.out _ 4) 1 (BitVec.ofNat 32 a) HG4.out (dd' := { { dd with many := BitVec.ofNat 32 k } with first := BitVec.ofNat 32 a }) (e0 := 0) rfl NA.out)
  go_upto_region 12 with (go_at_call 13; (with_reducible refine S2.out.mono ?_); rintro e w5 ⟨rfl, ⟨d5, m5, g5', i5, p5⟩, t5⟩; have HP5 := Lib.hid p5; have HI5 := Lib.hid i5; have HG5 := Lib.hid g5'; have HU5 := Lib.hid (HUN.out t5 HU4.out); clear g5' i5 p5 t5)
  have S3 := Lib.hid (HP5.out.setDoc HD.out HFT.out HI5.out (HRM.out _ 4) 0 1#32 HG5.out (dd' := dCmd { { dd with many := BitVec.ofNat 32 k } with first := BitVec.ofNat 32 a } 1) (e0 := 0) (V := 1) rfl rfl)
  go_upto_region 13 with (go_at_call 13; (with_reducible refine S3.out.mono ?_); rintro e w6 ⟨rfl, ⟨d6, m6, g6', i6, p6⟩, t6⟩; have HP6 := Lib.hid p6; have HI6 := Lib.hid i6; have HG6 := Lib.hid g6'; have HU6 := Lib.hid (HUN.out t6 HU5.out); clear g6' i6 p6 t6)
  obtain ⟨dd3, hdd3⟩ : ∃ dd3, dd3 = dCmd { { dd with many := BitVec.ofNat 32 k } with first := BitVec.ofNat 32 a } 1 := ⟨_, rfl⟩
  rw [← hdd3] at HG6
  have HDD3 := Lib.hid hdd3
  clear hdd3
  have S4 := Lib.hid (HP6.out.setDoc HD.out HFT.out HI6.out (HRM.out _ 4) 1 (BitVec.ofNat 32 b) HG6.out (dd' := { dd3 with first := BitVec.ofNat 32 b }) (e0 := 0) rfl NB.out)
  go_upto_region 14 with (go_at_call 13; (with_reducible refine S4.out.mono ?_); rintro e w7 ⟨rfl, ⟨d7, m7, g7', i7, p7⟩, t7⟩; have HP7 := Lib.hid p7; have HI7 := Lib.hid i7; have HG7 := Lib.hid g7'; have HU7 := Lib.hid (HUN.out t7 HU6.out); clear g7' i7 p7 t7)
  obtain ⟨dd4, hdd4⟩ : ∃ dd4, dd4 = { dd3 with first := BitVec.ofNat 32 b } := ⟨_, rfl⟩
  rw [← hdd4] at HG7
  have HDD4 := Lib.hid hdd4
  clear hdd4
  obtain ⟨dd5, hdd5⟩ : ∃ dd5, dd5 = dCmd dd4 2 := ⟨_, rfl⟩
  have hset5 : dSet dd4 0 2#32 = (dd5, 0) := by rw [hdd5]; rfl
  have S5 := Lib.hid (HP7.out.setDoc HD.out HFT.out HI7.out (HRM.out _ 4) 0 2#32 HG7.out (e0 := 0) (V := 2) hset5 rfl)
  have HDD5 := Lib.hid hdd5
  clear hdd5 hset5
  go_upto_region 15 with (go_at_call 13; (with_reducible refine S5.out.mono ?_); rintro e w8 ⟨rfl, ⟨d8, m8, g8', i8, p8⟩, t8⟩; have HP8 := Lib.hid p8; have HG8 := Lib.hid g8'; have HU8 := Lib.hid (HUN.out t8 HU7.out); clear g8' i8 p8 t8)
  obtain ⟨c1, c2, c3⟩ := copy_doc dd (by rw [HDD.out]; rfl) (by rw [HDD.out]; exact HL.out) k a b ⟨HAB.out.1, HAB.out.2.1⟩ HAB.out.2.2.1 HAB.out.2.2.2
  rw [← HDD3.out, ← HDD4.out, ← HDD5.out, ← HG8.out] at c1 c2 c3
  have hm8 : (docOf (fun m : MemM => m.l) d8 m8).disk = m8.l := rfl
  have hdl : dd.disk = l := by rw [HDD.out]; rfl
  rw [hm8] at c2 c3
  rw [hdl] at c3
  have HER : Hid (d8.err = 0#32) := Lib.hid c1
  have HLN := Lib.hid c2
  have HRW := Lib.hid c3
  have hM := HST.out HP8.out.dk
  have cp : w8.cell? ⟨p, 0, none⟩ = some (.slice g4 8 cap) := by
    have := hM.at_.cell 0
    rw [HLN.out] at this
    exact this
  have hrd : v4K.Reads w8 g4 8 cap m8.l := by
    have := hM.reads
    rw [HLN.out] at this
    exact this
  have HRD := Lib.hid hrd
  have HPL : Hid (p < w8.heap.size) := Lib.hid hM.at_.lt
  have HRV : Hid (v4K.Reads w8 (some ⟨b3, 0, none⟩) 8 8 l) := Lib.hid (by
    have := Kd.Reads.of_at (K := v4K) (xs := l) (cap := 8) (rest := []) (g := b3) (w := w8) (t := 56) (by rw [List.append_nil]; exact HU8.out.1) (by rw [HL.out]; exact Nat.le_refl _) (by unfold maxLen; omega)
    rw [HL.out] at this
    exact this)
  have HCP := Lib.hid cp
  have HB3L : Hid (b3 < w8.heap.size) := Lib.hid HU8.out.1.lt
  clear c1 c2 c3 hm8 hdl hM hrd cp S1 S2 S3 S4 S5 HP4 HP5 HP6 HP7 HU3 HU4 HU5 HU6 HU7 P1 HG4 HG5 HG6 HG7 HI4 HI5 HI6 HI7
  have hz4 := v4_zero
  go_upto_region 16 with (fail)
  go_loopw [65] (fun i wr => ∃ j : Nat, j ≤ 8 ∧ i = .int .i64 j ∧ Below w8.heap.size w8 wr) (fun i _ => 8 - (intOf i).toNat)
  case atStart => exact ⟨0, Nat.zero_le _, rfl, Below.refl _ _⟩
  case round =>
    obtain ⟨j, hj, rfl, hB⟩ := hrel
    have HB := Lib.hid hB
    clear hB
    by_cases hlt : j < 8
    · have ht : (j : Int) < 8 := by omega
      have ht0 : (0 : Int) ≤ j := by omega
      obtain ⟨x, hx⟩ : ∃ x, x = vN l j := ⟨_, rfl⟩
      have HXR : Hid (∀ W, Below w8.heap.size w8 W → W.rangeAt b3 (j * 4) (v4C x)) := Lib.hid fun W hW => by
        obtain ⟨g, off, eA, _, hr⟩ := (HRV.out.kept hW).at_ hlt
        cases eA
        rw [Nat.zero_add] at hr
        rw [hx]
        exact hr
      obtain ⟨g, off, eA, _, hrg⟩ := HRD.out.at_ hlt
      subst eA
      obtain ⟨y, hy⟩ : ∃ y, y = vN m8.l j := ⟨_, rfl⟩
      have HX := Lib.hid hx
      have HY := Lib.hid hy
      have HGR : Hid (∀ W, Below w8.heap.size w8 W → W.rangeAt g (off + j * 4) (v4C y) ∧ W.cell? ⟨p, 0, none⟩ = some (.slice (some ⟨g, off, none⟩) 8 cap)) := Lib.hid fun W hW => by
        obtain ⟨g', off', eA, _, hr⟩ := (HRD.out.kept hW).at_ hlt
        cases eA
        refine ⟨?_, (hW.cell (p := ⟨p, 0, none⟩) HPL.out).trans HCP.out⟩
        rw [hy]
        exact hr
      clear hx hy hrg
      go_upto_region 19 with (first
        | (refine wpList_ldr (xs := v4C x) _ rfl rfl rfl Try.underlying39 rfl v4_size (v4_len _) (HXR.out _ HB.out) ?_)
        | (refine wpList_stm (pre := []) (post := []) (xs := v4C v40) (ys := v4C x) _ _ rfl rfl rfl rfl v4_size (v4_len _) (v4_len _) (v4_one _) rfl (by simp) (At.news wr _ (v4C v40)) ?_; intro w9 A9 T9; rw [List.nil_append, List.append_nil] at A9; have HA9 := Lib.hid A9; have HB9 : Hid (Below wr.heap.size wr w9) := Lib.hid (((Below.refl _ wr).alloc (Nat.le_refl _) _).trans (T9.below (fun i hi => by unfold Just at hi; omega) (by simp))); clear A9 T9))
      simp only [Act.put]
      obtain ⟨b13, hb13⟩ : ∃ b13, b13 = wr.heap.size := ⟨_, rfl⟩
      rw [← hb13] at HA9 ⊢
      have H13 : Hid (w8.heap.size ≤ b13) := Lib.hid (by rw [hb13]; exact HB.out.size)
      have HB10 : Hid (Below w8.heap.size w8 w9) := Lib.hid (HB.out.trans (HB9.out.mono HB.out.size))
      clear hb13
      have hmc : (8 : Int) ≤ cap := by have := HRD.out.le; omega
      have hrw := HRW.out j
      by_cases hin : b ≤ j ∧ j < b + k
      · rw [if_pos hin] at hrw
        obtain ⟨c, hc, hc8⟩ : ∃ c : Nat, (a : Int) + j - b = (c : Int) ∧ c < 8 := ⟨a + j - b, by omega, by have := HAB.out; omega⟩
        have hcc : c = a + j - b := by omega
        have HYX : Hid (y = vN l c) := Lib.hid (by rw [HY.out, hrw, hcc])
        have HYR : Hid (∀ W, Below w8.heap.size w8 W → W.rangeAt b3 (c * 4) (v4C y)) := Lib.hid fun W hW => by
          obtain ⟨g', off', eA, _, hr⟩ := (HRV.out.kept hW).at_ hc8
          cases eA
          rw [Nat.zero_add] at hr
          rw [HYX.out]
          exact hr
        have g1 : (b : Int) ≤ j := by omega
        have g2 : (j : Int) < (b : Int) + k := by omega
        have g3 : (c : Int) < 8 := by omega
        have g4' : (0 : Int) ≤ c := by omega
        clear hin hrw hcc
        go_upto_region 21 with (first
          | (refine wpList_ldr (xs := v4C y) _ rfl rfl rfl Try.underlying39 rfl v4_size (v4_len _) (HYR.out _ HB10.out) ?_)
          | (refine wpList_stm (pre := []) (post := []) (xs := v4C x) (ys := v4C y) _ _ rfl rfl rfl rfl v4_size (v4_len _) (v4_len _) (v4_one _) rfl (by simp) HA9.out ?_; intro w10 A10 T10; rw [List.nil_append, List.append_nil] at A10; have HA10 := Lib.hid A10; have HB11 : Hid (Below w8.heap.size w8 w10) := Lib.hid (HB10.out.trans (T10.below (fun i hi => by rw [show i = b13 from hi]; exact H13.out) HB10.out.size)); clear A10 T10))
        clear hc
        simp only [Act.put, List.setIfInBounds_toArray, List.set_cons_zero, List.set_cons_succ]
        obtain ⟨cy0, cy1, cy2, cy3⟩ := v4_cells (HGR.out _ HB11.out).1
        have cp := (HGR.out _ HB11.out).2
        obtain ⟨cx0, cx1, cx2, cx3⟩ := v4_cells HA10.out.rng0
        simp only [Nat.zero_add] at cx0 cx1 cx2 cx3
        have q9 : ∀ W : World, (Op.equalIn 10000 39 (.agg #[.int .u32 (U y.a), .int .u32 (U y.b), .int .u32 (U y.c), .int .u32 (U y.d)]) (.agg #[.int .u32 (U y.a), .int .u32 (U y.b), .int .u32 (U y.c), .int .u32 (U y.d)])).run Try.prog W = .ok true W := fun W => by
          have := run_eqv y y W
          rw [decide_eq_true rfl] at this
          exact this
        have hmj : (j : Int) < cap := by omega
        go_upto_region 23 with (go_quiet (fail))
        have HBQ : Hid (Below w8.heap.size w8 (w10.drewN nq)) := Lib.hid (HB11.out.trans (un_below (K := NoBlock) ((Turned.refl _ w10).drewN nq) HB11.out.size))
        go_wp2
        go_roundw
        case rel => exact ⟨j + 1, by omega, by go_num, HBQ.out⟩
        case measure => simp [intOf]; omega
      · rw [if_neg hin] at hrw
        have hyx : y = x := by rw [HY.out, hrw, HX.out]
        subst hyx
        have HBB : Hid (∃ B : Int, B = (b : Int) + k) := Lib.hid ⟨_, rfl⟩
        have hio : (j : Int) < b ∨ ((b : Int) ≤ j ∧ (b : Int) + k ≤ j) := by omega
        clear hin hrw
        rcases hio with g1 | ⟨g1, g2⟩
        all_goals (
          go_upto_region 21 with (fail)
          try simp only [Act.put, List.setIfInBounds_toArray, List.set_cons_zero, List.set_cons_succ]
          obtain ⟨cy0, cy1, cy2, cy3⟩ := v4_cells (HGR.out _ HB10.out).1
          have cp := (HGR.out _ HB10.out).2
          obtain ⟨cx0, cx1, cx2, cx3⟩ := v4_cells HA9.out.rng0
          simp only [Nat.zero_add] at cx0 cx1 cx2 cx3
          have q9 : ∀ W : World, (Op.equalIn 10000 39 (.agg #[.int .u32 (U y.a), .int .u32 (U y.b), .int .u32 (U y.c), .int .u32 (U y.d)]) (.agg #[.int .u32 (U y.a), .int .u32 (U y.b), .int .u32 (U y.c), .int .u32 (U y.d)])).run Try.prog W = .ok true W := fun W => by
            have := run_eqv y y W
            rw [decide_eq_true rfl] at this
            exact this
          have hmj : (j : Int) < cap := by omega
          go_upto_region 23 with (go_quiet (fail))
          have HBQ : Hid (Below w8.heap.size w8 (w9.drewN nq)) := Lib.hid (HB10.out.trans (un_below (K := NoBlock) ((Turned.refl _ w9).drewN nq) HB10.out.size))
          go_wp2
          go_roundw
          case rel => exact ⟨j + 1, by omega, by go_num, HBQ.out⟩
          case measure => simp [intOf]; omega)
    · have hge : ¬ (j : Int) < 8 := by omega
      obtain ⟨E, hE⟩ : ∃ E, E = d8.err := ⟨_, rfl⟩
      have HPr : Hid (PdAt D q (Just b3) d8 m8 wr) := Lib.hid (HP8.out.below HD.out HB.out)
      have HG1 := Lib.hid (HPr.out.getTo HD.out 4 (n := D.len m8) rfl (d' := d8) (v := E) (e0 := 0) (by rw [hE]; rfl) rfl)
      have hE0 : U E = 0 := by rw [hE, HER.out]; rfl
      have HBr := Lib.hid (HU8.out.2.trans (HB.out.mono HU8.out.2.size))
      clear hE hlt
      go_wp2_with (go_at_call 14; (with_reducible refine HG1.out.mono ?_); rintro e w9 ⟨rfl, p1, t9⟩; have HT9 := Lib.hid (HUN.out t9 ⟨at_stay HU8.out.1 HB.out, HBr.out⟩); clear p1 t9)
      go_ret
      exact ⟨rfl, HT9.out.2⟩
end Go.Proofs.Ytpkkejdjhnmjiaa
