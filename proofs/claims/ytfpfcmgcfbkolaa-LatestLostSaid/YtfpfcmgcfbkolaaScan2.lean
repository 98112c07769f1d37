/- Contract of the program's scan.blockOf. -/
import Derived.Test.YtfpfcmgcfbkolaaScan1
import Derived.Test.YtfpfcmgcfbkolaaPage
import Derived.Test.YtfpfcmgcfbkolaaMid
namespace Go.Proofs.Ytfpfcmgcfbkolaa
open Go.RowKit Bm Go.Shelf

attribute [local go_sem] Oper.semAt_some bk_head bk_count

/-- A part of a slice reads as that part of its words. -/
theorem ReadsU.sub {w : World} {ad : Addr} {n c : Nat} {ws : List (BitVec 32)} (h : ReadsU w (some ad) n c ws) (lo len cap : Nat) (h1 : lo + len ≤ n) (h2 : len ≤ cap) (h3 : cap ≤ maxLen) : ReadsU w (some (ad.add lo)) len cap ((ws.drop lo).take len) := by
  refine ⟨by rw [List.length_take, List.length_drop, h.len]; omega, h2, h3, fun hl => ⟨_, rfl, ?_, fun j u hu => ?_⟩⟩
  · obtain ⟨a, e, hlt, _⟩ := h.cell (by omega)
    cases e
    rw [add_block]
    exact hlt
  · obtain ⟨a, e, _, hc⟩ := h.cell (by omega)
    cases e
    have hj : j < len := by
      have := (List.getElem?_eq_some_iff.1 hu).1
      rw [Us_length, List.length_take] at this
      omega
    have ea : (ad.add lo).add j = ad.add (lo + j) := by
      unfold Addr.add
      by_cases a0 : lo = 0
      · subst a0; simp
      · by_cases j0 : j = 0
        · subst j0; simp
        · simp [a0, j0]; omega
    rw [ea]
    apply hc
    rw [← hu]
    unfold Us
    rw [List.getElem?_map, List.getElem?_map, List.getElem?_take_of_lt hj, List.getElem?_drop]

/-- What is found of page p is put there. -/
def blkPut (ws : List (BitVec 32)) (b : BlkM) (p : Nat) : BlkM :=
  if b.head = 1 then { b with kinds := (b.kinds.set p 2).set p (pgRd (pgAtW ws p)).2, pages := b.pages.set p (pgRd (pgAtW ws p)).1 } else { b with kinds := b.kinds.set p 2 }
theorem blkPut_head (ws : List (BitVec 32)) (b : BlkM) (p : Nat) : (blkPut ws b p).head = b.head := by unfold blkPut; split <;> rfl
theorem blkPut_ok {ws : List (BitVec 32)} {b : BlkM} (h : BlkOk b) (p : Nat) : BlkOk (blkPut ws b p) := by
  unfold blkPut
  split
  · exact ⟨by simp [h.k], by simp [h.p]⟩
  · exact ⟨by simp [h.k], h.p⟩
def blk0 (ws : List (BitVec 32)) : BlkM := { bk0 with head := (hdRd (ws.take 4)).2, count := (hdRd (ws.take 4)).1 }
def blkAll (ws : List (BitVec 32)) (pre : List Nat) : BlkM := pre.foldl (blkPut ws) (blk0 ws)
theorem blkAll_snoc (ws : List (BitVec 32)) (pre : List Nat) (p : Nat) : blkAll ws (pre ++ [p]) = blkPut ws (blkAll ws pre) p := by simp [blkAll]
theorem foldPut_ok (ws : List (BitVec 32)) : ∀ (pre : List Nat) (b : BlkM), BlkOk b → BlkOk (pre.foldl (blkPut ws) b)
  | [], _, h => h
  | p :: pre, _, h => foldPut_ok ws pre _ (blkPut_ok h p)
theorem foldPut_head (ws : List (BitVec 32)) : ∀ (pre : List Nat) (b : BlkM), (pre.foldl (blkPut ws) b).head = b.head
  | [], _ => rfl
  | p :: pre, b => (foldPut_head ws pre _).trans (blkPut_head ws b p)
theorem blkAll_ok (ws : List (BitVec 32)) (pre : List Nat) : BlkOk (blkAll ws pre) := foldPut_ok ws pre _ ⟨rfl, rfl⟩
theorem blkAll_head (ws : List (BitVec 32)) (pre : List Nat) : (blkAll ws pre).head = (hdRd (ws.take 4)).2 := foldPut_head ws pre _
theorem blkAll_done (ws : List (BitVec 32)) : blkAll ws (List.range 8) = bkOf ws := by
  have e : List.range 8 = [0, 1, 2, 3, 4, 5, 6, 7] := by decide
  unfold bkOf
  rw [e]
  unfold blkAll
  simp only [List.foldl_cons, List.foldl_nil, List.map_cons, List.map_nil]
  by_cases h : (hdRd (ws.take 4)).2 = 1
  · simp [blkPut, blk0, bk0, h, List.replicate]
  · simp [blkPut, blk0, bk0, h, List.replicate]

theorem bk_res1 {fn : Func} {p : Tmp} (h : fn.results = #[.cell p 60]) (tmps : Array Value) {w : World} {g : Nat} {cs : List Value} (hp : tmps.getD p undef = .pointer (some ⟨g, 0, none⟩)) (hA : At w g 60 cs) (hn : cs.length = 66) :
    (results fn tmps).run Try.prog w = .ok (.agg cs.toArray) w :=
  results_cell_row h tmps w g 60 cs.toArray (0, 0) _ hp hA Try.underlying60 rfl (by rw [bk_size]; simp [hn])
theorem At.mark {w : World} {g : Nat} {t : TypeId} {cs : List Value} (h : At w g t cs) {D : Nat} (hD : g ≠ D) (o : Obj) : At (w.putObj D o) g t cs := (World.putObj_heap_other (by omega)).trans h

set_option maxRecDepth 100000 in
set_option maxHeartbeats 2000000 in
theorem sblock_any (ad : Addr) (c : Nat) (ws : List (BitVec 32)) (w : World) (hA : ReadsU w (some ad) 64 c ws) : Calls Try.prog 31 #[.slice (some ad) 64 c] w fun e w' => e = .returned (bkV (bkOf ws)) ∧ Below w.heap.size w w' := by
  have hz := bk_zero
  have HA := Lib.hid hA
  have h64 := hA.le
  have hc1 := hA.max
  have a0 : At ((w.alloc (.cells (bkC bk0).toArray 60)).alloc (.cells (bkC bk0).toArray 60)) (w.heap.size + 1) 60 (bkC bk0) := At.alloc_new _ _ _ (by simp) rfl
  have A0 := Lib.hid a0
  have hb2 := below_two w (.cells (bkC bk0).toArray 60) (.cells (bkC bk0).toArray 60)
  have HA2 := Lib.hid (hA.kept hb2)
  have PC := Lib.hid (pcount_any _ 4 c _ _ ((HA2.out.sub 0 4 c (by omega) (by omega) hc1)) (by omega))
  rw [show ad.add 0 = ad from rfl] at PC
  have HB2 := Lib.hid hb2
  clear hA a0 hb2
  refine (callsIn_wide (n := 10)).1 ?_
  refine callsIn_of_wp_marks Try.func31 rfl trivial ?_
  simp only [Try.ntmps31, List.size_toArray, List.length_cons, List.length_nil, Nat.reduceAdd, Nat.reduceSub, Array.replicate_succ, Array.replicate_zero, List.push_toArray, List.append_toArray, List.nil_append, List.cons_append]
  gi_wp2_with (first
    | (refine ⟨trivial, ?_⟩; gi_at_call 44; refine (callsIn_wide.2 PC.out).mono ?_; rintro e V ⟨rfl, hb⟩; have a1 := A0.out.kept (Turned.of_below hb (Nat.le_refl _) NoBlock) (fun h => h); have A1 := Lib.hid a1; have c0 := a1.cell 0; have c1 := a1.cell 1; have f0 := a1.frozen 0; have f1 := a1.frozen 1; simp only [bk_head, bk_count] at c0 c1; have HBV := Lib.hid hb; clear a1 hb)
    | (refine ⟨trivial, ?_⟩; gi_at_call 45; refine (callsIn_wide.2 (pages_of _ _ _ _)).mono ?_; rintro e w' ⟨rfl, rfl⟩))
  obtain ⟨W0, hW0⟩ : ∃ W0, (((V.setCell { block := w.heap.size + 1, off := 1 } (Value.int IntKind.u32 (U (hdRd (List.take 4 ws)).fst))).setCell { block := w.heap.size + 1, off := 0 } (Value.int IntKind.i64 (hdRd (List.take 4 ws)).snd)).alloc (Obj.cells #[Value.slice (some ad) 64 c] 66)) = W0 := ⟨_, rfl⟩
  have hVs : w.heap.size + 2 ≤ V.heap.size := by have := HBV.out.size; simp at this; omega
  have hs0 : W0.heap.size = V.heap.size + 1 := by rw [← hW0]; simp [World.setCell]
  have a1 : At W0 (w.heap.size + 1) 60 (bkC (blkAll ws [])) := by rw [← hW0]; exact (((A1.out.put 1 _).put 0 _).alloc _)
  have a2 : At W0 V.heap.size 66 [.slice (some ad) 64 c] := by rw [← hW0]; exact At.alloc_new _ _ _ (by simp [World.setCell]) rfl
  have hbV : Below w.heap.size w V := HB2.out.trans (HBV.out.mono (by simp; omega))
  have hb0 : Below w.heap.size w W0 := by rw [← hW0]; exact ((hbV.setCell (p := ⟨w.heap.size + 1, 1, none⟩) (by show w.heap.size ≤ w.heap.size + 1; omega) _).setCell (p := ⟨w.heap.size + 1, 0, none⟩) (by show w.heap.size ≤ w.heap.size + 1; omega) _).alloc (by simp [World.setCell]; omega) _
  have a3 : At W0 w.heap.size 60 (bkC bk0) := by rw [← hW0]; exact ((((((At.news w _ _).alloc _).kept (Turned.of_below HBV.out (Nat.le_refl _) NoBlock) (fun h => h)).far (by show w.heap.size ≠ w.heap.size + 1; omega) _).far (by show w.heap.size ≠ w.heap.size + 1; omega) _).alloc _)
  rw [hW0]
  clear hW0 c0 c1 f0 f1
  have HVS := Lib.hid hVs
  have HS0 := Lib.hid hs0
  have hs0' := HS0.out
  refine wpIn_rangeFunc_ownG rfl (by omega) (gf := 53) (lb := #[.pointer (some ⟨V.heap.size, 0, none⟩)]) rfl trivial (enters_of Try.func53 (by kernel_rfl) rfl)
    (pages_stops V.heap.size ad c h64 (fun k => k = V.heap.size) rfl W0 a2) Keeps.trans (Keeps.put (fun k hk => by omega)) (Below.refl _ _) (fun _ => rfl)
    (fun (pre : List (Fin 8)) W => (At W (w.heap.size + 1) 60 (bkC (blkAll ws (pre.map (·.val)))) ∧ At W w.heap.size 60 (bkC bk0)) ∧ Below w.heap.size w W ∧ W0.heap.size ≤ W.heap.size)
    (fun _ _ _ => False)
    (OwnFrom.and (OwnFrom.and (At.own_from (f := fun pre : List (Fin 8) => bkC (blkAll ws (pre.map (·.val))))) (At.own_from (f := fun _ => bkC bk0))) (OwnFrom.and (ownFrom_below (Nat.le_refl _) (by omega)) (size_own_from _ _)))
    (fun _ _ _ _ _ hs _ _ => hs)
    ⟨⟨a1, a3⟩, hb0, Nat.le_refl _⟩
    (fun x => { tmps := #[Value.slice (some ad) 64 c, undef, Value.pointer (some { block := w.heap.size, off := 0 }),
          Value.pointer (some { block := w.heap.size + 1, off := 0 }), .int .i64 ((x.val : Nat) : Int), sub ad (4 + 7 * x.val) 7 (c - (4 + 7 * x.val)),
          Value.tuple #[Value.int IntKind.u32 (U (hdRd (List.take 4 ws)).fst), Value.int IntKind.i64 (hdRd (List.take 4 ws)).snd],
          Value.slice (some ad) 64 c, Value.slice (some ad) 4 c,
          Value.tuple #[Value.int IntKind.u32 (U (hdRd (List.take 4 ws)).fst), Value.int IntKind.i64 (hdRd (List.take 4 ws)).snd],
          Value.int IntKind.u32 (U (hdRd (List.take 4 ws)).fst), Value.int IntKind.i64 (hdRd (List.take 4 ws)).snd,
          Value.pointer (some { block := w.heap.size + 1, off := 1 }),
          Value.pointer (some { block := w.heap.size + 1, off := 0 }), Value.slice (some ad) 64 c,
          Value.func (Fn.func 53) #[] #[Value.pointer (some { block := V.heap.size, off := 0 })], .int .i64 ((x.val : Nat) : Int), sub ad (4 + 7 * x.val) 7 (c - (4 + 7 * x.val)), undef,
          undef, undef, undef, undef, undef, undef, undef, undef, undef, undef, undef, undef, undef, undef, undef, undef, undef], defers := [] }) ?assign ?body ?done ?stop
  case assign =>
    intro l x W K hK
    unfold pageV
    gi_wp2
    exact hK
  case body =>
    rintro l pre x W ⟨⟨hA1, hA3⟩, hB, hsz⟩ hl
    obtain ⟨p, hp⟩ := x
    refine wpIn_mono (Q := fun e a W' => ∃ T, Turned (Just (w.heap.size + 1)) W W' ∧ e = .normal ∧ T = a ∧ At W' (w.heap.size + 1) 60 (bkC (blkPut ws (blkAll ws (pre.map (·.val))) p))) ?_ ?_
    · have hok := blkAll_ok ws (pre.map (·.val))
      have hhd := blkAll_head ws (pre.map (·.val))
      obtain ⟨B, hBe⟩ : ∃ B, B = blkAll ws (pre.map (·.val)) := ⟨_, rfl⟩
      rw [← hBe] at hok hhd hA1 ⊢
      have HOK := Lib.hid hok
      have k0 := hA1.cell (2 + p)
      rw [bk_kind hok p hp] at k0
      have f0 := hA1.frozen (2 + p)
      have h0 := hA1.cell 0
      rw [bk_head] at h0
      have HA1 := Lib.hid hA1
      have HB := Lib.hid hB
      have HSZ := Lib.hid hsz
      have HHD := Lib.hid hhd
      have i0 : (0 : Int) ≤ (p : Int) := by omega
      have i1 : (p : Int) < 8 := by omega
      clear hBe hok hhd hA1 hB hsz hA3
      by_cases h1 : B.head = 1
      · have A2 := HA1.out.put (2 + p) (.int .i64 2)
        rw [bk_setKind HOK.out p hp] at A2
        have hb2 : Below w.heap.size w (W.setCell ⟨w.heap.size + 1, 2 + p, none⟩ (.int .i64 2)) := HB.out.setCell (p := ⟨w.heap.size + 1, 2 + p, none⟩) (by show w.heap.size ≤ w.heap.size + 1; omega) _
        have PR := Lib.hid (pread_any _ _ _ _ _ ((HA.out.kept hb2).sub (4 + 7 * p) 7 (c - (4 + 7 * p)) (by omega) (by omega) (by omega)) (by omega))
        have ok2 : BlkOk { B with kinds := B.kinds.set p 2 } := ⟨by simp [HOK.out.k], HOK.out.p⟩
        have HA2' := Lib.hid A2
        have OK2 := Lib.hid ok2
        obtain ⟨pr, po, hpl, he, hs⟩ := bk_page ok2 p hp
        have HPL := Lib.hid hpl
        have HE := Lib.hid he
        have HS := Lib.hid hs
        clear A2 hb2 ok2 hpl he hs
        gi_wp2_with (first
          | (refine ⟨trivial, ?_⟩; gi_at_call 46; refine (CallsIn.inRound l (callsIn_wide.2 PR.out)).mono ?_; rintro e V1 ⟨rfl, hb⟩; have A3 := Lib.hid (HA2'.out.kept (Turned.of_below hb (Nat.le_refl _) NoBlock) (fun h => h)); have HB3 := Lib.hid hb; clear hb)
          | (refine wpListIn_stm (ys := pgC (pgRd (pgAtW ws p)).1) _ _ rfl rfl rfl rfl ppg_size (pgC_len _) (pgC_len _) (pgC_one _) (by rw [HPL.out]; omega) HE.out A3.out ?_; intro V2 A4 T4; rw [← HS.out] at A4; have HA4 := Lib.hid A4; have k4 := A4.cell (2 + p); have f4 := A4.frozen (2 + p); rw [bk_kind (b := { B with kinds := B.kinds.set p 2, pages := B.pages.set p (pgRd (pgAtW ws p)).1 }) ⟨by simp [HOK.out.k], by simp [HOK.out.p]⟩ p hp] at k4; have HT4 := Lib.hid T4; clear A4 T4))
        refine ⟨((((Turned.refl (Just (w.heap.size + 1)) W).setCell (p := ⟨w.heap.size + 1, 2 + p, none⟩) (fun _ => rfl) _).trans (Turned.of_below HB3.out (Nat.le_refl _) _)).trans HT4.out).setCell (p := ⟨w.heap.size + 1, 2 + p, none⟩) (fun _ => rfl) _, ?_⟩
        have A5 := HA4.out.put (2 + p) (.int .i64 (pgRd (pgAtW ws p)).2)
        rw [bk_setKind (b := { B with kinds := B.kinds.set p 2, pages := B.pages.set p (pgRd (pgAtW ws p)).1 }) ⟨by simp [HOK.out.k], by simp [HOK.out.p]⟩ p hp] at A5
        unfold blkPut
        rw [if_pos h1]
        exact A5
      · gi_wp2
        refine ⟨(Turned.refl (Just (w.heap.size + 1)) W).setCell (p := ⟨w.heap.size + 1, 2 + p, none⟩) (fun _ => rfl) _, ?_⟩
        have A5 := HA1.out.put (2 + p) (.int .i64 2)
        rw [bk_setKind HOK.out p hp] at A5
        unfold blkPut
        rw [if_neg h1]
        exact A5
    · rintro e a W' ⟨_, hT, rfl, _, hA'⟩
      have hs1 := hT.size
      refine ⟨hT.from _ (fun k hk => by unfold Just at hk; omega), hT.keeps (fun k hk => ⟨by omega, by unfold Just; omega⟩), ⟨?_, hA3.kept hT (by unfold Just; omega)⟩, hB.trans (hT.below (fun k hk => by unfold Just at hk; omega) hB.size), by omega⟩
      rw [List.map_append, List.map_cons, List.map_nil, blkAll_snoc]
      exact hA'
  case done =>
    rintro D xs W hD rfl ⟨⟨hA1, hA3⟩, hB, hsz⟩ hK
    rw [fins_map 8 8 (Nat.le_refl _), blkAll_done] at hA1
    have HL := Lib.hid (bk_len (bkOf_ok ws))
    gi_wp2_with (first
      | (refine wpListIn_ldr_w _ rfl rfl rfl Try.underlying60 rfl bk_size HL.out hA1.rng ?_)
      | (refine wpListIn_stm_w (pre := []) (post := []) (xs := bkC bk0) _ _ rfl rfl rfl rfl bk_size (by rfl) HL.out (bk_one _) rfl (by simp) hA3 ?_; intro w2 A2 T2; have HA2 := Lib.hid A2; have HT2 := Lib.hid T2; clear A2 T2))
    have hD2 : w.heap.size ≠ D := by omega
    have hK2 : w2.heap[D]? = some (.deferred (some [])) := (HT2.out.block D (Array.getElem?_eq_some_iff.1 hK).1 (by unfold Just; omega)).trans hK
    have A2 := HA2.out
    rw [List.nil_append, List.append_nil] at A2
    exact post_mark hK2 (bk_res1 Try.results31 _ rfl (A2.mark hD2 _) HL.out) ⟨rfl, below_mark (hB.trans (HT2.out.below (fun k hk => by unfold Just at hk; omega) hB.size)) (by omega) hK2⟩
  case stop =>
    rintro D c pre W hD _ h _
    exact h.elim
end Go.Proofs.Ytfpfcmgcfbkolaa
