/- The iterators of layer latest: the pages of one block that count, and those of all. | The iterator over all pages that count (layer latest). | Contracts of the library's AppendSeq, Collect and SortedStableFunc at places, and of the program's newest (layer latest). -/
import Derived.Test.YtpkkejdjhnmjiaaGreatLatSym
import Derived.Test.YtpkkejdjhnmjiaaGreatScanIter
import Derived.Test.YtpkkejdjhnmjiaaGreatMid
import Derived.Test.YtpkkejdjhnmjiaaGreatSeq
import Derived.Test.YtpkkejdjhnmjiaaGreatScanTheirs
namespace Go.Proofs.YtpkkejdjhnmjiaaGreat
open Go.RowKit Bm Go.Shelf
attribute [local go_sem] Oper.semAt_some
def Kt (t : TypeId) : Prop := t = 80 ∨ t = 3 ∨ t = 128
structure KpL (n0 : Nat) (W W' : World) : Prop where
  below : Below n0 W W'
  box : ∀ k t cs, Kt t → At W k t cs → At W' k t cs
theorem KpL.trans {n0 : Nat} {A B C : World} (h : KpL n0 A B) (k : KpL n0 B C) : KpL n0 A C := ⟨h.below.trans k.below, fun b t cs ht hA => k.box b t cs ht (h.box b t cs ht hA)⟩
theorem KpL.refl (n0 : Nat) (W : World) : KpL n0 W W := ⟨Below.refl _ _, fun _ _ _ _ h => h⟩
theorem KpL.put {n0 : Nat} {w : World} (hn : n0 ≤ w.heap.size) (W : World) (l : Nat) (o o' : Obj) (hl : w.heap.size ≤ l) (h : W.heap[l]? = some o) (hc : o.isCells = false) (hw : o.isWalk = false) : KpL n0 W (W.putObj l o') :=
  ⟨belowK_b hn W l o o' hl h hc hw, fun k t cs _ hA => by
    have hne : k ≠ l := by
      rintro rfl
      unfold At at hA
      rw [h] at hA
      injection hA with hA
      rw [hA] at hc
      cases hc
    exact (World.putObj_heap_other (by omega)).trans hA⟩
theorem KpL.of_turned {n0 : Nat} {S : Nat → Prop} {W W' : World} (h : Turned S W W') (hS : ∀ k, S k → n0 ≤ k) (hn : n0 ≤ W.heap.size) (hb : ∀ k t cs, S k → At W k t cs → ¬ Kt t) : KpL n0 W W' :=
  ⟨h.below hS hn, fun k t cs ht hA => hA.kept h fun hs => hb k t cs hs hA ht⟩
def plE (x : PlM) : Array Value := #[.agg (plC x).toArray]
set_option maxRecDepth 100000 in
theorem run_ix8 (ks : List Int) (hk : ks.length = 8) (i : Nat) (hi : i < 8) (W : World) : (Instr.index 144 (.agg (Is ks).toArray) (.int .i64 (i : Int))).run Tryz.prog W = .ok (.int .i64 (nm ks i)) W := by
  have hp := part_one Tryz.underlying3 W (Is ks).toArray i (.int .i64 (nm ks i)) (by rw [List.getElem?_toArray]; exact Is_get ks i (by omega))
  have hs := size_of (P := Tryz.prog) (T := 3) (n := 1) (by kernel_rfl) W
  unfold Instr.index
  simp only [asIntOf, Sem.run_bind, Sem.run_pure, Result.andThen_ok, run_underlying Tryz.underlying144]
  rw [if_pos (by omega)]
  simp only [Sem.run_bind, hs, Result.andThen_ok, Int.toNat_natCast, Nat.mul_one]
  exact hp
theorem pg_sizeI : (Tryz.prog.info? 73).map (·.size) = some 7 := by kernel_rfl
theorem k8_size : (Tryz.prog.info? 144).map (·.size) = some 8 := by kernel_rfl
theorem bk_kinds_range {w : World} {g off : Nat} {b : BlkM} (hr : w.rangeAt g off (bkC b)) : w.rangeAt g (off + 2) (Is b.kinds) := fun j v hv => by
  have hj := (List.getElem?_eq_some_iff.1 hv).1
  have := hr (2 + j) v (by unfold bkC; rw [List.getElem?_append_right (by simp), List.length_cons, List.length_singleton, Nat.add_sub_cancel_left, List.getElem?_append_left hj]; exact hv)
  rwa [← Nat.add_assoc] at this
theorem cin_of (A : Option Addr) (n c : Nat) (b : Int) (w : World) :
    Calls Tryz.prog 59 #[.slice A n c, .int .i64 b] w fun e w' => e = .returned (.func (.func 76) #[] #[.pointer (some ⟨w.heap.size, 0, none⟩), .pointer (some ⟨w.heap.size + 1, 0, none⟩)]) ∧ w' = (w.alloc (.cells #[.slice A n c] 80)).alloc (.cells #[.int .i64 b] 3) := by
  go_enter Tryz.func59, Tryz.ntmps59
  go_wp2
  go_ret
  exact ⟨rfl, rfl⟩
theorem cnt_of (A : Option Addr) (n c : Nat) (w : World) :
    Calls Tryz.prog 40 #[.slice A n c] w fun e w' => e = .returned (.func (.func 58) #[] #[.pointer (some ⟨w.heap.size, 0, none⟩)]) ∧ w' = w.alloc (.cells #[.slice A n c] 80) := by
  go_enter Tryz.func40, Tryz.ntmps40
  go_wp2
  go_ret
  exact ⟨rfl, rfl⟩
section
variable {P : Program} {ops : Array Oper} {Q : Exit → Go.Act → World → Prop} {F : Fence} {n : Nat} {md : Region.Mode}
theorem take_in {i d : Nat} {oi : Oper} {v : Value} {fuel : Nat} {listed : Array Bool} {tmps : Array Value} {ds : List Deferred} {w : World} (hro : F.round = none) (hi : ops[i]? = some oi) (hd : oi.dst = some d)
    (hs : Region.noSelect ops = true) (hf : Region.free md ops listed i = true) (hr : (Region.ready md ops listed).contains i = true)
    (hQ : ∀ c a w, Q (.panic c) (a.put oi.dst v) w → Q (.panic c) a w) (hw : Region.wanted oi (yielded ops tmps) = true) (hy : ∀ w, (execOp (Act.eval { tmps := tmps, defers := ds }) oi).run P w = .ok (.value v) w) (ha : ∀ w, oi.about P w (Act.eval { tmps := tmps, defers := ds }) = none)
    (h : wpAnyIn F n P md ops Q fuel (listed.setIfInBounds i true) { tmps := tmps.setIfInBounds d v, defers := ds } w) : wpAnyIn F n P md ops Q (fuel + 1) listed { tmps := tmps, defers := ds } w :=
  wpAnyIn_take hro hi hs hf hr hQ ⟨.inl ⟨hw, hy⟩, ha⟩ (by rw [hd]; exact h)
theorem step_in {i d : Nat} {oi : Oper} {v : Value} {K : Go.Act → World → Prop} {tmps : Array Value} {ds : List Deferred} {w w' : World} (hi : ops[i]? = some oi) (hd : oi.dst = some d) (hw : Region.wanted oi (yielded ops tmps) = true)
    (hy : (execOp (Act.eval { tmps := tmps, defers := ds }) oi).run P w = .ok (.value v) w') (h : K { tmps := tmps.setIfInBounds d v, defers := ds } w') : wpOpIn Fence.wide n P ops Q i K { tmps := tmps, defers := ds } w := by
  unfold wpOpIn
  rw [hi]
  simp only [hw, if_true]
  refine ⟨fun _ _ => trivial, ?_⟩
  rw [show Fence.wide.round = none from rfl, Oper.semAt_none, hy]
  show K (Act.put _ oi.dst v) w'
  rw [hd]
  exact h
theorem yield_in {i d l m : Nat} {oi : Oper} {K : Go.Act → World → Prop} {tmps : Array Value} {ds : List Deferred} {w : World} {f : FuncId} {tt : Array Value} {asg bd : Code} {R : Ending → World → Prop} (hi : ops[i]? = some oi) (hd : oi.dst = some d) (hw : Region.wanted oi (yielded ops tmps) = true)
    (hy : (execOp (Act.eval { tmps := tmps, defers := ds }) oi).run P w = .ok (.round l f tt asg bd) w) (hR : RoundIn Fence.wide m P l f tt asg bd w R) (hK : ∀ e w', R e w' → ∃ v, e = .returned v ∧ K { tmps := tmps.setIfInBounds d v, defers := ds } w') : wpOpIn Fence.wide n P ops Q i K { tmps := tmps, defers := ds } w := by
  unfold wpOpIn
  rw [hi]
  simp only [hw, if_true]
  refine ⟨fun _ _ => trivial, ?_⟩
  rw [show Fence.wide.round = none from rfl, Oper.semAt_none, hy]
  refine ⟨fun h => (by cases h), (round_out hR).mono ?_⟩
  intro e w' he
  obtain ⟨v, rfl, hk⟩ := hK e w' he
  show K (Act.put _ oi.dst v) w'
  rw [hd]
  exact hk
end
theorem own_drewN {β : Type} {B : Nat} {J : β → World → Prop} (h : OwnFrom B J) {s : β} {w : World} (hs : J s w) (n : Nat) : J s (w.drewN n) :=
  h s w (w.drewN n) none hs ⟨rfl, rfl, rfl, Nat.le_refl _, fun _ _ _ => rfl⟩ (fun r e => by cases e)
theorem own_drew {β : Type} {B : Nat} {J : β → World → Prop} (h : OwnFrom B J) {s : β} {w : World} (hs : J s w) : J s w.drew := own_drewN h hs 1
theorem cntB_pre (bs : List BlkM) (b : Nat) : ∀ (d k : Nat), cntB bs b k <+: cntB bs b (k + d)
  | 0, k => List.prefix_refl _
  | d + 1, k => by
    rw [← Nat.add_assoc, cntB_succ]
    exact (cntB_pre bs b d k).trans (List.prefix_append _ _)
theorem pre_get {α : Type} {xs ys : List α} {x : α} (h : xs ++ [x] <+: ys) : ys[xs.length]? = some x := by
  obtain ⟨r, rfl⟩ := h
  rw [List.append_assoc, List.getElem?_append_right (Nat.le_refl _), Nat.sub_self]
  rfl
theorem cntB_pre8 (bs : List BlkM) (b k : Nat) (hk : k ≤ 8) : cntB bs b k <+: cntB bs b 8 := by
  have := cntB_pre bs b (8 - k) k
  rwa [show k + (8 - k) = 8 by omega] at this
set_option maxRecDepth 100000 in
set_option maxHeartbeats 2000000 in
theorem cin_in (fr l Bl Bb : Nat) (A : Option Addr) (n c : Nat) (bs : List BlkM) (b : Nat) (w0 : World) (hR : ReadsB w0 A n c bs) (hb : b < n) (B : Nat) (J Jx : Nat → World → Prop) (Oth Oth' : World → World → Prop) (hJ : OwnFrom B J)
    (hY : ∀ i x W, (cntB bs b 8)[i]? = some x → J i W → YieldAt Fence.wide 0 Tryz.prog l (plE x) W fun e W' =>
      (e = .returned (.bool true) ∧ J (i + 1) W' ∧ KpL w0.heap.size W W' ∧ Oth W W') ∨ (e = .returned (.bool false) ∧ Jx i W' ∧ Oth' W W'))
    (W : World) (hW0 : Below w0.heap.size w0 W) (hBl : At W Bl 80 [.slice A n c]) (hBb : At W Bb 3 [.int .i64 b]) (h0 : J 0 W) :
    CallsIn Fence.wide fr Tryz.prog 76 #[.func (.yield l) #[] #[], .pointer (some ⟨Bl, 0, none⟩), .pointer (some ⟨Bb, 0, none⟩)] W fun e W' => (∃ v, e = .returned v) ∧
      (J (cntB bs b 8).length W' ∨ ∃ i, i < (cntB bs b 8).length ∧ Jx i W') := by
  obtain ⟨g, off, rfl, hg, hr⟩ := hR.at_ hb
  have HOK := Lib.hid (hR.okN hb)
  obtain ⟨q, hq⟩ : ∃ q, q = bkN bs b := ⟨_, rfl⟩
  rw [← hq] at hr HOK
  have HQ := Lib.hid hq
  have HR := Lib.hid hr
  have HG := Lib.hid hg
  have cl := hBl.cell 0
  have cb := hBb.cell 0
  simp only [List.getElem?_cons_zero] at cl cb
  have b0 : (0 : Int) ≤ (b : Int) := by omega
  have b1 : (b : Int) < (n : Int) := by omega
  have HKR := Lib.hid (bk_kinds_range (range_kept hr (hW0.block g hg)))
  have HKL : Hid ((Is q.kinds).length = 8) := Lib.hid (by rw [Is_length]; exact HOK.out.k)
  have HW0 := Lib.hid hW0
  have HBl := Lib.hid hBl
  have HBb := Lib.hid hBb
  clear hq hr hg hW0 hBl hBb hR
  refine callsIn_of_wp Tryz.func76 rfl trivial ?_ rfl
  simp only [Tryz.ntmps76, List.size_toArray, List.length_cons, List.length_nil, Nat.reduceAdd, Nat.reduceSub, Array.replicate_succ, Array.replicate_zero, List.push_toArray, List.append_toArray, List.nil_append, List.cons_append]
  gi_wp2_with (refine wpListIn_ldr_w _ rfl rfl rfl Tryz.underlying144 rfl k8_size HKL.out HKR.out ?_)
  clear cl cb
  gi_loopw [14] (fun i wr => ∃ k : Nat, k ≤ 8 ∧ i = .int .i64 k ∧ J (cntB bs b k).length wr ∧ At wr Bl 80 [.slice (some ⟨g, off, none⟩) n c] ∧ At wr Bb 3 [.int .i64 b] ∧ Below w0.heap.size w0 wr) (fun i _ => 8 - (intOf i).toNat)
  case atStart => exact ⟨0, Nat.zero_le _, rfl, h0, HBl.out, HBb.out, HW0.out⟩
  case round =>
    obtain ⟨k, hk, rfl, hJs, hL, hBk, hB⟩ := hrel
    have HJs := Lib.hid hJs
    have HL := Lib.hid hL
    have HBk := Lib.hid hBk
    have HB := Lib.hid hB
    clear hJs hL hBk hB
    by_cases hlt : k < 8
    · have hix := fun W => run_ix8 q.kinds HOK.out.k k hlt W
      have k0 : (0 : Int) ≤ (k : Int) := by omega
      have k1 : (k : Int) < 8 := by omega
      by_cases hk1 : nm q.kinds k = 1
      · have hd : (nm q.kinds k == 1) = true := by rw [beq_iff_eq]; exact hk1
        obtain ⟨pg, hpg⟩ : ∃ pg, pg = pgN q.pages k := ⟨_, rfl⟩
        obtain ⟨X, hX⟩ : ∃ X : PlM, X = ⟨b, k, pg⟩ := ⟨_, rfl⟩
        have HNX : Hid (cntB bs b (k + 1) = cntB bs b k ++ [X]) := Lib.hid (by rw [cntB_succ, ← HQ.out, if_pos hk1, hX, hpg])
        have hrp : wr.drew.rangeAt g (off + b * 66 + 10 + k * 7) (pgC pg) := by rw [hpg]; exact bk_page_range HOK.out (range_kept HR.out (HB.out.block g HG.out)) k hlt
        have LDP : Hid (((Instr.loadAt 73 (.pointer (some ⟨g, off + b * 66 + 10 + k * 7, none⟩))).run Tryz.prog wr.drew).andThen (fun a w' => (pure (Next.value a) : Sem Next).run Tryz.prog w') = .ok (.value (.agg (pgC pg).toArray)) wr.drew) := Lib.hid (by
          rw [run_loadAt_mid wr.drew g _ 73 (pgC pg) _ hrp Tryz.underlying73 rfl (by rw [pg_sizeI, pgC_len])]
          simp)
        have BLD : Hid (((Instr.build 75 #[(0, .int .i64 (b : Int)), (1, .int .i64 (k : Int)), (2, .agg (pgC pg).toArray)]).run Tryz.prog wr.drew).andThen (fun a w' => (pure (Next.value a) : Sem Next).run Tryz.prog w') = .ok (.value (.agg (plC X).toArray)) wr.drew) := Lib.hid (by
          rw [run_sbuild, hX]
          simp)
        have HGT : Hid ((cntB bs b 8)[(cntB bs b k).length]? = some X) := Lib.hid (pre_get (by rw [← HNX.out]; exact cntB_pre8 bs b (k + 1) (by omega)))
        obtain ⟨fn, tmps, assign, body, hy, hR⟩ := hY _ X wr.drew HGT.out (own_drew hJ HJs.out)
        unfold plE at hy
        have cb : wr.drew.cell? ⟨Bb, 0, none⟩ = some (.int .i64 b) := HBk.out.cell 0
        clear hk1 hX hpg hrp
        gi_wp2
        refine wpIn_region_any (by kernel_rfl) ?_
        change wpAnyIn _ _ _ _ _ _ _ _ _ (World.drew _)
        refine take_in (i := 0) (d := 18) (v := .int .i64 (nm q.kinds k)) rfl rfl rfl (by kernel_rfl) (by kernel_rfl) (by kernel_rfl) (fun _ _ _ h => h) (by kernel_rfl) (fun w => by go_simp) (fun _ => rfl) ?_
        simp only [List.setIfInBounds_toArray, List.set_cons_zero, List.set_cons_succ]
        refine take_in (i := 1) (d := 19) (v := .bool true) rfl rfl rfl (by kernel_rfl) (by kernel_rfl) (by kernel_rfl) (fun _ _ _ h => h) (by kernel_rfl) (fun w => by go_simp) (fun _ => rfl) ?_
        simp only [List.setIfInBounds_toArray, List.set_cons_zero, List.set_cons_succ]
        refine take_in (i := 2) (d := 20) (v := .bool true) rfl rfl rfl (by kernel_rfl) (by kernel_rfl) (by kernel_rfl) (fun _ _ _ h => h) (by kernel_rfl) (fun w => by go_simp) (fun _ => rfl) ?_
        simp only [List.setIfInBounds_toArray, List.set_cons_zero, List.set_cons_succ]
        refine take_in (i := 3) (d := 21) (v := .func (.yield l) #[] #[]) rfl rfl rfl (by kernel_rfl) (by kernel_rfl) (by kernel_rfl) (fun _ _ _ h => h) (by kernel_rfl) (fun w => by go_simp) (fun _ => rfl) ?_
        simp only [List.setIfInBounds_toArray, List.set_cons_zero, List.set_cons_succ]
        refine take_in (i := 5) (d := 23) (v := .int .i64 k) rfl rfl rfl (by kernel_rfl) (by kernel_rfl) (by kernel_rfl) (fun _ _ _ h => h) (by kernel_rfl) (fun w => by go_simp) (fun _ => rfl) ?_
        simp only [List.setIfInBounds_toArray, List.set_cons_zero, List.set_cons_succ]
        refine take_in (i := 6) (d := 24) (v := .pointer (some ⟨g, off + b * 66, none⟩)) rfl rfl rfl (by kernel_rfl) (by kernel_rfl) (by kernel_rfl) (fun _ _ _ h => h) (by kernel_rfl) (fun w => by go_simp) (fun _ => rfl) ?_
        simp only [List.setIfInBounds_toArray, List.set_cons_zero, List.set_cons_succ]
        refine take_in (i := 7) (d := 25) (v := .int .i64 k) rfl rfl rfl (by kernel_rfl) (by kernel_rfl) (by kernel_rfl) (fun _ _ _ h => h) (by kernel_rfl) (fun w => by go_simp) (fun _ => rfl) ?_
        simp only [List.setIfInBounds_toArray, List.set_cons_zero, List.set_cons_succ]
        refine take_in (i := 8) (d := 26) (v := .pointer (some ⟨g, off + b * 66, none⟩)) rfl rfl rfl (by kernel_rfl) (by kernel_rfl) (by kernel_rfl) (fun _ _ _ h => h) (by kernel_rfl) (fun w => by go_simp) (fun _ => rfl) ?_
        simp only [List.setIfInBounds_toArray, List.set_cons_zero, List.set_cons_succ]
        refine take_in (i := 9) (d := 27) (v := .pointer (some ⟨g, off + b * 66 + 10, none⟩)) rfl rfl rfl (by kernel_rfl) (by kernel_rfl) (by kernel_rfl) (fun _ _ _ h => h) (by kernel_rfl) (fun w => by go_simp) (fun _ => rfl) ?_
        simp only [List.setIfInBounds_toArray, List.set_cons_zero, List.set_cons_succ]
        refine take_in (i := 10) (d := 28) (v := .pointer (some ⟨g, off + b * 66 + 10 + k * 7, none⟩)) rfl rfl rfl (by kernel_rfl) (by kernel_rfl) (by kernel_rfl) (fun _ _ _ h => h) (by kernel_rfl) (fun w => by go_simp) (fun _ => rfl) ?_
        simp only [List.setIfInBounds_toArray, List.set_cons_zero, List.set_cons_succ]
        refine wpAnyIn_all (rs := [4, 11]) (by kernel_rfl) (by simp) ?_
        intro i hi
        obtain rfl | rfl : i = 4 ∨ i = 11 := by simpa using hi
        · refine step_in (d := 22) rfl rfl (by kernel_rfl) (v := .int .i64 b) (w' := wr.drew) (by go_simp) ?_
          simp only [List.setIfInBounds_toArray, List.set_cons_zero, List.set_cons_succ]
          refine wpAnyIn_all (rs := [11]) (by kernel_rfl) (by simp) ?_
          intro i hi
          obtain rfl : i = 11 := by simpa using hi
          refine step_in (d := 29) rfl rfl (by kernel_rfl) (v := .agg (pgC pg).toArray) (w' := wr.drew) (by show (execOp _ { dst := some 29, op := .load 73 (.tmp 28), type := _, pos := _, after := _, guard := _ }).run _ _ = _; unfold execOp; simp only [Sem.run_bind]; exact LDP.out) ?_
          simp only [List.setIfInBounds_toArray, List.set_cons_zero, List.set_cons_succ]
          refine wpAnyIn_all (rs := [12]) (by kernel_rfl) (by simp) ?_
          intro i hi
          obtain rfl : i = 12 := by simpa using hi
          refine step_in (d := 30) rfl rfl (by kernel_rfl) (v := .agg (plC X).toArray) (w' := wr.drew) (by show (execOp _ { dst := some 30, op := .build 75 #[(0, .tmp 22), (1, .tmp 23), (2, .tmp 29)], type := _, pos := _, after := _, guard := _ }).run _ _ = _; unfold execOp; simp only [List.map_toArray, List.map_cons, List.map_nil, Sem.run_bind]; exact BLD.out) ?_
          simp only [List.setIfInBounds_toArray, List.set_cons_zero, List.set_cons_succ]
          refine wpAnyIn_all (rs := [13]) (by kernel_rfl) (by simp) ?_
          intro i hi
          obtain rfl : i = 13 := by simpa using hi
          refine yield_in (d := 31) rfl rfl (by kernel_rfl) (by go_simp) hR ?_
          rintro e W3 (⟨rfl, hJ3, hk3, _⟩ | ⟨rfl, hJx3, _⟩)
          · refine ⟨_, rfl, ?_⟩
            have HJ3 := Lib.hid hJ3
            have HK3 := Lib.hid hk3
            clear hJ3 hk3
            simp only [List.setIfInBounds_toArray, List.set_cons_zero, List.set_cons_succ]
            refine wpAnyIn_all (rs := [14]) (by kernel_rfl) (by simp) ?_
            intro i hi
            obtain rfl : i = 14 := by simpa using hi
            refine step_in (d := 32) rfl rfl (by kernel_rfl) (v := .bool false) (w' := W3) (by go_simp) ?_
            simp only [List.setIfInBounds_toArray, List.set_cons_zero, List.set_cons_succ]
            refine wpAnyIn_all (rs := [15]) (by kernel_rfl) (by simp) ?_
            intro i hi
            obtain rfl : i = 15 := by simpa using hi
            refine step_in (d := 33) rfl rfl (by kernel_rfl) (v := .bool false) (w' := W3) (by go_simp) ?_
            simp only [List.setIfInBounds_toArray, List.set_cons_zero, List.set_cons_succ]
            refine wpAnyIn_done (by kernel_rfl) ?_ _
            gi_wp2
            go_roundw
            case rel => exact ⟨k + 1, by omega, by go_num, by rw [HNX.out, List.length_append]; exact HJ3.out, HK3.out.box _ _ _ (.inl rfl) HL.out.drew, HK3.out.box _ _ _ (.inr (.inl rfl)) HBk.out.drew, HB.out.drew.trans HK3.out.below⟩
            case measure => simp [intOf]; omega
          · refine ⟨_, rfl, ?_⟩
            have HJ3 := Lib.hid hJx3
            clear hJx3
            simp only [List.setIfInBounds_toArray, List.set_cons_zero, List.set_cons_succ]
            refine wpAnyIn_all (rs := [14]) (by kernel_rfl) (by simp) ?_
            intro i hi
            obtain rfl : i = 14 := by simpa using hi
            refine step_in (d := 32) rfl rfl (by kernel_rfl) (v := .bool true) (w' := W3) (by go_simp) ?_
            simp only [List.setIfInBounds_toArray, List.set_cons_zero, List.set_cons_succ]
            refine wpAnyIn_all (rs := [15]) (by kernel_rfl) (by simp) ?_
            intro i hi
            obtain rfl : i = 15 := by simpa using hi
            refine step_in (d := 33) rfl rfl (by kernel_rfl) (v := .bool true) (w' := W3) (by go_simp) ?_
            simp only [List.setIfInBounds_toArray, List.set_cons_zero, List.set_cons_succ]
            refine wpAnyIn_done (by kernel_rfl) ?_ _
            gi_wp2
            refine bodyPost_ret (results_none rfl _ _ _) rfl ?_
            exact ⟨⟨_, rfl⟩, .inr ⟨_, (List.getElem?_eq_some_iff.1 HGT.out).1, HJ3.out⟩⟩
        · refine step_in (d := 29) rfl rfl (by kernel_rfl) (v := .agg (pgC pg).toArray) (w' := wr.drew) (by show (execOp _ { dst := some 29, op := .load 73 (.tmp 28), type := _, pos := _, after := _, guard := _ }).run _ _ = _; unfold execOp; simp only [Sem.run_bind]; exact LDP.out) ?_
          simp only [List.setIfInBounds_toArray, List.set_cons_zero, List.set_cons_succ]
          refine wpAnyIn_all (rs := [4]) (by kernel_rfl) (by simp) ?_
          intro i hi
          obtain rfl : i = 4 := by simpa using hi
          refine step_in (d := 22) rfl rfl (by kernel_rfl) (v := .int .i64 b) (w' := wr.drew) (by go_simp) ?_
          simp only [List.setIfInBounds_toArray, List.set_cons_zero, List.set_cons_succ]
          refine wpAnyIn_all (rs := [12]) (by kernel_rfl) (by simp) ?_
          intro i hi
          obtain rfl : i = 12 := by simpa using hi
          refine step_in (d := 30) rfl rfl (by kernel_rfl) (v := .agg (plC X).toArray) (w' := wr.drew) (by show (execOp _ { dst := some 30, op := .build 75 #[(0, .tmp 22), (1, .tmp 23), (2, .tmp 29)], type := _, pos := _, after := _, guard := _ }).run _ _ = _; unfold execOp; simp only [List.map_toArray, List.map_cons, List.map_nil, Sem.run_bind]; exact BLD.out) ?_
          simp only [List.setIfInBounds_toArray, List.set_cons_zero, List.set_cons_succ]
          refine wpAnyIn_all (rs := [13]) (by kernel_rfl) (by simp) ?_
          intro i hi
          obtain rfl : i = 13 := by simpa using hi
          refine yield_in (d := 31) rfl rfl (by kernel_rfl) (by go_simp) hR ?_
          rintro e W3 (⟨rfl, hJ3, hk3, _⟩ | ⟨rfl, hJx3, _⟩)
          · refine ⟨_, rfl, ?_⟩
            have HJ3 := Lib.hid hJ3
            have HK3 := Lib.hid hk3
            clear hJ3 hk3
            simp only [List.setIfInBounds_toArray, List.set_cons_zero, List.set_cons_succ]
            refine wpAnyIn_all (rs := [14]) (by kernel_rfl) (by simp) ?_
            intro i hi
            obtain rfl : i = 14 := by simpa using hi
            refine step_in (d := 32) rfl rfl (by kernel_rfl) (v := .bool false) (w' := W3) (by go_simp) ?_
            simp only [List.setIfInBounds_toArray, List.set_cons_zero, List.set_cons_succ]
            refine wpAnyIn_all (rs := [15]) (by kernel_rfl) (by simp) ?_
            intro i hi
            obtain rfl : i = 15 := by simpa using hi
            refine step_in (d := 33) rfl rfl (by kernel_rfl) (v := .bool false) (w' := W3) (by go_simp) ?_
            simp only [List.setIfInBounds_toArray, List.set_cons_zero, List.set_cons_succ]
            refine wpAnyIn_done (by kernel_rfl) ?_ _
            gi_wp2
            go_roundw
            case rel => exact ⟨k + 1, by omega, by go_num, by rw [HNX.out, List.length_append]; exact HJ3.out, HK3.out.box _ _ _ (.inl rfl) HL.out.drew, HK3.out.box _ _ _ (.inr (.inl rfl)) HBk.out.drew, HB.out.drew.trans HK3.out.below⟩
            case measure => simp [intOf]; omega
          · refine ⟨_, rfl, ?_⟩
            have HJ3 := Lib.hid hJx3
            clear hJx3
            simp only [List.setIfInBounds_toArray, List.set_cons_zero, List.set_cons_succ]
            refine wpAnyIn_all (rs := [14]) (by kernel_rfl) (by simp) ?_
            intro i hi
            obtain rfl : i = 14 := by simpa using hi
            refine step_in (d := 32) rfl rfl (by kernel_rfl) (v := .bool true) (w' := W3) (by go_simp) ?_
            simp only [List.setIfInBounds_toArray, List.set_cons_zero, List.set_cons_succ]
            refine wpAnyIn_all (rs := [15]) (by kernel_rfl) (by simp) ?_
            intro i hi
            obtain rfl : i = 15 := by simpa using hi
            refine step_in (d := 33) rfl rfl (by kernel_rfl) (v := .bool true) (w' := W3) (by go_simp) ?_
            simp only [List.setIfInBounds_toArray, List.set_cons_zero, List.set_cons_succ]
            refine wpAnyIn_done (by kernel_rfl) ?_ _
            gi_wp2
            refine bodyPost_ret (results_none rfl _ _ _) rfl ?_
            exact ⟨⟨_, rfl⟩, .inr ⟨_, (List.getElem?_eq_some_iff.1 HGT.out).1, HJ3.out⟩⟩
      · have hd : (nm q.kinds k == 1) = false := by rw [beq_eq_false_iff_ne]; exact hk1
        have HNX : Hid (cntB bs b (k + 1) = cntB bs b k) := Lib.hid (by rw [cntB_succ, ← HQ.out, if_neg hk1, List.append_nil])
        clear hk1
        gi_wp2
        refine wpIn_wide.2 ?_
        go_quiet (fail)
        have HJn := Lib.hid (own_drewN hJ HJs.out nq)
        gi_wp2
        go_roundw
        case rel => exact ⟨k + 1, by omega, by go_num, by rw [HNX.out]; exact HJn.out, HL.out.drewN nq, HBk.out.drewN nq, HB.out.trans (below_drewN' _ _ nq)⟩
        case measure => simp [intOf]; omega
    · obtain rfl : k = 8 := by omega
      gi_wp2
      go_end0
      exact ⟨⟨_, rfl⟩, .inl HJs.out⟩
theorem cin_seq (Bl Bb : Nat) (A : Option Addr) (n c : Nat) (bs : List BlkM) (b : Nat) (w0 w : World) (hR : ReadsB w0 A n c bs) (hb : b < n) (hB : Below w0.heap.size w0 w) (hBl : At w Bl 80 [.slice A n c]) (hBb : At w Bb 3 [.int .i64 b]) :
    SeqI Tryz.prog 76 #[.pointer (some ⟨Bl, 0, none⟩), .pointer (some ⟨Bb, 0, none⟩)] plE (KpL w0.heap.size) (cntB bs b 8) w := fun fr l J Jx W hW _ hJ _ hY h0 =>
  cin_in fr l Bl Bb A n c bs b w0 hR hb _ J Jx _ _ hJ hY W (hB.trans (hW.mono hB.size)) (hBl.kept (Turned.of_below hW (Nat.le_refl _) NoBlock) (fun h => h)) (hBb.kept (Turned.of_below hW (Nat.le_refl _) NoBlock) (fun h => h)) h0
end Go.Proofs.YtpkkejdjhnmjiaaGreat
namespace Go.Proofs.YtpkkejdjhnmjiaaGreat
open Go.RowKit Bm Go.Shelf
attribute [local go_sem] Oper.semAt_some
def markD (D : Nat) : Deferred := { target := .collected D, args := #[] }
def MarksAt (B : Nat) (M : List Nat) (W : World) : Prop := M.Nodup ∧ ∀ D ∈ M, B ≤ D ∧ W.heap[D]? = some (.deferred (some []))
theorem leave_all {F : Fence} {n : Nat} {P : Program} {fn : Func} {tmps : Array Value} {R : Ending → World → Prop} {B : Nat} (Good : World → Prop) (hstep : ∀ X D, Good X → B ≤ D → X.heap[D]? = some (.deferred (some [])) → Good (X.putObj D (.deferred none)))
    (hend : ∀ X, Good X → ∃ v, (results fn tmps).run P X = .ok v X ∧ R (.returned v) X) : ∀ (M : List Nat) (X : World), MarksAt B M X → Good X → LeavesInM F n P fn tmps R (M.map markD) .returning X
  | [], X, _, hg => by
    obtain ⟨v, h1, h2⟩ := hend X hg
    exact ⟨v, h1, h2⟩
  | D :: M, X, hm, hg => by
    obtain ⟨hn, ha⟩ := hm
    obtain ⟨h1, h2⟩ := ha D (by simp)
    have hn' := List.nodup_cons.1 hn
    refine ⟨by simp, .inl ⟨D, _, rfl, run_takeDeferred h2, leave_all Good hstep hend M _ ⟨hn'.2, fun E hE => ?_⟩ (hstep X D hg h1 h2)⟩⟩
    obtain ⟨k1, k2⟩ := ha E (by simp [hE])
    exact ⟨k1, (World.putObj_heap_other (by rintro rfl; exact hn'.1 hE)).trans k2⟩
theorem own_mono {β : Type} {B B' : Nat} {I : β → World → Prop} (h : OwnFrom B I) (hB : B ≤ B') : OwnFrom B' I := fun s W W' row hs hg hr => h s W W' row hs hg fun r e => ⟨Nat.le_trans hB (hr r e).1, (hr r e).2⟩
theorem own_at {β γ : Type} {B : Nat} {I : β → World → Prop} (h : OwnFrom B I) (f : γ → β) : OwnFrom B (fun s W => I (f s) W) := fun s => h (f s)
theorem marks_own {β : Type} {B B' : Nat} {M : List Nat} (hM : ∀ D ∈ M, D < B') : OwnFrom B' (fun (_ : β) W => MarksAt B M W) := fun _ W W' row hs hg hr =>
  ⟨hs.1, fun D hD => ⟨(hs.2 D hD).1, (hg.block D (Array.getElem?_eq_some_iff.1 (hs.2 D hD).2).1 (fun e => by have := (hr D e.symm).1; have := hM D hD; omega)).trans (hs.2 D hD).2⟩⟩
theorem own_new {β : Type} {B : Nat} {I : β → World → Prop} (h : OwnFrom B I) {s : β} {W W' : World} (hs : I s W) (hT : Turned NoBlock W W') : I s W' :=
  h s W W' none hs ⟨hT.os, hT.tape, hT.output, hT.size, fun k hk _ => hT.block k hk (fun h => h)⟩ (fun r e => by cases e)
theorem cnt_pre (bs : List BlkM) : ∀ (d j : Nat), cntU bs j <+: cntU bs (j + d)
  | 0, j => List.prefix_refl _
  | d + 1, j => by
    rw [← Nat.add_assoc, cntU_succ]
    exact (cnt_pre bs d j).trans (List.prefix_append _ _)
theorem cnt_get {bs : List BlkM} {j i : Nat} {x : PlM} (hj : j < bs.length) (hx : (cntB bs j 8)[i]? = some x) : (cnt bs)[(cntU bs j).length + i]? = some x := by
  obtain ⟨r, hr⟩ := cnt_pre bs (bs.length - (j + 1)) (j + 1)
  rw [show j + 1 + (bs.length - (j + 1)) = bs.length by omega] at hr
  unfold cnt
  rw [← hr, cntU_succ, List.append_assoc, List.getElem?_append_right (by omega), Nat.add_sub_cancel_left, List.getElem?_append_left (List.getElem?_eq_some_iff.1 hx).1]
  exact hx
set_option maxRecDepth 100000 in
set_option maxHeartbeats 2000000 in
theorem cnt_in (fr l Bl : Nat) (A : Option Addr) (n c : Nat) (bs : List BlkM) (w0 : World) (hR : ReadsB w0 A n c bs) (J Jx : Nat → World → Prop)
    (W : World) (hl : l < W.heap.size) (hJ : OwnFrom W.heap.size J) (hJx : OwnFrom W.heap.size Jx)
    (hY : ∀ i x W1, (cnt bs)[i]? = some x → J i W1 → YieldAt Fence.wide 0 Tryz.prog l (plE x) W1 fun e W' =>
      (e = .returned (.bool true) ∧ J (i + 1) W' ∧ KpL w0.heap.size W1 W' ∧ Others W.heap.size l W1 W') ∨ (e = .returned (.bool false) ∧ Jx i W' ∧ W1.heap.size ≤ W'.heap.size ∧ Others W.heap.size l W1 W'))
    (hW0 : Below w0.heap.size w0 W) (hBl : At W Bl 80 [.slice A n c]) (h0 : J 0 W) :
    CallsIn Fence.wide fr Tryz.prog 58 #[.func (.yield l) #[] #[], .pointer (some ⟨Bl, 0, none⟩)] W fun e W' => (∃ v, e = .returned v) ∧
      (J (cnt bs).length W' ∨ ∃ i, i < (cnt bs).length ∧ Jx i W') := by
  have hz := spl_zero
  have hnm : (n : Int) ≤ 9223372036854775807 := by have := hR.le; have := hR.max; unfold maxLen at *; omega
  have cl := hBl.cell 0
  simp only [List.getElem?_cons_zero] at cl
  obtain ⟨W1, hW1⟩ : ∃ W1, W1 = W.alloc (.cells #[.func (.yield l) #[] #[]] 128) := ⟨_, rfl⟩
  have hJ1 : J 0 W1 := by rw [hW1]; exact hJ.alloc _ h0
  have hBl1 : At W1 Bl 80 [.slice A n c] := by rw [hW1]; exact hBl.alloc _
  have hBy1 : At W1 W.heap.size 128 [.func (.yield l) #[] #[]] := by rw [hW1]; exact At.news W _ _
  have hW01 : Below w0.heap.size w0 W1 := by rw [hW1]; exact hW0.alloc hW0.size _
  have hsz1 : W.heap.size ≤ W1.heap.size := by rw [hW1]; simp
  have HW1 := Lib.hid hW1
  have cl1 := hBl1.cell 0
  simp only [List.getElem?_cons_zero] at cl1
  rw [hW1] at cl1
  clear hW1
  refine callsIn_of_wp_marks Tryz.func58 rfl trivial ?_
  simp only [Tryz.ntmps58, List.size_toArray, List.length_cons, List.length_nil, Nat.reduceAdd, Nat.reduceSub, Array.replicate_succ, Array.replicate_zero, List.push_toArray, List.append_toArray, List.nil_append, List.cons_append]
  gi_wp2
  rw [← HW1.out]
  refine wpIn_loop (fun a wr => ∃ (j : Nat) (u3 u4 u8 u9 u10 u11 u12 u13 u14 u15 u16 u17 u18 : Value) (M : List Nat), a = { tmps := #[.func (.yield l) #[] #[], .pointer (some ⟨Bl, 0, none⟩), .pointer (some ⟨W.heap.size, 0, none⟩), u3, u4, .slice A n c, .int .i64 n, .int .i64 j, u8, u9, u10, u11, u12, u13, u14, u15, u16, u17, u18], defers := M.map markD } ∧ j ≤ n ∧ J (cntU bs j).length wr ∧ At wr Bl 80 [.slice A n c] ∧ At wr W.heap.size 128 [.func (.yield l) #[] #[]] ∧ Below w0.heap.size w0 wr ∧ W.heap.size ≤ wr.heap.size ∧ MarksAt W.heap.size M wr)
    (fun a _ => n - (intOf (a.tmps.getD 7 undef)).toNat) ?start ?round
  case start => exact ⟨0, _, _, _, _, _, _, _, _, _, _, _, _, _, [], rfl, Nat.zero_le _, hJ1, hBl1, hBy1, hW01, hsz1, List.nodup_nil, fun D hD => by cases hD⟩
  case round =>
    rintro a wr ⟨j, u3, u4, u8, u9, u10, u11, u12, u13, u14, u15, u16, u17, u18, M, rfl, hj, hJs, hL, hYb, hB, hsz, hM⟩
    have HJs := Lib.hid hJs
    have HL := Lib.hid hL
    have HYb := Lib.hid hYb
    have HB := Lib.hid hB
    have HSZ := Lib.hid hsz
    have HM := Lib.hid hM
    have cl2 := hL.cell 0
    simp only [List.getElem?_cons_zero] at cl2
    clear hJs hL hYb hB hsz hM hJ1 hBl1 hBy1 hW01 hsz1 cl cl1
    by_cases hlt : j < n
    · have j0 : (0 : Int) ≤ (j : Int) := by omega
      have j1 : (j : Int) < (n : Int) := by omega
      gi_wp2_with (refine ⟨trivial, fun h => (by cases h), ?_⟩; gi_at_call 59; refine (callsIn_wide.2 (cin_of _ _ _ _ _)).mono ?_; rintro e w' ⟨rfl, rfl⟩)
      obtain ⟨V, hV⟩ : ∃ V, (wr.alloc (Obj.cells #[Value.slice A n c] 80)).alloc (Obj.cells #[Value.int IntKind.i64 (j : Int)] 3) = V := ⟨_, rfl⟩
      have vs : wr.heap.size + 2 = V.heap.size := by rw [← hV]; simp
      have v1 : At V wr.heap.size 80 [.slice A n c] := by rw [← hV]; exact (At.news wr _ _).alloc _
      have v2 : At V (wr.heap.size + 1) 3 [.int .i64 (j : Int)] := by rw [← hV]; exact At.alloc_new _ _ _ (by simp) rfl
      have vb : Below w0.heap.size w0 V := by rw [← hV]; exact (HB.out.alloc HB.out.size _).alloc (by have := HB.out.size; simp; omega) _
      have vJ : J ((cntU bs j).length + 0) V := by rw [← hV]; exact hJ.alloc _ (hJ.alloc _ HJs.out)
      have vL : At V Bl 80 [.slice A n c] := by rw [← hV]; exact (HL.out.alloc _).alloc _
      have vY : At V W.heap.size 128 [.func (.yield l) #[] #[]] := by rw [← hV]; exact (HYb.out.alloc _).alloc _
      have vM : MarksAt W.heap.size M V := by rw [← hV]; exact ⟨HM.out.1, fun D hD => ⟨(HM.out.2 D hD).1, (Below.heap_alloc _ _ _ (by have := (Array.getElem?_eq_some_iff.1 (HM.out.2 D hD).2).1; simp; omega)).trans ((Below.heap_alloc _ _ _ (Array.getElem?_eq_some_iff.1 (HM.out.2 D hD).2).1).trans (HM.out.2 D hD).2)⟩⟩
      have hMV : ∀ D ∈ M, D < V.heap.size := fun D hD => (Array.getElem?_eq_some_iff.1 (vM.2 D hD).2).1
      have hsz := HSZ.out
      have hl' : l < V.heap.size := by omega
      have hsz' : W.heap.size ≤ V.heap.size := by omega
      have hbs := hR.len
      have vsz : w0.heap.size ≤ V.heap.size := vb.size
      rw [hV]
      clear hV
      refine range_outer (gf := 76) (lb := #[.pointer (some ⟨wr.heap.size, 0, none⟩), .pointer (some ⟨wr.heap.size + 1, 0, none⟩)]) (encs := plE) (Kp := KpL w0.heap.size) (xs := cntB bs j 8) (w0 := V) (m := 8)
        (I := fun i X => J ((cntU bs j).length + i) X ∧ (At X Bl 80 [.slice A n c] ∧ At X W.heap.size 128 [.func (.yield l) #[] #[]]) ∧ (Below w0.heap.size w0 X ∧ V.heap.size ≤ X.heap.size) ∧ MarksAt W.heap.size M X)
        (Ix := fun co i X => (co = .ret ∧ V.heap.size ≤ X.heap.size) ∧ Jx ((cntU bs j).length + i) X ∧ MarksAt W.heap.size M X)
        rfl (enters_of Tryz.func76 (by kernel_rfl) rfl) (cin_seq _ _ A n c bs j w0 V hR hlt vb v1 v2) (Below.refl _ _) KpL.trans (KpL.put vsz) (fun _ => rfl)
        (OwnFrom.and (own_at (own_mono hJ (by omega)) (fun i => (cntU bs j).length + i)) (OwnFrom.and (OwnFrom.and (At.own_from (f := fun _ => [.slice A n c])) (At.own_from (f := fun _ => [.func (.yield l) #[] #[]]))) (OwnFrom.and (OwnFrom.and (ownFrom_below (Nat.le_refl _) vsz) (size_own_from _ _)) (marks_own hMV))))
        (fun co => OwnFrom.and (OwnFrom.and (ownFrom_pure _ _) (size_own_from _ _)) (OwnFrom.and (own_at (own_mono hJx (by omega)) (fun i => (cntU bs j).length + i)) (marks_own hMV)))
        ⟨vJ, ⟨vL, vY⟩, ⟨vb, Nat.le_refl _⟩, vM⟩ ?rnd ?dn ?st
      case rnd =>
        rintro l2 i x X hl2 ⟨r2, hr2⟩ ⟨xJ, ⟨xL, xY⟩, ⟨xb, xs⟩, xM⟩ hx
        have hjb : j < bs.length := by omega
        have HX := Lib.hid hx
        have HXB := Lib.hid xb
        have HXS := Lib.hid xs
        clear hx xb xs
        unfold plE
        gi_wp2_with (refine wpListIn_stm (pre := []) (post := []) (xs := plC pl0) (ys := plC x) _ _ rfl rfl rfl rfl spl_size (plC_len _) (plC_len _) (plC_one _) rfl (by simp) (At.news X _ (plC pl0)) ?_; intro X1 A1 T1; rw [List.nil_append, List.append_nil] at A1; have HA1 := Lib.hid A1; have HT1 := Lib.hid T1; clear A1 T1)
        have TX : Turned NoBlock X X1 := ((Turned.refl NoBlock X).alloc _).after HT1.out (fun k hk he => by unfold Just at he; omega)
        refine ⟨TX.from _ (fun k hk => hk.elim), KpL.of_turned TX (fun k hk => hk.elim) HXB.out.size (fun k t cs hk => hk.elim), ⟨own_new hJ xJ TX, ⟨xL.kept TX (fun h => h), xY.kept TX (fun h => h)⟩, ⟨HXB.out.trans (TX.below (fun k hk => hk.elim) HXB.out.size), Nat.le_trans HXS.out TX.size⟩, own_new (marks_own hMV) (s := ()) xM TX⟩, ?_⟩
        intro X2 hmk
        have xJ2 := hmk.own hJ (by omega) (own_new hJ xJ TX)
        obtain ⟨fn, tmps, assign, body, hy, hRR⟩ := hY _ x X2 (cnt_get hjb HX.out) xJ2
        have y2 := hmk.at_ (xY.kept TX (fun h => h))
        have l2' := hmk.at_ (xL.kept TX (fun h => h))
        have a2 := hmk.at_ HA1.out
        have m2 := hmk.own (marks_own (β := Unit) hMV) hl2 (s := ()) (own_new (marks_own hMV) (s := ()) xM TX)
        have b2 : Below w0.heap.size w0 X2 := (HXB.out.trans (TX.below (fun k hk => hk.elim) HXB.out.size)).trans (hmk.turned.below (fun k hk => by unfold Just at hk; omega) (by have := HXB.out.size; have := TX.size; omega))
        have hs2 : V.heap.size ≤ X2.heap.size := by have := HXS.out; have := TX.size; have := hmk.turned.size; omega
        have cy := y2.cell 0
        simp only [List.getElem?_cons_zero] at cy
        have HA2 := Lib.hid a2
        have HY2 := Lib.hid y2
        have HL2 := Lib.hid l2'
        have HM2 := Lib.hid m2
        have HB2 := Lib.hid b2
        have HS2 := Lib.hid hs2
        unfold plE at hy
        clear xJ2 y2 l2' a2 m2 b2 hs2 xJ xL xY xM
        gi_wp2_with (refine wpListIn_ldr _ rfl rfl rfl Tryz.underlying75 rfl spl_size (plC_len _) HA2.out.rng ?_)
        refine (round_in (ro := some l2) hRR).mono ?_
        rintro e X3 (⟨rfl, k1, k2, k3⟩ | ⟨rfl, k1, k2, k3⟩)
        · have m3 : MarksAt W.heap.size M X3 := ⟨HM2.out.1, fun D hD => ⟨(HM2.out.2 D hD).1, k3 D _ (HM2.out.2 D hD).1 (by have := (HM2.out.2 D hD).1; omega) (HM2.out.2 D hD).2 rfl⟩⟩
          gi_wp2
          exact ⟨k3.from hl' hsz' k2.below.size, k2, k1, ⟨k2.box _ _ _ (.inl rfl) HL2.out, k2.box _ _ _ (.inr (.inr rfl)) HY2.out⟩, ⟨HB2.out.trans k2.below, Nat.le_trans HS2.out k2.below.size⟩, m3⟩
        · have m3 : MarksAt W.heap.size M X3 := ⟨HM2.out.1, fun D hD => ⟨(HM2.out.2 D hD).1, k3 D _ (HM2.out.2 D hD).1 (by have := (HM2.out.2 D hD).1; omega) (HM2.out.2 D hD).2 rfl⟩⟩
          gi_wp2
          exact ⟨k3.from hl' hsz' k2, ⟨rfl, Nat.le_trans HS2.out k2⟩, k1, m3⟩
      case dn =>
        rintro X ⟨xJ, ⟨xL, xY⟩, ⟨xb, xs⟩, xM⟩ hK
        have HX5 : Hid (J (cntU bs (j + 1)).length X) := Lib.hid (by rw [cntU_succ, List.length_append]; exact xJ)
        have HXL := Lib.hid xL
        have HXY := Lib.hid xY
        have HXB := Lib.hid xb
        have HXS := Lib.hid xs
        have HXM : Hid (MarksAt W.heap.size (V.heap.size :: M) X) := Lib.hid ⟨List.nodup_cons.2 ⟨fun h => by have := hMV _ h; omega, xM.1⟩, fun D hD => by
          rcases List.mem_cons.1 hD with rfl | hD
          · exact ⟨by omega, hK⟩
          · exact xM.2 D hD⟩
        clear xJ xL xY xb xs xM hK
        gi_wp2
        refine ⟨⟨j + 1, _, _, _, _, _, _, _, _, _, _, _, _, _, V.heap.size :: M, by rw [show ((j + 1 : Nat) : Int) = (j : Int) + 1 by omega]; rfl, by omega, HX5.out, HXL.out, HXY.out, HXB.out, by have := HXS.out; omega, HXM.out⟩, ?_⟩
        simp [intOf]
        omega
      case st =>
        rintro co i X hi ⟨⟨rfl, xs⟩, xJ, xM⟩ hK
        have HXM : Hid (MarksAt W.heap.size (V.heap.size :: M) X) := Lib.hid ⟨List.nodup_cons.2 ⟨fun h => by have := hMV _ h; omega, xM.1⟩, fun D hD => by
          rcases List.mem_cons.1 hD with rfl | hD
          · exact ⟨by omega, hK⟩
          · exact xM.2 D hD⟩
        have HXJ := Lib.hid xJ
        clear xM xJ hK
        obtain ⟨x, hx⟩ : ∃ x, (cntB bs j 8)[i]? = some x := ⟨_, List.getElem?_eq_getElem hi⟩
        have hlt2 := (List.getElem?_eq_some_iff.1 (cnt_get (by omega) hx)).1
        gi_wp2
        exact leave_all (B := W.heap.size) (Jx ((cntU bs j).length + i)) (fun X D hg hD hd => hJx.putObj _ hg hD hd rfl) (fun X hg => ⟨_, results_none rfl _ _ _, ⟨_, rfl⟩, .inr ⟨_, hlt2, hg⟩⟩) (V.heap.size :: M) _ HXM.out HXJ.out
    · obtain rfl : j = n := by omega
      gi_wp2
      refine leave_all (B := W.heap.size) (J (cnt bs).length) (fun X D hg hD hd => hJ.putObj _ hg hD hd rfl) (fun X hg => ⟨_, results_none rfl _ _ _, ⟨_, rfl⟩, .inl hg⟩) M _ HM.out ?_
      unfold cnt
      rw [hR.len]
      exact HJs.out
theorem cnt_seq (Bl : Nat) (A : Option Addr) (n c : Nat) (bs : List BlkM) (w0 w : World) (hR : ReadsB w0 A n c bs) (hB : Below w0.heap.size w0 w) (hBl : At w Bl 80 [.slice A n c]) :
    SeqI Tryz.prog 58 #[.pointer (some ⟨Bl, 0, none⟩)] plE (KpL w0.heap.size) (cnt bs) w := fun fr l J Jx W hW hl hJ hJx hY h0 =>
  cnt_in fr l Bl A n c bs w0 hR J Jx W hl hJ hJx hY (hB.trans (hW.mono hB.size)) (hBl.kept (Turned.of_below hW (Nat.le_refl _) NoBlock) (fun h => h)) h0
end Go.Proofs.YtpkkejdjhnmjiaaGreat
namespace Go.Proofs.YtpkkejdjhnmjiaaGreat
open Go.RowKit Bm Go.Shelf
attribute [local go_sem] Oper.semAt_some
section
variable {ops : Array Oper} {rest : List Oper} {o : Oper} {a : Go.Act} {w : World} {Q : Exit → Go.Act → World → Prop} {l m : Nat}
theorem wpListIn_build_one {P : Program} {T e : TypeId} {cs z : Array Value} {i : TypeInfo} {n : Nat} (x : Operand) (hgd : o.guard = none) (ho : o.op = .buildSlice T 1 #[(0, x)]) (hx : a.eval x = .agg cs) (hT : P.underlying T = some (.slice e)) (hi : P.info? e = some i) (hz : i.zero = some (.agg z)) (hs : i.size = n) (hn : cs.size = n) (h0 : 0 < n) (h1 : n ≤ 10000)
    (h : wpListIn (Fence.wide.inRound l) m P ops Q rest (a.put o.dst (.slice (some ⟨w.heap.size, 0, none⟩) 1 1)) (w.alloc (.cells cs e))) : wpListIn (Fence.wide.inRound l) m P ops Q (o :: rest) a w :=
  wpListIn_plain hgd fun _ hK => oper_in (by unfold calmOper; rw [ho]) (wp_build_one x ho hx hT hi hz hs hn h0 h1 (hK _ _ h))
theorem wpListIn_appL {base : Nat} {xs : List PlM} {y : PlM} {v : Value} {T SL : TypeId} {i0 : TypeInfo} {z : Value} (hS : Tryz.prog.underlying SL = some (.slice T)) (hin : Tryz.prog.info? T = some i0) (hz0 : i0.zero = some z) (hz1 : i0.size = 9) (hz2 : i0.bytes = 48) (hz3 : z.cells.size = 9)
    (s x : Operand) (hgd : o.guard = none) (hop : o.op = .call { callee := .builtin .append, args := #[s, x], argTypes := #[SL, SL] }) (hs : a.eval s = v) (hown : w.ownsRow base T 9 v xs.length (pls xs)) {g : Nat} (hx : a.eval x = .slice (some ⟨g, 0, none⟩) 1 1) (hA : At w g T (plC y)) (hl : xs.length ≤ 100000) (hb : base ≤ w.heap.size)
    (h : ∀ g cap w', w'.ownsRow base T 9 (.slice (some ⟨g, 0, none⟩) (xs ++ [y]).length cap) (xs ++ [y]).length (pls (xs ++ [y])) → w.grownBy w' v.ownBlock → Below base w w' → wpListIn (Fence.wide.inRound l) m Tryz.prog ops Q rest (a.put o.dst (.slice (some ⟨g, 0, none⟩) (xs ++ [y]).length cap)) w') : wpListIn (Fence.wide.inRound l) m Tryz.prog ops Q (o :: rest) a w := by
  refine wpListIn_plain hgd fun K hK => oper_in (by unfold calmOper; rw [hop]) ?_
  refine wp_append_lies _ s x SL hop base T i0 z 9 48 hS hin hz0 hz1 hz2 hz3 (by omega) v xs.length _ hs hown ⟨g, 0, none⟩ 1 1 (plC y) hx (by rfl) hA.news_at (plC_one _) (by omega) (by unfold maxLen; omega) (by omega) hb _ rfl ?_
  intro g' cap w' h1 h2 _ _
  have e : (xs ++ [y]).length = xs.length + 1 := by rw [List.length_append, List.length_singleton]
  exact hK _ _ (e ▸ h g' cap w' (by rw [e, pls_snoc]; exact h1) h2 ((Below.refl base w).grown h2 hb (fun k hk => (hown.lt k hk).1)))
end
theorem halt_in {F : Fence} {m : Nat} {P : Program} {ops : Array Oper} {Q : Exit → Go.Act → World → Prop} {l : List Oper} {a : Go.Act} {w : World} (h : Hid (wpListIn F m P ops Q l a w)) : wpListIn F m P ops Q l a w := h.out
theorem row_own {β : Type} {B base n : Nat} {t : TypeId} {v : Value} {f : β → List Value} : OwnFrom B (fun s W => W.ownsRow base t 9 v n (f s)) := fun s W W' row hs hg hr => by
  obtain ⟨hl, h⟩ := hs
  rcases h with h | ⟨g, cap, cur, e, hb, hgc, r⟩
  · exact ⟨hl, .inl h⟩
  · refine ⟨hl, .inr ⟨g, cap, cur, e, hb, (hg.block g (Array.getElem?_eq_some_iff.1 hgc).1 (fun e' => ?_)).trans hgc, r⟩⟩
    obtain ⟨_, o, ho, hc⟩ := hr g e'.symm
    rw [hgc] at ho
    cases ho
    cases hc
theorem own_exists {β γ : Type} {B : Nat} {I : γ → β → World → Prop} (h : ∀ v, OwnFrom B (I v)) : OwnFrom B (fun s W => ∃ v, I v s W) := fun s W W' row ⟨v, hs⟩ hg hr => ⟨v, h v s W W' row hs hg hr⟩
theorem keeps_cells {S : Nat → Prop} {W W' : World} (h : Turned S W W') (hS : ∀ k, S k → ∃ t cs, At W k t cs) (B : Nat) : KeepsFrom B W W' :=
  ⟨h.size, fun k o _ ho hc => (h.block k (Array.getElem?_eq_some_iff.1 ho).1 (fun hk => by
    obtain ⟨t, cs, hA⟩ := hS k hk
    unfold At at hA
    rw [ho] at hA
    injection hA with hA
    rw [hA] at hc
    cases hc)).trans ho⟩
theorem At.type_eq {W : World} {k : Nat} {t t' : TypeId} {cs cs' : List Value} (h : At W k t cs) (h' : At W k t' cs') : t = t' := by
  unfold At at h h'
  rw [h] at h'
  injection h' with h'
  injection h'
theorem own_at_row {W : World} {base n k : Nat} {t : TypeId} {v : Value} {xs : List Value} (h : W.ownsRow base t 9 v n xs) (hk : v.ownBlock = some k) : base ≤ k ∧ ∃ cs, At W k t cs := by
  obtain ⟨_, ⟨rfl, _⟩ | ⟨g, cap, cur, rfl, hb, hg, _⟩⟩ := h
  · cases hk
  · injection hk with hk
    subst hk
    exact ⟨hb, cur.toList, hg⟩
set_option maxRecDepth 100000 in
set_option maxHeartbeats 2000000 in
theorem appseq_any (gf : Nat) (lb : Array Value) (xs : List PlM) (w0 w : World) (eg : ∀ args w, (callFunc gf args).run Tryz.prog w = .ok (.enter gf args) w) (hseq : SeqI Tryz.prog gf lb plE (KpL w0.heap.size) xs w) (hb0 : w0.heap.size ≤ w.heap.size) (hn : xs.length ≤ 100000) :
    Calls Tryz.prog 88 #[.slice none 0 0, .func (.func gf) #[] lb] w fun e w' => ∃ v, e = .returned v ∧ w'.ownsRow w.heap.size 75 9 v xs.length (pls xs) ∧ Below w.heap.size w w' := by
  have hz := spl_zero
  obtain ⟨i0, hin, hz0, hz1, hz2⟩ := info_parts spl_infoA
  refine (callsIn_wide (n := 10)).1 ?_
  refine callsIn_of_wp_marks Tryz.func88 rfl trivial ?_
  simp only [Tryz.ntmps88, List.size_toArray, List.length_cons, List.length_nil, Nat.reduceAdd, Nat.reduceSub, Array.replicate_succ, Array.replicate_zero, List.push_toArray, List.append_toArray, List.nil_append, List.cons_append]
  gi_wp2
  obtain ⟨V, hV⟩ : ∃ V, w.alloc (Obj.cells #[Value.slice none 0 0] 78) = V := ⟨_, rfl⟩
  have vs : V.heap.size = w.heap.size + 1 := by rw [← hV]; simp
  have vA : At V w.heap.size 78 [.slice none 0 0] := by rw [← hV]; exact At.news w _ _
  have vb : Below w.heap.size w V := by rw [← hV]; exact (Below.refl _ w).alloc (Nat.le_refl _) _
  rw [hV]
  clear hV
  refine range_outer (gf := gf) (lb := lb) (encs := plE) (Kp := KpL w0.heap.size) (xs := xs) (w0 := w) (m := 8)
    (I := fun i X => (∃ v, At X w.heap.size 78 [v] ∧ X.ownsRow w.heap.size 75 9 v (xs.take i).length (pls (xs.take i))) ∧ Below w.heap.size w X)
    (Ix := fun _ _ _ => False)
    rfl eg hseq vb KpL.trans (KpL.put (by omega)) (fun _ => rfl)
    (OwnFrom.and (own_exists fun v => OwnFrom.and (At.own_from (f := fun _ => [v])) (fun i => row_own (β := Unit) (f := fun _ => pls (xs.take i)) ())) (ownFrom_below (Nat.le_refl _) (by omega)))
    (fun _ _ _ _ _ hs _ _ => hs)
    ⟨⟨_, vA, World.ownsRow_nil _ _ _ _⟩, vb⟩ ?rnd ?dn ?st
  case rnd =>
    rintro l2 i x X hl2 _ ⟨⟨v, xA, xo⟩, xb⟩ hx
    have HX := Lib.hid hx
    have HXA := Lib.hid xA
    have HXO := Lib.hid xo
    have HXB := Lib.hid xb
    clear hx xA xo xb
    unfold plE
    gi_wp2_with (refine wpListIn_stm (pre := []) (post := []) (xs := plC pl0) (ys := plC x) _ _ rfl rfl rfl rfl spl_size (plC_len _) (plC_len _) (plC_one _) rfl (by simp) (At.news X _ (plC pl0)) ?_; intro X1 A1 T1; rw [List.nil_append, List.append_nil] at A1; have HA1 := Lib.hid A1; have HT1 := Lib.hid T1; clear A1 T1)
    have TX : Turned NoBlock X X1 := ((Turned.refl NoBlock X).alloc _).after HT1.out (fun k hk he => by unfold Just at he; omega)
    have xb1 : Below w.heap.size w X1 := HXB.out.trans (TX.below (fun k hk => hk.elim) HXB.out.size)
    have xo1 : X1.ownsRow w.heap.size 75 9 v (xs.take i).length (pls (xs.take i)) := own_new (row_own (β := Unit) (B := 0) (f := fun _ => pls (xs.take i))) (s := ()) HXO.out TX
    refine ⟨TX.from _ (fun k hk => hk.elim), KpL.of_turned TX (fun k hk => hk.elim) (by have := HXB.out.size; omega) (fun k t cs hk => hk.elim), ⟨⟨v, HXA.out.kept TX (fun h => h), xo1⟩, xb1⟩, ?_⟩
    intro X2 hmk
    have a2 := hmk.at_ (HXA.out.kept TX (fun h => h))
    have p2 := hmk.at_ HA1.out
    have b2 : Below w.heap.size w X2 := xb1.trans (hmk.turned.below (fun k hk => by unfold Just at hk; omega) xb1.size)
    have o2 : X2.ownsRow w.heap.size 75 9 v (xs.take i).length (pls (xs.take i)) := hmk.own (row_own (β := Unit) (B := 0) (f := fun _ => pls (xs.take i))) (Nat.zero_le _) (s := ()) xo1
    have cs2 := a2.cell 0
    simp only [List.getElem?_cons_zero] at cs2
    have HA2 := Lib.hid a2
    have HP2 := Lib.hid p2
    have HB2 := Lib.hid b2
    have HO2 := Lib.hid o2
    have HTL : Hid ((xs.take i).length ≤ 100000) := Lib.hid (by rw [List.length_take]; omega)
    clear a2 p2 b2 o2 xb1 xo1
    gi_wp2_with (first
      | (refine wpListIn_ldr _ rfl rfl rfl Tryz.underlying75 rfl spl_size (plC_len _) HP2.out.rng ?_)
      | (refine wpListIn_build_one _ rfl rfl rfl Tryz.underlying78 hin hz0 hz1 (cs := (plC x).toArray) (by rfl) (by omega) (by omega) ?_)
      | (gi_at_builtin; refine halt_in ?_))
    refine Lib.hid ?_
    have h9 : w.heap.size ≤ (X2.alloc (Obj.cells (plC x).toArray 75)).heap.size := by have := HB2.out.size; simp; omega
    have o3 : (X2.alloc (Obj.cells (plC x).toArray 75)).ownsRow w.heap.size 75 9 v (xs.take i).length (pls (xs.take i)) := HO2.out.alloc _
    refine wpListIn_appL (base := w.heap.size) (xs := xs.take i) (y := x) Tryz.underlying78 hin hz0 hz1 hz2 (by rfl) _ _ (by rfl) (by rfl) (by rfl) o3 (by rfl) (At.news X2 _ _) HTL.out h9 ?_
    intro g3 cap3 w3 ho3 hg3 hbb3
    simp only [Act.put, List.setIfInBounds_toArray, List.set_cons_zero, List.set_cons_succ]
    have e4 : xs.take i ++ [x] = xs.take (i + 1) := by rw [List.take_add_one, HX.out]; rfl
    rw [e4] at ho3 ⊢
    obtain ⟨nn, hnn⟩ : ∃ nn, nn = (xs.take (i + 1)).length := ⟨_, rfl⟩
    rw [← hnn] at ho3 ⊢
    have a3 : At w3 w.heap.size 78 [v] := (hg3.block _ (by have := HA2.out.lt; simp; omega) (fun e => by
      obtain ⟨_, cs, hc⟩ := own_at_row o3 e.symm
      have := (HA2.out.alloc (Obj.cells (plC x).toArray 75)).type_eq hc
      revert this
      decide)).trans (HA2.out.alloc (Obj.cells (plC x).toArray 75))
    have c3 := a3.cell 0
    have f3 := a3.frozen 0
    simp only [List.getElem?_cons_zero] at c3
    have TT : Turned (fun k => k = w.heap.size ∨ v.ownBlock = some k) X2 (w3.setCell ⟨w.heap.size, 0, none⟩ (.slice (some ⟨g3, 0, none⟩) nn cap3)) :=
      ((((Turned.refl (fun k => k = w.heap.size ∨ v.ownBlock = some k) X2).alloc _).grown hg3 (fun k e _ => .inr e)).setCell (p := ⟨w.heap.size, 0, none⟩) (fun _ => .inl rfl) _)
    have HTT := Lib.hid TT
    have HA3 := Lib.hid a3
    have HO3 := Lib.hid ho3
    have HNN := Lib.hid hnn
    clear a3 ho3 hnn TT e4 h9
    gi_wp2
    have cellS : ∀ k, (k = w.heap.size ∨ v.ownBlock = some k) → w.heap.size ≤ k ∧ ((∃ cs, At X2 k 78 cs) ∨ ∃ cs, At X2 k 75 cs) := fun k hk => by
      rcases hk with rfl | hk
      · exact ⟨Nat.le_refl _, .inl ⟨_, HA2.out⟩⟩
      · obtain ⟨h1, cs, h2⟩ := own_at_row HO2.out hk
        exact ⟨h1, .inr ⟨cs, h2⟩⟩
    have b5 : Below w.heap.size X2 (w3.setCell ⟨w.heap.size, 0, none⟩ (.slice (some ⟨g3, 0, none⟩) nn cap3)) := HTT.out.below (fun k hk => (cellS k hk).1) HB2.out.size
    refine ⟨keeps_cells HTT.out (fun k hk => by
        obtain ⟨_, ⟨cs, h⟩ | ⟨cs, h⟩⟩ := cellS k hk
        · exact ⟨_, cs, h⟩
        · exact ⟨_, cs, h⟩) _,
      KpL.of_turned HTT.out (fun k hk => by have := (cellS k hk).1; omega) (by have := HB2.out.size; omega) (fun k t cs hk hA ht => by
        obtain ⟨_, ⟨cs', h⟩ | ⟨cs', h⟩⟩ := cellS k hk
        · have := hA.type_eq h
          subst this
          revert ht
          unfold Kt
          decide
        · have := hA.type_eq h
          subst this
          revert ht
          unfold Kt
          decide),
      ⟨⟨_, HA3.out.put 0 _, ?_⟩, HB2.out.trans b5⟩⟩
    have := HO3.out
    rw [HNN.out] at this ⊢
    exact Theirs.own_turned this ((Turned.refl (Just w.heap.size) w3).setCell (p := ⟨w.heap.size, 0, none⟩) (fun _ => rfl) _) (fun g hg e => by
      obtain ⟨_, cs, hc⟩ := own_at_row this hg
      unfold Just at e
      subst e
      have := HA3.out.type_eq hc
      revert this
      decide)
  case dn =>
    rintro X ⟨⟨v, xA, xo⟩, xb⟩ hK
    have cs := xA.cell 0
    simp only [List.getElem?_cons_zero] at cs
    rw [List.take_length] at xo
    gi_wp2
    refine post_mark hK (results_tmp rfl _ _ _) ⟨v, rfl, (row_own (β := Unit) (B := 0) (f := fun _ => pls xs)).putObj _ (s := ()) xo (Nat.zero_le _) hK rfl, below_mark xb (by omega) hK⟩
  case st =>
    rintro co i X hi h hK
    exact h.elim
end Go.Proofs.YtpkkejdjhnmjiaaGreat
