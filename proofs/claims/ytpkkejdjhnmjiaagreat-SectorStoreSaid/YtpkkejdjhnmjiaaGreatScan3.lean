/- Contracts of the program's scan.Next, Empty, Counts. | Contract of the program's scan.blockOf. | Contract of the program's scan.Words. -/
import Derived.Test.YtpkkejdjhnmjiaaGreatScanIter
import Derived.Test.YtpkkejdjhnmjiaaGreatScanMath
import Derived.Test.YtpkkejdjhnmjiaaGreatPage
import Derived.Test.YtpkkejdjhnmjiaaGreatMid
import Derived.Test.YtpkkejdjhnmjiaaGreatBuild
namespace Go.Proofs.YtpkkejdjhnmjiaaGreat
open Go.RowKit Bm Go.Shelf
attribute [local go_sem] Oper.semAt_some bk_head bk_count
def lastOf (pre : List Nat) : Int := match pre.getLast? with | some x => (x : Int) | none => -1
theorem lastOf_snoc (pre : List Nat) (x : Nat) : lastOf (pre ++ [x]) = (x : Int) := by simp [lastOf]
theorem last_downs (k : Nat) : lastOf (downs (k + 1)) = ((7 - k : Nat) : Int) := by rw [downs_succ, lastOf_snoc]
theorem mem_downs (k i : Nat) (h : 8 - k ≤ i) (h' : i < 8) : i ∈ downs k := List.mem_map.2 ⟨7 - i, by rw [List.mem_range]; omega, by omega⟩
theorem next_downs {b : BlkM} (h1 : b.head = 1) (k : Nat) (hk : k ≤ 8) (hz : ∀ x ∈ downs k, nm b.kinds x = 0) (hn : k < 8 → nm b.kinds (7 - k) ≠ 0) : bkNext b = lastOf (downs k) := by
  have e : freeFrom b.kinds 8 = 8 - k := free_is b.kinds 8 (8 - k) (by omega) (fun i a c => hz i (mem_downs k i a c)) (fun h => by rw [show 8 - k - 1 = 7 - k by omega]; exact hn (by omega))
  unfold bkNext
  rw [if_pos h1, e]
  cases k with
  | zero => rfl
  | succ k =>
    rw [if_neg (by omega), last_downs k]
    omega
set_option maxRecDepth 100000 in
set_option maxHeartbeats 2000000 in
theorem snext_any (b : BlkM) (hb : BlkOk b) (w : World) : Calls Tryz.prog 162 #[bkV b] w fun e w' => e = .returned (.int .i64 (bkNext b)) ∧ Below w.heap.size w w' := by
  have HK := Lib.hid hb
  clear hb
  unfold bkV
  refine (callsIn_wide (n := 10)).1 ?_
  refine callsIn_of_wp_marks Tryz.func162 rfl trivial ?_
  simp only [Tryz.ntmps162, List.size_toArray, List.length_cons, List.length_nil, Nat.reduceAdd, Nat.reduceSub, Array.replicate_succ, Array.replicate_zero, List.push_toArray, List.append_toArray, List.nil_append, List.cons_append]
  by_cases h1 : b.head = 1
  · gi_wp2_with (refine ⟨trivial, ?_⟩; gi_at_call 165; refine (callsIn_wide.2 (back_of _ _ _ _)).mono ?_; rintro e w' ⟨rfl, rfl⟩)
    obtain ⟨W0, hW0⟩ : ∃ W0, ((w.alloc (Obj.cells (bkC b).toArray 147)).alloc (Obj.cells #[Value.int IntKind.i64 (-1)] 3)).alloc (Obj.cells #[Value.slice (some { block := w.heap.size, off := 2 }) 8 8] 110) = W0 := ⟨_, rfl⟩
    have hs0 : W0.heap.size = w.heap.size + 3 := by rw [← hW0]; simp
    have a0 : At W0 w.heap.size 147 (bkC b) := by rw [← hW0]; exact ((At.news w _ _).alloc _).alloc _
    have a1 : At W0 (w.heap.size + 1) 3 [.int .i64 (lastOf [])] := by rw [← hW0]; exact (At.alloc_new _ _ _ (by simp) rfl).alloc _
    have a2 : At W0 (w.heap.size + 2) 110 [.slice (some ⟨w.heap.size, 2, none⟩) 8 8] := by rw [← hW0]; exact At.alloc_new _ _ _ (by simp) rfl
    have hb0 : Below w.heap.size w W0 := by rw [← hW0]; exact (below_two w _ _).alloc (by simp; omega) _
    have a0c : ∀ i, i < 8 → W0.cell? ((⟨w.heap.size, 2, none⟩ : Addr).add i) = some (.int .i64 (nm b.kinds i)) := fun i hi => by
      have e : (⟨w.heap.size, 2, none⟩ : Addr).add i = ⟨w.heap.size, 2 + i, none⟩ := by unfold Addr.add; split <;> simp_all
      rw [e, a0.cell]
      exact bk_kind HK.out i hi
    rw [hW0]
    clear hW0
    refine wpIn_rangeFunc_ownG rfl (by omega) (gf := 168) (lb := #[.pointer (some ⟨w.heap.size + 2, 0, none⟩)]) rfl trivial (enters_of Tryz.func168 (by kernel_rfl) rfl)
      (backs_stops (w.heap.size + 2) ⟨w.heap.size, 2, none⟩ 8 b.kinds (fun k => k = w.heap.size ∨ k = w.heap.size + 2) (.inr rfl) (.inl rfl) W0 (by show w.heap.size < _; omega) a2 a0c) Keeps.trans (Keeps.put (fun k hk => by rcases hk with rfl | rfl <;> omega)) (Below.refl _ _) (fun _ => rfl)
      (fun pre W => (At W (w.heap.size + 1) 3 [.int .i64 (lastOf pre)] ∧ Below w.heap.size w W) ∧ ∀ x ∈ pre, nm b.kinds x = 0)
      (fun c (pre : List Nat) W => (At W (w.heap.size + 1) 3 [.int .i64 (lastOf pre.dropLast)] ∧ Below w.heap.size w W) ∧ c = .exit 0 ∧ (∀ x ∈ pre.dropLast, nm b.kinds x = 0) ∧ ∃ p x, pre = p ++ [x] ∧ nm b.kinds x ≠ 0)
      (OwnFrom.and (OwnFrom.and (At.own_from (f := fun pre => [.int .i64 (lastOf pre)])) (ownFrom_below (Nat.le_refl _) (by omega))) (ownFrom_pure _ _))
      (fun _ => OwnFrom.and (OwnFrom.and (At.own_from (f := fun pre : List Nat => [.int .i64 (lastOf pre.dropLast)])) (ownFrom_below (Nat.le_refl _) (by omega))) (ownFrom_pure _ _))
      ⟨⟨a1, hb0⟩, fun x hx => by cases hx⟩
      (fun x => { tmps := #[Value.agg (bkC b).toArray, .pointer (some ⟨w.heap.size, 0, none⟩), .int .i64 0, .pointer (some ⟨w.heap.size + 1, 0, none⟩), .int .i64 (x : Int), .int .i64 (nm b.kinds x), .pointer (some ⟨w.heap.size, 0, none⟩), .int .i64 1, .bool false, undef, .pointer (some ⟨w.heap.size, 2, none⟩), .slice (some ⟨w.heap.size, 2, none⟩) 8 8,
        .func (.func 168) #[] #[.pointer (some ⟨w.heap.size + 1 + 1, 0, none⟩)], .int .i64 (x : Int), .int .i64 (nm b.kinds x), undef, undef, undef, undef], defers := [] }) ?assign ?body ?done ?stop
    case assign =>
      intro l x W K hK
      unfold backV
      gi_wp2
      exact hK
    case body =>
      rintro l pre x W ⟨⟨hA, hB⟩, hz⟩ hl
      have HZ := Lib.hid hz
      clear hz
      have c1 := hA.cell 0
      have f1 := hA.frozen 0
      simp only [List.getElem?_cons_zero] at c1
      by_cases hk : nm b.kinds x = 0
      · gi_wp2
        exact ⟨(KeepsOthers.setCell _ _ _).from _, fun k hk' => Below.heap_setCell _ _ _ _ (by show k ≠ w.heap.size + 1; omega), ⟨by rw [lastOf_snoc]; exact hA.put 0 _, hB.setCell (p := ⟨w.heap.size + 1, 0, none⟩) (by show w.heap.size ≤ w.heap.size + 1; omega) _⟩, fun y hy => by
          rcases List.mem_append.1 hy with h | h
          · exact HZ.out y h
          · obtain rfl : y = x := by simpa using h
            exact hk⟩
      · gi_wp2
        exact ⟨KeepsFrom.refl _ _, ⟨by rw [List.dropLast_concat]; exact hA, hB⟩, rfl, by rw [List.dropLast_concat]; exact HZ.out, pre, x, rfl, hk⟩
    case done =>
      rintro D xs W hD rfl ⟨⟨hA, hB⟩, hz⟩ hK
      have c1 := hA.cell 0
      simp only [List.getElem?_cons_zero] at c1
      gi_wp2
      refine post_mark hK (results_tmp rfl _ _ _) ⟨?_, below_mark hB (by omega) hK⟩
      rw [next_downs h1 8 (Nat.le_refl _) hz (fun h => absurd h (by omega))]
      rfl
    case stop =>
      rintro D c pre W hD ⟨k, hk, rfl⟩ ⟨⟨hA, hB⟩, rfl, hz, p, x, hp, hx⟩ hK
      have c1 := hA.cell 0
      simp only [List.getElem?_cons_zero] at c1
      gi_wp2
      refine post_mark hK (results_tmp rfl _ _ _) ⟨?_, below_mark hB (by omega) hK⟩
      rw [downs_succ, List.dropLast_concat] at hz
      rw [downs_succ] at hp
      obtain ⟨rfl, ex⟩ := List.append_inj' hp rfl
      rw [next_downs h1 k (by omega) hz (fun _ => by rw [List.cons.inj ex |>.1]; exact hx)]
      rfl
  · gi_wp2
    rw [next_head h1]
    exact post_ret (results_tmp rfl _ _ _) ⟨rfl, below_two w _ _⟩
theorem bk_size : (Tryz.prog.info? 147).map (·.size) = some 66 := by kernel_rfl
set_option maxRecDepth 100000 in
set_option maxHeartbeats 2000000 in
theorem sempty_any (b : BlkM) (hb : BlkOk b) (w : World) : Calls Tryz.prog 154 #[bkV b] w fun e w' => e = .returned (.bool (bkEmpty b)) ∧ Below w.heap.size w w' := by
  have HS := Lib.hid (fun W => snext_any b hb W)
  have HL := Lib.hid (bk_len hb)
  clear hb
  unfold bkV at *
  go_enter Tryz.func154, Tryz.ntmps154
  go_wp2_with (first
    | (refine wpList_ldm (pre := []) (post := []) _ rfl rfl rfl Tryz.underlying147 rfl bk_size HL.out rfl (by simp) (At.news w _ _) ?_)
    | (go_at_call 162; (refine (HS.out _).mono ?_); rintro e w1 ⟨rfl, hb⟩))
  go_ret
  refine ⟨?_, ((Below.refl _ w).alloc (Nat.le_refl _) _).trans (hb.mono (by simp))⟩
  rfl
theorem bk_info : (Tryz.prog.info? 147).map (fun i => (i.zero, i.size)) = some (some (.agg (bkC bk0).toArray), 66) := by kernel_rfl
theorem bk_zero (w : World) : (zeroValue 147).run Tryz.prog w = .ok (.agg (bkC bk0).toArray) w := (zero_of_info bk_info).1 w
set_option maxRecDepth 100000 in
set_option maxHeartbeats 2000000 in
theorem scounts_any (A : Option Addr) (n c : Nat) (bs : List BlkM) (w : World) (hA : ReadsB w A n c bs) (hn : n ≤ 1000000) : Calls Tryz.prog 85 #[.slice A n c] w fun e w' => e = .returned (.int .u32 (U (bkCounts bs))) ∧ Below w.heap.size w w' := by
  have hz := bk_zero
  have HA := Lib.hid hA
  clear hA
  go_enter Tryz.func85, Tryz.ntmps85
  go_wp2
  go_loopw [3, 8] (fun m i wr => ∃ j : Nat, j ≤ n ∧ i = .int .i64 j ∧ m = .int .u32 (U (bkCounts (bs.take j))) ∧ Below w.heap.size w wr) (fun _ i _ => n - (intOf i).toNat)
  case atStart => exact ⟨0, by omega, rfl, rfl, Below.refl _ _⟩
  case round =>
    obtain ⟨j, hj, rfl, rfl, hb⟩ := hrel
    have HB := Lib.hid hb
    clear hb
    by_cases hlt : j < n
    · have HR := Lib.hid (HA.out.kept HB.out)
      obtain ⟨g, off, rfl, hg, hr⟩ := HR.out.at_ hlt
      have HR' := Lib.hid hr
      have HG := Lib.hid hg
      have HL := Lib.hid (bk_len (HA.out.okN hlt))
      have i0 : (0 : Int) ≤ (j : Int) := by omega
      have i1 : (j : Int) < (n : Int) := by omega
      clear hr hg
      go_wp2_with (first
        | (refine wpList_ldr _ rfl rfl rfl Tryz.underlying147 rfl bk_size HL.out HR'.out ?_)
        | (refine wpList_stm (pre := []) (post := []) (xs := bkC bk0) _ _ rfl rfl rfl rfl bk_size (by rfl) HL.out (bk_one _) rfl (by simp) (At.news wr _ (bkC bk0)) ?_; intro w2 A2 T2; have c0 := A2.cell 0; have c1 := A2.cell 1; simp only [List.nil_append, List.append_nil, bk_head, bk_count] at c0 c1; have T2' := Lib.hid T2; clear A2 T2))
      all_goals have hbb : Below w.heap.size w w2 := HB.out.trans ((((Below.refl _ wr).alloc (Nat.le_refl _) _).trans (T2'.out.below (fun i hi => by unfold Just at hi; omega) (by simp))).mono HB.out.size)
      · rename_i hh
        refine ⟨⟨j + 1, by omega, by go_num, ?_, hbb⟩, by simp [intOf]; omega⟩
        rw [bkCounts_step bs j (by rw [HA.out.len]; exact hlt)]
        unfold bkMax
        split
        · rename_i hm
          rw [if_pos ⟨by simpa using hh, hm⟩]
        · rename_i hm
          rw [if_neg (fun h => hm h.2)]
      · rename_i hh
        refine ⟨⟨j + 1, by omega, by go_num, ?_, hbb⟩, by simp [intOf]; omega⟩
        rw [bkCounts_step bs j (by rw [HA.out.len]; exact hlt)]
        unfold bkMax
        rw [if_neg (fun h => by simp [h.1] at hh)]
    · obtain rfl : j = n := by omega
      go_wp2
      go_ret
      rw [List.take_of_length_le (by rw [HA.out.len]; exact Nat.le_refl _)]
      exact ⟨rfl, HB.out⟩
end Go.Proofs.YtpkkejdjhnmjiaaGreat
namespace Go.Proofs.YtpkkejdjhnmjiaaGreat
open Go.RowKit Bm Go.Shelf
attribute [local go_sem] Oper.semAt_some bk_head bk_count
theorem ReadsU.sub {w : World} {ad : Addr} {n c : Nat} {ws : List (BitVec 32)} (h : ReadsU w (some ad) n c ws) (lo len cap : Nat) (h1 : lo + len ≤ n) (h2 : len ≤ cap) (h3 : cap ≤ maxLen) : ReadsU w (some (ad.add lo)) len cap ((ws.drop lo).take len) := by
  refine ⟨by rw [List.length_take, List.length_drop, h.len]; omega, h2, h3, fun hl => ⟨_, rfl, ?_, fun j u hu => ?_⟩⟩
  · obtain ⟨a, e, hlt, _⟩ := h.cell (by omega)
    cases e
    rw [add_block]
    exact hlt
  · obtain ⟨a, e, _, hc⟩ := h.cell (by omega)
    cases e
    have hj : j < len := by
      have := (List.getElem?_eq_some_iff.1 hu).1
      rw [Us_length, List.length_take] at this
      omega
    have ea : (ad.add lo).add j = ad.add (lo + j) := by
      unfold Addr.add
      by_cases a0 : lo = 0
      · subst a0; simp
      · by_cases j0 : j = 0
        · subst j0; simp
        · simp [a0, j0]; omega
    rw [ea]
    apply hc
    rw [← hu]
    unfold Us
    rw [List.getElem?_map, List.getElem?_map, List.getElem?_take_of_lt hj, List.getElem?_drop]
def blkPut (ws : List (BitVec 32)) (b : BlkM) (p : Nat) : BlkM :=
  if b.head = 1 then { b with kinds := (b.kinds.set p 2).set p (pgRd (pgAtW ws p)).2, pages := b.pages.set p (pgRd (pgAtW ws p)).1 } else { b with kinds := b.kinds.set p 2 }
theorem blkPut_head (ws : List (BitVec 32)) (b : BlkM) (p : Nat) : (blkPut ws b p).head = b.head := by unfold blkPut; split <;> rfl
theorem blkPut_ok {ws : List (BitVec 32)} {b : BlkM} (h : BlkOk b) (p : Nat) : BlkOk (blkPut ws b p) := by
  unfold blkPut
  split
  · exact ⟨by simp [h.k], by simp [h.p]⟩
  · exact ⟨by simp [h.k], h.p⟩
def blk0 (ws : List (BitVec 32)) : BlkM := { bk0 with head := (hdRd (ws.take 4)).2, count := (hdRd (ws.take 4)).1 }
def blkAll (ws : List (BitVec 32)) (pre : List Nat) : BlkM := pre.foldl (blkPut ws) (blk0 ws)
theorem blkAll_snoc (ws : List (BitVec 32)) (pre : List Nat) (p : Nat) : blkAll ws (pre ++ [p]) = blkPut ws (blkAll ws pre) p := by simp [blkAll]
theorem foldPut_ok (ws : List (BitVec 32)) : ∀ (pre : List Nat) (b : BlkM), BlkOk b → BlkOk (pre.foldl (blkPut ws) b)
  | [], _, h => h
  | p :: pre, _, h => foldPut_ok ws pre _ (blkPut_ok h p)
theorem foldPut_head (ws : List (BitVec 32)) : ∀ (pre : List Nat) (b : BlkM), (pre.foldl (blkPut ws) b).head = b.head
  | [], _ => rfl
  | p :: pre, b => (foldPut_head ws pre _).trans (blkPut_head ws b p)
theorem blkAll_ok (ws : List (BitVec 32)) (pre : List Nat) : BlkOk (blkAll ws pre) := foldPut_ok ws pre _ ⟨rfl, rfl⟩
theorem blkAll_head (ws : List (BitVec 32)) (pre : List Nat) : (blkAll ws pre).head = (hdRd (ws.take 4)).2 := foldPut_head ws pre _
theorem blkAll_done (ws : List (BitVec 32)) : blkAll ws (List.range 8) = bkOf ws := by
  have e : List.range 8 = [0, 1, 2, 3, 4, 5, 6, 7] := by decide
  unfold bkOf
  rw [e]
  unfold blkAll
  simp only [List.foldl_cons, List.foldl_nil, List.map_cons, List.map_nil]
  by_cases h : (hdRd (ws.take 4)).2 = 1
  · simp [blkPut, blk0, bk0, h, List.replicate]
  · simp [blkPut, blk0, bk0, h, List.replicate]
theorem bk_res1 {fn : Func} {p : Tmp} (h : fn.results = #[.cell p 147]) (tmps : Array Value) {w : World} {g : Nat} {cs : List Value} (hp : tmps.getD p undef = .pointer (some ⟨g, 0, none⟩)) (hA : At w g 147 cs) (hn : cs.length = 66) :
    (results fn tmps).run Tryz.prog w = .ok (.agg cs.toArray) w :=
  results_cell_row h tmps w g 147 cs.toArray (0, 0) _ hp hA Tryz.underlying147 rfl (by rw [bk_size]; simp [hn])
theorem At.mark {w : World} {g : Nat} {t : TypeId} {cs : List Value} (h : At w g t cs) {D : Nat} (hD : g ≠ D) (o : Obj) : At (w.putObj D o) g t cs := (World.putObj_heap_other (by omega)).trans h
set_option maxRecDepth 100000 in
set_option maxHeartbeats 2000000 in
theorem sblock_any (ad : Addr) (c : Nat) (ws : List (BitVec 32)) (w : World) (hA : ReadsU w (some ad) 64 c ws) : Calls Tryz.prog 68 #[.slice (some ad) 64 c] w fun e w' => e = .returned (bkV (bkOf ws)) ∧ Below w.heap.size w w' := by
  have hz := bk_zero
  have HA := Lib.hid hA
  have h64 := hA.le
  have hc1 := hA.max
  have a0 : At ((w.alloc (.cells (bkC bk0).toArray 147)).alloc (.cells (bkC bk0).toArray 147)) (w.heap.size + 1) 147 (bkC bk0) := At.alloc_new _ _ _ (by simp) rfl
  have A0 := Lib.hid a0
  have hb2 := below_two w (.cells (bkC bk0).toArray 147) (.cells (bkC bk0).toArray 147)
  have HA2 := Lib.hid (hA.kept hb2)
  have PC := Lib.hid (pcount_any _ 4 c _ _ ((HA2.out.sub 0 4 c (by omega) (by omega) hc1)) (by omega))
  rw [show ad.add 0 = ad from rfl] at PC
  have HB2 := Lib.hid hb2
  clear hA a0 hb2
  refine (callsIn_wide (n := 10)).1 ?_
  refine callsIn_of_wp_marks Tryz.func68 rfl trivial ?_
  simp only [Tryz.ntmps68, List.size_toArray, List.length_cons, List.length_nil, Nat.reduceAdd, Nat.reduceSub, Array.replicate_succ, Array.replicate_zero, List.push_toArray, List.append_toArray, List.nil_append, List.cons_append]
  gi_wp2_with (first
    | (refine ⟨trivial, ?_⟩; gi_at_call 82; refine (callsIn_wide.2 PC.out).mono ?_; rintro e V ⟨rfl, hb⟩; have a1 := A0.out.kept (Turned.of_below hb (Nat.le_refl _) NoBlock) (fun h => h); have A1 := Lib.hid a1; have c0 := a1.cell 0; have c1 := a1.cell 1; have f0 := a1.frozen 0; have f1 := a1.frozen 1; simp only [bk_head, bk_count] at c0 c1; have HBV := Lib.hid hb; clear a1 hb)
    | (refine ⟨trivial, ?_⟩; gi_at_call 83; refine (callsIn_wide.2 (pages_of _ _ _ _)).mono ?_; rintro e w' ⟨rfl, rfl⟩))
  obtain ⟨W0, hW0⟩ : ∃ W0, (((V.setCell { block := w.heap.size + 1, off := 1 } (Value.int IntKind.u32 (U (hdRd (List.take 4 ws)).fst))).setCell { block := w.heap.size + 1, off := 0 } (Value.int IntKind.i64 (hdRd (List.take 4 ws)).snd)).alloc (Obj.cells #[Value.slice (some ad) 64 c] 89)) = W0 := ⟨_, rfl⟩
  have hVs : w.heap.size + 2 ≤ V.heap.size := by have := HBV.out.size; simp at this; omega
  have hs0 : W0.heap.size = V.heap.size + 1 := by rw [← hW0]; simp [World.setCell]
  have a1 : At W0 (w.heap.size + 1) 147 (bkC (blkAll ws [])) := by rw [← hW0]; exact (((A1.out.put 1 _).put 0 _).alloc _)
  have a2 : At W0 V.heap.size 89 [.slice (some ad) 64 c] := by rw [← hW0]; exact At.alloc_new _ _ _ (by simp [World.setCell]) rfl
  have hbV : Below w.heap.size w V := HB2.out.trans (HBV.out.mono (by simp; omega))
  have hb0 : Below w.heap.size w W0 := by rw [← hW0]; exact ((hbV.setCell (p := ⟨w.heap.size + 1, 1, none⟩) (by show w.heap.size ≤ w.heap.size + 1; omega) _).setCell (p := ⟨w.heap.size + 1, 0, none⟩) (by show w.heap.size ≤ w.heap.size + 1; omega) _).alloc (by simp [World.setCell]; omega) _
  have a3 : At W0 w.heap.size 147 (bkC bk0) := by rw [← hW0]; exact ((((((At.news w _ _).alloc _).kept (Turned.of_below HBV.out (Nat.le_refl _) NoBlock) (fun h => h)).far (by show w.heap.size ≠ w.heap.size + 1; omega) _).far (by show w.heap.size ≠ w.heap.size + 1; omega) _).alloc _)
  rw [hW0]
  clear hW0 c0 c1 f0 f1
  have HVS := Lib.hid hVs
  have HS0 := Lib.hid hs0
  have hs0' := HS0.out
  refine wpIn_rangeFunc_ownG rfl (by omega) (gf := 99) (lb := #[.pointer (some ⟨V.heap.size, 0, none⟩)]) rfl trivial (enters_of Tryz.func99 (by kernel_rfl) rfl)
    (pages_stops V.heap.size ad c h64 (fun k => k = V.heap.size) rfl W0 a2) Keeps.trans (Keeps.put (fun k hk => by omega)) (Below.refl _ _) (fun _ => rfl)
    (fun (pre : List (Fin 8)) W => (At W (w.heap.size + 1) 147 (bkC (blkAll ws (pre.map (·.val)))) ∧ At W w.heap.size 147 (bkC bk0)) ∧ Below w.heap.size w W ∧ W0.heap.size ≤ W.heap.size)
    (fun _ _ _ => False)
    (OwnFrom.and (OwnFrom.and (At.own_from (f := fun pre : List (Fin 8) => bkC (blkAll ws (pre.map (·.val))))) (At.own_from (f := fun _ => bkC bk0))) (OwnFrom.and (ownFrom_below (Nat.le_refl _) (by omega)) (size_own_from _ _)))
    (fun _ _ _ _ _ hs _ _ => hs)
    ⟨⟨a1, a3⟩, hb0, Nat.le_refl _⟩
    (fun x => { tmps := #[Value.slice (some ad) 64 c, undef, Value.pointer (some { block := w.heap.size, off := 0 }),
          Value.pointer (some { block := w.heap.size + 1, off := 0 }), .int .i64 ((x.val : Nat) : Int), sub ad (4 + 7 * x.val) 7 (c - (4 + 7 * x.val)),
          Value.tuple #[Value.int IntKind.u32 (U (hdRd (List.take 4 ws)).fst), Value.int IntKind.i64 (hdRd (List.take 4 ws)).snd],
          Value.slice (some ad) 64 c, Value.slice (some ad) 4 c,
          Value.tuple #[Value.int IntKind.u32 (U (hdRd (List.take 4 ws)).fst), Value.int IntKind.i64 (hdRd (List.take 4 ws)).snd],
          Value.int IntKind.u32 (U (hdRd (List.take 4 ws)).fst), Value.int IntKind.i64 (hdRd (List.take 4 ws)).snd,
          Value.pointer (some { block := w.heap.size + 1, off := 1 }),
          Value.pointer (some { block := w.heap.size + 1, off := 0 }), Value.slice (some ad) 64 c,
          Value.func (Fn.func 99) #[] #[Value.pointer (some { block := V.heap.size, off := 0 })], .int .i64 ((x.val : Nat) : Int), sub ad (4 + 7 * x.val) 7 (c - (4 + 7 * x.val)), undef,
          undef, undef, undef, undef, undef, undef, undef, undef, undef, undef, undef, undef, undef, undef, undef, undef, undef], defers := [] }) ?assign ?body ?done ?stop
  case assign =>
    intro l x W K hK
    unfold pageV
    gi_wp2
    exact hK
  case body =>
    rintro l pre x W ⟨⟨hA1, hA3⟩, hB, hsz⟩ hl
    obtain ⟨p, hp⟩ := x
    refine wpIn_mono (Q := fun e a W' => ∃ T, Turned (Just (w.heap.size + 1)) W W' ∧ e = .normal ∧ T = a ∧ At W' (w.heap.size + 1) 147 (bkC (blkPut ws (blkAll ws (pre.map (·.val))) p))) ?_ ?_
    · have hok := blkAll_ok ws (pre.map (·.val))
      have hhd := blkAll_head ws (pre.map (·.val))
      obtain ⟨B, hBe⟩ : ∃ B, B = blkAll ws (pre.map (·.val)) := ⟨_, rfl⟩
      rw [← hBe] at hok hhd hA1 ⊢
      have HOK := Lib.hid hok
      have k0 := hA1.cell (2 + p)
      rw [bk_kind hok p hp] at k0
      have f0 := hA1.frozen (2 + p)
      have h0 := hA1.cell 0
      rw [bk_head] at h0
      have HA1 := Lib.hid hA1
      have HB := Lib.hid hB
      have HSZ := Lib.hid hsz
      have HHD := Lib.hid hhd
      have i0 : (0 : Int) ≤ (p : Int) := by omega
      have i1 : (p : Int) < 8 := by omega
      clear hBe hok hhd hA1 hB hsz hA3
      by_cases h1 : B.head = 1
      · have A2 := HA1.out.put (2 + p) (.int .i64 2)
        rw [bk_setKind HOK.out p hp] at A2
        have hb2 : Below w.heap.size w (W.setCell ⟨w.heap.size + 1, 2 + p, none⟩ (.int .i64 2)) := HB.out.setCell (p := ⟨w.heap.size + 1, 2 + p, none⟩) (by show w.heap.size ≤ w.heap.size + 1; omega) _
        have PR := Lib.hid (pread_any _ _ _ _ _ ((HA.out.kept hb2).sub (4 + 7 * p) 7 (c - (4 + 7 * p)) (by omega) (by omega) (by omega)) (by omega))
        have ok2 : BlkOk { B with kinds := B.kinds.set p 2 } := ⟨by simp [HOK.out.k], HOK.out.p⟩
        have HA2' := Lib.hid A2
        have OK2 := Lib.hid ok2
        obtain ⟨pr, po, hpl, he, hs⟩ := bk_page ok2 p hp
        have HPL := Lib.hid hpl
        have HE := Lib.hid he
        have HS := Lib.hid hs
        clear A2 hb2 ok2 hpl he hs
        gi_wp2_with (first
          | (refine ⟨trivial, ?_⟩; gi_at_call 84; refine (CallsIn.inRound l (callsIn_wide.2 PR.out)).mono ?_; rintro e V1 ⟨rfl, hb⟩; have A3 := Lib.hid (HA2'.out.kept (Turned.of_below hb (Nat.le_refl _) NoBlock) (fun h => h)); have HB3 := Lib.hid hb; clear hb)
          | (refine wpListIn_stm (ys := pgC (pgRd (pgAtW ws p)).1) _ _ rfl rfl rfl rfl ppg_size (pgC_len _) (pgC_len _) (pgC_one _) (by rw [HPL.out]; omega) HE.out A3.out ?_; intro V2 A4 T4; rw [← HS.out] at A4; have HA4 := Lib.hid A4; have k4 := A4.cell (2 + p); have f4 := A4.frozen (2 + p); rw [bk_kind (b := { B with kinds := B.kinds.set p 2, pages := B.pages.set p (pgRd (pgAtW ws p)).1 }) ⟨by simp [HOK.out.k], by simp [HOK.out.p]⟩ p hp] at k4; have HT4 := Lib.hid T4; clear A4 T4))
        refine ⟨((((Turned.refl (Just (w.heap.size + 1)) W).setCell (p := ⟨w.heap.size + 1, 2 + p, none⟩) (fun _ => rfl) _).trans (Turned.of_below HB3.out (Nat.le_refl _) _)).trans HT4.out).setCell (p := ⟨w.heap.size + 1, 2 + p, none⟩) (fun _ => rfl) _, ?_⟩
        have A5 := HA4.out.put (2 + p) (.int .i64 (pgRd (pgAtW ws p)).2)
        rw [bk_setKind (b := { B with kinds := B.kinds.set p 2, pages := B.pages.set p (pgRd (pgAtW ws p)).1 }) ⟨by simp [HOK.out.k], by simp [HOK.out.p]⟩ p hp] at A5
        unfold blkPut
        rw [if_pos h1]
        exact A5
      · gi_wp2
        refine ⟨(Turned.refl (Just (w.heap.size + 1)) W).setCell (p := ⟨w.heap.size + 1, 2 + p, none⟩) (fun _ => rfl) _, ?_⟩
        have A5 := HA1.out.put (2 + p) (.int .i64 2)
        rw [bk_setKind HOK.out p hp] at A5
        unfold blkPut
        rw [if_neg h1]
        exact A5
    · rintro e a W' ⟨_, hT, rfl, _, hA'⟩
      have hs1 := hT.size
      refine ⟨hT.from _ (fun k hk => by unfold Just at hk; omega), hT.keeps (fun k hk => ⟨by omega, by unfold Just; omega⟩), ⟨?_, hA3.kept hT (by unfold Just; omega)⟩, hB.trans (hT.below (fun k hk => by unfold Just at hk; omega) hB.size), by omega⟩
      rw [List.map_append, List.map_cons, List.map_nil, blkAll_snoc]
      exact hA'
  case done =>
    rintro D xs W hD rfl ⟨⟨hA1, hA3⟩, hB, hsz⟩ hK
    rw [fins_map 8 8 (Nat.le_refl _), blkAll_done] at hA1
    have HL := Lib.hid (bk_len (bkOf_ok ws))
    gi_wp2_with (first
      | (refine wpListIn_ldr_w _ rfl rfl rfl Tryz.underlying147 rfl bk_size HL.out hA1.rng ?_)
      | (refine wpListIn_stm_w (pre := []) (post := []) (xs := bkC bk0) _ _ rfl rfl rfl rfl bk_size (by rfl) HL.out (bk_one _) rfl (by simp) hA3 ?_; intro w2 A2 T2; have HA2 := Lib.hid A2; have HT2 := Lib.hid T2; clear A2 T2))
    have hD2 : w.heap.size ≠ D := by omega
    have hK2 : w2.heap[D]? = some (.deferred (some [])) := (HT2.out.block D (Array.getElem?_eq_some_iff.1 hK).1 (by unfold Just; omega)).trans hK
    have A2 := HA2.out
    rw [List.nil_append, List.append_nil] at A2
    exact post_mark hK2 (bk_res1 Tryz.results68 _ rfl (A2.mark hD2 _) HL.out) ⟨rfl, below_mark (hB.trans (HT2.out.below (fun k hk => by unfold Just at hk; omega) hB.size)) (by omega) hK2⟩
  case stop =>
    rintro D c pre W hD _ h _
    exact h.elim
end Go.Proofs.YtpkkejdjhnmjiaaGreat
namespace Go.Proofs.YtpkkejdjhnmjiaaGreat
open Go.RowKit Bm Go.Shelf
attribute [local go_sem] Oper.semAt_some bk_head bk_count
theorem bk_infoA : (Tryz.prog.info? 147).map (fun i => (i.zero, i.size, i.bytes)) = some (some (.agg (bkC bk0).toArray), 66, 304) := by kernel_rfl
theorem scOf_bad {ws : List (BitVec 32)} (h : ¬ (ws.length % 64 = 0 ∧ 1 ≤ ws.length / 64 ∧ ws.length / 64 ≤ 64)) : scOf ws = ([], 8) := by unfold scOf; rw [if_neg h]
theorem scOf_good {ws : List (BitVec 32)} {m : Nat} (h : ws.length = 64 * m) (h1 : 1 ≤ m) (h2 : m ≤ 64) : scOf ws = ((List.range m).map (fun i => bkOf (chunk ws i)), 0) := by
  have e : ws.length / 64 = m := by omega
  unfold scOf
  rw [if_pos ⟨by omega, by omega, by omega⟩, e]
def found (ws : List (BitVec 32)) (l : List Nat) : List BlkM := l.map fun i => bkOf (chunk ws i)
theorem found_ok (ws : List (BitVec 32)) (l : List Nat) : ∀ b ∈ found ws l, BlkOk b := fun b hb => by
  obtain ⟨i, _, rfl⟩ := List.mem_map.1 hb
  exact bkOf_ok _
theorem found_len (ws : List (BitVec 32)) (l : List Nat) : (found ws l).length = l.length := by simp [found]
theorem found_snoc (ws : List (BitVec 32)) (l : List Nat) (i : Nat) : found ws (l ++ [i]) = found ws l ++ [bkOf (chunk ws i)] := by simp [found]
def RowB (g m : Nat) (t : TypeId) (bs : List BlkM) (W : World) : Prop := ∃ rest, At W g t (bks bs ++ rest) ∧ (bks bs ++ rest).length = m * 66
theorem RowB.own_from {β : Type} {B g m : Nat} {t : TypeId} {f : β → List BlkM} : OwnFrom B (fun s W => RowB g m t (f s) W) := fun _ _ _ _ ⟨rest, h, hl⟩ hg hr => ⟨rest, h.stay hg hr, hl⟩
set_option maxRecDepth 100000 in
set_option maxHeartbeats 2000000 in
theorem swords_own (A : Option Addr) (n c : Nat) (ws : List (BitVec 32)) (w : World) (hA : ReadsU w A n c ws) : Calls Tryz.prog 49 #[.slice A n c] w fun e w' => ∃ B cap, e = .returned (.tuple #[.slice B (scOf ws).1.length cap, .int .i64 (scOf ws).2]) ∧ ReadsB w' B (scOf ws).1.length cap (scOf ws).1 ∧ Below w.heap.size w w' ∧ ((scOf ws).2 = 0 → B = some ⟨w.heap.size, 0, none⟩ ∧ cap = (scOf ws).1.length ∧ At w' w.heap.size 147 (bks (scOf ws).1)) := by
  have hlen := hA.len
  have hle := hA.le
  have hmx := hA.max
  have hn0 : n ≤ 9223372036854775807 := by unfold maxLen at hmx; omega
  by_cases hg : n % 64 = 0 ∧ 1 ≤ n / 64 ∧ n / 64 ≤ 64
  · obtain ⟨m, rfl⟩ : ∃ m, n = 64 * m := ⟨n / 64, by omega⟩
    have m1 : 1 ≤ m := by omega
    have m2 : m ≤ 64 := by omega
    rw [scOf_good (hlen) m1 m2]
    rw [List.length_map, List.length_range]
    obtain ⟨ad, rfl, hlt, _⟩ := hA.cell (by omega)
    have HA := Lib.hid hA
    obtain ⟨i0, hin, hz0, hz1, hz2⟩ := info_parts bk_infoA
    clear hA hg
    refine (callsIn_wide (n := 10)).1 ?_
    refine callsIn_of_wp_marks Tryz.func49 rfl trivial ?_
    simp only [Tryz.ntmps49, List.size_toArray, List.length_cons, List.length_nil, Nat.reduceAdd, Nat.reduceSub, Array.replicate_succ, Array.replicate_zero, List.push_toArray, List.append_toArray, List.nil_append, List.cons_append]
    gi_wp2_with (first
      | (gi_at_make; refine wpListIn_make_own _ rfl _ _ _ rfl w.heap.size 147 i0 _ 66 Tryz.underlying80 hin hz0 hz1 .i64 .i64 (m : Int) m rfl rfl rfl (by rw [hz2]; omega) (by unfold maxLen; omega) (Nat.le_refl _) ?_; intro w1 hown hgr; have HOWN := Lib.hid hown; have HGR := Lib.hid hgr; clear hown hgr)
      | (refine ⟨trivial, ?_⟩; gi_at_call 67; refine (callsIn_wide.2 (chunk_of _ _ _ _)).mono ?_; rintro e w' ⟨rfl, rfl⟩))
    obtain ⟨rest, hrow, hrl, _, _, _⟩ := at_of_own HOWN.out
    have hw1 : w.heap.size < w1.heap.size := hrow.lt
    obtain ⟨W0, hW0⟩ : ∃ W0, (((w1.alloc (Obj.cells #[Value.slice (some { block := w.heap.size, off := 0 }) 0 m] 80)).alloc (Obj.cells #[Value.slice (some ad) (64 * m) c] 89)).alloc (Obj.cells #[Value.int IntKind.i64 64] 3)) = W0 := ⟨_, rfl⟩
    have hs0 : W0.heap.size = w1.heap.size + 3 := by rw [← hW0]; simp
    have a0 : At W0 w.heap.size 147 (bks (found ws []) ++ rest) := by rw [← hW0]; exact ((hrow.alloc _).alloc _).alloc _
    have a1 : At W0 w1.heap.size 80 [.slice (some ⟨w.heap.size, 0, none⟩) 0 m] := by rw [← hW0]; exact ((At.alloc_new _ _ _ rfl rfl).alloc _).alloc _
    have a2 : At W0 (w1.heap.size + 1) 89 [.slice (some ad) (64 * m) c] := by rw [← hW0]; exact (At.alloc_new _ _ _ (by simp) rfl).alloc _
    have a3 : At W0 (w1.heap.size + 2) 3 [.int .i64 64] := by rw [← hW0]; exact At.alloc_new _ _ _ (by simp) rfl
    have hb1 : Below w.heap.size w w1 := (Below.refl _ w).grown HGR.out (Nat.le_refl _) (fun k e => by cases e)
    have hb0 : Below w.heap.size w W0 := by rw [← hW0]; exact ((hb1.alloc (by omega) _).alloc (by simp; omega) _).alloc (by simp; omega) _
    rw [hW0]
    clear hW0
    refine wpIn_rangeFunc_ownG rfl (by omega) (gf := 81) (lb := #[.pointer (some ⟨w1.heap.size + 1, 0, none⟩), .pointer (some ⟨w1.heap.size + 1 + 1, 0, none⟩)]) rfl trivial (enters_of Tryz.func81 (by kernel_rfl) rfl)
      (chunks_stops (w1.heap.size + 1) (w1.heap.size + 1 + 1) ad m c hle m2 (fun k => k = w1.heap.size + 1 ∨ k = w1.heap.size + 1 + 1) (.inl rfl) (.inr rfl) W0 a2 a3) Keeps.trans (Keeps.put (fun k hk => by rcases hk with rfl | rfl <;> omega)) (Below.refl _ _) (fun _ => rfl)
      (fun (pre : List (Fin m)) W => (RowB w.heap.size m 147 (found ws (pre.map (·.val))) W ∧ At W w1.heap.size 80 [.slice (some ⟨w.heap.size, 0, none⟩) pre.length m]) ∧ Below w.heap.size w W ∧ W0.heap.size ≤ W.heap.size)
      (fun _ _ _ => False)
      (OwnFrom.and (OwnFrom.and (RowB.own_from (f := fun pre : List (Fin m) => found ws (pre.map (·.val)))) (At.own_from (f := fun pre : List (Fin m) => [.slice (some ⟨w.heap.size, 0, none⟩) pre.length m]))) (OwnFrom.and (ownFrom_below (Nat.le_refl _) (by omega)) (size_own_from _ _)))
      (fun _ _ _ _ _ hs _ _ => hs)
      ⟨⟨⟨rest, a0, hrl⟩, a1⟩, hb0, Nat.le_refl _⟩
      (fun x => { tmps := #[Value.slice (some ad) (64 * m) c, undef, Value.slice none 0 0, Value.int IntKind.i64 0,
          Value.int IntKind.i64 m, Value.pointer (some { block := w1.heap.size, off := 0 }), sub ad (64 * x.val) 64 64,
          Value.slice (some ad) (64 * m) c, Value.int IntKind.i64 (64 * m), Value.int IntKind.i64 m,
          Value.slice (some ad) (64 * m) c, Value.int IntKind.i64 (64 * m), Value.int IntKind.i64 0, Value.bool false,
          Value.bool false, Value.int IntKind.i64 m, Value.bool (decide ((m : Int) < 1)), Value.bool (decide ((m : Int) < 1)),
          Value.bool (decide ((m : Int) < 1)), Value.int IntKind.i64 m, Value.bool (decide (64 < (m : Int))),
          Value.bool (decide ((m : Int) < 1) || decide (64 < (m : Int))), Value.int IntKind.i64 m,
          Value.slice (some { block := w.heap.size, off := 0 }) 0 m, Value.slice (some ad) (64 * m) c,
          Value.func (Fn.func 81) #[] #[Value.pointer (some { block := w1.heap.size + 1, off := 0 }), Value.pointer (some { block := w1.heap.size + 1 + 1, off := 0 })],
          sub ad (64 * x.val) 64 64, undef, undef, undef, undef, undef, undef], defers := [] }) ?assign ?body ?done ?stop
    case assign =>
      intro l x W K hK
      unfold chunkV
      gi_wp2
      exact hK
    case body =>
      rintro l pre x W ⟨⟨⟨rs, hR, hRl⟩, hL⟩, hB, hsz⟩ hl
      have hl0 := hL.cell 0
      simp only [List.getElem?_cons_zero] at hl0
      have hlf := hL.frozen 0
      have HR := Lib.hid hR
      have HRL := Lib.hid hRl
      have HLB := Lib.hid hL
      have HBB := Lib.hid hB
      have HSZ := Lib.hid hsz
      have HS0 := Lib.hid hs0
      have OWN : Hid (∀ V, Below W.drew.heap.size W.drew V → Hid ((V.alloc (.cells (bkC (bkOf (chunk ws x.val))).toArray 147)).ownsRow 0 147 66 (.slice (some ⟨w.heap.size, 0, none⟩) pre.length m) pre.length (bks (found ws (pre.map (·.val)))))) := fun V hb => by
        have h1 := ((HR.out.drew.kept (Turned.of_below hb (Nat.le_refl _) NoBlock) (fun h => h)).alloc (.cells (bkC (bkOf (chunk ws x.val))).toArray 147))
        exact Lib.hid (own_of_at h1 (Nat.zero_le _) (by rw [bks_len (found_ok _ _), found_len, List.length_map]; omega) HRL.out (by omega) (by unfold maxLen; omega))
      have LS0 : Hid (∀ V, Below W.drew.heap.size W.drew V → (V.alloc (.cells (bkC (bkOf (chunk ws x.val))).toArray 147)).cell? ⟨w1.heap.size, 0, none⟩ = some (.slice (some ⟨w.heap.size, 0, none⟩) pre.length m) ∧ V.cell? ⟨w1.heap.size, 0, none⟩ = some (.slice (some ⟨w.heap.size, 0, none⟩) pre.length m)) := fun V hb => by
        have h1 := HLB.out.drew.kept (Turned.of_below hb (Nat.le_refl _) NoBlock) (fun h => h)
        exact ⟨(h1.alloc _).cell 0, h1.cell 0⟩
      have LS : Hid (∀ V, Below W.drew.heap.size W.drew V → ∀ w', (V.alloc (.cells (bkC (bkOf (chunk ws x.val))).toArray 147)).grownBy w' (some w.heap.size) → w'.cell? ⟨w1.heap.size, 0, none⟩ = some (.slice (some ⟨w.heap.size, 0, none⟩) pre.length m) ∧ w'.frozen? ⟨w1.heap.size, 0, none⟩ = false) := fun V hb w' hg => by
        have h1 := ((HLB.out.drew.kept (Turned.of_below hb (Nat.le_refl _) NoBlock) (fun h => h)).alloc (.cells (bkC (bkOf (chunk ws x.val))).toArray 147))
        have h2 : At w' w1.heap.size 80 [.slice (some ⟨w.heap.size, 0, none⟩) pre.length m] := (hg.block _ h1.lt (fun e => by injection e with e; omega)).trans h1
        exact ⟨h2.cell 0, h2.frozen 0⟩
      have FIN : Hid (∀ V, Below W.drew.heap.size W.drew V → ∀ w', w'.ownsRow 0 147 66 (.slice (some ⟨w.heap.size, 0, none⟩) (pre.length + 1) m) (pre.length + 1) (bks (found ws (pre.map (·.val))) ++ bkC (bkOf (chunk ws x.val))) → (V.alloc (.cells (bkC (bkOf (chunk ws x.val))).toArray 147)).grownBy w' (some w.heap.size) →
          KeepsFrom W0.heap.size W (w'.setCell ⟨w1.heap.size, 0, none⟩ (.slice (some ⟨w.heap.size, 0, none⟩) (pre.length + 1) m)) ∧ Keeps (fun k => k = w1.heap.size + 1 ∨ k = w1.heap.size + 1 + 1) W (w'.setCell ⟨w1.heap.size, 0, none⟩ (.slice (some ⟨w.heap.size, 0, none⟩) (pre.length + 1) m)) ∧
          (RowB w.heap.size m 147 (found ws ((pre ++ [x]).map (·.val))) (w'.setCell ⟨w1.heap.size, 0, none⟩ (.slice (some ⟨w.heap.size, 0, none⟩) (pre.length + 1) m)) ∧ At (w'.setCell ⟨w1.heap.size, 0, none⟩ (.slice (some ⟨w.heap.size, 0, none⟩) (pre.length + 1) m)) w1.heap.size 80 [.slice (some ⟨w.heap.size, 0, none⟩) (pre ++ [x]).length m]) ∧ Below w.heap.size w (w'.setCell ⟨w1.heap.size, 0, none⟩ (.slice (some ⟨w.heap.size, 0, none⟩) (pre.length + 1) m)) ∧ W0.heap.size ≤ (w'.setCell ⟨w1.heap.size, 0, none⟩ (.slice (some ⟨w.heap.size, 0, none⟩) (pre.length + 1) m)).heap.size) := fun V hb w' ho hg => by
        have hT : Turned (fun k => k = w.heap.size ∨ k = w1.heap.size) W (w'.setCell ⟨w1.heap.size, 0, none⟩ (.slice (some ⟨w.heap.size, 0, none⟩) (pre.length + 1) m)) :=
          ((((Turned.refl (fun k => k = w.heap.size ∨ k = w1.heap.size) W).drew.trans (Turned.of_below hb (Nat.le_refl _) _)).alloc _).grown hg (fun k e _ => by injection e with e; exact .inl e.symm)).setCell (p := ⟨w1.heap.size, 0, none⟩) (fun _ => .inr rfl) _
        have hsz' := hT.size
        have hs' := HSZ.out
        have hs0' := HS0.out
        have h1 := ((HLB.out.drew.kept (Turned.of_below hb (Nat.le_refl _) NoBlock) (fun h => h)).alloc (.cells (bkC (bkOf (chunk ws x.val))).toArray 147))
        have h2 : At w' w1.heap.size 80 [.slice (some ⟨w.heap.size, 0, none⟩) pre.length m] := (hg.block _ h1.lt (fun e => by injection e with e; omega)).trans h1
        obtain ⟨rest', hr1, hr2, _, _, _⟩ := at_of_own ho
        refine ⟨hT.from _ (fun k hk => by rcases hk with rfl | rfl <;> omega), hT.keeps (fun k hk => ⟨by rcases hk with rfl | rfl <;> omega, by rcases hk with rfl | rfl <;> omega⟩), ⟨⟨rest', ?_, ?_⟩, ?_⟩, HBB.out.trans (hT.below (fun k hk => by rcases hk with rfl | rfl <;> omega) HBB.out.size), by omega⟩
        · rw [List.map_append, List.map_cons, List.map_nil, found_snoc, bks_snoc]
          exact hr1.far (by show w.heap.size ≠ w1.heap.size; omega) _
        · rw [List.map_append, List.map_cons, List.map_nil, found_snoc, bks_snoc]
          exact hr2
        · rw [List.length_append, List.length_singleton]
          exact h2.put 0 _
      have SB := Lib.hid (sblock_any (ad.add (64 * x.val)) 64 (chunk ws x.val) W.drew ((HA.out.kept (hB.drew)).sub (64 * x.val) 64 64 (by omega) (Nat.le_refl _) (by unfold maxLen; omega)))
      gi_wp2
      refine drawn_in (by kernel_rfl) (fun _ _ h => h) (by kernel_rfl) ?_
      refine wpAny_take (i := 1) (v := sub ad (64 * x.val) 64 64) rfl (by kernel_rfl) (by kernel_rfl) (by kernel_rfl) (fun _ _ _ h => h) (Or.inl ⟨by rfl, fun w => by go_simp⟩) ?_
      simp only [Act.put]
      refine wpAny_all (rs := [0, 2]) (by kernel_rfl) (by simp) ?_
      intro i hi
      obtain rfl | rfl : i = 0 ∨ i = 2 := by simpa using hi
      · refine op_go rfl rfl ?_
        go_simp
        refine wpAny_all (rs := [2]) (by kernel_rfl) (by simp) ?_
        intro i hi
        obtain rfl : i = 2 := by simpa using hi
        refine op_go rfl rfl ?_
        go_simp
        refine SB.out.mono ?_
        rintro e V ⟨rfl, hb⟩
        dsimp only
        unfold bkV
        have hva : (V.alloc (.cells (bkC (bkOf (chunk ws x.val))).toArray 147)).cell? ⟨w1.heap.size, 0, none⟩ = some (.slice (some ⟨w.heap.size, 0, none⟩) pre.length m) := (LS0.out V hb).1
        have hvv : V.cell? ⟨w1.heap.size, 0, none⟩ = some (.slice (some ⟨w.heap.size, 0, none⟩) pre.length m) := (LS0.out V hb).2
        refine wpAny_all (rs := [3]) (by kernel_rfl) (by simp) ?_
        intro i hi
        obtain rfl : i = 3 := by simpa using hi
        refine op_go rfl rfl ?_
        refine wp_build_one (.tmp 29) rfl rfl Tryz.underlying80 hin hz0 hz1 (cs := (bkC (bkOf (chunk ws x.val))).toArray) (by simpa using bk_len (bkOf_ok _)) (by omega) (by omega) ?_
        simp only [Act.put]
        refine wpAny_all (rs := [4]) (by kernel_rfl) (by simp) ?_
        intro i hi
        obtain rfl : i = 4 := by simpa using hi
        refine op_go rfl rfl ?_
        refine wp_append_fits (.tmp 27) (.tmp 30) rfl Tryz.underlying80 hin hz1 rfl ((OWN.out V hb).out) rfl (by rw [bk_len (bkOf_ok _)]) (At.news V _ _).news_at (bk_one _) (by omega) ?_
        intro w' hown' hgr'
        simp only [Act.put]
        obtain ⟨hlc, hlf⟩ := LS.out V hb w' hgr'
        refine wpAny_all (rs := [5]) (by kernel_rfl) (by simp) ?_
        intro i hi
        obtain rfl : i = 5 := by simpa using hi
        refine op_go rfl rfl ?_
        go_simp
        refine wpAny_done (by kernel_rfl) ?_ _
        exact FIN.out V hb w' hown' hgr'
      · refine op_go rfl rfl ?_
        go_simp
        refine SB.out.mono ?_
        rintro e V ⟨rfl, hb⟩
        dsimp only
        unfold bkV
        have hva : (V.alloc (.cells (bkC (bkOf (chunk ws x.val))).toArray 147)).cell? ⟨w1.heap.size, 0, none⟩ = some (.slice (some ⟨w.heap.size, 0, none⟩) pre.length m) := (LS0.out V hb).1
        have hvv : V.cell? ⟨w1.heap.size, 0, none⟩ = some (.slice (some ⟨w.heap.size, 0, none⟩) pre.length m) := (LS0.out V hb).2
        refine wpAny_all (rs := [0, 3]) (by kernel_rfl) (by simp) ?_
        intro i hi
        obtain rfl | rfl : i = 0 ∨ i = 3 := by simpa using hi
        · refine op_go rfl rfl ?_
          go_simp
          refine wpAny_all (rs := [3]) (by kernel_rfl) (by simp) ?_
          intro i hi
          obtain rfl : i = 3 := by simpa using hi
          refine op_go rfl rfl ?_
          refine wp_build_one (.tmp 29) rfl rfl Tryz.underlying80 hin hz0 hz1 (cs := (bkC (bkOf (chunk ws x.val))).toArray) (by simpa using bk_len (bkOf_ok _)) (by omega) (by omega) ?_
          simp only [Act.put]
          refine wpAny_all (rs := [4]) (by kernel_rfl) (by simp) ?_
          intro i hi
          obtain rfl : i = 4 := by simpa using hi
          refine op_go rfl rfl ?_
          refine wp_append_fits (.tmp 27) (.tmp 30) rfl Tryz.underlying80 hin hz1 rfl ((OWN.out V hb).out) rfl (by rw [bk_len (bkOf_ok _)]) (At.news V _ _).news_at (bk_one _) (by omega) ?_
          intro w' hown' hgr'
          simp only [Act.put]
          obtain ⟨hlc, hlf⟩ := LS.out V hb w' hgr'
          refine wpAny_all (rs := [5]) (by kernel_rfl) (by simp) ?_
          intro i hi
          obtain rfl : i = 5 := by simpa using hi
          refine op_go rfl rfl ?_
          go_simp
          refine wpAny_done (by kernel_rfl) ?_ _
          exact FIN.out V hb w' hown' hgr'
        · refine op_go rfl rfl ?_
          refine wp_build_one (.tmp 29) rfl rfl Tryz.underlying80 hin hz0 hz1 (cs := (bkC (bkOf (chunk ws x.val))).toArray) (by simpa using bk_len (bkOf_ok _)) (by omega) (by omega) ?_
          simp only [Act.put]
          refine wpAny_all (rs := [0]) (by kernel_rfl) (by simp) ?_
          intro i hi
          obtain rfl : i = 0 := by simpa using hi
          refine op_go rfl rfl ?_
          go_simp
          refine wpAny_all (rs := [4]) (by kernel_rfl) (by simp) ?_
          intro i hi
          obtain rfl : i = 4 := by simpa using hi
          refine op_go rfl rfl ?_
          refine wp_append_fits (.tmp 27) (.tmp 30) rfl Tryz.underlying80 hin hz1 rfl ((OWN.out V hb).out) rfl (by rw [bk_len (bkOf_ok _)]) (At.news V _ _).news_at (bk_one _) (by omega) ?_
          intro w' hown' hgr'
          simp only [Act.put]
          obtain ⟨hlc, hlf⟩ := LS.out V hb w' hgr'
          refine wpAny_all (rs := [5]) (by kernel_rfl) (by simp) ?_
          intro i hi
          obtain rfl : i = 5 := by simpa using hi
          refine op_go rfl rfl ?_
          go_simp
          refine wpAny_done (by kernel_rfl) ?_ _
          exact FIN.out V hb w' hown' hgr'
    case done =>
      rintro D xs W hD rfl ⟨⟨hR, hL⟩, hB, hsz⟩ hK
      have hl0 := hL.cell 0
      simp only [List.getElem?_cons_zero] at hl0
      rw [fins_length m m (Nat.le_refl _)] at hl0
      have hm' : (m : Int) ≤ 64 := by omega
      gi_wp2
      rw [fins_map m m (Nat.le_refl _)] at hR
      obtain ⟨rs, hR1, hR2⟩ := hR
      refine post_mark hK (results_tmp2 rfl _ _ _) ⟨some ⟨w.heap.size, 0, none⟩, m, rfl, ?_, below_mark hB (by omega) hK, fun _ => ⟨rfl, rfl, ?_⟩⟩
      · have := ReadsB.of_at (cap := m) (hR1.mark (D := D) (by omega) (.deferred none)) (found_ok _ _) (by rw [found_len, List.length_range]; exact Nat.le_refl _) (by unfold maxLen; omega)
        rw [found_len, List.length_range] at this
        exact this
      · have := hR1.mark (D := D) (by omega) (.deferred none)
        rw [List.length_append, bks_len (found_ok _ _), found_len, List.length_range] at hR2
        obtain rfl : rs = [] := List.eq_nil_of_length_eq_zero (by omega)
        rw [List.append_nil] at this
        exact this
    case stop =>
      rintro D c pre W hD _ h _
      exact h.elim
  · rw [scOf_bad (by rw [hlen]; exact hg)]
    have hn1 : (0 : Int) ≤ (n : Int) := by omega
    refine (callsIn_wide (n := 10)).1 ?_
    refine callsIn_of_wp_marks Tryz.func49 rfl trivial ?_
    simp only [Tryz.ntmps49, List.size_toArray, List.length_cons, List.length_nil, Nat.reduceAdd, Nat.reduceSub, Array.replicate_succ, Array.replicate_zero, List.push_toArray, List.append_toArray, List.nil_append, List.cons_append]
    gi_wp2
    all_goals first | exact post_ret (results_tmp2 rfl _ _ _) ⟨none, 0, rfl, ReadsB.none w, Below.refl _ _⟩ | exact post_ret (results_tmp2 rfl _ _ _) ⟨none, 0, rfl, ReadsB.none w, Below.refl _ _, fun h => absurd h (by decide)⟩
end Go.Proofs.YtpkkejdjhnmjiaaGreat
