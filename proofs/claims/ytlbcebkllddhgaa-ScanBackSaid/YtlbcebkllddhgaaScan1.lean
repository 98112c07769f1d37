/- Contracts of the program's scan.Next, Empty, Counts. -/
import Derived.Test.YtlbcebkllddhgaaScanIter
import Derived.Test.YtlbcebkllddhgaaScanFacts
import Derived.Test.YtlbcebkllddhgaaScanRows
namespace Go.Proofs.Ytlbcebkllddhgaa
open Go.RowKit Bm Go.Shelf

attribute [local go_sem] Oper.semAt_some bk_head bk_count

theorem bk_get2 {b : BlkM} (h : BlkOk b) (i : Nat) (hi : i < 8) : (bkC b)[2 + i]? = some (.int .i64 (nm b.kinds i)) := bk_kind h i hi

/-- The least place that was gone through; -1: none was. -/
def lastOf (pre : List Nat) : Int := match pre.getLast? with | some x => (x : Int) | none => -1
theorem lastOf_snoc (pre : List Nat) (x : Nat) : lastOf (pre ++ [x]) = (x : Int) := by simp [lastOf]

theorem last_downs (k : Nat) : lastOf (downs (k + 1)) = ((7 - k : Nat) : Int) := by rw [downs_succ, lastOf_snoc]
theorem mem_downs (k i : Nat) (h : 8 - k ≤ i) (h' : i < 8) : i ∈ downs k := List.mem_map.2 ⟨7 - i, by rw [List.mem_range]; omega, by omega⟩
/-- Where the walk from the end on came to a page that is not free, or to the first one. -/
theorem next_downs {b : BlkM} (h1 : b.head = 1) (k : Nat) (hk : k ≤ 8) (hz : ∀ x ∈ downs k, nm b.kinds x = 0) (hn : k < 8 → nm b.kinds (7 - k) ≠ 0) : bkNext b = lastOf (downs k) := by
  have e : freeFrom b.kinds 8 = 8 - k := free_is b.kinds 8 (8 - k) (by omega) (fun i a c => hz i (mem_downs k i a c)) (fun h => by rw [show 8 - k - 1 = 7 - k by omega]; exact hn (by omega))
  unfold bkNext
  rw [if_pos h1, e]
  cases k with
  | zero => rfl
  | succ k =>
    rw [if_neg (by omega), last_downs k]
    omega

set_option maxRecDepth 100000 in
set_option maxHeartbeats 2000000 in
theorem snext_any (b : BlkM) (hb : BlkOk b) (w : World) : Calls Try.prog 16 #[bkV b] w fun e w' => e = .returned (.int .i64 (bkNext b)) ∧ Below w.heap.size w w' := by
  have HK := Lib.hid hb
  clear hb
  unfold bkV
  refine (callsIn_wide (n := 10)).1 ?_
  refine callsIn_of_wp_marks Try.func16 rfl trivial ?_
  simp only [Try.ntmps16, List.size_toArray, List.length_cons, List.length_nil, Nat.reduceAdd, Nat.reduceSub, Array.replicate_succ, Array.replicate_zero, List.push_toArray, List.append_toArray, List.nil_append, List.cons_append]
  by_cases h1 : b.head = 1
  · gi_wp2_with (refine ⟨trivial, ?_⟩; gi_at_call 26; refine (callsIn_wide.2 (back_of _ _ _ _)).mono ?_; rintro e w' ⟨rfl, rfl⟩)
    obtain ⟨W0, hW0⟩ : ∃ W0, ((w.alloc (Obj.cells (bkC b).toArray 43)).alloc (Obj.cells #[Value.int IntKind.i64 (-1)] 3)).alloc (Obj.cells #[Value.slice (some { block := w.heap.size, off := 2 }) 8 8] 62) = W0 := ⟨_, rfl⟩
    have hs0 : W0.heap.size = w.heap.size + 3 := by rw [← hW0]; simp
    have a0 : At W0 w.heap.size 43 (bkC b) := by rw [← hW0]; exact ((At.news w _ _).alloc _).alloc _
    have a1 : At W0 (w.heap.size + 1) 3 [.int .i64 (lastOf [])] := by rw [← hW0]; exact (At.alloc_new _ _ _ (by simp) rfl).alloc _
    have a2 : At W0 (w.heap.size + 2) 62 [.slice (some ⟨w.heap.size, 2, none⟩) 8 8] := by rw [← hW0]; exact At.alloc_new _ _ _ (by simp) rfl
    have hb0 : Below w.heap.size w W0 := by rw [← hW0]; exact (below_two w _ _).alloc (by simp; omega) _
    have a0c : ∀ i, i < 8 → W0.cell? ((⟨w.heap.size, 2, none⟩ : Addr).add i) = some (.int .i64 (nm b.kinds i)) := fun i hi => by
      have e : (⟨w.heap.size, 2, none⟩ : Addr).add i = ⟨w.heap.size, 2 + i, none⟩ := by unfold Addr.add; split <;> simp_all
      rw [e, a0.cell]
      exact bk_kind HK.out i hi
    rw [hW0]
    clear hW0
    refine wpIn_rangeFunc_ownG rfl (by omega) (gf := 35) (lb := #[.pointer (some ⟨w.heap.size + 2, 0, none⟩)]) rfl trivial (enters_of Try.func35 (by kernel_rfl) rfl)
      (backs_stops (w.heap.size + 2) ⟨w.heap.size, 2, none⟩ 8 b.kinds (fun k => k = w.heap.size ∨ k = w.heap.size + 2) (.inr rfl) (.inl rfl) W0 (by show w.heap.size < _; omega) a2 a0c) Keeps.trans (Keeps.put (fun k hk => by rcases hk with rfl | rfl <;> omega)) (Below.refl _ _) (fun _ => rfl)
      (fun pre W => (At W (w.heap.size + 1) 3 [.int .i64 (lastOf pre)] ∧ Below w.heap.size w W) ∧ ∀ x ∈ pre, nm b.kinds x = 0)
      (fun c (pre : List Nat) W => (At W (w.heap.size + 1) 3 [.int .i64 (lastOf pre.dropLast)] ∧ Below w.heap.size w W) ∧ c = .exit 0 ∧ (∀ x ∈ pre.dropLast, nm b.kinds x = 0) ∧ ∃ p x, pre = p ++ [x] ∧ nm b.kinds x ≠ 0)
      (OwnFrom.and (OwnFrom.and (At.own_from (f := fun pre => [.int .i64 (lastOf pre)])) (ownFrom_below (Nat.le_refl _) (by omega))) (ownFrom_pure _ _))
      (fun _ => OwnFrom.and (OwnFrom.and (At.own_from (f := fun pre : List Nat => [.int .i64 (lastOf pre.dropLast)])) (ownFrom_below (Nat.le_refl _) (by omega))) (ownFrom_pure _ _))
      ⟨⟨a1, hb0⟩, fun x hx => by cases hx⟩
      (fun x => { tmps := #[Value.agg (bkC b).toArray, .pointer (some ⟨w.heap.size, 0, none⟩), .int .i64 0, .pointer (some ⟨w.heap.size + 1, 0, none⟩), .int .i64 (x : Int), .int .i64 (nm b.kinds x), .pointer (some ⟨w.heap.size, 0, none⟩), .int .i64 1, .bool false, undef, .pointer (some ⟨w.heap.size, 2, none⟩), .slice (some ⟨w.heap.size, 2, none⟩) 8 8,
        .func (.func 35) #[] #[.pointer (some ⟨w.heap.size + 1 + 1, 0, none⟩)], .int .i64 (x : Int), .int .i64 (nm b.kinds x), undef, undef, undef, undef], defers := [] }) ?assign ?body ?done ?stop
    case assign =>
      intro l x W K hK
      unfold backV
      gi_wp2
      exact hK
    case body =>
      rintro l pre x W ⟨⟨hA, hB⟩, hz⟩ hl
      have HZ := Lib.hid hz
      clear hz
      have c1 := hA.cell 0
      have f1 := hA.frozen 0
      simp only [List.getElem?_cons_zero] at c1
      by_cases hk : nm b.kinds x = 0
      · gi_wp2
        exact ⟨(KeepsOthers.setCell _ _ _).from _, fun k hk' => Below.heap_setCell _ _ _ _ (by show k ≠ w.heap.size + 1; omega), ⟨by rw [lastOf_snoc]; exact hA.put 0 _, hB.setCell (p := ⟨w.heap.size + 1, 0, none⟩) (by show w.heap.size ≤ w.heap.size + 1; omega) _⟩, fun y hy => by
          rcases List.mem_append.1 hy with h | h
          · exact HZ.out y h
          · obtain rfl : y = x := by simpa using h
            exact hk⟩
      · gi_wp2
        exact ⟨KeepsFrom.refl _ _, ⟨by rw [List.dropLast_concat]; exact hA, hB⟩, rfl, by rw [List.dropLast_concat]; exact HZ.out, pre, x, rfl, hk⟩
    case done =>
      rintro D xs W hD rfl ⟨⟨hA, hB⟩, hz⟩ hK
      have c1 := hA.cell 0
      simp only [List.getElem?_cons_zero] at c1
      gi_wp2
      refine post_mark hK (results_tmp rfl _ _ _) ⟨?_, below_mark hB (by omega) hK⟩
      rw [next_downs h1 8 (Nat.le_refl _) hz (fun h => absurd h (by omega))]
      rfl
    case stop =>
      rintro D c pre W hD ⟨k, hk, rfl⟩ ⟨⟨hA, hB⟩, rfl, hz, p, x, hp, hx⟩ hK
      have c1 := hA.cell 0
      simp only [List.getElem?_cons_zero] at c1
      gi_wp2
      refine post_mark hK (results_tmp rfl _ _ _) ⟨?_, below_mark hB (by omega) hK⟩
      rw [downs_succ, List.dropLast_concat] at hz
      rw [downs_succ] at hp
      obtain ⟨rfl, ex⟩ := List.append_inj' hp rfl
      rw [next_downs h1 k (by omega) hz (fun _ => by rw [List.cons.inj ex |>.1]; exact hx)]
      rfl
  · gi_wp2
    rw [next_head h1]
    exact post_ret (results_tmp rfl _ _ _) ⟨rfl, below_two w _ _⟩

theorem bk_size : (Try.prog.info? 43).map (·.size) = some 66 := by kernel_rfl

set_option maxRecDepth 100000 in
set_option maxHeartbeats 2000000 in
theorem sempty_any (b : BlkM) (hb : BlkOk b) (w : World) : Calls Try.prog 18 #[bkV b] w fun e w' => e = .returned (.bool (bkEmpty b)) ∧ Below w.heap.size w w' := by
  have HS := Lib.hid (fun W => snext_any b hb W)
  have HL := Lib.hid (bk_len hb)
  clear hb
  unfold bkV at *
  go_enter Try.func18, Try.ntmps18
  go_wp2_with (first
    | (refine wpList_ldm (pre := []) (post := []) _ rfl rfl rfl Try.underlying43 rfl bk_size HL.out rfl (by simp) (At.news w _ _) ?_)
    | (go_at_call 16; (refine (HS.out _).mono ?_); rintro e w1 ⟨rfl, hb⟩))
  go_ret
  refine ⟨?_, ((Below.refl _ w).alloc (Nat.le_refl _) _).trans (hb.mono (by simp))⟩
  rfl

theorem bk_info : (Try.prog.info? 43).map (fun i => (i.zero, i.size)) = some (some (.agg (bkC bk0).toArray), 66) := by kernel_rfl
theorem bk_zero (w : World) : (zeroValue 43).run Try.prog w = .ok (.agg (bkC bk0).toArray) w := (zero_of_info bk_info).1 w

set_option maxRecDepth 100000 in
set_option maxHeartbeats 2000000 in
theorem scounts_any (A : Option Addr) (n c : Nat) (bs : List BlkM) (w : World) (hA : ReadsB w A n c bs) (hn : n ≤ 1000000) : Calls Try.prog 14 #[.slice A n c] w fun e w' => e = .returned (.int .u32 (U (bkCounts bs))) ∧ Below w.heap.size w w' := by
  have hz := bk_zero
  have HA := Lib.hid hA
  clear hA
  go_enter Try.func14, Try.ntmps14
  go_wp2
  go_loopw [3, 8] (fun m i wr => ∃ j : Nat, j ≤ n ∧ i = .int .i64 j ∧ m = .int .u32 (U (bkCounts (bs.take j))) ∧ Below w.heap.size w wr) (fun _ i _ => n - (intOf i).toNat)
  case atStart => exact ⟨0, by omega, rfl, rfl, Below.refl _ _⟩
  case round =>
    obtain ⟨j, hj, rfl, rfl, hb⟩ := hrel
    have HB := Lib.hid hb
    clear hb
    by_cases hlt : j < n
    · have HR := Lib.hid (HA.out.kept HB.out)
      obtain ⟨g, off, rfl, hg, hr⟩ := HR.out.at_ hlt
      have HR' := Lib.hid hr
      have HG := Lib.hid hg
      have HL := Lib.hid (bk_len (HA.out.okN hlt))
      have i0 : (0 : Int) ≤ (j : Int) := by omega
      have i1 : (j : Int) < (n : Int) := by omega
      clear hr hg
      go_wp2_with (first
        | (refine wpList_ldr _ rfl rfl rfl Try.underlying43 rfl bk_size HL.out HR'.out ?_)
        | (refine wpList_stm (pre := []) (post := []) (xs := bkC bk0) _ _ rfl rfl rfl rfl bk_size (by rfl) HL.out (bk_one _) rfl (by simp) (At.news wr _ (bkC bk0)) ?_; intro w2 A2 T2; have c0 := A2.cell 0; have c1 := A2.cell 1; simp only [List.nil_append, List.append_nil, bk_head, bk_count] at c0 c1; have T2' := Lib.hid T2; clear A2 T2))
      all_goals have hbb : Below w.heap.size w w2 := HB.out.trans ((((Below.refl _ wr).alloc (Nat.le_refl _) _).trans (T2'.out.below (fun i hi => by unfold Just at hi; omega) (by simp))).mono HB.out.size)
      · rename_i hh
        refine ⟨⟨j + 1, by omega, by go_num, ?_, hbb⟩, by simp [intOf]; omega⟩
        rw [bkCounts_step bs j (by rw [HA.out.len]; exact hlt)]
        unfold bkMax
        split
        · rename_i hm
          rw [if_pos ⟨by simpa using hh, hm⟩]
        · rename_i hm
          rw [if_neg (fun h => hm h.2)]
      · rename_i hh
        refine ⟨⟨j + 1, by omega, by go_num, ?_, hbb⟩, by simp [intOf]; omega⟩
        rw [bkCounts_step bs j (by rw [HA.out.len]; exact hlt)]
        unfold bkMax
        rw [if_neg (fun h => by simp [h.1] at hh)]
    · obtain rfl : j = n := by omega
      go_wp2
      go_ret
      rw [List.take_of_length_le (by rw [HA.out.len]; exact Nat.le_refl _)]
      exact ⟨rfl, HB.out⟩
end Go.Proofs.Ytlbcebkllddhgaa
