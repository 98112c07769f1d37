/- Contract of the program's scan.Words. -/
import Derived.Test.YtfpfcmgcfbkolaaScan2
import Derived.Test.YtfpfcmgcfbkolaaBuild
namespace Go.Proofs.Ytfpfcmgcfbkolaa
open Go.RowKit Bm Go.Shelf

attribute [local go_sem] Oper.semAt_some bk_head bk_count

theorem bk_infoA : (Try.prog.info? 60).map (fun i => (i.zero, i.size, i.bytes)) = some (some (.agg (bkC bk0).toArray), 66, 304) := by kernel_rfl
theorem scOf_bad {ws : List (BitVec 32)} (h : ¬ (ws.length % 64 = 0 ∧ 1 ≤ ws.length / 64 ∧ ws.length / 64 ≤ 64)) : scOf ws = ([], 8) := by unfold scOf; rw [if_neg h]
theorem scOf_good {ws : List (BitVec 32)} {m : Nat} (h : ws.length = 64 * m) (h1 : 1 ≤ m) (h2 : m ≤ 64) : scOf ws = ((List.range m).map (fun i => bkOf (chunk ws i)), 0) := by
  have e : ws.length / 64 = m := by omega
  unfold scOf
  rw [if_pos ⟨by omega, by omega, by omega⟩, e]

/-- The blocks that were found in these places. -/
def found (ws : List (BitVec 32)) (l : List Nat) : List BlkM := l.map fun i => bkOf (chunk ws i)
theorem found_ok (ws : List (BitVec 32)) (l : List Nat) : ∀ b ∈ found ws l, BlkOk b := fun b hb => by
  obtain ⟨i, _, rfl⟩ := List.mem_map.1 hb
  exact bkOf_ok _
theorem found_len (ws : List (BitVec 32)) (l : List Nat) : (found ws l).length = l.length := by simp [found]
theorem found_snoc (ws : List (BitVec 32)) (l : List Nat) (i : Nat) : found ws (l ++ [i]) = found ws l ++ [bkOf (chunk ws i)] := by simp [found]
/-- A row with room for m blocks has these ones. -/
def RowB (g m : Nat) (t : TypeId) (bs : List BlkM) (W : World) : Prop := ∃ rest, At W g t (bks bs ++ rest) ∧ (bks bs ++ rest).length = m * 66
theorem RowB.own_from {β : Type} {B g m : Nat} {t : TypeId} {f : β → List BlkM} : OwnFrom B (fun s W => RowB g m t (f s) W) := fun _ _ _ _ ⟨rest, h, hl⟩ hg hr => ⟨rest, h.stay hg hr, hl⟩

set_option maxRecDepth 100000 in
set_option maxHeartbeats 2000000 in
theorem swords_any (A : Option Addr) (n c : Nat) (ws : List (BitVec 32)) (w : World) (hA : ReadsU w A n c ws) : Calls Try.prog 22 #[.slice A n c] w fun e w' => ∃ B cap, e = .returned (.tuple #[.slice B (scOf ws).1.length cap, .int .i64 (scOf ws).2]) ∧ ReadsB w' B (scOf ws).1.length cap (scOf ws).1 ∧ Below w.heap.size w w' := by
  have hlen := hA.len
  have hle := hA.le
  have hmx := hA.max
  have hn0 : n ≤ 9223372036854775807 := by unfold maxLen at hmx; omega
  by_cases hg : n % 64 = 0 ∧ 1 ≤ n / 64 ∧ n / 64 ≤ 64
  · obtain ⟨m, rfl⟩ : ∃ m, n = 64 * m := ⟨n / 64, by omega⟩
    have m1 : 1 ≤ m := by omega
    have m2 : m ≤ 64 := by omega
    rw [scOf_good (hlen) m1 m2]
    rw [List.length_map, List.length_range]
    obtain ⟨ad, rfl, hlt, _⟩ := hA.cell (by omega)
    have HA := Lib.hid hA
    obtain ⟨i0, hin, hz0, hz1, hz2⟩ := info_parts bk_infoA
    clear hA hg
    refine (callsIn_wide (n := 10)).1 ?_
    refine callsIn_of_wp_marks Try.func22 rfl trivial ?_
    simp only [Try.ntmps22, List.size_toArray, List.length_cons, List.length_nil, Nat.reduceAdd, Nat.reduceSub, Array.replicate_succ, Array.replicate_zero, List.push_toArray, List.append_toArray, List.nil_append, List.cons_append]
    gi_wp2_with (first
      | (gi_at_make; refine wpListIn_make_own _ rfl _ _ _ rfl w.heap.size 60 i0 _ 66 Try.underlying24 hin hz0 hz1 .i64 .i64 (m : Int) m rfl rfl rfl (by rw [hz2]; omega) (by unfold maxLen; omega) (Nat.le_refl _) ?_; intro w1 hown hgr; have HOWN := Lib.hid hown; have HGR := Lib.hid hgr; clear hown hgr)
      | (refine ⟨trivial, ?_⟩; gi_at_call 30; refine (callsIn_wide.2 (chunk_of _ _ _ _)).mono ?_; rintro e w' ⟨rfl, rfl⟩))
    obtain ⟨rest, hrow, hrl, _, _, _⟩ := at_of_own HOWN.out
    have hw1 : w.heap.size < w1.heap.size := hrow.lt
    obtain ⟨W0, hW0⟩ : ∃ W0, (((w1.alloc (Obj.cells #[Value.slice (some { block := w.heap.size, off := 0 }) 0 m] 24)).alloc (Obj.cells #[Value.slice (some ad) (64 * m) c] 66)).alloc (Obj.cells #[Value.int IntKind.i64 64] 3)) = W0 := ⟨_, rfl⟩
    have hs0 : W0.heap.size = w1.heap.size + 3 := by rw [← hW0]; simp
    have a0 : At W0 w.heap.size 60 (bks (found ws []) ++ rest) := by rw [← hW0]; exact ((hrow.alloc _).alloc _).alloc _
    have a1 : At W0 w1.heap.size 24 [.slice (some ⟨w.heap.size, 0, none⟩) 0 m] := by rw [← hW0]; exact ((At.alloc_new _ _ _ rfl rfl).alloc _).alloc _
    have a2 : At W0 (w1.heap.size + 1) 66 [.slice (some ad) (64 * m) c] := by rw [← hW0]; exact (At.alloc_new _ _ _ (by simp) rfl).alloc _
    have a3 : At W0 (w1.heap.size + 2) 3 [.int .i64 64] := by rw [← hW0]; exact At.alloc_new _ _ _ (by simp) rfl
    have hb1 : Below w.heap.size w w1 := (Below.refl _ w).grown HGR.out (Nat.le_refl _) (fun k e => by cases e)
    have hb0 : Below w.heap.size w W0 := by rw [← hW0]; exact ((hb1.alloc (by omega) _).alloc (by simp; omega) _).alloc (by simp; omega) _
    rw [hW0]
    clear hW0
    refine wpIn_rangeFunc_ownG rfl (by omega) (gf := 43) (lb := #[.pointer (some ⟨w1.heap.size + 1, 0, none⟩), .pointer (some ⟨w1.heap.size + 1 + 1, 0, none⟩)]) rfl trivial (enters_of Try.func43 (by kernel_rfl) rfl)
      (chunks_stops (w1.heap.size + 1) (w1.heap.size + 1 + 1) ad m c hle m2 (fun k => k = w1.heap.size + 1 ∨ k = w1.heap.size + 1 + 1) (.inl rfl) (.inr rfl) W0 a2 a3) Keeps.trans (Keeps.put (fun k hk => by rcases hk with rfl | rfl <;> omega)) (Below.refl _ _) (fun _ => rfl)
      (fun (pre : List (Fin m)) W => (RowB w.heap.size m 60 (found ws (pre.map (·.val))) W ∧ At W w1.heap.size 24 [.slice (some ⟨w.heap.size, 0, none⟩) pre.length m]) ∧ Below w.heap.size w W ∧ W0.heap.size ≤ W.heap.size)
      (fun _ _ _ => False)
      (OwnFrom.and (OwnFrom.and (RowB.own_from (f := fun pre : List (Fin m) => found ws (pre.map (·.val)))) (At.own_from (f := fun pre : List (Fin m) => [.slice (some ⟨w.heap.size, 0, none⟩) pre.length m]))) (OwnFrom.and (ownFrom_below (Nat.le_refl _) (by omega)) (size_own_from _ _)))
      (fun _ _ _ _ _ hs _ _ => hs)
      ⟨⟨⟨rest, a0, hrl⟩, a1⟩, hb0, Nat.le_refl _⟩
      (fun x => { tmps := #[Value.slice (some ad) (64 * m) c, undef, Value.slice none 0 0, Value.int IntKind.i64 0,
          Value.int IntKind.i64 m, Value.pointer (some { block := w1.heap.size, off := 0 }), sub ad (64 * x.val) 64 64,
          Value.slice (some ad) (64 * m) c, Value.int IntKind.i64 (64 * m), Value.int IntKind.i64 m,
          Value.slice (some ad) (64 * m) c, Value.int IntKind.i64 (64 * m), Value.int IntKind.i64 0, Value.bool false,
          Value.bool false, Value.int IntKind.i64 m, Value.bool (decide ((m : Int) < 1)), Value.bool (decide ((m : Int) < 1)),
          Value.bool (decide ((m : Int) < 1)), Value.int IntKind.i64 m, Value.bool (decide (64 < (m : Int))),
          Value.bool (decide ((m : Int) < 1) || decide (64 < (m : Int))), Value.int IntKind.i64 m,
          Value.slice (some { block := w.heap.size, off := 0 }) 0 m, Value.slice (some ad) (64 * m) c,
          Value.func (Fn.func 43) #[] #[Value.pointer (some { block := w1.heap.size + 1, off := 0 }), Value.pointer (some { block := w1.heap.size + 1 + 1, off := 0 })],
          sub ad (64 * x.val) 64 64, undef, undef, undef, undef, undef, undef], defers := [] }) ?assign ?body ?done ?stop
    case assign =>
      intro l x W K hK
      unfold chunkV
      gi_wp2
      exact hK
    case body =>
      rintro l pre x W ⟨⟨⟨rs, hR, hRl⟩, hL⟩, hB, hsz⟩ hl
      have hl0 := hL.cell 0
      simp only [List.getElem?_cons_zero] at hl0
      have hlf := hL.frozen 0
      have HR := Lib.hid hR
      have HRL := Lib.hid hRl
      have HLB := Lib.hid hL
      have HBB := Lib.hid hB
      have HSZ := Lib.hid hsz
      have HS0 := Lib.hid hs0
      have OWN : Hid (∀ V, Below W.drew.heap.size W.drew V → Hid ((V.alloc (.cells (bkC (bkOf (chunk ws x.val))).toArray 60)).ownsRow 0 60 66 (.slice (some ⟨w.heap.size, 0, none⟩) pre.length m) pre.length (bks (found ws (pre.map (·.val)))))) := fun V hb => by
        have h1 := ((HR.out.drew.kept (Turned.of_below hb (Nat.le_refl _) NoBlock) (fun h => h)).alloc (.cells (bkC (bkOf (chunk ws x.val))).toArray 60))
        exact Lib.hid (own_of_at h1 (Nat.zero_le _) (by rw [bks_len (found_ok _ _), found_len, List.length_map]; omega) HRL.out (by omega) (by unfold maxLen; omega))
      have LS0 : Hid (∀ V, Below W.drew.heap.size W.drew V → (V.alloc (.cells (bkC (bkOf (chunk ws x.val))).toArray 60)).cell? ⟨w1.heap.size, 0, none⟩ = some (.slice (some ⟨w.heap.size, 0, none⟩) pre.length m) ∧ V.cell? ⟨w1.heap.size, 0, none⟩ = some (.slice (some ⟨w.heap.size, 0, none⟩) pre.length m)) := fun V hb => by
        have h1 := HLB.out.drew.kept (Turned.of_below hb (Nat.le_refl _) NoBlock) (fun h => h)
        exact ⟨(h1.alloc _).cell 0, h1.cell 0⟩
      have LS : Hid (∀ V, Below W.drew.heap.size W.drew V → ∀ w', (V.alloc (.cells (bkC (bkOf (chunk ws x.val))).toArray 60)).grownBy w' (some w.heap.size) → w'.cell? ⟨w1.heap.size, 0, none⟩ = some (.slice (some ⟨w.heap.size, 0, none⟩) pre.length m) ∧ w'.frozen? ⟨w1.heap.size, 0, none⟩ = false) := fun V hb w' hg => by
        have h1 := ((HLB.out.drew.kept (Turned.of_below hb (Nat.le_refl _) NoBlock) (fun h => h)).alloc (.cells (bkC (bkOf (chunk ws x.val))).toArray 60))
        have h2 : At w' w1.heap.size 24 [.slice (some ⟨w.heap.size, 0, none⟩) pre.length m] := (hg.block _ h1.lt (fun e => by injection e with e; omega)).trans h1
        exact ⟨h2.cell 0, h2.frozen 0⟩
      have FIN : Hid (∀ V, Below W.drew.heap.size W.drew V → ∀ w', w'.ownsRow 0 60 66 (.slice (some ⟨w.heap.size, 0, none⟩) (pre.length + 1) m) (pre.length + 1) (bks (found ws (pre.map (·.val))) ++ bkC (bkOf (chunk ws x.val))) → (V.alloc (.cells (bkC (bkOf (chunk ws x.val))).toArray 60)).grownBy w' (some w.heap.size) →
          KeepsFrom W0.heap.size W (w'.setCell ⟨w1.heap.size, 0, none⟩ (.slice (some ⟨w.heap.size, 0, none⟩) (pre.length + 1) m)) ∧ Keeps (fun k => k = w1.heap.size + 1 ∨ k = w1.heap.size + 1 + 1) W (w'.setCell ⟨w1.heap.size, 0, none⟩ (.slice (some ⟨w.heap.size, 0, none⟩) (pre.length + 1) m)) ∧
          (RowB w.heap.size m 60 (found ws ((pre ++ [x]).map (·.val))) (w'.setCell ⟨w1.heap.size, 0, none⟩ (.slice (some ⟨w.heap.size, 0, none⟩) (pre.length + 1) m)) ∧ At (w'.setCell ⟨w1.heap.size, 0, none⟩ (.slice (some ⟨w.heap.size, 0, none⟩) (pre.length + 1) m)) w1.heap.size 24 [.slice (some ⟨w.heap.size, 0, none⟩) (pre ++ [x]).length m]) ∧ Below w.heap.size w (w'.setCell ⟨w1.heap.size, 0, none⟩ (.slice (some ⟨w.heap.size, 0, none⟩) (pre.length + 1) m)) ∧ W0.heap.size ≤ (w'.setCell ⟨w1.heap.size, 0, none⟩ (.slice (some ⟨w.heap.size, 0, none⟩) (pre.length + 1) m)).heap.size) := fun V hb w' ho hg => by
        have hT : Turned (fun k => k = w.heap.size ∨ k = w1.heap.size) W (w'.setCell ⟨w1.heap.size, 0, none⟩ (.slice (some ⟨w.heap.size, 0, none⟩) (pre.length + 1) m)) :=
          ((((Turned.refl (fun k => k = w.heap.size ∨ k = w1.heap.size) W).drew.trans (Turned.of_below hb (Nat.le_refl _) _)).alloc _).grown hg (fun k e _ => by injection e with e; exact .inl e.symm)).setCell (p := ⟨w1.heap.size, 0, none⟩) (fun _ => .inr rfl) _
        have hsz' := hT.size
        have hs' := HSZ.out
        have hs0' := HS0.out
        have h1 := ((HLB.out.drew.kept (Turned.of_below hb (Nat.le_refl _) NoBlock) (fun h => h)).alloc (.cells (bkC (bkOf (chunk ws x.val))).toArray 60))
        have h2 : At w' w1.heap.size 24 [.slice (some ⟨w.heap.size, 0, none⟩) pre.length m] := (hg.block _ h1.lt (fun e => by injection e with e; omega)).trans h1
        obtain ⟨rest', hr1, hr2, _, _, _⟩ := at_of_own ho
        refine ⟨hT.from _ (fun k hk => by rcases hk with rfl | rfl <;> omega), hT.keeps (fun k hk => ⟨by rcases hk with rfl | rfl <;> omega, by rcases hk with rfl | rfl <;> omega⟩), ⟨⟨rest', ?_, ?_⟩, ?_⟩, HBB.out.trans (hT.below (fun k hk => by rcases hk with rfl | rfl <;> omega) HBB.out.size), by omega⟩
        · rw [List.map_append, List.map_cons, List.map_nil, found_snoc, bks_snoc]
          exact hr1.far (by show w.heap.size ≠ w1.heap.size; omega) _
        · rw [List.map_append, List.map_cons, List.map_nil, found_snoc, bks_snoc]
          exact hr2
        · rw [List.length_append, List.length_singleton]
          exact h2.put 0 _
      have SB := Lib.hid (sblock_any (ad.add (64 * x.val)) 64 (chunk ws x.val) W.drew ((HA.out.kept (hB.drew)).sub (64 * x.val) 64 64 (by omega) (Nat.le_refl _) (by unfold maxLen; omega)))
      gi_wp2
      refine drawn_in (by kernel_rfl) (fun _ _ h => h) (by kernel_rfl) ?_
      refine wpAny_take (i := 1) (v := sub ad (64 * x.val) 64 64) rfl (by kernel_rfl) (by kernel_rfl) (by kernel_rfl) (fun _ _ _ h => h) (Or.inl ⟨by rfl, fun w => by go_simp⟩) ?_
      simp only [Act.put]
      refine wpAny_all (rs := [0, 2]) (by kernel_rfl) (by simp) ?_
      intro i hi
      obtain rfl | rfl : i = 0 ∨ i = 2 := by simpa using hi
      · refine op_go rfl rfl ?_
        go_simp
        refine wpAny_all (rs := [2]) (by kernel_rfl) (by simp) ?_
        intro i hi
        obtain rfl : i = 2 := by simpa using hi
        refine op_go rfl rfl ?_
        go_simp
        refine SB.out.mono ?_
        rintro e V ⟨rfl, hb⟩
        dsimp only
        unfold bkV
        have hva : (V.alloc (.cells (bkC (bkOf (chunk ws x.val))).toArray 60)).cell? ⟨w1.heap.size, 0, none⟩ = some (.slice (some ⟨w.heap.size, 0, none⟩) pre.length m) := (LS0.out V hb).1
        have hvv : V.cell? ⟨w1.heap.size, 0, none⟩ = some (.slice (some ⟨w.heap.size, 0, none⟩) pre.length m) := (LS0.out V hb).2
        refine wpAny_all (rs := [3]) (by kernel_rfl) (by simp) ?_
        intro i hi
        obtain rfl : i = 3 := by simpa using hi
        refine op_go rfl rfl ?_
        refine wp_build_one (.tmp 29) rfl rfl Try.underlying24 hin hz0 hz1 (cs := (bkC (bkOf (chunk ws x.val))).toArray) (by simpa using bk_len (bkOf_ok _)) (by omega) (by omega) ?_
        simp only [Act.put]
        refine wpAny_all (rs := [4]) (by kernel_rfl) (by simp) ?_
        intro i hi
        obtain rfl : i = 4 := by simpa using hi
        refine op_go rfl rfl ?_
        refine wp_append_fits (.tmp 27) (.tmp 30) rfl Try.underlying24 hin hz1 rfl ((OWN.out V hb).out) rfl (by rw [bk_len (bkOf_ok _)]) (At.news V _ _).news_at (bk_one _) (by omega) ?_
        intro w' hown' hgr'
        simp only [Act.put]
        obtain ⟨hlc, hlf⟩ := LS.out V hb w' hgr'
        refine wpAny_all (rs := [5]) (by kernel_rfl) (by simp) ?_
        intro i hi
        obtain rfl : i = 5 := by simpa using hi
        refine op_go rfl rfl ?_
        go_simp
        refine wpAny_done (by kernel_rfl) ?_ _
        exact FIN.out V hb w' hown' hgr'
      · refine op_go rfl rfl ?_
        go_simp
        refine SB.out.mono ?_
        rintro e V ⟨rfl, hb⟩
        dsimp only
        unfold bkV
        have hva : (V.alloc (.cells (bkC (bkOf (chunk ws x.val))).toArray 60)).cell? ⟨w1.heap.size, 0, none⟩ = some (.slice (some ⟨w.heap.size, 0, none⟩) pre.length m) := (LS0.out V hb).1
        have hvv : V.cell? ⟨w1.heap.size, 0, none⟩ = some (.slice (some ⟨w.heap.size, 0, none⟩) pre.length m) := (LS0.out V hb).2
        refine wpAny_all (rs := [0, 3]) (by kernel_rfl) (by simp) ?_
        intro i hi
        obtain rfl | rfl : i = 0 ∨ i = 3 := by simpa using hi
        · refine op_go rfl rfl ?_
          go_simp
          refine wpAny_all (rs := [3]) (by kernel_rfl) (by simp) ?_
          intro i hi
          obtain rfl : i = 3 := by simpa using hi
          refine op_go rfl rfl ?_
          refine wp_build_one (.tmp 29) rfl rfl Try.underlying24 hin hz0 hz1 (cs := (bkC (bkOf (chunk ws x.val))).toArray) (by simpa using bk_len (bkOf_ok _)) (by omega) (by omega) ?_
          simp only [Act.put]
          refine wpAny_all (rs := [4]) (by kernel_rfl) (by simp) ?_
          intro i hi
          obtain rfl : i = 4 := by simpa using hi
          refine op_go rfl rfl ?_
          refine wp_append_fits (.tmp 27) (.tmp 30) rfl Try.underlying24 hin hz1 rfl ((OWN.out V hb).out) rfl (by rw [bk_len (bkOf_ok _)]) (At.news V _ _).news_at (bk_one _) (by omega) ?_
          intro w' hown' hgr'
          simp only [Act.put]
          obtain ⟨hlc, hlf⟩ := LS.out V hb w' hgr'
          refine wpAny_all (rs := [5]) (by kernel_rfl) (by simp) ?_
          intro i hi
          obtain rfl : i = 5 := by simpa using hi
          refine op_go rfl rfl ?_
          go_simp
          refine wpAny_done (by kernel_rfl) ?_ _
          exact FIN.out V hb w' hown' hgr'
        · refine op_go rfl rfl ?_
          refine wp_build_one (.tmp 29) rfl rfl Try.underlying24 hin hz0 hz1 (cs := (bkC (bkOf (chunk ws x.val))).toArray) (by simpa using bk_len (bkOf_ok _)) (by omega) (by omega) ?_
          simp only [Act.put]
          refine wpAny_all (rs := [0]) (by kernel_rfl) (by simp) ?_
          intro i hi
          obtain rfl : i = 0 := by simpa using hi
          refine op_go rfl rfl ?_
          go_simp
          refine wpAny_all (rs := [4]) (by kernel_rfl) (by simp) ?_
          intro i hi
          obtain rfl : i = 4 := by simpa using hi
          refine op_go rfl rfl ?_
          refine wp_append_fits (.tmp 27) (.tmp 30) rfl Try.underlying24 hin hz1 rfl ((OWN.out V hb).out) rfl (by rw [bk_len (bkOf_ok _)]) (At.news V _ _).news_at (bk_one _) (by omega) ?_
          intro w' hown' hgr'
          simp only [Act.put]
          obtain ⟨hlc, hlf⟩ := LS.out V hb w' hgr'
          refine wpAny_all (rs := [5]) (by kernel_rfl) (by simp) ?_
          intro i hi
          obtain rfl : i = 5 := by simpa using hi
          refine op_go rfl rfl ?_
          go_simp
          refine wpAny_done (by kernel_rfl) ?_ _
          exact FIN.out V hb w' hown' hgr'
    case done =>
      rintro D xs W hD rfl ⟨⟨hR, hL⟩, hB, hsz⟩ hK
      have hl0 := hL.cell 0
      simp only [List.getElem?_cons_zero] at hl0
      rw [fins_length m m (Nat.le_refl _)] at hl0
      have hm' : (m : Int) ≤ 64 := by omega
      gi_wp2
      rw [fins_map m m (Nat.le_refl _)] at hR
      obtain ⟨rs, hR1, hR2⟩ := hR
      refine post_mark hK (results_tmp2 rfl _ _ _) ⟨some ⟨w.heap.size, 0, none⟩, m, rfl, ?_, below_mark hB (by omega) hK⟩
      have := ReadsB.of_at (cap := m) (hR1.mark (D := D) (by omega) (.deferred none)) (found_ok _ _) (by rw [found_len, List.length_range]; exact Nat.le_refl _) (by unfold maxLen; omega)
      rw [found_len, List.length_range] at this
      exact this
    case stop =>
      rintro D c pre W hD _ h _
      exact h.elim
  · rw [scOf_bad (by rw [hlen]; exact hg)]
    have hn1 : (0 : Int) ≤ (n : Int) := by omega
    refine (callsIn_wide (n := 10)).1 ?_
    refine callsIn_of_wp_marks Try.func22 rfl trivial ?_
    simp only [Try.ntmps22, List.size_toArray, List.length_cons, List.length_nil, Nat.reduceAdd, Nat.reduceSub, Array.replicate_succ, Array.replicate_zero, List.push_toArray, List.append_toArray, List.nil_append, List.cons_append]
    gi_wp2
    all_goals exact post_ret (results_tmp2 rfl _ _ _) ⟨none, 0, rfl, ReadsB.none w, Below.refl _ _⟩
end Go.Proofs.Ytfpfcmgcfbkolaa
