/- Contracts of the document's own chip, on: Of, New. -/
import Derived.Test.YteiegkfoabhikaaNorRef6
import Derived.Deep.RegionLaw
import Derived.Deep.AppendLies
namespace Go.Proofs.Yteiegkfoabhikaa
open Go.RowKit Bm
attribute [local go_sem ↓] Go.wp_at_zero Go.wp_at_succ

/-- A chip by value all of whose rows are new. -/
def RefMade (w : World) (c : ChipM) (e : Ending) (w' : World) : Prop := ∃ r', e = .returned (refVal r' c) ∧ RefAt w' r' c ∧ Below w.heap.size w w' ∧ w.heap.size ≤ r'.gw ∧ w.heap.size ≤ r'.ge

theorem ref_made {w W W9 : World} {P g1 ge c1 n k : Nat} {ws : List (BitVec 32)} {rest : List Value} (endure : Int) (hg : At W g1 30 (Us ws ++ rest)) (he : At W ge 3 (Is (List.replicate k 0))) (hP : At W P 32 refZero)
    (hl : (Us ws ++ rest).length = c1) (hm : c1 ≤ maxLen) (hn : ws.length = n) (hk : k ≤ 64) (hB : Below w.heap.size w W) (h0 : w.heap.size ≤ P) (h1 : w.heap.size ≤ g1) (h2 : w.heap.size ≤ ge) (T : Turned (Just P) W W9) :
    RefMade w (mOf ws k endure) (.returned (.agg #[.slice (some ⟨g1, 0, none⟩) n c1, .slice (some ⟨ge, 0, none⟩) k k, .int .i64 endure, .int .i64 0, .int .u32 0, .bool false])) W9 := by
  have n1 : g1 ≠ P := hg.ne hP (by decide)
  have n2 : ge ≠ P := he.ne hP (by decide)
  have he' : At W ge 3 (Is (List.replicate k 0) ++ []) := by rw [List.append_nil]; exact he
  refine ⟨⟨g1, ge, c1, k, rest, []⟩, ?_, ⟨hg.kept T n1, he'.kept T n2, hl, by rw [List.append_nil, Is_length]; exact List.length_replicate, hm, by show k ≤ maxLen; unfold maxLen; omega⟩, hB.trans (T.below (fun x hx => by have : x = P := hx; omega) hB.size), h1, h2⟩
  simp only [refVal, mOf, List.length_replicate, hn]
  rfl

set_option maxRecDepth 100000 in
set_option maxHeartbeats 2000000 in
theorem rof_yes (g cap n k : Nat) (ws : List (BitVec 32)) (r0 : List Value) (endure : Int) (w : World) (hA : At w g 30 (Us ws ++ r0)) (hl : ws.length = n) (hk : n = k * 64) (k1 : 1 ≤ k) (k2 : k ≤ 64) (e0 : 0 ≤ endure) (e1 : endure ≤ 9223372036854775807) :
    Calls Try.prog 34 #[.slice (some ⟨g, 0, none⟩) n cap, .int .i64 endure] w (RefMade w (mOf ws k endure)) := by
  obtain ⟨i0, hi, hz0, hz1, hz2⟩ := info_parts infoU
  obtain ⟨ii, hii, hy0, hy1, hy2⟩ := info_parts infoI
  have hmk := fun W => run_make (P := Try.prog) W 29 3 ii (.int .i64 0) Try.underlying29 hii hy0 .i64 .i64 (k : Int) (k : Int) (by omega) (by omega) (by rw [hy2]; omega) (by omega)
  rw [show ((k : Int).toNat) = k by omega, hy1, Nat.mul_one, show (Value.int .i64 0).cells = #[.int .i64 0] from rfl, made_zerosI] at hmk
  have q : (n : Int) / 64 = (k : Int) := by omega
  have r : (n : Int) % 64 = 0 := by omega
  have nb : n ≤ 4096 := by omega
  have n0 : 0 < n := by omega
  have A2 := At.news w 32 refZero
  simp only [refZero] at A2
  obtain ⟨W0, hW0⟩ : ∃ W0, W0 = w.alloc (.cells #[.slice none 0 0, .slice none 0 0, .int .i64 0, .int .i64 0, .int .u32 0, .bool false] 32) := ⟨_, rfl⟩
  have hB0 : Below w.heap.size w W0 := by rw [hW0]; exact (Below.refl _ w).alloc (Nat.le_refl _) _
  have hA0 : At W0 g 30 (Us ws ++ r0) := hA.kept (Turned.of_below hB0 (Nat.le_refl _) NoBlock) (fun h => h)
  have hs0 : W0.heap.size = w.heap.size + 1 := by rw [hW0, World.size_alloc]
  change At (w.alloc (.cells #[.slice none 0 0, .slice none 0 0, .int .i64 0, .int .i64 0, .int .u32 0, .bool false] 32)) w.heap.size _ _ at A2
  rw [← hW0] at A2
  obtain ⟨P, hP⟩ : ∃ P, P = w.heap.size := ⟨_, rfl⟩
  rw [← hP] at A2
  obtain ⟨Mc, hM⟩ : ∃ Mc, Mc = (Is (List.replicate k 0)).toArray := ⟨_, rfl⟩
  rw [← hM] at hmk
  have rd : ∀ (W : World), At W g 30 (Us ws ++ r0) → ∀ j u, (Us ws)[j]? = some u → W.cell? ((⟨g, 0, none⟩ : Addr).add j) = some u := fun W h j u hu => by
    rw [add_zero_block, h.cell, List.getElem?_append_left (List.getElem?_eq_some_iff.1 hu).1]; exact hu
  have Oa := Lib.hid (show ((W0.alloc (.cells #[] 30)).drew).ownsRow W0.heap.size 30 1 (.slice (some ⟨W0.heap.size, 0, none⟩) 0 0) 0 [] from World.ownsRow_made W0.drew #[] 0 (Nat.le_refl _) (by unfold maxLen; omega) rfl)
  have Ob := Lib.hid (show (((W0.alloc (.cells #[] 30)).alloc (.cells Mc 3)).drew).ownsRow W0.heap.size 30 1 (.slice (some ⟨W0.heap.size, 0, none⟩) 0 0) 0 [] from Oa.out.alloc (.cells Mc 3))
  have Oc := Lib.hid (show (((W0.alloc (.cells Mc 3)).alloc (.cells #[] 30)).drew).ownsRow W0.heap.size 30 1 (.slice (some ⟨W0.heap.size + 1, 0, none⟩) 0 0) 0 [] from by
    have := World.ownsRow_made (base := W0.heap.size) (e := 30) (size := 1) (W0.drew.alloc (.cells Mc 3)) #[] 0 (by rw [World.size_alloc]; show W0.heap.size ≤ W0.heap.size + 1; omega) (by unfold maxLen; omega) rfl
    rw [World.size_alloc] at this
    exact this)
  have Na := Lib.hid (rd ((W0.alloc (.cells #[] 30)).drew) (hA0.alloc (.cells #[] 30)))
  have Nb := Lib.hid (rd (((W0.alloc (.cells #[] 30)).alloc (.cells Mc 3)).drew) ((hA0.alloc (.cells #[] 30)).alloc (.cells Mc 3)))
  have Nc := Lib.hid (rd (((W0.alloc (.cells Mc 3)).alloc (.cells #[] 30)).drew) ((hA0.alloc (.cells Mc 3)).alloc (.cells #[] 30)))
  have Ba := Lib.hid (show Below W0.heap.size W0 ((W0.alloc (.cells #[] 30)).drew) from ((Below.refl _ W0).alloc (Nat.le_refl _) _).drew)
  have Bb := Lib.hid (show Below W0.heap.size W0 (((W0.alloc (.cells #[] 30)).alloc (.cells Mc 3)).drew) from (below_two W0 _ _).drew)
  have Bc := Lib.hid (show Below W0.heap.size W0 (((W0.alloc (.cells Mc 3)).alloc (.cells #[] 30)).drew) from (below_two W0 _ _).drew)
  have KEY : ∀ (W w1 : World) (b g1 c1 : Nat), Below W0.heap.size W0 W → w1.ownsRow W0.heap.size 30 1 (.slice (some ⟨g1, 0, none⟩) (0 + n) c1) (0 + n) ([] ++ Us ws) → W.grownBy w1 (Value.slice (some ⟨b, 0, none⟩) 0 0).ownBlock → W0.heap.size ≤ b →
      Below W0.heap.size W0 w1 ∧ W.grownBy w1 (some b) ∧ (∃ rest, At w1 g1 30 (Us ws ++ rest) ∧ (Us ws ++ rest).length = c1 ∧ c1 ≤ maxLen ∧ W0.heap.size ≤ g1) ∧ At w1 P 32 refZero ∧ At (w1.alloc (.cells Mc 3)) P 32 refZero := by
    intro W w1 b g1 c1 hB hown hgr hb
    have hg : W.grownBy w1 (some b) := hgr
    have hB1 : Below W0.heap.size W0 w1 := hB.grown hg hB.size (fun k hk => by simp at hk; omega)
    obtain ⟨rest, h1, h2, h3, h4, _⟩ := At.of_own hown (by omega)
    have hP1 : At w1 P 32 refZero := A2.kept (Turned.of_below hB1 (Nat.le_refl _) NoBlock) (fun h => h)
    exact ⟨hB1, hg, ⟨rest, h1, h2, h3, h4⟩, hP1, hP1.alloc _⟩
  have KEYH := Lib.hid KEY
  have HP := Lib.hid hP
  have HM := Lib.hid hM
  have HL := Lib.hid hl
  have HS := Lib.hid hs0
  have HW := Lib.hid hW0
  clear hl hk hP hM hs0 hW0 rd hA KEY
  go_enter Try.func34, Try.ntmps34
  go_wp2
  rw [← HP.out, ← HW.out]
  go_region_law ((first
    | (refine step_append_lies _ (by rfl) (.tmp 26) (.tmp 27) _ (by rfl) W0.heap.size 30 i0 _ 1 4 Try.underlying28 hi hz0 hz1 hz2 rfl (by omega) (.slice (some ⟨W0.heap.size, 0, none⟩) 0 0) 0 [] (by go_simp) Oa.out ⟨g, 0, none⟩ n cap (Us ws) (by go_simp) (by rw [Us_length, HL.out]; omega) Na.out (Us_one _) n0 (by unfold maxLen; omega) (by omega) Ba.out.size _ rfl ?_
       intro g1 c1 w1 hown1 hgr1 _ _
       obtain ⟨hB1, hg1, ⟨rest, k1', k2', k3', k4'⟩, hP1, hP2⟩ := KEYH.out _ w1 _ g1 c1 Ba.out hown1 hgr1 (by omega)
       have KP := Lib.hid hP1
       have KQ := Lib.hid hP2
       simp only [refZero] at hP1 hP2
       obtain ⟨d0, d1, d2, d3, d4, d5⟩ := hP1.all6
       obtain ⟨h0, h1, h2, h3, h4, h5⟩ := hP1.thaw6
       obtain ⟨d0', d1', d2', d3', d4', d5'⟩ := hP2.all6
       obtain ⟨h0', h1', h2', h3', h4', h5'⟩ := hP2.thaw6
       have KB := Lib.hid hB1
       have KG := Lib.hid hg1
       clear hown1 hgr1 hB1 hg1 hP1 hP2)
    | (refine step_append_lies _ (by rfl) (.tmp 26) (.tmp 27) _ (by rfl) W0.heap.size 30 i0 _ 1 4 Try.underlying28 hi hz0 hz1 hz2 rfl (by omega) (.slice (some ⟨W0.heap.size, 0, none⟩) 0 0) 0 [] (by go_simp) Ob.out ⟨g, 0, none⟩ n cap (Us ws) (by go_simp) (by rw [Us_length, HL.out]; omega) Nb.out (Us_one _) n0 (by unfold maxLen; omega) (by omega) Bb.out.size _ rfl ?_
       intro g1 c1 w1 hown1 hgr1 _ _
       obtain ⟨hB1, hg1, ⟨rest, k1', k2', k3', k4'⟩, hP1, hP2⟩ := KEYH.out _ w1 _ g1 c1 Bb.out hown1 hgr1 (by omega)
       have KP := Lib.hid hP1
       have KQ := Lib.hid hP2
       simp only [refZero] at hP1 hP2
       obtain ⟨d0, d1, d2, d3, d4, d5⟩ := hP1.all6
       obtain ⟨h0, h1, h2, h3, h4, h5⟩ := hP1.thaw6
       obtain ⟨d0', d1', d2', d3', d4', d5'⟩ := hP2.all6
       obtain ⟨h0', h1', h2', h3', h4', h5'⟩ := hP2.thaw6
       have KB := Lib.hid hB1
       have KG := Lib.hid hg1
       clear hown1 hgr1 hB1 hg1 hP1 hP2)
    | (refine step_append_lies _ (by rfl) (.tmp 26) (.tmp 27) _ (by rfl) W0.heap.size 30 i0 _ 1 4 Try.underlying28 hi hz0 hz1 hz2 rfl (by omega) (.slice (some ⟨W0.heap.size + 1, 0, none⟩) 0 0) 0 [] (by go_simp) Oc.out ⟨g, 0, none⟩ n cap (Us ws) (by go_simp) (by rw [Us_length, HL.out]; omega) Nc.out (Us_one _) n0 (by unfold maxLen; omega) (by omega) Bc.out.size _ rfl ?_
       intro g1 c1 w1 hown1 hgr1 _ _
       obtain ⟨hB1, hg1, ⟨rest, k1', k2', k3', k4'⟩, hP1, hP2⟩ := KEYH.out _ w1 _ g1 c1 Bc.out hown1 hgr1 (by omega)
       have KP := Lib.hid hP1
       have KQ := Lib.hid hP2
       simp only [refZero] at hP1 hP2
       obtain ⟨d0, d1, d2, d3, d4, d5⟩ := hP1.all6
       obtain ⟨h0, h1, h2, h3, h4, h5⟩ := hP1.thaw6
       obtain ⟨d0', d1', d2', d3', d4', d5'⟩ := hP2.all6
       obtain ⟨h0', h1', h2', h3', h4', h5'⟩ := hP2.thaw6
       have KB := Lib.hid hB1
       have KG := Lib.hid hg1
       clear hown1 hgr1 hB1 hg1 hP1 hP2)))
  · try simp only [List.getElem_toArray, List.getElem_cons_succ, List.getElem_cons_zero]
    try go_simp
    go_wp2
    obtain ⟨W9, hW⟩ : ∃ W9, W9 = six (w1.alloc (.cells Mc 3)) P (.slice (some ⟨g1, 0, none⟩) n c1) (.slice (some ⟨w1.heap.size, 0, none⟩) k k) (.int .i64 endure) (.int .i64 0) (.int .u32 0) (.bool false) := ⟨_, rfl⟩
    have KK := KQ.out
    simp only [refZero] at KK
    have R9 := KK.six (.slice (some ⟨g1, 0, none⟩) n c1) (.slice (some ⟨w1.heap.size, 0, none⟩) k k) (.int .i64 endure) (.int .i64 0) (.int .u32 0) (.bool false)
    have T9 := (Turned.refl (Just P) (w1.alloc (.cells Mc 3))).six (P := P) (fun _ => rfl) (.slice (some ⟨g1, 0, none⟩) n c1) (.slice (some ⟨w1.heap.size, 0, none⟩) k k) (.int .i64 endure) (.int .i64 0) (.int .u32 0) (.bool false)
    rw [← hW] at R9 T9
    change bodyPost _ _ _ _ _ (six (w1.alloc (.cells Mc 3)) P (.slice (some ⟨g1, 0, none⟩) n c1) (.slice (some ⟨w1.heap.size, 0, none⟩) k k) (.int .i64 endure) (.int .i64 0) (.int .u32 0) (.bool false))
    rw [← hW]
    clear hW d0 d1 d2 d3 d4 d5 h0 h1 h2 h3 h4 h5 d0' d1' d2' d3' d4' d5' h0' h1' h2' h3' h4' h5'
    obtain ⟨e0, e1, e2, e3, e4, e5⟩ := R9.all6
    have hPw := HP.out
    have hs := HS.out
    have hBw := hB0.trans (KB.out.mono hB0.size)
    have GW := k1'.alloc (.cells Mc 3)
    have GB := hBw.alloc hBw.size (.cells Mc 3)
    have GE : At (w1.alloc (.cells Mc 3)) w1.heap.size 3 (Is (List.replicate k 0)) := by
      rw [HM.out]; exact At.news w1 _ _
    have hbs := hBw.size
    exact bodyPost_ret (v := .agg #[.slice (some ⟨g1, 0, none⟩) n c1, .slice (some ⟨w1.heap.size, 0, none⟩) k k, .int .i64 endure, .int .i64 0, .int .u32 0, .bool false]) (by simp [results, Try.results34, go_sem, e0, e1, e2, e3, e4, e5]) rfl
      (ref_made endure GW GE KK k2' k3' HL.out k2 GB (by omega) (by omega) (by omega) T9)
  · try simp only [List.getElem_toArray, List.getElem_cons_succ, List.getElem_cons_zero]
    try go_simp
    go_wp2
    obtain ⟨W9, hW⟩ : ∃ W9, W9 = six w1 P (.slice (some ⟨g1, 0, none⟩) n c1) (.slice (some ⟨W0.heap.size + 1, 0, none⟩) k k) (.int .i64 endure) (.int .i64 0) (.int .u32 0) (.bool false) := ⟨_, rfl⟩
    have KK := KP.out
    simp only [refZero] at KK
    have R9 := KK.six (.slice (some ⟨g1, 0, none⟩) n c1) (.slice (some ⟨W0.heap.size + 1, 0, none⟩) k k) (.int .i64 endure) (.int .i64 0) (.int .u32 0) (.bool false)
    have T9 := (Turned.refl (Just P) w1).six (P := P) (fun _ => rfl) (.slice (some ⟨g1, 0, none⟩) n c1) (.slice (some ⟨W0.heap.size + 1, 0, none⟩) k k) (.int .i64 endure) (.int .i64 0) (.int .u32 0) (.bool false)
    rw [← hW] at R9 T9
    change bodyPost _ _ _ _ _ (six w1 P (.slice (some ⟨g1, 0, none⟩) n c1) (.slice (some ⟨W0.heap.size + 1, 0, none⟩) k k) (.int .i64 endure) (.int .i64 0) (.int .u32 0) (.bool false))
    rw [← hW]
    clear hW d0 d1 d2 d3 d4 d5 h0 h1 h2 h3 h4 h5 d0' d1' d2' d3' d4' d5' h0' h1' h2' h3' h4' h5'
    obtain ⟨e0, e1, e2, e3, e4, e5⟩ := R9.all6
    have hPw := HP.out
    have hs := HS.out
    have hBw := hB0.trans (KB.out.mono hB0.size)
    have GW := k1'
    have GB := hBw
    have GE : At w1 (W0.heap.size + 1) 3 (Is (List.replicate k 0)) := by
      have a := At.news (W0.alloc (.cells #[] 30)) 3 (Is (List.replicate k 0))
      rw [World.size_alloc, ← HM.out] at a
      exact (KG.out.block (W0.heap.size + 1) (by show _ < ((W0.alloc _).alloc _).heap.size; rw [World.size_alloc, World.size_alloc]; omega) (by simp)).trans a
    exact bodyPost_ret (v := .agg #[.slice (some ⟨g1, 0, none⟩) n c1, .slice (some ⟨W0.heap.size + 1, 0, none⟩) k k, .int .i64 endure, .int .i64 0, .int .u32 0, .bool false]) (by simp [results, Try.results34, go_sem, e0, e1, e2, e3, e4, e5]) rfl
      (ref_made endure GW GE KK k2' k3' HL.out k2 GB (by omega) (by omega) (by omega) T9)
  · try simp only [List.getElem_toArray, List.getElem_cons_succ, List.getElem_cons_zero]
    try go_simp
    go_wp2
    obtain ⟨W9, hW⟩ : ∃ W9, W9 = six w1 P (.slice (some ⟨g1, 0, none⟩) n c1) (.slice (some ⟨W0.heap.size, 0, none⟩) k k) (.int .i64 endure) (.int .i64 0) (.int .u32 0) (.bool false) := ⟨_, rfl⟩
    have KK := KP.out
    simp only [refZero] at KK
    have R9 := KK.six (.slice (some ⟨g1, 0, none⟩) n c1) (.slice (some ⟨W0.heap.size, 0, none⟩) k k) (.int .i64 endure) (.int .i64 0) (.int .u32 0) (.bool false)
    have T9 := (Turned.refl (Just P) w1).six (P := P) (fun _ => rfl) (.slice (some ⟨g1, 0, none⟩) n c1) (.slice (some ⟨W0.heap.size, 0, none⟩) k k) (.int .i64 endure) (.int .i64 0) (.int .u32 0) (.bool false)
    rw [← hW] at R9 T9
    change bodyPost _ _ _ _ _ (six w1 P (.slice (some ⟨g1, 0, none⟩) n c1) (.slice (some ⟨W0.heap.size, 0, none⟩) k k) (.int .i64 endure) (.int .i64 0) (.int .u32 0) (.bool false))
    rw [← hW]
    clear hW d0 d1 d2 d3 d4 d5 h0 h1 h2 h3 h4 h5 d0' d1' d2' d3' d4' d5' h0' h1' h2' h3' h4' h5'
    obtain ⟨e0, e1, e2, e3, e4, e5⟩ := R9.all6
    have hPw := HP.out
    have hs := HS.out
    have hBw := hB0.trans (KB.out.mono hB0.size)
    have GW := k1'
    have GB := hBw
    have GE : At w1 W0.heap.size 3 (Is (List.replicate k 0)) := by
      have a := (At.news W0 3 (Is (List.replicate k 0))).alloc (.cells #[] 30)
      rw [← HM.out] at a
      exact (KG.out.block W0.heap.size (by show _ < ((W0.alloc _).alloc _).heap.size; rw [World.size_alloc, World.size_alloc]; omega) (by simp)).trans a
    exact bodyPost_ret (v := .agg #[.slice (some ⟨g1, 0, none⟩) n c1, .slice (some ⟨W0.heap.size, 0, none⟩) k k, .int .i64 endure, .int .i64 0, .int .u32 0, .bool false]) (by simp [results, Try.results34, go_sem, e0, e1, e2, e3, e4, e5]) rfl
      (ref_made endure GW GE KK k2' k3' HL.out k2 GB (by omega) (by omega) (by omega) T9)
end Go.Proofs.Yteiegkfoabhikaa
