/- Contracts of the document's own chip, on: Of, New. | Contract of the document's own chip, on: New. -/
import Derived.Test.YtfckgfimmoinmaaNorRB
import Derived.Deep.RegionLaw
import Derived.Deep.AppendLies
namespace Go.Proofs.Ytfckgfimmoinmaa
open Go.RowKit Bm
attribute [local go_sem ↓] Go.wp_at_zero Go.wp_at_succ

/-- A chip by value all of whose rows are new. -/
def RefMade (w : World) (c : ChipM) (e : Ending) (w' : World) : Prop := ∃ r', e = .returned (refVal r' c) ∧ RefAt w' r' c ∧ Below w.heap.size w w' ∧ w.heap.size ≤ r'.gw ∧ w.heap.size ≤ r'.ge

theorem ref_made {w W W9 : World} {P g1 ge c1 n k : Nat} {ws : List (BitVec 32)} {rest : List Value} (endure : Int) (hg : At W g1 33 (Us ws ++ rest)) (he : At W ge 3 (Is (List.replicate k 0))) (hP : At W P 35 refZero)
    (hl : (Us ws ++ rest).length = c1) (hm : c1 ≤ maxLen) (hn : ws.length = n) (hk : k ≤ 64) (hB : Below w.heap.size w W) (h0 : w.heap.size ≤ P) (h1 : w.heap.size ≤ g1) (h2 : w.heap.size ≤ ge) (T : Turned (Just P) W W9) :
    RefMade w (mOf ws k endure) (.returned (.agg #[.slice (some ⟨g1, 0, none⟩) n c1, .slice (some ⟨ge, 0, none⟩) k k, .int .i64 endure, .int .i64 0, .int .u32 0, .bool false])) W9 := by
  have n1 : g1 ≠ P := hg.ne hP (by decide)
  have n2 : ge ≠ P := he.ne hP (by decide)
  have he' : At W ge 3 (Is (List.replicate k 0) ++ []) := by rw [List.append_nil]; exact he
  refine ⟨⟨g1, ge, c1, k, rest, []⟩, ?_, ⟨hg.kept T n1, he'.kept T n2, hl, by rw [List.append_nil, Is_length]; exact List.length_replicate, hm, by show k ≤ maxLen; unfold maxLen; omega⟩, hB.trans (T.below (fun x hx => by have : x = P := hx; omega) hB.size), h1, h2⟩
  simp only [refVal, mOf, List.length_replicate, hn]
  rfl

set_option maxRecDepth 100000 in
set_option maxHeartbeats 2000000 in
theorem rof_yes (g cap n k : Nat) (ws : List (BitVec 32)) (r0 : List Value) (endure : Int) (w : World) (hA : At w g 33 (Us ws ++ r0)) (hl : ws.length = n) (hk : n = k * 64) (k1 : 1 ≤ k) (k2 : k ≤ 64) (e0 : 0 ≤ endure) (e1 : endure ≤ 9223372036854775807) :
    Calls Try.prog 38 #[.slice (some ⟨g, 0, none⟩) n cap, .int .i64 endure] w (RefMade w (mOf ws k endure)) := by
  obtain ⟨i0, hi, hz0, hz1, hz2⟩ := info_parts infoU
  obtain ⟨ii, hii, hy0, hy1, hy2⟩ := info_parts infoI
  have hmk := fun W => run_make (P := Try.prog) W 32 3 ii (.int .i64 0) Try.underlying32 hii hy0 .i64 .i64 (k : Int) (k : Int) (by omega) (by omega) (by rw [hy2]; omega) (by omega)
  rw [show ((k : Int).toNat) = k by omega, hy1, Nat.mul_one, show (Value.int .i64 0).cells = #[.int .i64 0] from rfl, made_zerosI] at hmk
  have q : (n : Int) / 64 = (k : Int) := by omega
  have r : (n : Int) % 64 = 0 := by omega
  have nb : n ≤ 4096 := by omega
  have n0 : 0 < n := by omega
  have A2 := At.news w 35 refZero
  simp only [refZero] at A2
  obtain ⟨W0, hW0⟩ : ∃ W0, W0 = w.alloc (.cells #[.slice none 0 0, .slice none 0 0, .int .i64 0, .int .i64 0, .int .u32 0, .bool false] 35) := ⟨_, rfl⟩
  have hB0 : Below w.heap.size w W0 := by rw [hW0]; exact (Below.refl _ w).alloc (Nat.le_refl _) _
  have hA0 : At W0 g 33 (Us ws ++ r0) := hA.kept (Turned.of_below hB0 (Nat.le_refl _) NoBlock) (fun h => h)
  have hs0 : W0.heap.size = w.heap.size + 1 := by rw [hW0, World.size_alloc]
  change At (w.alloc (.cells #[.slice none 0 0, .slice none 0 0, .int .i64 0, .int .i64 0, .int .u32 0, .bool false] 35)) w.heap.size _ _ at A2
  rw [← hW0] at A2
  obtain ⟨P, hP⟩ : ∃ P, P = w.heap.size := ⟨_, rfl⟩
  rw [← hP] at A2
  obtain ⟨Mc, hM⟩ : ∃ Mc, Mc = (Is (List.replicate k 0)).toArray := ⟨_, rfl⟩
  rw [← hM] at hmk
  have rd : ∀ (W : World), At W g 33 (Us ws ++ r0) → ∀ j u, (Us ws)[j]? = some u → W.cell? ((⟨g, 0, none⟩ : Addr).add j) = some u := fun W h j u hu => by
    rw [add_zero_block, h.cell, List.getElem?_append_left (List.getElem?_eq_some_iff.1 hu).1]; exact hu
  have Oa := Lib.hid (show ((W0.alloc (.cells #[] 33)).drew).ownsRow W0.heap.size 33 1 (.slice (some ⟨W0.heap.size, 0, none⟩) 0 0) 0 [] from World.ownsRow_made W0.drew #[] 0 (Nat.le_refl _) (by unfold maxLen; omega) rfl)
  have Ob := Lib.hid (show (((W0.alloc (.cells #[] 33)).alloc (.cells Mc 3)).drew).ownsRow W0.heap.size 33 1 (.slice (some ⟨W0.heap.size, 0, none⟩) 0 0) 0 [] from Oa.out.alloc (.cells Mc 3))
  have Oc := Lib.hid (show (((W0.alloc (.cells Mc 3)).alloc (.cells #[] 33)).drew).ownsRow W0.heap.size 33 1 (.slice (some ⟨W0.heap.size + 1, 0, none⟩) 0 0) 0 [] from by
    have := World.ownsRow_made (base := W0.heap.size) (e := 33) (size := 1) (W0.drew.alloc (.cells Mc 3)) #[] 0 (by rw [World.size_alloc]; show W0.heap.size ≤ W0.heap.size + 1; omega) (by unfold maxLen; omega) rfl
    rw [World.size_alloc] at this
    exact this)
  have Na := Lib.hid (rd ((W0.alloc (.cells #[] 33)).drew) (hA0.alloc (.cells #[] 33)))
  have Nb := Lib.hid (rd (((W0.alloc (.cells #[] 33)).alloc (.cells Mc 3)).drew) ((hA0.alloc (.cells #[] 33)).alloc (.cells Mc 3)))
  have Nc := Lib.hid (rd (((W0.alloc (.cells Mc 3)).alloc (.cells #[] 33)).drew) ((hA0.alloc (.cells Mc 3)).alloc (.cells #[] 33)))
  have Ba := Lib.hid (show Below W0.heap.size W0 ((W0.alloc (.cells #[] 33)).drew) from ((Below.refl _ W0).alloc (Nat.le_refl _) _).drew)
  have Bb := Lib.hid (show Below W0.heap.size W0 (((W0.alloc (.cells #[] 33)).alloc (.cells Mc 3)).drew) from (below_two W0 _ _).drew)
  have Bc := Lib.hid (show Below W0.heap.size W0 (((W0.alloc (.cells Mc 3)).alloc (.cells #[] 33)).drew) from (below_two W0 _ _).drew)
  have KEY : ∀ (W w1 : World) (b g1 c1 : Nat), Below W0.heap.size W0 W → w1.ownsRow W0.heap.size 33 1 (.slice (some ⟨g1, 0, none⟩) (0 + n) c1) (0 + n) ([] ++ Us ws) → W.grownBy w1 (Value.slice (some ⟨b, 0, none⟩) 0 0).ownBlock → W0.heap.size ≤ b →
      Below W0.heap.size W0 w1 ∧ W.grownBy w1 (some b) ∧ (∃ rest, At w1 g1 33 (Us ws ++ rest) ∧ (Us ws ++ rest).length = c1 ∧ c1 ≤ maxLen ∧ W0.heap.size ≤ g1) ∧ At w1 P 35 refZero ∧ At (w1.alloc (.cells Mc 3)) P 35 refZero := by
    intro W w1 b g1 c1 hB hown hgr hb
    have hg : W.grownBy w1 (some b) := hgr
    have hB1 : Below W0.heap.size W0 w1 := hB.grown hg hB.size (fun k hk => by simp at hk; omega)
    obtain ⟨rest, h1, h2, h3, h4, _⟩ := At.of_own hown (by omega)
    have hP1 : At w1 P 35 refZero := A2.kept (Turned.of_below hB1 (Nat.le_refl _) NoBlock) (fun h => h)
    exact ⟨hB1, hg, ⟨rest, h1, h2, h3, h4⟩, hP1, hP1.alloc _⟩
  have KEYH := Lib.hid KEY
  have HP := Lib.hid hP
  have HM := Lib.hid hM
  have HL := Lib.hid hl
  have HS := Lib.hid hs0
  have HW := Lib.hid hW0
  clear hl hk hP hM hs0 hW0 rd hA KEY
  go_enter Try.func38, Try.ntmps38
  go_wp2
  rw [← HP.out, ← HW.out]
  go_region_law ((first
    | (refine step_append_lies _ (by rfl) (.tmp 26) (.tmp 27) _ (by rfl) W0.heap.size 33 i0 _ 1 4 Try.underlying31 hi hz0 hz1 hz2 rfl (by omega) (.slice (some ⟨W0.heap.size, 0, none⟩) 0 0) 0 [] (by go_simp) Oa.out ⟨g, 0, none⟩ n cap (Us ws) (by go_simp) (by rw [Us_length, HL.out]; omega) Na.out (Us_one _) n0 (by unfold maxLen; omega) (by omega) Ba.out.size _ rfl ?_
       intro g1 c1 w1 hown1 hgr1 _ _
       obtain ⟨hB1, hg1, ⟨rest, k1', k2', k3', k4'⟩, hP1, hP2⟩ := KEYH.out _ w1 _ g1 c1 Ba.out hown1 hgr1 (by omega)
       have KP := Lib.hid hP1
       have KQ := Lib.hid hP2
       simp only [refZero] at hP1 hP2
       obtain ⟨d0, d1, d2, d3, d4, d5⟩ := hP1.all6
       obtain ⟨h0, h1, h2, h3, h4, h5⟩ := hP1.thaw6
       obtain ⟨d0', d1', d2', d3', d4', d5'⟩ := hP2.all6
       obtain ⟨h0', h1', h2', h3', h4', h5'⟩ := hP2.thaw6
       have KB := Lib.hid hB1
       have KG := Lib.hid hg1
       clear hown1 hgr1 hB1 hg1 hP1 hP2)
    | (refine step_append_lies _ (by rfl) (.tmp 26) (.tmp 27) _ (by rfl) W0.heap.size 33 i0 _ 1 4 Try.underlying31 hi hz0 hz1 hz2 rfl (by omega) (.slice (some ⟨W0.heap.size, 0, none⟩) 0 0) 0 [] (by go_simp) Ob.out ⟨g, 0, none⟩ n cap (Us ws) (by go_simp) (by rw [Us_length, HL.out]; omega) Nb.out (Us_one _) n0 (by unfold maxLen; omega) (by omega) Bb.out.size _ rfl ?_
       intro g1 c1 w1 hown1 hgr1 _ _
       obtain ⟨hB1, hg1, ⟨rest, k1', k2', k3', k4'⟩, hP1, hP2⟩ := KEYH.out _ w1 _ g1 c1 Bb.out hown1 hgr1 (by omega)
       have KP := Lib.hid hP1
       have KQ := Lib.hid hP2
       simp only [refZero] at hP1 hP2
       obtain ⟨d0, d1, d2, d3, d4, d5⟩ := hP1.all6
       obtain ⟨h0, h1, h2, h3, h4, h5⟩ := hP1.thaw6
       obtain ⟨d0', d1', d2', d3', d4', d5'⟩ := hP2.all6
       obtain ⟨h0', h1', h2', h3', h4', h5'⟩ := hP2.thaw6
       have KB := Lib.hid hB1
       have KG := Lib.hid hg1
       clear hown1 hgr1 hB1 hg1 hP1 hP2)
    | (refine step_append_lies _ (by rfl) (.tmp 26) (.tmp 27) _ (by rfl) W0.heap.size 33 i0 _ 1 4 Try.underlying31 hi hz0 hz1 hz2 rfl (by omega) (.slice (some ⟨W0.heap.size + 1, 0, none⟩) 0 0) 0 [] (by go_simp) Oc.out ⟨g, 0, none⟩ n cap (Us ws) (by go_simp) (by rw [Us_length, HL.out]; omega) Nc.out (Us_one _) n0 (by unfold maxLen; omega) (by omega) Bc.out.size _ rfl ?_
       intro g1 c1 w1 hown1 hgr1 _ _
       obtain ⟨hB1, hg1, ⟨rest, k1', k2', k3', k4'⟩, hP1, hP2⟩ := KEYH.out _ w1 _ g1 c1 Bc.out hown1 hgr1 (by omega)
       have KP := Lib.hid hP1
       have KQ := Lib.hid hP2
       simp only [refZero] at hP1 hP2
       obtain ⟨d0, d1, d2, d3, d4, d5⟩ := hP1.all6
       obtain ⟨h0, h1, h2, h3, h4, h5⟩ := hP1.thaw6
       obtain ⟨d0', d1', d2', d3', d4', d5'⟩ := hP2.all6
       obtain ⟨h0', h1', h2', h3', h4', h5'⟩ := hP2.thaw6
       have KB := Lib.hid hB1
       have KG := Lib.hid hg1
       clear hown1 hgr1 hB1 hg1 hP1 hP2)))
  · try simp only [List.getElem_toArray, List.getElem_cons_succ, List.getElem_cons_zero]
    try go_simp
    go_wp2
    obtain ⟨W9, hW⟩ : ∃ W9, W9 = six (w1.alloc (.cells Mc 3)) P (.slice (some ⟨g1, 0, none⟩) n c1) (.slice (some ⟨w1.heap.size, 0, none⟩) k k) (.int .i64 endure) (.int .i64 0) (.int .u32 0) (.bool false) := ⟨_, rfl⟩
    have KK := KQ.out
    simp only [refZero] at KK
    have R9 := KK.six (.slice (some ⟨g1, 0, none⟩) n c1) (.slice (some ⟨w1.heap.size, 0, none⟩) k k) (.int .i64 endure) (.int .i64 0) (.int .u32 0) (.bool false)
    have T9 := (Turned.refl (Just P) (w1.alloc (.cells Mc 3))).six (P := P) (fun _ => rfl) (.slice (some ⟨g1, 0, none⟩) n c1) (.slice (some ⟨w1.heap.size, 0, none⟩) k k) (.int .i64 endure) (.int .i64 0) (.int .u32 0) (.bool false)
    rw [← hW] at R9 T9
    change bodyPost _ _ _ _ _ (six (w1.alloc (.cells Mc 3)) P (.slice (some ⟨g1, 0, none⟩) n c1) (.slice (some ⟨w1.heap.size, 0, none⟩) k k) (.int .i64 endure) (.int .i64 0) (.int .u32 0) (.bool false))
    rw [← hW]
    clear hW d0 d1 d2 d3 d4 d5 h0 h1 h2 h3 h4 h5 d0' d1' d2' d3' d4' d5' h0' h1' h2' h3' h4' h5'
    obtain ⟨e0, e1, e2, e3, e4, e5⟩ := R9.all6
    have hPw := HP.out
    have hs := HS.out
    have hBw := hB0.trans (KB.out.mono hB0.size)
    have GW := k1'.alloc (.cells Mc 3)
    have GB := hBw.alloc hBw.size (.cells Mc 3)
    have GE : At (w1.alloc (.cells Mc 3)) w1.heap.size 3 (Is (List.replicate k 0)) := by
      rw [HM.out]; exact At.news w1 _ _
    have hbs := hBw.size
    exact bodyPost_ret (v := .agg #[.slice (some ⟨g1, 0, none⟩) n c1, .slice (some ⟨w1.heap.size, 0, none⟩) k k, .int .i64 endure, .int .i64 0, .int .u32 0, .bool false]) (by simp [results, Try.results38, go_sem, e0, e1, e2, e3, e4, e5]) rfl
      (ref_made endure GW GE KK k2' k3' HL.out k2 GB (by omega) (by omega) (by omega) T9)
  · try simp only [List.getElem_toArray, List.getElem_cons_succ, List.getElem_cons_zero]
    try go_simp
    go_wp2
    obtain ⟨W9, hW⟩ : ∃ W9, W9 = six w1 P (.slice (some ⟨g1, 0, none⟩) n c1) (.slice (some ⟨W0.heap.size + 1, 0, none⟩) k k) (.int .i64 endure) (.int .i64 0) (.int .u32 0) (.bool false) := ⟨_, rfl⟩
    have KK := KP.out
    simp only [refZero] at KK
    have R9 := KK.six (.slice (some ⟨g1, 0, none⟩) n c1) (.slice (some ⟨W0.heap.size + 1, 0, none⟩) k k) (.int .i64 endure) (.int .i64 0) (.int .u32 0) (.bool false)
    have T9 := (Turned.refl (Just P) w1).six (P := P) (fun _ => rfl) (.slice (some ⟨g1, 0, none⟩) n c1) (.slice (some ⟨W0.heap.size + 1, 0, none⟩) k k) (.int .i64 endure) (.int .i64 0) (.int .u32 0) (.bool false)
    rw [← hW] at R9 T9
    change bodyPost _ _ _ _ _ (six w1 P (.slice (some ⟨g1, 0, none⟩) n c1) (.slice (some ⟨W0.heap.size + 1, 0, none⟩) k k) (.int .i64 endure) (.int .i64 0) (.int .u32 0) (.bool false))
    rw [← hW]
    clear hW d0 d1 d2 d3 d4 d5 h0 h1 h2 h3 h4 h5 d0' d1' d2' d3' d4' d5' h0' h1' h2' h3' h4' h5'
    obtain ⟨e0, e1, e2, e3, e4, e5⟩ := R9.all6
    have hPw := HP.out
    have hs := HS.out
    have hBw := hB0.trans (KB.out.mono hB0.size)
    have GW := k1'
    have GB := hBw
    have GE : At w1 (W0.heap.size + 1) 3 (Is (List.replicate k 0)) := by
      have a := At.news (W0.alloc (.cells #[] 33)) 3 (Is (List.replicate k 0))
      rw [World.size_alloc, ← HM.out] at a
      exact (KG.out.block (W0.heap.size + 1) (by show _ < ((W0.alloc _).alloc _).heap.size; rw [World.size_alloc, World.size_alloc]; omega) (by simp)).trans a
    exact bodyPost_ret (v := .agg #[.slice (some ⟨g1, 0, none⟩) n c1, .slice (some ⟨W0.heap.size + 1, 0, none⟩) k k, .int .i64 endure, .int .i64 0, .int .u32 0, .bool false]) (by simp [results, Try.results38, go_sem, e0, e1, e2, e3, e4, e5]) rfl
      (ref_made endure GW GE KK k2' k3' HL.out k2 GB (by omega) (by omega) (by omega) T9)
  · try simp only [List.getElem_toArray, List.getElem_cons_succ, List.getElem_cons_zero]
    try go_simp
    go_wp2
    obtain ⟨W9, hW⟩ : ∃ W9, W9 = six w1 P (.slice (some ⟨g1, 0, none⟩) n c1) (.slice (some ⟨W0.heap.size, 0, none⟩) k k) (.int .i64 endure) (.int .i64 0) (.int .u32 0) (.bool false) := ⟨_, rfl⟩
    have KK := KP.out
    simp only [refZero] at KK
    have R9 := KK.six (.slice (some ⟨g1, 0, none⟩) n c1) (.slice (some ⟨W0.heap.size, 0, none⟩) k k) (.int .i64 endure) (.int .i64 0) (.int .u32 0) (.bool false)
    have T9 := (Turned.refl (Just P) w1).six (P := P) (fun _ => rfl) (.slice (some ⟨g1, 0, none⟩) n c1) (.slice (some ⟨W0.heap.size, 0, none⟩) k k) (.int .i64 endure) (.int .i64 0) (.int .u32 0) (.bool false)
    rw [← hW] at R9 T9
    change bodyPost _ _ _ _ _ (six w1 P (.slice (some ⟨g1, 0, none⟩) n c1) (.slice (some ⟨W0.heap.size, 0, none⟩) k k) (.int .i64 endure) (.int .i64 0) (.int .u32 0) (.bool false))
    rw [← hW]
    clear hW d0 d1 d2 d3 d4 d5 h0 h1 h2 h3 h4 h5 d0' d1' d2' d3' d4' d5' h0' h1' h2' h3' h4' h5'
    obtain ⟨e0, e1, e2, e3, e4, e5⟩ := R9.all6
    have hPw := HP.out
    have hs := HS.out
    have hBw := hB0.trans (KB.out.mono hB0.size)
    have GW := k1'
    have GB := hBw
    have GE : At w1 W0.heap.size 3 (Is (List.replicate k 0)) := by
      have a := (At.news W0 3 (Is (List.replicate k 0))).alloc (.cells #[] 33)
      rw [← HM.out] at a
      exact (KG.out.block W0.heap.size (by show _ < ((W0.alloc _).alloc _).heap.size; rw [World.size_alloc, World.size_alloc]; omega) (by simp)).trans a
    exact bodyPost_ret (v := .agg #[.slice (some ⟨g1, 0, none⟩) n c1, .slice (some ⟨W0.heap.size, 0, none⟩) k k, .int .i64 endure, .int .i64 0, .int .u32 0, .bool false]) (by simp [results, Try.results38, go_sem, e0, e1, e2, e3, e4, e5]) rfl
      (ref_made endure GW GE KK k2' k3' HL.out k2 GB (by omega) (by omega) (by omega) T9)
end Go.Proofs.Ytfckgfimmoinmaa

namespace Go.Proofs.Ytfckgfimmoinmaa
open Go.RowKit Bm

set_option maxRecDepth 100000 in
set_option maxHeartbeats 2000000 in
theorem rnew_yes (k : Nat) (endure : Int) (w : World) (k1 : 1 ≤ k) (k2 : k ≤ 64) (e0 : 0 ≤ endure) (e1 : endure ≤ 9223372036854775807) :
    Calls Try.prog 14 #[.int .i64 k, .int .i64 endure] w (RefMade w (mNew k endure)) := by
  obtain ⟨i0, hi, hz0, hz1, hz2⟩ := info_parts infoU
  have A2 := At.news w 35 refZero
  simp only [refZero] at A2
  obtain ⟨W0, hW0⟩ : ∃ W0, W0 = w.alloc (.cells #[.slice none 0 0, .slice none 0 0, .int .i64 0, .int .i64 0, .int .u32 0, .bool false] 35) := ⟨_, rfl⟩
  have hB0 : Below w.heap.size w W0 := by rw [hW0]; exact (Below.refl _ w).alloc (Nat.le_refl _) _
  have hs0 : W0.heap.size = w.heap.size + 1 := by rw [hW0, World.size_alloc]
  change At (w.alloc (.cells #[.slice none 0 0, .slice none 0 0, .int .i64 0, .int .i64 0, .int .u32 0, .bool false] 35)) w.heap.size _ _ at A2
  rw [← hW0] at A2
  obtain ⟨P, hP⟩ : ∃ P, P = w.heap.size := ⟨_, rfl⟩
  rw [← hP] at A2
  have HP := Lib.hid hP
  have HS := Lib.hid hs0
  have HW := Lib.hid hW0
  obtain ⟨X, hX⟩ : ∃ X, X = Value.int .u32 4294967295 := ⟨_, rfl⟩
  clear hP hs0 hW0
  go_enter Try.func14, Try.ntmps14
  go_wp2
  rw [← HP.out, ← HW.out]
  have HX := Lib.hid hX
  clear hX
  go_loopw [5, 6] (fun l j wr => ∃ q : Nat, q ≤ k * 64 ∧ j = .int .i64 q ∧ wr.ownsRow W0.heap.size 33 1 l q (List.replicate q X) ∧ Below W0.heap.size W0 wr) (fun _ j _ => k * 64 - (intOf j).toNat)
  case atStart => exact ⟨0, by omega, rfl, World.ownsRow_nil _ _ _ _, Below.refl _ _⟩
  case round =>
    obtain ⟨q, hq, rfl, hown, hB⟩ := hrel
    by_cases hlt : q < k * 64
    · have j1 : (q : Int) < (k : Int) * 64 := by omega
      have hs := hB.size
      have N0 := Lib.hid (fun (j : Nat) (u : Value) (hu : [X][j]? = some u) => show (wr.alloc (.cells #[.int .u32 4294967295] 33)).cell? ((⟨wr.heap.size, 0, none⟩ : Addr).add j) = some u from by
        rw [add_zero_block, (At.news wr 33 [.int .u32 4294967295]).cell, ← HX.out]
        exact hu)
      have O0 := Lib.hid (hown.alloc (.cells #[.int .u32 4294967295] 33))
      have X1 : Hid (∀ u ∈ [X], u.oneCell' = true) := by intro u hu; simp at hu; rw [hu, HX.out]; rfl
      have LT := Lib.hid (fun k hk => (hown.lt k hk).1)
      have OUTS := Lib.hid (List.replicate_append_replicate (n := q) (m := 1) (a := X))
      clear hown
      go_wp2_with (at_builtin; refine wpList_append_own_at _ rfl (.tmp 20) (.tmp 21) _ rfl W0.heap.size 33 i0 _ 1 4 Try.underlying31 hi hz0 hz1 hz2 rfl (by omega) u5 q (List.replicate q X) rfl O0.out ⟨wr.heap.size, 0, none⟩ 1 1 [X] rfl rfl N0.out X1.out (by unfold maxLen; omega) (by omega) (by simp; omega) ?k)
      case k =>
        intro v' w' hown2 hg2 _ hat2
        have hB2 : Below W0.heap.size W0 w' := (hB.alloc hs _).grown hg2 (by rw [World.size_alloc]; omega) LT.out
        have hown3 : w'.ownsRow W0.heap.size 33 1 v' (q + 1) (List.replicate (q + 1) X) := by
          rw [← OUTS.out]; exact hown2
        clear hown2 hg2 hat2
        go_wp2
        go_roundw
        case rel => exact ⟨q + 1, by omega, by go_num, hown3, hB2⟩
        case measure => simp [intOf]; omega
    · obtain rfl : q = k * 64 := by omega
      have j1 : ¬ ((k : Int) * 64 < (k : Int) * 64) := by omega
      obtain ⟨g, cp, hu, hg, hlt2⟩ := hown.form (by omega)
      subst hu
      obtain ⟨rest, hA, hAl, hAm, _, hAn⟩ := At.of_own hown (by omega)
      have eU : List.replicate (k * 64) X = Us (List.replicate (k * 64) ones) := by rw [HX.out, Us, List.map_replicate]; rfl
      rw [eU] at hA hAl
      have OF := Lib.hid (rof_yes g cp (k * 64) k (List.replicate (k * 64) ones) rest endure wr hA (by simp) rfl k1 k2 e0 e1)
      clear hown hlt2 hAn eU hA hAl
      have hBw := hB0.trans (hB.mono hB0.size)
      have A2w := A2.kept (Turned.of_below hB (Nat.le_refl _) NoBlock) (fun h => h)
      go_wp2_with fail
      refine Calls.mono OF.out ?_
      rintro e w4 ⟨r', rfl, hc, hB4, hn1, hn2⟩
      have hBw4 := hBw.trans (hB4.mono hBw.size)
      have A24 := A2w.kept (Turned.of_below hB4 (Nat.le_refl _) NoBlock) (fun h => h)
      obtain ⟨f, hf⟩ : ∃ f, f = mOf (List.replicate (k * 64) ones) k endure := ⟨_, rfl⟩
      rw [← hf] at hc ⊢
      have F := Lib.hid hf
      clear hf
      obtain ⟨d0, d1, d2, d3, d4, d5⟩ := A24.all6
      obtain ⟨h0, h1, h2, h3, h4, h5⟩ := A24.thaw6
      simp only [refVal]
      go_wp2
      obtain ⟨W9, hW⟩ : ∃ W9, W9 = six w4 P (.slice (some ⟨r'.gw, 0, none⟩) f.ws.length r'.cw) (.slice (some ⟨r'.ge, 0, none⟩) f.wear.length r'.ce) (.int .i64 f.endure) (.int .i64 f.left) (.int .u32 (U f.pick)) (.bool (!f.up)) := ⟨_, rfl⟩
      have R9 := A24.six (.slice (some ⟨r'.gw, 0, none⟩) f.ws.length r'.cw) (.slice (some ⟨r'.ge, 0, none⟩) f.wear.length r'.ce) (.int .i64 f.endure) (.int .i64 f.left) (.int .u32 (U f.pick)) (.bool (!f.up))
      have T9 := (Turned.refl (Just P) w4).six (P := P) (fun _ => rfl) (.slice (some ⟨r'.gw, 0, none⟩) f.ws.length r'.cw) (.slice (some ⟨r'.ge, 0, none⟩) f.wear.length r'.ce) (.int .i64 f.endure) (.int .i64 f.left) (.int .u32 (U f.pick)) (.bool (!f.up))
      have n1 : r'.gw ≠ P := hc.words.ne A24 (by decide)
      have n2 : r'.ge ≠ P := hc.wear.ne A24 (by decide)
      rw [← hW] at R9 T9
      change bodyPost _ _ _ _ _ (six w4 P (.slice (some ⟨r'.gw, 0, none⟩) f.ws.length r'.cw) (.slice (some ⟨r'.ge, 0, none⟩) f.wear.length r'.ce) (.int .i64 f.endure) (.int .i64 f.left) (.int .u32 (U f.pick)) (.bool (!f.up)))
      rw [← hW]
      clear hW d0 d1 d2 d3 d4 d5 h0 h1 h2 h3 h4 h5
      obtain ⟨e0, e1, e2, e3, e4, e5⟩ := R9.all6
      refine bodyPost_ret (v := .agg #[.slice (some ⟨r'.gw, 0, none⟩) f.ws.length r'.cw, .slice (some ⟨r'.ge, 0, none⟩) f.wear.length r'.ce, .int .i64 f.endure, .int .i64 f.left, .int .u32 (U f.pick), .bool (!f.up)]) (by simp [results, Try.results14, go_sem, e0, e1, e2, e3, e4, e5]) rfl ?_
      have hPw := HP.out
      have hsz := hBw.size
      have fm : f = mNew k endure := F.out
      rw [← fm]
      exact ⟨r', rfl, hc.kept T9 n1 n2, hBw4.trans (T9.below (fun x hx => by have : x = P := hx; omega) hBw4.size), by omega, by omega⟩
end Go.Proofs.Ytfckgfimmoinmaa
