/- Contract of the document's own chip, on: New. -/
import Derived.Test.YteiegkfoabhikaaNorRef7
namespace Go.Proofs.Yteiegkfoabhikaa
open Go.RowKit Bm

set_option maxRecDepth 100000 in
set_option maxHeartbeats 2000000 in
theorem rnew_yes (k : Nat) (endure : Int) (w : World) (k1 : 1 ≤ k) (k2 : k ≤ 64) (e0 : 0 ≤ endure) (e1 : endure ≤ 9223372036854775807) :
    Calls Try.prog 12 #[.int .i64 k, .int .i64 endure] w (RefMade w (mNew k endure)) := by
  obtain ⟨i0, hi, hz0, hz1, hz2⟩ := info_parts infoU
  have A2 := At.news w 32 refZero
  simp only [refZero] at A2
  obtain ⟨W0, hW0⟩ : ∃ W0, W0 = w.alloc (.cells #[.slice none 0 0, .slice none 0 0, .int .i64 0, .int .i64 0, .int .u32 0, .bool false] 32) := ⟨_, rfl⟩
  have hB0 : Below w.heap.size w W0 := by rw [hW0]; exact (Below.refl _ w).alloc (Nat.le_refl _) _
  have hs0 : W0.heap.size = w.heap.size + 1 := by rw [hW0, World.size_alloc]
  change At (w.alloc (.cells #[.slice none 0 0, .slice none 0 0, .int .i64 0, .int .i64 0, .int .u32 0, .bool false] 32)) w.heap.size _ _ at A2
  rw [← hW0] at A2
  obtain ⟨P, hP⟩ : ∃ P, P = w.heap.size := ⟨_, rfl⟩
  rw [← hP] at A2
  have HP := Lib.hid hP
  have HS := Lib.hid hs0
  have HW := Lib.hid hW0
  obtain ⟨X, hX⟩ : ∃ X, X = Value.int .u32 4294967295 := ⟨_, rfl⟩
  clear hP hs0 hW0
  go_enter Try.func12, Try.ntmps12
  go_wp2
  rw [← HP.out, ← HW.out]
  have HX := Lib.hid hX
  clear hX
  go_loopw [5, 6] (fun l j wr => ∃ q : Nat, q ≤ k * 64 ∧ j = .int .i64 q ∧ wr.ownsRow W0.heap.size 30 1 l q (List.replicate q X) ∧ Below W0.heap.size W0 wr) (fun _ j _ => k * 64 - (intOf j).toNat)
  case atStart => exact ⟨0, by omega, rfl, World.ownsRow_nil _ _ _ _, Below.refl _ _⟩
  case round =>
    obtain ⟨q, hq, rfl, hown, hB⟩ := hrel
    by_cases hlt : q < k * 64
    · have j1 : (q : Int) < (k : Int) * 64 := by omega
      have hs := hB.size
      have N0 := Lib.hid (fun (j : Nat) (u : Value) (hu : [X][j]? = some u) => show (wr.alloc (.cells #[.int .u32 4294967295] 30)).cell? ((⟨wr.heap.size, 0, none⟩ : Addr).add j) = some u from by
        rw [add_zero_block, (At.news wr 30 [.int .u32 4294967295]).cell, ← HX.out]
        exact hu)
      have O0 := Lib.hid (hown.alloc (.cells #[.int .u32 4294967295] 30))
      have X1 : Hid (∀ u ∈ [X], u.oneCell' = true) := by intro u hu; simp at hu; rw [hu, HX.out]; rfl
      have LT := Lib.hid (fun k hk => (hown.lt k hk).1)
      have OUTS := Lib.hid (List.replicate_append_replicate (n := q) (m := 1) (a := X))
      clear hown
      go_wp2_with (at_builtin; refine wpList_append_own_at _ rfl (.tmp 20) (.tmp 21) _ rfl W0.heap.size 30 i0 _ 1 4 Try.underlying28 hi hz0 hz1 hz2 rfl (by omega) u5 q (List.replicate q X) rfl O0.out ⟨wr.heap.size, 0, none⟩ 1 1 [X] rfl rfl N0.out X1.out (by unfold maxLen; omega) (by omega) (by simp; omega) ?k)
      case k =>
        intro v' w' hown2 hg2 _ hat2
        have hB2 : Below W0.heap.size W0 w' := (hB.alloc hs _).grown hg2 (by rw [World.size_alloc]; omega) LT.out
        have hown3 : w'.ownsRow W0.heap.size 30 1 v' (q + 1) (List.replicate (q + 1) X) := by
          rw [← OUTS.out]; exact hown2
        clear hown2 hg2 hat2
        go_wp2
        go_roundw
        case rel => exact ⟨q + 1, by omega, by go_num, hown3, hB2⟩
        case measure => simp [intOf]; omega
    · obtain rfl : q = k * 64 := by omega
      have j1 : ¬ ((k : Int) * 64 < (k : Int) * 64) := by omega
      obtain ⟨g, cp, hu, hg, hlt2⟩ := hown.form (by omega)
      subst hu
      obtain ⟨rest, hA, hAl, hAm, _, hAn⟩ := At.of_own hown (by omega)
      have eU : List.replicate (k * 64) X = Us (List.replicate (k * 64) ones) := by rw [HX.out, Us, List.map_replicate]; rfl
      rw [eU] at hA hAl
      have OF := Lib.hid (rof_yes g cp (k * 64) k (List.replicate (k * 64) ones) rest endure wr hA (by simp) rfl k1 k2 e0 e1)
      clear hown hlt2 hAn eU hA hAl
      have hBw := hB0.trans (hB.mono hB0.size)
      have A2w := A2.kept (Turned.of_below hB (Nat.le_refl _) NoBlock) (fun h => h)
      go_wp2_with fail
      refine Calls.mono OF.out ?_
      rintro e w4 ⟨r', rfl, hc, hB4, hn1, hn2⟩
      have hBw4 := hBw.trans (hB4.mono hBw.size)
      have A24 := A2w.kept (Turned.of_below hB4 (Nat.le_refl _) NoBlock) (fun h => h)
      obtain ⟨f, hf⟩ : ∃ f, f = mOf (List.replicate (k * 64) ones) k endure := ⟨_, rfl⟩
      rw [← hf] at hc ⊢
      have F := Lib.hid hf
      clear hf
      obtain ⟨d0, d1, d2, d3, d4, d5⟩ := A24.all6
      obtain ⟨h0, h1, h2, h3, h4, h5⟩ := A24.thaw6
      simp only [refVal]
      go_wp2
      obtain ⟨W9, hW⟩ : ∃ W9, W9 = six w4 P (.slice (some ⟨r'.gw, 0, none⟩) f.ws.length r'.cw) (.slice (some ⟨r'.ge, 0, none⟩) f.wear.length r'.ce) (.int .i64 f.endure) (.int .i64 f.left) (.int .u32 (U f.pick)) (.bool (!f.up)) := ⟨_, rfl⟩
      have R9 := A24.six (.slice (some ⟨r'.gw, 0, none⟩) f.ws.length r'.cw) (.slice (some ⟨r'.ge, 0, none⟩) f.wear.length r'.ce) (.int .i64 f.endure) (.int .i64 f.left) (.int .u32 (U f.pick)) (.bool (!f.up))
      have T9 := (Turned.refl (Just P) w4).six (P := P) (fun _ => rfl) (.slice (some ⟨r'.gw, 0, none⟩) f.ws.length r'.cw) (.slice (some ⟨r'.ge, 0, none⟩) f.wear.length r'.ce) (.int .i64 f.endure) (.int .i64 f.left) (.int .u32 (U f.pick)) (.bool (!f.up))
      have n1 : r'.gw ≠ P := hc.words.ne A24 (by decide)
      have n2 : r'.ge ≠ P := hc.wear.ne A24 (by decide)
      rw [← hW] at R9 T9
      change bodyPost _ _ _ _ _ (six w4 P (.slice (some ⟨r'.gw, 0, none⟩) f.ws.length r'.cw) (.slice (some ⟨r'.ge, 0, none⟩) f.wear.length r'.ce) (.int .i64 f.endure) (.int .i64 f.left) (.int .u32 (U f.pick)) (.bool (!f.up)))
      rw [← hW]
      clear hW d0 d1 d2 d3 d4 d5 h0 h1 h2 h3 h4 h5
      obtain ⟨e0, e1, e2, e3, e4, e5⟩ := R9.all6
      refine bodyPost_ret (v := .agg #[.slice (some ⟨r'.gw, 0, none⟩) f.ws.length r'.cw, .slice (some ⟨r'.ge, 0, none⟩) f.wear.length r'.ce, .int .i64 f.endure, .int .i64 f.left, .int .u32 (U f.pick), .bool (!f.up)]) (by simp [results, Try.results12, go_sem, e0, e1, e2, e3, e4, e5]) rfl ?_
      have hPw := HP.out
      have hsz := hBw.size
      have fm : f = mNew k endure := F.out
      rw [← fm]
      exact ⟨r', rfl, hc.kept T9 n1 n2, hBw4.trans (T9.below (fun x hx => by have : x = P := hx; omega) hBw4.size), by omega, by omega⟩
end Go.Proofs.Yteiegkfoabhikaa
