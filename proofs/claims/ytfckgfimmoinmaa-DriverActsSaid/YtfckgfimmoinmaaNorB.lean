/- Contracts of nor's Wear, Fuse, Cut, On, Words, and of slices.Clone. | Contracts of slices.Repeat at one word, and of nor's New and Of. | Each call of a chip, whatever it is given, in one contract; and the helper alive of layer nor's statements. -/
import Derived.Test.YtfckgfimmoinmaaNorA
import Derived.Test.YtfckgfimmoinmaaRep
import Derived.Lib.SliceRun
import Derived.Laws.CopyOwn
import Derived.Laws.BitsAllLaws
import Derived.Deep.RegionLaw
import Derived.Deep.RegionWith
import Derived.Deep.DrawnRows
namespace Go.Proofs.Ytfckgfimmoinmaa
open Go.RowKit Bm

theorem ret_i {a b : Int} (h : a = b) : Ending.returned (.int .i64 a) = Ending.returned (.int .i64 b) := by rw [h]

theorem wear_any (h : Hd) (c : ChipM) (b : Int) (w : World) (hc : ChipAt w h c) (_hl : c.wear.length ≤ 64) :
    Calls Try.prog 34 #[.pointer (some ⟨h.p, 0, none⟩), .int .i64 b] w fun e w' => e = .returned (.int .i64 (mWear c b)) ∧ w' = w := by
  by_cases h0 : b < 0
  · go_enter Try.func34, Try.ntmps34
    go_wp2_with (go_at_call 49; with_reducible refine (blocks_any _ _ _ hc).mono ?_; rintro e w' ⟨rfl, rfl⟩)
    go_ret
    exact ⟨ret_i (by rw [mWear, if_pos h0]), rfl⟩
  · obtain ⟨n, rfl⟩ := Int.eq_ofNat_of_zero_le (show 0 ≤ b by omega)
    by_cases h1 : n < c.wear.length
    · have g1 := hc.own.cell 1
      simp only [chipCells, List.getElem?_cons_zero, List.getElem?_cons_succ] at g1
      have gb := hc.worn n h1
      go_enter Try.func34, Try.ntmps34
      go_wp2_with (go_at_call 49; with_reducible refine (blocks_any _ _ _ hc).mono ?_; rintro e w' ⟨rfl, rfl⟩)
      go_ret
      exact ⟨ret_i (by rw [mWear, if_neg (by omega)]; rfl), rfl⟩
    · have h2 : c.wear.length ≤ n := by omega
      go_enter Try.func34, Try.ntmps34
      go_wp2_with (go_at_call 49; with_reducible refine (blocks_any _ _ _ hc).mono ?_; rintro e w' ⟨rfl, rfl⟩)
      go_ret
      exact ⟨ret_i (by rw [mWear, if_neg (by omega), nm_far _ _ (by simpa using h2)]), rfl⟩


theorem on_any (h : Hd) (c : ChipM) (w : World) (hc : ChipAt w h c) (h1 : 1 ≤ c.wear.length) :
    Calls Try.prog 24 #[.pointer (some ⟨h.p, 0, none⟩)] w fun e w' => e = .returned (.tuple #[]) ∧ ChipAt w' h (mOn c) ∧ Turned h.own w w' := by
  have g3 := hc.own.cell 3
  have f3 := hc.own.frozen 3
  have g4 := hc.own.cell 4
  have f4 := hc.own.frozen 4
  simp only [chipCells, List.getElem?_cons_succ, List.getElem?_cons_zero] at g3 g4
  have z : ((c.wear.length : Int) == 0) = false := by rw [beq_eq_false_iff_ne]; omega
  go_enter Try.func24, Try.ntmps24
  go_wp2_with (go_at_call 49; with_reducible refine (blocks_any _ _ _ hc).mono ?_; rintro e w' ⟨rfl, rfl⟩)
  go_end0
  exact ⟨rfl, (hc.putUp true).putLeft 0, ((Turned.refl h.own w').setCell (p := ⟨h.p, 3, none⟩) (fun _ => .inl rfl) _).setCell (p := ⟨h.p, 4, none⟩) (fun _ => .inl rfl) _⟩

theorem fuse_any (h : Hd) (c : ChipM) (n : Int) (x : BitVec 32) (w : World) (hc : ChipAt w h c) (h1 : 1 ≤ c.wear.length) :
    Calls Try.prog 22 #[.pointer (some ⟨h.p, 0, none⟩), .int .i64 n, .int .u32 (U x)] w fun e w' => e = .returned (.tuple #[]) ∧ ChipAt w' h (mFuse c n x) ∧ Turned h.own w w' := by
  have g4 := hc.own.cell 4
  have f4 := hc.own.frozen 4
  have g5 := hc.own.cell 5
  have f5 := hc.own.frozen 5
  simp only [chipCells, List.getElem?_cons_succ, List.getElem?_cons_zero] at g4 g5
  have z : ((c.wear.length : Int) == 0) = false := by rw [beq_eq_false_iff_ne]; omega
  have fin : ChipAt ((w.setCell ⟨h.p, 4, none⟩ (.int .i64 (max n 0))).setCell ⟨h.p, 5, none⟩ (.int .u32 (U x))) h (mFuse c n x) := (hc.putLeft _).putPick _
  have fin2 : Turned h.own w ((w.setCell ⟨h.p, 4, none⟩ (.int .i64 (max n 0))).setCell ⟨h.p, 5, none⟩ (.int .u32 (U x))) := ((Turned.refl h.own w).setCell (p := ⟨h.p, 4, none⟩) (fun _ => .inl rfl) _).setCell (p := ⟨h.p, 5, none⟩) (fun _ => .inl rfl) _
  by_cases hn : n < 0
  · rw [show max n 0 = 0 by omega] at fin fin2
    have F := Lib.hid fin
    have F2 := Lib.hid fin2
    clear fin fin2
    go_enter Try.func22, Try.ntmps22
    go_wp2_with (go_at_call 49; with_reducible refine (blocks_any _ _ _ hc).mono ?_; rintro e w' ⟨rfl, rfl⟩)
    go_end0
    exact ⟨rfl, F.out, F2.out⟩
  · rw [show max n 0 = n by omega] at fin fin2
    have F := Lib.hid fin
    have F2 := Lib.hid fin2
    clear fin fin2
    go_enter Try.func22, Try.ntmps22
    go_wp2_with (go_at_call 49; with_reducible refine (blocks_any _ _ _ hc).mono ?_; rintro e w' ⟨rfl, rfl⟩)
    go_end0
    exact ⟨rfl, F.out, F2.out⟩

theorem infoI : (Try.prog.info? 3).map (fun i => (i.zero, i.size, i.bytes)) = some (some (.int .i64 0), 1, 8) := by kernel_rfl

theorem clone_any (ad : Addr) (n cap : Nat) (xs : List Value) (w : World) (hl : xs.length = n) (h1 : ∀ u ∈ xs, u.oneCell' = true) (hn : 0 < n) (hm : n ≤ 1000000) (_hcap : n ≤ cap) (hlt : ad.block < w.heap.size)
    (hx : ∀ j u, xs[j]? = some u → w.cell? (ad.add j) = some u) :
    Calls Try.prog 51 #[.slice (some ad) n cap] w (Fresh w 33 xs) := by
  obtain ⟨i0, hi, hz0, hz1, hz2⟩ := info_parts infoU
  have HX := Lib.hid hx
  clear hx
  have H1 := Lib.hid h1
  clear h1
  have HL := Lib.hid hl
  clear hl
  have qe : ∀ W : World, (binOp .eql 31 (.slice (some ad) n cap) (.slice none 0 0)).run Try.prog W = .ok (.bool false) W := fun W => Lib.run_eql_slice_nil W _ _ _ _ _ _ _ Try.underlying31
  go_enter Try.func51, Try.ntmps51
  go_wp2_with (at_builtin; refine wpList_append_lies _ rfl (.tmp 5) (.tmp 6) _ rfl w.heap.size 33 i0 _ 1 4 Try.underlying31 hi hz0 hz1 hz2 rfl (by omega) (.slice (some ⟨w.heap.size, 0, none⟩) 0 0) 0 [] rfl ?own ad n cap xs rfl ?len ?news H1.out hn (by unfold maxLen; omega) (by omega) (by simp) (w.heap.size + 1) (by simp) ?k)
  case own => exact World.ownsRow_made w #[] 0 (Nat.le_refl _) (by unfold maxLen; omega) rfl
  case len => rw [HL.out]; omega
  case news =>
    intro j u hu
    rw [World.cell?_alloc_lt w _ _ (by unfold Addr.add; split <;> exact hlt)]
    exact HX.out j u hu
  case k =>
    intro g cap' w1 hown hgr hat hgl
    obtain ⟨rest, hA, hAl, hAm, _, hAn⟩ := At.of_own hown (by omega)
    have hbw : Below w.heap.size w w1 := ((Below.refl _ _).alloc (Nat.le_refl _) _).grown hgr (by simp) (by intro k hk; simp [Value.ownBlock] at hk; omega)
    have hge : w.heap.size ≤ g := by
      rcases hat with h | h
      · simp [Value.ownBlock] at h; omega
      · omega
    go_wp2
    go_ret
    exact ⟨g, cap', rest, by rw [HL.out]; rfl, by simpa using hA, by simpa using hAl, hAm, hge, hbw⟩


theorem words_any (h : Hd) (c : ChipM) (w : World) (hc : ChipAt w h c) (h1 : 0 < c.ws.length) (h2 : c.ws.length ≤ 1000000) :
    Calls Try.prog 31 #[.pointer (some ⟨h.p, 0, none⟩)] w (Fresh w 33 (Us c.ws)) := by
  have g0 := hc.own.cell 0
  simp only [chipCells, List.getElem?_cons_zero] at g0
  have room := hc.room
  have cl := clone_any ⟨h.bw, 0, none⟩ c.ws.length h.cw (Us c.ws) w (Us_length _) (Us_one _) h1 h2 hc.room hc.words.lt (by
    intro j u hu
    have hj : j < c.ws.length := by
      have := (List.getElem?_eq_some_iff.1 hu).1
      rwa [Us_length] at this
    rw [add_zero_block, hc.word j hj]
    rw [Us_get _ _ hj] at hu
    exact hu)
  have CL := Lib.hid cl
  clear cl hc
  go_enter Try.func31, Try.ntmps31
  go_wp2_with (go_at_call 51; (with_reducible refine Calls.mono CL.out ?_); rintro e w' ⟨g, cap, rest, rfl, h1, h2, h3, h4, h5⟩)
  go_ret
  exact ⟨g, cap, rest, rfl, h1, h2, h3, h4, h5⟩
end Go.Proofs.Ytfckgfimmoinmaa

namespace Go.Proofs.Ytfckgfimmoinmaa
open Go.RowKit Bm
attribute [local go_sem ↓] Go.wp_at_zero Go.wp_at_succ

/-- A chip that the call made: all its blocks are new. -/
def MadeChip (w : World) (c : ChipM) (e : Ending) (w' : World) : Prop :=
  ∃ h : Hd, e = .returned (.pointer (some ⟨h.p, 0, none⟩)) ∧ ChipAt w' h c ∧ (∀ i, h.own i → w.heap.size ≤ i) ∧ Below w.heap.size w w'

theorem made_zerosI (n : Nat) : madeCells #[.int .i64 0] n = (Is (List.replicate n 0)).toArray := by
  apply Array.ext'
  simp [madeCells, Is]
  apply List.ext_getElem
  · simp
  · intro i h1 h2
    simp [Nat.mod_one]

theorem chip_boxed {w W : World} {g be c1 k H : Nat} {rest : List Value} {xs : List (BitVec 32)} (endure : Int) (hg : At W g 33 (Us xs ++ rest)) (hbe : At W be 3 (Is (List.replicate k 0)))
    (hl : (Us xs ++ rest).length = c1) (hc : c1 ≤ maxLen) (hb : Below w.heap.size w W) (h1 : w.heap.size ≤ g) (h2 : w.heap.size ≤ be) (hH : W.heap.size = H) :
    MadeChip w (mOf xs k endure) (.returned (.pointer (some ⟨H, 0, none⟩))) (W.alloc (.cells #[.slice (some ⟨g, 0, none⟩) (Us xs).length c1, .slice (some ⟨be, 0, none⟩) k k, .int .i64 endure, .bool true, .int .i64 0, .int .u32 0] 90)) := by
  subst hH
  have hs := hb.size
  refine ⟨⟨W.heap.size, g, be, c1, rest⟩, rfl, ⟨?_, hg.alloc _, hbe.alloc _, ?_, hc⟩, ?_, hb.alloc hs _⟩
  · have := At.news W 90 (chipCells ⟨W.heap.size, g, be, c1, rest⟩ (mOf xs k endure))
    simp only [chipCells, mOf, List.length_replicate] at this ⊢
    rw [Us_length]
    exact this
  · have : xs.length ≤ c1 := by rw [← hl, List.length_append, Us_length]; omega
    exact this
  · intro i hi
    rcases hi with rfl | rfl | rfl
    · exact hs
    · exact h1
    · exact h2

set_option maxRecDepth 100000 in
theorem of_yes (ad : Addr) (cap n k : Nat) (xs : List (BitVec 32)) (endure : Int) (w : World) (hl : xs.length = n) (hk : n = k * 64) (k1 : 1 ≤ k) (k2 : k ≤ 64) (e0 : 0 ≤ endure) (e1 : endure ≤ 9223372036854775807) (hcap : n ≤ cap)
    (had : ad.block < w.heap.size) (hx : ∀ j u, (Us xs)[j]? = some u → w.cell? (ad.add j) = some u) :
    Calls Try.prog 52 #[.slice (some ad) n cap, .int .i64 endure] w (MadeChip w (mOf xs k endure)) := by
  obtain ⟨i0, hi, hz0, hz1, hz2⟩ := info_parts infoI
  have hmk := fun W => run_make (P := Try.prog) W 32 3 i0 (.int .i64 0) Try.underlying32 hi hz0 .i64 .i64 (k : Int) (k : Int) (by omega) (by omega) (by rw [hz2]; omega) (by omega)
  rw [show ((k : Int).toNat) = k by omega, hz1, Nat.mul_one, show (Value.int .i64 0).cells = #[.int .i64 0] from rfl, made_zerosI] at hmk
  have q : (n : Int) / 64 = (k : Int) := by omega
  have r : (n : Int) % 64 = 0 := by omega
  have nb : n ≤ 4096 := by omega
  have n0 : 1 ≤ n := by omega
  have HX := Lib.hid hx
  clear hx hk
  have HL := Lib.hid hl
  clear hl
  go_enter Try.func52, Try.ntmps52
  go_wp2
  have cl : ∀ W : World, (∀ i, i < w.heap.size → W.heap[i]? = w.heap[i]?) → w.heap.size ≤ W.heap.size → Calls Try.prog 51 #[.slice (some ad) n cap] W (Fresh W 33 (Us xs)) := by
    intro W hW hs
    refine clone_any ad n cap (Us xs) W (by rw [Us_length, HL.out]) (Us_one _) n0 (by omega) hcap (by omega) ?_
    intro j u hu
    rw [World.cell?_of_block (w := w) (hW _ (by unfold Addr.add; split <;> exact had))]
    exact HX.out j u hu
  have CL := Lib.hid cl
  clear cl
  go_region_with ((go_at_call 51
                   refine Calls.mono (CL.out _ (by intro i hi; first | rfl | exact Below.heap_alloc _ _ _ hi) (by simp)) ?_
                   rintro e w1 ⟨g, c1, rest, rfl, hA, hAl, hAm, hge, hB⟩))
  · simp only [List.getElem_toArray, List.getElem_cons_succ, List.getElem_cons_zero]
    have hs := hB.size
    simp at hs hge
    have hb : Below w.heap.size w w1 := (Below.refl _ w).drew.trans (hB.mono (by simp))
    have fin := chip_boxed (w := w) endure (hA.alloc (.cells (Is (List.replicate k 0)).toArray 3)) (At.news w1 3 (Is (List.replicate k 0))) hAl hAm (hb.alloc hs _) hge hs (H := w1.heap.size + 1) (by simp)
    have FIN := Lib.hid fin
    clear fin
    go_simp
    go_wp2
    go_ret
    exact FIN.out
  · simp only [List.getElem_toArray, List.getElem_cons_succ, List.getElem_cons_zero]
    have hs := hB.size
    simp at hs hge
    have hb : Below w.heap.size w w1 := ((Below.refl _ w).drew.alloc (by simp) _).trans (hB.mono (by simp))
    have hbe : At w1 w.heap.size 3 (Is (List.replicate k 0)) := (At.news w.drew 3 (Is (List.replicate k 0))).kept (Turned.of_below hB (Nat.le_refl _) NoBlock) (fun h => h)
    have fin := chip_boxed (w := w) endure hA hbe hAl hAm hb (by omega) (Nat.le_refl _) (H := w1.heap.size) rfl
    have FIN := Lib.hid fin
    clear fin
    go_simp
    go_wp2
    go_ret
    exact FIN.out

set_option maxRecDepth 100000 in
theorem of_no (A : Option Addr) (cap n : Nat) (endure : Int) (w : World) (hn : n ≤ 1000000) (h : n % 64 ≠ 0 ∨ n < 64 ∨ 4096 < n ∨ endure < 0) :
    Calls Try.prog 52 #[.slice A n cap, .int .i64 endure] w fun e w' => e = .returned (.pointer none) ∧ w' = w := by
  by_cases h1 : n % 64 = 0
  · have r : (n : Int) % 64 = 0 := by omega
    obtain ⟨k, hk⟩ : ∃ k : Nat, (n : Int) / 64 = (k : Int) := ⟨n / 64, by omega⟩
    by_cases h2 : k < 1
    · clear h h1
      go_enter Try.func52, Try.ntmps52
      go_wp2
      go_ret
      exact ⟨rfl, rfl⟩
    · by_cases h3 : 64 < k
      · clear h h1
        go_enter Try.func52, Try.ntmps52
        go_wp2
        go_ret
        exact ⟨rfl, rfl⟩
      · have h4 : endure < 0 := by omega
        clear h h1
        go_enter Try.func52, Try.ntmps52
        go_wp2
        go_ret
        exact ⟨rfl, rfl⟩
  · have r : ((n : Int) % 64 != 0) = true := by rw [bne_iff_ne]; omega
    have r' : ((n : Int) % 64 == 0) = false := by rw [beq_eq_false_iff_ne]; omega
    clear h h1
    go_enter Try.func52, Try.ntmps52
    go_wp2
    go_ret
    exact ⟨rfl, rfl⟩

set_option maxRecDepth 100000 in
theorem new_no (b : Int) (endure : Int) (w : World) (h : b < 1 ∨ 64 < b) :
    Calls Try.prog 36 #[.int .i64 b, .int .i64 endure] w fun e w' => e = .returned (.pointer none) ∧ w' = w := by
  by_cases h1 : b < 1
  · clear h
    go_enter Try.func36, Try.ntmps36
    go_wp2
    go_ret
    exact ⟨rfl, rfl⟩
  · have h2 : 64 < b := by omega
    clear h
    go_enter Try.func36, Try.ntmps36
    go_wp2
    go_ret
    exact ⟨rfl, rfl⟩

theorem repeat_ones (k : Nat) (w W : World) (k1 : 1 ≤ k) (k2 : k ≤ 64) (hs : W.heap.size = w.heap.size + 1) (hc : W.cell? ⟨w.heap.size, 0, none⟩ = some (.int .u32 4294967295)) :
    Calls Try.prog 53 #[.slice (some ⟨w.heap.size, 0, none⟩) 1 1, .int .i64 ((k : Int) * 64)] W fun e w' => ∃ g cap rest, e = .returned (.slice (some ⟨g, 0, none⟩) (k * 64) cap) ∧ At w' g 33 (Us (List.replicate (k * 64) ones) ++ rest) ∧ k * 64 ≤ cap ∧ W.heap.size ≤ g ∧ Below W.heap.size W w' := by
  have := repeat_any ⟨w.heap.size, 0, none⟩ 1 (k * 64) ones W (by omega) (by omega) (by rw [hs]; exact Nat.lt_succ_self _) hc
  rw [show ((k : Int) * 64) = ((k * 64 : Nat) : Int) by omega, show Us (List.replicate (k * 64) ones) = List.replicate (k * 64) (.int .u32 (U ones)) by simp [Us]]
  refine this.mono ?_
  rintro e w' ⟨g, cap, rest, rfl, h1, h2, h3, h4, h5⟩
  rw [List.length_append, List.length_replicate] at h2
  exact ⟨g, cap, rest, by rw [List.length_replicate], h1, by omega, h4, h5⟩

set_option maxRecDepth 100000 in
theorem new_yes (k : Nat) (endure : Int) (w : World) (k1 : 1 ≤ k) (k2 : k ≤ 64) (e0 : 0 ≤ endure) (e1 : endure ≤ 9223372036854775807) :
    Calls Try.prog 36 #[.int .i64 k, .int .i64 endure] w (MadeChip w (mNew k endure)) := by
  go_enter Try.func36, Try.ntmps36
  go_wp2_with fail
  refine (repeat_ones k w _ k1 k2 (by simp) (by rw [(At.news w 33 [.int .u32 4294967295]).cell]; rfl)).mono ?_
  rintro e w1 ⟨g, cap, rest, rfl, hA, hcap, hge, hB⟩
  simp at hge
  have hb : Below w.heap.size w w1 := ((Below.refl _ w).alloc (Nat.le_refl _) _).trans (hB.mono (by simp))
  go_wp2_with fail
  refine (of_yes ⟨g, 0, none⟩ cap (k * 64) k (List.replicate (k * 64) ones) endure w1 (by simp) rfl k1 k2 e0 e1 hcap hA.lt ?_).mono ?_
  · intro j u hu
    rw [add_zero_block, hA.cell, List.getElem?_append_left (List.getElem?_eq_some_iff.1 hu).1]
    exact hu
  rintro e w2 ⟨h, rfl, hc, ho, hB2⟩
  have hs := hb.size
  have fin : MadeChip w (mNew k endure) (.returned (.pointer (some ⟨h.p, 0, none⟩))) w2 := ⟨h, rfl, hc, fun i hi => Nat.le_trans hs (ho i hi), hb.trans (hB2.mono hs)⟩
  have FIN := Lib.hid fin
  clear fin
  go_wp2
  go_ret
  exact FIN.out

theorem new_neg (k : Nat) (endure : Int) (w : World) (k1 : 1 ≤ k) (k2 : k ≤ 64) (e0 : endure < 0) :
    Calls Try.prog 36 #[.int .i64 k, .int .i64 endure] w fun e w' => e = .returned (.pointer none) ∧ Below w.heap.size w w' := by
  go_enter Try.func36, Try.ntmps36
  go_wp2_with fail
  refine (repeat_ones k w _ k1 k2 (by simp) (by rw [(At.news w 33 [.int .u32 4294967295]).cell]; rfl)).mono ?_
  rintro e w1 ⟨g, cap, rest, rfl, hA, hcap, hge, hB⟩
  have hb : Below w.heap.size w w1 := ((Below.refl _ w).alloc (Nat.le_refl _) _).trans (hB.mono (by simp))
  go_wp2_with fail
  refine (of_no _ cap (k * 64) endure w1 (by omega) (by omega)).mono ?_
  rintro e w2 ⟨rfl, rfl⟩
  go_wp2
  go_ret
  exact ⟨rfl, hb⟩
end Go.Proofs.Ytfckgfimmoinmaa

namespace Go.Proofs.Ytfckgfimmoinmaa
open Go.RowKit Bm

theorem turned_drewN {S : Nat → Prop} (w : World) (n : Nat) : Turned S w (w.drewN n) := (Turned.refl S w).drewN n

theorem program_any (h : Hd) (c : ChipM) (k : Nat) (a : Int) (v : BitVec 32) (w : World) (hc : ChipAt w h c) (ok : ChipOk k c) :
    Calls Try.prog 91 #[.pointer (some ⟨h.p, 0, none⟩), .int .i64 a, .int .u32 (U v)] w fun e w' => e = .returned (.int .i64 (mProgram c a v).2) ∧ ChipAt w' h (mProgram c a v).1 ∧ Turned h.own w w' := by
  by_cases hr : mRefuse c a c.ws.length = 0
  · obtain ⟨_, h1, h2⟩ := refuse_zero hr
    obtain ⟨i, rfl⟩ := Int.eq_ofNat_of_zero_le h1
    refine (program_yes h c k i v w hc ok (by omega) hr).mono fun e w' ⟨he, hc', ht⟩ => ?_
    unfold mProgram
    rw [if_pos hr]
    exact ⟨he, hc', ht⟩
  · refine (program_no h c k a v w hc ok hr).mono fun e w' ⟨he, hw⟩ => ?_
    subst hw
    unfold mProgram
    rw [if_neg hr]
    exact ⟨he, hc, Turned.refl _ _⟩

theorem erase_any (h : Hd) (c : ChipM) (k : Nat) (b : Int) (w : World) (hc : ChipAt w h c) (ok : ChipOk k c) :
    Calls Try.prog 93 #[.pointer (some ⟨h.p, 0, none⟩), .int .i64 b] w fun e w' => e = .returned (.int .i64 (mErase c b).2) ∧ ChipAt w' h (mErase c b).1 ∧ Turned h.own w w' := by
  by_cases hr : mRefuse c b c.wear.length = 0
  · obtain ⟨_, h1, h2⟩ := refuse_zero hr
    obtain ⟨i, rfl⟩ := Int.eq_ofNat_of_zero_le h1
    unfold mErase
    rw [if_pos hr]
    by_cases hw : c.endure ≤ nm c.wear i
    · refine (erase_worn h c k i w hc ok (by omega) hr hw).mono fun e w' ⟨he, n, hw'⟩ => ?_
      subst hw'
      rw [if_pos (show c.endure ≤ nm c.wear (i : Int).toNat from hw)]
      exact ⟨he, hc.drewN n, turned_drewN w n⟩
    · refine (erase_yes h c k i w hc ok (by omega) hr (by omega)).mono fun e w' ⟨he, hc', ht⟩ => ?_
      rw [if_neg (show ¬ c.endure ≤ nm c.wear (i : Int).toNat from hw)]
      exact ⟨he, hc', ht⟩
  · refine (erase_no h c k b w hc ok hr).mono fun e w' ⟨he, hw⟩ => ?_
    subst hw
    unfold mErase
    rw [if_neg hr]
    exact ⟨he, hc, Turned.refl _ _⟩

theorem read_any (h : Hd) (c : ChipM) (k : Nat) (a : Int) (w : World) (hc : ChipAt w h c) (ok : ChipOk k c) :
    Calls Try.prog 73 #[.pointer (some ⟨h.p, 0, none⟩), .int .i64 a] w fun e w' => e = .returned (.tuple #[.int .u32 (U (mRead c a).1), .int .i64 (mRead c a).2]) ∧ w' = w := by
  by_cases hr : mRefuse c a c.ws.length = 0
  · obtain ⟨_, h1, h2⟩ := refuse_zero hr
    obtain ⟨i, rfl⟩ := Int.eq_ofNat_of_zero_le h1
    refine (read_yes h c k i w hc ok (by omega) hr).mono fun e w' ⟨he, hw⟩ => ?_
    unfold mRead
    rw [if_pos hr]
    exact ⟨he, hw⟩
  · refine (read_no h c k a w hc ok hr).mono fun e w' ⟨he, hw⟩ => ?_
    unfold mRead
    rw [if_neg hr]
    exact ⟨he, hw⟩

end Go.Proofs.Ytfckgfimmoinmaa
