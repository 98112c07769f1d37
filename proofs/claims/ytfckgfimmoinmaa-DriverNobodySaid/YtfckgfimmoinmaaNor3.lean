/- Contracts of nor's Wear, Fuse, Cut, On, Words, and of slices.Clone. -/
import Derived.Test.YtfckgfimmoinmaaNor
import Derived.Test.YtfckgfimmoinmaaRep
import Derived.Lib.SliceRun
namespace Go.Proofs.Ytfckgfimmoinmaa
open Go.RowKit Bm

theorem ret_i {a b : Int} (h : a = b) : Ending.returned (.int .i64 a) = Ending.returned (.int .i64 b) := by rw [h]

theorem wear_any (h : Hd) (c : ChipM) (b : Int) (w : World) (hc : ChipAt w h c) (_hl : c.wear.length ≤ 64) :
    Calls Try.prog 34 #[.pointer (some ⟨h.p, 0, none⟩), .int .i64 b] w fun e w' => e = .returned (.int .i64 (mWear c b)) ∧ w' = w := by
  by_cases h0 : b < 0
  · go_enter Try.func34, Try.ntmps34
    go_wp2_with (go_at_call 49; with_reducible refine (blocks_any _ _ _ hc).mono ?_; rintro e w' ⟨rfl, rfl⟩)
    go_ret
    exact ⟨ret_i (by rw [mWear, if_pos h0]), rfl⟩
  · obtain ⟨n, rfl⟩ := Int.eq_ofNat_of_zero_le (show 0 ≤ b by omega)
    by_cases h1 : n < c.wear.length
    · have g1 := hc.own.cell 1
      simp only [chipCells, List.getElem?_cons_zero, List.getElem?_cons_succ] at g1
      have gb := hc.worn n h1
      go_enter Try.func34, Try.ntmps34
      go_wp2_with (go_at_call 49; with_reducible refine (blocks_any _ _ _ hc).mono ?_; rintro e w' ⟨rfl, rfl⟩)
      go_ret
      exact ⟨ret_i (by rw [mWear, if_neg (by omega)]; rfl), rfl⟩
    · have h2 : c.wear.length ≤ n := by omega
      go_enter Try.func34, Try.ntmps34
      go_wp2_with (go_at_call 49; with_reducible refine (blocks_any _ _ _ hc).mono ?_; rintro e w' ⟨rfl, rfl⟩)
      go_ret
      exact ⟨ret_i (by rw [mWear, if_neg (by omega), nm_far _ _ (by simpa using h2)]), rfl⟩


theorem on_any (h : Hd) (c : ChipM) (w : World) (hc : ChipAt w h c) (h1 : 1 ≤ c.wear.length) :
    Calls Try.prog 24 #[.pointer (some ⟨h.p, 0, none⟩)] w fun e w' => e = .returned (.tuple #[]) ∧ ChipAt w' h (mOn c) ∧ Turned h.own w w' := by
  have g3 := hc.own.cell 3
  have f3 := hc.own.frozen 3
  have g4 := hc.own.cell 4
  have f4 := hc.own.frozen 4
  simp only [chipCells, List.getElem?_cons_succ, List.getElem?_cons_zero] at g3 g4
  have z : ((c.wear.length : Int) == 0) = false := by rw [beq_eq_false_iff_ne]; omega
  go_enter Try.func24, Try.ntmps24
  go_wp2_with (go_at_call 49; with_reducible refine (blocks_any _ _ _ hc).mono ?_; rintro e w' ⟨rfl, rfl⟩)
  go_end0
  exact ⟨rfl, (hc.putUp true).putLeft 0, ((Turned.refl h.own w').setCell (p := ⟨h.p, 3, none⟩) (fun _ => .inl rfl) _).setCell (p := ⟨h.p, 4, none⟩) (fun _ => .inl rfl) _⟩

theorem fuse_any (h : Hd) (c : ChipM) (n : Int) (x : BitVec 32) (w : World) (hc : ChipAt w h c) (h1 : 1 ≤ c.wear.length) :
    Calls Try.prog 22 #[.pointer (some ⟨h.p, 0, none⟩), .int .i64 n, .int .u32 (U x)] w fun e w' => e = .returned (.tuple #[]) ∧ ChipAt w' h (mFuse c n x) ∧ Turned h.own w w' := by
  have g4 := hc.own.cell 4
  have f4 := hc.own.frozen 4
  have g5 := hc.own.cell 5
  have f5 := hc.own.frozen 5
  simp only [chipCells, List.getElem?_cons_succ, List.getElem?_cons_zero] at g4 g5
  have z : ((c.wear.length : Int) == 0) = false := by rw [beq_eq_false_iff_ne]; omega
  have fin : ChipAt ((w.setCell ⟨h.p, 4, none⟩ (.int .i64 (max n 0))).setCell ⟨h.p, 5, none⟩ (.int .u32 (U x))) h (mFuse c n x) := (hc.putLeft _).putPick _
  have fin2 : Turned h.own w ((w.setCell ⟨h.p, 4, none⟩ (.int .i64 (max n 0))).setCell ⟨h.p, 5, none⟩ (.int .u32 (U x))) := ((Turned.refl h.own w).setCell (p := ⟨h.p, 4, none⟩) (fun _ => .inl rfl) _).setCell (p := ⟨h.p, 5, none⟩) (fun _ => .inl rfl) _
  by_cases hn : n < 0
  · rw [show max n 0 = 0 by omega] at fin fin2
    have F := Lib.hid fin
    have F2 := Lib.hid fin2
    clear fin fin2
    go_enter Try.func22, Try.ntmps22
    go_wp2_with (go_at_call 49; with_reducible refine (blocks_any _ _ _ hc).mono ?_; rintro e w' ⟨rfl, rfl⟩)
    go_end0
    exact ⟨rfl, F.out, F2.out⟩
  · rw [show max n 0 = n by omega] at fin fin2
    have F := Lib.hid fin
    have F2 := Lib.hid fin2
    clear fin fin2
    go_enter Try.func22, Try.ntmps22
    go_wp2_with (go_at_call 49; with_reducible refine (blocks_any _ _ _ hc).mono ?_; rintro e w' ⟨rfl, rfl⟩)
    go_end0
    exact ⟨rfl, F.out, F2.out⟩

theorem infoI : (Try.prog.info? 3).map (fun i => (i.zero, i.size, i.bytes)) = some (some (.int .i64 0), 1, 8) := by kernel_rfl

theorem clone_any (ad : Addr) (n cap : Nat) (xs : List Value) (w : World) (hl : xs.length = n) (h1 : ∀ u ∈ xs, u.oneCell' = true) (hn : 0 < n) (hm : n ≤ 1000000) (_hcap : n ≤ cap) (hlt : ad.block < w.heap.size)
    (hx : ∀ j u, xs[j]? = some u → w.cell? (ad.add j) = some u) :
    Calls Try.prog 51 #[.slice (some ad) n cap] w (Fresh w 33 xs) := by
  obtain ⟨i0, hi, hz0, hz1, hz2⟩ := info_parts infoU
  have HX := Lib.hid hx
  clear hx
  have H1 := Lib.hid h1
  clear h1
  have HL := Lib.hid hl
  clear hl
  have qe : ∀ W : World, (binOp .eql 31 (.slice (some ad) n cap) (.slice none 0 0)).run Try.prog W = .ok (.bool false) W := fun W => Lib.run_eql_slice_nil W _ _ _ _ _ _ _ Try.underlying31
  go_enter Try.func51, Try.ntmps51
  go_wp2_with (at_builtin; refine wpList_append_lies _ rfl (.tmp 5) (.tmp 6) _ rfl w.heap.size 33 i0 _ 1 4 Try.underlying31 hi hz0 hz1 hz2 rfl (by omega) (.slice (some ⟨w.heap.size, 0, none⟩) 0 0) 0 [] rfl ?own ad n cap xs rfl ?len ?news H1.out hn (by unfold maxLen; omega) (by omega) (by simp) (w.heap.size + 1) (by simp) ?k)
  case own => exact World.ownsRow_made w #[] 0 (Nat.le_refl _) (by unfold maxLen; omega) rfl
  case len => rw [HL.out]; omega
  case news =>
    intro j u hu
    rw [World.cell?_alloc_lt w _ _ (by unfold Addr.add; split <;> exact hlt)]
    exact HX.out j u hu
  case k =>
    intro g cap' w1 hown hgr hat hgl
    obtain ⟨rest, hA, hAl, hAm, _, hAn⟩ := At.of_own hown (by omega)
    have hbw : Below w.heap.size w w1 := ((Below.refl _ _).alloc (Nat.le_refl _) _).grown hgr (by simp) (by intro k hk; simp [Value.ownBlock] at hk; omega)
    have hge : w.heap.size ≤ g := by
      rcases hat with h | h
      · simp [Value.ownBlock] at h; omega
      · omega
    go_wp2
    go_ret
    exact ⟨g, cap', rest, by rw [HL.out]; rfl, by simpa using hA, by simpa using hAl, hAm, hge, hbw⟩


theorem words_any (h : Hd) (c : ChipM) (w : World) (hc : ChipAt w h c) (h1 : 0 < c.ws.length) (h2 : c.ws.length ≤ 1000000) :
    Calls Try.prog 31 #[.pointer (some ⟨h.p, 0, none⟩)] w (Fresh w 33 (Us c.ws)) := by
  have g0 := hc.own.cell 0
  simp only [chipCells, List.getElem?_cons_zero] at g0
  have room := hc.room
  have cl := clone_any ⟨h.bw, 0, none⟩ c.ws.length h.cw (Us c.ws) w (Us_length _) (Us_one _) h1 h2 hc.room hc.words.lt (by
    intro j u hu
    have hj : j < c.ws.length := by
      have := (List.getElem?_eq_some_iff.1 hu).1
      rwa [Us_length] at this
    rw [add_zero_block, hc.word j hj]
    rw [Us_get _ _ hj] at hu
    exact hu)
  have CL := Lib.hid cl
  clear cl hc
  go_enter Try.func31, Try.ntmps31
  go_wp2_with (go_at_call 51; (with_reducible refine Calls.mono CL.out ?_); rintro e w' ⟨g, cap, rest, rfl, h1, h2, h3, h4, h5⟩)
  go_ret
  exact ⟨g, cap, rest, rfl, h1, h2, h3, h4, h5⟩
end Go.Proofs.Ytfckgfimmoinmaa
