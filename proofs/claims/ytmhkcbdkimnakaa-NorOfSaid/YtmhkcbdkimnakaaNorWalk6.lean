/- The walk of layer nor's statement NorOf: a chip has the words that it was made of, which may be written over; of no whole blocks there is none. -/
import Derived.Test.YtmhkcbdkimnakaaNor5
import Derived.Test.YtmhkcbdkimnakaaNorSame
import Derived.Test.YtmhkcbdkimnakaaLaw
import Derived.OpenShut
namespace Go.Proofs.Ytmhkcbdkimnakaa
open Go.RowKit Bm

set_option maxHeartbeats 1000000 in
theorem norOf_no (A : Option Addr) (n cap : Nat) (endure : Int) (w : World) (hle : n ≤ cap) (_hmx : cap ≤ maxLen) (h : n % 64 ≠ 0 ∨ n < 64 ∨ 4096 < n ∨ endure < 0) :
    Calls Try.prog 7 #[.slice A n cap, .int .i64 endure] w fun e w' => e = .returned (.bool true) ∧ Below w.heap.size w w' := by
  unfold maxLen at _hmx
  by_cases hn : 4480 < n
  · clear h
    go_enter Try.func7, Try.ntmps7
    go_wp2_with fail
    refine (alive_any w).mono ?_
    rintro e wa ⟨rfl, hBa⟩
    go_wp2
    go_ret
    exact ⟨rfl, hBa⟩
  · have OF := Lib.hid fun W => of_no A cap n endure W (by omega) h
    by_cases h1 : n % 64 = 0
    · have q : ((n : Int) % 64 == 0) = true := by rw [beq_iff_eq]; omega
      by_cases h2 : n = 0
      · subst h2
        clear h h1 q
        go_enter Try.func7, Try.ntmps7
        go_wp2_with fail
        refine (alive_any w).mono ?_
        rintro e wa ⟨rfl, hBa⟩
        go_wp2_with fail
        refine (OF.out wa).mono ?_
        rintro e w1 ⟨rfl, rfl⟩
        go_wp2
        go_ret
        exact ⟨rfl, hBa⟩
      · have i0 : (0 : Int) < (n : Int) := by omega
        by_cases h3 : 4096 < n
        · clear h h1
          go_enter Try.func7, Try.ntmps7
          go_wp2_with fail
          refine (alive_any w).mono ?_
          rintro e wa ⟨rfl, hBa⟩
          go_wp2_with fail
          refine (OF.out wa).mono ?_
          rintro e w1 ⟨rfl, rfl⟩
          go_wp2
          go_ret
          exact ⟨rfl, hBa⟩
        · have h4 : endure < 0 := by omega
          have h5 : decide (0 ≤ endure) = false := by rw [decide_eq_false_iff_not]; omega
          clear h h1
          go_enter Try.func7, Try.ntmps7
          go_wp2_with fail
          refine (alive_any w).mono ?_
          rintro e wa ⟨rfl, hBa⟩
          go_wp2_with fail
          refine (OF.out wa).mono ?_
          rintro e w1 ⟨rfl, rfl⟩
          go_wp2
          go_ret
          exact ⟨rfl, hBa⟩
    · have q : ((n : Int) % 64 == 0) = false := by rw [beq_eq_false_iff_ne]; omega
      clear h h1
      go_enter Try.func7, Try.ntmps7
      go_wp2_with fail
      refine (alive_any w).mono ?_
      rintro e wa ⟨rfl, hBa⟩
      go_wp2_with fail
      refine (OF.out wa).mono ?_
      rintro e w1 ⟨rfl, rfl⟩
      go_wp2
      go_ret
      exact ⟨rfl, hBa⟩

set_option maxHeartbeats 1000000 in
theorem norOf_yes (A : Option Addr) (n cap k : Nat) (xs : List (BitVec 32)) (endure : Int) (w : World) (hr : ReadsU w A n cap xs) (hk : n = k * 64) (k1 : 1 ≤ k) (k2 : k ≤ 64) (e0 : 0 ≤ endure) (e1 : endure ≤ 9223372036854775807) :
    Calls Try.prog 7 #[.slice A n cap, .int .i64 endure] w fun e w' => e = .returned (.bool true) ∧ Below w.heap.size w w' := by
  have hle := hr.le
  have hmx := hr.max
  unfold maxLen at hmx
  have q : ((n : Int) % 64 == 0) = true := by rw [beq_iff_eq]; omega
  have q2 : (n : Int) / 64 = (k : Int) := by omega
  have i0 : (0 : Int) < (n : Int) := by omega
  have i1 : (n : Int) ≤ 4096 := by omega
  have HK := Lib.hid hk
  clear hk
  go_enter Try.func7, Try.ntmps7
  go_wp2_with fail
  refine (alive_any w).mono ?_
  rintro e wa ⟨rfl, hBa⟩
  have hra := hr.kept hBa
  obtain ⟨ad, hA, had, hx⟩ := hra.cell (by omega)
  subst hA
  have OF := of_yes ad cap n k xs endure wa hr.len HK.out k1 k2 e0 e1 hle had hx
  have hsa := hBa.size
  clear hx had
  go_wp2_with fail
  refine OF.mono ?_
  rintro e w1 ⟨h, rfl, hc, ho, hB1⟩
  have hws : (mOf xs k endure).ws.length = n := hr.len
  have hwl : (mOf xs k endure).wear.length = k := List.length_replicate
  have hb1 : Below w.heap.size w w1 := hBa.trans (hB1.mono hsa)
  clear OF hB1 hra
  go_wp2_with fail
  refine (words_any h _ _ hc (by omega) (by omega)).mono ?_
  rintro e w2 ⟨g, c2, rest, rfl, hA2, hl2, hm2, hg2, hB2⟩
  rw [Us_length, hws]
  have R2 : ReadsU w2 (some ⟨g, 0, none⟩) n c2 xs := by
    have := ReadsU.of_at (xs := xs) hA2 hl2 hm2
    rwa [hr.len] at this
  have hb2 : Below w.heap.size w w2 := hb1.trans (hB2.mono hb1.size)
  have hc2 : ChipAt w2 h (mOf xs k endure) := hc.kept (Turned.of_below hB2 (Nat.le_refl _) NoBlock) (fun _ _ h => h)
  have hog : ∀ i, h.own i → i < g := by
    intro i hi
    have : i < w1.heap.size := by
      rcases hi with rfl | rfl | rfl
      · exact hc.own.lt
      · exact hc.words.lt
      · exact hc.wear.lt
    omega
  clear hB2 hb1 hc
  go_wp2_with fail
  refine (same_words _ _ n c2 cap xs w2 R2 (hr.kept hb2) (by omega)).mono ?_
  rintro e w3 ⟨rfl, m, rfl⟩
  have g0 : (w2.drewN m).cell? ⟨g, 0, none⟩ = some (.int .u32 (U (wd xs 0))) := by
    have : (w2.drewN m).cell? ⟨g, 0, none⟩ = w2.cell? ⟨g, 0, none⟩ := rfl
    rw [this, hA2.cell, List.getElem?_append_left (by rw [Us_length]; omega)]
    exact Us_get xs 0 (by rw [hr.len]; omega)
  have f0 : (w2.drewN m).frozen? ⟨g, 0, none⟩ = false := hA2.frozen 0
  have hgw : w.heap.size ≤ g := by have := hb2.size; have := ho _ (.inl rfl); have := hog _ (.inl rfl); omega
  have hc2l : n ≤ c2 := R2.le
  have hm2' : c2 ≤ 9223372036854775807 := by unfold maxLen at hm2; omega
  clear R2
  have hc3 : ∀ V, ChipAt ((w2.drewN m).setCell ⟨g, 0, none⟩ V) h (mOf xs k endure) := fun V =>
    (hc2.drewN m).kept ((Turned.refl (Just g) _).setCell (p := ⟨g, 0, none⟩) (fun _ => rfl) V) (fun i hi e => by
      have a := hog i hi
      have b : i = g := e
      omega)
  have hb3 : ∀ V, Below w.heap.size w ((w2.drewN m).setCell ⟨g, 0, none⟩ V) := fun V =>
    ((hb2.trans ((Turned.refl NoBlock w2).drewN m |>.below (B := w.heap.size) (fun _ h => h.elim) hb2.size))).setCell (p := ⟨g, 0, none⟩) hgw V
  have HC3 := Lib.hid hc3
  have HB3 := Lib.hid hb3
  clear hc3 hb3
  go_wp2_with fail
  refine (words_any h _ _ (HC3.out _) (by omega) (by omega)).mono ?_
  rintro e w4 ⟨g4, c4, rest4, rfl, hA4, hl4, hm4, hg4, hB4⟩
  rw [Us_length, hws]
  have R4 : ReadsU w4 (some ⟨g4, 0, none⟩) n c4 xs := by
    have := ReadsU.of_at (xs := xs) hA4 hl4 hm4
    rwa [hr.len] at this
  have hb4 : Below w.heap.size w w4 := (HB3.out _).trans (hB4.mono (HB3.out _).size)
  have hc4 : ChipAt w4 h (mOf xs k endure) := (HC3.out _).kept (Turned.of_below hB4 (Nat.le_refl _) NoBlock) (fun _ _ h => h)
  clear hB4 HC3 HB3 g0 f0 hA2
  go_wp2_with fail
  refine (same_words _ _ n c4 cap xs w4 R4 (hr.kept hb4) (by omega)).mono ?_
  rintro e w5 ⟨rfl, m2, rfl⟩
  go_wp2_with fail
  refine (blocks_any h _ _ (hc4.drewN m2)).mono ?_
  rintro e w6 ⟨rfl, rfl⟩
  rw [hwl]
  have hb6 : Below w.heap.size w (w4.drewN m2) := hb4.trans ((Turned.refl NoBlock w4).drewN m2 |>.below (B := w.heap.size) (fun _ h => h.elim) hb4.size)
  go_wp2
  go_ret
  exact ⟨rfl, hb6⟩

theorem norOf_walk (A : Option Addr) (n cap : Nat) (xs : List (BitVec 32)) (a1 : Int) (b1 : (Lit.int .i64 a1).wf = true) (w : World) (hr : ReadsU w A n cap xs) :
    Calls Try.prog 7 #[.slice A n cap, .int .i64 a1] w fun e w' => e = .returned (.bool true) ∧ Below w.heap.size w w' := by
  have b := bounds_i64 b1
  by_cases h : n % 64 ≠ 0 ∨ n < 64 ∨ 4096 < n ∨ a1 < 0
  · exact norOf_no A n cap a1 w hr.le hr.max h
  · exact norOf_yes A n cap (n / 64) xs a1 w hr (by omega) (by omega) (by omega) (by omega) b.2
end Go.Proofs.Ytmhkcbdkimnakaa
