/- The walk of layer nor's statement NorCells: but by an erasure no bit is set; nothing but the word, or the block, that is named changes. -/
import Derived.Test.YtmhkcbdkimnakaaNor5
import Derived.Test.YtmhkcbdkimnakaaNorLawMath
import Derived.Test.YtmhkcbdkimnakaaNorSame
import Derived.Test.YtmhkcbdkimnakaaLaw
import Derived.OpenShut
namespace Go.Proofs.Ytmhkcbdkimnakaa
open Go.RowKit Bm

theorem cells_new (w : World) : Calls Try.prog 12 #[.int .i64 4, .int .i64 1000] w (MadeChip w (mNew 4 1000)) := new_yes 4 1000 w (by omega) (by omega) (by omega) (by omega)
theorem cells_ok : ChipOk 4 (mNew 4 1000) := ChipOk.of _ 4 1000 (by omega) (by omega) List.length_replicate (by omega) (by omega)

theorem bne_cases (a b : Int) : (a != b) = false ∨ (a != b) = true := by cases (a != b) <;> simp

set_option maxRecDepth 100000 in
set_option maxHeartbeats 4000000 in
theorem norCells_walk (A : Option Addr) (n cap : Nat) (xs : List ActM) (w : World) (hr : ReadsA w A n cap xs) :
    Calls Try.prog 4 #[.slice A n cap] w fun e w' => e = .returned (.bool true) ∧ Below w.heap.size w w' := by
  have hle := hr.le
  have hmx := hr.max
  unfold maxLen at hmx
  by_cases hn : 60 < n
  · go_enter Try.func4, Try.ntmps4
    go_wp2_with fail
    refine (alive_any w).mono ?_
    rintro e wa ⟨rfl, hBa⟩
    go_wp2
    go_ret
    exact ⟨rfl, hBa⟩
  · go_enter Try.func4, Try.ntmps4
    go_wp2_with fail
    refine (alive_any w).mono ?_
    rintro e wa ⟨rfl, hBa⟩
    go_wp2_with fail
    refine (cells_new wa).mono ?_
    rintro e wn ⟨h, rfl, hc, ho, hB⟩
    have hB1 : Below w.heap.size w wn := hBa.trans (hB.mono hBa.size)
    have ho1 : ∀ i, h.own i → w.heap.size ≤ i := fun i hi => Nat.le_trans hBa.size (ho i hi)
    clear hBa hB ho
    go_wp2
    go_loopw [20] (fun i wr => ∃ j : Nat, ∃ c, j ≤ n ∧ i = .int .i64 j ∧ ChipAt wr h c ∧ ChipOk 4 c ∧ Below w.heap.size w wr) (fun i _ => n - (intOf i).toNat)
    case atStart => exact ⟨0, _, by omega, rfl, hc, cells_ok, hB1⟩
    case round =>
      clear hc hB1
      obtain ⟨j, c, hj, rfl, hc, ok, hB⟩ := hrel
      by_cases hlt : j < n
      · obtain ⟨ad, x, rfl, hx⟩ := (hr.kept hB).at_ hlt
        have b0 := hx.b0
        have b1 := hx.b1
        have x0 := hx.d0
        have x1 := hx.d1
        have x2 := hx.d2
        clear hx
        obtain ⟨P, hP⟩ : ∃ P, P = wr.heap.size := ⟨_, rfl⟩
        have hA1 := At.news wr 33 [.int .u8 x.kind, .int .i64 x.at_, .int .u32 (U x.v)]
        have hs1 : (wr.alloc (.cells [.int .u8 x.kind, .int .i64 x.at_, .int .u32 (U x.v)].toArray 33)).heap.size = wr.heap.size + 1 := by simp
        have hB1 := hB.alloc hB.size (.cells [.int .u8 x.kind, .int .i64 x.at_, .int .u32 (U x.v)].toArray 33)
        have hc1 : ChipAt (wr.alloc (.cells [.int .u8 x.kind, .int .i64 x.at_, .int .u32 (U x.v)].toArray 33)) h c := hc.kept ((Turned.refl NoBlock wr).alloc _) (fun _ _ h => h)
        have hog : ∀ i, h.own i → i < wr.heap.size := by
          intro i hi
          rcases hi with rfl | rfl | rfl
          · exact hc.own.lt
          · exact hc.words.lt
          · exact hc.wear.lt
        rw [← hP] at hA1 hs1 hog
        have hws := ok.words
        have PQ := Lib.hid hP
        have H1 := Lib.hid hs1
        clear hP hs1 hc
        go_wp2_with fail
        rw [← PQ.out]
        refine (words_any h _ _ hc1 (by omega) (by omega)).mono ?_
        rintro e w2 ⟨g, c2, rest, rfl, hA2, hl2, hm2, hg2, hB2⟩
        have hgP : P < g := by have := H1.out; omega
        have hB2w : Below w.heap.size w w2 := hB1.trans (hB2.mono hB1.size)
        have hc2 : ChipAt w2 h c := hc1.kept (Turned.of_below hB2 (Nat.le_refl _) NoBlock) (fun _ _ h => h)
        have hAP : At w2 P _ _ := hA1.kept (Turned.of_below hB2 (Nat.le_refl _) NoBlock) (fun h => h)
        clear hA1 hB1 hc1 hB2
        rw [Us_length, hws]
        have y0 := hAP.cell 0
        have y1 := hAP.cell 1
        have y2 := hAP.cell 2
        simp only [List.getElem?_cons_succ, List.getElem?_cons_zero] at y0 y1 y2
        clear x0 x1 x2
        by_cases k3 : x.kind % 8 = 3
        · have K3 : (x.kind % 8 == 3) = true := by rw [beq_iff_eq]; exact k3
          clear k3
          go_wp2_with fail
          refine (erase_any h c 4 x.at_ w2 hc2 ok).mono ?_
          rintro e w3 ⟨rfl, hc3, ht3⟩
          have ok3 := ok.erase x.at_
          have step := fun t (ht : t < 256) => step_erase c x.at_ t (by omega)
          obtain ⟨d, hd⟩ : ∃ d, d = (mErase c x.at_).1 := ⟨_, rfl⟩
          rw [← hd] at hc3 ok3
          simp only [← hd] at step
          clear hd
          have hB3 : Below w.heap.size w w3 := hB2w.trans (ht3.below ho1 hB2w.size)
          have hAP3 := hAP.kept ht3 (fun hh => by have := hog _ hh; omega)
          have hAg3 := hA2.kept ht3 (fun hh => by have := hog _ hh; omega)
          have hws3 := ok3.words
          clear ht3 hc2
          go_wp2_with fail
          refine (words_any h _ _ hc3 (by omega) (by omega)).mono ?_
          rintro e w4 ⟨g4, c4, rest4, rfl, hA4, hl4, hm4, hg4, hB4⟩
          have hB4w : Below w.heap.size w w4 := hB3.trans (hB4.mono hB3.size)
          have hc4 : ChipAt w4 h d := hc3.kept (Turned.of_below hB4 (Nat.le_refl _) NoBlock) (fun _ _ h => h)
          have hAP4 := hAP3.kept (Turned.of_below hB4 (Nat.le_refl _) NoBlock) (fun h => h)
          have hAg4 := hAg3.kept (Turned.of_below hB4 (Nat.le_refl _) NoBlock) (fun h => h)
          rw [Us_length, hws3]
          have z0 := hAP4.cell 0
          have z1 := hAP4.cell 1
          simp only [List.getElem?_cons_succ, List.getElem?_cons_zero] at z0 z1
          have l2 : 256 ≤ c2 := by rw [← hl2, List.length_append, Us_length, hws]; omega
          have l4 : 256 ≤ c4 := by rw [← hl4, List.length_append, Us_length, hws3]; omega
          unfold maxLen at hm2 hm4
          clear y0 y1 y2 hB4 hAP3 hAg3 hAP hA2 hB3 hc3 hB2w
          go_wp2
          go_loop [57] (fun i => ∃ t : Nat, t ≤ 256 ∧ i = .int .i64 t) (fun i => 256 - (intOf i).toNat)
          case atStart => exact ⟨0, by omega, rfl⟩
          case round =>
            obtain ⟨t, ht, rfl⟩ := hrel
            by_cases hlt2 : t < 256
            · have q0 : w4.cell? ⟨g, t, none⟩ = some (.int .u32 (U (wd c.ws t))) := by
                rw [hAg4.cell, List.getElem?_append_left (by rw [Us_length, hws]; omega)]
                exact Us_get _ _ (by rw [hws]; omega)
              have q1 : w4.cell? ⟨g4, t, none⟩ = some (.int .u32 (U (wd d.ws t))) := by
                rw [hA4.cell, List.getElem?_append_left (by rw [Us_length, hws3]; omega)]
                exact Us_get _ _ (by rw [hws3]; omega)
              have i0 : (0 : Int) ≤ (t : Int) := by omega
              have i1 : (t : Int) < 256 := by omega
              have hst := step t hlt2
              generalize wd c.ws t = old at q0 hst
              generalize wd d.ws t = new at q1 hst
              have HS := Lib.hid hst
              have Q := Lib.hid (bne_cases (U old) (U new))
              have R := Lib.hid (bne_cases (t : Int) x.at_)
              have S := Lib.hid (bne_cases (U (new &&& ~~~old)) 0)
              clear hst hAg4 hA4 hAP4
              by_cases he : (t : Int) / 64 = x.at_
              · have E0 : ((t : Int) / 64 == x.at_) = true := by rw [beq_iff_eq]; exact he
                clear he
                rcases S.out with s | s
                · rcases Q.out with q | q
                  · go_wp2
                    go_round
                    case rel => exact ⟨t + 1, by omega, by go_num⟩
                    case measure => simp [intOf]; omega
                  · rcases R.out with r | r
                    · go_wp2
                      go_round
                      case rel => exact ⟨t + 1, by omega, by go_num⟩
                      case measure => simp [intOf]; omega
                    · go_wp2
                      go_round
                      case rel => exact ⟨t + 1, by omega, by go_num⟩
                      case measure => simp [intOf]; omega
                · rcases Q.out with q | q
                  · go_wp2
                    go_round
                    case rel => exact ⟨t + 1, by omega, by go_num⟩
                    case measure => simp [intOf]; omega
                  · rcases R.out with r | r
                    · go_wp2
                      go_round
                      case rel => exact ⟨t + 1, by omega, by go_num⟩
                      case measure => simp [intOf]; omega
                    · go_wp2
                      go_round
                      case rel => exact ⟨t + 1, by omega, by go_num⟩
                      case measure => simp [intOf]; omega
              · have E0 : ((t : Int) / 64 == x.at_) = false := by rw [beq_eq_false_iff_ne]; exact he
                have hp : new &&& ~~~old = 0#32 ∧ (old = new ∨ (t : Int) = x.at_) := by
                  rcases HS.out with hh | hh
                  · exact absurd hh (by simp [he])
                  · exact hh
                have S0 : (U (new &&& ~~~old) != 0) = false := by rw [hp.1]; rfl
                rcases Q.out with q | q
                · clear hp
                  go_wp2
                  go_round
                  case rel => exact ⟨t + 1, by omega, by go_num⟩
                  case measure => simp [intOf]; omega
                · have r : ((t : Int) != x.at_) = false := by
                    rcases hp.2 with hh | hh
                    · subst hh; simp at q
                    · rw [hh]; simp
                  clear hp
                  go_wp2
                  go_round
                  case rel => exact ⟨t + 1, by omega, by go_num⟩
                  case measure => simp [intOf]; omega
            · obtain rfl : t = 256 := by omega
              go_wp2
              go_roundw
              case rel => exact ⟨j + 1, d, by omega, by go_num, hc4, ok3, hB4w⟩
              case measure => simp [intOf]; omega
        · have K3 : (x.kind % 8 == 3) = false := by rw [beq_eq_false_iff_ne]; exact k3
          clear k3
          by_cases k5 : x.kind % 8 = 5
          · have K5 : (x.kind % 8 == 5) = true := by rw [beq_iff_eq]; exact k5
            clear k5
            go_wp2_with fail
            refine (fuse_any h c x.at_ x.v w2 hc2 (by rw [ok.wears]; omega)).mono ?_
            rintro e w3 ⟨rfl, hc3, ht3⟩
            have ok3 := ok.fuse x.at_ x.v b1.2
            have step := fun t (_ : t < 256) => show CellStep false (wd c.ws t) (wd (mFuse c x.at_ x.v).ws t) t x.at_ from step_same _ _ _ _
            obtain ⟨d, hd⟩ : ∃ d, d = mFuse c x.at_ x.v := ⟨_, rfl⟩
            rw [← hd] at hc3 ok3
            simp only [← hd] at step
            clear hd
            have hB3 : Below w.heap.size w w3 := hB2w.trans (ht3.below ho1 hB2w.size)
            have hAP3 := hAP.kept ht3 (fun hh => by have := hog _ hh; omega)
            have hAg3 := hA2.kept ht3 (fun hh => by have := hog _ hh; omega)
            have hws3 := ok3.words
            clear ht3 hc2
            go_wp2_with fail
            refine (words_any h _ _ hc3 (by omega) (by omega)).mono ?_
            rintro e w4 ⟨g4, c4, rest4, rfl, hA4, hl4, hm4, hg4, hB4⟩
            have hB4w : Below w.heap.size w w4 := hB3.trans (hB4.mono hB3.size)
            have hc4 : ChipAt w4 h d := hc3.kept (Turned.of_below hB4 (Nat.le_refl _) NoBlock) (fun _ _ h => h)
            have hAP4 := hAP3.kept (Turned.of_below hB4 (Nat.le_refl _) NoBlock) (fun h => h)
            have hAg4 := hAg3.kept (Turned.of_below hB4 (Nat.le_refl _) NoBlock) (fun h => h)
            rw [Us_length, hws3]
            have z0 := hAP4.cell 0
            have z1 := hAP4.cell 1
            simp only [List.getElem?_cons_succ, List.getElem?_cons_zero] at z0 z1
            have l2 : 256 ≤ c2 := by rw [← hl2, List.length_append, Us_length, hws]; omega
            have l4 : 256 ≤ c4 := by rw [← hl4, List.length_append, Us_length, hws3]; omega
            unfold maxLen at hm2 hm4
            clear y0 y1 y2 hB4 hAP3 hAg3 hAP hA2 hB3 hc3 hB2w
            go_wp2
            go_loop [57] (fun i => ∃ t : Nat, t ≤ 256 ∧ i = .int .i64 t) (fun i => 256 - (intOf i).toNat)
            case atStart => exact ⟨0, by omega, rfl⟩
            case round =>
              obtain ⟨t, ht, rfl⟩ := hrel
              by_cases hlt2 : t < 256
              · have q0 : w4.cell? ⟨g, t, none⟩ = some (.int .u32 (U (wd c.ws t))) := by
                  rw [hAg4.cell, List.getElem?_append_left (by rw [Us_length, hws]; omega)]
                  exact Us_get _ _ (by rw [hws]; omega)
                have q1 : w4.cell? ⟨g4, t, none⟩ = some (.int .u32 (U (wd d.ws t))) := by
                  rw [hA4.cell, List.getElem?_append_left (by rw [Us_length, hws3]; omega)]
                  exact Us_get _ _ (by rw [hws3]; omega)
                have i0 : (0 : Int) ≤ (t : Int) := by omega
                have i1 : (t : Int) < 256 := by omega
                have hst := step t hlt2
                generalize wd c.ws t = old at q0 hst
                generalize wd d.ws t = new at q1 hst
                have HS := Lib.hid hst
                have Q := Lib.hid (bne_cases (U old) (U new))
                have R := Lib.hid (bne_cases (t : Int) x.at_)
                have S := Lib.hid (bne_cases (U (new &&& ~~~old)) 0)
                clear hst hAg4 hA4 hAP4
                have hp : new &&& ~~~old = 0#32 ∧ (old = new ∨ (t : Int) = x.at_) := by
                  rcases HS.out with hh | hh
                  · exact absurd hh (by simp)
                  · exact hh
                have S0 : (U (new &&& ~~~old) != 0) = false := by rw [hp.1]; rfl
                rcases Q.out with q | q
                · clear hp
                  go_wp2
                  go_round
                  case rel => exact ⟨t + 1, by omega, by go_num⟩
                  case measure => simp [intOf]; omega
                · have r : ((t : Int) != x.at_) = false := by
                    rcases hp.2 with hh | hh
                    · subst hh; simp at q
                    · rw [hh]; simp
                  clear hp
                  go_wp2
                  go_round
                  case rel => exact ⟨t + 1, by omega, by go_num⟩
                  case measure => simp [intOf]; omega
              · obtain rfl : t = 256 := by omega
                go_wp2
                go_roundw
                case rel => exact ⟨j + 1, d, by omega, by go_num, hc4, ok3, hB4w⟩
                case measure => simp [intOf]; omega
          · have K5 : (x.kind % 8 == 5) = false := by rw [beq_eq_false_iff_ne]; exact k5
            clear k5
            by_cases k6 : x.kind % 8 = 6
            · have K6 : (x.kind % 8 == 6) = true := by rw [beq_iff_eq]; exact k6
              clear k6
              go_wp2_with fail
              refine (on_any h c w2 hc2 (by rw [ok.wears]; omega)).mono ?_
              rintro e w3 ⟨rfl, hc3, ht3⟩
              have ok3 := ok.on
              have step := fun t (_ : t < 256) => show CellStep false (wd c.ws t) (wd (mOn c).ws t) t x.at_ from step_same _ _ _ _
              obtain ⟨d, hd⟩ : ∃ d, d = mOn c := ⟨_, rfl⟩
              rw [← hd] at hc3 ok3
              simp only [← hd] at step
              clear hd
              have hB3 : Below w.heap.size w w3 := hB2w.trans (ht3.below ho1 hB2w.size)
              have hAP3 := hAP.kept ht3 (fun hh => by have := hog _ hh; omega)
              have hAg3 := hA2.kept ht3 (fun hh => by have := hog _ hh; omega)
              have hws3 := ok3.words
              clear ht3 hc2
              go_wp2_with fail
              refine (words_any h _ _ hc3 (by omega) (by omega)).mono ?_
              rintro e w4 ⟨g4, c4, rest4, rfl, hA4, hl4, hm4, hg4, hB4⟩
              have hB4w : Below w.heap.size w w4 := hB3.trans (hB4.mono hB3.size)
              have hc4 : ChipAt w4 h d := hc3.kept (Turned.of_below hB4 (Nat.le_refl _) NoBlock) (fun _ _ h => h)
              have hAP4 := hAP3.kept (Turned.of_below hB4 (Nat.le_refl _) NoBlock) (fun h => h)
              have hAg4 := hAg3.kept (Turned.of_below hB4 (Nat.le_refl _) NoBlock) (fun h => h)
              rw [Us_length, hws3]
              have z0 := hAP4.cell 0
              have z1 := hAP4.cell 1
              simp only [List.getElem?_cons_succ, List.getElem?_cons_zero] at z0 z1
              have l2 : 256 ≤ c2 := by rw [← hl2, List.length_append, Us_length, hws]; omega
              have l4 : 256 ≤ c4 := by rw [← hl4, List.length_append, Us_length, hws3]; omega
              unfold maxLen at hm2 hm4
              clear y0 y1 y2 hB4 hAP3 hAg3 hAP hA2 hB3 hc3 hB2w
              go_wp2
              go_loop [57] (fun i => ∃ t : Nat, t ≤ 256 ∧ i = .int .i64 t) (fun i => 256 - (intOf i).toNat)
              case atStart => exact ⟨0, by omega, rfl⟩
              case round =>
                obtain ⟨t, ht, rfl⟩ := hrel
                by_cases hlt2 : t < 256
                · have q0 : w4.cell? ⟨g, t, none⟩ = some (.int .u32 (U (wd c.ws t))) := by
                    rw [hAg4.cell, List.getElem?_append_left (by rw [Us_length, hws]; omega)]
                    exact Us_get _ _ (by rw [hws]; omega)
                  have q1 : w4.cell? ⟨g4, t, none⟩ = some (.int .u32 (U (wd d.ws t))) := by
                    rw [hA4.cell, List.getElem?_append_left (by rw [Us_length, hws3]; omega)]
                    exact Us_get _ _ (by rw [hws3]; omega)
                  have i0 : (0 : Int) ≤ (t : Int) := by omega
                  have i1 : (t : Int) < 256 := by omega
                  have hst := step t hlt2
                  generalize wd c.ws t = old at q0 hst
                  generalize wd d.ws t = new at q1 hst
                  have HS := Lib.hid hst
                  have Q := Lib.hid (bne_cases (U old) (U new))
                  have R := Lib.hid (bne_cases (t : Int) x.at_)
                  have S := Lib.hid (bne_cases (U (new &&& ~~~old)) 0)
                  clear hst hAg4 hA4 hAP4
                  have hp : new &&& ~~~old = 0#32 ∧ (old = new ∨ (t : Int) = x.at_) := by
                    rcases HS.out with hh | hh
                    · exact absurd hh (by simp)
                    · exact hh
                  have S0 : (U (new &&& ~~~old) != 0) = false := by rw [hp.1]; rfl
                  rcases Q.out with q | q
                  · clear hp
                    go_wp2
                    go_round
                    case rel => exact ⟨t + 1, by omega, by go_num⟩
                    case measure => simp [intOf]; omega
                  · have r : ((t : Int) != x.at_) = false := by
                      rcases hp.2 with hh | hh
                      · subst hh; simp at q
                      · rw [hh]; simp
                    clear hp
                    go_wp2
                    go_round
                    case rel => exact ⟨t + 1, by omega, by go_num⟩
                    case measure => simp [intOf]; omega
                · obtain rfl : t = 256 := by omega
                  go_wp2
                  go_roundw
                  case rel => exact ⟨j + 1, d, by omega, by go_num, hc4, ok3, hB4w⟩
                  case measure => simp [intOf]; omega
            · have K6 : (x.kind % 8 == 6) = false := by rw [beq_eq_false_iff_ne]; exact k6
              clear k6
              by_cases k7 : x.kind % 8 = 7
              · have K7 : (x.kind % 8 == 7) = true := by rw [beq_iff_eq]; exact k7
                clear k7
                go_wp2_with fail
                refine (on_any h c w2 hc2 (by rw [ok.wears]; omega)).mono ?_
                rintro e w3 ⟨rfl, hc3, ht3⟩
                have ok3 := ok.on
                have step := fun t (_ : t < 256) => show CellStep false (wd c.ws t) (wd (mOn c).ws t) t x.at_ from step_same _ _ _ _
                obtain ⟨d, hd⟩ : ∃ d, d = mOn c := ⟨_, rfl⟩
                rw [← hd] at hc3 ok3
                simp only [← hd] at step
                clear hd
                have hB3 : Below w.heap.size w w3 := hB2w.trans (ht3.below ho1 hB2w.size)
                have hAP3 := hAP.kept ht3 (fun hh => by have := hog _ hh; omega)
                have hAg3 := hA2.kept ht3 (fun hh => by have := hog _ hh; omega)
                have hws3 := ok3.words
                clear ht3 hc2
                go_wp2_with fail
                refine (words_any h _ _ hc3 (by omega) (by omega)).mono ?_
                rintro e w4 ⟨g4, c4, rest4, rfl, hA4, hl4, hm4, hg4, hB4⟩
                have hB4w : Below w.heap.size w w4 := hB3.trans (hB4.mono hB3.size)
                have hc4 : ChipAt w4 h d := hc3.kept (Turned.of_below hB4 (Nat.le_refl _) NoBlock) (fun _ _ h => h)
                have hAP4 := hAP3.kept (Turned.of_below hB4 (Nat.le_refl _) NoBlock) (fun h => h)
                have hAg4 := hAg3.kept (Turned.of_below hB4 (Nat.le_refl _) NoBlock) (fun h => h)
                rw [Us_length, hws3]
                have z0 := hAP4.cell 0
                have z1 := hAP4.cell 1
                simp only [List.getElem?_cons_succ, List.getElem?_cons_zero] at z0 z1
                have l2 : 256 ≤ c2 := by rw [← hl2, List.length_append, Us_length, hws]; omega
                have l4 : 256 ≤ c4 := by rw [← hl4, List.length_append, Us_length, hws3]; omega
                unfold maxLen at hm2 hm4
                clear y0 y1 y2 hB4 hAP3 hAg3 hAP hA2 hB3 hc3 hB2w
                go_wp2
                go_loop [57] (fun i => ∃ t : Nat, t ≤ 256 ∧ i = .int .i64 t) (fun i => 256 - (intOf i).toNat)
                case atStart => exact ⟨0, by omega, rfl⟩
                case round =>
                  obtain ⟨t, ht, rfl⟩ := hrel
                  by_cases hlt2 : t < 256
                  · have q0 : w4.cell? ⟨g, t, none⟩ = some (.int .u32 (U (wd c.ws t))) := by
                      rw [hAg4.cell, List.getElem?_append_left (by rw [Us_length, hws]; omega)]
                      exact Us_get _ _ (by rw [hws]; omega)
                    have q1 : w4.cell? ⟨g4, t, none⟩ = some (.int .u32 (U (wd d.ws t))) := by
                      rw [hA4.cell, List.getElem?_append_left (by rw [Us_length, hws3]; omega)]
                      exact Us_get _ _ (by rw [hws3]; omega)
                    have i0 : (0 : Int) ≤ (t : Int) := by omega
                    have i1 : (t : Int) < 256 := by omega
                    have hst := step t hlt2
                    generalize wd c.ws t = old at q0 hst
                    generalize wd d.ws t = new at q1 hst
                    have HS := Lib.hid hst
                    have Q := Lib.hid (bne_cases (U old) (U new))
                    have R := Lib.hid (bne_cases (t : Int) x.at_)
                    have S := Lib.hid (bne_cases (U (new &&& ~~~old)) 0)
                    clear hst hAg4 hA4 hAP4
                    have hp : new &&& ~~~old = 0#32 ∧ (old = new ∨ (t : Int) = x.at_) := by
                      rcases HS.out with hh | hh
                      · exact absurd hh (by simp)
                      · exact hh
                    have S0 : (U (new &&& ~~~old) != 0) = false := by rw [hp.1]; rfl
                    rcases Q.out with q | q
                    · clear hp
                      go_wp2
                      go_round
                      case rel => exact ⟨t + 1, by omega, by go_num⟩
                      case measure => simp [intOf]; omega
                    · have r : ((t : Int) != x.at_) = false := by
                        rcases hp.2 with hh | hh
                        · subst hh; simp at q
                        · rw [hh]; simp
                      clear hp
                      go_wp2
                      go_round
                      case rel => exact ⟨t + 1, by omega, by go_num⟩
                      case measure => simp [intOf]; omega
                  · obtain rfl : t = 256 := by omega
                    go_wp2
                    go_roundw
                    case rel => exact ⟨j + 1, d, by omega, by go_num, hc4, ok3, hB4w⟩
                    case measure => simp [intOf]; omega
              · have K7 : (x.kind % 8 == 7) = false := by rw [beq_eq_false_iff_ne]; exact k7
                clear k7
                go_wp2_with fail
                refine (program_any h c 4 x.at_ x.v w2 hc2 ok).mono ?_
                rintro e w3 ⟨rfl, hc3, ht3⟩
                have ok3 := ok.program x.at_ x.v
                have step := fun t (ht : t < 256) => step_program c x.at_ x.v t (by omega)
                obtain ⟨d, hd⟩ : ∃ d, d = (mProgram c x.at_ x.v).1 := ⟨_, rfl⟩
                rw [← hd] at hc3 ok3
                simp only [← hd] at step
                clear hd
                have hB3 : Below w.heap.size w w3 := hB2w.trans (ht3.below ho1 hB2w.size)
                have hAP3 := hAP.kept ht3 (fun hh => by have := hog _ hh; omega)
                have hAg3 := hA2.kept ht3 (fun hh => by have := hog _ hh; omega)
                have hws3 := ok3.words
                clear ht3 hc2
                go_wp2_with fail
                refine (words_any h _ _ hc3 (by omega) (by omega)).mono ?_
                rintro e w4 ⟨g4, c4, rest4, rfl, hA4, hl4, hm4, hg4, hB4⟩
                have hB4w : Below w.heap.size w w4 := hB3.trans (hB4.mono hB3.size)
                have hc4 : ChipAt w4 h d := hc3.kept (Turned.of_below hB4 (Nat.le_refl _) NoBlock) (fun _ _ h => h)
                have hAP4 := hAP3.kept (Turned.of_below hB4 (Nat.le_refl _) NoBlock) (fun h => h)
                have hAg4 := hAg3.kept (Turned.of_below hB4 (Nat.le_refl _) NoBlock) (fun h => h)
                rw [Us_length, hws3]
                have z0 := hAP4.cell 0
                have z1 := hAP4.cell 1
                simp only [List.getElem?_cons_succ, List.getElem?_cons_zero] at z0 z1
                have l2 : 256 ≤ c2 := by rw [← hl2, List.length_append, Us_length, hws]; omega
                have l4 : 256 ≤ c4 := by rw [← hl4, List.length_append, Us_length, hws3]; omega
                unfold maxLen at hm2 hm4
                clear y0 y1 y2 hB4 hAP3 hAg3 hAP hA2 hB3 hc3 hB2w
                go_wp2
                go_loop [57] (fun i => ∃ t : Nat, t ≤ 256 ∧ i = .int .i64 t) (fun i => 256 - (intOf i).toNat)
                case atStart => exact ⟨0, by omega, rfl⟩
                case round =>
                  obtain ⟨t, ht, rfl⟩ := hrel
                  by_cases hlt2 : t < 256
                  · have q0 : w4.cell? ⟨g, t, none⟩ = some (.int .u32 (U (wd c.ws t))) := by
                      rw [hAg4.cell, List.getElem?_append_left (by rw [Us_length, hws]; omega)]
                      exact Us_get _ _ (by rw [hws]; omega)
                    have q1 : w4.cell? ⟨g4, t, none⟩ = some (.int .u32 (U (wd d.ws t))) := by
                      rw [hA4.cell, List.getElem?_append_left (by rw [Us_length, hws3]; omega)]
                      exact Us_get _ _ (by rw [hws3]; omega)
                    have i0 : (0 : Int) ≤ (t : Int) := by omega
                    have i1 : (t : Int) < 256 := by omega
                    have hst := step t hlt2
                    generalize wd c.ws t = old at q0 hst
                    generalize wd d.ws t = new at q1 hst
                    have HS := Lib.hid hst
                    have Q := Lib.hid (bne_cases (U old) (U new))
                    have R := Lib.hid (bne_cases (t : Int) x.at_)
                    have S := Lib.hid (bne_cases (U (new &&& ~~~old)) 0)
                    clear hst hAg4 hA4 hAP4
                    have hp : new &&& ~~~old = 0#32 ∧ (old = new ∨ (t : Int) = x.at_) := by
                      rcases HS.out with hh | hh
                      · exact absurd hh (by simp)
                      · exact hh
                    have S0 : (U (new &&& ~~~old) != 0) = false := by rw [hp.1]; rfl
                    rcases Q.out with q | q
                    · clear hp
                      go_wp2
                      go_round
                      case rel => exact ⟨t + 1, by omega, by go_num⟩
                      case measure => simp [intOf]; omega
                    · have r : ((t : Int) != x.at_) = false := by
                        rcases hp.2 with hh | hh
                        · subst hh; simp at q
                        · rw [hh]; simp
                      clear hp
                      go_wp2
                      go_round
                      case rel => exact ⟨t + 1, by omega, by go_num⟩
                      case measure => simp [intOf]; omega
                  · obtain rfl : t = 256 := by omega
                    go_wp2
                    go_roundw
                    case rel => exact ⟨j + 1, d, by omega, by go_num, hc4, ok3, hB4w⟩
                    case measure => simp [intOf]; omega
      · obtain rfl : j = n := by omega
        go_wp2
        go_ret
        exact ⟨rfl, hB⟩
end Go.Proofs.Ytmhkcbdkimnakaa
