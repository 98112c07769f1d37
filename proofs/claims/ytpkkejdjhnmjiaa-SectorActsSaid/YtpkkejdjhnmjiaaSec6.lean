/- Layer sector: the disk in memory's Trim, the document's Same. -/
import Derived.Test.YtpkkejdjhnmjiaaSec1
import Derived.Test.YtpkkejdjhnmjiaaHold
namespace Go.Proofs.Ytpkkejdjhnmjiaa
set_option linter.unusedSimpArgs false
open Go.RowKit Bm

section
variable {base p c : Nat} {A : Option Addr} {m : MemM} {w w' : World}
set_option maxRecDepth 100000 in
set_option maxHeartbeats 2000000 in
theorem mtrim_any (h : MemAt base p A c m w) (l0 : -9223372036854775808 ≤ m.left) (l1 : m.left ≤ 9223372036854775807) (hb : base ≤ w.heap.size) (i : Int) :
    Calls Try.prog 47 #[.pointer (some ⟨p, 0, none⟩), .int .i64 i] w fun e w' => e = .returned (.int .i64 (mWrite m i v40).2) ∧ MemAt base p A c (mWrite m i v40).1 w' ∧ Turned (MemS p A) w w' := by
  have HW := Lib.hid (mwrite_any h l0 l1 hb i v40)
  have hz4 := v4_zero
  clear h
  go_enter Try.func47, Try.ntmps47
  go_wp2_with (first
    | (go_at_call 48; (with_reducible refine HW.out.mono ?_); rintro e w1 ⟨rfl, hm, ht⟩; have HM := Lib.hid hm; have HT := Lib.hid ht; clear hm ht))
  go_ret
  exact ⟨rfl, HM.out, HT.out⟩
end

set_option maxRecDepth 100000 in
set_option maxHeartbeats 2000000 in
theorem rsame10_any (A B : Option Addr) (n k c c' : Nat) (xs ys : List V4) (w : World) (hX : v4K.Reads w A n c xs) (hY : v4K.Reads w B k c' ys) (hn : n ≤ 1000) (hk : k ≤ 1000) :
    Calls Try.prog 12 #[.slice A n c, .slice B k c'] w fun e w' => e = .returned (.bool (decide (xs = ys))) ∧ Below w.heap.size w w' := by
  have HX := Lib.hid hX
  have HY := Lib.hid hY
  have hnx := hX.len
  have hky := hY.len
  clear hX hY
  by_cases hl : n = k
  · subst hl
    have HXL := Lib.hid hnx
    have HYL := Lib.hid hky
    clear hnx hky
    go_enter Try.func12, Try.ntmps12
    go_wp2
    go_loopw [5] (fun i wr => ∃ j : Nat, j ≤ n ∧ i = .int .i64 j ∧ Below w.heap.size w wr ∧ ∀ i, i < j → vN xs i = vN ys i) (fun i _ => n - (intOf i).toNat)
    case atStart => exact ⟨0, Nat.zero_le _, rfl, Below.refl _ _, fun i hi => absurd hi (by omega)⟩
    case round =>
      obtain ⟨j, hj, rfl, hB, hE⟩ := hrel
      have HB := Lib.hid hB
      have HE := Lib.hid hE
      by_cases hlt : j < n
      · obtain ⟨gx, ox, eA, hgx, hrx⟩ := (HX.out.kept hB).at_ hlt
        obtain ⟨gy, oy, eB, hgy, hry⟩ := (HY.out.kept hB).at_ hlt
        subst eA eB
        obtain ⟨x, hx⟩ : ∃ x, x = v4K.nth xs j := ⟨_, rfl⟩
        obtain ⟨y, hy⟩ : ∃ y, y = v4K.nth ys j := ⟨_, rfl⟩
        rw [← hx] at hrx
        rw [← hy] at hry
        have ex : ∀ W : World, Below wr.heap.size wr W → W.rangeAt gx (ox + j * 4) (v4C x) := fun W h => range_keep hrx (h.block gx hgx)
        have ey : ∀ W : World, Below wr.heap.size wr W → W.rangeAt gy (oy + j * 4) (v4C y) := fun W h => range_keep hry (h.block gy hgy)
        have q9 : ∀ W : World, (Op.equalIn 10000 39 (.agg (v4C x).toArray) (.agg (v4C y).toArray)).run Try.prog W = .ok (decide (x = y)) W := fun W => run_eqv x y W
        have h1 : (j : Int) < n := by omega
        have HXY : Hid (x = vN xs j ∧ y = vN ys j) := Lib.hid ⟨hx, hy⟩
        have HEX := Lib.hid ex
        have HEY := Lib.hid ey
        clear hB hE hrx hry ex ey hx hy
        go_upto_region 6 with (fail)
        have SD : Below wr.heap.size wr wr.drew := (Below.refl _ _).drew
        refine wp_region_held_drew (S := fun W => Below wr.heap.size wr W) (by kernel_rfl) SD ?_
        intro S0
        replace S0 : Below wr.heap.size wr wr.drew := SD
        refine aT 0 (.slice (some ⟨gx, ox, none⟩) n c) rfl ?_; simp only [see1, see2, see3, Act.put, see4, see5, see6]
        refine aT 1 (.int .i64 j) rfl ?_; simp only [see1, see2, see3, Act.put, see4, see5, see6]
        refine aT 2 (.pointer (some ⟨gx, ox + j * 4, none⟩)) rfl ?_; simp only [see1, see2, see3, Act.put, see4, see5, see6]
        refine aT 3 (.agg (v4C x).toArray) rfl ?_ (h2 := fun W hS => (load_is _ _ _ _ _ _ _ _ W).trans (load_at Try.underlying39 rfl v4_size (HEX.out W hS) (v4_len _))); simp only [see1, see2, see3, Act.put, see4, see5, see6]
        refine aT 4 (.slice (some ⟨gy, oy, none⟩) n c') rfl ?_; simp only [see1, see2, see3, Act.put, see4, see5, see6]
        refine aT 5 (.int .i64 j) rfl ?_; simp only [see1, see2, see3, Act.put, see4, see5, see6]
        refine aT 6 (.pointer (some ⟨gy, oy + j * 4, none⟩)) rfl ?_; simp only [see1, see2, see3, Act.put, see4, see5, see6]
        refine aT 7 (.agg (v4C y).toArray) rfl ?_ (h2 := fun W hS => (load_is _ _ _ _ _ _ _ _ W).trans (load_at Try.underlying39 rfl v4_size (HEY.out W hS) (v4_len _))); simp only [see1, see2, see3, Act.put, see4, see5, see6]
        by_cases exy : x = y
        · have dxy : decide (x = y) = true := by simp [exy]
          rw [dxy] at q9
          have HQ := Lib.hid exy
          clear exy dxy
          refine aT 8 (.bool false) rfl ?_; simp only [see1, see2, see3, Act.put, see4, see5, see6]
          refine wpAnyH_done (by kernel_rfl) ?_ _
          go_wp2
          exact ⟨⟨j + 1, by omega, by go_num, HB.out.drew, fun i hi => by
            rcases Nat.lt_succ_iff_lt_or_eq.1 hi with h | rfl
            · exact HE.out i h
            · rw [← HXY.out.1, ← HXY.out.2]
              exact HQ.out⟩, by simp [intOf]; omega⟩
        · have dxy : decide (x = y) = false := by simp [exy]
          rw [dxy] at q9
          have HQ := Lib.hid exy
          clear exy dxy
          refine aT 8 (.bool true) rfl ?_; simp only [see1, see2, see3, Act.put, see4, see5, see6]
          refine wpAnyH_done (by kernel_rfl) ?_ _
          go_wp2
          go_ret
          refine ⟨?_, HB.out.drew⟩
          rw [show decide (xs = ys) = false by
            rw [decide_eq_false_iff_not]
            intro e
            apply HQ.out
            rw [HXY.out.1, HXY.out.2, e]]
          rfl
      · obtain rfl : j = n := by omega
        clear hB hE
        go_wp2
        go_ret
        refine ⟨?_, HB.out⟩
        rw [show decide (xs = ys) = true by
          rw [decide_eq_true_eq]
          exact v4K.ext (HXL.out.trans HYL.out.symm) (fun i hi => HE.out i (by rw [HXL.out] at hi; exact hi))]
        rfl
  · have hd : decide (xs = ys) = false := by
      rw [decide_eq_false_iff_not]
      intro e
      apply hl
      rw [← hnx, ← hky, e]
    rw [hd]
    have hl' : ¬ (n : Int) = k := by omega
    clear hnx hky
    go_enter Try.func12, Try.ntmps12
    go_wp2
    go_ret
    exact ⟨rfl, Below.refl _ _⟩
end Go.Proofs.Ytpkkejdjhnmjiaa
