/- Contracts of the document's own chip (layer nor): a value that reads as the plain chip says answers as the plain chip does; nothing that was there is turned. | Contracts of the document's own chip, on: Read, Fuse, On, burnt, change. | Contracts of the document's own chip, on: change, Program. | Contract of the document's own chip, on: Program. -/
import Derived.Test.YtfckgfimmoinmaaRows
import Derived.Test.YtfckgfimmoinmaaMem
import Derived.Test.YtfckgfimmoinmaaNorRefMath
import Derived.Test.YtfckgfimmoinmaaBitsRef
import Derived.Test.YtfckgfimmoinmaaNorB
import Derived.Maps.AppendAt
import Derived.StillTailTactics
import Derived.RegionTactic
namespace Go.Proofs.Ytfckgfimmoinmaa
open Go.RowKit Bm

/-- Where the rows of a chip by value lie: words and wear, their capacities, and what lies behind them. -/
structure Rh where
  gw : Nat
  ge : Nat
  cw : Nat
  ce : Nat
  r1 : List Value
  r2 : List Value

def refVal (r : Rh) (c : ChipM) : Value := .agg #[.slice (some ⟨r.gw, 0, none⟩) c.ws.length r.cw, .slice (some ⟨r.ge, 0, none⟩) c.wear.length r.ce, .int .i64 c.endure, .int .i64 c.left, .int .u32 (U c.pick), .bool (!c.up)]

structure RefAt (w : World) (r : Rh) (c : ChipM) : Prop where
  words : At w r.gw 33 (Us c.ws ++ r.r1)
  wear : At w r.ge 3 (Is c.wear ++ r.r2)
  wl : (Us c.ws ++ r.r1).length = r.cw
  el : (Is c.wear ++ r.r2).length = r.ce
  wm : r.cw ≤ maxLen
  em : r.ce ≤ maxLen

theorem RefAt.kept {w w' : World} {r : Rh} {c : ChipM} (h : RefAt w r c) {S : Nat → Prop} (k : Turned S w w') (h1 : ¬ S r.gw) (h2 : ¬ S r.ge) : RefAt w' r c := ⟨h.words.kept k h1, h.wear.kept k h2, h.wl, h.el, h.wm, h.em⟩
theorem RefAt.below {w w' : World} {r : Rh} {c : ChipM} (h : RefAt w r c) (hB : Below w.heap.size w w') : RefAt w' r c := h.kept (Turned.of_below hB (Nat.le_refl _) NoBlock) (fun h => h) (fun h => h)
theorem RefAt.word {w : World} {r : Rh} {c : ChipM} (h : RefAt w r c) (i : Nat) (hi : i < c.ws.length) : w.cell? ⟨r.gw, i, none⟩ = some (.int .u32 (U (wd c.ws i))) := by
  rw [h.words.cell, List.getElem?_append_left (by rw [Us_length]; exact hi), Us_get _ _ hi]
theorem RefAt.worn {w : World} {r : Rh} {c : ChipM} (h : RefAt w r c) (i : Nat) (hi : i < c.wear.length) : w.cell? ⟨r.ge, i, none⟩ = some (.int .i64 (nm c.wear i)) := by
  rw [h.wear.cell, List.getElem?_append_left (by rw [Is_length]; exact hi), Is_get _ _ hi]
theorem RefAt.wle {w : World} {r : Rh} {c : ChipM} (h : RefAt w r c) : c.ws.length ≤ r.cw := by rw [← h.wl, List.length_append, Us_length]; omega
theorem RefAt.ele {w : World} {r : Rh} {c : ChipM} (h : RefAt w r c) : c.wear.length ≤ r.ce := by rw [← h.el, List.length_append, Is_length]; omega
/-- The rows of r' are new, or r's. -/
def RefNew (w : World) (r r' : Rh) : Prop := (w.heap.size ≤ r'.gw ∨ r'.gw = r.gw) ∧ (w.heap.size ≤ r'.ge ∨ r'.ge = r.ge)
theorem RefNew.refl (w : World) (r : Rh) : RefNew w r r := ⟨.inr rfl, .inr rfl⟩
theorem RefNew.trans {w w1 : World} {r r1 r2 : Rh} (h : RefNew w r r1) (hs : w.heap.size ≤ w1.heap.size) (k : RefNew w1 r1 r2) : RefNew w r r2 :=
  ⟨k.1.elim (fun h => .inl (Nat.le_trans hs h)) (fun e => by rw [e]; exact h.1), k.2.elim (fun h => .inl (Nat.le_trans hs h)) (fun e => by rw [e]; exact h.2)⟩

theorem wrong_any (r : Rh) (c : ChipM) (n m : Int) (w : World) (hl : 1 ≤ c.ws.length) :
    Calls Try.prog 81 #[refVal r c, .int .i64 n, .int .i64 m] w fun e w' => e = .returned (.int .i64 (mRefuse c n m)) ∧ Below w.heap.size w w' := by
  have z : ((c.ws.length : Int) == 0) = false := by rw [beq_eq_false_iff_ne]; omega
  have fin : ∀ v, Below w.heap.size w (w.alloc v) := fun v => (Below.refl _ w).alloc (Nat.le_refl _) v
  unfold mRefuse refVal
  cases hu : c.up
  · go_enter Try.func81, Try.ntmps81
    go_wp2
    go_ret
    exact ⟨rfl, fin _⟩
  · by_cases hn : n < 0
    · go_enter Try.func81, Try.ntmps81
      go_wp2
      go_ret
      exact ⟨by simp, fin _⟩
    · by_cases hm : m ≤ n
      · go_enter Try.func81, Try.ntmps81
        go_wp2
        go_ret
        exact ⟨by simp, fin _⟩
      · go_enter Try.func81, Try.ntmps81
        go_wp2
        go_ret
        exact ⟨by simp, fin _⟩

theorem end_any (b : Bool) (w : World) : Calls Try.prog 85 #[.bool b] w fun e w' => e = .returned (.int .i64 (if b then 4 else 0)) ∧ w' = w := by
  cases b
  · go_enter Try.func85, Try.ntmps85
    go_wp2
    go_ret
    exact ⟨rfl, rfl⟩
  · go_enter Try.func85, Try.ntmps85
    go_wp2
    go_ret
    exact ⟨rfl, rfl⟩

set_option maxRecDepth 100000 in
set_option maxHeartbeats 1000000 in
theorem put_any' (g cap n i : Nat) (ws : List (BitVec 32)) (r1 : List Value) (x : BitVec 32) (w : World) (hA : At w g 33 (Us ws ++ r1)) (hl : ws.length = n) (hcap : (Us ws ++ r1).length = cap) (hm : cap ≤ maxLen) (hi : i < n) (hn : n ≤ 1000000) :
    Calls Try.prog 95 #[.slice (some ⟨g, 0, none⟩) n cap, .int .i64 i, .int .u32 (U x)] w (Fresh w 33 (Us (ws.set i x))) := by
  obtain ⟨i0, hin, hz0, hz1, hz2⟩ := info_parts infoU
  have hnc : n ≤ cap := by rw [← hcap, List.length_append, Us_length, hl]; omega
  have hmx : cap ≤ 9223372036854775807 := by unfold maxLen at hm; omega
  have HL := Lib.hid hl
  have HC := Lib.hid hcap
  clear hl hcap
  have j0 : (0 : Int) ≤ (i : Int) := by omega
  have j1 : (i : Int) + 1 ≤ (n : Int) := by omega
  by_cases hic : cap = i + 1
  · obtain rfl : n = i + 1 := by omega
    subst hic
    go_enter Try.func95, Try.ntmps95
    go_wp2_with (at_builtin; refine wpList_append_own_at _ rfl (.tmp 8) (.tmp 11) _ rfl w.heap.size 33 i0 _ 1 4 Try.underlying31 hin hz0 hz1 hz2 rfl (by omega) (.slice (some ⟨w.heap.size, 0, none⟩) 0 0) 0 [] rfl ?own ⟨g, 0, none⟩ i (i + 1) (Us (ws.take i)) rfl ?len ?news (Us_one _) (by unfold maxLen; omega) (by omega) (by simp) ?k)
    case own => exact World.ownsRow_made w #[] 0 (Nat.le_refl _) (by unfold maxLen; omega) rfl
    case len => rw [Us_length, List.length_take, HL.out]; omega
    case news =>
      intro j u hu
      have hj : j < i := by
        have := (List.getElem?_eq_some_iff.1 hu).1
        rw [Us_length, List.length_take, HL.out] at this
        omega
      have := (hA.alloc (.cells #[] 33)).cell j
      rw [add_zero_block, this, List.getElem?_append_left (by rw [Us_length, HL.out]; omega), ← hu]
      simp [Us, hj]
    case k =>
    intro v1 w1 hown1 hg1 _ hat1
    have hb1 : Below w.heap.size w w1 := ((Below.refl _ _).alloc (Nat.le_refl _) _).grown hg1 (by simp) (by intro k hk; simp [Value.ownBlock] at hk; omega)
    have hv1 : v1.ownBlock ≠ none ∧ ∀ k, v1.ownBlock = some k → w.heap.size ≤ k := by
      rcases hat1 with h | h
      · rw [h]; exact ⟨by simp [Value.ownBlock], fun k hk => by simp [Value.ownBlock] at hk; omega⟩
      · rw [h]; exact ⟨by simp, fun k hk => by simp at hk; omega⟩
    have hown1' := hown1.alloc (.cells #[.int .u32 (U x)] 33)
    have hs1 := hb1.size
    clear hg1 hat1 hown1
    go_wp2_with (at_builtin; refine wpList_append_own_at _ rfl (.tmp 13) (.tmp 15) _ rfl w.heap.size 33 i0 _ 1 4 Try.underlying31 hin hz0 hz1 hz2 rfl (by omega) v1 i (Us (ws.take i)) rfl hown1' ⟨w1.heap.size, 0, none⟩ 1 1 (Us [x]) rfl (by simp [Us]) ?news2 (Us_one _) (by unfold maxLen; omega) (by omega) (by simp; omega) ?k2)
    case news2 =>
      intro j u hu
      have := (At.news w1 33 (Us [x])).cell j
      rw [add_zero_block]
      exact this.trans hu
    case k2 =>
    intro v2 w2 hown2 hg2 _ hat2
    have hb2 : Below w.heap.size w w2 := (hb1.alloc hs1 _).grown hg2 (by simp; omega) hv1.2
    have hv2 : ∀ k, v2.ownBlock = some k → w.heap.size ≤ k := by
      rcases hat2 with h | h
      · rw [h]; exact hv1.2
      · rw [h]; intro k hk; simp at hk; omega
    have hA2 : At w2 g 33 (Us ws ++ r1) := hA.kept (Turned.of_below hb2 (Nat.le_refl _) NoBlock) (fun h => h)
    have hs2 := hb2.size
    clear hg2 hat2 hown1' hv1 hb1
    go_wp2_with (at_builtin; refine wpList_append_own_at _ rfl (.tmp 17) (.tmp 21) _ rfl w.heap.size 33 i0 _ 1 4 Try.underlying31 hin hz0 hz1 hz2 rfl (by omega) v2 (i + 1) (Us (ws.take i) ++ Us [x]) rfl hown2 ⟨g, 0, none⟩ 0 0 (Us (ws.drop (i + 1))) rfl ?len3 ?news3 (Us_one _) (by unfold maxLen; omega) (by omega) hs2 ?k3)
    case len3 => rw [Us_length, List.length_drop, HL.out]; omega
    case news3 =>
      intro j u hu
      have hj : j < i + 1 - (i + 1) := by
        have := (List.getElem?_eq_some_iff.1 hu).1
        rw [Us_length, List.length_drop, HL.out] at this
        exact this
      omega
    case k3 =>
    intro v3 w3 hown3 hg3 _ hat3
    have hb3 : Below w.heap.size w w3 := hb2.grown hg3 hs2 hv2
    obtain ⟨g3, c3, rfl, hbg, hlt3⟩ := hown3.form (by omega)
    obtain ⟨rest, hA3, hAl, hAm, _, hAn⟩ := At.of_own hown3 (by omega)
    have e : Us (ws.take i) ++ (Us [x] ++ Us (ws.drop (i + 1))) = Us (ws.set i x) := by
      rw [set_parts _ _ _ (by rw [HL.out]; exact hi), Us_append, Us_append]
    rw [e] at hA3 hAl hAn
    clear hg3 hat3 hown3 hown2 hv2 hA2
    go_wp2
    go_ret
    exact ⟨g3, c3, rest, by rw [hAn]; rfl, hA3, hAl, hAm, hbg, hb3⟩
  · have hic' : ¬ (cap = i + 1) := hic
    go_enter Try.func95, Try.ntmps95
    go_wp2_with (at_builtin; refine wpList_append_own_at _ rfl (.tmp 8) (.tmp 11) _ rfl w.heap.size 33 i0 _ 1 4 Try.underlying31 hin hz0 hz1 hz2 rfl (by omega) (.slice (some ⟨w.heap.size, 0, none⟩) 0 0) 0 [] rfl ?own ⟨g, 0, none⟩ i cap (Us (ws.take i)) rfl ?len ?news (Us_one _) (by unfold maxLen; omega) (by omega) (by simp) ?k)
    case own => exact World.ownsRow_made w #[] 0 (Nat.le_refl _) (by unfold maxLen; omega) rfl
    case len => rw [Us_length, List.length_take, HL.out]; omega
    case news =>
      intro j u hu
      have hj : j < i := by
        have := (List.getElem?_eq_some_iff.1 hu).1
        rw [Us_length, List.length_take, HL.out] at this
        omega
      have := (hA.alloc (.cells #[] 33)).cell j
      rw [add_zero_block, this, List.getElem?_append_left (by rw [Us_length, HL.out]; omega), ← hu]
      simp [Us, hj]
    case k =>
    intro v1 w1 hown1 hg1 _ hat1
    have hb1 : Below w.heap.size w w1 := ((Below.refl _ _).alloc (Nat.le_refl _) _).grown hg1 (by simp) (by intro k hk; simp [Value.ownBlock] at hk; omega)
    have hv1 : v1.ownBlock ≠ none ∧ ∀ k, v1.ownBlock = some k → w.heap.size ≤ k := by
      rcases hat1 with h | h
      · rw [h]; exact ⟨by simp [Value.ownBlock], fun k hk => by simp [Value.ownBlock] at hk; omega⟩
      · rw [h]; exact ⟨by simp, fun k hk => by simp at hk; omega⟩
    have hown1' := hown1.alloc (.cells #[.int .u32 (U x)] 33)
    have hs1 := hb1.size
    clear hg1 hat1 hown1
    go_wp2_with (at_builtin; refine wpList_append_own_at _ rfl (.tmp 13) (.tmp 15) _ rfl w.heap.size 33 i0 _ 1 4 Try.underlying31 hin hz0 hz1 hz2 rfl (by omega) v1 i (Us (ws.take i)) rfl hown1' ⟨w1.heap.size, 0, none⟩ 1 1 (Us [x]) rfl (by simp [Us]) ?news2 (Us_one _) (by unfold maxLen; omega) (by omega) (by simp; omega) ?k2)
    case news2 =>
      intro j u hu
      have := (At.news w1 33 (Us [x])).cell j
      rw [add_zero_block]
      exact this.trans hu
    case k2 =>
    intro v2 w2 hown2 hg2 _ hat2
    have hb2 : Below w.heap.size w w2 := (hb1.alloc hs1 _).grown hg2 (by simp; omega) hv1.2
    have hv2 : ∀ k, v2.ownBlock = some k → w.heap.size ≤ k := by
      rcases hat2 with h | h
      · rw [h]; exact hv1.2
      · rw [h]; intro k hk; simp at hk; omega
    have hA2 : At w2 g 33 (Us ws ++ r1) := hA.kept (Turned.of_below hb2 (Nat.le_refl _) NoBlock) (fun h => h)
    have hs2 := hb2.size
    clear hg2 hat2 hown1' hv1 hb1
    go_wp2_with (at_builtin; refine wpList_append_own_at _ rfl (.tmp 17) (.tmp 21) _ rfl w.heap.size 33 i0 _ 1 4 Try.underlying31 hin hz0 hz1 hz2 rfl (by omega) v2 (i + 1) (Us (ws.take i) ++ Us [x]) rfl hown2 ⟨g, i + 1, none⟩ (n - (i + 1)) (cap - (i + 1)) (Us (ws.drop (i + 1))) rfl ?len3 ?news3 (Us_one _) (by unfold maxLen; omega) (by omega) hs2 ?k3)
    case len3 => rw [Us_length, List.length_drop, HL.out]; omega
    case news3 =>
      intro j u hu
      have hj : j < n - (i + 1) := by
        have := (List.getElem?_eq_some_iff.1 hu).1
        rw [Us_length, List.length_drop, HL.out] at this
        exact this
      have e : (⟨g, i + 1, none⟩ : Addr).add j = ⟨g, i + 1 + j, none⟩ := by unfold Addr.add; split <;> simp_all
      rw [e, hA2.cell, List.getElem?_append_left (by rw [Us_length, HL.out]; omega)]
      rw [← hu]
      simp [Us, List.getElem?_drop]
    case k3 =>
    intro v3 w3 hown3 hg3 _ hat3
    have hb3 : Below w.heap.size w w3 := hb2.grown hg3 hs2 hv2
    obtain ⟨g3, c3, rfl, hbg, hlt3⟩ := hown3.form (by omega)
    obtain ⟨rest, hA3, hAl, hAm, _, hAn⟩ := At.of_own hown3 (by omega)
    have e : Us (ws.take i) ++ (Us [x] ++ Us (ws.drop (i + 1))) = Us (ws.set i x) := by
      rw [set_parts _ _ _ (by rw [HL.out]; exact hi), Us_append, Us_append]
    rw [e] at hA3 hAl hAn
    clear hg3 hat3 hown3 hown2 hv2 hA2
    go_wp2
    go_ret
    exact ⟨g3, c3, rest, by rw [hAn]; rfl, hA3, hAl, hAm, hbg, hb3⟩
end Go.Proofs.Ytfckgfimmoinmaa

namespace Go.Proofs.Ytfckgfimmoinmaa
open Go.RowKit Bm

theorem below_two (w : World) (a b : Obj) : Below w.heap.size w ((w.alloc a).alloc b) := ((Below.refl _ w).alloc (Nat.le_refl _) a).alloc (by rw [World.size_alloc]; omega) b

set_option maxRecDepth 100000 in
set_option maxHeartbeats 1000000 in
theorem rfuse_any (r : Rh) (c : ChipM) (n : Int) (x : BitVec 32) (w : World) (hl : 1 ≤ c.ws.length) :
    Calls Try.prog 23 #[refVal r c, .int .i64 n, .int .u32 (U x)] w fun e w' => e = .returned (refVal r (mFuse c n x)) ∧ Below w.heap.size w w' := by
  have z : decide (0 < (c.ws.length : Int)) = true := by rw [decide_eq_true_iff]; omega
  have z0 : 0 < (c.ws.length : Int) := by omega
  have fin := fun a b => below_two w a b
  by_cases hn : n < 0
  · have e : mFuse c n x = { c with left := 0, pick := x } := by unfold mFuse; rw [show max n 0 = 0 by omega]
    rw [e]
    clear e
    unfold refVal
    go_enter Try.func23, Try.ntmps23
    go_wp2
    exact bodyPost_ret (v := .agg #[.slice (some ⟨r.gw, 0, none⟩) c.ws.length r.cw, .slice (some ⟨r.ge, 0, none⟩) c.wear.length r.ce, .int .i64 c.endure, .int .i64 0, .int .u32 (U x), .bool (!c.up)]) (by simp [results, Try.results23, go_sem]) rfl ⟨rfl, fin _ _⟩
  · have e : mFuse c n x = { c with left := n, pick := x } := by unfold mFuse; rw [show max n 0 = n by omega]
    rw [e]
    clear e
    unfold refVal
    go_enter Try.func23, Try.ntmps23
    go_wp2
    exact bodyPost_ret (v := .agg #[.slice (some ⟨r.gw, 0, none⟩) c.ws.length r.cw, .slice (some ⟨r.ge, 0, none⟩) c.wear.length r.ce, .int .i64 c.endure, .int .i64 n, .int .u32 (U x), .bool (!c.up)]) (by simp [results, Try.results23, go_sem]) rfl ⟨rfl, fin _ _⟩

set_option maxRecDepth 100000 in
set_option maxHeartbeats 1000000 in
theorem ron_any (r : Rh) (c : ChipM) (w : World) :
    Calls Try.prog 26 #[refVal r c] w fun e w' => e = .returned (refVal r (mOn c)) ∧ Below w.heap.size w w' := by
  have fin := fun a b => below_two w a b
  unfold refVal mOn
  go_enter Try.func26, Try.ntmps26
  go_wp2
  exact bodyPost_ret (v := .agg #[.slice (some ⟨r.gw, 0, none⟩) c.ws.length r.cw, .slice (some ⟨r.ge, 0, none⟩) c.wear.length r.ce, .int .i64 c.endure, .int .i64 0, .int .u32 (U c.pick), .bool false]) (by simp [results, Try.results26, go_sem]) rfl ⟨rfl, fin _ _⟩

set_option maxRecDepth 100000 in
set_option maxHeartbeats 1000000 in
theorem burnt_any (r : Rh) (c : ChipM) (w : World) (hu : c.up = true) (l0 : 0 ≤ c.left) (l1 : c.left ≤ 9223372036854775807) :
    Calls Try.prog 82 #[refVal r c] w fun e w' => e = .returned (.tuple #[refVal r (mChange c), .bool (mBurn c)]) ∧ Below w.heap.size w w' := by
  have fin := fun a b => below_two w a b
  unfold mChange mBurn
  by_cases h0 : c.left = 0
  · rw [if_pos h0]
    have e : decide (c.left = 1) = false := by rw [decide_eq_false_iff_not]; omega
    rw [e]
    unfold refVal
    rw [h0, hu]
    clear e h0 hu
    go_enter Try.func82, Try.ntmps82
    go_wp2
    exact bodyPost_ret (v := .tuple #[.agg #[.slice (some ⟨r.gw, 0, none⟩) c.ws.length r.cw, .slice (some ⟨r.ge, 0, none⟩) c.wear.length r.ce, .int .i64 c.endure, .int .i64 0, .int .u32 (U c.pick), .bool false], .bool false]) (by simp [results, Try.results82, go_sem]) rfl ⟨rfl, fin _ _⟩
  · rw [if_neg h0]
    have q : (c.left == 0) = false := by rw [beq_eq_false_iff_ne]; exact h0
    by_cases h1 : c.left = 1
    · rw [if_pos h1]
      have e : decide (c.left = 1) = true := by rw [decide_eq_true_iff]; exact h1
      rw [e]
      unfold refVal
      rw [h1, hu]
      clear e h0 hu q h1
      go_enter Try.func82, Try.ntmps82
      go_wp2
      go_region
      all_goals
        go_wp2
        exact bodyPost_ret (v := .tuple #[.agg #[.slice (some ⟨r.gw, 0, none⟩) c.ws.length r.cw, .slice (some ⟨r.ge, 0, none⟩) c.wear.length r.ce, .int .i64 c.endure, .int .i64 0, .int .u32 (U c.pick), .bool true], .bool true]) (by simp [results, Try.results82, go_sem]) rfl ⟨rfl, (fin _ _).drew⟩
    · rw [if_neg h1]
      have e : decide (c.left = 1) = false := by rw [decide_eq_false_iff_not]; exact h1
      have q1 : (c.left - 1 == 0) = false := by rw [beq_eq_false_iff_ne]; omega
      rw [e]
      unfold refVal
      dsimp only
      rw [hu]
      clear e h0 hu h1
      go_enter Try.func82, Try.ntmps82
      go_wp2
      go_region
      all_goals
        go_wp2
        exact bodyPost_ret (v := .tuple #[.agg #[.slice (some ⟨r.gw, 0, none⟩) c.ws.length r.cw, .slice (some ⟨r.ge, 0, none⟩) c.wear.length r.ce, .int .i64 c.endure, .int .i64 (c.left - 1), .int .u32 (U c.pick), .bool false], .bool false]) (by simp [results, Try.results82, go_sem]) rfl ⟨rfl, (fin _ _).drew⟩
end Go.Proofs.Ytfckgfimmoinmaa

namespace Go.Proofs.Ytfckgfimmoinmaa
open Go.RowKit Bm

/-- A chip by value that the call made of r's rows and new ones. -/
def RefOut (w : World) (r : Rh) (c : ChipM) (e : Ending) (w' : World) : Prop := ∃ r', e = .returned (refVal r' c) ∧ RefAt w' r' c ∧ Below w.heap.size w w' ∧ RefNew w r r'

def refCells (r : Rh) (c : ChipM) : List Value := [.slice (some ⟨r.gw, 0, none⟩) c.ws.length r.cw, .slice (some ⟨r.ge, 0, none⟩) c.wear.length r.ce, .int .i64 c.endure, .int .i64 c.left, .int .u32 (U c.pick), .bool (!c.up)]
def refZero : List Value := [.slice none 0 0, .slice none 0 0, .int .i64 0, .int .i64 0, .int .u32 0, .bool false]
def mSet (c : ChipM) (i : Nat) (z : BitVec 32) : ChipM := { c with ws := c.ws.set i z }

theorem RefAt.change {w : World} {r : Rh} {c : ChipM} (h : RefAt w r c) : RefAt w r (mChange c) :=
  ⟨by rw [mChange_ws]; exact h.words, by rw [mChange_wear]; exact h.wear, by rw [mChange_ws]; exact h.wl, by rw [mChange_wear]; exact h.el, h.wm, h.em⟩

/-- Six cells stored, one behind the other, and read again. -/
def six (w : World) (P : Nat) (a b c d e f : Value) : World := (((((w.setCell ⟨P, 0, none⟩ a).setCell ⟨P, 1, none⟩ b).setCell ⟨P, 2, none⟩ c).setCell ⟨P, 3, none⟩ d).setCell ⟨P, 4, none⟩ e).setCell ⟨P, 5, none⟩ f
theorem At.six {w : World} {P : Nat} {t : TypeId} {z0 z1 z2 z3 z4 z5 : Value} (h : At w P t [z0, z1, z2, z3, z4, z5]) (a b c d e f : Value) : At (six w P a b c d e f) P t [a, b, c, d, e, f] :=
  (((((h.put 0 a).put 1 b).put 2 c).put 3 d).put 4 e).put 5 f
theorem Turned.six {S : Nat → Prop} {a w : World} (h : Turned S a w) {P : Nat} (hp : P < a.heap.size → S P) (v0 v1 v2 v3 v4 v5 : Value) : Turned S a (six w P v0 v1 v2 v3 v4 v5) :=
  (((((h.setCell (p := ⟨P, 0, none⟩) hp v0).setCell (p := ⟨P, 1, none⟩) hp v1).setCell (p := ⟨P, 2, none⟩) hp v2).setCell (p := ⟨P, 3, none⟩) hp v3).setCell (p := ⟨P, 4, none⟩) hp v4).setCell (p := ⟨P, 5, none⟩) hp v5

set_option maxRecDepth 100000 in
set_option maxHeartbeats 1000000 in
theorem change_plain (r : Rh) (c : ChipM) (k i : Nat) (y p : BitVec 32) (w : World) (hc : RefAt w r c) (ok : ChipOk k c) (hi : i < c.ws.length) :
    Calls Try.prog 83 #[refVal r c, .int .i64 i, .int .u32 (U y), .bool false, .int .u32 (U p)] w (RefOut w r (mSet c i y)) := by
  have hl := ok.words
  have k2 := ok.k2
  have put : ∀ W : World, Below w.heap.size w W → Calls Try.prog 95 #[.slice (some ⟨r.gw, 0, none⟩) c.ws.length r.cw, .int .i64 i, .int .u32 (U y)] W (Fresh W 33 (Us (c.ws.set i y))) := fun W hB =>
    put_any' r.gw r.cw c.ws.length i c.ws r.r1 y W (hc.words.kept (Turned.of_below hB (Nat.le_refl _) NoBlock) (fun h => h)) rfl hc.wl hc.wm hi (by omega)
  have PUT := Lib.hid put
  have HC := Lib.hid hc
  have A1 := At.news w 35 (refCells r c)
  have A2 := At.news (w.alloc (.cells (refCells r c).toArray 35)) 35 refZero
  have A3 := A1.alloc (.cells refZero.toArray 35)
  have B2 := below_two w (.cells (refCells r c).toArray 35) (.cells refZero.toArray 35)
  have hs : ((w.alloc (.cells (refCells r c).toArray 35)).alloc (.cells refZero.toArray 35)).heap.size = w.heap.size + 2 := by rw [World.size_alloc, World.size_alloc]
  have hs1 : (w.alloc (.cells (refCells r c).toArray 35)).heap.size = w.heap.size + 1 := by rw [World.size_alloc]
  rw [hs1] at A2
  simp only [refCells, refZero] at A2 A3 B2 hs
  clear A1 hc put hl hs1
  obtain ⟨P, hP⟩ : ∃ P, P = w.heap.size := ⟨_, rfl⟩
  unfold refVal
  go_enter Try.func83, Try.ntmps83
  go_wp2_with fail
  refine Calls.mono (PUT.out _ B2) ?_
  rintro e w3 ⟨g, cw, rest, rfl, hA, hAl, hAm, hge, hB⟩
  have hB3 : Below w.heap.size w w3 := B2.trans (hB.mono B2.size)
  have A2' := A2.kept (Turned.of_below hB (Nat.le_refl _) NoBlock) (fun h => h)
  have A3' := A3.kept (Turned.of_below hB (Nat.le_refl _) NoBlock) (fun h => h)
  rw [hs] at hge
  have E := Lib.hid hP
  rw [← hP] at A2' A3' hge ⊢
  clear hP A2 A3 B2 hs hB
  have c0 := A3'.cell 0
  have c1 := A3'.cell 1
  have c2 := A3'.cell 2
  have c3 := A3'.cell 3
  have c4 := A3'.cell 4
  have c5 := A3'.cell 5
  have f0 := A3'.frozen 0
  have d0 := A2'.cell 0
  have d1 := A2'.cell 1
  have d2 := A2'.cell 2
  have d3 := A2'.cell 3
  have d4 := A2'.cell 4
  have d5 := A2'.cell 5
  have h0 := A2'.frozen 0
  have h1 := A2'.frozen 1
  have h2 := A2'.frozen 2
  have h3 := A2'.frozen 3
  have h4 := A2'.frozen 4
  have h5 := A2'.frozen 5
  simp only [List.getElem?_cons_succ, List.getElem?_cons_zero] at c0 c1 c2 c3 c4 c5 d0 d1 d2 d3 d4 d5
  rw [Us_length, List.length_set]
  go_wp2
  obtain ⟨W9, hW⟩ : ∃ W9, W9 = six (w3.setCell ⟨P, 0, none⟩ (.slice (some ⟨g, 0, none⟩) c.ws.length cw)) (P + 1) (.slice (some ⟨g, 0, none⟩) c.ws.length cw) (.slice (some ⟨r.ge, 0, none⟩) c.wear.length r.ce) (.int .i64 c.endure) (.int .i64 c.left) (.int .u32 (U c.pick)) (.bool (!c.up)) := ⟨_, rfl⟩
  have R9 := (A2'.far (p := ⟨P, 0, none⟩) (show P + 1 ≠ P by omega) (.slice (some ⟨g, 0, none⟩) c.ws.length cw)).six (.slice (some ⟨g, 0, none⟩) c.ws.length cw) (.slice (some ⟨r.ge, 0, none⟩) c.wear.length r.ce) (.int .i64 c.endure) (.int .i64 c.left) (.int .u32 (U c.pick)) (.bool (!c.up))
  have T9 := ((Turned.refl (fun b => b = P ∨ b = P + 1) w3).setCell (p := ⟨P, 0, none⟩) (fun _ => .inl rfl) (.slice (some ⟨g, 0, none⟩) c.ws.length cw)).six (P := P + 1) (fun _ => .inr rfl) (.slice (some ⟨g, 0, none⟩) c.ws.length cw) (.slice (some ⟨r.ge, 0, none⟩) c.wear.length r.ce) (.int .i64 c.endure) (.int .i64 c.left) (.int .u32 (U c.pick)) (.bool (!c.up))
  rw [← hW] at R9 T9
  change bodyPost _ _ _ _ _ (six (w3.setCell ⟨P, 0, none⟩ (.slice (some ⟨g, 0, none⟩) c.ws.length cw)) (P + 1) (.slice (some ⟨g, 0, none⟩) c.ws.length cw) (.slice (some ⟨r.ge, 0, none⟩) c.wear.length r.ce) (.int .i64 c.endure) (.int .i64 c.left) (.int .u32 (U c.pick)) (.bool (!c.up)))
  rw [← hW]
  clear hW c0 c1 c2 c3 c4 c5 f0 d0 d1 d2 d3 d4 d5 h0 h1 h2 h3 h4 h5
  have e0 := R9.cell 0
  have e1 := R9.cell 1
  have e2 := R9.cell 2
  have e3 := R9.cell 3
  have e4 := R9.cell 4
  have e5 := R9.cell 5
  simp only [List.getElem?_cons_succ, List.getElem?_cons_zero] at e0 e1 e2 e3 e4 e5
  refine bodyPost_ret (v := .agg #[.slice (some ⟨g, 0, none⟩) c.ws.length cw, .slice (some ⟨r.ge, 0, none⟩) c.wear.length r.ce, .int .i64 c.endure, .int .i64 c.left, .int .u32 (U c.pick), .bool (!c.up)]) (by simp [results, Try.results83, go_sem, e0, e1, e2, e3, e4, e5]) rfl ?_
  have hP := E.out
  have h0 := HC.out
  have hw3 := hB3.size
  have g1 : r.ge < w.heap.size := h0.wear.lt
  refine ⟨⟨g, r.ge, cw, r.ce, rest, r.r2⟩, by simp [refVal, mSet], ⟨hA.kept T9 (by omega), (h0.below hB3).wear.kept T9 (by show ¬ (r.ge = P ∨ r.ge = P + 1); omega), hAl, h0.el, hAm, h0.em⟩, hB3.trans (T9.below (by intro b hb; omega) hw3), ⟨.inl (by show w.heap.size ≤ g; omega), .inr rfl⟩⟩
set_option maxRecDepth 100000 in
set_option maxHeartbeats 1000000 in
theorem change_burn (r : Rh) (c : ChipM) (k i : Nat) (y p : BitVec 32) (w : World) (hc : RefAt w r c) (ok : ChipOk k c) (hi : i < c.ws.length) :
    Calls Try.prog 83 #[refVal r c, .int .i64 i, .int .u32 (U y), .bool true, .int .u32 (U p)] w (RefOut w r (mSet c i (partB (wd c.ws i) y p))) := by
  have hl := ok.words
  have k2 := ok.k2
  have put : ∀ W : World, Below w.heap.size w W → Calls Try.prog 95 #[.slice (some ⟨r.gw, 0, none⟩) c.ws.length r.cw, .int .i64 i, .int .u32 (U (partB (wd c.ws i) y p))] W (Fresh W 33 (Us (c.ws.set i (partB (wd c.ws i) y p)))) := fun W hB =>
    put_any' r.gw r.cw c.ws.length i c.ws r.r1 (partB (wd c.ws i) y p) W (hc.words.kept (Turned.of_below hB (Nat.le_refl _) NoBlock) (fun h => h)) rfl hc.wl hc.wm hi (by omega)
  have PUT := Lib.hid put
  have HC := Lib.hid hc
  have A1 := At.news w 35 (refCells r c)
  have A2 := At.news (w.alloc (.cells (refCells r c).toArray 35)) 35 refZero
  have A3 := A1.alloc (.cells refZero.toArray 35)
  have B2 := below_two w (.cells (refCells r c).toArray 35) (.cells refZero.toArray 35)
  have hs : ((w.alloc (.cells (refCells r c).toArray 35)).alloc (.cells refZero.toArray 35)).heap.size = w.heap.size + 2 := by rw [World.size_alloc, World.size_alloc]
  have hs1 : (w.alloc (.cells (refCells r c).toArray 35)).heap.size = w.heap.size + 1 := by rw [World.size_alloc]
  rw [hs1] at A2
  simp only [refCells, refZero] at A2 A3 B2 hs
  clear A1 hc put hl hs1
  obtain ⟨P, hP⟩ : ∃ P, P = w.heap.size := ⟨_, rfl⟩
  unfold refVal
  go_enter Try.func83, Try.ntmps83
  have gi := (HC.out.below B2).word i hi
  have wle := HC.out.wle
  have wm := HC.out.wm
  unfold maxLen at wm
  go_wp2_with fail
  refine (rpartial_any (wd c.ws i) y p _).mono ?_
  rintro e w3 ⟨rfl, hw⟩
  subst hw
  clear gi
  go_wp2_with fail
  refine Calls.mono (PUT.out _ B2) ?_
  rintro e w3 ⟨g, cw, rest, rfl, hA, hAl, hAm, hge, hB⟩
  have hB3 : Below w.heap.size w w3 := B2.trans (hB.mono B2.size)
  have A2' := A2.kept (Turned.of_below hB (Nat.le_refl _) NoBlock) (fun h => h)
  have A3' := A3.kept (Turned.of_below hB (Nat.le_refl _) NoBlock) (fun h => h)
  rw [hs] at hge
  have E := Lib.hid hP
  rw [← hP] at A2' A3' hge ⊢
  clear hP A2 A3 B2 hs hB
  have c0 := A3'.cell 0
  have c1 := A3'.cell 1
  have c2 := A3'.cell 2
  have c3 := A3'.cell 3
  have c4 := A3'.cell 4
  have c5 := A3'.cell 5
  have f0 := A3'.frozen 0
  have d0 := A2'.cell 0
  have d1 := A2'.cell 1
  have d2 := A2'.cell 2
  have d3 := A2'.cell 3
  have d4 := A2'.cell 4
  have d5 := A2'.cell 5
  have h0 := A2'.frozen 0
  have h1 := A2'.frozen 1
  have h2 := A2'.frozen 2
  have h3 := A2'.frozen 3
  have h4 := A2'.frozen 4
  have h5 := A2'.frozen 5
  simp only [List.getElem?_cons_succ, List.getElem?_cons_zero] at c0 c1 c2 c3 c4 c5 d0 d1 d2 d3 d4 d5
  rw [Us_length, List.length_set]
  go_wp2
  obtain ⟨W9, hW⟩ : ∃ W9, W9 = six (w3.setCell ⟨P, 0, none⟩ (.slice (some ⟨g, 0, none⟩) c.ws.length cw)) (P + 1) (.slice (some ⟨g, 0, none⟩) c.ws.length cw) (.slice (some ⟨r.ge, 0, none⟩) c.wear.length r.ce) (.int .i64 c.endure) (.int .i64 c.left) (.int .u32 (U c.pick)) (.bool (!c.up)) := ⟨_, rfl⟩
  have R9 := (A2'.far (p := ⟨P, 0, none⟩) (show P + 1 ≠ P by omega) (.slice (some ⟨g, 0, none⟩) c.ws.length cw)).six (.slice (some ⟨g, 0, none⟩) c.ws.length cw) (.slice (some ⟨r.ge, 0, none⟩) c.wear.length r.ce) (.int .i64 c.endure) (.int .i64 c.left) (.int .u32 (U c.pick)) (.bool (!c.up))
  have T9 := ((Turned.refl (fun b => b = P ∨ b = P + 1) w3).setCell (p := ⟨P, 0, none⟩) (fun _ => .inl rfl) (.slice (some ⟨g, 0, none⟩) c.ws.length cw)).six (P := P + 1) (fun _ => .inr rfl) (.slice (some ⟨g, 0, none⟩) c.ws.length cw) (.slice (some ⟨r.ge, 0, none⟩) c.wear.length r.ce) (.int .i64 c.endure) (.int .i64 c.left) (.int .u32 (U c.pick)) (.bool (!c.up))
  rw [← hW] at R9 T9
  change bodyPost _ _ _ _ _ (six (w3.setCell ⟨P, 0, none⟩ (.slice (some ⟨g, 0, none⟩) c.ws.length cw)) (P + 1) (.slice (some ⟨g, 0, none⟩) c.ws.length cw) (.slice (some ⟨r.ge, 0, none⟩) c.wear.length r.ce) (.int .i64 c.endure) (.int .i64 c.left) (.int .u32 (U c.pick)) (.bool (!c.up)))
  rw [← hW]
  clear hW c0 c1 c2 c3 c4 c5 f0 d0 d1 d2 d3 d4 d5 h0 h1 h2 h3 h4 h5
  have e0 := R9.cell 0
  have e1 := R9.cell 1
  have e2 := R9.cell 2
  have e3 := R9.cell 3
  have e4 := R9.cell 4
  have e5 := R9.cell 5
  simp only [List.getElem?_cons_succ, List.getElem?_cons_zero] at e0 e1 e2 e3 e4 e5
  refine bodyPost_ret (v := .agg #[.slice (some ⟨g, 0, none⟩) c.ws.length cw, .slice (some ⟨r.ge, 0, none⟩) c.wear.length r.ce, .int .i64 c.endure, .int .i64 c.left, .int .u32 (U c.pick), .bool (!c.up)]) (by simp [results, Try.results83, go_sem, e0, e1, e2, e3, e4, e5]) rfl ?_
  have hP := E.out
  have h0 := HC.out
  have hw3 := hB3.size
  have g1 : r.ge < w.heap.size := h0.wear.lt
  refine ⟨⟨g, r.ge, cw, r.ce, rest, r.r2⟩, by simp [refVal, mSet], ⟨hA.kept T9 (by omega), (h0.below hB3).wear.kept T9 (by show ¬ (r.ge = P ∨ r.ge = P + 1); omega), hAl, h0.el, hAm, h0.em⟩, hB3.trans (T9.below (by intro b hb; omega) hw3), ⟨.inl (by show w.heap.size ≤ g; omega), .inr rfl⟩⟩
end Go.Proofs.Ytfckgfimmoinmaa

namespace Go.Proofs.Ytfckgfimmoinmaa
open Go.RowKit Bm

theorem change_any' (r : Rh) (c : ChipM) (k i : Nat) (y p : BitVec 32) (b : Bool) (w : World) (hc : RefAt w r c) (ok : ChipOk k c) (hi : i < c.ws.length) :
    Calls Try.prog 83 #[refVal r c, .int .i64 i, .int .u32 (U y), .bool b, .int .u32 (U p)] w (RefOut w r (mSet c i (if b then partB (wd c.ws i) y p else y))) := by
  cases b
  · exact change_plain r c k i y p w hc ok hi
  · exact change_burn r c k i y p w hc ok hi

theorem program_parts (c : ChipM) (i : Nat) (v : BitVec 32) :
    mSet (mChange c) i (if mBurn c then partB (wd (mChange c).ws i) (wd c.ws i &&& v) (mChange c).pick else wd c.ws i &&& v) = mProgramDo c i v := by
  unfold mSet mProgramDo mPick mBurn
  rw [mChange_ws, mChange_pick]
  by_cases h : c.left = 1
  · rw [if_pos h]
    simp [h, mChange_pick]
  · rw [if_neg h, partB_ones]
    simp [h, mChange_pick]

/-- A chip by value, and a number. -/
def RefOut2 (w : World) (r : Rh) (c : ChipM) (n : Int) (e : Ending) (w' : World) : Prop := ∃ r', e = .returned (.tuple #[refVal r' c, .int .i64 n]) ∧ RefAt w' r' c ∧ Below w.heap.size w w' ∧ RefNew w r r'

/-- The cells of a block, each for itself. -/
theorem At.all6 {w : World} {P : Nat} {t : TypeId} {z0 z1 z2 z3 z4 z5 : Value} (h : At w P t [z0, z1, z2, z3, z4, z5]) :
    w.cell? ⟨P, 0, none⟩ = some z0 ∧ w.cell? ⟨P, 1, none⟩ = some z1 ∧ w.cell? ⟨P, 2, none⟩ = some z2 ∧ w.cell? ⟨P, 3, none⟩ = some z3 ∧ w.cell? ⟨P, 4, none⟩ = some z4 ∧ w.cell? ⟨P, 5, none⟩ = some z5 :=
  ⟨h.cell 0, h.cell 1, h.cell 2, h.cell 3, h.cell 4, h.cell 5⟩
theorem At.thaw6 {w : World} {P : Nat} {t : TypeId} {cs : List Value} (h : At w P t cs) :
    w.frozen? ⟨P, 0, none⟩ = false ∧ w.frozen? ⟨P, 1, none⟩ = false ∧ w.frozen? ⟨P, 2, none⟩ = false ∧ w.frozen? ⟨P, 3, none⟩ = false ∧ w.frozen? ⟨P, 4, none⟩ = false ∧ w.frozen? ⟨P, 5, none⟩ = false :=
  ⟨h.frozen 0, h.frozen 1, h.frozen 2, h.frozen 3, h.frozen 4, h.frozen 5⟩

set_option maxRecDepth 100000 in
set_option maxHeartbeats 1000000 in
theorem rprogram_no (r : Rh) (c : ChipM) (k : Nat) (a : Int) (v : BitVec 32) (w : World) (hc : RefAt w r c) (ok : ChipOk k c) (hr : mRefuse c a c.ws.length ≠ 0) :
    Calls Try.prog 72 #[refVal r c, .int .i64 a, .int .u32 (U v)] w (RefOut2 w r c (mRefuse c a c.ws.length)) := by
  have hl := ok.words
  have k1 := ok.k1
  have q : (mRefuse c a c.ws.length == 0) = false := by rw [beq_eq_false_iff_ne]; exact hr
  have q' : (mRefuse c a c.ws.length != 0) = true := by rw [bne_iff_ne]; exact hr
  have WR := Lib.hid fun W => wrong_any r c a c.ws.length W (by omega)
  have HC := Lib.hid hc
  have A1 := At.news w 35 (refCells r c)
  have A2 := At.news (w.alloc (.cells (refCells r c).toArray 35)) 35 refZero
  have A3 := A1.alloc (.cells refZero.toArray 35)
  have B2 := below_two w (.cells (refCells r c).toArray 35) (.cells refZero.toArray 35)
  have hs1 : (w.alloc (.cells (refCells r c).toArray 35)).heap.size = w.heap.size + 1 := by rw [World.size_alloc]
  rw [hs1] at A2
  simp only [refCells, refZero] at A2 A3 B2
  clear A1 hc hl hs1 hr
  obtain ⟨P, hP⟩ : ∃ P, P = w.heap.size := ⟨_, rfl⟩
  unfold refVal
  go_enter Try.func72, Try.ntmps72
  go_wp2_with fail
  refine (WR.out _).mono ?_
  rintro e w3 ⟨rfl, hB⟩
  have hB3 : Below w.heap.size w w3 := B2.trans (hB.mono B2.size)
  have A2' := A2.kept (Turned.of_below hB (Nat.le_refl _) NoBlock) (fun h => h)
  have A3' := A3.kept (Turned.of_below hB (Nat.le_refl _) NoBlock) (fun h => h)
  have E := Lib.hid hP
  rw [← hP] at A2' A3' ⊢
  clear hP A2 A3 B2 hB
  obtain ⟨c0, c1, c2, c3, c4, c5⟩ := A3'.all6
  obtain ⟨d0, d1, d2, d3, d4, d5⟩ := A2'.all6
  obtain ⟨h0, h1, h2, h3, h4, h5⟩ := A2'.thaw6
  go_wp2
  obtain ⟨W9, hW⟩ : ∃ W9, W9 = six w3 (P + 1) (.slice (some ⟨r.gw, 0, none⟩) c.ws.length r.cw) (.slice (some ⟨r.ge, 0, none⟩) c.wear.length r.ce) (.int .i64 c.endure) (.int .i64 c.left) (.int .u32 (U c.pick)) (.bool (!c.up)) := ⟨_, rfl⟩
  have R9 := A2'.six (.slice (some ⟨r.gw, 0, none⟩) c.ws.length r.cw) (.slice (some ⟨r.ge, 0, none⟩) c.wear.length r.ce) (.int .i64 c.endure) (.int .i64 c.left) (.int .u32 (U c.pick)) (.bool (!c.up))
  have T9 := (Turned.refl (fun b => b = P + 1) w3).six (P := P + 1) (fun _ => rfl) (.slice (some ⟨r.gw, 0, none⟩) c.ws.length r.cw) (.slice (some ⟨r.ge, 0, none⟩) c.wear.length r.ce) (.int .i64 c.endure) (.int .i64 c.left) (.int .u32 (U c.pick)) (.bool (!c.up))
  rw [← hW] at R9 T9
  change bodyPost _ _ _ _ _ (six w3 (P + 1) (.slice (some ⟨r.gw, 0, none⟩) c.ws.length r.cw) (.slice (some ⟨r.ge, 0, none⟩) c.wear.length r.ce) (.int .i64 c.endure) (.int .i64 c.left) (.int .u32 (U c.pick)) (.bool (!c.up)))
  rw [← hW]
  clear hW c0 c1 c2 c3 c4 c5 d0 d1 d2 d3 d4 d5 h0 h1 h2 h3 h4 h5
  obtain ⟨e0, e1, e2, e3, e4, e5⟩ := R9.all6
  refine bodyPost_ret (v := .tuple #[.agg #[.slice (some ⟨r.gw, 0, none⟩) c.ws.length r.cw, .slice (some ⟨r.ge, 0, none⟩) c.wear.length r.ce, .int .i64 c.endure, .int .i64 c.left, .int .u32 (U c.pick), .bool (!c.up)], .int .i64 (mRefuse c a c.ws.length)]) (by simp [results, Try.results72, go_sem, e0, e1, e2, e3, e4, e5]) rfl ?_
  have hP := E.out
  have h0 := HC.out
  have hw3 := hB3.size
  have g1 : r.ge < w.heap.size := h0.wear.lt
  have g2 : r.gw < w.heap.size := h0.words.lt
  exact ⟨r, rfl, (h0.below hB3).kept T9 (by show ¬ (r.gw = P + 1); omega) (by show ¬ (r.ge = P + 1); omega), hB3.trans (T9.below (by intro b hb; omega) hw3), RefNew.refl _ _⟩

set_option maxRecDepth 100000 in
set_option maxHeartbeats 2000000 in
theorem rprogram_yes (r : Rh) (c : ChipM) (k i : Nat) (v : BitVec 32) (w : World) (hc : RefAt w r c) (ok : ChipOk k c) (hi : i < c.ws.length) (hr : mRefuse c i c.ws.length = 0) :
    Calls Try.prog 72 #[refVal r c, .int .i64 i, .int .u32 (U v)] w (RefOut2 w r (mProgramDo c i v) (mErr c)) := by
  have hl := ok.words
  have k1 := ok.k1
  have k2 := ok.k2
  have hu := Lib.hid (refuse_zero hr).1
  have l0 := ok.l0
  have l1 := ok.l1
  have wle := hc.wle
  have wm := hc.wm
  unfold maxLen at wm
  have WR := Lib.hid fun W => wrong_any r c i c.ws.length W (by omega)
  have HC := Lib.hid hc
  have A1 := At.news w 35 (refCells r c)
  have A2 := At.news (w.alloc (.cells (refCells r c).toArray 35)) 35 refZero
  have A3 := A1.alloc (.cells refZero.toArray 35)
  have B2 := below_two w (.cells (refCells r c).toArray 35) (.cells refZero.toArray 35)
  have hs1 : (w.alloc (.cells (refCells r c).toArray 35)).heap.size = w.heap.size + 1 := by rw [World.size_alloc]
  rw [hs1] at A2
  simp only [refCells, refZero] at A2 A3 B2
  clear A1 hc hs1
  obtain ⟨P, hP⟩ : ∃ P, P = w.heap.size := ⟨_, rfl⟩
  have HLW := Lib.hid hl
  clear hl
  unfold refVal
  go_enter Try.func72, Try.ntmps72
  go_wp2_with fail
  refine (WR.out _).mono ?_
  rintro e w3 ⟨rfl, hB⟩
  rw [hr]
  have hB3 : Below w.heap.size w w3 := B2.trans (hB.mono B2.size)
  have A2' := A2.kept (Turned.of_below hB (Nat.le_refl _) NoBlock) (fun h => h)
  have A3' := A3.kept (Turned.of_below hB (Nat.le_refl _) NoBlock) (fun h => h)
  have E := Lib.hid hP
  rw [← hP] at A2' A3' ⊢
  clear hP A2 A3 B2 hB hr
  obtain ⟨c0, c1, c2, c3, c4, c5⟩ := A3'.all6
  go_wp2_with fail
  refine (burnt_any r c w3 hu.out l0 l1).mono ?_
  rintro e w4 ⟨rfl, hB⟩
  have hB4 : Below w.heap.size w w4 := hB3.trans (hB.mono hB3.size)
  have A2'' := A2'.kept (Turned.of_below hB (Nat.le_refl _) NoBlock) (fun h => h)
  have A3'' := A3'.kept (Turned.of_below hB (Nat.le_refl _) NoBlock) (fun h => h)
  clear c0 c1 c2 c3 c4 c5 A2' A3' hB hB3
  obtain ⟨c0, c1, c2, c3, c4, c5⟩ := A3''.all6
  obtain ⟨f0, f1, f2, f3, f4, f5⟩ := A3''.thaw6
  have okc := ok.change
  have ews := mChange_ws c
  obtain ⟨d, hd⟩ : ∃ d, d = mChange c := ⟨_, rfl⟩
  rw [← hd] at okc ews
  simp only [refVal]
  rw [← hd]
  have D := Lib.hid hd
  have EW := Lib.hid ews
  clear hd ews
  go_wp2
  obtain ⟨W5, hW⟩ : ∃ W5, W5 = six w4 P (.slice (some ⟨r.gw, 0, none⟩) d.ws.length r.cw) (.slice (some ⟨r.ge, 0, none⟩) d.wear.length r.ce) (.int .i64 d.endure) (.int .i64 d.left) (.int .u32 (U d.pick)) (.bool (!d.up)) := ⟨_, rfl⟩
  have R5 := A3''.six (.slice (some ⟨r.gw, 0, none⟩) d.ws.length r.cw) (.slice (some ⟨r.ge, 0, none⟩) d.wear.length r.ce) (.int .i64 d.endure) (.int .i64 d.left) (.int .u32 (U d.pick)) (.bool (!d.up))
  have T5 := (Turned.refl (Just P) w4).six (P := P) (fun _ => rfl) (.slice (some ⟨r.gw, 0, none⟩) d.ws.length r.cw) (.slice (some ⟨r.ge, 0, none⟩) d.wear.length r.ce) (.int .i64 d.endure) (.int .i64 d.left) (.int .u32 (U d.pick)) (.bool (!d.up))
  rw [← hW] at R5 T5
  change Code.wp _ _ _ _ (six w4 P (.slice (some ⟨r.gw, 0, none⟩) d.ws.length r.cw) (.slice (some ⟨r.ge, 0, none⟩) d.wear.length r.ce) (.int .i64 d.endure) (.int .i64 d.left) (.int .u32 (U d.pick)) (.bool (!d.up)))
  rw [← hW]
  have hPw : P = w.heap.size := E.out
  have A25 := A2''.kept T5 (show ¬ (P + 1 = P) by omega)
  have hc5 : RefAt W5 r d := by
    have h0 := ((HC.out).below hB4).change
    rw [← D.out] at h0
    have g1 : r.ge < w.heap.size := HC.out.wear.lt
    have g2 : r.gw < w.heap.size := HC.out.words.lt
    exact h0.kept T5 (show ¬ (r.gw = P) by omega) (show ¬ (r.ge = P) by omega)
  have hB5 : Below w.heap.size w W5 := hB4.trans (T5.below (fun b hb => by have : b = P := hb; omega) hB4.size)
  clear hW c0 c1 c2 c3 c4 c5 f0 f1 f2 f3 f4 f5 A2'' A3'' T5 hB4 hPw
  obtain ⟨c0, c1, c2, c3, c4, c5⟩ := R5.all6
  obtain ⟨x, hx⟩ : ∃ x, x = wd c.ws i := ⟨_, rfl⟩
  have hid : i < d.ws.length := by rw [EW.out]; exact hi
  have gi := hc5.word i hid
  rw [EW.out, ← hx] at gi
  have X := Lib.hid hx
  have wle5 : d.ws.length ≤ r.cw := hc5.wle
  clear hx
  go_loop [10, 11] (fun z j => ∃ q : Nat, q ≤ 32 ∧ j = .int .i64 q ∧ z = .int .u32 (U (fieldB (x &&& v) 0 q))) (fun _ j => 32 - (intOf j).toNat)
  case atStart => exact ⟨0, by omega, rfl, by rw [show (((0 : Nat) : Int)) = 0 from rfl, and_start]; rfl⟩
  case round =>
    obtain ⟨q, hq, rfl, rfl⟩ := hrel
    by_cases hlt : q < 32
    · have PR := Lib.hid (and_bits x v q)
      have PL := and_bits_le x v q
      go_wp2_with fail
      refine (rfield_any x q 1 _ (by omega) (by omega)).mono ?_
      rintro e w6 ⟨rfl, hw⟩
      subst hw
      go_wp2_with fail
      refine (rfield_any v q 1 _ (by omega) (by omega)).mono ?_
      rintro e w6 ⟨rfl, hw⟩
      subst hw
      go_wp2_with fail
      rw [PR.out]
      have ST := Lib.hid (and_step (x &&& v) q hlt)
      refine (rput_any _ q 1 _ _ (by omega) (by omega)).mono ?_
      rintro e w6 ⟨rfl, hw⟩
      subst hw
      rw [ST.out]
      go_wp2
      go_round
      case rel => exact ⟨q + 1, by omega, by go_num, by rw [show ((q + 1 : Nat) : Int) = (q : Int) + 1 by omega]⟩
      case measure => simp [intOf]; omega
    · obtain rfl : q = 32 := by omega
      rw [show (((32 : Nat) : Int)) = 32 from rfl, and_end]
      have CH := Lib.hid (change_any' r d k i (x &&& v) d.pick (mBurn c) W5 hc5 okc hid)
      go_wp2_with fail
      refine Calls.mono CH.out ?_
      rintro e w6 ⟨r', rfl, hc6, hB6, hn6⟩
      have hB6w : Below w.heap.size w w6 := hB5.trans (hB6.mono hB5.size)
      have hsz := A25.lt
      have A26 := A25.kept (Turned.of_below hB6 (Nat.le_refl _) NoBlock) (fun h => h)
      have hm : mSet d i (if mBurn c = true then partB (wd d.ws i) (x &&& v) d.pick else x &&& v) = mProgramDo c i v := by
        have := program_parts c i v
        rw [← D.out, EW.out, ← X.out] at this
        rw [EW.out, ← X.out]
        exact this
      rw [hm] at hc6 ⊢
      clear hm c0 c1 c2 c3 c4 c5 gi R5 A25 hc5 CH
      have EB := Lib.hid (mErr_burn c)
      go_wp2_with fail
      refine (end_any (mBurn c) w6).mono ?_
      rintro e w7 ⟨rfl, hw⟩
      subst hw
      rw [← EB.out]
      obtain ⟨f, hf⟩ : ∃ f, f = mProgramDo c i v := ⟨_, rfl⟩
      rw [← hf] at hc6 ⊢
      have F := Lib.hid hf
      clear hf
      obtain ⟨d0, d1, d2, d3, d4, d5⟩ := A26.all6
      obtain ⟨h0, h1, h2, h3, h4, h5⟩ := A26.thaw6
      simp only [refVal]
      go_wp2
      obtain ⟨W9, hW⟩ : ∃ W9, W9 = six w7 (P + 1) (.slice (some ⟨r'.gw, 0, none⟩) f.ws.length r'.cw) (.slice (some ⟨r'.ge, 0, none⟩) f.wear.length r'.ce) (.int .i64 f.endure) (.int .i64 f.left) (.int .u32 (U f.pick)) (.bool (!f.up)) := ⟨_, rfl⟩
      have R9 := A26.six (.slice (some ⟨r'.gw, 0, none⟩) f.ws.length r'.cw) (.slice (some ⟨r'.ge, 0, none⟩) f.wear.length r'.ce) (.int .i64 f.endure) (.int .i64 f.left) (.int .u32 (U f.pick)) (.bool (!f.up))
      have T9 := (Turned.refl (Just (P + 1)) w7).six (P := P + 1) (fun _ => rfl) (.slice (some ⟨r'.gw, 0, none⟩) f.ws.length r'.cw) (.slice (some ⟨r'.ge, 0, none⟩) f.wear.length r'.ce) (.int .i64 f.endure) (.int .i64 f.left) (.int .u32 (U f.pick)) (.bool (!f.up))
      rw [← hW] at R9 T9
      change bodyPost _ _ _ _ _ (six w7 (P + 1) (.slice (some ⟨r'.gw, 0, none⟩) f.ws.length r'.cw) (.slice (some ⟨r'.ge, 0, none⟩) f.wear.length r'.ce) (.int .i64 f.endure) (.int .i64 f.left) (.int .u32 (U f.pick)) (.bool (!f.up)))
      rw [← hW]
      clear hW d0 d1 d2 d3 d4 d5 h0 h1 h2 h3 h4 h5
      obtain ⟨e0, e1, e2, e3, e4, e5⟩ := R9.all6
      refine bodyPost_ret (v := .tuple #[.agg #[.slice (some ⟨r'.gw, 0, none⟩) f.ws.length r'.cw, .slice (some ⟨r'.ge, 0, none⟩) f.wear.length r'.ce, .int .i64 f.endure, .int .i64 f.left, .int .u32 (U f.pick), .bool (!f.up)], .int .i64 (mErr c)]) (by simp [results, Try.results72, go_sem, e0, e1, e2, e3, e4, e5]) rfl ?_
      have hP := E.out
      have h0 := HC.out
      have g1 : r.ge < w.heap.size := h0.wear.lt
      have g2 : r.gw < w.heap.size := h0.words.lt
      have n1 : r'.gw ≠ P + 1 := by rcases hn6.1 with h | h <;> omega
      have n2 : r'.ge ≠ P + 1 := by rcases hn6.2 with h | h <;> omega
      rw [← F.out]
      exact ⟨r', rfl, hc6.kept T9 n1 n2, hB6w.trans (T9.below (fun b hb => by have : b = P + 1 := hb; omega) hB6w.size), (RefNew.refl w r).trans hB5.size hn6⟩

theorem rprogram_any (r : Rh) (c : ChipM) (k : Nat) (a : Int) (v : BitVec 32) (w : World) (hc : RefAt w r c) (ok : ChipOk k c) :
    Calls Try.prog 72 #[refVal r c, .int .i64 a, .int .u32 (U v)] w (RefOut2 w r (mProgram c a v).1 (mProgram c a v).2) := by
  unfold mProgram
  by_cases hr : mRefuse c a c.ws.length = 0
  · obtain ⟨_, h1, h2⟩ := refuse_zero hr
    obtain ⟨i, rfl⟩ := Int.eq_ofNat_of_zero_le h1
    rw [if_pos hr]
    exact rprogram_yes r c k i v w hc ok (by omega) hr
  · rw [if_neg hr]
    exact rprogram_no r c k a v w hc ok hr
end Go.Proofs.Ytfckgfimmoinmaa
