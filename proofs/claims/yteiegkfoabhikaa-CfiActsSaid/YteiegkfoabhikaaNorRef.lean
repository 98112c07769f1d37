/- Contracts of the document's own chip (layer nor): a value that reads as the plain chip says answers as the plain chip does; nothing that was there is turned. -/
import Derived.Test.YteiegkfoabhikaaRows
import Derived.Test.YteiegkfoabhikaaMem
import Derived.Test.YteiegkfoabhikaaNorRefMath
import Derived.Test.YteiegkfoabhikaaBitsRef
import Derived.Test.YteiegkfoabhikaaNor4
import Derived.Maps.AppendAt
import Derived.StillTailTactics
namespace Go.Proofs.Yteiegkfoabhikaa
open Go.RowKit Bm

/-- Where the rows of a chip by value lie: words and wear, their capacities, and what lies behind them. -/
structure Rh where
  gw : Nat
  ge : Nat
  cw : Nat
  ce : Nat
  r1 : List Value
  r2 : List Value

def refVal (r : Rh) (c : ChipM) : Value := .agg #[.slice (some ⟨r.gw, 0, none⟩) c.ws.length r.cw, .slice (some ⟨r.ge, 0, none⟩) c.wear.length r.ce, .int .i64 c.endure, .int .i64 c.left, .int .u32 (U c.pick), .bool (!c.up)]

structure RefAt (w : World) (r : Rh) (c : ChipM) : Prop where
  words : At w r.gw 30 (Us c.ws ++ r.r1)
  wear : At w r.ge 3 (Is c.wear ++ r.r2)
  wl : (Us c.ws ++ r.r1).length = r.cw
  el : (Is c.wear ++ r.r2).length = r.ce
  wm : r.cw ≤ maxLen
  em : r.ce ≤ maxLen

theorem RefAt.kept {w w' : World} {r : Rh} {c : ChipM} (h : RefAt w r c) {S : Nat → Prop} (k : Turned S w w') (h1 : ¬ S r.gw) (h2 : ¬ S r.ge) : RefAt w' r c := ⟨h.words.kept k h1, h.wear.kept k h2, h.wl, h.el, h.wm, h.em⟩
theorem RefAt.below {w w' : World} {r : Rh} {c : ChipM} (h : RefAt w r c) (hB : Below w.heap.size w w') : RefAt w' r c := h.kept (Turned.of_below hB (Nat.le_refl _) NoBlock) (fun h => h) (fun h => h)
theorem RefAt.word {w : World} {r : Rh} {c : ChipM} (h : RefAt w r c) (i : Nat) (hi : i < c.ws.length) : w.cell? ⟨r.gw, i, none⟩ = some (.int .u32 (U (wd c.ws i))) := by
  rw [h.words.cell, List.getElem?_append_left (by rw [Us_length]; exact hi), Us_get _ _ hi]
theorem RefAt.worn {w : World} {r : Rh} {c : ChipM} (h : RefAt w r c) (i : Nat) (hi : i < c.wear.length) : w.cell? ⟨r.ge, i, none⟩ = some (.int .i64 (nm c.wear i)) := by
  rw [h.wear.cell, List.getElem?_append_left (by rw [Is_length]; exact hi), Is_get _ _ hi]
theorem RefAt.wle {w : World} {r : Rh} {c : ChipM} (h : RefAt w r c) : c.ws.length ≤ r.cw := by rw [← h.wl, List.length_append, Us_length]; omega
theorem RefAt.ele {w : World} {r : Rh} {c : ChipM} (h : RefAt w r c) : c.wear.length ≤ r.ce := by rw [← h.el, List.length_append, Is_length]; omega
/-- The rows of r' are new, or r's. -/
def RefNew (w : World) (r r' : Rh) : Prop := (w.heap.size ≤ r'.gw ∨ r'.gw = r.gw) ∧ (w.heap.size ≤ r'.ge ∨ r'.ge = r.ge)
theorem RefNew.refl (w : World) (r : Rh) : RefNew w r r := ⟨.inr rfl, .inr rfl⟩
theorem RefNew.trans {w w1 : World} {r r1 r2 : Rh} (h : RefNew w r r1) (hs : w.heap.size ≤ w1.heap.size) (k : RefNew w1 r1 r2) : RefNew w r r2 :=
  ⟨k.1.elim (fun h => .inl (Nat.le_trans hs h)) (fun e => by rw [e]; exact h.1), k.2.elim (fun h => .inl (Nat.le_trans hs h)) (fun e => by rw [e]; exact h.2)⟩

theorem wrong_any (r : Rh) (c : ChipM) (n m : Int) (w : World) (hl : 1 ≤ c.ws.length) :
    Calls Try.prog 56 #[refVal r c, .int .i64 n, .int .i64 m] w fun e w' => e = .returned (.int .i64 (mRefuse c n m)) ∧ Below w.heap.size w w' := by
  have z : ((c.ws.length : Int) == 0) = false := by rw [beq_eq_false_iff_ne]; omega
  have fin : ∀ v, Below w.heap.size w (w.alloc v) := fun v => (Below.refl _ w).alloc (Nat.le_refl _) v
  unfold mRefuse refVal
  cases hu : c.up
  · go_enter Try.func56, Try.ntmps56
    go_wp2
    go_ret
    exact ⟨rfl, fin _⟩
  · by_cases hn : n < 0
    · go_enter Try.func56, Try.ntmps56
      go_wp2
      go_ret
      exact ⟨by simp, fin _⟩
    · by_cases hm : m ≤ n
      · go_enter Try.func56, Try.ntmps56
        go_wp2
        go_ret
        exact ⟨by simp, fin _⟩
      · go_enter Try.func56, Try.ntmps56
        go_wp2
        go_ret
        exact ⟨by simp, fin _⟩

theorem end_any (b : Bool) (w : World) : Calls Try.prog 60 #[.bool b] w fun e w' => e = .returned (.int .i64 (if b then 4 else 0)) ∧ w' = w := by
  cases b
  · go_enter Try.func60, Try.ntmps60
    go_wp2
    go_ret
    exact ⟨rfl, rfl⟩
  · go_enter Try.func60, Try.ntmps60
    go_wp2
    go_ret
    exact ⟨rfl, rfl⟩

set_option maxRecDepth 100000 in
set_option maxHeartbeats 1000000 in
theorem put_any' (g cap n i : Nat) (ws : List (BitVec 32)) (r1 : List Value) (x : BitVec 32) (w : World) (hA : At w g 30 (Us ws ++ r1)) (hl : ws.length = n) (hcap : (Us ws ++ r1).length = cap) (hm : cap ≤ maxLen) (hi : i < n) (hn : n ≤ 1000000) :
    Calls Try.prog 68 #[.slice (some ⟨g, 0, none⟩) n cap, .int .i64 i, .int .u32 (U x)] w (Fresh w 30 (Us (ws.set i x))) := by
  obtain ⟨i0, hin, hz0, hz1, hz2⟩ := info_parts infoU
  have hnc : n ≤ cap := by rw [← hcap, List.length_append, Us_length, hl]; omega
  have hmx : cap ≤ 9223372036854775807 := by unfold maxLen at hm; omega
  have HL := Lib.hid hl
  have HC := Lib.hid hcap
  clear hl hcap
  have j0 : (0 : Int) ≤ (i : Int) := by omega
  have j1 : (i : Int) + 1 ≤ (n : Int) := by omega
  by_cases hic : cap = i + 1
  · obtain rfl : n = i + 1 := by omega
    subst hic
    go_enter Try.func68, Try.ntmps68
    go_wp2_with (at_builtin; refine wpList_append_own_at _ rfl (.tmp 8) (.tmp 11) _ rfl w.heap.size 30 i0 _ 1 4 Try.underlying28 hin hz0 hz1 hz2 rfl (by omega) (.slice (some ⟨w.heap.size, 0, none⟩) 0 0) 0 [] rfl ?own ⟨g, 0, none⟩ i (i + 1) (Us (ws.take i)) rfl ?len ?news (Us_one _) (by unfold maxLen; omega) (by omega) (by simp) ?k)
    case own => exact World.ownsRow_made w #[] 0 (Nat.le_refl _) (by unfold maxLen; omega) rfl
    case len => rw [Us_length, List.length_take, HL.out]; omega
    case news =>
      intro j u hu
      have hj : j < i := by
        have := (List.getElem?_eq_some_iff.1 hu).1
        rw [Us_length, List.length_take, HL.out] at this
        omega
      have := (hA.alloc (.cells #[] 30)).cell j
      rw [add_zero_block, this, List.getElem?_append_left (by rw [Us_length, HL.out]; omega), ← hu]
      simp [Us, hj]
    case k =>
    intro v1 w1 hown1 hg1 _ hat1
    have hb1 : Below w.heap.size w w1 := ((Below.refl _ _).alloc (Nat.le_refl _) _).grown hg1 (by simp) (by intro k hk; simp [Value.ownBlock] at hk; omega)
    have hv1 : v1.ownBlock ≠ none ∧ ∀ k, v1.ownBlock = some k → w.heap.size ≤ k := by
      rcases hat1 with h | h
      · rw [h]; exact ⟨by simp [Value.ownBlock], fun k hk => by simp [Value.ownBlock] at hk; omega⟩
      · rw [h]; exact ⟨by simp, fun k hk => by simp at hk; omega⟩
    have hown1' := hown1.alloc (.cells #[.int .u32 (U x)] 30)
    have hs1 := hb1.size
    clear hg1 hat1 hown1
    go_wp2_with (at_builtin; refine wpList_append_own_at _ rfl (.tmp 13) (.tmp 15) _ rfl w.heap.size 30 i0 _ 1 4 Try.underlying28 hin hz0 hz1 hz2 rfl (by omega) v1 i (Us (ws.take i)) rfl hown1' ⟨w1.heap.size, 0, none⟩ 1 1 (Us [x]) rfl (by simp [Us]) ?news2 (Us_one _) (by unfold maxLen; omega) (by omega) (by simp; omega) ?k2)
    case news2 =>
      intro j u hu
      have := (At.news w1 30 (Us [x])).cell j
      rw [add_zero_block]
      exact this.trans hu
    case k2 =>
    intro v2 w2 hown2 hg2 _ hat2
    have hb2 : Below w.heap.size w w2 := (hb1.alloc hs1 _).grown hg2 (by simp; omega) hv1.2
    have hv2 : ∀ k, v2.ownBlock = some k → w.heap.size ≤ k := by
      rcases hat2 with h | h
      · rw [h]; exact hv1.2
      · rw [h]; intro k hk; simp at hk; omega
    have hA2 : At w2 g 30 (Us ws ++ r1) := hA.kept (Turned.of_below hb2 (Nat.le_refl _) NoBlock) (fun h => h)
    have hs2 := hb2.size
    clear hg2 hat2 hown1' hv1 hb1
    go_wp2_with (at_builtin; refine wpList_append_own_at _ rfl (.tmp 17) (.tmp 21) _ rfl w.heap.size 30 i0 _ 1 4 Try.underlying28 hin hz0 hz1 hz2 rfl (by omega) v2 (i + 1) (Us (ws.take i) ++ Us [x]) rfl hown2 ⟨g, 0, none⟩ 0 0 (Us (ws.drop (i + 1))) rfl ?len3 ?news3 (Us_one _) (by unfold maxLen; omega) (by omega) hs2 ?k3)
    case len3 => rw [Us_length, List.length_drop, HL.out]; omega
    case news3 =>
      intro j u hu
      have hj : j < i + 1 - (i + 1) := by
        have := (List.getElem?_eq_some_iff.1 hu).1
        rw [Us_length, List.length_drop, HL.out] at this
        exact this
      omega
    case k3 =>
    intro v3 w3 hown3 hg3 _ hat3
    have hb3 : Below w.heap.size w w3 := hb2.grown hg3 hs2 hv2
    obtain ⟨g3, c3, rfl, hbg, hlt3⟩ := hown3.form (by omega)
    obtain ⟨rest, hA3, hAl, hAm, _, hAn⟩ := At.of_own hown3 (by omega)
    have e : Us (ws.take i) ++ (Us [x] ++ Us (ws.drop (i + 1))) = Us (ws.set i x) := by
      rw [set_parts _ _ _ (by rw [HL.out]; exact hi), Us_append, Us_append]
    rw [e] at hA3 hAl hAn
    clear hg3 hat3 hown3 hown2 hv2 hA2
    go_wp2
    go_ret
    exact ⟨g3, c3, rest, by rw [hAn]; rfl, hA3, hAl, hAm, hbg, hb3⟩
  · have hic' : ¬ (cap = i + 1) := hic
    go_enter Try.func68, Try.ntmps68
    go_wp2_with (at_builtin; refine wpList_append_own_at _ rfl (.tmp 8) (.tmp 11) _ rfl w.heap.size 30 i0 _ 1 4 Try.underlying28 hin hz0 hz1 hz2 rfl (by omega) (.slice (some ⟨w.heap.size, 0, none⟩) 0 0) 0 [] rfl ?own ⟨g, 0, none⟩ i cap (Us (ws.take i)) rfl ?len ?news (Us_one _) (by unfold maxLen; omega) (by omega) (by simp) ?k)
    case own => exact World.ownsRow_made w #[] 0 (Nat.le_refl _) (by unfold maxLen; omega) rfl
    case len => rw [Us_length, List.length_take, HL.out]; omega
    case news =>
      intro j u hu
      have hj : j < i := by
        have := (List.getElem?_eq_some_iff.1 hu).1
        rw [Us_length, List.length_take, HL.out] at this
        omega
      have := (hA.alloc (.cells #[] 30)).cell j
      rw [add_zero_block, this, List.getElem?_append_left (by rw [Us_length, HL.out]; omega), ← hu]
      simp [Us, hj]
    case k =>
    intro v1 w1 hown1 hg1 _ hat1
    have hb1 : Below w.heap.size w w1 := ((Below.refl _ _).alloc (Nat.le_refl _) _).grown hg1 (by simp) (by intro k hk; simp [Value.ownBlock] at hk; omega)
    have hv1 : v1.ownBlock ≠ none ∧ ∀ k, v1.ownBlock = some k → w.heap.size ≤ k := by
      rcases hat1 with h | h
      · rw [h]; exact ⟨by simp [Value.ownBlock], fun k hk => by simp [Value.ownBlock] at hk; omega⟩
      · rw [h]; exact ⟨by simp, fun k hk => by simp at hk; omega⟩
    have hown1' := hown1.alloc (.cells #[.int .u32 (U x)] 30)
    have hs1 := hb1.size
    clear hg1 hat1 hown1
    go_wp2_with (at_builtin; refine wpList_append_own_at _ rfl (.tmp 13) (.tmp 15) _ rfl w.heap.size 30 i0 _ 1 4 Try.underlying28 hin hz0 hz1 hz2 rfl (by omega) v1 i (Us (ws.take i)) rfl hown1' ⟨w1.heap.size, 0, none⟩ 1 1 (Us [x]) rfl (by simp [Us]) ?news2 (Us_one _) (by unfold maxLen; omega) (by omega) (by simp; omega) ?k2)
    case news2 =>
      intro j u hu
      have := (At.news w1 30 (Us [x])).cell j
      rw [add_zero_block]
      exact this.trans hu
    case k2 =>
    intro v2 w2 hown2 hg2 _ hat2
    have hb2 : Below w.heap.size w w2 := (hb1.alloc hs1 _).grown hg2 (by simp; omega) hv1.2
    have hv2 : ∀ k, v2.ownBlock = some k → w.heap.size ≤ k := by
      rcases hat2 with h | h
      · rw [h]; exact hv1.2
      · rw [h]; intro k hk; simp at hk; omega
    have hA2 : At w2 g 30 (Us ws ++ r1) := hA.kept (Turned.of_below hb2 (Nat.le_refl _) NoBlock) (fun h => h)
    have hs2 := hb2.size
    clear hg2 hat2 hown1' hv1 hb1
    go_wp2_with (at_builtin; refine wpList_append_own_at _ rfl (.tmp 17) (.tmp 21) _ rfl w.heap.size 30 i0 _ 1 4 Try.underlying28 hin hz0 hz1 hz2 rfl (by omega) v2 (i + 1) (Us (ws.take i) ++ Us [x]) rfl hown2 ⟨g, i + 1, none⟩ (n - (i + 1)) (cap - (i + 1)) (Us (ws.drop (i + 1))) rfl ?len3 ?news3 (Us_one _) (by unfold maxLen; omega) (by omega) hs2 ?k3)
    case len3 => rw [Us_length, List.length_drop, HL.out]; omega
    case news3 =>
      intro j u hu
      have hj : j < n - (i + 1) := by
        have := (List.getElem?_eq_some_iff.1 hu).1
        rw [Us_length, List.length_drop, HL.out] at this
        exact this
      have e : (⟨g, i + 1, none⟩ : Addr).add j = ⟨g, i + 1 + j, none⟩ := by unfold Addr.add; split <;> simp_all
      rw [e, hA2.cell, List.getElem?_append_left (by rw [Us_length, HL.out]; omega)]
      rw [← hu]
      simp [Us, List.getElem?_drop]
    case k3 =>
    intro v3 w3 hown3 hg3 _ hat3
    have hb3 : Below w.heap.size w w3 := hb2.grown hg3 hs2 hv2
    obtain ⟨g3, c3, rfl, hbg, hlt3⟩ := hown3.form (by omega)
    obtain ⟨rest, hA3, hAl, hAm, _, hAn⟩ := At.of_own hown3 (by omega)
    have e : Us (ws.take i) ++ (Us [x] ++ Us (ws.drop (i + 1))) = Us (ws.set i x) := by
      rw [set_parts _ _ _ (by rw [HL.out]; exact hi), Us_append, Us_append]
    rw [e] at hA3 hAl hAn
    clear hg3 hat3 hown3 hown2 hv2 hA2
    go_wp2
    go_ret
    exact ⟨g3, c3, rest, by rw [hAn]; rfl, hA3, hAl, hAm, hbg, hb3⟩
end Go.Proofs.Yteiegkfoabhikaa
