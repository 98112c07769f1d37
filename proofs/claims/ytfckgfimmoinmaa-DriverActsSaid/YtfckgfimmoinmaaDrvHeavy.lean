/- The helper heavy of layer driver's statements. -/
import Derived.Test.YtfckgfimmoinmaaDrvOpens
import Derived.Test.YtfckgfimmoinmaaLaw
import Derived.Test.YtfckgfimmoinmaaNorSame
import Derived.Lib.Hide
namespace Go.Proofs.Ytfckgfimmoinmaa
open Go.RowKit Bm

theorem ActWAt.d0 {w : World} {a : Addr} {x : ActW} (h : ActWAt w a x) : w.cell? a = some (.int .u8 x.kind) := by have := h.c0; unfold Addr.add at this; rwa [if_pos rfl] at this
theorem ActWAt.d1 {w : World} {a : Addr} {x : ActW} (h : ActWAt w a x) : w.cell? ⟨a.block, a.off + 1, none⟩ = some (.int .i64 x.at_) := h.c1
theorem ActWAt.d2 {w : World} {a : Addr} {x : ActW} (h : ActWAt w a x) : w.cell? ⟨a.block, a.off + 2, none⟩ = some (.int .i64 x.many) := h.c2
theorem ActWAt.d3 {w : World} {a : Addr} {x : ActW} (h : ActWAt w a x) : w.cell? ⟨a.block, a.off + 3, none⟩ = some (.slice x.A x.n x.cap) := h.c3
/-- An act that is asked. -/
def Light (x : ActW) : Prop := x.n ≤ 10 ∧ x.at_ ≤ 1099511627776 ∧ -1099511627776 ≤ x.at_

/-- What heavy answers. -/
def HeavyOut (n : Nat) (xs : List ActW) (w : World) (e : Ending) (w' : World) : Prop := ∃ b, e = .returned (.bool b) ∧ (b = false → n ≤ 50 ∧ ∀ (i : Nat) (x : ActW), xs[i]? = some x → Light x) ∧ Below w.heap.size w w'

set_option maxRecDepth 100000 in
set_option maxHeartbeats 4000000 in
theorem heavy_any (A : Option Addr) (n cap : Nat) (xs : List ActW) (w : World) (hr : ReadsW w A n cap xs) :
    Calls Try.prog 11 #[.slice A n cap] w (HeavyOut n xs w) := by
  have hle := hr.le
  have hmx := hr.max
  unfold maxLen at hmx
  have HR := Lib.hid hr
  clear hr
  go_enter Try.func11, Try.ntmps11
  go_wp2_with fail
  go_loopw [7] (fun i wr => ∃ j : Nat, j ≤ n ∧ i = .int .i64 j ∧ Below w.heap.size w wr ∧ ∀ (i : Nat) (x : ActW), i < j → xs[i]? = some x → Light x) (fun i _ => n - (intOf i).toNat)
  case atStart => exact ⟨0, by omega, rfl, Below.refl _ _, fun i x h => absurd h (by omega)⟩
  case round =>
    obtain ⟨j, hj, rfl, hb, hl⟩ := hrel
    have HB := Lib.hid hb
    have HL := Lib.hid hl
    clear hb hl
    by_cases hlt : j < n
    · obtain ⟨ad, x, rfl, hxj, hx⟩ := (HR.out.kept HB.out).at_ hlt
      have i0 : (0 : Int) ≤ (j : Int) := by omega
      have i1 : (j : Int) < (n : Int) := by omega
      have x0 := hx.d0
      have x1 := hx.d1
      have x2 := hx.d2
      have x3 := hx.d3
      have HX := Lib.hid hx
      have HXJ := Lib.hid hxj
      have BW := Lib.hid (HB.out.alloc HB.out.size (.cells [.int .u8 x.kind, .int .i64 x.at_, .int .i64 x.many, .slice x.A x.n x.cap].toArray 43))
      clear hx hxj
      by_cases hlight : Light x
      · obtain ⟨l1, l2, l3⟩ := hlight
        have m1 : ¬ (10 : Int) < (x.n : Int) := by omega
        have m2 : ¬ (1099511627776 : Int) < x.at_ := by omega
        have m3 : ¬ x.at_ < (-1099511627776 : Int) := by omega
        have LL : Hid (Light x) := Lib.hid ⟨l1, l2, l3⟩
        clear l1 l2 l3
        go_wp2
        go_roundw
        case rel => exact ⟨j + 1, by omega, by go_num, BW.out, fun i y hi hy => by
          by_cases e : i = j
          · subst e
            rw [HXJ.out] at hy
            injection hy with hy
            rw [← hy]; exact LL.out
          · exact HL.out i y (by omega) hy⟩
        case measure => simp [intOf]; omega
      · by_cases m1 : (10 : Int) < (x.n : Int)
        · go_wp2
          go_ret
          exact ⟨true, rfl, fun h => absurd h (by decide), BW.out⟩
        by_cases m2 : (1099511627776 : Int) < x.at_
        · go_wp2
          go_ret
          exact ⟨true, rfl, fun h => absurd h (by decide), BW.out⟩
        have m3 : x.at_ < (-1099511627776 : Int) := by
          have : ¬ (x.n ≤ 10 ∧ x.at_ ≤ 1099511627776 ∧ -1099511627776 ≤ x.at_) := hlight
          omega
        clear hlight
        go_wp2
        go_ret
        exact ⟨true, rfl, fun h => absurd h (by decide), BW.out⟩
    · obtain rfl : j = n := by omega
      by_cases m1 : (50 : Int) < (j : Int)
      · go_wp2
        go_ret
        exact ⟨true, rfl, fun h => absurd h (by decide), HB.out⟩
      · have m2 : j ≤ 50 := by omega
        go_wp2
        go_ret
        exact ⟨false, rfl, fun _ => ⟨m2, fun i x hx => HL.out i x (by rw [← HR.out.len]; exact (List.getElem?_eq_some_iff.1 hx).1) hx⟩, HB.out⟩
end Go.Proofs.Ytfckgfimmoinmaa
