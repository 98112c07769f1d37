/- Layer sector, the document's device: sectors with another one, a command, Set, Same. -/
import Derived.Test.YtpkkejdjhnmjiaaSec2
import Derived.Test.YtpkkejdjhnmjiaaBuild
namespace Go.Proofs.Ytpkkejdjhnmjiaa
open Go.RowKit Bm

theorem Kd.Reads.take {α : Type} {K : Kd α} {w : World} {A : Option Addr} {n c : Nat} {xs : List α} (h : K.Reads w A n c xs) {m : Nat} (hm : m ≤ n) : K.Reads w A m c (xs.take m) :=
  ⟨by rw [List.length_take, h.len, Nat.min_eq_left hm], Nat.le_trans hm h.le, h.max, fun h0 => by
    obtain ⟨g, off, e, hg, hc⟩ := h.cell (by omega)
    refine ⟨g, off, e, hg, fun j x hj => hc j x ?_⟩
    rw [List.getElem?_take] at hj
    split at hj
    · exact hj
    · cases hj⟩
theorem Kd.Reads.drop {α : Type} {K : Kd α} {w : World} {g off : Nat} {n c : Nat} {xs : List α} (h : K.Reads w (some ⟨g, off, Option.none⟩) n c xs) {m : Nat} (hm : m ≤ n) (off' : Nat) (ho : off' = off + m * K.k) : K.Reads w (some ⟨g, off', Option.none⟩) (n - m) (c - m) (xs.drop m) :=
  ⟨by rw [List.length_drop, h.len], Nat.sub_le_sub_right h.le m, Nat.le_trans (Nat.sub_le _ _) h.max, fun h0 => by
    obtain ⟨g', off2, e, hg, hc⟩ := h.cell (by omega)
    cases e
    refine ⟨g, off', rfl, hg, fun j x hj => ?_⟩
    rw [List.getElem?_drop] at hj
    have := hc (m + j) x hj
    rwa [show off + (m + j) * K.k = off' + j * K.k by rw [ho, Nat.add_mul]; omega] at this⟩

set_option maxRecDepth 100000 in
set_option maxHeartbeats 4000000 in
theorem rput10_any (A : Option Addr) (n c : Nat) (xs : List V4) (w : World) (hR : v4K.Reads w A n c xs) (hn : n ≤ 1000) (i : Nat) (hi : i < n) (v : V4) :
    Calls Try.prog 27 #[.slice A n c, .int .i64 i, .agg (v4C v).toArray] w fun e w' => ∃ B cap, e = .returned (.slice B n cap) ∧ w'.ownsRow w.heap.size 39 4 (.slice B n cap) n (v4K.all (xs.set i v)) ∧ Below w.heap.size w w' := by
  obtain ⟨i0, hin, hz0, hz1, hz2⟩ := info_parts v4_infoA
  obtain ⟨g, off, rfl, hg, -⟩ := hR.cell (by omega)
  have hc := hR.le
  have hm := hR.max
  have h1 : (i : Int) ≤ c := by omega
  have h2 : (0 : Int) ≤ i := by omega
  have h3 : (i : Int) + 1 ≤ n := by omega
  have h4 : (n : Int) ≤ c := by omega
  have h5 : (0 : Int) ≤ (i : Int) + 1 := by omega
  have HR := Lib.hid hR
  clear hR
  go_enter Try.func27, Try.ntmps27
  go_wp2_with (at_builtin; refine halt_here ?_)
  refine Lib.hid ?_
  have hE : At ((w.alloc (.cells (v4C v).toArray 39)).alloc (.cells #[] 39)) (w.heap.size + 1) 39 ([] ++ []) := At.alloc_new _ _ _ (by rw [World.size_alloc]) rfl
  have hV : At ((w.alloc (.cells (v4C v).toArray 39)).alloc (.cells #[] 39)) w.heap.size 39 (v4C v) := (At.news w _ _).alloc _
  have hb0 : Below w.heap.size w ((w.alloc (.cells (v4C v).toArray 39)).alloc (.cells #[] 39)) := below_two w _ _
  have hs0 : ((w.alloc (.cells (v4C v).toArray 39)).alloc (.cells #[] 39)).heap.size = w.heap.size + 2 := by rw [World.size_alloc, World.size_alloc]
  refine wpList_join (K := v4K) (base := w.heap.size + 1) (xs := []) (ys := xs.take i) (.tmp 8) (.tmp 11) rfl rfl Try.underlying25 hin hz0 hz1 hz2 (by rfl) (by omega) (v := .slice (some ⟨w.heap.size + 1, 0, none⟩) 0 0) (by rfl) (own_of_at (xs := v4K.all []) (rest := []) hE (Nat.le_refl _) rfl rfl (Nat.le_refl _) (Nat.zero_le _)) (by rfl) ((HR.out.kept hb0).take (by omega)) (by simp; omega) (by rw [hs0]; omega) ?_
  intro B cap w1 o1 b1 _
  have e : ([] : List V4).length + i = i := Nat.zero_add i
  rw [e, List.nil_append] at o1
  rw [e]
  simp only [Act.put, List.setIfInBounds_toArray, List.set_cons_zero, List.set_cons_succ]
  have hV1 : At w1 w.heap.size 39 (v4C v) := (b1.block _ (by omega)).trans hV
  have hb1 : Below w.heap.size w w1 := hb0.trans (b1.mono (by omega))
  have z1 : w.heap.size + 2 ≤ w1.heap.size := by have := b1.size; omega
  have O1 := Lib.hid o1
  have B1 := Lib.hid b1
  have HB1 := Lib.hid hb1
  have Z1 := Lib.hid z1
  clear o1 b1 hb0 hs0 hE hV
  have HV1 := Lib.hid hV1
  obtain ⟨q0, q1, q2, q3⟩ := v4_cells hV1.rng0
  go_wp2_with (first
    | (refine wpList_ldr (xs := v4C v) _ rfl rfl rfl Try.underlying39 rfl v4_size (v4_len v) HV1.out.rng0 ?_)
    | (refine wpList_build_one _ rfl rfl rfl Try.underlying25 hin hz0 hz1 (cs := (v4C v).toArray) (by rfl) (by omega) (by omega) ?_)
    | (at_builtin; refine halt_here ?_))
  refine Lib.hid ?_
  have hxl : (xs.take i).length = i := by rw [List.length_take, HR.out.len]; omega
  refine wpList_snoc (K := v4K) (base := w.heap.size + 1) (xs := xs.take i) (y := v) (v := .slice B i cap) Try.underlying25 hin hz0 hz1 hz2 (by rfl) (by omega) _ _ (by rfl) (by rfl) (by rfl) (by rw [hxl]; exact O1.out.alloc (.cells (v4C v).toArray 39)) (by rfl) (At.news w1 _ _) (by rw [hxl]; omega) (by have := Z1.out; simp; omega) ?_
  intro g2 cap2 w2 o2 b2
  simp only [Act.put, List.setIfInBounds_toArray, List.set_cons_zero, List.set_cons_succ]
  rw [List.length_append, List.length_singleton, hxl] at o2
  rw [hxl]
  have b2' : Below (w.heap.size + 1) w1 w2 := ((Below.refl _ w1).alloc (by have := Z1.out; omega) _).trans b2
  have O2 := Lib.hid o2
  have HB2 := Lib.hid (HB1.out.trans (b2'.mono (by omega)))
  have Z2 : Hid (w.heap.size + 2 ≤ w2.heap.size) := Lib.hid (by have := b2'.size; have := Z1.out; omega)
  clear o2 b2 b2' q0 q1 q2 q3
  go_wp2_with (at_builtin; refine halt_here ?_)
  all_goals (
    have hl1 : (xs.take i ++ [v]).length = i + 1 := by rw [List.length_append, hxl]; rfl
    have hl2 : i + 1 + (n - (i + 1)) = n := by omega
    have hset : xs.set i v = xs.take i ++ [v] ++ xs.drop (i + 1) := by rw [List.set_eq_take_append_cons_drop, if_pos (by rw [HR.out.len]; exact hi), List.append_assoc]; rfl)
  · rename_i hci
    have hn1 : xs.drop (i + 1) = [] := List.drop_eq_nil_of_le (by rw [HR.out.len]; omega)
    have hr : v4K.Reads w2 (some ⟨g, off, none⟩) (n - (i + 1)) 0 (xs.drop (i + 1)) := by rw [hn1, show n - (i + 1) = 0 by omega]; exact ⟨rfl, Nat.le_refl _, Nat.zero_le _, fun h => absurd h (by omega)⟩
    refine Lib.hid ?_
    refine wpList_join (K := v4K) (base := w.heap.size + 1) (xs := xs.take i ++ [v]) (ys := xs.drop (i + 1)) (.tmp 17) (.tmp 21) rfl rfl Try.underlying25 hin hz0 hz1 hz2 (by rfl) (by omega) (v := .slice (some ⟨g2, 0, none⟩) (i + 1) cap2) (by rfl) (by rw [hl1]; exact O2.out) (by rfl) hr (by rw [hl1]; omega) (by have := Z2.out; omega) ?_
    intro B3 cap3 w3 o3 b3 _
    rw [hl1, hl2, ← hset] at o3
    rw [hl1, hl2]
    simp only [Act.put, List.setIfInBounds_toArray, List.set_cons_zero, List.set_cons_succ]
    have O3 := Lib.hid (own_base (base' := w.heap.size) o3 (by omega))
    have HB3 := Lib.hid (HB2.out.trans (b3.mono (by omega)))
    clear o3 b3
    go_wp2
    go_ret
    exact ⟨B3, cap3, rfl, O3.out, HB3.out⟩
  · rename_i hci
    have hr : v4K.Reads w2 (some ⟨g, off + (i + 1) * 4, none⟩) (n - (i + 1)) (c - (i + 1)) (xs.drop (i + 1)) := (HR.out.kept HB2.out).drop (m := i + 1) (by omega) _ rfl
    refine Lib.hid ?_
    refine wpList_join (K := v4K) (base := w.heap.size + 1) (xs := xs.take i ++ [v]) (ys := xs.drop (i + 1)) (.tmp 17) (.tmp 21) rfl rfl Try.underlying25 hin hz0 hz1 hz2 (by rfl) (by omega) (v := .slice (some ⟨g2, 0, none⟩) (i + 1) cap2) (by rfl) (by rw [hl1]; exact O2.out) (by rfl) hr (by rw [hl1]; omega) (by have := Z2.out; omega) ?_
    intro B3 cap3 w3 o3 b3 _
    rw [hl1, hl2, ← hset] at o3
    rw [hl1, hl2]
    simp only [Act.put, List.setIfInBounds_toArray, List.set_cons_zero, List.set_cons_succ]
    have O3 := Lib.hid (own_base (base' := w.heap.size) o3 (by omega))
    have HB3 := Lib.hid (HB2.out.trans (b3.mono (by omega)))
    clear o3 b3
    go_wp2
    go_ret
    exact ⟨B3, cap3, rfl, O3.out, HB3.out⟩
end Go.Proofs.Ytpkkejdjhnmjiaa
