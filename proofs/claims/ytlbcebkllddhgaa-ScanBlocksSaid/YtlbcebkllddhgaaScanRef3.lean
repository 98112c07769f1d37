/- Contract of the document's Words (layer scan). -/
import Derived.Test.YtlbcebkllddhgaaScanRef2
import Derived.Test.YtlbcebkllddhgaaScan3
namespace Go.Proofs.Ytlbcebkllddhgaa
open Go.RowKit Bm

theorem rbk_infoA : (Try.prog.info? 48).map (fun i => (i.zero, i.size, i.bytes)) = some (some (.agg (bkC bk0).toArray), 66, 304) := by kernel_rfl
theorem own_below {w w' : World} {base n k : Nat} {t : TypeId} {v : Value} {xs : List Value} (h : w.ownsRow base t k v n xs) (hb : Below w.heap.size w w') : w'.ownsRow base t k v n xs :=
  h.kept (w' := w') (row := none) ⟨hb.os, hb.tape, hb.output, hb.size, fun k hk _ => hb.block k hk⟩ (by cases v.ownBlock <;> simp)
theorem ReadsB.of_own {w : World} {base : Nat} {t : TypeId} {v : Value} {bs : List BlkM} {n : Nat} (h : w.ownsRow base t 66 v n (bks bs)) (hb : ∀ b ∈ bs, BlkOk b) (hn : n = bs.length) : ∃ A cap, v = .slice A bs.length cap ∧ ReadsB w A bs.length cap bs := by
  subst hn
  have h0 := h
  rcases h.2 with ⟨rfl, e⟩ | ⟨g, cap, cur, rfl, _⟩
  · have : bs = [] := List.eq_nil_of_length_eq_zero e
    subst this
    exact ⟨Option.none, 0, rfl, ReadsB.none w⟩
  · obtain ⟨rest, hA, _, h2, h3, _⟩ := at_of_own h0
    exact ⟨_, cap, rfl, ReadsB.of_at hA hb h2 h3⟩

set_option maxRecDepth 100000 in
set_option maxHeartbeats 2000000 in
theorem rwordsB_any (A : Option Addr) (n c : Nat) (ws : List (BitVec 32)) (w : World) (hA : ReadsU w A n c ws) : Calls Try.prog 11 #[.slice A n c] w fun e w' => ∃ B cap, e = .returned (.tuple #[.slice B (scOf ws).1.length cap, .int .i64 (scOf ws).2]) ∧ ReadsB w' B (scOf ws).1.length cap (scOf ws).1 ∧ Below w.heap.size w w' := by
  have hlen := hA.len
  have hle := hA.le
  have hmx := hA.max
  have hn0 : n ≤ 9223372036854775807 := by unfold maxLen at hmx; omega
  by_cases hg : n % 64 = 0 ∧ 1 ≤ n / 64 ∧ n / 64 ≤ 64
  · obtain ⟨m, rfl⟩ : ∃ m, n = 64 * m := ⟨n / 64, by omega⟩
    have m1 : 1 ≤ m := by omega
    have m2 : m ≤ 64 := by omega
    rw [scOf_good (hlen) m1 m2]
    rw [List.length_map, List.length_range]
    obtain ⟨ad, rfl, hlt, _⟩ := hA.cell (by omega)
    have HA := Lib.hid hA
    obtain ⟨i0, hin, hz0, hz1, hz2⟩ := info_parts rbk_infoA
    clear hA hg
    go_enter Try.func11, Try.ntmps11
    go_wp2
    go_loopw [5, 6] (fun o i wr => ∃ j : Nat, j ≤ m ∧ i = .int .i64 j ∧ wr.ownsRow w.heap.size 48 66 o j (bks (found ws (List.range j))) ∧ Below w.heap.size w wr) (fun _ i _ => m - (intOf i).toNat)
    case atStart => exact ⟨0, by omega, rfl, World.ownsRow_nil _ _ _ _, Below.refl _ _⟩
    case round =>
      obtain ⟨j, hj, rfl, ho, hB⟩ := hrel
      by_cases hltj : j < m
      · have i0' : (0 : Int) ≤ (j : Int) := by omega
        have i1' : (j : Int) < (m : Int) := by omega
        have RB := Lib.hid (rblock_any (ad.add (64 * j)) (c - 64 * j) (chunk ws j) _ ((HA.out.kept hB).sub (64 * j) 64 (c - 64 * j) (by omega) (by omega) (by omega)))
        have HO := Lib.hid ho
        have HB := Lib.hid hB
        have HL := Lib.hid (bk_len (bkOf_ok (chunk ws j)))
        clear ho hB
        go_wp2_with (first
          | (go_at_call 25; rw [show 64 * j + 64 - 64 * j = 64 by omega]; (with_reducible refine RB.out.mono ?_); rintro e V ⟨rfl, hb⟩; unfold bkV; have HOV := Lib.hid ((own_below HO.out hb).alloc (.cells (bkC (bkOf (chunk ws j))).toArray 48)); have HBV := Lib.hid (HB.out.trans (hb.mono HB.out.size)); clear hb)
          | (refine wpList_build_one _ rfl rfl rfl Try.underlying28 hin hz0 hz1 (cs := (bkC (bkOf (chunk ws j))).toArray) (by simpa using HL.out) (by omega) (by omega) ?_)
          | (at_builtin; refine halt_here ?_))
        refine Lib.hid ?_
        refine wpList_append_lies _ rfl _ _ _ rfl w.heap.size 48 i0 _ 66 304 Try.underlying28 hin hz0 hz1 hz2 (by show (bkC bk0).toArray.size = 66; simpa using bk_len bk0_ok) (by omega) _ j _ rfl HOV.out ⟨V.heap.size, 0, none⟩ 1 1 (bkC (bkOf (chunk ws j))) rfl (by rw [HL.out]) (At.news V _ _).news_at (bk_one _) (by omega) (by unfold maxLen; omega) (by omega) (by have := HBV.out.size; simp; omega) _ rfl ?_
        intro g cap w' h1 h2 h3 h4
        simp only [Act.put, List.setIfInBounds_toArray, List.set_cons_zero, List.set_cons_succ]
        have hB' : Below w.heap.size w w' := (HBV.out.alloc HBV.out.size (.cells (bkC (bkOf (chunk ws j))).toArray 48)).grown h2 (by have := HBV.out.size; simp; omega) (fun k hk => (HOV.out.lt k hk).1)
        go_wp2
        go_roundw
        case rel => exact ⟨j + 1, by omega, by go_num, by rw [List.range_succ, found_snoc, bks_snoc]; exact h1, hB'⟩
        case measure => simp [intOf]; omega
      · obtain rfl : j = m := by omega
        go_wp2
        obtain ⟨B, cap, rfl, hR⟩ := ReadsB.of_own ho (found_ok _ _) (by rw [found_len, List.length_range])
        rw [found_len, List.length_range] at hR
        exact bodyPost_ret (results_tmp2 rfl _ _ _) rfl ⟨B, cap, by rw [found_len, List.length_range]; rfl, hR, hB⟩
  · rw [scOf_bad (by rw [hlen]; exact hg)]
    have hn1 : (0 : Int) ≤ (n : Int) := by omega
    go_enter Try.func11, Try.ntmps11
    go_wp2
    all_goals first
      | (exfalso; omega)
      | exact bodyPost_ret (results_tmp2 rfl _ _ _) rfl ⟨none, 0, rfl, ReadsB.none w, Below.refl _ _⟩
end Go.Proofs.Ytlbcebkllddhgaa
