/- Contracts of the document's own answers for layer page: which pages may be, and their words. | Contracts of the document's own answers for layer page: two rows of words compared; free; heads; places. | Contracts of the document's own answers for layer page: what words are, as a head, and as a page. -/
import Derived.Test.YtnfgpjfldgocaaaGreatPageMath
import Derived.Test.YtnfgpjfldgocaaaGreatLaw
import Derived.Test.YtnfgpjfldgocaaaGreatNorLawM
import Derived.Test.YtnfgpjfldgocaaaGreatPageEq
import Derived.Laws.Rows
import Derived.Test.YtnfgpjfldgocaaaGreatWordsEq
import Derived.BigRegion
namespace Go.Proofs.YtnfgpjfldgocaaaGreat
open Go.RowKit Bm

/-- What a call made: a slice that reads as the words xs; where there are any it is of its own; nothing that was there has turned. -/
def OutW (w : World) (xs : List (BitVec 32)) (e : Ending) (w' : World) : Prop :=
  ∃ A cap, e = .returned (.slice A xs.length cap) ∧ ReadsU w' A xs.length cap xs ∧ (0 < xs.length → ∃ g rest, A = some ⟨g, 0, none⟩ ∧ At w' g 38 (Us xs ++ rest) ∧ (Us xs ++ rest).length = cap ∧ w.heap.size ≤ g) ∧ Below w.heap.size w w'

theorem reads_nil (w : World) (A : Option Addr) : ReadsU w A 0 0 [] := ⟨rfl, Nat.le_refl _, by unfold maxLen; omega, fun h => absurd h (by omega)⟩
theorem outW_nil {w w' : World} {A : Option Addr} (h : Below w.heap.size w w') : OutW w [] (.returned (.slice A 0 0)) w' := ⟨A, 0, rfl, reads_nil _ _, fun h => absurd h (by simp), h⟩
theorem outW_new {w w' : World} {g : Nat} {xs : List (BitVec 32)} {n : Nat} (hn : n = xs.length) (hA : At w' g 38 (Us xs)) (hm : xs.length ≤ maxLen) (hg : w.heap.size ≤ g) (h : Below w.heap.size w w') : OutW w xs (.returned (.slice (some ⟨g, 0, none⟩) n n)) w' := by
  subst hn
  refine ⟨some ⟨g, 0, none⟩, xs.length, rfl, ?_, fun _ => ⟨g, [], rfl, by simpa using hA, by simp [Us_length], hg⟩, h⟩
  exact ReadsU.of_at (rest := []) (by simpa using hA) (by simp [Us_length]) hm

theorem At.on {w w' : World} {b : Nat} {t : TypeId} {cs : List Value} (h : At w b t cs) (hb : Below w.heap.size w w') : At w' b t cs := h.kept (Turned.of_below hb (Nat.le_refl _) NoBlock) (fun h => h)
/-- The cells of a page that is boxed. -/
structure PgAt (w : World) (b : Nat) (t : TypeId) (p : PageM) : Prop where
  at_ : At w b t (pgC p)
theorem PgAt.cells {w : World} {b : Nat} {t : TypeId} {p : PageM} (h : PgAt w b t p) : w.cell? ⟨b, 0, none⟩ = some (.int .u32 (U p.s)) ∧ w.cell? ⟨b, 1, none⟩ = some (.int .u32 (U p.q)) ∧ w.cell? ⟨b, 2, none⟩ = some (.bool p.g) ∧ w.cell? ⟨b, 3, none⟩ = some (.int .u32 (U p.d0)) ∧ w.cell? ⟨b, 4, none⟩ = some (.int .u32 (U p.d1)) ∧ w.cell? ⟨b, 5, none⟩ = some (.int .u32 (U p.d2)) ∧ w.cell? ⟨b, 6, none⟩ = some (.int .u32 (U p.d3)) :=
  ⟨h.at_.cell 0, h.at_.cell 1, h.at_.cell 2, h.at_.cell 3, h.at_.cell 4, h.at_.cell 5, h.at_.cell 6⟩
theorem PgAt.news (w : World) (t : TypeId) (p : PageM) : PgAt (w.alloc (.cells (pgC p).toArray t)) w.heap.size t p := ⟨At.news w t _⟩
theorem PgAt.on {w w' : World} {b : Nat} {t : TypeId} {p : PageM} (h : PgAt w b t p) (hb : Below w.heap.size w w') : PgAt w' b t p := ⟨h.at_.on hb⟩
theorem PgAt.other {w w' : World} {b b' : Nat} {t : TypeId} {p : PageM} (h : PgAt w b t p) (hb : Turned (fun i => i = b') w w') (hne : b ≠ b') : PgAt w' b t p := ⟨h.at_.kept hb hne⟩
theorem PgAt.put7 {w : World} {g : Nat} {t : TypeId} {p0 : PageM} (h : PgAt w g t p0) (p : PageM) : PgAt (((((((w.setCell ⟨g, 0, none⟩ (.int .u32 (U p.s))).setCell ⟨g, 1, none⟩ (.int .u32 (U p.q))).setCell ⟨g, 2, none⟩ (.bool p.g)).setCell ⟨g, 3, none⟩ (.int .u32 (U p.d0))).setCell ⟨g, 4, none⟩ (.int .u32 (U p.d1))).setCell ⟨g, 5, none⟩ (.int .u32 (U p.d2))).setCell ⟨g, 6, none⟩ (.int .u32 (U p.d3))) g t p :=
  ⟨(((((((h.at_.put 0 _).put 1 _).put 2 _).put 3 _).put 4 _).put 5 _).put 6 _).as rfl⟩
theorem PgAt.put7_below {a w : World} {B g : Nat} (h : Below B a w) (hg : B ≤ g) (v0 v1 v2 v3 v4 v5 v6 : Value) : Below B a (((((((w.setCell ⟨g, 0, none⟩ v0).setCell ⟨g, 1, none⟩ v1).setCell ⟨g, 2, none⟩ v2).setCell ⟨g, 3, none⟩ v3).setCell ⟨g, 4, none⟩ v4).setCell ⟨g, 5, none⟩ v5).setCell ⟨g, 6, none⟩ v6) :=
  ((((((h.setCell (p := ⟨g, 0, none⟩) hg _).setCell (p := ⟨g, 1, none⟩) hg _).setCell (p := ⟨g, 2, none⟩) hg _).setCell (p := ⟨g, 3, none⟩) hg _).setCell (p := ⟨g, 4, none⟩) hg _).setCell (p := ⟨g, 5, none⟩) hg _).setCell (p := ⟨g, 6, none⟩) hg _
theorem PgAt.drewN {w : World} {g : Nat} {t : TypeId} {p : PageM} (h : PgAt w g t p) (n : Nat) : PgAt (w.drewN n) g t p := ⟨h.at_.drewN n⟩
theorem PgAt.drew {w : World} {g : Nat} {t : TypeId} {p : PageM} (h : PgAt w g t p) : PgAt w.drew g t p := ⟨h.at_.drew⟩
theorem rpg_size : (Tryz.prog.info? 69).map (·.size) = some 7 := by kernel_rfl
/-- The results of a function that returns a page and a number, the page out of its variable. -/
theorem rpg_res2 {fn : Func} {i j : Tmp} (h : fn.results = #[.cell i 69, .tmp j]) (tmps : Array Value) {w : World} {g : Nat} {p : PageM} {v : Value} (hp : tmps.getD i undef = .pointer (some ⟨g, 0, none⟩)) (hq : tmps.getD j undef = v) (hA : PgAt w g 69 p) :
    (results fn tmps).run Tryz.prog w = .ok (.tuple #[pgV p, v]) w := by
  have hp' : tmps[i]?.getD undef = .pointer (some ⟨g, 0, none⟩) := by simpa using hp
  have hq' : tmps[j]?.getD undef = v := by simpa using hq
  simp [results, h, hp', hq', asAddr, run_loadVar_row (P := Tryz.prog) w g 69 69 (pgC p).toArray (0, 0) _ hA.at_ Tryz.underlying69 rfl (by rw [rpg_size]; simp [pgC]), pgV]
theorem U0 (x : BitVec 32) : (U x == 0) = (x == 0#32) := U_beq x 0#32

set_option maxRecDepth 100000 in
theorem rright_any (p : PageM) (w : World) : Calls Tryz.prog 123 #[pgV p] w fun e w' => e = .returned (.bool (pgOk p)) ∧ Below w.heap.size w w' := by
  obtain ⟨s, q, g, d0, d1, d2, d3⟩ := p
  have s0 := U_nonneg s
  have q0 := U_nonneg q
  have B0 : ∀ o, Below w.heap.size w (w.alloc o) := fun o => (Below.refl _ w).alloc (Nat.le_refl _) o
  by_cases h1 : U s < 512
  · by_cases h2 : 1 ≤ U q
    · by_cases h3 : U q ≤ 2147483648
      · cases g
        · unfold pgV pgC
          go_enter Tryz.func123, Tryz.ntmps123
          go_wp2
          go_ret
          exact ⟨by simp [pgOk, h1, h2, h3], B0 _⟩
        · unfold pgV pgC
          go_enter Tryz.func123, Tryz.ntmps123
          go_wp2
          go_ret
          have e : pgOk ⟨s, q, true, d0, d1, d2, d3⟩ = (U d0 == 0 && (U d1 == 0 && (U d2 == 0 && U d3 == 0))) := by
            simp only [U0, pgOk, pgData0, h1, h2, h3, decide_true, Bool.true_and, Bool.not_true, Bool.false_or]
          rw [e]
          exact ⟨rfl, B0 _⟩
      · unfold pgV pgC
        go_enter Tryz.func123, Tryz.ntmps123
        go_wp2
        go_ret
        rw [show pgOk ⟨s, q, g, d0, d1, d2, d3⟩ = false by simp only [pgOk, Bool.and_eq_false_iff, decide_eq_false_iff_not]; omega]
        exact ⟨rfl, B0 _⟩
    · unfold pgV pgC
      go_enter Tryz.func123, Tryz.ntmps123
      go_wp2
      go_ret
      rw [show pgOk ⟨s, q, g, d0, d1, d2, d3⟩ = false by simp only [pgOk, Bool.and_eq_false_iff, decide_eq_false_iff_not]; omega]
      exact ⟨rfl, B0 _⟩
  · unfold pgV pgC
    go_enter Tryz.func123, Tryz.ntmps123
    go_wp2
    go_ret
    rw [show pgOk ⟨s, q, g, d0, d1, d2, d3⟩ = false by simp only [pgOk, Bool.and_eq_false_iff, decide_eq_false_iff_not]; omega]
    exact ⟨rfl, B0 _⟩

set_option maxRecDepth 100000 in
theorem rwords_any (p : PageM) (w : World) : Calls Tryz.prog 91 #[pgV p] w (OutW w (pgWs p)) := by
  have RR := Lib.hid (fun W => rright_any p W)
  cases hp : pgOk p
  · rw [hp] at RR
    rw [pgWs_no hp]
    clear hp
    obtain ⟨s, q, g, d0, d1, d2, d3⟩ := p
    unfold pgV pgC at *
    go_enter Tryz.func91, Tryz.ntmps91
    go_wp2_with (go_at_call 123; (refine (RR.out _).mono ?_); rintro e w1 ⟨rfl, hb⟩)
    go_ret
    exact outW_nil (((Below.refl _ w).alloc (Nat.le_refl _) _).trans (hb.mono (by simp)))
  · have hs : U p.s < 512 := by
      unfold pgOk at hp
      simp only [Bool.and_eq_true, decide_eq_true_eq] at hp
      exact hp.1
    rw [hp] at RR
    rw [pgWs_yes hp]
    clear hp
    obtain ⟨s, q, g, d0, d1, d2, d3⟩ := p
    simp only at hs
    have s0 := U_nonneg s
    cases g
    · unfold pgV pgC at *
      go_enter Tryz.func91, Tryz.ntmps91
      go_wp2_with (go_at_call 123; (refine (RR.out _).mono ?_); rintro e w1 ⟨rfl, hb⟩; have A := Lib.hid ((PgAt.news w 69 ⟨s, q, false, d0, d1, d2, d3⟩).on hb); obtain ⟨c0, c1, c2, c3, c4, c5, c6⟩ := A.out.cells; have HB := Lib.hid hb; clear hb)
      go_ret
      refine outW_new (xs := [pgFirst ⟨s, q, false, d0, d1, d2, d3⟩, q, d0, d1, d2, d3, 1526644958#32]) rfl ?_ (by unfold maxLen; simp) ?_ ?_
      · simp only [Us, List.map]
        exact At.news _ _ _
      · have := HB.out.size
        simp at this
        omega
      · exact (((Below.refl _ w).alloc (Nat.le_refl _) _).trans (HB.out.mono (by simp))).alloc (by have := HB.out.size; simp at this; omega) _
    · have F := pgFirst_U (p := ⟨s, q, true, d0, d1, d2, d3⟩) hs rfl
      unfold pgV pgC at *
      go_enter Tryz.func91, Tryz.ntmps91
      go_wp2_with (go_at_call 123; (refine (RR.out _).mono ?_); rintro e w1 ⟨rfl, hb⟩; have A := Lib.hid ((PgAt.news w 69 ⟨s, q, true, d0, d1, d2, d3⟩).on hb); obtain ⟨c0, c1, c2, c3, c4, c5, c6⟩ := A.out.cells; have HB := Lib.hid hb; clear hb)
      go_ret
      refine outW_new (xs := [pgFirst ⟨s, q, true, d0, d1, d2, d3⟩, q, d0, d1, d2, d3, 1526644958#32]) rfl ?_ (by unfold maxLen; simp) ?_ ?_
      · simp only [Us, List.map, F]
        exact At.news _ _ _
      · have := HB.out.size
        simp at this
        omega
      · exact (((Below.refl _ w).alloc (Nat.le_refl _) _).trans (HB.out.mono (by simp))).alloc (by have := HB.out.size; simp at this; omega) _
end Go.Proofs.YtnfgpjfldgocaaaGreat

namespace Go.Proofs.YtnfgpjfldgocaaaGreat
open Go.RowKit Bm

theorem freeB_yes {xs : List (BitVec 32)} (h : ∀ i, i < xs.length → wd xs i = 4294967295#32) : freeB xs = true := by
  unfold freeB
  rw [List.all_eq_true]
  intro x hx
  obtain ⟨i, hi, rfl⟩ := List.getElem_of_mem hx
  have := h i hi
  unfold wd at this
  rw [List.getD_eq_getElem?_getD, List.getElem?_eq_getElem hi] at this
  simpa using this
theorem freeB_no {xs : List (BitVec 32)} {i : Nat} (hi : i < xs.length) (h : wd xs i ≠ 4294967295#32) : freeB xs = false := by
  unfold freeB
  rw [List.all_eq_false]
  refine ⟨xs[i], List.getElem_mem hi, ?_⟩
  unfold wd at h
  rw [List.getD_eq_getElem?_getD, List.getElem?_eq_getElem hi] at h
  simpa using h

set_option maxRecDepth 100000 in
theorem rfree_any (A : Option Addr) (n c : Nat) (xs : List (BitVec 32)) (w : World) (hA : ReadsU w A n c xs) (hn : n ≤ 1000000) :
    Calls Tryz.prog 88 #[.slice A n c] w fun e w' => e = .returned (.bool (freeB xs)) ∧ w' = w := by
  have hAl := hA.le
  go_enter Tryz.func88, Tryz.ntmps88
  go_wp2
  go_loop [3] (fun i => ∃ j : Nat, j ≤ n ∧ i = .int .i64 j ∧ ∀ i, i < j → wd xs i = 4294967295#32) (fun i => n - (intOf i).toNat)
  case atStart => exact ⟨0, by omega, rfl, fun i h => absurd h (by omega)⟩
  case round =>
    obtain ⟨j, hj, rfl, hs⟩ := hrel
    have HS := Lib.hid hs
    clear hs
    by_cases hlt : j < n
    · obtain ⟨a, rfl, ha⟩ := hA.at_ hlt
      have i0 : (0 : Int) ≤ (j : Int) := by omega
      have i1 : (j : Int) < (n : Int) := by omega
      by_cases hv : wd xs j = 4294967295#32
      · have HV := Lib.hid hv
        rw [hv] at ha
        clear hv
        go_wp2
        go_round
        case rel => exact ⟨j + 1, by omega, by go_num, fun i hi => by
          by_cases e : i = j
          · rw [e]; exact HV.out
          · exact HS.out i (by omega)⟩
        case measure => simp [intOf]; omega
      · have e := Lib.hid (freeB_no (by rw [hA.len]; exact hlt) hv)
        have hu : ¬ U (wd xs j) = 4294967295 := by rw [show (4294967295 : Int) = U 4294967295#32 from rfl, U_eq_iff]; exact hv
        clear hv
        go_wp2
        go_ret
        rw [e.out]
        exact ⟨rfl, rfl⟩
    · obtain rfl : j = n := by omega
      go_wp2
      go_ret
      rw [freeB_yes (fun i hi => HS.out i (by rw [← hA.len]; exact hi))]
      exact ⟨rfl, rfl⟩

set_option maxRecDepth 100000 in
theorem rheader_any (x : BitVec 32) (w : World) : Calls Tryz.prog 90 #[.int .u32 (U x)] w (OutW w (hdWs x)) := by
  have x0 := U_nonneg x
  by_cases h : U x ≤ 2147483648
  · rw [hdWs_yes h]
    have e : 4294967295 - U x = U (~~~x) := by
      unfold U
      rw [BitVec.toNat_not]
      have := x.isLt
      omega
    have E := Lib.hid e
    clear e
    go_enter Tryz.func90, Tryz.ntmps90
    go_wp2
    go_ret
    refine outW_new (xs := [2970353665#32, x, ~~~x, 1526644958#32]) rfl ?_ (by unfold maxLen; simp) (Nat.le_refl _) ((Below.refl _ w).alloc (Nat.le_refl _) _)
    simp only [Us, List.map, ← E.out]
    exact At.news _ _ _
  · rw [hdWs_no h]
    go_enter Tryz.func90, Tryz.ntmps90
    go_wp2
    go_ret
    exact outW_nil (Below.refl _ w)

end Go.Proofs.YtnfgpjfldgocaaaGreat

namespace Go.Proofs.YtnfgpjfldgocaaaGreat
open Go.RowKit Bm

theorem below_drewN' (B : Nat) (w : World) (n : Nat) : Below B w (w.drewN n) := ⟨rfl, rfl, rfl, Nat.le_refl _, fun _ _ => rfl⟩
theorem hdRd_far {xs : List (BitVec 32)} (h : xs.length ≠ 4) : hdRd xs = (0#32, 2) := by unfold hdRd; rw [if_neg h]
theorem hdRd_free {xs : List (BitVec 32)} (h : xs.length = 4) (hf : freeB xs = true) : hdRd xs = (0#32, 0) := by unfold hdRd; rw [if_pos h, if_pos hf]
theorem hdRd_good {xs : List (BitVec 32)} (h : xs.length = 4) (hf : freeB xs = false) (e : hdWs (wd xs 1) = xs) : hdRd xs = (wd xs 1, 1) := by unfold hdRd; rw [if_pos h, if_neg (by simp [hf]), if_pos e]
theorem hdRd_torn {xs : List (BitVec 32)} (h : xs.length = 4) (hf : freeB xs = false) (e : ¬ hdWs (wd xs 1) = xs) : hdRd xs = (0#32, 2) := by unfold hdRd; rw [if_pos h, if_neg (by simp [hf]), if_neg e]
theorem pgRd_far {xs : List (BitVec 32)} (h : xs.length ≠ 7) : pgRd xs = (pg0, 2) := by unfold pgRd; rw [if_neg h]
theorem pgRd_free {xs : List (BitVec 32)} (h : xs.length = 7) (hf : freeB xs = true) : pgRd xs = (pg0, 0) := by unfold pgRd; rw [if_pos h, if_pos hf]
theorem pgRd_good {xs : List (BitVec 32)} (h : xs.length = 7) (hf : freeB xs = false) (e : pgWs (pgOf xs) = xs) : pgRd xs = (pgOf xs, 1) := by unfold pgRd; rw [if_pos h, if_neg (by simp [hf]), if_pos e]
theorem pgRd_torn {xs : List (BitVec 32)} (h : xs.length = 7) (hf : freeB xs = false) (e : ¬ pgWs (pgOf xs) = xs) : pgRd xs = (pg0, 2) := by unfold pgRd; rw [if_pos h, if_neg (by simp [hf]), if_neg e]

theorem ReadsU.some_ {w : World} {A : Option Addr} {n cap : Nat} {xs : List (BitVec 32)} (h : ReadsU w A n cap xs) (hn : 0 < n) : ∃ a, A = some a := by
  obtain ⟨a, e, _⟩ := h.cell hn
  exact ⟨a, e⟩
theorem ReadsU.c0 {w : World} {a : Addr} {n cap : Nat} {xs : List (BitVec 32)} (h : ReadsU w (some a) n cap xs) (hn : 0 < n) : w.cell? a = some (.int .u32 (U (wd xs 0))) := by
  obtain ⟨b, e, hc⟩ := h.at_ hn
  injection e with e
  subst e
  unfold Addr.add at hc
  rwa [if_pos rfl] at hc
theorem ReadsU.cj {w : World} {a : Addr} {n cap : Nat} {xs : List (BitVec 32)} (h : ReadsU w (some a) n cap xs) (j : Nat) (hj : j < n) (h0 : 0 < j) : w.cell? ⟨a.block, a.off + j, none⟩ = some (.int .u32 (U (wd xs j))) := by
  obtain ⟨b, e, hc⟩ := h.at_ hj
  injection e with e
  subst e
  unfold Addr.add at hc
  rwa [if_neg (by omega)] at hc

set_option maxRecDepth 100000 in
theorem rcount_any (A : Option Addr) (n c : Nat) (xs : List (BitVec 32)) (w : World) (hA : ReadsU w A n c xs) (hn : n ≤ 1000000) :
    Calls Tryz.prog 67 #[.slice A n c] w fun e w' => e = .returned (.tuple #[.int .u32 (U (hdRd xs).1), .int .i64 (hdRd xs).2]) ∧ Below w.heap.size w w' := by
  have hAl := hA.le
  have hlen := hA.len
  by_cases h7 : n = 4
  · subst h7
    have FR := Lib.hid (fun W (h : ReadsU W A 4 c xs) => rfree_any A 4 c xs W h (by omega))
    cases hf : freeB xs
    · rw [hf] at FR
      obtain ⟨a, rfl⟩ := hA.some_ (by omega)
      have HC := Lib.hid (rheader_any (wd xs 1) w)
      have HA := Lib.hid hA
      have c1 := hA.cj 1 (by omega) (by omega)
      have hl : (hdWs (wd xs 1)).length ≤ 1000000 := by rcases hdWs_len (wd xs 1) with h | h <;> omega
      have HL := Lib.hid hl
      by_cases hv : hdWs (wd xs 1) = xs
      · rw [hdRd_good hlen hf hv]
        have HV := Lib.hid (decide_eq_true hv)
        clear hv hf hlen hA hl
        go_enter Tryz.func67, Tryz.ntmps67
        go_wp2_with (first
          | (go_at_call 88; (refine (FR.out _ HA.out).mono ?_); rintro e w1 ⟨rfl, rfl⟩)
          | (go_at_call 90; (refine HC.out.mono ?_); rintro e w2 ⟨A2, c2, rfl, hr, _, hb⟩; have HR := Lib.hid hr; have HB := Lib.hid hb; have HA2 := Lib.hid (HA.out.kept hb); have c2 := HA2.out.cj 1 (by omega) (by omega); clear hr hb)
          | (go_at_call 89; (refine (words_eq_any _ _ _ _ _ _ _ _ _ HR.out HA2.out HL.out (by omega)).mono ?_); rintro e w3 ⟨rfl, k, rfl⟩; rw [HV.out]))
        go_ret2
        exact ⟨rfl, HB.out.trans (below_drewN' _ _ _)⟩
      · rw [hdRd_torn hlen hf hv]
        have HV := Lib.hid (decide_eq_false hv)
        clear hv hf hlen hA hl
        go_enter Tryz.func67, Tryz.ntmps67
        go_wp2_with (first
          | (go_at_call 88; (refine (FR.out _ HA.out).mono ?_); rintro e w1 ⟨rfl, rfl⟩)
          | (go_at_call 90; (refine HC.out.mono ?_); rintro e w2 ⟨A2, c2, rfl, hr, _, hb⟩; have HR := Lib.hid hr; have HB := Lib.hid hb; have HA2 := Lib.hid (HA.out.kept hb); clear hr hb)
          | (go_at_call 89; (refine (words_eq_any _ _ _ _ _ _ _ _ _ HR.out HA2.out HL.out (by omega)).mono ?_); rintro e w3 ⟨rfl, k, rfl⟩; rw [HV.out]))
        go_ret2
        exact ⟨rfl, HB.out.trans (below_drewN' _ _ _)⟩
    · rw [hf] at FR
      rw [hdRd_free hlen hf]
      have HA := Lib.hid hA
      clear hf hlen hA
      go_enter Tryz.func67, Tryz.ntmps67
      go_wp2_with (go_at_call 88; (refine (FR.out _ HA.out).mono ?_); rintro e w1 ⟨rfl, rfl⟩)
      go_ret2
      exact ⟨rfl, Below.refl _ _⟩
  · rw [hdRd_far (by omega)]
    have h7' : ¬ (n : Int) = 4 := by omega
    go_enter Tryz.func67, Tryz.ntmps67
    go_wp2
    go_ret2
    exact ⟨rfl, Below.refl _ _⟩
end Go.Proofs.YtnfgpjfldgocaaaGreat
