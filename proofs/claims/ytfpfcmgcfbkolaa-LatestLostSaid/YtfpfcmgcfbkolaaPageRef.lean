/- Contracts of the document's own answers for layer page: which pages may be, and their words. -/
import Derived.Test.YtfpfcmgcfbkolaaPageMath
import Derived.Test.YtfpfcmgcfbkolaaLaw
import Derived.Test.YtfpfcmgcfbkolaaNorSame
import Derived.Test.YtfpfcmgcfbkolaaPageEq
import Derived.Laws.Rows
namespace Go.Proofs.Ytfpfcmgcfbkolaa
open Go.RowKit Bm

/-- What a call made: a slice that reads as the words xs; where there are any it is of its own; nothing that was there has turned. -/
def OutW (w : World) (xs : List (BitVec 32)) (e : Ending) (w' : World) : Prop :=
  ∃ A cap, e = .returned (.slice A xs.length cap) ∧ ReadsU w' A xs.length cap xs ∧ (0 < xs.length → ∃ g rest, A = some ⟨g, 0, none⟩ ∧ At w' g 34 (Us xs ++ rest) ∧ (Us xs ++ rest).length = cap ∧ w.heap.size ≤ g) ∧ Below w.heap.size w w'

theorem reads_nil (w : World) (A : Option Addr) : ReadsU w A 0 0 [] := ⟨rfl, Nat.le_refl _, by unfold maxLen; omega, fun h => absurd h (by omega)⟩
theorem outW_nil {w w' : World} {A : Option Addr} (h : Below w.heap.size w w') : OutW w [] (.returned (.slice A 0 0)) w' := ⟨A, 0, rfl, reads_nil _ _, fun h => absurd h (by simp), h⟩
theorem outW_new {w w' : World} {g : Nat} {xs : List (BitVec 32)} {n : Nat} (hn : n = xs.length) (hA : At w' g 34 (Us xs)) (hm : xs.length ≤ maxLen) (hg : w.heap.size ≤ g) (h : Below w.heap.size w w') : OutW w xs (.returned (.slice (some ⟨g, 0, none⟩) n n)) w' := by
  subst hn
  refine ⟨some ⟨g, 0, none⟩, xs.length, rfl, ?_, fun _ => ⟨g, [], rfl, by simpa using hA, by simp [Us_length], hg⟩, h⟩
  exact ReadsU.of_at (rest := []) (by simpa using hA) (by simp [Us_length]) hm

theorem At.on {w w' : World} {b : Nat} {t : TypeId} {cs : List Value} (h : At w b t cs) (hb : Below w.heap.size w w') : At w' b t cs := h.kept (Turned.of_below hb (Nat.le_refl _) NoBlock) (fun h => h)
/-- The cells of a page that is boxed. -/
structure PgAt (w : World) (b : Nat) (t : TypeId) (p : PageM) : Prop where
  at_ : At w b t (pgC p)
theorem PgAt.cells {w : World} {b : Nat} {t : TypeId} {p : PageM} (h : PgAt w b t p) : w.cell? ⟨b, 0, none⟩ = some (.int .u32 (U p.s)) ∧ w.cell? ⟨b, 1, none⟩ = some (.int .u32 (U p.q)) ∧ w.cell? ⟨b, 2, none⟩ = some (.bool p.g) ∧ w.cell? ⟨b, 3, none⟩ = some (.int .u32 (U p.d0)) ∧ w.cell? ⟨b, 4, none⟩ = some (.int .u32 (U p.d1)) ∧ w.cell? ⟨b, 5, none⟩ = some (.int .u32 (U p.d2)) ∧ w.cell? ⟨b, 6, none⟩ = some (.int .u32 (U p.d3)) :=
  ⟨h.at_.cell 0, h.at_.cell 1, h.at_.cell 2, h.at_.cell 3, h.at_.cell 4, h.at_.cell 5, h.at_.cell 6⟩
theorem PgAt.news (w : World) (t : TypeId) (p : PageM) : PgAt (w.alloc (.cells (pgC p).toArray t)) w.heap.size t p := ⟨At.news w t _⟩
theorem PgAt.on {w w' : World} {b : Nat} {t : TypeId} {p : PageM} (h : PgAt w b t p) (hb : Below w.heap.size w w') : PgAt w' b t p := ⟨h.at_.on hb⟩
theorem PgAt.other {w w' : World} {b b' : Nat} {t : TypeId} {p : PageM} (h : PgAt w b t p) (hb : Turned (fun i => i = b') w w') (hne : b ≠ b') : PgAt w' b t p := ⟨h.at_.kept hb hne⟩
theorem PgAt.put7 {w : World} {g : Nat} {t : TypeId} {p0 : PageM} (h : PgAt w g t p0) (p : PageM) : PgAt (((((((w.setCell ⟨g, 0, none⟩ (.int .u32 (U p.s))).setCell ⟨g, 1, none⟩ (.int .u32 (U p.q))).setCell ⟨g, 2, none⟩ (.bool p.g)).setCell ⟨g, 3, none⟩ (.int .u32 (U p.d0))).setCell ⟨g, 4, none⟩ (.int .u32 (U p.d1))).setCell ⟨g, 5, none⟩ (.int .u32 (U p.d2))).setCell ⟨g, 6, none⟩ (.int .u32 (U p.d3))) g t p :=
  ⟨(((((((h.at_.put 0 _).put 1 _).put 2 _).put 3 _).put 4 _).put 5 _).put 6 _).as rfl⟩
theorem PgAt.put7_below {a w : World} {B g : Nat} (h : Below B a w) (hg : B ≤ g) (v0 v1 v2 v3 v4 v5 v6 : Value) : Below B a (((((((w.setCell ⟨g, 0, none⟩ v0).setCell ⟨g, 1, none⟩ v1).setCell ⟨g, 2, none⟩ v2).setCell ⟨g, 3, none⟩ v3).setCell ⟨g, 4, none⟩ v4).setCell ⟨g, 5, none⟩ v5).setCell ⟨g, 6, none⟩ v6) :=
  ((((((h.setCell (p := ⟨g, 0, none⟩) hg _).setCell (p := ⟨g, 1, none⟩) hg _).setCell (p := ⟨g, 2, none⟩) hg _).setCell (p := ⟨g, 3, none⟩) hg _).setCell (p := ⟨g, 4, none⟩) hg _).setCell (p := ⟨g, 5, none⟩) hg _).setCell (p := ⟨g, 6, none⟩) hg _
theorem PgAt.drewN {w : World} {g : Nat} {t : TypeId} {p : PageM} (h : PgAt w g t p) (n : Nat) : PgAt (w.drewN n) g t p := ⟨h.at_.drewN n⟩
theorem PgAt.drew {w : World} {g : Nat} {t : TypeId} {p : PageM} (h : PgAt w g t p) : PgAt w.drew g t p := ⟨h.at_.drew⟩
theorem rpg_size : (Try.prog.info? 46).map (·.size) = some 7 := by kernel_rfl
/-- The results of a function that returns a page and a number, the page out of its variable. -/
theorem rpg_res2 {fn : Func} {i j : Tmp} (h : fn.results = #[.cell i 46, .tmp j]) (tmps : Array Value) {w : World} {g : Nat} {p : PageM} {v : Value} (hp : tmps.getD i undef = .pointer (some ⟨g, 0, none⟩)) (hq : tmps.getD j undef = v) (hA : PgAt w g 46 p) :
    (results fn tmps).run Try.prog w = .ok (.tuple #[pgV p, v]) w := by
  have hp' : tmps[i]?.getD undef = .pointer (some ⟨g, 0, none⟩) := by simpa using hp
  have hq' : tmps[j]?.getD undef = v := by simpa using hq
  simp [results, h, hp', hq', asAddr, run_loadVar_row (P := Try.prog) w g 46 46 (pgC p).toArray (0, 0) _ hA.at_ Try.underlying46 rfl (by rw [rpg_size]; simp [pgC]), pgV]
theorem U0 (x : BitVec 32) : (U x == 0) = (x == 0#32) := U_beq x 0#32

set_option maxRecDepth 100000 in
theorem rright_any (p : PageM) (w : World) : Calls Try.prog 33 #[pgV p] w fun e w' => e = .returned (.bool (pgOk p)) ∧ Below w.heap.size w w' := by
  obtain ⟨s, q, g, d0, d1, d2, d3⟩ := p
  have s0 := U_nonneg s
  have q0 := U_nonneg q
  have B0 : ∀ o, Below w.heap.size w (w.alloc o) := fun o => (Below.refl _ w).alloc (Nat.le_refl _) o
  by_cases h1 : U s < 512
  · by_cases h2 : 1 ≤ U q
    · by_cases h3 : U q ≤ 2147483648
      · cases g
        · unfold pgV pgC
          go_enter Try.func33, Try.ntmps33
          go_wp2
          go_ret
          exact ⟨by simp [pgOk, h1, h2, h3], B0 _⟩
        · unfold pgV pgC
          go_enter Try.func33, Try.ntmps33
          go_wp2
          go_ret
          have e : pgOk ⟨s, q, true, d0, d1, d2, d3⟩ = (U d0 == 0 && (U d1 == 0 && (U d2 == 0 && U d3 == 0))) := by
            simp only [U0, pgOk, pgData0, h1, h2, h3, decide_true, Bool.true_and, Bool.not_true, Bool.false_or]
          rw [e]
          exact ⟨rfl, B0 _⟩
      · unfold pgV pgC
        go_enter Try.func33, Try.ntmps33
        go_wp2
        go_ret
        rw [show pgOk ⟨s, q, g, d0, d1, d2, d3⟩ = false by simp only [pgOk, Bool.and_eq_false_iff, decide_eq_false_iff_not]; omega]
        exact ⟨rfl, B0 _⟩
    · unfold pgV pgC
      go_enter Try.func33, Try.ntmps33
      go_wp2
      go_ret
      rw [show pgOk ⟨s, q, g, d0, d1, d2, d3⟩ = false by simp only [pgOk, Bool.and_eq_false_iff, decide_eq_false_iff_not]; omega]
      exact ⟨rfl, B0 _⟩
  · unfold pgV pgC
    go_enter Try.func33, Try.ntmps33
    go_wp2
    go_ret
    rw [show pgOk ⟨s, q, g, d0, d1, d2, d3⟩ = false by simp only [pgOk, Bool.and_eq_false_iff, decide_eq_false_iff_not]; omega]
    exact ⟨rfl, B0 _⟩

set_option maxRecDepth 100000 in
theorem rwords_any (p : PageM) (w : World) : Calls Try.prog 34 #[pgV p] w (OutW w (pgWs p)) := by
  have RR := Lib.hid (fun W => rright_any p W)
  cases hp : pgOk p
  · rw [hp] at RR
    rw [pgWs_no hp]
    clear hp
    obtain ⟨s, q, g, d0, d1, d2, d3⟩ := p
    unfold pgV pgC at *
    go_enter Try.func34, Try.ntmps34
    go_wp2_with (go_at_call 33; (refine (RR.out _).mono ?_); rintro e w1 ⟨rfl, hb⟩)
    go_ret
    exact outW_nil (((Below.refl _ w).alloc (Nat.le_refl _) _).trans (hb.mono (by simp)))
  · have hs : U p.s < 512 := by
      unfold pgOk at hp
      simp only [Bool.and_eq_true, decide_eq_true_eq] at hp
      exact hp.1
    rw [hp] at RR
    rw [pgWs_yes hp]
    clear hp
    obtain ⟨s, q, g, d0, d1, d2, d3⟩ := p
    simp only at hs
    have s0 := U_nonneg s
    cases g
    · unfold pgV pgC at *
      go_enter Try.func34, Try.ntmps34
      go_wp2_with (go_at_call 33; (refine (RR.out _).mono ?_); rintro e w1 ⟨rfl, hb⟩; have A := Lib.hid ((PgAt.news w 46 ⟨s, q, false, d0, d1, d2, d3⟩).on hb); obtain ⟨c0, c1, c2, c3, c4, c5, c6⟩ := A.out.cells; have HB := Lib.hid hb; clear hb)
      go_ret
      refine outW_new (xs := [pgFirst ⟨s, q, false, d0, d1, d2, d3⟩, q, d0, d1, d2, d3, 1526644958#32]) rfl ?_ (by unfold maxLen; simp) ?_ ?_
      · simp only [Us, List.map]
        exact At.news _ _ _
      · have := HB.out.size
        simp at this
        omega
      · exact (((Below.refl _ w).alloc (Nat.le_refl _) _).trans (HB.out.mono (by simp))).alloc (by have := HB.out.size; simp at this; omega) _
    · have F := pgFirst_U (p := ⟨s, q, true, d0, d1, d2, d3⟩) hs rfl
      unfold pgV pgC at *
      go_enter Try.func34, Try.ntmps34
      go_wp2_with (go_at_call 33; (refine (RR.out _).mono ?_); rintro e w1 ⟨rfl, hb⟩; have A := Lib.hid ((PgAt.news w 46 ⟨s, q, true, d0, d1, d2, d3⟩).on hb); obtain ⟨c0, c1, c2, c3, c4, c5, c6⟩ := A.out.cells; have HB := Lib.hid hb; clear hb)
      go_ret
      refine outW_new (xs := [pgFirst ⟨s, q, true, d0, d1, d2, d3⟩, q, d0, d1, d2, d3, 1526644958#32]) rfl ?_ (by unfold maxLen; simp) ?_ ?_
      · simp only [Us, List.map, F]
        exact At.news _ _ _
      · have := HB.out.size
        simp at this
        omega
      · exact (((Below.refl _ w).alloc (Nat.le_refl _) _).trans (HB.out.mono (by simp))).alloc (by have := HB.out.size; simp at this; omega) _
end Go.Proofs.Ytfpfcmgcfbkolaa
