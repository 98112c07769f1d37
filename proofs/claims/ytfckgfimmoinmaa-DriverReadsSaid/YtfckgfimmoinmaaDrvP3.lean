/- Contract of package driver's inOrder: steps up to the first error. -/
import Derived.Test.YtfckgfimmoinmaaDrvP2
namespace Go.Proofs.Ytfckgfimmoinmaa
open Go.RowKit Bm

/-- A step: its function, and its arguments. -/
structure Sp where
  f : Nat
  vs : Array Value
def Sp.clo (s : Sp) : Prop := s.f = 54 ∨ s.f = 61
def Sp.met (s : Sp) : Prop := s.f = 42 ∨ s.f = 43
/-- How it lies in memory: a closure, or a method value. -/
def Sp.IsV (s : Sp) (v : Value) : Prop := (s.clo ∧ v = .func (.func s.f) #[] s.vs) ∨ (s.met ∧ v = .func (.func s.f) s.vs #[])

/-- What a step answered: 0 and what comes next, or an error. -/
def Ends (S : World → Prop) (Q : Int → World → Prop) (e : Ending) (w' : World) : Prop := ∃ n, e = .returned (.int .i64 n) ∧ (n = 0 → S w') ∧ (n ≠ 0 → Q n w')

set_option maxRecDepth 100000 in
set_option maxHeartbeats 4000000 in
theorem inOrder_any (g : Nat) (l : List Sp) (cs : List Value) (S : Nat → World → Prop) (Q : Int → World → Prop) (w : World) (hl : l.length ≤ 4)
    (hv : ∀ (i : Nat) (sp : Sp), l[i]? = some sp → ∃ v, cs[i]? = some v ∧ sp.IsV v) (hcell : ∀ (i : Nat) (w : World), i < l.length → S i w → At w g 83 cs)
    (hstep : ∀ (i : Nat) (sp : Sp) (w : World), l[i]? = some sp → S i w → Calls Try.prog sp.f sp.vs w (Ends (S (i + 1)) Q)) (hend : ∀ w, S l.length w → Q 0 w) (h0 : S 0 w) :
    Calls Try.prog 40 #[.slice (some ⟨g, 0, none⟩) l.length l.length] w fun e w' => ∃ n, e = .returned (.int .i64 n) ∧ Q n w' := by
  obtain ⟨N, hN⟩ : ∃ N, N = l.length := ⟨_, rfl⟩
  rw [← hN] at hl hend ⊢
  have HV := Lib.hid hv
  have HC := Lib.hid hcell
  have HS := Lib.hid hstep
  have HE := Lib.hid hend
  have HN := Lib.hid hN
  clear hv hcell hstep hend hN
  go_enter Try.func40, Try.ntmps40
  go_wp2_with fail
  go_loopw [8] (fun i wr => ∃ j : Nat, j ≤ N ∧ i = .int .i64 j ∧ S j wr) (fun i _ => N - (intOf i).toNat)
  case atStart => exact ⟨0, by omega, rfl, h0⟩
  case round =>
    clear h0
    obtain ⟨j, hj, rfl, hs⟩ := hrel
    by_cases hlt : j < N
    · have i0 : (0 : Int) ≤ (j : Int) := by omega
      have i1 : (j : Int) < (N : Int) := by omega
      obtain ⟨sp, hsp⟩ : ∃ sp, l[j]? = some sp := ⟨_, List.getElem?_eq_getElem (by rw [← HN.out]; exact hlt)⟩
      obtain ⟨v, hv1, hv2⟩ := HV.out j sp hsp
      have c0 := (HC.out j wr (by rw [← HN.out]; exact hlt) hs).cell j
      rw [hv1] at c0
      have CL := Lib.hid (HS.out j sp wr hsp hs)
      obtain ⟨fn, vs⟩ := sp
      clear hsp hv1 hs
      rcases hv2 with ⟨h1 | h1, rfl⟩ | ⟨h1 | h1, rfl⟩
      all_goals
        dsimp only at h1 c0 CL
        subst h1
        go_wp2_with fail
        refine CL.out.mono ?_
        rintro e w1 ⟨n, rfl, k0, k1⟩
        have K0 := Lib.hid k0
        have K1 := Lib.hid k1
        clear k0 k1
        by_cases hn : n = 0
        · have q : (n != 0) = false := by rw [hn]; rfl
          have Z := Lib.hid (K0.out hn)
          clear hn
          go_wp2
          go_roundw
          case rel => exact ⟨j + 1, by omega, by go_num, Z.out⟩
          case measure => simp [intOf]; omega
        · have q : (n != 0) = true := by simpa using hn
          have Z := Lib.hid (K1.out hn)
          clear hn
          go_wp2
          go_ret
          exact ⟨n, rfl, Z.out⟩
    · obtain rfl : j = N := by omega
      have Z := Lib.hid (HE.out wr hs)
      clear hs
      go_wp2
      go_ret
      exact ⟨0, rfl, Z.out⟩
end Go.Proofs.Ytfckgfimmoinmaa
