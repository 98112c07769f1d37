/- Contract of the program's page.Words. -/
import Derived.Test.YtfpfcmgcfbkolaaPage2
import Derived.BigRegion
import Derived.Deep.DeepCutAuto
import Derived.Deep.AppendLies
import Derived.Deep.RegionLaw
import Derived.Lib.Hide
namespace Go.Proofs.Ytfpfcmgcfbkolaa
open Go.RowKit Bm

theorem or_high {x : BitVec 32} (h : U x < 512) : x ||| 2147483648#32 = x + 2147483648#32 := by
  refine (BitVec.add_eq_or_of_and_eq_zero _ _ ?_).symm
  apply BitVec.eq_of_getLsbD_eq
  intro i hi
  have hx : x.toNat < 512 := by unfold U at h; omega
  rw [BitVec.getLsbD_and]
  by_cases e : i = 31
  · subst e
    have : x.getLsbD 31 = false := Nat.testBit_lt_two_pow (by omega)
    rw [this]; simp
  · have : (2147483648#32).getLsbD i = false := by
      rw [show (2147483648#32 : BitVec 32) = BitVec.twoPow 32 31 from rfl, BitVec.getLsbD_twoPow]
      simp; omega
    rw [this]; simp
theorem U_orH (x : BitVec 32) : bits .or .u32 (U x) 2147483648 = U (x ||| 2147483648#32) := U_or x 2147483648#32

theorem own_two (V : World) (a b : Value) : (V.alloc (.cells #[a, b] 34)).ownsRow V.heap.size 34 1 (.slice (some ⟨V.heap.size, 0, none⟩) 2 2) 2 [a, b] :=
  ⟨rfl, .inr ⟨V.heap.size, 2, #[a, b], rfl, Nat.le_refl _, heap_alloc_new V _, Nat.le_refl _, by unfold maxLen; omega, rfl, rfl⟩⟩

set_option maxRecDepth 100000 in
set_option maxHeartbeats 1000000 in
theorem pwords_any (p : PageM) (w : World) : Calls Try.prog 55 #[pgV p] w (OutW w (pgWs p)) := by
  have RR := Lib.hid (fun W => pright_any p W)
  cases hp : pgOk p
  · rw [hp] at RR
    rw [pgWs_no hp]
    clear hp
    obtain ⟨s, q, g, d0, d1, d2, d3⟩ := p
    unfold pgV pgC at *
    go_enter Try.func55, Try.ntmps55
    go_wp2_with (go_at_call 59; (refine (RR.out _).mono ?_); rintro e w1 ⟨rfl, hb⟩)
    go_ret
    exact outW_nil (((Below.refl _ w).alloc (Nat.le_refl _) _).trans (hb.mono (by simp)))
  · have hs : U p.s < 512 := by
      unfold pgOk at hp
      simp only [Bool.and_eq_true, decide_eq_true_eq] at hp
      exact hp.1
    rw [hp] at RR
    rw [pgWs_yes hp]
    clear hp
    obtain ⟨i0, hin, hz0, hz1, hz2⟩ := info_parts infoU
    have hor := or_high hs
    obtain ⟨s, q, g, d0, d1, d2, d3⟩ := p
    simp only at hs hor
    have s0 := U_nonneg s
    have eg : pgFirst ⟨s, q, g, d0, d1, d2, d3⟩ = if g then s ||| 2147483648#32 else s := by rw [hor]; rfl
    have EG := Lib.hid eg
    clear hor eg
    cases g
    · unfold pgV pgC at *
      go_enter Try.func55, Try.ntmps55
      go_upto_region 6 with (go_at_call 59; (refine (RR.out _).mono ?_); rintro e w1 ⟨rfl, hb⟩; have A := Lib.hid ((PgAt.news w 40 ⟨s, q, false, d0, d1, d2, d3⟩).on hb); obtain ⟨c0, c1, c2, c3, c4, c5, c6⟩ := A.out.cells; have HB := Lib.hid (((Below.refl _ w).alloc (Nat.le_refl _) _).trans (hb.mono (by simp))); clear hb)
      have hsz := HB.out.size
      have hw1 : w.heap.size < w1.heap.size := by
        have := A.out.at_.lt
        exact this
      have OWN := Lib.hid (own_two w1.drew (.int .u32 (U s)) (.int .u32 (U q)))
      have NEWS : Hid (∀ j u, (Us [d0, d1, d2, d3])[j]? = some u → (w1.drew.alloc (.cells #[.int .u32 (U s), .int .u32 (U q)] 34)).cell? ((⟨w.heap.size, 3, none⟩ : Addr).add j) = some u) := by
        intro j u hu
        rw [World.cell?_alloc_lt _ _ _ (by unfold Addr.add; split <;> exact hw1)]
        have hj : j < 4 := (List.getElem?_eq_some_iff.1 hu).1
        have e : ((⟨w.heap.size, 3, none⟩ : Addr).add j) = ⟨w.heap.size, 3 + j, none⟩ := by unfold Addr.add; split <;> simp_all
        rw [e]
        have := A.out.at_.drew.cell (3 + j)
        rw [this, ← hu]
        obtain rfl | rfl | rfl | rfl : j = 0 ∨ j = 1 ∨ j = 2 ∨ j = 3 := by omega
        all_goals rfl
      have H1 : Hid (∀ u ∈ Us [d0, d1, d2, d3], u.oneCell' = true) := Us_one _
      go_region_law ((refine step_append_lies _ (by rfl) (.tmp 17) (.tmp 19) 66 (by rfl) w1.drew.heap.size 34 i0 _ 1 4 Try.underlying66 hin hz0 hz1 hz2 rfl (by omega) (.slice (some ⟨w1.drew.heap.size, 0, none⟩) 2 2) 2 [.int .u32 (U s), .int .u32 (U q)] (by go_simp) OWN.out ⟨w.heap.size, 3, none⟩ 4 4 (Us [d0, d1, d2, d3]) (by go_simp) rfl NEWS.out H1.out (by omega) (by unfold maxLen; omega) (by omega) (by simp) _ rfl ?_; intro g1 cap1 w2 hown hgr hat hlt))
      have hb2 : Below w.heap.size w w2 := (HB.out.alloc hsz _).drew.grown hgr (by simp; omega) (by intro k hk; simp [Value.ownBlock] at hk; omega)
      have HB2 := Lib.hid hb2
      have hs2 := hb2.size
      have hw2 : w1.heap.size ≤ w2.heap.size := by
        have := hgr.size
        simp at this
        omega
      have OWN2 := Lib.hid (hown.alloc (.cells #[.int .u32 1526644958] 34))
      have NEWS2 : Hid (∀ j u, (Us [1526644958#32])[j]? = some u → (w2.alloc (.cells #[.int .u32 1526644958] 34)).cell? ((⟨w2.heap.size, 0, none⟩ : Addr).add j) = some u) := by
        intro j u hu
        rw [add_zero_block]
        exact ((At.news w2 34 (Us [1526644958#32])).cell j).trans hu
      have hge : w.heap.size ≤ g1 := by
        rcases hat with h | h
        · simp [Value.ownBlock] at h; omega
        · simp at h; omega
      clear hgr hat hown hb2 OWN NEWS A c0 c1 c2 c3 c4 c5 c6
      simp only [List.getElem_toArray, List.getElem_cons_succ, List.getElem_cons_zero]
      go_simp
      go_wp2_with (at_builtin; go_loud (refine wpList_append_lies _ rfl (.tmp 21) (.tmp 22) _ rfl w1.drew.heap.size 34 i0 _ 1 4 Try.underlying66 hin hz0 hz1 hz2 rfl (by omega) (.slice (some ⟨g1, 0, none⟩) 6 cap1) 6 _ rfl OWN2.out ⟨w2.heap.size, 0, none⟩ 1 1 (Us [1526644958#32]) rfl rfl NEWS2.out (Us_one _) (by omega) (by unfold maxLen; omega) (by omega) (by simp; omega) _ rfl ?k))
      case k =>
        intro g2 cap2 w3 hown3 hgr3 hat3 hlt3
        go_wp2
        go_ret
        obtain ⟨rest, hA, hAl, hAm, hAb, hAn⟩ := At.of_own hown3 (by omega)
        have hb3 : Below w.heap.size w w3 := (HB2.out.alloc hs2 _).grown hgr3 (by simp; omega) (by intro k hk; simp [Value.ownBlock] at hk; omega)
        have hA' : At w3 g2 34 (Us [pgFirst ⟨s, q, false, d0, d1, d2, d3⟩, q, d0, d1, d2, d3, 1526644958#32] ++ rest) := by rw [EG.out]; exact hA
        have hAl' : (Us [pgFirst ⟨s, q, false, d0, d1, d2, d3⟩, q, d0, d1, d2, d3, 1526644958#32] ++ rest).length = cap2 := by
          rw [← hAl]
          simp only [List.length_append, Us_length, List.length_cons, List.length_nil]
        exact ⟨_, cap2, rfl, ReadsU.of_at hA' hAl' hAm, fun _ => ⟨g2, rest, rfl, hA', hAl', by have : w1.heap.size ≤ g2 := hAb; omega⟩, hb3⟩
    · have hor := U_orH s
      unfold pgV pgC at *
      go_enter Try.func55, Try.ntmps55
      go_upto_region 6 with (go_at_call 59; (refine (RR.out _).mono ?_); rintro e w1 ⟨rfl, hb⟩; have A := Lib.hid ((PgAt.news w 40 ⟨s, q, true, d0, d1, d2, d3⟩).on hb); obtain ⟨c0, c1, c2, c3, c4, c5, c6⟩ := A.out.cells; have HB := Lib.hid (((Below.refl _ w).alloc (Nat.le_refl _) _).trans (hb.mono (by simp))); clear hb)
      have hsz := HB.out.size
      have hw1 : w.heap.size < w1.heap.size := by
        have := A.out.at_.lt
        exact this
      have OWN := Lib.hid (own_two w1.drew (.int .u32 (U (s ||| 2147483648#32))) (.int .u32 (U q)))
      have NEWS : Hid (∀ j u, (Us [d0, d1, d2, d3])[j]? = some u → (w1.drew.alloc (.cells #[.int .u32 (U (s ||| 2147483648#32)), .int .u32 (U q)] 34)).cell? ((⟨w.heap.size, 3, none⟩ : Addr).add j) = some u) := by
        intro j u hu
        rw [World.cell?_alloc_lt _ _ _ (by unfold Addr.add; split <;> exact hw1)]
        have hj : j < 4 := (List.getElem?_eq_some_iff.1 hu).1
        have e : ((⟨w.heap.size, 3, none⟩ : Addr).add j) = ⟨w.heap.size, 3 + j, none⟩ := by unfold Addr.add; split <;> simp_all
        rw [e]
        have := A.out.at_.drew.cell (3 + j)
        rw [this, ← hu]
        obtain rfl | rfl | rfl | rfl : j = 0 ∨ j = 1 ∨ j = 2 ∨ j = 3 := by omega
        all_goals rfl
      have H1 : Hid (∀ u ∈ Us [d0, d1, d2, d3], u.oneCell' = true) := Us_one _
      go_region_law ((refine step_append_lies _ (by rfl) (.tmp 17) (.tmp 19) 66 (by rfl) w1.drew.heap.size 34 i0 _ 1 4 Try.underlying66 hin hz0 hz1 hz2 rfl (by omega) (.slice (some ⟨w1.drew.heap.size, 0, none⟩) 2 2) 2 [.int .u32 (U (s ||| 2147483648#32)), .int .u32 (U q)] (by go_simp) OWN.out ⟨w.heap.size, 3, none⟩ 4 4 (Us [d0, d1, d2, d3]) (by go_simp) rfl NEWS.out H1.out (by omega) (by unfold maxLen; omega) (by omega) (by simp) _ rfl ?_; intro g1 cap1 w2 hown hgr hat hlt))
      have hb2 : Below w.heap.size w w2 := (HB.out.alloc hsz _).drew.grown hgr (by simp; omega) (by intro k hk; simp [Value.ownBlock] at hk; omega)
      have HB2 := Lib.hid hb2
      have hs2 := hb2.size
      have hw2 : w1.heap.size ≤ w2.heap.size := by
        have := hgr.size
        simp at this
        omega
      have OWN2 := Lib.hid (hown.alloc (.cells #[.int .u32 1526644958] 34))
      have NEWS2 : Hid (∀ j u, (Us [1526644958#32])[j]? = some u → (w2.alloc (.cells #[.int .u32 1526644958] 34)).cell? ((⟨w2.heap.size, 0, none⟩ : Addr).add j) = some u) := by
        intro j u hu
        rw [add_zero_block]
        exact ((At.news w2 34 (Us [1526644958#32])).cell j).trans hu
      have hge : w.heap.size ≤ g1 := by
        rcases hat with h | h
        · simp [Value.ownBlock] at h; omega
        · simp at h; omega
      clear hgr hat hown hb2 OWN NEWS A c0 c1 c2 c3 c4 c5 c6
      simp only [List.getElem_toArray, List.getElem_cons_succ, List.getElem_cons_zero]
      go_simp
      go_wp2_with (at_builtin; go_loud (refine wpList_append_lies _ rfl (.tmp 21) (.tmp 22) _ rfl w1.drew.heap.size 34 i0 _ 1 4 Try.underlying66 hin hz0 hz1 hz2 rfl (by omega) (.slice (some ⟨g1, 0, none⟩) 6 cap1) 6 _ rfl OWN2.out ⟨w2.heap.size, 0, none⟩ 1 1 (Us [1526644958#32]) rfl rfl NEWS2.out (Us_one _) (by omega) (by unfold maxLen; omega) (by omega) (by simp; omega) _ rfl ?k))
      case k =>
        intro g2 cap2 w3 hown3 hgr3 hat3 hlt3
        go_wp2
        go_ret
        obtain ⟨rest, hA, hAl, hAm, hAb, hAn⟩ := At.of_own hown3 (by omega)
        have hb3 : Below w.heap.size w w3 := (HB2.out.alloc hs2 _).grown hgr3 (by simp; omega) (by intro k hk; simp [Value.ownBlock] at hk; omega)
        have hA' : At w3 g2 34 (Us [pgFirst ⟨s, q, true, d0, d1, d2, d3⟩, q, d0, d1, d2, d3, 1526644958#32] ++ rest) := by rw [EG.out]; exact hA
        have hAl' : (Us [pgFirst ⟨s, q, true, d0, d1, d2, d3⟩, q, d0, d1, d2, d3, 1526644958#32] ++ rest).length = cap2 := by
          rw [← hAl]
          simp only [List.length_append, Us_length, List.length_cons, List.length_nil]
        exact ⟨_, cap2, rfl, ReadsU.of_at hA' hAl' hAm, fun _ => ⟨g2, rest, rfl, hA', hAl', by have : w1.heap.size ≤ g2 := hAb; omega⟩, hb3⟩
end Go.Proofs.Ytfpfcmgcfbkolaa
