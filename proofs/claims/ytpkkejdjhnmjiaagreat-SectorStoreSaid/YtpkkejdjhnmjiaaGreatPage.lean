/- Contracts of the program's page: slices.Equal of words; isFree; Right; Header; At. | Contract of the program's page.Count. | Contract of the program's page.Words. | Contract of the program's page.Read. -/
import Derived.Test.YtpkkejdjhnmjiaaGreatPageRef4
import Derived.Test.YtpkkejdjhnmjiaaGreatNorBR
import Derived.BigRegion
import Derived.Deep.DeepCutAuto
import Derived.Deep.AppendLies
import Derived.Deep.RegionLaw
import Derived.Lib.Hide
import Derived.Deep.RegionHeld3
import Derived.Laws.CopyOwn
namespace Go.Proofs.YtpkkejdjhnmjiaaGreat
open Go.RowKit Bm
set_option maxRecDepth 100000 in
set_option maxHeartbeats 800000 in
theorem equal_any (A B : Option Addr) (n m c d : Nat) (xs ys : List (BitVec 32)) (w : World) (hA : ReadsU w A n c xs) (hB : ReadsU w B m d ys) (hn : n ≤ 1000000) (hm : m ≤ 1000000) :
    Calls Tryz.prog 98 #[.slice A n c, .slice B m d] w fun e w' => e = .returned (.bool (decide (xs = ys))) ∧ ∃ k, w' = w.drewN k := by
  have hAl := hA.le
  have hBl := hB.le
  by_cases hnm : n = m
  · subst hnm
    go_enter Tryz.func98, Tryz.ntmps98
    go_wp2
    go_loopw [13] (fun i wr => ∃ j k : Nat, j ≤ n ∧ i = .int .i64 j ∧ wr = w.drewN k ∧ ∀ i, i < j → wd xs i = wd ys i) (fun i _ => n - (intOf i).toNat)
    case atStart => exact ⟨0, 0, by omega, rfl, rfl, fun i h => absurd h (by omega)⟩
    case round =>
      obtain ⟨j, k, hj, rfl, rfl, hs⟩ := hrel
      have HS := Lib.hid hs
      clear hs
      by_cases hlt : j < n
      · obtain ⟨a, rfl, ha⟩ := hA.at_ hlt
        obtain ⟨b, rfl, hb⟩ := hB.at_ hlt
        have i0 : (0 : Int) ≤ (j : Int) := by omega
        have i1 : (j : Int) < (n : Int) := by omega
        by_cases hv : wd xs j = wd ys j
        · have HV := Lib.hid hv
          rw [hv] at ha
          clear hv
          go_wp2
          go_quiet (fail)
          go_wp2
          go_roundw
          case rel => exact ⟨j + 1, _, by omega, by go_num, rfl, fun i hi => by
            by_cases e : i = j
            · rw [e]; exact HV.out
            · exact HS.out i (by omega)⟩
          case measure => simp [intOf]; omega
        · have hne : xs ≠ ys := fun e => hv (by rw [e])
          have hu : (U (wd xs j) == U (wd ys j)) = false := by rw [U_beq, beq_eq_false_iff_ne]; exact hv
          have hu' : ¬ U (wd xs j) = U (wd ys j) := by rw [U_eq_iff]; exact hv
          have HN := Lib.hid hne
          clear hne hv
          go_wp2
          go_quiet (fail)
          go_wp2
          go_ret
          rw [decide_eq_false HN.out]
          exact ⟨rfl, _, World.drewN_drewN _ _ _⟩
      · obtain rfl : j = n := by omega
        go_wp2
        go_ret
        rw [decide_eq_true (ext_wd (by rw [hA.len, hB.len]) (fun i hi => HS.out i (by rw [← hA.len]; exact hi)))]
        exact ⟨rfl, k, rfl⟩
  · have hne : xs ≠ ys := fun e => hnm (by rw [← hA.len, ← hB.len, e])
    have HN := Lib.hid hne
    have hnm' : ¬ (n : Int) = (m : Int) := by omega
    clear hne
    go_enter Tryz.func98, Tryz.ntmps98
    go_wp2
    go_ret
    rw [decide_eq_false HN.out]
    exact ⟨rfl, 0, rfl⟩
theorem freeB_iff {xs : List (BitVec 32)} {n : Nat} (h : xs.length = n) : decide (xs = List.replicate n 4294967295#32) = freeB xs := by
  subst h
  rw [Bool.eq_iff_iff, decide_eq_true_eq]
  unfold freeB
  rw [List.all_eq_true, List.eq_replicate_iff]
  simp
theorem Us_replicate (k : Nat) (x : BitVec 32) : Us (List.replicate k x) = List.replicate k (.int .u32 (U x)) := by simp [Us]
set_option maxRecDepth 100000 in
theorem pfree_any (A : Option Addr) (n c k : Nat) (xs : List (BitVec 32)) (w : World) (hA : ReadsU w A n c xs) (hn : n ≤ 1000000) (k1 : 1 ≤ k) (k2 : k ≤ 1000000) :
    Calls Tryz.prog 97 #[.slice A n c, .int .i64 k] w fun e w' => e = .returned (.bool (decide (xs = List.replicate k 4294967295#32))) ∧ Below w.heap.size w w' := by
  have HA := Lib.hid hA
  clear hA
  have RP := Lib.hid (repeat_any ⟨w.heap.size, 0, none⟩ 1 k 4294967295#32 (w.alloc (.cells #[.int .u32 4294967295] 36)) k1 k2 (by simp) ((At.news w 36 [.int .u32 4294967295]).cell 0))
  go_enter Tryz.func97, Tryz.ntmps97
  go_wp2_with (first
    | (go_at_call 29; go_loud ((refine RP.out.mono ?_); rintro e w1 ⟨g, cap, rest, rfl, hG, hcap, hmx, hge, hb⟩; have HB := Lib.hid (((Below.refl _ w).alloc (Nat.le_refl _) _).trans (hb.mono (by simp))); (rw [← Us_replicate] at hG hcap); have HR := Lib.hid (ReadsU.of_at (xs := List.replicate k 4294967295#32) hG hcap hmx); (rw [List.length_replicate] at HR ⊢); clear hb hG hcap))
    | (go_at_call 98; (refine (equal_any _ _ _ _ _ _ xs (List.replicate k 4294967295#32) _ (HA.out.kept HB.out) HR.out hn k2).mono ?_); rintro e w2 ⟨rfl, m, rfl⟩))
  go_ret
  exact ⟨rfl, HB.out.trans (below_drewN' _ _ _)⟩
set_option maxRecDepth 100000 in
theorem pright_any (p : PageM) (w : World) : Calls Tryz.prog 110 #[pgV p] w fun e w' => e = .returned (.bool (pgOk p)) ∧ Below w.heap.size w w' := by
  obtain ⟨s, q, g, d0, d1, d2, d3⟩ := p
  have s0 := U_nonneg s
  have q0 := U_nonneg q
  have B0 : ∀ o, Below w.heap.size w (w.alloc o) := fun o => (Below.refl _ w).alloc (Nat.le_refl _) o
  by_cases h1 : U s < 512
  · by_cases h2 : 1 ≤ U q
    · by_cases h3 : U q ≤ 2147483648
      · cases g
        · unfold pgV pgC
          go_enter Tryz.func110, Tryz.ntmps110
          go_wp2
          go_ret
          exact ⟨by simp [pgOk, h1, h2, h3], B0 _⟩
        · unfold pgV pgC
          go_enter Tryz.func110, Tryz.ntmps110
          go_wp2
          go_ret
          have e : pgOk ⟨s, q, true, d0, d1, d2, d3⟩ = (U d0 == 0 && (U d1 == 0 && (U d2 == 0 && U d3 == 0))) := by
            simp only [U0, pgOk, pgData0, h1, h2, h3, decide_true, Bool.true_and, Bool.not_true, Bool.false_or]
          rw [e]
          exact ⟨rfl, B0 _⟩
      · unfold pgV pgC
        go_enter Tryz.func110, Tryz.ntmps110
        go_wp2
        go_ret
        rw [show pgOk ⟨s, q, g, d0, d1, d2, d3⟩ = false by simp only [pgOk, Bool.and_eq_false_iff, decide_eq_false_iff_not]; omega]
        exact ⟨rfl, B0 _⟩
    · unfold pgV pgC
      go_enter Tryz.func110, Tryz.ntmps110
      go_wp2
      go_ret
      rw [show pgOk ⟨s, q, g, d0, d1, d2, d3⟩ = false by simp only [pgOk, Bool.and_eq_false_iff, decide_eq_false_iff_not]; omega]
      exact ⟨rfl, B0 _⟩
  · unfold pgV pgC
    go_enter Tryz.func110, Tryz.ntmps110
    go_wp2
    go_ret
    rw [show pgOk ⟨s, q, g, d0, d1, d2, d3⟩ = false by simp only [pgOk, Bool.and_eq_false_iff, decide_eq_false_iff_not]; omega]
    exact ⟨rfl, B0 _⟩
set_option maxRecDepth 100000 in
theorem pheader_any (x : BitVec 32) (w : World) : Calls Tryz.prog 72 #[.int .u32 (U x)] w (OutW w (hdWs x)) := by
  have x0 := U_nonneg x
  by_cases h : U x ≤ 2147483648
  · rw [hdWs_yes h]
    have e : 4294967295 - U x = U (~~~x) := by
      unfold U
      rw [BitVec.toNat_not]
      have := x.isLt
      omega
    have E := Lib.hid e
    clear e
    go_enter Tryz.func72, Tryz.ntmps72
    go_wp2
    go_ret
    refine outW_new (xs := [2970353665#32, x, ~~~x, 1526644958#32]) rfl ?_ (by unfold maxLen; simp) (Nat.le_refl _) ((Below.refl _ w).alloc (Nat.le_refl _) _)
    simp only [Us, List.map, ← E.out]
    exact At.news _ _ _
  · rw [hdWs_no h]
    go_enter Tryz.func72, Tryz.ntmps72
    go_wp2
    go_ret
    exact outW_nil (Below.refl _ w)
set_option maxRecDepth 100000 in
theorem pat_any (b k : Int) (w : World) (b0 : -9223372036854775808 ≤ b) (b1 : b ≤ 9223372036854775807) (k0 : -9223372036854775808 ≤ k) (k1 : k ≤ 9223372036854775807) :
    Calls Tryz.prog 100 #[.int .i64 b, .int .i64 k] w fun e w' => e = .returned (.int .i64 (pgAt b k)) ∧ w' = w := by
  by_cases h : 0 ≤ b ∧ b ≤ 63 ∧ 0 ≤ k ∧ k ≤ 7
  · have e : pgAt b k = b * 64 + 4 + k * 7 := by unfold pgAt; rw [if_pos h]
    rw [e]
    clear e
    obtain ⟨h1, h2, h3, h4⟩ := h
    go_enter Tryz.func100, Tryz.ntmps100
    go_wp2
    go_ret
    exact ⟨rfl, rfl⟩
  · have e : pgAt b k = -1 := by unfold pgAt; rw [if_neg h]
    rw [e]
    clear e
    go_enter Tryz.func100, Tryz.ntmps100
    go_wp2
    all_goals first
      | (exfalso; omega)
      | (go_ret; exact ⟨rfl, rfl⟩)
end Go.Proofs.YtpkkejdjhnmjiaaGreat
namespace Go.Proofs.YtpkkejdjhnmjiaaGreat
open Go.RowKit Bm
theorem ne_replicate {xs : List (BitVec 32)} {n : Nat} (h : xs.length ≠ n) : decide (xs = List.replicate n 4294967295#32) = false := by
  rw [decide_eq_false_iff_not]
  intro e
  exact h (by rw [e, List.length_replicate])
set_option maxRecDepth 100000 in
theorem pcount_any (A : Option Addr) (n c : Nat) (xs : List (BitVec 32)) (w : World) (hA : ReadsU w A n c xs) (hn : n ≤ 1000000) :
    Calls Tryz.prog 82 #[.slice A n c] w fun e w' => e = .returned (.tuple #[.int .u32 (U (hdRd xs).1), .int .i64 (hdRd xs).2]) ∧ Below w.heap.size w w' := by
  have hAl := hA.le
  have hlen := hA.len
  have FR := Lib.hid (pfree_any A n c 4 xs w hA hn (by omega) (by omega))
  by_cases h7 : n = 4
  · subst h7
    rw [freeB_iff hlen] at FR
    cases hf : freeB xs
    · rw [hf] at FR
      obtain ⟨a, rfl⟩ := hA.some_ (by omega)
      have HC := Lib.hid (fun W => pheader_any (wd xs 1) W)
      have HA := Lib.hid hA
      have hl : (hdWs (wd xs 1)).length ≤ 1000000 := by rcases hdWs_len (wd xs 1) with h | h <;> omega
      have HL := Lib.hid hl
      by_cases hv : hdWs (wd xs 1) = xs
      · rw [hdRd_good hlen hf hv]
        have HV := Lib.hid (decide_eq_true hv)
        clear hv hf hlen hA hl
        go_enter Tryz.func82, Tryz.ntmps82
        go_wp2_with (first
          | (go_at_call 97; (refine FR.out.mono ?_); rintro e w1 ⟨rfl, hb⟩; have HB := Lib.hid hb; have HA1 := Lib.hid (HA.out.kept hb); have c1 := HA1.out.cj 1 (by omega) (by omega); clear hb)
          | (go_at_call 72; (refine (HC.out _).mono ?_); rintro e w2 ⟨A2, cc2, rfl, hr, _, hb⟩; have HR := Lib.hid hr; have HB2 := Lib.hid (HB.out.trans (hb.mono HB.out.size)); have HA2 := Lib.hid (HA1.out.kept hb); have c2 := HA2.out.cj 1 (by omega) (by omega); clear hr hb)
          | (go_at_call 98; (refine (equal_any _ _ _ _ _ _ _ _ _ HR.out HA2.out HL.out (by omega)).mono ?_); rintro e w3 ⟨rfl, k, rfl⟩; rw [HV.out]))
        go_ret2
        exact ⟨rfl, HB2.out.trans (below_drewN' _ _ _)⟩
      · rw [hdRd_torn hlen hf hv]
        have HV := Lib.hid (decide_eq_false hv)
        clear hv hf hlen hA hl
        go_enter Tryz.func82, Tryz.ntmps82
        go_wp2_with (first
          | (go_at_call 97; (refine FR.out.mono ?_); rintro e w1 ⟨rfl, hb⟩; have HB := Lib.hid hb; have HA1 := Lib.hid (HA.out.kept hb); have c1 := HA1.out.cj 1 (by omega) (by omega); clear hb)
          | (go_at_call 72; (refine (HC.out _).mono ?_); rintro e w2 ⟨A2, cc2, rfl, hr, _, hb⟩; have HR := Lib.hid hr; have HB2 := Lib.hid (HB.out.trans (hb.mono HB.out.size)); have HA2 := Lib.hid (HA1.out.kept hb); clear hr hb)
          | (go_at_call 98; (refine (equal_any _ _ _ _ _ _ _ _ _ HR.out HA2.out HL.out (by omega)).mono ?_); rintro e w3 ⟨rfl, k, rfl⟩; rw [HV.out]))
        go_ret2
        exact ⟨rfl, HB2.out.trans (below_drewN' _ _ _)⟩
    · rw [hf] at FR
      rw [hdRd_free hlen hf]
      clear hf hlen hA
      go_enter Tryz.func82, Tryz.ntmps82
      go_wp2_with (go_at_call 97; (refine FR.out.mono ?_); rintro e w1 ⟨rfl, hb⟩; have HB := Lib.hid hb; clear hb)
      go_ret2
      exact ⟨rfl, HB.out⟩
  · rw [ne_replicate (by omega)] at FR
    rw [hdRd_far (by omega)]
    have h7' : ¬ (n : Int) = 4 := by omega
    clear hA
    go_enter Tryz.func82, Tryz.ntmps82
    go_wp2_with (go_at_call 97; (refine FR.out.mono ?_); rintro e w1 ⟨rfl, hb⟩; have HB := Lib.hid hb; clear hb)
    go_ret2
    exact ⟨rfl, HB.out⟩
end Go.Proofs.YtpkkejdjhnmjiaaGreat
namespace Go.Proofs.YtpkkejdjhnmjiaaGreat
open Go.RowKit Bm
theorem or_high {x : BitVec 32} (h : U x < 512) : x ||| 2147483648#32 = x + 2147483648#32 := by
  refine (BitVec.add_eq_or_of_and_eq_zero _ _ ?_).symm
  apply BitVec.eq_of_getLsbD_eq
  intro i hi
  have hx : x.toNat < 512 := by unfold U at h; omega
  rw [BitVec.getLsbD_and]
  by_cases e : i = 31
  · subst e
    have : x.getLsbD 31 = false := Nat.testBit_lt_two_pow (by omega)
    rw [this]; simp
  · have : (2147483648#32).getLsbD i = false := by
      rw [show (2147483648#32 : BitVec 32) = BitVec.twoPow 32 31 from rfl, BitVec.getLsbD_twoPow]
      simp; omega
    rw [this]; simp
theorem U_orH (x : BitVec 32) : bits .or .u32 (U x) 2147483648 = U (x ||| 2147483648#32) := U_or x 2147483648#32
theorem own_two (V : World) (a b : Value) : (V.alloc (.cells #[a, b] 36)).ownsRow V.heap.size 36 1 (.slice (some ⟨V.heap.size, 0, none⟩) 2 2) 2 [a, b] :=
  ⟨rfl, .inr ⟨V.heap.size, 2, #[a, b], rfl, Nat.le_refl _, heap_alloc_new V _, Nat.le_refl _, by unfold maxLen; omega, rfl, rfl⟩⟩
set_option maxRecDepth 100000 in
set_option maxHeartbeats 1000000 in
theorem pwords_any (p : PageM) (w : World) : Calls Tryz.prog 101 #[pgV p] w (OutW w (pgWs p)) := by
  have RR := Lib.hid (fun W => pright_any p W)
  cases hp : pgOk p
  · rw [hp] at RR
    rw [pgWs_no hp]
    clear hp
    obtain ⟨s, q, g, d0, d1, d2, d3⟩ := p
    unfold pgV pgC at *
    go_enter Tryz.func101, Tryz.ntmps101
    go_wp2_with (go_at_call 110; (refine (RR.out _).mono ?_); rintro e w1 ⟨rfl, hb⟩)
    go_ret
    exact outW_nil (((Below.refl _ w).alloc (Nat.le_refl _) _).trans (hb.mono (by simp)))
  · have hs : U p.s < 512 := by
      unfold pgOk at hp
      simp only [Bool.and_eq_true, decide_eq_true_eq] at hp
      exact hp.1
    rw [hp] at RR
    rw [pgWs_yes hp]
    clear hp
    obtain ⟨i0, hin, hz0, hz1, hz2⟩ := info_parts infoU
    have hor := or_high hs
    obtain ⟨s, q, g, d0, d1, d2, d3⟩ := p
    simp only at hs hor
    have s0 := U_nonneg s
    have eg : pgFirst ⟨s, q, g, d0, d1, d2, d3⟩ = if g then s ||| 2147483648#32 else s := by rw [hor]; rfl
    have EG := Lib.hid eg
    clear hor eg
    cases g
    · unfold pgV pgC at *
      go_enter Tryz.func101, Tryz.ntmps101
      go_upto_region 6 with (go_at_call 110; (refine (RR.out _).mono ?_); rintro e w1 ⟨rfl, hb⟩; have A := Lib.hid ((PgAt.news w 73 ⟨s, q, false, d0, d1, d2, d3⟩).on hb); obtain ⟨c0, c1, c2, c3, c4, c5, c6⟩ := A.out.cells; have HB := Lib.hid (((Below.refl _ w).alloc (Nat.le_refl _) _).trans (hb.mono (by simp))); clear hb)
      have hsz := HB.out.size
      have hw1 : w.heap.size < w1.heap.size := by
        have := A.out.at_.lt
        exact this
      have OWN := Lib.hid (own_two w1.drew (.int .u32 (U s)) (.int .u32 (U q)))
      have NEWS : Hid (∀ j u, (Us [d0, d1, d2, d3])[j]? = some u → (w1.drew.alloc (.cells #[.int .u32 (U s), .int .u32 (U q)] 36)).cell? ((⟨w.heap.size, 3, none⟩ : Addr).add j) = some u) := by
        intro j u hu
        rw [World.cell?_alloc_lt _ _ _ (by unfold Addr.add; split <;> exact hw1)]
        have hj : j < 4 := (List.getElem?_eq_some_iff.1 hu).1
        have e : ((⟨w.heap.size, 3, none⟩ : Addr).add j) = ⟨w.heap.size, 3 + j, none⟩ := by unfold Addr.add; split <;> simp_all
        rw [e]
        have := A.out.at_.drew.cell (3 + j)
        rw [this, ← hu]
        obtain rfl | rfl | rfl | rfl : j = 0 ∨ j = 1 ∨ j = 2 ∨ j = 3 := by omega
        all_goals rfl
      have H1 : Hid (∀ u ∈ Us [d0, d1, d2, d3], u.oneCell' = true) := Us_one _
      go_region_law ((refine step_append_lies _ (by rfl) (.tmp 17) (.tmp 19) 89 (by rfl) w1.drew.heap.size 36 i0 _ 1 4 Tryz.underlying89 hin hz0 hz1 hz2 rfl (by omega) (.slice (some ⟨w1.drew.heap.size, 0, none⟩) 2 2) 2 [.int .u32 (U s), .int .u32 (U q)] (by go_simp) OWN.out ⟨w.heap.size, 3, none⟩ 4 4 (Us [d0, d1, d2, d3]) (by go_simp) rfl NEWS.out H1.out (by omega) (by unfold maxLen; omega) (by omega) (by simp) _ rfl ?_; intro g1 cap1 w2 hown hgr hat hlt))
      have hb2 : Below w.heap.size w w2 := (HB.out.alloc hsz _).drew.grown hgr (by simp; omega) (by intro k hk; simp [Value.ownBlock] at hk; omega)
      have HB2 := Lib.hid hb2
      have hs2 := hb2.size
      have hw2 : w1.heap.size ≤ w2.heap.size := by
        have := hgr.size
        simp at this
        omega
      have OWN2 := Lib.hid (hown.alloc (.cells #[.int .u32 1526644958] 36))
      have NEWS2 : Hid (∀ j u, (Us [1526644958#32])[j]? = some u → (w2.alloc (.cells #[.int .u32 1526644958] 36)).cell? ((⟨w2.heap.size, 0, none⟩ : Addr).add j) = some u) := by
        intro j u hu
        rw [add_zero_block]
        exact ((At.news w2 36 (Us [1526644958#32])).cell j).trans hu
      have hge : w.heap.size ≤ g1 := by
        rcases hat with h | h
        · simp [Value.ownBlock] at h; omega
        · simp at h; omega
      clear hgr hat hown hb2 OWN NEWS A c0 c1 c2 c3 c4 c5 c6
      simp only [List.getElem_toArray, List.getElem_cons_succ, List.getElem_cons_zero]
      go_simp
      go_wp2_with (at_builtin; go_loud (refine wpList_append_lies _ rfl (.tmp 21) (.tmp 22) _ rfl w1.drew.heap.size 36 i0 _ 1 4 Tryz.underlying89 hin hz0 hz1 hz2 rfl (by omega) (.slice (some ⟨g1, 0, none⟩) 6 cap1) 6 _ rfl OWN2.out ⟨w2.heap.size, 0, none⟩ 1 1 (Us [1526644958#32]) rfl rfl NEWS2.out (Us_one _) (by omega) (by unfold maxLen; omega) (by omega) (by simp; omega) _ rfl ?k))
      case k =>
        intro g2 cap2 w3 hown3 hgr3 hat3 hlt3
        go_wp2
        go_ret
        obtain ⟨rest, hA, hAl, hAm, hAb, hAn⟩ := At.of_own hown3 (by omega)
        have hb3 : Below w.heap.size w w3 := (HB2.out.alloc hs2 _).grown hgr3 (by simp; omega) (by intro k hk; simp [Value.ownBlock] at hk; omega)
        have hA' : At w3 g2 36 (Us [pgFirst ⟨s, q, false, d0, d1, d2, d3⟩, q, d0, d1, d2, d3, 1526644958#32] ++ rest) := by rw [EG.out]; exact hA
        have hAl' : (Us [pgFirst ⟨s, q, false, d0, d1, d2, d3⟩, q, d0, d1, d2, d3, 1526644958#32] ++ rest).length = cap2 := by
          rw [← hAl]
          simp only [List.length_append, Us_length, List.length_cons, List.length_nil]
        exact ⟨_, cap2, rfl, ReadsU.of_at hA' hAl' hAm, fun _ => ⟨g2, rest, rfl, hA', hAl', by have : w1.heap.size ≤ g2 := hAb; omega⟩, hb3⟩
    · have hor := U_orH s
      unfold pgV pgC at *
      go_enter Tryz.func101, Tryz.ntmps101
      go_upto_region 6 with (go_at_call 110; (refine (RR.out _).mono ?_); rintro e w1 ⟨rfl, hb⟩; have A := Lib.hid ((PgAt.news w 73 ⟨s, q, true, d0, d1, d2, d3⟩).on hb); obtain ⟨c0, c1, c2, c3, c4, c5, c6⟩ := A.out.cells; have HB := Lib.hid (((Below.refl _ w).alloc (Nat.le_refl _) _).trans (hb.mono (by simp))); clear hb)
      have hsz := HB.out.size
      have hw1 : w.heap.size < w1.heap.size := by
        have := A.out.at_.lt
        exact this
      have OWN := Lib.hid (own_two w1.drew (.int .u32 (U (s ||| 2147483648#32))) (.int .u32 (U q)))
      have NEWS : Hid (∀ j u, (Us [d0, d1, d2, d3])[j]? = some u → (w1.drew.alloc (.cells #[.int .u32 (U (s ||| 2147483648#32)), .int .u32 (U q)] 36)).cell? ((⟨w.heap.size, 3, none⟩ : Addr).add j) = some u) := by
        intro j u hu
        rw [World.cell?_alloc_lt _ _ _ (by unfold Addr.add; split <;> exact hw1)]
        have hj : j < 4 := (List.getElem?_eq_some_iff.1 hu).1
        have e : ((⟨w.heap.size, 3, none⟩ : Addr).add j) = ⟨w.heap.size, 3 + j, none⟩ := by unfold Addr.add; split <;> simp_all
        rw [e]
        have := A.out.at_.drew.cell (3 + j)
        rw [this, ← hu]
        obtain rfl | rfl | rfl | rfl : j = 0 ∨ j = 1 ∨ j = 2 ∨ j = 3 := by omega
        all_goals rfl
      have H1 : Hid (∀ u ∈ Us [d0, d1, d2, d3], u.oneCell' = true) := Us_one _
      go_region_law ((refine step_append_lies _ (by rfl) (.tmp 17) (.tmp 19) 89 (by rfl) w1.drew.heap.size 36 i0 _ 1 4 Tryz.underlying89 hin hz0 hz1 hz2 rfl (by omega) (.slice (some ⟨w1.drew.heap.size, 0, none⟩) 2 2) 2 [.int .u32 (U (s ||| 2147483648#32)), .int .u32 (U q)] (by go_simp) OWN.out ⟨w.heap.size, 3, none⟩ 4 4 (Us [d0, d1, d2, d3]) (by go_simp) rfl NEWS.out H1.out (by omega) (by unfold maxLen; omega) (by omega) (by simp) _ rfl ?_; intro g1 cap1 w2 hown hgr hat hlt))
      have hb2 : Below w.heap.size w w2 := (HB.out.alloc hsz _).drew.grown hgr (by simp; omega) (by intro k hk; simp [Value.ownBlock] at hk; omega)
      have HB2 := Lib.hid hb2
      have hs2 := hb2.size
      have hw2 : w1.heap.size ≤ w2.heap.size := by
        have := hgr.size
        simp at this
        omega
      have OWN2 := Lib.hid (hown.alloc (.cells #[.int .u32 1526644958] 36))
      have NEWS2 : Hid (∀ j u, (Us [1526644958#32])[j]? = some u → (w2.alloc (.cells #[.int .u32 1526644958] 36)).cell? ((⟨w2.heap.size, 0, none⟩ : Addr).add j) = some u) := by
        intro j u hu
        rw [add_zero_block]
        exact ((At.news w2 36 (Us [1526644958#32])).cell j).trans hu
      have hge : w.heap.size ≤ g1 := by
        rcases hat with h | h
        · simp [Value.ownBlock] at h; omega
        · simp at h; omega
      clear hgr hat hown hb2 OWN NEWS A c0 c1 c2 c3 c4 c5 c6
      simp only [List.getElem_toArray, List.getElem_cons_succ, List.getElem_cons_zero]
      go_simp
      go_wp2_with (at_builtin; go_loud (refine wpList_append_lies _ rfl (.tmp 21) (.tmp 22) _ rfl w1.drew.heap.size 36 i0 _ 1 4 Tryz.underlying89 hin hz0 hz1 hz2 rfl (by omega) (.slice (some ⟨g1, 0, none⟩) 6 cap1) 6 _ rfl OWN2.out ⟨w2.heap.size, 0, none⟩ 1 1 (Us [1526644958#32]) rfl rfl NEWS2.out (Us_one _) (by omega) (by unfold maxLen; omega) (by omega) (by simp; omega) _ rfl ?k))
      case k =>
        intro g2 cap2 w3 hown3 hgr3 hat3 hlt3
        go_wp2
        go_ret
        obtain ⟨rest, hA, hAl, hAm, hAb, hAn⟩ := At.of_own hown3 (by omega)
        have hb3 : Below w.heap.size w w3 := (HB2.out.alloc hs2 _).grown hgr3 (by simp; omega) (by intro k hk; simp [Value.ownBlock] at hk; omega)
        have hA' : At w3 g2 36 (Us [pgFirst ⟨s, q, true, d0, d1, d2, d3⟩, q, d0, d1, d2, d3, 1526644958#32] ++ rest) := by rw [EG.out]; exact hA
        have hAl' : (Us [pgFirst ⟨s, q, true, d0, d1, d2, d3⟩, q, d0, d1, d2, d3, 1526644958#32] ++ rest).length = cap2 := by
          rw [← hAl]
          simp only [List.length_append, Us_length, List.length_cons, List.length_nil]
        exact ⟨_, cap2, rfl, ReadsU.of_at hA' hAl' hAm, fun _ => ⟨g2, rest, rfl, hA', hAl', by have : w1.heap.size ≤ g2 := hAb; omega⟩, hb3⟩
end Go.Proofs.YtpkkejdjhnmjiaaGreat
namespace Go.Proofs.YtpkkejdjhnmjiaaGreat
open Go.RowKit Bm
theorem high_bit (i : Nat) : (2147483648#32).getLsbD i = decide (i = 31) := by
  rw [show (2147483648#32 : BitVec 32) = BitVec.twoPow 32 31 from rfl, BitVec.getLsbD_twoPow]
  by_cases e : i = 31
  · subst e; rfl
  · rw [decide_eq_false e]; simp; omega
theorem low_part (x : BitVec 32) : x &&& ~~~2147483648#32 = BitVec.ofNat 32 (x.toNat % 2147483648) := by
  apply BitVec.eq_of_getLsbD_eq
  intro i hi
  rw [BitVec.getLsbD_and, BitVec.getLsbD_not, high_bit, BitVec.getLsbD_ofNat, show (2147483648 : Nat) = 2 ^ 31 from rfl, Nat.testBit_mod_two_pow]
  show (x.toNat.testBit i && _) = _
  by_cases e : i = 31
  · subst e; simp
  · have : i < 31 := by omega
    simp [e, this, hi]
theorem U_low (x : BitVec 32) : bits .andNot .u32 (U x) 2147483648 = U (BitVec.ofNat 32 (x.toNat % 2147483648)) := by
  rw [← low_part]; exact U_andNot x 2147483648#32
theorem high_part (x : BitVec 32) : (x &&& 2147483648#32 = 0#32) ↔ U x < 2147483648 := by
  rw [show (2147483648#32 : BitVec 32) = BitVec.twoPow 32 31 from rfl, BitVec.and_twoPow]
  have h : x.getLsbD 31 = decide (2147483648 ≤ x.toNat) := by
    have := BitVec.msb_eq_decide x
    simpa [BitVec.msb_eq_getLsbD_last] using this
  rw [h]
  unfold U
  by_cases e : 2147483648 ≤ x.toNat
  · rw [decide_eq_true e]; simp; omega
  · rw [decide_eq_false e]; simp; omega
theorem U_high (x : BitVec 32) : bits .and .u32 (U x) 2147483648 = if decide (2147483648 ≤ U x) then 2147483648 else 0 := by
  rw [show bits .and .u32 (U x) 2147483648 = U (x &&& 2147483648#32) from U_and x 2147483648#32]
  by_cases e : 2147483648 ≤ U x
  · rw [if_pos (by simpa using e)]
    have h := mt (high_part x).1 (by omega)
    rw [show (2147483648#32 : BitVec 32) = BitVec.twoPow 32 31 from rfl, BitVec.and_twoPow] at h ⊢
    split at h
    · rename_i h'; rw [if_pos h']; rfl
    · exact absurd rfl h
  · rw [if_neg (by simpa using e), (high_part x).2 (by omega)]; rfl
theorem ppg_size : (Tryz.prog.info? 73).map (·.size) = some 7 := by kernel_rfl
theorem ppg_res2 {fn : Func} {i j : Tmp} (h : fn.results = #[.cell i 73, .tmp j]) (tmps : Array Value) {w : World} {g : Nat} {p : PageM} {v : Value} (hp : tmps.getD i undef = .pointer (some ⟨g, 0, none⟩)) (hq : tmps.getD j undef = v) (hA : PgAt w g 73 p) :
    (results fn tmps).run Tryz.prog w = .ok (.tuple #[pgV p, v]) w := by
  have hp' : tmps[i]?.getD undef = .pointer (some ⟨g, 0, none⟩) := by simpa using hp
  have hq' : tmps[j]?.getD undef = v := by simpa using hq
  simp [results, h, hp', hq', asAddr, run_loadVar_row (P := Tryz.prog) w g 73 73 (pgC p).toArray (0, 0) _ hA.at_ Tryz.underlying73 rfl (by rw [ppg_size]; simp [pgC]), pgV]
set_option maxRecDepth 100000 in
set_option maxHeartbeats 1000000 in
theorem pread_any (A : Option Addr) (n c : Nat) (xs : List (BitVec 32)) (w : World) (hA : ReadsU w A n c xs) (hn : n ≤ 1000000) :
    Calls Tryz.prog 84 #[.slice A n c] w fun e w' => e = .returned (.tuple #[pgV (pgRd xs).1, .int .i64 (pgRd xs).2]) ∧ Below w.heap.size w w' := by
  have hAl := hA.le
  have hlen := hA.len
  have hb0 : Below w.heap.size w (w.alloc (.cells (pgC pg0).toArray 73)) := (Below.refl _ w).alloc (Nat.le_refl _) _
  have FR := Lib.hid (pfree_any A n c 7 xs _ (hA.kept hb0) hn (by omega) (by omega))
  have R0 := Lib.hid (PgAt.news w 73 pg0)
  have HB0 := Lib.hid hb0
  clear hb0
  by_cases h7 : n = 7
  · subst h7
    rw [freeB_iff hlen] at FR
    cases hf : freeB xs
    · rw [hf] at FR
      obtain ⟨a, rfl⟩ := hA.some_ (by omega)
      have HA := Lib.hid hA
      by_cases hv : pgWs (pgOf xs) = xs
      · rw [pgRd_good hlen hf hv]
        have HV := Lib.hid (decide_eq_true hv)
        clear hv hf hlen hA
        go_enter Tryz.func84, Tryz.ntmps84
        go_upto_region 5 with (go_at_call 97; (refine FR.out.mono ?_); rintro e V ⟨rfl, hb⟩; have HBV := Lib.hid (HB0.out.trans (hb.mono (by simp))); have RR := Lib.hid (R0.out.at_.kept (Turned.of_below hb (Nat.le_refl _) NoBlock) (fun h => h)); clear hb)
        have HAV := HA.out.kept HBV.out
        obtain ⟨p, hp⟩ : ∃ p, p = pgOf xs := ⟨_, rfl⟩
        rw [← hp] at HV
        have c0 := HAV.c0 (by omega)
        have c1 := HAV.cj 1 (by omega) (by omega)
        rw [show wd xs 1 = p.q by rw [hp]; rfl] at c1
        have KA : ∀ o, ReadsU (V.alloc o) (some a) 7 c xs := fun o => HAV.kept ((Below.refl _ V).alloc (Nat.le_refl _) o)
        have k0 := fun o => (KA o).c0 (by omega)
        have k1 := fun o => (KA o).cj 1 (by omega) (by omega)
        rw [show wd xs 1 = p.q by rw [hp]; rfl] at k1
        clear KA
        have es : bits .andNot .u32 (U (wd xs 0)) 2147483648 = U p.s := by rw [hp]; exact U_low _
        obtain ⟨H, eh, hH⟩ : ∃ H, bits .and .u32 (U (wd xs 0)) 2147483648 = H ∧ Hid ((H != 0) = p.g) := ⟨_, rfl, by rw [U_high, hp]; unfold pgOf; cases decide (2147483648 ≤ U (wd xs 0)) <;> rfl⟩
        have HP := Lib.hid hp
        have HAVV := Lib.hid HAV
        clear hp HAV
        have hab : a.block < V.heap.size := HAVV.out.lt (by omega)
        have hne : a.block ≠ V.heap.size := by omega
        have hne' : ¬ V.heap.size = a.block := by omega
        have hab' : a.block < V.drew.heap.size := hab
        go_region_held3 (fun w' => w'.cell? a = some (.int .u32 (U (wd xs 0))) ∧ w'.cell? ⟨a.block, a.off + 1, none⟩ = some (.int .u32 (U p.q))) (go_keep) (fail)
        rw [hH.out]
        obtain ⟨T, hT⟩ : ∃ T, T = (V.alloc (.cells (pgC ⟨p.s, p.q, p.g, 0#32, 0#32, 0#32, 0#32⟩).toArray 73)).drew := ⟨_, rfl⟩
        change Exit.then _ _ _ _ ((V.alloc (.cells (pgC ⟨p.s, p.q, p.g, 0#32, 0#32, 0#32, 0#32⟩).toArray 73)).drew)
        have hbT : Below V.heap.size V T := by rw [hT]; exact ((Below.refl _ V).alloc (Nat.le_refl _) _).drew
        have pT : PgAt T V.heap.size 73 ⟨p.s, p.q, p.g, 0#32, 0#32, 0#32, 0#32⟩ := by rw [hT]; exact ⟨(At.news V _ _).drew⟩
        rw [← hT]
        clear hT c0 c1 k0 k1 es eh hH
        have BT := Lib.hid hbT
        have PT := Lib.hid pT
        have hcc : ¬ c = 2 := by omega
        have hl5 : c - 2 + 2 = c := by omega
        have HONE : Hid ((Tryz.prog.info? 36).map (·.size) = some 1) := by
          obtain ⟨i0, hin, hz0, hz1, hz2⟩ := info_parts infoU
          show _ = _
          rw [hin, Option.map_some, hz1]
        have c2 : Hid (∀ j v, (Us [p.d0, p.d1, p.d2, p.d3])[j]? = some v → T.drew.cell? ((⟨a.block, a.off + 2, none⟩ : Addr).add j) = some v) := by
          intro j v hj
          have hj4 : j < 4 := (List.getElem?_eq_some_iff.1 hj).1
          have HT := HAVV.out.kept hbT
          have e : ((⟨a.block, a.off + 2, none⟩ : Addr).add j) = ⟨a.block, a.off + (2 + j), none⟩ := by
            unfold Addr.add
            split
            · simp_all
            · simp; omega
          rw [e]
          refine (HT.cj (2 + j) (by omega) (by omega)).trans ?_
          rw [← hj, HP.out]
          obtain rfl | rfl | rfl | rfl : j = 0 ∨ j = 1 ∨ j = 2 ∨ j = 3 := by omega
          all_goals rfl
        clear hbT pT
        go_wp2_with fail
        go_region_law ((refine step_copy_splice (by rfl) (.tmp 26) (.tmp 28) _ _ (by rfl) 36 Tryz.underlying89 HONE.out (some ⟨V.heap.size, 3, none⟩) (some ⟨a.block, a.off + 2, none⟩) 4 4 5 (c - 2) (by go_simp) (by go_simp) V.heap.size 3 (pgC ⟨p.s, p.q, p.g, 0#32, 0#32, 0#32, 0#32⟩) 73 PT.out.at_.drew (Us [p.d0, p.d1, p.d2, p.d3]) (by rfl) (fun _ => ⟨rfl, _, rfl, c2.out⟩) (by simp [pgC, Us]) (Us_one _) V.heap.size V BT.out.drew (Nat.le_refl _) ?_; intro w3 hg3 hb3))
        have P3 : PgAt w3 V.heap.size 73 p := ⟨hg3.out⟩
        have R3 := Lib.hid (PgAt.on (p := pg0) ⟨RR.out⟩ hb3)
        have HA3 := Lib.hid (HAVV.out.kept hb3)
        have BT3 := Lib.hid (HBV.out.trans (hb3.mono HBV.out.size))
        obtain ⟨p0, p1, p2, p3, p4, p5, p6⟩ := P3.cells
        have RW := Lib.hid (fun W => pwords_any p W)
        unfold pgV pgC at RW
        have hl : (pgWs p).length ≤ 1000000 := by rcases pgWs_len p with h | h <;> omega
        have HL := Lib.hid hl
        have PT3 := Lib.hid P3
        clear hb3 hg3 P3 hl c2
        go_wp2_with (first
          | (go_at_call 101; (refine (RW.out _).mono ?_); rintro e w4 ⟨A4, cc4, rfl, hr, _, hb⟩; have HR := Lib.hid hr; have HA4 := Lib.hid (HA3.out.kept hb); have HB4 := Lib.hid (BT3.out.trans (hb.mono BT3.out.size)); have R4 := Lib.hid (R3.out.on hb); have P4 := Lib.hid (PT3.out.on hb); clear hr hb)
          | (go_at_call 98; (refine (equal_any _ _ _ _ _ _ _ _ _ HR.out HA4.out HL.out (by omega)).mono ?_); rintro e w5 ⟨rfl, k, rfl⟩; rw [HV.out]; obtain ⟨q0, q1, q2, q3, q4, q5, q6⟩ := P4.out.cells; obtain ⟨r0, r1, r2, r3, r4, r5, r6⟩ := R4.out.cells; have f0 := R4.out.at_.frozen 0; have f1 := R4.out.at_.frozen 1; have f2 := R4.out.at_.frozen 2; have f3 := R4.out.at_.frozen 3; have f4 := R4.out.at_.frozen 4; have f5 := R4.out.at_.frozen 5; have f6 := R4.out.at_.frozen 6))
        rw [← HP.out]
        exact bodyPost_ret (ppg_res2 Tryz.results84 _ rfl rfl ((R4.out.drewN k).put7 p)) rfl ⟨rfl, PgAt.put7_below (HB4.out.trans (below_drewN' _ _ _)) (Nat.le_refl _) _ _ _ _ _ _ _⟩
      · rw [pgRd_torn hlen hf hv]
        have HV := Lib.hid (decide_eq_false hv)
        clear hv hf hlen hA
        go_enter Tryz.func84, Tryz.ntmps84
        go_upto_region 5 with (go_at_call 97; (refine FR.out.mono ?_); rintro e V ⟨rfl, hb⟩; have HBV := Lib.hid (HB0.out.trans (hb.mono (by simp))); have RR := Lib.hid (R0.out.at_.kept (Turned.of_below hb (Nat.le_refl _) NoBlock) (fun h => h)); clear hb)
        have HAV := HA.out.kept HBV.out
        obtain ⟨p, hp⟩ : ∃ p, p = pgOf xs := ⟨_, rfl⟩
        rw [← hp] at HV
        have c0 := HAV.c0 (by omega)
        have c1 := HAV.cj 1 (by omega) (by omega)
        rw [show wd xs 1 = p.q by rw [hp]; rfl] at c1
        have KA : ∀ o, ReadsU (V.alloc o) (some a) 7 c xs := fun o => HAV.kept ((Below.refl _ V).alloc (Nat.le_refl _) o)
        have k0 := fun o => (KA o).c0 (by omega)
        have k1 := fun o => (KA o).cj 1 (by omega) (by omega)
        rw [show wd xs 1 = p.q by rw [hp]; rfl] at k1
        clear KA
        have es : bits .andNot .u32 (U (wd xs 0)) 2147483648 = U p.s := by rw [hp]; exact U_low _
        obtain ⟨H, eh, hH⟩ : ∃ H, bits .and .u32 (U (wd xs 0)) 2147483648 = H ∧ Hid ((H != 0) = p.g) := ⟨_, rfl, by rw [U_high, hp]; unfold pgOf; cases decide (2147483648 ≤ U (wd xs 0)) <;> rfl⟩
        have HP := Lib.hid hp
        have HAVV := Lib.hid HAV
        clear hp HAV
        have hab : a.block < V.heap.size := HAVV.out.lt (by omega)
        have hne : a.block ≠ V.heap.size := by omega
        have hne' : ¬ V.heap.size = a.block := by omega
        have hab' : a.block < V.drew.heap.size := hab
        go_region_held3 (fun w' => w'.cell? a = some (.int .u32 (U (wd xs 0))) ∧ w'.cell? ⟨a.block, a.off + 1, none⟩ = some (.int .u32 (U p.q))) (go_keep) (fail)
        rw [hH.out]
        obtain ⟨T, hT⟩ : ∃ T, T = (V.alloc (.cells (pgC ⟨p.s, p.q, p.g, 0#32, 0#32, 0#32, 0#32⟩).toArray 73)).drew := ⟨_, rfl⟩
        change Exit.then _ _ _ _ ((V.alloc (.cells (pgC ⟨p.s, p.q, p.g, 0#32, 0#32, 0#32, 0#32⟩).toArray 73)).drew)
        have hbT : Below V.heap.size V T := by rw [hT]; exact ((Below.refl _ V).alloc (Nat.le_refl _) _).drew
        have pT : PgAt T V.heap.size 73 ⟨p.s, p.q, p.g, 0#32, 0#32, 0#32, 0#32⟩ := by rw [hT]; exact ⟨(At.news V _ _).drew⟩
        rw [← hT]
        clear hT c0 c1 k0 k1 es eh hH
        have BT := Lib.hid hbT
        have PT := Lib.hid pT
        have hcc : ¬ c = 2 := by omega
        have hl5 : c - 2 + 2 = c := by omega
        have HONE : Hid ((Tryz.prog.info? 36).map (·.size) = some 1) := by
          obtain ⟨i0, hin, hz0, hz1, hz2⟩ := info_parts infoU
          show _ = _
          rw [hin, Option.map_some, hz1]
        have c2 : Hid (∀ j v, (Us [p.d0, p.d1, p.d2, p.d3])[j]? = some v → T.drew.cell? ((⟨a.block, a.off + 2, none⟩ : Addr).add j) = some v) := by
          intro j v hj
          have hj4 : j < 4 := (List.getElem?_eq_some_iff.1 hj).1
          have HT := HAVV.out.kept hbT
          have e : ((⟨a.block, a.off + 2, none⟩ : Addr).add j) = ⟨a.block, a.off + (2 + j), none⟩ := by
            unfold Addr.add
            split
            · simp_all
            · simp; omega
          rw [e]
          refine (HT.cj (2 + j) (by omega) (by omega)).trans ?_
          rw [← hj, HP.out]
          obtain rfl | rfl | rfl | rfl : j = 0 ∨ j = 1 ∨ j = 2 ∨ j = 3 := by omega
          all_goals rfl
        clear hbT pT
        go_wp2_with fail
        go_region_law ((refine step_copy_splice (by rfl) (.tmp 26) (.tmp 28) _ _ (by rfl) 36 Tryz.underlying89 HONE.out (some ⟨V.heap.size, 3, none⟩) (some ⟨a.block, a.off + 2, none⟩) 4 4 5 (c - 2) (by go_simp) (by go_simp) V.heap.size 3 (pgC ⟨p.s, p.q, p.g, 0#32, 0#32, 0#32, 0#32⟩) 73 PT.out.at_.drew (Us [p.d0, p.d1, p.d2, p.d3]) (by rfl) (fun _ => ⟨rfl, _, rfl, c2.out⟩) (by simp [pgC, Us]) (Us_one _) V.heap.size V BT.out.drew (Nat.le_refl _) ?_; intro w3 hg3 hb3))
        have P3 : PgAt w3 V.heap.size 73 p := ⟨hg3.out⟩
        have R3 := Lib.hid (PgAt.on (p := pg0) ⟨RR.out⟩ hb3)
        have HA3 := Lib.hid (HAVV.out.kept hb3)
        have BT3 := Lib.hid (HBV.out.trans (hb3.mono HBV.out.size))
        obtain ⟨p0, p1, p2, p3, p4, p5, p6⟩ := P3.cells
        have RW := Lib.hid (fun W => pwords_any p W)
        unfold pgV pgC at RW
        have hl : (pgWs p).length ≤ 1000000 := by rcases pgWs_len p with h | h <;> omega
        have HL := Lib.hid hl
        have PT3 := Lib.hid P3
        clear hb3 hg3 P3 hl c2
        go_wp2_with (first
          | (go_at_call 101; (refine (RW.out _).mono ?_); rintro e w4 ⟨A4, cc4, rfl, hr, _, hb⟩; have HR := Lib.hid hr; have HA4 := Lib.hid (HA3.out.kept hb); have HB4 := Lib.hid (BT3.out.trans (hb.mono BT3.out.size)); have R4 := Lib.hid (R3.out.on hb); have P4 := Lib.hid (PT3.out.on hb); clear hr hb)
          | (go_at_call 98; (refine (equal_any _ _ _ _ _ _ _ _ _ HR.out HA4.out HL.out (by omega)).mono ?_); rintro e w5 ⟨rfl, k, rfl⟩; rw [HV.out]; obtain ⟨q0, q1, q2, q3, q4, q5, q6⟩ := P4.out.cells; obtain ⟨r0, r1, r2, r3, r4, r5, r6⟩ := R4.out.cells; have f0 := R4.out.at_.frozen 0; have f1 := R4.out.at_.frozen 1; have f2 := R4.out.at_.frozen 2; have f3 := R4.out.at_.frozen 3; have f4 := R4.out.at_.frozen 4; have f5 := R4.out.at_.frozen 5; have f6 := R4.out.at_.frozen 6))
        exact bodyPost_ret (ppg_res2 Tryz.results84 _ rfl rfl ((R4.out.drewN k).put7 pg0)) rfl ⟨rfl, PgAt.put7_below (HB4.out.trans (below_drewN' _ _ _)) (Nat.le_refl _) _ _ _ _ _ _ _⟩
    · rw [hf] at FR
      rw [pgRd_free hlen hf]
      clear hf hlen hA
      go_enter Tryz.func84, Tryz.ntmps84
      go_wp2_with (go_at_call 97; (refine FR.out.mono ?_); rintro e V ⟨rfl, hb⟩; have HBV := Lib.hid (HB0.out.trans (hb.mono (by simp))); have R4 := Lib.hid (R0.out.on hb); clear hb; obtain ⟨r0, r1, r2, r3, r4, r5, r6⟩ := R4.out.cells; have f0 := R4.out.at_.frozen 0; have f1 := R4.out.at_.frozen 1; have f2 := R4.out.at_.frozen 2; have f3 := R4.out.at_.frozen 3; have f4 := R4.out.at_.frozen 4; have f5 := R4.out.at_.frozen 5; have f6 := R4.out.at_.frozen 6)
      exact bodyPost_ret (ppg_res2 Tryz.results84 _ rfl rfl (R4.out.put7 pg0)) rfl ⟨rfl, PgAt.put7_below HBV.out (Nat.le_refl _) _ _ _ _ _ _ _⟩
  · rw [ne_replicate (by omega)] at FR
    rw [pgRd_far (by omega)]
    have h7' : ¬ (n : Int) = 7 := by omega
    clear hA
    go_enter Tryz.func84, Tryz.ntmps84
    go_wp2_with (go_at_call 97; (refine FR.out.mono ?_); rintro e V ⟨rfl, hb⟩; have HBV := Lib.hid (HB0.out.trans (hb.mono (by simp))); have R4 := Lib.hid (R0.out.on hb); clear hb; obtain ⟨r0, r1, r2, r3, r4, r5, r6⟩ := R4.out.cells; have f0 := R4.out.at_.frozen 0; have f1 := R4.out.at_.frozen 1; have f2 := R4.out.at_.frozen 2; have f3 := R4.out.at_.frozen 3; have f4 := R4.out.at_.frozen 4; have f5 := R4.out.at_.frozen 5; have f6 := R4.out.at_.frozen 6)
    exact bodyPost_ret (ppg_res2 Tryz.results84 _ rfl rfl (R4.out.put7 pg0)) rfl ⟨rfl, PgAt.put7_below HBV.out (Nat.le_refl _) _ _ _ _ _ _ _⟩
end Go.Proofs.YtpkkejdjhnmjiaaGreat
