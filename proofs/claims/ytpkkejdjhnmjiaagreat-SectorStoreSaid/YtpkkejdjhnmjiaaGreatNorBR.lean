/- Contract of slices.Repeat at one word. | Contracts of nor's Wear, Fuse, Cut, On, Words, and of slices.Clone. | Contracts of slices.Repeat at one word, and of nor's New and Of. | Each call of a chip, whatever it is given, in one contract; and the helper alive of layer nor's statements. -/
import Derived.Test.YtpkkejdjhnmjiaaGreatBitsMem
import Derived.Test.YtpkkejdjhnmjiaaGreatOpens
import Derived.Lib.SliceRun
import Derived.Deep.QuietTactic
import Derived.BigQuiet
import Derived.Deep.RegionHeld3
import Derived.StillTailTactics
import Derived.Lib.Hide
import Derived.Laws.CopyOwn
import Derived.Laws.BitsAllLaws
import Derived.Deep.RegionLaw
import Derived.Deep.RegionWith
import Derived.Deep.DrawnRows
import Derived.Test.YtpkkejdjhnmjiaaGreatNorA
namespace Go.Proofs.YtpkkejdjhnmjiaaGreat
open Go.RowKit Bm
attribute [local go_sem ↓] Go.wp_at_zero Go.wp_at_succ
theorem infoU : (Tryz.prog.info? 36).map (fun i => (i.zero, i.size, i.bytes)) = some (some (.int .u32 0), 1, 4) := by kernel_rfl
theorem add_zero_block (b j : Nat) : (⟨b, 0, none⟩ : Addr).add j = ⟨b, j, none⟩ := by unfold Addr.add; split <;> simp_all
theorem u64_low (y : Int) (h0 : 0 ≤ y) (h1 : y < 4294967296) : bits .and .u64 y 4294967295 = y := by
  rw [u64_and _ _ h0 (by omega) (by omega) (by omega)]
  rw [show (4294967295 : Int).toNat = 2 ^ 32 - 1 by rfl, Nat.and_two_pow_sub_one_eq_mod]
  omega
theorem mul64_one (y : Int) (w : World) (h0 : 0 ≤ y) (h1 : y < 4294967296) :
    Calls Tryz.prog 63 #[.int .u64 1, .int .u64 y] w fun e w' => e = .returned (.tuple #[.int .u64 0, .int .u64 y]) ∧ w' = w := by
  have a1 : bits .and .u64 1 4294967295 = 1 := u64_low 1 (by omega) (by omega)
  have a2 : bits .and .u64 y 4294967295 = y := u64_low y h0 h1
  have a3 : bits .and .u64 0 4294967295 = 0 := u64_low 0 (by omega) (by omega)
  have d : y / 4294967296 = 0 := by omega
  go_enter Tryz.func63, Tryz.ntmps63
  go_wp2
  go_ret2
  exact ⟨rfl, rfl⟩
theorem mul_one (y : Int) (w : World) (h0 : 0 ≤ y) (h1 : y < 4294967296) :
    Calls Tryz.prog 45 #[.int .u64 1, .int .u64 y] w fun e w' => e = .returned (.tuple #[.int .u64 0, .int .u64 y]) ∧ w' = w := by
  go_enter Tryz.func45, Tryz.ntmps45
  go_wp2_with (go_at_call 63; with_reducible refine (mul64_one _ _ h0 h1).mono ?_; rintro e w' ⟨rfl, rfl⟩)
  go_ret2
  exact ⟨rfl, rfl⟩
theorem made_zeros (n : Nat) : madeCells #[.int .u32 0] n = (List.replicate n (Value.int .u32 0)).toArray := by
  apply Array.ext'
  simp [madeCells]
  apply List.ext_getElem
  · simp
  · intro i h1 h2
    simp [Nat.mod_one]
def part (X Y : Value) (k n : Nat) : List Value := List.replicate k X ++ List.replicate (n - k) Y
theorem part_splice (X Y : Value) (k m n : Nat) (h : k + m ≤ n) : splice (part X Y k n) k (List.replicate m X) = part X Y (k + m) n := by
  unfold splice part
  have e1 : (List.replicate k X ++ List.replicate (n - k) Y).take k = List.replicate k X := by simp
  have e2 : (List.replicate k X ++ List.replicate (n - k) Y).drop (k + (List.replicate m X).length) = List.replicate (n - (k + m)) Y := by
    rw [List.length_replicate, List.drop_append, List.length_replicate, List.drop_eq_nil_of_le (by simp), List.nil_append, List.drop_replicate]
    congr 1
    omega
  rw [e1, e2, ← List.append_assoc, List.replicate_append_replicate]
theorem part_get (X Y : Value) (k n j : Nat) (h : j < k) : (part X Y k n)[j]? = some X := by
  unfold part
  rw [List.getElem?_append_left (by simpa using h)]
  simp [h]
theorem part_length (X Y : Value) (k n : Nat) (h : k ≤ n) : (part X Y k n).length = n := by simp [part]; omega
theorem part_zero (X Y : Value) (n : Nat) : part X Y 0 n = List.replicate n Y := by simp [part]
theorem part_full (X Y : Value) (n : Nat) : part X Y n n = List.replicate n X := by simp [part]
set_option maxRecDepth 100000 in
set_option maxHeartbeats 800000 in
theorem repeat_any (ad : Addr) (cap n : Nat) (x : BitVec 32) (w : World) (h0 : 1 ≤ n) (hn : n ≤ 1000000) (had : ad.block < w.heap.size) (hx : w.cell? ad = some (.int .u32 (U x))) :
    Calls Tryz.prog 29 #[.slice (some ad) 1 cap, .int .i64 n] w (Fresh w 36 (List.replicate n (.int .u32 (U x)))) := by
  obtain ⟨i0, hi, hz0, hz1, hz2⟩ := info_parts infoU
  have hmk := fun W => run_make (P := Tryz.prog) W 89 36 i0 (.int .u32 0) Tryz.underlying89 hi hz0 .i64 .i64 (n : Int) (n : Int) (by omega) (by omega) (by rw [hz2]; omega) (by omega)
  rw [show ((n : Int).toNat) = n by omega, hz1, Nat.mul_one, show (Value.int .u32 0).cells = #[.int .u32 0] from rfl, made_zeros] at hmk
  have hone : (Tryz.prog.info? 36).map (·.size) = some 1 := by rw [hi, Option.map_some, hz1]
  generalize hX : Value.int .u32 (U x) = X at hx ⊢
  have X1 : X.oneCell' = true := by rw [← hX]; rfl
  clear hX
  generalize hY : Value.int .u32 0 = Y at hmk
  rw [← part_zero X Y n] at hmk
  clear hY
  have HONE := Lib.hid hone
  clear hone
  go_enter Tryz.func29, Tryz.ntmps29
  go_wp2_with (first
    | (go_at_call 45; with_reducible refine (mul_one _ _ (by omega) (by omega)).mono ?_; rintro e w' ⟨rfl, rfl⟩)
    | (with_reducible refine wpList_copy_splice rfl (.tmp 31) (.tmp 32) _ _ rfl 36 Tryz.underlying89 HONE.out (some ⟨w'.heap.size, 0, none⟩) (some ad) n n 1 cap rfl rfl w'.heap.size 0 (part X Y 0 n) 36 (heap_alloc_new w' _) (List.replicate 1 X) ?c1 ?c2 ?c3 ?c4 w'.heap.size w' ((Below.refl _ _).alloc (Nat.le_refl _) _) (Nat.le_refl _) ?c5))
  case c1 => rw [List.length_replicate]; exact (Nat.min_eq_left h0).symm
  case c2 =>
    intro j v hj
    have h1 : j = 0 := by
      have := (List.getElem?_eq_some_iff.1 hj).1
      simpa using this
    subst h1
    rw [World.cell?_alloc_lt _ _ _ (by unfold Addr.add; split <;> exact had)]
    simp at hj
    subst hj
    exact hx
  case c3 => rw [part_length _ _ _ _ (by omega)]; simp; omega
  case c4 => intro v hv; rw [List.eq_of_mem_replicate hv]; exact X1
  case c5 =>
    intro w2 HG2 hB2
    have hA : At w2 w'.heap.size 36 (part X Y 1 n) := by
      rw [← part_splice X Y 0 1 n (by omega)]
      exact HG2.out
    clear HG2 hmk
    go_wp2
    go_loopw [8] (fun i wr => ∃ k : Nat, 1 ≤ k ∧ k ≤ n ∧ i = .int .i64 k ∧ At wr w'.heap.size 36 (part X Y k n) ∧ Below w'.heap.size w' wr) (fun i _ => n - (intOf i).toNat)
    case atStart => exact ⟨1, by omega, by omega, rfl, hA, hB2⟩
    case round =>
      clear hA hB2
      obtain ⟨k, hk1, hk2, rfl, hA, hB⟩ := hrel
      by_cases hlt : k < n
      · obtain ⟨m, hm, hm1, hm2, hm3⟩ : ∃ m, m = Nat.min k (n - k) ∧ 1 ≤ m ∧ m ≤ k ∧ k + m ≤ n := ⟨_, rfl, by show 1 ≤ min k (n - k); omega, by show min k (n - k) ≤ k; omega, by show k + min k (n - k) ≤ n; omega⟩
        have HM := Lib.hid hm
        clear hm
        have hnk : ¬ n = k := by omega
        have wr0 : IntKind.i64.wrap ((k : Int) + (m : Int)) = (k : Int) + (m : Int) := by rw [IntKind.wrap_i64]; omega
        have WR := Lib.hid wr0
        clear wr0
        have i1 : (0 : Int) ≤ (k : Int) := by omega
        have i2 : (k : Int) ≤ (n : Int) := by omega
        have c2 : ∀ j v, (List.replicate m X)[j]? = some v → wr.drew.cell? ((⟨w'.heap.size, 0, none⟩ : Addr).add j) = some v := by
          intro j v hj
          have hjm : j < m := by simpa using (List.getElem?_eq_some_iff.1 hj).1
          rw [add_zero_block, hA.drew.cell, part_get _ _ _ _ _ (by omega)]
          rw [← hj]; simp [hjm]
        have C2 := Lib.hid c2
        clear c2
        have c4 : Hid (∀ v ∈ List.replicate m X, v.oneCell' = true) := by intro v hv; rw [List.eq_of_mem_replicate hv]; exact X1
        have c3 : Hid (k + (List.replicate m X).length ≤ (part X Y k n).length) := by rw [part_length _ _ _ _ hk2, List.length_replicate]; exact hm3
        have c1 : Hid ((List.replicate m X).length = Nat.min k (n - k)) := by rw [List.length_replicate]; exact HM.out
        go_wp2_with fail
        go_region_law ((refine step_copy_splice (by rfl) (.tmp 41) (.tmp 44) _ _ (by rfl) 36 Tryz.underlying89 HONE.out (some ⟨w'.heap.size, k, none⟩) (some ⟨w'.heap.size, 0, none⟩) (n - k) (n - k) k n (by go_simp) (by go_simp) w'.heap.size k (part X Y k n) 36 hA.drew (List.replicate m X) c1.out (fun _ => ⟨rfl, _, rfl, C2.out⟩) c3.out c4.out w'.heap.size w' hB.drew (Nat.le_refl _) ?_; intro w3 hg3 hb3))
        have hA3 : At w3 w'.heap.size 36 (part X Y (k + m) n) := by
          rw [← part_splice X Y k m n hm3]
          exact hg3.out
        rw [WR.out]
        simp only [List.getElem_toArray, List.getElem_cons_succ, List.getElem_cons_zero]
        go_simp
        go_wp2
        go_roundw
        case rel => exact ⟨k + m, by omega, hm3, by go_num, hA3, hb3⟩
        case measure => simp [intOf]; omega
      · obtain rfl : k = n := by omega
        go_wp2
        go_ret
        rw [part_full] at hA
        refine ⟨w'.heap.size, k, [], by simp, by simpa using hA, by simp, by unfold maxLen; omega, Nat.le_refl _, hB⟩
end Go.Proofs.YtpkkejdjhnmjiaaGreat
namespace Go.Proofs.YtpkkejdjhnmjiaaGreat
open Go.RowKit Bm
theorem ret_i {a b : Int} (h : a = b) : Ending.returned (.int .i64 a) = Ending.returned (.int .i64 b) := by rw [h]
theorem infoI : (Tryz.prog.info? 3).map (fun i => (i.zero, i.size, i.bytes)) = some (some (.int .i64 0), 1, 8) := by kernel_rfl
theorem clone_any (ad : Addr) (n cap : Nat) (xs : List Value) (w : World) (hl : xs.length = n) (h1 : ∀ u ∈ xs, u.oneCell' = true) (hn : 0 < n) (hm : n ≤ 1000000) (_hcap : n ≤ cap) (hlt : ad.block < w.heap.size)
    (hx : ∀ j u, xs[j]? = some u → w.cell? (ad.add j) = some u) :
    Calls Tryz.prog 44 #[.slice (some ad) n cap] w (Fresh w 36 xs) := by
  obtain ⟨i0, hi, hz0, hz1, hz2⟩ := info_parts infoU
  have HX := Lib.hid hx
  clear hx
  have H1 := Lib.hid h1
  clear h1
  have HL := Lib.hid hl
  clear hl
  have qe : ∀ W : World, (binOp .eql 89 (.slice (some ad) n cap) (.slice none 0 0)).run Tryz.prog W = .ok (.bool false) W := fun W => Lib.run_eql_slice_nil W _ _ _ _ _ _ _ Tryz.underlying89
  go_enter Tryz.func44, Tryz.ntmps44
  go_wp2_with (at_builtin; refine wpList_append_lies _ rfl (.tmp 5) (.tmp 6) _ rfl w.heap.size 36 i0 _ 1 4 Tryz.underlying89 hi hz0 hz1 hz2 rfl (by omega) (.slice (some ⟨w.heap.size, 0, none⟩) 0 0) 0 [] rfl ?own ad n cap xs rfl ?len ?news H1.out hn (by unfold maxLen; omega) (by omega) (by simp) (w.heap.size + 1) (by simp) ?k)
  case own => exact World.ownsRow_made w #[] 0 (Nat.le_refl _) (by unfold maxLen; omega) rfl
  case len => rw [HL.out]; omega
  case news =>
    intro j u hu
    rw [World.cell?_alloc_lt w _ _ (by unfold Addr.add; split <;> exact hlt)]
    exact HX.out j u hu
  case k =>
    intro g cap' w1 hown hgr hat hgl
    obtain ⟨rest, hA, hAl, hAm, _, hAn⟩ := At.of_own hown (by omega)
    have hbw : Below w.heap.size w w1 := ((Below.refl _ _).alloc (Nat.le_refl _) _).grown hgr (by simp) (by intro k hk; simp [Value.ownBlock] at hk; omega)
    have hge : w.heap.size ≤ g := by
      rcases hat with h | h
      · simp [Value.ownBlock] at h; omega
      · omega
    go_wp2
    go_ret
    exact ⟨g, cap', rest, by rw [HL.out]; rfl, by simpa using hA, by simpa using hAl, hAm, hge, hbw⟩
end Go.Proofs.YtpkkejdjhnmjiaaGreat
namespace Go.Proofs.YtpkkejdjhnmjiaaGreat
open Go.RowKit Bm
attribute [local go_sem ↓] Go.wp_at_zero Go.wp_at_succ
def MadeChip (w : World) (c : ChipM) (e : Ending) (w' : World) : Prop :=
  ∃ h : Hd, e = .returned (.pointer (some ⟨h.p, 0, none⟩)) ∧ ChipAt w' h c ∧ (∀ i, h.own i → w.heap.size ≤ i) ∧ Below w.heap.size w w'
theorem made_zerosI (n : Nat) : madeCells #[.int .i64 0] n = (Is (List.replicate n 0)).toArray := by
  apply Array.ext'
  simp [madeCells, Is]
  apply List.ext_getElem
  · simp
  · intro i h1 h2
    simp [Nat.mod_one]
theorem chip_boxed {w W : World} {g be c1 k H : Nat} {rest : List Value} {xs : List (BitVec 32)} (endure : Int) (hg : At W g 36 (Us xs ++ rest)) (hbe : At W be 3 (Is (List.replicate k 0)))
    (hl : (Us xs ++ rest).length = c1) (hc : c1 ≤ maxLen) (hb : Below w.heap.size w W) (h1 : w.heap.size ≤ g) (h2 : w.heap.size ≤ be) (hH : W.heap.size = H) :
    MadeChip w (mOf xs k endure) (.returned (.pointer (some ⟨H, 0, none⟩))) (W.alloc (.cells #[.slice (some ⟨g, 0, none⟩) (Us xs).length c1, .slice (some ⟨be, 0, none⟩) k k, .int .i64 endure, .bool true, .int .i64 0, .int .u32 0] 112)) := by
  subst hH
  have hs := hb.size
  refine ⟨⟨W.heap.size, g, be, c1, rest⟩, rfl, ⟨?_, hg.alloc _, hbe.alloc _, ?_, hc⟩, ?_, hb.alloc hs _⟩
  · have := At.news W 112 (chipCells ⟨W.heap.size, g, be, c1, rest⟩ (mOf xs k endure))
    simp only [chipCells, mOf, List.length_replicate] at this ⊢
    rw [Us_length]
    exact this
  · have : xs.length ≤ c1 := by rw [← hl, List.length_append, Us_length]; omega
    exact this
  · intro i hi
    rcases hi with rfl | rfl | rfl
    · exact hs
    · exact h1
    · exact h2
set_option maxRecDepth 100000 in
theorem of_yes (ad : Addr) (cap n k : Nat) (xs : List (BitVec 32)) (endure : Int) (w : World) (hl : xs.length = n) (hk : n = k * 64) (k1 : 1 ≤ k) (k2 : k ≤ 64) (e0 : 0 ≤ endure) (e1 : endure ≤ 9223372036854775807) (hcap : n ≤ cap)
    (had : ad.block < w.heap.size) (hx : ∀ j u, (Us xs)[j]? = some u → w.cell? (ad.add j) = some u) :
    Calls Tryz.prog 28 #[.slice (some ad) n cap, .int .i64 endure] w (MadeChip w (mOf xs k endure)) := by
  obtain ⟨i0, hi, hz0, hz1, hz2⟩ := info_parts infoI
  have hmk := fun W => run_make (P := Tryz.prog) W 110 3 i0 (.int .i64 0) Tryz.underlying110 hi hz0 .i64 .i64 (k : Int) (k : Int) (by omega) (by omega) (by rw [hz2]; omega) (by omega)
  rw [show ((k : Int).toNat) = k by omega, hz1, Nat.mul_one, show (Value.int .i64 0).cells = #[.int .i64 0] from rfl, made_zerosI] at hmk
  have q : (n : Int) / 64 = (k : Int) := by omega
  have r : (n : Int) % 64 = 0 := by omega
  have nb : n ≤ 4096 := by omega
  have n0 : 1 ≤ n := by omega
  have HX := Lib.hid hx
  clear hx hk
  have HL := Lib.hid hl
  clear hl
  go_enter Tryz.func28, Tryz.ntmps28
  go_wp2
  have cl : ∀ W : World, (∀ i, i < w.heap.size → W.heap[i]? = w.heap[i]?) → w.heap.size ≤ W.heap.size → Calls Tryz.prog 44 #[.slice (some ad) n cap] W (Fresh W 36 (Us xs)) := by
    intro W hW hs
    refine clone_any ad n cap (Us xs) W (by rw [Us_length, HL.out]) (Us_one _) n0 (by omega) hcap (by omega) ?_
    intro j u hu
    rw [World.cell?_of_block (w := w) (hW _ (by unfold Addr.add; split <;> exact had))]
    exact HX.out j u hu
  have CL := Lib.hid cl
  clear cl
  go_region_with ((go_at_call 44
                   refine Calls.mono (CL.out _ (by intro i hi; first | rfl | exact Below.heap_alloc _ _ _ hi) (by simp)) ?_
                   rintro e w1 ⟨g, c1, rest, rfl, hA, hAl, hAm, hge, hB⟩))
  · simp only [List.getElem_toArray, List.getElem_cons_succ, List.getElem_cons_zero]
    have hs := hB.size
    simp at hs hge
    have hb : Below w.heap.size w w1 := (Below.refl _ w).drew.trans (hB.mono (by simp))
    have fin := chip_boxed (w := w) endure (hA.alloc (.cells (Is (List.replicate k 0)).toArray 3)) (At.news w1 3 (Is (List.replicate k 0))) hAl hAm (hb.alloc hs _) hge hs (H := w1.heap.size + 1) (by simp)
    have FIN := Lib.hid fin
    clear fin
    go_simp
    go_wp2
    go_ret
    exact FIN.out
  · simp only [List.getElem_toArray, List.getElem_cons_succ, List.getElem_cons_zero]
    have hs := hB.size
    simp at hs hge
    have hb : Below w.heap.size w w1 := ((Below.refl _ w).drew.alloc (by simp) _).trans (hB.mono (by simp))
    have hbe : At w1 w.heap.size 3 (Is (List.replicate k 0)) := (At.news w.drew 3 (Is (List.replicate k 0))).kept (Turned.of_below hB (Nat.le_refl _) NoBlock) (fun h => h)
    have fin := chip_boxed (w := w) endure hA hbe hAl hAm hb (by omega) (Nat.le_refl _) (H := w1.heap.size) rfl
    have FIN := Lib.hid fin
    clear fin
    go_simp
    go_wp2
    go_ret
    exact FIN.out
theorem repeat_ones (k : Nat) (w W : World) (k1 : 1 ≤ k) (k2 : k ≤ 64) (hs : W.heap.size = w.heap.size + 1) (hc : W.cell? ⟨w.heap.size, 0, none⟩ = some (.int .u32 4294967295)) :
    Calls Tryz.prog 29 #[.slice (some ⟨w.heap.size, 0, none⟩) 1 1, .int .i64 ((k : Int) * 64)] W fun e w' => ∃ g cap rest, e = .returned (.slice (some ⟨g, 0, none⟩) (k * 64) cap) ∧ At w' g 36 (Us (List.replicate (k * 64) ones) ++ rest) ∧ k * 64 ≤ cap ∧ W.heap.size ≤ g ∧ Below W.heap.size W w' := by
  have := repeat_any ⟨w.heap.size, 0, none⟩ 1 (k * 64) ones W (by omega) (by omega) (by rw [hs]; exact Nat.lt_succ_self _) hc
  rw [show ((k : Int) * 64) = ((k * 64 : Nat) : Int) by omega, show Us (List.replicate (k * 64) ones) = List.replicate (k * 64) (.int .u32 (U ones)) by simp [Us]]
  refine this.mono ?_
  rintro e w' ⟨g, cap, rest, rfl, h1, h2, h3, h4, h5⟩
  rw [List.length_append, List.length_replicate] at h2
  exact ⟨g, cap, rest, by rw [List.length_replicate], h1, by omega, h4, h5⟩
set_option maxRecDepth 100000 in
theorem new_yes (k : Nat) (endure : Int) (w : World) (k1 : 1 ≤ k) (k2 : k ≤ 64) (e0 : 0 ≤ endure) (e1 : endure ≤ 9223372036854775807) :
    Calls Tryz.prog 13 #[.int .i64 k, .int .i64 endure] w (MadeChip w (mNew k endure)) := by
  go_enter Tryz.func13, Tryz.ntmps13
  go_wp2_with fail
  refine (repeat_ones k w _ k1 k2 (by simp) (by rw [(At.news w 36 [.int .u32 4294967295]).cell]; rfl)).mono ?_
  rintro e w1 ⟨g, cap, rest, rfl, hA, hcap, hge, hB⟩
  simp at hge
  have hb : Below w.heap.size w w1 := ((Below.refl _ w).alloc (Nat.le_refl _) _).trans (hB.mono (by simp))
  go_wp2_with fail
  refine (of_yes ⟨g, 0, none⟩ cap (k * 64) k (List.replicate (k * 64) ones) endure w1 (by simp) rfl k1 k2 e0 e1 hcap hA.lt ?_).mono ?_
  · intro j u hu
    rw [add_zero_block, hA.cell, List.getElem?_append_left (List.getElem?_eq_some_iff.1 hu).1]
    exact hu
  rintro e w2 ⟨h, rfl, hc, ho, hB2⟩
  have hs := hb.size
  have fin : MadeChip w (mNew k endure) (.returned (.pointer (some ⟨h.p, 0, none⟩))) w2 := ⟨h, rfl, hc, fun i hi => Nat.le_trans hs (ho i hi), hb.trans (hB2.mono hs)⟩
  have FIN := Lib.hid fin
  clear fin
  go_wp2
  go_ret
  exact FIN.out
end Go.Proofs.YtpkkejdjhnmjiaaGreat
namespace Go.Proofs.YtpkkejdjhnmjiaaGreat
open Go.RowKit Bm
theorem turned_drewN {S : Nat → Prop} (w : World) (n : Nat) : Turned S w (w.drewN n) := (Turned.refl S w).drewN n
theorem program_any (h : Hd) (c : ChipM) (k : Nat) (a : Int) (v : BitVec 32) (w : World) (hc : ChipAt w h c) (ok : ChipOk k c) :
    Calls Tryz.prog 114 #[.pointer (some ⟨h.p, 0, none⟩), .int .i64 a, .int .u32 (U v)] w fun e w' => e = .returned (.int .i64 (mProgram c a v).2) ∧ ChipAt w' h (mProgram c a v).1 ∧ Turned h.own w w' := by
  by_cases hr : mRefuse c a c.ws.length = 0
  · obtain ⟨_, h1, h2⟩ := refuse_zero hr
    obtain ⟨i, rfl⟩ := Int.eq_ofNat_of_zero_le h1
    refine (program_yes h c k i v w hc ok (by omega) hr).mono fun e w' ⟨he, hc', ht⟩ => ?_
    unfold mProgram
    rw [if_pos hr]
    exact ⟨he, hc', ht⟩
  · refine (program_no h c k a v w hc ok hr).mono fun e w' ⟨he, hw⟩ => ?_
    subst hw
    unfold mProgram
    rw [if_neg hr]
    exact ⟨he, hc, Turned.refl _ _⟩
theorem erase_any (h : Hd) (c : ChipM) (k : Nat) (b : Int) (w : World) (hc : ChipAt w h c) (ok : ChipOk k c) :
    Calls Tryz.prog 116 #[.pointer (some ⟨h.p, 0, none⟩), .int .i64 b] w fun e w' => e = .returned (.int .i64 (mErase c b).2) ∧ ChipAt w' h (mErase c b).1 ∧ Turned h.own w w' := by
  by_cases hr : mRefuse c b c.wear.length = 0
  · obtain ⟨_, h1, h2⟩ := refuse_zero hr
    obtain ⟨i, rfl⟩ := Int.eq_ofNat_of_zero_le h1
    unfold mErase
    rw [if_pos hr]
    by_cases hw : c.endure ≤ nm c.wear i
    · refine (erase_worn h c k i w hc ok (by omega) hr hw).mono fun e w' ⟨he, n, hw'⟩ => ?_
      subst hw'
      rw [if_pos (show c.endure ≤ nm c.wear (i : Int).toNat from hw)]
      exact ⟨he, hc.drewN n, turned_drewN w n⟩
    · refine (erase_yes h c k i w hc ok (by omega) hr (by omega)).mono fun e w' ⟨he, hc', ht⟩ => ?_
      rw [if_neg (show ¬ c.endure ≤ nm c.wear (i : Int).toNat from hw)]
      exact ⟨he, hc', ht⟩
  · refine (erase_no h c k b w hc ok hr).mono fun e w' ⟨he, hw⟩ => ?_
    subst hw
    unfold mErase
    rw [if_neg hr]
    exact ⟨he, hc, Turned.refl _ _⟩
theorem read_any (h : Hd) (c : ChipM) (k : Nat) (a : Int) (w : World) (hc : ChipAt w h c) (ok : ChipOk k c) :
    Calls Tryz.prog 93 #[.pointer (some ⟨h.p, 0, none⟩), .int .i64 a] w fun e w' => e = .returned (.tuple #[.int .u32 (U (mRead c a).1), .int .i64 (mRead c a).2]) ∧ w' = w := by
  by_cases hr : mRefuse c a c.ws.length = 0
  · obtain ⟨_, h1, h2⟩ := refuse_zero hr
    obtain ⟨i, rfl⟩ := Int.eq_ofNat_of_zero_le h1
    refine (read_yes h c k i w hc ok (by omega) hr).mono fun e w' ⟨he, hw⟩ => ?_
    unfold mRead
    rw [if_pos hr]
    exact ⟨he, hw⟩
  · refine (read_no h c k a w hc ok hr).mono fun e w' ⟨he, hw⟩ => ?_
    unfold mRead
    rw [if_neg hr]
    exact ⟨he, hw⟩
end Go.Proofs.YtpkkejdjhnmjiaaGreat
