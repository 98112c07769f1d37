/- Contract of the law's Built (layer scan): the words of blocks that are written out. -/
import Derived.Test.YtfpfcmgcfbkolaaScanFacts
import Derived.Test.YtfpfcmgcfbkolaaMid
import Derived.Test.YtfpfcmgcfbkolaaRep
import Derived.Test.YtfpfcmgcfbkolaaPageRef2
import Derived.Test.YtfpfcmgcfbkolaaOpens
import Derived.BigRegion
import Derived.Deep.DeepCutAuto
import Derived.Deep.AppendLies
import Derived.Deep.LoopGhost
import Derived.Deep.Light
import Derived.Lib.Hide
namespace Go.Proofs.Ytfpfcmgcfbkolaa
open Go.RowKit Bm

/-- A slice (nil too) reads as these pages; a slice of such slices. -/
structure ReadsP (w : World) (A : Option Addr) (n cap : Nat) (ps : List PageM) : Prop where
  len : ps.length = n
  le : n ≤ cap
  max : cap ≤ maxLen
  cell : 0 < n → ∃ g off, A = some ⟨g, off, none⟩ ∧ g < w.heap.size ∧ ∀ j p, ps[j]? = some p → w.rangeAt g (off + j * 7) (pgC p)
structure ReadsPP (w : World) (A : Option Addr) (n cap : Nat) (ll : List (List PageM)) : Prop where
  len : ll.length = n
  le : n ≤ cap
  max : cap ≤ maxLen
  cell : 0 < n → ∃ ad, A = some ad ∧ ad.block < w.heap.size ∧ ∀ j ps, ll[j]? = some ps → ∃ Aj nj cj, w.cell? (ad.add j) = some (.slice Aj nj cj) ∧ ReadsP w Aj nj cj ps
theorem rng_kept {w w' : World} {g off : Nat} {cs : List Value} (h : w.rangeAt g off cs) (hb : w'.heap[g]? = w.heap[g]?) : w'.rangeAt g off cs := fun j v hv => (World.cell?_of_block (a := ⟨g, off + j, none⟩) hb).trans (h j v hv)
section
variable {w w' : World} {A : Option Addr} {n cap : Nat}
theorem ReadsP.kept {ps : List PageM} (h : ReadsP w A n cap ps) (hB : Below w.heap.size w w') : ReadsP w' A n cap ps :=
  ⟨h.len, h.le, h.max, fun hn => by
    obtain ⟨g, off, e, hlt, hc⟩ := h.cell hn
    exact ⟨g, off, e, Nat.lt_of_lt_of_le hlt hB.size, fun j p hp => rng_kept (hc j p hp) (hB.block g hlt)⟩⟩
theorem ReadsPP.kept {ll : List (List PageM)} (h : ReadsPP w A n cap ll) (hB : Below w.heap.size w w') : ReadsPP w' A n cap ll :=
  ⟨h.len, h.le, h.max, fun hn => by
    obtain ⟨ad, e, hlt, hc⟩ := h.cell hn
    refine ⟨ad, e, Nat.lt_of_lt_of_le hlt hB.size, fun j ps hp => ?_⟩
    obtain ⟨Aj, nj, cj, h1, h2⟩ := hc j ps hp
    exact ⟨Aj, nj, cj, (hB.cell (p := ad.add j) (by rw [add_block]; exact hlt)).trans h1, h2.kept hB⟩⟩
theorem ReadsP.at_ {ps : List PageM} (h : ReadsP w A n cap ps) {j : Nat} (hj : j < n) : ∃ g off, A = some ⟨g, off, none⟩ ∧ w.rangeAt g (off + j * 7) (pgC (pgN ps j)) := by
  obtain ⟨g, off, e, _, hc⟩ := h.cell (by omega)
  refine ⟨g, off, e, hc j _ ?_⟩
  unfold pgN
  rw [List.getD_eq_getElem?_getD, List.getElem?_eq_getElem (by rw [h.len]; exact hj)]
  rfl
theorem ReadsPP.at_ {ll : List (List PageM)} (h : ReadsPP w A n cap ll) {j : Nat} (hj : j < n) : ∃ ad Aj nj cj, A = some ad ∧ ad.block < w.heap.size ∧ w.cell? (ad.add j) = some (.slice Aj nj cj) ∧ ReadsP w Aj nj cj (ll.getD j []) := by
  obtain ⟨ad, e, hlt, hc⟩ := h.cell (by omega)
  obtain ⟨Aj, nj, cj, h1, h2⟩ := hc j (ll.getD j []) (by rw [List.getD_eq_getElem?_getD, List.getElem?_eq_getElem (by rw [h.len]; exact hj)]; rfl)
  exact ⟨ad, Aj, nj, cj, e, hlt, h1, h2⟩
end

/-- The words of the first j blocks; and of the head, and t pages, of the next one. -/
def bltPre (ll : List (List PageM)) (j : Nat) : List (BitVec 32) := (List.range j).flatMap fun i => blkW i (ll.getD i [])
def bltCur (ll : List (List PageM)) (j t : Nat) : List (BitVec 32) := bltPre ll j ++ (hdWs (BitVec.ofNat 32 j) ++ (List.range t).flatMap (slotW (ll.getD j [])))
theorem bltPre_succ (ll : List (List PageM)) (j : Nat) : bltPre ll (j + 1) = bltCur ll j 8 ++ ones 4 := by
  unfold bltPre bltCur
  rw [show List.range (j + 1) = List.range j ++ [j] from List.range_succ, List.flatMap_append, List.flatMap_singleton]
  unfold bltPre blkW
  simp only [List.append_assoc]
theorem bltCur_zero (ll : List (List PageM)) (j : Nat) : bltCur ll j 0 = bltPre ll j ++ hdWs (BitVec.ofNat 32 j) := by unfold bltCur; simp
theorem bltCur_succ (ll : List (List PageM)) (j t : Nat) : bltCur ll j (t + 1) = bltCur ll j t ++ slotW (ll.getD j []) t := by
  unfold bltCur
  rw [List.range_succ, List.flatMap_append, List.flatMap_singleton]
  simp only [List.append_assoc]
theorem bltPre_len (ll : List (List PageM)) (j : Nat) (h : j ≤ 2147483648) : (bltPre ll j).length = 64 * j := by
  unfold bltPre
  rw [flat_len _ 64 _ (fun i hi => blkW_len (by simp at hi; omega) _), List.length_range]
theorem bltCur_len (ll : List (List PageM)) (j t : Nat) (h : j ≤ 2147483648) : (bltCur ll j t).length = 64 * j + 4 + 7 * t := by
  unfold bltCur
  rw [List.length_append, List.length_append, bltPre_len ll j h, hd_len h, flat_len _ 7 _ (fun k _ => slotW_len _ k), List.length_range]
  omega
theorem own_lift {w w' : World} {base n k : Nat} {t : TypeId} {v : Value} {xs : List Value} (h : w.ownsRow base t k v n xs) (hb : Below w.heap.size w w') : w'.ownsRow base t k v n xs :=
  h.kept (w' := w') (row := none) ⟨hb.os, hb.tape, hb.output, hb.size, fun k hk _ => hb.block k hk⟩ (by cases v.ownBlock <;> simp)
theorem ReadsU.news {w : World} {A : Option Addr} {n cap : Nat} {xs : List (BitVec 32)} (h : ReadsU w A n cap xs) (hn : 0 < n) : ∃ ad, A = some ad ∧ ∀ j u, (Us xs)[j]? = some u → w.cell? (ad.add j) = some u := by
  obtain ⟨ad, e, _, hc⟩ := h.cell hn
  exact ⟨ad, e, hc⟩

theorem readsU_of_own {w : World} {base n : Nat} {v : Value} {xs : List (BitVec 32)} (h : w.ownsRow base 34 1 v n (Us xs)) (hn : xs.length = n) : ∃ A cap, v = .slice A n cap ∧ ReadsU w A n cap xs := by
  have h0 := h
  rcases h.2 with ⟨rfl, e⟩ | ⟨g, cap, cur, rfl, _⟩
  · subst e
    have : xs = [] := List.eq_nil_of_length_eq_zero hn
    subst this
    exact ⟨Option.none, 0, rfl, reads_nil _ _⟩
  · obtain ⟨rest, hA, h1, h2, h3, _⟩ := at_of_own h0
    have := ReadsU.of_at hA (by rw [h1, Nat.mul_one]) h3
    rw [hn] at this
    exact ⟨_, cap, rfl, this⟩
/-- Words are put behind words. -/
theorem wpList_appW {ops : Array Oper} {rest : List Oper} {o : Oper} {a : Go.Act} {w : World} {Q : Exit → Go.Act → World → Prop} {base n m c : Nat} {xs ys : List (BitVec 32)} {v : Value} {ad : Addr} (s x : Operand) (hgd : o.guard = none) (hop : o.op = .call { callee := .builtin .append, args := #[s, x], argTypes := #[66, 66] })
    (hs : a.eval s = v) (hown : w.ownsRow base 34 1 v n (Us xs)) (hx : a.eval x = .slice (some ad) m c) (hr : ReadsU w (some ad) m c ys) (hm : 0 < m) (hl : n + m ≤ 1000000) (hb : base ≤ w.heap.size)
    (h : ∀ g cap w', w'.ownsRow base 34 1 (.slice (some ⟨g, 0, none⟩) (n + m) cap) (n + m) (Us (xs ++ ys)) → Below base w w' → wpList Try.prog ops Q rest (a.put o.dst (.slice (some ⟨g, 0, none⟩) (n + m) cap)) w') : wpList Try.prog ops Q (o :: rest) a w := by
  obtain ⟨i0, hin, hz0, hz1, hz2⟩ := info_parts infoU
  obtain ⟨ad', e, hn⟩ := hr.news hm
  cases e
  refine wpList_append_lies _ hgd s x _ hop base 34 i0 _ 1 4 Try.underlying66 hin hz0 hz1 hz2 rfl (by omega) v n _ hs hown ad m c (Us ys) hx (by rw [Us_length, hr.len]; omega) hn (Us_one _) hm (by unfold maxLen; omega) (by omega) hb _ rfl ?_
  intro g cap w' h1 h2 _ _
  exact h g cap w' (by rw [Us_append]; exact h1) ((Below.refl base w).grown h2 hb (fun k hk => (hown.lt k hk).1))

set_option maxRecDepth 100000 in
set_option maxHeartbeats 4000000 in
theorem built_any (A : Option Addr) (n c : Nat) (ll : List (List PageM)) (w : World) (hA : ReadsPP w A n c ll) (hn : n ≤ 1000) : Calls Try.prog 23 #[.slice A n c] w fun e w' => ∃ B cap, e = .returned (.slice B (64 * n) cap) ∧ ReadsU w' B (64 * n) cap (bltPre ll n) ∧ Below w.heap.size w w' := by
  have HA := Lib.hid hA
  clear hA
  go_enter Try.func23, Try.ntmps23
  go_wp2
  go_loopg [3, 10] n (fun g o i wr => ∃ j : Nat, j ≤ n ∧ g = n - j ∧ i = .int .i64 j ∧ wr.ownsRow w.heap.size 34 1 o (64 * j) (Us (bltPre ll j)) ∧ Below w.heap.size w wr)
  case atStart => exact ⟨0, by omega, rfl, rfl, World.ownsRow_nil _ _ _ _, Below.refl _ _⟩
  case round =>
    obtain ⟨j, hj, rfl, rfl, ho, hB⟩ := hrel
    by_cases hltj : j < n
    · have i0' : (0 : Int) ≤ (j : Int) := by omega
      have i1' : (j : Int) < (n : Int) := by omega
      obtain ⟨ad, Aj, nj, cj, rfl, had, hcell0, hP⟩ := HA.out.at_ hltj
      have hcell := (hB.cell (p := ad.add j) (by rw [add_block]; exact had)).trans hcell0
      have PH := rheader_any (BitVec.ofNat 32 j) wr
      rw [U_ofNat j (by omega)] at PH
      have PHH := Lib.hid PH
      have HO := Lib.hid ho
      have HB := Lib.hid hB
      have HP := Lib.hid hP
      have hj32 : (j : Int) % 4294967296 = (j : Int) := by omega
      clear ho hB hP PH
      go_wp2_with (first
        | (go_at_call 32; (with_reducible refine PHH.out.mono ?_); rintro e w1 ⟨A1, c1, rfl, hr, _, hb⟩; have HR1 := Lib.hid hr; have HB1 := Lib.hid (HB.out.trans (hb.mono HB.out.size)); have HO1 := Lib.hid (own_lift HO.out hb); clear hr hb)
        | (at_builtin; refine halt_here ?_))
      have hl4 : (hdWs (BitVec.ofNat 32 j)).length = 4 := hd_len (by omega)
      have hr1 := HR1.out
      obtain ⟨ad1, rfl, _, _⟩ := hr1.cell (by omega)
      rw [hl4] at hr1 ⊢
      have HRR := Lib.hid hr1
      clear hr1 HR1
      refine Lib.hid ?_
      refine wpList_appW _ _ rfl rfl rfl HO1.out rfl HRR.out (by omega) (by omega) HB1.out.size ?_
      intro g1 cap1 w2 hO2 hb2
      simp only [Act.put, List.setIfInBounds_toArray, List.set_cons_zero, List.set_cons_succ]
      rw [← bltCur_zero] at hO2
      have hB2 : Below w.heap.size w w2 := HB1.out.trans hb2
      go_wp2
      go_loopg [3, 20] 8 (fun g o i wq => ∃ t : Nat, t ≤ 8 ∧ g = 8 - t ∧ i = .int .i64 t ∧ wq.ownsRow w.heap.size 34 1 o (64 * j + 4 + 7 * t) (Us (bltCur ll j t)) ∧ Below w.heap.size w wq)
      case atStart => exact ⟨0, by omega, rfl, rfl, hO2, hB2⟩
      case round =>
        clear hO2 hB2 hb2
        obtain ⟨t, ht, rfl, rfl, hO3, hB3⟩ := hrel
        have HO3 := Lib.hid hO3
        have HB3 := Lib.hid hB3
        clear hO3 hB3
        by_cases hlt : t < 8
        · have t0 : (0 : Int) ≤ (t : Int) := by omega
          have t1 : (t : Int) < 8 := by omega
          have hb7 : ∀ o, Below w.heap.size w (wr.alloc o) := fun o => HB3.out.alloc HB3.out.size o
          have ones7 : At (wr.alloc (.cells #[.int .u32 4294967295, .int .u32 4294967295, .int .u32 4294967295, .int .u32 4294967295, .int .u32 4294967295, .int .u32 4294967295, .int .u32 4294967295] 34)) wr.heap.size 34 (Us (ones 7) ++ []) := At.news wr 34 (Us (ones 7))
          have r7 := ReadsU.of_at ones7 rfl (by unfold maxLen; simp [ones, Us_length])
          rw [show (ones 7).length = 7 from rfl] at r7
          have R7 := Lib.hid r7
          have HB7 := Lib.hid hb7
          clear ones7 hb7 r7
          by_cases hin : t < nj
          · have t2 : (t : Int) < (nj : Int) := by omega
            obtain ⟨gp, op, rfl, hrp⟩ := HP.out.at_ hin
            have hgp : gp < w.heap.size := by
              have h0 := hrp 0 _ (show (pgC (pgN (ll.getD j []) t))[0]? = some (.int .u32 (U (pgN (ll.getD j []) t).s)) from rfl)
              exact World.block_lt_of_cell? _ _ h0
            have cells : ∀ W, Below w.heap.size w W → ∀ i v, (pgC (pgN (ll.getD j []) t))[i]? = some v → W.cell? ⟨gp, op + t * 7 + i, none⟩ = some v := fun W hW i v hv => (hW.cell (p := ⟨gp, op + t * 7 + i, none⟩) hgp).trans (hrp i v hv)
            have CE := Lib.hid cells
            obtain ⟨p, hpe⟩ : ∃ p, p = pgN (ll.getD j []) t := ⟨_, rfl⟩
            rw [← hpe] at CE
            have KA : ∀ o, (wr.alloc o).cell? ⟨gp, op + t * 7, none⟩ = some (.int .u32 (U p.s)) := fun o => CE.out _ (HB7.out o) 0 _ rfl
            have KB : ∀ o, (wr.alloc o).cell? ⟨gp, op + t * 7 + 1, none⟩ = some (.int .u32 (U p.q)) := fun o => CE.out _ (HB7.out o) 1 _ rfl
            have KC : ∀ o, (wr.alloc o).cell? ⟨gp, op + t * 7 + 2, none⟩ = some (.bool p.g) := fun o => CE.out _ (HB7.out o) 2 _ rfl
            have KD : ∀ o, (wr.alloc o).cell? ⟨gp, op + t * 7 + 3, none⟩ = some (.int .u32 (U p.d0)) := fun o => CE.out _ (HB7.out o) 3 _ rfl
            have KE : ∀ o, (wr.alloc o).cell? ⟨gp, op + t * 7 + 4, none⟩ = some (.int .u32 (U p.d1)) := fun o => CE.out _ (HB7.out o) 4 _ rfl
            have KF : ∀ o, (wr.alloc o).cell? ⟨gp, op + t * 7 + 5, none⟩ = some (.int .u32 (U p.d2)) := fun o => CE.out _ (HB7.out o) 5 _ rfl
            have KG : ∀ o, (wr.alloc o).cell? ⟨gp, op + t * 7 + 6, none⟩ = some (.int .u32 (U p.d3)) := fun o => CE.out _ (HB7.out o) 6 _ rfl
            have RR := fun W => rright_any p W
            have RW := fun W => rwords_any p W
            unfold pgV pgC at RR RW
            cases hok : pgOk p
            · have RR' := Lib.hid RR
              rw [hok] at RR'
              have hsl : slotW (ll.getD j []) t = ones 7 := by
                unfold slotW pgIs
                rw [← hpe, hok, Bool.and_false, if_neg (by simp)]
              have HSL := Lib.hid hsl
              clear hsl RR RW hok hpe cells hrp
              go_wp2_with (first
                | (go_at_call 33; (refine (RR'.out _).mono ?_); rintro e w5 ⟨rfl, hb⟩; have HB5 := Lib.hid ((HB7.out _).trans (hb.mono (HB7.out _).size)); have HO5 := Lib.hid (own_lift (HO3.out.alloc _) hb); have R5 := Lib.hid (R7.out.kept hb); clear hb)
                | (at_builtin; refine halt_here ?_))
              refine Lib.hid ?_
              refine wpList_appW _ _ rfl rfl rfl HO5.out rfl R5.out (by omega) (by omega) HB5.out.size ?_
              intro g2 cap2 w3 hO4 hb4
              simp only [Act.put, List.setIfInBounds_toArray, List.set_cons_zero, List.set_cons_succ]
              rw [← HSL.out, ← bltCur_succ] at hO4
              have hB4 : Below w.heap.size w w3 := HB5.out.trans hb4
              go_wp2
              go_roundg (8 - (t + 1))
              case measure => go_light; omega
              case rel =>
                go_light
                exact ⟨t + 1, by omega, rfl, by go_num, by rw [show 64 * j + 4 + 7 * (t + 1) = 64 * j + 4 + 7 * t + 7 by omega]; exact hO4, hB4⟩
            · have RR' := Lib.hid RR
              rw [hok] at RR'
              rw [pgWs_yes hok] at RW
              have RW' := Lib.hid RW
              have hsl : slotW (ll.getD j []) t = [pgFirst p, p.q, p.d0, p.d1, p.d2, p.d3, 1526644958#32] := by
                unfold slotW pgIs
                rw [← hpe, hok, Bool.and_true, if_pos (by rw [decide_eq_true_eq]; have := HP.out.len; omega), pgWs_yes hok]
              have HSL := Lib.hid hsl
              clear hsl RR RW hok hpe cells hrp
              go_wp2_with (first
                | (go_at_call 33; (refine (RR'.out _).mono ?_); rintro e w5 ⟨rfl, hb⟩; have HB5 := Lib.hid ((HB7.out _).trans (hb.mono (HB7.out _).size)); have HO5 := Lib.hid (own_lift (HO3.out.alloc _) hb); have k0 := CE.out _ HB5.out 0 _ rfl; have k1 := CE.out _ HB5.out 1 _ rfl; have k2 := CE.out _ HB5.out 2 _ rfl; have k3 := CE.out _ HB5.out 3 _ rfl; have k4 := CE.out _ HB5.out 4 _ rfl; have k5 := CE.out _ HB5.out 5 _ rfl; have k6 := CE.out _ HB5.out 6 _ rfl; rw [Nat.add_zero] at k0; clear hb)
                | (go_at_call 34; (refine (RW'.out _).mono ?_); rintro e w6 ⟨A6, c6, rfl, hr, _, hb⟩; have HR6 := Lib.hid hr; have HB6 := Lib.hid (HB5.out.trans (hb.mono HB5.out.size)); have HO6 := Lib.hid (own_lift HO5.out hb); clear hr hb)
                | (at_builtin; refine halt_here ?_))
              obtain ⟨ad6, rfl, _, _⟩ := HR6.out.cell (by simp)
              refine Lib.hid ?_
              refine wpList_appW _ _ rfl rfl rfl HO6.out rfl HR6.out (by simp) (by simp; omega) HB6.out.size ?_
              intro g2 cap2 w3 hO4 hb4
              simp only [Act.put, List.setIfInBounds_toArray, List.set_cons_zero, List.set_cons_succ]
              rw [← HSL.out, ← bltCur_succ] at hO4
              have hB4 : Below w.heap.size w w3 := HB6.out.trans hb4
              go_wp2
              go_roundg (8 - (t + 1))
              case measure => go_light; omega
              case rel =>
                go_light
                exact ⟨t + 1, by omega, rfl, by go_num, by rw [show 64 * j + 4 + 7 * (t + 1) = 64 * j + 4 + 7 * t + 7 by omega]; exact hO4, hB4⟩
          · have t2 : ¬ (t : Int) < (nj : Int) := by omega
            have hsl : slotW (ll.getD j []) t = ones 7 := by
              unfold slotW pgIs
              rw [if_neg (by rw [Bool.and_eq_true, decide_eq_true_eq]; intro h; have := HP.out.len; omega)]
            have HSL := Lib.hid hsl
            clear hsl
            go_wp2_with (at_builtin; refine halt_here ?_)
            refine Lib.hid ?_
            refine wpList_appW _ _ rfl rfl rfl (HO3.out.alloc _) rfl R7.out (by omega) (by omega) (HB7.out _).size ?_
            intro g2 cap2 w3 hO4 hb4
            simp only [Act.put, List.setIfInBounds_toArray, List.set_cons_zero, List.set_cons_succ]
            rw [← HSL.out, ← bltCur_succ] at hO4
            have hB4 : Below w.heap.size w w3 := (HB7.out _).trans hb4
            go_wp2
            go_roundg (8 - (t + 1))
            case measure => go_light; omega
            case rel =>
              go_light
              exact ⟨t + 1, by omega, rfl, by go_num, by rw [show 64 * j + 4 + 7 * (t + 1) = 64 * j + 4 + 7 * t + 7 by omega]; exact hO4, hB4⟩
        · obtain rfl : t = 8 := by omega
          have hb4 : ∀ o, Below w.heap.size w (wr.alloc o) := fun o => HB3.out.alloc HB3.out.size o
          have ones4 : At (wr.alloc (.cells #[.int .u32 4294967295, .int .u32 4294967295, .int .u32 4294967295, .int .u32 4294967295] 34)) wr.heap.size 34 (Us (ones 4) ++ []) := At.news wr 34 (Us (ones 4))
          have r4 := ReadsU.of_at ones4 rfl (by unfold maxLen; simp [ones, Us_length])
          rw [show (ones 4).length = 4 from rfl] at r4
          have R4 := Lib.hid r4
          have HB4 := Lib.hid hb4
          clear ones4 hb4 r4
          go_wp2_with (at_builtin; refine halt_here ?_)
          refine Lib.hid ?_
          refine wpList_appW _ _ rfl rfl rfl (HO3.out.alloc _) rfl R4.out (by omega) (by omega) (HB4.out _).size ?_
          intro g2 cap2 w3 hO4 hb4
          simp only [Act.put, List.setIfInBounds_toArray, List.set_cons_zero, List.set_cons_succ]
          rw [← bltPre_succ] at hO4
          have hB5 : Below w.heap.size w w3 := (HB4.out _).trans hb4
          go_wp2
          go_roundg (n - (j + 1))
          case measure => go_light; omega
          case rel =>
            go_light
            exact ⟨j + 1, by omega, rfl, by go_num, by rw [show 64 * (j + 1) = 64 * j + 4 + 7 * 8 + 4 by omega]; exact hO4, hB5⟩
    · obtain rfl : j = n := by omega
      go_wp2
      obtain ⟨B, cap, rfl, hR⟩ := readsU_of_own ho (by rw [bltPre_len ll j (by omega)])
      go_ret
      exact ⟨B, cap, rfl, hR, hB⟩
end Go.Proofs.Ytfpfcmgcfbkolaa
