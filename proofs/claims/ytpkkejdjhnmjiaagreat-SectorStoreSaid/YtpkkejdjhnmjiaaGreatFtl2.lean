/- The order in which a store goes through its blocks: a stable sort of their numbers. | The iterator over a store's usable blocks. | Where pages can be written. -/
import Derived.Test.YtpkkejdjhnmjiaaGreatFtl1
import Derived.Deep.LoopGhost
import Derived.Maps.AppendAt
namespace Go.Proofs.YtpkkejdjhnmjiaaGreat
open Go.RowKit Bm Go.Shelf
def Ns (l : List Nat) : List Value := l.map fun b : Nat => .int .i64 (b : Int)
def nn (l : List Nat) (i : Nat) : Nat := l.getD i 0
theorem Ns_length (l : List Nat) : (Ns l).length = l.length := by simp [Ns]
theorem Ns_get (l : List Nat) (i : Nat) (h : i < l.length) : (Ns l)[i]? = some (.int .i64 (nn l i : Nat)) := by simp [Ns, nn, h]
theorem Ns_set (l : List Nat) (i x : Nat) : (Ns l).set i (.int .i64 (x : Int)) = Ns (l.set i x) := by simp [Ns, List.map_set]
theorem nn_mem (l : List Nat) (i : Nat) (h : i < l.length) : nn l i ∈ l := by
  unfold nn
  rw [List.getD_eq_getElem?_getD, List.getElem?_eq_getElem h]
  exact List.getElem_mem h
def swapN (l : List Nat) (p : Nat) : List Nat := (l.set (p + 1) (nn l p)).set p (nn l (p + 1))
theorem swapN_len (l : List Nat) (p : Nat) : (swapN l p).length = l.length := by simp [swapN]
theorem swapN_perm (l : List Nat) (p : Nat) (h : p + 1 < l.length) : (swapN l p).Perm l := by
  have e : l = l.take p ++ (nn l p :: nn l (p + 1) :: l.drop (p + 2)) := by
    have h1 : l.drop p = nn l p :: l.drop (p + 1) := by
      rw [List.drop_eq_getElem_cons (by omega)]
      unfold nn
      rw [List.getD_eq_getElem?_getD, List.getElem?_eq_getElem (by omega)]
      rfl
    have h2 : l.drop (p + 1) = nn l (p + 1) :: l.drop (p + 2) := by
      rw [List.drop_eq_getElem_cons h]
      unfold nn
      rw [List.getD_eq_getElem?_getD, List.getElem?_eq_getElem h]
      rfl
    rw [← h2, ← h1, List.take_append_drop]
  have e2 : swapN l p = l.take p ++ (nn l (p + 1) :: nn l p :: l.drop (p + 2)) := by
    unfold swapN
    generalize nn l p = a at e ⊢
    generalize nn l (p + 1) = b at e ⊢
    conv => lhs; rw [e]
    rw [List.set_append_right _ _ (by rw [List.length_take]; omega), List.length_take, Nat.min_eq_left (by omega), show p + 1 - p = 1 by omega, List.set_append_right _ _ (by rw [List.length_take]; omega), List.length_take, Nat.min_eq_left (by omega), Nat.sub_self]
    rfl
  rw [e2]
  conv => rhs; rw [e]
  exact List.Perm.append_left _ (List.Perm.swap _ _ _)
def sinkN (c : Nat → Nat → Int) : Nat → List Nat → List Nat
  | 0, l => l
  | p + 1, l => if c (nn l (p + 1)) (nn l p) < 0 then sinkN c p (swapN l p) else l
def insN (c : Nat → Nat → Int) : Nat → List Nat → List Nat
  | 0, l => l
  | t + 1, l => sinkN c (t + 1) (insN c t l)
def sortN (c : Nat → Nat → Int) (l : List Nat) : List Nat := insN c (l.length - 1) l
theorem sinkN_perm (c : Nat → Nat → Int) : ∀ (p : Nat) (l : List Nat), p < l.length → (sinkN c p l).Perm l
  | 0, l, _ => List.Perm.refl _
  | p + 1, l, h => by
    unfold sinkN
    split
    · exact (sinkN_perm c p _ (by rw [swapN_len]; omega)).trans (swapN_perm l p h)
    · exact List.Perm.refl _
theorem insN_perm (c : Nat → Nat → Int) : ∀ (t : Nat) (l : List Nat), t < l.length ∨ t = 0 → (insN c t l).Perm l
  | 0, l, _ => List.Perm.refl _
  | t + 1, l, h => by
    have h1 := insN_perm c t l (by omega)
    unfold insN
    exact (sinkN_perm c (t + 1) _ (by rw [h1.length_eq]; omega)).trans h1
theorem sortN_perm (c : Nat → Nat → Int) (l : List Nat) : (sortN c l).Perm l := insN_perm c _ l (by omega)
structure UsA (q s g N : Nat) (x : StoM) (w : World) : Prop where
  bx : At w N 30 [.pointer (some ⟨s, 0, none⟩)]
  own : At w s 83 (stoCells q g x)
  row : At w g 147 (bks x.bs)
  ok : ∀ b ∈ x.bs, BlkOk b
  ret : x.ret.length = 64
  k2 : x.bs.length ≤ 19
section
variable {q s g N : Nat} {x : StoM} {w w' : World}
theorem UsA.kept (h : UsA q s g N x w) {S : Nat → Prop} (t : Turned S w w') (h1 : ¬ S N) (h2 : ¬ S s) (h3 : ¬ S g) : UsA q s g N x w' := ⟨h.bx.kept t h1, h.own.kept t h2, h.row.kept t h3, h.ok, h.ret, h.k2⟩
theorem UsA.below (h : UsA q s g N x w) (hb : Below w.heap.size w w') : UsA q s g N x w' := h.kept (Turned.of_below hb (Nat.le_refl _) NoBlock) (fun h => h) (fun h => h) (fun h => h)
theorem UsA.drew (h : UsA q s g N x w) : UsA q s g N x w.drew := h.below (Below.refl _ w).drew
theorem UsA.blk (h : UsA q s g N x w) {b : Nat} (hb : b < x.bs.length) : w.rangeAt g (b * 66) (bkC (bkN x.bs b)) := by
  have := (h.row.as (bks_cut x.bs b hb)).range
  rwa [bks_pre h.ok b (Nat.le_of_lt hb)] at this
theorem UsA.count (h : UsA q s g N x w) {b : Nat} (hb : b < x.bs.length) : w.cell? ⟨g, b * 66 + 1, none⟩ = some (.int .u32 (U (bkN x.bs b).count)) := h.blk hb 1 _ (bk_count _)
def cmpB (x : StoM) (a b : Nat) : Int := cmpI (bkN x.bs a).count (bkN x.bs b).count
set_option maxRecDepth 100000 in
set_option maxHeartbeats 1000000 in
theorem uscmp_any (h : UsA q s g N x w) (a b : Nat) (ha : a < x.bs.length) (hb : b < x.bs.length) :
    Calls Tryz.prog 161 #[.int .i64 a, .int .i64 b, .pointer (some ⟨N, 0, none⟩)] w fun e w' => e = .returned (.int .i64 (cmpB x a b)) ∧ Below w.heap.size w w' := by
  have c0 := h.bx.cell 0
  have c1 : w.cell? ⟨s, 1, none⟩ = some (.slice (some ⟨g, 0, none⟩) x.bs.length x.bs.length) := h.own.cell 1
  have ca := h.count ha
  have cb := h.count hb
  simp only [List.getElem?_cons_zero] at c0
  have k2 := h.k2
  have i1 : (a : Int) < (x.bs.length : Int) := by omega
  have i2 : (b : Int) < (x.bs.length : Int) := by omega
  have C := Lib.hid (compare_any (bkN x.bs a).count (bkN x.bs b).count)
  unfold cmpB
  clear h ha hb
  go_enter Tryz.func161, Tryz.ntmps161
  go_wp2
  go_quiet ((go_at_call 55; exact Calls.quiet_of_same (C.out _)))
  go_wp2
  go_ret
  exact ⟨rfl, below_drewN _ _ _⟩
theorem At.num {w : World} {g : Nat} {t : TypeId} {l : List Nat} {rest : List Value} (h : At w g t (Ns l ++ rest)) {j : Nat} (hj : j < l.length) : w.cell? ⟨g, j, none⟩ = some (.int .i64 (nn l j : Nat)) := by
  rw [h.cell, List.getElem?_append_left (by rw [Ns_length]; exact hj)]
  exact Ns_get l j hj
theorem At.swapN {w : World} {g : Nat} {t : TypeId} {l : List Nat} {rest : List Value} (h : At w g t (Ns l ++ rest)) {p : Nat} (hp : p + 1 < l.length) : At ((w.setCell ⟨g, p + 1, none⟩ (.int .i64 (nn l p : Nat))).setCell ⟨g, p, none⟩ (.int .i64 (nn l (p + 1) : Nat))) g t (Ns (swapN l p) ++ rest) := by
  refine ((h.put (p + 1) _).put p _).as ?_
  rw [List.set_append_left _ _ (by rw [Ns_length]; exact hp), Ns_set, List.set_append_left _ _ (by rw [Ns_length, List.length_set]; omega), Ns_set]
  rfl
theorem At.swapN' {w : World} {g : Nat} {t : TypeId} {l : List Nat} {rest : List Value} (h : At w g t (Ns l ++ rest)) {p : Nat} (hp : p + 1 < l.length) : At ((w.setCell ⟨g, p, none⟩ (.int .i64 (nn l (p + 1) : Nat))).setCell ⟨g, p + 1, none⟩ (.int .i64 (nn l p : Nat))) g t (Ns (Proofs.YtpkkejdjhnmjiaaGreat.swapN l p) ++ rest) := by
  refine ((h.put p _).put (p + 1) _).as ?_
  rw [List.set_append_left _ _ (by rw [Ns_length]; omega), Ns_set, List.set_append_left _ _ (by rw [Ns_length, List.length_set]; omega), Ns_set]
  unfold Proofs.YtpkkejdjhnmjiaaGreat.swapN
  rw [List.set_comm _ _ (by omega)]
set_option maxRecDepth 100000 in
set_option maxHeartbeats 4000000 in
theorem insI_any (go n cap : Nat) (xs : List Nat) (rest : List Value) (w : World) (hU : UsA q s g N x w) (hx : ∀ b ∈ xs, b < x.bs.length) (h1 : go ≠ N) (h2 : go ≠ s) (h3 : go ≠ g) (hA : At w go 3 (Ns xs ++ rest)) (hn : xs.length = n) (hm : n ≤ 1000) :
    Calls Tryz.prog 166 #[.slice (some ⟨go, 0, none⟩) n cap, .int .i64 0, .int .i64 n, .func (.func 161) #[] #[.pointer (some ⟨N, 0, none⟩)]] w fun e w' => e = .returned (.tuple #[]) ∧ At w' go 3 (Ns (sortN (cmpB x) xs) ++ rest) ∧ Turned (Just go) w w' := by
  have HN := Lib.hid hn
  have HA := Lib.hid hA
  have HU := Lib.hid (fun W (t : Turned (Just go) w W) => hU.kept t (fun e => h1 e.symm) (fun e => h2 e.symm) (fun e => h3 e.symm))
  have HX := Lib.hid hx
  have HP : Hid (∀ t ys, ys.Perm xs → t < n → nn ys t < x.bs.length) := Lib.hid (fun t ys hp ht => hx _ (hp.mem_iff.1 (nn_mem ys t (by rw [hp.length_eq, hn]; exact ht))))
  have hm' : (n : Int) ≤ 1000 := by omega
  clear hn hA hU hx h1 h2 h3
  go_enter Tryz.func166, Tryz.ntmps166
  go_wp2
  go_loopg [8] (n + 1 - 1) (fun gh i wr => ∃ (k : Nat) (ys : List Nat), 0 < k ∧ k ≤ n + 1 ∧ gh = n + 1 - k ∧ i = .int .i64 k ∧ ys.Perm xs ∧ ys = insN (cmpB x) (min k n - 1) xs ∧ At wr go 3 (Ns ys ++ rest) ∧ Turned (Just go) w wr)
  case atStart => exact ⟨1, xs, by omega, by omega, by omega, by go_num, List.Perm.refl _, by rw [show min 1 n - 1 = 0 by omega]; rfl, HA.out, Turned.refl _ _⟩
  case round =>
    obtain ⟨k, ys, hk0, hkb, rfl, rfl, hp, hs, hA, hT⟩ := hrel
    have HAt := Lib.hid hA
    have HT := Lib.hid hT
    have HPM := Lib.hid hp
    by_cases hlt : k < n
    · have hlt' : (k : Int) < (n : Int) := by omega
      have HI : Hid (insN (cmpB x) (min (k + 1) n - 1) xs = sinkN (cmpB x) k ys) := Lib.hid (by
        obtain ⟨k', rfl⟩ : ∃ k', k = k' + 1 := ⟨k - 1, by omega⟩
        rw [show min (k' + 1 + 1) n - 1 = k' + 1 by omega, hs, show min (k' + 1) n - 1 = k' by omega]
        rfl)
      have hk0' : (0 : Int) ≤ (k : Int) := by omega
      clear hs hA hT hp
      go_wp2
      go_loopg [9] k (fun gh j wr => ∃ (p : Nat) (zs : List Nat), p ≤ k ∧ gh = p ∧ j = .int .i64 p ∧ zs.Perm xs ∧ sinkN (cmpB x) p zs = sinkN (cmpB x) k ys ∧ At wr go 3 (Ns zs ++ rest) ∧ Turned (Just go) w wr)
      case atStart => exact ⟨k, ys, Nat.le_refl _, rfl, rfl, HPM.out, rfl, HAt.out, HT.out⟩
      case round =>
        obtain ⟨p, zs, hpk, hgp, rfl, hI, hsk, hA2, hT2⟩ := hrel
        obtain rfl := hgp.symm
        have HL : Hid (zs.length = n) := Lib.hid (hI.length_eq.trans HN.out)
        have HI2 := Lib.hid hI
        have HT2 := Lib.hid hT2
        have HA2 := Lib.hid hA2
        have HSK := Lib.hid hsk
        clear hI hT2 hA2 hsk
        by_cases hqa : 0 < p
        · obtain ⟨p, rfl⟩ : ∃ p', p = p' + 1 := ⟨p - 1, by omega⟩
          have hqa' : (0 : Int) < (p : Int) + 1 := by omega
          have hpn : (p : Int) + 1 < (n : Int) := by omega
          have hp0 : (0 : Int) ≤ (p : Int) := by omega
          have hp1 : (0 : Int) ≤ (p : Int) + 1 := by omega
          have hp2 : (p : Int) < (n : Int) := by omega
          have hwp : IntKind.i64.wrap (p : Int) = (p : Int) := by rw [IntKind.wrap_i64]; omega
          have e1 : ((p : Int) + 1).toNat = p + 1 := by omega
          have HLP : Hid (p + 1 < zs.length) := Lib.hid (by have := HL.out; omega)
          have CM0 := fun W (hW : Below wr.heap.size wr W) => uscmp_any (HU.out W (HT2.out.trans (Turned.of_below hW (Nat.le_refl _) _))) (nn zs (p + 1)) (nn zs p) (HP.out _ _ HI2.out (by omega)) (HP.out _ _ HI2.out (by omega))
          obtain ⟨x1, hx1⟩ : ∃ x1, x1 = nn zs (p + 1) := ⟨_, rfl⟩
          obtain ⟨y1, hy1⟩ : ∃ y1, y1 = nn zs p := ⟨_, rfl⟩
          have HST : Hid (sinkN (cmpB x) (p + 1) zs = if cmpB x x1 y1 < 0 then sinkN (cmpB x) p (swapN zs p) else zs) := Lib.hid (by rw [hx1, hy1]; rfl)
          have lx : ∀ W, Below wr.heap.size wr W → W.cell? ⟨go, p + 1, none⟩ = some (.int .i64 (x1 : Int)) := fun W hW => by rw [hx1]; exact (HA2.out.kept (Turned.of_below hW (Nat.le_refl _) NoBlock) (fun h => h)).num HLP.out
          have ly : ∀ W, Below wr.heap.size wr W → W.cell? ⟨go, p, none⟩ = some (.int .i64 (y1 : Int)) := fun W hW => by rw [hy1]; exact (HA2.out.kept (Turned.of_below hW (Nat.le_refl _) NoBlock) (fun h => h)).num (Nat.lt_of_succ_lt HLP.out)
          rw [← hx1, ← hy1] at CM0
          have CM := Lib.hid CM0
          have HX1 := Lib.hid hx1
          have HY1 := Lib.hid hy1
          clear CM0 hx1 hy1
          by_cases hc : cmpB x x1 y1 < 0
          · go_wp2_with fail
            go_region_held3 (fun W => Below wr.heap.size wr W) (first | assumption | exact (Below.refl _ wr).drew) (first
              | (go_at_call 161; (refine (CM.out _ (by assumption)).mono ?_); rintro e v1 ⟨rfl, hb⟩; have S1 := Below.trans (by assumption) (hb.mono (Below.size (by assumption))); clear hb))
            have S3 : Below wr.heap.size wr v1 := by assumption
            have hA3 : At v1 go 3 (Ns zs ++ rest) := HA2.out.kept (Turned.of_below S3 (Nat.le_refl _) NoBlock) (fun h => h)
            have HA3 := Lib.hid hA3
            have f0 := hA3.frozen p
            have f1 := hA3.frozen (p + 1)
            have l1 := lx v1 S3
            have l2 := ly v1 S3
            have HS3 := Lib.hid S3
            clear lx ly hA3 S3
            have HA4 : Hid (∀ V, At V go 3 (Ns zs ++ rest) → At ((V.setCell ⟨go, p + 1, none⟩ (.int .i64 (y1 : Int))).setCell ⟨go, p, none⟩ (.int .i64 (x1 : Int))) go 3 (Ns (swapN zs p) ++ rest) ∧ At ((V.setCell ⟨go, p, none⟩ (.int .i64 (x1 : Int))).setCell ⟨go, p + 1, none⟩ (.int .i64 (y1 : Int))) go 3 (Ns (swapN zs p) ++ rest)) := Lib.hid (fun V hV => by
              rw [HX1.out, HY1.out]
              exact ⟨hV.swapN HLP.out, hV.swapN' HLP.out⟩)
            have HT4 : Hid (Turned (Just go) w v1) := Lib.hid (HT2.out.trans (Turned.of_below HS3.out (Nat.le_refl _) _))
            have HTS : Hid (∀ (V : World) (i j : Nat) (u : Value), Turned (Just go) w V → ∀ u', Turned (Just go) w ((V.setCell ⟨go, i, none⟩ u).setCell ⟨go, j, none⟩ u')) := Lib.hid (fun V i j u hV u' => (hV.setCell (p := ⟨go, i, none⟩) (fun _ => rfl) u).setCell (p := ⟨go, j, none⟩) (fun _ => rfl) u')
            have HSK4 : Hid (sinkN (cmpB x) p (swapN zs p) = sinkN (cmpB x) k ys) := Lib.hid (by rw [← HSK.out, HST.out, if_pos hc])
            have HP4 : Hid ((swapN zs p).Perm xs) := Lib.hid ((swapN_perm zs p HLP.out).trans HI2.out)
            go_wp2_with fail
            go_big_region
            all_goals
              go_wp2
              go_roundg p
              case measure => omega
              case rel => exact ⟨p, swapN zs p, by omega, rfl, by go_num, HP4.out, HSK4.out, by first | exact (HA4.out _ HA3.out).1 | exact (HA4.out _ HA3.out).2 | exact (HA4.out _ (HA3.out.drewN _)).1 | exact (HA4.out _ (HA3.out.drewN _)).2, by first | exact HTS.out _ _ _ _ HT4.out _ | exact HTS.out _ _ _ _ (HT4.out.drewN _) _⟩
          · go_wp2_with fail
            go_region_held3 (fun W => Below wr.heap.size wr W) (first | assumption | exact (Below.refl _ wr).drew) (first
              | (go_at_call 161; (refine (CM.out _ (by assumption)).mono ?_); rintro e v1 ⟨rfl, hb⟩; have S1 := Below.trans (by assumption) (hb.mono (Below.size (by assumption))); clear hb))
            have S3 : Below wr.heap.size wr v1 := by assumption
            have HA3 := Lib.hid (HA2.out.kept (Turned.of_below S3 (Nat.le_refl _) NoBlock) (fun h => h))
            have HT3 := Lib.hid (HT2.out.trans (Turned.of_below S3 (Nat.le_refl _) _))
            have HE3 : Hid (zs = insN (cmpB x) (min (k + 1) n - 1) xs) := Lib.hid (by rw [HI.out, ← HSK.out, HST.out, if_neg (by omega)])
            clear lx ly S3
            go_wp2
            go_roundg (n + 1 - (k + 1))
            case measure => omega
            case rel => exact ⟨k + 1, zs, by omega, by omega, rfl, by go_num, HI2.out, HE3.out, HA3.out, HT3.out⟩
        · obtain rfl : p = 0 := by omega
          have HE3 : Hid (zs = insN (cmpB x) (min (k + 1) n - 1) xs) := Lib.hid (by rw [HI.out, ← HSK.out]; rfl)
          go_wp2_with fail
          go_quiet (fail)
          go_wp2
          go_roundg (n + 1 - (k + 1))
          case measure => omega
          case rel => exact ⟨k + 1, zs, by omega, by omega, rfl, by go_num, HI2.out, HE3.out, HA2.out.drewN nq, HT2.out.drewN nq⟩
    · have hlt' : ¬ (k : Int) < (n : Int) := by omega
      have HS : Hid (ys = sortN (cmpB x) xs) := Lib.hid (by rw [hs]; unfold sortN; rw [HN.out, Nat.min_eq_right (by omega)])
      clear hs hA hT
      go_wp2
      go_end0
      exact ⟨rfl, by rw [← HS.out]; exact HAt.out, HT.out⟩
end
end Go.Proofs.YtpkkejdjhnmjiaaGreat
namespace Go.Proofs.YtpkkejdjhnmjiaaGreat
open Go.RowKit Bm Go.Shelf
attribute [local go_sem] Oper.semAt_some
section
variable {ops : Array Oper} {rest : List Oper} {o : Oper} {a : Go.Act} {w : World} {Q : Exit → Go.Act → World → Prop} {l m : Nat}
theorem wpListIn_appw {base n k size bytes : Nat} {xs ys : List Value} {v : Value} {T SL : TypeId} {i0 : TypeInfo} {z : Value} (hS : Tryz.prog.underlying SL = some (.slice T)) (hin : Tryz.prog.info? T = some i0) (hz0 : i0.zero = some z) (hz1 : i0.size = size) (hz2 : i0.bytes = bytes) (hz3 : z.cells.size = size) (hs0 : 0 < size) (hby : bytes ≤ 10000)
    (s x : Operand) (hgd : o.guard = none) (hop : o.op = .call { callee := .builtin .append, args := #[s, x], argTypes := #[SL, SL] }) (hs : a.eval s = v) (hown : w.ownsRow base T size v n xs) {ad : Addr} {c : Nat} (hx : a.eval x = .slice (some ad) k c) (hk : 0 < k) (hyl : ys.length = k * size) (hA : ∀ j u, ys[j]? = some u → w.cell? (ad.add j) = some u) (hy : ∀ u ∈ ys, u.oneCell' = true) (hl : n + k ≤ 100000) (hb : base ≤ w.heap.size)
    (h : ∀ g cap w', w'.ownsRow base T size (.slice (some ⟨g, 0, none⟩) (n + k) cap) (n + k) (xs ++ ys) → w.grownBy w' v.ownBlock → Below base w w' → (v.ownBlock = some g ∨ g = w.heap.size) → g < w'.heap.size → wpListIn Fence.wide m Tryz.prog ops Q rest (a.put o.dst (.slice (some ⟨g, 0, none⟩) (n + k) cap)) w') : wpListIn Fence.wide m Tryz.prog ops Q (o :: rest) a w := by
  refine wpListIn_plain hgd fun K hK => oper_wide ?_
  have hbb : (n + k) * bytes ≤ 100000 * 10000 := Nat.mul_le_mul hl hby
  refine wp_append_lies _ s x SL hop base T i0 z size bytes hS hin hz0 hz1 hz2 hz3 hs0 v n _ hs hown ad k c ys hx hyl hA hy hk (by unfold maxLen; omega) (by omega) hb _ rfl ?_
  intro g' cap w' h1 h2 h3 h4
  exact hK _ _ (h g' cap w' h1 h2 ((Below.refl base w).grown h2 hb (fun k hk => (hown.lt k hk).1)) h3 h4)
theorem wpListIn_app {base n k size bytes : Nat} {xs ys : List Value} {v : Value} {T SL : TypeId} {i0 : TypeInfo} {z : Value} (hS : Tryz.prog.underlying SL = some (.slice T)) (hin : Tryz.prog.info? T = some i0) (hz0 : i0.zero = some z) (hz1 : i0.size = size) (hz2 : i0.bytes = bytes) (hz3 : z.cells.size = size) (hs0 : 0 < size) (hby : bytes ≤ 10000)
    (s x : Operand) (hgd : o.guard = none) (hop : o.op = .call { callee := .builtin .append, args := #[s, x], argTypes := #[SL, SL] }) (hs : a.eval s = v) (hown : w.ownsRow base T size v n xs) {ad : Addr} {c : Nat} (hx : a.eval x = .slice (some ad) k c) (hk : 0 < k) (hyl : ys.length = k * size) (hA : ∀ j u, ys[j]? = some u → w.cell? (ad.add j) = some u) (hy : ∀ u ∈ ys, u.oneCell' = true) (hl : n + k ≤ 100000) (hb : base ≤ w.heap.size)
    (h : ∀ g cap w', w'.ownsRow base T size (.slice (some ⟨g, 0, none⟩) (n + k) cap) (n + k) (xs ++ ys) → w.grownBy w' v.ownBlock → Below base w w' → (v.ownBlock = some g ∨ g = w.heap.size) → g < w'.heap.size → wpListIn (Fence.wide.inRound l) m Tryz.prog ops Q rest (a.put o.dst (.slice (some ⟨g, 0, none⟩) (n + k) cap)) w') : wpListIn (Fence.wide.inRound l) m Tryz.prog ops Q (o :: rest) a w := by
  refine wpListIn_plain hgd fun K hK => oper_in (by unfold calmOper; rw [hop]) ?_
  have hbb : (n + k) * bytes ≤ 100000 * 10000 := Nat.mul_le_mul hl hby
  refine wp_append_lies _ s x SL hop base T i0 z size bytes hS hin hz0 hz1 hz2 hz3 hs0 v n _ hs hown ad k c ys hx hyl hA hy hk (by unfold maxLen; omega) (by omega) hb _ rfl ?_
  intro g' cap w' h1 h2 h3 h4
  exact hK _ _ (h g' cap w' h1 h2 ((Below.refl base w).grown h2 hb (fun k hk => (hown.lt k hk).1)) h3 h4)
end
section
variable {q s g N : Nat} {x : StoM} {w w' : World}
theorem insI_nil (w : World) (f : Value) : Calls Tryz.prog 166 #[.slice none 0 0, .int .i64 0, .int .i64 0, f] w fun e w' => e = .returned (.tuple #[]) ∧ w' = w := by
  go_enter Tryz.func166, Tryz.ntmps166
  go_wp2
  go_loopw [8] (fun i wr => i = .int .i64 1 ∧ wr = w) (fun _ _ => 0)
  case atStart => exact ⟨rfl, rfl⟩
  case round =>
    obtain ⟨rfl, rfl⟩ := hrel
    go_wp2
    go_end0
    exact ⟨rfl, rfl⟩
theorem stable_of (sl f : Value) (n : Nat) (Q : World → Prop) (w : World) (hn : n ≤ 19)
    (hI : Calls Tryz.prog 166 #[sl, .int .i64 0, .int .i64 n, f] w fun e w' => e = .returned (.tuple #[]) ∧ Q w') :
    Calls Tryz.prog 164 #[sl, .int .i64 n, f] w fun e w' => e = .returned (.tuple #[]) ∧ Q w' := by
  have HI := Lib.hid hI
  have i1 : ¬ (20 : Int) ≤ (n : Int) := by omega
  have i2 : ¬ (20 : Int) < (n : Int) := by omega
  clear hI
  go_enter Tryz.func164, Tryz.ntmps164
  go_wp2
  go_loopw [7, 8] (fun i j wr => i = .int .i64 0 ∧ j = .int .i64 20 ∧ wr = w) (fun _ _ _ => 0)
  case atStart => exact ⟨rfl, rfl, rfl⟩
  case round =>
    obtain ⟨rfl, rfl, rfl⟩ := hrel
    go_wp2_with (go_at_call 166; (with_reducible refine HI.out.mono ?_); rintro e w1 ⟨rfl, hq⟩; have HQ := Lib.hid hq; clear hq)
    go_loopw [6] (fun i wq => i = .int .i64 20 ∧ wq = w1) (fun _ _ => 0)
    case atStart => exact ⟨rfl, rfl⟩
    case round =>
      obtain ⟨rfl, rfl⟩ := hrel
      go_wp2
      go_end0
      exact ⟨rfl, HQ.out⟩
theorem sort_of (A : Option Addr) (n cap : Nat) (f : Value) (Q : World → Prop) (w : World) (hn : n ≤ 19)
    (hI : Calls Tryz.prog 166 #[.slice A n cap, .int .i64 0, .int .i64 n, f] w fun e w' => e = .returned (.tuple #[]) ∧ Q w') :
    Calls Tryz.prog 160 #[.slice A n cap, f] w fun e w' => e = .returned (.tuple #[]) ∧ Q w' := by
  have HI := Lib.hid (stable_of _ f n Q w hn hI)
  clear hI
  go_enter Tryz.func160, Tryz.ntmps160
  go_wp2_with (go_at_call 164; (with_reducible refine HI.out.mono ?_); rintro e w1 ⟨rfl, hq⟩; have HQ := Lib.hid hq; clear hq)
  go_end0
  exact ⟨rfl, HQ.out⟩
def flt (x : StoM) (j : Nat) : List Nat := (List.range j).filter fun b => !bo x.ret b
theorem flt_succ (x : StoM) (j : Nat) : flt x (j + 1) = flt x j ++ if bo x.ret j then [] else [j] := by
  unfold flt
  rw [List.range_succ, List.filter_append]
  cases h : bo x.ret j <;> simp [h]
theorem flt_len (x : StoM) : ∀ j, (flt x j).length ≤ j
  | 0 => Nat.le_refl _
  | j + 1 => by
    rw [flt_succ, List.length_append]
    have := flt_len x j
    split <;> simp <;> omega
theorem mem_flt {x : StoM} {j b : Nat} : b ∈ flt x j ↔ b < j ∧ bo x.ret b = false := by simp [flt]
def ordN (x : StoM) : List Nat := sortN (cmpB x) (flt x x.bs.length)
theorem mem_ordN {x : StoM} {b : Nat} : b ∈ ordN x ↔ b < x.bs.length ∧ bo x.ret b = false := (sortN_perm _ _).mem_iff.trans mem_flt
theorem ordN_nodup (x : StoM) : (ordN x).Nodup := (sortN_perm _ _).nodup_iff.2 (List.nodup_range.filter _)
theorem ordN_len (x : StoM) : (ordN x).length ≤ x.bs.length := by
  unfold ordN
  rw [(sortN_perm _ _).length_eq]
  exact flt_len x _
def usE (y : Nat × BlkM) : Array Value := #[.int .i64 (y.1 : Int), bkV y.2]
def usL (x : StoM) : List (Nat × BlkM) := (ordN x).map fun b => (b, bkN x.bs b)
theorem usL_len (x : StoM) : (usL x).length = (ordN x).length := by simp [usL]
theorem usL_get (x : StoM) {i : Nat} (h : i < (ordN x).length) : (usL x)[i]? = some (nn (ordN x) i, bkN x.bs (nn (ordN x) i)) := by
  unfold usL nn
  simp [h]
structure KpU (n1 : Nat) (Kb : Nat → Prop) (W W' : World) : Prop where
  size : W.heap.size ≤ W'.heap.size
  kept : ∀ k t cs, (Kb k ∨ (n1 ≤ k ∧ t = 3)) → At W k t cs → At W' k t cs
theorem KpU.trans {n1 : Nat} {Kb : Nat → Prop} {A B C : World} (h : KpU n1 Kb A B) (k : KpU n1 Kb B C) : KpU n1 Kb A C := ⟨Nat.le_trans h.size k.size, fun b t cs hb hA => k.kept b t cs hb (h.kept b t cs hb hA)⟩
theorem KpU.refl (n1 : Nat) (Kb : Nat → Prop) (W : World) : KpU n1 Kb W W := ⟨Nat.le_refl _, fun _ _ _ _ h => h⟩
theorem KpU.put {n1 : Nat} {Kb : Nat → Prop} (W : World) (l : Nat) (o o' : Obj) (h : W.heap[l]? = some o) (hc : o.isCells = false) : KpU n1 Kb W (W.putObj l o') :=
  ⟨by rw [World.putObj_size]; exact Nat.le_refl _, fun k t cs _ hA => by
    have hne : k ≠ l := by
      rintro rfl
      unfold At at hA
      rw [h] at hA
      injection hA with hA
      rw [hA] at hc
      cases hc
    exact (World.putObj_heap_other hne).trans hA⟩
theorem KpU.turned {n1 : Nat} {Kb S : Nat → Prop} {W W' : World} (h : Turned S W W') (hS : ∀ k t cs, S k → At W k t cs → ¬ Kb k ∧ ¬ (n1 ≤ k ∧ t = 3)) : KpU n1 Kb W W' :=
  ⟨h.size, fun k t cs hk hA => hA.kept h fun hs => by
    obtain ⟨h1, h2⟩ := hS k t cs hs hA
    exact hk.elim h1 h2⟩
theorem ownJ_below {β : Type} {B : Nat} {J : β → World → Prop} (h : OwnFrom B J) {s : β} {w w' : World} (hs : J s w) (hb : Below w.heap.size w w') : J s w' :=
  h s w w' none hs ⟨hb.os, hb.tape, hb.output, hb.size, fun k hk _ => hb.block k hk⟩ (fun r e => by cases e)
def RowN (B : Nat) (v : Value) (ys : List Nat) (W : World) : Prop := ∃ A cap, v = .slice A ys.length cap ∧ (0 < ys.length → ∃ go rest, A = some ⟨go, 0, none⟩ ∧ B ≤ go ∧ At W go 3 (Ns ys ++ rest))
theorem RowN.keep {B n1 : Nat} {Kb : Nat → Prop} {v : Value} {ys : List Nat} {W W' : World} (h : RowN B v ys W) (hB : n1 ≤ B) (k : KpU n1 Kb W W') : RowN B v ys W' := by
  obtain ⟨A, cap, e, h⟩ := h
  exact ⟨A, cap, e, fun h0 => by
    obtain ⟨go, rest, e1, e2, e3⟩ := h h0
    exact ⟨go, rest, e1, e2, k.kept go _ _ (.inr ⟨Nat.le_trans hB e2, rfl⟩) e3⟩⟩
theorem UsA.keep {n1 : Nat} {Kb : Nat → Prop} {W W' : World} (h : UsA q s g N x W) (kN : Kb N) (ks : Kb s) (kg : Kb g) (k : KpU n1 Kb W W') : UsA q s g N x W' :=
  ⟨k.kept _ _ _ (.inl kN) h.bx, k.kept _ _ _ (.inl ks) h.own, k.kept _ _ _ (.inl kg) h.row, h.ok, h.ret, h.k2⟩
theorem sort_row {B : Nat} {v : Value} (hU : UsA q s g N x w) (hN : N < B) (hs : s < B) (hg : g < B) (hB : B ≤ w.heap.size) (ho : w.ownsRow B 3 1 v (flt x x.bs.length).length (Ns (flt x x.bs.length))) :
    Calls Tryz.prog 160 #[v, .func (.func 161) #[] #[.pointer (some ⟨N, 0, none⟩)]] w fun e w' => e = .returned (.tuple #[]) ∧ RowN B v (ordN x) w' ∧ Below B w w' := by
  have hfl := flt_len x x.bs.length
  have hk2 := hU.k2
  have hol : (ordN x).length = (flt x x.bs.length).length := (sortN_perm _ _).length_eq
  obtain ⟨hl, ⟨rfl, h0⟩ | ⟨go, cap, cur, rfl, hb, hgo, hc, hm, hz, ht⟩⟩ := ho
  · rw [h0] at hol
    have := sort_of none 0 0 (.func (.func 161) #[] #[.pointer (some ⟨N, 0, none⟩)]) (fun w' => w' = w) w (by omega) (insI_nil w _)
    refine this.mono ?_
    rintro e w' ⟨rfl, rfl⟩
    exact ⟨rfl, ⟨none, 0, by rw [hol], fun h => by omega⟩, Below.refl _ _⟩
  · have hA : At w go 3 (Ns (flt x x.bs.length) ++ cur.toList.drop (flt x x.bs.length).length) := by
      unfold At
      rw [Nat.mul_one] at ht
      rw [← ht, List.take_append_drop]
      simpa using hgo
    have := sort_of (some ⟨go, 0, none⟩) _ cap (.func (.func 161) #[] #[.pointer (some ⟨N, 0, none⟩)]) (fun w' => At w' go 3 (Ns (sortN (cmpB x) (flt x x.bs.length)) ++ cur.toList.drop (flt x x.bs.length).length) ∧ Turned (Just go) w w') w (by omega)
      (insI_any go _ cap (flt x x.bs.length) _ w hU (fun b hb => (mem_flt.1 hb).1) (by omega) (by omega) (by omega) hA rfl (by omega))
    refine this.mono ?_
    rintro e w' ⟨rfl, h1, h2⟩
    exact ⟨rfl, ⟨_, cap, by rw [hol], fun _ => ⟨go, _, rfl, hb, h1⟩⟩, h2.below (fun i hi => by unfold Just at hi; omega) hB⟩
set_option maxRecDepth 100000 in
set_option maxHeartbeats 4000000 in
theorem us_seq (Kb : Nat → Prop) (kN : Kb N) (ks : Kb s) (kg : Kb g) (hU : UsA q s g N x w) :
    SeqI Tryz.prog 159 #[.pointer (some ⟨N, 0, none⟩)] usE (KpU w.heap.size Kb) (usL x) w := by
  intro fr l J Jx W hW hl hJ hJx hY h0
  have hU1 := hU.below hW
  have HU := Lib.hid hU1
  have HY := Lib.hid hY
  have HJ := Lib.hid hJ
  have H0 := Lib.hid h0
  have HWW := Lib.hid hW
  obtain ⟨n, hn⟩ : ∃ n, n = x.bs.length := ⟨_, rfl⟩
  have k2 := hU.k2
  rw [← hn] at k2
  have HN := Lib.hid hn
  have c0 := hU1.bx.cell 0
  have c1 : W.cell? ⟨s, 1, none⟩ = some (.slice (some ⟨g, 0, none⟩) n n) := by rw [hn]; exact hU1.own.cell 1
  simp only [List.getElem?_cons_zero] at c0
  obtain ⟨i0, hin, hz0, hz1, hz2⟩ := info_parts (show (Tryz.prog.info? 3).map (fun i => (i.zero, i.size, i.bytes)) = some (some (.int .i64 0), 1, 8) by kernel_rfl)
  clear hU hU1 hW hY hJ h0 hJx hn
  refine callsIn_of_wp Tryz.func159 rfl trivial ?_ rfl
  simp only [Tryz.ntmps159, List.size_toArray, List.length_cons, List.length_nil, Nat.reduceAdd, Nat.reduceSub, Array.replicate_succ, Array.replicate_zero, List.push_toArray, List.append_toArray, List.nil_append, List.cons_append]
  gi_wp2
  clear c0 c1
  gi_loopw [3, 12] (fun v i wr => ∃ j : Nat, j ≤ n ∧ i = .int .i64 j ∧ wr.ownsRow W.heap.size 3 1 v (flt x j).length (Ns (flt x j)) ∧ Below W.heap.size W wr) (fun _ i _ => n - (intOf i).toNat)
  case atStart => exact ⟨0, Nat.zero_le _, rfl, World.ownsRow_nil _ _ _ _, Below.refl _ _⟩
  case round =>
    obtain ⟨j, hj, rfl, ho, hB⟩ := hrel
    have HO := Lib.hid ho
    have HB := Lib.hid hB
    have hU2 := HU.out.below hB
    have HU2 := Lib.hid hU2
    have c0 := hU2.bx.cell 0
    have c1 : wr.cell? ⟨s, 1, none⟩ = some (.slice (some ⟨g, 0, none⟩) n n) := by rw [HN.out]; exact hU2.own.cell 1
    simp only [List.getElem?_cons_zero] at c0
    clear ho hB hU2
    by_cases hlt : j < n
    · have i1 : (j : Int) < (n : Int) := by omega
      have i2 : (j : Int) < 64 := by omega
      have cr : wr.cell? ⟨s, 2 + j, none⟩ = some (.bool (bo x.ret j)) := by
        rw [HU2.out.own.cell]
        unfold stoCells
        rw [List.getElem?_append_right (by simp), List.getElem?_append_left (by simp [Bs_length, HU2.out.ret]; omega)]
        simpa using Bs_get x.ret j (by rw [HU2.out.ret]; omega)
      cases hr : bo x.ret j with
      | true =>
        rw [hr] at cr
        have HF : Hid (flt x (j + 1) = flt x j) := Lib.hid (by rw [flt_succ, hr]; simp)
        clear hr
        gi_wp2
        go_roundw
        case rel => exact ⟨j + 1, by omega, by go_num, by rw [HF.out]; exact HO.out, HB.out⟩
        case measure => simp [intOf]; omega
      | false =>
        rw [hr] at cr
        have HF : Hid (flt x (j + 1) = flt x j ++ [j]) := Lib.hid (by rw [flt_succ, hr]; simp)
        have HFL : Hid ((flt x j).length ≤ 19) := Lib.hid (by have := flt_len x j; omega)
        clear hr
        gi_wp2_with (first
          | (gi_at_builtin; refine halt_in ?_))
        refine Lib.hid ?_
        refine wpListIn_appw (base := W.heap.size) (size := 1) (bytes := 8) (xs := Ns (flt x j)) (ys := [.int .i64 (j : Int)]) (k := 1) Tryz.underlying110 hin hz0 hz1 hz2 rfl (by omega) (by omega) _ _ rfl rfl rfl (HO.out.alloc _) rfl (by omega) rfl ((At.news wr 3 [.int .i64 (j : Int)]).news_at) (by intro u hu; rw [List.mem_singleton] at hu; rw [hu]; rfl) (by have := HFL.out; omega) (by have := HB.out.size; simp; omega) ?_
        intro g3 cap3 w3 ho3 hg3 hb3 _ _
        have e4 : Ns (flt x j) ++ [.int .i64 (j : Int)] = Ns (flt x (j + 1)) := by rw [HF.out]; simp [Ns]
        have e5 : (flt x j).length + 1 = (flt x (j + 1)).length := by rw [HF.out]; simp
        rw [e4, e5] at ho3
        have HO3 := Lib.hid ho3
        have HB3 : Hid (Below W.heap.size W w3) := Lib.hid ((HB.out.alloc HB.out.size _).trans hb3)
        rw [e5]
        obtain ⟨m3, hm3⟩ : ∃ m3, m3 = (flt x (j + 1)).length := ⟨_, rfl⟩
        rw [← hm3]
        have HM3 := Lib.hid hm3
        clear ho3 hb3 hg3 e4 e5 hm3
        gi_wp2
        go_roundw
        case rel => exact ⟨j + 1, by omega, by go_num, by rw [← HM3.out]; rw [← HM3.out] at HO3; exact HO3.out, HB3.out⟩
        case measure => simp [intOf]; omega
    · obtain rfl : j = n := by omega
      have hNs := HU.out.bx.lt
      have hss := HU.out.own.lt
      have hgs := HU.out.row.lt
      have SR0 := sort_row HU2.out hNs hss hgs HB.out.size (by rw [← HN.out]; exact HO.out)
      have HL : Hid ((ordN x).length ≤ 19) := Lib.hid (by have := ordN_len x; have := HN.out; omega)
      obtain ⟨m, hm⟩ : ∃ m, m = (ordN x).length := ⟨_, rfl⟩
      unfold RowN at SR0
      rw [← hm] at SR0
      have SR := Lib.hid SR0
      have HM := Lib.hid hm
      have hm19 : (m : Int) ≤ 19 := by have := HL.out; omega
      have LENH : Hid (∀ (A : Option Addr) (cap : Nat) (W : World), (Builtin.len_ #[110] 3 #[Value.slice A m cap]).run Tryz.prog W = .ok (.int .i64 m) W) := Lib.hid (fun A cap W => by
        cases A <;> simp [Builtin.len_, go_sem])
      clear hNs hss hgs c0 c1 SR0 hm
      gi_wp2_with (refine ⟨trivial, fun h => (by cases h), ?_⟩; gi_at_call 160; refine (callsIn_wide.2 SR.out).mono ?_; rintro e w5 ⟨rfl, ⟨A, cap, hv, hcell⟩, hb5⟩; subst hv; have HCELL := Lib.hid hcell; have HB5 := Lib.hid (HB.out.trans hb5); have LEN := LENH.out A cap w5; clear hcell hb5)
      have HRN : Hid (RowN W.heap.size (.slice A m cap) (ordN x) w5) := Lib.hid ⟨A, cap, by rw [HM.out], by rw [← HM.out]; exact HCELL.out⟩
      gi_loopw [32] (fun i wr => ∃ j : Nat, j ≤ m ∧ i = .int .i64 j ∧ J j wr ∧ UsA q s g N x wr ∧ RowN W.heap.size (.slice A m cap) (ordN x) wr) (fun i _ => m - (intOf i).toNat)
      case atStart => exact ⟨0, Nat.zero_le _, rfl, ownJ_below HJ.out H0.out HB5.out, HU.out.below HB5.out, HRN.out⟩
      case round =>
        obtain ⟨i, him, rfl, hJi, hUi, hRi⟩ := hrel
        have HJI := Lib.hid hJi
        have HUI := Lib.hid hUi
        have HRI := Lib.hid hRi
        have c0 := hUi.bx.cell 0
        have c1 : wr.cell? ⟨s, 1, none⟩ = some (.slice (some ⟨g, 0, none⟩) j j) := by rw [HN.out]; exact hUi.own.cell 1
        simp only [List.getElem?_cons_zero] at c0
        clear hJi hUi hRi LEN
        by_cases hlt2 : i < m
        · have j1 : (i : Int) < (m : Int) := by omega
          obtain ⟨A2, cap2, e2, hgo⟩ := HRI.out
          obtain ⟨go, rest, hAe, hgB, hrow⟩ := hgo (by rw [← HM.out]; omega)
          have e3 : A = A2 := by
            injection e2
          rw [← e3] at hAe
          subst hAe
          obtain ⟨b, hb⟩ : ∃ b, b = nn (ordN x) i := ⟨_, rfl⟩
          have hcb : wr.cell? ⟨go, i, none⟩ = some (.int .i64 (b : Int)) := by rw [hb]; exact hrow.num (by rw [← HM.out]; exact hlt2)
          have hbx : b < j := by rw [hb, HN.out]; exact (mem_ordN.1 (nn_mem _ _ (by rw [← HM.out]; exact hlt2))).1
          have b1 : (b : Int) < (j : Int) := by omega
          have HGT : Hid ((usL x)[i]? = some (b, bkN x.bs b)) := Lib.hid (by rw [hb]; exact usL_get x (by rw [← HM.out]; exact hlt2))
          have hblk := HUI.out.blk (b := b) (by rw [← HN.out]; exact hbx)
          have HBK := Lib.hid hblk
          have HBL : Hid ((bkC (bkN x.bs b)).length = 66) := Lib.hid (bk_len (HUI.out.ok _ (List.mem_of_getElem? (bkN_get (by rw [← HN.out]; exact hbx)))))
          obtain ⟨fn, tmps, assign, body, hy, hR⟩ := HY.out i _ wr HGT.out HJI.out
          unfold usE bkV at hy
          clear hb hrow hbx hblk e2 e3 hgo hgB
          gi_wp2_with (first
            | (refine wpListIn_ldr_w _ rfl rfl rfl Tryz.underlying147 rfl bk_size HBL.out HBK.out ?_))
          refine ⟨fun h => (by cases h), (round_out hR).mono ?_⟩
          rintro e W3 (⟨rfl, hJ3, hk3, _⟩ | ⟨rfl, hJx3, _⟩)
          · have HJ3 := Lib.hid hJ3
            have HU3 := Lib.hid (HUI.out.keep kN ks kg hk3)
            have HR3 := Lib.hid (HRI.out.keep HWW.out.size hk3)
            clear hJ3 hk3
            gi_wp2
            go_roundw
            case rel => exact ⟨i + 1, by omega, by go_num, HJ3.out, HU3.out, HR3.out⟩
            case measure => simp [intOf]; omega
          · have HJ3 := Lib.hid hJx3
            have HIM : Hid (i < (usL x).length) := Lib.hid (by rw [usL_len, ← HM.out]; exact hlt2)
            clear hJx3
            gi_wp2
            refine bodyPost_ret (results_none rfl _ _ _) rfl ?_
            exact ⟨⟨_, rfl⟩, .inr ⟨_, HIM.out, HJ3.out⟩⟩
        · obtain rfl : i = m := by omega
          have HIM : Hid (i = (usL x).length) := Lib.hid (by rw [usL_len, ← HM.out])
          gi_wp2
          go_end0
          exact ⟨⟨_, rfl⟩, .inl (HIM.out ▸ HJI.out)⟩
end
end Go.Proofs.YtpkkejdjhnmjiaaGreat
namespace Go.Proofs.YtpkkejdjhnmjiaaGreat
open Go.RowKit Bm Go.Shelf
attribute [local go_sem] Oper.semAt_some
def spC (y : Nat × Nat) : List Value := [.int .i64 (y.1 : Int), .int .i64 (y.2 : Int)]
def sps (l : List (Nat × Nat)) : List Value := l.flatMap spC
theorem sps_len (l : List (Nat × Nat)) : (sps l).length = l.length * 2 := by
  unfold sps
  induction l with
  | nil => rfl
  | cons y l ih => rw [List.flatMap_cons, List.length_append, ih, List.length_cons]; simp [spC]; omega
theorem sps_one (l : List (Nat × Nat)) : ∀ u ∈ sps l, u.oneCell' = true := by
  intro u hu
  obtain ⟨y, _, h⟩ := List.mem_flatMap.1 hu
  simp only [spC, List.mem_cons, List.not_mem_nil, or_false] at h
  rcases h with rfl | rfl <;> rfl
theorem sps_append (l m : List (Nat × Nat)) : sps (l ++ m) = sps l ++ sps m := by simp [sps]
theorem sps_snoc (l : List (Nat × Nat)) (y : Nat × Nat) : sps (l ++ [y]) = sps l ++ spC y := by simp [sps]
def frs (b : Nat) (ks : List Int) (p : Nat) : List (Nat × Nat) := ((List.range p).filter fun i => decide (nm ks i = 0)).map fun i => (b, i)
theorem frs_succ (b : Nat) (ks : List Int) (p : Nat) : frs b ks (p + 1) = frs b ks p ++ if nm ks p = 0 then [(b, p)] else [] := by
  unfold frs
  rw [List.range_succ, List.filter_append, List.map_append]
  by_cases h : nm ks p = 0 <;> simp [h]
theorem frs_len (b : Nat) (ks : List Int) (p : Nat) : (frs b ks p).length ≤ p := by
  unfold frs
  rw [List.length_map]
  exact Nat.le_trans (List.length_filter_le _ _) (by simp)
def skipB (wo : Int) (y : Nat × BlkM) : Bool := decide ((y.1 : Int) = wo ∨ y.2.head ≠ 1)
def begunOf (wo : Int) (l : List (Nat × BlkM)) : List (Nat × Nat) := l.flatMap fun y => if skipB wo y || bkEmpty y.2 then [] else frs y.1 y.2.kinds 8
def emptyOf (wo : Int) (l : List (Nat × BlkM)) : List (Nat × Nat) := l.flatMap fun y => if skipB wo y || !bkEmpty y.2 then [] else frs y.1 y.2.kinds 8
def spotsM (x : StoM) (wo : Int) : List (Nat × Nat) := begunOf wo (usL x) ++ emptyOf wo (usL x)
theorem begunOf_snoc (wo : Int) (l : List (Nat × BlkM)) (y : Nat × BlkM) : begunOf wo (l ++ [y]) = begunOf wo l ++ if skipB wo y || bkEmpty y.2 then [] else frs y.1 y.2.kinds 8 := by simp [begunOf]
theorem emptyOf_snoc (wo : Int) (l : List (Nat × BlkM)) (y : Nat × BlkM) : emptyOf wo (l ++ [y]) = emptyOf wo l ++ if skipB wo y || !bkEmpty y.2 then [] else frs y.1 y.2.kinds 8 := by simp [emptyOf]
theorem spots_len1 (f : Nat × BlkM → List (Nat × Nat)) (hf : ∀ y, (f y).length ≤ 8) (l : List (Nat × BlkM)) : (l.flatMap f).length ≤ 8 * l.length := by
  induction l with
  | nil => simp
  | cons y l ih => rw [List.flatMap_cons, List.length_append, List.length_cons]; have := hf y; omega
theorem begunOf_len (wo : Int) (l : List (Nat × BlkM)) : (begunOf wo l).length ≤ 8 * l.length := spots_len1 _ (fun y => by split; simp; exact frs_len _ _ _) l
theorem emptyOf_len (wo : Int) (l : List (Nat × BlkM)) : (emptyOf wo l).length ≤ 8 * l.length := spots_len1 _ (fun y => by split; simp; exact frs_len _ _ _) l
theorem run_append_none {P : Program} (t ty e : TypeId) (i : TypeInfo) (ht : P.underlying t = some (.slice e)) (hi : P.info? e = some i) (base : Option Addr) (n cap : Nat) (h : n ≤ cap) (w : World) :
    (Builtin.append_ #[t, t] ty #[.slice base n cap, .slice none 0 0]).run P w = .ok (.slice base n cap) w := by
  cases base <;> simp [Builtin.append_, run_underlying ht, sizeOf, typeInfo, hi, h, go_sem]
section
variable {ops : Array Oper} {rest : List Oper} {o : Oper} {a : Go.Act} {w : World} {Q : Exit → Go.Act → World → Prop} {l m : Nat}
theorem wpListIn_joinw {base n k size bytes : Nat} {xs ys : List Value} {v u : Value} {T SL : TypeId} {i0 : TypeInfo} {z : Value} (hS : Tryz.prog.underlying SL = some (.slice T)) (hin : Tryz.prog.info? T = some i0) (hz0 : i0.zero = some z) (hz1 : i0.size = size) (hz2 : i0.bytes = bytes) (hz3 : z.cells.size = size) (hs0 : 0 < size) (hby : bytes ≤ 10000)
    (s x : Operand) (hgd : o.guard = none) (hop : o.op = .call { callee := .builtin .append, args := #[s, x], argTypes := #[SL, SL] }) (hs : a.eval s = v) (hown : w.ownsRow base T size v n xs) (hx : a.eval x = u) (hu : w.ownsRow base T size u k ys) (hy : ∀ u ∈ ys, u.oneCell' = true) (hl : n + k ≤ 100000) (hb : base ≤ w.heap.size)
    (h : ∀ A cap w', w'.ownsRow base T size (.slice A (n + k) cap) (n + k) (xs ++ ys) → Below base w w' → w.grownBy w' v.ownBlock → wpListIn Fence.wide m Tryz.prog ops Q rest (a.put o.dst (.slice A (n + k) cap)) w') : wpListIn Fence.wide m Tryz.prog ops Q (o :: rest) a w := by
  have hbb : (n + k) * bytes ≤ 100000 * 10000 := Nat.mul_le_mul hl hby
  have form : ∀ {W : World} {v : Value} {n : Nat} {xs : List Value}, W.ownsRow base T size v n xs → ∃ A cap, v = .slice A n cap ∧ n ≤ cap := fun h => by
    obtain ⟨_, ⟨rfl, rfl⟩ | ⟨g, cap, cur, rfl, _, _, hc, _⟩⟩ := h
    · exact ⟨none, 0, rfl, Nat.le_refl _⟩
    · exact ⟨_, cap, rfl, hc⟩
  have key : ∃ A cap w', (Builtin.append_ #[SL, SL] o.type #[v, u]).run Tryz.prog w = .ok (.slice A (n + k) cap) w' ∧ w'.ownsRow base T size (.slice A (n + k) cap) (n + k) (xs ++ ys) ∧ Below base w w' ∧ w.grownBy w' v.ownBlock := by
    obtain ⟨hlu, ⟨rfl, rfl⟩ | ⟨g, cap, cur, rfl, hbg, hgc, hc, hm, hzz, ht⟩⟩ := hu
    · obtain rfl : ys = [] := List.eq_nil_of_length_eq_zero (by omega)
      obtain ⟨A, cap, rfl, hnc⟩ := form hown
      exact ⟨A, cap, w, run_append_none SL o.type T i0 hS hin A n cap hnc w, by rw [List.append_nil]; exact hown, Below.refl _ _, ⟨rfl, rfl, rfl, Nat.le_refl _, fun _ _ _ => rfl⟩⟩
    · have hA : At w g T cur.toList := by unfold At; simpa using hgc
      obtain ⟨v', w', h1, h2, h3, _, _⟩ := run_append_own_at (P := Tryz.prog) w base SL o.type T i0 z size bytes hS hin hz0 hz1 hz2 hz3 hs0 v n xs hown ⟨g, 0, none⟩ k cap ys hlu (fun j u hj => by
        have e : (⟨g, 0, none⟩ : Addr).add j = ⟨g, j, none⟩ := by unfold Addr.add; split <;> simp_all
        rw [e, hA.cell]
        rw [← ht, List.getElem?_take] at hj
        split at hj
        · exact hj
        · cases hj) hy (by unfold maxLen; omega) (by omega) hb
      obtain ⟨A, cap', e, _⟩ := form h2
      subst e
      exact ⟨A, cap', w', h1, h2, (Below.refl base w).grown h3 hb (fun k hk => (hown.lt k hk).1), h3⟩
  obtain ⟨A, cap, w', hr, h1, h2, h3⟩ := key
  refine wpListIn_plain hgd fun K hK => oper_wide ?_
  unfold Oper.wp execOp
  simp only [hop, resolve, invoke, builtin, Sem.run_bind, Sem.run_pure, Result.andThen_ok, List.map_toArray, List.map_cons, List.map_nil, hs, hx, hr]
  exact hK _ _ (h A cap w' h1 h2 h3)
end
section
variable {B p f q s k g N : Nat} {K : Nat → Prop} {d : DrvM} {x : StoM} {w w' : World}
theorem usable_of (s : Nat) (w : World) : Calls Tryz.prog 153 #[.pointer (some ⟨s, 0, none⟩)] w fun e w' => e = .returned (.func (.func 159) #[] #[.pointer (some ⟨w.heap.size, 0, none⟩)]) ∧ w' = w.alloc (.cells #[.pointer (some ⟨s, 0, none⟩)] 30) := by
  go_enter Tryz.func153, Tryz.ntmps153
  go_wp2
  go_ret
  exact ⟨rfl, rfl⟩
theorem Sto.us (h : Sto B p f q s k g K d x w) (hk : k ≤ 19) {W : World} (hb : Below w.heap.size w W) (hbx : At W N 30 [.pointer (some ⟨s, 0, none⟩)]) : UsA q s g N x W :=
  ⟨hbx, (h.below hb).own, (h.below hb).row, h.ok, h.ret, by rw [h.len]; exact hk⟩
def Kb3 (N s g i : Nat) : Prop := i = N ∨ i = s ∨ i = g
theorem sp_info : (Tryz.prog.info? 212).map (fun i => (i.zero, i.size, i.bytes)) = some (some (.agg #[.int .i64 0, .int .i64 0]), 2, 16) := by kernel_rfl
structure SpI (V0 : World) (T5 T6 : Nat) (l5 l6 : List (Nat × Nat)) (X : World) : Prop where
  ex : ∃ v5 v6, At X T5 208 [v5] ∧ At X T6 208 [v6] ∧ X.ownsRow V0.heap.size 212 2 v5 l5.length (sps l5) ∧ X.ownsRow V0.heap.size 212 2 v6 l6.length (sps l6) ∧ (∀ r, v5.ownBlock = some r → v6.ownBlock = some r → False)
  bel : ∀ k, k < V0.heap.size → k ≠ T5 → k ≠ T6 → X.heap[k]? = V0.heap[k]?
  os : X.os = V0.os
  tape : X.tape = V0.tape
  output : X.output = V0.output
  size : V0.heap.size ≤ X.heap.size
theorem rowS_own {β : Type} {B base n k : Nat} {t : TypeId} {v : Value} {f : β → List Value} : OwnFrom B (fun s W => W.ownsRow base t k v n (f s)) := fun s W W' row hs hg hr => by
  obtain ⟨hl, h⟩ := hs
  rcases h with h | ⟨g, cap, cur, e, hb, hgc, r⟩
  · exact ⟨hl, .inl h⟩
  · refine ⟨hl, .inr ⟨g, cap, cur, e, hb, (hg.block g (Array.getElem?_eq_some_iff.1 hgc).1 (fun e' => ?_)).trans hgc, r⟩⟩
    obtain ⟨_, o, ho, hc⟩ := hr g e'.symm
    rw [hgc] at ho
    cases ho
    cases hc
theorem own_at_rowS {W : World} {base n k m : Nat} {t : TypeId} {v : Value} {xs : List Value} (h : W.ownsRow base t m v n xs) (hk : v.ownBlock = some k) : base ≤ k ∧ ∃ cs, At W k t cs := by
  obtain ⟨_, ⟨rfl, _⟩ | ⟨g, cap, cur, rfl, hb, hg, _⟩⟩ := h
  · cases hk
  · injection hk with hk
    subst hk
    exact ⟨hb, cur.toList, by unfold At; simpa using hg⟩
theorem SpI.own {V0 : World} {T5 T6 : Nat} {l5 l6 : Nat → List (Nat × Nat)} : OwnFrom V0.heap.size (fun i X => SpI V0 T5 T6 (l5 i) (l6 i) X) := fun i W W' row hs hg hr => by
  obtain ⟨⟨v5, v6, h1, h2, h3, h4, h5⟩, hb, ho, ht, hp, hz⟩ := hs
  exact ⟨⟨v5, v6, h1.stay hg hr, h2.stay hg hr, rowS_own (β := Unit) (f := fun _ => sps (l5 i)) () W W' row h3 hg hr, rowS_own (β := Unit) (f := fun _ => sps (l6 i)) () W W' row h4 hg hr, h5⟩, fun k hk e1 e2 => (hg.block k (Nat.lt_of_lt_of_le hk hz) (fun e => by have := (hr k e.symm).1; omega)).trans (hb k hk e1 e2), hg.os.trans ho, hg.tape.trans ht, hg.output.trans hp, Nat.le_trans hz hg.size⟩
theorem SpI.below {V0 W W' : World} {T5 T6 : Nat} {l5 l6 : List (Nat × Nat)} (h : SpI V0 T5 T6 l5 l6 W) (hb : Below W.heap.size W W') : SpI V0 T5 T6 l5 l6 W' :=
  ownJ_below (SpI.own (V0 := V0) (T5 := T5) (T6 := T6) (l5 := fun _ => l5) (l6 := fun _ => l6)) (s := 0) h hb
theorem SpI.swap {V0 W : World} {T5 T6 : Nat} {l5 l6 : List (Nat × Nat)} (h : SpI V0 T5 T6 l5 l6 W) : SpI V0 T6 T5 l6 l5 W := by
  obtain ⟨⟨v5, v6, h1, h2, h3, h4, h5⟩, hb, ho, ht, hp, hz⟩ := h
  exact ⟨⟨v6, v5, h2, h1, h4, h3, fun r e1 e2 => h5 r e2 e1⟩, fun k hk e1 e2 => hb k hk e2 e1, ho, ht, hp, hz⟩
theorem SpI.marked {V0 W W' : World} {T5 T6 l : Nat} {l5 l6 : List (Nat × Nat)} (h : SpI V0 T5 T6 l5 l6 W) (hl : V0.heap.size ≤ l) (m : Marked l W W') : SpI V0 T5 T6 l5 l6 W' :=
  m.own (SpI.own (V0 := V0) (T5 := T5) (T6 := T6) (l5 := fun _ => l5) (l6 := fun _ => l6)) (s := 0) hl h
theorem SpI.more {V0 W w3 : World} {T5 T6 g3 cap3 : Nat} {l5 l6 : List (Nat × Nat)} {y : Nat × Nat} {v : Value} (hT5 : T5 < V0.heap.size) (h56 : T5 ≠ T6) (hT6 : T6 < V0.heap.size) (h : SpI V0 T5 T6 l5 l6 W) (hv : W.cell? ⟨T5, 0, none⟩ = some v)
    (ho : w3.ownsRow V0.heap.size 212 2 (.slice (some ⟨g3, 0, none⟩) (l5.length + 1) cap3) (l5.length + 1) (sps l5 ++ spC y)) (hg : (W.alloc (.cells (spC y).toArray 212)).grownBy w3 v.ownBlock) (hgg : v.ownBlock = some g3 ∨ g3 = (W.alloc (.cells (spC y).toArray 212)).heap.size) :
    SpI V0 T5 T6 (l5 ++ [y]) l6 (w3.setCell ⟨T5, 0, none⟩ (.slice (some ⟨g3, 0, none⟩) (l5.length + 1) cap3)) ∧ Turned (fun k => k = T5 ∨ (V0.heap.size ≤ k ∧ ∃ cs, At W k 212 cs)) W (w3.setCell ⟨T5, 0, none⟩ (.slice (some ⟨g3, 0, none⟩) (l5.length + 1) cap3)) := by
  obtain ⟨⟨v5, v6, h1, h2, h3, h4, h5⟩, hb, hos, hta, hou, hz⟩ := h
  have e5 : v5 = v := by
    rw [h1.cell 0] at hv
    simpa using hv
  subst e5
  have hrow : ∀ r, v5.ownBlock = some r → V0.heap.size ≤ r ∧ r < W.heap.size ∧ ∃ cs, At W r 212 cs := fun r e => by
    obtain ⟨a1, cs, a2⟩ := own_at_rowS h3 e
    exact ⟨a1, a2.lt, cs, a2⟩
  have hT : Turned (fun k => v5.ownBlock = some k) W w3 := ((Turned.refl _ W).alloc _).grown hg (fun k e _ => e)
  have hT2 : Turned (fun k => k = T5 ∨ (V0.heap.size ≤ k ∧ ∃ cs, At W k 212 cs)) W (w3.setCell ⟨T5, 0, none⟩ (.slice (some ⟨g3, 0, none⟩) (l5.length + 1) cap3)) :=
    (hT.mono fun k _ e => .inr ⟨(hrow k e).1, (hrow k e).2.2⟩).setCell (p := ⟨T5, 0, none⟩) (fun _ => .inl rfl) _
  have hTX : Turned (fun k => k = T5 ∨ v5.ownBlock = some k) W (w3.setCell ⟨T5, 0, none⟩ (.slice (some ⟨g3, 0, none⟩) (l5.length + 1) cap3)) := (hT.mono fun k _ e => .inr e).setCell (p := ⟨T5, 0, none⟩) (fun _ => .inl rfl) _
  have n5 : ∀ r, v5.ownBlock = some r → r ≠ T5 := fun r e => by have := (hrow r e).1; omega
  have hs3 := hT.size
  refine ⟨⟨⟨_, v6, ((h1.kept hT (fun e => n5 _ e rfl)).put 0 _), h2.kept hTX (fun e => ?_), ?_, Theirs.own_turned h4 hTX (fun r e1 e2 => ?_), fun r e1 e2 => ?_⟩, fun k hk e1 e2 => ?_, hTX.os.trans hos, hTX.tape.trans hta, hTX.output.trans hou, Nat.le_trans hz hTX.size⟩, hT2⟩
  · rcases e with e | e
    · exact h56 e.symm
    · have := (hrow _ e).1; omega
  · rw [sps_snoc, List.length_append, List.length_singleton]
    refine Theirs.own_turned ho ((Turned.refl (Just T5) w3).setCell (p := ⟨T5, 0, none⟩) (fun _ => rfl) _) (fun r e1 e2 => ?_)
    have := (own_at_rowS ho e1).1
    unfold Just at e2
    omega
  · rcases e2 with e2 | e2
    · have := (own_at_rowS h4 e1).1; omega
    · exact h5 r e2 e1
  · have e1' : g3 = r := by simpa [Value.ownBlock] using e1
    subst e1'
    rcases hgg with e | e
    · exact h5 g3 e e2
    · have := (own_at_rowS h4 e2).2
      obtain ⟨cs, hc⟩ := this
      have := hc.lt
      rw [World.size_alloc] at e
      omega
  · refine (hTX.block k (Nat.lt_of_lt_of_le hk hz) (fun e => ?_)).trans (hb k hk e1 e2)
    rcases e with e | e
    · exact e1 e
    · have := (hrow k e).1; omega
set_option maxRecDepth 100000 in
set_option maxHeartbeats 4000000 in
theorem Sto.spots (h : Sto B p f q s k g K d x w) (hk : k ≤ 19) (wo : Int) (_w0 : -9223372036854775808 ≤ wo) (_w1 : wo ≤ 9223372036854775807) :
    Calls Tryz.prog 147 #[.pointer (some ⟨s, 0, none⟩), .int .i64 wo] w fun e w' => ∃ A cap, e = .returned (.slice A (spotsM x wo).length cap) ∧ Below w.heap.size w w' ∧ (0 < (spotsM x wo).length → ∃ gs rest, A = some ⟨gs, 0, none⟩ ∧ w.heap.size ≤ gs ∧ At w' gs 212 (sps (spotsM x wo) ++ rest)) := by
  have hzb := bk_zero
  have HH := Lib.hid h
  have hss := h.own.lt
  have hgg := h.row.lt
  have HLN := Lib.hid h.len
  obtain ⟨i0, hin, hz0, hz1, hz2⟩ := info_parts sp_info
  clear h
  refine (callsIn_wide (n := 10)).1 ?_
  refine callsIn_of_wp_marks Tryz.func147 rfl trivial ?_
  simp only [Tryz.ntmps147, List.size_toArray, List.length_cons, List.length_nil, Nat.reduceAdd, Nat.reduceSub, Array.replicate_succ, Array.replicate_zero, List.push_toArray, List.append_toArray, List.nil_append, List.cons_append]
  gi_wp2_with (refine ⟨trivial, ?_⟩; gi_at_call 153; refine (callsIn_wide.2 (usable_of _ _)).mono ?_; rintro e w' ⟨rfl, rfl⟩)
  obtain ⟨V, hV⟩ : ∃ V, (((w.alloc (.cells #[.int .i64 wo] 3)).alloc (.cells #[.slice none 0 0] 208)).alloc (.cells #[.slice none 0 0] 208)).alloc (.cells #[.pointer (some ⟨s, 0, none⟩)] 30) = V := ⟨_, rfl⟩
  have vs : V.heap.size = w.heap.size + 4 := by rw [← hV]; simp
  have v3 : At V w.heap.size 3 [.int .i64 wo] := by rw [← hV]; exact (((At.news w _ _).alloc _).alloc _).alloc _
  have v5 : At V (w.heap.size + 1) 208 [.slice none 0 0] := by rw [← hV]; exact ((At.alloc_new _ _ _ (by simp) rfl).alloc _).alloc _
  have v6 : At V (w.heap.size + 2) 208 [.slice none 0 0] := by rw [← hV]; exact (At.alloc_new _ _ _ (by simp) rfl).alloc _
  have vN : At V (w.heap.size + 3) 30 [.pointer (some ⟨s, 0, none⟩)] := by rw [← hV]; exact At.alloc_new _ _ _ (by simp) rfl
  have vb : Below w.heap.size w V := by rw [← hV]; exact ((below_two w _ _).alloc (by simp; omega) _).alloc (by simp; omega) _
  have HVS := Lib.hid vs
  have HV3 := Lib.hid v3
  have HVB := Lib.hid vb
  have hU := HH.out.us hk (N := w.heap.size + 3) vb vN
  have SP0 : SpI V (w.heap.size + 1) (w.heap.size + 2) (begunOf wo ((usL x).take 0)) (emptyOf wo ((usL x).take 0)) V := ⟨⟨_, _, v5, v6, World.ownsRow_nil _ _ _ _, World.ownsRow_nil _ _ _ _, fun r e => by cases e⟩, fun _ _ _ _ => rfl, rfl, rfl, rfl, Nat.le_refl _⟩
  rw [hV]
  clear hV vs v3 v5 v6 vN vb
  refine range_outer (gf := 159) (lb := #[.pointer (some ⟨w.heap.size + 3, 0, none⟩)]) (encs := usE) (Kp := KpU V.heap.size (Kb3 (w.heap.size + 3) s g)) (xs := usL x) (w0 := V) (m := 8)
    (I := fun i X => SpI V (w.heap.size + 1) (w.heap.size + 2) (begunOf wo ((usL x).take i)) (emptyOf wo ((usL x).take i)) X)
    (Ix := fun _ _ _ => False)
    rfl (enters_of Tryz.func159 (by kernel_rfl) rfl) (us_seq _ (.inl rfl) (.inr (.inl rfl)) (.inr (.inr rfl)) hU) (Below.refl _ _) KpU.trans (fun W l o o' _ h1 h2 _ => KpU.put W l o o' h1 h2) (fun _ => rfl)
    SpI.own (fun _ _ _ _ _ hs _ _ => hs) SP0 ?rnd ?dn ?st
  case rnd =>
    rintro l2 i y X hl2 ⟨rr, hrr⟩ hS hx
    have HRR := Lib.hid hrr
    have HTK : Hid (((usL x).take i).length ≤ 19) := Lib.hid (by rw [List.length_take, usL_len]; have := ordN_len x; have := HLN.out; omega)
    have hyx : y ∈ usL x := List.mem_of_getElem? hx
    have HOK : Hid (BlkOk y.2) := Lib.hid (by
      obtain ⟨b, hb, e⟩ := List.mem_map.1 hyx
      rw [← e]
      exact HH.out.ok _ (List.mem_of_getElem? (bkN_get (mem_ordN.1 hb).1)))
    have HB1 : Hid ((usL x).take (i + 1) = (usL x).take i ++ [y]) := Lib.hid (by rw [List.take_add_one, hx]; rfl)
    have HY1 : Hid ((y.1 : Int) < 64) := Lib.hid (by
      obtain ⟨b, hb, e⟩ := List.mem_map.1 hyx
      rw [← e]
      have := (mem_ordN.1 hb).1
      have := HLN.out
      simp only
      omega)
    have HYL := Lib.hid (bk_len HOK.out)
    have HKL : Hid ((Is y.2.kinds).length = 8) := Lib.hid (by rw [Is_length]; exact HOK.out.k)
    have HS := Lib.hid hS
    clear hx hyx hS hrr
    unfold usE bkV
    gi_wp2_with (refine wpListIn_stm (pre := []) (post := []) (xs := bkC bk0) (ys := bkC y.2) _ _ rfl rfl rfl rfl bk_size (by rfl) HYL.out (bk_one _) rfl (by simp) (At.news X _ (bkC bk0)) ?_; intro X1 A1 T1; rw [List.nil_append, List.append_nil] at A1; have HA1 := Lib.hid A1; have HT1 := Lib.hid T1; clear A1 T1)
    have TX : Turned NoBlock X X1 := ((Turned.refl NoBlock X).alloc _).after HT1.out (fun k hk he => by unfold Just at he; omega)
    have bX : Below X.heap.size X X1 := TX.below (fun k hk => hk.elim) (Nat.le_refl _)
    refine ⟨TX.from _ (fun k hk => hk.elim), KpU.turned TX (fun _ _ _ hk => hk.elim), HS.out.below bX, ?_⟩
    intro X2 hmk
    have hr2 := hmk.there
    have HS2 : Hid (SpI V (w.heap.size + 1) (w.heap.size + 2) (begunOf wo ((usL x).take i)) (emptyOf wo ((usL x).take i)) X2) := Lib.hid ((HS.out.below bX).marked hl2 hmk)
    have HYA : Hid (At X2 X.heap.size 147 (bkC y.2)) := Lib.hid (hmk.at_ HA1.out)
    have hw3 : At X2 w.heap.size 3 [.int .i64 wo] := (HS2.out.bel _ (by have := HVS.out; omega) (by omega) (by omega)).trans HV3.out
    have cwo := hw3.cell 0
    have chd := HYA.out.cell 0
    simp only [List.getElem?_cons_zero] at cwo
    rw [bk_head] at chd
    have SE := Lib.hid (fun W => sempty_any y.2 HOK.out W)
    unfold bkV at SE
    have FIN : Hid (∀ Y, SpI V (w.heap.size + 1) (w.heap.size + 2) (begunOf wo ((usL x).take (i + 1))) (emptyOf wo ((usL x).take (i + 1))) Y → Turned (fun k => (w.heap.size + 1 ≤ k ∧ k ≤ w.heap.size + 2) ∨ (V.heap.size ≤ k ∧ ∃ cs, At X2 k 212 cs)) X2 Y → postI V.heap.size (KpU V.heap.size (Kb3 (w.heap.size + 3) s g)) (fun i X => SpI V (w.heap.size + 1) (w.heap.size + 2) (begunOf wo ((usL x).take i)) (emptyOf wo ((usL x).take i)) X) (fun _ _ _ => False) i X2 .normal { tmps := #[], defers := [] } Y) := Lib.hid fun Y hY hT => by
      obtain ⟨⟨v5, v6, h1, h2, _⟩, _⟩ := HS2.out
      refine ⟨keeps_cells hT (fun k hk => ?_) _, KpU.turned hT (fun k t cs hk hA => ?_), hY⟩
      · rcases hk with ⟨e1, e2⟩ | ⟨_, cs, e⟩
        · by_cases e : k = w.heap.size + 1
          · exact ⟨_, _, e ▸ h1⟩
          · exact ⟨_, _, (show k = w.heap.size + 2 by omega) ▸ h2⟩
        · exact ⟨_, cs, e⟩
      · have := HVS.out
        rcases hk with ⟨e1, e2⟩ | ⟨e0, cs', e⟩
        · exact ⟨fun h => by rcases h with h | h | h <;> omega, fun h => by omega⟩
        · refine ⟨fun h => by rcases h with h | h | h <;> omega, fun h => ?_⟩
          have := hA.type_eq e
          rw [h.2] at this
          revert this
          decide
    by_cases hsk : skipB wo y = true
    · have HBS : Hid (begunOf wo ((usL x).take (i + 1)) = begunOf wo ((usL x).take i)) := Lib.hid (by rw [HB1.out, begunOf_snoc, hsk]; simp)
      have HES : Hid (emptyOf wo ((usL x).take (i + 1)) = emptyOf wo ((usL x).take i)) := Lib.hid (by rw [HB1.out, emptyOf_snoc, hsk]; simp)
      by_cases hwo : (y.1 : Int) = wo
      · have e1 : ((y.1 : Int) == wo) = true := by rw [beq_iff_eq]; exact hwo
        clear hwo hsk hw3
        gi_wp2
        exact FIN.out _ (by rw [HBS.out, HES.out]; exact HS2.out) (Turned.refl _ _)
      · have e1 : ((y.1 : Int) == wo) = false := by rw [beq_eq_false_iff_ne]; exact hwo
        have e2 : (y.2.head != 1) = true := by
          rw [bne_iff_ne]
          rcases of_decide_eq_true hsk with h | h
          · exact absurd h hwo
          · exact h
        clear hwo hsk hw3
        gi_wp2
        exact FIN.out _ (by rw [HBS.out, HES.out]; exact HS2.out) (Turned.refl _ _)
    · have hsf : skipB wo y = false := by simpa using hsk
      have hne := of_decide_eq_false hsf
      have e1 : ((y.1 : Int) == wo) = false := by rw [beq_eq_false_iff_ne]; exact fun h => hne (.inl h)
      have e2 : (y.2.head != 1) = false := by rw [bne_eq_false_iff_eq]; exact Classical.not_not.1 (fun h => hne (.inr h))
      cases hem : bkEmpty y.2 with
      | true =>
        have HBS : Hid (begunOf wo ((usL x).take (i + 1)) = begunOf wo ((usL x).take i)) := Lib.hid (by rw [HB1.out, begunOf_snoc, hem]; simp)
        have HES : Hid (emptyOf wo ((usL x).take (i + 1)) = emptyOf wo ((usL x).take i) ++ frs y.1 y.2.kinds 8) := Lib.hid (by rw [HB1.out, emptyOf_snoc, hem, hsf]; rfl)
        rw [hem] at SE
        clear hsk hsf hne hem hw3
        gi_wp2_with (first
          | (refine wpListIn_ldr _ rfl rfl rfl Tryz.underlying147 rfl bk_size HYL.out HYA.out.rng ?_)
          | (refine ⟨trivial, ?_⟩; gi_at_call 154; refine (CallsIn.inRound l2 (callsIn_wide.2 (SE.out X2))).mono ?_; rintro e X3 ⟨rfl, hb3⟩; have HB3 := Lib.hid hb3; have HKR := Lib.hid (bk_kinds_range (HYA.out.kept (Turned.of_below hb3 (Nat.le_refl _) NoBlock) (fun h => h)).rng); clear hb3)
          | (refine wpListIn_ldr _ rfl rfl rfl Tryz.underlying144 rfl k8_size HKL.out HKR.out ?_))
        have HS3 : Hid (SpI V (w.heap.size + 1) (w.heap.size + 2) (begunOf wo ((usL x).take i)) (emptyOf wo ((usL x).take i)) X3) := Lib.hid (HS2.out.below HB3.out)
        gi_loopw [28] (fun ii wr => ∃ p : Nat, p ≤ 8 ∧ ii = .int .i64 p ∧ SpI V (w.heap.size + 2) (w.heap.size + 1) (emptyOf wo ((usL x).take i) ++ frs y.1 y.2.kinds p) (begunOf wo ((usL x).take i)) wr ∧ Turned (fun k => k = w.heap.size + 2 ∨ (V.heap.size ≤ k ∧ ∃ cs, At X2 k 212 cs)) X2 wr) (fun ii _ => 8 - (intOf ii).toNat)
        case atStart => exact ⟨0, Nat.zero_le _, rfl, by simpa [frs] using HS3.out.swap, Turned.of_below HB3.out (Nat.le_refl _) _⟩
        case round =>
          obtain ⟨p, hp8, rfl, hsp, htp⟩ := hrel
          have HSP := Lib.hid hsp
          have HTP := Lib.hid htp
          clear hsp htp
          by_cases hlt : p < 8
          · have hix := fun W => run_ix8 y.2.kinds HOK.out.k p hlt W
            have k0 : (0 : Int) ≤ (p : Int) := by omega
            have k1 : (p : Int) < 8 := by omega
            by_cases hk0 : nm y.2.kinds p = 0
            · have hd : (nm y.2.kinds p == 0) = true := by rw [beq_iff_eq]; exact hk0
              have HF : Hid (frs y.1 y.2.kinds (p + 1) = frs y.1 y.2.kinds p ++ [(y.1, p)]) := Lib.hid (by rw [frs_succ, if_pos hk0])
              obtain ⟨⟨v, vo, hv1, hv2, hv3, hv4, hv5⟩, _⟩ := HSP.out
              have cv := hv1.cell 0
              simp only [List.getElem?_cons_zero] at cv
              have HV3 := Lib.hid hv3
              have HCV := Lib.hid cv
              obtain ⟨L, hL⟩ : ∃ L, L = emptyOf wo ((usL x).take i) ++ frs y.1 y.2.kinds p := ⟨_, rfl⟩
              have HLE := Lib.hid hL
              have HLL : Hid (L.length ≤ 10000) := Lib.hid (by rw [hL, List.length_append]; have := emptyOf_len wo ((usL x).take i); have := frs_len y.1 y.2.kinds p; have := HTK.out; omega)
              rw [← hL] at HSP HV3
              clear hk0 hv1 hv2 hv3 hv4 hv5 hL
              gi_wp2_with (first
                | (gi_at_builtin; refine halt_in ?_))
              refine Lib.hid ?_
              refine wpListIn_app (base := V.heap.size) (size := 2) (bytes := 16) (xs := sps L) (ys := spC (y.1, p)) (k := 1) Tryz.underlying208 hin hz0 hz1 hz2 rfl (by omega) (by omega) _ _ rfl rfl rfl (HV3.out.alloc _) rfl (by omega) rfl ((At.news wr 212 (spC (y.1, p))).news_at) (by intro u hu; exact sps_one [(y.1, p)] u (by simpa [sps] using hu)) (by have := HLL.out; omega) (by have := HSP.out.size; simp; omega) ?_
              intro g3 cap3 w3 ho3 hg3 hb3 hgg3 _
              have hmore := HSP.out.more (y := (y.1, p)) (v := v) (by have := HVS.out; omega) (by omega) (by have := HVS.out; omega) HCV.out ho3 hg3 hgg3
              have a3 : At w3 (w.heap.size + 2) 208 [v] := by
                obtain ⟨⟨v5, v6, h1, h2, h3, h4, h5⟩, _⟩ := HSP.out
                have e5 : v5 = v := by
                  have := h1.cell 0
                  rw [HCV.out] at this
                  simpa using this.symm
                subst e5
                refine (hg3.block _ (by have := h1.lt; simp; omega) (fun e => ?_)).trans (h1.alloc (.cells (spC (y.1, p)).toArray 212))
                have := (own_at_rowS h3 e.symm).1
                have := HVS.out
                omega
              have c3 := a3.cell 0
              have f3 := a3.frozen 0
              simp only [List.getElem?_cons_zero] at c3
              have HMO := Lib.hid hmore.1
              have HMT := Lib.hid (HTP.out.after hmore.2 (fun k hk he => by
                rcases he with e | ⟨e1, cs, e2⟩
                · exact .inl e
                · by_cases hkT : k = w.heap.size + 2
                  · exact .inl hkT
                  · refine .inr ⟨e1, ?_⟩
                    by_cases hold : ∃ cs', At X2 k 212 cs'
                    · exact hold
                    · exact absurd ⟨cs, ((HTP.out.block k hk (fun h => by rcases h with h | ⟨_, h⟩; exact hkT h; exact hold h)).symm.trans e2 : At X2 k 212 cs)⟩ hold))
              obtain ⟨m3, hm3⟩ : ∃ m3, m3 = L.length + 1 := ⟨_, rfl⟩
              rw [← hm3] at HMO HMT ⊢
              clear hmore a3 ho3 hg3 hb3 hgg3 cv hm3
              gi_wp2
              go_roundw
              case rel => exact ⟨p + 1, by omega, by go_num, by rw [HF.out, ← List.append_assoc, ← HLE.out]; exact HMO.out, HMT.out⟩
              case measure => simp [intOf]; omega
            · have hd : (nm y.2.kinds p == 0) = false := by rw [beq_eq_false_iff_ne]; exact hk0
              have HF : Hid (frs y.1 y.2.kinds (p + 1) = frs y.1 y.2.kinds p) := Lib.hid (by rw [frs_succ, if_neg hk0, List.append_nil])
              clear hk0
              gi_wp2
              go_roundw
              case rel => exact ⟨p + 1, by omega, by go_num, by rw [HF.out]; exact HSP.out, HTP.out⟩
              case measure => simp [intOf]; omega
          · obtain rfl : p = 8 := by omega
            gi_wp2
            exact FIN.out _ (by rw [HBS.out, HES.out]; exact HSP.out.swap) (HTP.out.mono fun k _ e => by rcases e with e | e; exact .inl (by omega); exact .inr e)
      | false =>
        have HBS : Hid (begunOf wo ((usL x).take (i + 1)) = begunOf wo ((usL x).take i) ++ frs y.1 y.2.kinds 8) := Lib.hid (by rw [HB1.out, begunOf_snoc, hem, hsf]; rfl)
        have HES : Hid (emptyOf wo ((usL x).take (i + 1)) = emptyOf wo ((usL x).take i)) := Lib.hid (by rw [HB1.out, emptyOf_snoc, hem]; simp)
        rw [hem] at SE
        clear hsk hsf hne hem hw3
        gi_wp2_with (first
          | (refine wpListIn_ldr _ rfl rfl rfl Tryz.underlying147 rfl bk_size HYL.out HYA.out.rng ?_)
          | (refine ⟨trivial, ?_⟩; gi_at_call 154; refine (CallsIn.inRound l2 (callsIn_wide.2 (SE.out X2))).mono ?_; rintro e X3 ⟨rfl, hb3⟩; have HB3 := Lib.hid hb3; have HKR := Lib.hid (bk_kinds_range (HYA.out.kept (Turned.of_below hb3 (Nat.le_refl _) NoBlock) (fun h => h)).rng); clear hb3)
          | (refine wpListIn_ldr _ rfl rfl rfl Tryz.underlying144 rfl k8_size HKL.out HKR.out ?_))
        have HS3 : Hid (SpI V (w.heap.size + 1) (w.heap.size + 2) (begunOf wo ((usL x).take i)) (emptyOf wo ((usL x).take i)) X3) := Lib.hid (HS2.out.below HB3.out)
        gi_loopw [28] (fun ii wr => ∃ p : Nat, p ≤ 8 ∧ ii = .int .i64 p ∧ SpI V (w.heap.size + 1) (w.heap.size + 2) (begunOf wo ((usL x).take i) ++ frs y.1 y.2.kinds p) (emptyOf wo ((usL x).take i)) wr ∧ Turned (fun k => k = w.heap.size + 1 ∨ (V.heap.size ≤ k ∧ ∃ cs, At X2 k 212 cs)) X2 wr) (fun ii _ => 8 - (intOf ii).toNat)
        case atStart => exact ⟨0, Nat.zero_le _, rfl, by simpa [frs] using HS3.out, Turned.of_below HB3.out (Nat.le_refl _) _⟩
        case round =>
          obtain ⟨p, hp8, rfl, hsp, htp⟩ := hrel
          have HSP := Lib.hid hsp
          have HTP := Lib.hid htp
          clear hsp htp
          by_cases hlt : p < 8
          · have hix := fun W => run_ix8 y.2.kinds HOK.out.k p hlt W
            have k0 : (0 : Int) ≤ (p : Int) := by omega
            have k1 : (p : Int) < 8 := by omega
            by_cases hk0 : nm y.2.kinds p = 0
            · have hd : (nm y.2.kinds p == 0) = true := by rw [beq_iff_eq]; exact hk0
              have HF : Hid (frs y.1 y.2.kinds (p + 1) = frs y.1 y.2.kinds p ++ [(y.1, p)]) := Lib.hid (by rw [frs_succ, if_pos hk0])
              obtain ⟨⟨v, vo, hv1, hv2, hv3, hv4, hv5⟩, _⟩ := HSP.out
              have cv := hv1.cell 0
              simp only [List.getElem?_cons_zero] at cv
              have HV3 := Lib.hid hv3
              have HCV := Lib.hid cv
              obtain ⟨L, hL⟩ : ∃ L, L = begunOf wo ((usL x).take i) ++ frs y.1 y.2.kinds p := ⟨_, rfl⟩
              have HLE := Lib.hid hL
              have HLL : Hid (L.length ≤ 10000) := Lib.hid (by rw [hL, List.length_append]; have := begunOf_len wo ((usL x).take i); have := frs_len y.1 y.2.kinds p; have := HTK.out; omega)
              rw [← hL] at HSP HV3
              clear hk0 hv1 hv2 hv3 hv4 hv5 hL
              gi_wp2_with (first
                | (gi_at_builtin; refine halt_in ?_))
              refine Lib.hid ?_
              refine wpListIn_app (base := V.heap.size) (size := 2) (bytes := 16) (xs := sps L) (ys := spC (y.1, p)) (k := 1) Tryz.underlying208 hin hz0 hz1 hz2 rfl (by omega) (by omega) _ _ rfl rfl rfl (HV3.out.alloc _) rfl (by omega) rfl ((At.news wr 212 (spC (y.1, p))).news_at) (by intro u hu; exact sps_one [(y.1, p)] u (by simpa [sps] using hu)) (by have := HLL.out; omega) (by have := HSP.out.size; simp; omega) ?_
              intro g3 cap3 w3 ho3 hg3 hb3 hgg3 _
              have hmore := HSP.out.more (y := (y.1, p)) (v := v) (by have := HVS.out; omega) (by omega) (by have := HVS.out; omega) HCV.out ho3 hg3 hgg3
              have a3 : At w3 (w.heap.size + 1) 208 [v] := by
                obtain ⟨⟨v5, v6, h1, h2, h3, h4, h5⟩, _⟩ := HSP.out
                have e5 : v5 = v := by
                  have := h1.cell 0
                  rw [HCV.out] at this
                  simpa using this.symm
                subst e5
                refine (hg3.block _ (by have := h1.lt; simp; omega) (fun e => ?_)).trans (h1.alloc (.cells (spC (y.1, p)).toArray 212))
                have := (own_at_rowS h3 e.symm).1
                have := HVS.out
                omega
              have c3 := a3.cell 0
              have f3 := a3.frozen 0
              simp only [List.getElem?_cons_zero] at c3
              have HMO := Lib.hid hmore.1
              have HMT := Lib.hid (HTP.out.after hmore.2 (fun k hk he => by
                rcases he with e | ⟨e1, cs, e2⟩
                · exact .inl e
                · by_cases hkT : k = w.heap.size + 1
                  · exact .inl hkT
                  · refine .inr ⟨e1, ?_⟩
                    by_cases hold : ∃ cs', At X2 k 212 cs'
                    · exact hold
                    · exact absurd ⟨cs, ((HTP.out.block k hk (fun h => by rcases h with h | ⟨_, h⟩; exact hkT h; exact hold h)).symm.trans e2 : At X2 k 212 cs)⟩ hold))
              obtain ⟨m3, hm3⟩ : ∃ m3, m3 = L.length + 1 := ⟨_, rfl⟩
              rw [← hm3] at HMO HMT ⊢
              clear hmore a3 ho3 hg3 hb3 hgg3 cv hm3
              gi_wp2
              go_roundw
              case rel => exact ⟨p + 1, by omega, by go_num, by rw [HF.out, ← List.append_assoc, ← HLE.out]; exact HMO.out, HMT.out⟩
              case measure => simp [intOf]; omega
            · have hd : (nm y.2.kinds p == 0) = false := by rw [beq_eq_false_iff_ne]; exact hk0
              have HF : Hid (frs y.1 y.2.kinds (p + 1) = frs y.1 y.2.kinds p) := Lib.hid (by rw [frs_succ, if_neg hk0, List.append_nil])
              clear hk0
              gi_wp2
              go_roundw
              case rel => exact ⟨p + 1, by omega, by go_num, by rw [HF.out]; exact HSP.out, HTP.out⟩
              case measure => simp [intOf]; omega
          · obtain rfl : p = 8 := by omega
            gi_wp2
            exact FIN.out _ (by rw [HBS.out, HES.out]; exact HSP.out) (HTP.out.mono fun k _ e => by rcases e with e | e; exact .inl (by omega); exact .inr e)
  case dn =>
    rintro X hS hK
    rw [List.take_length] at hS
    have hL1 := begunOf_len wo (usL x)
    have hL2 := emptyOf_len wo (usL x)
    have hL3 : (usL x).length ≤ 19 := by rw [usL_len]; have := ordN_len x; have := HLN.out; omega
    have HSM : Hid (spotsM x wo = begunOf wo (usL x) ++ emptyOf wo (usL x)) := Lib.hid rfl
    obtain ⟨L5, hL5⟩ : ∃ L, L = begunOf wo (usL x) := ⟨_, rfl⟩
    obtain ⟨L6, hL6⟩ : ∃ L, L = emptyOf wo (usL x) := ⟨_, rfl⟩
    rw [← hL5] at hS hL1 HSM
    rw [← hL6] at hS hL2 HSM
    obtain ⟨⟨v5, v6, h1, h2, h3, h4, _⟩, hbel, hos, hta, hou, hsz⟩ := hS
    have c5 := h1.cell 0
    have c6 := h2.cell 0
    simp only [List.getElem?_cons_zero] at c5 c6
    have bX : Below w.heap.size w X := HVB.out.trans ⟨hos, hta, hou, hsz, fun k hk => hbel k (by have := HVS.out; omega) (by omega) (by omega)⟩
    have HBX := Lib.hid bX
    have H3 := Lib.hid h3
    have H4 := Lib.hid h4
    have HKD := Lib.hid hK
    have HL : Hid (L5.length + L6.length ≤ 1000) := Lib.hid (by omega)
    have HSZ := Lib.hid hsz
    clear h1 h2 h3 h4 hbel hos hta hou bX hK hL5 hL6 hL1 hL2 hL3 hsz
    gi_wp2_with (gi_at_builtin; refine halt_in ?_)
    refine Lib.hid ?_
    refine wpListIn_joinw (base := V.heap.size) (size := 2) (bytes := 16) (xs := sps L5) (ys := sps L6) Tryz.underlying208 hin hz0 hz1 hz2 rfl (by omega) (by omega) _ _ rfl rfl rfl H3.out rfl H4.out (sps_one _) (by have := HL.out; omega) HSZ.out ?_
    intro A cap w9 ho9 hb9 hg9
    obtain ⟨m9, hm9⟩ : ∃ m9, m9 = L5.length + L6.length := ⟨_, rfl⟩
    rw [← hm9] at ho9 ⊢
    have HO9 := Lib.hid ho9
    have HB9 := Lib.hid hb9
    have HM9 := Lib.hid hm9
    have hK9 : w9.heap[V.heap.size]? = some (.deferred (some [])) := (hg9.block _ (Array.getElem?_eq_some_iff.1 HKD.out).1 (fun e => by
      obtain ⟨_, cs, hc⟩ := own_at_rowS H3.out e.symm
      unfold At at hc
      rw [HKD.out] at hc
      cases hc)).trans HKD.out
    clear ho9 hb9 hm9 hg9
    gi_wp2
    have hv9 : w.heap.size ≤ V.heap.size := by have := HVS.out; omega
    refine post_mark hK9 (results_tmp rfl _ _ _) ⟨A, cap, by rw [HSM.out, List.length_append, ← HM9.out]; rfl, below_mark (HBX.out.trans (HB9.out.mono hv9)) hv9 hK9, fun h0 => ?_⟩
    have ho := rowS_own (β := Unit) (B := 0) (f := fun _ => sps L5 ++ sps L6) () w9 (w9.putObj V.heap.size (.deferred none)) (some V.heap.size) HO9.out (grownBy_putObj' w9 V.heap.size _) (fun r e => by
      injection e with e
      exact ⟨Nat.zero_le _, _, e ▸ hK9, rfl⟩)
    obtain ⟨_, ⟨_, h0'⟩ | ⟨gs, cap', cur, e, hb, hgc, _, _, _, ht⟩⟩ := ho
    · rw [HSM.out, List.length_append, ← HM9.out] at h0
      omega
    · injection e with e1 _ e2
      refine ⟨gs, cur.toList.drop (m9 * 2), e1, Nat.le_trans hv9 hb, ?_⟩
      rw [HSM.out, sps_append, ← ht, List.take_append_drop]
      unfold At
      simpa using hgc
  case st =>
    rintro co i X hi h hK
    exact h.elim
end
end Go.Proofs.YtpkkejdjhnmjiaaGreat
