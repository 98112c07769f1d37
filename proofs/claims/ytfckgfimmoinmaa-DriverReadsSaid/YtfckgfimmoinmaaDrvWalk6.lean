/- The walk of layer driver's statement DriverReads. -/
import Derived.Test.YtfckgfimmoinmaaDrvWalk3
import Derived.Test.YtfckgfimmoinmaaDrvReadF
import Derived.Deep.MidRow
import Derived.Test.YtfckgfimmoinmaaRep
import Derived.Test.YtfckgfimmoinmaaLaw
import Derived.OpenShut
import Derived.BigQuiet
import Derived.Laws.AppendOwnNone
namespace Go.Proofs.Ytfckgfimmoinmaa
open Go.RowKit Bm

theorem wpList_wanted {P : Program} {ops : Array Oper} {rest : List Oper} {o : Oper} {a : Go.Act} {w : World} {Q : Exit → Go.Act → World → Prop} (hw : Region.wanted o (yielded ops a.tmps) = true)
    (h : ∀ K : Go.Act → World → Prop, (∀ a w, wpList P ops Q rest a w → K a w) → o.wp P a w K Q) : wpList P ops Q (o :: rest) a w :=
  wpList_step fun K hK => by rw [if_pos hw]; exact h K hK
theorem own_reads {w : World} {base n : Nat} {v : Value} {xs : List (BitVec 32)} (h : w.ownsRow base 33 1 v n (Us xs)) : ∃ A c, v = .slice A n c ∧ ReadsU w A n c xs ∧ (A = none → c = 0) := by
  obtain ⟨hl, h2⟩ := h
  rw [Us_length] at hl
  rcases h2 with ⟨rfl, rfl⟩ | ⟨g, cap, cur, rfl, hb, hg, hc, hm, hs, ht⟩
  · exact ⟨none, 0, rfl, ⟨by omega, Nat.le_refl _, by unfold maxLen; omega, fun h => absurd h (by omega)⟩, fun _ => rfl⟩
  · refine ⟨_, cap, rfl, ?_, fun e => by simp at e⟩
    have hA : At w g 33 (Us xs ++ cur.toList.drop n) := by
      have e : Us xs ++ cur.toList.drop n = cur.toList := by
        rw [← ht, Nat.mul_one, List.take_append_drop]
      rw [e]
      simpa [At] using hg
    have hs2 : cur.toList.length = cap := by simpa using hs
    have hn : n = xs.length := by omega
    subst hn
    exact ReadsU.of_at hA (by rw [List.length_append, Us_length, List.length_drop]; omega) hm
set_option maxRecDepth 100000 in
/-- Words are appended to words of its own, whatever the slice that they come from. -/
theorem wpList_app {ops : Array Oper} {rest : List Oper} {o : Oper} {a : Go.Act} {w : World} {Q : Exit → Go.Act → World → Prop} (s x : Operand) (t : TypeId) (ht0 : t = 31)
    (hw : Region.wanted o (yielded ops a.tmps) = true) (ho : o.op = .call { callee := .builtin .append, args := #[s, x], argTypes := #[t, t] })
    (base : Nat) (v : Value) (n : Nat) (xs : List (BitVec 32)) (hs : a.eval s = v) (hown : w.ownsRow base 33 1 v n (Us xs)) (A : Option Addr) (m c : Nat) (ys : List (BitVec 32)) (hx : a.eval x = .slice A m c) (hr : ReadsU w A m c ys) (hA : A = none → c = 0) (hb : n + m ≤ 1000) (hbase : base ≤ w.heap.size)
    (h : ∀ A' c' w', w'.ownsRow base 33 1 (.slice A' (n + m) c') (n + m) (Us (xs ++ ys)) → ReadsU w' A' (n + m) c' (xs ++ ys) → (A' = none → c' = 0) → w.grownBy w' v.ownBlock → wpList Try.prog ops Q rest (a.put o.dst (.slice A' (n + m) c')) w') : wpList Try.prog ops Q (o :: rest) a w := by
  subst ht0
  obtain ⟨i0, hin, hz0, hz1, hz2⟩ := info_parts infoU
  cases A with
  | none =>
    obtain rfl : c = 0 := hA rfl
    obtain rfl : m = 0 := by
      have := hr.le
      omega
    obtain rfl : ys = [] := List.eq_nil_of_length_eq_zero hr.len
    obtain ⟨A', c', rfl, r, z⟩ := own_reads hown
    refine wpList_wanted hw fun K hK => ?_
    have hrun := run_append_owned_none (P := Try.prog) (w := w) base 31 o.type 33 i0 i0.size Try.underlying31 hin (.slice A' n c') n (Us xs) (by rw [hz1]; exact hown)
    unfold Oper.wp
    simp [execOp, ho, resolve, invoke, builtin, hs, hx, hrun, Result.andThen]
    exact hK _ _ (h A' c' w (by simpa using hown) (by simpa using r) z ⟨rfl, rfl, rfl, Nat.le_refl _, fun _ _ _ => rfl⟩)
  | some ad =>
    have hc2 : ∀ j u, (Us ys)[j]? = some u → w.cell? (ad.add j) = some u := by
      intro j u hu
      have hj : j < (Us ys).length := (List.getElem?_eq_some_iff.1 hu).1
      rw [Us_length, hr.len] at hj
      obtain ⟨ad2, e, hl2, hcc⟩ := hr.cell (by omega)
      injection e with e
      rw [e]
      exact hcc j u hu
    refine wpList_wanted hw fun K hK => ?_
    refine wp_append_own w s x 31 ho base 33 i0 _ 1 4 Try.underlying31 hin hz0 hz1 hz2 rfl (by omega) v n (Us xs) hs hown ad m c (Us ys) hx (by rw [Us_length, hr.len, Nat.mul_one]) hc2 (Us_one _) (by unfold maxLen; omega) (by omega) hbase ?_
    intro v' w' ho2 hg _
    rw [← Us_append] at ho2
    obtain ⟨A', c', rfl, r, z⟩ := own_reads ho2
    exact hK _ _ (h A' c' w' ho2 r z hg)

set_option maxRecDepth 100000 in
set_option maxHeartbeats 8000000 in
theorem driverReads_walk (A : Option Addr) (n cap : Nat) (xs : List (BitVec 32)) (a1 : Int) (b1 : (Lit.int .u8 a1).wf = true) (a2 : Int) (b2 : (Lit.int .u8 a2).wf = true) (w : World) (hr : ReadsU w A n cap xs) :
    Calls Try.prog 9 #[.slice A n cap, .int .u8 a1, .int .u8 a2] w fun e w' => e = .returned (.bool true) ∧ Below w.heap.size w w' := by
  have c1 := bounds_u8 b1
  have c2 := bounds_u8 b2
  have hle := hr.le
  have hmx := hr.max
  unfold maxLen at hmx
  clear b1 b2
  by_cases hn : 10 < n
  · go_enter Try.func9, Try.ntmps9
    go_wp2_with fail
    refine (alive5_any w).mono ?_
    rintro e wa ⟨rfl, hBa⟩
    go_wp2
    go_ret
    exact ⟨rfl, hBa⟩
  have hn1 : n ≤ 10 := by omega
  clear hn
  obtain ⟨k, hk⟩ : ∃ k : Nat, a1 % 100 = (k : Int) := ⟨(a1 % 100).toNat, by omega⟩
  obtain ⟨m, hm⟩ : ∃ m : Nat, a2 % ((n : Int) + 1) = (m : Int) := by
    have h0 := Int.emod_nonneg a2 (show ((n : Int) + 1) ≠ 0 by omega)
    exact ⟨(a2 % ((n : Int) + 1)).toNat, by omega⟩
  have hmn : m ≤ n := by
    have h1 := Int.emod_lt_of_pos a2 (show (0 : Int) < (n : Int) + 1 by omega)
    omega
  have hk1 : k < 100 := by omega
  obtain ⟨d1, d2, d3, d4, l, F⟩ := readF k m xs hk1 (by rw [hr.len]; exact hn1) (by rw [hr.len]; exact hmn)
  have LX := Lib.hid hr.len
  have e2 := F.e2
  have e4 := F.e4
  have hlen := F.len
  have hws := F.ws
  rw [LX.out] at e2 e4 hlen hws
  have FF := Lib.hid F
  have E2 := Lib.hid e2
  have E4 := Lib.hid e4
  have LL := Lib.hid hlen
  have WS := Lib.hid hws
  have HR := Lib.hid hr
  have hz1 : ¬ ((n : Int) + 1 = 0) := by omega
  have wn1 : IntKind.i64.wrap ((n : Int) + 1) = (n : Int) + 1 := by rw [IntKind.wrap_i64]; omega
  clear F e2 e4 hlen hws hr
  go_enter Try.func9, Try.ntmps9
  go_wp2_with fail
  refine (alive5_any w).mono ?_
  rintro e wa ⟨rfl, hBa⟩
  have BA := Lib.hid hBa
  clear hBa
  go_wp2_with fail
  refine (begin5_any w.heap.size 2 5 wa BA.out.size (by omega) (by omega) (by omega) (by omega)).mono ?_
  rintro e w1 ⟨p, f, q, rfl, s0, t1⟩
  have S0 := Lib.hid s0
  have B0 := Lib.hid (BA.out.trans t1)
  have OK0 := Lib.hid (drvNew_ok 2 5 (by omega) (by omega) (by omega) (by omega))
  clear s0 t1
  go_wp2_with fail
  refine (S0.out.program OK0.out k A n cap xs (HR.out.kept B0.out) (by omega) (by omega) (by omega) (by simp) (by simp) (reads_out HR.out)).mono ?_
  rw [FF.out.e1]
  rintro e w2 ⟨rfl, s1, t1⟩
  have S1 : Hid (Dv _ _ _ _ _ _ d1 _) := Lib.hid s1
  have B1 := Lib.hid (B0.out.trans (may_below t1 S0.out.size))
  clear s1 t1
  go_wp2_with fail
  refine (S1.out.read FF.out.f1.ok k n (by omega) (by omega) (by omega) (by omega)).mono ?_
  rw [E2.out]
  rintro e w3 ⟨A2, c2', rfl, r2, z2, s2, t2⟩
  rw [LL.out] at r2 ⊢
  have R2 := Lib.hid r2
  have S2 : Hid (Dv _ _ _ _ _ _ d2 _) := Lib.hid s2
  have B2 := Lib.hid (B1.out.trans (may_below t2 S1.out.size))
  clear r2 s2 t2
  go_wp2_with fail
  refine (S2.out.read FF.out.f2.ok k m (by omega) (by omega) (by omega) (by omega)).mono ?_
  rw [FF.out.e3]
  have L3 : Hid ((l.take m).length = m) := Lib.hid (by rw [List.length_take, LL.out]; omega)
  have L4 : Hid ((l.drop m).length = n - m) := Lib.hid (by rw [List.length_drop, LL.out])
  rintro e w4 ⟨A3, c3, rfl, r3, z3, s3, t3⟩
  rw [L3.out] at r3 ⊢
  have R3 := Lib.hid r3
  have S3 : Hid (Dv _ _ _ _ _ _ d3 _) := Lib.hid s3
  have B3 := Lib.hid (B2.out.trans (may_below t3 S2.out.size))
  have R2b := Lib.hid (R2.out.act t3 ka_not)
  clear r3 s3 t3
  have wn2 : IntKind.i64.wrap ((k : Int) + (m : Int)) = (k : Int) + (m : Int) := by rw [IntKind.wrap_i64]; omega
  have wn3 : IntKind.i64.wrap ((n : Int) - (m : Int)) = (n : Int) - (m : Int) := by rw [IntKind.wrap_i64]; omega
  go_wp2_with fail
  refine (S3.out.read FF.out.f3.ok ((k : Int) + m) ((n : Int) - m) (by omega) (by omega) (by omega) (by omega)).mono ?_
  rw [E4.out]
  rintro e w5 ⟨A4, c4, rfl, r4, z4, s4, t4⟩
  rw [L4.out] at r4 ⊢
  have R4 := Lib.hid r4
  have S4 : Hid (Dv _ _ _ _ _ _ d4 _) := Lib.hid s4
  have B4 := Lib.hid (B3.out.trans (may_below t4 S3.out.size))
  have R3b := Lib.hid (R3.out.act t4 ka_not)
  have R2c := Lib.hid (R2b.out.act t4 (fun a e h => h.2 (.inl (.inr ⟨a, e, rfl⟩))))
  clear r4 s4 t4 c1 c2
  have O5 := Lib.hid (World.ownsRow_nil w5 w5.heap.size 33 1)
  have LA : Hid (l.take m ++ l.drop m = l) := Lib.hid (List.take_append_drop m l)
  have hN : m + (n - m) = n := by omega
  go_wp2_with (first
    | (at_builtin; refine wpList_app (.tmp 83) (.tmp 84) 31 rfl (by rfl) rfl w5.heap.size (.slice A6 m c6) m (l.take m) rfl O6.out A4 (n - m) c4 (l.drop m) rfl (R4.out.kept BG.out) z4 (by omega) BG.out.size ?_; intro A7 c7 w7 o7 r7 z7 g7; rw [LA.out] at r7; rw [hN] at r7 ⊢; have R7 := Lib.hid r7; have BG7 := Lib.hid (BG.out.grown g7 BG.out.size (fun q hq => (O6.out.lt q hq).1)); have R2e := Lib.hid (R2c.out.kept BG7.out); clear o7 r7 g7 z7)
    | (at_builtin; refine wpList_app (.const (.slice none 0 0)) (.tmp 82) 31 rfl (by rfl) rfl w5.heap.size (.slice none 0 0) 0 [] rfl O5.out A3 m c3 (l.take m) rfl R3b.out z3 (by omega) (Nat.le_refl _) ?_; intro A6 c6 w6 o6 r6 z6 g6; (rw [List.nil_append] at o6); (rw [Nat.zero_add] at o6 ⊢); have O6 := Lib.hid o6; have BG := Lib.hid ((Below.refl w5.heap.size w5).grown g6 (Nat.le_refl _) (by intro q hq; simp [Value.ownBlock] at hq)); clear o6 r6 g6 z6)
    | (go_at_call 19; (refine (words_eq_any _ _ _ _ _ _ _ _ _ R7.out R2e.out (by omega) (by omega)).mono ?_); rintro e w8 ⟨rfl, n8, rfl⟩; rw [decide_eq_true rfl]))
  have S7 := Lib.hid ((S4.out.below BG7.out).below (below_drewN _ _ n8))
  have B7 := Lib.hid ((B4.out.trans (BG7.out.mono B4.out.size)).trans (below_drewN _ w7 n8))
  have R2f := Lib.hid (R2e.out.kept (below_drewN _ _ n8))
  refine (S7.out.wordsAt FF.out.f4.ok 128 FF.out.f4.len).mono ?_
  rintro e w9 ⟨g, cg, rfl, hcell, hcap, hmax, b9⟩
  have R2g := Lib.hid (R2f.out.kept b9)
  have B9 := Lib.hid (B7.out.trans (b9.mono B7.out.size))
  have R9 : Hid (ReadsU w9 (some ⟨g, k, none⟩) n (cg - k) l) := Lib.hid (by
    refine ⟨LL.out, by omega, by omega, fun hn0 => ⟨⟨g, k, none⟩, rfl, World.block_lt_of_cell? w9 ⟨g, k, none⟩ (hcell k (by omega)), fun j u hu => ?_⟩⟩
    have hj : j < (Us l).length := (List.getElem?_eq_some_iff.1 hu).1
    rw [Us_length, LL.out] at hj
    rw [Addr.add_mid]
    refine (hcell (k + j) (by omega)).trans ?_
    rw [← hu, Us_get _ _ (by rw [LL.out]; exact hj)]
    congr 2
    have := drop_take_get d4.f.chip.ws k n j hj
    rw [← WS.out] at this
    rw [this])
  have hck : ¬ cg = k := by omega
  have wn4 : IntKind.i64.wrap ((k : Int) + (n : Int)) = (k : Int) + (n : Int) := by rw [IntKind.wrap_i64]; omega
  clear hcell b9
  go_wp2_with fail
  refine (words_eq_any _ _ _ _ _ _ _ _ _ R2g.out R9.out (by omega) (by omega)).mono ?_
  rintro e w10 ⟨rfl, n10, rfl⟩
  rw [decide_eq_true rfl]
  go_wp2
  go_ret
  exact ⟨rfl, B9.out.trans (below_drewN _ _ n10)⟩
end Go.Proofs.Ytfckgfimmoinmaa
