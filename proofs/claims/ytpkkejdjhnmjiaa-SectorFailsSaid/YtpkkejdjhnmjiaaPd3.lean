/- The program's device of layer sector: one sector of a command. -/
import Derived.Test.YtpkkejdjhnmjiaaPd2
namespace Go.Proofs.Ytpkkejdjhnmjiaa
set_option linter.unusedSimpArgs false
open Go.RowKit Bm

def quad (b : List (BitVec 32)) (j : Nat) : V4 := ⟨wd b (4 * j), wd b (4 * j + 1), wd b (4 * j + 2), wd b (4 * j + 3)⟩
theorem list_16 {β : Type} (l : List β) (h : l.length = 16) : ∃ a b c d e f g h i j k m n o p q, l = [a, b, c, d, e, f, g, h, i, j, k, m, n, o, p, q] := by
  match l, h with
  | [a, b, c, d, e, f, g, h, i, j, k, m, n, o, p, q], _ => exact ⟨a, b, c, d, e, f, g, h, i, j, k, m, n, o, p, q, rfl⟩
/-- One sector of command v: sector s, the words j of the buffer. -/
def pMove {α : Type} (D : Dk10 α) (v : Int) (d : DvM) (a : α) (s j : Nat) : DvM × α × Int :=
  if v = 1 then (if (D.rd a s).2.2 = 0 then { d with buf := putW d.buf (4 * j) (D.rd a s).2.1 4 } else d, (D.rd a s).1, (D.rd a s).2.2)
  else if v = 2 then (d, D.wr a s (quad d.buf j)) else (d, D.tr a s)
section
variable {α : Type} {D : Dk10 α} {q : Nat} {K K' S : Nat → Prop} {d d' : DvM} {a : α} {w w' : World}
theorem pd_cut (hb : d.buf.length = 16) {j : Nat} (hj : j < 4) : ∃ P S : List Value, P.length = 5 + 4 * j ∧ pdC D d = P ++ (v4C (quad d.buf j) ++ S) ∧ ∀ x, P ++ (v4C x ++ S) = pdC D { d with buf := putW d.buf (4 * j) x 4 } := by
  obtain ⟨f, m, e, l, b, p, k⟩ := d
  obtain ⟨b0, b1, b2, b3, b4, b5, b6, b7, b8, b9, b10, b11, b12, b13, b14, b15, rfl⟩ := list_16 b hb
  obtain rfl | rfl | rfl | rfl : j = 0 ∨ j = 1 ∨ j = 2 ∨ j = 3 := by omega
  · exact ⟨[.iface D.T D.v, .int .u32 (U f), .int .u32 (U m), .int .u32 (U e), .int .u32 (U l)], Us [b4, b5, b6, b7, b8, b9, b10, b11, b12, b13, b14, b15] ++ [.int .i64 p], rfl, rfl, fun x => rfl⟩
  · exact ⟨[.iface D.T D.v, .int .u32 (U f), .int .u32 (U m), .int .u32 (U e), .int .u32 (U l)] ++ Us [b0, b1, b2, b3], Us [b8, b9, b10, b11, b12, b13, b14, b15] ++ [.int .i64 p], rfl, rfl, fun x => rfl⟩
  · exact ⟨[.iface D.T D.v, .int .u32 (U f), .int .u32 (U m), .int .u32 (U e), .int .u32 (U l)] ++ Us [b0, b1, b2, b3, b4, b5, b6, b7], Us [b12, b13, b14, b15] ++ [.int .i64 p], rfl, rfl, fun x => rfl⟩
  · exact ⟨[.iface D.T D.v, .int .u32 (U f), .int .u32 (U m), .int .u32 (U e), .int .u32 (U l)] ++ Us [b0, b1, b2, b3, b4, b5, b6, b7, b8, b9, b10, b11], [.int .i64 p], rfl, rfl, fun x => rfl⟩
/-- The device's row is another one. -/
theorem PdAt.row (h : PdAt D q K d a w) (hD : D.Is) (A : At w' q 52 (pdC D d')) (t : Turned (Just q) w w') (hb : d'.buf.length = 16) (hp : d'.place < 16) : PdAt D q K d' a w' ∧ Turned (Un10 D.B K) w w' :=
  ⟨⟨A, hD.move h.dk (S := Just q) (fun _ e => .inr e) t (fun i e => ⟨.inl e, by have := hD.kin h.dk i e; have := t.size; omega⟩), h.nk, h.lo, hb, hp⟩, t.mono (fun i _ e => by rw [show i = q from e]; exact ⟨h.lo, h.nk⟩)⟩
theorem PdAt.cut (h : PdAt D q K d a w) {j : Nat} (hj : j < 4) : w.rangeAt q (5 + 4 * j) (v4C (quad d.buf j)) := by
  obtain ⟨P, S, hP, hc, _⟩ := pd_cut (D := D) h.b hj
  have := (h.own.as hc).range
  rw [hP] at this
  exact this
set_option maxRecDepth 100000 in
set_option maxHeartbeats 2000000 in
theorem move10 (h : PdAt D q K d a w) (hD : D.Is) (hr : D.room a 1) (v : BitVec 32) (hv : U v = 1 ∨ U v = 2 ∨ U v = 3) (s j : Nat) (hs : s < D.len a) (hj : j < 4) :
    Calls Try.prog 28 #[.pointer (some ⟨q, 0, none⟩), .int .u32 (U v), .int .i64 s, .pointer (some ⟨q, 5 + 4 * j, none⟩)] w fun e w' => e = .returned (.int .i64 (pMove D (U v) d a s j).2.2) ∧ PdAt D q K (pMove D (U v) d a s j).1 (pMove D (U v) d a s j).2.1 w' ∧ Turned (Un10 D.B K) w w' := by
  have c0 := (pd_cells h).1
  have HP := Lib.hid h
  have HD := Lib.hid hD
  have HR := Lib.hid (hD.cr h.dk hr s hs)
  have HW := Lib.hid (hD.cw (h.drew hD).dk hr s hs (quad d.buf j))
  have HT := Lib.hid (hD.ct h.dk hr s hs)
  have hmr := hD.mr
  have hmw := hD.mw
  have hmt := hD.mt
  have hgr := hD.gr
  have hgw := hD.gw
  have hgt := hD.gt
  have hz4 := v4_zero
  have HJ := Lib.hid hj
  clear h hD hr hs hj
  rcases hv with h1 | h1 | h1
  · rw [h1]
    clear h1
    unfold pMove
    rw [if_pos rfl]
    obtain ⟨r, hr⟩ : ∃ r, r = D.rd a s := ⟨_, rfl⟩
    rw [← hr] at HR ⊢
    clear hr
    obtain ⟨a1, x, er⟩ := r
    dsimp only at HR ⊢
    obtain ⟨d2, hd2⟩ : ∃ d2, d2 = if er = 0 then ({ d with buf := putW d.buf (4 * j) x 4 } : DvM) else d := ⟨_, rfl⟩
    rw [← hd2]
    have HD2 := Lib.hid hd2
    clear hd2
    go_enter Try.func28, Try.ntmps28
    go_upto_region 4 with (first
      | ((with_reducible refine HR.out.mono ?_); rintro e w1 ⟨rfl, s1, t1⟩; have HS1 := Lib.hid (HP.out.disk s1 t1); clear s1 t1)
      | (refine wpList_stm (pre := []) (post := []) (xs := v4C v40) (ys := v4C x) _ _ rfl rfl rfl rfl v4_size (v4_len _) (v4_len _) (v4_one _) rfl (by simp) (At.news w1 _ (v4C v40)) ?_; intro V A9 T9; rw [List.nil_append, List.append_nil] at A9; have HA9 := Lib.hid A9; have HT9 := Lib.hid T9; clear A9 T9))
    have hb9 : Below w1.heap.size w1 V := ((Below.refl _ w1).alloc (Nat.le_refl _) _).trans (HT9.out.below (fun i hi => by unfold Just at hi; omega) (by simp))
    have HPV := Lib.hid (HS1.out.1.below HD.out hb9)
    have HTV := Lib.hid (HS1.out.2.trans (Turned.of_below hb9 (Nat.le_refl _) _))
    clear hb9 HT9
    by_cases he : er = 0
    · have hd2 := HD2.out
      rw [if_pos he] at hd2
      subst he hd2
      obtain ⟨P, S, hP, hc, hx⟩ := pd_cut (D := D) HP.out.b HJ.out
      have HPL := Lib.hid hP
      have HX := Lib.hid (hx x)
      have HA2 := Lib.hid (HPV.out.own.as hc)
      clear hP hc hx
      go_wp2_with (first
        | (refine wpList_ldr (xs := v4C x) _ rfl rfl rfl Try.underlying39 rfl v4_size (v4_len _) HA9.out.rng0 ?_)
        | (refine wpList_stm (pre := P) (post := S) (xs := v4C (quad d.buf j)) (ys := v4C x) _ _ rfl rfl rfl rfl v4_size (v4_len _) (v4_len _) (v4_one _) HPL.out rfl HA2.out ?_; intro V2 A10 T10; have HA10 := Lib.hid A10; have HT10 := Lib.hid T10; clear A10 T10))
      go_ret
      have fin := HPV.out.row HD.out (HA10.out.as HX.out) HT10.out (by rw [putW_len]; exact HP.out.b) HP.out.p
      exact ⟨rfl, fin.1, HTV.out.trans fin.2⟩
    · have hd2 := HD2.out
      rw [if_neg he] at hd2
      subst hd2
      have e1 : (er == 0) = false := by rw [beq_eq_false_iff_ne]; exact he
      clear he
      go_wp2
      go_ret
      exact ⟨rfl, HPV.out, HTV.out⟩
  · rw [h1]
    clear h1
    unfold pMove
    rw [if_neg (by omega), if_pos rfl]
    have HQ : Hid (∀ W, (∃ a', PdAt D q K d a' W) → W.rangeAt q (5 + 4 * j) (v4C (quad d.buf j))) := Lib.hid fun W ⟨_, hW⟩ => hW.cut HJ.out
    go_enter Try.func28, Try.ntmps28
    go_upto_region 8 with (fail)
    have SD : ∃ a', PdAt D q K d a' w.drew := ⟨a, HP.out.drew HD.out⟩
    refine wp_region_held_drew (S := fun W => ∃ a', PdAt D q K d a' W) (by kernel_rfl) SD ?_
    intro S0
    replace S0 : ∃ a', PdAt D q K d a' w.drew := SD
    refine aT 0 (.pointer (some ⟨q, 0, none⟩)) rfl ?_; simp only [see1, see2, see3, Act.put, see4, see5, see6]
    refine aT 1 (.pointer (some ⟨q, 0, none⟩)) rfl ?_; simp only [see1, see2, see3, Act.put, see4, see5, see6]
    refine aT 2 (.pointer (some ⟨q, 0, none⟩)) rfl ?_; simp only [see1, see2, see3, Act.put, see4, see5, see6]
    refine aT 3 (.iface D.T D.v) rfl ?_ (h2 := fun W hS => by obtain ⟨_, hS⟩ := hS; have c9 := (pd_cells hS).1; go_simp; done); simp only [see1, see2, see3, Act.put, see4, see5, see6]
    refine aT 4 (.int .i64 s) rfl ?_; simp only [see1, see2, see3, Act.put, see4, see5, see6]
    refine aT 5 (.pointer (some ⟨q, 5 + 4 * j, none⟩)) rfl ?_; simp only [see1, see2, see3, Act.put, see4, see5, see6]
    refine aT 6 (.pointer (some ⟨q, 5 + 4 * j, none⟩)) rfl ?_; simp only [see1, see2, see3, Act.put, see4, see5, see6]
    refine aT 7 (.agg (v4C (quad d.buf j)).toArray) rfl ?_ (h2 := fun W hS => (load_is _ _ _ _ _ _ _ _ W).trans (load_at Try.underlying39 rfl v4_size (HQ.out W hS) (v4_len _))); simp only [see1, see2, see3, Act.put, see4, see5, see6]
    refine aT 8 (.iface D.T D.v) rfl ?_; simp only [see1, see2, see3, Act.put, see4, see5, see6]
    refine aT 9 (.iface D.T D.v) rfl ?_; simp only [see1, see2, see3, Act.put, see4, see5, see6]
    refine wpAnyH_all (rs := [10]) (by kernel_rfl) (by simp) ?_
    intro i10 hi10
    obtain rfl : i10 = 10 := by simpa using hi10
    refine op_goes rfl (by rfl) ?_
    go_simp
    refine HW.out.mono ?_
    rintro e w1 ⟨rfl, s1, t1⟩
    have HS1 := Lib.hid ((HP.out.drew HD.out).disk s1 t1)
    clear s1 t1
    have S1 : ∃ a', PdAt D q K d a' w1 := ⟨_, HS1.out.1⟩
    dsimp only
    refine ⟨S1, ?_⟩
    refine aT 11 (.int .i64 (D.wr a s (quad d.buf j)).2) rfl ?_; simp only [see1, see2, see3, Act.put, see4, see5, see6]
    refine wpAnyH_done (by kernel_rfl) ?_ _
    go_wp2
    go_ret
    exact ⟨rfl, HS1.out.1, (Turned.refl _ w).drew.trans HS1.out.2⟩
  · rw [h1]
    clear h1
    unfold pMove
    rw [if_neg (by omega), if_neg (by omega)]
    go_enter Try.func28, Try.ntmps28
    go_wp2_with ((with_reducible refine HT.out.mono ?_); rintro e w1 ⟨rfl, s1, t1⟩; have HS1 := Lib.hid (HP.out.disk s1 t1); clear s1 t1)
    go_ret
    exact ⟨rfl, HS1.out.1, HS1.out.2⟩
end
end Go.Proofs.Ytpkkejdjhnmjiaa
