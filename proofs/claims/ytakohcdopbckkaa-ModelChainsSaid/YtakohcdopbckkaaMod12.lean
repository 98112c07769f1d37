/- The walk of ModelChains. -/
import Derived.Test.YtakohcdopbckkaaMod11
import Derived.Test.YtakohcdopbckkaaKdOp
namespace Go.Proofs.Ytakohcdopbckkaa
open Go.RowKit Bm

theorem own_apart {w w' : World} {base n k b : Nat} {t t' : TypeId} {v : Value} {xs cs : List Value} (h : w.ownsRow base t k v n xs) (hA : At w b t' cs) (hne : t ≠ t') (hT : Turned (Just b) w w') : w'.ownsRow base t k v n xs := by
  obtain ⟨hl, h⟩ := h
  refine ⟨hl, ?_⟩
  rcases h with h | ⟨g, cap, cur, rfl, hb, hg, h2⟩
  · exact .inl h
  · have hA' : At w g t cur.toList := by unfold At; simpa using hg
    exact .inr ⟨g, cap, cur, rfl, hb, (hT.block g (Array.getElem?_eq_some_iff.1 hg).1 (fun e => by unfold Just at e; exact hA'.ne (hA.as rfl) hne e)).trans hg, h2⟩
theorem own_far {S : Nat → Prop} {w w' : World} {base n k g cap : Nat} {t : TypeId} {xs : List Value} (h : w.ownsRow base t k (.slice (some ⟨g, 0, none⟩) n cap) n xs) (hT : Turned S w w') (hg : ¬ S g) : w'.ownsRow base t k (.slice (some ⟨g, 0, none⟩) n cap) n xs := by
  obtain ⟨hl, h⟩ := h
  refine ⟨hl, ?_⟩
  rcases h with ⟨h, _⟩ | ⟨g', cap', cur, e, hb, hg', h2⟩
  · cases h
  · injection e with e1 _ e2
    injection e1 with e1
    injection e1 with e1
    subst e1 e2
    exact .inr ⟨g, cap, cur, rfl, hb, (hT.block g (Array.getElem?_eq_some_iff.1 hg').1 hg).trans hg', h2⟩
/-- The value that a number of the row stands for. -/
def vOf (x : Int) : V4 := ⟨BitVec.ofNat 32 (x / 3).toNat, BitVec.ofNat 32 (x % 7).toNat, 0#32, 0#32⟩
theorem run_v4ab (a b : Int) (w : World) : (Instr.build 24 #[(0, .int .u32 a), (1, .int .u32 b)]).run Try.prog w = .ok (.agg #[.int .u32 a, .int .u32 b, .int .u32 0, .int .u32 0]) w := by kernel_rfl

theorem set_two {x : Int} (x0 : 0 ≤ x) (x1 : x ≤ 65535) : ((v4C v40).set 0 (.int .u32 (x / 3))).set 1 (.int .u32 (x % 7)) = v4C (vOf x) := by
  have h1 : U (vOf x).a = x / 3 := by show U (BitVec.ofNat 32 _) = _; rw [U_ofNat _ (by omega)]; omega
  have h2 : U (vOf x).b = x % 7 := by show U (BitVec.ofNat 32 _) = _; rw [U_ofNat _ (by omega)]; omega
  show [Value.int .u32 (x / 3), .int .u32 (x % 7), .int .u32 (U 0#32), .int .u32 (U 0#32)] = [_, _, _, _]
  rw [h1, h2]
  rfl
section
variable {K t : Nat} {xs ls : List V4} {v : V4} {A B : Option Addr} {c cb : Nat} {W : World}
theorem chain_at (hx : xs.length = K) (ht : t < K) : isAt (calmS xs) (t : Int) := ⟨by omega, by show (t : Int) < (xs.length : Int); omega⟩
theorem chain_done (hx : xs.length = K) (ht : t < K) (h50 : K ≤ 50000) (hR : v4K.Reads W A K c xs) : Calls Try.prog 13 #[.agg (stC (.slice A K c) (calmS xs)).toArray, .int .i64 (t : Int), .agg (v4C v).toArray] W fun e w' => ∃ D c', e = .returned (.agg (stC (.slice D K c') (calmS (xs.set t v))).toArray) ∧ w'.ownsRow W.heap.size 24 4 (.slice D K c') K (v4K.all (xs.set t v)) ∧ Below W.heap.size W w' := by
  subst hx
  refine (done4_any A c (calmS xs) t v W hR h50).mono fun e w' h => ?_
  have e0 : sDone (calmS xs) t v = calmS (xs.set t v) := by unfold sDone; rw [if_pos (chain_at rfl ht)]; rfl
  rw [e0] at h
  obtain ⟨D, c', e1, e2, e3⟩ := h
  have e4 : (calmS (xs.set t v)).sure.length = xs.length := List.length_set
  rw [e4] at e1 e2
  exact ⟨D, c', e1, e2, e3⟩
theorem chain_begun (hx : xs.length = K) (ht : t < K) (h50 : K ≤ 50000) (hR : v4K.Reads W A K c xs) : Calls Try.prog 15 #[.agg (stC (.slice A K c) (calmS xs)).toArray, .int .i64 (t : Int), .agg (v4C v).toArray] W (Back ⟨xs, true, t, v⟩ K W) := by
  subst hx
  refine (begun4_any A c (calmS xs) t v W hR h50).mono fun e w' h => ?_
  have e0 : sBegun (calmS xs) t v = ⟨xs, true, t, v⟩ := by unfold sBegun; rw [if_pos (chain_at rfl ht)]; rfl
  rw [e0] at h
  exact h.theirs.back rfl
theorem chain_seen (hx : xs.length = K) (ht : t < K) (h50 : K ≤ 50000) (hls : ls = xs ∨ ls = xs.set t v) (hR : v4K.Reads W A K c xs) (hL : v4K.Reads W B K cb ls) : Calls Try.prog 10 #[.agg (stC (.slice A K c) ⟨xs, true, t, v⟩).toArray, .slice B K cb] W fun e w' => ∃ D c', e = .returned (.tuple #[.agg (stC (.slice D K c') (calmS ls)).toArray, .bool true]) ∧ w'.ownsRow W.heap.size 24 4 (.slice D K c') K (v4K.all ls) ∧ Below W.heap.size W w' := by
  subst hx
  have hl : ls.length = xs.length := by rcases hls with rfl | rfl <;> simp
  have hm : sMay ⟨xs, true, t, v⟩ ls := by
    refine ⟨hl, fun i hi => ?_⟩
    rcases hls with rfl | rfl
    · exact .inl rfl
    · unfold okAt vN
      rw [v4K.nth_set _ ht]
      by_cases e : i = t
      · subst e
        rw [if_pos rfl]
        exact .inr ⟨rfl, rfl, rfl⟩
      · rw [if_neg e]
        exact .inl rfl
  have S := seen4_any A c ⟨xs, true, t, v⟩ B cb ls W hR (by rw [hl]; exact hL) (by rw [hl]; exact h50) h50
  rw [decide_eq_true hm, show sSeen ⟨xs, true, t, v⟩ ls = calmS ls by unfold sSeen; rw [if_pos hm], hl] at S
  refine S.mono fun e w' h => ?_
  obtain ⟨D, c', e1, e2, e3⟩ := h
  have e4 : (calmS ls).sure.length = xs.length := hl
  rw [e4] at e1 e2
  exact ⟨D, c', e1, e2, e3⟩
end
theorem own_reads {W : World} {base : Nat} {A : Option Addr} {c K : Nat} {xs : List V4} (h : W.ownsRow base 24 4 (.slice A K c) K (v4K.all xs)) (hx : xs.length = K) : v4K.Reads W A K c xs := by
  subst hx
  obtain ⟨A', c', e, hr, _⟩ := Kd.Reads.of_own (K := v4K) h rfl
  cases e
  exact hr
theorem own_stay {W W' : World} {base n : Nat} {v : Value} {xs : List Value} (h : W.ownsRow base 24 4 v n xs) (hb : Below W.heap.size W W') : W'.ownsRow base 24 4 v n xs := own_turned h (Turned.of_below hb (Nat.le_refl _) NoBlock) (fun _ _ h => h)

set_option maxRecDepth 100000 in
set_option maxHeartbeats 4000000 in
theorem modelChains_walk (a : Int) (ha : (Lit.int .u8 a).wf = true) (B : Option Addr) (d : Nat) (l : List Int) (hl : ∀ x ∈ l, (Lit.int .u16 x).wf = true) (w : World) (hL : (intK .u16).Reads w B l.length d l) : Calls Try.prog 8 #[.int .u8 a, .slice B l.length d] w fun e w' => e = .returned (.bool true) ∧ Below w.heap.size w w' := by
  have bb := bounds_u8 ha
  have b0 : 0 ≤ a := bb.1
  have b1 : a ≤ 255 := bb.2
  have hz := st_zero
  have hzv := v4_zero
  have hmm : (l.length : Int) ≤ 9223372036854775807 := by have := hL.le; have := hL.max; unfold maxLen at *; omega
  obtain ⟨K, hK⟩ : ∃ K : Nat, 1 + a % 10 = (K : Int) := ⟨(1 + a % 10).toNat, by omega⟩
  have k1 : 1 ≤ K := by omega
  have k2 : K ≤ 10 := by omega
  have AL := Lib.hid (alive9_any w)
  have HL := Lib.hid hL
  clear hL bb ha
  by_cases hn : (l.length : Int) ≤ 60
  · obtain ⟨i0, hin, hz0, hz1, hz2⟩ := info_parts v4_infoA
    have KK := Lib.hid hK
    go_enter Try.func8, Try.ntmps8
    go_upto_region 6 with (go_at_call 9; (with_reducible refine AL.out.mono ?_); rintro e w1 ⟨rfl, hb⟩; have HB1 := Lib.hid hb; clear hb)
    have hsn : sNew (K : Int) = calmS (List.replicate K v40) := by unfold sNew; rw [show (min (max (K : Int) 0) 1000).toNat = K by omega]
    have hlK : (calmS (List.replicate K v40)).sure.length = K := List.length_replicate
    have NW : Hid (Calls Try.prog 19 #[.int .i64 (K : Int)] w1 fun e w' => ∃ A c, e = .returned (.agg (stC (.slice A K c) (calmS (List.replicate K v40))).toArray) ∧ w'.ownsRow w1.heap.size 24 4 (.slice A K c) K (v4K.all (List.replicate K v40)) ∧ Below w1.heap.size w1 w') := Lib.hid ((new4_any (K : Int) w1).mono fun e w' h => by
      rw [hsn] at h
      obtain ⟨A, c, e1, e2, e3⟩ := h
      rw [hlK] at e1 e2
      exact ⟨A, c, e1, e2, e3⟩)
    clear hsn hlK
    go_upto_region 7 with (first
      | (go_at_call 19; (with_reducible refine NW.out.mono ?_); rintro e w2 ⟨A, c, rfl, h1, hb⟩; have HO2 := Lib.hid h1; have HB2 := Lib.hid hb; clear h1 hb)
      | (refine wpList_stm (pre := []) (post := []) (xs := stC (.slice none 0 0) st0) (ys := stC (.slice A K c) (calmS (List.replicate K v40))) _ _ rfl rfl rfl rfl st_size (by rfl) (stC_len _ _) (stC_one _) rfl (by simp) (At.news w2 _ _) ?_; intro V A9 T9; rw [List.nil_append, List.append_nil] at A9; have HA9 := Lib.hid A9; have HT9 := Lib.hid T9; clear A9 T9))
    have hbw1 := HB1.out
    have hbv := below_var HT9.out
    have hb2 : Below w.heap.size w w2 := below_next HB1.out HB2.out
    have HBV := Lib.hid (below_next hb2 hbv)
    have HOV := Lib.hid (own_base (own_turned HO2.out (Turned.of_below hbv (Nat.le_refl _) NoBlock) (fun _ _ h => h)) HB1.out.size)
    obtain ⟨b6, hb6⟩ : ∃ b6, b6 = w2.heap.size := ⟨_, rfl⟩
    have ha9 := HA9.out
    rw [← hb6] at ha9 ⊢
    have HA := Lib.hid ha9
    have H6 : Hid (w.heap.size ≤ b6) := Lib.hid (by rw [hb6]; exact hb2.size)
    clear hbw1 hbv hb2 hb6 ha9 HT9 HA9 HB2 HO2 NW HB1
    go_wp2_with (at_make; refine halt_here ?_)
    refine Lib.hid ?_
    refine wpList_madeK v4K V rfl _ _ rfl V.heap.size Try.underlying22 hin hz0 hz1 hz2 (by omega) K (by rfl) (by rfl) (by omega) (Nat.le_refl _) ?_
    intro V1 h3 h4
    have HO1 := Lib.hid (own_base h3 HBV.out.size)
    have HA1 := Lib.hid (at_kept HA.out h4)
    have HOV1 := Lib.hid (own_turned HOV.out (Turned.of_below h4 (Nat.le_refl _) NoBlock) (fun _ _ h => h))
    have HB1 := Lib.hid (below_next HBV.out h4)
    simp only [Act.put, List.setIfInBounds_toArray, List.set_cons_zero, List.set_cons_succ]
    clear h3 h4
    go_wp2
    go_loopg [7, 30] l.length (fun g o i wr => ∃ (j : Nat) (xs : List V4) (A : Option Addr) (c : Nat), j ≤ l.length ∧ g = l.length - j ∧ i = .int .i64 j ∧ xs.length = K ∧ At wr b6 28 (stC (.slice A K c) (calmS xs)) ∧ wr.ownsRow w.heap.size 24 4 (.slice A K c) K (v4K.all xs) ∧ wr.ownsRow w.heap.size 24 4 o K (v4K.all xs) ∧ Below w.heap.size w wr)
    case atStart => exact ⟨0, _, A, c, by omega, rfl, rfl, List.length_replicate, HA1.out, HOV1.out, HO1.out, HB1.out⟩
    case round =>
      obtain ⟨j, xs, A', c', hj, rfl, rfl, hxs, hA, hO, hW, hB⟩ := hrel
      have HXS := Lib.hid hxs
      have HAr := Lib.hid hA
      have HOr := Lib.hid hO
      have HWr := Lib.hid hW
      have HBr := Lib.hid hB
      clear hxs hA hO hW hB HA1 HOV1 HO1 HB1 HA HOV HBV
      by_cases hlt : j < l.length
      · have i0 : (0 : Int) ≤ (j : Int) := by omega
        have i1 : (j : Int) < (l.length : Int) := by omega
        obtain ⟨g, off, rfl, hg, hr⟩ := (HL.out.kept HBr.out).at_ hlt
        obtain ⟨x, hx⟩ : ∃ x, x = (intK .u16).nth l j := ⟨_, rfl⟩
        have hxw := hl x (by rw [hx]; exact (intK .u16).nth_mem hlt)
        have bx := bounds_u16 hxw
        rw [← hx] at hr
        have x0 : 0 ≤ x := bx.1
        have x1 : x ≤ 65535 := bx.2
        have cx : wr.cell? ⟨g, off + j, none⟩ = some (.int .u16 x) := by have := hr 0 _ rfl; rwa [Nat.add_zero, show (intK .u16).k = 1 from rfl, Nat.mul_one] at this
        obtain ⟨t, ht⟩ : ∃ t : Nat, x % (K : Int) = (t : Int) := ⟨(x % (K : Int)).toNat, by have := Int.emod_nonneg x (show (K : Int) ≠ 0 by omega); omega⟩
        have htK : t < K := by have := Int.emod_lt_of_pos x (show (0 : Int) < (K : Int) by omega); omega
        have t0 : (0 : Int) ≤ (t : Int) := by omega
        have t1 : (t : Int) < (K : Int) := by omega
        have HTK := Lib.hid htK
        clear hxw bx hr hg hx htK
        go_upto_region 12 with (refine wpList_stm (pre := []) (post := []) (xs := v4C v40) (ys := ((v4C v40).set 0 (.int .u32 (x / 3))).set 1 (.int .u32 (x % 7))) _ _ rfl rfl rfl rfl v4_size (by rfl) (v4_len _) (by simp [v4C, Value.oneCell']) rfl (by simp) (At.news wr _ _) ?_; intro V2 A9 T9; rw [List.nil_append, List.append_nil, set_two x0 x1] at A9; have HA9 := Lib.hid A9; have HT9 := Lib.hid T9; clear A9 T9)
        obtain ⟨v, hv⟩ : ∃ v, v = vOf x := ⟨_, rfl⟩
        have hbv := below_var HT9.out
        have hv9 := HA9.out
        obtain ⟨b11, hb11⟩ : ∃ b11, b11 = wr.heap.size := ⟨_, rfl⟩
        have h611 : b6 ≠ b11 := by have := HAr.out.lt; omega
        rw [← hv, ← hb11] at hv9
        rw [← hb11]
        have HV := Lib.hid hv9
        have HA2 := Lib.hid (at_kept HAr.out hbv)
        have HO2 := Lib.hid (own_stay HOr.out hbv)
        have HW2 := Lib.hid (own_stay HWr.out hbv)
        have HB2 := Lib.hid (below_next HBr.out hbv)
        have H611 := Lib.hid h611
        obtain ⟨Wa, cw, hform⟩ := own_form HW2.out
        subst hform
        have R2 := Lib.hid (own_reads HO2.out HXS.out)
        have RW := Lib.hid (own_reads HW2.out HXS.out)
        have KW : Hid (w.heap.size ≤ wr.heap.size) := Lib.hid HBr.out.size
        have K11 : Hid (w.heap.size ≤ b11) := Lib.hid (by rw [hb11]; exact HBr.out.size)
        clear hbv hv9 HA9 HT9 HAr HOr HWr HBr hv hb11 h611 cx ht
        by_cases he : x % 2 = 0
        · have he' : (x % 2 == 0) = true := by rw [beq_iff_eq]; exact he
          have CD := Lib.hid (chain_done (v := v) HXS.out HTK.out (by omega) R2.out)
          clear he
          go_upto_region 14 with (first
            | (refine wpList_ldr (xs := stC (.slice A' K c') (calmS xs)) _ rfl rfl rfl Try.underlying28 rfl st_size (stC_len _ _) HA2.out.rng0 ?_)
            | (refine wpList_ldr (xs := v4C v) _ rfl rfl rfl Try.underlying24 rfl v4_size (v4_len _) HV.out.rng0 ?_)
            | (go_at_call 13; (with_reducible refine CD.out.mono ?_); rintro e w3 ⟨D, c3, rfl, h1, hb⟩; have HO3 := Lib.hid h1; have HB3 := Lib.hid hb; have HA3 := Lib.hid (at_kept HA2.out hb); clear h1 hb)
            | (refine wpList_stm (pre := []) (post := []) (xs := stC (.slice A' K c') (calmS xs)) (ys := stC (.slice D K c3) (calmS (xs.set t v))) _ _ rfl rfl rfl rfl st_size (by rfl) (stC_len _ _) (stC_one _) rfl (by simp) HA3.out ?_; intro V3 A9 T9; rw [List.nil_append, List.append_nil] at A9; have HA9 := Lib.hid A9; have HT9 := Lib.hid T9; clear A9 T9))
          have h6 := HA2.out.lt
          have ha3 := HA3.out
          have HV3 := Lib.hid ((at_kept HV.out HB3.out).kept HT9.out (fun e => by have := H611.out; unfold Just at e; omega))
          have HS3 := Lib.hid (own_turned HO3.out HT9.out (fun k hk e => by unfold Just at e; omega))
          have hw3 := own_apart (own_stay HW2.out HB3.out) ha3 (by decide) HT9.out
          obtain ⟨gw, rfl, hgw, hgl⟩ := own_some HW2.out (by omega)
          have hxt : t < xs.length := by rw [HXS.out]; exact HTK.out
          rw [← HXS.out] at hw3
          obtain ⟨rest, hA, hp, _, hset⟩ := own_around hw3 hxt
          have HAR := Lib.hid hA
          have HP := Lib.hid hp
          have HSET := Lib.hid hset
          have HGW : Hid (w.heap.size ≤ gw ∧ gw < V2.heap.size) := Lib.hid ⟨hgw, hgl⟩
          have HB4 : Hid (Below w.heap.size w V3) := Lib.hid ((below_next HB2.out HB3.out).trans (below_just HT9.out H6.out (by have := HB3.out.size; have := HB2.out.size; omega)))
          have HS34 : Hid (V2.heap.size ≤ V3.heap.size) := Lib.hid (by have := HB3.out.size; have := HT9.out.size; omega)
          have HB2S : Hid (w.heap.size ≤ V2.heap.size) := Lib.hid HB2.out.size
          clear h6 ha3 hw3 hgw hgl hxt hA hp hset HT9 HO3 HB3 HA3 HV HA2 HO2 HW2 HB2 R2 RW CD
          go_wp2_with (first
            | (refine wpList_ldr (xs := v4C v) _ rfl rfl rfl Try.underlying24 rfl v4_size (v4_len _) HV3.out.rng0 ?_)
            | (refine wpList_stm (pre := v4K.all (xs.take t)) (post := v4K.all (xs.drop (t + 1)) ++ rest) (xs := v4K.c (v4K.nth xs t)) (ys := v4C v) _ _ rfl rfl rfl rfl v4_size (v4K.len _) (v4_len _) (v4_one _) HP.out rfl HAR.out ?_; intro V4 A7 T7; have HW4 := Lib.hid (HSET.out V4 v A7); have HT7 := Lib.hid T7; clear A7 T7))
          have h6 : gw ≠ b6 := HAR.out.ne HA9.out (by decide)
          have HA4 := Lib.hid (HA9.out.kept HT7.out (fun e => h6 (Eq.symm e)))
          have HS4 := Lib.hid (own_base (own_turned HS3.out HT7.out (fun k hk e => by have := HGW.out; unfold Just at e; omega)) HB2S.out)
          have HB5 := Lib.hid (HB4.out.trans (below_just HT7.out HGW.out.1 HB4.out.size))
          have hw4 := HW4.out
          rw [HXS.out] at hw4
          have HW5 := Lib.hid hw4
          have HXL : Hid ((xs.set t v).length = K) := Lib.hid (by rw [List.length_set]; exact HXS.out)
          clear h6 hw4
          go_roundg (l.length - (j + 1))
          case measure => go_light; omega
          case rel =>
            go_light
            exact ⟨j + 1, xs.set t v, D, c3, by omega, rfl, by go_num, HXL.out, HA4.out, HS4.out, HW5.out, HB5.out⟩
        · have he' : (x % 2 == 0) = false := by rw [beq_eq_false_iff_ne]; exact he
          clear he
          go_wp2_with (at_builtin; refine halt_here ?_)
          refine Lib.hid ?_
          have rw' := RW.out
          rw [← HXS.out] at rw'
          refine wpList_join (K := v4K) (base := V2.heap.size) (xs := []) (ys := xs) _ (.tmp 56) rfl rfl Try.underlying22 hin hz0 hz1 hz2 (by rfl) (by omega) (v := .slice none 0 0) (by rfl) (World.ownsRow_nil _ _ _ _) (by rfl) RW.out (by simp; omega) (Nat.le_refl _) ?_
          intro Lb cl V3 h3 h4 h5
          have e : ([] : List V4).length + K = K := Nat.zero_add _
          rw [e, List.nil_append] at h3
          rw [e]
          have HL3 := Lib.hid h3
          have HB3 := Lib.hid h4
          have HA3 := Lib.hid (at_kept HA2.out h4)
          have HV3 := Lib.hid (at_kept HV.out h4)
          have HS3 := Lib.hid (own_stay HO2.out h4)
          simp only [Act.put, List.setIfInBounds_toArray, List.set_cons_zero, List.set_cons_succ]
          clear h3 h4 h5 e rw'
          have hb6 : b6 < V2.heap.size := HA2.out.lt
          have H11L : Hid (b11 < V2.heap.size) := Lib.hid HV.out.lt
          obtain ⟨ga, rfl, _, hgal⟩ := own_some HO2.out (by omega)
          have HGA : Hid (ga < V2.heap.size) := Lib.hid hgal
          have HB6 := Lib.hid hb6
          have HB2S : Hid (w.heap.size ≤ V2.heap.size) := Lib.hid HB2.out.size
          have HBW3 := Lib.hid (below_next HB2.out HB3.out)
          clear hb6 hgal HB2 HA2 HV HO2 HW2 R2 RW
          by_cases h3 : x % 3 = 0
          · have h3' : (x % 3 == 0) = true := by rw [beq_iff_eq]; exact h3
            obtain ⟨gw, rfl, hgw, hgl⟩ := own_some HL3.out (by omega)
            have hxt : t < xs.length := by rw [HXS.out]; exact HTK.out
            have hw3 := HL3.out
            rw [← HXS.out] at hw3
            obtain ⟨rest, hA, hp, _, hset⟩ := own_around hw3 hxt
            have HAR := Lib.hid hA
            have HP := Lib.hid hp
            have HSET := Lib.hid hset
            have HGW : Hid (V2.heap.size ≤ gw ∧ gw < V3.heap.size) := Lib.hid ⟨hgw, hgl⟩
            clear h3 hgw hgl hxt hw3 hA hp hset HL3
            go_upto_region 18 with (first
              | (refine wpList_ldr (xs := v4C v) _ rfl rfl rfl Try.underlying24 rfl v4_size (v4_len _) HV3.out.rng0 ?_)
              | (refine wpList_stm (pre := v4K.all (xs.take t)) (post := v4K.all (xs.drop (t + 1)) ++ rest) (xs := v4K.c (v4K.nth xs t)) (ys := v4C v) _ _ rfl rfl rfl rfl v4_size (v4K.len _) (v4_len _) (v4_one _) HP.out rfl HAR.out ?_; intro V4 A7 T7; have HW4 := Lib.hid (HSET.out V4 v A7); have HT7 := Lib.hid T7; clear A7 T7))
            obtain ⟨ls, hls⟩ : ∃ ls, ls = xs.set t v := ⟨_, rfl⟩
            have HLS : Hid (ls = xs ∨ ls = xs.set t v) := Lib.hid (.inr hls)
            have hl4 := HW4.out
            rw [← hls, HXS.out] at hl4
            have HLL : Hid (ls.length = K) := Lib.hid (by rw [hls, List.length_set]; exact HXS.out)
            have HL4 := Lib.hid hl4
            have hn6 : b6 ≠ gw := by have := HGW.out; have := HB6.out; omega
            have HA4 := Lib.hid (HA3.out.kept HT7.out (fun e => hn6 e))
            have HV4 := Lib.hid (HV3.out.kept HT7.out (fun e => by have := HGW.out; have := H11L.out; unfold Just at e; omega))
            have HS4 := Lib.hid (own_far HS3.out HT7.out (fun e => by have := HGW.out; have := HGA.out; unfold Just at e; omega))
            have HB4 := Lib.hid (HBW3.out.trans (below_just HT7.out (by have := HGW.out; have := HB2S.out; omega) HBW3.out.size))
            have HSZ : Hid (V2.heap.size ≤ V4.heap.size) := Lib.hid (by have := HB3.out.size; have := HT7.out.size; omega)
            clear hls hl4 hn6 HT7 HW4 HAR HP HSET HGW HA3 HV3 HS3 HB3 HBW3 h3'
            have RS4 := Lib.hid (own_reads HS4.out HXS.out)
            have CB := Lib.hid (chain_begun (v := v) HXS.out HTK.out (by omega) RS4.out)
            clear HS4
            go_upto_region 19 with (first
              | (refine wpList_ldr (xs := stC (.slice (some ⟨ga, 0, none⟩) K c') (calmS xs)) _ rfl rfl rfl Try.underlying28 rfl st_size (stC_len _ _) HA4.out.rng0 ?_)
              | (refine wpList_ldr (xs := v4C v) _ rfl rfl rfl Try.underlying24 rfl v4_size (v4_len _) HV4.out.rng0 ?_)
              | (go_at_call 15; (with_reducible refine CB.out.mono ?_); rintro e w5 ⟨E, c5, rfl, h1, hb⟩; have HB5 := Lib.hid hb; have HL5 := Lib.hid (own_stay HL4.out hb); have HA5 := Lib.hid (at_kept HA4.out hb); have CS := Lib.hid (chain_seen HXS.out HTK.out (by omega) HLS.out h1 (own_reads (own_stay HL4.out hb) HLL.out)); clear h1 hb)
              | (go_at_call 10; (with_reducible refine CS.out.mono ?_); rintro e w6 ⟨D, c6, rfl, h1, hb⟩; have HO6 := Lib.hid h1; have HB6' := Lib.hid hb; have HL6 := Lib.hid (own_stay HL5.out hb); have HA6 := Lib.hid (at_kept HA5.out hb); clear h1 hb)
              | (refine wpList_stm (pre := []) (post := []) (xs := stC (.slice none 0 0) st0) (ys := stC (.slice D K c6) (calmS ls)) _ _ rfl rfl rfl rfl st_size (by rfl) (stC_len _ _) (stC_one _) rfl (by simp) (At.news w6 _ _) ?_; intro V6 A9 T9; rw [List.nil_append, List.append_nil] at A9; have HA9 := Lib.hid A9; have HT9 := Lib.hid T9; clear A9 T9))
            have hbv := below_var HT9.out
            have hb46 : Below V4.heap.size V4 w6 := below_next HB5.out HB6'.out
            have HA7 := Lib.hid (at_kept HA6.out hbv)
            have HO7 := Lib.hid (own_stay HO6.out hbv)
            have HL7 := Lib.hid (own_stay HL6.out hbv)
            have HB7 := Lib.hid (below_next HB4.out (hb46.trans (hbv.mono hb46.size)))
            have HZ5 : Hid (V2.heap.size ≤ w5.heap.size) := Lib.hid (by have := HSZ.out; have := HB5.out.size; omega)
            have hw6 := HA9.out
            obtain ⟨b13, hb13⟩ : ∃ b13, b13 = w6.heap.size := ⟨_, rfl⟩
            rw [← hb13] at hw6 ⊢
            have H13 := Lib.hid hw6
            clear hbv hb46 hw6 hb13 HA9 HT9 HB5 HB6' HL5 HL6 HA5 HA6 HO6 HL4 HA4 HV4 RS4 CB CS HSZ HB4
            go_wp2_with (first
              | (refine wpList_ldr (xs := stC (.slice D K c6) (calmS ls)) _ rfl rfl rfl Try.underlying28 rfl st_size (stC_len _ _) H13.out.rng0 ?_)
              | (refine wpList_stm (pre := []) (post := []) (xs := stC (.slice (some ⟨ga, 0, none⟩) K c') (calmS xs)) (ys := stC (.slice D K c6) (calmS ls)) _ _ rfl rfl rfl rfl st_size (by rfl) (stC_len _ _) (stC_one _) rfl (by simp) HA7.out ?_; intro V7 A9 T9; rw [List.nil_append, List.append_nil] at A9; have HA9 := Lib.hid A9; have HT9 := Lib.hid T9; clear A9 T9))
            have HS8 := Lib.hid (own_base (own_turned HO7.out HT9.out (fun k hk e => by have := HZ5.out; have := HB6.out; unfold Just at e; omega)) (show w.heap.size ≤ w5.heap.size by have := HZ5.out; have := HB2S.out; omega))
            have HL8 := Lib.hid (own_base (own_turned HL7.out HT9.out (fun k hk e => by have := HB6.out; unfold Just at e; omega)) HB2S.out)
            have HB8 := Lib.hid (HB7.out.trans (below_just HT9.out H6.out HB7.out.size))
            go_roundg (l.length - (j + 1))
            case measure => go_light; omega
            case rel =>
              go_light
              exact ⟨j + 1, ls, D, c6, by omega, rfl, by go_num, HLL.out, HA9.out, HS8.out, HL8.out, HB8.out⟩
          · have h3' : (x % 3 == 0) = false := by rw [beq_eq_false_iff_ne]; exact h3
            obtain ⟨ls, hls⟩ : ∃ ls, ls = xs := ⟨_, rfl⟩
            have HLS : Hid (ls = xs ∨ ls = xs.set t v) := Lib.hid (.inl hls)
            have hl4 := HL3.out
            rw [← hls] at hl4
            have HLL : Hid (ls.length = K) := Lib.hid (by rw [hls]; exact HXS.out)
            have HL4 := Lib.hid hl4
            have HA4 := HA3
            have HV4 := HV3
            have HS4 := HS3
            have HB4 := HBW3
            have HSZ : Hid (V2.heap.size ≤ V3.heap.size) := Lib.hid HB3.out.size
            clear hls hl4 h3 HL3 HA3 HV3 HS3 HB3 HBW3
            have RS4 := Lib.hid (own_reads HS4.out HXS.out)
            have CB := Lib.hid (chain_begun (v := v) HXS.out HTK.out (by omega) RS4.out)
            clear HS4
            go_upto_region 19 with (first
              | (refine wpList_ldr (xs := stC (.slice (some ⟨ga, 0, none⟩) K c') (calmS xs)) _ rfl rfl rfl Try.underlying28 rfl st_size (stC_len _ _) HA4.out.rng0 ?_)
              | (refine wpList_ldr (xs := v4C v) _ rfl rfl rfl Try.underlying24 rfl v4_size (v4_len _) HV4.out.rng0 ?_)
              | (go_at_call 15; (with_reducible refine CB.out.mono ?_); rintro e w5 ⟨E, c5, rfl, h1, hb⟩; have HB5 := Lib.hid hb; have HL5 := Lib.hid (own_stay HL4.out hb); have HA5 := Lib.hid (at_kept HA4.out hb); have CS := Lib.hid (chain_seen HXS.out HTK.out (by omega) HLS.out h1 (own_reads (own_stay HL4.out hb) HLL.out)); clear h1 hb)
              | (go_at_call 10; (with_reducible refine CS.out.mono ?_); rintro e w6 ⟨D, c6, rfl, h1, hb⟩; have HO6 := Lib.hid h1; have HB6' := Lib.hid hb; have HL6 := Lib.hid (own_stay HL5.out hb); have HA6 := Lib.hid (at_kept HA5.out hb); clear h1 hb)
              | (refine wpList_stm (pre := []) (post := []) (xs := stC (.slice none 0 0) st0) (ys := stC (.slice D K c6) (calmS ls)) _ _ rfl rfl rfl rfl st_size (by rfl) (stC_len _ _) (stC_one _) rfl (by simp) (At.news w6 _ _) ?_; intro V6 A9 T9; rw [List.nil_append, List.append_nil] at A9; have HA9 := Lib.hid A9; have HT9 := Lib.hid T9; clear A9 T9))
            have hbv := below_var HT9.out
            have hb46 : Below V3.heap.size V3 w6 := below_next HB5.out HB6'.out
            have HA7 := Lib.hid (at_kept HA6.out hbv)
            have HO7 := Lib.hid (own_stay HO6.out hbv)
            have HL7 := Lib.hid (own_stay HL6.out hbv)
            have HB7 := Lib.hid (below_next HB4.out (hb46.trans (hbv.mono hb46.size)))
            have HZ5 : Hid (V2.heap.size ≤ w5.heap.size) := Lib.hid (by have := HSZ.out; have := HB5.out.size; omega)
            have hw6 := HA9.out
            obtain ⟨b13, hb13⟩ : ∃ b13, b13 = w6.heap.size := ⟨_, rfl⟩
            rw [← hb13] at hw6 ⊢
            have H13 := Lib.hid hw6
            clear hbv hb46 hw6 hb13 HA9 HT9 HB5 HB6' HL5 HL6 HA5 HA6 HO6 HL4 HA4 HV4 RS4 CB CS HSZ HB4
            go_wp2_with (first
              | (refine wpList_ldr (xs := stC (.slice D K c6) (calmS ls)) _ rfl rfl rfl Try.underlying28 rfl st_size (stC_len _ _) H13.out.rng0 ?_)
              | (refine wpList_stm (pre := []) (post := []) (xs := stC (.slice (some ⟨ga, 0, none⟩) K c') (calmS xs)) (ys := stC (.slice D K c6) (calmS ls)) _ _ rfl rfl rfl rfl st_size (by rfl) (stC_len _ _) (stC_one _) rfl (by simp) HA7.out ?_; intro V7 A9 T9; rw [List.nil_append, List.append_nil] at A9; have HA9 := Lib.hid A9; have HT9 := Lib.hid T9; clear A9 T9))
            have HS8 := Lib.hid (own_base (own_turned HO7.out HT9.out (fun k hk e => by have := HZ5.out; have := HB6.out; unfold Just at e; omega)) (show w.heap.size ≤ w5.heap.size by have := HZ5.out; have := HB2S.out; omega))
            have HL8 := Lib.hid (own_base (own_turned HL7.out HT9.out (fun k hk e => by have := HB6.out; unfold Just at e; omega)) HB2S.out)
            have HB8 := Lib.hid (HB7.out.trans (below_just HT9.out H6.out HB7.out.size))
            go_roundg (l.length - (j + 1))
            case measure => go_light; omega
            case rel =>
              go_light
              exact ⟨j + 1, ls, D, c6, by omega, rfl, by go_num, HLL.out, HA9.out, HS8.out, HL8.out, HB8.out⟩
      · obtain rfl : j = l.length := by omega
        obtain ⟨Wa, cw, hform⟩ := own_form HWr.out
        subst hform
        have m1 : Calls Try.prog 17 #[.agg (stC (.slice A' K c') (calmS xs)).toArray, .slice Wa K cw] wr (fun e w' => e = .returned (.bool true) ∧ Below wr.heap.size wr w') := by
          have h1 := own_reads HOr.out HXS.out
          have h2 := own_reads HWr.out HXS.out
          have hx := HXS.out
          subst hx
          have := may4_any A' c' (calmS xs) Wa cw xs wr h1 h2 (by omega)
          rw [decide_eq_true (may_calm xs)] at this
          exact this
        have HM := Lib.hid m1
        clear m1
        go_wp2_with (first
          | (with_reducible show wpList _ _ _ _ _ _; refine wpList_ldr (xs := stC (.slice A' K c') (calmS xs)) _ rfl rfl rfl Try.underlying28 rfl st_size (stC_len _ _) HAr.out.rng0 ?_)
          | (go_at_call 17; (with_reducible refine HM.out.mono ?_); rintro e w5 ⟨rfl, hb⟩; have HB5 := Lib.hid (below_next HBr.out hb); have k0 : w5.cell? ⟨b6, 0, none⟩ = some (.slice A' K c') := (at_kept HAr.out hb).cell 0; have k1 : w5.cell? ⟨b6, 1, none⟩ = some (.bool false) := (at_kept HAr.out hb).cell 1; clear hb))
        go_ret
        exact ⟨rfl, HB5.out⟩
  · have hn' : (60 : Int) < (l.length : Int) := by omega
    go_enter Try.func8, Try.ntmps8
    go_wp2_with (go_at_call 9; (with_reducible refine AL.out.mono ?_); rintro e w1 ⟨rfl, hb⟩; have HB1 := Lib.hid hb; clear hb)
    go_ret
    exact ⟨rfl, HB1.out⟩
end Go.Proofs.Ytakohcdopbckkaa
