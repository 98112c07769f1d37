/- Contracts of the document's Begun, Done, Seen and New (layer model). -/
import Derived.Test.YtakohcdopbckkaaMod2
import Derived.Test.YtakohcdopbckkaaBuild
namespace Go.Proofs.Ytakohcdopbckkaa
open Go.RowKit Bm

abbrev TR : TypeId := 26
theorem rs_size : (Try.prog.info? 26).map (·.size) = some 7 := by kernel_rfl
theorem rs_infoZ : (Try.prog.info? 26).map (fun i => (i.zero, i.size)) = some (some (.agg (stC (.slice none 0 0) st0).toArray), 7) := by kernel_rfl
theorem rs_zero (w : World) : (zeroValue 26).run Try.prog w = .ok (.agg (stC (.slice none 0 0) st0).toArray) w := (zero_of_info rs_infoZ).1 w
theorem run_rs (A : Option Addr) (n c : Nat) (w : World) : (Instr.build 26 #[(0, .slice A n c)]).run Try.prog w = .ok (.agg (stC (.slice A n c) st0).toArray) w := by kernel_rfl
theorem run_rs4 (A : Option Addr) (n c : Nat) (i : Int) (v : V4) (w : World) : (Instr.build 26 #[(0, .slice A n c), (1, .bool true), (2, .int .i64 i), (3, .agg (v4C v).toArray)]).run Try.prog w = .ok (.agg (stC (.slice A n c) ⟨[], true, i, v⟩).toArray) w := by
  obtain ⟨a, b, d, e⟩ := v
  unfold v4C stC
  simp only
  generalize U a = a
  generalize U b = b
  generalize U d = d
  generalize U e = e
  kernel_rfl

theorem wpList_brs {ops : Array Oper} {rest : List Oper} {o : Oper} {a : Go.Act} {w : World} {Q : Exit → Go.Act → World → Prop} {A : Option Addr} {n c : Nat} {i : Int} {v : V4} (x y z t : Operand) (hgd : o.guard = none) (ho : o.op = .build 26 #[(0, x), (1, y), (2, z), (3, t)]) (hx : a.eval x = .slice A n c) (hy : a.eval y = .bool true) (hz : a.eval z = .int .i64 i) (ht : a.eval t = .agg (v4C v).toArray)
    (hK : wpList Try.prog ops Q rest (a.put o.dst (.agg (stC (.slice A n c) ⟨[], true, i, v⟩).toArray)) w) : wpList Try.prog ops Q (o :: rest) a w :=
  wpList_plain hgd fun K hK' => by
    unfold Oper.wp execOp
    simp only [ho, List.map_toArray, List.map_cons, List.map_nil, hx, hy, hz, ht, Sem.run_bind, run_rs4, Result.andThen_ok]
    exact hK' _ _ hK

/-- What a call hands back: this state, its row its own or one that was there. -/
def Theirs (s : StM) (w : World) (e : Ending) (w' : World) : Prop :=
  ∃ B cap, e = .returned (.agg (stC (.slice B s.sure.length cap) s).toArray) ∧ v4K.Reads w' B s.sure.length cap s.sure ∧ Below w.heap.size w w'

def R3 (w : World) (cs vs : List Value) : World := ((w.alloc (.cells cs.toArray 26)).alloc (.cells vs.toArray 24)).alloc (.cells (stC (.slice none 0 0) st0).toArray 26)
theorem R3_a (w : World) (cs vs : List Value) : At (R3 w cs vs) w.heap.size 26 cs := ((At.news w _ _).alloc _).alloc _
theorem R3_b (w : World) (cs vs : List Value) : At (R3 w cs vs) (w.heap.size + 1) 24 vs := (At.alloc_new _ _ _ (by rw [World.size_alloc]) rfl).alloc _
theorem R3_c (w : World) (cs vs : List Value) : At (R3 w cs vs) (w.heap.size + 2) 26 (stC (.slice none 0 0) st0) := At.alloc_new _ _ _ (by rw [World.size_alloc, World.size_alloc]) rfl
theorem R3_size (w : World) (cs vs : List Value) : (R3 w cs vs).heap.size = w.heap.size + 3 := by unfold R3; rw [World.size_alloc, World.size_alloc, World.size_alloc]
theorem R3_below (w : World) (cs vs : List Value) : Below w.heap.size w (R3 w cs vs) := (below_two w _ _).alloc (by rw [World.size_alloc, World.size_alloc]; omega) _

/-- One element more behind a row of one's own. -/
theorem wpList_snoc {α : Type} {K : Kd α} {P : Program} {ops : Array Oper} {rest : List Oper} {o : Oper} {a : Go.Act} {w : World} {Q : Exit → Go.Act → World → Prop} {base : Nat} {xs : List α} {y : α} {v : Value} {T SL : TypeId} {i0 : TypeInfo} {z : Value} {bytes : Nat} (hS : P.underlying SL = some (.slice T)) (hin : P.info? T = some i0) (hz0 : i0.zero = some z) (hz1 : i0.size = K.k) (hz2 : i0.bytes = bytes) (hz3 : z.cells.size = K.k) (hby : bytes ≤ 10000)
    (s x : Operand) (hgd : o.guard = none) (hop : o.op = .call { callee := .builtin .append, args := #[s, x], argTypes := #[SL, SL] }) (hs : a.eval s = v) (hown : w.ownsRow base T K.k v xs.length (K.all xs)) {g : Nat} (hx : a.eval x = .slice (some ⟨g, 0, none⟩) 1 1) (hA : At w g T (K.c y)) (hl : xs.length ≤ 100000) (hb : base ≤ w.heap.size)
    (h : ∀ g cap w', w'.ownsRow base T K.k (.slice (some ⟨g, 0, none⟩) (xs.length + 1) cap) (xs ++ [y]).length (K.all (xs ++ [y])) → Below base w w' → wpList P ops Q rest (a.put o.dst (.slice (some ⟨g, 0, none⟩) (xs.length + 1) cap)) w') : wpList P ops Q (o :: rest) a w := by
  have hbb : (xs.length + 1) * bytes ≤ 100001 * 10000 := Nat.mul_le_mul (by omega) hby
  refine wpList_append_lies _ hgd s x _ hop base T i0 z K.k bytes hS hin hz0 hz1 hz2 hz3 K.pos v xs.length _ hs hown ⟨g, 0, none⟩ 1 1 (K.c y) hx (by rw [K.len]; omega) hA.news_at (K.one _) (by omega) (by unfold maxLen; omega) (by omega) hb _ rfl ?_
  intro g' cap w' h1 h2 _ _
  refine h g' cap w' ?_ ((Below.refl base w).grown h2 hb (fun k hk => (hown.lt k hk).1))
  rw [List.length_append, List.length_singleton, K.all_app, K.all_sing]
  exact h1

set_option maxRecDepth 100000 in
set_option maxHeartbeats 1000000 in
theorem rbegun4_any (A : Option Addr) (c : Nat) (s : StM) (i : Int) (v : V4) (w : World) (hR : v4K.Reads w A s.sure.length c s.sure) :
    Calls Try.prog 16 #[.agg (stC (.slice A s.sure.length c) s).toArray, .int .i64 i, .agg (v4C v).toArray] w (Theirs (sBegun s i v) w) := by
  obtain ⟨W0, hW0⟩ : ∃ W0, W0 = R3 w (stC (.slice A s.sure.length c) s) (v4C v) := ⟨_, rfl⟩
  have hz := rs_zero
  have A0 := R3_a w (stC (.slice A s.sure.length c) s) (v4C v)
  have A1 := R3_b w (stC (.slice A s.sure.length c) s) (v4C v)
  have A2 := R3_c w (stC (.slice A s.sure.length c) s) (v4C v)
  have B0 := R3_below w (stC (.slice A s.sure.length c) s) (v4C v)
  have s0 := R3_size w (stC (.slice A s.sure.length c) s) (v4C v)
  have hW1 := hW0
  unfold R3 at hW1
  rw [← hW0] at A0 A1 A2 B0 s0
  have c0 : W0.cell? ⟨w.heap.size, 0, none⟩ = some (.slice A s.sure.length c) := A0.cell 0
  have HA0 := Lib.hid A0
  have HA1 := Lib.hid A1
  have HA2 := Lib.hid A2
  have HB0 := Lib.hid B0
  have HS0 := Lib.hid s0
  have HRR := Lib.hid (hR.kept B0)
  have fin : ∀ (V : World) (r : StM), r.sure = s.sure → Turned (Just (w.heap.size + 2)) W0 V → Theirs r w (.returned (.agg (stC (.slice A s.sure.length c) r).toArray)) V := by
    intro V r hr hT
    have h0 := HS0.out
    have hbv := HB0.out.trans (below_just hT (by omega) (by omega))
    exact ⟨A, c, by rw [hr], by rw [hr]; exact hR.kept hbv, hbv⟩
  have FIN := Lib.hid fin
  clear A0 A1 A2 B0 s0 hR hW0 fin
  have hcase : (isAt s i ∧ 0 ≤ i ∧ i < (s.sure.length : Int)) ∨ (¬ isAt s i ∧ i < 0) ∨ (¬ isAt s i ∧ 0 ≤ i ∧ ¬ i < (s.sure.length : Int)) := by unfold isAt; omega
  rcases hcase with ⟨h1, h2, h3⟩ | ⟨h1, h2⟩ | ⟨h1, h2, h3⟩
  · have hsd : sBegun s i v = ⟨s.sure, true, i, v⟩ := by unfold sBegun; rw [if_pos h1]
    rw [hsd]
    clear h1 hsd
    go_enter Try.func16, Try.ntmps16
    go_upto_region 1 with (fail)
    change Code.wp _ _ _ _ (((w.alloc (.cells (stC (.slice A s.sure.length c) s).toArray 26)).alloc (.cells (v4C v).toArray 24)).alloc (.cells (stC (.slice none 0 0) st0).toArray 26))
    rw [← hW1]
    clear hW1
    go_wp2_with (first
      | (refine wpList_ldr (xs := v4C v) _ rfl rfl rfl Try.underlying24 rfl v4_size (v4_len _) HA1.out.rng0 ?_)
      | (refine wpList_brs (A := A) (n := s.sure.length) (c := c) (i := i) (v := v) _ _ _ _ rfl rfl rfl rfl rfl rfl ?_)
      | (refine wpList_stm (pre := []) (post := []) (xs := stC (.slice none 0 0) st0) (ys := stC (.slice A s.sure.length c) ⟨[], true, i, v⟩) _ _ rfl rfl rfl rfl rs_size (by rfl) (stC_len _ _) (stC_one _) rfl (by simp) HA2.out ?_; intro V4 A8 T8; rw [List.nil_append, List.append_nil] at A8; have HA8 := Lib.hid A8; have HT8 := Lib.hid T8; clear A8 T8))
    exact bodyPost_ret (res_cell Try.results16 _ Try.underlying26 rfl rs_size rfl HA8.out (stC_len _ _)) rfl (FIN.out _ ⟨s.sure, true, i, v⟩ rfl HT8.out)
  all_goals
    have hsd : sBegun s i v = s := by unfold sBegun; rw [if_neg h1]
    rw [hsd]
    clear h1 hsd
    go_enter Try.func16, Try.ntmps16
    go_upto_region 1 with (fail)
    change Code.wp _ _ _ _ (((w.alloc (.cells (stC (.slice A s.sure.length c) s).toArray 26)).alloc (.cells (v4C v).toArray 24)).alloc (.cells (stC (.slice none 0 0) st0).toArray 26))
    rw [← hW1]
    clear hW1
    go_wp2_with (first
      | (refine wpList_ldr (xs := stC (.slice A s.sure.length c) s) _ rfl rfl rfl Try.underlying26 rfl rs_size (stC_len _ _) HA0.out.rng0 ?_)
      | (refine wpList_stm (pre := []) (post := []) (xs := stC (.slice none 0 0) st0) (ys := stC (.slice A s.sure.length c) s) _ _ rfl rfl rfl rfl rs_size (by rfl) (stC_len _ _) (stC_one _) rfl (by simp) HA2.out ?_; intro V4 A8 T8; rw [List.nil_append, List.append_nil] at A8; have HA8 := Lib.hid A8; have HT8 := Lib.hid T8; clear A8 T8))
    exact bodyPost_ret (res_cell Try.results16 _ Try.underlying26 rfl rs_size rfl HA8.out (stC_len _ _)) rfl (FIN.out _ s rfl HT8.out)

set_option maxRecDepth 100000 in
set_option maxHeartbeats 1000000 in
theorem rdone4_any (A : Option Addr) (c : Nat) (s : StM) (i : Int) (v : V4) (w : World) (hR : v4K.Reads w A s.sure.length c s.sure) (hn : s.sure.length ≤ 50000) :
    Calls Try.prog 14 #[.agg (stC (.slice A s.sure.length c) s).toArray, .int .i64 i, .agg (v4C v).toArray] w (Theirs (sDone s i v) w) := by
  obtain ⟨W0, hW0⟩ : ∃ W0, W0 = R3 w (stC (.slice A s.sure.length c) s) (v4C v) := ⟨_, rfl⟩
  have hz := rs_zero
  have A0 := R3_a w (stC (.slice A s.sure.length c) s) (v4C v)
  have A1 := R3_b w (stC (.slice A s.sure.length c) s) (v4C v)
  have A2 := R3_c w (stC (.slice A s.sure.length c) s) (v4C v)
  have B0 := R3_below w (stC (.slice A s.sure.length c) s) (v4C v)
  have s0 := R3_size w (stC (.slice A s.sure.length c) s) (v4C v)
  have hW1 := hW0
  unfold R3 at hW1
  rw [← hW0] at A0 A1 A2 B0 s0
  have c0 : W0.cell? ⟨w.heap.size, 0, none⟩ = some (.slice A s.sure.length c) := A0.cell 0
  have HA0 := Lib.hid A0
  have HA1 := Lib.hid A1
  have HA2 := Lib.hid A2
  have HB0 := Lib.hid B0
  have HS0 := Lib.hid s0
  have HRR := Lib.hid (hR.kept B0)
  have hb := run_rs
  have fin : ∀ (V : World), Turned (Just (w.heap.size + 2)) W0 V → Theirs s w (.returned (.agg (stC (.slice A s.sure.length c) s).toArray)) V := by
    intro V hT
    have h0 := HS0.out
    have hbv := HB0.out.trans (below_just hT (by omega) (by omega))
    exact ⟨A, c, rfl, hR.kept hbv, hbv⟩
  have FIN := Lib.hid fin
  clear A0 A1 A2 B0 s0 hR hW0 fin
  have hcase : (isAt s i ∧ 0 ≤ i ∧ i < (s.sure.length : Int)) ∨ (¬ isAt s i ∧ i < 0) ∨ (¬ isAt s i ∧ 0 ≤ i ∧ ¬ i < (s.sure.length : Int)) := by unfold isAt; omega
  rcases hcase with ⟨h1, h2, h3⟩ | ⟨h1, h2⟩ | ⟨h1, h2, h3⟩
  · obtain ⟨t, htE⟩ : ∃ t : Nat, i = (t : Int) := ⟨i.toNat, by omega⟩
    have ht : t < s.sure.length := by omega
    obtain ⟨zs, hzs⟩ : ∃ zs, zs = s.sure.set t v := ⟨_, rfl⟩
    have hsd : sDone s i v = calmS zs := by unfold sDone; rw [if_pos h1, hzs, htE]; rfl
    have HTE := Lib.hid htE
    rw [hsd]
    obtain ⟨n, hnE⟩ : ∃ n, n = s.sure.length := ⟨_, rfl⟩
    have HNE := Lib.hid hnE
    have hzl : zs.length = n := by rw [hzs, List.length_set, hnE]
    rw [← hnE] at HRR c0 HA0 hW1 h3 ht hn ⊢
    have HZ := Lib.hid hzs
    have HZL := Lib.hid hzl
    have HT := Lib.hid ht
    clear h1 hsd hzs hzl hnE ht FIN htE
    obtain ⟨i0, hin, hz0, hz1, hz2⟩ := info_parts v4_infoA
    go_enter Try.func14, Try.ntmps14
    go_upto_region 1 with (fail)
    change Code.wp _ _ _ _ (((w.alloc (.cells (stC (.slice A n c) s).toArray 26)).alloc (.cells (v4C v).toArray 24)).alloc (.cells (stC (.slice none 0 0) st0).toArray 26))
    rw [← hW1]
    clear hW1
    go_wp2
    go_loopg [7, 8] n (fun g o i wr => ∃ j : Nat, j ≤ n ∧ g = n - j ∧ i = .int .i64 j ∧ wr.ownsRow W0.heap.size 24 4 o (zs.take j).length (v4K.all (zs.take j)) ∧ Below W0.heap.size W0 wr)
    case atStart => exact ⟨0, by omega, rfl, rfl, World.ownsRow_nil _ _ _ _, Below.refl _ _⟩
    case round =>
      obtain ⟨j, hj, rfl, rfl, ho, hB⟩ := hrel
      have HO := Lib.hid ho
      have HB := Lib.hid hB
      have ha1 := HA1.out.kept (Turned.of_below hB (Nat.le_refl _) NoBlock) (fun h => h)
      have HA3 := Lib.hid ha1
      have HA4 := Lib.hid (HA2.out.kept (Turned.of_below hB (Nat.le_refl _) NoBlock) (fun h => h))
      have g0 : wr.cell? ⟨w.heap.size, 0, none⟩ = some (.slice A n c) := (HA0.out.kept (Turned.of_below hB (Nat.le_refl _) NoBlock) (fun h => h)).cell 0
      clear ho hB ha1
      by_cases hlt : j < n
      · have j0 : (0 : Int) ≤ (j : Int) := by omega
        have j1 : (j : Int) < (n : Int) := by omega
        have htk : zs.take (j + 1) = zs.take j ++ [v4K.nth zs j] := by
          rw [List.take_add_one, v4K.nth_get (by rw [HZL.out]; exact hlt)]
          rfl
        have HTK := Lib.hid htk
        have htl : (zs.take j).length = j := by rw [List.length_take, HZL.out]; omega
        have HTL := Lib.hid htl
        clear htk htl
        by_cases he : j = t
        · have hji : ((j : Int) == i) = true := by rw [beq_iff_eq, HTE.out, he]
          have hy : v4K.nth zs j = v := by rw [HZ.out, v4K.nth_set _ (by rw [← HNE.out, ← he]; exact hlt), if_pos he]
          rw [hy] at HTK
          clear hy he
          go_wp2_with (first
            | (refine wpList_ldr (xs := v4C v) _ rfl rfl rfl Try.underlying24 rfl v4_size (v4_len _) HA3.out.rng0 ?_)
            | (refine wpList_build_one _ rfl rfl rfl Try.underlying22 hin hz0 hz1 (cs := (v4C v).toArray) (by rfl) (by omega) (by omega) ?_)
            | (at_builtin; refine halt_here ?_))
          refine Lib.hid ?_
          refine wpList_snoc (K := v4K) (base := W0.heap.size) (xs := zs.take j) (y := v) Try.underlying22 hin hz0 hz1 hz2 (by rfl) (by omega) _ _ (by rfl) (by rfl) (by rfl) (HO.out.alloc _) (by rfl) (At.news wr _ _) (by have := HTL.out; omega) (by have := HB.out.size; simp; omega) ?_
          intro g' cap w' h1 h2
          simp only [Act.put, List.setIfInBounds_toArray, List.set_cons_zero, List.set_cons_succ]
          rw [HTL.out]
          rw [← HTK.out] at h1
          rw [HTL.out] at h1
          have HO5 := Lib.hid h1
          have HB5 := Lib.hid ((HB.out.alloc HB.out.size _).trans h2)
          clear h1 h2
          go_wp2
          go_roundg (n - (j + 1))
          case measure => go_light; omega
          case rel =>
            go_light
            exact ⟨j + 1, by omega, rfl, by go_num, HO5.out, HB5.out⟩
        · have hji : ((j : Int) == i) = false := by rw [beq_eq_false_iff_ne, HTE.out]; omega
          have hy : v4K.nth zs j = v4K.nth s.sure j := by rw [HZ.out, v4K.nth_set _ (by rw [← HNE.out]; exact HT.out), if_neg he]
          obtain ⟨y, hyE⟩ : ∃ y, y = v4K.nth s.sure j := ⟨_, rfl⟩
          rw [hy, ← hyE] at HTK
          obtain ⟨g, off, rfl, hg, hr⟩ := (HRR.out.kept HB.out).at_ hlt
          rw [← hyE] at hr
          have HR := Lib.hid hr
          clear hy he hyE hg hr
          go_wp2_with (first
            | (refine wpList_ldr (xs := v4C y) _ rfl rfl rfl Try.underlying24 rfl v4_size (v4_len _) HR.out ?_)
            | (refine wpList_build_one _ rfl rfl rfl Try.underlying22 hin hz0 hz1 (cs := (v4C y).toArray) (by rfl) (by omega) (by omega) ?_)
            | (at_builtin; refine halt_here ?_))
          refine Lib.hid ?_
          refine wpList_snoc (K := v4K) (base := W0.heap.size) (xs := zs.take j) (y := y) Try.underlying22 hin hz0 hz1 hz2 (by rfl) (by omega) _ _ (by rfl) (by rfl) (by rfl) (HO.out.alloc _) (by rfl) (At.news wr _ _) (by have := HTL.out; omega) (by have := HB.out.size; simp; omega) ?_
          intro g' cap w' h1 h2
          simp only [Act.put, List.setIfInBounds_toArray, List.set_cons_zero, List.set_cons_succ]
          rw [HTL.out]
          rw [← HTK.out] at h1
          rw [HTL.out] at h1
          have HO5 := Lib.hid h1
          have HB5 := Lib.hid ((HB.out.alloc HB.out.size _).trans h2)
          clear h1 h2
          go_wp2
          go_roundg (n - (j + 1))
          case measure => go_light; omega
          case rel =>
            go_light
            exact ⟨j + 1, by omega, rfl, by go_num, HO5.out, HB5.out⟩
      · obtain rfl : j = n := by omega
        have ho := HO.out
        rw [show zs.take j = zs by rw [← HZL.out, List.take_length], HZL.out] at ho
        obtain ⟨B, cap, rfl⟩ := own_form ho
        have HO2 := Lib.hid ho
        clear ho
        go_wp2_with (refine wpList_stm (pre := []) (post := []) (xs := stC (.slice none 0 0) st0) (ys := stC (.slice B j cap) st0) _ _ rfl rfl rfl rfl rs_size (by rfl) (stC_len _ _) (stC_one _) rfl (by simp) HA4.out ?_; intro V4 A8 T8; rw [List.nil_append, List.append_nil] at A8; have HA8 := Lib.hid A8; have HT8 := Lib.hid T8; clear A8 T8)
        refine bodyPost_ret (res_cell Try.results14 _ Try.underlying26 rfl rs_size rfl HA8.out (stC_len _ _)) rfl ?_
        have h0 := HS0.out
        have h1 := HB.out.size
        obtain ⟨B', cap', e, hr, _⟩ := Kd.Reads.of_own (K := v4K) (own_turned HO2.out HT8.out (fun k hk e => by unfold Just at e; omega)) HZL.out.symm
        cases e
        refine ⟨B, cap, ?_, ?_, (HB0.out.trans (HB.out.mono (by omega))).trans (below_just HT8.out (by omega) (by omega))⟩
        · show _ = Ending.returned (.agg (stC (.slice B zs.length cap) (calmS zs)).toArray)
          rw [HZL.out]
          rfl
        · show v4K.Reads V4 B zs.length cap zs
          rw [HZL.out]
          exact hr
  all_goals
    have hsd : sDone s i v = s := by unfold sDone; rw [if_neg h1]
    rw [hsd]
    clear h1 hsd
    go_enter Try.func14, Try.ntmps14
    go_upto_region 1 with (fail)
    change Code.wp _ _ _ _ (((w.alloc (.cells (stC (.slice A s.sure.length c) s).toArray 26)).alloc (.cells (v4C v).toArray 24)).alloc (.cells (stC (.slice none 0 0) st0).toArray 26))
    rw [← hW1]
    clear hW1
    go_wp2_with (first
      | (refine wpList_ldr (xs := stC (.slice A s.sure.length c) s) _ rfl rfl rfl Try.underlying26 rfl rs_size (stC_len _ _) HA0.out.rng0 ?_)
      | (refine wpList_stm (pre := []) (post := []) (xs := stC (.slice none 0 0) st0) (ys := stC (.slice A s.sure.length c) s) _ _ rfl rfl rfl rfl rs_size (by rfl) (stC_len _ _) (stC_one _) rfl (by simp) HA2.out ?_; intro V4 A8 T8; rw [List.nil_append, List.append_nil] at A8; have HA8 := Lib.hid A8; have HT8 := Lib.hid T8; clear A8 T8))
    exact bodyPost_ret (res_cell Try.results14 _ Try.underlying26 rfl rs_size rfl HA8.out (stC_len _ _)) rfl (FIN.out _ HT8.out)
end Go.Proofs.Ytakohcdopbckkaa
