import Derived.Test.YtnfgpjfldgocaaaGreatLatTools
import Derived.Test.YtnfgpjfldgocaaaGreatLatApp
import Derived.Test.YtnfgpjfldgocaaaGreatLatRef
import Derived.Test.YtnfgpjfldgocaaaGreatScanTheirs
import Derived.Test.YtnfgpjfldgocaaaGreatScanBuilt
import Derived.Test.YtnfgpjfldgocaaaGreatScan3
import Derived.Test.YtnfgpjfldgocaaaGreatHeld
namespace Go.Proofs.YtnfgpjfldgocaaaGreat
section
open Go.RowKit Bm
theorem spl_res2 {fn : Func} {i j : Tmp} (h : fn.results = #[.cell i 106, .tmp j]) (tmps : Array Value) {w : World} {g : Nat} {x : PlM} {v : Value} (hp : tmps.getD i undef = .pointer (some ⟨g, 0, none⟩)) (hq : tmps.getD j undef = v) (hA : At w g 106 (plC x)) :
  (results fn tmps).run Tryz.prog w = .ok (.tuple #[plV x, v]) w := by
 have hp' : tmps[i]?.getD undef = .pointer (some ⟨g, 0, none⟩) := by simpa using hp
 have hq' : tmps[j]?.getD undef = v := by simpa using hq
 simp [results, h, hp', hq', asAddr, run_loadVar_row (P := Tryz.prog) w g 106 106 (plC x).toArray (0, 0) _ hA Tryz.underlying106 rfl (by rw [spl_size]; simp [plC, pgC]), plV]
set_option maxRecDepth 100000 in
set_option maxHeartbeats 2000000 in
theorem lfind_any (A : Option Addr) (n c : Nat) (xs : List PlM) (s : BitVec 32) (w : World) (hA : ReadsL w A n c xs) (hn : n <= 100000) : Calls Tryz.prog 53 #[.slice A n c, .int .u32 (U s)] w fun e w' => e = .returned (.tuple #[plV ((lFind xs s).getD pl0), .bool (lFind xs s).isSome]) /\ Below w.heap.size w w' := by
 have hz := spl_zero
 have HA := Lib.hid hA
 have HA0 := Lib.hid (At.news w 106 (plC pl0))
 have HB0 := Lib.hid ((Below.refl _ w).alloc (Nat.le_refl _) (.cells (plC pl0).toArray 106))
 have hnm : (n : Int) <= 100000 := by omega
 clear hA
 go_enter Tryz.func53, Tryz.ntmps53
 go_wp2
 go_loopw [10] (fun i wr => ∃ j : Nat, j <= n /\ i = .int .i64 j /\ At wr w.heap.size 106 (plC pl0) /\ Below w.heap.size w wr /\ ∀ k, k < j -> (plN xs k).p.s ≠ s) (fun i _ => n - (intOf i).toNat)
 case atStart => exact ⟨0, by omega, rfl, HA0.out, HB0.out, fun k h => absurd h (by omega)⟩
 case round =>
  obtain ⟨j, hj, rfl, hR, hB, hs⟩ := hrel
  have HS := Lib.hid hs
  have HR0 := Lib.hid hR
  have HB := Lib.hid hB
  clear hs hR hB
  by_cases hlt : j < n
  ·obtain ⟨g, off, rfl, hg, hr⟩ := (HA.out.kept HB.out).at_ hlt
   obtain ⟨x, hx⟩ : ∃ x, x = plN xs j := ⟨_, rfl⟩
   rw [<- hx] at hr
   have HX := Lib.hid hx
   have HR := Lib.hid hr
   have i0 : (0 : Int) <= (j : Int) := by omega
   have i1 : (j : Int) < (n : Int) := by omega
   clear hr hx
   by_cases he : x.p.s = s
   ·have hu' : (U x.p.s == U s) = true := by rw [he]; simp
    have HF := Lib.hid (lFind_at (xs := xs) (s := s) (j := j) (by rw [HA.out.len]; exact hlt) HS.out (by rw [<- HX.out]; exact he))
    clear he
    go_wp2_with (first
     | (refine wpList_ldr _ rfl rfl rfl Tryz.underlying106 rfl spl_size (plC_len _) HR.out ?_)
     | (refine wpList_stm (pre := []) (post := []) (xs := plC pl0) (ys := plC x) _ _ rfl rfl rfl rfl spl_size (by rfl) (plC_len _) (plC_one _) rfl (by simp) (At.news wr _ (plC pl0)) ?_; intro V A3 T3; rw [List.nil_append, List.append_nil] at A3; have c2 : V.cell? ⟨wr.heap.size, 2, none⟩ = some (.int .u32 (U x.p.s)) := A3.cell 2; have HA3 := Lib.hid A3; have HT3 := Lib.hid T3; have HR3 := Lib.hid ((HR0.out.alloc (.cells (plC pl0).toArray 106)).kept T3 (by have := HR0.out.lt; unfold Just; omega)); clear A3 T3)
     | (refine wpList_ldr _ rfl rfl rfl Tryz.underlying106 rfl spl_size (plC_len _) HA3.out.rng ?_)
     | (refine wpList_stm (pre := []) (post := []) (xs := plC pl0) (ys := plC x) _ _ rfl rfl rfl rfl spl_size (by rfl) (plC_len _) (plC_one _) rfl (by simp) HR3.out ?_; intro V2 A4 T4; rw [List.nil_append, List.append_nil] at A4; have HA4 := Lib.hid A4; have HT4 := Lib.hid T4; clear A4 T4))
    refine bodyPost_ret (spl_res2 Tryz.results53 _ rfl rfl HA4.out) rfl ⟨?_, ?_⟩
    ·rw [HF.out, <- HX.out]
     rfl
    ·exact HB.out.trans ((((Below.refl w.heap.size wr).alloc HB.out.size _).trans (HT3.out.below (fun k hk => by unfold Just at hk; have := HB.out.size; omega) (by have := HB.out.size; simp; omega))).trans (HT4.out.below (fun k hk => by unfold Just at hk; omega) (by have := HB.out.size; have := HT3.out.size; simp at this; omega)))
   ·have hu' : (U x.p.s == U s) = false := by rw [beq_eq_false_iff_ne]; exact fun h => he (U_inj h)
    have HE := Lib.hid he
    clear he
    go_wp2_with (first
     | (refine wpList_ldr _ rfl rfl rfl Tryz.underlying106 rfl spl_size (plC_len _) HR.out ?_)
     | (refine wpList_stm (pre := []) (post := []) (xs := plC pl0) (ys := plC x) _ _ rfl rfl rfl rfl spl_size (by rfl) (plC_len _) (plC_one _) rfl (by simp) (At.news wr _ (plC pl0)) ?_; intro V A3 T3; rw [List.nil_append, List.append_nil] at A3; have c2 : V.cell? ⟨wr.heap.size, 2, none⟩ = some (.int .u32 (U x.p.s)) := A3.cell 2; have HT3 := Lib.hid T3; have HR3 := Lib.hid ((HR0.out.alloc (.cells (plC pl0).toArray 106)).kept T3 (by have := HR0.out.lt; unfold Just; omega)); clear A3 T3))
    go_roundw
    case rel => exact ⟨j + 1, by omega, by go_num, HR3.out, HB.out.trans (((Below.refl w.heap.size wr).alloc HB.out.size _).trans (HT3.out.below (fun k hk => by unfold Just at hk; have := HB.out.size; omega) (by have := HB.out.size; simp; omega))), fun k hk => by
     by_cases e : k = j
     ·rw [e, <- HX.out]; exact HE.out
     ·exact HS.out k (by omega)⟩
    case measure => simp [intOf]; omega
  ·obtain rfl : j = n := by omega
   have HF := Lib.hid (lFind_no (xs := xs) (s := s) (fun k hk => HS.out k (by rw [<- HA.out.len]; exact hk)))
   go_wp2_with (first
    | (refine wpList_stm (pre := []) (post := []) (xs := plC pl0) (ys := plC pl0) _ _ rfl rfl rfl rfl spl_size (by rfl) (plC_len _) (plC_one _) rfl (by simp) HR0.out ?_; intro V A3 T3; rw [List.nil_append, List.append_nil] at A3; have HA3 := Lib.hid A3; have HT3 := Lib.hid T3; clear A3 T3))
   refine bodyPost_ret (spl_res2 Tryz.results53 _ rfl rfl HA3.out) rfl ⟨?_, HB.out.trans (HT3.out.below (fun k hk => by unfold Just at hk; omega) HB.out.size)⟩
   rw [HF.out]
   rfl
end
section
open Go.RowKit Bm Go.Shelf
theorem collect_any (gf : Nat) (lb : Array Value) (xs : List PlM) (w0 w : World) (eg : ∀ args w, (callFunc gf args).run Tryz.prog w = .ok (.enter gf args) w) (hseq : SeqI Tryz.prog gf lb plE (KpL w0.heap.size) xs w) (hb0 : w0.heap.size <= w.heap.size) (hn : xs.length <= 100000) :
  Calls Tryz.prog 124 #[.func (.func gf) #[] lb] w fun e w' => ∃ v, e = .returned v /\ w'.ownsRow w.heap.size 106 9 v xs.length (pls xs) /\ Below w.heap.size w w' := by
 have HC := Lib.hid (appseq_any gf lb xs w0 w eg hseq hb0 hn)
 clear hseq eg
 go_enter Tryz.func124, Tryz.ntmps124
 go_wp2_with (go_at_call 148; (refine HC.out.mono ?_); rintro e w1 ⟨v, rfl, ho, hb⟩; have HO := Lib.hid ho; have HB := Lib.hid hb; clear ho hb)
 go_ret
 exact ⟨v, rfl, HO.out, HB.out⟩
def SortedAs (xs : List PlM) (w : World) (v : Value) (w' : World) : Prop :=
 (xs = [] /\ v = .slice none 0 0 /\ Below w.heap.size w w') \/
 ∃ g cap ys rest, v = .slice (some ⟨g, 0, none⟩) xs.length cap /\ ys.length = xs.length /\ news ys xs.length = lOf xs /\ At w' g 106 (pls ys ++ rest) /\ xs.length <= cap /\ cap <= maxLen /\ w.heap.size <= g /\ Below w.heap.size w w'
set_option maxHeartbeats 2000000 in
theorem sorted_any (gf : Nat) (lb : Array Value) (xs : List PlM) (w0 w : World) (eg : ∀ args w, (callFunc gf args).run Tryz.prog w = .ok (.enter gf args) w) (hseq : SeqI Tryz.prog gf lb plE (KpL w0.heap.size) xs w) (hb0 : w0.heap.size <= w.heap.size) (hn : xs.length <= 100000) (ha : xs.Pairwise Ahead) :
  Calls Tryz.prog 92 #[.func (.func gf) #[] lb, .func (.func 93) #[] #[]] w fun e w' => ∃ v, e = .returned v /\ SortedAs xs w v w' := by
 have HC := Lib.hid (collect_any gf lb xs w0 w eg hseq hb0 hn)
 have HA := Lib.hid ha
 clear hseq eg ha
 go_enter Tryz.func92, Tryz.ntmps92
 go_upto_region 2 with (go_at_call 124; (refine HC.out.mono ?_); rintro e w1 ⟨v, rfl, ho, hb⟩; have HO := Lib.hid ho; have HB := Lib.hid hb; clear ho hb)
 obtain ⟨hl, ⟨rfl, h0⟩ | ⟨g, cap, cur, rfl, hbg, hg, hc, hmx, hs, ht⟩⟩ := HO.out
 ·have HE : Hid (xs = []) := Lib.hid (List.eq_nil_of_length_eq_zero h0)
  clear hl h0
  go_wp2_with (go_at_call 125; (refine (sort_nil _ _).mono ?_); rintro e w2 ⟨rfl, rfl⟩)
  go_ret
  exact ⟨_, rfl, .inl ⟨HE.out, rfl, HB.out⟩⟩
 ·obtain ⟨rest, hA1, _, _, _, _⟩ := at_of_own HO.out
  have HS := Lib.hid (sort_any g xs.length cap xs rest w1 hA1 rfl (by omega) HA.out)
  have HBG := Lib.hid hbg
  have HCC := Lib.hid hc
  have HMX := Lib.hid hmx
  clear hl hbg hg hc hmx hs ht hA1
  go_wp2_with (go_at_call 125; (refine HS.out.mono ?_); rintro e w2 ⟨rfl, ys, hyl, hyn, hA2, hT2⟩; have HYL := Lib.hid hyl; have HYN := Lib.hid hyn; have HA2 := Lib.hid hA2; have HT2 := Lib.hid hT2; clear hyl hyn hA2 hT2)
  go_ret
  exact ⟨_, rfl, .inr ⟨g, cap, ys, rest, rfl, HYL.out, HYN.out, HA2.out, HCC.out, HMX.out, HBG.out, HB.out.trans (HT2.out.below (fun k hk => by unfold Just at hk; have := HBG.out; omega) HB.out.size)⟩⟩
set_option maxHeartbeats 2000000 in
theorem compact_nil (w : World) (f : Value) : Calls Tryz.prog 95 #[.slice none 0 0, f] w fun e w' => e = .returned (.slice none 0 0) /\ w' = w := by
 go_enter Tryz.func95, Tryz.ntmps95
 go_wp2
 go_ret
 exact ⟨rfl, rfl⟩
set_option maxHeartbeats 2000000 in
theorem newest_own (gf : Nat) (lb : Array Value) (xs : List PlM) (w0 w : World) (eg : ∀ args w, (callFunc gf args).run Tryz.prog w = .ok (.enter gf args) w) (hseq : SeqI Tryz.prog gf lb plE (KpL w0.heap.size) xs w) (hb0 : w0.heap.size <= w.heap.size) (hn : xs.length <= 100000) (ha : xs.Pairwise Ahead) :
  Calls Tryz.prog 70 #[.func (.func gf) #[] lb] w fun e w' => ∃ B cap, e = .returned (.slice B (lOf xs).length cap) /\ ReadsL w' B (lOf xs).length cap (lOf xs) /\ Below w.heap.size w w' /\ ∀ g off, B = some ⟨g, off, none⟩ -> w.heap.size <= g := by
 have HC := Lib.hid (sorted_any gf lb xs w0 w eg hseq hb0 hn ha)
 clear hseq eg ha
 go_enter Tryz.func70, Tryz.ntmps70
 go_upto_region 2 with (go_at_call 92; (refine HC.out.mono ?_); rintro e w1 ⟨v, rfl, hs⟩; have HS := Lib.hid hs; clear hs)
 obtain ⟨hx, rfl, hb⟩ | ⟨g, cap, ys, rest, rfl, hyl, hyn, hA, hc, hm, hg, hb⟩ := HS.out
 ·have HX := Lib.hid hx
  have HB := Lib.hid hb
  clear hx hb
  go_wp2_with (go_at_call 95; (refine (compact_nil _ _).mono ?_); rintro e w2 ⟨rfl, rfl⟩)
  go_ret
  refine ⟨none, 0, ?_, ?_, HB.out, fun _ _ h => by cases h⟩
  ·rw [HX.out]; rfl
  ·rw [HX.out]; exact ReadsL.none _
 ·have HY := Lib.hid (compact_any g xs.length cap ys rest w1 hA hyl hc (by omega) hm)
  have HYN := Lib.hid hyn
  have HC2 := Lib.hid hc
  have HM := Lib.hid hm
  have HG := Lib.hid hg
  have HB := Lib.hid hb
  clear hyl hyn hA hc hm hg hb
  go_wp2_with (go_at_call 95; (refine HY.out.mono ?_); rintro e w2 ⟨k, rest', rfl, hk, hA2, hT2⟩; have HK := Lib.hid hk; have HA2 := Lib.hid hA2; have HT2 := Lib.hid hT2; clear hk hA2 hT2)
  go_ret
  have hk := HK.out
  have hA2 := HA2.out
  rw [HYN.out] at hk hA2
  refine ⟨some ⟨g, 0, none⟩, cap, by rw [<- hk]; rfl, ReadsL.of_at hA2 (by have := of_len xs; have := HC2.out; omega) HM.out, HB.out.trans (HT2.out.below (fun k hk => by unfold Just at hk; have := HG.out; omega) HB.out.size), fun _ _ h => by cases h; exact HG.out⟩
theorem newest_any (gf : Nat) (lb : Array Value) (xs : List PlM) (w0 w : World) (eg : ∀ args w, (callFunc gf args).run Tryz.prog w = .ok (.enter gf args) w) (hseq : SeqI Tryz.prog gf lb plE (KpL w0.heap.size) xs w) (hb0 : w0.heap.size <= w.heap.size) (hn : xs.length <= 100000) (ha : xs.Pairwise Ahead) :
  Calls Tryz.prog 70 #[.func (.func gf) #[] lb] w fun e w' => ∃ B cap, e = .returned (.slice B (lOf xs).length cap) /\ ReadsL w' B (lOf xs).length cap (lOf xs) /\ Below w.heap.size w w' :=
 (newest_own gf lb xs w0 w eg hseq hb0 hn ha).mono fun _ _ h => by
  obtain ⟨B, cap, h1, h2, h3, _⟩ := h
  exact ⟨B, cap, h1, h2, h3⟩
theorem lof_own (A : Option Addr) (n c : Nat) (bs : List BlkM) (w : World) (hA : ReadsB w A n c bs) (hn : n <= 100) : Calls Tryz.prog 54 #[.slice A n c] w fun e w' => ∃ B cap, e = .returned (.slice B (lOf (cnt bs)).length cap) /\ ReadsL w' B (lOf (cnt bs)).length cap (lOf (cnt bs)) /\ Below w.heap.size w w' /\ ∀ g off, B = some ⟨g, off, none⟩ -> w.heap.size <= g := by
 have hb1 : Below w.heap.size w (w.alloc (.cells #[.slice A n c] 80)) := (Below.refl _ w).alloc (Nat.le_refl _) _
 have hl : (cnt bs).length <= 8 * bs.length := cntU_len bs _
 have hbl := hA.len
 have HC := Lib.hid (newest_own 97 #[.pointer (some ⟨w.heap.size, 0, none⟩)] (cnt bs) w (w.alloc (.cells #[.slice A n c] 80)) (enters_of Tryz.func97 (by kernel_rfl) rfl) (cnt_seq w.heap.size A n c bs w _ hA hb1 (At.news w _ _)) hb1.size (by omega) (cnt_ahead bs))
 have HB1 := Lib.hid hb1
 clear hb1
 go_enter Tryz.func54, Tryz.ntmps54
 go_wp2_with (first
  | (go_at_call 71; (refine (cnt_of _ _ _ _).mono ?_); rintro e w1 ⟨rfl, rfl⟩)
  | (go_at_call 70; (refine HC.out.mono ?_); rintro e w2 ⟨B, cap, rfl, hr, hb, hf⟩; have HR := Lib.hid hr; have HB := Lib.hid hb; have HFR := Lib.hid hf; clear hr hb hf))
 go_ret
 exact ⟨B, cap, rfl, HR.out, HB1.out.trans (HB.out.mono HB1.out.size), fun g off h => Nat.le_trans HB1.out.size (HFR.out g off h)⟩
theorem lof_any (A : Option Addr) (n c : Nat) (bs : List BlkM) (w : World) (hA : ReadsB w A n c bs) (hn : n <= 100) : Calls Tryz.prog 54 #[.slice A n c] w fun e w' => ∃ B cap, e = .returned (.slice B (lOf (cnt bs)).length cap) /\ ReadsL w' B (lOf (cnt bs)).length cap (lOf (cnt bs)) /\ Below w.heap.size w w' :=
 (lof_own A n c bs w hA hn).mono fun _ _ h => by
  obtain ⟨B, cap, h1, h2, h3, _⟩ := h
  exact ⟨B, cap, h1, h2, h3⟩
end
section
open Go.RowKit Bm Go.Shelf
end
section
open Go.RowKit Bm
theorem run_eq_spl (d : Nat) (a b : PlM) (w : World) : (Op.equalIn (d + 4) 106 (.agg (plC a).toArray) (.agg (plC b).toArray)).run Tryz.prog w = .ok (decide (a = b)) w := by
 rw [run_equalIn_struct w _ _ _ _ (by kernel_rfl) (by kernel_rfl)]
 rw [<- pl_dec]
 have p : ∀ w, (Op.equalIn (d + 3) 98 (.agg (pgC a.p).toArray) (.agg (pgC b.p).toArray)).run Tryz.prog w = .ok (decide (a.p = b.p)) w := fun w => by
  rw [<- pg_dec]
  exact run_eq_page d _ _ _ _ _ _ _ _ _ _ _ _ _ _ w
 have i1 := fun w a b => run_equalIn_int (P := Tryz.prog) w (d + 2) 3 .i64 _ a b Tryz.underlying3
 have q0 := fun w => part_one Tryz.underlying3 w (plC a).toArray 0 (.int .i64 a.b) rfl
 have q0' := fun w => part_one Tryz.underlying3 w (plC b).toArray 0 (.int .i64 b.b) rfl
 have q1 := fun w => part_one Tryz.underlying3 w (plC a).toArray 1 (.int .i64 a.i) rfl
 have q1' := fun w => part_one Tryz.underlying3 w (plC b).toArray 1 (.int .i64 b.i) rfl
 have q3 := fun w => part_agg Tryz.underlying98 rfl (size_of (n := 7) (by kernel_rfl)) w (plC a).toArray 2
 have q3' := fun w => part_agg Tryz.underlying98 rfl (size_of (n := 7) (by kernel_rfl)) w (plC b).toArray 2
 rw [pl_page_cells] at q3 q3'
 unfold Program.fieldsOf
 rw [Tryz.underlying106]
 simp only [Op.eqFields, Sem.run_bind, Sem.run_ite, q0, q0', q1, q1', q3, q3', Result.andThen_ok, i1, p]
 have n0 : ("Block" : String) ≠ "_" := by decide
 have n1 : ("Page" : String) ≠ "_" := by decide
 have n2 : ("What" : String) ≠ "_" := by decide
 rw [if_pos n0, if_pos n1, if_pos n2]
 generalize (a.b == b.b) = b0
 generalize (a.i == b.i) = b1
 generalize decide (a.p = b.p) = b2
 cases b0 <;> cases b1 <;> cases b2 <;> rfl
def stands (b : Int) (x y : PlM) : Prop := y.b ≠ b /\ y.p.s = x.p.s /\ U x.p.q <= U y.p.q
theorem cntB_block {bs : List BlkM} {b k : Nat} {x : PlM} (h : x ∈ cntB bs b k) : x.b = (b : Int) := by
 obtain ⟨i, _, _, rfl⟩ := mem_cntB.1 h
 rfl
theorem cnt_block {bs : List BlkM} {b : Nat} {x : PlM} (h : x ∈ cnt bs) (hb : x.b = (b : Int)) : x ∈ cntB bs b 8 := by
 obtain ⟨b', i, h1, h2, h3, rfl⟩ := mem_cnt.1 h
 obtain rfl : b' = b := Int.ofNat.inj hb
 exact mem_cntB.2 ⟨i, h2, h3, rfl⟩
theorem cntB_in {bs : List BlkM} {b : Nat} {x : PlM} (hb : b < bs.length) (h : x ∈ cntB bs b 8) : x ∈ cnt bs := by
 obtain ⟨i, h2, h3, rfl⟩ := mem_cntB.1 h
 exact mem_cnt.2 ⟨b, i, hb, h2, h3, rfl⟩
theorem needs_when {bs : List BlkM} {b : Nat} (hb : b < bs.length) {x : PlM} (hx : x ∈ cntB bs b 8) : lNeeds (cnt bs) x = true ↔ (lFind (lOf (cntB bs b 8)) x.p.s).getD pl0 = x /\ ∀ y ∈ cnt bs, ¬ stands b x y := by
 have hxb := cntB_block hx
 rw [needs_iff, of_find]
 constructor
 ·intro h
  refine ⟨?_, fun y hy hs => h y hy (beats_iff.2 ⟨hs.2.1, fun e => hs.1 (e.1.trans hxb), ?_⟩)⟩
  ·cases hf : best (cntB bs b 8) x.p.s with
   | none => exact absurd rfl ((best_none _ _).1 hf x hx)
   | some z =>
     obtain ⟨h1, h2, h3⟩ := best_first _ (cntB_ahead bs b 8) hf
     show z = x
     rcases h3 x hx rfl with e | e
     ·exact e.symm
     ·exfalso
      have hzb := cntB_block h1
      refine h z (cntB_in hb h1) (beats_iff.2 ⟨h2, fun c => ?_, ?_⟩)
      ·unfold LtP Ahead at e
       rw [h2] at e
       rcases e with e | ⟨_, e | ⟨e, e' | e'⟩⟩
       ·omega
       ·have h4 := best_some _ _ _ hf
        obtain ⟨i, _, _, rfl⟩ := mem_cntB.1 hx
        obtain ⟨j, _, _, rfl⟩ := mem_cntB.1 h1
        have hij : (j : Int) = (i : Int) := c.2
        obtain rfl : j = i := Int.ofNat.inj hij
        omega
       ·omega
       ·omega
      ·unfold LtP Ahead at e
       rw [h2] at e
       rcases e with e | ⟨_, e | ⟨e, e' | e'⟩⟩
       ·omega
       ·exact .inl e
       ·omega
       ·exact .inr ⟨U_inj e, .inr e'.2⟩
  ·by_cases e : U x.p.q < U y.p.q
   ·exact .inl e
   ·exact .inr ⟨U_inj (by have := hs.2.2; omega), .inl fun c => hs.1 (c.trans hxb)⟩
 ·rintro ⟨h1, h2⟩ y hy hbt
  obtain ⟨k1, k2, k3⟩ := beats_iff.1 hbt
  by_cases e : y.b = (b : Int)
  ·have hyB := cnt_block hy e
   cases hf : best (cntB bs b 8) x.p.s with
   | none => exact absurd rfl ((best_none _ _).1 hf x hx)
   | some z =>
     rw [hf] at h1
     have h1' : z = x := h1
     subst h1'
     obtain ⟨_, _, g3⟩ := best_first _ (cntB_ahead bs b 8) hf
     rcases g3 y hyB k1 with c | c
     ·exact k2 ⟨by rw [c], by rw [c]⟩
     ·unfold LtP Ahead at c
      rw [k1] at c
      rcases c with c | ⟨_, c | ⟨c, c' | c'⟩⟩
      ·omega
      ·rcases k3 with k3 | ⟨k3, _⟩
       ·omega
       ·rw [k3] at c; omega
      ·omega
      ·rcases k3 with k3 | ⟨_, k3 | k3⟩
       ·omega
       ·exact k3 c'.1.symm
       ·omega
  ·refine h2 y hy ⟨e, k1, ?_⟩
   rcases k3 with k3 | ⟨k3, _⟩
   ·omega
   ·rw [k3]; exact Int.le_refl _
theorem needed_block {bs : List BlkM} {b : Nat} (hb : b < bs.length) : lNeeded (cnt bs) b = (cntB bs b 8).filter (lNeeds (cnt bs)) := by
 unfold lNeeded
 have e : ∀ j, j <= bs.length -> (cntU bs j).filter (fun x => decide (x.b = (b : Int)) && lNeeds (cnt bs) x) = if b < j then (cntB bs b 8).filter (lNeeds (cnt bs)) else [] := by
  intro j
  induction j with
  | zero => intro _; rfl
  | succ j ih =>
    intro hj
    rw [cntU_succ, List.filter_append, ih (by omega)]
    by_cases c : b < j
    ·rw [if_pos c, if_pos (by omega)]
     have : (cntB bs j 8).filter (fun x => decide (x.b = (b : Int)) && lNeeds (cnt bs) x) = [] := by
      rw [List.filter_eq_nil_iff]
      intro x hx
      have := cntB_block hx
      simp
      intro h
      omega
     rw [this, List.append_nil]
    ·rw [if_neg c, List.nil_append]
     by_cases c2 : b = j
     ·subst c2
      rw [if_pos (by omega)]
      apply List.filter_congr
      intro x hx
      rw [cntB_block hx]
      simp
     ·rw [if_neg (by omega), List.filter_eq_nil_iff]
      intro x hx
      have := cntB_block hx
      simp
      intro h
      omega
 have := e bs.length (Nat.le_refl _)
 rw [if_pos hb] at this
 exact this
end
section
open Go.RowKit Bm Go.Shelf
attribute [local go_sem] Oper.semAt_some
theorem readsL_ne {X : World} {g off n c k : Nat} {t : TypeId} {v : Value} {xs : List PlM} (h : ReadsL X (some ⟨g, off, none⟩) n c xs) (hn : 0 < n) (hA : At X k t [v]) : k ≠ g := by
 rintro rfl
 obtain ⟨g', off', e, _, hr⟩ := h.at_ hn
 cases e
 have h8 := hr 8 _ rfl
 rw [hA.cell] at h8
 simp at h8
theorem readsL_turned {S : Nat -> Prop} {W W' : World} {A : Option Addr} {n c : Nat} {xs : List PlM} (h : ReadsL W A n c xs) (hT : Turned S W W') (hS : ∀ g off, A = some ⟨g, off, none⟩ -> 0 < n -> ¬ S g) : ReadsL W' A n c xs :=
 ⟨h.len, h.le, h.max, fun hn => by
  obtain ⟨g, off, e, hlt, hc⟩ := h.cell hn
  exact ⟨g, off, e, Nat.lt_of_lt_of_le hlt hT.size, fun j b hb => range_kept (hc j b hb) (hT.block g hlt (hS g off e hn))⟩⟩
theorem below_keeps {W W' : World} (h : Below W.heap.size W W') (B : Nat) : KeepsFrom B W W' := ⟨h.size, fun k _ _ ho _ => (h.block k (Array.getElem?_eq_some_iff.1 ho).1).trans ho⟩
theorem below_kpl {W W' : World} (h : Below W.heap.size W W') {n0 : Nat} (hn : n0 <= W.heap.size) : KpL n0 W W' := ⟨h.mono hn, fun _ _ _ _ hA => hA.kept (Turned.of_below h (Nat.le_refl _) NoBlock) (fun h => h)⟩
theorem scope_in {P : Program} {n : Nat} {co : Code} {Q : Exit -> Go.Act -> World -> Prop} {a : Go.Act} {w : World} (h : co.wpIn Fence.wide n P (Exit.noGoto Q) a w) : (Code.scope co).wpIn Fence.wide n P Q a w := wpIn_wide.2 (wp_scope_straight ((wpIn_wide (n := n)).1 h))
set_option maxRecDepth 100000 in
set_option maxHeartbeats 4000000 in
theorem lneeded_in (A : Option Addr) (n c : Nat) (bs : List BlkM) (b : Nat) (w : World) (hA : ReadsB w A n c bs) (_hn : n <= 100) (hbn : b < n) : Calls Tryz.prog 64 #[.slice A n c, .int .i64 b] w fun e w' => ∃ B cap, e = .returned (.slice B (lNeeded (cnt bs) b).length cap) /\ ReadsL w' B (lNeeded (cnt bs) b).length cap (lNeeded (cnt bs) b) /\ Below w.heap.size w w' := by
 have hz := spl_zero
 have hlen := hA.len
 rw [needed_block (bs := bs) (b := b) (by omega)]
 have b0 : ¬ (b : Int) < 0 := by omega
 have b1 : ¬ (n : Int) <= (b : Int) := by omega
 obtain ⟨ps, hps⟩ : ∃ ps, ps = cntB bs b 8 := ⟨_, rfl⟩
 have hpl : ps.length <= 8 := by rw [hps]; exact cntB_len bs b 8
 have HPS := Lib.hid hps
 obtain ⟨own, hown⟩ : ∃ own, own = lOf ps := ⟨_, rfl⟩
 have HOWN := Lib.hid hown
 have hol : own.length <= 8 := by rw [hown]; have := of_len ps; omega
 obtain ⟨i0, hin, hz0, hz1, hz2⟩ := info_parts spl_infoA
 obtain ⟨w1, hw1⟩ : ∃ w1, w1 = (((w.alloc (.cells #[.slice A n c] 80)).alloc (.cells #[.int .i64 (b : Int)] 3)).alloc (.cells #[.slice none 0 0] 109)) := ⟨_, rfl⟩
 obtain ⟨w2, hw2⟩ : ∃ w2, w2 = ((w1.alloc (.cells #[.slice A n c] 80)).alloc (.cells #[.int .i64 (b : Int)] 3)) := ⟨_, rfl⟩
 have s1 : w1.heap.size = w.heap.size + 3 := by rw [hw1]; simp
 have s2 : w2.heap.size = w.heap.size + 5 := by rw [hw2]; simp; omega
 have l1 : At w1 w.heap.size 80 [.slice A n c] := by rw [hw1]; exact ((At.news w _ _).alloc _).alloc _
 have k1 : At w1 (w.heap.size + 1) 3 [.int .i64 (b : Int)] := by rw [hw1]; exact (At.alloc_new _ _ _ (by simp) rfl).alloc _
 have n1 : At w1 (w.heap.size + 2) 109 [.slice none 0 0] := by rw [hw1]; exact At.alloc_new _ _ _ (by simp) rfl
 have bl1 : Below w.heap.size w w1 := by rw [hw1]; exact (below_two w _ _).alloc (by simp; omega) _
 have bl2 : Below w1.heap.size w1 w2 := by rw [hw2]; exact below_two w1 _ _
 have q1 : At w2 w1.heap.size 80 [.slice A n c] := by rw [hw2]; exact (At.news w1 _ _).alloc _
 have q2 : At w2 (w1.heap.size + 1) 3 [.int .i64 (b : Int)] := by rw [hw2]; exact At.alloc_new _ _ _ (by simp) rfl
 have NW := newest_any 114 #[.pointer (some ⟨w1.heap.size, 0, none⟩), .pointer (some ⟨w1.heap.size + 1, 0, none⟩)] (cntB bs b 8) w w2 (enters_of Tryz.func114 (by kernel_rfl) rfl) (cin_seq w1.heap.size (w1.heap.size + 1) A n c bs b w w2 hA hbn (bl1.trans (bl2.mono bl1.size)) q1 q2) (by omega) (by have := cntB_len bs b 8; omega) (cntB_ahead bs b 8)
 rw [<- hps, <- hown] at NW
 rw [hw2, hw1] at NW
 simp only [World.size_alloc] at NW
 have HNW := Lib.hid NW
 clear NW
 refine (callsIn_wide (n := 10)).1 ?_
 refine callsIn_of_wp_marks Tryz.func64 rfl trivial ?_
 simp only [Tryz.ntmps64, List.size_toArray, List.length_cons, List.length_nil, Nat.reduceAdd, Nat.reduceSub, Array.replicate_succ, Array.replicate_zero, List.push_toArray, List.append_toArray, List.nil_append, List.cons_append]
 have HW1 := Lib.hid hw1
 have HW2 := Lib.hid hw2
 have HS1 := Lib.hid s1
 have HS2 := Lib.hid s2
 clear hw1 hw2 s1 s2 hps hown
 gi_wp2
 refine scope_in ?_
 gi_wp2_with (first
  | (refine ⟨trivial, ?_⟩; gi_at_call 82; refine (callsIn_wide.2 (cin_of _ _ _ _ _)).mono ?_; rintro e w' ⟨rfl, rfl⟩)
  | (refine ⟨trivial, ?_⟩; gi_at_call 70; refine (callsIn_wide.2 HNW.out).mono ?_; rintro e w3 ⟨Bo, co, rfl, hro, hbo⟩; have HRO := Lib.hid hro; have HBO := Lib.hid hbo; clear hro hbo))
 refine wpIn_label ?_
 have hbo : Below w2.heap.size w2 w3 := by
  have := HBO.out
  rw [HW2.out, HW1.out]
  simp only [World.size_alloc]
  exact this
 have bw3 : Below w.heap.size w w3 := (bl1.trans (bl2.mono bl1.size)).trans (hbo.mono (by have := bl1.size; have := bl2.size; omega))
 have N12 := Turned.of_below bl2 (Nat.le_refl _) NoBlock
 have N23 := Turned.of_below hbo (Nat.le_refl _) NoBlock
 have l3 := (l1.kept N12 (fun h => h)).kept N23 (fun h => h)
 have k3 := (k1.kept N12 (fun h => h)).kept N23 (fun h => h)
 have n3 := (n1.kept N12 (fun h => h)).kept N23 (fun h => h)
 have s3 : w.heap.size + 5 <= w3.heap.size := by have := hbo.size; have := HS2.out; omega
 obtain ⟨V0, hV0⟩ : ∃ V0, V0 = w3.alloc (Obj.cells #[Value.slice Bo own.length co] 109) := ⟨_, rfl⟩
 have t0 : V0.heap.size = w3.heap.size + 1 := by rw [hV0]; simp
 have l0 : At V0 w.heap.size 80 [.slice A n c] := by rw [hV0]; exact l3.alloc _
 have k0 : At V0 (w.heap.size + 1) 3 [.int .i64 (b : Int)] := by rw [hV0]; exact k3.alloc _
 have n0 : At V0 (w.heap.size + 1 + 1) 109 [.slice none 0 0] := by rw [hV0]; exact n3.alloc _
 have o0 : At V0 w3.heap.size 109 [.slice Bo own.length co] := by rw [hV0]; exact At.news w3 _ _
 have r0 : ReadsL V0 Bo own.length co own := by rw [hV0]; exact HRO.out.kept ((Below.refl _ w3).alloc (Nat.le_refl _) _)
 have b0' : Below w.heap.size w V0 := by rw [hV0]; exact bw3.alloc bw3.size _
 have cl := l0.cell 0
 have ck := k0.cell 0
 simp only [List.getElem?_cons_zero] at cl ck
 rw [<- hV0]
 have HV0 := Lib.hid hV0
 have HT0 := Lib.hid t0
 have HL0 := Lib.hid l0
 have HK0 := Lib.hid k0
 have HN0 := Lib.hid n0
 have HO0 := Lib.hid o0
 have HR0 := Lib.hid r0
 have HB0 := Lib.hid b0'
 have HS3 := Lib.hid s3
 clear hV0 t0 l0 k0 n0 o0 r0 b0' l3 k3 n3 bw3 hbo N12 N23 q1 q2 bl2 bl1 l1 k1 n1 s3
 gi_wp2_with (refine ⟨trivial, ?_⟩; gi_at_call 82; refine (callsIn_wide.2 (cin_of _ _ _ _ _)).mono ?_; rintro e w' ⟨rfl, rfl⟩)
 obtain ⟨V, hV⟩ : ∃ V, (V0.alloc (Obj.cells #[Value.slice A n c] 80)).alloc (Obj.cells #[Value.int IntKind.i64 (b : Int)] 3) = V := ⟨_, rfl⟩
 have vs : V.heap.size = V0.heap.size + 2 := by rw [<- hV]; simp
 have vb0 : Below V0.heap.size V0 V := by rw [<- hV]; exact below_two V0 _ _
 have v1 : At V V0.heap.size 80 [.slice A n c] := by rw [<- hV]; exact (At.news V0 _ _).alloc _
 have v2 : At V (V0.heap.size + 1) 3 [.int .i64 (b : Int)] := by rw [<- hV]; exact At.alloc_new _ _ _ (by simp) rfl
 have NV := Turned.of_below vb0 (Nat.le_refl _) NoBlock
 have vl := HL0.out.kept NV (fun h => h)
 have vk := HK0.out.kept NV (fun h => h)
 have vn := HN0.out.kept NV (fun h => h)
 have vo := HO0.out.kept NV (fun h => h)
 have vr := HR0.out.kept vb0
 have vb : Below w.heap.size w V := HB0.out.trans (vb0.mono HB0.out.size)
 have HVS : Hid (w.heap.size + 8 <= V.heap.size) := Lib.hid (by have := HS3.out; have := HT0.out; omega)
 have hne : ∀ g off, Bo = some ⟨g, off, none⟩ -> 0 < own.length -> w.heap.size + 1 + 1 ≠ g := fun g off e h => by
  subst e
  exact readsL_ne vr h vn
 have HVL := Lib.hid vl
 have HVK := Lib.hid vk
 have HVN := Lib.hid vn
 have HVO := Lib.hid vo
 have HVR := Lib.hid vr
 have HVB := Lib.hid vb
 have HNE := Lib.hid hne
 rw [hV]
 clear hV vl vk vn vo vr hne NV vb0 vs
 refine range_outer (gf := 114) (lb := #[.pointer (some ⟨V0.heap.size, 0, none⟩), .pointer (some ⟨V0.heap.size + 1, 0, none⟩)]) (encs := plE) (Kp := KpL w.heap.size) (xs := ps) (w0 := V) (m := 8)
  (I := fun i X => (∃ v, At X (w.heap.size + 1 + 1) 109 [v] /\ X.ownsRow V.heap.size 106 9 v ((ps.take i).filter (lNeeds (cnt bs))).length (pls ((ps.take i).filter (lNeeds (cnt bs))))) /\ Turned (Just (w.heap.size + 1 + 1)) V X)
  (Ix := fun _ _ _ => False)
  rfl (enters_of Tryz.func114 (by kernel_rfl) rfl) (by rw [HPS.out]; exact cin_seq _ _ A n c bs b w V hA hbn vb v1 v2) (Below.refl _ _) KpL.trans (KpL.put vb.size) (fun _ => rfl)
  (OwnFrom.and (own_exists fun v => OwnFrom.and (At.own_from (f := fun _ => [v])) (fun i => row_own (β := Unit) (f := fun _ => pls ((ps.take i).filter (lNeeds (cnt bs)))) ())) (Turned.own (Nat.le_refl _)))
  (fun _ _ _ _ _ hs _ _ => hs)
  ⟨⟨_, HVN.out, World.ownsRow_nil _ _ _ _⟩, Turned.refl _ _⟩ ?rnd ?dn ?st
 case rnd =>
  rintro l2 i x X hl2 ⟨rr, hrr⟩ ⟨⟨v, xA, xo⟩, xT⟩ hx
  have HXI : Hid (x ∈ cntB bs b 8) := Lib.hid (by rw [<- HPS.out]; exact List.mem_of_getElem? hx)
  have HTK : Hid (ps.take (i + 1) = ps.take i ++ [x]) := Lib.hid (by rw [List.take_add_one, hx]; rfl)
  obtain ⟨L, hL⟩ : ∃ L, L = (ps.take i).filter (lNeeds (cnt bs)) := ⟨_, rfl⟩
  have HL := Lib.hid hL
  have HLL : Hid (L.length <= 100000) := Lib.hid (by rw [hL]; have := List.length_filter_le (lNeeds (cnt bs)) (ps.take i); rw [List.length_take] at this; omega)
  rw [<- hL] at xo
  have HXA := Lib.hid xA
  have HXO := Lib.hid xo
  have HXT := Lib.hid xT
  have HXS : Hid (V.heap.size <= X.heap.size) := Lib.hid xT.size
  clear hx xA xo xT hL
  unfold plE
  gi_wp2_with (refine wpListIn_stm (pre := []) (post := []) (xs := plC pl0) (ys := plC x) _ _ rfl rfl rfl rfl spl_size (plC_len _) (plC_len _) (plC_one _) rfl (by simp) (At.news X _ (plC pl0)) ?_; intro X1 A1 T1; rw [List.nil_append, List.append_nil] at A1; have HA1 := Lib.hid A1; have HT1 := Lib.hid T1; clear A1 T1)
  have TX : Turned NoBlock X X1 := ((Turned.refl NoBlock X).alloc _).after HT1.out (fun k hk he => by unfold Just at he; omega)
  have xo1 : X1.ownsRow V.heap.size 106 9 v L.length (pls L) := own_new (row_own (β := Unit) (B := 0) (f := fun _ => pls L)) (s := ()) HXO.out TX
  have xT1 : Turned (Just (w.heap.size + 1 + 1)) V X1 := HXT.out.after TX (fun k _ hk => hk.elim)
  refine ⟨TX.from _ (fun k hk => hk.elim), KpL.of_turned TX (fun k hk => hk.elim) (by have := HXS.out; have := HVS.out; omega) (fun k t cs hk => hk.elim), ⟨⟨v, HXA.out.kept TX (fun h => h), by rw [<- HL.out]; exact xo1⟩, xT1⟩, ?_⟩
  intro X2 hmk
  have HR2 := Lib.hid hmk.there
  have n2 := hmk.at_ (HXA.out.kept TX (fun h => h))
  have x2 := hmk.at_ HA1.out
  have o2 : X2.ownsRow V.heap.size 106 9 v L.length (pls L) := hmk.own (row_own (β := Unit) (B := 0) (f := fun _ => pls L)) (Nat.zero_le _) (s := ()) xo1
  have T2 : Turned (Just (w.heap.size + 1 + 1)) V X2 := xT1.after hmk.turned (fun k hk he => by unfold Just at he; omega)
  have l2' := HVL.out.kept T2 (by unfold Just; omega)
  have k2 := HVK.out.kept T2 (by unfold Just; omega)
  have b2 := HVO.out.kept T2 (by unfold Just; have := HS3.out; omega)
  have r2 := readsL_turned HVR.out T2 (fun g off e h hj => HNE.out g off e h (by unfold Just at hj; omega))
  have HXZ : Hid (X.heap.size < X2.heap.size) := Lib.hid x2.lt
  have co2 := b2.cell 0
  have sx2 : X2.cell? ⟨X.heap.size, 2, none⟩ = some (.int .u32 (U x.p.s)) := x2.cell 2
  simp only [List.getElem?_cons_zero] at co2
  obtain ⟨f, hf⟩ : ∃ f, f = (lFind own x.p.s).getD pl0 := ⟨_, rfl⟩
  have FD := fun W (h : ReadsL W Bo own.length co own) => lfind_any Bo own.length co own x.p.s W h (by omega)
  rw [<- hf] at FD
  unfold plV at FD
  have HFD := Lib.hid FD
  have HF := Lib.hid hf
  have HN2 := Lib.hid n2
  have HX2 := Lib.hid x2
  have HO2 := Lib.hid o2
  have HT2 := Lib.hid T2
  have HL2 := Lib.hid l2'
  have HK2 := Lib.hid k2
  have HRD2 := Lib.hid r2
  have NOT : Hid (∀ Y, Below X2.heap.size X2 Y -> lNeeds (cnt bs) x = false -> postI V.heap.size (KpL w.heap.size) (fun i X => (∃ v, At X (w.heap.size + 1 + 1) 109 [v] /\ X.ownsRow V.heap.size 106 9 v ((ps.take i).filter (lNeeds (cnt bs))).length (pls ((ps.take i).filter (lNeeds (cnt bs))))) /\ Turned (Just (w.heap.size + 1 + 1)) V X) (fun _ _ _ => False) i X2 .normal { tmps := #[], defers := [] } Y) := Lib.hid fun Y hY hno => by
   have NY := Turned.of_below hY (Nat.le_refl _) NoBlock
   have eL : (ps.take (i + 1)).filter (lNeeds (cnt bs)) = L := by
    rw [HTK.out, List.filter_append, HL.out, List.filter_cons_of_neg (by rw [hno]; simp)]
    simp
   refine ⟨below_keeps hY _, below_kpl hY (by have := HXS.out; have := HXZ.out; have := HVS.out; omega), ⟨v, HN2.out.kept NY (fun h => h), ?_⟩, HT2.out.after NY (fun k _ hk => hk.elim)⟩
   rw [eL]
   exact own_new (row_own (β := Unit) (B := 0) (f := fun _ => pls L)) (s := ()) HO2.out NY
  clear n2 x2 o2 T2 l2' k2 b2 r2 FD hf xo1 xT1
  by_cases hfx : f = x
  ·have eq : ∀ W : World, (Op.equalIn 10000 106 (.agg (plC f).toArray) (.agg (plC x).toArray)).run Tryz.prog W = .ok true W := fun W => by rw [run_eq_spl 9996 f x W, decide_eq_true hfx]
   have HFX := Lib.hid hfx
   clear hfx
   obtain ⟨r2, hr2⟩ := HR2.out
   have hl2s : l2 < X2.heap.size := (Array.getElem?_eq_some_iff.1 hr2).1
   have HRR2 := Lib.hid hr2
   clear hr2
   gi_wp2_with (first
    | (refine ⟨trivial, ?_⟩; gi_at_call 53; refine (CallsIn.inRound l2 (callsIn_wide.2 (HFD.out _ HRD2.out))).mono ?_; rintro e X3 ⟨rfl, hb3⟩; have HB3 := Lib.hid hb3; clear hb3)
    | (refine wpListIn_stm (pre := []) (post := []) (xs := plC pl0) (ys := plC f) _ _ rfl rfl rfl rfl spl_size (plC_len _) (plC_len _) (plC_one _) rfl (by simp) (At.news X3 _ (plC pl0)) ?_; intro X4 A4 T4; rw [List.nil_append, List.append_nil] at A4; have HA4 := Lib.hid A4; have HT4 := Lib.hid (((Turned.refl NoBlock X3).alloc _).after T4 (fun k hk he => by unfold Just at he; omega)); have HB4 := Lib.hid (HB3.out.trans (HT4.out.below (fun k hk => hk.elim) HB3.out.size)); have cl4 := (HL2.out.kept (Turned.of_below HB4.out (Nat.le_refl _) NoBlock) (fun h => h)).cell 0; simp only [List.getElem?_cons_zero] at cl4; clear A4 T4)
    | (refine wpListIn_ldr _ rfl rfl rfl Tryz.underlying106 rfl spl_size (plC_len _) HA4.out.rng ?_)
    | (refine wpListIn_ldr _ rfl rfl rfl Tryz.underlying106 rfl spl_size (plC_len _) (HX2.out.kept (Turned.of_below HB4.out (Nat.le_refl _) NoBlock) (fun h => h)).rng ?_)
    | (refine ⟨trivial, ?_⟩; gi_at_call 71; refine (CallsIn.inRound l2 (callsIn_wide.2 (cnt_of _ _ _ _))).mono ?_; rintro e w' ⟨rfl, rfl⟩))
   obtain ⟨X5, hX5⟩ : ∃ X5, X4.alloc (Obj.cells #[Value.slice A n c] 80) = X5 := ⟨_, rfl⟩
   have b5 : Below X2.heap.size X2 X5 := by rw [<- hX5]; exact HB4.out.alloc HB4.out.size _
   have m5 : At X5 X4.heap.size 80 [.slice A n c] := by rw [<- hX5]; exact At.news X4 _ _
   rw [hX5]
   clear hX5 cl4
   have bw5 : Below w.heap.size w X5 := HVB.out.trans ((HT2.out.below (fun k hk => by unfold Just at hk; omega) (by have := HVS.out; omega)).trans (b5.mono (by have := HXS.out; have := HXZ.out; have := HVS.out; omega)))
   have N5 := Turned.of_below b5 (Nat.le_refl _) NoBlock
   have HXX5 := Lib.hid (HX2.out.kept N5 (fun h => h))
   have HKK5 := Lib.hid (HK2.out.kept N5 (fun h => h))
   have HB5 := Lib.hid b5
   have hl5 : X5.heap[l2]? = some (.loop r2) := (b5.block l2 hl2s).trans HRR2.out
   have ws5 : w.heap.size <= X5.heap.size := bw5.size
   refine range_inner (l₀ := l2) (r₀ := r2) hl5 (gf := 97) (lb := #[.pointer (some ⟨X4.heap.size, 0, none⟩)]) (encs := plE) (Kp := KpL w.heap.size) (xs := cnt bs) (w0 := X5) (m := 8)
    (I := fun i' Y => Below X5.heap.size X5 Y /\ ∀ k y, k < i' -> (cnt bs)[k]? = some y -> ¬ stands b x y)
    (Ix := fun co i' Y => Below X5.heap.size X5 Y /\ co = .exit 1 /\ ∃ y, (cnt bs)[i']? = some y /\ stands b x y)
    rfl (enters_of Tryz.func97 (by kernel_rfl) rfl) (cnt_seq _ A n c bs w X5 hA bw5 m5) (Below.refl _ _) KpL.trans (KpL.put ws5) (fun _ => rfl)
    (OwnFrom.and (ownFrom_below (Nat.le_refl _) (Nat.le_refl _)) (ownFrom_pure _ _))
    (fun co => OwnFrom.and (ownFrom_below (Nat.le_refl _) (Nat.le_refl _)) (ownFrom_pure _ _))
    ⟨Below.refl _ _, fun k y h => absurd h (by omega)⟩ ?rnd2 ?dn2 ?st2
   case rnd2 =>
    rintro l3 i' y Y hl3 _ ⟨yB, yN⟩ hy
    have HYB := Lib.hid yB
    have HYN := Lib.hid yN
    have HYI := Lib.hid hy
    clear yB yN hy
    unfold plE
    gi_wp2_with (refine wpListIn_stm (pre := []) (post := []) (xs := plC pl0) (ys := plC y) _ _ rfl rfl rfl rfl spl_size (plC_len _) (plC_len _) (plC_one _) rfl (by simp) (At.news Y _ (plC pl0)) ?_; intro Y1 A1 T1; rw [List.nil_append, List.append_nil] at A1; have HAY := Lib.hid A1; have HTY := Lib.hid T1; clear A1 T1)
    have TY : Turned NoBlock Y Y1 := ((Turned.refl NoBlock Y).alloc _).after HTY.out (fun k hk he => by unfold Just at he; omega)
    have yb1 : Below X5.heap.size X5 Y1 := HYB.out.trans (TY.below (fun k hk => hk.elim) HYB.out.size)
    refine ⟨TY.from _ (fun k hk => hk.elim), KpL.of_turned TY (fun k hk => hk.elim) (by have := HYB.out.size; omega) (fun k t cs hk => hk.elim), ⟨yb1, HYN.out⟩, ?_⟩
    intro Y2 hmk2
    have b7 : Below X5.heap.size X5 Y2 := yb1.trans (hmk2.turned.below (fun k hk => by unfold Just at hk; omega) yb1.size)
    have N7 := Turned.of_below b7 (Nat.le_refl _) NoBlock
    have ay := hmk2.at_ HAY.out
    have ax := HXX5.out.kept N7 (fun h => h)
    have ak := HKK5.out.kept N7 (fun h => h)
    have y0 : Y2.cell? ⟨Y.heap.size, 0, none⟩ = some (.int .i64 y.b) := ay.cell 0
    have y2 : Y2.cell? ⟨Y.heap.size, 2, none⟩ = some (.int .u32 (U y.p.s)) := ay.cell 2
    have y3 : Y2.cell? ⟨Y.heap.size, 3, none⟩ = some (.int .u32 (U y.p.q)) := ay.cell 3
    have x2 : Y2.cell? ⟨X.heap.size, 2, none⟩ = some (.int .u32 (U x.p.s)) := ax.cell 2
    have x3 : Y2.cell? ⟨X.heap.size, 3, none⟩ = some (.int .u32 (U x.p.q)) := ax.cell 3
    have k0 : Y2.cell? ⟨w.heap.size + 1, 0, none⟩ = some (.int .i64 (b : Int)) := ak.cell 0
    have HB7 := Lib.hid b7
    have GO : Hid (¬ stands b x y -> postI X5.heap.size (KpL w.heap.size) (fun i' Y => Below X5.heap.size X5 Y /\ ∀ k y, k < i' -> (cnt bs)[k]? = some y -> ¬ stands b x y) (fun co i' Y => Below X5.heap.size X5 Y /\ co = .exit 1 /\ ∃ y, (cnt bs)[i']? = some y /\ stands b x y) i' Y2 .normal { tmps := #[], defers := [] } Y2) := Lib.hid fun hno =>
     ⟨KeepsFrom.refl _ _, KpL.refl _ _, HB7.out, fun k z hk hz => by
      by_cases e : k = i'
      ·subst e
       rw [HYI.out] at hz
       injection hz with hz
       subst hz
       exact hno
      ·exact HYN.out k z (by omega) hz⟩
    clear ay ax ak b7 N7 yb1
    by_cases h1 : y.b = (b : Int)
    ·have e1 : (y.b != (b : Int)) = false := by rw [bne_eq_false_iff_eq]; exact h1
     have HN1 : Hid (¬ stands b x y) := Lib.hid fun h => h.1 h1
     clear h1
     gi_wp2
     exact GO.out HN1.out
    ·have e1 : (y.b != (b : Int)) = true := by rw [bne_iff_ne]; exact h1
     have HH1 := Lib.hid h1
     clear h1
     by_cases h2 : y.p.s = x.p.s
     ·have e2 : (U y.p.s == U x.p.s) = true := by rw [h2]; simp
      have HH2 := Lib.hid h2
      clear h2
      by_cases h3 : U x.p.q <= U y.p.q
      ·have HST : Hid (stands b x y) := Lib.hid ⟨HH1.out, HH2.out, h3⟩
       gi_wp2
       exact ⟨KeepsFrom.refl _ _, HB7.out, rfl, y, HYI.out, HST.out⟩
      ·have HN1 : Hid (¬ stands b x y) := Lib.hid fun h => h3 h.2.2
       gi_wp2
       exact GO.out HN1.out
     ·have e2 : (U y.p.s == U x.p.s) = false := by rw [beq_eq_false_iff_ne]; exact fun h => h2 (U_inj h)
      have HN1 : Hid (¬ stands b x y) := Lib.hid fun h => h2 h.2.1
      clear h2
      gi_wp2
      exact GO.out HN1.out
   case st2 =>
    rintro co i' Y hi ⟨yB, rfl, y, hy, hst⟩
    have HNO : Hid (lNeeds (cnt bs) x = false) := Lib.hid (by
     rw [Bool.eq_false_iff]
     intro h
     exact ((needs_when (by omega) HXI.out).1 h).2 y (List.mem_of_getElem? hy) hst)
    have HBY := Lib.hid (HB5.out.trans (yB.mono HB5.out.size))
    clear yB hy hst
    gi_wp2
    exact NOT.out _ HBY.out HNO.out
   case dn2 =>
    rintro Y ⟨yB, yN⟩
    have HYS : Hid (lNeeds (cnt bs) x = true) := Lib.hid ((needs_when (by omega) HXI.out).2 ⟨by rw [<- HPS.out, <- HOWN.out, <- HF.out]; exact HFX.out, fun y hy => by
     obtain ⟨k, hk, e⟩ := List.getElem_of_mem hy
     exact yN k y hk (by rw [List.getElem?_eq_getElem hk, e])⟩)
    have bY : Below X2.heap.size X2 Y := HB5.out.trans (yB.mono HB5.out.size)
    have NY := Turned.of_below bY (Nat.le_refl _) NoBlock
    have n9 := HN2.out.kept NY (fun h => h)
    have x9 := HX2.out.kept NY (fun h => h)
    have o9 : Y.ownsRow V.heap.size 106 9 v L.length (pls L) := own_new (row_own (β := Unit) (B := 0) (f := fun _ => pls L)) (s := ()) HO2.out NY
    have T9 : Turned (Just (w.heap.size + 1 + 1)) V Y := HT2.out.after NY (fun k _ hk => hk.elim)
    have c9 := n9.cell 0
    simp only [List.getElem?_cons_zero] at c9
    have HN9 := Lib.hid n9
    have HX9 := Lib.hid x9
    have HO9 := Lib.hid o9
    have HT9 := Lib.hid T9
    have HBY := Lib.hid bY
    clear yB yN bY NY n9 x9 o9 T9 co2 sx2
    gi_wp2_with (first
     | (refine wpListIn_ldr _ rfl rfl rfl Tryz.underlying106 rfl spl_size (plC_len _) HX9.out.rng ?_)
     | (refine wpListIn_build_one _ rfl rfl rfl Tryz.underlying109 hin hz0 hz1 (cs := (plC x).toArray) (by rfl) (by omega) (by omega) ?_)
     | (gi_at_builtin; refine halt_in ?_))
    refine Lib.hid ?_
    have hv9 : w.heap.size <= V.heap.size := by have := HVS.out; omega
    have hyv : V.heap.size <= Y.heap.size := by have := HT9.out.size; omega
    have h9 : V.heap.size <= (Y.alloc (Obj.cells (plC x).toArray 106)).heap.size := by simp; omega
    have o10 : (Y.alloc (Obj.cells (plC x).toArray 106)).ownsRow V.heap.size 106 9 v L.length (pls L) := HO9.out.alloc _
    refine wpListIn_appL (base := V.heap.size) (xs := L) (y := x) Tryz.underlying109 hin hz0 hz1 hz2 (by rfl) _ _ (by rfl) (by rfl) (by rfl) o10 (by rfl) (At.news Y _ _) HLL.out h9 ?_
    intro g3 cap3 w4 ho3 hg3 hbb3
    simp only [Act.put, List.setIfInBounds_toArray, List.set_cons_zero, List.set_cons_succ]
    obtain ⟨L2, hL2⟩ : ∃ L2, L2 = L ++ [x] := ⟨_, rfl⟩
    rw [<- hL2] at ho3 ⊢
    have eL : (ps.take (i + 1)).filter (lNeeds (cnt bs)) = L2 := by
     rw [HTK.out, List.filter_append, <- HL.out, List.filter_cons_of_pos HYS.out, hL2]
     rfl
    have a3 : At w4 (w.heap.size + 1 + 1) 109 [v] := (hg3.block _ (by have := HN9.out.lt; simp; omega) (fun e => by
     obtain ⟨_, cs, hc⟩ := own_at_row o10 e.symm
     have := (HN9.out.alloc (Obj.cells (plC x).toArray 106)).type_eq hc
     revert this
     decide)).trans (HN9.out.alloc (Obj.cells (plC x).toArray 106))
    have c3 := a3.cell 0
    have f3 := a3.frozen 0
    simp only [List.getElem?_cons_zero] at c3
    have TT : Turned (fun k => k = w.heap.size + 1 + 1 \/ v.ownBlock = some k) Y (w4.setCell ⟨w.heap.size + 1 + 1, 0, none⟩ (.slice (some ⟨g3, 0, none⟩) L2.length cap3)) :=
     ((((Turned.refl (fun k => k = w.heap.size + 1 + 1 \/ v.ownBlock = some k) Y).alloc _).grown hg3 (fun k e _ => .inr e)).setCell (p := ⟨w.heap.size + 1 + 1, 0, none⟩) (fun _ => .inl rfl) _)
    have HTT := Lib.hid TT
    have HA3 := Lib.hid a3
    have HO3 := Lib.hid ho3
    have HEL := Lib.hid eL
    have HYV := Lib.hid hyv
    clear a3 ho3 TT h9 hL2 eL hv9 hyv hbb3
    gi_wp2
    have cellS : ∀ k, (k = w.heap.size + 1 + 1 \/ v.ownBlock = some k) -> w.heap.size <= k /\ ((k = w.heap.size + 1 + 1 /\ ∃ cs, At Y k 109 cs) \/ (V.heap.size <= k /\ ∃ cs, At Y k 106 cs)) := fun k hk => by
     rcases hk with rfl | hk
     ·exact ⟨by omega, .inl ⟨rfl, _, HN9.out⟩⟩
     ·obtain ⟨h1, cs, h2⟩ := own_at_row HO9.out hk
      exact ⟨by have := HVS.out; omega, .inr ⟨h1, cs, h2⟩⟩
    refine ⟨(below_keeps HBY.out _).trans (keeps_cells HTT.out (fun k hk => by
      obtain ⟨_, ⟨_, cs, h⟩ | ⟨_, cs, h⟩⟩ := cellS k hk
      ·exact ⟨_, cs, h⟩
      ·exact ⟨_, cs, h⟩) _),
     (below_kpl HBY.out (by have := HXS.out; have := HXZ.out; have := HVS.out; omega)).trans (KpL.of_turned HTT.out (fun k hk => (cellS k hk).1) (by have := HYV.out; have := HVS.out; omega) (fun k t cs hk hA ht => by
      obtain ⟨_, ⟨_, cs', h⟩ | ⟨_, cs', h⟩⟩ := cellS k hk
      ·have := hA.type_eq h
       subst this
       revert ht
       unfold Kt
       decide
      ·have := hA.type_eq h
       subst this
       revert ht
       unfold Kt
       decide)),
     ⟨⟨_, HA3.out.put 0 _, ?_⟩, HT9.out.after HTT.out (fun k hk he => by
       obtain ⟨_, ⟨h, _⟩ | ⟨h, _⟩⟩ := cellS k he
       ·exact h
       ·omega)⟩⟩
    rw [HEL.out]
    have := HO3.out
    exact Theirs.own_turned this ((Turned.refl (Just (w.heap.size + 1 + 1)) w4).setCell (p := ⟨w.heap.size + 1 + 1, 0, none⟩) (fun _ => rfl) _) (fun g hg e => by
     obtain ⟨_, cs, hc⟩ := own_at_row this hg
     unfold Just at e
     subst e
     have := HA3.out.type_eq hc
     revert this
     decide)
  ·have eq : ∀ W : World, (Op.equalIn 10000 106 (.agg (plC f).toArray) (.agg (plC x).toArray)).run Tryz.prog W = .ok false W := fun W => by rw [run_eq_spl 9996 f x W, decide_eq_false hfx]
   have HNO : Hid (lNeeds (cnt bs) x = false) := Lib.hid (by
    rw [Bool.eq_false_iff]
    intro h
    have := ((needs_when (by omega) HXI.out).1 h).1
    rw [<- HPS.out, <- HOWN.out, <- HF.out] at this
    exact hfx this)
   clear hfx
   gi_wp2_with (first
    | (refine ⟨trivial, ?_⟩; gi_at_call 53; refine (CallsIn.inRound l2 (callsIn_wide.2 (HFD.out _ HRD2.out))).mono ?_; rintro e X3 ⟨rfl, hb3⟩; have HB3 := Lib.hid hb3; clear hb3)
    | (refine wpListIn_stm (pre := []) (post := []) (xs := plC pl0) (ys := plC f) _ _ rfl rfl rfl rfl spl_size (plC_len _) (plC_len _) (plC_one _) rfl (by simp) (At.news X3 _ (plC pl0)) ?_; intro X4 A4 T4; rw [List.nil_append, List.append_nil] at A4; have HA4 := Lib.hid A4; have HT4 := Lib.hid (((Turned.refl NoBlock X3).alloc _).after T4 (fun k hk he => by unfold Just at he; omega)); have HX4 := Lib.hid ((HX2.out.kept (Turned.of_below HB3.out (Nat.le_refl _) NoBlock) (fun h => h)).kept HT4.out (fun h => h)); clear A4 T4)
    | (refine wpListIn_ldr _ rfl rfl rfl Tryz.underlying106 rfl spl_size (plC_len _) HA4.out.rng ?_)
    | (refine wpListIn_ldr _ rfl rfl rfl Tryz.underlying106 rfl spl_size (plC_len _) HX4.out.rng ?_))
   exact NOT.out _ (HB3.out.trans (HT4.out.below (fun k hk => hk.elim) HB3.out.size)) HNO.out
 case dn =>
  rintro X ⟨⟨v, xA, xo⟩, xT⟩ hK
  have cs := xA.cell 0
  simp only [List.getElem?_cons_zero] at cs
  rw [List.take_length] at xo
  have HXO := Lib.hid xo
  have HXT := Lib.hid xT
  have HKD := Lib.hid hK
  clear xA xo xT hK
  gi_wp2
  obtain ⟨B, cap, e, hR⟩ := ReadsL.of_own ((row_own (β := Unit) (B := 0) (f := fun _ => pls (ps.filter (lNeeds (cnt bs))))).putObj (.deferred none) (s := ()) HXO.out (Nat.zero_le _) HKD.out rfl) rfl
  have bX : Below w.heap.size w X := HVB.out.trans (HXT.out.below (fun k hk => by unfold Just at hk; omega) HVB.out.size)
  subst e
  exact post_mark HKD.out (results_tmp rfl _ _ _) ⟨B, cap, by rw [<- HPS.out]; rfl, by rw [<- HPS.out]; exact hR, below_mark bX HVB.out.size HKD.out⟩
 case st =>
  rintro co i X hi h hK
  exact h.elim
set_option maxRecDepth 100000 in
set_option maxHeartbeats 2000000 in
theorem lneeded_out (A : Option Addr) (n c : Nat) (k : Int) (w : World) (_hnm : (n : Int) <= 9223372036854775807) (hk : k < 0 \/ (n : Int) <= k) : Calls Tryz.prog 64 #[.slice A n c, .int .i64 k] w fun e w' => e = .returned (.slice none 0 0) /\ Below w.heap.size w w' := by
 by_cases h1 : k < 0
 ·go_enter Tryz.func64, Tryz.ntmps64
  go_wp2
  go_step3
  go_wp2
  rw [Exit.noGoto_ret]
  go_ret
  exact ⟨rfl, below_two w _ _⟩
 ·have h2 : (n : Int) <= k := by omega
  go_enter Tryz.func64, Tryz.ntmps64
  go_wp2
  go_step3
  go_wp2
  rw [Exit.noGoto_ret]
  go_ret
  exact ⟨rfl, below_two w _ _⟩
theorem lneeded_any (A : Option Addr) (n c : Nat) (bs : List BlkM) (k : Int) (w : World) (hA : ReadsB w A n c bs) (hn : n <= 100) : Calls Tryz.prog 64 #[.slice A n c, .int .i64 k] w fun e w' => ∃ B cap, e = .returned (.slice B (lNeeded (cnt bs) k).length cap) /\ ReadsL w' B (lNeeded (cnt bs) k).length cap (lNeeded (cnt bs) k) /\ Below w.heap.size w w' := by
 by_cases hk : k < 0 \/ (n : Int) <= k
 ·have e := needed_none (bs := bs) (k := k) (by rw [hA.len]; exact hk)
  rw [e]
  refine (lneeded_out A n c k w (by omega) hk).mono ?_
  rintro e w' ⟨rfl, hb⟩
  exact ⟨none, 0, rfl, ReadsL.none _, hb⟩
 ·obtain ⟨b, rfl⟩ : ∃ b : Nat, k = (b : Int) := ⟨k.toNat, by omega⟩
  exact lneeded_in A n c bs b w hA hn (by omega)
end
end Go.Proofs.YtnfgpjfldgocaaaGreat
