/- Contracts of the document's Next, Empty, Counts (layer scan). | Contract of the document's block (layer scan). | Contract of the document's Words (layer scan). -/
import Derived.Test.YtnfgpjfldgocaaaGreatScanMath
import Derived.BigRegion
import Derived.Deep.DeepCutAuto
import Derived.Test.YtnfgpjfldgocaaaGreatScan3
import Derived.Test.YtnfgpjfldgocaaaGreatPageRef4
namespace Go.Proofs.YtnfgpjfldgocaaaGreat
open Go.RowKit Bm

attribute [local go_sem] bk_head bk_count

theorem rbk_info : (Tryz.prog.info? 72).map (fun i => (i.zero, i.size)) = some (some (.agg (bkC bk0).toArray), 66) := by kernel_rfl
theorem rbk_zero (w : World) : (zeroValue 72).run Tryz.prog w = .ok (.agg (bkC bk0).toArray) w := (zero_of_info rbk_info).1 w
theorem rbk_size : (Tryz.prog.info? 72).map (·.size) = some 66 := (zero_of_info rbk_info).2

end Go.Proofs.YtnfgpjfldgocaaaGreat

namespace Go.Proofs.YtnfgpjfldgocaaaGreat
open Go.RowKit Bm

attribute [local go_sem] bk_head bk_count

set_option maxRecDepth 100000 in
theorem run_rbuild2 (h : Int) (c : BitVec 32) (w : World) : (Instr.build 72 #[(0, .int .i64 h), (1, .int .u32 (U c))]).run Tryz.prog w = .ok (.agg (bkC { bk0 with head := h, count := c }).toArray) w := by
  kernel_rfl

theorem wpList_rbuild2 {ops : Array Oper} {rest : List Oper} {o : Oper} {a : Go.Act} {w : World} {Q : Exit → Go.Act → World → Prop} (x y : Operand) (h : Int) (c : BitVec 32) (hgd : o.guard = none) (ho : o.op = .build 72 #[(0, x), (1, y)]) (hx : a.eval x = .int .i64 h) (hy : a.eval y = .int .u32 (U c))
    (hk : wpList Tryz.prog ops Q rest (a.put o.dst (.agg (bkC { bk0 with head := h, count := c }).toArray)) w) : wpList Tryz.prog ops Q (o :: rest) a w :=
  wpList_plain hgd fun K hK => by
    unfold Oper.wp execOp
    simp only [ho, List.map_toArray, List.map_cons, List.map_nil, hx, hy, Sem.run_bind, run_rbuild2, Result.andThen_ok]
    exact hK _ _ hk
theorem rpg_sizeB : (Tryz.prog.info? 69).map (·.size) = some 7 := by kernel_rfl
theorem rpg_infoB : (Tryz.prog.info? 69).map (fun i => (i.zero, i.size)) = some (some (.agg (pgC pg0).toArray), 7) := by kernel_rfl
theorem rpg_zeroB (w : World) : (zeroValue 69).run Tryz.prog w = .ok (.agg (pgC pg0).toArray) w := (zero_of_info rpg_infoB).1 w

theorem rbk_res1 {fn : Func} {p : Tmp} (h : fn.results = #[.cell p 72]) (tmps : Array Value) {w : World} {g : Nat} {cs : List Value} (hp : tmps.getD p undef = .pointer (some ⟨g, 0, none⟩)) (hA : At w g 72 cs) (hn : cs.length = 66) :
    (results fn tmps).run Tryz.prog w = .ok (.agg cs.toArray) w :=
  results_cell_row h tmps w g 72 cs.toArray (0, 0) _ hp hA Tryz.underlying72 rfl (by rw [rbk_size]; simp [hn])

set_option maxRecDepth 100000 in
set_option maxHeartbeats 2000000 in
theorem rblock_any (ad : Addr) (c : Nat) (ws : List (BitVec 32)) (w : World) (hA : ReadsU w (some ad) 64 c ws) : Calls Tryz.prog 48 #[.slice (some ad) 64 c] w fun e w' => e = .returned (bkV (bkOf ws)) ∧ Below w.heap.size w w' := by
  have hz := rbk_zero
  have hz7 := rpg_zeroB
  have HA := Lib.hid hA
  have h64 := hA.le
  have hc1 := hA.max
  have hb2 : Below w.heap.size w (w.alloc (.cells (bkC bk0).toArray 72)) := (Below.refl _ w).alloc (Nat.le_refl _) _
  have HA2 := Lib.hid (hA.kept hb2)
  have PC := Lib.hid (rcount_any _ 4 c _ _ ((HA2.out.sub 0 4 c (by omega) (by omega) hc1)) (by omega))
  rw [show ad.add 0 = ad from rfl] at PC
  have HB2 := Lib.hid hb2
  have A0 := Lib.hid (At.news w 72 (bkC bk0))
  clear hA hb2
  go_enter Tryz.func48, Tryz.ntmps48
  go_wp2_with (first
    | (go_at_call 67; (refine PC.out.mono ?_); rintro e V ⟨rfl, hb⟩; have HBV := Lib.hid hb; have A1 := Lib.hid (A0.out.kept (Turned.of_below hb (Nat.le_refl _) NoBlock) (fun h => h)); clear hb)
    | (refine wpList_rbuild2 _ _ _ _ rfl rfl rfl rfl ?_)
    | (refine wpList_stm (pre := []) (post := []) (xs := bkC bk0) (ys := bkC { bk0 with head := (hdRd (ws.take 4)).2, count := (hdRd (ws.take 4)).1 }) _ _ rfl rfl rfl rfl rbk_size (by rfl) (by rfl) (bk_one _) rfl (by simp) (At.news _ _ (bkC bk0)) ?_; intro V2 A2 T2; have HA2' := Lib.hid A2; have HT2 := Lib.hid T2; clear A2 T2))
  have hVs : w.heap.size + 1 ≤ V.heap.size := by have := HBV.out.size; simp at this; omega
  have a1 : At V2 V.heap.size 72 (bkC (blkAll ws (List.range 0))) := by have := HA2'.out; rw [List.nil_append, List.append_nil] at this; exact this
  have a3 : At V2 w.heap.size 72 (bkC bk0) := (A1.out.alloc _).kept HT2.out (by unfold Just; omega)
  have b3 : Below w.heap.size w V2 := (HB2.out.trans (HBV.out.mono (by simp))).trans ((((Below.refl _ V).alloc (Nat.le_refl _) _).trans (HT2.out.below (fun k hk => by unfold Just at hk; omega) (by simp))).mono (by omega))
  have s3 : V.heap.size < V2.heap.size := a1.lt
  clear HA2' HT2
  go_loopw [6] (fun i wr => ∃ j : Nat, j ≤ 8 ∧ i = .int .i64 j ∧ At wr V.heap.size 72 (bkC (blkAll ws (List.range j))) ∧ At wr w.heap.size 72 (bkC bk0) ∧ Below w.heap.size w wr) (fun i _ => 8 - (intOf i).toNat)
  case atStart => exact ⟨0, by omega, rfl, a1, a3, b3⟩
  case round =>
    clear a1 a3 b3 s3
    obtain ⟨j, hj, rfl, hA1, hA3, hB⟩ := hrel
    by_cases hlt : j < 8
    · have hok := blkAll_ok ws (List.range j)
      have hhd := blkAll_head ws (List.range j)
      have hstep : blkAll ws (List.range (j + 1)) = blkPut ws (blkAll ws (List.range j)) j := by rw [List.range_succ, blkAll_snoc]
      obtain ⟨B, hBe⟩ : ∃ B, B = blkAll ws (List.range j) := ⟨_, rfl⟩
      rw [← hBe] at hok hhd hA1 hstep
      have HST := Lib.hid hstep
      have HOK := Lib.hid hok
      have k0 := hA1.cell (2 + j)
      rw [bk_kind hok j hlt] at k0
      have f0 := hA1.frozen (2 + j)
      have HA1 := Lib.hid hA1
      have HA3 := Lib.hid hA3
      have HB := Lib.hid hB
      have HHD := Lib.hid hhd
      have i0 : (0 : Int) ≤ (j : Int) := by omega
      have i1 : (j : Int) < 8 := by omega
      have A2 := hA1.put (2 + j) (.int .i64 2)
      rw [bk_setKind hok j hlt] at A2
      have hb2 : Below w.heap.size w (wr.setCell ⟨V.heap.size, 2 + j, none⟩ (.int .i64 2)) := hB.setCell (p := ⟨V.heap.size, 2 + j, none⟩) (by show w.heap.size ≤ V.heap.size; omega) _
      have A3' := hA3.far (p := ⟨V.heap.size, 2 + j, none⟩) (by show w.heap.size ≠ V.heap.size; omega) (.int .i64 2)
      have HA2' := Lib.hid A2
      have HA3' := Lib.hid A3'
      have HB2' := Lib.hid hb2
      clear hBe hok hhd hA1 hB hA3 hstep A2 hb2 A3'
      by_cases h1 : (hdRd (ws.take 4)).2 = 1
      · have PR := Lib.hid (rread_any _ _ _ _ _ ((HA.out.kept HB2'.out).sub (4 + 7 * j) 7 (c - (4 + 7 * j)) (by omega) (by omega) (by omega)) (by omega))
        have ok2 : BlkOk { B with kinds := (B.kinds.set j 2).set j (pgRd (pgAtW ws j)).2 } := ⟨by simp [HOK.out.k], HOK.out.p⟩
        obtain ⟨pr, po, hpl, he, hs⟩ := bk_page ok2 j hlt
        have HPL := Lib.hid hpl
        have HE := Lib.hid he
        have HS := Lib.hid hs
        clear ok2 hpl he hs
        go_wp2_with (first
          | (go_at_call 68; rw [show 11 + 7 * j - (4 + 7 * j) = 7 by omega]; (with_reducible refine PR.out.mono ?_); rintro e V3 ⟨rfl, hb⟩; have A4 := Lib.hid (HA2'.out.kept (Turned.of_below hb (Nat.le_refl _) NoBlock) (fun h => h)); have A4' := Lib.hid (HA3'.out.kept (Turned.of_below hb (Nat.le_refl _) NoBlock) (fun h => h)); have HB4 := Lib.hid (HB2'.out.trans (hb.mono HB2'.out.size)); have hlt4 : V.heap.size < V3.heap.size := A4.out.lt; clear hb)
          | (refine wpList_stm (pre := []) (post := []) (xs := pgC pg0) (ys := pgC (pgRd (pgAtW ws j)).1) _ _ rfl rfl rfl rfl rpg_sizeB (by rfl) (by rfl) (pgC_one _) rfl (by simp) (At.news V3 _ (pgC pg0)) ?_; intro V4 A5 T5; rw [List.nil_append, List.append_nil] at A5; have A6 := (A4.out.alloc (.cells (pgC pg0).toArray 69)).kept T5 (by unfold Just; omega); have k6 := A6.cell (2 + j); have f6 := A6.frozen (2 + j); rw [bk_kind (b := { B with kinds := B.kinds.set j 2 }) ⟨by simp [HOK.out.k], HOK.out.p⟩ j hlt] at k6; have A7 := A6.put (2 + j) (.int .i64 (pgRd (pgAtW ws j)).2); rw [bk_setKind (b := { B with kinds := B.kinds.set j 2 }) ⟨by simp [HOK.out.k], HOK.out.p⟩ j hlt] at A7; have P7 := A5.far (p := ⟨V.heap.size, 2 + j, none⟩) (by show V3.heap.size ≠ V.heap.size; omega) (.int .i64 (pgRd (pgAtW ws j)).2); have HA7 := Lib.hid A7; have HP7 := Lib.hid P7; have HT5 := Lib.hid T5; clear A5 A6 A7 P7 T5)
          | (refine wpList_ldr _ rfl rfl rfl Tryz.underlying69 rfl rpg_sizeB (pgC_len _) HP7.out.rng ?_)
          | (refine wpList_stm (ys := pgC (pgRd (pgAtW ws j)).1) _ _ rfl rfl rfl rfl rpg_sizeB (pgC_len _) (pgC_len _) (pgC_one _) (by rw [HPL.out]; omega) HE.out HA7.out ?_; intro V6 A8 T8; rw [← HS.out] at A8; have HA8 := Lib.hid A8; have HT8 := Lib.hid T8; clear A8 T8))
        have T9 : Turned (fun k => k = V.heap.size) V3 V6 := (((((Turned.refl (fun k => k = V.heap.size) V3).alloc _).after HT5.out (fun k hk h => by unfold Just at h; omega)).setCell (p := ⟨V.heap.size, 2 + j, none⟩) (fun _ => rfl) _).trans (HT8.out.mono (fun k _ h => h)))
        refine ⟨⟨j + 1, by omega, by go_num, ?_, A4'.out.kept T9 (by omega), HB4.out.trans (T9.below (fun k hk => by omega) HB4.out.size)⟩, by simp [intOf]; omega⟩
        rw [HST.out]
        unfold blkPut
        rw [if_pos (HHD.out.trans h1)]
        exact HA8.out
      · have h1' : ((hdRd (ws.take 4)).2 == 1) = false := by simpa using h1
        go_wp2
        refine ⟨⟨j + 1, by omega, by go_num, ?_, HA3'.out, HB2'.out⟩, by simp [intOf]; omega⟩
        rw [HST.out]
        unfold blkPut
        rw [if_neg (fun h => h1 (HHD.out.symm.trans h))]
        exact HA2'.out
    · obtain rfl : j = 8 := by omega
      rw [blkAll_done] at hA1
      have HL := Lib.hid (bk_len (bkOf_ok ws))
      go_wp2_with (first
        | (refine wpList_ldr _ rfl rfl rfl Tryz.underlying72 rfl rbk_size HL.out hA1.rng ?_)
        | (refine wpList_stm (pre := []) (post := []) (xs := bkC bk0) _ _ rfl rfl rfl rfl rbk_size (by rfl) HL.out (bk_one _) rfl (by simp) hA3 ?_; intro w2 A2 T2; have HA2 := Lib.hid A2; have HT2 := Lib.hid T2; clear A2 T2))
      have A2 := HA2.out
      rw [List.nil_append, List.append_nil] at A2
      exact bodyPost_ret (rbk_res1 Tryz.results48 _ rfl A2 HL.out) rfl ⟨rfl, hB.trans (HT2.out.below (fun k hk => by unfold Just at hk; omega) hB.size)⟩
end Go.Proofs.YtnfgpjfldgocaaaGreat

namespace Go.Proofs.YtnfgpjfldgocaaaGreat
open Go.RowKit Bm

theorem rbk_infoA : (Tryz.prog.info? 72).map (fun i => (i.zero, i.size, i.bytes)) = some (some (.agg (bkC bk0).toArray), 66, 304) := by kernel_rfl
theorem own_below {w w' : World} {base n k : Nat} {t : TypeId} {v : Value} {xs : List Value} (h : w.ownsRow base t k v n xs) (hb : Below w.heap.size w w') : w'.ownsRow base t k v n xs :=
  h.kept (w' := w') (row := none) ⟨hb.os, hb.tape, hb.output, hb.size, fun k hk _ => hb.block k hk⟩ (by cases v.ownBlock <;> simp)
theorem ReadsB.of_own {w : World} {base : Nat} {t : TypeId} {v : Value} {bs : List BlkM} {n : Nat} (h : w.ownsRow base t 66 v n (bks bs)) (hb : ∀ b ∈ bs, BlkOk b) (hn : n = bs.length) : ∃ A cap, v = .slice A bs.length cap ∧ ReadsB w A bs.length cap bs := by
  subst hn
  have h0 := h
  rcases h.2 with ⟨rfl, e⟩ | ⟨g, cap, cur, rfl, _⟩
  · have : bs = [] := List.eq_nil_of_length_eq_zero e
    subst this
    exact ⟨Option.none, 0, rfl, ReadsB.none w⟩
  · obtain ⟨rest, hA, _, h2, h3, _⟩ := at_of_own h0
    exact ⟨_, cap, rfl, ReadsB.of_at hA hb h2 h3⟩

end Go.Proofs.YtnfgpjfldgocaaaGreat
