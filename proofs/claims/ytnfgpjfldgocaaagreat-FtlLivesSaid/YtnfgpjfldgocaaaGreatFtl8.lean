import Derived.Test.YtnfgpjfldgocaaaGreatFtl7
namespace Go.Proofs.YtnfgpjfldgocaaaGreat
section
open Go.RowKit Bm Go.Shelf
def mChg (k : Nat) (d : DrvM) (x : StoM) (a : Int) (R : DrvM × StoM × Int) : DrvM × StoM × Int := if (mBegin k d x a).2.2 = 0 then mNote R else mBegin k d x a
section
variable {B p f q s k g : Nat} {K : Nat -> Prop} {d d' : DrvM} {x : StoM} {w w' : World}
theorem begin_t (d : DrvM) (x : StoM) (a : Int) : (mBegin k d x a).1.t = d.t := by
 unfold mBegin
 split
 ·rfl
 ·split
  ·rfl
  ·show (dLook d).t = d.t
   unfold dLook
   split <;> rfl
theorem mLast_calm (ok : DrvOk k d) (x : StoM) (pg : PageM) : DrvOk k (mLast d x pg).1 := by
 unfold mLast
 cases spotsM x (-1) with
 | nil => exact ok
 | cons z l =>
   unfold mLastL
   dsimp only
   split
   ·exact put_calm' ok x _ _ _
   ·exact ok
theorem addTo_calm {n : Nat} {pg : PageM} {R : DrvM × StoM × Int} (h : AddTo k pg n d x R) : DrvOk k d -> DrvOk k R.1 := by
 induction h with
 | done h1 => exact fun ok => mLast_calm ok _ _
 | stop b h1 h2 h3 h4 => exact fun ok => reclaim_calm ok _ _ _
 | more b h1 h2 h3 h4 h5 ih => exact fun ok => ih (reclaim_calm ok _ _ _)
set_option maxRecDepth 100000 in
set_option maxHeartbeats 1000000 in
theorem Sto.change (h : Sto B p f q s k g K d x w) (ok : DrvOk k d) (hk : k <= 19) (k3 : 3 <= k) (a : Int) (a0 : -9223372036854775808 <= a) (a1 : a <= 9223372036854775807) {n : Nat} {pg : PageM} {R : DrvM × StoM × Int}
  (hA : (mBegin k d x a).2.2 = 0 -> AddTo k { pg with s := BitVec.ofNat 32 a.toNat } n (mBegin k d x a).1 (mBegin k d x a).2.1 R) (hE : (mBegin k d x a).2.2 = 0 -> 0 <= R.2.2 /\ R.2.2 <= 100) (t0 : 0 <= d.t) (t1 : d.t + 3000 * (n : Int) <= 80000000000000) :
  Calls Tryz.prog 55 #[.pointer (some ⟨s, 0, none⟩), .int .i64 a, pgV pg] w (StoOut B p f q s k K (mChg k d x a R) w) := by
 have hk2 := h.k2
 obtain ⟨W0, hW0⟩ : ∃ W0, W0 = w.alloc (.cells (pgC pg).toArray 98) := ⟨_, rfl⟩
 have A0 : At W0 w.heap.size 98 (pgC pg) := by rw [hW0]; exact At.news w _ _
 have B0 : Below w.heap.size w W0 := by rw [hW0]; exact (Below.refl _ w).alloc (Nat.le_refl _) _
 obtain ⟨bx, hbx⟩ : ∃ bx, bx = w.heap.size := ⟨_, rfl⟩
 obtain ⟨K2, hK2⟩ : ∃ K2 : Nat -> Prop, K2 = fun i => K i \/ i = bx := ⟨_, rfl⟩
 have HKX : Hid (K2 bx) := Lib.hid (by rw [hK2]; exact .inr rfl)
 have HKK : Hid (∀ i, K i -> K2 i) := Lib.hid (fun i e => by rw [hK2]; exact .inl e)
 have hS0 : Sto B p f q s k g K2 d x W0 := h.renew ok.calm.job B0 (fun i e => by
  rw [hK2] at e
  rcases e with e | rfl
  ·exact ⟨.inl e, Nat.lt_of_lt_of_le (h.kin i e) B0.size⟩
  ·exact ⟨.inr (by omega), by rw [hbx]; exact A0.lt⟩)
 have BE := Lib.hid (hS0.begin ok k3 a a0 a1)
 have HRG : Hid ((mBegin k d x a).2.2 = 0 -> 0 <= a /\ a < secs k) := Lib.hid begin_range
 have HCL := Lib.hid (begin_calm (k := k) ok x a)
 have HBT := Lib.hid (begin_t (k := k) d x a)
 have HMC : Hid (mChg k d x a R = if (mBegin k d x a).2.2 = 0 then mNote R else mBegin k d x a) := Lib.hid rfl
 obtain ⟨r, hr⟩ : ∃ r, r = mBegin k d x a := ⟨_, rfl⟩
 obtain ⟨RR, hRR⟩ : ∃ RR, RR = mChg k d x a R := ⟨_, rfl⟩
 rw [<- hr] at BE HRG HCL HBT HMC hA hE
 rw [<- hRR] at HMC ⊢
 have HA := Lib.hid hA
 have HE := Lib.hid hE
 have HT := Lib.hid (show 0 <= d.t /\ d.t + 3000 * (n : Int) <= 80000000000000 from ⟨t0, t1⟩)
 have HBX := Lib.hid hbx
 have HSZ := Lib.hid h.size
 have hW0' : w.alloc (.cells (pgC pg).toArray 98) = W0 := hW0.symm
 rw [<- hbx] at A0
 have HA0 := Lib.hid A0
 have HB0 := Lib.hid B0
 have HKN := Lib.hid hk
 have HK3 := Lib.hid k3
 clear h ok hA hE t0 t1 A0 B0 hbx hS0 hK2 hW0 hr hRR hk k3
 unfold pgV
 by_cases he : r.2.2 = 0
 ·obtain ⟨n0, n1⟩ := HRG.out he
  obtain ⟨m, rfl⟩ : ∃ m : Nat, a = (m : Int) := ⟨a.toNat, by omega⟩
  have hm4 : (m : Int) < 400 := by unfold secs at n1; omega
  have HE0 := Lib.hid he
  have e1 : (r.2.2 != 0) = false := by rw [bne_eq_false_iff_eq]; exact he
  have HU : Hid (U (BitVec.ofNat 32 m) = (m : Int)) := Lib.hid (U_ofNat m (by omega))
  have HRN : Hid (RR = mNote R) := Lib.hid (by rw [HMC.out, if_pos he])
  have HAD := Lib.hid (HA.out he)
  have HER := Lib.hid (HE.out he)
  clear he n1 a0 a1 HMC HA HE HRG
  obtain ⟨p9, hp9⟩ : ∃ p9 : PageM, p9 = { pg with s := BitVec.ofNat 32 (m : Int).toNat } := ⟨_, rfl⟩
  rw [<- hp9] at HAD
  rw [Int.toNat_natCast] at hp9
  have HP9 := Lib.hid hp9
  clear hp9
  go_enter Tryz.func55, Tryz.ntmps55
  go_upto_region 1 with (fail)
  rw [<- HBX.out]
  clear hW0'
  go_upto_region 4 with (first
   | (go_at_call 52; (with_reducible refine BE.out.mono ?_); rintro e w1 ⟨rfl, ⟨g1, hs1⟩, t1⟩; have HS1 := Lib.hid hs1; have HT1 := Lib.hid t1; clear hs1 t1))
  have hat1 : At w1 bx 98 (pgC pg) := HA0.out.kept HT1.out (fun e => e.2 HKX.out)
  have HAT1 := Lib.hid hat1
  have p0 : w1.cell? ⟨bx, 0, none⟩ = some (.int .u32 (U pg.s)) := hat1.cell 0
  have pf : w1.frozen? ⟨bx, 0, none⟩ = false := hat1.frozen 0
  clear hat1
  go_upto_region 5 with (fail)
  obtain ⟨W4, hW4⟩ : ∃ W4, W4 = w1.setCell ⟨bx, 0, none⟩ (.int .u32 (m : Int)) := ⟨_, rfl⟩
  rw [<- hW4]
  have A4 := HAT1.out.put 0 (.int .u32 (m : Int))
  rw [<- hW4, show (pgC pg).set 0 (.int .u32 (m : Int)) = pgC p9 from by rw [HP9.out, <- HU.out]; rfl] at A4
  have T4 : Turned (Just bx) w1 W4 := by rw [hW4]; exact (Turned.refl (Just bx) w1).setCell (p := ⟨bx, 0, none⟩) (fun _ => rfl) _
  have hs4 := HS1.out.mine HCL.out.calm.job HKX.out T4
  have TF : Hid (Turned (May B K) w W4) := Lib.hid (((Turned.of_below HB0.out (Nat.le_refl _) _).trans (may_less HT1.out HKK.out)).after T4 (fun i hi h => by unfold Just at h; have := HBX.out; omega))
  have q0 : W4.cell? ⟨bx, 0, none⟩ = some (.int .u32 (U p9.s)) := A4.cell 0
  have q1 : W4.cell? ⟨bx, 1, none⟩ = some (.int .u32 (U p9.q)) := A4.cell 1
  have q2 : W4.cell? ⟨bx, 2, none⟩ = some (.bool p9.g) := A4.cell 2
  have q3 : W4.cell? ⟨bx, 3, none⟩ = some (.int .u32 (U p9.d0)) := A4.cell 3
  have q4 : W4.cell? ⟨bx, 4, none⟩ = some (.int .u32 (U p9.d1)) := A4.cell 4
  have q5 : W4.cell? ⟨bx, 5, none⟩ = some (.int .u32 (U p9.d2)) := A4.cell 5
  have q6 : W4.cell? ⟨bx, 6, none⟩ = some (.int .u32 (U p9.d3)) := A4.cell 6
  have AD : Hid (Calls Tryz.prog 72 #[.pointer (some ⟨s, 0, none⟩), .agg #[.int .u32 (U p9.s), .int .u32 (U p9.q), .bool p9.g, .int .u32 (U p9.d0), .int .u32 (U p9.d1), .int .u32 (U p9.d2), .int .u32 (U p9.d3)]] W4 (StoOut B p f q s k K2 R W4)) := Lib.hid (hs4.add HCL.out HKN.out HK3.out HAD.out (by rw [HBT.out]; exact HT.out.1) (by rw [HBT.out]; exact HT.out.2))
  have HJ : Hid (R.1.f.job = 0) := Lib.hid (addTo_calm HAD.out HCL.out).calm.job
  clear A4 T4 hs4 hW4 pf p0 HS1 HT1 HAT1
  go_wp2_with (first
   | (go_at_call 72; (with_reducible refine AD.out.mono ?_); rintro e w5 ⟨rfl, ⟨g5, hs5⟩, t5⟩; have HS5 := Lib.hid hs5; have HT5 := Lib.hid t5; clear hs5 t5)
   | (go_at_call 69; (with_reducible refine (HS5.out.note HJ.out _ HER.out).mono ?_); rintro e w6 ⟨rfl, hs6, t6⟩; have HS6 := Lib.hid hs6; have HT6 := Lib.hid t6; clear hs6 t6))
  go_ret
  rw [HRN.out]
  exact ⟨rfl, ⟨g5, HS6.out.less HKK.out⟩, TF.out.trans (may_less (HT5.out.trans HT6.out) HKK.out)⟩
 ·have e1 : (r.2.2 != 0) = true := by rw [bne_iff_ne]; exact he
  have HRN : Hid (RR = r) := Lib.hid (by rw [HMC.out, if_neg he])
  clear he HMC HRG HA HE
  go_enter Tryz.func55, Tryz.ntmps55
  go_upto_region 1 with (fail)
  rw [<- HBX.out]
  clear hW0'
  go_wp2_with (first
   | (go_at_call 52; (with_reducible refine BE.out.mono ?_); rintro e w1 ⟨rfl, ⟨g1, hs1⟩, t1⟩; have HS1 := Lib.hid hs1; have HT1 := Lib.hid t1; clear hs1 t1))
  go_ret
  rw [HRN.out]
  exact ⟨rfl, ⟨g1, HS1.out.less HKK.out⟩, (Turned.of_below HB0.out (Nat.le_refl _) _).trans (may_less HT1.out HKK.out)⟩
def pgW (a b c e : BitVec 32) : PageM := ⟨0#32, 0#32, false, a, b, c, e⟩
def pgT : PageM := ⟨0#32, 0#32, true, 0#32, 0#32, 0#32, 0#32⟩
theorem run_pgW (a b c e : BitVec 32) (w : World) : (Instr.build 98 #[(3, .agg #[.int .u32 (U a), .int .u32 (U b), .int .u32 (U c), .int .u32 (U e)])]).run Tryz.prog w = .ok (pgV (pgW a b c e)) w := by
 unfold pgV pgW pgC
 simp only
 generalize U a = a
 generalize U b = b
 generalize U c = c
 generalize U e = e
 kernel_rfl
theorem run_pgT (w : World) : (Instr.build 98 #[(2, .bool true)]).run Tryz.prog w = .ok (pgV pgT) w := by kernel_rfl
end
section
variable {ops : Array Oper} {rest : List Oper} {o : Oper} {a : Go.Act} {w : World} {Q : Exit -> Go.Act -> World -> Prop}
theorem wpList_pgW {v0 v1 v2 v3 : BitVec 32} (y : Operand) (hgd : o.guard = none) (ho : o.op = .build 98 #[(3, y)]) (hy : a.eval y = .agg #[.int .u32 (U v0), .int .u32 (U v1), .int .u32 (U v2), .int .u32 (U v3)])
  (hK : wpList Tryz.prog ops Q rest (a.put o.dst (.agg (pgC (pgW v0 v1 v2 v3)).toArray)) w) : wpList Tryz.prog ops Q (o :: rest) a w :=
 wpList_plain hgd fun K hK' => by
  unfold Oper.wp execOp
  simp only [ho, List.map_toArray, List.map_cons, List.map_nil, hy, Sem.run_bind, run_pgW, Result.andThen_ok]
  exact hK' _ _ hK
theorem wpList_pgT (hgd : o.guard = none) (ho : o.op = .build 98 #[(2, .const (.bool true))])
  (hK : wpList Tryz.prog ops Q rest (a.put o.dst (.agg (pgC pgT).toArray)) w) : wpList Tryz.prog ops Q (o :: rest) a w :=
 wpList_plain hgd fun K hK' => by
  unfold Oper.wp execOp
  have hc : a.eval (.const (.bool true)) = .bool true := rfl
  simp only [ho, List.map_toArray, List.map_cons, List.map_nil, hc, Sem.run_bind, run_pgT, Result.andThen_ok]
  exact hK' _ _ hK
end
section
variable {B p f q s k g : Nat} {K : Nat -> Prop} {d d' : DrvM} {x : StoM} {w w' : World}
theorem Sto.write (h : Sto B p f q s k g K d x w) (ok : DrvOk k d) (hk : k <= 19) (k3 : 3 <= k) (a : Int) (a0 : -9223372036854775808 <= a) (a1 : a <= 9223372036854775807) {n : Nat} {v0 v1 v2 v3 : BitVec 32} {R : DrvM × StoM × Int}
  (hA : (mBegin k d x a).2.2 = 0 -> AddTo k { pgW v0 v1 v2 v3 with s := BitVec.ofNat 32 a.toNat } n (mBegin k d x a).1 (mBegin k d x a).2.1 R) (hE : (mBegin k d x a).2.2 = 0 -> 0 <= R.2.2 /\ R.2.2 <= 100) (t0 : 0 <= d.t) (t1 : d.t + 3000 * (n : Int) <= 80000000000000) :
  Calls Tryz.prog 35 #[.pointer (some ⟨s, 0, none⟩), .int .i64 a, .agg #[.int .u32 (U v0), .int .u32 (U v1), .int .u32 (U v2), .int .u32 (U v3)]] w (StoOut B p f q s k K (mChg k d x a R) w) := by
 obtain ⟨W0, hW0⟩ : ∃ W0, W0 = w.alloc (.cells #[.int .u32 (U v0), .int .u32 (U v1), .int .u32 (U v2), .int .u32 (U v3)] 67) := ⟨_, rfl⟩
 have hW0' := hW0.symm
 have B0 : Below w.heap.size w W0 := by rw [hW0]; exact (Below.refl _ w).alloc (Nat.le_refl _) _
 have A0 : At W0 w.heap.size 67 [.int .u32 (U v0), .int .u32 (U v1), .int .u32 (U v2), .int .u32 (U v3)] := by rw [hW0]; exact At.news w _ _
 have q0 : W0.cell? ⟨w.heap.size, 0, none⟩ = some (.int .u32 (U v0)) := A0.cell 0
 have q1 : W0.cell? ⟨w.heap.size, 1, none⟩ = some (.int .u32 (U v1)) := A0.cell 1
 have q2 : W0.cell? ⟨w.heap.size, 2, none⟩ = some (.int .u32 (U v2)) := A0.cell 2
 have q3 : W0.cell? ⟨w.heap.size, 3, none⟩ = some (.int .u32 (U v3)) := A0.cell 3
 have CH := Lib.hid ((h.below B0).change ok hk k3 a a0 a1 hA hE t0 t1)
 have HB0 := Lib.hid B0
 unfold pgV at CH
 clear h ok hA hE t0 t1 A0 B0 hW0
 go_enter Tryz.func35, Tryz.ntmps35
 go_wp2_with (first
  | (refine wpList_pgW _ rfl rfl rfl ?_)
  | (go_at_call 55; (with_reducible refine CH.out.mono ?_); rintro e w1 ⟨rfl, hs1, t1⟩; have HS1 := Lib.hid hs1; have HT1 := Lib.hid t1; clear hs1 t1))
 go_ret
 exact ⟨rfl, HS1.out, (Turned.of_below HB0.out (Nat.le_refl _) _).trans HT1.out⟩
theorem Sto.trim (h : Sto B p f q s k g K d x w) (ok : DrvOk k d) (hk : k <= 19) (k3 : 3 <= k) (a : Int) (a0 : -9223372036854775808 <= a) (a1 : a <= 9223372036854775807) {n : Nat} {R : DrvM × StoM × Int}
  (hA : (mBegin k d x a).2.2 = 0 -> AddTo k { pgT with s := BitVec.ofNat 32 a.toNat } n (mBegin k d x a).1 (mBegin k d x a).2.1 R) (hE : (mBegin k d x a).2.2 = 0 -> 0 <= R.2.2 /\ R.2.2 <= 100) (t0 : 0 <= d.t) (t1 : d.t + 3000 * (n : Int) <= 80000000000000) :
  Calls Tryz.prog 36 #[.pointer (some ⟨s, 0, none⟩), .int .i64 a] w (StoOut B p f q s k K (mChg k d x a R) w) := by
 have CH := Lib.hid (h.change ok hk k3 a a0 a1 hA hE t0 t1)
 unfold pgV at CH
 clear h ok hA hE t0 t1
 go_enter Tryz.func36, Tryz.ntmps36
 go_wp2_with (first
  | (refine wpList_pgT rfl rfl ?_)
  | (go_at_call 55; (with_reducible refine CH.out.mono ?_); rintro e w1 ⟨rfl, hs1, t1⟩; have HS1 := Lib.hid hs1; have HT1 := Lib.hid t1; clear hs1 t1))
 go_ret
 exact ⟨rfl, HS1.out, HT1.out⟩
end
end
section
open Go.RowKit Bm Go.Shelf
section
variable {w w' : World} {A : Option Addr} {n cap : Nat} {bs : List BlkM}
theorem firstEm (bs : List BlkM) (j : Nat) (h : j < bs.length) (hb : bkEmpty (bkN bs j) = true) : bs.any bkEmpty = true := by
 rw [List.any_eq_true]
 exact ⟨bkN bs j, List.mem_of_getElem? (bkN_get h), hb⟩
theorem noEm (bs : List BlkM) (h : ∀ i, i < bs.length -> bkEmpty (bkN bs i) = false) : bs.any bkEmpty = false := by
 rw [List.any_eq_false]
 intro p hp
 obtain ⟨i, hi, rfl⟩ := List.getElem_of_mem hp
 have := h i hi
 unfold bkN at this
 rw [List.getD_eq_getElem?_getD, List.getElem?_eq_getElem hi] at this
 simpa using this
set_option maxRecDepth 100000 in
theorem idxB_any (hA : ReadsB w A n cap bs) (hn : n <= 1000) : Calls Tryz.prog 76 #[.slice A n cap, .func (.func 62) #[] #[]] w fun e w' => (∃ v : Int, e = .returned (.int .i64 v) /\ (decide (0 <= v) = bs.any bkEmpty)) /\ Below w.heap.size w w' := by
 have HA := Lib.hid hA
 have SE := Lib.hid (fun j (hj : j < n) W => sempty_any (bkN bs j) (hA.okN hj) W)
 clear hA
 go_enter Tryz.func76, Tryz.ntmps76
 go_wp2
 go_loopw [8] (fun i wr => ∃ j : Nat, j <= n /\ i = .int .i64 j /\ Below w.heap.size w wr /\ ∀ i, i < j -> bkEmpty (bkN bs i) = false) (fun i _ => n - (intOf i).toNat)
 case atStart => exact ⟨0, by omega, rfl, Below.refl _ _, fun i h => by omega⟩
 case round =>
  obtain ⟨j, hj, rfl, hb, hok⟩ := hrel
  have HB := Lib.hid hb
  have HO := Lib.hid hok
  clear hb hok
  by_cases hlt : j < n
  ·have HR := Lib.hid (HA.out.kept HB.out)
   obtain ⟨g, off, rfl, hg, hr⟩ := HR.out.at_ hlt
   have HR' := Lib.hid hr
   have HBL := Lib.hid (bk_len (HA.out.okN hlt))
   have i0 : (0 : Int) <= (j : Int) := by omega
   have i1 : (j : Int) < (n : Int) := by omega
   have HLT : Hid (j < bs.length) := Lib.hid (by rw [HA.out.len]; exact hlt)
   have WR2 := Lib.hid (SE.out j hlt)
   unfold bkV at WR2
   clear hr hg SE
   cases hp : bkEmpty (bkN bs j) with
   | false =>
     have HP := Lib.hid hp
     rw [hp] at WR2
     clear hp
     go_wp2_with (first
      | (refine wpList_ldr _ rfl rfl rfl Tryz.underlying101 rfl bk_size HBL.out HR'.out ?_)
      | (go_at_call 62; (with_reducible refine (WR2.out _).mono ?_); rintro e w1 ⟨rfl, hb⟩; have HB1 := Lib.hid hb; clear hb))
     refine ⟨⟨j + 1, by omega, by go_num, HB.out.trans (HB1.out.mono HB.out.size), fun i hi => ?_⟩, by simp [intOf]; omega⟩
     by_cases e : i = j
     ·subst e; exact HP.out
     ·exact HO.out i (by omega)
   | true =>
     have HP := Lib.hid hp
     rw [hp] at WR2
     clear hp
     go_wp2_with (first
      | (refine wpList_ldr _ rfl rfl rfl Tryz.underlying101 rfl bk_size HBL.out HR'.out ?_)
      | (go_at_call 62; (with_reducible refine (WR2.out _).mono ?_); rintro e w1 ⟨rfl, hb⟩; have HB1 := Lib.hid hb; clear hb))
     go_ret
     exact ⟨⟨_, rfl, by rw [firstEm bs j HLT.out HP.out]; simp⟩, HB.out.trans (HB1.out.mono HB.out.size)⟩
  ·obtain rfl : j = n := by omega
   have HF := Lib.hid (noEm bs (fun i hi => HO.out i (by rw [<- HA.out.len]; exact hi)))
   go_wp2
   go_ret
   exact ⟨⟨_, rfl, by rw [HF.out]; rfl⟩, HB.out⟩
theorem hasB_any (hA : ReadsB w A n cap bs) (hn : n <= 1000) : Calls Tryz.prog 61 #[.slice A n cap, .func (.func 62) #[] #[]] w fun e w' => e = .returned (.bool (bs.any bkEmpty)) /\ Below w.heap.size w w' := by
 have HI := Lib.hid (idxB_any hA hn)
 clear hA
 go_enter Tryz.func61, Tryz.ntmps61
 go_wp2_with (go_at_call 76; (with_reducible refine HI.out.mono ?_); rintro e w1 ⟨⟨v, rfl, hv⟩, hb⟩; have HB := Lib.hid hb; have HV := Lib.hid hv; clear hb hv)
 go_ret
 exact ⟨by rw [<- HV.out]; rfl, HB.out⟩
end
theorem err_res1 {fn : Func} {i : Tmp} (h : fn.results = #[.cell i 31]) (tmps : Array Value) {w : World} {b : Nat} {v : Int} (hp : tmps.getD i undef = .pointer (some ⟨b, 0, none⟩)) (hA : At w b 31 [.int .i64 v]) :
  (results fn tmps).run Tryz.prog w = .ok (.int .i64 v) w := by
 have hp' : tmps[i]?.getD undef = .pointer (some ⟨b, 0, none⟩) := by simpa using hp
 have hc : w.cell? ⟨b, 0, none⟩ = some (.int .i64 v) := hA.cell 0
 have hu := Tryz.underlying31
 simp [results, h, hp', asAddr, loadVar, go_sem, hc]
def mFixS (d : DrvM) (x : StoM) (b : Nat) : DrvM × StoM × Int := if (bkN x.bs b).head = 1 then (d, x, 0) else mRenew d x b
def mFix (d : DrvM) (x : StoM) : List Nat -> DrvM × StoM × Int
 | [] => (d, x, 0)
 | b :: l => let r := mFixS d x b; if r.2.2 ≠ 0 then r else mFix r.1 r.2.1 l
theorem mFix_nil (d : DrvM) (x : StoM) : mFix d x [] = (d, x, 0) := by rw [mFix]
theorem mFix_stop1 {d : DrvM} {x : StoM} {z : Nat} {l : List Nat} (h : (mFixS d x z).2.2 ≠ 0) : mFix d x (z :: l) = mFixS d x z := by
 rw [mFix]
 exact if_pos h
theorem mFix_go {d : DrvM} {x : StoM} {z : Nat} {l : List Nat} (h : (mFixS d x z).2.2 = 0) : mFix d x (z :: l) = mFix (mFixS d x z).1 (mFixS d x z).2.1 l := by
 rw [mFix]
 exact if_neg (fun h2 => h2 h)
theorem mFix_snoc (z : Nat) (l : List Nat) (d : DrvM) (x : StoM) (h : (mFix d x l).2.2 = 0) : mFix d x (l ++ [z]) = mFixS (mFix d x l).1 (mFix d x l).2.1 z := by
 induction l generalizing d x with
 | nil =>
   rw [List.nil_append, mFix_nil]
   by_cases h : (mFixS d x z).2.2 = 0
   ·rw [mFix_go h, mFix_nil]
    generalize mFixS d x z = r at h ⊢
    obtain ⟨r1, r2, r3⟩ := r
    simp only at h
    rw [h]
   ·rw [mFix_stop1 h]
 | cons y l ih =>
   by_cases h1 : (mFixS d x y).2.2 = 0
   ·rw [mFix_go h1] at h ⊢
    rw [List.cons_append, mFix_go h1]
    exact ih _ _ h
   ·rw [mFix_stop1 h1] at h
    exact absurd h h1
theorem mFix_stop (m l : List Nat) (d : DrvM) (x : StoM) (h : (mFix d x l).2.2 ≠ 0) : mFix d x (l ++ m) = mFix d x l := by
 induction l generalizing d x with
 | nil => rw [mFix_nil] at h; exact absurd rfl h
 | cons y l ih =>
   by_cases h1 : (mFixS d x y).2.2 = 0
   ·rw [mFix_go h1] at h ⊢
    rw [List.cons_append, mFix_go h1]
    exact ih _ _ h
   ·rw [List.cons_append, mFix_stop1 h1, mFix_stop1 h1]
theorem fixS_ticks (d : DrvM) (x : StoM) (b : Nat) : d.t <= (mFixS d x b).1.t /\ (mFixS d x b).1.t <= d.t + 100 := by
 unfold mFixS
 split
 ·exact ⟨Int.le_refl _, by show d.t <= d.t + 100; omega⟩
 ·exact mRenew_ticks d x b
section
variable {B p f q s k g : Nat} {K : Nat -> Prop} {d d' : DrvM} {x : StoM} {w w' : World}
theorem fixS_calm (ok : DrvOk k d) (x : StoM) (b : Nat) : DrvOk k (mFixS d x b).1 := by
 unfold mFixS
 split
 ·exact ok
 ·exact renew_calm ok x b
theorem fix_calm (l : List Nat) (d : DrvM) (x : StoM) (ok : DrvOk k d) : DrvOk k (mFix d x l).1 := by
 induction l generalizing d x with
 | nil => rw [mFix_nil]; exact ok
 | cons y l ih =>
   by_cases h1 : (mFixS d x y).2.2 = 0
   ·rw [mFix_go h1]
    exact ih _ _ (fixS_calm ok x y)
   ·rw [mFix_stop1 h1]
    exact fixS_calm ok x y
theorem fix_ticks (l : List Nat) (d : DrvM) (x : StoM) : d.t <= (mFix d x l).1.t /\ (mFix d x l).1.t <= d.t + 100 * l.length := by
 induction l generalizing d x with
 | nil => rw [mFix_nil]; exact ⟨Int.le_refl _, by simp⟩
 | cons y l ih =>
   have h0 := fixS_ticks d x y
   rw [List.length_cons]
   by_cases h1 : (mFixS d x y).2.2 = 0
   ·rw [mFix_go h1]
    have := ih (mFixS d x y).1 (mFixS d x y).2.1
    omega
   ·rw [mFix_stop1 h1]
    omega
set_option maxRecDepth 100000 in
set_option maxHeartbeats 1000000 in
theorem Sto.repairE (h : Sto B p f q s k g K d x w) (ok : DrvOk k d) (t0 : 0 <= d.t) (t1 : d.t <= 80000000000000) (hem : (mFix d x (List.range k)).2.2 = 0 -> (mFix d x (List.range k)).2.1.bs.any bkEmpty = true) :
  Calls Tryz.prog 44 #[.pointer (some ⟨s, 0, none⟩)] w (StoOut B p f q s k K (mFix d x (List.range k)) w) := by
 have hk2 := h.k2
 obtain ⟨W0, hW0⟩ : ∃ W0, W0 = (w.alloc (.cells #[.pointer (some ⟨s, 0, none⟩)] 30)).alloc (.cells #[.int .i64 0] 31) := ⟨_, rfl⟩
 have A1 : At W0 w.heap.size 30 [.pointer (some ⟨s, 0, none⟩)] := by rw [hW0]; exact (At.news w _ _).alloc _
 have A2 : At W0 (w.heap.size + 1) 31 [.int .i64 0] := by rw [hW0]; exact At.alloc_new _ _ _ (by simp) rfl
 have B0 : Below w.heap.size w W0 := by rw [hW0]; exact below_two w _ _
 obtain ⟨b2, hb2⟩ : ∃ b2, b2 = w.heap.size + 1 := ⟨_, rfl⟩
 obtain ⟨b1, hb1⟩ : ∃ b1, b1 = w.heap.size := ⟨_, rfl⟩
 obtain ⟨K2, hK2⟩ : ∃ K2 : Nat -> Prop, K2 = fun i => K i \/ i = b1 \/ i = b2 := ⟨_, rfl⟩
 have HK1 : Hid (K2 b1) := Lib.hid (by rw [hK2]; exact .inr (.inl rfl))
 have HK2 : Hid (K2 b2) := Lib.hid (by rw [hK2]; exact .inr (.inr rfl))
 have HKK : Hid (∀ i, K i -> K2 i) := Lib.hid (fun i e => by rw [hK2]; exact .inl e)
 have hS0 : Sto B p f q s k g K2 d x W0 := h.renew ok.calm.job B0 (fun i e => by
  rw [hK2] at e
  rcases e with e | rfl | rfl
  ·exact ⟨.inl e, Nat.lt_of_lt_of_le (h.kin i e) B0.size⟩
  ·exact ⟨.inr (by omega), by rw [hb1]; exact A1.lt⟩
  ·exact ⟨.inr (by omega), by rw [hb2]; exact A2.lt⟩)
 rw [<- hb2] at A2
 rw [<- hb1] at A1
 have c1 : W0.cell? ⟨s, 1, none⟩ = some (.slice (some ⟨g, 0, none⟩) k k) := by rw [hS0.c1, h.len]
 have p1 : W0.cell? ⟨b1, 0, none⟩ = some (.pointer (some ⟨s, 0, none⟩)) := A1.cell 0
 have HB12 : Hid (b1 = w.heap.size /\ b2 = w.heap.size + 1) := Lib.hid ⟨hb1, hb2⟩
 have hW0' := hW0.symm
 obtain ⟨RR, hRR⟩ : ∃ r, r = mFix d x (List.range k) := ⟨_, rfl⟩
 have HRR := Lib.hid hRR
 rw [<- hRR] at hem ⊢
 have HEM := Lib.hid hem
 have HS0 := Lib.hid hS0
 have HA1 := Lib.hid A1
 have HA2 := Lib.hid A2
 have HB0 := Lib.hid B0
 have HT := Lib.hid (show 0 <= d.t /\ d.t <= 80000000000000 from ⟨t0, t1⟩)
 have HTL := Lib.hid (fun j => fix_ticks (List.range j) d x)
 have HCL := Lib.hid (fun j => fix_calm (List.range j) d x ok)
 clear h ok t0 t1 hRR hem hS0 A1 A2 B0 hK2 hb1 hb2 hW0
 go_enter Tryz.func44, Tryz.ntmps44
 go_upto_region 1 with (fail)
 rw [<- HB12.out.2, <- HB12.out.1]
 clear hW0'
 go_wp2
 clear p1 c1
 go_loopw [11] (fun i wr => ∃ j : Nat, j <= k /\ i = .int .i64 j /\ (mFix d x (List.range j)).2.2 = 0 /\ (∃ g', Sto B p f q s k g' K2 (mFix d x (List.range j)).1 (mFix d x (List.range j)).2.1 wr) /\ At wr b1 30 [.pointer (some ⟨s, 0, none⟩)] /\ At wr b2 31 [.int .i64 0] /\ Turned (May B K) w wr) (fun i _ => k - (intOf i).toNat)
 case atStart => exact ⟨0, by omega, rfl, by rw [List.range_zero, mFix_nil], ⟨g, by rw [List.range_zero, mFix_nil]; exact HS0.out⟩, HA1.out, HA2.out, Turned.of_below HB0.out (Nat.le_refl _) _⟩
 case round =>
  obtain ⟨j, hj, rfl, he, ⟨g', hs⟩, ha1, ha2, htn⟩ := hrel
  obtain ⟨R0, hR0⟩ : ∃ R0, R0 = mFix d x (List.range j) := ⟨_, rfl⟩
  rw [<- hR0] at he hs
  have p1 : wr.cell? ⟨b1, 0, none⟩ = some (.pointer (some ⟨s, 0, none⟩)) := ha1.cell 0
  have p2 : wr.cell? ⟨b2, 0, none⟩ = some (.int .i64 0) := ha2.cell 0
  have pf : wr.frozen? ⟨b2, 0, none⟩ = false := ha2.frozen 0
  have c1 : wr.cell? ⟨s, 1, none⟩ = some (.slice (some ⟨g', 0, none⟩) k k) := by rw [hs.c1, hs.len]
  have HE := Lib.hid he
  have HS := Lib.hid hs
  have HTN := Lib.hid htn
  have HTJ := Lib.hid (HTL.out j)
  have HCJ := Lib.hid (HCL.out j)
  have HAA1 := Lib.hid ha1
  have HAA2 := Lib.hid ha2
  rw [<- hR0] at HTJ HCJ
  have HR0 := Lib.hid hR0
  clear he hs htn hR0 ha1 ha2
  by_cases hlt : j < k
  ·have i0 : (0 : Int) <= (j : Int) := by omega
   have i1 : (j : Int) < (k : Int) := by omega
   have i2 : (k : Int) <= 64 := by omega
   have HR1 : Hid (mFix d x (List.range (j + 1)) = mFixS R0.1 R0.2.1 j) := Lib.hid (by rw [List.range_succ, mFix_snoc _ _ _ _ (by rw [<- HR0.out]; exact HE.out), HR0.out])
   obtain ⟨hd, hhd⟩ : ∃ hd, hd = (bkN R0.2.1.bs j).head := ⟨_, rfl⟩
   have c2 : wr.cell? ⟨g', j * 66, none⟩ = some (.int .i64 hd) := by rw [hhd]; exact HS.out.blk hlt 0 _ (bk_head _)
   have HHD := Lib.hid hhd
   clear hhd
   by_cases h1 : hd = 1
   ·have HR2 : Hid (mFix d x (List.range (j + 1)) = (R0.1, R0.2.1, 0)) := Lib.hid (by rw [HR1.out]; unfold mFixS; rw [if_pos (by rw [<- HHD.out]; exact h1)])
    have e1 : (hd == 1) = true := by rw [beq_iff_eq]; exact h1
    clear h1
    go_wp2
    go_roundw
    case rel => exact ⟨j + 1, by omega, by go_num, by rw [HR2.out], ⟨g', by rw [HR2.out]; exact HS.out⟩, HAA1.out, HAA2.out, HTN.out⟩
    case measure => simp [intOf]; omega
   ·obtain ⟨r, hr⟩ : ∃ r, r = mRenew R0.1 R0.2.1 j := ⟨_, rfl⟩
    have HR2 : Hid (mFix d x (List.range (j + 1)) = r) := Lib.hid (by rw [HR1.out]; unfold mFixS; rw [if_neg (by rw [<- HHD.out]; exact h1), hr])
    have e1 : (hd == 1) = false := by rw [beq_eq_false_iff_ne]; exact h1
    have RN : Hid (Calls Tryz.prog 59 #[.pointer (some ⟨s, 0, none⟩), .int .i64 (j : Int)] wr (StoOut B p f q s k K2 r wr)) := Lib.hid (by
     rw [hr]
     have h1 := HTJ.out
     have h2 := HT.out
     rw [List.length_range] at h1
     exact HS.out.renews HCJ.out j hlt (by omega) (by omega))
    have HRJ : Hid (r.1.f.job = 0) := Lib.hid (by rw [hr]; exact (renew_calm HCJ.out R0.2.1 j).calm.job)
    clear hr h1
    go_upto_region 6 with (go_at_call 59; (refine RN.out.mono ?_); rintro e w5 ⟨rfl, ⟨g5, hs5⟩, ht5⟩; have HS5 := Lib.hid hs5; have HT5 := Lib.hid ht5; clear hs5 ht5)
    have HA15 : Hid (At w5 b1 30 [.pointer (some ⟨s, 0, none⟩)]) := Lib.hid (HAA1.out.kept HT5.out (fun e => e.2 HK1.out))
    have HA25 : Hid (At w5 b2 31 [.int .i64 0]) := Lib.hid (HAA2.out.kept HT5.out (fun e => e.2 HK2.out))
    have HT15 : Hid (Turned (May B K) w w5) := Lib.hid (HTN.out.trans (may_less HT5.out HKK.out))
    have q2 : w5.cell? ⟨b2, 0, none⟩ = some (.int .i64 0) := HA25.out.cell 0
    have qf : w5.frozen? ⟨b2, 0, none⟩ = false := HA25.out.frozen 0
    by_cases e0 : r.2.2 = 0
    ·have HE0 := Lib.hid e0
     have e1 : (r.2.2 != 0) = false := by rw [bne_eq_false_iff_eq]; exact e0
     clear e0
     go_wp2_with fail
     go_roundw
     case rel => exact ⟨j + 1, by omega, by go_num, by rw [HR2.out]; exact HE0.out, ⟨g5, by rw [HR2.out]; exact HS5.out⟩, HA15.out, HA25.out, HT15.out⟩
     case measure => simp [intOf]; omega
    ·have HE0 := Lib.hid e0
     have e1 : (r.2.2 != 0) = true := by rw [bne_iff_ne]; exact e0
     clear e0
     have HRF : Hid (RR = r) := Lib.hid (by
      have hsp : List.range k = List.range (j + 1) ++ (List.range k).drop (j + 1) := by
       have := List.take_append_drop (j + 1) (List.range k)
       rw [List.take_range, Nat.min_eq_left (by omega)] at this
       exact this.symm
      have h2 := mFix_stop ((List.range k).drop (j + 1)) (List.range (j + 1)) d x (by rw [HR2.out]; exact HE0.out)
      rw [<- hsp, HR2.out] at h2
      rw [HRR.out, h2])
     go_wp2_with fail
     have A9 := HA25.out.put 0 (.int .i64 r.2.2)
     have T9 : Turned (Just b2) w5 (w5.setCell ⟨b2, 0, none⟩ (.int .i64 r.2.2)) := (Turned.refl (Just b2) w5).setCell (p := ⟨b2, 0, none⟩) (fun _ => rfl) _
     refine bodyPost_ret (err_res1 Tryz.results44 _ rfl A9) rfl ?_
     rw [HRF.out]
     exact ⟨rfl, ⟨g5, (HS5.out.mine HRJ.out HK2.out T9).less HKK.out⟩, HT15.out.after T9 (fun i hi h => by unfold Just at h; have := HB12.out.2; omega)⟩
  ·have hjk : j = k := by omega
   subst hjk
   have HRF : Hid (RR = R0) := Lib.hid (by rw [HRR.out, HR0.out])
   have HEE : Hid (R0.2.1.bs.any bkEmpty = true) := Lib.hid (by rw [<- HRF.out]; exact HEM.out (by rw [HRF.out]; exact HE.out))
   have CF : Hid (Calls Tryz.prog 61 #[.slice (some ⟨g', 0, none⟩) j j, .func (.func 62) #[] #[]] wr fun e w' => e = .returned (.bool true) /\ Below wr.heap.size wr w') := Lib.hid (by
    have h1 := HS.out.reads
    rw [HS.out.len] at h1
    have h2 := hasB_any h1 (by omega)
    rw [HEE.out] at h2
    exact h2)
   go_upto_region 10 with (go_at_call 61; (refine CF.out.mono ?_); rintro e w5 ⟨rfl, hb5⟩; have HB5 := Lib.hid hb5; clear hb5)
   have HA25 : Hid (At w5 b2 31 [.int .i64 0]) := Lib.hid (HAA2.out.kept (Turned.of_below HB5.out (Nat.le_refl _) NoBlock) (fun h => h))
   have q2 : w5.cell? ⟨b2, 0, none⟩ = some (.int .i64 0) := HA25.out.cell 0
   have qf : w5.frozen? ⟨b2, 0, none⟩ = false := HA25.out.frozen 0
   go_wp2_with fail
   have A9 := HA25.out.put 0 (.int .i64 0)
   have T9 : Turned (Just b2) w5 (w5.setCell ⟨b2, 0, none⟩ (.int .i64 0)) := (Turned.refl (Just b2) w5).setCell (p := ⟨b2, 0, none⟩) (fun _ => rfl) _
   refine bodyPost_ret (err_res1 Tryz.results44 _ rfl A9) rfl ?_
   rw [HRF.out]
   exact ⟨by rw [HE.out] <;> rfl, ⟨g', ((HS.out.below HB5.out).mine HCJ.out.calm.job HK2.out T9).less HKK.out⟩, (HTN.out.trans (Turned.of_below HB5.out (Nat.le_refl _) _)).after T9 (fun i hi h => by unfold Just at h; have := HB12.out.2; omega)⟩
end
end
section
open Go.RowKit Bm Go.Shelf
def stoZ (q : Nat) : List Value := [.pointer (some ⟨q, 0, none⟩), .slice none 0 0] ++ (Bs (List.replicate 64 false) ++ [.bool false])
set_option maxRecDepth 100000 in
theorem run_bsto (q : Nat) (w : World) : (Instr.build 83 #[(0, .pointer (some ⟨q, 0, none⟩))]).run Tryz.prog w = .ok (.agg (stoZ q).toArray) w := by
 unfold stoZ
 generalize Value.pointer (some ⟨q, 0, none⟩) = v
 kernel_rfl
section
variable {ops : Array Oper} {rest : List Oper} {o : Oper} {a : Go.Act} {w : World} {Q : Exit -> Go.Act -> World -> Prop}
theorem wpList_bsto {q : Nat} (y : Operand) (hgd : o.guard = none) (ho : o.op = .build 83 #[(0, y)]) (hy : a.eval y = .pointer (some ⟨q, 0, none⟩))
  (hK : wpList Tryz.prog ops Q rest (a.put o.dst (.agg (stoZ q).toArray)) w) : wpList Tryz.prog ops Q (o :: rest) a w :=
 wpList_plain hgd fun K hK' => by
  unfold Oper.wp execOp
  simp only [ho, List.map_toArray, List.map_cons, List.map_nil, hy, Sem.run_bind, run_bsto, Result.andThen_ok]
  exact hK' _ _ hK
end
def x0 (ws : List (BitVec 32)) : StoM := ⟨(scOf ws).1, List.replicate 64 false, false⟩
def OpenOut (B p f q s k : Nat) (K : Nat -> Prop) (R : DrvM × StoM × Int) (w : World) (e : Ending) (w' : World) : Prop :=
 e = .returned (.tuple #[.pointer (if R.2.2 = 0 then some ⟨s, 0, none⟩ else none), .int .i64 R.2.2]) /\ (∃ g, Sto B p f q s k g K R.1 R.2.1 w') /\ Turned (May B K) w w'
section
variable {B p f q s k g : Nat} {K : Nat -> Prop} {d d' : DrvM} {x : StoM} {w w' : World}
theorem StoL.new (h : Dv B p f q k K d w) (ok : DrvOk k d) (k2 : k <= 64) : StoL B p f q w.heap.size k K d (.slice none 0 0) (List.replicate 64 false) false (w.alloc (.cells (stoZ q).toArray 83)) := by
 have hs : ∀ i, K i -> i < w.heap.size := h.kin
 refine ⟨h.move ok.calm.job (S := NoBlock) (fun _ e => e.elim) ((Turned.refl NoBlock w).alloc _) (fun i e => ?_), At.news w _ _, by simp, k2, h.size, fun e => Nat.lt_irrefl _ (hs _ e)⟩
 rcases e with e | rfl
 ·exact ⟨.inl e, by have := hs i e; simp; omega⟩
 ·exact ⟨.inr (Nat.le_refl _), by simp⟩
set_option maxRecDepth 100000 in
set_option maxHeartbeats 1000000 in
theorem openF_any (h : Dv B p f q k K d w) (ok : DrvOk k d) (k5 : 5 <= k) (k2 : k <= 64) (hu : d.f.chip.up = true) {R : DrvM × StoM × Int}
  (hP : ∀ g W, Sto B p f q w.heap.size k g K (dLook d) (x0 d.f.chip.ws) W -> Calls Tryz.prog 41 #[.pointer (some ⟨w.heap.size, 0, none⟩)] W (StoOut B p f q w.heap.size k K R W)) :
  Calls Tryz.prog 40 #[.pointer (some ⟨q, 0, none⟩), .func (.func 41) #[] #[]] w (OpenOut B p f q w.heap.size k K R w) := by
 have BL := Lib.hid h.blocks0
 obtain ⟨W0, hW0⟩ : ∃ W0, W0 = w.alloc (.cells (stoZ q).toArray 83) := ⟨_, rfl⟩
 have hL0 := StoL.new h ok k2
 rw [<- hW0] at hL0
 have LK := Lib.hid (hL0.look ok (by omega))
 rw [hu] at LK
 simp only [↓reduceIte] at LK
 have HLE : Hid (lookE d = 0) := Lib.hid (by unfold lookE; rw [hu]; rfl)
 have HTB : Hid (Turned (May B K) w W0) := Lib.hid (by rw [hW0]; exact (Turned.refl _ w).alloc _)
 have hW0' := hW0.symm
 obtain ⟨s, hs⟩ : ∃ s, s = w.heap.size := ⟨_, rfl⟩
 rw [<- hs] at LK hP ⊢
 have HP := Lib.hid hP
 have HSS := Lib.hid hs
 have k5' : ¬ ((k : Int) < 5) := by omega
 have k0' : ((k : Int) == 0) = false := by rw [beq_eq_false_iff_ne]; omega
 have HUP := Lib.hid hu
 clear h ok hW0 hL0 hP hs hu
 go_enter Tryz.func40, Tryz.ntmps40
 go_upto_region 7 with (first
  | (go_at_call 43; (with_reducible refine BL.out.mono ?_); rintro e w1 ⟨rfl, hw⟩; obtain rfl := hw.symm)
  | (refine wpList_bsto _ rfl rfl rfl ?_))
 rw [<- HSS.out]
 clear hW0'
 have hle := HLE.out
 go_upto_region 10 with (first
  | (go_at_call 47; (with_reducible refine LK.out.mono ?_); rintro e w2 ⟨rfl, t2, g2, hs2⟩; have HT2 := Lib.hid t2; have HS2 := Lib.hid hs2; clear t2 hs2))
 have PR := Lib.hid (HP.out g2 w2 HS2.out)
 clear hle HP
 by_cases h0 : R.2.2 = 0
 ·have e0 : (R.2.2 != 0) = false := by rw [bne_eq_false_iff_eq]; exact h0
  have H0 := Lib.hid h0
  clear h0
  go_wp2_with (first
   | (go_at_call 41; (with_reducible refine PR.out.mono ?_); rintro e w3 ⟨rfl, hs3, t3⟩; have HS3 := Lib.hid hs3; have HT3 := Lib.hid t3; clear hs3 t3))
  refine bodyPost_ret (results_tmp2 rfl _ _ _) rfl ⟨?_, HS3.out, HTB.out.trans (HT2.out.trans HT3.out)⟩
  rw [if_pos H0.out, H0.out]
  rfl
 ·have e0 : (R.2.2 != 0) = true := by rw [bne_iff_ne]; exact h0
  have H0 := Lib.hid h0
  clear h0
  go_wp2_with (first
   | (go_at_call 41; (with_reducible refine PR.out.mono ?_); rintro e w3 ⟨rfl, hs3, t3⟩; have HS3 := Lib.hid hs3; have HT3 := Lib.hid t3; clear hs3 t3))
  refine bodyPost_ret (results_tmp2 rfl _ _ _) rfl ⟨?_, HS3.out, HTB.out.trans (HT2.out.trans HT3.out)⟩
  rw [if_neg H0.out]
  rfl
set_option maxRecDepth 100000 in
set_option maxHeartbeats 1000000 in
theorem openM_any (h : Dv B p f q k K d w) (ok : DrvOk k d) (k5 : 5 <= k) (k2 : k <= 64) (hu : d.f.chip.up = true) {R : DrvM × StoM × Int}
  (hP : ∀ g W, Sto B p f q w.heap.size k g K (dLook d) (x0 d.f.chip.ws) W -> Calls Tryz.prog 44 #[.pointer (some ⟨w.heap.size, 0, none⟩)] W (StoOut B p f q w.heap.size k K R W)) :
  Calls Tryz.prog 40 #[.pointer (some ⟨q, 0, none⟩), .func (.func 44) #[] #[]] w (OpenOut B p f q w.heap.size k K R w) := by
 have BL := Lib.hid h.blocks0
 obtain ⟨W0, hW0⟩ : ∃ W0, W0 = w.alloc (.cells (stoZ q).toArray 83) := ⟨_, rfl⟩
 have hL0 := StoL.new h ok k2
 rw [<- hW0] at hL0
 have LK := Lib.hid (hL0.look ok (by omega))
 rw [hu] at LK
 simp only [↓reduceIte] at LK
 have HLE : Hid (lookE d = 0) := Lib.hid (by unfold lookE; rw [hu]; rfl)
 have HTB : Hid (Turned (May B K) w W0) := Lib.hid (by rw [hW0]; exact (Turned.refl _ w).alloc _)
 have hW0' := hW0.symm
 obtain ⟨s, hs⟩ : ∃ s, s = w.heap.size := ⟨_, rfl⟩
 rw [<- hs] at LK hP ⊢
 have HP := Lib.hid hP
 have HSS := Lib.hid hs
 have k5' : ¬ ((k : Int) < 5) := by omega
 have k0' : ((k : Int) == 0) = false := by rw [beq_eq_false_iff_ne]; omega
 have HUP := Lib.hid hu
 clear h ok hW0 hL0 hP hs hu
 go_enter Tryz.func40, Tryz.ntmps40
 go_upto_region 7 with (first
  | (go_at_call 43; (with_reducible refine BL.out.mono ?_); rintro e w1 ⟨rfl, hw⟩; obtain rfl := hw.symm)
  | (refine wpList_bsto _ rfl rfl rfl ?_))
 rw [<- HSS.out]
 clear hW0'
 have hle := HLE.out
 go_upto_region 10 with (first
  | (go_at_call 47; (with_reducible refine LK.out.mono ?_); rintro e w2 ⟨rfl, t2, g2, hs2⟩; have HT2 := Lib.hid t2; have HS2 := Lib.hid hs2; clear t2 hs2))
 have PR := Lib.hid (HP.out g2 w2 HS2.out)
 clear hle HP
 by_cases h0 : R.2.2 = 0
 ·have e0 : (R.2.2 != 0) = false := by rw [bne_eq_false_iff_eq]; exact h0
  have H0 := Lib.hid h0
  clear h0
  go_wp2_with (first
   | (go_at_call 44; (with_reducible refine PR.out.mono ?_); rintro e w3 ⟨rfl, hs3, t3⟩; have HS3 := Lib.hid hs3; have HT3 := Lib.hid t3; clear hs3 t3))
  refine bodyPost_ret (results_tmp2 rfl _ _ _) rfl ⟨?_, HS3.out, HTB.out.trans (HT2.out.trans HT3.out)⟩
  rw [if_pos H0.out, H0.out]
  rfl
 ·have e0 : (R.2.2 != 0) = true := by rw [bne_iff_ne]; exact h0
  have H0 := Lib.hid h0
  clear h0
  go_wp2_with (first
   | (go_at_call 44; (with_reducible refine PR.out.mono ?_); rintro e w3 ⟨rfl, hs3, t3⟩; have HS3 := Lib.hid hs3; have HT3 := Lib.hid t3; clear hs3 t3))
  refine bodyPost_ret (results_tmp2 rfl _ _ _) rfl ⟨?_, HS3.out, HTB.out.trans (HT2.out.trans HT3.out)⟩
  rw [if_neg H0.out]
  rfl
theorem topFormat_any {s : Nat} {R : DrvM × StoM × Int} (hO : Calls Tryz.prog 40 #[.pointer (some ⟨q, 0, none⟩), .func (.func 41) #[] #[]] w (OpenOut B p f q s k K R w)) :
  Calls Tryz.prog 12 #[.pointer (some ⟨q, 0, none⟩)] w (OpenOut B p f q s k K R w) := by
 obtain ⟨A, hA⟩ : ∃ A : Option Addr, A = if R.2.2 = 0 then some ⟨s, 0, none⟩ else none := ⟨_, rfl⟩
 obtain ⟨er, her⟩ : ∃ er, er = R.2.2 := ⟨_, rfl⟩
 unfold OpenOut at hO ⊢
 rw [<- hA, <- her] at hO ⊢
 have HO := Lib.hid hO
 clear hO hA her
 go_enter Tryz.func12, Tryz.ntmps12
 go_wp2_with (go_at_call 40; (with_reducible refine HO.out.mono ?_); rintro e w1 ⟨rfl, hs1, t1⟩; have HS1 := Lib.hid hs1; have HT1 := Lib.hid t1; clear hs1 t1)
 exact bodyPost_ret (results_tmp2 rfl _ _ _) rfl ⟨rfl, HS1.out, HT1.out⟩
theorem topMount_any {s : Nat} {R : DrvM × StoM × Int} (hO : Calls Tryz.prog 40 #[.pointer (some ⟨q, 0, none⟩), .func (.func 44) #[] #[]] w (OpenOut B p f q s k K R w)) :
  Calls Tryz.prog 19 #[.pointer (some ⟨q, 0, none⟩)] w (OpenOut B p f q s k K R w) := by
 obtain ⟨A, hA⟩ : ∃ A : Option Addr, A = if R.2.2 = 0 then some ⟨s, 0, none⟩ else none := ⟨_, rfl⟩
 obtain ⟨er, her⟩ : ∃ er, er = R.2.2 := ⟨_, rfl⟩
 unfold OpenOut at hO ⊢
 rw [<- hA, <- her] at hO ⊢
 have HO := Lib.hid hO
 clear hO hA her
 go_enter Tryz.func19, Tryz.ntmps19
 go_wp2_with (go_at_call 40; (with_reducible refine HO.out.mono ?_); rintro e w1 ⟨rfl, hs1, t1⟩; have HS1 := Lib.hid hs1; have HT1 := Lib.hid t1; clear hs1 t1)
 exact bodyPost_ret (results_tmp2 rfl _ _ _) rfl ⟨rfl, HS1.out, HT1.out⟩
theorem Dv.format (h : Dv B p f q k K d w) (ok : DrvOk k d) (k5 : 5 <= k) (k2 : k <= 64) (hu : d.f.chip.up = true) (t0 : 0 <= d.t) (t1 : d.t <= 80000000000000) :
  Calls Tryz.prog 12 #[.pointer (some ⟨q, 0, none⟩)] w (OpenOut B p f q w.heap.size k K (mRenews (dLook d) (x0 d.f.chip.ws) (List.range k)) w) :=
 topFormat_any (openF_any h ok k5 k2 hu (fun g W hs => hs.renewAll (look_calm ok) (by unfold dLook; split <;> exact t0) (by unfold dLook; split <;> exact t1)))
theorem Dv.mountE (h : Dv B p f q k K d w) (ok : DrvOk k d) (k5 : 5 <= k) (k2 : k <= 64) (hu : d.f.chip.up = true) (t0 : 0 <= d.t) (t1 : d.t <= 80000000000000) (hem : (mFix (dLook d) (x0 d.f.chip.ws) (List.range k)).2.2 = 0 -> (mFix (dLook d) (x0 d.f.chip.ws) (List.range k)).2.1.bs.any bkEmpty = true) :
  Calls Tryz.prog 19 #[.pointer (some ⟨q, 0, none⟩)] w (OpenOut B p f q w.heap.size k K (mFix (dLook d) (x0 d.f.chip.ws) (List.range k)) w) :=
 topMount_any (openM_any h ok k5 k2 hu (fun g W hs => hs.repairE (look_calm ok) (by unfold dLook; split <;> exact t0) (by unfold dLook; split <;> exact t1) hem))
end
end
section
open Go.RowKit Bm Go.Shelf
section
variable {w w' : World} {v : Value}
end
end
end Go.Proofs.YtnfgpjfldgocaaaGreat
