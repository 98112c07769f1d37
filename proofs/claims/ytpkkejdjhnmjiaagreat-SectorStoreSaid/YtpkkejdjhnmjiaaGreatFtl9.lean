/- A sector gets a page: change, Write, Trim of a store. | A store repairs what the power left: the doubtful blocks are renewed; the case that a block is empty then. | Format and Mount of a driver whose flash has power. | A store that no call made: nil, or zero. | A new chip and a driver of it, as layer ftl's statements begin. | The answers of the helper alive of layer ftl's statements, as plain data. | The helper alive of layer ftl's statements. -/
import Derived.Test.YtpkkejdjhnmjiaaGreatFtl7
namespace Go.Proofs.YtpkkejdjhnmjiaaGreat
open Go.RowKit Bm Go.Shelf
def mChg (k : Nat) (d : DrvM) (x : StoM) (a : Int) (R : DrvM × StoM × Int) : DrvM × StoM × Int := if (mBegin k d x a).2.2 = 0 then mNote R else mBegin k d x a
section
variable {B p f q s k g : Nat} {K : Nat → Prop} {d d' : DrvM} {x : StoM} {w w' : World}
theorem begin_t (d : DrvM) (x : StoM) (a : Int) : (mBegin k d x a).1.t = d.t := by
  unfold mBegin
  split
  · rfl
  · split
    · rfl
    · show (dLook d).t = d.t
      unfold dLook
      split <;> rfl
theorem mLast_calm (ok : DrvOk k d) (x : StoM) (pg : PageM) : DrvOk k (mLast d x pg).1 := by
  unfold mLast
  cases spotsM x (-1) with
  | nil => exact ok
  | cons z l =>
    unfold mLastL
    dsimp only
    split
    · exact put_calm' ok x _ _ _
    · exact ok
theorem addTo_calm {n : Nat} {pg : PageM} {R : DrvM × StoM × Int} (h : AddTo k pg n d x R) : DrvOk k d → DrvOk k R.1 := by
  induction h with
  | done h1 => exact fun ok => mLast_calm ok _ _
  | stop b h1 h2 h3 h4 => exact fun ok => reclaim_calm ok _ _ _
  | more b h1 h2 h3 h4 h5 ih => exact fun ok => ih (reclaim_calm ok _ _ _)
set_option maxRecDepth 100000 in
set_option maxHeartbeats 1000000 in
theorem Sto.change (h : Sto B p f q s k g K d x w) (ok : DrvOk k d) (hk : k ≤ 19) (k3 : 3 ≤ k) (a : Int) (a0 : -9223372036854775808 ≤ a) (a1 : a ≤ 9223372036854775807) {n : Nat} {pg : PageM} {R : DrvM × StoM × Int}
    (hA : (mBegin k d x a).2.2 = 0 → AddTo k { pg with s := BitVec.ofNat 32 a.toNat } n (mBegin k d x a).1 (mBegin k d x a).2.1 R) (hE : (mBegin k d x a).2.2 = 0 → 0 ≤ R.2.2 ∧ R.2.2 ≤ 100) (t0 : 0 ≤ d.t) (t1 : d.t + 3000 * (n : Int) ≤ 80000000000000) :
    Calls Tryz.prog 141 #[.pointer (some ⟨s, 0, none⟩), .int .i64 a, pgV pg] w (StoOut B p f q s k K (mChg k d x a R) w) := by
  have hk2 := h.k2
  obtain ⟨W0, hW0⟩ : ∃ W0, W0 = w.alloc (.cells (pgC pg).toArray 73) := ⟨_, rfl⟩
  have A0 : At W0 w.heap.size 73 (pgC pg) := by rw [hW0]; exact At.news w _ _
  have B0 : Below w.heap.size w W0 := by rw [hW0]; exact (Below.refl _ w).alloc (Nat.le_refl _) _
  obtain ⟨bx, hbx⟩ : ∃ bx, bx = w.heap.size := ⟨_, rfl⟩
  obtain ⟨K2, hK2⟩ : ∃ K2 : Nat → Prop, K2 = fun i => K i ∨ i = bx := ⟨_, rfl⟩
  have HKX : Hid (K2 bx) := Lib.hid (by rw [hK2]; exact .inr rfl)
  have HKK : Hid (∀ i, K i → K2 i) := Lib.hid (fun i e => by rw [hK2]; exact .inl e)
  have hS0 : Sto B p f q s k g K2 d x W0 := h.renew ok.calm.job B0 (fun i e => by
    rw [hK2] at e
    rcases e with e | rfl
    · exact ⟨.inl e, Nat.lt_of_lt_of_le (h.kin i e) B0.size⟩
    · exact ⟨.inr (by omega), by rw [hbx]; exact A0.lt⟩)
  have BE := Lib.hid (hS0.begin ok k3 a a0 a1)
  have HRG : Hid ((mBegin k d x a).2.2 = 0 → 0 ≤ a ∧ a < secs k) := Lib.hid begin_range
  have HCL := Lib.hid (begin_calm (k := k) ok x a)
  have HBT := Lib.hid (begin_t (k := k) d x a)
  have HMC : Hid (mChg k d x a R = if (mBegin k d x a).2.2 = 0 then mNote R else mBegin k d x a) := Lib.hid rfl
  obtain ⟨r, hr⟩ : ∃ r, r = mBegin k d x a := ⟨_, rfl⟩
  obtain ⟨RR, hRR⟩ : ∃ RR, RR = mChg k d x a R := ⟨_, rfl⟩
  rw [← hr] at BE HRG HCL HBT HMC hA hE
  rw [← hRR] at HMC ⊢
  have HA := Lib.hid hA
  have HE := Lib.hid hE
  have HT := Lib.hid (show 0 ≤ d.t ∧ d.t + 3000 * (n : Int) ≤ 80000000000000 from ⟨t0, t1⟩)
  have HBX := Lib.hid hbx
  have HSZ := Lib.hid h.size
  have hW0' : w.alloc (.cells (pgC pg).toArray 73) = W0 := hW0.symm
  rw [← hbx] at A0
  have HA0 := Lib.hid A0
  have HB0 := Lib.hid B0
  have HKN := Lib.hid hk
  have HK3 := Lib.hid k3
  clear h ok hA hE t0 t1 A0 B0 hbx hS0 hK2 hW0 hr hRR hk k3
  unfold pgV
  by_cases he : r.2.2 = 0
  · obtain ⟨n0, n1⟩ := HRG.out he
    obtain ⟨m, rfl⟩ : ∃ m : Nat, a = (m : Int) := ⟨a.toNat, by omega⟩
    have hm4 : (m : Int) < 400 := by unfold secs at n1; omega
    have HE0 := Lib.hid he
    have e1 : (r.2.2 != 0) = false := by rw [bne_eq_false_iff_eq]; exact he
    have HU : Hid (U (BitVec.ofNat 32 m) = (m : Int)) := Lib.hid (U_ofNat m (by omega))
    have HRN : Hid (RR = mNote R) := Lib.hid (by rw [HMC.out, if_pos he])
    have HAD := Lib.hid (HA.out he)
    have HER := Lib.hid (HE.out he)
    clear he n1 a0 a1 HMC HA HE HRG
    obtain ⟨p9, hp9⟩ : ∃ p9 : PageM, p9 = { pg with s := BitVec.ofNat 32 (m : Int).toNat } := ⟨_, rfl⟩
    rw [← hp9] at HAD
    rw [Int.toNat_natCast] at hp9
    have HP9 := Lib.hid hp9
    clear hp9
    go_enter Tryz.func141, Tryz.ntmps141
    go_upto_region 1 with (fail)
    rw [← HBX.out]
    clear hW0'
    go_upto_region 4 with (first
      | (go_at_call 20; (with_reducible refine BE.out.mono ?_); rintro e w1 ⟨rfl, ⟨g1, hs1⟩, t1⟩; have HS1 := Lib.hid hs1; have HT1 := Lib.hid t1; clear hs1 t1))
    have hat1 : At w1 bx 73 (pgC pg) := HA0.out.kept HT1.out (fun e => e.2 HKX.out)
    have HAT1 := Lib.hid hat1
    have p0 : w1.cell? ⟨bx, 0, none⟩ = some (.int .u32 (U pg.s)) := hat1.cell 0
    have pf : w1.frozen? ⟨bx, 0, none⟩ = false := hat1.frozen 0
    clear hat1
    go_upto_region 5 with (fail)
    obtain ⟨W4, hW4⟩ : ∃ W4, W4 = w1.setCell ⟨bx, 0, none⟩ (.int .u32 (m : Int)) := ⟨_, rfl⟩
    rw [← hW4]
    have A4 := HAT1.out.put 0 (.int .u32 (m : Int))
    rw [← hW4, show (pgC pg).set 0 (.int .u32 (m : Int)) = pgC p9 from by rw [HP9.out, ← HU.out]; rfl] at A4
    have T4 : Turned (Just bx) w1 W4 := by rw [hW4]; exact (Turned.refl (Just bx) w1).setCell (p := ⟨bx, 0, none⟩) (fun _ => rfl) _
    have hs4 := HS1.out.mine HCL.out.calm.job HKX.out T4
    have TF : Hid (Turned (May B K) w W4) := Lib.hid (((Turned.of_below HB0.out (Nat.le_refl _) _).trans (may_less HT1.out HKK.out)).after T4 (fun i hi h => by unfold Just at h; have := HBX.out; omega))
    have q0 : W4.cell? ⟨bx, 0, none⟩ = some (.int .u32 (U p9.s)) := A4.cell 0
    have q1 : W4.cell? ⟨bx, 1, none⟩ = some (.int .u32 (U p9.q)) := A4.cell 1
    have q2 : W4.cell? ⟨bx, 2, none⟩ = some (.bool p9.g) := A4.cell 2
    have q3 : W4.cell? ⟨bx, 3, none⟩ = some (.int .u32 (U p9.d0)) := A4.cell 3
    have q4 : W4.cell? ⟨bx, 4, none⟩ = some (.int .u32 (U p9.d1)) := A4.cell 4
    have q5 : W4.cell? ⟨bx, 5, none⟩ = some (.int .u32 (U p9.d2)) := A4.cell 5
    have q6 : W4.cell? ⟨bx, 6, none⟩ = some (.int .u32 (U p9.d3)) := A4.cell 6
    have AD : Hid (Calls Tryz.prog 142 #[.pointer (some ⟨s, 0, none⟩), .agg #[.int .u32 (U p9.s), .int .u32 (U p9.q), .bool p9.g, .int .u32 (U p9.d0), .int .u32 (U p9.d1), .int .u32 (U p9.d2), .int .u32 (U p9.d3)]] W4 (StoOut B p f q s k K2 R W4)) := Lib.hid (hs4.add HCL.out HKN.out HK3.out HAD.out (by rw [HBT.out]; exact HT.out.1) (by rw [HBT.out]; exact HT.out.2))
    have HJ : Hid (R.1.f.job = 0) := Lib.hid (addTo_calm HAD.out HCL.out).calm.job
    clear A4 T4 hs4 hW4 pf p0 HS1 HT1 HAT1
    go_wp2_with (first
      | (go_at_call 142; (with_reducible refine AD.out.mono ?_); rintro e w5 ⟨rfl, ⟨g5, hs5⟩, t5⟩; have HS5 := Lib.hid hs5; have HT5 := Lib.hid t5; clear hs5 t5)
      | (go_at_call 38; (with_reducible refine (HS5.out.note HJ.out _ HER.out).mono ?_); rintro e w6 ⟨rfl, hs6, t6⟩; have HS6 := Lib.hid hs6; have HT6 := Lib.hid t6; clear hs6 t6))
    go_ret
    rw [HRN.out]
    exact ⟨rfl, ⟨g5, HS6.out.less HKK.out⟩, TF.out.trans (may_less (HT5.out.trans HT6.out) HKK.out)⟩
  · have e1 : (r.2.2 != 0) = true := by rw [bne_iff_ne]; exact he
    have HRN : Hid (RR = r) := Lib.hid (by rw [HMC.out, if_neg he])
    clear he HMC HRG HA HE
    go_enter Tryz.func141, Tryz.ntmps141
    go_upto_region 1 with (fail)
    rw [← HBX.out]
    clear hW0'
    go_wp2_with (first
      | (go_at_call 20; (with_reducible refine BE.out.mono ?_); rintro e w1 ⟨rfl, ⟨g1, hs1⟩, t1⟩; have HS1 := Lib.hid hs1; have HT1 := Lib.hid t1; clear hs1 t1))
    go_ret
    rw [HRN.out]
    exact ⟨rfl, ⟨g1, HS1.out.less HKK.out⟩, (Turned.of_below HB0.out (Nat.le_refl _) _).trans (may_less HT1.out HKK.out)⟩
def pgW (a b c e : BitVec 32) : PageM := ⟨0#32, 0#32, false, a, b, c, e⟩
def pgT : PageM := ⟨0#32, 0#32, true, 0#32, 0#32, 0#32, 0#32⟩
theorem run_pgW (a b c e : BitVec 32) (w : World) : (Instr.build 73 #[(3, .agg #[.int .u32 (U a), .int .u32 (U b), .int .u32 (U c), .int .u32 (U e)])]).run Tryz.prog w = .ok (pgV (pgW a b c e)) w := by
  unfold pgV pgW pgC
  simp only
  generalize U a = a
  generalize U b = b
  generalize U c = c
  generalize U e = e
  kernel_rfl
theorem run_pgT (w : World) : (Instr.build 73 #[(2, .bool true)]).run Tryz.prog w = .ok (pgV pgT) w := by kernel_rfl
end
section
variable {ops : Array Oper} {rest : List Oper} {o : Oper} {a : Go.Act} {w : World} {Q : Exit → Go.Act → World → Prop}
theorem wpList_pgW {v0 v1 v2 v3 : BitVec 32} (y : Operand) (hgd : o.guard = none) (ho : o.op = .build 73 #[(3, y)]) (hy : a.eval y = .agg #[.int .u32 (U v0), .int .u32 (U v1), .int .u32 (U v2), .int .u32 (U v3)])
    (hK : wpList Tryz.prog ops Q rest (a.put o.dst (.agg (pgC (pgW v0 v1 v2 v3)).toArray)) w) : wpList Tryz.prog ops Q (o :: rest) a w :=
  wpList_plain hgd fun K hK' => by
    unfold Oper.wp execOp
    simp only [ho, List.map_toArray, List.map_cons, List.map_nil, hy, Sem.run_bind, run_pgW, Result.andThen_ok]
    exact hK' _ _ hK
theorem wpList_pgT (hgd : o.guard = none) (ho : o.op = .build 73 #[(2, .const (.bool true))])
    (hK : wpList Tryz.prog ops Q rest (a.put o.dst (.agg (pgC pgT).toArray)) w) : wpList Tryz.prog ops Q (o :: rest) a w :=
  wpList_plain hgd fun K hK' => by
    unfold Oper.wp execOp
    have hc : a.eval (.const (.bool true)) = .bool true := rfl
    simp only [ho, List.map_toArray, List.map_cons, List.map_nil, hc, Sem.run_bind, run_pgT, Result.andThen_ok]
    exact hK' _ _ hK
end
section
variable {B p f q s k g : Nat} {K : Nat → Prop} {d d' : DrvM} {x : StoM} {w w' : World}
theorem Sto.write (h : Sto B p f q s k g K d x w) (ok : DrvOk k d) (hk : k ≤ 19) (k3 : 3 ≤ k) (a : Int) (a0 : -9223372036854775808 ≤ a) (a1 : a ≤ 9223372036854775807) {n : Nat} {v0 v1 v2 v3 : BitVec 32} {R : DrvM × StoM × Int}
    (hA : (mBegin k d x a).2.2 = 0 → AddTo k { pgW v0 v1 v2 v3 with s := BitVec.ofNat 32 a.toNat } n (mBegin k d x a).1 (mBegin k d x a).2.1 R) (hE : (mBegin k d x a).2.2 = 0 → 0 ≤ R.2.2 ∧ R.2.2 ≤ 100) (t0 : 0 ≤ d.t) (t1 : d.t + 3000 * (n : Int) ≤ 80000000000000) :
    Calls Tryz.prog 140 #[.pointer (some ⟨s, 0, none⟩), .int .i64 a, .agg #[.int .u32 (U v0), .int .u32 (U v1), .int .u32 (U v2), .int .u32 (U v3)]] w (StoOut B p f q s k K (mChg k d x a R) w) := by
  obtain ⟨W0, hW0⟩ : ∃ W0, W0 = w.alloc (.cells #[.int .u32 (U v0), .int .u32 (U v1), .int .u32 (U v2), .int .u32 (U v3)] 43) := ⟨_, rfl⟩
  have hW0' := hW0.symm
  have B0 : Below w.heap.size w W0 := by rw [hW0]; exact (Below.refl _ w).alloc (Nat.le_refl _) _
  have A0 : At W0 w.heap.size 43 [.int .u32 (U v0), .int .u32 (U v1), .int .u32 (U v2), .int .u32 (U v3)] := by rw [hW0]; exact At.news w _ _
  have q0 : W0.cell? ⟨w.heap.size, 0, none⟩ = some (.int .u32 (U v0)) := A0.cell 0
  have q1 : W0.cell? ⟨w.heap.size, 1, none⟩ = some (.int .u32 (U v1)) := A0.cell 1
  have q2 : W0.cell? ⟨w.heap.size, 2, none⟩ = some (.int .u32 (U v2)) := A0.cell 2
  have q3 : W0.cell? ⟨w.heap.size, 3, none⟩ = some (.int .u32 (U v3)) := A0.cell 3
  have CH := Lib.hid ((h.below B0).change ok hk k3 a a0 a1 hA hE t0 t1)
  have HB0 := Lib.hid B0
  unfold pgV at CH
  clear h ok hA hE t0 t1 A0 B0 hW0
  go_enter Tryz.func140, Tryz.ntmps140
  go_wp2_with (first
    | (refine wpList_pgW _ rfl rfl rfl ?_)
    | (go_at_call 141; (with_reducible refine CH.out.mono ?_); rintro e w1 ⟨rfl, hs1, t1⟩; have HS1 := Lib.hid hs1; have HT1 := Lib.hid t1; clear hs1 t1))
  go_ret
  exact ⟨rfl, HS1.out, (Turned.of_below HB0.out (Nat.le_refl _) _).trans HT1.out⟩
theorem Sto.trim (h : Sto B p f q s k g K d x w) (ok : DrvOk k d) (hk : k ≤ 19) (k3 : 3 ≤ k) (a : Int) (a0 : -9223372036854775808 ≤ a) (a1 : a ≤ 9223372036854775807) {n : Nat} {R : DrvM × StoM × Int}
    (hA : (mBegin k d x a).2.2 = 0 → AddTo k { pgT with s := BitVec.ofNat 32 a.toNat } n (mBegin k d x a).1 (mBegin k d x a).2.1 R) (hE : (mBegin k d x a).2.2 = 0 → 0 ≤ R.2.2 ∧ R.2.2 ≤ 100) (t0 : 0 ≤ d.t) (t1 : d.t + 3000 * (n : Int) ≤ 80000000000000) :
    Calls Tryz.prog 139 #[.pointer (some ⟨s, 0, none⟩), .int .i64 a] w (StoOut B p f q s k K (mChg k d x a R) w) := by
  have CH := Lib.hid (h.change ok hk k3 a a0 a1 hA hE t0 t1)
  unfold pgV at CH
  clear h ok hA hE t0 t1
  go_enter Tryz.func139, Tryz.ntmps139
  go_wp2_with (first
    | (refine wpList_pgT rfl rfl ?_)
    | (go_at_call 141; (with_reducible refine CH.out.mono ?_); rintro e w1 ⟨rfl, hs1, t1⟩; have HS1 := Lib.hid hs1; have HT1 := Lib.hid t1; clear hs1 t1))
  go_ret
  exact ⟨rfl, HS1.out, HT1.out⟩
end
end Go.Proofs.YtpkkejdjhnmjiaaGreat
namespace Go.Proofs.YtpkkejdjhnmjiaaGreat
open Go.RowKit Bm Go.Shelf
section
variable {w w' : World} {A : Option Addr} {n cap : Nat} {bs : List BlkM}
end
def mFixS (d : DrvM) (x : StoM) (b : Nat) : DrvM × StoM × Int := if (bkN x.bs b).head = 1 then (d, x, 0) else mRenew d x b
def mFix (d : DrvM) (x : StoM) : List Nat → DrvM × StoM × Int
  | [] => (d, x, 0)
  | b :: l => let r := mFixS d x b; if r.2.2 ≠ 0 then r else mFix r.1 r.2.1 l
theorem mFix_nil (d : DrvM) (x : StoM) : mFix d x [] = (d, x, 0) := by rw [mFix]
theorem mFix_go {d : DrvM} {x : StoM} {z : Nat} {l : List Nat} (h : (mFixS d x z).2.2 = 0) : mFix d x (z :: l) = mFix (mFixS d x z).1 (mFixS d x z).2.1 l := by
  rw [mFix]
  exact if_neg (fun h2 => h2 h)
section
variable {B p f q s k g : Nat} {K : Nat → Prop} {d d' : DrvM} {x : StoM} {w w' : World}
end
end Go.Proofs.YtpkkejdjhnmjiaaGreat
namespace Go.Proofs.YtpkkejdjhnmjiaaGreat
open Go.RowKit Bm Go.Shelf
def stoZ (q : Nat) : List Value := [.pointer (some ⟨q, 0, none⟩), .slice none 0 0] ++ (Bs (List.replicate 64 false) ++ [.bool false])
set_option maxRecDepth 100000 in
theorem run_bsto (q : Nat) (w : World) : (Instr.build 83 #[(0, .pointer (some ⟨q, 0, none⟩))]).run Tryz.prog w = .ok (.agg (stoZ q).toArray) w := by
  unfold stoZ
  generalize Value.pointer (some ⟨q, 0, none⟩) = v
  kernel_rfl
section
variable {ops : Array Oper} {rest : List Oper} {o : Oper} {a : Go.Act} {w : World} {Q : Exit → Go.Act → World → Prop}
theorem wpList_bsto {q : Nat} (y : Operand) (hgd : o.guard = none) (ho : o.op = .build 83 #[(0, y)]) (hy : a.eval y = .pointer (some ⟨q, 0, none⟩))
    (hK : wpList Tryz.prog ops Q rest (a.put o.dst (.agg (stoZ q).toArray)) w) : wpList Tryz.prog ops Q (o :: rest) a w :=
  wpList_plain hgd fun K hK' => by
    unfold Oper.wp execOp
    simp only [ho, List.map_toArray, List.map_cons, List.map_nil, hy, Sem.run_bind, run_bsto, Result.andThen_ok]
    exact hK' _ _ hK
end
def x0 (ws : List (BitVec 32)) : StoM := ⟨(scOf ws).1, List.replicate 64 false, false⟩
def OpenOut (B p f q s k : Nat) (K : Nat → Prop) (R : DrvM × StoM × Int) (w : World) (e : Ending) (w' : World) : Prop :=
  e = .returned (.tuple #[.pointer (if R.2.2 = 0 then some ⟨s, 0, none⟩ else none), .int .i64 R.2.2]) ∧ (∃ g, Sto B p f q s k g K R.1 R.2.1 w') ∧ Turned (May B K) w w'
section
variable {B p f q s k g : Nat} {K : Nat → Prop} {d d' : DrvM} {x : StoM} {w w' : World}
theorem StoL.new (h : Dv B p f q k K d w) (ok : DrvOk k d) (k2 : k ≤ 64) : StoL B p f q w.heap.size k K d (.slice none 0 0) (List.replicate 64 false) false (w.alloc (.cells (stoZ q).toArray 83)) := by
  have hs : ∀ i, K i → i < w.heap.size := h.kin
  refine ⟨h.move ok.calm.job (S := NoBlock) (fun _ e => e.elim) ((Turned.refl NoBlock w).alloc _) (fun i e => ?_), At.news w _ _, by simp, k2, h.size, fun e => Nat.lt_irrefl _ (hs _ e)⟩
  rcases e with e | rfl
  · exact ⟨.inl e, by have := hs i e; simp; omega⟩
  · exact ⟨.inr (Nat.le_refl _), by simp⟩
set_option maxRecDepth 100000 in
set_option maxHeartbeats 1000000 in
theorem openF_any (h : Dv B p f q k K d w) (ok : DrvOk k d) (k5 : 5 ≤ k) (k2 : k ≤ 64) (hu : d.f.chip.up = true) {R : DrvM × StoM × Int}
    (hP : ∀ g W, Sto B p f q w.heap.size k g K (dLook d) (x0 d.f.chip.ws) W → Calls Tryz.prog 17 #[.pointer (some ⟨w.heap.size, 0, none⟩)] W (StoOut B p f q w.heap.size k K R W)) :
    Calls Tryz.prog 16 #[.pointer (some ⟨q, 0, none⟩), .func (.func 17) #[] #[]] w (OpenOut B p f q w.heap.size k K R w) := by
  have BL := Lib.hid h.blocks0
  obtain ⟨W0, hW0⟩ : ∃ W0, W0 = w.alloc (.cells (stoZ q).toArray 83) := ⟨_, rfl⟩
  have hL0 := StoL.new h ok k2
  rw [← hW0] at hL0
  have LK := Lib.hid (hL0.look ok (by omega))
  rw [hu] at LK
  simp only [↓reduceIte] at LK
  have HLE : Hid (lookE d = 0) := Lib.hid (by unfold lookE; rw [hu]; rfl)
  have HTB : Hid (Turned (May B K) w W0) := Lib.hid (by rw [hW0]; exact (Turned.refl _ w).alloc _)
  have hW0' := hW0.symm
  obtain ⟨s, hs⟩ : ∃ s, s = w.heap.size := ⟨_, rfl⟩
  rw [← hs] at LK hP ⊢
  have HP := Lib.hid hP
  have HSS := Lib.hid hs
  have k5' : ¬ ((k : Int) < 5) := by omega
  have k0' : ((k : Int) == 0) = false := by rw [beq_eq_false_iff_ne]; omega
  have HUP := Lib.hid hu
  clear h ok hW0 hL0 hP hs hu
  go_enter Tryz.func16, Tryz.ntmps16
  go_upto_region 7 with (first
    | (go_at_call 32; (with_reducible refine BL.out.mono ?_); rintro e w1 ⟨rfl, hw⟩; obtain rfl := hw.symm)
    | (refine wpList_bsto _ rfl rfl rfl ?_))
  rw [← HSS.out]
  clear hW0'
  have hle := HLE.out
  go_upto_region 10 with (first
    | (go_at_call 33; (with_reducible refine LK.out.mono ?_); rintro e w2 ⟨rfl, t2, g2, hs2⟩; have HT2 := Lib.hid t2; have HS2 := Lib.hid hs2; clear t2 hs2))
  have PR := Lib.hid (HP.out g2 w2 HS2.out)
  clear hle HP
  by_cases h0 : R.2.2 = 0
  · have e0 : (R.2.2 != 0) = false := by rw [bne_eq_false_iff_eq]; exact h0
    have H0 := Lib.hid h0
    clear h0
    go_wp2_with (first
      | (go_at_call 17; (with_reducible refine PR.out.mono ?_); rintro e w3 ⟨rfl, hs3, t3⟩; have HS3 := Lib.hid hs3; have HT3 := Lib.hid t3; clear hs3 t3))
    refine bodyPost_ret (results_tmp2 rfl _ _ _) rfl ⟨?_, HS3.out, HTB.out.trans (HT2.out.trans HT3.out)⟩
    rw [if_pos H0.out, H0.out]
    rfl
  · have e0 : (R.2.2 != 0) = true := by rw [bne_iff_ne]; exact h0
    have H0 := Lib.hid h0
    clear h0
    go_wp2_with (first
      | (go_at_call 17; (with_reducible refine PR.out.mono ?_); rintro e w3 ⟨rfl, hs3, t3⟩; have HS3 := Lib.hid hs3; have HT3 := Lib.hid t3; clear hs3 t3))
    refine bodyPost_ret (results_tmp2 rfl _ _ _) rfl ⟨?_, HS3.out, HTB.out.trans (HT2.out.trans HT3.out)⟩
    rw [if_neg H0.out]
    rfl
theorem topFormat_any {s : Nat} {R : DrvM × StoM × Int} (hO : Calls Tryz.prog 16 #[.pointer (some ⟨q, 0, none⟩), .func (.func 17) #[] #[]] w (OpenOut B p f q s k K R w)) :
    Calls Tryz.prog 6 #[.pointer (some ⟨q, 0, none⟩)] w (OpenOut B p f q s k K R w) := by
  obtain ⟨A, hA⟩ : ∃ A : Option Addr, A = if R.2.2 = 0 then some ⟨s, 0, none⟩ else none := ⟨_, rfl⟩
  obtain ⟨er, her⟩ : ∃ er, er = R.2.2 := ⟨_, rfl⟩
  unfold OpenOut at hO ⊢
  rw [← hA, ← her] at hO ⊢
  have HO := Lib.hid hO
  clear hO hA her
  go_enter Tryz.func6, Tryz.ntmps6
  go_wp2_with (go_at_call 16; (with_reducible refine HO.out.mono ?_); rintro e w1 ⟨rfl, hs1, t1⟩; have HS1 := Lib.hid hs1; have HT1 := Lib.hid t1; clear hs1 t1)
  exact bodyPost_ret (results_tmp2 rfl _ _ _) rfl ⟨rfl, HS1.out, HT1.out⟩
theorem Dv.format (h : Dv B p f q k K d w) (ok : DrvOk k d) (k5 : 5 ≤ k) (k2 : k ≤ 64) (hu : d.f.chip.up = true) (t0 : 0 ≤ d.t) (t1 : d.t ≤ 80000000000000) :
    Calls Tryz.prog 6 #[.pointer (some ⟨q, 0, none⟩)] w (OpenOut B p f q w.heap.size k K (mRenews (dLook d) (x0 d.f.chip.ws) (List.range k)) w) :=
  topFormat_any (openF_any h ok k5 k2 hu (fun g W hs => hs.renewAll (look_calm ok) (by unfold dLook; split <;> exact t0) (by unfold dLook; split <;> exact t1)))
end
end Go.Proofs.YtpkkejdjhnmjiaaGreat
namespace Go.Proofs.YtpkkejdjhnmjiaaGreat
open Go.RowKit Bm Go.Shelf
def NoSto (w : World) (v : Value) : Prop := v = .pointer none ∨ ∃ z, v = .pointer (some ⟨z, 0, none⟩) ∧ w.cell? ⟨z, 0, none⟩ = some (.pointer none) ∧ z < w.heap.size
section
variable {w w' : World} {v : Value}
theorem NoSto.below (h : NoSto w v) (hB : Below w.heap.size w w') : NoSto w' v := by
  rcases h with rfl | ⟨z, rfl, hc, hz⟩
  · exact .inl rfl
  · exact .inr ⟨z, rfl, (hB.cell (p := ⟨z, 0, none⟩) hz).trans hc, Nat.lt_of_lt_of_le hz hB.size⟩
end
end Go.Proofs.YtpkkejdjhnmjiaaGreat

namespace Go.Proofs.YtpkkejdjhnmjiaaGreat
open Go.RowKit Bm Go.Shelf
section
variable {B B0 p f q k bx : Nat} {K : Nat → Prop} {d : DrvM} {w w' : World}
theorem Dv.lower (h : Dv B0 p f q k NoBlock d w) (hB : B ≤ bx) (hb : bx < B0) : Dv B p f q k (Just bx) d w := by
  obtain ⟨⟨⟨x, hp, hf, hx, ho⟩, hs, hk⟩, hw, hq⟩ := h
  refine ⟨⟨⟨x, hp, hf, hx, fun i hi => ?_⟩, by omega, fun i e => ?_⟩, hw, ⟨by have := hq.1; omega, fun e => by have := hq.1; unfold Just at e; omega⟩⟩
  · have h1 := ho i hi
    refine ⟨by have := h1.1; omega, fun e => ?_⟩
    rcases e with e | e
    · have := h1.1
      unfold Just at e
      omega
    · exact h1.2 (.inr e)
  · rcases e with e | e
    · unfold Just at e
      omega
    · exact hk i (.inr e)
def wdC (p q : Nat) : List Value := [.pointer (some ⟨p, 0, none⟩), .pointer (some ⟨q, 0, none⟩)]
def wd0 : List Value := [.pointer none, .pointer none]
theorem wd_size : (Tryz.prog.info? 27).map (·.size) = some 2 := by kernel_rfl
theorem wd_res2 {fn : Func} {i j : Tmp} (h : fn.results = #[.cell i 27, .tmp j]) (tmps : Array Value) {w : World} {g : Nat} {cs : List Value} {v : Value} (hp : tmps.getD i undef = .pointer (some ⟨g, 0, none⟩)) (hq : tmps.getD j undef = v) (hA : At w g 27 cs) (hn : cs.length = 2) :
    (results fn tmps).run Tryz.prog w = .ok (.tuple #[.agg cs.toArray, v]) w := by
  have hp' : tmps[i]?.getD undef = .pointer (some ⟨g, 0, none⟩) := by simpa using hp
  have hq' : tmps[j]?.getD undef = v := by simpa using hq
  simp [results, h, hp', hq', asAddr, run_loadVar_row (P := Tryz.prog) w g 27 27 cs.toArray (0, 0) _ hA Tryz.underlying27 rfl (by rw [wd_size]; simp [hn])]
def MadeW (B k : Nat) (d : DrvM) (w : World) (e : Ending) (w' : World) : Prop :=
  ∃ p f q, e = .returned (.tuple #[.agg #[.pointer (some ⟨p, 0, none⟩), .pointer (some ⟨q, 0, none⟩)], .bool true]) ∧ Dv B p f q k NoBlock d w' ∧ Below w.heap.size w w'
set_option maxRecDepth 100000 in
set_option maxHeartbeats 1000000 in
theorem begin8_any (k : Nat) (endure : Int) (w : World) (hB : B ≤ w.heap.size) (k1 : 1 ≤ k) (k2 : k ≤ 64) (e0 : 0 ≤ endure) (e1 : endure ≤ 9223372036854775807) :
    Calls Tryz.prog 5 #[.int .i64 k, .int .i64 endure] w (MadeW B k ⟨fNew (mNew k endure), 0⟩ w) := by
  obtain ⟨W0, hW0⟩ : ∃ W0, W0 = w.alloc (.cells #[.pointer none, .pointer none] 27) := ⟨_, rfl⟩
  have hW0' := hW0.symm
  have A0 : At W0 w.heap.size 27 wd0 := by rw [hW0]; exact At.news w _ _
  have B0 : Below w.heap.size w W0 := by rw [hW0]; exact (Below.refl _ w).alloc (Nat.le_refl _) _
  have Z0 : W0.heap.size = w.heap.size + 1 := by rw [hW0]; simp
  have hl : 1 ≤ (mNew k endure).wear.length := by simp [mNew, mOf]; omega
  have hok := newOk k endure k1 k2 e0 e1
  have hn := new_yes k endure W0 k1 k2 e0 e1
  obtain ⟨c, hc⟩ : ∃ c, c = mNew k endure := ⟨_, rfl⟩
  rw [← hc] at hl hn hok ⊢
  have HN := Lib.hid hn
  have HL := Lib.hid hl
  have HOK := Lib.hid hok
  have HA0 := Lib.hid A0
  have HB0 := Lib.hid B0
  have HZ0 := Lib.hid Z0
  have HBB := Lib.hid hB
  obtain ⟨bx, hbx⟩ : ∃ bx, bx = w.heap.size := ⟨_, rfl⟩
  rw [← hbx] at HA0 HZ0
  have HBX := Lib.hid hbx
  clear hn hl hok k1 k2 e0 e1 A0 B0 Z0 hc hW0 hbx hB
  go_enter Tryz.func5, Tryz.ntmps5
  go_upto_region 1 with (fail)
  rw [← HBX.out]
  clear hW0'
  go_upto_region 2 with (first
    | (go_at_call 13; (with_reducible refine HN.out.mono ?_); rintro e w1 ⟨h, rfl, hc, ho, hB⟩; have HC := Lib.hid hc; have HO := Lib.hid ho; have HB1 := Lib.hid hB; clear hc ho hB))
  have FN := Lib.hid (fnew_any h c w1 HC.out HL.out)
  go_upto_region 5 with (first
    | (go_at_call 14; (with_reducible refine FN.out.mono ?_); rintro e w2 ⟨f, l, rfl, x2, hf, hl2, hB2⟩; have X2 := Lib.hid x2; have HF := Lib.hid hf; have HL2 := Lib.hid hl2; have HB2 := Lib.hid hB2; clear x2 hf hl2 hB2))
  have HS2 : Hid (St W0.heap.size h.p f (fNew c) w2) := Lib.hid (by
    refine ⟨⟨⟨h, f, l, 0, 0, 0⟩, rfl, rfl, X2.out, fun i hi => ?_⟩, Nat.le_trans HB1.out.size HB2.out.size⟩
    have h1 := HB1.out.size
    have h2 := HF.out
    have h3 := HL2.out
    rcases hi with e | e | e
    · exact HO.out i e
    · simp only at e; omega
    · simp only at e; omega)
  have DN := Lib.hid (dnew_any W0.heap.size h.p f k (fNew c) w2 HS2.out HOK.out)
  go_upto_region 8 with (first
    | (go_at_call 15; (with_reducible refine DN.out.mono ?_); rintro e w3 ⟨q, rfl, s3, hB3⟩; have HS3 := Lib.hid s3; have HB3 := Lib.hid hB3; clear s3 hB3))
  have HB13 : Hid (Below W0.heap.size W0 w3) := Lib.hid (HB1.out.trans ((HB2.out.mono HB1.out.size).trans (HB3.out.mono (Nat.le_trans HB1.out.size HB2.out.size))))
  have HA3 : Hid (At w3 bx 27 wd0) := Lib.hid (HA0.out.kept (Turned.of_below HB13.out (Nat.le_refl _) NoBlock) (fun h => h))
  go_wp2_with (first
    | (refine wpList_stm (pre := []) (post := []) (xs := wd0) (ys := wdC h.p q) _ _ rfl rfl rfl rfl wd_size rfl rfl (by simp [wdC, Value.oneCell']) rfl (by simp) HA3.out ?_; intro w5 A5 T5; rw [List.nil_append, List.append_nil] at A5; have HA5 := Lib.hid A5; have HT5 := Lib.hid T5; clear A5 T5))
  refine bodyPost_ret (wd_res2 (cs := wdC h.p q) Tryz.results5 _ rfl rfl HA5.out rfl) rfl ⟨h.p, f, q, rfl, ?_, ?_⟩
  · have h1 := HS3.out.lower (B := B) (bx := bx) (by rw [HBX.out]; exact HBB.out) (by have := HZ0.out; omega)
    exact (h1.lones rfl (S := Just bx) (fun i e => e) HT5.out).less (fun _ e => e.elim)
  · exact (HB0.out.trans (HB13.out.mono HB0.out.size)).trans (HT5.out.below (fun i hi => by unfold Just at hi; have := HBX.out; omega) (HB0.out.trans (HB13.out.mono HB0.out.size)).size)
end
end Go.Proofs.YtpkkejdjhnmjiaaGreat
namespace Go.Proofs.YtpkkejdjhnmjiaaGreat
open Go.RowKit Bm Go.Shelf
end Go.Proofs.YtpkkejdjhnmjiaaGreat
namespace Go.Proofs.YtpkkejdjhnmjiaaGreat
open Go.RowKit Bm Go.Shelf
section
variable {B p f q s k : Nat} {K : Nat → Prop} {R : DrvM × StoM × Int} {w w' : World} {e : Ending}
theorem OpenOut.ok (h : OpenOut B p f q s k K R w e w') (h0 : R.2.2 = 0) : e = .returned (.tuple #[.pointer (some ⟨s, 0, none⟩), .int .i64 0]) ∧ (∃ g, Sto B p f q s k g K R.1 R.2.1 w') ∧ Turned (May B K) w w' := by
  obtain ⟨h1, h2, h3⟩ := h
  rw [h0, if_pos rfl] at h1
  exact ⟨h1, h2, h3⟩
end
end Go.Proofs.YtpkkejdjhnmjiaaGreat
