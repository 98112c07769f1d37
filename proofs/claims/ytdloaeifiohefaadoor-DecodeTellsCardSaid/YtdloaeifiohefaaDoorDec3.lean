/- Layer decode's program: a word taken apart. -/
import Derived.Test.YtdloaeifiohefaaDoorDec1
import Derived.Test.YtdloaeifiohefaaDoorDec2
import Derived.Test.YtdloaeifiohefaaDoorHold
namespace Go.Proofs.YtdloaeifiohefaaDoor
open Go.RowKit Bm

def opC (o : OpM) : List Value := [.int .i64 o.name, .int .i64 o.rd, .int .i64 o.rs1, .int .i64 o.rs2, .int .u32 (U o.imm)]
def vsC (v : Nat → BitVec 32) : List Value := [.int .u32 (U (v 0)), .int .u32 (U (v 1)), .int .u32 (U (v 2)), .int .u32 (U (v 3))]
theorem vsC_get (v : Nat → BitVec 32) {k : Nat} (h : k < 4) : (vsC v)[k]? = some (.int .u32 (U (v k))) := by
  have c : k = 0 ∨ k = 1 ∨ k = 2 ∨ k = 3 := by omega
  rcases c with rfl | rfl | rfl | rfl <;> rfl
theorem vsC_set (w : BitVec 32) (v : Nat → BitVec 32) {p : PtM} (h : p.f < 4) : (vsC v).set p.f (.int .u32 (U (putB (v p.f) p.t p.n (fieldB w p.a p.n)))) = vsC (stU w v p) := by
  have c : p.f = 0 ∨ p.f = 1 ∨ p.f = 2 ∨ p.f = 3 := by omega
  rcases c with e | e | e | e <;> simp [vsC, stU, e]
/-- The program's two tables: the masks and lengths of the formats, the names' patterns. -/
structure Tabs (w : World) : Prop where
  fm : ∀ f, f < 13 → w.cell? ⟨0, 2 * f, none⟩ = some (.int .u32 (U (mkO f))) ∧ w.cell? ⟨0, 2 * f + 1, none⟩ = some (.int .i64 (sgO f))
  pt : ∀ n, n < 70 → w.cell? ⟨1, n, none⟩ = some (.int .u32 (U (patO n)))
  two : 2 ≤ w.heap.size
theorem Tabs.below {w w' : World} (h : Tabs w) {B : Nat} (hb : Below B w w') (hB : 2 ≤ B) : Tabs w' :=
  ⟨fun f hf => ⟨(World.cell?_of_block (hb.block 0 (by omega))).trans (h.fm f hf).1, (World.cell?_of_block (hb.block 0 (by omega))).trans (h.fm f hf).2⟩,
   fun n hn => (World.cell?_of_block (hb.block 1 (by omega))).trans (h.pt n hn), Nat.le_trans h.two hb.size⟩

theorem at_keep {w w' : World} {b : Nat} {t : TypeId} {cs : List Value} (h : At w b t cs) (hB : Below w.heap.size w w') : At w' b t cs := h.kept (Turned.of_below hB (Nat.le_refl _) NoBlock) (fun h => h)
theorem op_size : (Tryd.prog.info? 25).map (·.size) = some 5 := by kernel_rfl
theorem op_one (o : OpM) : ∀ u ∈ opC o, u.oneCell' = true := by intro u hu; simp [opC] at hu; rcases hu with rfl | rfl | rfl | rfl | rfl <;> rfl
/-- The result of a function that returns an op, out of its variable; an op and a bool. -/
theorem res_op1 {fn : Func} {i : Tmp} (h : fn.results = #[.cell i 25]) (tmps : Array Value) {w : World} {g : Nat} {o : OpM} (hp : tmps.getD i undef = .pointer (some ⟨g, 0, none⟩)) (hA : At w g 25 (opC o)) :
    (results fn tmps).run Tryd.prog w = .ok (.agg (opC o).toArray) w := by
  have hp' : tmps[i]?.getD undef = .pointer (some ⟨g, 0, none⟩) := by simpa using hp
  simp [results, h, hp', asAddr, run_loadVar_row (P := Tryd.prog) w g 25 25 (opC o).toArray (0, 0) _ hA Tryd.underlying25 rfl (by rw [op_size]; simp [opC])]
theorem res_op2 {fn : Func} {i j : Tmp} (h : fn.results = #[.cell i 25, .tmp j]) (tmps : Array Value) {w : World} {g : Nat} {o : OpM} {v : Value} (hp : tmps.getD i undef = .pointer (some ⟨g, 0, none⟩)) (hq : tmps.getD j undef = v) (hA : At w g 25 (opC o)) :
    (results fn tmps).run Tryd.prog w = .ok (.tuple #[.agg (opC o).toArray, v]) w := by
  have hp' : tmps[i]?.getD undef = .pointer (some ⟨g, 0, none⟩) := by simpa using hp
  have hq' : tmps[j]?.getD undef = v := by simpa using hq
  simp [results, h, hp', hq', asAddr, run_loadVar_row (P := Tryd.prog) w g 25 25 (opC o).toArray (0, 0) _ hA Tryd.underlying25 rfl (by rw [op_size]; simp [opC])]
theorem sgO_b : ∀ f, f < 13 → -9223372036854775808 ≤ sgO f ∧ sgO f ≤ 9223372036854775807 := by decide
theorem Tabs.drew {w : World} (h : Tabs w) : Tabs w.drew := ⟨h.fm, h.pt, h.two⟩
theorem Tabs.turned {S : Nat → Prop} {w w' : World} (h : Tabs w) (t : Turned S w w') (hS : ∀ k, k < 2 → ¬ S k) : Tabs w' :=
  ⟨fun f hf => ⟨(World.cell?_of_block (t.block 0 (by have := h.two; omega) (hS 0 (by omega)))).trans (h.fm f hf).1, (World.cell?_of_block (t.block 0 (by have := h.two; omega) (hS 0 (by omega)))).trans (h.fm f hf).2⟩,
   fun n hn => (World.cell?_of_block (t.block 1 (by have := h.two; omega) (hS 1 (by omega)))).trans (h.pt n hn), Nat.le_trans h.two t.size⟩
theorem unL_snoc (x : BitVec 32) (l : List PtM) (p : PtM) : unL x (l ++ [p]) = stU x (unL x l) p := by simp [unL]
theorem pts_ok : ∀ f, f < 13 → ∀ p ∈ ptsOf f, p.a < 1000 ∧ p.n < 1000 ∧ p.t < 1000 := by decide

set_option maxHeartbeats 1000000 in
theorem unpack_any {n : Nat} (hn : 1 ≤ n ∧ n ≤ 69) (x : BitVec 32) (w : World) (hT : Tabs w) :
    Calls Tryd.prog 19 #[.int .i64 n, .int .u32 (U x)] w fun e w' => e = .returned (.agg (opC (unpk n x)).toArray) ∧ Below w.heap.size w w' := by
  have HT := Lib.hid hT
  have hf := fmO_lt n
  obtain ⟨f, hfe⟩ : ∃ f, f = fmO n := ⟨_, rfl⟩
  have HF := Lib.hid (formatOf_any hn)
  have HU : Hid (unpk n x = ⟨n, U (unF f x 0), U (unF f x 1), U (unF f x 2), signB (unF f x 3) (sgO f)⟩) := Lib.hid (by rw [hfe]; rfl)
  rw [← hfe] at HF hf
  have HFF := Lib.hid hf
  have HSG := Lib.hid sgO_b
  have HP := Lib.hid (partsOf_any hf)
  have HOK := Lib.hid (pts_ok f hf)
  have HP4 := Lib.hid (pts_f f hf)
  obtain ⟨ps, hps⟩ : ∃ ps, ps = ptsOf f := ⟨_, rfl⟩
  have HPS := Lib.hid hps
  rw [← hps] at HP HOK HP4
  obtain ⟨R, hR⟩ : ∃ R, R = w.heap.size := ⟨_, rfl⟩
  have AR0 : Hid (∀ o, At ((w.alloc (.cells #[.int .i64 0, .int .i64 0, .int .i64 0, .int .i64 0, .int .u32 0] 25)).alloc o) w.heap.size 25 (opC op0)) := Lib.hid fun o => (At.alloc_new _ _ (opC op0) rfl rfl).alloc _
  have AV0 : Hid (∀ o, o = .cells (vsC (unL x [])).toArray 65 → At ((w.alloc (.cells #[.int .i64 0, .int .i64 0, .int .i64 0, .int .i64 0, .int .u32 0] 25)).alloc o) (w.heap.size + 1) 65 (vsC (unL x []))) := Lib.hid fun o ho => At.alloc_new _ _ (vsC (unL x [])) (by simp) ho
  have LB0 : Hid (∀ o, Below w.heap.size w ((w.alloc (.cells #[.int .i64 0, .int .i64 0, .int .i64 0, .int .i64 0, .int .u32 0] 25)).alloc o)) := Lib.hid fun o => ((Below.refl _ w).alloc (Nat.le_refl _) _).alloc (by simp) _
  clear hT hfe hps hf
  go_enter Tryd.func19, Tryd.ntmps19
  go_wp2_with (first
    | (go_at_call 18; (with_reducible refine (HF.out _).mono ?_); rintro e w1 ⟨rfl, rfl⟩)
    | (go_at_call 32; (with_reducible refine (HP.out _).mono ?_); rintro e w2 ⟨m, rfl, hm, hb, hmb⟩; have HM := Lib.hid hm; have AR2 := Lib.hid (at_keep (AR0.out _) hb); have AV2 := Lib.hid (at_keep (AV0.out _ rfl) hb); have LB2 := Lib.hid ((LB0.out _).trans (hb.mono (LB0.out _).size)); clear hm hb hmb)
    | (refine wpList_rangeP _ rfl rfl rfl HM.out ?_; intro w3 hr hb hsz; have HR := Lib.hid hr; have AR3 := Lib.hid (at_keep AR2.out hb); have AV3 := Lib.hid (at_keep AV2.out hb); have LB3 := Lib.hid (LB2.out.trans (hb.mono LB2.out.size)); clear hr hb hsz))
  go_frame
  clear AR0 AV0 LB0
  obtain ⟨r, hr⟩ : ∃ r, r = w2.heap.size := ⟨_, rfl⟩
  have HRL : Hid (w.heap.size ≤ r) := Lib.hid (by rw [hr]; exact LB2.out.size)
  rw [← hR] at AR2 AR3 AV2 AV3
  rw [← hr] at HR
  simp only [← hr, ← hR]
  have HRV := Lib.hid hR
  clear hr hR AR2 AV2 LB2 HM
  go_loopw [7] (fun _ wr => ∃ js, RangeP wr m r ps js ∧ At wr R 25 (opC op0) ∧ At wr (R + 1) 65 (vsC (unL x (js.map (ptN ps)))) ∧ Below w.heap.size w wr) (fun _ wr => leftP wr r ps.length)
  case atStart => exact ⟨[], HR.out, AR3.out, AV3.out, LB3.out⟩
  case round =>
    obtain ⟨js, hr0, ha0, hv0, hb0⟩ := hrel
    have HR0 := Lib.hid hr0
    have HA0 := Lib.hid ha0
    have HV0 := Lib.hid hv0
    have HB0 := Lib.hid hb0
    clear hr0 ha0 hv0 hb0 HR AR3 AV3 LB3
    go_wp2_with (at_next; refine wpList_nextP _ rfl rfl rfl HR0.out ?_ ?_)
    · intro hp
      have HPP := Lib.hid hp
      clear hp
      have HUN : Hid (unL x (js.map (ptN ps)) = unF f x) := Lib.hid (by rw [HPS.out] at HPP ⊢; exact unL_perm x HFF.out (pts_perm HPP.out))
      have SD : At wr.drew (R + 1) 65 (vsC (unF f x)) ∧ Tabs wr.drew := ⟨by rw [← HUN.out]; exact HV0.out.drew, (HT.out.below HB0.out HT.out.two).drew⟩
      have k0 : IntKind.i64.wrap (U (unF f x 0)) = U (unF f x 0) := by have := U_nonneg (unF f x 0); have := U_lt (unF f x 0); rw [IntKind.wrap_i64]; omega
      have k1 : IntKind.i64.wrap (U (unF f x 1)) = U (unF f x 1) := by have := U_nonneg (unF f x 1); have := U_lt (unF f x 1); rw [IntKind.wrap_i64]; omega
      have k2 : IntKind.i64.wrap (U (unF f x 2)) = U (unF f x 2) := by have := U_nonneg (unF f x 2); have := U_lt (unF f x 2); rw [IntKind.wrap_i64]; omega
      have f0 : (0 : Int) ≤ (f : Int) := by omega
      have f1 : (f : Int) < 13 := by have := HFF.out; omega
      go_upto_region 8 with (fail)
      refine wp_region_held_drew (S := fun W => At W (R + 1) 65 (vsC (unF f x)) ∧ Tabs W) (by kernel_rfl) SD ?_
      intro S0
      replace S0 : At wr.drew (R + 1) 65 (vsC (unF f x)) ∧ Tabs wr.drew := SD
      refine aT 0 (.int .i64 n) rfl ?_; simp only [see1, see2, Act.put, see4, see5, see6]
      refine aT 1 (.pointer (some ⟨R + 1, 0, none⟩)) rfl ?_; simp only [see1, see2, see3, Act.put, see4, see5, see6]
      refine aT 2 (.int .u32 (U (unF f x 0))) rfl ?_ (h2 := fun W hS => by have c9 : W.cell? ⟨R + 1, 0, none⟩ = some (.int .u32 (U (unF f x 0))) := hS.1.cell 0; go_simp; done); simp only [see1, see2, see3, Act.put, see4, see5, see6]
      refine aT 3 (.int .i64 (U (unF f x 0))) rfl ?_; simp only [see1, see2, see3, Act.put, see4, see5, see6]
      refine aT 4 (.pointer (some ⟨R + 1, 1, none⟩)) rfl ?_; simp only [see1, see2, see3, Act.put, see4, see5, see6]
      refine aT 5 (.int .u32 (U (unF f x 1))) rfl ?_ (h2 := fun W hS => by have c9 : W.cell? ⟨R + 1, 1, none⟩ = some (.int .u32 (U (unF f x 1))) := hS.1.cell 1; go_simp; done); simp only [see1, see2, see3, Act.put, see4, see5, see6]
      refine aT 6 (.int .i64 (U (unF f x 1))) rfl ?_; simp only [see1, see2, see3, Act.put, see4, see5, see6]
      refine aT 7 (.pointer (some ⟨R + 1, 2, none⟩)) rfl ?_; simp only [see1, see2, see3, Act.put, see4, see5, see6]
      refine aT 8 (.int .u32 (U (unF f x 2))) rfl ?_ (h2 := fun W hS => by have c9 : W.cell? ⟨R + 1, 2, none⟩ = some (.int .u32 (U (unF f x 2))) := hS.1.cell 2; go_simp; done); simp only [see1, see2, see3, Act.put, see4, see5, see6]
      refine aT 9 (.int .i64 (U (unF f x 2))) rfl ?_; simp only [see1, see2, see3, Act.put, see4, see5, see6]
      refine aT 10 (.pointer (some ⟨R + 1, 3, none⟩)) rfl ?_; simp only [see1, see2, see3, Act.put, see4, see5, see6]
      refine aT 11 (.int .u32 (U (unF f x 3))) rfl ?_ (h2 := fun W hS => by have c9 : W.cell? ⟨R + 1, 3, none⟩ = some (.int .u32 (U (unF f x 3))) := hS.1.cell 3; go_simp; done); simp only [see1, see2, see3, Act.put, see4, see5, see6]
      refine aT 12 (.int .i64 f) rfl ?_; simp only [see1, see2, see3, Act.put, see4, see5, see6]
      refine aT 13 (.pointer (some ⟨0, f * 2, none⟩)) rfl ?_; simp only [see1, see2, see3, Act.put, see4, see5, see6]
      refine aT 14 (.pointer (some ⟨0, f * 2 + 1, none⟩)) rfl ?_; simp only [see1, see2, see3, Act.put, see4, see5, see6]
      refine aT 15 (.int .i64 (sgO f)) rfl ?_ (h2 := fun W hS => by have c9 : W.cell? ⟨0, f * 2 + 1, none⟩ = some (.int .i64 (sgO f)) := (by rw [Nat.mul_comm f 2]; exact (hS.2.fm f HFF.out).2); go_simp; done); simp only [see1, see2, see3, Act.put, see4, see5, see6]
      refine wpAnyH_all (rs := [16]) (by kernel_rfl) (by simp) ?_
      intro i16 hi16
      obtain rfl : i16 = 16 := by simpa using hi16
      refine op_goes rfl (by rfl) ?_
      go_simp
      refine (sign_any (unF f x 3) (sgO f) wr.drew (HSG.out f HFF.out).1 (HSG.out f HFF.out).2).mono ?_
      rintro e w9 ⟨rfl, rfl⟩
      dsimp only
      refine ⟨S0, ?_⟩
      refine aT 17 (.agg (opC (unpk n x)).toArray) rfl ?_ (h2 := fun W hS => by rw [HU.out]; first | (go_simp; done) | (go_simp; rfl)); simp only [see1, see2, see3, Act.put, see4, see5, see6]
      refine aS (xs := opC op0) (pre := []) (post := []) 18 _ _ rfl rfl rfl rfl op_size rfl rfl (op_one _) rfl (by simp) HA0.out.drew ?_
      intro w10 hA10 hT10
      rw [List.nil_append, List.append_nil] at hA10
      refine ⟨⟨S0.1.kept hT10 (by unfold Just; omega), S0.2.turned hT10 (fun k hk => by unfold Just; have := HT.out.two; have := HRV.out; omega)⟩, ?_⟩
      refine wpAnyH_done (by kernel_rfl) ?_ _
      have HA10 := Lib.hid hA10
      have HB10 := Lib.hid ((HB0.out.drew).trans (hT10.below (B := w.heap.size) (fun k hk => by unfold Just at hk; have := HRV.out; omega) HB0.out.size))
      clear hA10 hT10
      go_wp2
      exact bodyPost_ret (res_op1 Tryd.results19 _ rfl HA10.out) rfl ⟨rfl, HB10.out⟩
    · intro j w1 hj hjs hr1 hT1 hen
      have HR1 := Lib.hid hr1
      have HA1 := Lib.hid (HA0.out.kept hT1 (HR0.out.rne HA0.out).symm)
      have HV1 := Lib.hid (HV0.out.kept hT1 (HR0.out.rne HV0.out).symm)
      have HB1 := Lib.hid (HB0.out.trans (hT1.below (B := w.heap.size) (fun k hk => by unfold Just at hk; rw [hk]; exact HRL.out) HB0.out.size))
      have HJ := Lib.hid hj
      have HJS := Lib.hid hjs
      have HLE := Lib.hid (HR0.out.left_eq.trans rfl)
      clear hr1 hT1
      obtain ⟨p, hp⟩ : ∃ p, p = ptN ps j := ⟨_, rfl⟩
      have HPJ := Lib.hid hp
      obtain ⟨pa, pn, pt⟩ := HOK.out _ (ptN_mem hj)
      have pf := HP4.out _ (ptN_mem hj)
      unfold ptV at hen ⊢
      rw [← hp] at hen ⊢ pa pn pt pf
      clear hp hj hjs
      have pf0 : (0 : Int) ≤ (p.f : Int) := by omega
      have pf1 : (p.f : Int) < 4 := by omega
      have HFD := Lib.hid (field_any x p.a p.n (w1.alloc (.cells #[.int .i64 p.f, .int .i64 p.n, .int .i64 p.t] 64)) (by omega) (by omega))
      go_upto_region 7 with (go_at_call 33; (with_reducible refine HFD.out.mono ?_); rintro e w5 ⟨rfl, rfl⟩)
      obtain ⟨W5, hW5⟩ : ∃ W5, W5 = w1.alloc (.cells #[.int .i64 p.f, .int .i64 p.n, .int .i64 p.t] 64) := ⟨_, rfl⟩
      have hbx : At W5 w1.heap.size 64 [.int .i64 p.f, .int .i64 p.n, .int .i64 p.t] := by rw [hW5]; exact At.news w1 _ _
      have HR5 := Lib.hid (show RangeP W5 m r ps (js ++ [j]) by rw [hW5]; exact HR1.out.below ((Below.refl _ w1).alloc (Nat.le_refl _) _))
      have HA5 := Lib.hid (show At W5 R 25 (opC op0) by rw [hW5]; exact HA1.out.alloc _)
      have HV5 := Lib.hid (show At W5 (R + 1) 65 (vsC (unL x (js.map (ptN ps)))) by rw [hW5]; exact HV1.out.alloc _)
      have HB5 := Lib.hid (show Below w.heap.size w W5 by rw [hW5]; exact HB1.out.alloc HB1.out.size _)
      have HNE : Hid (w1.heap.size ≠ R + 1) := Lib.hid (by have := HV1.out.lt; omega)
      rw [← hW5]
      obtain ⟨bx, hbe⟩ : ∃ bx, bx = w1.heap.size := ⟨_, rfl⟩
      rw [← hbe] at hbx HNE
      simp only [← hbe]
      have HBX := Lib.hid hbx
      clear hW5 hbe HFD hbx hen HR1 HA1 HV1 HB1 HR0 HA0 HV0 HB0
      have SD : At W5.drew bx 64 [.int .i64 p.f, .int .i64 p.n, .int .i64 p.t] := HBX.out.drew
      refine wp_region_held_drew (S := fun W => At W bx 64 [.int .i64 p.f, .int .i64 p.n, .int .i64 p.t]) (by kernel_rfl) SD ?_
      intro S0
      replace S0 : At W5.drew bx 64 [.int .i64 p.f, .int .i64 p.n, .int .i64 p.t] := SD
      refine aT 0 (.pointer (some ⟨bx, 0, none⟩)) rfl ?_; simp only [see1, see2, Act.put, see4, see5, see6]
      refine aT 1 (.int .i64 p.f) rfl ?_ (h2 := fun W hS => by have c9 : W.cell? ⟨bx, 0, none⟩ = some (.int .i64 p.f) := hS.cell 0; go_simp; done); simp only [see1, see2, see3, Act.put, see4, see5, see6]
      refine aT 2 (.pointer (some ⟨bx, 0, none⟩)) rfl ?_; simp only [see1, see2, see3, Act.put, see4, see5, see6]
      refine aT 3 (.int .i64 p.f) rfl ?_ (h2 := fun W hS => by have c9 : W.cell? ⟨bx, 0, none⟩ = some (.int .i64 p.f) := hS.cell 0; go_simp; done); simp only [see1, see2, see3, Act.put, see4, see5, see6]
      refine aT 4 (.pointer (some ⟨R + 1, p.f, none⟩)) rfl ?_; simp only [see1, see2, see3, Act.put, see4, see5, see6]
      refine aT 6 (.pointer (some ⟨bx, 2, none⟩)) rfl ?_; simp only [see1, see2, see3, Act.put, see4, see5, see6]
      refine aT 7 (.int .i64 p.t) rfl ?_ (h2 := fun W hS => by have c9 : W.cell? ⟨bx, 2, none⟩ = some (.int .i64 p.t) := hS.cell 2; go_simp; done); simp only [see1, see2, see3, Act.put, see4, see5, see6]
      refine aT 8 (.pointer (some ⟨bx, 1, none⟩)) rfl ?_; simp only [see1, see2, see3, Act.put, see4, see5, see6]
      refine aT 9 (.int .i64 p.n) rfl ?_ (h2 := fun W hS => by have c9 : W.cell? ⟨bx, 1, none⟩ = some (.int .i64 p.n) := hS.cell 1; go_simp; done); simp only [see1, see2, see3, Act.put, see4, see5, see6]
      refine aT 10 (.int .u32 (U (fieldB x p.a p.n))) rfl ?_; simp only [see1, see2, see3, Act.put, see4, see5, see6]
      have cv : W5.drew.cell? ⟨R + 1, p.f, none⟩ = some (.int .u32 (U (unL x (js.map (ptN ps)) p.f))) := (HV5.out.drew.cell p.f).trans (vsC_get _ pf)
      have fv : W5.drew.frozen? ⟨R + 1, p.f, none⟩ = false := HV5.out.drew.frozen p.f
      refine wpAnyH_all (rs := [5]) (by kernel_rfl) (by simp) ?_
      intro i5 hi5
      obtain rfl : i5 = 5 := by simpa using hi5
      refine op_goes rfl (by rfl) ?_
      go_simp
      refine wpAnyH_all (rs := [11]) (by kernel_rfl) (by simp) ?_
      intro i11 hi11
      obtain rfl : i11 = 11 := by simpa using hi11
      refine op_goes rfl (by rfl) ?_
      go_simp
      refine (put_any (unL x (js.map (ptN ps)) p.f) p.t p.n (fieldB x p.a p.n) W5.drew (by omega) (by omega)).mono ?_
      rintro e w9 ⟨rfl, rfl⟩
      dsimp only
      refine ⟨S0, ?_⟩
      refine aT 12 (.pointer (some ⟨R + 1, p.f, none⟩)) rfl ?_; simp only [see1, see2, see3, Act.put, see4, see5, see6]
      refine wpAnyH_all (rs := [13]) (by kernel_rfl) (by simp) ?_
      intro i13 hi13
      obtain rfl : i13 = 13 := by simpa using hi13
      refine op_goes rfl (by rfl) ?_
      go_simp
      refine ⟨(HBX.out.far HNE.out _).drew, ?_⟩
      refine wpAnyH_done (by kernel_rfl) ?_ _
      have hT9 : Turned (Just (R + 1)) W5 (W5.setCell ⟨R + 1, p.f, none⟩ (.int .u32 (U (putB (unL x (js.map (ptN ps)) p.f) p.t p.n (fieldB x p.a p.n))))).drew := ((Turned.refl (Just (R + 1)) W5).setCell (p := ⟨R + 1, p.f, none⟩) (fun _ => rfl) _).drew
      have HV9 := Lib.hid (((HV5.out.put p.f (.int .u32 (U (putB (unL x (js.map (ptN ps)) p.f) p.t p.n (fieldB x p.a p.n))))).as (show _ = vsC (unL x ((js ++ [j]).map (ptN ps))) by rw [vsC_set x _ pf, List.map_append, List.map_cons, List.map_nil, unL_snoc, ← HPJ.out])).drew)
      have HR9 := Lib.hid (HR5.out.put HV5.out hT9)
      have HA9 := Lib.hid (HA5.out.kept hT9 (by unfold Just; omega))
      have HB9 := Lib.hid (HB5.out.trans (hT9.below (B := w.heap.size) (fun k hk => by unfold Just at hk; have := HRV.out; omega) HB5.out.size))
      obtain ⟨W9, hW9⟩ : ∃ W9, W9 = (W5.setCell ⟨R + 1, p.f, none⟩ (.int .u32 (U (putB (unL x (js.map (ptN ps)) p.f) p.t p.n (fieldB x p.a p.n))))).drew := ⟨_, rfl⟩
      rw [← hW9] at HV9 HR9 HA9 HB9 ⊢
      clear hW9 hT9 cv fv S0
      have hle := nodup_le HR9.out.nd HR9.out.lt
      rw [List.length_append, List.length_singleton] at hle
      have HLL := Lib.hid hle
      clear hle
      go_wp2
      exact ⟨⟨js ++ [j], HR9.out, HA9.out, HV9.out, HB9.out⟩, by rw [HR9.out.left_eq, HLE.out, List.length_append, List.length_singleton]; have := HLL.out; omega⟩
end Go.Proofs.YtdloaeifiohefaaDoor
