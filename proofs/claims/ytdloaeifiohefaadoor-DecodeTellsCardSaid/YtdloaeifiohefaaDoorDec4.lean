/- Layer decode's program: a word put together out of an op. -/
import Derived.Test.YtdloaeifiohefaaDoorDec3
namespace Go.Proofs.YtdloaeifiohefaaDoor
open Go.RowKit Bm

theorem wrap_uw (a : Int) : IntKind.u32.wrap a = U (uw a) := by
  rw [IntKind.wrap_u32]
  unfold uw U
  rw [BitVec.toNat_ofInt]
  omega
theorem pkL_snoc (v : Nat → BitVec 32) (x : BitVec 32) (l : List PtM) (p : PtM) : pkL v x (l ++ [p]) = stP v (pkL v x l) p := by simp [pkL]

set_option maxHeartbeats 1000000 in
theorem pack_any {n : Nat} (hn : 1 ≤ n ∧ n ≤ 69) (rd r1 r2 : Int) (i : BitVec 32) (w : World) (hT : Tabs w) :
    Calls Tryd.prog 28 #[.agg #[.int .i64 n, .int .i64 rd, .int .i64 r1, .int .i64 r2, .int .u32 (U i)]] w fun e w' => e = .returned (.int .u32 (U (pk ⟨n, rd, r1, r2, i⟩))) ∧ Below w.heap.size w w' := by
  have HT := Lib.hid hT
  have hf := fmO_lt n
  obtain ⟨f, hfe⟩ : ∃ f, f = fmO n := ⟨_, rfl⟩
  have HF := Lib.hid (formatOf_any hn)
  obtain ⟨v, hv⟩ : ∃ v, v = vOf ⟨n, rd, r1, r2, i⟩ := ⟨_, rfl⟩
  have HU : Hid (pk ⟨n, rd, r1, r2, i⟩ = pkF f v (patO n)) := Lib.hid (by rw [hfe, hv]; rfl)
  rw [← hfe] at HF hf
  have HFF := Lib.hid hf
  have HP := Lib.hid (partsOf_any hf)
  have HOK := Lib.hid (pts_ok f hf)
  have HP4 := Lib.hid (pts_f f hf)
  obtain ⟨ps, hps⟩ : ∃ ps, ps = ptsOf f := ⟨_, rfl⟩
  have HPS := Lib.hid hps
  rw [← hps] at HP HOK HP4
  have v0 : IntKind.u32.wrap rd = U (v 0) := by rw [hv]; exact wrap_uw rd
  have v1 : IntKind.u32.wrap r1 = U (v 1) := by rw [hv]; exact wrap_uw r1
  have v2 : IntKind.u32.wrap r2 = U (v 2) := by rw [hv]; exact wrap_uw r2
  have v3 : U i = U (v 3) := by rw [hv]; rfl
  have n0 : (0 : Int) ≤ (n : Int) := by omega
  have n1 : (n : Int) < 70 := by omega
  rw [v3]
  clear hT hfe hps hf hv v3
  go_enter Tryd.func28, Tryd.ntmps28
  go_upto_region 2 with (fail)
  obtain ⟨W2, hW2⟩ : ∃ W2, W2 = ((w.alloc (.cells #[.int .i64 n, .int .i64 rd, .int .i64 r1, .int .i64 r2, .int .u32 (U (v 3))] 25)).alloc (.cells #[.int .u32 (U (v 0)), .int .u32 (U (v 1)), .int .u32 (U (v 2)), .int .u32 (U (v 3))] 65)) := ⟨_, rfl⟩
  have AB : At W2 w.heap.size 25 [.int .i64 n, .int .i64 rd, .int .i64 r1, .int .i64 r2, .int .u32 (U (v 3))] := by rw [hW2]; exact (At.news w _ _).alloc _
  have AV : At W2 (w.heap.size + 1) 65 (vsC v) := by rw [hW2]; exact At.alloc_new _ _ (vsC v) (by simp) rfl
  have LB : Below w.heap.size w W2 := by rw [hW2]; exact ((Below.refl _ w).alloc (Nat.le_refl _) _).alloc (by simp) _
  have c0 : W2.cell? ⟨w.heap.size, 0, none⟩ = some (.int .i64 n) := AB.cell 0
  have c1 : W2.cell? ⟨1, n, none⟩ = some (.int .u32 (U (patO n))) := (HT.out.below LB HT.out.two).pt n (by omega)
  rw [← hW2]
  have HAB := Lib.hid AB
  have HAV := Lib.hid AV
  have HLB := Lib.hid LB
  clear hW2 AB AV LB
  obtain ⟨V, hV⟩ : ∃ V, V = w.heap.size + 1 := ⟨_, rfl⟩
  have HVV := Lib.hid hV
  rw [← hV] at HAV
  simp only [← hV]
  clear hV
  go_wp2_with (first
    | (go_at_call 18; (with_reducible refine (HF.out _).mono ?_); rintro e w1 ⟨rfl, rfl⟩)
    | (go_at_call 32; (with_reducible refine (HP.out _).mono ?_); rintro e w2 ⟨m, rfl, hm, hb, hmb⟩; have HM := Lib.hid hm; have AV2 := Lib.hid (at_keep HAV.out hb); have LB2 := Lib.hid (HLB.out.trans (hb.mono HLB.out.size)); clear hm hb hmb)
    | (refine wpList_rangeP _ rfl rfl rfl HM.out ?_; intro w3 hr hb hsz; have HR := Lib.hid hr; have AV3 := Lib.hid (at_keep AV2.out hb); have LB3 := Lib.hid (LB2.out.trans (hb.mono LB2.out.size)); clear hr hb hsz))
  go_frame
  obtain ⟨r, hr⟩ : ∃ r, r = w2.heap.size := ⟨_, rfl⟩
  have HRL : Hid (w.heap.size ≤ r) := Lib.hid (by rw [hr]; exact LB2.out.size)
  rw [← hr] at HR
  simp only [← hr]
  clear hr AV2 LB2 HM c0 c1
  go_loopw [4, 5] (fun z _ wr => ∃ js, RangeP wr m r ps js ∧ z = .int .u32 (U (pkL v (patO n) (js.map (ptN ps)))) ∧ At wr V 65 (vsC v) ∧ Below w.heap.size w wr) (fun _ _ wr => leftP wr r ps.length)
  case atStart => exact ⟨[], HR.out, rfl, AV3.out, LB3.out⟩
  case round =>
    obtain ⟨js, hr0, rfl, hv0, hb0⟩ := hrel
    have HR0 := Lib.hid hr0
    have HV0 := Lib.hid hv0
    have HB0 := Lib.hid hb0
    clear hr0 hv0 hb0 HR AV3 LB3
    obtain ⟨cur, hcur⟩ : ∃ cur, cur = pkL v (patO n) (js.map (ptN ps)) := ⟨_, rfl⟩
    have HC := Lib.hid hcur
    rw [← hcur]
    clear hcur
    go_wp2_with (at_next; refine wpList_nextP _ rfl rfl rfl HR0.out ?_ ?_)
    · intro hp
      have HUN : Hid (cur = pkF f v (patO n)) := Lib.hid (by rw [HC.out, HPS.out]; rw [HPS.out] at hp; exact pkL_perm v (patO n) HFF.out (pts_perm hp))
      clear hp
      go_wp2
      go_ret
      exact ⟨by rw [HU.out, ← HUN.out]; rfl, HB0.out⟩
    · intro j w1 hj hjs hr1 hT1 hen
      have HR1 := Lib.hid hr1
      have HV1 := Lib.hid (HV0.out.kept hT1 (HR0.out.rne HV0.out).symm)
      have HB1 := Lib.hid (HB0.out.trans (hT1.below (B := w.heap.size) (fun k hk => by unfold Just at hk; rw [hk]; exact HRL.out) HB0.out.size))
      have HLE := Lib.hid (HR0.out.left_eq.trans rfl)
      clear hr1 hT1
      obtain ⟨p, hp⟩ : ∃ p, p = ptN ps j := ⟨_, rfl⟩
      have HPJ := Lib.hid hp
      obtain ⟨pa, pn, pt⟩ := HOK.out _ (ptN_mem hj)
      have pf := HP4.out _ (ptN_mem hj)
      unfold ptV at hen ⊢
      rw [← hp] at hen ⊢ pa pn pt pf
      clear hp hj hjs
      have pf0 : (0 : Int) ≤ (p.f : Int) := by omega
      have pf1 : (p.f : Int) < 4 := by omega
      go_upto_region 6 with (fail)
      obtain ⟨W5, hW5⟩ : ∃ W5, W5 = w1.alloc (.cells #[.int .i64 p.f, .int .i64 p.n, .int .i64 p.t] 64) := ⟨_, rfl⟩
      have hbx : At W5 w1.heap.size 64 [.int .i64 p.f, .int .i64 p.n, .int .i64 p.t] := by rw [hW5]; exact At.news w1 _ _
      have HR5 := Lib.hid (show RangeP W5 m r ps (js ++ [j]) by rw [hW5]; exact HR1.out.below ((Below.refl _ w1).alloc (Nat.le_refl _) _))
      have HV5 := Lib.hid (show At W5 V 65 (vsC v) by rw [hW5]; exact HV1.out.alloc _)
      have HB5 := Lib.hid (show Below w.heap.size w W5 by rw [hW5]; exact HB1.out.alloc HB1.out.size _)
      rw [← hW5]
      obtain ⟨bx, hbe⟩ : ∃ bx, bx = w1.heap.size := ⟨_, rfl⟩
      rw [← hbe] at hbx
      simp only [← hbe]
      have HBX := Lib.hid hbx
      clear hW5 hbe hbx hen HR1 HV1 HB1 HR0 HV0 HB0
      have SD : At W5.drew bx 64 [.int .i64 p.f, .int .i64 p.n, .int .i64 p.t] ∧ At W5.drew V 65 (vsC v) := ⟨HBX.out.drew, HV5.out.drew⟩
      refine wp_region_held_drew (S := fun W => At W bx 64 [.int .i64 p.f, .int .i64 p.n, .int .i64 p.t] ∧ At W V 65 (vsC v)) (by kernel_rfl) SD ?_
      intro S0
      replace S0 : At W5.drew bx 64 [.int .i64 p.f, .int .i64 p.n, .int .i64 p.t] ∧ At W5.drew V 65 (vsC v) := SD
      refine aT 0 (.int .u32 (U cur)) rfl ?_; simp only [see1, see2, Act.put, see4, see5, see6]
      refine aT 1 (.int .i64 p.a) rfl ?_; simp only [see1, see2, see3, Act.put, see4, see5, see6]
      refine aT 2 (.pointer (some ⟨bx, 1, none⟩)) rfl ?_; simp only [see1, see2, see3, Act.put, see4, see5, see6]
      refine aT 3 (.int .i64 p.n) rfl ?_ (h2 := fun W hS => by have c9 : W.cell? ⟨bx, 1, none⟩ = some (.int .i64 p.n) := hS.1.cell 1; go_simp; done); simp only [see1, see2, see3, Act.put, see4, see5, see6]
      refine aT 4 (.pointer (some ⟨bx, 0, none⟩)) rfl ?_; simp only [see1, see2, see3, Act.put, see4, see5, see6]
      refine aT 5 (.int .i64 p.f) rfl ?_ (h2 := fun W hS => by have c9 : W.cell? ⟨bx, 0, none⟩ = some (.int .i64 p.f) := hS.1.cell 0; go_simp; done); simp only [see1, see2, see3, Act.put, see4, see5, see6]
      refine aT 6 (.pointer (some ⟨V, p.f, none⟩)) rfl ?_; simp only [see1, see2, see3, Act.put, see4, see5, see6]
      refine aT 7 (.int .u32 (U (v p.f))) rfl ?_ (h2 := fun W hS => by have c9 : W.cell? ⟨V, p.f, none⟩ = some (.int .u32 (U (v p.f))) := (hS.2.cell p.f).trans (vsC_get _ pf); go_simp; done); simp only [see1, see2, see3, Act.put, see4, see5, see6]
      refine aT 8 (.pointer (some ⟨bx, 2, none⟩)) rfl ?_; simp only [see1, see2, see3, Act.put, see4, see5, see6]
      refine aT 9 (.int .i64 p.t) rfl ?_ (h2 := fun W hS => by have c9 : W.cell? ⟨bx, 2, none⟩ = some (.int .i64 p.t) := hS.1.cell 2; go_simp; done); simp only [see1, see2, see3, Act.put, see4, see5, see6]
      refine aT 10 (.pointer (some ⟨bx, 1, none⟩)) rfl ?_; simp only [see1, see2, see3, Act.put, see4, see5, see6]
      refine aT 11 (.int .i64 p.n) rfl ?_ (h2 := fun W hS => by have c9 : W.cell? ⟨bx, 1, none⟩ = some (.int .i64 p.n) := hS.1.cell 1; go_simp; done); simp only [see1, see2, see3, Act.put, see4, see5, see6]
      refine wpAnyH_all (rs := [12]) (by kernel_rfl) (by simp) ?_
      intro i12 hi12
      obtain rfl : i12 = 12 := by simpa using hi12
      refine op_goes rfl (by rfl) ?_
      go_simp
      refine (field_any (v p.f) p.t p.n W5.drew (by omega) (by omega)).mono ?_
      rintro e w9 ⟨rfl, rfl⟩
      dsimp only
      refine ⟨S0, ?_⟩
      refine wpAnyH_all (rs := [13]) (by kernel_rfl) (by simp) ?_
      intro i13 hi13
      obtain rfl : i13 = 13 := by simpa using hi13
      refine op_goes rfl (by rfl) ?_
      go_simp
      refine (put_any cur p.a p.n (fieldB (v p.f) p.t p.n) W5.drew (by omega) (by omega)).mono ?_
      rintro e w9 ⟨rfl, rfl⟩
      dsimp only
      refine ⟨S0, ?_⟩
      refine aT 14 (.int .u32 (U (putB cur p.a p.n (fieldB (v p.f) p.t p.n)))) rfl ?_; simp only [see1, see2, see3, Act.put, see4, see5, see6]
      refine wpAnyH_done (by kernel_rfl) ?_ _
      have HR9 := Lib.hid (HR5.out.below (Below.refl _ W5).drew)
      have HV9 := Lib.hid S0.2
      have HB9 := Lib.hid HB5.out.drew
      have HCC : Hid (putB cur p.a p.n (fieldB (v p.f) p.t p.n) = pkL v (patO n) ((js ++ [j]).map (ptN ps))) := Lib.hid (by rw [List.map_append, List.map_cons, List.map_nil, pkL_snoc, ← HPJ.out, ← HC.out]; rfl)
      rw [HCC.out]
      clear S0
      have hle := nodup_le HR9.out.nd HR9.out.lt
      rw [List.length_append, List.length_singleton] at hle
      have HLL := Lib.hid hle
      clear hle
      go_wp2
      exact ⟨⟨js ++ [j], HR9.out, rfl, HV9.out, HB9.out⟩, by rw [HR9.out.left_eq, HLE.out, List.length_append, List.length_singleton]; have := HLL.out; omega⟩
end Go.Proofs.YtdloaeifiohefaaDoor
