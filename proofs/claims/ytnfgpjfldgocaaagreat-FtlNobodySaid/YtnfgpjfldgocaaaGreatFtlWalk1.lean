/- The walk of layer ftl's statement FtlNobody: a store that no call made, nil or zero; there is none of no driver, or of too few blocks. -/
import Derived.Test.YtnfgpjfldgocaaaGreatFtl9
import Derived.Test.YtnfgpjfldgocaaaGreatLaw
import Derived.OpenShut
namespace Go.Proofs.YtnfgpjfldgocaaaGreat
open Go.RowKit Bm Go.Shelf

def stoN : List Value := [.pointer none, .slice none 0 0] ++ (Bs (List.replicate 64 false) ++ [.bool false])
set_option maxRecDepth 100000 in
theorem run_bst0 (w : World) : (Instr.build 83 #[]).run Tryz.prog w = .ok (.agg stoN.toArray) w := by kernel_rfl
section
variable {ops : Array Oper} {rest : List Oper} {o : Oper} {a : Go.Act} {w : World} {Q : Exit → Go.Act → World → Prop}
theorem wpList_bst0 (hgd : o.guard = none) (ho : o.op = .build 83 #[])
    (hK : wpList Tryz.prog ops Q rest (a.put o.dst (.agg stoN.toArray)) w) : wpList Tryz.prog ops Q (o :: rest) a w :=
  wpList_plain hgd fun K hK' => by
    unfold Oper.wp execOp
    simp only [ho, List.map_toArray, List.map_nil, Sem.run_bind, run_bst0, Result.andThen_ok]
    exact hK' _ _ hK
end
set_option maxRecDepth 100000 in
theorem run_b1 (x : BitVec 32) (w : World) : (Instr.build 67 #[(0, .int .u32 (U x))]).run Tryz.prog w = .ok (.agg #[.int .u32 (U x), .int .u32 0, .int .u32 0, .int .u32 0]) w := by
  generalize U x = x
  kernel_rfl
theorem nos_write1 {w : World} {v : Value} (h : NoSto w v) (a : Int) (x : BitVec 32) : Calls Tryz.prog 35 #[v, .int .i64 a, .agg #[.int .u32 (U x), .int .u32 0, .int .u32 0, .int .u32 0]] w fun e w' => e = .returned (.int .i64 1) ∧ Below w.heap.size w w' := nos_write h a x 0#32 0#32 0#32

set_option maxRecDepth 100000 in
set_option maxHeartbeats 2000000 in
theorem ftlNobody_walk (a0 : Int) (_b0 : (Lit.int .i64 a0).wf = true) (a1 : Int) (b1 : (Lit.int .u32 a1).wf = true) (w : World) :
    Calls Tryz.prog 7 #[.int .i64 a0, .int .u32 a1] w fun e w' => e = .returned (.bool true) ∧ Below w.heap.size w w' := by
  have c1 := bounds_u32 b1
  obtain ⟨x, rfl⟩ := U_of c1.1 (by omega)
  clear b1 c1
  have rb1 := run_b1 x
  go_enter Tryz.func7, Tryz.ntmps7
  go_wp2_with (first
    | (go_at_call 10; (refine (alive8_any w).mono ?_); rintro e wa ⟨rfl, hBa⟩; have HBA := Lib.hid hBa; clear hBa)
    | (refine wpList_bst0 rfl rfl ?_))
  obtain ⟨W1, hW1⟩ : ∃ W1, W1 = (wa.alloc (.cells stoN.toArray 83)).alloc (.cells #[.pointer none, .pointer (some ⟨wa.heap.size, 0, none⟩)] 30) := ⟨_, rfl⟩
  rw [← hW1]
  have A1 : At W1 wa.heap.size 83 stoN := by rw [hW1]; exact (At.news wa _ _).alloc _
  have A2 : At W1 (wa.heap.size + 1) 30 [.pointer none, .pointer (some ⟨wa.heap.size, 0, none⟩)] := by rw [hW1]; exact At.alloc_new _ _ _ (by simp) rfl
  have B1 : Below w.heap.size w W1 := by rw [hW1]; exact (HBA.out.alloc HBA.out.size _).alloc (by have := HBA.out.size; simp; omega) _
  obtain ⟨P, hP⟩ : ∃ P, P = wa.heap.size := ⟨_, rfl⟩
  rw [← hP] at A1 A2 ⊢
  have HA1 := Lib.hid A1
  have HA2 := Lib.hid A2
  have HB1 := Lib.hid B1
  clear A1 A2 B1 hW1 hP
  go_loopw [23] (fun i wr => ∃ j : Nat, j ≤ 2 ∧ i = .int .i64 j ∧ Below W1.heap.size W1 wr) (fun i _ => 2 - (intOf i).toNat)
  case atStart => exact ⟨0, by omega, rfl, Below.refl _ _⟩
  case round =>
    obtain ⟨j, hj, rfl, hb⟩ := hrel
    have HB := Lib.hid hb
    by_cases hlt : j < 2
    · have A2r := HA2.out.kept (Turned.of_below hb (Nat.le_refl _) NoBlock) (fun h => h)
      have A1r := HA1.out.kept (Turned.of_below hb (Nat.le_refl _) NoBlock) (fun h => h)
      obtain ⟨v, hcell, hv⟩ : ∃ v, wr.cell? ⟨P + 1, j, none⟩ = some v ∧ NoSto wr v := by
        match j, hlt with
        | 0, _ => exact ⟨_, A2r.cell 0, .inl rfl⟩
        | 1, _ => exact ⟨_, A2r.cell 1, .inr ⟨P, rfl, A1r.cell 0, A1r.lt⟩⟩
      have V0 := Lib.hid hv
      clear A1r A2r hv hb
      go_upto_region 7 with (first
        | (go_at_call 33; (with_reducible refine (nos_read V0.out a0).mono ?_); rintro e w2 ⟨rfl, b2⟩; have V2 := Lib.hid (V0.out.below b2); have B2 := Lib.hid (HB.out.trans (b2.mono HB.out.size)); clear b2)
        | (refine wpList_stm (pre := []) (post := []) (xs := Us d40) (ys := Us d40) _ _ rfl rfl rfl rfl d4_size rfl rfl (Us_one _) rfl (by simp) (At.news w2 _ (Us d40)) ?_; intro w3 A3 T3; have HT3 : Hid (Below w2.heap.size w2 w3) := Lib.hid (((Below.refl _ w2).alloc (Nat.le_refl _) _).trans (T3.below (fun i hi => by unfold Just at hi; omega) (by simp))); have V3 := Lib.hid (V2.out.below HT3.out); have B3 := Lib.hid (B2.out.trans (HT3.out.mono B2.out.size)); clear A3 T3))
      go_wp2_with (first
        | (go_at_call 35; (with_reducible refine (nos_write1 V3.out a0 x).mono ?_); rintro e w4 ⟨rfl, b4⟩; have V4 := Lib.hid (V3.out.below b4); have B4 := Lib.hid (B3.out.trans (b4.mono B3.out.size)); clear b4)
        | (go_at_call 36; (with_reducible refine (nos_trim V4.out a0).mono ?_); rintro e w5 ⟨rfl, b5⟩; have V5 := Lib.hid (V4.out.below b5); have B5 := Lib.hid (B4.out.trans (b5.mono B4.out.size)); clear b5)
        | (go_at_call 13; (with_reducible refine (nos_sectors V5.out).mono ?_); rintro e w6 ⟨rfl, hw⟩; obtain rfl := hw.symm)
        | (go_at_call 22; (with_reducible refine (nos_retired V5.out).mono ?_); rintro e w6 ⟨rfl, hw⟩; obtain rfl := hw.symm)
        | (go_at_call 28; (with_reducible refine (nos_counts V5.out).mono ?_); rintro e w6 ⟨rfl, hw⟩; obtain rfl := hw.symm))
      go_roundw
      case rel => exact ⟨j + 1, by omega, by go_num, B5.out⟩
      case measure => simp [intOf]; omega
    · obtain rfl : j = 2 := by omega
      clear hb
      go_upto_region 13 with (first
        | (go_at_call 11; (refine (begin8_any (B := w.heap.size) 4 9 wr (Nat.le_trans HB1.out.size HB.out.size) (by omega) (by omega) (by omega) (by omega)).mono ?_); rintro e w2 ⟨p, f, q, rfl, s0, b2⟩; have S2 := Lib.hid s0; have B2 := Lib.hid (HB.out.trans (b2.mono HB.out.size)); clear s0 b2)
        | (refine wpList_stm (pre := []) (post := []) (xs := wd0) (ys := wdC p q) _ _ rfl rfl rfl rfl wd_size rfl rfl (by simp [wdC, Value.oneCell']) rfl (by simp) (At.news w2 _ wd0) ?_; intro w3 A3 T3; rw [List.nil_append, List.append_nil] at A3; have HA3 := Lib.hid A3; have HB3 : Hid (Below w2.heap.size w2 w3) := Lib.hid (((Below.refl _ w2).alloc (Nat.le_refl _) _).trans (T3.below (fun i hi => by unfold Just at hi; omega) (by simp))); clear A3 T3))
      have S3 := Lib.hid (S2.out.below HB3.out)
      have B3 := Lib.hid (B2.out.trans (HB3.out.mono B2.out.size))
      have c1 : w3.cell? ⟨w2.heap.size, 1, none⟩ = some (.pointer (some ⟨q, 0, none⟩)) := HA3.out.cell 1
      have FF := Lib.hid (fewFormat_any (.pointer (some ⟨q, 0, none⟩)) 4 (by omega) (w := w3) (S3.out.blocks0.mono fun e w' h => ⟨h.1, by rw [h.2]; exact Below.refl _ _⟩))
      go_upto_region 14 with (first
        | (go_at_call 12; (refine FF.out.mono ?_); rintro e w4 ⟨rfl, b4⟩; have HB4 := Lib.hid b4; clear b4))
      have S4 := Lib.hid (S3.out.below HB4.out)
      have B4 := Lib.hid (B3.out.trans (HB4.out.mono B3.out.size))
      have c1' : w4.cell? ⟨w2.heap.size, 1, none⟩ = some (.pointer (some ⟨q, 0, none⟩)) := (HB4.out.cell (p := ⟨w2.heap.size, 1, none⟩) HA3.out.lt).trans c1
      have FM := Lib.hid (fewMount_any (.pointer (some ⟨q, 0, none⟩)) 4 (by omega) (w := w4) (S4.out.blocks0.mono fun e w' h => ⟨h.1, by rw [h.2]; exact Below.refl _ _⟩))
      have FN := Lib.hid (fun W => fewMount_any (.pointer none) 0 (by omega) (w := W) (nod_blocks _ W (.inl rfl)))
      go_upto_region 16 with (first
        | (go_at_call 19; (refine FM.out.mono ?_); rintro e w5 ⟨rfl, b5⟩; have HB5 := Lib.hid b5; clear b5)
        | (go_at_call 19; (refine (FN.out _).mono ?_); rintro e w6 ⟨rfl, b6⟩; have HB6 := Lib.hid b6; clear b6))
      have B6 := Lib.hid (B4.out.trans ((HB5.out.mono B4.out.size).trans (HB6.out.mono (Nat.le_trans B4.out.size HB5.out.size))))
      go_wp2
      go_ret
      exact ⟨rfl, HB1.out.trans (B6.out.mono HB1.out.size)⟩
end Go.Proofs.YtnfgpjfldgocaaaGreat
