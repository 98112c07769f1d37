/- DecodeEncodes: the word that says any op is the document's, or there is none; and whether its name writes a register. -/
import Derived.Test.YtdloaeifiohefaaDoorDecV
namespace Go.Proofs.YtdloaeifiohefaaDoor
open Go.RowKit Bm

theorem decodeEncodes_walk (a b c d : Int) (i : BitVec 32) (w : World) (hT : Tabs w) :
    Calls Tryd.prog 4 #[.agg #[.int .i64 a, .int .i64 b, .int .i64 c, .int .i64 d, .int .u32 (U i)]] w fun e w' => e = .returned (.bool true) ∧ Below w.heap.size w w' := by
  have HT := Lib.hid hT
  have HE := Lib.hid (fun W (h : Tabs W) => encode_any a b c d i W h)
  have HR := Lib.hid (fun W => rencode_any a b c d i W)
  have HW := Lib.hid (fun W => writes_any a W)
  have HV := Lib.hid (fun W => rwrites_any a W)
  obtain ⟨m, hm⟩ : ∃ m, m = encM ⟨a, b, c, d, i⟩ := ⟨_, rfl⟩
  obtain ⟨s, hs⟩ : ∃ s, s = encB ⟨a, b, c, d, i⟩ := ⟨_, rfl⟩
  obtain ⟨t, ht⟩ : ∃ t, t = wrB a := ⟨_, rfl⟩
  rw [← hm, ← hs] at HE HR
  rw [← ht] at HW HV
  have AB0 := Lib.hid (At.news w 28 (opC ⟨a, b, c, d, i⟩))
  have LB0 : Hid (∀ o, Below w.heap.size w (w.alloc o)) := Lib.hid fun o => (Below.refl _ w).alloc (Nat.le_refl _) _
  obtain ⟨B, hB⟩ : ∃ B, B = w.heap.size := ⟨_, rfl⟩
  have HBV := Lib.hid hB
  have bw : w.heap.size = B := hB.symm
  rw [← hB] at AB0
  clear hT hm hs ht hB
  go_enter Tryd.func4, Tryd.ntmps4
  go_upto_region 5 with (first
    | (go_at_call 9; (with_reducible refine (alive11_any _ (HT.out.below (LB0.out _) HT.out.two)).mono ?_); rintro e w1 ⟨rfl, hb⟩; have A1 := Lib.hid (at_keep AB0.out hb); have L1 := Lib.hid ((LB0.out _).trans (hb.mono (LB0.out _).size)); have c0 : w1.cell? ⟨B, 0, none⟩ = some (.int .i64 a) := A1.out.cell 0; have c1 : w1.cell? ⟨B, 1, none⟩ = some (.int .i64 b) := A1.out.cell 1; have c2 : w1.cell? ⟨B, 2, none⟩ = some (.int .i64 c) := A1.out.cell 2; have c3 : w1.cell? ⟨B, 3, none⟩ = some (.int .i64 d) := A1.out.cell 3; have c4 : w1.cell? ⟨B, 4, none⟩ = some (.int .u32 (U i)) := A1.out.cell 4; clear hb)
    | (go_at_call 12; (with_reducible refine (HE.out _ (HT.out.below L1.out HT.out.two)).mono ?_); rintro e w2 ⟨rfl, hb⟩; have A2 := Lib.hid (at_keep A1.out hb); have L2 := Lib.hid (L1.out.trans (hb.mono L1.out.size)); have d0 : w2.cell? ⟨B, 0, none⟩ = some (.int .i64 a) := A2.out.cell 0; have d1 : w2.cell? ⟨B, 1, none⟩ = some (.int .i64 b) := A2.out.cell 1; have d2 : w2.cell? ⟨B, 2, none⟩ = some (.int .i64 c) := A2.out.cell 2; have d3 : w2.cell? ⟨B, 3, none⟩ = some (.int .i64 d) := A2.out.cell 3; have d4 : w2.cell? ⟨B, 4, none⟩ = some (.int .u32 (U i)) := A2.out.cell 4; clear hb)
    | (go_at_call 13; (with_reducible refine (HR.out _).mono ?_); rintro e w3 ⟨rfl, hb⟩; have A3 := Lib.hid (at_keep A2.out hb); have L3 := Lib.hid (L2.out.trans (hb.mono L2.out.size)); clear hb))
  have SD : w3.drew.cell? ⟨B, 0, none⟩ = some (.int .i64 a) := A3.out.drew.cell 0
  refine wp_region_held_drew (S := fun W => W.cell? ⟨B, 0, none⟩ = some (.int .i64 a)) (by kernel_rfl) SD ?_
  intro S0
  replace S0 : w3.drew.cell? ⟨B, 0, none⟩ = some (.int .i64 a) := SD
  have LD := Lib.hid L3.out.drew
  refine aT 0 (.int .u32 (U m)) rfl ?_; simp only [see1, see2, Act.put, see4, see5, see6]
  refine aT 1 (.int .u32 (U m)) rfl ?_; simp only [see1, see2, see3, Act.put, see4, see5, see6]
  refine aT 2 (.bool true) rfl ?_; simp only [see1, see2, see3, Act.put, see4, see5, see6]
  refine aT 3 (.bool true) rfl ?_; simp only [see1, see2, see3, Act.put, see4, see5, see6]
  refine aT 4 (.bool s) rfl ?_; simp only [see1, see2, see3, Act.put, see4, see5, see6]
  refine aT 5 (.bool s) rfl ?_; simp only [see1, see2, see3, Act.put, see4, see5, see6]
  refine aT 6 (.bool true) rfl ?_; simp only [see1, see2, see3, Act.put, see4, see5, see6]
  refine aT 7 (.bool true) rfl ?_; simp only [see1, see2, see3, Act.put, see4, see5, see6]
  refine aT 8 (.bool true) rfl ?_; simp only [see1, see2, see3, Act.put, see4, see5, see6]
  refine aT 9 (.pointer (some ⟨B, 0, none⟩)) rfl ?_; simp only [see1, see2, see3, Act.put, see4, see5, see6]
  refine aT 10 (.int .i64 a) rfl ?_; simp only [see1, see2, see3, Act.put, see4, see5, see6]
  refine aT 12 (.pointer (some ⟨B, 0, none⟩)) rfl ?_; simp only [see1, see2, see3, Act.put, see4, see5, see6]
  refine aT 13 (.int .i64 a) rfl ?_; simp only [see1, see2, see3, Act.put, see4, see5, see6]
  refine wpAnyH_all (rs := [11]) (by kernel_rfl) (by simp) ?_
  intro i11 hi11
  obtain rfl : i11 = 11 := by simpa using hi11
  refine op_goes rfl (by rfl) ?_
  go_simp
  refine (HW.out _).mono ?_
  rintro e w5 ⟨rfl, hb⟩
  have S1 : w5.cell? ⟨B, 0, none⟩ = some (.int .i64 a) := (at_keep A3.out.drew hb).cell 0
  have L5 := Lib.hid (LD.out.trans (hb.mono LD.out.size))
  clear hb
  dsimp only
  refine ⟨S1, ?_⟩
  refine wpAnyH_all (rs := [14]) (by kernel_rfl) (by simp) ?_
  intro i14 hi14
  obtain rfl : i14 = 14 := by simpa using hi14
  refine op_goes rfl (by rfl) ?_
  go_simp
  refine (HV.out _).mono ?_
  rintro e w6 ⟨rfl, hq⟩
  replace hq := hq.symm
  subst hq
  dsimp only
  refine ⟨S1, ?_⟩
  refine aT 15 (.bool true) rfl ?_; simp only [see1, see2, see3, Act.put, see4, see5, see6]
  refine aT 16 (.bool true) rfl ?_; simp only [see1, see2, see3, Act.put, see4, see5, see6]
  refine aT 17 (.bool true) rfl ?_; simp only [see1, see2, see3, Act.put, see4, see5, see6]
  refine wpAnyH_done (by kernel_rfl) ?_ _
  go_wp2
  go_ret
  exact ⟨rfl, L5.out⟩
end Go.Proofs.YtdloaeifiohefaaDoor
