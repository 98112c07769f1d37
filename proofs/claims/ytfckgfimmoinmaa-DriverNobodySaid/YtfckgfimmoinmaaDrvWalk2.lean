/- The walk of layer driver's statement DriverNobody: a driver that no call made, nil or zero. -/
import Derived.Test.YtfckgfimmoinmaaDrvAlive
import Derived.Test.YtfckgfimmoinmaaLaw
import Derived.OpenShut
namespace Go.Proofs.Ytfckgfimmoinmaa
open Go.RowKit Bm

set_option maxRecDepth 100000 in
set_option maxHeartbeats 2000000 in
theorem driverNobody_walk (a0 : Int) (b0 : (Lit.int .i64 a0).wf = true) (a1 : Int) (b1 : (Lit.int .i64 a1).wf = true) (a2 : Int) (b2 : (Lit.int .u32 a2).wf = true) (w : World) :
    Calls Try.prog 7 #[.int .i64 a0, .int .i64 a1, .int .u32 a2] w fun e w' => e = .returned (.bool true) ∧ Below w.heap.size w w' := by
  have c0 : iOk a0 := bounds_i64 b0
  have c1 : iOk a1 := bounds_i64 b1
  have c2 := bounds_u32 b2
  obtain ⟨x, rfl⟩ := U_of c2.1 (by omega)
  have C0 := Lib.hid c0
  have C1 := Lib.hid c1
  clear b0 b1 b2 c2 c0 c1
  go_enter Try.func7, Try.ntmps7
  go_wp2_with fail
  refine (alive5_any w).mono ?_
  rintro e wa ⟨rfl, hBa⟩
  go_wp2
  obtain ⟨P, hP⟩ : ∃ P, P = wa.heap.size := ⟨_, rfl⟩
  have hA1 : At ((wa.alloc (.cells zeroDrv.toArray 73)).alloc (.cells #[.pointer none, .pointer (some ⟨wa.heap.size, 0, none⟩)] 29)) P 73 zeroDrv := by
    rw [hP]; exact (At.news wa _ _).alloc _
  have hA2 : At ((wa.alloc (.cells zeroDrv.toArray 73)).alloc (.cells #[.pointer none, .pointer (some ⟨wa.heap.size, 0, none⟩)] 29)) (P + 1) 29 [.pointer none, .pointer (some ⟨P, 0, none⟩)] := by
    have := At.news (wa.alloc (.cells zeroDrv.toArray 73)) 29 [.pointer none, .pointer (some ⟨P, 0, none⟩)]
    rw [World.size_alloc] at this
    rw [hP] at this ⊢
    exact this
  have hB2 : Below w.heap.size w ((wa.alloc (.cells zeroDrv.toArray 73)).alloc (.cells #[.pointer none, .pointer (some ⟨wa.heap.size, 0, none⟩)] 29)) := (hBa.alloc hBa.size _).alloc (by have := hBa.size; rw [World.size_alloc]; omega) _
  rw [← hP] at hA1 hA2 hB2 ⊢
  simp only [zeroDrv] at hA1 hA2 hB2
  generalize hW : ((wa.alloc (Obj.cells [Value.pointer none, Value.int IntKind.i64 0, Value.int IntKind.i64 0].toArray 73)).alloc (Obj.cells #[Value.pointer none, Value.pointer (some { block := P, off := 0, spot := none })] 29)) = W1 at hA1 hA2 hB2 ⊢
  have A1 := Lib.hid hA1
  have A2 := Lib.hid hA2
  have B2 := Lib.hid hB2
  clear hW hP hBa hA1 hA2 hB2
  go_loopw [19] (fun i wr => ∃ j : Nat, j ≤ 2 ∧ i = .int .i64 j ∧ Below W1.heap.size W1 wr) (fun i _ => 2 - (intOf i).toNat)
  case atStart => exact ⟨0, by omega, rfl, Below.refl _ _⟩
  case round =>
    obtain ⟨j, hj, rfl, hb⟩ := hrel
    have HB := Lib.hid hb
    by_cases hlt : j < 2
    · have A2r := A2.out.kept (Turned.of_below hb (Nat.le_refl _) NoBlock) (fun h => h)
      have A1r := A1.out.kept (Turned.of_below hb (Nat.le_refl _) NoBlock) (fun h => h)
      obtain ⟨v, hcell, hv⟩ : ∃ v, wr.cell? ⟨P + 1, j, none⟩ = some v ∧ NoDrv wr v := by
        match j, hlt with
        | 0, _ => exact ⟨_, A2r.cell 0, .inl rfl⟩
        | 1, _ => exact ⟨_, A2r.cell 1, .inr ⟨P, rfl, A1r⟩⟩
      have V0 := Lib.hid hv
      clear A1r A2r hv hb
      go_wp2_with (first
        | (go_at_call 17; (refine (nod_read v a0 a1 _ V0.out C0.out C1.out).mono ?_); rintro e w2 ⟨rfl, b2⟩; have V2 := Lib.hid (V0.out.below b2); have B3 := Lib.hid (HB.out.trans (b2.mono HB.out.size)); clear b2)
        | (go_at_call 28; (refine (nod_program v a0 _ _ _ [x] _ (V2.out.below ((Below.refl _ w2).alloc (Nat.le_refl _) (.cells (Us [x]).toArray 33))) C0.out (reads_at w2 [x] (by simp))).mono ?_); rintro e w3 ⟨rfl, b3⟩; have V3 := Lib.hid ((V2.out.below ((Below.refl _ w2).alloc (Nat.le_refl _) (.cells (Us [x]).toArray 33))).below b3); have B4 := Lib.hid ((B3.out.alloc B3.out.size (.cells (Us [x]).toArray 33)).trans (b3.mono (by have := B3.out.size; simp; omega))); clear b3)
        | (go_at_call 15; (refine (nod_erase v a0 _ V3.out C0.out).mono ?_); rintro e w4 ⟨rfl, b4⟩; have V4 := Lib.hid (V3.out.below b4); have B5 := Lib.hid (B4.out.trans (b4.mono B4.out.size)); clear b4)
        | (go_at_call 20; (refine (nod_lock v a0 true _ V4.out C0.out).mono ?_); rintro e w5 ⟨rfl, b5⟩; have V5 := Lib.hid (V4.out.below b5); have B6 := Lib.hid (B5.out.trans (b5.mono B5.out.size)); clear b5)
        | (go_at_call 30; (refine (nod_ticks v _ V5.out).mono ?_); rintro e w6 ⟨rfl, b6⟩; have V6 := Lib.hid (V5.out.below b6); have B7 := Lib.hid (B6.out.trans (b6.mono B6.out.size)); clear b6)
        | (go_at_call 35; (refine (nod_blocks v _ V6.out).mono ?_); rintro e w7 ⟨rfl, b7⟩; have B8 := Lib.hid (B7.out.trans (b7.mono B7.out.size)); clear b7))
      go_roundw
      case rel => exact ⟨j + 1, by omega, by go_num, B8.out⟩
      case measure => simp [intOf]; omega
    · obtain rfl : j = 2 := by omega
      clear hb
      go_wp2_with fail
      refine (begin_st w.heap.size 1 1 wr (Nat.le_trans B2.out.size HB.out.size) (by omega) (by omega) (by omega) (by omega)).mono ?_
      rintro e w3 ⟨p, f, rfl, s0, b3⟩
      have B3 := Lib.hid ((B2.out.trans (HB.out.mono B2.out.size)).trans b3)
      clear s0 b3
      go_wp2_with fail
      refine (dnew_none none 1 _ (.inl rfl) (by omega) (by omega) (fun a e => by simp at e)).mono ?_
      rintro e w4 ⟨rfl, rfl⟩
      go_wp2_with fail
      refine (dnew_none (some ⟨f, 0, none⟩) 0 _ (.inr (.inl (by omega))) (by omega) (by omega) (fun a e => ⟨f, by simpa using e.symm⟩)).mono ?_
      rintro e w4 ⟨rfl, rfl⟩
      go_wp2_with fail
      refine (dnew_none (some ⟨f, 0, none⟩) 65 _ (.inr (.inr (by omega))) (by omega) (by omega) (fun a e => ⟨f, by simpa using e.symm⟩)).mono ?_
      rintro e w4 ⟨rfl, rfl⟩
      go_wp2
      go_ret
      exact ⟨rfl, B3.out⟩
end Go.Proofs.Ytfckgfimmoinmaa
