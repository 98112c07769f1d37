/- The answers that layer page's statements begin with. -/
import Derived.Test.YtkjgbjcdpifamaaPage
namespace Go.Proofs.Ytkjgbjcdpifamaa
open Go.RowKit Bm

theorem below_then {a b c : World} (h : Below a.heap.size a b) (k : Below b.heap.size b c) : Below a.heap.size a c := h.trans (k.mono h.size)

def pgA : PageM := ⟨5#32, 9#32, false, 1#32, 2#32, 3#32, 4#32⟩
theorem pgA_ok : pgOk pgA = true := by decide +kernel
theorem pgA_ws : pgWs pgA = [5#32, 9#32, 1#32, 2#32, 3#32, 4#32, 1526644958#32] := by decide +kernel
theorem hdA_ws : hdWs 7#32 = [2970353665#32, 7#32, 4294967288#32, 1526644958#32] := by decide +kernel

set_option maxRecDepth 100000 in
set_option maxHeartbeats 1000000 in
theorem alive4_any (w : World) : Calls Try.prog 9 #[] w fun e w' => e = .returned (.bool true) ∧ Below w.heap.size w w' := by
  have PW := Lib.hid (fun W => pwords_any pgA W)
  rw [pgA_ws] at PW
  have PH := Lib.hid (fun W => pheader_any 7#32 W)
  rw [hdA_ws] at PH
  have PR := Lib.hid (fun W => pright_any pgA W)
  rw [pgA_ok] at PR
  have ER := Lib.hid (pgRd_ws pgA_ok)
  have EC := Lib.hid (hdRd_ws (c := 7#32) (by decide +kernel))
  rw [pgA_ws] at ER
  rw [hdA_ws] at EC
  unfold pgV pgC pgA at PW PR
  go_enter Try.func9, Try.ntmps9
  go_wp2_with (first
    | (go_at_call 15; (refine (PW.out _).mono ?_); rintro e w1 ⟨A1, c1, rfl, hr, ho, hb⟩; obtain ⟨g, rest, rfl, hA, hc, hg⟩ := ho (by simp); have HR1 := Lib.hid hr; have HA1 := Lib.hid hA; have HB1 := Lib.hid hb; clear hr ho hA hc hg hb)
    | (go_at_call 10; (refine (pread_any _ _ _ _ _ HR1.out (by simp)).mono ?_); rintro e w2 ⟨rfl, hb⟩; rw [ER.out]; simp only [pgV, pgC, pgA]; have HB2 := Lib.hid hb; have HR2 := Lib.hid (HR1.out.kept hb); have al2 := (Below.refl _ w2).alloc (Nat.le_refl _) (.cells (pgC pgA).toArray 28); have HR2' := Lib.hid (HR2.out.kept al2); have AL2 := Lib.hid al2; clear hb al2)
    | (go_at_call 19; (refine (PH.out _).mono ?_); rintro e w3 ⟨A3, c3, rfl, hr, _, hb⟩; have HR3 := Lib.hid hr; have HB3 := Lib.hid hb; have P3 := Lib.hid ((PgAt.news w2 28 pgA).on hb); have R3 := Lib.hid (HR2'.out.kept hb); clear hr hb)
    | (go_at_call 17; (refine (pcount_any _ _ _ _ _ HR3.out (by simp)).mono ?_); rintro e w4 ⟨rfl, hb⟩; rw [EC.out]; have HB4 := Lib.hid hb; have P4 := Lib.hid (P3.out.on hb); have R4 := Lib.hid (R3.out.kept hb); have x6 : w4.cell? ⟨g, 6, none⟩ = some (.int .u32 (U 1526644958#32)) := R4.out.cj 6 (by simp) (by omega); obtain ⟨p0, p1, p2, p3, p4, p5, p6⟩ := P4.out.cells; simp only [pgA] at p0 p1 p2 p3 p4 p5 p6; clear hb)
    | (go_at_call 21; (refine (pat_any 1 2 _ (by omega) (by omega) (by omega) (by omega)).mono ?_); rintro e w5 ⟨rfl, rfl⟩; rw [show pgAt 1 2 = 82 from rfl])
    | (go_at_call 12; (refine (PR.out _).mono ?_); rintro e w6 ⟨rfl, hb⟩; have HB6 := Lib.hid hb; clear hb))
  go_ret
  exact ⟨rfl, below_then (below_then (below_then (below_then (below_then HB1.out HB2.out) AL2.out) HB3.out) HB4.out) HB6.out⟩
end Go.Proofs.Ytkjgbjcdpifamaa
