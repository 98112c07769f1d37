/- The program's device of layer sector: Get, New, one sector of a command. -/
import Derived.Test.YtpkkejdjhnmjiaaPd1
namespace Go.Proofs.Ytpkkejdjhnmjiaa
open Go.RowKit Bm

/-- What a register tells, and what the device is then; n: the disk's sectors. -/
def pGet (n : Nat) (d : DvM) (reg : Int) : DvM × BitVec 32 × Int :=
  if reg = 0 then (d, 0#32, 0) else if reg = 1 then (d, d.first, 0) else if reg = 2 then (d, d.many, 0)
  else if reg = 3 then (d, stB d, 0) else if reg = 4 then (d, d.err, 0)
  else if reg = 5 then ({ d with place := dNext d.place }, wd d.buf d.place, 0) else if reg = 6 then (d, BitVec.ofNat 32 n, 0)
  else if reg = 7 then (d, d.line, 0) else (d, 0#32, 3)
theorem pGet_is {n : Nat} {d : DvM} (h : d.disk.length = n) (reg : Int) : pGet n d reg = dGet d reg := by
  unfold pGet dGet stB
  rw [h]
  by_cases he : U d.err = 0
  · rw [if_pos he, if_pos he]
  · rw [if_neg he, if_neg he]
theorem pGet_e (n : Nat) (d : DvM) {reg : Int} (h0 : 0 ≤ reg) (h7 : reg ≤ 7) : (pGet n d reg).2.2 = 0 := by
  obtain rfl | rfl | rfl | rfl | rfl | rfl | rfl | rfl : reg = 0 ∨ reg = 1 ∨ reg = 2 ∨ reg = 3 ∨ reg = 4 ∨ reg = 5 ∨ reg = 6 ∨ reg = 7 := by omega
  all_goals rfl
section
variable {α : Type} {D : Dk10 α} {q : Nat} {K K' S : Nat → Prop} {d d' : DvM} {a : α} {w w' : World}
set_option maxRecDepth 100000 in
set_option maxHeartbeats 1000000 in
theorem value10 (h : PdAt D q K d a w) (hD : D.Is) (reg : Int) (r0 : 0 ≤ reg) (r7 : reg ≤ 7) :
    Calls Try.prog 21 #[.pointer (some ⟨q, 0, none⟩), .int .i64 reg] w fun e w' => e = .returned (.int .u32 (U (pGet (D.len a) d reg).2.1)) ∧ PdAt D q K (pGet (D.len a) d reg).1 a w' ∧ Turned (Un10 D.B K) w w' := by
  obtain ⟨c0, c1, c2, c3, c4, c21⟩ := pd_cells h
  have hw := window10 h hD
  have hc := fun w1 (h1 : PdAt D q K { d with place := dNext d.place } a w1) => pd_word h1 h.p
  have HH := Lib.hid h
  have HD := Lib.hid hD
  have HW := Lib.hid hw
  have HC := Lib.hid hc
  have HS := Lib.hid (size10 h hD)
  have HT := Lib.hid (status10 h)
  have FIN : Hid (PdAt D q K d a w ∧ Turned (Un10 D.B K) w w) := Lib.hid ⟨h, Turned.refl _ _⟩
  clear h hD hw hc
  obtain rfl | rfl | rfl | rfl | rfl | rfl | rfl | rfl : reg = 0 ∨ reg = 1 ∨ reg = 2 ∨ reg = 3 ∨ reg = 4 ∨ reg = 5 ∨ reg = 6 ∨ reg = 7 := by omega
  case inr.inr.inr.inr.inr.inl =>
    go_enter Try.func21, Try.ntmps21
    go_wp2_with (go_at_call 20; (with_reducible refine HW.out.mono ?_); rintro e w1 ⟨rfl, p1, t1⟩; have cw := HC.out w1 p1; have HP1 := Lib.hid p1; have HT1 := Lib.hid t1; clear p1 t1)
    go_ret
    exact ⟨rfl, HP1.out, HT1.out⟩
  case inr.inr.inr.inl =>
    go_enter Try.func21, Try.ntmps21
    go_wp2_with (go_at_call 25; (with_reducible refine HT.out.mono ?_); rintro e w1 ⟨rfl, hw⟩; obtain rfl := hw.symm)
    go_ret
    exact ⟨rfl, FIN.out⟩
  case inr.inr.inr.inr.inr.inr.inl =>
    go_enter Try.func21, Try.ntmps21
    go_wp2_with (go_at_call 26; (with_reducible refine HS.out.mono ?_); rintro e w1 ⟨rfl, hw⟩; obtain rfl := hw.symm)
    go_ret
    exact ⟨rfl, FIN.out⟩
  all_goals (
    go_enter Try.func21, Try.ntmps21
    go_wp2
    go_ret
    exact ⟨rfl, FIN.out⟩)
set_option maxRecDepth 100000 in
set_option maxHeartbeats 1000000 in
theorem get10 (h : PdAt D q K d a w) (hD : D.Is) (reg : Int) :
    Calls Try.prog 14 #[.pointer (some ⟨q, 0, none⟩), .int .i64 reg] w fun e w' => e = .returned (.tuple #[.int .u32 (U (pGet (D.len a) d reg).2.1), .int .i64 (pGet (D.len a) d reg).2.2]) ∧ PdAt D q K (pGet (D.len a) d reg).1 a w' ∧ Turned (Un10 D.B K) w w' := by
  have hr := refuse10 h reg
  by_cases hb : reg < 0 ∨ 7 < reg
  · have e1 : regE reg = 3 := by unfold regE; rw [if_pos hb]
    have e2 : pGet (D.len a) d reg = (d, 0#32, 3) := by
      unfold pGet
      rw [if_neg (by omega), if_neg (by omega), if_neg (by omega), if_neg (by omega), if_neg (by omega), if_neg (by omega), if_neg (by omega), if_neg (by omega)]
    rw [e1] at hr
    rw [e2]
    have HR := Lib.hid hr
    have FIN : Hid (PdAt D q K d a w ∧ Turned (Un10 D.B K) w w) := Lib.hid ⟨h, Turned.refl _ _⟩
    clear h hr e1 e2 hb
    go_enter Try.func14, Try.ntmps14
    go_wp2_with (go_at_call 18; (with_reducible refine HR.out.mono ?_); rintro e w1 ⟨rfl, hw⟩; obtain rfl := hw.symm)
    go_ret2
    exact ⟨rfl, FIN.out⟩
  · have e1 : regE reg = 0 := by unfold regE; rw [if_neg hb]
    rw [e1] at hr
    have e2 := pGet_e (D.len a) d (reg := reg) (by omega) (by omega)
    rw [e2]
    have HR := Lib.hid hr
    have HV := Lib.hid (value10 h hD reg (by omega) (by omega))
    clear h hD hr e1 e2 hb
    go_enter Try.func14, Try.ntmps14
    go_wp2_with (first
      | (go_at_call 18; (with_reducible refine HR.out.mono ?_); rintro e w1 ⟨rfl, hw⟩; obtain rfl := hw.symm)
      | (go_at_call 21; (with_reducible refine HV.out.mono ?_); rintro e w1 ⟨rfl, p1, t1⟩; have HP1 := Lib.hid p1; have HT1 := Lib.hid t1; clear p1 t1))
    go_ret2
    exact ⟨rfl, HP1.out, HT1.out⟩

/-- A new device. -/
def pd0 : DvM := ⟨0#32, 0#32, 0#32, 0#32, List.replicate 16 0#32, 0, []⟩
theorem new10 (hD : D.Is) (h : D.st K a w) (hlow : ¬ K w.heap.size) : Calls Try.prog 10 #[.iface D.T D.v] w fun e w' => e = .returned (.pointer (some ⟨w.heap.size, 0, none⟩)) ∧ PdAt D w.heap.size K pd0 a w' ∧ Below w.heap.size w w' := by
  have FIN : Hid (∀ cs : List Value, cs = pdC D pd0 → PdAt D w.heap.size K pd0 a (w.alloc (.cells cs.toArray 52)) ∧ Below w.heap.size w (w.alloc (.cells cs.toArray 52))) := Lib.hid (by
    rintro cs rfl
    have hb : Below w.heap.size w (w.alloc (.cells (pdC D pd0).toArray 52)) := (Below.refl _ w).alloc (Nat.le_refl _) _
    refine ⟨⟨At.news w _ _, hD.move h (S := NoBlock) (fun _ e => e.elim) (Turned.of_below hb (Nat.le_refl _) _) (fun i e => ?_), hlow, hD.low h, rfl, by show 0 < 16; omega⟩, hb⟩
    rw [World.size_alloc]
    rcases e with e | rfl
    · exact ⟨.inl e, by have := hD.kin h i e; omega⟩
    · exact ⟨.inr (Nat.le_refl _), by omega⟩)
  clear h hD
  go_enter Try.func10, Try.ntmps10
  go_wp2
  go_ret
  refine ⟨rfl, FIN.out _ rfl⟩
end
end Go.Proofs.Ytpkkejdjhnmjiaa
