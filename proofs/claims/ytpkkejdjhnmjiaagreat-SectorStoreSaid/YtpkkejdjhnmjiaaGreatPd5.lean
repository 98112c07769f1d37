/- The program's device of layer sector, over whatever disk stands behind the interface: plain data, memory, its registers. | The program's device of layer sector: Get, New, one sector of a command. | The program's device of layer sector: one sector of a command. | The program's device of layer sector: a command. | The program's device of layer sector: Set; what the document's device does, where the disk keeps what it was told. -/
import Derived.Test.YtpkkejdjhnmjiaaGreatSec5
namespace Go.Proofs.YtpkkejdjhnmjiaaGreat
open Go.RowKit Bm
def Un10 (B : Nat) (K : Nat → Prop) (i : Nat) : Prop := B ≤ i ∧ ¬ K i
structure Dk10 (α : Type) where
  T : TypeId
  v : Value
  fs : FuncId
  fr : FuncId
  fw : FuncId
  ft : FuncId
  B : Nat
  st : (Nat → Prop) → α → World → Prop
  len : α → Nat
  rd : α → Nat → α × V4 × Int
  wr : α → Nat → V4 → α × Int
  tr : α → Nat → α × Int
  room : α → Nat → Prop
structure Dk10.Is {α : Type} (D : Dk10 α) : Prop where
  ms : ∀ k w, (method (k + 1) D.T D.v "Sectors").run Tryz.prog w = .ok (D.fs, D.v) w
  mr : ∀ k w, (method (k + 1) D.T D.v "Read").run Tryz.prog w = .ok (D.fr, D.v) w
  mw : ∀ k w, (method (k + 1) D.T D.v "Write").run Tryz.prog w = .ok (D.fw, D.v) w
  mt : ∀ k w, (method (k + 1) D.T D.v "Trim").run Tryz.prog w = .ok (D.ft, D.v) w
  gs : ∀ args w, (callFunc D.fs args).run Tryz.prog w = .ok (.enter D.fs args) w
  gr : ∀ args w, (callFunc D.fr args).run Tryz.prog w = .ok (.enter D.fr args) w
  gw : ∀ args w, (callFunc D.fw args).run Tryz.prog w = .ok (.enter D.fw args) w
  gt : ∀ args w, (callFunc D.ft args).run Tryz.prog w = .ok (.enter D.ft args) w
  one : (Value.iface D.T D.v).oneCell' = true
  few : ∀ {K a w}, D.st K a w → D.len a ≤ 1000
  low : ∀ {K a w}, D.st K a w → D.B ≤ w.heap.size
  kin : ∀ {K a w}, D.st K a w → ∀ i, K i → i < w.heap.size
  move : ∀ {K K' S a w w'}, D.st K a w → (∀ i, S i → K i) → Turned S w w' → (∀ i, K' i → (K i ∨ w.heap.size ≤ i) ∧ i < w'.heap.size) → D.st K' a w'
  cs : ∀ {K a w}, D.st K a w → Calls Tryz.prog D.fs #[D.v] w fun e w' => e = .returned (.int .i64 (D.len a)) ∧ w' = w
  cr : ∀ {K a w}, D.st K a w → D.room a 1 → ∀ i : Nat, i < D.len a → Calls Tryz.prog D.fr #[D.v, .int .i64 i] w fun e w' => e = .returned (.tuple #[.agg (v4C (D.rd a i).2.1).toArray, .int .i64 (D.rd a i).2.2]) ∧ D.st K (D.rd a i).1 w' ∧ Turned (Un10 D.B K) w w'
  cw : ∀ {K a w}, D.st K a w → D.room a 1 → ∀ i : Nat, i < D.len a → ∀ x : V4, Calls Tryz.prog D.fw #[D.v, .int .i64 i, .agg (v4C x).toArray] w fun e w' => e = .returned (.int .i64 (D.wr a i x).2) ∧ D.st K (D.wr a i x).1 w' ∧ Turned (Un10 D.B K) w w'
  ct : ∀ {K a w}, D.st K a w → D.room a 1 → ∀ i : Nat, i < D.len a → Calls Tryz.prog D.ft #[D.v, .int .i64 i] w fun e w' => e = .returned (.int .i64 (D.tr a i).2) ∧ D.st K (D.tr a i).1 w' ∧ Turned (Un10 D.B K) w w'
  lr : ∀ a i, D.len (D.rd a i).1 = D.len a
  lw : ∀ a i x, D.len (D.wr a i x).1 = D.len a
  lt : ∀ a i, D.len (D.tr a i).1 = D.len a
  rr : ∀ a i n, D.room a (n + 1) → D.room (D.rd a i).1 n
  rw : ∀ a i x n, D.room a (n + 1) → D.room (D.wr a i x).1 n
  rt : ∀ a i n, D.room a (n + 1) → D.room (D.tr a i).1 n
  rl : ∀ a n, D.room a (n + 1) → D.room a n
theorem Dk10.Is.le {α : Type} {D : Dk10 α} (h : D.Is) (a : α) (n : Nat) : ∀ m, D.room a (n + m) → D.room a n
  | 0, e => e
  | m + 1, e => h.le a n m (h.rl a (n + m) e)
theorem Dk10.Is.less {α : Type} {D : Dk10 α} (h : D.Is) {K K' : Nat → Prop} {a : α} {w : World} (s : D.st K a w) (hk : ∀ i, K' i → K i) : D.st K' a w :=
  h.move (S := NoBlock) s (fun _ e => e.elim) (Turned.refl _ _) (fun i e => ⟨.inl (hk i e), h.kin s i (hk i e)⟩)
def pdC {α : Type} (D : Dk10 α) (d : DvM) : List Value := [.iface D.T D.v, .int .u32 (U d.first), .int .u32 (U d.many), .int .u32 (U d.err), .int .u32 (U d.line)] ++ (Us d.buf ++ [.int .i64 d.place])
structure PdAt {α : Type} (D : Dk10 α) (q : Nat) (K : Nat → Prop) (d : DvM) (a : α) (w : World) : Prop where
  own : At w q 64 (pdC D d)
  dk : D.st (fun i => K i ∨ i = q) a w
  nk : ¬ K q
  lo : D.B ≤ q
  b : d.buf.length = 16
  p : d.place < 16
section
variable {α : Type} {D : Dk10 α} {q : Nat} {K K' S : Nat → Prop} {d d' : DvM} {a : α} {w w' : World}
theorem PdAt.kin (h : PdAt D q K d a w) (hD : D.Is) (i : Nat) (hi : K i) : i < w.heap.size := hD.kin h.dk i (.inl hi)
theorem PdAt.low (h : PdAt D q K d a w) (hD : D.Is) : D.B ≤ w.heap.size := hD.low h.dk
theorem PdAt.move (h : PdAt D q K d a w) (hD : D.Is) (hs : ∀ i, S i → K i) (t : Turned S w w') (hK : ∀ i, K' i → (K i ∨ w.heap.size ≤ i) ∧ i < w'.heap.size) : PdAt D q K' d a w' :=
  ⟨h.own.kept t (fun e => h.nk (hs _ e)), hD.move h.dk (fun i e => .inl (hs i e)) t (fun i e => by
    rcases e with e | e
    · obtain ⟨h1, h2⟩ := hK i e
      exact ⟨h1.imp .inl id, h2⟩
    · exact ⟨.inl (.inr e), by have := h.own.lt; have := t.size; omega⟩), fun e => by
    rcases (hK q e).1 with h1 | h1
    · exact h.nk h1
    · have := h.own.lt
      omega, h.lo, h.b, h.p⟩
theorem PdAt.less (h : PdAt D q K d a w) (hD : D.Is) (hk : ∀ i, K' i → K i) : PdAt D q K' d a w :=
  h.move hD (S := NoBlock) (fun _ e => e.elim) (Turned.refl _ _) (fun i e => ⟨.inl (hk i e), h.kin hD i (hk i e)⟩)
theorem PdAt.below (h : PdAt D q K d a w) (hD : D.Is) (t : Below w.heap.size w w') : PdAt D q K d a w' :=
  h.move hD (S := NoBlock) (fun _ e => e.elim) (Turned.of_below t (Nat.le_refl _) _) (fun i e => ⟨.inl e, by have := h.kin hD i e; have := t.size; omega⟩)
theorem PdAt.drewN (h : PdAt D q K d a w) (hD : D.Is) (n : Nat) : PdAt D q K d a (w.drewN n) :=
  h.move hD (S := NoBlock) (fun _ e => e.elim) ((Turned.refl _ w).drewN n) (fun i e => ⟨.inl e, h.kin hD i e⟩)
theorem PdAt.drew (h : PdAt D q K d a w) (hD : D.Is) : PdAt D q K d a w.drew :=
  h.move hD (S := NoBlock) (fun _ e => e.elim) (Turned.refl _ w).drew (fun i e => ⟨.inl e, h.kin hD i e⟩)
theorem PdAt.disk {a' : α} (h : PdAt D q K d a w) (s : D.st (fun i => K i ∨ i = q) a' w') (t : Turned (Un10 D.B (fun i => K i ∨ i = q)) w w') : PdAt D q K d a' w' ∧ Turned (Un10 D.B K) w w' :=
  ⟨⟨h.own.kept t (fun e => e.2 (.inr rfl)), s, h.nk, h.lo, h.b, h.p⟩, t.mono (fun _ _ e => ⟨e.1, fun e2 => e.2 (.inl e2)⟩)⟩
theorem PdAt.put (h : PdAt D q K d a w) (hD : D.Is) (o : Nat) (u : Value) (e : (pdC D d).set o u = pdC D d') (hb : d'.buf.length = 16) (hp : d'.place < 16) : ∃ W, w.setCell ⟨q, o, none⟩ u = W ∧ PdAt D q K d' a W ∧ Turned (Un10 D.B K) w W :=
  ⟨_, rfl, ⟨(h.own.put o u).as e, hD.move h.dk (S := Just q) (fun _ e => .inr e) (turned_set w q o u) (fun _ e => ⟨.inl e, by rw [World.size_setCell]; exact hD.kin h.dk _ e⟩), h.nk, h.lo, hb, hp⟩, (turned_set w q o u).mono (fun i _ e => by rw [show i = q from e]; exact ⟨h.lo, h.nk⟩)⟩
theorem pd_cells (h : PdAt D q K d a w) : w.cell? ⟨q, 0, none⟩ = some (.iface D.T D.v) ∧ w.cell? ⟨q, 1, none⟩ = some (.int .u32 (U d.first)) ∧ w.cell? ⟨q, 2, none⟩ = some (.int .u32 (U d.many)) ∧ w.cell? ⟨q, 3, none⟩ = some (.int .u32 (U d.err)) ∧ w.cell? ⟨q, 4, none⟩ = some (.int .u32 (U d.line)) ∧ w.cell? ⟨q, 21, none⟩ = some (.int .i64 d.place) := by
  refine ⟨h.own.cell 0, h.own.cell 1, h.own.cell 2, h.own.cell 3, h.own.cell 4, ?_⟩
  rw [h.own.cell 21]
  unfold pdC
  rw [List.getElem?_append_right (by simp), List.getElem?_append_right (by rw [Us_length, h.b]; simp), Us_length, h.b]
  rfl
theorem pd_word (h : PdAt D q K d a w) {j : Nat} (hj : j < 16) : w.cell? ⟨q, 5 + j, none⟩ = some (.int .u32 (U (wd d.buf j))) := by
  rw [h.own.cell (5 + j)]
  unfold pdC
  rw [List.getElem?_append_right (by simp), show 5 + j - [Value.iface D.T D.v, .int .u32 (U d.first), .int .u32 (U d.many), .int .u32 (U d.err), .int .u32 (U d.line)].length = j by simp, List.getElem?_append_left (by rw [Us_length, h.b]; exact hj)]
  exact Us_get _ _ (by rw [h.b]; exact hj)
theorem pd_place (hb : d.buf.length = 16) (u : Nat) : (pdC D d).set 21 (.int .i64 u) = pdC D { d with place := u } := by
  unfold pdC
  rw [List.set_append_right _ _ (by simp), List.set_append_right _ _ (by rw [Us_length, hb]; simp), Us_length, hb]
  rfl
theorem pd_buf (hb : d.buf.length = 16) {k : Nat} (hk : k < 16) (x : BitVec 32) : (pdC D d).set (5 + k) (.int .u32 (U x)) = pdC D { d with buf := d.buf.set k x } := by
  unfold pdC
  rw [List.set_append_right _ _ (by simp), show 5 + k - [Value.iface D.T D.v, .int .u32 (U d.first), .int .u32 (U d.many), .int .u32 (U d.err), .int .u32 (U d.line)].length = k by simp, List.set_append_left _ _ (by rw [Us_length, hb]; exact hk), Us_set]
theorem next_nat (p : Nat) : ((dNext p : Nat) : Int) = ((p : Int) + 1) % 16 := by unfold dNext; omega
theorem made10 (h : PdAt D q K d a w) : Calls Tryz.prog 26 #[.pointer (some ⟨q, 0, none⟩)] w fun e w' => e = .returned (.bool true) ∧ w' = w := by
  have c0 := (pd_cells h).1
  clear h
  go_enter Tryz.func26, Tryz.ntmps26
  go_wp2
  go_ret
  exact ⟨rfl, rfl⟩
def regE (reg : Int) : Int := if reg < 0 ∨ 7 < reg then 3 else 0
theorem refuse10 (h : PdAt D q K d a w) (reg : Int) : Calls Tryz.prog 23 #[.pointer (some ⟨q, 0, none⟩), .int .i64 reg] w fun e w' => e = .returned (.int .i64 (regE reg)) ∧ w' = w := by
  have HM := Lib.hid (made10 h)
  clear h
  unfold regE
  by_cases h1 : reg < 0
  · rw [if_pos (.inl h1)]
    go_enter Tryz.func23, Tryz.ntmps23
    go_wp2_with (go_at_call 26; (with_reducible refine HM.out.mono ?_); rintro e w1 ⟨rfl, hw⟩; obtain rfl := hw.symm)
    go_ret
    exact ⟨rfl, rfl⟩
  by_cases h2 : 7 < reg
  · rw [if_pos (.inr h2)]
    go_enter Tryz.func23, Tryz.ntmps23
    go_wp2_with (go_at_call 26; (with_reducible refine HM.out.mono ?_); rintro e w1 ⟨rfl, hw⟩; obtain rfl := hw.symm)
    go_ret
    exact ⟨rfl, rfl⟩
  · rw [if_neg (by omega)]
    go_enter Tryz.func23, Tryz.ntmps23
    go_wp2_with (go_at_call 26; (with_reducible refine HM.out.mono ?_); rintro e w1 ⟨rfl, hw⟩; obtain rfl := hw.symm)
    go_ret
    exact ⟨rfl, rfl⟩
theorem up10 (h : PdAt D q K d a w) : Calls Tryz.prog 11 #[.pointer (some ⟨q, 0, none⟩)] w fun e w' => e = .returned (.bool (U d.line == 1)) ∧ w' = w := by
  have HM := Lib.hid (made10 h)
  have c4 := (pd_cells h).2.2.2.2.1
  clear h
  go_enter Tryz.func11, Tryz.ntmps11
  go_wp2_with (go_at_call 26; (with_reducible refine HM.out.mono ?_); rintro e w1 ⟨rfl, hw⟩; obtain rfl := hw.symm)
  go_ret
  exact ⟨rfl, rfl⟩
theorem size10 (h : PdAt D q K d a w) (hD : D.Is) : Calls Tryz.prog 43 #[.pointer (some ⟨q, 0, none⟩)] w fun e w' => e = .returned (.int .u32 (U (BitVec.ofNat 32 (D.len a)))) ∧ w' = w := by
  have c0 := (pd_cells h).1
  have hme := hD.ms
  have hge := hD.gs
  have hn := hD.few h.dk
  have HS := Lib.hid (hD.cs h.dk)
  have hz := wrap_small hn
  have hu := U_small hn
  rw [hu]
  clear h hD hu hn
  go_enter Tryz.func43, Tryz.ntmps43
  go_wp2_with ((with_reducible refine HS.out.mono ?_); rintro e w1 ⟨rfl, hw⟩; obtain rfl := hw.symm)
  go_ret
  exact ⟨rfl, rfl⟩
def stB (d : DvM) : BitVec 32 := if U d.err = 0 then 1#32 else 3#32
theorem status10 (h : PdAt D q K d a w) : Calls Tryz.prog 42 #[.pointer (some ⟨q, 0, none⟩)] w fun e w' => e = .returned (.int .u32 (U (stB d))) ∧ w' = w := by
  have c3 := (pd_cells h).2.2.2.1
  clear h
  by_cases h1 : U d.err = 0
  · have e1 : (U d.err == 0) = true := by rw [beq_iff_eq]; exact h1
    rw [show stB d = 1#32 by unfold stB; rw [if_pos h1]]
    clear h1
    go_enter Tryz.func42, Tryz.ntmps42
    go_wp2
    go_ret
    exact ⟨rfl, rfl⟩
  · have e1 : (U d.err == 0) = false := by rw [beq_eq_false_iff_ne]; exact h1
    rw [show stB d = 3#32 by unfold stB; rw [if_neg h1]]
    clear h1
    go_enter Tryz.func42, Tryz.ntmps42
    go_wp2
    go_ret
    exact ⟨rfl, rfl⟩
theorem fault10 (e : Int) (w : World) : Calls Tryz.prog 61 #[.int .i64 e] w fun r w' => r = .returned (.int .u32 (if e = 9 then 3 else if e = 4 then 4 else 5)) ∧ w' = w := by
  by_cases h1 : e = 9
  · rw [if_pos h1]
    subst h1
    go_enter Tryz.func61, Tryz.ntmps61
    go_wp2
    go_ret
    exact ⟨rfl, rfl⟩
  rw [if_neg h1]
  have e1 : (e == 9) = false := by rw [beq_eq_false_iff_ne]; exact h1
  by_cases h2 : e = 4
  · rw [if_pos h2]
    subst h2
    clear h1 e1
    go_enter Tryz.func61, Tryz.ntmps61
    go_wp2
    go_ret
    exact ⟨rfl, rfl⟩
  · rw [if_neg h2]
    have e2 : (e == 4) = false := by rw [beq_eq_false_iff_ne]; exact h2
    clear h1 h2
    go_enter Tryz.func61, Tryz.ntmps61
    go_wp2
    go_ret
    exact ⟨rfl, rfl⟩
set_option maxRecDepth 100000 in
set_option maxHeartbeats 1000000 in
theorem window10 (h : PdAt D q K d a w) (hD : D.Is) : Calls Tryz.prog 25 #[.pointer (some ⟨q, 0, none⟩)] w fun e w' => e = .returned (.pointer (some ⟨q, 5 + d.place, none⟩)) ∧ PdAt D q K { d with place := dNext d.place } a w' ∧ Turned (Un10 D.B K) w w' := by
  have c21 := (pd_cells h).2.2.2.2.2
  have f21 := h.own.frozen 21
  have p16 : (d.place : Int) < 16 := by have := h.p; omega
  have p0 : (0 : Int) ≤ d.place := by omega
  have hp : 5 + (d.place / 4) * 4 + d.place % 4 = 5 + d.place := by omega
  have HP := Lib.hid h
  have HH := Lib.hid hp
  have HD := Lib.hid hD
  clear h hp hD
  go_enter Tryz.func25, Tryz.ntmps25
  go_upto_region 2 with (go_quiet (fail))
  go_wp2
  go_ret
  obtain ⟨W, hW, hP, hT⟩ := (HP.out.drewN HD.out nq).put HD.out 21 (.int .i64 (dNext d.place)) (pd_place HP.out.b _) HP.out.b (by show dNext d.place < 16; unfold dNext; omega)
  rw [next_nat] at hW
  rw [hW, HH.out]
  exact ⟨rfl, hP, ((Turned.refl _ w).drewN nq).trans hT⟩
end
end Go.Proofs.YtpkkejdjhnmjiaaGreat

namespace Go.Proofs.YtpkkejdjhnmjiaaGreat
open Go.RowKit Bm
def pGet (n : Nat) (d : DvM) (reg : Int) : DvM × BitVec 32 × Int :=
  if reg = 0 then (d, 0#32, 0) else if reg = 1 then (d, d.first, 0) else if reg = 2 then (d, d.many, 0)
  else if reg = 3 then (d, stB d, 0) else if reg = 4 then (d, d.err, 0)
  else if reg = 5 then ({ d with place := dNext d.place }, wd d.buf d.place, 0) else if reg = 6 then (d, BitVec.ofNat 32 n, 0)
  else if reg = 7 then (d, d.line, 0) else (d, 0#32, 3)
theorem pGet_is {n : Nat} {d : DvM} (h : d.disk.length = n) (reg : Int) : pGet n d reg = dGet d reg := by
  unfold pGet dGet stB
  rw [h]
  by_cases he : U d.err = 0
  · rw [if_pos he, if_pos he]
  · rw [if_neg he, if_neg he]
theorem pGet_e (n : Nat) (d : DvM) {reg : Int} (h0 : 0 ≤ reg) (h7 : reg ≤ 7) : (pGet n d reg).2.2 = 0 := by
  obtain rfl | rfl | rfl | rfl | rfl | rfl | rfl | rfl : reg = 0 ∨ reg = 1 ∨ reg = 2 ∨ reg = 3 ∨ reg = 4 ∨ reg = 5 ∨ reg = 6 ∨ reg = 7 := by omega
  all_goals rfl
section
variable {α : Type} {D : Dk10 α} {q : Nat} {K K' S : Nat → Prop} {d d' : DvM} {a : α} {w w' : World}
set_option maxRecDepth 100000 in
set_option maxHeartbeats 1000000 in
theorem value10 (h : PdAt D q K d a w) (hD : D.Is) (reg : Int) (r0 : 0 ≤ reg) (r7 : reg ≤ 7) :
    Calls Tryz.prog 27 #[.pointer (some ⟨q, 0, none⟩), .int .i64 reg] w fun e w' => e = .returned (.int .u32 (U (pGet (D.len a) d reg).2.1)) ∧ PdAt D q K (pGet (D.len a) d reg).1 a w' ∧ Turned (Un10 D.B K) w w' := by
  obtain ⟨c0, c1, c2, c3, c4, c21⟩ := pd_cells h
  have hw := window10 h hD
  have hc := fun w1 (h1 : PdAt D q K { d with place := dNext d.place } a w1) => pd_word h1 h.p
  have HH := Lib.hid h
  have HD := Lib.hid hD
  have HW := Lib.hid hw
  have HC := Lib.hid hc
  have HS := Lib.hid (size10 h hD)
  have HT := Lib.hid (status10 h)
  have FIN : Hid (PdAt D q K d a w ∧ Turned (Un10 D.B K) w w) := Lib.hid ⟨h, Turned.refl _ _⟩
  clear h hD hw hc
  obtain rfl | rfl | rfl | rfl | rfl | rfl | rfl | rfl : reg = 0 ∨ reg = 1 ∨ reg = 2 ∨ reg = 3 ∨ reg = 4 ∨ reg = 5 ∨ reg = 6 ∨ reg = 7 := by omega
  case inr.inr.inr.inr.inr.inl =>
    go_enter Tryz.func27, Tryz.ntmps27
    go_wp2_with (go_at_call 25; (with_reducible refine HW.out.mono ?_); rintro e w1 ⟨rfl, p1, t1⟩; have cw := HC.out w1 p1; have HP1 := Lib.hid p1; have HT1 := Lib.hid t1; clear p1 t1)
    go_ret
    exact ⟨rfl, HP1.out, HT1.out⟩
  case inr.inr.inr.inl =>
    go_enter Tryz.func27, Tryz.ntmps27
    go_wp2_with (go_at_call 42; (with_reducible refine HT.out.mono ?_); rintro e w1 ⟨rfl, hw⟩; obtain rfl := hw.symm)
    go_ret
    exact ⟨rfl, FIN.out⟩
  case inr.inr.inr.inr.inr.inr.inl =>
    go_enter Tryz.func27, Tryz.ntmps27
    go_wp2_with (go_at_call 43; (with_reducible refine HS.out.mono ?_); rintro e w1 ⟨rfl, hw⟩; obtain rfl := hw.symm)
    go_ret
    exact ⟨rfl, FIN.out⟩
  all_goals (
    go_enter Tryz.func27, Tryz.ntmps27
    go_wp2
    go_ret
    exact ⟨rfl, FIN.out⟩)
set_option maxRecDepth 100000 in
set_option maxHeartbeats 1000000 in
theorem get10 (h : PdAt D q K d a w) (hD : D.Is) (reg : Int) :
    Calls Tryz.prog 12 #[.pointer (some ⟨q, 0, none⟩), .int .i64 reg] w fun e w' => e = .returned (.tuple #[.int .u32 (U (pGet (D.len a) d reg).2.1), .int .i64 (pGet (D.len a) d reg).2.2]) ∧ PdAt D q K (pGet (D.len a) d reg).1 a w' ∧ Turned (Un10 D.B K) w w' := by
  have hr := refuse10 h reg
  by_cases hb : reg < 0 ∨ 7 < reg
  · have e1 : regE reg = 3 := by unfold regE; rw [if_pos hb]
    have e2 : pGet (D.len a) d reg = (d, 0#32, 3) := by
      unfold pGet
      rw [if_neg (by omega), if_neg (by omega), if_neg (by omega), if_neg (by omega), if_neg (by omega), if_neg (by omega), if_neg (by omega), if_neg (by omega)]
    rw [e1] at hr
    rw [e2]
    have HR := Lib.hid hr
    have FIN : Hid (PdAt D q K d a w ∧ Turned (Un10 D.B K) w w) := Lib.hid ⟨h, Turned.refl _ _⟩
    clear h hr e1 e2 hb
    go_enter Tryz.func12, Tryz.ntmps12
    go_wp2_with (go_at_call 23; (with_reducible refine HR.out.mono ?_); rintro e w1 ⟨rfl, hw⟩; obtain rfl := hw.symm)
    go_ret2
    exact ⟨rfl, FIN.out⟩
  · have e1 : regE reg = 0 := by unfold regE; rw [if_neg hb]
    rw [e1] at hr
    have e2 := pGet_e (D.len a) d (reg := reg) (by omega) (by omega)
    rw [e2]
    have HR := Lib.hid hr
    have HV := Lib.hid (value10 h hD reg (by omega) (by omega))
    clear h hD hr e1 e2 hb
    go_enter Tryz.func12, Tryz.ntmps12
    go_wp2_with (first
      | (go_at_call 23; (with_reducible refine HR.out.mono ?_); rintro e w1 ⟨rfl, hw⟩; obtain rfl := hw.symm)
      | (go_at_call 27; (with_reducible refine HV.out.mono ?_); rintro e w1 ⟨rfl, p1, t1⟩; have HP1 := Lib.hid p1; have HT1 := Lib.hid t1; clear p1 t1))
    go_ret2
    exact ⟨rfl, HP1.out, HT1.out⟩
def pd0 : DvM := ⟨0#32, 0#32, 0#32, 0#32, List.replicate 16 0#32, 0, []⟩
theorem new10 (hD : D.Is) (h : D.st K a w) (hlow : ¬ K w.heap.size) : Calls Tryz.prog 7 #[.iface D.T D.v] w fun e w' => e = .returned (.pointer (some ⟨w.heap.size, 0, none⟩)) ∧ PdAt D w.heap.size K pd0 a w' ∧ Below w.heap.size w w' := by
  have FIN : Hid (∀ cs : List Value, cs = pdC D pd0 → PdAt D w.heap.size K pd0 a (w.alloc (.cells cs.toArray 64)) ∧ Below w.heap.size w (w.alloc (.cells cs.toArray 64))) := Lib.hid (by
    rintro cs rfl
    have hb : Below w.heap.size w (w.alloc (.cells (pdC D pd0).toArray 64)) := (Below.refl _ w).alloc (Nat.le_refl _) _
    refine ⟨⟨At.news w _ _, hD.move h (S := NoBlock) (fun _ e => e.elim) (Turned.of_below hb (Nat.le_refl _) _) (fun i e => ?_), hlow, hD.low h, rfl, by show 0 < 16; omega⟩, hb⟩
    rw [World.size_alloc]
    rcases e with e | rfl
    · exact ⟨.inl e, by have := hD.kin h i e; omega⟩
    · exact ⟨.inr (Nat.le_refl _), by omega⟩)
  clear h hD
  go_enter Tryz.func7, Tryz.ntmps7
  go_wp2
  go_ret
  refine ⟨rfl, FIN.out _ rfl⟩
end
end Go.Proofs.YtpkkejdjhnmjiaaGreat

namespace Go.Proofs.YtpkkejdjhnmjiaaGreat
set_option linter.unusedSimpArgs false
open Go.RowKit Bm
def quad (b : List (BitVec 32)) (j : Nat) : V4 := ⟨wd b (4 * j), wd b (4 * j + 1), wd b (4 * j + 2), wd b (4 * j + 3)⟩
theorem list_16 {β : Type} (l : List β) (h : l.length = 16) : ∃ a b c d e f g h i j k m n o p q, l = [a, b, c, d, e, f, g, h, i, j, k, m, n, o, p, q] := by
  match l, h with
  | [a, b, c, d, e, f, g, h, i, j, k, m, n, o, p, q], _ => exact ⟨a, b, c, d, e, f, g, h, i, j, k, m, n, o, p, q, rfl⟩
def pMove {α : Type} (D : Dk10 α) (v : Int) (d : DvM) (a : α) (s j : Nat) : DvM × α × Int :=
  if v = 1 then (if (D.rd a s).2.2 = 0 then { d with buf := putW d.buf (4 * j) (D.rd a s).2.1 4 } else d, (D.rd a s).1, (D.rd a s).2.2)
  else if v = 2 then (d, D.wr a s (quad d.buf j)) else (d, D.tr a s)
section
variable {α : Type} {D : Dk10 α} {q : Nat} {K K' S : Nat → Prop} {d d' : DvM} {a : α} {w w' : World}
theorem pd_cut (hb : d.buf.length = 16) {j : Nat} (hj : j < 4) : ∃ P S : List Value, P.length = 5 + 4 * j ∧ pdC D d = P ++ (v4C (quad d.buf j) ++ S) ∧ ∀ x, P ++ (v4C x ++ S) = pdC D { d with buf := putW d.buf (4 * j) x 4 } := by
  obtain ⟨f, m, e, l, b, p, k⟩ := d
  obtain ⟨b0, b1, b2, b3, b4, b5, b6, b7, b8, b9, b10, b11, b12, b13, b14, b15, rfl⟩ := list_16 b hb
  obtain rfl | rfl | rfl | rfl : j = 0 ∨ j = 1 ∨ j = 2 ∨ j = 3 := by omega
  · exact ⟨[.iface D.T D.v, .int .u32 (U f), .int .u32 (U m), .int .u32 (U e), .int .u32 (U l)], Us [b4, b5, b6, b7, b8, b9, b10, b11, b12, b13, b14, b15] ++ [.int .i64 p], rfl, rfl, fun x => rfl⟩
  · exact ⟨[.iface D.T D.v, .int .u32 (U f), .int .u32 (U m), .int .u32 (U e), .int .u32 (U l)] ++ Us [b0, b1, b2, b3], Us [b8, b9, b10, b11, b12, b13, b14, b15] ++ [.int .i64 p], rfl, rfl, fun x => rfl⟩
  · exact ⟨[.iface D.T D.v, .int .u32 (U f), .int .u32 (U m), .int .u32 (U e), .int .u32 (U l)] ++ Us [b0, b1, b2, b3, b4, b5, b6, b7], Us [b12, b13, b14, b15] ++ [.int .i64 p], rfl, rfl, fun x => rfl⟩
  · exact ⟨[.iface D.T D.v, .int .u32 (U f), .int .u32 (U m), .int .u32 (U e), .int .u32 (U l)] ++ Us [b0, b1, b2, b3, b4, b5, b6, b7, b8, b9, b10, b11], [.int .i64 p], rfl, rfl, fun x => rfl⟩
theorem PdAt.row (h : PdAt D q K d a w) (hD : D.Is) (A : At w' q 64 (pdC D d')) (t : Turned (Just q) w w') (hb : d'.buf.length = 16) (hp : d'.place < 16) : PdAt D q K d' a w' ∧ Turned (Un10 D.B K) w w' :=
  ⟨⟨A, hD.move h.dk (S := Just q) (fun _ e => .inr e) t (fun i e => ⟨.inl e, by have := hD.kin h.dk i e; have := t.size; omega⟩), h.nk, h.lo, hb, hp⟩, t.mono (fun i _ e => by rw [show i = q from e]; exact ⟨h.lo, h.nk⟩)⟩
theorem PdAt.cut (h : PdAt D q K d a w) {j : Nat} (hj : j < 4) : w.rangeAt q (5 + 4 * j) (v4C (quad d.buf j)) := by
  obtain ⟨P, S, hP, hc, _⟩ := pd_cut (D := D) h.b hj
  have := (h.own.as hc).range
  rw [hP] at this
  exact this
set_option maxRecDepth 100000 in
set_option maxHeartbeats 2000000 in
theorem move10 (h : PdAt D q K d a w) (hD : D.Is) (hr : D.room a 1) (v : BitVec 32) (hv : U v = 1 ∨ U v = 2 ∨ U v = 3) (s j : Nat) (hs : s < D.len a) (hj : j < 4) :
    Calls Tryz.prog 60 #[.pointer (some ⟨q, 0, none⟩), .int .u32 (U v), .int .i64 s, .pointer (some ⟨q, 5 + 4 * j, none⟩)] w fun e w' => e = .returned (.int .i64 (pMove D (U v) d a s j).2.2) ∧ PdAt D q K (pMove D (U v) d a s j).1 (pMove D (U v) d a s j).2.1 w' ∧ Turned (Un10 D.B K) w w' := by
  have c0 := (pd_cells h).1
  have HP := Lib.hid h
  have HD := Lib.hid hD
  have HR := Lib.hid (hD.cr h.dk hr s hs)
  have HW := Lib.hid (hD.cw (h.drew hD).dk hr s hs (quad d.buf j))
  have HT := Lib.hid (hD.ct h.dk hr s hs)
  have hmr := hD.mr
  have hmw := hD.mw
  have hmt := hD.mt
  have hgr := hD.gr
  have hgw := hD.gw
  have hgt := hD.gt
  have hz4 := v4_zero
  have HJ := Lib.hid hj
  clear h hD hr hs hj
  rcases hv with h1 | h1 | h1
  · rw [h1]
    clear h1
    unfold pMove
    rw [if_pos rfl]
    obtain ⟨r, hr⟩ : ∃ r, r = D.rd a s := ⟨_, rfl⟩
    rw [← hr] at HR ⊢
    clear hr
    obtain ⟨a1, x, er⟩ := r
    dsimp only at HR ⊢
    obtain ⟨d2, hd2⟩ : ∃ d2, d2 = if er = 0 then ({ d with buf := putW d.buf (4 * j) x 4 } : DvM) else d := ⟨_, rfl⟩
    rw [← hd2]
    have HD2 := Lib.hid hd2
    clear hd2
    go_enter Tryz.func60, Tryz.ntmps60
    go_upto_region 4 with (first
      | ((with_reducible refine HR.out.mono ?_); rintro e w1 ⟨rfl, s1, t1⟩; have HS1 := Lib.hid (HP.out.disk s1 t1); clear s1 t1)
      | (refine wpList_stm (pre := []) (post := []) (xs := v4C v40) (ys := v4C x) _ _ rfl rfl rfl rfl v4_size (v4_len _) (v4_len _) (v4_one _) rfl (by simp) (At.news w1 _ (v4C v40)) ?_; intro V A9 T9; rw [List.nil_append, List.append_nil] at A9; have HA9 := Lib.hid A9; have HT9 := Lib.hid T9; clear A9 T9))
    have hb9 : Below w1.heap.size w1 V := ((Below.refl _ w1).alloc (Nat.le_refl _) _).trans (HT9.out.below (fun i hi => by unfold Just at hi; omega) (by simp))
    have HPV := Lib.hid (HS1.out.1.below HD.out hb9)
    have HTV := Lib.hid (HS1.out.2.trans (Turned.of_below hb9 (Nat.le_refl _) _))
    clear hb9 HT9
    by_cases he : er = 0
    · have hd2 := HD2.out
      rw [if_pos he] at hd2
      subst he hd2
      obtain ⟨P, S, hP, hc, hx⟩ := pd_cut (D := D) HP.out.b HJ.out
      have HPL := Lib.hid hP
      have HX := Lib.hid (hx x)
      have HA2 := Lib.hid (HPV.out.own.as hc)
      clear hP hc hx
      go_wp2_with (first
        | (refine wpList_ldr (xs := v4C x) _ rfl rfl rfl Tryz.underlying43 rfl v4_size (v4_len _) HA9.out.rng0 ?_)
        | (refine wpList_stm (pre := P) (post := S) (xs := v4C (quad d.buf j)) (ys := v4C x) _ _ rfl rfl rfl rfl v4_size (v4_len _) (v4_len _) (v4_one _) HPL.out rfl HA2.out ?_; intro V2 A10 T10; have HA10 := Lib.hid A10; have HT10 := Lib.hid T10; clear A10 T10))
      go_ret
      have fin := HPV.out.row HD.out (HA10.out.as HX.out) HT10.out (by rw [putW_len]; exact HP.out.b) HP.out.p
      exact ⟨rfl, fin.1, HTV.out.trans fin.2⟩
    · have hd2 := HD2.out
      rw [if_neg he] at hd2
      subst hd2
      have e1 : (er == 0) = false := by rw [beq_eq_false_iff_ne]; exact he
      clear he
      go_wp2
      go_ret
      exact ⟨rfl, HPV.out, HTV.out⟩
  · rw [h1]
    clear h1
    unfold pMove
    rw [if_neg (by omega), if_pos rfl]
    have HQ : Hid (∀ W, (∃ a', PdAt D q K d a' W) → W.rangeAt q (5 + 4 * j) (v4C (quad d.buf j))) := Lib.hid fun W ⟨_, hW⟩ => hW.cut HJ.out
    go_enter Tryz.func60, Tryz.ntmps60
    go_upto_region 8 with (fail)
    have SD : ∃ a', PdAt D q K d a' w.drew := ⟨a, HP.out.drew HD.out⟩
    refine wp_region_held_drew (S := fun W => ∃ a', PdAt D q K d a' W) (by kernel_rfl) SD ?_
    intro S0
    replace S0 : ∃ a', PdAt D q K d a' w.drew := SD
    refine aT 0 (.pointer (some ⟨q, 0, none⟩)) rfl ?_; simp only [see1, see2, see3, Act.put, see4, see5, see6]
    refine aT 1 (.pointer (some ⟨q, 0, none⟩)) rfl ?_; simp only [see1, see2, see3, Act.put, see4, see5, see6]
    refine aT 2 (.pointer (some ⟨q, 0, none⟩)) rfl ?_; simp only [see1, see2, see3, Act.put, see4, see5, see6]
    refine aT 3 (.iface D.T D.v) rfl ?_ (h2 := fun W hS => by obtain ⟨_, hS⟩ := hS; have c9 := (pd_cells hS).1; go_simp; done); simp only [see1, see2, see3, Act.put, see4, see5, see6]
    refine aT 4 (.int .i64 s) rfl ?_; simp only [see1, see2, see3, Act.put, see4, see5, see6]
    refine aT 5 (.pointer (some ⟨q, 5 + 4 * j, none⟩)) rfl ?_; simp only [see1, see2, see3, Act.put, see4, see5, see6]
    refine aT 6 (.pointer (some ⟨q, 5 + 4 * j, none⟩)) rfl ?_; simp only [see1, see2, see3, Act.put, see4, see5, see6]
    refine aT 7 (.agg (v4C (quad d.buf j)).toArray) rfl ?_ (h2 := fun W hS => (load_is _ _ _ _ _ _ _ _ W).trans (load_at Tryz.underlying43 rfl v4_size (HQ.out W hS) (v4_len _))); simp only [see1, see2, see3, Act.put, see4, see5, see6]
    refine aT 8 (.iface D.T D.v) rfl ?_; simp only [see1, see2, see3, Act.put, see4, see5, see6]
    refine aT 9 (.iface D.T D.v) rfl ?_; simp only [see1, see2, see3, Act.put, see4, see5, see6]
    refine wpAnyH_all (rs := [10]) (by kernel_rfl) (by simp) ?_
    intro i10 hi10
    obtain rfl : i10 = 10 := by simpa using hi10
    refine op_goes rfl (by rfl) ?_
    go_simp
    refine HW.out.mono ?_
    rintro e w1 ⟨rfl, s1, t1⟩
    have HS1 := Lib.hid ((HP.out.drew HD.out).disk s1 t1)
    clear s1 t1
    have S1 : ∃ a', PdAt D q K d a' w1 := ⟨_, HS1.out.1⟩
    dsimp only
    refine ⟨S1, ?_⟩
    refine aT 11 (.int .i64 (D.wr a s (quad d.buf j)).2) rfl ?_; simp only [see1, see2, see3, Act.put, see4, see5, see6]
    refine wpAnyH_done (by kernel_rfl) ?_ _
    go_wp2
    go_ret
    exact ⟨rfl, HS1.out.1, (Turned.refl _ w).drew.trans HS1.out.2⟩
  · rw [h1]
    clear h1
    unfold pMove
    rw [if_neg (by omega), if_neg (by omega)]
    go_enter Tryz.func60, Tryz.ntmps60
    go_wp2_with ((with_reducible refine HT.out.mono ?_); rintro e w1 ⟨rfl, s1, t1⟩; have HS1 := Lib.hid (HP.out.disk s1 t1); clear s1 t1)
    go_ret
    exact ⟨rfl, HS1.out.1, HS1.out.2⟩
end
end Go.Proofs.YtpkkejdjhnmjiaaGreat

namespace Go.Proofs.YtpkkejdjhnmjiaaGreat
open Go.RowKit Bm
def fB (e : Int) : BitVec 32 := if e = 9 then 3#32 else if e = 4 then 4#32 else 5#32
def pMoves {α : Type} (D : Dk10 α) (v : Int) : Nat → DvM → α → Nat → DvM × α × BitVec 32
  | 0, d, a, _ => (d, a, 0#32)
  | n + 1, d, a, j => if (pMove D v d a (d.first.toNat + j) j).2.2 = 0 then pMoves D v n (pMove D v d a (d.first.toNat + j) j).1 (pMove D v d a (d.first.toNat + j) j).2.1 (j + 1) else ((pMove D v d a (d.first.toNat + j) j).1, (pMove D v d a (d.first.toNat + j) j).2.1, fB (pMove D v d a (d.first.toNat + j) j).2.2)
def pFar (n : Nat) (d : DvM) : Prop := U d.many < 1 ∨ 4 < U d.many ∨ (n : Int) < U d.first + U d.many
instance (n : Nat) (d : DvM) : Decidable (pFar n d) := inferInstanceAs (Decidable (_ ∨ _ ∨ _))
def pTrans {α : Type} (D : Dk10 α) (v : Int) (d : DvM) (a : α) : DvM × α × BitVec 32 := if pFar (D.len a) d then (d, a, 2#32) else pMoves D v d.many.toNat d a 0
def pCmd {α : Type} (D : Dk10 α) (v : Int) (d : DvM) (a : α) : DvM × α :=
  if v = 1 ∨ v = 2 ∨ v = 3 then ({ (pTrans D v (dCalm d) a).1 with err := (pTrans D v (dCalm d) a).2.2 }, (pTrans D v (dCalm d) a).2.1)
  else if v = 4 then (dCalm d, a) else ({ dCalm d with err := 1#32 }, a)
section
variable {α : Type} {D : Dk10 α} {q : Nat} {K K' S : Nat → Prop} {d d' : DvM} {a : α} {w w' : World}
theorem pMove_same (v : Int) (d : DvM) (a : α) (s j : Nat) : (pMove D v d a s j).1.first = d.first ∧ (pMove D v d a s j).1.many = d.many ∧ (pMove D v d a s j).1.line = d.line ∧ (pMove D v d a s j).1.place = d.place ∧ (pMove D v d a s j).1.buf.length = d.buf.length ∧ (pMove D v d a s j).1.disk = d.disk := by
  unfold pMove
  split
  · dsimp only
    split
    · exact ⟨rfl, rfl, rfl, rfl, putW_len _ _ _ _, rfl⟩
    · exact ⟨rfl, rfl, rfl, rfl, rfl, rfl⟩
  split
  · exact ⟨rfl, rfl, rfl, rfl, rfl, rfl⟩
  · exact ⟨rfl, rfl, rfl, rfl, rfl, rfl⟩
theorem pMove_len (hD : D.Is) (v : Int) (d : DvM) (a : α) (s j : Nat) : D.len (pMove D v d a s j).2.1 = D.len a := by
  unfold pMove
  split
  · exact hD.lr _ _
  split
  · exact hD.lw _ _ _
  · exact hD.lt _ _
theorem pMove_room (hD : D.Is) (v : Int) (d : DvM) (a : α) (s j n : Nat) (h : D.room a (n + 1)) : D.room (pMove D v d a s j).2.1 n := by
  unfold pMove
  split
  · exact hD.rr _ _ _ h
  split
  · exact hD.rw _ _ _ _ h
  · exact hD.rt _ _ _ h
theorem fault10_b (e : Int) (w : World) : Calls Tryz.prog 61 #[.int .i64 e] w fun r w' => r = .returned (.int .u32 (U (fB e))) ∧ w' = w := by
  refine (fault10 e w).mono ?_
  rintro r w' ⟨rfl, rfl⟩
  refine ⟨?_, rfl⟩
  unfold fB
  by_cases h1 : e = 9
  · rw [if_pos h1, if_pos h1]; rfl
  rw [if_neg h1, if_neg h1]
  by_cases h2 : e = 4
  · rw [if_pos h2, if_pos h2]; rfl
  · rw [if_neg h2, if_neg h2]; rfl
set_option maxRecDepth 100000 in
set_option maxHeartbeats 2000000 in
theorem trans10 (h : PdAt D q K d a w) (hD : D.Is) (hr : D.room a 4) (v : BitVec 32) (hv : U v = 1 ∨ U v = 2 ∨ U v = 3) :
    Calls Tryz.prog 41 #[.pointer (some ⟨q, 0, none⟩), .int .u32 (U v)] w fun e w' => e = .returned (.int .u32 (U (pTrans D (U v) d a).2.2)) ∧ PdAt D q K (pTrans D (U v) d a).1 (pTrans D (U v) d a).2.1 w' ∧ Turned (Un10 D.B K) w w' := by
  obtain ⟨_, c1, c2, _, _, _⟩ := pd_cells h
  have HN := Lib.hid (hD.few h.dk)
  have HP := Lib.hid h
  have HD := Lib.hid hD
  have HRM := Lib.hid hr
  have HV := Lib.hid hv
  have hF0 := U_nonneg d.first
  have hF1 := U_lt d.first
  have hM0 := U_nonneg d.many
  have hM1 := U_lt d.many
  obtain ⟨M, hM⟩ : ∃ M : Int, M = U d.many := ⟨_, rfl⟩
  obtain ⟨F, hF⟩ : ∃ F : Int, F = U d.first := ⟨_, rfl⟩
  obtain ⟨V, hV⟩ : ∃ V : Int, V = U v := ⟨_, rfl⟩
  rw [← hM] at hM0 hM1 c2
  rw [← hF] at hF0 hF1 c1
  have HS : Hid (∀ n, Calls Tryz.prog 43 #[.pointer (some ⟨q, 0, none⟩)] (w.drewN n) fun e w' => e = .returned (.int .u32 (D.len a)) ∧ w' = w.drewN n) := Lib.hid fun n => by
    have := size10 (h.drewN hD n) hD
    rw [U_small (hD.few h.dk)] at this
    exact this
  have HMF := Lib.hid (show M = U d.many ∧ F = U d.first ∧ V = U v from ⟨hM, hF, hV⟩)
  have FAR : Hid (pFar (D.len a) d → pTrans D (U v) d a = (d, a, 2#32)) := Lib.hid fun h => by unfold pTrans; rw [if_pos h]
  rw [← hV]
  have hw1 : IntKind.u64.wrap F = F := by
    show F % 18446744073709551616 = F
    omega
  obtain ⟨R, hR⟩ : ∃ R, R = pTrans D V d a := ⟨_, rfl⟩
  rw [← hR]
  have HR := Lib.hid hR
  clear hM hF hV h hD hr hv hR
  go_enter Tryz.func41, Tryz.ntmps41
  go_upto_region 2 with (go_quiet (fail))
  have PQ := Lib.hid (HP.out.drewN HD.out nq)
  have TQ : Hid (Turned (Un10 D.B K) w (w.drewN nq)) := Lib.hid ((Turned.refl _ w).drewN nq)
  by_cases m0 : M < 1
  · obtain rfl : M = 0 := by omega
    have he : pTrans D V d a = (d, a, 2#32) := by rw [HMF.out.2.2]; exact FAR.out (.inl (by rw [← HMF.out.1]; omega))
    have HE := Lib.hid (HR.out.trans he)
    clear he
    go_wp2
    go_ret
    rw [HE.out]
    exact ⟨rfl, PQ.out, TQ.out⟩
  by_cases m4 : 4 < M
  · have he : pTrans D V d a = (d, a, 2#32) := by rw [HMF.out.2.2]; exact FAR.out (.inr (.inl (by rw [← HMF.out.1]; omega)))
    have HE := Lib.hid (HR.out.trans he)
    have e0 : (M == 0) = false := by rw [beq_eq_false_iff_ne]; omega
    clear he
    go_wp2
    go_ret
    rw [HE.out]
    exact ⟨rfl, PQ.out, TQ.out⟩
  have e0 : (M == 0) = false := by rw [beq_eq_false_iff_ne]; omega
  have m4' : M ≤ 4 := by omega
  have hw2 : IntKind.u64.wrap M = M := by
    show M % 18446744073709551616 = M
    omega
  have hw3 : IntKind.u64.wrap (F + M) = F + M := by
    show (F + M) % 18446744073709551616 = F + M
    omega
  have hw4 : IntKind.u64.wrap (D.len a : Int) = D.len a := by
    have := HN.out
    show (D.len a : Int) % 18446744073709551616 = D.len a
    omega
  by_cases hfar : (D.len a : Int) < F + M
  · have he : pTrans D V d a = (d, a, 2#32) := by rw [HMF.out.2.2]; exact FAR.out (.inr (.inr (by rw [← HMF.out.1, ← HMF.out.2.1]; exact hfar)))
    have HE := Lib.hid (HR.out.trans he)
    clear he
    go_wp2_with (go_at_call 43; (with_reducible refine (HS.out nq).mono ?_); rintro e w1 ⟨rfl, hw⟩; obtain rfl := hw.symm)
    go_ret
    rw [HE.out]
    exact ⟨rfl, PQ.out, TQ.out⟩
  have he : pTrans D V d a = pMoves D V d.many.toNat d a 0 := by
    unfold pTrans
    rw [if_neg]
    unfold pFar
    rw [← HMF.out.1, ← HMF.out.2.1]
    omega
  obtain ⟨m, hm⟩ : ∃ m : Nat, m = d.many.toNat := ⟨_, rfl⟩
  rw [← hm] at he
  have HE := Lib.hid (HR.out.trans he)
  clear he HR
  have HMM : Hid (M = (m : Int)) := Lib.hid (by rw [HMF.out.1, hm]; rfl)
  clear hm
  go_upto_region 3 with (go_at_call 43; (with_reducible refine (HS.out nq).mono ?_); rintro e w1 ⟨rfl, hw⟩; obtain rfl := hw.symm)
  have HRM4 : Hid (D.room a (4 - 0)) := HRM
  clear HS FAR hw1 hw2 hw3 hw4 c1 c2
  go_loopw [35] (fun i wr => ∃ (j : Nat) (d' : DvM) (a' : α), j ≤ m ∧ i = .int .u32 j ∧ PdAt D q K d' a' wr ∧ Turned (Un10 D.B K) w wr ∧ d'.first = d.first ∧ D.len a' = D.len a ∧ D.room a' (4 - j) ∧ R = pMoves D V (m - j) d' a' j) (fun i _ => m - (intOf i).toNat)
  case atStart => exact ⟨0, d, a, Nat.zero_le _, rfl, PQ.out, TQ.out, rfl, rfl, HRM4.out, HE.out⟩
  case round =>
    obtain ⟨j, d', a', hj, rfl, hp, ht, hdf, hdl, hdr, hre⟩ := hrel
    have HPj := Lib.hid hp
    have HTj := Lib.hid ht
    have HFj := Lib.hid hdf
    have HLj := Lib.hid hdl
    have HRj := Lib.hid hdr
    have HEj := Lib.hid hre
    clear hp ht hdf hdl hdr hre PQ TQ HE
    have hm4 : m ≤ 4 := by have := HMM.out; omega
    by_cases hlt : j < m
    · have hlt' : (j : Int) < M := by have := HMM.out; omega
      obtain ⟨s, hs⟩ : ∃ s : Nat, s = d'.first.toNat + j := ⟨_, rfl⟩
      have hsF : F + (j : Int) = (s : Int) := by
        rw [hs, HFj.out, HMF.out.2.1]
        unfold U
        omega
      have hsl : s < D.len a' := by rw [HLj.out]; omega
      obtain ⟨n, hn⟩ : ∃ n, m - j = n + 1 := ⟨m - j - 1, by omega⟩
      have hu : F + (j : Int) < 4294967296 := by have := HN.out; omega
      have hu0 : 0 ≤ F + (j : Int) := by omega
      have j4 : (j : Int) < 4 := by omega
      have HMV : Hid (Calls Tryz.prog 60 #[.pointer (some ⟨q, 0, none⟩), .int .u32 V, .int .i64 (F + (j : Int)), .pointer (some ⟨q, 5 + j * 4, none⟩)] wr fun e w' => e = .returned (.int .i64 (pMove D V d' a' s j).2.2) ∧ PdAt D q K (pMove D V d' a' s j).1 (pMove D V d' a' s j).2.1 w' ∧ Turned (Un10 D.B K) wr w') := Lib.hid (by
        have h := move10 HPj.out HD.out (HD.out.le a' 1 (4 - j - 1) (by rw [show 1 + (4 - j - 1) = 4 - j by omega]; exact HRj.out)) v HV.out s j hsl (by omega)
        rw [hsF, show 5 + j * 4 = 5 + 4 * j by omega, HMF.out.2.2]
        exact h)
      have hstep : R = if (pMove D V d' a' s j).2.2 = 0 then pMoves D V n (pMove D V d' a' s j).1 (pMove D V d' a' s j).2.1 (j + 1) else ((pMove D V d' a' s j).1, (pMove D V d' a' s j).2.1, fB (pMove D V d' a' s j).2.2) := by
        rw [HEj.out, hn, hs]
        rfl
      have hsame := pMove_same (D := D) V d' a' s j
      have hlen := pMove_len HD.out V d' a' s j
      have hroom := pMove_room HD.out V d' a' s j (4 - (j + 1)) (by rw [show 4 - (j + 1) + 1 = 4 - j by omega]; exact HRj.out)
      obtain ⟨r, hr⟩ : ∃ r, r = pMove D V d' a' s j := ⟨_, rfl⟩
      rw [← hr] at HMV hstep hsame hlen hroom
      obtain ⟨d1, a1, er⟩ := r
      dsimp only at HMV hstep hsame hlen hroom
      have HSTEP := Lib.hid hstep
      have HSAME := Lib.hid hsame
      have HLEN := Lib.hid hlen
      have HROOM := Lib.hid hroom
      have HNN := Lib.hid hn
      clear hr hstep hsame hlen hroom hs hsF hsl hn
      by_cases he : er = 0
      · subst he
        go_wp2_with (go_at_call 60; (with_reducible refine HMV.out.mono ?_); rintro e w1 ⟨rfl, p1, t1⟩; have HP1 := Lib.hid p1; have HT1 := Lib.hid t1; clear p1 t1)
        go_roundw
        case rel =>
          refine ⟨j + 1, d1, a1, by omega, by go_num, HP1.out, HTj.out.trans HT1.out, HSAME.out.1.trans HFj.out, HLEN.out.trans HLj.out, HROOM.out, ?_⟩
          have := HSTEP.out
          rw [if_pos trivial] at this
          rw [this, show m - (j + 1) = n by have := HNN.out; omega]
        case measure => simp [intOf]; omega
      · have e1 : (er == 0) = false := by rw [beq_eq_false_iff_ne]; exact he
        have HE1 : Hid (R = (d1, a1, fB er)) := Lib.hid (by rw [HSTEP.out, if_neg he])
        have HFB := Lib.hid (fault10_b er)
        clear he
        go_wp2_with (first
          | (go_at_call 60; (with_reducible refine HMV.out.mono ?_); rintro e w1 ⟨rfl, p1, t1⟩; have HP1 := Lib.hid p1; have HT1 := Lib.hid t1; clear p1 t1)
          | (go_at_call 61; (with_reducible refine (HFB.out _).mono ?_); rintro e w2 ⟨rfl, hw⟩; obtain rfl := hw.symm))
        go_ret
        rw [HE1.out]
        exact ⟨rfl, HP1.out, HTj.out.trans HT1.out⟩
    · obtain rfl : j = m := by omega
      have hge : ¬ (j : Int) < M := by have := HMM.out; omega
      have HE1 : Hid (R = (d', a', 0#32)) := Lib.hid (by have := HEj.out; rw [Nat.sub_self] at this; exact this)
      go_wp2
      go_ret
      rw [HE1.out]
      exact ⟨rfl, HPj.out, HTj.out⟩
theorem pd_line (x : BitVec 32) : (pdC D d).set 4 (.int .u32 (U x)) = pdC D { d with line := x } := rfl
theorem pd_err (x : BitVec 32) : (pdC D d).set 3 (.int .u32 (U x)) = pdC D { d with err := x } := rfl
theorem pd_first (x : BitVec 32) : (pdC D d).set 1 (.int .u32 (U x)) = pdC D { d with first := x } := rfl
theorem pd_many (x : BitVec 32) : (pdC D d).set 2 (.int .u32 (U x)) = pdC D { d with many := x } := rfl
theorem pMoves_same (v : Int) : ∀ (n : Nat) (d : DvM) (a : α) (j : Nat), (pMoves D v n d a j).1.first = d.first ∧ (pMoves D v n d a j).1.many = d.many ∧ (pMoves D v n d a j).1.line = d.line ∧ (pMoves D v n d a j).1.place = d.place ∧ (pMoves D v n d a j).1.buf.length = d.buf.length
  | 0, d, a, j => ⟨rfl, rfl, rfl, rfl, rfl⟩
  | n + 1, d, a, j => by
    obtain ⟨h1, h2, h3, h4, h5, _⟩ := pMove_same (D := D) v d a (d.first.toNat + j) j
    rw [pMoves]
    split
    · obtain ⟨g1, g2, g3, g4, g5⟩ := pMoves_same v n (pMove D v d a (d.first.toNat + j) j).1 (pMove D v d a (d.first.toNat + j) j).2.1 (j + 1)
      exact ⟨g1.trans h1, g2.trans h2, g3.trans h3, g4.trans h4, g5.trans h5⟩
    · exact ⟨h1, h2, h3, h4, h5⟩
theorem pTrans_same (v : Int) (d : DvM) (a : α) : (pTrans D v d a).1.first = d.first ∧ (pTrans D v d a).1.many = d.many ∧ (pTrans D v d a).1.line = d.line ∧ (pTrans D v d a).1.place = d.place ∧ (pTrans D v d a).1.buf.length = d.buf.length := by
  unfold pTrans
  split
  · exact ⟨rfl, rfl, rfl, rfl, rfl⟩
  · exact pMoves_same v _ d a 0
set_option maxRecDepth 100000 in
set_option maxHeartbeats 2000000 in
theorem cmd10 (h : PdAt D q K d a w) (hD : D.Is) (hr : D.room a 4) (v : BitVec 32) :
    Calls Tryz.prog 24 #[.pointer (some ⟨q, 0, none⟩), .int .u32 (U v)] w fun e w' => e = .returned (.tuple #[]) ∧ PdAt D q K (pCmd D (U v) d a).1 (pCmd D (U v) d a).2 w' ∧ Turned (Un10 D.B K) w w' := by
  obtain ⟨_, _, _, c3, c4, c21⟩ := pd_cells h
  have f3 := h.own.frozen 3
  have f4 := h.own.frozen 4
  have f21 := h.own.frozen 21
  have HP := Lib.hid h
  have HD := Lib.hid hD
  have HR := Lib.hid hr
  clear h hD hr
  go_enter Tryz.func24, Tryz.ntmps24
  go_upto_region 1 with (fail)
  obtain ⟨W1, e1, P1, T1⟩ := HP.out.put HD.out 21 (.int .i64 0) (pd_place (u := 0) HP.out.b) HP.out.b (by show 0 < 16; omega)
  obtain ⟨W2, e2, P2, T2⟩ := P1.put HD.out 4 (.int .u32 (U 1#32)) (pd_line 1#32) P1.b P1.p
  obtain ⟨W3, e3, P3, T3⟩ := P2.put HD.out 3 (.int .u32 (U 0#32)) (pd_err 0#32) P2.b P2.p
  rw [e1, show W1.setCell ⟨q, 4, none⟩ (.int .u32 1) = W2 from e2, show W2.setCell ⟨q, 3, none⟩ (.int .u32 0) = W3 from e3]
  have HP3 : Hid (PdAt D q K (dCalm d) a W3) := Lib.hid P3
  have HT3 := Lib.hid ((T1.trans T2).trans T3)
  clear e1 P1 T1 e2 P2 T2 e3 P3 T3 c3 c4 c21 f3 f4 f21
  by_cases h123 : U v = 1 ∨ U v = 2 ∨ U v = 3
  · have HX : Hid (pCmd D (U v) d a = ({ (pTrans D (U v) (dCalm d) a).1 with err := (pTrans D (U v) (dCalm d) a).2.2 }, (pTrans D (U v) (dCalm d) a).2.1)) := Lib.hid (by unfold pCmd; rw [if_pos h123])
    have HTR := Lib.hid (trans10 HP3.out HD.out HR.out v h123)
    have hsame := pTrans_same (D := D) (U v) (dCalm d) a
    obtain ⟨r, hr⟩ : ∃ r, r = pTrans D (U v) (dCalm d) a := ⟨_, rfl⟩
    rw [← hr] at HX HTR hsame
    obtain ⟨d1, a1, x⟩ := r
    dsimp only at HX HTR hsame
    have HSAME := Lib.hid hsame
    clear hr hsame
    rcases h123 with h1 | h1 | h1
    all_goals (
      rw [h1] at HX HTR
      go_wp2_with (go_at_call 41; (with_reducible refine HTR.out.mono ?_); rintro e w1 ⟨rfl, p1, t1⟩; have HP1 := Lib.hid p1; have HT1 := Lib.hid t1; have c3 := (pd_cells p1).2.2.2.1; have f3 := p1.own.frozen 3; clear p1 t1)
      obtain ⟨W4, e4, P4, T4⟩ := HP1.out.put HD.out 3 (.int .u32 (U x)) (pd_err x) HP1.out.b HP1.out.p
      go_end0
      rw [e4, h1, HX.out]
      exact ⟨rfl, P4, (HT3.out.trans HT1.out).trans T4⟩)
  · have n1 : (U v == 1) = false := by rw [beq_eq_false_iff_ne]; omega
    have n2 : (U v == 2) = false := by rw [beq_eq_false_iff_ne]; omega
    have n3 : (U v == 3) = false := by rw [beq_eq_false_iff_ne]; omega
    by_cases h4 : U v = 4
    · have HX : Hid (pCmd D (U v) d a = (dCalm d, a)) := Lib.hid (by unfold pCmd; rw [if_neg h123, if_pos h4])
      have n4 : (U v == 4) = true := by rw [beq_iff_eq]; exact h4
      clear h123 h4
      go_wp2
      go_end0
      rw [HX.out]
      exact ⟨rfl, HP3.out, HT3.out⟩
    · have HX : Hid (pCmd D (U v) d a = ({ dCalm d with err := 1#32 }, a)) := Lib.hid (by unfold pCmd; rw [if_neg h123, if_neg h4])
      have n4 : (U v == 4) = false := by rw [beq_eq_false_iff_ne]; exact h4
      have c3 := (pd_cells HP3.out).2.2.2.1
      have f3 := HP3.out.own.frozen 3
      clear h123 h4
      go_wp2
      obtain ⟨W4, e4, P4, T4⟩ := HP3.out.put HD.out 3 (.int .u32 (U 1#32)) (pd_err 1#32) HP3.out.b HP3.out.p
      go_end0
      rw [show W3.setCell ⟨q, 3, none⟩ (.int .u32 1) = W4 from e4, HX.out]
      exact ⟨rfl, P4, HT3.out.trans T4⟩
end
end Go.Proofs.YtpkkejdjhnmjiaaGreat

namespace Go.Proofs.YtpkkejdjhnmjiaaGreat
open Go.RowKit Bm
def pSet {α : Type} (D : Dk10 α) (reg : Int) (v : BitVec 32) (d : DvM) (a : α) : DvM × α × Int :=
  if reg = 0 then ((pCmd D (U v) d a).1, (pCmd D (U v) d a).2, 0) else if reg = 1 then ({ d with first := v }, a, 0) else if reg = 2 then ({ d with many := v }, a, 0)
  else if reg = 5 then ({ d with buf := d.buf.set d.place v, place := dNext d.place }, a, 0) else if reg = 7 then ({ d with line := 0#32 }, a, 0)
  else if reg = 3 ∨ reg = 4 ∨ reg = 6 then (d, a, 0) else (d, a, 3)
section
variable {α : Type} {D : Dk10 α} {q : Nat} {K K' S : Nat → Prop} {d d' : DvM} {a : α} {w w' : World}
set_option maxRecDepth 100000 in
set_option maxHeartbeats 2000000 in
theorem set10 (h : PdAt D q K d a w) (hD : D.Is) (hr : D.room a 4) (reg : Int) (v : BitVec 32) :
    Calls Tryz.prog 10 #[.pointer (some ⟨q, 0, none⟩), .int .i64 reg, .int .u32 (U v)] w fun e w' => e = .returned (.int .i64 (pSet D reg v d a).2.2) ∧ PdAt D q K (pSet D reg v d a).1 (pSet D reg v d a).2.1 w' ∧ Turned (Un10 D.B K) w w' := by
  have hf := refuse10 h reg
  by_cases hb : reg < 0 ∨ 7 < reg
  · have e1 : regE reg = 3 := by unfold regE; rw [if_pos hb]
    have e2 : pSet D reg v d a = (d, a, 3) := by
      unfold pSet
      rw [if_neg (by omega), if_neg (by omega), if_neg (by omega), if_neg (by omega), if_neg (by omega), if_neg (by omega)]
    rw [e1] at hf
    rw [e2]
    have HR := Lib.hid hf
    have FIN : Hid (PdAt D q K d a w ∧ Turned (Un10 D.B K) w w) := Lib.hid ⟨h, Turned.refl _ _⟩
    clear h hf e1 e2 hb hr
    go_enter Tryz.func10, Tryz.ntmps10
    go_wp2_with (go_at_call 23; (with_reducible refine HR.out.mono ?_); rintro e w1 ⟨rfl, hw⟩; obtain rfl := hw.symm)
    go_ret
    exact ⟨rfl, FIN.out⟩
  have e1 : regE reg = 0 := by unfold regE; rw [if_neg hb]
  rw [e1] at hf
  have HR := Lib.hid hf
  have HP := Lib.hid h
  have HD := Lib.hid hD
  have HC := Lib.hid (cmd10 h hD hr v)
  have HW := Lib.hid (window10 h hD)
  obtain ⟨_, c1, c2, _, c4, _⟩ := pd_cells h
  have f1 := h.own.frozen 1
  have f2 := h.own.frozen 2
  have f4 := h.own.frozen 4
  clear h hD hr hf e1
  obtain rfl | rfl | rfl | rfl | rfl | rfl | rfl | rfl : reg = 0 ∨ reg = 1 ∨ reg = 2 ∨ reg = 5 ∨ reg = 7 ∨ reg = 3 ∨ reg = 4 ∨ reg = 6 := by omega
  case inl =>
    go_enter Tryz.func10, Tryz.ntmps10
    go_wp2_with (first
      | (go_at_call 23; (with_reducible refine HR.out.mono ?_); rintro e w1 ⟨rfl, hw⟩; obtain rfl := hw.symm)
      | (go_at_call 24; (with_reducible refine HC.out.mono ?_); rintro e w1 ⟨rfl, p1, t1⟩; have HP1 := Lib.hid p1; have HT1 := Lib.hid t1; clear p1 t1))
    go_ret
    exact ⟨rfl, HP1.out, HT1.out⟩
  case inr.inl =>
    go_enter Tryz.func10, Tryz.ntmps10
    go_wp2_with (go_at_call 23; (with_reducible refine HR.out.mono ?_); rintro e w1 ⟨rfl, hw⟩; obtain rfl := hw.symm)
    obtain ⟨W4, e4, P4, T4⟩ := HP.out.put HD.out 1 (.int .u32 (U v)) (pd_first v) HP.out.b HP.out.p
    go_ret
    rw [e4]
    exact ⟨rfl, P4, T4⟩
  case inr.inr.inl =>
    go_enter Tryz.func10, Tryz.ntmps10
    go_wp2_with (go_at_call 23; (with_reducible refine HR.out.mono ?_); rintro e w1 ⟨rfl, hw⟩; obtain rfl := hw.symm)
    obtain ⟨W4, e4, P4, T4⟩ := HP.out.put HD.out 2 (.int .u32 (U v)) (pd_many v) HP.out.b HP.out.p
    go_ret
    rw [e4]
    exact ⟨rfl, P4, T4⟩
  case inr.inr.inr.inl =>
    have HPL := Lib.hid HP.out.p
    go_enter Tryz.func10, Tryz.ntmps10
    go_wp2_with (first
      | (go_at_call 23; (with_reducible refine HR.out.mono ?_); rintro e w1 ⟨rfl, hw⟩; obtain rfl := hw.symm)
      | (go_at_call 25; (with_reducible refine HW.out.mono ?_); rintro e w1 ⟨rfl, p1, t1⟩; have HP1 := Lib.hid p1; have HT1 := Lib.hid t1; have cw := pd_word p1 HPL.out; have fw := p1.own.frozen (5 + d.place); clear p1 t1))
    obtain ⟨W4, e4, P4, T4⟩ := HP1.out.put HD.out (5 + d.place) (.int .u32 (U v)) (pd_buf HP1.out.b HPL.out v) (by show (d.buf.set d.place v).length = 16; rw [List.length_set]; exact HP.out.b) HP1.out.p
    go_ret
    rw [e4]
    exact ⟨rfl, P4, HT1.out.trans T4⟩
  case inr.inr.inr.inr.inl =>
    go_enter Tryz.func10, Tryz.ntmps10
    go_wp2_with (go_at_call 23; (with_reducible refine HR.out.mono ?_); rintro e w1 ⟨rfl, hw⟩; obtain rfl := hw.symm)
    obtain ⟨W4, e4, P4, T4⟩ := HP.out.put HD.out 4 (.int .u32 (U 0#32)) (pd_line 0#32) HP.out.b HP.out.p
    go_ret
    rw [show w.setCell ⟨q, 4, none⟩ (.int .u32 0) = W4 from e4]
    exact ⟨rfl, P4, T4⟩
  all_goals (
    go_enter Tryz.func10, Tryz.ntmps10
    go_wp2_with (go_at_call 23; (with_reducible refine HR.out.mono ?_); rintro e w1 ⟨rfl, hw⟩; obtain rfl := hw.symm)
    go_ret
    exact ⟨rfl, HP.out, Turned.refl _ _⟩)
structure Faith (D : Dk10 α) (I : α → Prop) (view : α → List V4) : Prop where
  len : ∀ a, D.len a = (view a).length
  rd : ∀ a i, I a → i < D.len a → (D.rd a i).2 = (vN (view a) i, 0) ∧ view (D.rd a i).1 = view a ∧ I (D.rd a i).1
  wr : ∀ a i x, I a → i < D.len a → (D.wr a i x).2 = 0 ∧ view (D.wr a i x).1 = (view a).set i x ∧ I (D.wr a i x).1
  tr : ∀ a i, I a → i < D.len a → (D.tr a i).2 = 0 ∧ view (D.tr a i).1 = (view a).set i v40 ∧ I (D.tr a i).1
def docOf (view : α → List V4) (d : DvM) (a : α) : DvM := { d with disk := view a }
variable {I : α → Prop} {view : α → List V4}
theorem move_doc (hF : Faith D I view) (hI : I a) (v : Int) (hv : v = 1 ∨ v = 2 ∨ v = 3) (d : DvM) {j : Nat} (hs : d.first.toNat + j < D.len a) :
    (pMove D v d a (d.first.toNat + j) j).2.2 = 0 ∧ docOf view (pMove D v d a (d.first.toNat + j) j).1 (pMove D v d a (d.first.toNat + j) j).2.1 = dTurn v (docOf view d a) j ∧ I (pMove D v d a (d.first.toNat + j) j).2.1 := by
  rcases hv with rfl | rfl | rfl
  · obtain ⟨h1, h2, h3⟩ := hF.rd a _ hI hs
    have h4 : (D.rd a (d.first.toNat + j)).2.2 = 0 := by rw [h1]
    have h5 : (D.rd a (d.first.toNat + j)).2.1 = vN (view a) (d.first.toNat + j) := by rw [h1]
    unfold pMove
    rw [if_pos rfl, h4, if_pos rfl]
    refine ⟨rfl, ?_, h3⟩
    unfold dTurn docOf
    rw [if_pos rfl]
    dsimp only
    rw [h5, h2]
  · obtain ⟨h1, h2, h3⟩ := hF.wr a _ (quad d.buf j) hI hs
    unfold pMove
    rw [if_neg (by omega), if_pos rfl]
    refine ⟨h1, ?_, h3⟩
    unfold dTurn docOf
    rw [if_neg (by omega), if_pos rfl]
    dsimp only
    rw [h2]
    rfl
  · obtain ⟨h1, h2, h3⟩ := hF.tr a _ hI hs
    unfold pMove
    rw [if_neg (by omega), if_neg (by omega)]
    refine ⟨h1, ?_, h3⟩
    unfold dTurn docOf
    rw [if_neg (by omega), if_neg (by omega)]
    dsimp only
    rw [h2]
theorem moves_doc (hD : D.Is) (hF : Faith D I view) (v : Int) (hv : v = 1 ∨ v = 2 ∨ v = 3) : ∀ (n : Nat) (d : DvM) (a : α) (j : Nat), I a → d.first.toNat + j + n ≤ D.len a →
    (pMoves D v n d a j).2.2 = 0#32 ∧ docOf view (pMoves D v n d a j).1 (pMoves D v n d a j).2.1 = (List.range' j n).foldl (dTurn v) (docOf view d a) ∧ I (pMoves D v n d a j).2.1
  | 0, d, a, j, hI, _ => ⟨rfl, rfl, hI⟩
  | n + 1, d, a, j, hI, hs => by
    obtain ⟨h1, h2, h3⟩ := move_doc hF hI v hv d (j := j) (by omega)
    have hl := pMove_len hD v d a (d.first.toNat + j) j
    have hf := (pMove_same (D := D) v d a (d.first.toNat + j) j).1
    obtain ⟨g1, g2, g3⟩ := moves_doc hD hF v hv n (pMove D v d a (d.first.toNat + j) j).1 (pMove D v d a (d.first.toNat + j) j).2.1 (j + 1) h3 (by rw [hf, hl]; omega)
    rw [pMoves, if_pos h1]
    refine ⟨g1, ?_, g3⟩
    rw [g2, h2, List.range'_succ]
    rfl
theorem cmd_doc (hD : D.Is) (hF : Faith D I view) (hI : I a) (v : Int) (d : DvM) : docOf view (pCmd D v d a).1 (pCmd D v d a).2 = dCmd (docOf view d a) v ∧ I (pCmd D v d a).2 := by
  have hfar : dFar (docOf view d a) ↔ pFar (D.len a) d := by
    unfold dFar pFar docOf
    rw [hF.len]
  unfold pCmd dCmd
  by_cases h123 : v = 1 ∨ v = 2 ∨ v = 3
  · rw [if_pos h123, if_neg (by omega)]
    unfold pTrans
    by_cases hf : pFar (D.len a) d
    · rw [if_pos (show pFar (D.len a) (dCalm d) from hf), if_pos ⟨by omega, hfar.2 hf⟩]
      exact ⟨rfl, hI⟩
    · rw [if_neg (show ¬ pFar (D.len a) (dCalm d) from hf), if_neg (fun h => hf (hfar.1 h.2)), if_neg (by omega)]
      have hm : ((dCalm d).first.toNat : Int) + 0 + ((dCalm d).many.toNat : Int) ≤ D.len a := by
        unfold pFar U at hf
        show (d.first.toNat : Int) + 0 + (d.many.toNat : Int) ≤ D.len a
        omega
      obtain ⟨h1, h2, h3⟩ := moves_doc hD hF v h123 (dCalm d).many.toNat (dCalm d) a 0 hI (by omega)
      refine ⟨?_, h3⟩
      have he : ∀ x : DvM × α × BitVec 32, x.2.2 = 0#32 → docOf view { x.1 with err := x.2.2 } x.2.1 = { docOf view x.1 x.2.1 with err := 0#32 } := fun x h => by unfold docOf; rw [h]
      rw [he _ h1, h2, ← List.range_eq_range']
      have hd : docOf view (dCalm d) a = dCalm (docOf view d a) := rfl
      rw [hd]
      show { dTurns v (dCalm (docOf view d a)) d.many.toNat with err := 0#32 } = dTurns v (dCalm (docOf view d a)) d.many.toNat
      have hz : ∀ n, (dTurns v (dCalm (docOf view d a)) n).err = 0#32 := fun n => by
        induction n with
        | zero => rfl
        | succ n ih =>
          rw [dTurns_succ]
          exact (dTurn_same v _ n).2.2.1.trans ih
      rw [← hz d.many.toNat]
  · by_cases h4 : v = 4
    · rw [if_neg h123, if_pos h4, if_neg (by omega), if_neg (by omega), if_pos h4]
      exact ⟨rfl, hI⟩
    · rw [if_neg h123, if_neg h4, if_pos (by omega)]
      exact ⟨rfl, hI⟩
theorem set_doc (hD : D.Is) (hF : Faith D I view) (hI : I a) (reg : Int) (v : BitVec 32) (d : DvM) : (docOf view (pSet D reg v d a).1 (pSet D reg v d a).2.1, (pSet D reg v d a).2.2) = dSet (docOf view d a) reg v ∧ I (pSet D reg v d a).2.1 := by
  obtain ⟨hc, hi⟩ := cmd_doc hD hF hI (U v) d
  unfold pSet dSet
  by_cases r0 : reg = 0
  · rw [if_pos r0, if_pos r0, ← hc]
    exact ⟨rfl, hi⟩
  rw [if_neg r0, if_neg r0]
  by_cases r1 : reg = 1
  · rw [if_pos r1, if_pos r1]
    exact ⟨rfl, hI⟩
  rw [if_neg r1, if_neg r1]
  by_cases r2 : reg = 2
  · rw [if_pos r2, if_pos r2]
    exact ⟨rfl, hI⟩
  rw [if_neg r2, if_neg r2]
  by_cases r5 : reg = 5
  · rw [if_pos r5, if_pos r5]
    exact ⟨rfl, hI⟩
  rw [if_neg r5, if_neg r5]
  by_cases r7 : reg = 7
  · rw [if_pos r7, if_pos r7]
    exact ⟨rfl, hI⟩
  rw [if_neg r7, if_neg r7]
  split
  · exact ⟨rfl, hI⟩
  · exact ⟨rfl, hI⟩
theorem get_doc (hF : Faith D I view) (reg : Int) (d : DvM) : (docOf view (pGet (D.len a) d reg).1 a, (pGet (D.len a) d reg).2) = dGet (docOf view d a) reg := by
  have h : (docOf view d a).disk.length = D.len a := (hF.len a).symm
  rw [← pGet_is h]
  unfold pGet
  by_cases r0 : reg = 0
  · rw [if_pos r0, if_pos r0]
  rw [if_neg r0, if_neg r0]
  by_cases r1 : reg = 1
  · rw [if_pos r1, if_pos r1]
    rfl
  rw [if_neg r1, if_neg r1]
  by_cases r2 : reg = 2
  · rw [if_pos r2, if_pos r2]
    rfl
  rw [if_neg r2, if_neg r2]
  by_cases r3 : reg = 3
  · rw [if_pos r3, if_pos r3]
    rfl
  rw [if_neg r3, if_neg r3]
  by_cases r4 : reg = 4
  · rw [if_pos r4, if_pos r4]
    rfl
  rw [if_neg r4, if_neg r4]
  by_cases r5 : reg = 5
  · rw [if_pos r5, if_pos r5]
    rfl
  rw [if_neg r5, if_neg r5]
  by_cases r6 : reg = 6
  · rw [if_pos r6, if_pos r6]
  rw [if_neg r6, if_neg r6]
  by_cases r7 : reg = 7
  · rw [if_pos r7, if_pos r7]
    rfl
  rw [if_neg r7, if_neg r7]
theorem set_room (hD : D.Is) (reg : Int) (v : BitVec 32) (d : DvM) (n : Nat) (h : D.room a (n + 4)) : D.room (pSet D reg v d a).2.1 n := by
  have mv : ∀ (m : Nat) (d : DvM) (a : α) (j k : Nat), m ≤ k → D.room a (n + k) → D.room (pMoves D (U v) m d a j).2.1 n := by
    intro m
    induction m with
    | zero => exact fun d a j k _ h => hD.le a n k h
    | succ m ih =>
      intro d a j k hk h
      obtain ⟨k', rfl⟩ : ∃ k', k = k' + 1 := ⟨k - 1, by omega⟩
      have h1 := pMove_room hD (U v) d a (d.first.toNat + j) j (n + k') h
      rw [pMoves]
      split
      · exact ih _ _ _ k' (by omega) h1
      · exact hD.le _ n k' h1
  have hn := hD.le a n 4 h
  unfold pSet
  split
  · unfold pCmd
    split
    · unfold pTrans
      split
      · exact hn
      · rename_i hf
        exact mv _ _ _ _ 4 (by unfold pFar U at hf; show (dCalm d).many.toNat ≤ 4; have : (dCalm d).many = d.many := rfl; omega) h
    split
    · exact hn
    · exact hn
  split
  · exact hn
  split
  · exact hn
  split
  · exact hn
  split
  · exact hn
  split
  · exact hn
  · exact hn
end
end Go.Proofs.YtpkkejdjhnmjiaaGreat
