/- The program's device of layer sector, over whatever disk stands behind the interface: plain data, memory, its registers. -/
import Derived.Test.YtpkkejdjhnmjiaaSec5
namespace Go.Proofs.Ytpkkejdjhnmjiaa
open Go.RowKit Bm

/-- Blocks from B on that are not kept. -/
def Un10 (B : Nat) (K : Nat → Prop) (i : Nat) : Prop := B ≤ i ∧ ¬ K i
/-- A disk behind an interface: the value in it, its methods, the states it may be in, what its calls answer and leave; how many calls more it bears. -/
structure Dk10 (α : Type) where
  T : TypeId
  v : Value
  fs : FuncId
  fr : FuncId
  fw : FuncId
  ft : FuncId
  B : Nat
  st : (Nat → Prop) → α → World → Prop
  len : α → Nat
  rd : α → Nat → α × V4 × Int
  wr : α → Nat → V4 → α × Int
  tr : α → Nat → α × Int
  room : α → Nat → Prop
structure Dk10.Is {α : Type} (D : Dk10 α) : Prop where
  ms : ∀ k w, (method (k + 1) D.T D.v "Sectors").run Try.prog w = .ok (D.fs, D.v) w
  mr : ∀ k w, (method (k + 1) D.T D.v "Read").run Try.prog w = .ok (D.fr, D.v) w
  mw : ∀ k w, (method (k + 1) D.T D.v "Write").run Try.prog w = .ok (D.fw, D.v) w
  mt : ∀ k w, (method (k + 1) D.T D.v "Trim").run Try.prog w = .ok (D.ft, D.v) w
  gs : ∀ args w, (callFunc D.fs args).run Try.prog w = .ok (.enter D.fs args) w
  gr : ∀ args w, (callFunc D.fr args).run Try.prog w = .ok (.enter D.fr args) w
  gw : ∀ args w, (callFunc D.fw args).run Try.prog w = .ok (.enter D.fw args) w
  gt : ∀ args w, (callFunc D.ft args).run Try.prog w = .ok (.enter D.ft args) w
  one : (Value.iface D.T D.v).oneCell' = true
  few : ∀ {K a w}, D.st K a w → D.len a ≤ 1000
  low : ∀ {K a w}, D.st K a w → D.B ≤ w.heap.size
  kin : ∀ {K a w}, D.st K a w → ∀ i, K i → i < w.heap.size
  move : ∀ {K K' S a w w'}, D.st K a w → (∀ i, S i → K i) → Turned S w w' → (∀ i, K' i → (K i ∨ w.heap.size ≤ i) ∧ i < w'.heap.size) → D.st K' a w'
  cs : ∀ {K a w}, D.st K a w → Calls Try.prog D.fs #[D.v] w fun e w' => e = .returned (.int .i64 (D.len a)) ∧ w' = w
  cr : ∀ {K a w}, D.st K a w → D.room a 1 → ∀ i : Nat, i < D.len a → Calls Try.prog D.fr #[D.v, .int .i64 i] w fun e w' => e = .returned (.tuple #[.agg (v4C (D.rd a i).2.1).toArray, .int .i64 (D.rd a i).2.2]) ∧ D.st K (D.rd a i).1 w' ∧ Turned (Un10 D.B K) w w'
  cw : ∀ {K a w}, D.st K a w → D.room a 1 → ∀ i : Nat, i < D.len a → ∀ x : V4, Calls Try.prog D.fw #[D.v, .int .i64 i, .agg (v4C x).toArray] w fun e w' => e = .returned (.int .i64 (D.wr a i x).2) ∧ D.st K (D.wr a i x).1 w' ∧ Turned (Un10 D.B K) w w'
  ct : ∀ {K a w}, D.st K a w → D.room a 1 → ∀ i : Nat, i < D.len a → Calls Try.prog D.ft #[D.v, .int .i64 i] w fun e w' => e = .returned (.int .i64 (D.tr a i).2) ∧ D.st K (D.tr a i).1 w' ∧ Turned (Un10 D.B K) w w'
  lr : ∀ a i, D.len (D.rd a i).1 = D.len a
  lw : ∀ a i x, D.len (D.wr a i x).1 = D.len a
  lt : ∀ a i, D.len (D.tr a i).1 = D.len a
  rr : ∀ a i n, D.room a (n + 1) → D.room (D.rd a i).1 n
  rw : ∀ a i x n, D.room a (n + 1) → D.room (D.wr a i x).1 n
  rt : ∀ a i n, D.room a (n + 1) → D.room (D.tr a i).1 n
  rl : ∀ a n, D.room a (n + 1) → D.room a n
theorem Dk10.Is.le {α : Type} {D : Dk10 α} (h : D.Is) (a : α) (n : Nat) : ∀ m, D.room a (n + m) → D.room a n
  | 0, e => e
  | m + 1, e => h.le a n m (h.rl a (n + m) e)
theorem Dk10.Is.less {α : Type} {D : Dk10 α} (h : D.Is) {K K' : Nat → Prop} {a : α} {w : World} (s : D.st K a w) (hk : ∀ i, K' i → K i) : D.st K' a w :=
  h.move (S := NoBlock) s (fun _ e => e.elim) (Turned.refl _ _) (fun i e => ⟨.inl (hk i e), h.kin s i (hk i e)⟩)

/-- The device's cells. -/
def pdC {α : Type} (D : Dk10 α) (d : DvM) : List Value := [.iface D.T D.v, .int .u32 (U d.first), .int .u32 (U d.many), .int .u32 (U d.err), .int .u32 (U d.line)] ++ (Us d.buf ++ [.int .i64 d.place])
theorem pd_size : (Try.prog.info? 52).map (·.size) = some 22 := by kernel_rfl
/-- The device stands at q: apart from the blocks K. -/
structure PdAt {α : Type} (D : Dk10 α) (q : Nat) (K : Nat → Prop) (d : DvM) (a : α) (w : World) : Prop where
  own : At w q 52 (pdC D d)
  dk : D.st (fun i => K i ∨ i = q) a w
  nk : ¬ K q
  lo : D.B ≤ q
  b : d.buf.length = 16
  p : d.place < 16
section
variable {α : Type} {D : Dk10 α} {q : Nat} {K K' S : Nat → Prop} {d d' : DvM} {a : α} {w w' : World}
theorem PdAt.kin (h : PdAt D q K d a w) (hD : D.Is) (i : Nat) (hi : K i) : i < w.heap.size := hD.kin h.dk i (.inl hi)
theorem PdAt.low (h : PdAt D q K d a w) (hD : D.Is) : D.B ≤ w.heap.size := hD.low h.dk
theorem PdAt.move (h : PdAt D q K d a w) (hD : D.Is) (hs : ∀ i, S i → K i) (t : Turned S w w') (hK : ∀ i, K' i → (K i ∨ w.heap.size ≤ i) ∧ i < w'.heap.size) : PdAt D q K' d a w' :=
  ⟨h.own.kept t (fun e => h.nk (hs _ e)), hD.move h.dk (fun i e => .inl (hs i e)) t (fun i e => by
    rcases e with e | e
    · obtain ⟨h1, h2⟩ := hK i e
      exact ⟨h1.imp .inl id, h2⟩
    · exact ⟨.inl (.inr e), by have := h.own.lt; have := t.size; omega⟩), fun e => by
    rcases (hK q e).1 with h1 | h1
    · exact h.nk h1
    · have := h.own.lt
      omega, h.lo, h.b, h.p⟩
theorem PdAt.less (h : PdAt D q K d a w) (hD : D.Is) (hk : ∀ i, K' i → K i) : PdAt D q K' d a w :=
  h.move hD (S := NoBlock) (fun _ e => e.elim) (Turned.refl _ _) (fun i e => ⟨.inl (hk i e), h.kin hD i (hk i e)⟩)
theorem PdAt.below (h : PdAt D q K d a w) (hD : D.Is) (t : Below w.heap.size w w') : PdAt D q K d a w' :=
  h.move hD (S := NoBlock) (fun _ e => e.elim) (Turned.of_below t (Nat.le_refl _) _) (fun i e => ⟨.inl e, by have := h.kin hD i e; have := t.size; omega⟩)
theorem PdAt.drewN (h : PdAt D q K d a w) (hD : D.Is) (n : Nat) : PdAt D q K d a (w.drewN n) :=
  h.move hD (S := NoBlock) (fun _ e => e.elim) ((Turned.refl _ w).drewN n) (fun i e => ⟨.inl e, h.kin hD i e⟩)
theorem PdAt.drew (h : PdAt D q K d a w) (hD : D.Is) : PdAt D q K d a w.drew :=
  h.move hD (S := NoBlock) (fun _ e => e.elim) (Turned.refl _ w).drew (fun i e => ⟨.inl e, h.kin hD i e⟩)
/-- The disk's own state is another one. -/
theorem PdAt.disk {a' : α} (h : PdAt D q K d a w) (s : D.st (fun i => K i ∨ i = q) a' w') (t : Turned (Un10 D.B (fun i => K i ∨ i = q)) w w') : PdAt D q K d a' w' ∧ Turned (Un10 D.B K) w w' :=
  ⟨⟨h.own.kept t (fun e => e.2 (.inr rfl)), s, h.nk, h.lo, h.b, h.p⟩, t.mono (fun _ _ e => ⟨e.1, fun e2 => e.2 (.inl e2)⟩)⟩
/-- A cell of the device is set. -/
theorem PdAt.put (h : PdAt D q K d a w) (hD : D.Is) (o : Nat) (u : Value) (e : (pdC D d).set o u = pdC D d') (hb : d'.buf.length = 16) (hp : d'.place < 16) : ∃ W, w.setCell ⟨q, o, none⟩ u = W ∧ PdAt D q K d' a W ∧ Turned (Un10 D.B K) w W :=
  ⟨_, rfl, ⟨(h.own.put o u).as e, hD.move h.dk (S := Just q) (fun _ e => .inr e) (turned_set w q o u) (fun _ e => ⟨.inl e, by rw [World.size_setCell]; exact hD.kin h.dk _ e⟩), h.nk, h.lo, hb, hp⟩, (turned_set w q o u).mono (fun i _ e => by rw [show i = q from e]; exact ⟨h.lo, h.nk⟩)⟩
theorem pd_cells (h : PdAt D q K d a w) : w.cell? ⟨q, 0, none⟩ = some (.iface D.T D.v) ∧ w.cell? ⟨q, 1, none⟩ = some (.int .u32 (U d.first)) ∧ w.cell? ⟨q, 2, none⟩ = some (.int .u32 (U d.many)) ∧ w.cell? ⟨q, 3, none⟩ = some (.int .u32 (U d.err)) ∧ w.cell? ⟨q, 4, none⟩ = some (.int .u32 (U d.line)) ∧ w.cell? ⟨q, 21, none⟩ = some (.int .i64 d.place) := by
  refine ⟨h.own.cell 0, h.own.cell 1, h.own.cell 2, h.own.cell 3, h.own.cell 4, ?_⟩
  rw [h.own.cell 21]
  unfold pdC
  rw [List.getElem?_append_right (by simp), List.getElem?_append_right (by rw [Us_length, h.b]; simp), Us_length, h.b]
  rfl
theorem pd_word (h : PdAt D q K d a w) {j : Nat} (hj : j < 16) : w.cell? ⟨q, 5 + j, none⟩ = some (.int .u32 (U (wd d.buf j))) := by
  rw [h.own.cell (5 + j)]
  unfold pdC
  rw [List.getElem?_append_right (by simp), show 5 + j - [Value.iface D.T D.v, .int .u32 (U d.first), .int .u32 (U d.many), .int .u32 (U d.err), .int .u32 (U d.line)].length = j by simp, List.getElem?_append_left (by rw [Us_length, h.b]; exact hj)]
  exact Us_get _ _ (by rw [h.b]; exact hj)
theorem pd_place (hb : d.buf.length = 16) (u : Nat) : (pdC D d).set 21 (.int .i64 u) = pdC D { d with place := u } := by
  unfold pdC
  rw [List.set_append_right _ _ (by simp), List.set_append_right _ _ (by rw [Us_length, hb]; simp), Us_length, hb]
  rfl
theorem pd_buf (hb : d.buf.length = 16) {k : Nat} (hk : k < 16) (x : BitVec 32) : (pdC D d).set (5 + k) (.int .u32 (U x)) = pdC D { d with buf := d.buf.set k x } := by
  unfold pdC
  rw [List.set_append_right _ _ (by simp), show 5 + k - [Value.iface D.T D.v, .int .u32 (U d.first), .int .u32 (U d.many), .int .u32 (U d.err), .int .u32 (U d.line)].length = k by simp, List.set_append_left _ _ (by rw [Us_length, hb]; exact hk), Us_set]
theorem next_nat (p : Nat) : ((dNext p : Nat) : Int) = ((p : Int) + 1) % 16 := by unfold dNext; omega

theorem made10 (h : PdAt D q K d a w) : Calls Try.prog 22 #[.pointer (some ⟨q, 0, none⟩)] w fun e w' => e = .returned (.bool true) ∧ w' = w := by
  have c0 := (pd_cells h).1
  clear h
  go_enter Try.func22, Try.ntmps22
  go_wp2
  go_ret
  exact ⟨rfl, rfl⟩
/-- The error of a call that names a register. -/
def regE (reg : Int) : Int := if reg < 0 ∨ 7 < reg then 3 else 0
theorem refuse10 (h : PdAt D q K d a w) (reg : Int) : Calls Try.prog 18 #[.pointer (some ⟨q, 0, none⟩), .int .i64 reg] w fun e w' => e = .returned (.int .i64 (regE reg)) ∧ w' = w := by
  have HM := Lib.hid (made10 h)
  clear h
  unfold regE
  by_cases h1 : reg < 0
  · rw [if_pos (.inl h1)]
    go_enter Try.func18, Try.ntmps18
    go_wp2_with (go_at_call 22; (with_reducible refine HM.out.mono ?_); rintro e w1 ⟨rfl, hw⟩; obtain rfl := hw.symm)
    go_ret
    exact ⟨rfl, rfl⟩
  by_cases h2 : 7 < reg
  · rw [if_pos (.inr h2)]
    go_enter Try.func18, Try.ntmps18
    go_wp2_with (go_at_call 22; (with_reducible refine HM.out.mono ?_); rintro e w1 ⟨rfl, hw⟩; obtain rfl := hw.symm)
    go_ret
    exact ⟨rfl, rfl⟩
  · rw [if_neg (by omega)]
    go_enter Try.func18, Try.ntmps18
    go_wp2_with (go_at_call 22; (with_reducible refine HM.out.mono ?_); rintro e w1 ⟨rfl, hw⟩; obtain rfl := hw.symm)
    go_ret
    exact ⟨rfl, rfl⟩
theorem up10 (h : PdAt D q K d a w) : Calls Try.prog 15 #[.pointer (some ⟨q, 0, none⟩)] w fun e w' => e = .returned (.bool (U d.line == 1)) ∧ w' = w := by
  have HM := Lib.hid (made10 h)
  have c4 := (pd_cells h).2.2.2.2.1
  clear h
  go_enter Try.func15, Try.ntmps15
  go_wp2_with (go_at_call 22; (with_reducible refine HM.out.mono ?_); rintro e w1 ⟨rfl, hw⟩; obtain rfl := hw.symm)
  go_ret
  exact ⟨rfl, rfl⟩
theorem size10 (h : PdAt D q K d a w) (hD : D.Is) : Calls Try.prog 26 #[.pointer (some ⟨q, 0, none⟩)] w fun e w' => e = .returned (.int .u32 (U (BitVec.ofNat 32 (D.len a)))) ∧ w' = w := by
  have c0 := (pd_cells h).1
  have hme := hD.ms
  have hge := hD.gs
  have hn := hD.few h.dk
  have HS := Lib.hid (hD.cs h.dk)
  have hz := wrap_small hn
  have hu := U_small hn
  rw [hu]
  clear h hD hu hn
  go_enter Try.func26, Try.ntmps26
  go_wp2_with ((with_reducible refine HS.out.mono ?_); rintro e w1 ⟨rfl, hw⟩; obtain rfl := hw.symm)
  go_ret
  exact ⟨rfl, rfl⟩
/-- What the register Status tells. -/
def stB (d : DvM) : BitVec 32 := if U d.err = 0 then 1#32 else 3#32
theorem status10 (h : PdAt D q K d a w) : Calls Try.prog 25 #[.pointer (some ⟨q, 0, none⟩)] w fun e w' => e = .returned (.int .u32 (U (stB d))) ∧ w' = w := by
  have c3 := (pd_cells h).2.2.2.1
  clear h
  by_cases h1 : U d.err = 0
  · have e1 : (U d.err == 0) = true := by rw [beq_iff_eq]; exact h1
    rw [show stB d = 1#32 by unfold stB; rw [if_pos h1]]
    clear h1
    go_enter Try.func25, Try.ntmps25
    go_wp2
    go_ret
    exact ⟨rfl, rfl⟩
  · have e1 : (U d.err == 0) = false := by rw [beq_eq_false_iff_ne]; exact h1
    rw [show stB d = 3#32 by unfold stB; rw [if_neg h1]]
    clear h1
    go_enter Try.func25, Try.ntmps25
    go_wp2
    go_ret
    exact ⟨rfl, rfl⟩
theorem fault10 (e : Int) (w : World) : Calls Try.prog 29 #[.int .i64 e] w fun r w' => r = .returned (.int .u32 (if e = 9 then 3 else if e = 4 then 4 else 5)) ∧ w' = w := by
  by_cases h1 : e = 9
  · rw [if_pos h1]
    subst h1
    go_enter Try.func29, Try.ntmps29
    go_wp2
    go_ret
    exact ⟨rfl, rfl⟩
  rw [if_neg h1]
  have e1 : (e == 9) = false := by rw [beq_eq_false_iff_ne]; exact h1
  by_cases h2 : e = 4
  · rw [if_pos h2]
    subst h2
    clear h1 e1
    go_enter Try.func29, Try.ntmps29
    go_wp2
    go_ret
    exact ⟨rfl, rfl⟩
  · rw [if_neg h2]
    have e2 : (e == 4) = false := by rw [beq_eq_false_iff_ne]; exact h2
    clear h1 h2
    go_enter Try.func29, Try.ntmps29
    go_wp2
    go_ret
    exact ⟨rfl, rfl⟩
set_option maxRecDepth 100000 in
set_option maxHeartbeats 1000000 in
theorem window10 (h : PdAt D q K d a w) (hD : D.Is) : Calls Try.prog 20 #[.pointer (some ⟨q, 0, none⟩)] w fun e w' => e = .returned (.pointer (some ⟨q, 5 + d.place, none⟩)) ∧ PdAt D q K { d with place := dNext d.place } a w' ∧ Turned (Un10 D.B K) w w' := by
  have c21 := (pd_cells h).2.2.2.2.2
  have f21 := h.own.frozen 21
  have p16 : (d.place : Int) < 16 := by have := h.p; omega
  have p0 : (0 : Int) ≤ d.place := by omega
  have hp : 5 + (d.place / 4) * 4 + d.place % 4 = 5 + d.place := by omega
  have HP := Lib.hid h
  have HH := Lib.hid hp
  have HD := Lib.hid hD
  clear h hp hD
  go_enter Try.func20, Try.ntmps20
  go_upto_region 2 with (go_quiet (fail))
  go_wp2
  go_ret
  obtain ⟨W, hW, hP, hT⟩ := (HP.out.drewN HD.out nq).put HD.out 21 (.int .i64 (dNext d.place)) (pd_place HP.out.b _) HP.out.b (by show dNext d.place < 16; unfold dNext; omega)
  rw [next_nat] at hW
  rw [hW, HH.out]
  exact ⟨rfl, hP, ((Turned.refl _ w).drewN nq).trans hT⟩
end
end Go.Proofs.Ytpkkejdjhnmjiaa
