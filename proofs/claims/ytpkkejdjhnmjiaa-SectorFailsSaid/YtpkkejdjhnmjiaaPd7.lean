/- The statements' run of layer sector: acts on the program's device, and on the document's. -/
import Derived.Test.YtpkkejdjhnmjiaaPd6
import Derived.Test.YtpkkejdjhnmjiaaSecOp
namespace Go.Proofs.Ytpkkejdjhnmjiaa
open Go.RowKit Bm

/-- Blocks that are kept while acts are run. -/
def KR10 (K : Nat → Prop) (b4 b6 : Nat) (A : Option Addr) (i : Nat) : Prop := K i ∨ i = b4 ∨ i = b6 ∨ ∃ off, A = some ⟨i, off, none⟩
/-- The document's device dd lies in b4, its disk's row behind it; the result's cell. -/
structure RunB (B : Nat) (K : Nat → Prop) (N : Nat) (w0 : World) (b4 b6 : Nat) (A : Option Addr) (c : Nat) (dd : DvM) (w : World) : Prop where
  box : At w b4 34 (dvC (.slice A N c) dd)
  out : At w b6 34 dvZ
  row : v4K.Reads w A N c dd.disk
  far : ∀ g off, A = some ⟨g, off, none⟩ → g ≠ b4 ∧ g ≠ b6 ∧ g < w.heap.size
  turned : Turned (Un10 B K) w0 w
section
variable {B N b4 b6 c c' : Nat} {K S : Nat → Prop} {w0 w w' : World} {A A' : Option Addr} {dd dd' : DvM}
theorem RunB.kept (h : RunB B K N w0 b4 b6 A c dd w) (t : Turned S w w') (h4 : ¬ S b4) (h6 : ¬ S b6) (hA : ∀ g off, A = some ⟨g, off, none⟩ → ¬ S g) (hS : ∀ i, i < w0.heap.size → S i → Un10 B K i) : RunB B K N w0 b4 b6 A c dd w' :=
  ⟨h.box.kept t h4, h.out.kept t h6, h.row.turned t hA, fun g off e => by have h1 := h.far g off e; have h2 := t.size; exact ⟨h1.1, h1.2.1, by omega⟩, h.turned.after t hS⟩
theorem RunB.below (h : RunB B K N w0 b4 b6 A c dd w) (t : Below w.heap.size w w') : RunB B K N w0 b4 b6 A c dd w' :=
  h.kept (S := NoBlock) (Turned.of_below t (Nat.le_refl _) _) (fun e => e) (fun e => e) (fun _ _ _ e => e) (fun _ _ e => e.elim)
theorem RunB.drewN (h : RunB B K N w0 b4 b6 A c dd w) (n : Nat) : RunB B K N w0 b4 b6 A c dd (w.drewN n) :=
  h.kept (S := NoBlock) ((Turned.refl _ w).drewN n) (fun e => e) (fun e => e) (fun _ _ _ e => e) (fun _ _ e => e.elim)
/-- Another device lies there. -/
theorem RunB.store (h : RunB B K N w0 b4 b6 A c dd w) (hA : At w' b4 34 (dvC (.slice A' N c') dd')) (t : Turned (Just b4) w w') (hr : v4K.Reads w A' N c' dd'.disk) (hf : ∀ g off, A' = some ⟨g, off, none⟩ → g ≠ b4 ∧ g ≠ b6 ∧ g < w.heap.size) (h46 : b4 ≠ b6) (h4 : w0.heap.size ≤ b4) : RunB B K N w0 b4 b6 A' c' dd' w' :=
  ⟨hA, h.out.kept t (fun e => h46 e.symm), hr.turned t (fun g off e e2 => (hf g off e).1 e2), fun g off e => by have h1 := hf g off e; have h2 := t.size; exact ⟨h1.1, h1.2.1, by omega⟩, h.turned.after t (fun i hi e => by rw [show i = b4 from e] at hi; omega)⟩
end
section
variable {α : Type} {D : Dk10 α} {q : Nat} {K K' S : Nat → Prop} {d d' : DvM} {a : α} {w w' : World} {I : α → Prop} {view : α → List V4}
theorem doc_ok (hF : Faith D I view) (hD : D.Is) (h : PdAt D q K d a w) : DvOk (docOf view d a) := ⟨h.b, h.p, by show (view a).length ≤ 1000; rw [← hF.len]; exact hD.few h.dk⟩
theorem set_len (hD : D.Is) (hF : Faith D I view) (hI : I a) (reg : Int) (v : BitVec 32) (d : DvM) : D.len (pSet D reg v d a).2.1 = D.len a := by
  have h := (set_doc hD hF hI reg v d).1
  have h1 : docOf view (pSet D reg v d a).1 (pSet D reg v d a).2.1 = (dSet (docOf view d a) reg v).1 := by rw [← h]
  have h2 := dSet_disk (docOf view d a) reg v
  rw [← h1] at h2
  rw [hF.len, hF.len]
  exact h2
theorem act10_size : (Try.prog.info? 61).map (·.size) = some 3 := by kernel_rfl
theorem act10_len (x : Act10) : (act10C x).length = 3 := rfl
def act10Z : List Value := [.int .u8 0, .int .i64 0, .int .u32 0]
theorem res_dev_bool {fn : Func} {i j : Tmp} (h : fn.results = #[.cell i 34, .tmp j]) (tmps : Array Value) {w : World} {g : Nat} {cs : List Value} {v : Value} (hp : tmps.getD i undef = .pointer (some ⟨g, 0, none⟩)) (hq : tmps.getD j undef = v) (hA : At w g 34 cs) (hn : cs.length = 22) : (results fn tmps).run Try.prog w = .ok (.tuple #[.agg cs.toArray, v]) w :=
  res_cell2 h tmps Try.underlying34 rfl dv_size hp hq hA hn

set_option maxRecDepth 100000 in
set_option maxHeartbeats 8000000 in
theorem run10_any (hD : D.Is) (hF : Faith D I view) (h : PdAt D q K d a w) (hI : I a) (N n : Nat) (hN : D.len a = N) (hroom : D.room a (4 * n)) (A : Option Addr) (c : Nat) (hR : v4K.Reads w A N c (view a)) (hKA : ∀ g off, A = some ⟨g, off, none⟩ → K g)
    (L : Option Addr) (cl : Nat) (xs : List Act10) (hL : act10K.Reads w L n cl xs) (hx : ∀ x ∈ xs, x.Ok) (hLB : 0 < n → ∀ g off, L = some ⟨g, off, none⟩ → g < D.B) :
    Calls Try.prog 11 #[.pointer (some ⟨q, 0, none⟩), .agg (dvC (.slice A N c) (docOf view d a)).toArray, .slice L n cl] w fun e w' => ∃ A' c' d' a', e = .returned (.tuple #[.agg (dvC (.slice A' N c') (docOf view d' a')).toArray, .bool true]) ∧ PdAt D q (fun i => K i ∨ ∃ off, A' = some ⟨i, off, none⟩) d' a' w' ∧ I a' ∧ v4K.Reads w' A' N c' (view a') ∧ (∀ g off, A' = some ⟨g, off, none⟩ → K g ∨ w.heap.size ≤ g) ∧ Turned (Un10 D.B K) w w' := by
  obtain ⟨W0, hW0⟩ : ∃ W0, W0 = V2 w (dvC (.slice A N c) (docOf view d a)) := ⟨_, rfl⟩
  have hz := dv_zero
  have a0 := V2_a w (dvC (.slice A N c) (docOf view d a))
  have a1 := V2_b w (dvC (.slice A N c) (docOf view d a))
  have b0 := V2_below w (dvC (.slice A N c) (docOf view d a))
  have s0 := V2_size w (dvC (.slice A N c) (docOf view d a))
  have hW1 := hW0
  unfold V2 at hW1
  rw [← hW0] at a0 a1 b0 s0
  have hsz := h.low hD
  obtain ⟨b4, hb4⟩ : ∃ b4, b4 = w.heap.size := ⟨_, rfl⟩
  obtain ⟨b6, hb6⟩ : ∃ b6, b6 = w.heap.size + 1 := ⟨_, rfl⟩
  have hlowA : ∀ g off, A = some ⟨g, off, none⟩ → g < w.heap.size := fun g off e => h.kin hD g (hKA g off e)
  have HRB : Hid (RunB D.B K N w b4 b6 A c (docOf view d a) W0) := Lib.hid ⟨by rw [hb4]; exact a0, by rw [hb6]; exact a1, hR.kept b0, fun g off e => by have := hlowA g off e; omega, Turned.of_below b0 (Nat.le_refl _) _⟩
  have HPD : Hid (PdAt D q (KR10 K b4 b6 A) d a W0) := Lib.hid (h.move hD (S := NoBlock) (fun _ e => e.elim) (Turned.of_below b0 (Nat.le_refl _) _) (fun i e => by
    rcases e with e | e | e | ⟨off, e⟩
    · exact ⟨.inl e, by have := h.kin hD i e; omega⟩
    · exact ⟨.inr (by omega), by omega⟩
    · exact ⟨.inr (by omega), by omega⟩
    · exact ⟨.inl (hKA i off e), by have := hlowA i off e; omega⟩))
  have HLR := Lib.hid hL
  have HBS : Hid (b4 = w.heap.size ∧ b6 = w.heap.size + 1 ∧ D.B ≤ w.heap.size) := Lib.hid ⟨hb4, hb6, hsz⟩
  have HI := Lib.hid hI
  have HN := Lib.hid hN
  have HRM := Lib.hid hroom
  have HX := Lib.hid hx
  have HLB := Lib.hid hLB
  have HD := Lib.hid hD
  have HF := Lib.hid hF
  have HLL := Lib.hid hL.len
  have HN1 : Hid (N ≤ 1000) := Lib.hid (by rw [← hN]; exact hD.few h.dk)
  have HAF : Hid (∀ g off, A = some ⟨g, off, none⟩ → K g ∨ w.heap.size ≤ g) := Lib.hid fun g off e => .inl (hKA g off e)
  clear a0 a1 b0 s0 hW0 hlowA h hI hN hroom hx hLB hF hD hL hR hKA hsz
  go_enter Try.func11, Try.ntmps11
  go_upto_region 1 with (fail)
  change Code.wp _ _ _ _ ((w.alloc (.cells (dvC (.slice A N c) (docOf view d a)).toArray 34)).alloc (.cells dvZ.toArray 34))
  rw [← hW1, ← hb6, ← hb4]
  clear hW1 hb4 hb6
  go_upto_region 2 with (fail)
  go_loopw [20] (fun i wr => ∃ (j : Nat) (A : Option Addr) (c : Nat) (d : DvM) (a : α), j ≤ n ∧ i = .int .i64 j ∧ RunB D.B K N w b4 b6 A c (docOf view d a) wr ∧ PdAt D q (KR10 K b4 b6 A) d a wr ∧ I a ∧ D.len a = N ∧ D.room a (4 * (n - j)) ∧ ∀ g off, A = some ⟨g, off, none⟩ → K g ∨ w.heap.size ≤ g) (fun i _ => n - (intOf i).toNat)
  case atStart => exact ⟨0, A, c, d, a, Nat.zero_le _, rfl, HRB.out, HPD.out, HI.out, HN.out, HRM.out, HAF.out⟩
  case round =>
    clear HRB HPD HI HN HRM HAF
    obtain ⟨j, A, c, d, a, hj, rfl, hrb, hpd, hi, hlen, hroom, hfar⟩ := hrel
    have HRB := Lib.hid hrb
    have HPD := Lib.hid hpd
    have HI := Lib.hid hi
    have HN := Lib.hid hlen
    have HRM := Lib.hid hroom
    have HAF := Lib.hid hfar
    clear hrb hpd hi hlen hroom hfar
    by_cases hlt : j < n
    · have ht : (j : Int) < n := by omega
      have ht0 : (0 : Int) ≤ j := by omega
      obtain ⟨g, off, eL, hg, hrg⟩ := (HLR.out.turned HRB.out.turned (fun g off e e2 => by have h1 := HLB.out (by omega) g off e; have h2 := e2.1; omega)).at_ hlt
      subst eL
      obtain ⟨x, hx⟩ : ∃ x, x = act10K.nth xs j := ⟨_, rfl⟩
      rw [← hx] at hrg
      have hok : x.Ok := by rw [hx]; exact HX.out _ (act10K.nth_mem (by rw [HLL.out]; exact hlt))
      have k0 := (bounds_u8 hok.1).1
      have k1 := (bounds_u8 hok.1).2
      have HRG : Hid (wr.rangeAt g (off + j * 3) (act10C x)) := Lib.hid hrg
      have hle := HLR.out.le
      have hle' : (n : Int) ≤ cl := by omega
      have hnm : (n : Int) ≤ 9223372036854775807 := by have := HLR.out.max; unfold maxLen at this; omega
      have HMX := Lib.hid HLR.out.max
      clear hx hok hrg hle
      go_upto_region 4 with (first
        | (refine wpList_ldr (xs := act10C x) _ rfl rfl rfl Try.underlying61 rfl act10_size (act10_len x) HRG.out ?_)
        | (refine wpList_stm (pre := []) (post := []) (xs := act10Z) (ys := act10C x) _ _ rfl rfl rfl rfl act10_size rfl (act10_len x) (act10_one x) rfl (by simp) (At.news wr _ act10Z) ?_; intro w4 A4 T4; rw [List.nil_append, List.append_nil] at A4; have HA4 := Lib.hid A4; have HB4 : Hid (Below wr.heap.size wr w4) := Lib.hid (((Below.refl _ wr).alloc (Nat.le_refl _) _).trans (T4.below (fun i hi => by unfold Just at hi; omega) (by simp))); clear A4 T4))
      obtain ⟨b9, hb9⟩ : ∃ b9, b9 = wr.heap.size := ⟨_, rfl⟩
      have h46 : b4 ≠ b6 := by have := HBS.out; omega
      have H46 := Lib.hid h46
      have h94 : b4 < b9 ∧ b6 < b9 ∧ w.heap.size ≤ b9 ∧ w.heap.size ≤ b4 := by
        have h1 := HRB.out.box.lt
        have h2 := HRB.out.out.lt
        have h3 := HBS.out
        omega
      have H94 := Lib.hid h94
      have HRB4 := Lib.hid (HRB.out.below HB4.out)
      have HPD4 : Hid (PdAt D q (fun i => KR10 K b4 b6 A i ∨ i = b9) d a w4) := Lib.hid (HPD.out.move HD.out (S := NoBlock) (fun _ e => e.elim) (Turned.of_below HB4.out (Nat.le_refl _) _) (fun i e => by
        have hs := HB4.out.size
        rcases e with e | e
        · exact ⟨.inl e, by have := HPD.out.kin HD.out i e; omega⟩
        · have := HA4.out.lt
          exact ⟨.inr (by omega), by omega⟩))
      have HA49 : Hid (At w4 b9 61 (act10C x)) := Lib.hid (by rw [hb9]; exact HA4.out)
      have HFARb : Hid (∀ g off, A = some ⟨g, off, none⟩ → g < b9) := Lib.hid fun g off e => by rw [hb9]; exact (HRB.out.far g off e).2.2
      rw [← hb9]
      have z0 : w4.cell? ⟨b9, 0, none⟩ = some (.int .u8 x.kind) := HA49.out.cell 0
      have z1 : w4.cell? ⟨b9, 1, none⟩ = some (.int .i64 x.reg) := HA49.out.cell 1
      have z2 : w4.cell? ⟨b9, 2, none⟩ = some (.int .u32 (U x.v)) := HA49.out.cell 2
      have HOK := Lib.hid (doc_ok HF.out HD.out HPD.out)
      have HNL : Hid ((docOf view d a).disk.length = N) := Lib.hid (by rw [← HN.out, HF.out.len]; rfl)
      clear hb9 h46 h94 HB4 HA4 HRB HPD HRG
      simp only [Act.put]
      obtain ⟨dd, hdd⟩ : ∃ dd, dd = docOf view d a := ⟨_, rfl⟩
      rw [← hdd] at HRB4 HOK HNL
      have HDD := Lib.hid hdd
      clear hdd
      obtain ⟨K4, hK4⟩ : ∃ K4 : Nat → Prop, K4 = fun i => KR10 K b4 b6 A i ∨ i = b9 := ⟨_, rfl⟩
      rw [← hK4] at HPD4
      have HK4 : Hid (∀ i, K4 i ↔ (KR10 K b4 b6 A i ∨ i = b9)) := Lib.hid fun i => by rw [hK4]
      clear hK4
      -- what a call of the program's device leaves
      have HUN : Hid (∀ {W W' : World} {c' : Nat} {dd' : DvM}, Turned (Un10 D.B K4) W W' → RunB D.B K N w b4 b6 A c' dd' W → At W b9 61 (act10C x) → RunB D.B K N w b4 b6 A c' dd' W' ∧ At W' b9 61 (act10C x)) := Lib.hid fun t h h9 =>
        ⟨h.kept t (fun e => e.2 ((HK4.out _).2 (.inl (.inr (.inl rfl))))) (fun e => e.2 ((HK4.out _).2 (.inl (.inr (.inr (.inl rfl)))))) (fun g off e u => u.2 ((HK4.out _).2 (.inl (.inr (.inr (.inr ⟨off, e⟩)))))) (fun i _ u => ⟨u.1, fun k => u.2 ((HK4.out _).2 (.inl (.inl k)))⟩), h9.kept t (fun e => e.2 ((HK4.out _).2 (.inr rfl)))⟩
      by_cases hk : x.kind % 2 = 1
      · have ek : (x.kind % 2 == 1) = true := by rw [beq_iff_eq]; exact hk
        clear hk
        have hgd := get_doc HF.out x.reg d (a := a)
        rw [← HDD.out] at hgd
        obtain ⟨r, hr⟩ : ∃ r, r = dGet dd x.reg := ⟨_, rfl⟩
        obtain ⟨dd1, vv, ee⟩ := r
        obtain ⟨d1, hd1⟩ : ∃ d1, d1 = (pGet (D.len a) d x.reg).1 := ⟨_, rfl⟩
        have HG : Hid (Calls Try.prog 14 #[.pointer (some ⟨q, 0, none⟩), .int .i64 x.reg] w4 fun e w' => e = .returned (.tuple #[.int .u32 (U vv), .int .i64 ee]) ∧ PdAt D q K4 d1 a w' ∧ Turned (Un10 D.B K4) w4 w') := Lib.hid (by
          have h := get10 HPD4.out HD.out x.reg
          rw [← hr] at hgd
          have e1 : (pGet (D.len a) d x.reg).2 = (vv, ee) := congrArg Prod.snd hgd
          rw [e1, ← hd1] at h
          exact h)
        have HRG : Hid (∀ W, Calls Try.prog 16 #[.agg (dvC (.slice A N c) dd).toArray, .int .i64 x.reg] W fun e w' => e = .returned (.tuple #[.agg (dvC (.slice A N c) dd1).toArray, .int .u32 (U vv), .int .i64 ee]) ∧ Below W.heap.size W w') := Lib.hid fun W => by
          have h := rget10_any A c dd HOK.out x.reg W
          rw [HNL.out, ← hr] at h
          exact h
        have HD1 : Hid (docOf view d1 a = dd1) := Lib.hid (by rw [hd1]; rw [← hr] at hgd; exact congrArg Prod.fst hgd)
        clear hr hd1 hgd
        go_upto_region 6 with (go_at_call 14; (with_reducible refine HG.out.mono ?_); rintro e w5 ⟨rfl, p1, t1⟩; have HP5 := Lib.hid p1; have HU5 := Lib.hid (HUN.out t1 HRB4.out HA49.out); clear p1 t1)
        have HL := Lib.hid (dv_len (sl := .slice A N c) HOK.out)
        have z1 : w5.cell? ⟨b9, 1, none⟩ = some (.int .i64 x.reg) := HU5.out.2.cell 1
        have HOK1 : Hid (DvOk dd1) := Lib.hid (by rw [← HD1.out]; exact doc_ok HF.out HD.out HP5.out)
        have HL1 := Lib.hid (dv_len (sl := .slice A N c) HOK1.out)
        go_upto_region 7 with (first
          | (refine wpList_ldr (xs := dvC (.slice A N c) dd) _ rfl rfl rfl Try.underlying34 rfl dv_size HL.out HU5.out.1.box.rng0 ?_)
          | (go_at_call 16; (with_reducible refine (HRG.out _).mono ?_); rintro e w6 ⟨rfl, hb⟩; have HB6 := Lib.hid hb; clear hb)
          | (refine wpList_stm (pre := []) (post := []) (xs := dvZ) (ys := dvC (.slice A N c) dd1) _ _ rfl rfl rfl rfl dv_size dvZ_len HL1.out (dv_one _) rfl (by simp) (At.news w6 _ dvZ) ?_; intro w7 A7 T7; rw [List.nil_append, List.append_nil] at A7; have HA7 := Lib.hid A7; have HB7 : Hid (Below w6.heap.size w6 w7) := Lib.hid (((Below.refl _ w6).alloc (Nat.le_refl _) _).trans (T7.below (fun i hi => by unfold Just at hi; omega) (by simp))); clear A7 T7))
        have HB57 : Hid (Below w5.heap.size w5 w7) := Lib.hid (HB6.out.trans (HB7.out.mono HB6.out.size))
        have HR7 := Lib.hid (HU5.out.1.below HB57.out)
        have HP7 := Lib.hid (HP5.out.below HD.out HB57.out)
        have HA97 := Lib.hid (at_stay HU5.out.2 HB57.out)
        go_upto_region 8 with (first
          | (refine wpList_ldr (xs := dvC (.slice A N c) dd1) _ rfl rfl rfl Try.underlying34 rfl dv_size HL1.out HA7.out.rng0 ?_)
          | (refine wpList_stm (pre := []) (post := []) (xs := dvC (.slice A N c) dd) (ys := dvC (.slice A N c) dd1) _ _ rfl rfl rfl rfl dv_size HL.out HL1.out (dv_one _) rfl (by simp) HR7.out.box ?_; intro w8 A8 T8; rw [List.nil_append, List.append_nil] at A8; have HA8 := Lib.hid A8; have HT8 := Lib.hid T8; clear A8 T8))
        have hrow1 : dd1.disk = dd.disk := by rw [← HD1.out, HDD.out]; rfl
        have HR8 := Lib.hid (HR7.out.store HA8.out HT8.out (by rw [hrow1]; exact HR7.out.row) HR7.out.far H46.out H94.out.2.2.2)
        clear hrow1 z0 z1 z2 HB57 HB6 HB7 HA7 HP5 HU5 HR7 HRG HG
        have HP9 : Hid (PdAt D q K4 d1 a w8) := Lib.hid (by
          have hT : Turned (Just b4) w7 w8 := HT8.out
          exact (HP7.out.move HD.out (S := Just b4) (K' := K4) (fun i e => by rw [show i = b4 from e]; exact (HK4.out _).2 (.inl (.inr (.inl rfl)))) hT (fun i e => ⟨.inl e, by have := HP7.out.kin HD.out i e; have := hT.size; omega⟩)))
        have HUP : Hid (∀ nn, Calls Try.prog 15 #[.pointer (some ⟨q, 0, none⟩)] (w8.drewN nn) fun e w' => e = .returned (.bool (U dd1.line == 1)) ∧ w' = w8.drewN nn) := Lib.hid fun nn => by
          have h := up10 (HP9.out.drewN HD.out nn)
          rw [show d1.line = dd1.line by rw [← HD1.out]; rfl] at h
          exact h
        have cl3 : w8.cell? ⟨b4, 3, none⟩ = some (.int .u32 (U dd1.line)) := HR8.out.box.cell 3
        clear HP7
        go_upto_region 15 with (fail)
        go_upto_region 17 with (go_quiet ((go_at_call 15; exact Calls.quiet_of_same (HUP.out _))))
        go_wp2
        go_roundw
        case rel =>
          refine ⟨j + 1, A, c, d1, a, by omega, by go_num, by rw [HD1.out]; exact HR8.out.drewN nq, ?_, HI.out, HN.out, (HD.out.le a _ 4 (by rw [show 4 * (n - (j + 1)) + 4 = 4 * (n - j) by omega]; exact HRM.out)), HAF.out⟩
          exact ((HP9.out.drewN HD.out nq).less HD.out (fun i e => (HK4.out i).2 (.inl e)))
        case measure => simp [intOf]; omega
      · have ek : (x.kind % 2 == 1) = false := by rw [beq_eq_false_iff_ne]; exact hk
        clear hk
        have hsd := set_doc HD.out HF.out HI.out x.reg x.v d
        rw [← HDD.out] at hsd
        have hslen := set_len HD.out HF.out HI.out x.reg x.v d
        have hsroom := set_room HD.out x.reg x.v d (4 * (n - (j + 1))) (by rw [show 4 * (n - (j + 1)) + 4 = 4 * (n - j) by omega]; exact HRM.out)
        obtain ⟨r, hr⟩ : ∃ r, r = dSet dd x.reg x.v := ⟨_, rfl⟩
        obtain ⟨dd1, ee⟩ := r
        obtain ⟨r1, hr1⟩ : ∃ r1, r1 = pSet D x.reg x.v d a := ⟨_, rfl⟩
        rw [← hr1] at hslen hsroom hsd
        rw [← hr] at hsd
        obtain ⟨d1, a1, e1⟩ := r1
        dsimp only at hslen hsroom hsd
        have he1 : e1 = ee := congrArg Prod.snd hsd.1
        subst he1
        have HS : Hid (Calls Try.prog 13 #[.pointer (some ⟨q, 0, none⟩), .int .i64 x.reg, .int .u32 (U x.v)] w4 fun e w' => e = .returned (.int .i64 e1) ∧ PdAt D q K4 d1 a1 w' ∧ Turned (Un10 D.B K4) w4 w') := Lib.hid (by
          have h := set10 HPD4.out HD.out (HD.out.le a 4 (4 * (n - (j + 1))) (by rw [show 4 + 4 * (n - (j + 1)) = 4 * (n - j) by omega]; exact HRM.out)) x.reg x.v
          rw [← hr1] at h
          exact h)
        have HRS : Hid (∀ W, v4K.Reads W A N c dd.disk → (∀ g off, A = some ⟨g, off, none⟩ → g < W.heap.size) → Calls Try.prog 17 #[.agg (dvC (.slice A N c) dd).toArray, .int .i64 x.reg, .int .u32 (U x.v)] W fun e w' => ∃ A1 c1, e = .returned (.tuple #[.agg (dvC (.slice A1 N c1) dd1).toArray, .int .i64 e1]) ∧ v4K.Reads w' A1 N c1 dd1.disk ∧ Below W.heap.size W w' ∧ ∀ g off, A1 = some ⟨g, off, none⟩ → A1 = A ∨ (W.heap.size + 2 ≤ g ∧ g < w'.heap.size)) := Lib.hid fun W h1 h2 => by
          have h := rset10_any A c dd HOK.out x.reg x.v W (by rw [HNL.out]; exact h1) h2
          rw [HNL.out, ← hr] at h
          exact h
        have HD1 : Hid (docOf view d1 a1 = dd1) := Lib.hid (congrArg Prod.fst hsd.1)
        have HI1 := Lib.hid hsd.2
        have HN1a := Lib.hid (hslen.trans HN.out)
        have HRM1 := Lib.hid hsroom
        clear hr hr1 hsd hslen hsroom
        go_upto_region 11 with (go_at_call 13; (with_reducible refine HS.out.mono ?_); rintro e w5 ⟨rfl, p1, t1⟩; have HP5 := Lib.hid p1; have HU5 := Lib.hid (HUN.out t1 HRB4.out HA49.out); clear p1 t1)
        have HL := Lib.hid (dv_len (sl := .slice A N c) HOK.out)
        have z1 : w5.cell? ⟨b9, 1, none⟩ = some (.int .i64 x.reg) := HU5.out.2.cell 1
        have z2 : w5.cell? ⟨b9, 2, none⟩ = some (.int .u32 (U x.v)) := HU5.out.2.cell 2
        have HOK1 : Hid (DvOk dd1) := Lib.hid (by rw [← HD1.out]; exact doc_ok HF.out HD.out HP5.out)
        have HRS5 := Lib.hid (HRS.out w5 HU5.out.1.row (fun g off e => (HU5.out.1.far g off e).2.2))
        go_upto_region 12 with (first
          | (refine wpList_ldr (xs := dvC (.slice A N c) dd) _ rfl rfl rfl Try.underlying34 rfl dv_size HL.out HU5.out.1.box.rng0 ?_)
          | (go_at_call 17; (with_reducible refine HRS5.out.mono ?_); rintro e w6 ⟨A1, c1, rfl, r1, hb, hf⟩; have HR1 := Lib.hid r1; have HB6 := Lib.hid hb; have HF1 := Lib.hid hf; clear r1 hb hf)
          | (refine wpList_stm (pre := []) (post := []) (xs := dvZ) (ys := dvC (.slice A1 N c1) dd1) _ _ rfl rfl rfl rfl dv_size dvZ_len (dv_len HOK1.out) (dv_one _) rfl (by simp) (At.news w6 _ dvZ) ?_; intro w7 A7 T7; rw [List.nil_append, List.append_nil] at A7; have HA7 := Lib.hid A7; have HB7 : Hid (Below w6.heap.size w6 w7) := Lib.hid (((Below.refl _ w6).alloc (Nat.le_refl _) _).trans (T7.below (fun i hi => by unfold Just at hi; omega) (by simp))); clear A7 T7))
        have HL1 := Lib.hid (dv_len (sl := .slice A1 N c1) HOK1.out)
        have HB57 : Hid (Below w5.heap.size w5 w7) := Lib.hid (HB6.out.trans (HB7.out.mono HB6.out.size))
        have HR7 := Lib.hid (HU5.out.1.below HB57.out)
        have HA97 := Lib.hid (at_stay HU5.out.2 HB57.out)
        have HROW7 : Hid (v4K.Reads w7 A1 N c1 dd1.disk) := Lib.hid (HR1.out.kept HB7.out)
        have HF7 : Hid (∀ g off, A1 = some ⟨g, off, none⟩ → g ≠ b4 ∧ g ≠ b6 ∧ g < w7.heap.size) := Lib.hid fun g off e => by
          have hz7 := HB57.out.size
          have hz6 := HB7.out.size
          have hbx := HU5.out.1.box.lt
          have hbo := HU5.out.1.out.lt
          rcases HF1.out g off e with h | h
          · have h1 := HU5.out.1.far g off (h ▸ e)
            exact ⟨h1.1, h1.2.1, by omega⟩
          · exact ⟨by omega, by omega, by omega⟩
        have HAF1 : Hid (∀ g off, A1 = some ⟨g, off, none⟩ → K g ∨ w.heap.size ≤ g) := Lib.hid fun g off e => by
          rcases HF1.out g off e with h | h
          · exact HAF.out g off (h ▸ e)
          · right
            have h1 := HU5.out.1.box.lt
            have h2 := HBS.out
            omega
        have HKA : Hid (∀ i off, A1 = some ⟨i, off, none⟩ → K4 i ∨ (w5.heap.size ≤ i ∧ i < w7.heap.size)) := Lib.hid fun i off e => by
          rcases HF1.out i off e with h | h
          · exact .inl ((HK4.out i).2 (.inl (.inr (.inr (.inr ⟨off, h ▸ e⟩)))))
          · exact .inr ⟨by omega, (HF7.out i off e).2.2⟩
        go_upto_region 13 with (first
          | (refine wpList_ldr (xs := dvC (.slice A1 N c1) dd1) _ rfl rfl rfl Try.underlying34 rfl dv_size HL1.out HA7.out.rng0 ?_)
          | (refine wpList_stm (pre := []) (post := []) (xs := dvC (.slice A N c) dd) (ys := dvC (.slice A1 N c1) dd1) _ _ rfl rfl rfl rfl dv_size HL.out HL1.out (dv_one _) rfl (by simp) HR7.out.box ?_; intro w8 A8 T8; rw [List.nil_append, List.append_nil] at A8; have HA8 := Lib.hid A8; have HT8 := Lib.hid T8; clear A8 T8))
        simp only [Act.put, List.setIfInBounds_toArray, List.set_cons_zero, List.set_cons_succ]
        have HR8 := Lib.hid (HR7.out.store HA8.out HT8.out HROW7.out HF7.out H46.out H94.out.2.2.2)
        have HP7 : Hid (PdAt D q (fun i => K4 i ∨ ∃ off, A1 = some ⟨i, off, none⟩) d1 a1 w7) := Lib.hid (HP5.out.move HD.out (S := NoBlock) (fun _ e => e.elim) (Turned.of_below HB57.out (Nat.le_refl _) _) (fun i e => by
          rcases e with e | ⟨off, e⟩
          · exact ⟨.inl e, by have := HP5.out.kin HD.out i e; have := HB57.out.size; omega⟩
          · have hz := HB57.out.size
            rcases HKA.out i off e with h | h
            · exact ⟨.inl h, by have := HP5.out.kin HD.out i h; omega⟩
            · exact ⟨.inr h.1, h.2⟩))
        have HP9 : Hid (PdAt D q (fun i => K4 i ∨ ∃ off, A1 = some ⟨i, off, none⟩) d1 a1 w8) := Lib.hid (HP7.out.move HD.out (S := Just b4) (fun i e => by rw [show i = b4 from e]; exact .inl ((HK4.out _).2 (.inl (.inr (.inl rfl))))) HT8.out (fun i e => ⟨.inl e, by have := HP7.out.kin HD.out i e; have := HT8.out.size; omega⟩))
        clear z0 z1 z2 HB57 HB6 HB7 HA7 HP5 HU5 HR7 HRS HRS5 HS HP7
        have HUP : Hid (∀ nn, Calls Try.prog 15 #[.pointer (some ⟨q, 0, none⟩)] (w8.drewN nn) fun e w' => e = .returned (.bool (U dd1.line == 1)) ∧ w' = w8.drewN nn) := Lib.hid fun nn => by
          have h := up10 (HP9.out.drewN HD.out nn)
          rw [show d1.line = dd1.line by rw [← HD1.out]; rfl] at h
          exact h
        have cl3 : w8.cell? ⟨b4, 3, none⟩ = some (.int .u32 (U dd1.line)) := HR8.out.box.cell 3
        go_upto_region 15 with (fail)
        go_upto_region 17 with (go_quiet ((go_at_call 15; exact Calls.quiet_of_same (HUP.out _))))
        go_wp2
        go_roundw
        case rel =>
          refine ⟨j + 1, A1, c1, d1, a1, by omega, by go_num, by rw [HD1.out]; exact HR8.out.drewN nq, ?_, HI1.out, HN1a.out, HRM1.out, HAF1.out⟩
          exact (HP9.out.drewN HD.out nq).less HD.out (fun i e => by
            rcases e with e | e | e | e
            · exact .inl ((HK4.out i).2 (.inl (.inl e)))
            · exact .inl ((HK4.out i).2 (.inl (.inr (.inl e))))
            · exact .inl ((HK4.out i).2 (.inl (.inr (.inr (.inl e)))))
            · exact .inr e)
        case measure => simp [intOf]; omega
    · have HJN : Hid (j = n) := Lib.hid (by omega)
      have hge : ¬ (j : Int) < n := by omega
      have HOK := Lib.hid (doc_ok HF.out HD.out HPD.out)
      have HL := Lib.hid (dv_len (sl := .slice A N c) HOK.out)
      have hnb4 : Hid (b4 ≠ b6) := Lib.hid (by have := HBS.out; omega)
      go_wp2_with (first
        | (refine wpList_ldr (xs := dvC (.slice A N c) (docOf view d a)) _ rfl rfl rfl Try.underlying34 rfl dv_size HL.out HRB.out.box.rng0 ?_)
        | (refine wpList_stm (pre := []) (post := []) (xs := dvZ) (ys := dvC (.slice A N c) (docOf view d a)) _ _ rfl rfl rfl rfl dv_size dvZ_len HL.out (dv_one _) rfl (by simp) HRB.out.out ?_; intro w8 A8 T8; rw [List.nil_append, List.append_nil] at A8; have HA8 := Lib.hid A8; have HT8 := Lib.hid T8; clear A8 T8))
      refine bodyPost_ret (res_dev_bool Try.results11 _ rfl rfl HA8.out HL.out) rfl ?_
      refine ⟨A, c, d, a, rfl, ?_, HI.out, HRB.out.row.turned HT8.out (fun g off e e2 => (HRB.out.far g off e).2.1 e2), HAF.out, HRB.out.turned.after HT8.out (fun i hi e => by have h1 := HBS.out; rw [show i = b6 from e] at hi; omega)⟩
      exact (HPD.out.move HD.out (S := Just b6) (K' := KR10 K b4 b6 A) (fun i e => .inr (.inr (.inl e))) HT8.out (fun i e => ⟨.inl e, by have := HPD.out.kin HD.out i e; have := HT8.out.size; omega⟩)).less HD.out (fun i e => e.elim .inl (fun h => .inr (.inr (.inr h))))
end
end Go.Proofs.Ytpkkejdjhnmjiaa
