/- Contracts of package driver: the steps of Program, Erase, Lock in their order. -/
import Derived.Test.YtfckgfimmoinmaaDrvP3
namespace Go.Proofs.Ytfckgfimmoinmaa
open Go.RowKit Bm

/-- The blocks of K, and the seven that the steps of a call lie in. -/
def KN (K : Nat → Prop) (N : Nat) (i : Nat) : Prop := K i ∨ (N ≤ i ∧ i < N + 7)

/-- Between two steps of a call. -/
structure Mid (B p f q k : Nat) (K : Nat → Prop) (N : Nat) (w0 : World) (cs : List Value) (a x1 x2 : Int) (d : DrvM) (w : World) : Prop where
  dv : Dv B p f q k (KN K N) d w
  row : At w (N + 6) 83 cs
  one : WrAt w q N a x1
  two : WrAt w q (N + 3) a x2
  t : Turned (May B K) w0 w
  hN : B ≤ N

section
variable {B p f q k N : Nat} {K : Nat → Prop} {d d' : DrvM} {w0 w w' : World} {cs : List Value} {a x1 x2 : Int}
theorem kn_not {i : Nat} (h1 : N ≤ i) (h2 : i < N + 7) : ¬ May B (KN K N) i := fun e => e.2 (.inr ⟨h1, h2⟩)
theorem Mid.next (s : Mid B p f q k K N w0 cs a x1 x2 d w) (s' : Dv B p f q k (KN K N) d' w') (t : Turned (May B (KN K N)) w w') : Mid B p f q k K N w0 cs a x1 x2 d' w' :=
  ⟨s', s.row.kept t (kn_not (by omega) (by omega)), s.one.kept t (kn_not (by omega) (by omega)) (kn_not (by omega) (by omega)) (kn_not (by omega) (by omega)),
   s.two.kept t (kn_not (by omega) (by omega)) (kn_not (by omega) (by omega)) (kn_not (by omega) (by omega)), s.t.trans (may_less t (fun i h => .inl h)), s.hN⟩
theorem Mid.start (s : Dv B p f q k K d w) (cs : List Value) (a x1 x2 : Int) :
    Mid B p f q k K w.heap.size w cs a x1 x2 d ((wrW (wrW w (.pointer (some ⟨q, 0, none⟩)) a x1) (.pointer (some ⟨q, 0, none⟩)) a x2).alloc (.cells cs.toArray 83)) := by
  have b1 := wrW_below w (.pointer (some ⟨q, 0, none⟩)) a x1
  have z1 := wrW_size w (.pointer (some ⟨q, 0, none⟩)) a x1
  have a1 := wrW_at (q := q) w a x1
  obtain ⟨w1, h1⟩ : ∃ w1, w1 = wrW w (.pointer (some ⟨q, 0, none⟩)) a x1 := ⟨_, rfl⟩
  rw [← h1] at b1 z1 a1 ⊢
  have b2 := wrW_below w1 (.pointer (some ⟨q, 0, none⟩)) a x2
  have z2 := wrW_size w1 (.pointer (some ⟨q, 0, none⟩)) a x2
  have a2 := wrW_at (q := q) w1 a x2
  obtain ⟨w2, h2⟩ : ∃ w2, w2 = wrW w1 (.pointer (some ⟨q, 0, none⟩)) a x2 := ⟨_, rfl⟩
  rw [← h2] at b2 z2 a2 ⊢
  have b3 := (Below.refl w2.heap.size w2).alloc (Nat.le_refl _) (.cells cs.toArray 83)
  have bb : Below w.heap.size w (w2.alloc (.cells cs.toArray 83)) := (b1.trans (b2.mono b1.size)).trans (b3.mono (by omega))
  rw [z1] at a2
  refine ⟨s.renew bb ?_, ?_, (a1.below b2).below b3, a2.below b3, Turned.of_below bb (Nat.le_refl _) _, s.size⟩
  · rintro i (e | ⟨e1, e2⟩)
    · exact ⟨.inl e, by have := s.st.kin i (.inl e); have := bb.size; omega⟩
    · exact ⟨.inr e1, by rw [World.size_alloc]; omega⟩
  · exact At.alloc_new _ _ _ (by omega) rfl

/-- What the first two steps come to, and what is left to be done: to wait and to check, or to check. -/
structure Puts (k : Nat) (d : DrvM) (a : Int) (c1 c2 : BitVec 32) (r : DrvM × Int) (H : FlashM → Prop) : Prop where
  ok : FlashOk k d.f
  r1 : (fWrite d.f a c1).2 ≠ 0 → r = (⟨(fWrite d.f a c1).1, d.t⟩, (fWrite d.f a c1).2)
  r2 : (fWrite d.f a c1).2 = 0 → (fWrite (fWrite d.f a c1).1 a c2).2 ≠ 0 → r = (⟨(fWrite (fWrite d.f a c1).1 a c2).1, d.t⟩, (fWrite (fWrite d.f a c1).1 a c2).2)
  r3 : (fWrite d.f a c1).2 = 0 → (fWrite (fWrite d.f a c1).1 a c2).2 = 0 → H (fWrite (fWrite d.f a c1).1 a c2).1
/-- .. to wait and to check. -/
def HWait (k : Nat) (t : Int) (r : DrvM × Int) (m : FlashM) : Prop := WaitOk k m ∧ 0 ≤ t ∧ t + m.left ≤ 1000000000000000 ∧ r = dWait ⟨m, t⟩
/-- .. to check. -/
def HCheck (k : Nat) (t : Int) (r : DrvM × Int) (m : FlashM) : Prop := WaitOk k m ∧ m.job = 0 ∧ r = (⟨(dCheck m).1, t⟩, (dCheck m).2)

/-- The end of a call. -/
def MidEnd (B p f q k : Nat) (K : Nat → Prop) (N : Nat) (w0 : World) (r : DrvM × Int) (n : Int) (w : World) : Prop := r.2 = n ∧ Dv B p f q k (KN K N) r.1 w ∧ Turned (May B K) w0 w
theorem MidEnd.out {r : DrvM × Int} {n : Int} (h : MidEnd B p f q k K N w0 r n w) : DvOut B p f q k K r.1 (.int .i64 r.2) w0 (.returned (.int .i64 n)) w :=
  ⟨by rw [h.1], h.2.1.less (fun i e => .inl e), h.2.2⟩

section
variable {c1 c2 : BitVec 32} {r : DrvM × Int} {H : FlashM → Prop}
theorem Mid.first (s : Mid B p f q k K N w0 cs a x1 x2 d w) (h : Puts k d a c1 c2 r H) (e1 : U c1 = x1) :
    Calls Try.prog 54 (wrA N) w (Ends (fun w' => (fWrite d.f a c1).2 = 0 ∧ Mid B p f q k K N w0 cs a x1 x2 ⟨(fWrite d.f a c1).1, d.t⟩ w') (MidEnd B p f q k K N w0 r)) := by
  refine (s.dv.wstep h.ok N a x1 c1 e1 s.one).mono ?_
  rintro e w' ⟨rfl, s', t⟩
  have n := s.next s' t
  exact ⟨_, rfl, fun h0 => ⟨h0, n⟩, fun h0 => by rw [h.r1 h0]; exact ⟨rfl, n.dv, n.t⟩⟩
theorem Mid.second (s : Mid B p f q k K N w0 cs a x1 x2 ⟨(fWrite d.f a c1).1, d.t⟩ w) (z : (fWrite d.f a c1).2 = 0) (h : Puts k d a c1 c2 r H) (e2 : U c2 = x2) :
    Calls Try.prog 54 (wrA (N + 3)) w (Ends (fun w' => ∃ m, H m ∧ Mid B p f q k K N w0 cs a x1 x2 ⟨m, d.t⟩ w') (MidEnd B p f q k K N w0 r)) := by
  refine (s.dv.wstep (h.ok.write a c1) (N + 3) a x2 c2 e2 s.two).mono ?_
  rintro e w' ⟨rfl, s', t⟩
  have n := s.next s' t
  exact ⟨_, rfl, fun h0 => ⟨_, h.r3 z h0, n⟩, fun h0 => by rw [h.r2 z h0]; exact ⟨rfl, n.dv, n.t⟩⟩
theorem Mid.wait {m : FlashM} {t : Int} (s : Mid B p f q k K N w0 cs a x1 x2 ⟨m, t⟩ w) (h : HWait k t r m) :
    Calls Try.prog 42 #[.pointer (some ⟨q, 0, none⟩)] w (Ends (fun w' => ∃ m t', HCheck k t' r m ∧ Mid B p f q k K N w0 cs a x1 x2 ⟨m, t'⟩ w') (MidEnd B p f q k K N w0 r)) := by
  obtain ⟨h1, h2, h3, h4⟩ := h
  refine (s.dv.wait h1 h2 h3).mono ?_
  rintro e w' ⟨d', n, rfl, s', tt, k0, k1⟩
  have n := s.next s' tt
  refine ⟨_, rfl, fun h0 => ?_, fun h0 => ?_⟩
  · obtain ⟨g1, g2, g3⟩ := k0 h0
    exact ⟨d'.f, d'.t, ⟨g1, g2, h4.trans g3⟩, n⟩
  · rw [h4, k1 h0]
    exact ⟨rfl, n.dv, n.t⟩
theorem Mid.check {m : FlashM} {t : Int} (s : Mid B p f q k K N w0 cs a x1 x2 ⟨m, t⟩ w) (h : HCheck k t r m) :
    Calls Try.prog 43 #[.pointer (some ⟨q, 0, none⟩)] w (Ends (MidEnd B p f q k K N w0 r 0) (MidEnd B p f q k K N w0 r)) := by
  obtain ⟨h1, h2, h3⟩ := h
  refine (s.dv.check h1 h2).mono ?_
  rintro e w' ⟨rfl, s', tt⟩
  have n := s.next s' tt
  rw [h3]
  exact ⟨_, rfl, fun h0 => ⟨h0, n.dv, n.t⟩, fun h0 => ⟨rfl, n.dv, n.t⟩⟩
end

/-- The values of the steps. -/
def cs4 (n1 n2 q : Nat) : List Value := [.func (.func 54) #[] (wrA n1), .func (.func 54) #[] (wrA n2), .func (.func 42) #[.pointer (some ⟨q, 0, none⟩)] #[], .func (.func 43) #[.pointer (some ⟨q, 0, none⟩)] #[]]
def cs3 (n1 n2 q : Nat) : List Value := [.func (.func 54) #[] (wrA n1), .func (.func 54) #[] (wrA n2), .func (.func 43) #[.pointer (some ⟨q, 0, none⟩)] #[]]
def sp4 (n1 n2 q : Nat) : List Sp := [⟨54, wrA n1⟩, ⟨54, wrA n2⟩, ⟨42, #[.pointer (some ⟨q, 0, none⟩)]⟩, ⟨43, #[.pointer (some ⟨q, 0, none⟩)]⟩]
def sp3 (n1 n2 q : Nat) : List Sp := [⟨54, wrA n1⟩, ⟨54, wrA n2⟩, ⟨43, #[.pointer (some ⟨q, 0, none⟩)]⟩]
theorem four_lt {j : Nat} {α : Type} {s : α} {a b c d : α} (h : [a, b, c, d][j]? = some s) : (j = 0 ∧ s = a) ∨ (j = 1 ∧ s = b) ∨ (j = 2 ∧ s = c) ∨ (j = 3 ∧ s = d) := by
  match j with
  | 0 => simp at h; exact .inl ⟨rfl, h.symm⟩
  | 1 => simp at h; exact .inr (.inl ⟨rfl, h.symm⟩)
  | 2 => simp at h; exact .inr (.inr (.inl ⟨rfl, h.symm⟩))
  | 3 => simp at h; exact .inr (.inr (.inr ⟨rfl, h.symm⟩))
  | n + 4 => simp at h
theorem three_lt {j : Nat} {α : Type} {s : α} {a b c : α} (h : [a, b, c][j]? = some s) : (j = 0 ∧ s = a) ∨ (j = 1 ∧ s = b) ∨ (j = 2 ∧ s = c) := by
  match j with
  | 0 => simp at h; exact .inl ⟨rfl, h.symm⟩
  | 1 => simp at h; exact .inr (.inl ⟨rfl, h.symm⟩)
  | 2 => simp at h; exact .inr (.inr ⟨rfl, h.symm⟩)
  | n + 3 => simp at h
theorem sp4_is {n1 n2 q : Nat} (i : Nat) (s : Sp) (h : (sp4 n1 n2 q)[i]? = some s) : ∃ v, (cs4 n1 n2 q)[i]? = some v ∧ s.IsV v := by
  rcases four_lt h with ⟨rfl, rfl⟩ | ⟨rfl, rfl⟩ | ⟨rfl, rfl⟩ | ⟨rfl, rfl⟩
  · exact ⟨_, rfl, .inl ⟨.inl rfl, rfl⟩⟩
  · exact ⟨_, rfl, .inl ⟨.inl rfl, rfl⟩⟩
  · exact ⟨_, rfl, .inr ⟨.inl rfl, rfl⟩⟩
  · exact ⟨_, rfl, .inr ⟨.inr rfl, rfl⟩⟩
theorem sp3_is {n1 n2 q : Nat} (i : Nat) (s : Sp) (h : (sp3 n1 n2 q)[i]? = some s) : ∃ v, (cs3 n1 n2 q)[i]? = some v ∧ s.IsV v := by
  rcases three_lt h with ⟨rfl, rfl⟩ | ⟨rfl, rfl⟩ | ⟨rfl, rfl⟩
  · exact ⟨_, rfl, .inl ⟨.inl rfl, rfl⟩⟩
  · exact ⟨_, rfl, .inl ⟨.inl rfl, rfl⟩⟩
  · exact ⟨_, rfl, .inr ⟨.inr rfl, rfl⟩⟩

/-- Two writes, a wait, a check. -/
theorem Dv.four (s : Dv B p f q k K d w) {c1 c2 : BitVec 32} {r : DrvM × Int} (h : Puts k d a c1 c2 r (HWait k d.t r)) (e1 : U c1 = x1) (e2 : U c2 = x2) :
    Calls Try.prog 40 #[.slice (some ⟨(wrW (wrW w (.pointer (some ⟨q, 0, none⟩)) a x1) (.pointer (some ⟨q, 0, none⟩)) a x2).heap.size, 0, none⟩) 4 4]
      ((wrW (wrW w (.pointer (some ⟨q, 0, none⟩)) a x1) (.pointer (some ⟨q, 0, none⟩)) a x2).alloc (.cells (cs4 w.heap.size (wrW w (.pointer (some ⟨q, 0, none⟩)) a x1).heap.size q).toArray 83)) (DvOut B p f q k K r.1 (.int .i64 r.2) w) := by
  have m0 := Mid.start s (cs4 w.heap.size (wrW w (.pointer (some ⟨q, 0, none⟩)) a x1).heap.size q) a x1 x2
  rw [wrW_size, wrW_size]
  rw [wrW_size] at m0
  refine (inOrder_any (w.heap.size + 3 + 3) (sp4 w.heap.size (w.heap.size + 3) q) (cs4 w.heap.size (w.heap.size + 3) q)
    (fun i w' => match i with
      | 0 => Mid B p f q k K w.heap.size w (cs4 w.heap.size (w.heap.size + 3) q) a x1 x2 d w'
      | 1 => (fWrite d.f a c1).2 = 0 ∧ Mid B p f q k K w.heap.size w (cs4 w.heap.size (w.heap.size + 3) q) a x1 x2 ⟨(fWrite d.f a c1).1, d.t⟩ w'
      | 2 => ∃ m, HWait k d.t r m ∧ Mid B p f q k K w.heap.size w (cs4 w.heap.size (w.heap.size + 3) q) a x1 x2 ⟨m, d.t⟩ w'
      | 3 => ∃ m t', HCheck k t' r m ∧ Mid B p f q k K w.heap.size w (cs4 w.heap.size (w.heap.size + 3) q) a x1 x2 ⟨m, t'⟩ w'
      | 4 => MidEnd B p f q k K w.heap.size w r 0 w'
      | _ => False)
    (MidEnd B p f q k K w.heap.size w r) _ (Nat.le_refl 4) sp4_is ?_ ?_ (fun w h => h) m0).mono ?_
  · intro i w' hi h
    match i, h with
    | 0, h => exact h.row
    | 1, h => exact h.2.row
    | 2, ⟨m, _, h⟩ => exact h.row
    | 3, ⟨m, t, _, h⟩ => exact h.row
    | n + 4, _ => exact absurd hi (by simp [sp4])
  · intro i sp w' hsp hs
    rcases four_lt hsp with ⟨rfl, rfl⟩ | ⟨rfl, rfl⟩ | ⟨rfl, rfl⟩ | ⟨rfl, rfl⟩
    · exact hs.first h e1
    · exact hs.2.second hs.1 h e2
    · obtain ⟨m, h1, h2⟩ := hs
      exact h2.wait h1
    · obtain ⟨m, t', h1, h2⟩ := hs
      exact h2.check h1
  · rintro e w' ⟨n, rfl, h⟩
    exact h.out

/-- Two writes, a check. -/
theorem Dv.three (s : Dv B p f q k K d w) {c1 c2 : BitVec 32} {r : DrvM × Int} (h : Puts k d a c1 c2 r (HCheck k d.t r)) (e1 : U c1 = x1) (e2 : U c2 = x2) :
    Calls Try.prog 40 #[.slice (some ⟨(wrW (wrW w (.pointer (some ⟨q, 0, none⟩)) a x1) (.pointer (some ⟨q, 0, none⟩)) a x2).heap.size, 0, none⟩) 3 3]
      ((wrW (wrW w (.pointer (some ⟨q, 0, none⟩)) a x1) (.pointer (some ⟨q, 0, none⟩)) a x2).alloc (.cells (cs3 w.heap.size (wrW w (.pointer (some ⟨q, 0, none⟩)) a x1).heap.size q).toArray 83)) (DvOut B p f q k K r.1 (.int .i64 r.2) w) := by
  have m0 := Mid.start s (cs3 w.heap.size (wrW w (.pointer (some ⟨q, 0, none⟩)) a x1).heap.size q) a x1 x2
  rw [wrW_size, wrW_size]
  rw [wrW_size] at m0
  refine (inOrder_any (w.heap.size + 3 + 3) (sp3 w.heap.size (w.heap.size + 3) q) (cs3 w.heap.size (w.heap.size + 3) q)
    (fun i w' => match i with
      | 0 => Mid B p f q k K w.heap.size w (cs3 w.heap.size (w.heap.size + 3) q) a x1 x2 d w'
      | 1 => (fWrite d.f a c1).2 = 0 ∧ Mid B p f q k K w.heap.size w (cs3 w.heap.size (w.heap.size + 3) q) a x1 x2 ⟨(fWrite d.f a c1).1, d.t⟩ w'
      | 2 => ∃ m, HCheck k d.t r m ∧ Mid B p f q k K w.heap.size w (cs3 w.heap.size (w.heap.size + 3) q) a x1 x2 ⟨m, d.t⟩ w'
      | 3 => MidEnd B p f q k K w.heap.size w r 0 w'
      | _ => False)
    (MidEnd B p f q k K w.heap.size w r) _ (by show 3 ≤ 4; omega) sp3_is ?_ ?_ (fun w h => h) m0).mono ?_
  · intro i w' hi h
    match i, h with
    | 0, h => exact h.row
    | 1, h => exact h.2.row
    | 2, ⟨m, _, h⟩ => exact h.row
    | n + 3, _ => exact absurd hi (by simp [sp3])
  · intro i sp w' hsp hs
    rcases three_lt hsp with ⟨rfl, rfl⟩ | ⟨rfl, rfl⟩ | ⟨rfl, rfl⟩
    · exact hs.first h e1
    · exact hs.2.second hs.1 h e2
    · obtain ⟨m, h1, h2⟩ := hs
      exact h2.check h1
  · rintro e w' ⟨n, rfl, h⟩
    exact h.out
end
end Go.Proofs.Ytfckgfimmoinmaa
