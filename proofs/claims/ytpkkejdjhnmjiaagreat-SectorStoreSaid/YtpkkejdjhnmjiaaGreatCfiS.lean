/- A flash and its chip as a statement's walk has them: their two places, the plain flash, and a base below which nothing of theirs lies; each call's contract over that. | A flash and its chip in a walk, where some blocks are to be kept: the contracts of their calls over that. -/
import Derived.Test.YtpkkejdjhnmjiaaGreatCfiB
import Derived.Test.YtpkkejdjhnmjiaaGreatNorLawM
namespace Go.Proofs.YtpkkejdjhnmjiaaGreat
open Go.RowKit Bm
structure St (B p f : Nat) (m : FlashM) (w : World) : Prop where
  ex : ∃ h : Fh, h.c.p = p ∧ h.f = f ∧ FlashAt w h m ∧ ∀ i, h.own i → B ≤ i
  size : B ≤ w.heap.size
def StOut (B p f : Nat) (m : FlashM) (v : Value) (w : World) (e : Ending) (w' : World) : Prop := e = .returned v ∧ St B p f m w' ∧ Below B w w'
section
variable {B p f k : Nat} {m : FlashM} {w w' : World}
theorem St.below (s : St B p f m w) (hB : Below w.heap.size w w') : St B p f m w' := by
  obtain ⟨⟨h, hp, hf, x, ho⟩, hs⟩ := s
  exact ⟨⟨h, hp, hf, x.below hB (Nat.le_refl _), ho⟩, Nat.le_trans hs hB.size⟩
theorem St.kept (s : St B p f m w) {S : Nat → Prop} (t : Turned S w w') (hS : ∀ i, i < w.heap.size → ¬ S i) : St B p f m w' := by
  obtain ⟨⟨h, hp, hf, x, ho⟩, hs⟩ := s
  exact ⟨⟨h, hp, hf, x.kept t hS, ho⟩, Nat.le_trans hs t.size⟩
theorem St.drewN (s : St B p f m w) (n : Nat) : St B p f m (w.drewN n) := by
  obtain ⟨⟨h, hp, hf, x, ho⟩, hs⟩ := s
  exact ⟨⟨h, hp, hf, x.drewN n, ho⟩, hs⟩
theorem St.alloc (s : St B p f m w) (o : Obj) : St B p f m (w.alloc o) := s.below ((Below.refl _ w).alloc (Nat.le_refl _) o)
theorem below_drewN (B : Nat) (w : World) (n : Nat) : Below B w (w.drewN n) := ⟨rfl, rfl, rfl, Nat.le_refl _, fun _ _ => rfl⟩
theorem St.write (s : St B p f m w) (ok : FlashOk k m) (a : Int) (v : BitVec 32) :
    Calls Tryz.prog 78 #[.pointer (some ⟨f, 0, none⟩), .int .i64 a, .int .u32 (U v)] w (StOut B p f (fWrite m a v).1 (.int .i64 (fWrite m a v).2) w) := by
  obtain ⟨⟨h, rfl, rfl, x, ho⟩, hs⟩ := s
  refine (fwrite_any h m k a v w x ok).mono ?_
  rintro e w' ⟨rfl, j1, j2, j3, x', t⟩
  exact ⟨rfl, ⟨⟨{ h with j1 := j1, j2 := j2, j3 := j3 }, rfl, rfl, x', ho⟩, Nat.le_trans hs t.size⟩, t.below ho hs⟩
theorem St.tick (s : St B p f m w) (ok : FlashOk k m) (n : Int) (b0 : -9223372036854775808 ≤ n) (b1 : n ≤ 9223372036854775807) :
    Calls Tryz.prog 102 #[.pointer (some ⟨f, 0, none⟩), .int .i64 n] w (StOut B p f (fTick m n).1 (.int .i64 (fTick m n).2) w) := by
  obtain ⟨⟨h, rfl, rfl, x, ho⟩, hs⟩ := s
  refine (ftick_any h m k n w x ok b0 b1).mono ?_
  rintro e w' ⟨rfl, x', t⟩
  exact ⟨rfl, ⟨⟨h, rfl, rfl, x', ho⟩, Nat.le_trans hs t.size⟩, t.below ho hs⟩
theorem St.read (s : St B p f m w) (ok : FlashOk k m) (a : Int) :
    Calls Tryz.prog 80 #[.pointer (some ⟨f, 0, none⟩), .int .i64 a] w (StOut B p f m (.tuple #[.int .u32 (U (fRead m a).1), .int .i64 (fRead m a).2]) w) := by
  have s0 := s
  obtain ⟨⟨h, rfl, rfl, x, ho⟩, hs⟩ := s
  refine (fread_any h m k a w x ok).mono ?_
  rintro e w' ⟨rfl, n, rfl⟩
  exact ⟨rfl, s0.drewN n, below_drewN _ _ _⟩
theorem St.status (s : St B p f m w) (ok : FlashOk k m) :
    Calls Tryz.prog 96 #[.pointer (some ⟨f, 0, none⟩)] w fun e w' => e = .returned (.int .u32 (U (fStatus m))) ∧ w' = w := by
  obtain ⟨⟨h, rfl, rfl, x, ho⟩, hs⟩ := s
  exact status_any h m k w x ok
theorem St.program (s : St B p f m w) (ok : FlashOk k m) (a : Int) (v : BitVec 32) :
    Calls Tryz.prog 114 #[.pointer (some ⟨p, 0, none⟩), .int .i64 a, .int .u32 (U v)] w (StOut B p f { m with chip := (mProgram m.chip a v).1 } (.int .i64 (mProgram m.chip a v).2) w) := by
  obtain ⟨⟨h, rfl, rfl, x, ho⟩, hs⟩ := s
  refine (program_any h.c m.chip k a v w x.chip ok.chip).mono ?_
  rintro e w' ⟨rfl, hc, t⟩
  exact ⟨rfl, ⟨⟨h, rfl, rfl, x.chipTo t hc, ho⟩, Nat.le_trans hs t.size⟩, t.below (fun i e => ho i (.inl e)) hs⟩
end
theorem newOk (k : Nat) (endure : Int) (k1 : 1 ≤ k) (k2 : k ≤ 64) (e0 : 0 ≤ endure) (e1 : endure ≤ 9223372036854775807) : FlashOk k (fNew (mNew k endure)) :=
  FlashOk.new (ChipOk.of _ k endure k1 k2 (by simp) e0 e1)
end Go.Proofs.YtpkkejdjhnmjiaaGreat
namespace Go.Proofs.YtpkkejdjhnmjiaaGreat
open Go.RowKit Bm
def May (B : Nat) (K : Nat → Prop) (i : Nat) : Prop := B ≤ i ∧ ¬ K i
structure StK (B p f : Nat) (K : Nat → Prop) (m : FlashM) (w : World) : Prop where
  ex : ∃ h : Fh, h.c.p = p ∧ h.f = f ∧ FlashAt w h m ∧ ∀ i, h.own i → May B K i
  size : B ≤ w.heap.size
  kin : ∀ i, K i → i < w.heap.size
def StKOut (B p f : Nat) (K : Nat → Prop) (m : FlashM) (v : Value) (w : World) (e : Ending) (w' : World) : Prop := e = .returned v ∧ StK B p f K m w' ∧ Turned (May B K) w w'
section
variable {B p f k : Nat} {K : Nat → Prop} {m : FlashM} {w w' : World}
theorem St.toK (s : St B p f m w) : StK B p f NoBlock m w := by
  obtain ⟨⟨h, hp, hf, x, ho⟩, hs⟩ := s
  exact ⟨⟨h, hp, hf, x, fun i hi => ⟨ho i hi, fun h => h⟩⟩, hs, fun i hi => hi.elim⟩
theorem FlashAt.own_lt {h : Fh} (x : FlashAt w h m) {i : Nat} (hi : h.own i) : i < w.heap.size := by
  rcases hi with hi | rfl | rfl
  · exact x.c_lt hi
  · exact x.own.lt
  · exact x.locks.lt
theorem StK.st (s : StK B p f K m w) : St B p f m w := by
  obtain ⟨⟨h, hp, hf, x, ho⟩, hs, _⟩ := s
  exact ⟨⟨h, hp, hf, x, fun i hi => (ho i hi).1⟩, hs⟩
theorem StK.below (s : StK B p f K m w) (hB : Below w.heap.size w w') : StK B p f K m w' := by
  obtain ⟨⟨h, hp, hf, x, ho⟩, hs, hk⟩ := s
  exact ⟨⟨h, hp, hf, x.below hB (Nat.le_refl _), ho⟩, Nat.le_trans hs hB.size, fun i hi => Nat.lt_of_lt_of_le (hk i hi) hB.size⟩
theorem StK.drewN (s : StK B p f K m w) (n : Nat) : StK B p f K m (w.drewN n) := s.below (below_drewN _ _ _)
theorem StK.alloc (s : StK B p f K m w) (o : Obj) : StK B p f K m (w.alloc o) := s.below ((Below.refl _ w).alloc (Nat.le_refl _) o)
def Alien (t : TypeId) : Prop := t ≠ 112 ∧ t ≠ 36 ∧ t ≠ 3 ∧ t ≠ 98 ∧ t ≠ 54
theorem FlashAt.other {h : Fh} (x : FlashAt w h m) {b : Nat} {T : TypeId} {cs : List Value} (hA : At w b T cs) (hT : Alien T) (t : Turned (Just b) w w') : FlashAt w' h m := by
  obtain ⟨t1, t2, t3, t4, t5⟩ := hT
  have far : ∀ {g : Nat} {T' : TypeId} {cs' : List Value}, At w g T' cs' → T ≠ T' → At w' g T' cs' := fun hg hne => hg.kept t fun e => hA.ne hg hne e.symm
  refine ⟨⟨far x.chip.own t1, far x.chip.words t2, far x.chip.wear t3, x.chip.room, x.chip.cap⟩, far x.own t4, x.locks.kept t (fun e => x.locks.ne_cells hA e.symm), ⟨fun j => ?_, fun j => ?_⟩⟩
  · obtain ⟨a, b, c, d⟩ := x.job.prog j
    exact ⟨far a t5, far b t3, far c t2, d⟩
  · obtain ⟨a, b, d⟩ := x.job.erase j
    exact ⟨far a t5, far b t3, d⟩
theorem StK.other (s : StK B p f K m w) {b : Nat} {T : TypeId} {cs : List Value} (hA : At w b T cs) (hT : Alien T) (t : Turned (Just b) w w') : StK B p f K m w' := by
  obtain ⟨⟨h, hp, hf, x, ho⟩, hs, hk⟩ := s
  exact ⟨⟨h, hp, hf, x.other hA hT t, ho⟩, Nat.le_trans hs t.size, fun i hi => Nat.lt_of_lt_of_le (hk i hi) t.size⟩
theorem StK.less (s : StK B p f K m w) {K' : Nat → Prop} (h : ∀ i, K' i → K i) : StK B p f K' m w := by
  obtain ⟨⟨hh, hp, hf, x, ho⟩, hs, hk⟩ := s
  exact ⟨⟨hh, hp, hf, x, fun i hi => ⟨(ho i hi).1, fun e => (ho i hi).2 (h i e)⟩⟩, hs, fun i hi => hk i (h i hi)⟩
theorem StK.more (s : StK B p f K m w) (hB : Below w.heap.size w w') (g : Nat) (h1 : w.heap.size ≤ g) (h2 : g < w'.heap.size) : StK B p f (fun i => K i ∨ i = g) m w' := by
  obtain ⟨⟨h, hp, hf, x, ho⟩, hs, hk⟩ := s
  exact ⟨⟨h, hp, hf, x.below hB (Nat.le_refl _), fun i hi => ⟨(ho i hi).1, fun e => by
    rcases e with e | e
    · exact (ho i hi).2 e
    · have := x.own_lt hi
      omega⟩⟩, Nat.le_trans hs hB.size, fun i hi => by
    rcases hi with e | rfl
    · exact Nat.lt_of_lt_of_le (hk i e) hB.size
    · exact h2⟩
theorem StK.renew {K' : Nat → Prop} (s : StK B p f K m w) (hb : Below w.heap.size w w') (h : ∀ i, K' i → (K i ∨ w.heap.size ≤ i) ∧ i < w'.heap.size) : StK B p f K' m w' := by
  obtain ⟨⟨h0, hp, hf, x, ho⟩, hs, hk⟩ := s
  exact ⟨⟨h0, hp, hf, x.below hb (Nat.le_refl _), fun i hi => ⟨(ho i hi).1, fun e => by
    rcases (h i e).1 with e | e
    · exact (ho i hi).2 e
    · have := x.own_lt hi
      omega⟩⟩, Nat.le_trans hs hb.size, fun i hi => (h i hi).2⟩
theorem StK.write (s : StK B p f K m w) (ok : FlashOk k m) (a : Int) (v : BitVec 32) :
    Calls Tryz.prog 78 #[.pointer (some ⟨f, 0, none⟩), .int .i64 a, .int .u32 (U v)] w (StKOut B p f K (fWrite m a v).1 (.int .i64 (fWrite m a v).2) w) := by
  obtain ⟨⟨h, rfl, rfl, x, ho⟩, hs, hk⟩ := s
  refine (fwrite_any h m k a v w x ok).mono ?_
  rintro e w' ⟨rfl, j1, j2, j3, x', t⟩
  exact ⟨rfl, ⟨⟨{ h with j1 := j1, j2 := j2, j3 := j3 }, rfl, rfl, x', ho⟩, Nat.le_trans hs t.size, fun i hi => Nat.lt_of_lt_of_le (hk i hi) t.size⟩, t.mono fun i _ hi => ho i hi⟩
theorem StK.tick (s : StK B p f K m w) (ok : FlashOk k m) (n : Int) (b0 : -9223372036854775808 ≤ n) (b1 : n ≤ 9223372036854775807) :
    Calls Tryz.prog 102 #[.pointer (some ⟨f, 0, none⟩), .int .i64 n] w (StKOut B p f K (fTick m n).1 (.int .i64 (fTick m n).2) w) := by
  obtain ⟨⟨h, rfl, rfl, x, ho⟩, hs, hk⟩ := s
  refine (ftick_any h m k n w x ok b0 b1).mono ?_
  rintro e w' ⟨rfl, x', t⟩
  exact ⟨rfl, ⟨⟨h, rfl, rfl, x', ho⟩, Nat.le_trans hs t.size, fun i hi => Nat.lt_of_lt_of_le (hk i hi) t.size⟩, t.mono fun i _ hi => ho i hi⟩
theorem StK.read (s : StK B p f K m w) (ok : FlashOk k m) (a : Int) :
    Calls Tryz.prog 80 #[.pointer (some ⟨f, 0, none⟩), .int .i64 a] w (Said2 (fRead m a) w) := by
  obtain ⟨⟨h, rfl, rfl, x, ho⟩, hs, hk⟩ := s
  exact fread_any h m k a w x ok
end
end Go.Proofs.YtpkkejdjhnmjiaaGreat
