import Derived.Test.YtnfgpjfldgocaaaGreatCfiB
import Derived.Test.YtnfgpjfldgocaaaGreatNorLawM
namespace Go.Proofs.YtnfgpjfldgocaaaGreat
section
open Go.RowKit Bm
structure St (B p f : Nat) (m : FlashM) (w : World) : Prop where
 ex : ∃ h : Fh, h.c.p = p /\ h.f = f /\ FlashAt w h m /\ ∀ i, h.own i -> B <= i
 size : B <= w.heap.size
section
variable {B p f k : Nat} {m : FlashM} {w w' : World}
theorem below_drewN (B : Nat) (w : World) (n : Nat) : Below B w (w.drewN n) := ⟨rfl, rfl, rfl, Nat.le_refl _, fun _ _ => rfl⟩
theorem St.status (s : St B p f m w) (ok : FlashOk k m) :
  Calls Tryz.prog 144 #[.pointer (some ⟨f, 0, none⟩)] w fun e w' => e = .returned (.int .u32 (U (fStatus m))) /\ w' = w := by
 obtain ⟨⟨h, rfl, rfl, x, ho⟩, hs⟩ := s
 exact status_any h m k w x ok
theorem St.up (s : St B p f m w) :
  Calls Tryz.prog 27 #[.pointer (some ⟨p, 0, none⟩)] w fun e w' => e = .returned (.bool m.chip.up) /\ w' = w := by
 obtain ⟨⟨h, rfl, rfl, x, ho⟩, hs⟩ := s
 exact up_any h.c m.chip w x.chip
end
theorem newOk (k : Nat) (endure : Int) (k1 : 1 <= k) (k2 : k <= 64) (e0 : 0 <= endure) (e1 : endure <= 9223372036854775807) : FlashOk k (fNew (mNew k endure)) :=
 FlashOk.new (ChipOk.of _ k endure k1 k2 (by simp) e0 e1)
end
section
open Go.RowKit Bm
def May (B : Nat) (K : Nat -> Prop) (i : Nat) : Prop := B <= i /\ ¬ K i
structure StK (B p f : Nat) (K : Nat -> Prop) (m : FlashM) (w : World) : Prop where
 ex : ∃ h : Fh, h.c.p = p /\ h.f = f /\ FlashAt w h m /\ ∀ i, h.own i -> May B K i
 size : B <= w.heap.size
 kin : ∀ i, K i -> i < w.heap.size
def StKOut (B p f : Nat) (K : Nat -> Prop) (m : FlashM) (v : Value) (w : World) (e : Ending) (w' : World) : Prop := e = .returned v /\ StK B p f K m w' /\ Turned (May B K) w w'
section
variable {B p f k : Nat} {K : Nat -> Prop} {m : FlashM} {w w' : World}
theorem St.toK (s : St B p f m w) : StK B p f NoBlock m w := by
 obtain ⟨⟨h, hp, hf, x, ho⟩, hs⟩ := s
 exact ⟨⟨h, hp, hf, x, fun i hi => ⟨ho i hi, fun h => h⟩⟩, hs, fun i hi => hi.elim⟩
theorem FlashAt.own_lt {h : Fh} (x : FlashAt w h m) {i : Nat} (hi : h.own i) : i < w.heap.size := by
 rcases hi with hi | rfl | rfl
 ·exact x.c_lt hi
 ·exact x.own.lt
 ·exact x.locks.lt
theorem StK.st (s : StK B p f K m w) : St B p f m w := by
 obtain ⟨⟨h, hp, hf, x, ho⟩, hs, _⟩ := s
 exact ⟨⟨h, hp, hf, x, fun i hi => (ho i hi).1⟩, hs⟩
theorem StK.below (s : StK B p f K m w) (hB : Below w.heap.size w w') : StK B p f K m w' := by
 obtain ⟨⟨h, hp, hf, x, ho⟩, hs, hk⟩ := s
 exact ⟨⟨h, hp, hf, x.below hB (Nat.le_refl _), ho⟩, Nat.le_trans hs hB.size, fun i hi => Nat.lt_of_lt_of_le (hk i hi) hB.size⟩
def Alien (t : TypeId) : Prop := t ≠ 97 /\ t ≠ 38 /\ t ≠ 3 /\ t ≠ 120 /\ t ≠ 89
theorem FlashAt.other {h : Fh} (x : FlashAt w h m) {b : Nat} {T : TypeId} {cs : List Value} (hA : At w b T cs) (hT : Alien T) (t : Turned (Just b) w w') : FlashAt w' h m := by
 obtain ⟨t1, t2, t3, t4, t5⟩ := hT
 have far : ∀ {g : Nat} {T' : TypeId} {cs' : List Value}, At w g T' cs' -> T ≠ T' -> At w' g T' cs' := fun hg hne => hg.kept t fun e => hA.ne hg hne e.symm
 refine ⟨⟨far x.chip.own t1, far x.chip.words t2, far x.chip.wear t3, x.chip.room, x.chip.cap⟩, far x.own t4, x.locks.kept t (fun e => x.locks.ne_cells hA e.symm), ⟨fun j => ?_, fun j => ?_⟩⟩
 ·obtain ⟨a, b, c, d⟩ := x.job.prog j
  exact ⟨far a t5, far b t3, far c t2, d⟩
 ·obtain ⟨a, b, d⟩ := x.job.erase j
  exact ⟨far a t5, far b t3, d⟩
theorem StK.other (s : StK B p f K m w) {b : Nat} {T : TypeId} {cs : List Value} (hA : At w b T cs) (hT : Alien T) (t : Turned (Just b) w w') : StK B p f K m w' := by
 obtain ⟨⟨h, hp, hf, x, ho⟩, hs, hk⟩ := s
 exact ⟨⟨h, hp, hf, x.other hA hT t, ho⟩, Nat.le_trans hs t.size, fun i hi => Nat.lt_of_lt_of_le (hk i hi) t.size⟩
theorem StK.less (s : StK B p f K m w) {K' : Nat -> Prop} (h : ∀ i, K' i -> K i) : StK B p f K' m w := by
 obtain ⟨⟨hh, hp, hf, x, ho⟩, hs, hk⟩ := s
 exact ⟨⟨hh, hp, hf, x, fun i hi => ⟨(ho i hi).1, fun e => (ho i hi).2 (h i e)⟩⟩, hs, fun i hi => hk i (h i hi)⟩
theorem StK.more (s : StK B p f K m w) (hB : Below w.heap.size w w') (g : Nat) (h1 : w.heap.size <= g) (h2 : g < w'.heap.size) : StK B p f (fun i => K i \/ i = g) m w' := by
 obtain ⟨⟨h, hp, hf, x, ho⟩, hs, hk⟩ := s
 exact ⟨⟨h, hp, hf, x.below hB (Nat.le_refl _), fun i hi => ⟨(ho i hi).1, fun e => by
  rcases e with e | e
  ·exact (ho i hi).2 e
  ·have := x.own_lt hi
   omega⟩⟩, Nat.le_trans hs hB.size, fun i hi => by
  rcases hi with e | rfl
  ·exact Nat.lt_of_lt_of_le (hk i e) hB.size
  ·exact h2⟩
theorem StK.renew {K' : Nat -> Prop} (s : StK B p f K m w) (hb : Below w.heap.size w w') (h : ∀ i, K' i -> (K i \/ w.heap.size <= i) /\ i < w'.heap.size) : StK B p f K' m w' := by
 obtain ⟨⟨h0, hp, hf, x, ho⟩, hs, hk⟩ := s
 exact ⟨⟨h0, hp, hf, x.below hb (Nat.le_refl _), fun i hi => ⟨(ho i hi).1, fun e => by
  rcases (h i e).1 with e | e
  ·exact (ho i hi).2 e
  ·have := x.own_lt hi
   omega⟩⟩, Nat.le_trans hs hb.size, fun i hi => (h i hi).2⟩
theorem StK.write (s : StK B p f K m w) (ok : FlashOk k m) (a : Int) (v : BitVec 32) :
  Calls Tryz.prog 116 #[.pointer (some ⟨f, 0, none⟩), .int .i64 a, .int .u32 (U v)] w (StKOut B p f K (fWrite m a v).1 (.int .i64 (fWrite m a v).2) w) := by
 obtain ⟨⟨h, rfl, rfl, x, ho⟩, hs, hk⟩ := s
 refine (fwrite_any h m k a v w x ok).mono ?_
 rintro e w' ⟨rfl, j1, j2, j3, x', t⟩
 exact ⟨rfl, ⟨⟨{ h with j1 := j1, j2 := j2, j3 := j3 }, rfl, rfl, x', ho⟩, Nat.le_trans hs t.size, fun i hi => Nat.lt_of_lt_of_le (hk i hi) t.size⟩, t.mono fun i _ hi => ho i hi⟩
theorem StK.tick (s : StK B p f K m w) (ok : FlashOk k m) (n : Int) (b0 : -9223372036854775808 <= n) (b1 : n <= 9223372036854775807) :
  Calls Tryz.prog 154 #[.pointer (some ⟨f, 0, none⟩), .int .i64 n] w (StKOut B p f K (fTick m n).1 (.int .i64 (fTick m n).2) w) := by
 obtain ⟨⟨h, rfl, rfl, x, ho⟩, hs, hk⟩ := s
 refine (ftick_any h m k n w x ok b0 b1).mono ?_
 rintro e w' ⟨rfl, x', t⟩
 exact ⟨rfl, ⟨⟨h, rfl, rfl, x', ho⟩, Nat.le_trans hs t.size, fun i hi => Nat.lt_of_lt_of_le (hk i hi) t.size⟩, t.mono fun i _ hi => ho i hi⟩
theorem StK.read (s : StK B p f K m w) (ok : FlashOk k m) (a : Int) :
  Calls Tryz.prog 118 #[.pointer (some ⟨f, 0, none⟩), .int .i64 a] w (Said2 (fRead m a) w) := by
 obtain ⟨⟨h, rfl, rfl, x, ho⟩, hs, hk⟩ := s
 exact fread_any h m k a w x ok
theorem StK.fuse (s : StK B p f K m w) (ok : FlashOk k m) (n : Int) (v : BitVec 32) :
  Calls Tryz.prog 24 #[.pointer (some ⟨p, 0, none⟩), .int .i64 n, .int .u32 (U v)] w (StKOut B p f K { m with chip := mFuse m.chip n v } (.tuple #[]) w) := by
 obtain ⟨⟨h, rfl, rfl, x, ho⟩, hs, hk⟩ := s
 have a := ok.chip.wears
 have c := ok.chip.k1
 refine (fuse_any h.c m.chip n v w x.chip (by omega)).mono ?_
 rintro e w' ⟨rfl, hc, t⟩
 exact ⟨rfl, ⟨⟨h, rfl, rfl, x.chipTo t hc, ho⟩, Nat.le_trans hs t.size, fun i hi => Nat.lt_of_lt_of_le (hk i hi) t.size⟩, t.mono fun i _ e => ho i (.inl e)⟩
end
end
end Go.Proofs.YtnfgpjfldgocaaaGreat
