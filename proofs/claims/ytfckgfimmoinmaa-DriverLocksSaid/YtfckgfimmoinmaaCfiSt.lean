/- A flash and its chip as a statement's walk has them: their two places, the plain flash, and a base below which nothing of theirs lies; each call's contract over that. -/
import Derived.Test.YtfckgfimmoinmaaCfi9
import Derived.Test.YtfckgfimmoinmaaNorLawMath
namespace Go.Proofs.Ytfckgfimmoinmaa
open Go.RowKit Bm

structure St (B p f : Nat) (m : FlashM) (w : World) : Prop where
  ex : ∃ h : Fh, h.c.p = p ∧ h.f = f ∧ FlashAt w h m ∧ ∀ i, h.own i → B ≤ i
  size : B ≤ w.heap.size

/-- An answer, the flash behind it, and nothing old has turned. -/
def StOut (B p f : Nat) (m : FlashM) (v : Value) (w : World) (e : Ending) (w' : World) : Prop := e = .returned v ∧ St B p f m w' ∧ Below B w w'

section
variable {B p f k : Nat} {m : FlashM} {w w' : World}
theorem St.below (s : St B p f m w) (hB : Below w.heap.size w w') : St B p f m w' := by
  obtain ⟨⟨h, hp, hf, x, ho⟩, hs⟩ := s
  exact ⟨⟨h, hp, hf, x.below hB (Nat.le_refl _), ho⟩, Nat.le_trans hs hB.size⟩
theorem St.kept (s : St B p f m w) {S : Nat → Prop} (t : Turned S w w') (hS : ∀ i, i < w.heap.size → ¬ S i) : St B p f m w' := by
  obtain ⟨⟨h, hp, hf, x, ho⟩, hs⟩ := s
  exact ⟨⟨h, hp, hf, x.kept t hS, ho⟩, Nat.le_trans hs t.size⟩
theorem St.drewN (s : St B p f m w) (n : Nat) : St B p f m (w.drewN n) := by
  obtain ⟨⟨h, hp, hf, x, ho⟩, hs⟩ := s
  exact ⟨⟨h, hp, hf, x.drewN n, ho⟩, hs⟩
theorem St.alloc (s : St B p f m w) (o : Obj) : St B p f m (w.alloc o) := s.below ((Below.refl _ w).alloc (Nat.le_refl _) o)
theorem below_drewN (B : Nat) (w : World) (n : Nat) : Below B w (w.drewN n) := ⟨rfl, rfl, rfl, Nat.le_refl _, fun _ _ => rfl⟩

theorem St.write (s : St B p f m w) (ok : FlashOk k m) (a : Int) (v : BitVec 32) :
    Calls Try.prog 55 #[.pointer (some ⟨f, 0, none⟩), .int .i64 a, .int .u32 (U v)] w (StOut B p f (fWrite m a v).1 (.int .i64 (fWrite m a v).2) w) := by
  obtain ⟨⟨h, rfl, rfl, x, ho⟩, hs⟩ := s
  refine (fwrite_any h m k a v w x ok).mono ?_
  rintro e w' ⟨rfl, j1, j2, j3, x', t⟩
  exact ⟨rfl, ⟨⟨{ h with j1 := j1, j2 := j2, j3 := j3 }, rfl, rfl, x', ho⟩, Nat.le_trans hs t.size⟩, t.below ho hs⟩
/-- .. where the answer is known, and the value is written as a walk has it. -/
theorem St.writeTo (s : St B p f m w) (ok : FlashOk k m) (a vi : Int) (v : BitVec 32) (hv : U v = vi) {m' : FlashM} {n : Int} (e : fWrite m a v = (m', n)) :
    Calls Try.prog 55 #[.pointer (some ⟨f, 0, none⟩), .int .i64 a, .int .u32 vi] w (StOut B p f m' (.int .i64 n) w) := by
  have := s.write ok a v
  rw [e, hv] at this
  exact this
theorem St.tick (s : St B p f m w) (ok : FlashOk k m) (n : Int) (b0 : -9223372036854775808 ≤ n) (b1 : n ≤ 9223372036854775807) :
    Calls Try.prog 57 #[.pointer (some ⟨f, 0, none⟩), .int .i64 n] w (StOut B p f (fTick m n).1 (.int .i64 (fTick m n).2) w) := by
  obtain ⟨⟨h, rfl, rfl, x, ho⟩, hs⟩ := s
  refine (ftick_any h m k n w x ok b0 b1).mono ?_
  rintro e w' ⟨rfl, x', t⟩
  exact ⟨rfl, ⟨⟨h, rfl, rfl, x', ho⟩, Nat.le_trans hs t.size⟩, t.below ho hs⟩
theorem St.tickTo (s : St B p f m w) (ok : FlashOk k m) (n : Int) (b0 : -9223372036854775808 ≤ n) (b1 : n ≤ 9223372036854775807) {m' : FlashM} {c : Int} (e : fTick m n = (m', c)) :
    Calls Try.prog 57 #[.pointer (some ⟨f, 0, none⟩), .int .i64 n] w (StOut B p f m' (.int .i64 c) w) := by
  have := s.tick ok n b0 b1
  rw [e] at this
  exact this
theorem St.read (s : St B p f m w) (ok : FlashOk k m) (a : Int) :
    Calls Try.prog 62 #[.pointer (some ⟨f, 0, none⟩), .int .i64 a] w (StOut B p f m (.tuple #[.int .u32 (U (fRead m a).1), .int .i64 (fRead m a).2]) w) := by
  have s0 := s
  obtain ⟨⟨h, rfl, rfl, x, ho⟩, hs⟩ := s
  refine (fread_any h m k a w x ok).mono ?_
  rintro e w' ⟨rfl, n, rfl⟩
  exact ⟨rfl, s0.drewN n, below_drewN _ _ _⟩
theorem St.readTo (s : St B p f m w) (ok : FlashOk k m) (a : Int) {x : BitVec 32} {c xi : Int} (e : fRead m a = (x, c)) (hx : U x = xi) :
    Calls Try.prog 62 #[.pointer (some ⟨f, 0, none⟩), .int .i64 a] w (StOut B p f m (.tuple #[.int .u32 xi, .int .i64 c]) w) := by
  have := s.read ok a
  rw [e, hx] at this
  exact this
theorem St.status (s : St B p f m w) (ok : FlashOk k m) :
    Calls Try.prog 56 #[.pointer (some ⟨f, 0, none⟩)] w fun e w' => e = .returned (.int .u32 (U (fStatus m))) ∧ w' = w := by
  obtain ⟨⟨h, rfl, rfl, x, ho⟩, hs⟩ := s
  exact status_any h m k w x ok
theorem St.statusTo (s : St B p f m w) (ok : FlashOk k m) {x : BitVec 32} {xi : Int} (e : fStatus m = x) (hx : U x = xi) :
    Calls Try.prog 56 #[.pointer (some ⟨f, 0, none⟩)] w fun e w' => e = .returned (.int .u32 xi) ∧ w' = w := by
  have := s.status ok
  rwa [e, hx] at this
theorem St.reset (s : St B p f m w) :
    Calls Try.prog 25 #[.pointer (some ⟨f, 0, none⟩)] w (StOut B p f (fReset m) (.tuple #[]) w) := by
  obtain ⟨⟨h, rfl, rfl, x, ho⟩, hs⟩ := s
  refine (freset_any h m w x).mono ?_
  rintro e w' ⟨rfl, x', t⟩
  refine ⟨rfl, ⟨⟨{ h with l := w.heap.size }, rfl, rfl, x', ?_⟩, Nat.le_trans hs t.size⟩, t.below ?_ hs⟩
  · rintro i (e | e | e)
    · exact ho i (.inl e)
    · exact ho i (.inr (.inl e))
    · have e2 : i = w.heap.size := e
      omega
  · rintro i e
    exact ho i (.inr (.inl e))
theorem St.up (s : St B p f m w) :
    Calls Try.prog 33 #[.pointer (some ⟨p, 0, none⟩)] w fun e w' => e = .returned (.bool m.chip.up) ∧ w' = w := by
  obtain ⟨⟨h, rfl, rfl, x, ho⟩, hs⟩ := s
  exact up_any h.c m.chip w x.chip
theorem St.words (s : St B p f m w) (ok : FlashOk k m) :
    Calls Try.prog 31 #[.pointer (some ⟨p, 0, none⟩)] w (Fresh w 33 (Us m.chip.ws)) := by
  obtain ⟨⟨h, rfl, rfl, x, ho⟩, hs⟩ := s
  have a := ok.chip.words
  have b := ok.chip.k1
  have c := ok.chip.k2
  exact words_any h.c m.chip w x.chip (by omega) (by omega)
theorem St.wear (s : St B p f m w) (ok : FlashOk k m) (b : Int) :
    Calls Try.prog 34 #[.pointer (some ⟨p, 0, none⟩), .int .i64 b] w fun e w' => e = .returned (.int .i64 (mWear m.chip b)) ∧ w' = w := by
  obtain ⟨⟨h, rfl, rfl, x, ho⟩, hs⟩ := s
  have a := ok.chip.wears
  have c := ok.chip.k2
  exact wear_any h.c m.chip b w x.chip (by omega)
theorem St.fuse (s : St B p f m w) (ok : FlashOk k m) (n : Int) (v : BitVec 32) :
    Calls Try.prog 22 #[.pointer (some ⟨p, 0, none⟩), .int .i64 n, .int .u32 (U v)] w (StOut B p f { m with chip := mFuse m.chip n v } (.tuple #[]) w) := by
  obtain ⟨⟨h, rfl, rfl, x, ho⟩, hs⟩ := s
  have a := ok.chip.wears
  have c := ok.chip.k1
  refine (fuse_any h.c m.chip n v w x.chip (by omega)).mono ?_
  rintro e w' ⟨rfl, hc, t⟩
  exact ⟨rfl, ⟨⟨h, rfl, rfl, x.chipTo t hc, ho⟩, Nat.le_trans hs t.size⟩, t.below (fun i e => ho i (.inl e)) hs⟩
theorem St.on (s : St B p f m w) (ok : FlashOk k m) :
    Calls Try.prog 24 #[.pointer (some ⟨p, 0, none⟩)] w (StOut B p f { m with chip := mOn m.chip } (.tuple #[]) w) := by
  obtain ⟨⟨h, rfl, rfl, x, ho⟩, hs⟩ := s
  have a := ok.chip.wears
  have c := ok.chip.k1
  refine (on_any h.c m.chip w x.chip (by omega)).mono ?_
  rintro e w' ⟨rfl, hc, t⟩
  exact ⟨rfl, ⟨⟨h, rfl, rfl, x.chipTo t hc, ho⟩, Nat.le_trans hs t.size⟩, t.below (fun i e => ho i (.inl e)) hs⟩
theorem St.program (s : St B p f m w) (ok : FlashOk k m) (a : Int) (v : BitVec 32) :
    Calls Try.prog 91 #[.pointer (some ⟨p, 0, none⟩), .int .i64 a, .int .u32 (U v)] w (StOut B p f { m with chip := (mProgram m.chip a v).1 } (.int .i64 (mProgram m.chip a v).2) w) := by
  obtain ⟨⟨h, rfl, rfl, x, ho⟩, hs⟩ := s
  refine (program_any h.c m.chip k a v w x.chip ok.chip).mono ?_
  rintro e w' ⟨rfl, hc, t⟩
  exact ⟨rfl, ⟨⟨h, rfl, rfl, x.chipTo t hc, ho⟩, Nat.le_trans hs t.size⟩, t.below (fun i e => ho i (.inl e)) hs⟩
end

/-- A copy of the chip's n words, as a walk has it. -/
def WordsAt (ws : List (BitVec 32)) (n : Nat) (w : World) (e : Ending) (w' : World) : Prop :=
  ∃ g cap, e = .returned (.slice (some ⟨g, 0, none⟩) n cap) ∧ (∀ i, i < n → w'.cell? ⟨g, i, none⟩ = some (.int .u32 (U (wd ws i)))) ∧ n ≤ cap ∧ cap ≤ maxLen ∧ Below w.heap.size w w'
theorem St.wordsAt {B p f k : Nat} {m : FlashM} {w : World} (s : St B p f m w) (ok : FlashOk k m) (n : Nat) (hn : m.chip.ws.length = n) :
    Calls Try.prog 31 #[.pointer (some ⟨p, 0, none⟩)] w (WordsAt m.chip.ws n w) := by
  refine (s.words ok).mono ?_
  rintro e w' ⟨g, cap, rest, rfl, hA, hl, hm, _, hB⟩
  rw [Us_length, hn]
  rw [List.length_append, Us_length, hn] at hl
  refine ⟨g, cap, rfl, fun i hi => ?_, by omega, hm, hB⟩
  rw [hA.cell, List.getElem?_append_left (by rw [Us_length, hn]; exact hi), Us_get _ _ (by rw [hn]; exact hi)]

/-- What Begin makes. -/
def Made (B : Nat) (m : FlashM) (w : World) (e : Ending) (w' : World) : Prop :=
  ∃ p f, e = .returned (.tuple #[.pointer (some ⟨p, 0, none⟩), .pointer (some ⟨f, 0, none⟩)]) ∧ St B p f m w' ∧ Below B w w'
theorem begin_st (B k : Nat) (endure : Int) (w : World) (hB : B ≤ w.heap.size) (k1 : 1 ≤ k) (k2 : k ≤ 64) (e0 : 0 ≤ endure) (e1 : endure ≤ 9223372036854775807) :
    Calls Try.prog 12 #[.int .i64 k, .int .i64 endure] w (Made B (fNew (mNew k endure)) w) := by
  refine (begin_any k endure w k1 k2 e0 e1).mono ?_
  rintro e w' ⟨h, rfl, x, ho, hb⟩
  exact ⟨_, _, rfl, ⟨⟨h, rfl, rfl, x, fun i hi => Nat.le_trans hB (ho i hi)⟩, Nat.le_trans hB hb.size⟩, hb.mono hB⟩
theorem newOk (k : Nat) (endure : Int) (k1 : 1 ≤ k) (k2 : k ≤ 64) (e0 : 0 ≤ endure) (e1 : endure ≤ 9223372036854775807) : FlashOk k (fNew (mNew k endure)) :=
  FlashOk.new (ChipOk.of _ k endure k1 k2 (by simp) e0 e1)

/-! The helper alive. -/
theorem pair_is {r : FlashM × Int} {n : Int} (h : r.2 = n) : r = (r.1, n) := by rw [← h]
def av0 : FlashM := fNew (mNew 2 5)
def av1 : FlashM := (fWrite av0 5 64#32).1
def av2 : FlashM := (fWrite av1 5 7#32).1
def av3 : FlashM := (fTick av2 3).1
def av4 : FlashM := (fWrite av3 0 255#32).1
theorem av0_ok : FlashOk 2 av0 := newOk 2 5 (by omega) (by omega) (by omega) (by omega)
theorem av1_ok : FlashOk 2 av1 := av0_ok.write _ _
theorem av2_ok : FlashOk 2 av2 := av1_ok.write _ _
theorem av3_ok : FlashOk 2 av3 := av2_ok.tick _
theorem av4_ok : FlashOk 2 av4 := av3_ok.write _ _
theorem av1_is : fWrite av0 5 64#32 = (av1, 0) := pair_is (by decide +kernel)
theorem av2_is : fWrite av1 5 7#32 = (av2, 0) := pair_is (by decide +kernel)
theorem av3_is : fTick av2 3 = (av3, 0) := pair_is (by decide +kernel)
theorem av4_is : fWrite av3 0 255#32 = (av4, 0) := pair_is (by decide +kernel)
theorem av2_s : fStatus av2 = 0#32 := by decide +kernel
theorem av4_s : fStatus av4 = 128#32 := by decide +kernel
theorem av4_r : fRead av4 5 = (7#32, 0) := by decide +kernel
theorem av4_u : av4.chip.up = true := by decide +kernel

end Go.Proofs.Ytfckgfimmoinmaa
