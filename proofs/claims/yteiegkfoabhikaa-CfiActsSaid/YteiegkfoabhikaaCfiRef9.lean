/- The document's Tick, whatever there is; and how a walk loads the document's flash whole in a region that draws its order. -/
import Derived.Test.YteiegkfoabhikaaCfiRef8
namespace Go.Proofs.Yteiegkfoabhikaa
open Go.RowKit Bm

theorem rtick_any (r : Rh) (m : FlashM) (k : Nat) (n : Int) (w : World) (ok : FlashOk k m) (hc : RefAt w r m.chip) (b0 : -9223372036854775808 ≤ n) (b1 : n ≤ 9223372036854775807) :
    Calls Try.prog 16 #[rfVal r m, .int .i64 n] w (TickOut r (fTick m n) w) := by
  cases hu : m.chip.up
  · exact rtick_early r m k n w ok hc b0 b1 (.inl hu)
  · by_cases h1 : n < 0
    · exact rtick_early r m k n w ok hc b0 b1 (.inr (.inl h1))
    · by_cases h2 : n < m.left
      · exact rtick_early r m k n w ok hc b0 b1 (.inr (.inr (.inr h2)))
      · rcases ok.job with e | e | e
        · exact rtick_early r m k n w ok hc b0 b1 (.inr (.inr (.inl e)))
        · exact rtick_64 r m k n w ok hc hu (by omega) e (by omega)
        · exact rtick_32 r m k n w ok hc hu (by omega) e (by omega)

/-- The document's flash lies in memory: its own block, and its chip's rows. -/
structure DocAt (w : World) (M : Nat) (r : Rh) (m : FlashM) : Prop where
  own : At w M 36 (rfCells r m)
  chip : RefAt w r m.chip
theorem DocAt.kept {w w' : World} {M : Nat} {r : Rh} {m : FlashM} (h : DocAt w M r m) {S : Nat → Prop} (t : Turned S w w') (h1 : ¬ S M) (h2 : ¬ S r.gw) (h3 : ¬ S r.ge) : DocAt w' M r m := ⟨h.own.kept t h1, h.chip.kept t h2 h3⟩
theorem DocAt.below {w w' : World} {M : Nat} {r : Rh} {m : FlashM} (h : DocAt w M r m) (hb : Below w.heap.size w w') : DocAt w' M r m := h.kept (Turned.of_below hb (Nat.le_refl _) NoBlock) (fun h => h) (fun h => h) (fun h => h)
theorem DocAt.load {w : World} {M : Nat} {r : Rh} {m : FlashM} (h : DocAt w M r m) : (Instr.loadAt 36 (.pointer (some ⟨M, 0, none⟩))).run Try.prog w = .ok (.agg (rfCells r m).toArray) w := by
  have := run_loadVar_row (P := Try.prog) w M 36 36 (rfCells r m).toArray (0, 0) _ h.own Try.underlying36 rfl (by rw [rf_size]; simp [rf_len])
  simp only [Instr.loadAt, Instr.sureAddr, Sem.run_bind, Sem.run_pure, Result.andThen_ok, this]
end Go.Proofs.Yteiegkfoabhikaa
