import Derived.Test.YtnfgpjfldgocaaaGreatCfiS
import Derived.Test.YtnfgpjfldgocaaaGreatCfiA
import Derived.Test.YtnfgpjfldgocaaaGreatNorLawM
import Derived.Test.YtnfgpjfldgocaaaGreatCfiB
namespace Go.Proofs.YtnfgpjfldgocaaaGreat
section
open Go.RowKit Go.Maps Bm
end
section
open Bm
structure Idle (m : FlashM) : Prop where
 up : m.chip.up = true
 wait : m.wait = 0
 job : m.job = 0
theorem fRefuse_on {m : FlashM} (h : m.chip.up = true) (a : Int) (h0 : 0 <= a) (h1 : a < m.chip.ws.length) : fRefuse m a = 0 := by
 unfold fRefuse mRefuse
 rw [if_neg (by rw [h]; decide), if_neg (by omega)]
theorem fWrite_at {m : FlashM} (h : m.chip.up = true) (a : Int) (h0 : 0 <= a) (h1 : a < m.chip.ws.length) (v : BitVec 32) : fWrite m a v = (fWriteDo m a.toNat v, 0) := if_pos (fRefuse_on h a h0 h1)
theorem Idle.write {m : FlashM} (h : Idle m) (a : Int) (h0 : 0 <= a) (h1 : a < m.chip.ws.length) (v low : BitVec 32) (hl : v &&& 255#32 = low) : fWrite m a v = (fCommand m low, 0) := by
 rw [fWrite_at h.up a h0 h1]
 unfold fWriteDo
 rw [if_neg (by simpa using h.job), if_neg (by simpa using h.wait), hl]
end
section
open Bm
theorem fTick_on {m : FlashM} (h : m.chip.up = true) (hl : 0 < m.chip.ws.length) (n : Int) (hn : 0 <= n) : fTick m n = if m.job = 0 then (m, 0) else if n < m.left then ({ m with left := m.left - n }, 0) else fDone m := by
 unfold fTick
 rw [if_neg (by rw [fRefuse_on h 0 (by omega) (by omega)]; decide), if_neg (by omega)]
theorem fTick_wait {m : FlashM} (h : m.chip.up = true) (hl : 0 < m.chip.ws.length) (n : Int) (hn : 0 <= n) (j : m.job ≠ 0) (k : n < m.left) : fTick m n = ({ m with left := m.left - n }, 0) := by rw [fTick_on h hl n hn, if_neg j, if_pos k]
theorem fTick_done {m : FlashM} (h : m.chip.up = true) (hl : 0 < m.chip.ws.length) (n : Int) (hn : 0 <= n) (j : m.job ≠ 0) (k : m.left <= n) : fTick m n = fDone m := by rw [fTick_on h hl n hn, if_neg j, if_neg (by omega)]
theorem fJob_prog {m : FlashM} (h : m.job = 64) : fJob m = mProgram m.chip m.at_ m.v := if_pos h
theorem fJob_erase {m : FlashM} (h : m.job = 32) : fJob m = mErase m.chip m.at_ := if_neg (by rw [h]; decide)
section
variable (b : Nat) (c : ChipM) (hu : c.up = true) (hl : c.ws.length = 128)
include hu hl
end
end
end Go.Proofs.YtnfgpjfldgocaaaGreat
