/- Contracts of the document's Next, Empty, Counts (layer scan). | Contract of the document's block (layer scan). | Contract of the document's Words (layer scan). -/
import Derived.Test.YtfpfcmgcfbkolaaScanRows
import Derived.Test.YtfpfcmgcfbkolaaScanFacts
import Derived.BigRegion
import Derived.Deep.DeepCutAuto
import Derived.Test.YtfpfcmgcfbkolaaScan2
import Derived.Test.YtfpfcmgcfbkolaaPageRef4
import Derived.Test.YtfpfcmgcfbkolaaScan3
namespace Go.Proofs.Ytfpfcmgcfbkolaa
open Go.RowKit Bm

attribute [local go_sem] bk_head bk_count

theorem rbk_info : (Try.prog.info? 55).map (fun i => (i.zero, i.size)) = some (some (.agg (bkC bk0).toArray), 66) := by kernel_rfl
theorem rbk_zero (w : World) : (zeroValue 55).run Try.prog w = .ok (.agg (bkC bk0).toArray) w := (zero_of_info rbk_info).1 w
theorem rbk_size : (Try.prog.info? 55).map (·.size) = some 66 := (zero_of_info rbk_info).2

theorem next_at {b : BlkM} (h1 : b.head = 1) (n : Nat) (hn : n ≤ 8) (hz : ∀ i, n ≤ i → i < 8 → nm b.kinds i = 0) (hx : 0 < n → nm b.kinds (n - 1) ≠ 0) : bkNext b = if n = 8 then -1 else (n : Int) := by
  have e : freeFrom b.kinds 8 = n := free_is b.kinds 8 n hn hz hx
  unfold bkNext
  rw [if_pos h1, e]



theorem rng_cell {w : World} {g off i : Nat} {cs : List Value} {v : Value} (h : w.rangeAt g off cs) (hv : cs[i]? = some v) : w.cell? ⟨g, off + i, none⟩ = some v := h i v hv

end Go.Proofs.Ytfpfcmgcfbkolaa

namespace Go.Proofs.Ytfpfcmgcfbkolaa
open Go.RowKit Bm

attribute [local go_sem] bk_head bk_count

set_option maxRecDepth 100000 in
theorem run_rbuild2 (h : Int) (c : BitVec 32) (w : World) : (Instr.build 55 #[(0, .int .i64 h), (1, .int .u32 (U c))]).run Try.prog w = .ok (.agg (bkC { bk0 with head := h, count := c }).toArray) w := by
  kernel_rfl

theorem wpList_rbuild2 {ops : Array Oper} {rest : List Oper} {o : Oper} {a : Go.Act} {w : World} {Q : Exit → Go.Act → World → Prop} (x y : Operand) (h : Int) (c : BitVec 32) (hgd : o.guard = none) (ho : o.op = .build 55 #[(0, x), (1, y)]) (hx : a.eval x = .int .i64 h) (hy : a.eval y = .int .u32 (U c))
    (hk : wpList Try.prog ops Q rest (a.put o.dst (.agg (bkC { bk0 with head := h, count := c }).toArray)) w) : wpList Try.prog ops Q (o :: rest) a w :=
  wpList_plain hgd fun K hK => by
    unfold Oper.wp execOp
    simp only [ho, List.map_toArray, List.map_cons, List.map_nil, hx, hy, Sem.run_bind, run_rbuild2, Result.andThen_ok]
    exact hK _ _ hk
theorem rpg_sizeB : (Try.prog.info? 46).map (·.size) = some 7 := by kernel_rfl
theorem rpg_infoB : (Try.prog.info? 46).map (fun i => (i.zero, i.size)) = some (some (.agg (pgC pg0).toArray), 7) := by kernel_rfl
theorem rpg_zeroB (w : World) : (zeroValue 46).run Try.prog w = .ok (.agg (pgC pg0).toArray) w := (zero_of_info rpg_infoB).1 w

theorem rbk_res1 {fn : Func} {p : Tmp} (h : fn.results = #[.cell p 55]) (tmps : Array Value) {w : World} {g : Nat} {cs : List Value} (hp : tmps.getD p undef = .pointer (some ⟨g, 0, none⟩)) (hA : At w g 55 cs) (hn : cs.length = 66) :
    (results fn tmps).run Try.prog w = .ok (.agg cs.toArray) w :=
  results_cell_row h tmps w g 55 cs.toArray (0, 0) _ hp hA Try.underlying55 rfl (by rw [rbk_size]; simp [hn])

end Go.Proofs.Ytfpfcmgcfbkolaa

namespace Go.Proofs.Ytfpfcmgcfbkolaa
open Go.RowKit Bm

theorem rbk_infoA : (Try.prog.info? 55).map (fun i => (i.zero, i.size, i.bytes)) = some (some (.agg (bkC bk0).toArray), 66, 304) := by kernel_rfl
theorem own_below {w w' : World} {base n k : Nat} {t : TypeId} {v : Value} {xs : List Value} (h : w.ownsRow base t k v n xs) (hb : Below w.heap.size w w') : w'.ownsRow base t k v n xs :=
  h.kept (w' := w') (row := none) ⟨hb.os, hb.tape, hb.output, hb.size, fun k hk _ => hb.block k hk⟩ (by cases v.ownBlock <;> simp)
theorem ReadsB.of_own {w : World} {base : Nat} {t : TypeId} {v : Value} {bs : List BlkM} {n : Nat} (h : w.ownsRow base t 66 v n (bks bs)) (hb : ∀ b ∈ bs, BlkOk b) (hn : n = bs.length) : ∃ A cap, v = .slice A bs.length cap ∧ ReadsB w A bs.length cap bs := by
  subst hn
  have h0 := h
  rcases h.2 with ⟨rfl, e⟩ | ⟨g, cap, cur, rfl, _⟩
  · have : bs = [] := List.eq_nil_of_length_eq_zero e
    subst this
    exact ⟨Option.none, 0, rfl, ReadsB.none w⟩
  · obtain ⟨rest, hA, _, h2, h3, _⟩ := at_of_own h0
    exact ⟨_, cap, rfl, ReadsB.of_at hA hb h2 h3⟩

end Go.Proofs.Ytfpfcmgcfbkolaa
