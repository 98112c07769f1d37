import Derived.Test.YtnfgpjfldgocaaaGreatScanMath
import Derived.Test.YtnfgpjfldgocaaaGreatBuild
import Derived.Test.YtnfgpjfldgocaaaGreatScanEq
import Derived.BigRegion
import Derived.Deep.DeepCutAuto
import Derived.Deep.AppendLies
import Derived.Deep.LoopGhost
import Derived.Deep.Light
import Derived.Test.YtnfgpjfldgocaaaGreatScanRef
namespace Go.Proofs.YtnfgpjfldgocaaaGreat.Theirs
open Go.RowKit Bm
attribute [local go_sem] bk_head bk_count
abbrev TS : TypeId := 72
theorem sbk_size : (Tryz.prog.info? 72).map (·.size) = some 66 := by kernel_rfl
theorem sbk_infoZ : (Tryz.prog.info? 72).map (fun i => (i.zero, i.size)) = some (some (.agg (bkC bk0).toArray), 66) := by kernel_rfl
theorem sbk_zero (w : World) : (zeroValue 72).run Tryz.prog w = .ok (.agg (bkC bk0).toArray) w := (zero_of_info sbk_infoZ).1 w
theorem dbk_size : (Tryz.prog.info? 101).map (·.size) = some 66 := by kernel_rfl
theorem dbk_infoZ : (Tryz.prog.info? 101).map (fun i => (i.zero, i.size)) = some (some (.agg (bkC bk0).toArray), 66) := by kernel_rfl
theorem dbk_zero (w : World) : (zeroValue 101).run Tryz.prog w = .ok (.agg (bkC bk0).toArray) w := (zero_of_info dbk_infoZ).1 w
theorem dbk_infoA : (Tryz.prog.info? 101).map (fun i => (i.zero, i.size, i.bytes)) = some (some (.agg (bkC bk0).toArray), 66, 304) := by kernel_rfl
theorem spg_size : (Tryz.prog.info? 69).map (·.size) = some 7 := by kernel_rfl
theorem spg_infoZ : (Tryz.prog.info? 69).map (fun i => (i.zero, i.size)) = some (some (.agg (pgC pg0).toArray), 7) := by kernel_rfl
theorem spg_zero (w : World) : (zeroValue 69).run Tryz.prog w = .ok (.agg (pgC pg0).toArray) w := (zero_of_info spg_infoZ).1 w
theorem dpg_size : (Tryz.prog.info? 98).map (·.size) = some 7 := by kernel_rfl
theorem kinds_size : (Tryz.prog.info? 66).map (·.size) = some 8 := by kernel_rfl
theorem pages_size : (Tryz.prog.info? 70).map (·.size) = some 56 := by kernel_rfl
set_option maxRecDepth 100000 in
theorem run_build3 (h : Int) (c : BitVec 32) (ks : List Int) (hk : ks.length = 8) (w : World) : (Instr.build 101 #[(0, .int .i64 h), (1, .int .u32 (U c)), (2, .agg (Is ks).toArray)]).run Tryz.prog w = .ok (.agg (bkC { bk0 with head := h, count := c, kinds := ks }).toArray) w := by
 rw [nm_eight ks hk]
 generalize nm ks 0 = k0
 generalize nm ks 1 = k1
 generalize nm ks 2 = k2
 generalize nm ks 3 = k3
 generalize nm ks 4 = k4
 generalize nm ks 5 = k5
 generalize nm ks 6 = k6
 generalize nm ks 7 = k7
 kernel_rfl
theorem wpList_build3 {ops : Array Oper} {rest : List Oper} {o : Oper} {a : Go.Act} {w : World} {Q : Exit -> Go.Act -> World -> Prop} (x y z : Operand) (h : Int) (c : BitVec 32) (ks : List Int) (hgd : o.guard = none) (ho : o.op = .build 101 #[(0, x), (1, y), (2, z)]) (hx : a.eval x = .int .i64 h) (hy : a.eval y = .int .u32 (U c)) (hz : a.eval z = .agg (Is ks).toArray) (hk : ks.length = 8)
  (hK : wpList Tryz.prog ops Q rest (a.put o.dst (.agg (bkC { bk0 with head := h, count := c, kinds := ks }).toArray)) w) : wpList Tryz.prog ops Q (o :: rest) a w :=
 wpList_plain hgd fun K hK' => by
  unfold Oper.wp execOp
  simp only [ho, List.map_toArray, List.map_cons, List.map_nil, hx, hy, hz, Sem.run_bind, run_build3 h c ks hk, Result.andThen_ok]
  exact hK' _ _ hK
theorem run_index (l : List PageM) (hl : l.length = 8) (i : Nat) (hi : i < 8) (w : World) : (Instr.index 70 (.agg (pgs l).toArray) (.int .i64 (i : Int))).run Tryz.prog w = .ok (.agg (pgC (pgN l i)).toArray) w := by
 have hp := part_agg Tryz.underlying69 rfl (size_of spg_size) w (pgs l).toArray (i * 7)
 rw [pgs_extract l i (by omega)] at hp
 unfold Instr.index
 simp only [asIntOf, Sem.run_bind, Sem.run_pure, Result.andThen_ok, run_underlying Tryz.underlying70]
 rw [if_pos (by omega)]
 simp only [Sem.run_bind, size_of spg_size, Result.andThen_ok, Int.toNat_natCast]
 exact hp
theorem wpList_index {ops : Array Oper} {rest : List Oper} {o : Oper} {a : Go.Act} {w : World} {Q : Exit -> Go.Act -> World -> Prop} (x y : Operand) (l : List PageM) (i : Nat) (hgd : o.guard = none) (ho : o.op = .index 70 x y) (hx : a.eval x = .agg (pgs l).toArray) (hy : a.eval y = .int .i64 (i : Int)) (hl : l.length = 8) (hi : i < 8)
  (hK : wpList Tryz.prog ops Q rest (a.put o.dst (.agg (pgC (pgN l i)).toArray)) w) : wpList Tryz.prog ops Q (o :: rest) a w :=
 wpList_plain hgd fun K hK' => by
  unfold Oper.wp execOp
  simp only [ho, hx, hy, Sem.run_bind, run_index l hl i hi, Result.andThen_ok]
  exact hK' _ _ hK
theorem own_turned {S : Nat -> Prop} {w w' : World} {base n k : Nat} {t : TypeId} {v : Value} {xs : List Value} (h : w.ownsRow base t k v n xs) (hT : Turned S w w') (hS : ∀ g, v.ownBlock = some g -> ¬ S g) : w'.ownsRow base t k v n xs := by
 obtain ⟨hl, h⟩ := h
 rcases h with h | ⟨g, cap, cur, rfl, hb, hg, r⟩
 ·exact ⟨hl, .inl h⟩
 ·exact ⟨hl, .inr ⟨g, cap, cur, rfl, hb, (hT.block g (Array.getElem?_eq_some_iff.1 hg).1 (hS g rfl)).trans hg, r⟩⟩
def copied (l : List PageM) (k : Nat) : List PageM := (List.range k).foldl (fun acc i => acc.set i (pgN l i)) (List.replicate 8 pg0)
theorem copied_succ (l : List PageM) (k : Nat) : copied l (k + 1) = (copied l k).set k (pgN l k) := by simp [copied, List.range_succ]
theorem copied_len (l : List PageM) (k : Nat) : (copied l k).length = 8 := by
 induction k with
 | zero => rfl
 | succ k ih => rw [copied_succ, List.length_set, ih]
theorem copied_all (l : List PageM) (h : l.length = 8) : copied l 8 = l := by
 match l, h with
 | [a, b, c, d, e, f, g, i], _ => rfl
def part (b : BlkM) (k : Nat) : BlkM := { head := b.head, count := b.count, kinds := b.kinds, pages := copied b.pages k }
theorem part_ok {b : BlkM} (h : BlkOk b) (k : Nat) : BlkOk (part b k) := ⟨h.k, copied_len _ _⟩
theorem part_succ (b : BlkM) (k : Nat) : { part b k with pages := (part b k).pages.set k (pgN b.pages k) } = part b (k + 1) := by
 unfold part
 rw [copied_succ]
theorem part_all {b : BlkM} (h : BlkOk b) : part b 8 = b := by
 unfold part
 rw [copied_all _ h.p]
theorem bk_kinds_range {w : World} {g off : Nat} {b : BlkM} (h : BlkOk b) (hr : w.rangeAt g off (bkC b)) : w.rangeAt g (off + 2) (Is b.kinds) := fun j v hv => by
 have hj := (List.getElem?_eq_some_iff.1 hv).1
 rw [Is_length, h.k] at hj
 rw [Nat.add_assoc]
 refine hr (2 + j) v ?_
 rw [<- hv, bk_kind h j hj, Is_get _ _ (by rw [h.k]; exact hj)]
theorem bk_pages_range {w : World} {g off : Nat} {b : BlkM} (h : BlkOk b) (hr : w.rangeAt g off (bkC b)) : w.rangeAt g (off + 10) (pgs b.pages) := fun j v hv => by
 rw [Nat.add_assoc]
 refine hr (10 + j) v ?_
 unfold bkC
 rw [<- List.append_assoc, List.getElem?_append_right (by rw [List.length_append, Is_length, h.k]; simp), List.length_append, Is_length, h.k]
 rw [show 10 + j - ([Value.int IntKind.i64 b.head, Value.int IntKind.u32 (U b.count)].length + 8) = j by simp]
 exact hv
end Go.Proofs.YtnfgpjfldgocaaaGreat.Theirs
