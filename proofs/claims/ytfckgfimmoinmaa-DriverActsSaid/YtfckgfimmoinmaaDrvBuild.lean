/- A driver of the document's, built of a flash. -/
import Derived.Test.YtfckgfimmoinmaaDrvRA
import Derived.Test.YtfckgfimmoinmaaCfiRef5
import Derived.Laws.Tables
namespace Go.Proofs.Ytfckgfimmoinmaa
open Go.RowKit Bm

theorem fold_set (post : List Value) : ∀ (cs pre xs : List Value), xs.length = cs.length →
    ((cs.zipIdx pre.length).foldl (fun (a : Array Value) (p : Value × Nat) => a.setIfInBounds p.2 p.1) (pre ++ (xs ++ post)).toArray) = (pre ++ (cs ++ post)).toArray
  | [], pre, xs, h => by
    obtain rfl : xs = [] := List.eq_nil_of_length_eq_zero (by simpa using h)
    rfl
  | c :: cs, pre, [], h => by simp at h
  | c :: cs, pre, x :: xs, h => by
    rw [List.zipIdx_cons, List.foldl_cons]
    have e : ((pre ++ (x :: xs ++ post)).toArray).setIfInBounds pre.length c = ((pre ++ [c]) ++ (xs ++ post)).toArray := by
      rw [List.setIfInBounds_toArray, List.set_append_right _ _ (Nat.le_refl _), Nat.sub_self]
      simp
    rw [e]
    have := fold_set post cs (pre ++ [c]) xs (by simpa using h)
    rw [List.length_append, List.length_singleton] at this
    rw [this]
    simp
theorem fill_head {place : Nat → Option (Nat × Nat)} {cs zs post : List Value} (hp : place 0 = some (0, cs.length)) (hz : zs.length = cs.length) :
    Instr.fill place (zs ++ post).toArray [(0, .agg cs.toArray)] = some (cs ++ post).toArray := by
  have hf := fold_set post cs [] zs hz
  simp only [List.nil_append, List.length_nil] at hf
  unfold Instr.fill
  have hsz : (Value.agg cs.toArray).cells = cs.toArray := rfl
  rw [hp]
  show (if _ then none else Instr.fill place _ []) = _
  rw [hsz]
  split
  · rename_i h
    simp at h
    omega
  · simp only [Instr.fill, Nat.zero_add]
    refine congrArg some ?_
    rw [← Array.foldl_toList, Array.toList_zipIdx]
    exact hf

set_option maxRecDepth 100000 in
theorem built_driver (r : Rh) (m : FlashM) (W : World) : (Instr.build 41 #[(0, .agg (rfCells r m).toArray)]).run Try.prog W = .ok (.agg (rdCells r m 0).toArray) W := by
  refine run_build W _ _ _ ?_
  obtain ⟨it, h1, h2, h3⟩ : ∃ it, Try.prog.info? 41 = some it ∧ it.zero = some (.agg rdZero.toArray) ∧ it.size = 78 := by
    have h := rd_info
    cases hi : Try.prog.info? 41 with
    | none => rw [hi] at h; simp at h
    | some it =>
      rw [hi] at h
      simp only [Option.map_some, Option.some.injEq, Prod.mk.injEq] at h
      exact ⟨it, rfl, h.1, h.2⟩
  have hfl : ((fun fs : Array Field => fs.toList.mapM (fun f => (Try.prog.info? f.type).map fun i => (f.offset, i.size))) (match Try.prog.underlying 41 with | some (.struct fs) => fs | _ => #[])) = some [(0, 77), (77, 1)] := by kernel_rfl
  unfold Program.built
  rw [h1, Try.underlying41]
  rw [Try.underlying41] at hfl
  simp only at hfl ⊢
  rw [h2, hfl]
  simp only [Value.cells]
  exact fill_head (zs := rfZero) (post := [.int .i64 0]) (by simp [rf_len]) (by rw [rf_len]; rfl)

set_option maxRecDepth 100000 in
theorem built_flash (r : Rh) (c : ChipM) (W : World) : (Instr.build 39 #[(0, refVal r c)]).run Try.prog W = .ok (.agg (rfCells r (fNew c)).toArray) W := by
  refine run_build W _ _ _ ?_
  obtain ⟨it, h1, h2, h3⟩ : ∃ it, Try.prog.info? 39 = some it ∧ it.zero = some (.agg rfZero.toArray) ∧ it.size = 77 := by
    have h := rf_info
    cases hi : Try.prog.info? 39 with
    | none => rw [hi] at h; simp at h
    | some it =>
      rw [hi] at h
      simp only [Option.map_some, Option.some.injEq, Prod.mk.injEq] at h
      exact ⟨it, rfl, h.1, h.2⟩
  have hfl : ((fun fs : Array Field => fs.toList.mapM (fun f => (Try.prog.info? f.type).map fun i => (f.offset, i.size))) (match Try.prog.underlying 39 with | some (.struct fs) => fs | _ => #[])) = some [(0, 6), (6, 1), (7, 1), (8, 1), (9, 64), (73, 1), (74, 1), (75, 1), (76, 1)] := by kernel_rfl
  unfold Program.built
  rw [h1, Try.underlying39]
  rw [Try.underlying39] at hfl
  simp only at hfl ⊢
  rw [h2, hfl]
  simp only [Value.cells]
  rw [rfZero_is, List.append_assoc, refVal]
  have e : rfCells r (fNew c) = refCells r c ++ ([.int .i64 0, .int .i64 0, .int .u32 0] ++ (lockCells noLocks ++ [.int .i64 0, .int .i64 0, .int .u32 0, .int .i64 0])) := by
    unfold rfCells rfHead
    rw [List.append_assoc]
    rfl
  rw [e]
  exact fill_head (zs := refZero) (by rfl) (by rfl)
/-- A struct that is built of its first field. -/
theorem wpList_bld {ops : Array Oper} {rest : List Oper} {o : Oper} {a : Go.Act} {w : World} {Q : Exit → Go.Act → World → Prop} (ty : TypeId) (x : Operand) (hgd : o.guard = none) (ho : o.op = .build ty #[(0, x)]) (v v' : Value) (hx : a.eval x = v) (hr : (Instr.build ty #[(0, v)]).run Try.prog w = .ok v' w)
    (h : wpList Try.prog ops Q rest (a.put o.dst v') w) : wpList Try.prog ops Q (o :: rest) a w :=
  wpList_plain hgd fun _ hK => by
    unfold Oper.wp execOp
    simp only [ho, List.map_toArray, List.map_cons, List.map_nil, hx, Sem.run_bind, hr, Result.andThen_ok, Sem.run_pure]
    exact hK _ _ h
end Go.Proofs.Ytfckgfimmoinmaa
