/- The pages that a store would move. -/
import Derived.Test.YtpkkejdjhnmjiaaGreatFtl3
import Derived.Deep.DeepCutAuto
namespace Go.Proofs.YtpkkejdjhnmjiaaGreat
open Go.RowKit Bm Go.Shelf Go.Maps
def mvP (G : BitVec 32 → Option (PlM × PlM)) (s : Nat) : Option (Nat × PageM) :=
  match G (BitVec.ofNat 32 s) with
  | none => none
  | some y => if y.1.p = y.2.p ∨ (y.1.p.g = true ∧ y.2.p.q = 0#32) then none else some (y.1.b.toNat, { y.1.p with q := y.2.p.q + 1#32 })
def mvIn (b : Nat) (o : Option (Nat × PageM)) : Option PageM := match o with | some z => if z.1 = b then some z.2 else none | none => none
def mvOf (G : BitVec 32 → Option (PlM × PlM)) (S b : Nat) : List PageM := (List.range S).filterMap fun s => mvIn b (mvP G s)
theorem mvOf_succ (G : BitVec 32 → Option (PlM × PlM)) (S b : Nat) : mvOf G (S + 1) b = mvOf G S b ++ (match mvIn b (mvP G S) with | some p => [p] | none => []) := by
  unfold mvOf
  rw [List.range_succ, List.filterMap_append]
  congr 1
  cases h : mvIn b (mvP G S) <;> simp [h]
theorem mvOf_len (G : BitVec 32 → Option (PlM × PlM)) (S b : Nat) : (mvOf G S b).length ≤ S := by
  unfold mvOf
  exact Nat.le_trans (List.length_filterMap_le _ _) (by simp)
theorem mv_stay {G : BitVec 32 → Option (PlM × PlM)} {j : Nat} {y : PlM × PlM} (hy : y = (G (BitVec.ofNat 32 j)).getD co0) (h : (G (BitVec.ofNat 32 j)).isSome = false ∨ y.1.p = y.2.p ∨ (y.1.p.g = true ∧ y.2.p.q = 0#32)) : mvOf G (j + 1) = mvOf G j := by
  have e : mvP G j = none := by
    unfold mvP
    cases hG : G (BitVec.ofNat 32 j) with
    | none => rfl
    | some z =>
      rw [hG] at hy h
      have : y = z := hy
      subst this
      rcases h with h | h | h
      · cases h
      · exact if_pos (.inl h)
      · exact if_pos (.inr h)
  funext b
  rw [mvOf_succ, e]
  exact List.append_nil _
theorem mv_more {G : BitVec 32 → Option (PlM × PlM)} {j : Nat} {y : PlM × PlM} (hy : y = (G (BitVec.ofNat 32 j)).getD co0) (h : true = (G (BitVec.ofNat 32 j)).isSome) (h1 : ¬ y.1.p = y.2.p) (h2 : ¬ (y.1.p.g = true ∧ y.2.p.q = 0#32)) {b : Nat} (hb : y.1.b = (b : Int)) :
    mvOf G (j + 1) b = mvOf G j b ++ [{ y.1.p with q := y.2.p.q + 1#32 }] ∧ ∀ i, i ≠ b → mvOf G (j + 1) i = mvOf G j i := by
  have e : mvP G j = some (b, { y.1.p with q := y.2.p.q + 1#32 }) := by
    unfold mvP
    cases hG : G (BitVec.ofNat 32 j) with
    | none => rw [hG] at h; cases h
    | some z =>
      rw [hG] at hy
      have : y = z := hy
      subst this
      show (if _ then _ else _) = _
      rw [if_neg (fun h => h.elim h1 h2), hb]
      rfl
  constructor
  · rw [mvOf_succ, e]
    unfold mvIn
    simp
  · intro i hi
    rw [mvOf_succ, e]
    unfold mvIn
    simp [Ne.symm hi]
structure RowMV (B gm n : Nat) (f : Nat → List PageM) (vs : List Value) (w : World) : Prop where
  len : vs.length = n
  at' : At w gm 203 vs
  own : ∀ j v, vs[j]? = some v → w.ownsRow B 73 7 v (f j).length (pgs (f j))
  apart : ∀ (i j : Nat) (v u : Value) (r : Nat), i ≠ j → vs[i]? = some v → vs[j]? = some u → v.ownBlock = some r → u.ownBlock = some r → False
def RowMM (B gm n : Nat) (f : Nat → List PageM) (w : World) : Prop := ∃ vs, RowMV B gm n f vs w
theorem RowMV.kept {B gm n : Nat} {f : Nat → List PageM} {vs : List Value} {w w' : World} (h : RowMV B gm n f vs w) {S : Nat → Prop} (N : Turned S w w') (h1 : ¬ S gm) (h2 : ∀ (j : Nat) (v : Value) (r : Nat), vs[j]? = some v → v.ownBlock = some r → ¬ S r) : RowMV B gm n f vs w' :=
  ⟨h.len, h.at'.kept N h1, fun j v hj => Theirs.own_turned (h.own j v hj) N (fun r e => h2 j v r hj e), h.apart⟩
theorem RowMV.below {B gm n : Nat} {f : Nat → List PageM} {vs : List Value} {w w' : World} (h : RowMV B gm n f vs w) (hb : Below w.heap.size w w') : RowMV B gm n f vs w' :=
  h.kept (Turned.of_below hb (Nat.le_refl _) NoBlock) (fun h => h) (fun _ _ _ _ _ h => h)
theorem RowMM.below {B gm n : Nat} {f : Nat → List PageM} {w w' : World} (h : RowMM B gm n f w) (hb : Below w.heap.size w w') : RowMM B gm n f w' := by
  obtain ⟨vs, h⟩ := h
  exact ⟨vs, h.below hb⟩
theorem RowMV.ne {B gm n : Nat} {f : Nat → List PageM} {vs : List Value} {w : World} (h : RowMV B gm n f vs w) {j r : Nat} {v : Value} (hj : vs[j]? = some v) (hr : v.ownBlock = some r) : r ≠ gm := by
  obtain ⟨_, cs, hc⟩ := own_at_rowS (h.own j v hj) hr
  exact fun e => hc.ne h.at' (by decide) e
theorem RowMV.put {B gm n b g m cap : Nat} {f f' : Nat → List PageM} {vs : List Value} {v : Value} {W X Y : World} (h : RowMV B gm n f vs W) (hv : vs[b]? = some v) (hX : Below W.heap.size W X) (hg : X.grownBy Y v.ownBlock) (hgg : v.ownBlock = some g ∨ g = X.heap.size)
    (ho : Y.ownsRow B 73 7 (.slice (some ⟨g, 0, none⟩) m cap) m (pgs (f' b))) (hm : m = (f' b).length) (hf : ∀ i, i ≠ b → f' i = f i) :
    RowMV B gm n f' (vs.set b (.slice (some ⟨g, 0, none⟩) m cap)) (Y.setCell ⟨gm, b, none⟩ (.slice (some ⟨g, 0, none⟩) m cap)) := by
  have hX' := h.below hX
  have T : Turned (fun r => v.ownBlock = some r) X Y := (Turned.refl _ X).grown hg (fun k e _ => e)
  have hY : At Y gm 203 vs := hX'.at'.kept T (fun e => hX'.ne hv e rfl)
  have T2 : Turned (Just gm) Y (Y.setCell ⟨gm, b, none⟩ (.slice (some ⟨g, 0, none⟩) m cap)) := (Turned.refl (Just gm) Y).setCell (p := ⟨gm, b, none⟩) (fun _ => rfl) _
  have gne : g ≠ gm := by
    rcases hgg with e | e
    · exact hX'.ne hv e
    · have := hX'.at'.lt
      omega
  have lt := hX'.at'.lt
  refine ⟨by rw [List.length_set]; exact h.len, hY.put b _, fun j u hj => ?_, fun i j u1 u2 r hij h1 h2 e1 e2 => ?_⟩
  · rw [List.getElem?_set] at hj
    by_cases e : b = j
    · subst e
      rw [if_pos rfl] at hj
      split at hj
      · injection hj with hj
        subst hj
        have := Theirs.own_turned ho T2 (fun r e h => gne ((Option.some.inj e).trans h))
        rwa [hm] at this ⊢
      · cases hj
    · rw [if_neg e] at hj
      rw [hf j (fun h => e h.symm)]
      have a1 := Theirs.own_turned (hX'.own j u hj) T (fun r e1 e2 => h.apart b j v u r e hv hj e2 e1)
      exact Theirs.own_turned a1 T2 (fun r e1 h => hX'.ne hj e1 h)
  · have key : ∀ j u r, j ≠ b → vs[j]? = some u → u.ownBlock = some r → r ≠ g := by
      intro j u r hjb hj hr e
      subst e
      rcases hgg with e | e
      · exact h.apart b j v u r (fun h => hjb h.symm) hv hj e hr
      · have := ((hX'.own j u hj).lt r hr).2
        omega
    rw [List.getElem?_set] at h1 h2
    by_cases ei : b = i
    · subst ei
      rw [if_neg hij] at h2
      rw [if_pos rfl] at h1
      split at h1
      · injection h1 with h1
        subst h1
        injection e1 with e1
        exact key j u2 r (fun h => hij h.symm) h2 e2 e1.symm
      · cases h1
    · rw [if_neg ei] at h1
      by_cases ej : b = j
      · subst ej
        rw [if_pos rfl] at h2
        split at h2
        · injection h2 with h2
          subst h2
          injection e2 with e2
          exact key i u1 r hij h1 e1 e2.symm
        · cases h2
      · rw [if_neg ej] at h2
        exact h.apart i j u1 u2 r hij h1 h2 e1 e2
theorem run_eq_ppg (a b : PageM) (w : World) : (Op.equalIn 10000 73 (.agg (pgC a).toArray) (.agg (pgC b).toArray)).run Tryz.prog w = .ok (decide (a = b)) w := by
  rw [← pg_dec]
  exact run_eq_page 9997 _ _ _ _ _ _ _ _ _ _ _ _ _ _ w
def HStP (d : Option Tmp) (x y : Operand) (ty : TypeId) (pos : String) (af : Array Edge) (gd : Option (Nat × Bool)) (a : Go.Act) (w : World) (K : Go.Act → World → Prop) (Q : Exit → Go.Act → World → Prop) : Prop :=
  Oper.wp Tryz.prog ⟨d, .store 73 x y, ty, pos, af, gd⟩ a w K Q
theorem h_stP (d : Option Tmp) (x y : Operand) (ty : TypeId) (pos : String) (af : Array Edge) (gd : Option (Nat × Bool)) (a : Go.Act) (w : World) (K : Go.Act → World → Prop) (Q : Exit → Go.Act → World → Prop) :
    Oper.wp Tryz.prog ⟨d, .store 73 x y, ty, pos, af, gd⟩ a w K Q = HStP d x y ty pos af gd a w K Q := rfl
theorem HStP.of {d : Option Tmp} {x y : Operand} {ty T : TypeId} {pos : String} {af : Array Edge} {gd : Option (Nat × Bool)} {a : Go.Act} {w : World} {K : Go.Act → World → Prop} {Q : Exit → Go.Act → World → Prop} {M : Nat} {cs : List Value} {p : PageM}
    (hx : a.eval x = .pointer (some ⟨M, 0, none⟩)) (hy : a.eval y = .agg (pgC p).toArray) (hA : At w M T cs) (hn : cs.length = 7)
    (h : ∀ w', At w' M T (pgC p) → Turned (Just M) w w' → K (a.put d undef) w') : HStP d x y ty pos af gd a w K Q := by
  have hA' : At w M T ([] ++ (cs ++ [])) := by simpa using hA
  have ht : w.there M 0 (pgC p).toArray.size := by
    have := At.there (pre := []) hA'
    rw [hn] at this
    simpa [pgC_len] using this
  refine wp_store_mid 73 x y rfl M 0 (pgC p).toArray hx hy ht (by simp [ppg_sizeM, pgC_len]) (one_all (pgC_one p)) ?_
  exact h _ (by simpa using At.setCells (pgC p) [] cs hA' (by rw [hn, pgC_len])) (by simpa using turned_setCells M (pgC p) 0 w)
def HBdP (d : Option Tmp) (x : Operand) (ty : TypeId) (pos : String) (af : Array Edge) (gd : Option (Nat × Bool)) (a : Go.Act) (w : World) (K : Go.Act → World → Prop) (Q : Exit → Go.Act → World → Prop) : Prop :=
  Oper.wp Tryz.prog ⟨d, .buildSlice 203 1 #[(0, x)], ty, pos, af, gd⟩ a w K Q
set_option maxRecDepth 100000 in
theorem HBdP.of {d : Option Tmp} {x : Operand} {ty : TypeId} {pos : String} {af : Array Edge} {gd : Option (Nat × Bool)} {a : Go.Act} {w : World} {K : Go.Act → World → Prop} {Q : Exit → Go.Act → World → Prop} {p : PageM} {i : TypeInfo} (hi : Tryz.prog.info? 73 = some i) (hz : i.zero = some (.agg (pgC pg0).toArray)) (hs : i.size = 7)
    (hx : a.eval x = .agg (pgC p).toArray) (h : K (a.put d (.slice (some ⟨w.heap.size, 0, none⟩) 1 1)) (w.alloc (.cells (pgC p).toArray 73))) : HBdP d x ty pos af gd a w K Q :=
  wp_build_one (o := ⟨d, .buildSlice 203 1 #[(0, x)], ty, pos, af, gd⟩) (T := 203) (e := 73) (n := 7) x rfl hx Tryz.underlying203 hi hz hs (show (pgC p).toArray.size = 7 from by simp [pgC_len]) (by omega) (by omega) h
def HApP (d : Option Tmp) (x y : Operand) (ty : TypeId) (pos : String) (af : Array Edge) (gd : Option (Nat × Bool)) (a : Go.Act) (w : World) (K : Go.Act → World → Prop) (Q : Exit → Go.Act → World → Prop) : Prop :=
  Oper.wp Tryz.prog ⟨d, .call { callee := .builtin .append, args := #[x, y], argTypes := #[203, 203] }, ty, pos, af, gd⟩ a w K Q
theorem HApP.of {d : Option Tmp} {x y : Operand} {ty : TypeId} {pos : String} {af : Array Edge} {gd : Option (Nat × Bool)} {a : Go.Act} {w : World} {K : Go.Act → World → Prop} {Q : Exit → Go.Act → World → Prop} {p : PageM} {B r : Nat} {ps : List PageM} {v : Value} {i : TypeInfo} (hi : Tryz.prog.info? 73 = some i) (hz : i.zero = some (.agg (pgC pg0).toArray)) (hs : i.size = 7) (hby : i.bytes = 28)
    (hx : a.eval x = v) (hown : w.ownsRow B 73 7 v ps.length (pgs ps)) (hy : a.eval y = .slice (some ⟨r, 0, none⟩) 1 1) (hr : At w r 73 (pgC p)) (hn : ps.length ≤ 100000) (hb : B ≤ w.heap.size)
    (h : ∀ g cap w', w'.ownsRow B 73 7 (.slice (some ⟨g, 0, none⟩) (ps.length + 1) cap) (ps.length + 1) (pgs (ps ++ [p])) → w.grownBy w' v.ownBlock → (v.ownBlock = some g ∨ g = w.heap.size) → K (a.put d (.slice (some ⟨g, 0, none⟩) (ps.length + 1) cap)) w') : HApP d x y ty pos af gd a w K Q := by
  refine wp_append_lies w x y 203 rfl B 73 i _ 7 28 Tryz.underlying203 hi hz hs hby (by simp [Value.cells, pgC_len]) (by omega) v ps.length _ hx hown ⟨r, 0, none⟩ 1 1 (pgC p) hy rfl hr.news_at (pgC_one p) (by omega) (by unfold maxLen; omega) (by omega) hb _ rfl ?_
  intro g cap w' h1 h2 h3 _
  exact h g cap w' (by rw [show pgs (ps ++ [p]) = pgs ps ++ pgC p by unfold pgs; simp]; exact h1) h2 h3
theorem At.two1 {w : World} (o o' : Obj) (t : TypeId) (cs : List Value) (ho : o = .cells cs.toArray t) : At ((w.alloc o).alloc o').drew w.heap.size t cs := ((At.alloc_new o t cs rfl ho).alloc o').drew
theorem At.two2 {w : World} (o o' : Obj) (t : TypeId) (cs : List Value) (ho : o' = .cells cs.toArray t) : At ((w.alloc o).alloc o').drew (w.heap.size + 1) t cs := (At.alloc_new (w := w.alloc o) o' t cs (by simp) ho).drew
attribute [local go_sem ↓] Go.wp_at_zero Go.wp_at_succ h_stP
section
variable {B p f q s k g : Nat} {K : Nat → Prop} {d : DrvM} {x : StoM} {w w' : World}
set_option maxRecDepth 100000 in
set_option maxHeartbeats 4000000 in
theorem Sto.moves (h : Sto B p f q s k g K d x w) (k3 : 3 ≤ k) {mb mn : Nat} {G : BitVec 32 → Option (PlM × PlM)} (hM : MapC w mb mn G) (hG : ∀ s y, G s = some y → ∃ b : Nat, b < k ∧ y.1.b = (b : Int)) :
    Calls Tryz.prog 146 #[.pointer (some ⟨s, 0, none⟩), .map (some mb)] w fun e w' => ∃ gm, e = .returned (.slice (some ⟨gm, 0, none⟩) k k) ∧ RowMM w.heap.size gm k (mvOf G ((k - 3) * 6)) w' ∧ w.heap.size ≤ gm ∧ Below w.heap.size w w' := by
  have hzc := co_zero
  have hk2 := h.k2
  have c1 : w.cell? ⟨s, 1, none⟩ = some (.slice (some ⟨g, 0, none⟩) k k) := by rw [h.c1, h.len]
  have SE := Lib.hid (fun W (hW : Below w.heap.size w W) => (h.below hW).sectors)
  obtain ⟨S, hS⟩ : ∃ S : Nat, S = (k - 3) * 6 := ⟨_, rfl⟩
  have hS2 : secs k = (S : Int) := by unfold secs; omega
  have HS2 := Lib.hid hS2
  have hS512 : (S : Int) ≤ 400 := by omega
  rw [← hS]
  have HM := Lib.hid hM
  have HG := Lib.hid hG
  obtain ⟨i0, hin, hz0, hz1, hz2⟩ := info_parts (show (Tryz.prog.info? 203).map (fun i => (i.zero, i.size, i.bytes)) = some (some (.slice none 0 0), 1, 24) by kernel_rfl)
  obtain ⟨i1, hin1, hz01, hz11, hz21⟩ := info_parts (show (Tryz.prog.info? 73).map (fun i => (i.zero, i.size, i.bytes)) = some (some (.agg (pgC pg0).toArray), 7, 28) by kernel_rfl)
  clear h hM hG hS hS2
  go_enter Tryz.func146, Tryz.ntmps146
  have hmade : (madeCells (Value.cells (.slice none 0 0)) (k * 1)).toList = List.replicate k (.slice none 0 0) := by
    rw [Nat.mul_one]
    apply List.ext_getElem
    · simp [madeCells]
    · intro i h1 h2
      simp [madeCells, Value.cells, Nat.mod_one]
  have HMD := Lib.hid hmade
  clear hmade
  go_wp2_with (first
    | (at_make; refine wpList_make_full _ rfl _ _ _ rfl w.heap.size 203 i0 _ 1 Tryz.underlying204 hin hz0 hz1 .i64 .i64 (k : Int) (k : Int) k rfl rfl rfl rfl (by rw [hz2]; omega) (by unfold maxLen; omega) (Nat.le_refl _) ?_; intro w1 hown hgr; rw [HMD.out] at hown; have HOWN := Lib.hid hown; have HB1 : Hid (Below w.heap.size w w1) := Lib.hid ((Below.refl _ w).grown hgr (Nat.le_refl _) (fun k e => by cases e)); clear hown hgr)
    | (go_at_call 37; (with_reducible refine (SE.out _ HB1.out).mono ?_); rintro e w2 ⟨rfl, hw⟩; obtain rfl := hw.symm; rw [HS2.out]))
  have HR1 : Hid (RowMM w.heap.size w.heap.size k (mvOf G 0) w1) := Lib.hid (by
    obtain ⟨rest, h1, h2, _⟩ := at_of_own HOWN.out
    have hr : rest = [] := by
      rw [List.length_append, List.length_replicate] at h2
      exact List.eq_nil_of_length_eq_zero (by omega)
    rw [hr, List.append_nil] at h1
    refine ⟨_, List.length_replicate, h1, fun j v hj => ?_, fun i j v u r _ h2 h3 h4 h5 => ?_⟩
    · rw [List.getElem?_replicate] at hj
      split at hj
      · injection hj with hj
        rw [← hj]
        exact World.ownsRow_nil _ _ _ _
      · cases hj
    · rw [List.getElem?_replicate] at h2
      split at h2
      · injection h2 with h2
        rw [← h2] at h4
        cases h4
      · cases h2)
  go_loopw [19] (fun i wr => ∃ j : Nat, j ≤ S ∧ i = .int .i64 j ∧ RowMM w.heap.size w.heap.size k (mvOf G j) wr ∧ MapC wr mb mn G ∧ Below w.heap.size w wr) (fun i _ => S - (intOf i).toNat)
  case atStart => exact ⟨0, by omega, rfl, HR1.out, HM.out.below HB1.out, HB1.out⟩
  case round =>
    obtain ⟨j, hj, rfl, hr, hm, hb⟩ := hrel
    have HR := Lib.hid hr
    have HMM := Lib.hid hm
    have HB := Lib.hid hb
    clear hr hm hb c1
    by_cases hlt : j < S
    · have j0 : (0 : Int) ≤ (j : Int) := by omega
      have j1 : (j : Int) < (S : Int) := by omega
      have HU : Hid (U (BitVec.ofNat 32 j) = (j : Int)) := Lib.hid (U_ofNat j (by omega))
      obtain ⟨y, hy⟩ : ∃ y, y = (G (BitVec.ofNat 32 j)).getD co0 := ⟨_, rfl⟩
      obtain ⟨is, his⟩ : ∃ is, is = (G (BitVec.ofNat 32 j)).isSome := ⟨_, rfl⟩
      have HY := Lib.hid hy
      have HIS := Lib.hid his
      clear hy his
      go_upto_region 6 with (first
        | (refine wpList_lookC2 _ _ (BitVec.ofNat 32 j) rfl rfl rfl (by rw [HU.out]; rfl) HMM.out ?_; rw [← HY.out, ← HIS.out])
        | (refine wpList_stm (pre := []) (post := []) (xs := coC co0) (ys := coC y) _ _ rfl rfl rfl rfl co_size (coC_len _) (coC_len _) (coC_one _) rfl (by simp) (At.news wr _ (coC co0)) ?_; intro w4 A4 T4; rw [List.nil_append, List.append_nil] at A4; have HA4 := Lib.hid A4; have HT4 : Hid (Below wr.heap.size wr w4) := Lib.hid (((Below.refl _ wr).alloc (Nat.le_refl _) _).trans (T4.below (fun i hi => by unfold Just at hi; omega) (by simp))); clear A4 T4))
      obtain ⟨bx, hbx⟩ : ∃ bx, bx = wr.heap.size := ⟨_, rfl⟩
      rw [← hbx] at HA4 ⊢
      have HBX := Lib.hid hbx
      clear hbx
      have HBXL : Hid (bx < w4.heap.size) := Lib.hid HA4.out.lt
      have l2 : ∀ W, At W bx 207 (coC y) → W.cell? ⟨bx, 2, none⟩ = some (.int .u32 (U y.1.p.s)) := fun W h => h.cell 2
      have l3 : ∀ W, At W bx 207 (coC y) → W.cell? ⟨bx, 3, none⟩ = some (.int .u32 (U y.1.p.q)) := fun W h => h.cell 3
      have l4 : ∀ W, At W bx 207 (coC y) → W.cell? ⟨bx, 4, none⟩ = some (.bool y.1.p.g) := fun W h => h.cell 4
      have l5 : ∀ W, At W bx 207 (coC y) → W.cell? ⟨bx, 5, none⟩ = some (.int .u32 (U y.1.p.d0)) := fun W h => h.cell 5
      have l6 : ∀ W, At W bx 207 (coC y) → W.cell? ⟨bx, 6, none⟩ = some (.int .u32 (U y.1.p.d1)) := fun W h => h.cell 6
      have l7 : ∀ W, At W bx 207 (coC y) → W.cell? ⟨bx, 7, none⟩ = some (.int .u32 (U y.1.p.d2)) := fun W h => h.cell 7
      have l8 : ∀ W, At W bx 207 (coC y) → W.cell? ⟨bx, 8, none⟩ = some (.int .u32 (U y.1.p.d3)) := fun W h => h.cell 8
      have m2 : ∀ W, At W bx 207 (coC y) → W.cell? ⟨bx, 11, none⟩ = some (.int .u32 (U y.2.p.s)) := fun W h => h.cell 11
      have m3 : ∀ W, At W bx 207 (coC y) → W.cell? ⟨bx, 12, none⟩ = some (.int .u32 (U y.2.p.q)) := fun W h => h.cell 12
      have m4 : ∀ W, At W bx 207 (coC y) → W.cell? ⟨bx, 13, none⟩ = some (.bool y.2.p.g) := fun W h => h.cell 13
      have m5 : ∀ W, At W bx 207 (coC y) → W.cell? ⟨bx, 14, none⟩ = some (.int .u32 (U y.2.p.d0)) := fun W h => h.cell 14
      have m6 : ∀ W, At W bx 207 (coC y) → W.cell? ⟨bx, 15, none⟩ = some (.int .u32 (U y.2.p.d1)) := fun W h => h.cell 15
      have m7 : ∀ W, At W bx 207 (coC y) → W.cell? ⟨bx, 16, none⟩ = some (.int .u32 (U y.2.p.d2)) := fun W h => h.cell 16
      have m8 : ∀ W, At W bx 207 (coC y) → W.cell? ⟨bx, 17, none⟩ = some (.int .u32 (U y.2.p.d3)) := fun W h => h.cell 17
      go_region_held3 (fun W => At W bx 207 (coC y)) (first | assumption | exact HA4.out | exact At.drew HA4.out | exact At.alloc (by assumption) _ | exact At.alloc (At.alloc (by assumption) _) _ | exact At.kept (by assumption) HT6.out (by unfold Just; have := HBXL.out; simp; omega) | exact At.kept (by assumption) HT5.out (by unfold Just; have := HBXL.out; simp; omega)) (first
        | ((refine HStP.of (T := 73) (cs := pgC pg0) (p := y.1.p) (by rfl) (by rfl) ?_ rfl ?_); (· (first | exact At.two1 _ _ _ (pgC pg0) rfl | exact At.two2 _ _ _ (pgC pg0) rfl | exact At.kept (At.two1 _ _ _ (pgC pg0) rfl) HT6.out (by unfold Just; simp) | exact At.kept (At.two2 _ _ _ (pgC pg0) rfl) HT6.out (by unfold Just; simp))); intro w5 A5 T5; have HA5 := Lib.hid A5; have HT5 := Lib.hid T5; clear A5 T5)
        | ((refine HStP.of (T := 73) (cs := pgC pg0) (p := y.2.p) (by rfl) (by rfl) ?_ rfl ?_); (· (first | exact At.two1 _ _ _ (pgC pg0) rfl | exact At.two2 _ _ _ (pgC pg0) rfl | exact At.kept (At.two1 _ _ _ (pgC pg0) rfl) HT5.out (by unfold Just; simp) | exact At.kept (At.two2 _ _ _ (pgC pg0) rfl) HT5.out (by unfold Just; simp))); intro w6 A6 T6; have HA6 := Lib.hid A6; have HT6 := Lib.hid T6; clear A6 T6))
      all_goals
        have AB := Lib.hid (show At w6 bx 207 (coC y) by assumption)
        have A10 := HA6
        have A9 : Hid (At w6 _ 73 (pgC y.1.p)) := Lib.hid (At.kept HA5.out HT6.out (by unfold Just; omega))
        have HB6 : Hid (Below wr.heap.size wr w6) := Lib.hid (by
          have h4 := HT4.out
          have h5 := (((Turned.of_below h4 (Nat.le_refl _) NoBlock).alloc _).alloc _).drew.after HT5.out (fun i hi h => by unfold Just at h; have := h4.size; omega)
          exact (h5.after HT6.out (fun i hi h => by unfold Just at h; have := h4.size; omega)).below (fun k hk => hk.elim) (Nat.le_refl _))
        clear HT5 HT6 HA5
        have p0 : w6.cell? ⟨_, 0, none⟩ = some (.int .u32 (U y.1.p.s)) := A9.out.cell 0
        have p1 : w6.cell? ⟨_, 1, none⟩ = some (.int .u32 (U y.1.p.q)) := A9.out.cell 1
        have p2 : w6.cell? ⟨_, 2, none⟩ = some (.bool y.1.p.g) := A9.out.cell 2
        have p3 : w6.cell? ⟨_, 3, none⟩ = some (.int .u32 (U y.1.p.d0)) := A9.out.cell 3
        have p4 : w6.cell? ⟨_, 4, none⟩ = some (.int .u32 (U y.1.p.d1)) := A9.out.cell 4
        have p5 : w6.cell? ⟨_, 5, none⟩ = some (.int .u32 (U y.1.p.d2)) := A9.out.cell 5
        have p6 : w6.cell? ⟨_, 6, none⟩ = some (.int .u32 (U y.1.p.d3)) := A9.out.cell 6
        have o0 : w6.cell? ⟨_, 0, none⟩ = some (.int .u32 (U y.2.p.s)) := A10.out.cell 0
        have o1 : w6.cell? ⟨_, 1, none⟩ = some (.int .u32 (U y.2.p.q)) := A10.out.cell 1
        have o2 : w6.cell? ⟨_, 2, none⟩ = some (.bool y.2.p.g) := A10.out.cell 2
        have o3 : w6.cell? ⟨_, 3, none⟩ = some (.int .u32 (U y.2.p.d0)) := A10.out.cell 3
        have o4 : w6.cell? ⟨_, 4, none⟩ = some (.int .u32 (U y.2.p.d1)) := A10.out.cell 4
        have o5 : w6.cell? ⟨_, 5, none⟩ = some (.int .u32 (U y.2.p.d2)) := A10.out.cell 5
        have o6 : w6.cell? ⟨_, 6, none⟩ = some (.int .u32 (U y.2.p.d3)) := A10.out.cell 6
        have pf : w6.frozen? ⟨_, 1, none⟩ = false := A9.out.frozen 1
        cases is
        · go_wp2
          go_roundw
          case rel => exact ⟨j + 1, by omega, by go_num, by rw [mv_stay HY.out (.inl HIS.out.symm)]; exact HR.out.below HB6.out, HMM.out.below HB6.out, HB.out.trans (HB6.out.mono HB.out.size)⟩
          case measure => simp [intOf]; omega
        · by_cases c2 : y.1.p = y.2.p
          · have hE : ∀ W, (Op.equalIn 10000 73 (.agg #[.int .u32 (U y.1.p.s), .int .u32 (U y.1.p.q), .bool y.1.p.g, .int .u32 (U y.1.p.d0), .int .u32 (U y.1.p.d1), .int .u32 (U y.1.p.d2), .int .u32 (U y.1.p.d3)]) (.agg #[.int .u32 (U y.2.p.s), .int .u32 (U y.2.p.q), .bool y.2.p.g, .int .u32 (U y.2.p.d0), .int .u32 (U y.2.p.d1), .int .u32 (U y.2.p.d2), .int .u32 (U y.2.p.d3)])).run Tryz.prog W = .ok true W := fun W => (run_eq_ppg y.1.p y.2.p W).trans (by rw [decide_eq_true c2])
            have C2 := Lib.hid c2
            clear c2
            go_wp2
            go_roundw
            case rel => exact ⟨j + 1, by omega, by go_num, by rw [mv_stay HY.out (.inr (.inl C2.out))]; exact HR.out.below HB6.out, HMM.out.below HB6.out, HB.out.trans (HB6.out.mono HB.out.size)⟩
            case measure => simp [intOf]; omega
          · have hE : ∀ W, (Op.equalIn 10000 73 (.agg #[.int .u32 (U y.1.p.s), .int .u32 (U y.1.p.q), .bool y.1.p.g, .int .u32 (U y.1.p.d0), .int .u32 (U y.1.p.d1), .int .u32 (U y.1.p.d2), .int .u32 (U y.1.p.d3)]) (.agg #[.int .u32 (U y.2.p.s), .int .u32 (U y.2.p.q), .bool y.2.p.g, .int .u32 (U y.2.p.d0), .int .u32 (U y.2.p.d1), .int .u32 (U y.2.p.d2), .int .u32 (U y.2.p.d3)])).run Tryz.prog W = .ok false W := fun W => (run_eq_ppg y.1.p y.2.p W).trans (by rw [decide_eq_false c2])
            have C2 := Lib.hid c2
            clear c2
            by_cases c3 : y.1.p.g = true ∧ y.2.p.q = 0#32
            · have q1 : U y.2.p.q = 0 := by rw [c3.2]; rfl
              have g1 := c3.1
              rw [g1] at p2 hE
              rw [q1] at hE
              rw [g1]
              have C3 := Lib.hid c3
              clear g1 c3
              go_wp2
              go_roundw
              case rel => exact ⟨j + 1, by omega, by go_num, by rw [mv_stay HY.out (.inr (.inr C3.out))]; exact HR.out.below HB6.out, HMM.out.below HB6.out, HB.out.trans (HB6.out.mono HB.out.size)⟩
              case measure => simp [intOf]; omega
            · have C3 := Lib.hid c3
              clear c3
              have HP2 : Hid (y.1.p.g = false ∨ y.1.p.g = true ∧ U y.2.p.q ≠ 0) := Lib.hid (by
                cases hg : y.1.p.g
                · exact .inl rfl
                · exact .inr ⟨rfl, fun h => C3.out ⟨hg, U_inj (by rw [h]; rfl)⟩⟩)
              rcases HP2.out with g1 | ⟨g1, q1⟩
              all_goals
                rw [g1] at p2 hE
                rw [g1]
                have G1 := Lib.hid g1
                clear g1
                go_upto_region 9 with fail
              all_goals
                first
                  | (obtain ⟨W8, hW8⟩ : ∃ W8, W8 = w6.setCell ⟨w4.heap.size, 1, none⟩ (.int .u32 ((U y.2.p.q + 1) % 4294967296)) := ⟨_, rfl⟩; rw [← hW8])
                  | (obtain ⟨W8, hW8⟩ : ∃ W8, W8 = w6.setCell ⟨w4.heap.size + 1, 1, none⟩ (.int .u32 ((U y.2.p.q + 1) % 4294967296)) := ⟨_, rfl⟩; rw [← hW8])
                have T8 : Turned (fun i => w4.heap.size ≤ i) w6 W8 := by rw [hW8]; exact (Turned.refl (fun i => w4.heap.size ≤ i) w6).setCell (fun _ => by simp) _
                obtain ⟨p9, hp9⟩ : ∃ p9 : PageM, p9 = { y.1.p with q := y.2.p.q + 1#32 } := ⟨_, rfl⟩
                have A9' := A9.out.put 1 (.int .u32 ((U y.2.p.q + 1) % 4294967296))
                rw [← hW8, show (pgC y.1.p).set 1 (.int .u32 ((U y.2.p.q + 1) % 4294967296)) = pgC p9 from by rw [hp9, show (U y.2.p.q + 1) % 4294967296 = U (y.2.p.q + 1#32) from U_add y.2.p.q 1#32]; rfl] at A9'
                have AB' : Hid (At W8 bx 207 (coC y)) := Lib.hid (AB.out.kept T8 (by have := HBXL.out; omega))
                have HB8 : Hid (Below wr.heap.size wr W8) := Lib.hid (((Turned.of_below HB6.out (Nat.le_refl _) NoBlock).after T8 (fun i hi h => by have := HT4.out.size; omega)).below (fun k hk => hk.elim) (Nat.le_refl _))
                have HP9 := Lib.hid hp9
                first
                  | (obtain ⟨b9, hb9⟩ : ∃ b9, b9 = w4.heap.size := ⟨_, rfl⟩; have A99 : At W8 b9 73 (pgC p9) := by (rw [hb9]; exact A9'))
                  | (obtain ⟨b9, hb9⟩ : ∃ b9, b9 = w4.heap.size + 1 := ⟨_, rfl⟩; have A99 : At W8 b9 73 (pgC p9) := by (rw [hb9]; exact A9'))
                rw [← hb9]
                have HA99 := Lib.hid A99
                have HB9 : Hid (w4.heap.size ≤ b9) := Lib.hid (by omega)
                clear T8 A9' A99 hb9 hp9 hW8 l2 l3 l4 l5 l6 l7 l8 m2 m3 m4 m5 m6 m7 m8 p0 p1 p2 p3 p4 p5 p6 o0 o1 o2 o3 o4 o5 o6 pf hE
                obtain ⟨b, hbk, hyb⟩ : ∃ b : Nat, b < k ∧ y.1.b = (b : Int) := by
                  cases hG : G (BitVec.ofNat 32 j) with
                  | none => rw [hG] at HIS; exact absurd HIS.out (by simp)
                  | some z =>
                    have e := HY.out
                    rw [hG] at e
                    have : y = z := e
                    subst this
                    exact HG.out _ _ hG
                have HYB := Lib.hid hyb
                have b1 : (b : Int) < (k : Int) := by omega
                have b2 : (0 : Int) ≤ (b : Int) := by omega
                have n0 : ∀ W, At W bx 207 (coC y) ∧ At W b9 73 (pgC p9) → W.cell? ⟨bx, 0, none⟩ = some (.int .i64 (b : Int)) := fun W h => by rw [← HYB.out]; exact h.1.cell 0
                have q0 : ∀ W, At W bx 207 (coC y) ∧ At W b9 73 (pgC p9) → W.cell? ⟨b9, 0, none⟩ = some (.int .u32 (U p9.s)) := fun W h => h.2.cell 0
                have q1 : ∀ W, At W bx 207 (coC y) ∧ At W b9 73 (pgC p9) → W.cell? ⟨b9, 1, none⟩ = some (.int .u32 (U p9.q)) := fun W h => h.2.cell 1
                have q2 : ∀ W, At W bx 207 (coC y) ∧ At W b9 73 (pgC p9) → W.cell? ⟨b9, 2, none⟩ = some (.bool p9.g) := fun W h => h.2.cell 2
                have q3 : ∀ W, At W bx 207 (coC y) ∧ At W b9 73 (pgC p9) → W.cell? ⟨b9, 3, none⟩ = some (.int .u32 (U p9.d0)) := fun W h => h.2.cell 3
                have q4 : ∀ W, At W bx 207 (coC y) ∧ At W b9 73 (pgC p9) → W.cell? ⟨b9, 4, none⟩ = some (.int .u32 (U p9.d1)) := fun W h => h.2.cell 4
                have q5 : ∀ W, At W bx 207 (coC y) ∧ At W b9 73 (pgC p9) → W.cell? ⟨b9, 5, none⟩ = some (.int .u32 (U p9.d2)) := fun W h => h.2.cell 5
                have q6 : ∀ W, At W bx 207 (coC y) ∧ At W b9 73 (pgC p9) → W.cell? ⟨b9, 6, none⟩ = some (.int .u32 (U p9.d3)) := fun W h => h.2.cell 6
                obtain ⟨vs, hv0⟩ := HR.out
                have hv := hv0.below HB8.out
                have HV := Lib.hid hv
                obtain ⟨v, hvb⟩ : ∃ v, vs[b]? = some v := ⟨_, List.getElem?_eq_getElem (by rw [hv.len]; exact hbk)⟩
                have HVB := Lib.hid hvb
                have HVL : Hid (∀ r, v.ownBlock = some r → w.heap.size ≤ r ∧ r < wr.heap.size) := Lib.hid (fun r e => (hv0.own b v hvb).lt r e)
                have HNE : Hid (w.heap.size < wr.heap.size ∧ wr.heap.size ≤ bx ∧ wr.heap.size ≤ b9) := Lib.hid ⟨hv0.at'.lt, by rw [HBX.out]; exact Nat.le_refl _, Nat.le_trans HT4.out.size HB9.out⟩
                have r0 : W8.cell? ⟨w.heap.size, b, none⟩ = some v := by rw [← hvb]; exact hv.at'.cell b
                have r1 : ∀ o, (W8.alloc o).cell? ⟨w.heap.size, b, none⟩ = some v := fun o => by rw [← hvb]; exact (hv.at'.alloc o).cell b
                have KEY : Hid (∀ (w9 : World) (g cap : Nat), w9.ownsRow w.heap.size 73 7 (.slice (some ⟨g, 0, none⟩) ((mvOf G j b).length + 1) cap) ((mvOf G j b).length + 1) (pgs (mvOf G j b ++ [p9])) → (W8.alloc (.cells (pgC p9).toArray 73)).grownBy w9 v.ownBlock → (v.ownBlock = some g ∨ g = (W8.alloc (.cells (pgC p9).toArray 73)).heap.size) →
                    (At w9 bx 207 (coC y) ∧ At w9 b9 73 (pgC p9)) ∧ w9.cell? ⟨w.heap.size, b, none⟩ = some v ∧ w9.frozen? ⟨w.heap.size, b, none⟩ = false ∧
                    Hid (RowMM w.heap.size w.heap.size k (mvOf G (j + 1)) (w9.setCell ⟨w.heap.size, b, none⟩ (.slice (some ⟨g, 0, none⟩) ((mvOf G j b).length + 1) cap)) ∧ Below w.heap.size w (w9.setCell ⟨w.heap.size, b, none⟩ (.slice (some ⟨g, 0, none⟩) ((mvOf G j b).length + 1) cap)))) := Lib.hid (fun w9 g cap ho hg hgg => by
                  have T9 : Turned (fun r => v.ownBlock = some r) (W8.alloc (.cells (pgC p9).toArray 73)) w9 := (Turned.refl _ _).grown hg (fun k e _ => e)
                  have ha := ((HV.out.at'.alloc (.cells (pgC p9).toArray 73)).kept T9 (fun e => (HV.out.ne HVB.out e) rfl))
                  have hne := HNE.out
                  refine ⟨⟨(AB'.out.alloc _).kept T9 (fun e => ?_), (HA99.out.alloc _).kept T9 (fun e => ?_)⟩, by rw [← HVB.out]; exact ha.cell b, ha.frozen b, Lib.hid ⟨⟨_, HV.out.put HVB.out ((Below.refl _ W8).alloc (Nat.le_refl _) _) hg hgg ?_ ?_ ?_⟩, ?_⟩⟩
                  · have := (HVL.out _ e).2
                    omega
                  · have := (HVL.out _ e).2
                    omega
                  · have := (mv_more HY.out HIS.out C2.out C3.out HYB.out).1
                    rw [← HP9.out] at this
                    rw [this]
                    exact ho
                  · have := (mv_more HY.out HIS.out C2.out C3.out HYB.out).1
                    rw [this, List.length_append]
                    rfl
                  · exact fun i hi => (mv_more HY.out HIS.out C2.out C3.out HYB.out).2 i hi
                  · have hb := HB.out.trans (HB8.out.mono HB.out.size)
                    exact ((((Turned.of_below hb (Nat.le_refl _) (fun r => w.heap.size ≤ r)).alloc _).grown hg (fun k e _ => (HVL.out _ e).1)).setCell (p := ⟨w.heap.size, b, none⟩) (fun _ => Nat.le_refl _) _).below (fun k h => h) (Nat.le_refl _))
                have HNX : Hid (bx ≠ w.heap.size) := Lib.hid (by have := HNE.out; omega)
                have HN9 : Hid (b9 ≠ w.heap.size) := Lib.hid (by have := HNE.out; omega)
                clear hv0 hv hvb hyb
                refine wp_region_held_drew (S := (fun W => At W bx 207 (coC y) ∧ At W b9 73 (pgC p9))) (by kernel_rfl) ⟨AB'.out.drew, HA99.out.drew⟩ (fun hHeld => ?_)
                refine wpAnyH_take (i := 0) (v := .slice (some ⟨w.heap.size, 0, none⟩) k k) rfl (by kernel_rfl) (by kernel_rfl) (by kernel_rfl) (fun _ _ _ h => h) (Or.inl ⟨by rfl, fun w hS => (by go_simp)⟩) (by assumption) ?_
                simp only [List.getElem_toArray, List.getElem_cons_zero, Act.put, List.setIfInBounds_toArray, List.set_cons_zero, List.set_cons_succ]
                refine wpAnyH_take (i := 1) (v := .pointer (some ⟨bx, 0, none⟩)) rfl (by kernel_rfl) (by kernel_rfl) (by kernel_rfl) (fun _ _ _ h => h) (Or.inl ⟨by rfl, fun w hS => (by go_simp)⟩) (by assumption) ?_
                simp only [List.getElem_toArray, List.getElem_cons_zero, List.getElem_cons_succ, Act.put, List.setIfInBounds_toArray, List.set_cons_zero, List.set_cons_succ]
                refine wpAnyH_take (i := 2) (v := .pointer (some ⟨bx, 0, none⟩)) rfl (by kernel_rfl) (by kernel_rfl) (by kernel_rfl) (fun _ _ _ h => h) (Or.inl ⟨by rfl, fun w hS => (by go_simp)⟩) (by assumption) ?_
                simp only [List.getElem_toArray, List.getElem_cons_zero, List.getElem_cons_succ, Act.put, List.setIfInBounds_toArray, List.set_cons_zero, List.set_cons_succ]
                refine wpAnyH_take (i := 3) (v := .int .i64 (b : Int)) rfl (by kernel_rfl) (by kernel_rfl) (by kernel_rfl) (fun _ _ _ h => h) (Or.inl ⟨by rfl, fun w hS => (by go_simp)⟩) (by assumption) ?_
                simp only [List.getElem_toArray, List.getElem_cons_zero, List.getElem_cons_succ, Act.put, List.setIfInBounds_toArray, List.set_cons_zero, List.set_cons_succ]
                refine wpAnyH_take (i := 4) (v := .slice (some ⟨w.heap.size, 0, none⟩) k k) rfl (by kernel_rfl) (by kernel_rfl) (by kernel_rfl) (fun _ _ _ h => h) (Or.inl ⟨by rfl, fun w hS => (by go_simp)⟩) (by assumption) ?_
                simp only [List.getElem_toArray, List.getElem_cons_zero, List.getElem_cons_succ, Act.put, List.setIfInBounds_toArray, List.set_cons_zero, List.set_cons_succ]
                refine wpAnyH_take (i := 5) (v := .pointer (some ⟨bx, 0, none⟩)) rfl (by kernel_rfl) (by kernel_rfl) (by kernel_rfl) (fun _ _ _ h => h) (Or.inl ⟨by rfl, fun w hS => (by go_simp)⟩) (by assumption) ?_
                simp only [List.getElem_toArray, List.getElem_cons_zero, List.getElem_cons_succ, Act.put, List.setIfInBounds_toArray, List.set_cons_zero, List.set_cons_succ]
                refine wpAnyH_take (i := 6) (v := .pointer (some ⟨bx, 0, none⟩)) rfl (by kernel_rfl) (by kernel_rfl) (by kernel_rfl) (fun _ _ _ h => h) (Or.inl ⟨by rfl, fun w hS => (by go_simp)⟩) (by assumption) ?_
                simp only [List.getElem_toArray, List.getElem_cons_zero, List.getElem_cons_succ, Act.put, List.setIfInBounds_toArray, List.set_cons_zero, List.set_cons_succ]
                refine wpAnyH_take (i := 7) (v := .int .i64 (b : Int)) rfl (by kernel_rfl) (by kernel_rfl) (by kernel_rfl) (fun _ _ _ h => h) (Or.inl ⟨by rfl, fun w hS => (by go_simp)⟩) (by assumption) ?_
                simp only [List.getElem_toArray, List.getElem_cons_zero, List.getElem_cons_succ, Act.put, List.setIfInBounds_toArray, List.set_cons_zero, List.set_cons_succ]
                refine wpAnyH_take (i := 8) (v := .pointer (some ⟨w.heap.size, b, none⟩)) rfl (by kernel_rfl) (by kernel_rfl) (by kernel_rfl) (fun _ _ _ h => h) (Or.inl ⟨by rfl, fun w hS => (by go_simp)⟩) (by assumption) ?_
                simp only [List.getElem_toArray, List.getElem_cons_zero, List.getElem_cons_succ, Act.put, List.setIfInBounds_toArray, List.set_cons_zero, List.set_cons_succ]
                refine wpAnyH_take (i := 10) (v := .agg #[.int .u32 (U p9.s), .int .u32 (U p9.q), .bool p9.g, .int .u32 (U p9.d0), .int .u32 (U p9.d1), .int .u32 (U p9.d2), .int .u32 (U p9.d3)]) rfl (by kernel_rfl) (by kernel_rfl) (by kernel_rfl) (fun _ _ _ h => h) (Or.inl ⟨by rfl, fun w hS => (by go_simp)⟩) (by assumption) ?_
                simp only [List.getElem_toArray, List.getElem_cons_zero, List.getElem_cons_succ, Act.put, List.setIfInBounds_toArray, List.set_cons_zero, List.set_cons_succ]
                refine wpAnyH_ready (rs := [9, 11]) (by kernel_rfl) (by simp) ?_
                refine AllReadyH.cons (o := ⟨_, _, _, _, _, _⟩) rfl (fun K hK => ?_) (AllReadyH.cons (o := ⟨_, _, _, _, _, _⟩) rfl (fun K hK => ?_) AllReadyH.nil)
                · rw [if_pos (by rfl)]
                  go_simp
                  refine hK.out _ _ hHeld (fun hH => ?_)
                  clear hK K
                  clear hHeld
                  have hHeld := hH
                  clear hH
                  try simp only [List.getElem_toArray, List.getElem_cons_zero, List.getElem_cons_succ, Act.put, List.setIfInBounds_toArray, List.set_cons_zero, List.set_cons_succ]
                  refine wpAnyH_ready (rs := [11]) (by kernel_rfl) (by simp) ?_
                  refine AllReadyH.cons (o := ⟨_, _, _, _, _, _⟩) rfl (fun K hK => ?_) AllReadyH.nil
                  rw [if_pos (by rfl)]
                  go_simp
                  refine hK.out _ _ ⟨At.alloc hHeld.1 _, At.alloc hHeld.2 _⟩ (fun hH => ?_)
                  clear hK K
                  clear hHeld
                  have hHeld := hH
                  clear hH
                  try simp only [List.getElem_toArray, List.getElem_cons_zero, List.getElem_cons_succ, Act.put, List.setIfInBounds_toArray, List.set_cons_zero, List.set_cons_succ]
                  refine wpAnyH_ready (rs := [12]) (by kernel_rfl) (by simp) ?_
                  refine AllReadyH.cons (o := ⟨_, _, _, _, _, _⟩) rfl (fun K hK => ?_) AllReadyH.nil
                  rw [if_pos (by rfl)]
                  refine HApP.of (p := p9) (ps := mvOf G j b) (B := w.heap.size) (v := v) (r := W8.heap.size) hin1 hz01 hz11 hz21 (by rfl) ?_ (by rfl) ?_ ?_ ?_ ?_
                  · exact Theirs.own_turned (HV.out.own b v HVB.out) ((Turned.refl NoBlock W8).alloc _).drew (fun _ _ h => h)
                  · exact At.alloc_new _ _ (pgC p9) rfl rfl
                  · have := mvOf_len G j b; omega
                  · have h1 := HB.out.size; have h2 := HB8.out.size; simp; omega
                  intro g9 cap9 w9 o9 n9 h9
                  obtain ⟨s9, c9, f9, D9⟩ := KEY.out w9 g9 cap9 o9 ⟨n9.os, n9.tape, n9.output, n9.size, n9.block⟩ h9
                  clear o9 n9 h9
                  have S91 := s9.1
                  have S92 := s9.2
                  refine hK.out _ _ s9 (fun hH => ?_)
                  clear hK K
                  try simp only [Act.put, List.setIfInBounds_toArray, List.set_cons_zero, List.set_cons_succ]
                  refine wpAnyH_take (i := 13) (v := .pointer (some ⟨w.heap.size, b, none⟩)) rfl (by kernel_rfl) (by kernel_rfl) (by kernel_rfl) (fun _ _ _ h => h) (Or.inl ⟨by rfl, fun w hS => (by go_simp)⟩) (by assumption) ?_
                  simp only [List.getElem_toArray, List.getElem_cons_zero, List.getElem_cons_succ, Act.put, List.setIfInBounds_toArray, List.set_cons_zero, List.set_cons_succ]
                  refine wpAnyH_ready (rs := [14]) (by kernel_rfl) (by simp) ?_
                  refine AllReadyH.cons (o := ⟨_, _, _, _, _, _⟩) rfl (fun K hK => ?_) AllReadyH.nil
                  rw [if_pos (by rfl)]
                  go_simp
                  refine hK.out _ _ ⟨At.far S91 HNX.out _, At.far S92 HN9.out _⟩ (fun hH => ?_)
                  clear hK K
                  refine wpAnyH_done (by kernel_rfl) ?_ _
                  go_wp2_with fail
                  go_roundw
                  case rel => exact ⟨j + 1, by omega, by go_num, D9.out.1, HM.out.below D9.out.2, D9.out.2⟩
                  case measure => simp [intOf]; omega
                · rw [if_pos (by rfl)]
                  go_simp
                  refine hK.out _ _ ⟨At.alloc hHeld.1 _, At.alloc hHeld.2 _⟩ (fun hH => ?_)
                  clear hK K
                  clear hHeld
                  have hHeld := hH
                  clear hH
                  try simp only [List.getElem_toArray, List.getElem_cons_zero, List.getElem_cons_succ, Act.put, List.setIfInBounds_toArray, List.set_cons_zero, List.set_cons_succ]
                  refine wpAnyH_ready (rs := [9]) (by kernel_rfl) (by simp) ?_
                  refine AllReadyH.cons (o := ⟨_, _, _, _, _, _⟩) rfl (fun K hK => ?_) AllReadyH.nil
                  rw [if_pos (by rfl)]
                  go_simp
                  refine hK.out _ _ hHeld (fun hH => ?_)
                  clear hK K
                  clear hHeld
                  have hHeld := hH
                  clear hH
                  try simp only [List.getElem_toArray, List.getElem_cons_zero, List.getElem_cons_succ, Act.put, List.setIfInBounds_toArray, List.set_cons_zero, List.set_cons_succ]
                  refine wpAnyH_ready (rs := [12]) (by kernel_rfl) (by simp) ?_
                  refine AllReadyH.cons (o := ⟨_, _, _, _, _, _⟩) rfl (fun K hK => ?_) AllReadyH.nil
                  rw [if_pos (by rfl)]
                  refine HApP.of (p := p9) (ps := mvOf G j b) (B := w.heap.size) (v := v) (r := W8.heap.size) hin1 hz01 hz11 hz21 (by rfl) ?_ (by rfl) ?_ ?_ ?_ ?_
                  · exact Theirs.own_turned (HV.out.own b v HVB.out) ((Turned.refl NoBlock W8).alloc _).drew (fun _ _ h => h)
                  · exact At.alloc_new _ _ (pgC p9) rfl rfl
                  · have := mvOf_len G j b; omega
                  · have h1 := HB.out.size; have h2 := HB8.out.size; simp; omega
                  intro g9 cap9 w9 o9 n9 h9
                  obtain ⟨s9, c9, f9, D9⟩ := KEY.out w9 g9 cap9 o9 ⟨n9.os, n9.tape, n9.output, n9.size, n9.block⟩ h9
                  clear o9 n9 h9
                  have S91 := s9.1
                  have S92 := s9.2
                  refine hK.out _ _ s9 (fun hH => ?_)
                  clear hK K
                  try simp only [Act.put, List.setIfInBounds_toArray, List.set_cons_zero, List.set_cons_succ]
                  refine wpAnyH_take (i := 13) (v := .pointer (some ⟨w.heap.size, b, none⟩)) rfl (by kernel_rfl) (by kernel_rfl) (by kernel_rfl) (fun _ _ _ h => h) (Or.inl ⟨by rfl, fun w hS => (by go_simp)⟩) (by assumption) ?_
                  simp only [List.getElem_toArray, List.getElem_cons_zero, List.getElem_cons_succ, Act.put, List.setIfInBounds_toArray, List.set_cons_zero, List.set_cons_succ]
                  refine wpAnyH_ready (rs := [14]) (by kernel_rfl) (by simp) ?_
                  refine AllReadyH.cons (o := ⟨_, _, _, _, _, _⟩) rfl (fun K hK => ?_) AllReadyH.nil
                  rw [if_pos (by rfl)]
                  go_simp
                  refine hK.out _ _ ⟨At.far S91 HNX.out _, At.far S92 HN9.out _⟩ (fun hH => ?_)
                  clear hK K
                  refine wpAnyH_done (by kernel_rfl) ?_ _
                  go_wp2_with fail
                  go_roundw
                  case rel => exact ⟨j + 1, by omega, by go_num, D9.out.1, HM.out.below D9.out.2, D9.out.2⟩
                  case measure => simp [intOf]; omega
    · have hj' : j = S := by omega
      subst hj'
      have j1 : ¬ ((j : Int) < (j : Int)) := by omega
      go_wp2
      go_ret
      exact ⟨_, rfl, HR.out, Nat.le_refl _, HB.out⟩
end
end Go.Proofs.YtpkkejdjhnmjiaaGreat
