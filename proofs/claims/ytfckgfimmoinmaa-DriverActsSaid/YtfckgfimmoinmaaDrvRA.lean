/- The document's driver: its cells, and the contract of its helper write. | The document's driver: the contract of its helper errors. | The document's driver: the contract of its helper wait. -/
import Derived.Test.YtfckgfimmoinmaaRow
import Derived.Test.YtfckgfimmoinmaaCfiRC
import Derived.Test.YtfckgfimmoinmaaCfiRB
import Derived.Test.YtfckgfimmoinmaaDrvM
import Derived.Test.YtfckgfimmoinmaaLaw
import Derived.Deep.DrawnRows
import Derived.Deep.RegionWith
import Derived.Test.YtfckgfimmoinmaaNorSame
import Derived.Deep.LoopGhost
import Derived.Deep.Light
namespace Go.Proofs.Ytfckgfimmoinmaa
open Go.RowKit Bm

abbrev TD : TypeId := 41
def rdCells (r : Rh) (m : FlashM) (t : Int) : List Value := rfCells r m ++ [.int .i64 t]
def rdVal (r : Rh) (m : FlashM) (t : Int) : Value := .agg (rdCells r m t).toArray
def rdZero : List Value := rfZero ++ [.int .i64 0]
theorem rd_len (r : Rh) (m : FlashM) (t : Int) : (rdCells r m t).length = 78 := by simp [rdCells, rf_len]
theorem rdZero_len : rdZero.length = 78 := by decide
theorem rd_one (r : Rh) (m : FlashM) (t : Int) : ∀ u ∈ rdCells r m t, u.oneCell' = true := by
  intro u hu
  unfold rdCells at hu
  rw [List.mem_append] at hu
  rcases hu with hu | hu
  · exact rf_one r m u hu
  · rw [List.mem_singleton] at hu; rw [hu]; rfl
theorem rd_info : (Try.prog.info? 41).map (fun i => (i.zero, i.size)) = some (some (.agg rdZero.toArray), 78) := by kernel_rfl
theorem rd_zero (w : World) : (zeroValue 41).run Try.prog w = .ok (.agg rdZero.toArray) w := (zero_of_info rd_info).1 w
theorem rd_size : (Try.prog.info? 41).map (·.size) = some 78 := (zero_of_info rd_info).2
@[go_sem] theorem rdg77 (r : Rh) (m : FlashM) (t : Int) : (rdCells r m t)[77]? = some (.int .i64 t) := by
  unfold rdCells
  rw [List.getElem?_append_right (by rw [rf_len]; omega), rf_len]
  rfl
@[go_sem] theorem rds77 (r : Rh) (m : FlashM) (t x : Int) : (rdCells r m t).set 77 (.int .i64 x) = rdCells r m x := by
  unfold rdCells
  rw [List.set_append_right _ _ (by rw [rf_len]; omega), rf_len]
  rfl
theorem rd_res2 {fn : Func} {p q : Tmp} (h : fn.results = #[.cell p 41, .tmp q]) (tmps : Array Value) {w : World} {g : Nat} {cs : List Value} {v : Value} (hp : tmps.getD p undef = .pointer (some ⟨g, 0, none⟩)) (hq : tmps.getD q undef = v) (hA : At w g 41 cs) (hn : cs.length = 78) :
    (results fn tmps).run Try.prog w = .ok (.tuple #[.agg cs.toArray, v]) w := by
  have hp' : tmps[p]?.getD undef = .pointer (some ⟨g, 0, none⟩) := by simpa using hp
  have hq' : tmps[q]?.getD undef = v := by simpa using hq
  simp [results, h, hp', hq', asAddr, run_loadVar_row (P := Try.prog) w g 41 41 cs.toArray (0, 0) _ hA Try.underlying41 rfl (by rw [rd_size]; simp [hn])]

theorem ReadsU.lt' {w : World} {a : Addr} {n cap : Nat} {xs : List (BitVec 32)} (h : ReadsU w (some a) n cap xs) (hn : 0 < n) : a.block < w.heap.size := by
  obtain ⟨b, e, hl, _⟩ := h.cell hn
  injection e with e
  rw [e]; exact hl
theorem drop_wd {xs : List (BitVec 32)} {j : Nat} (h : j < xs.length) : xs.drop j = wd xs j :: xs.drop (j + 1) := by
  rw [List.drop_eq_getElem_cons h]
  unfold wd
  rw [List.getD_eq_getElem?_getD, List.getElem?_eq_getElem h]
  rfl

/-- A whole load, and a whole store, of a flash, held: the walk of a region stops there, and is met by a law. -/
def HLd (d : Option Tmp) (x : Operand) (ty : TypeId) (pos : String) (af : Array Edge) (gd : Option (Nat × Bool)) (a : Go.Act) (w : World) (K : Go.Act → World → Prop) (Q : Exit → Go.Act → World → Prop) : Prop :=
  Oper.wp Try.prog ⟨d, .load 39 x, ty, pos, af, gd⟩ a w K Q
theorem h_ld (d : Option Tmp) (x : Operand) (ty : TypeId) (pos : String) (af : Array Edge) (gd : Option (Nat × Bool)) (a : Go.Act) (w : World) (K : Go.Act → World → Prop) (Q : Exit → Go.Act → World → Prop) :
    Oper.wp Try.prog ⟨d, .load 39 x, ty, pos, af, gd⟩ a w K Q = HLd d x ty pos af gd a w K Q := rfl
theorem HLd.of {d : Option Tmp} {x : Operand} {ty T : TypeId} {pos : String} {af : Array Edge} {gd : Option (Nat × Bool)} {a : Go.Act} {w : World} {K : Go.Act → World → Prop} {Q : Exit → Go.Act → World → Prop} {M : Nat} {cs xs post : List Value}
    (hx : a.eval x = .pointer (some ⟨M, 0, none⟩)) (hA : At w M T cs) (hc : cs = xs ++ post) (hn : xs.length = 77) (h : K (a.put d (.agg xs.toArray)) w) : HLd d x ty pos af gd a w K Q :=
  wp_ldh x rfl hx Try.underlying39 rfl rf_size hA hc hn h
def HSt (d : Option Tmp) (x y : Operand) (ty : TypeId) (pos : String) (af : Array Edge) (gd : Option (Nat × Bool)) (a : Go.Act) (w : World) (K : Go.Act → World → Prop) (Q : Exit → Go.Act → World → Prop) : Prop :=
  Oper.wp Try.prog ⟨d, .store 39 x y, ty, pos, af, gd⟩ a w K Q
theorem h_st (d : Option Tmp) (x y : Operand) (ty : TypeId) (pos : String) (af : Array Edge) (gd : Option (Nat × Bool)) (a : Go.Act) (w : World) (K : Go.Act → World → Prop) (Q : Exit → Go.Act → World → Prop) :
    Oper.wp Try.prog ⟨d, .store 39 x y, ty, pos, af, gd⟩ a w K Q = HSt d x y ty pos af gd a w K Q := rfl
theorem HSt.of {d : Option Tmp} {x y : Operand} {ty T : TypeId} {pos : String} {af : Array Edge} {gd : Option (Nat × Bool)} {a : Go.Act} {w : World} {K : Go.Act → World → Prop} {Q : Exit → Go.Act → World → Prop} {M : Nat} {cs ys : List Value}
    (hx : a.eval x = .pointer (some ⟨M, 0, none⟩)) (hy : a.eval y = .agg ys.toArray) (hA : At w M T cs) (hn : cs.length = 77) (hn' : ys.length = 77) (h1 : ∀ u ∈ ys, u.oneCell' = true)
    (h : ∀ w', At w' M T ys → Turned (Just M) w w' → K (a.put d undef) w') : HSt d x y ty pos af gd a w K Q :=
  wp_sth (post := []) x y rfl hx hy rf_size hA (List.append_nil _).symm hn hn' h1 (fun w' hA' ht => h w' (by simpa using hA') ht)
/-- The run of an operation on one value, held (as a choice: no code is made of it); a whole load of a flash, and of a driver. -/
def OpIs (o : Oper) (v : Value) (W : World) (R : Result Next) : Prop := R = (execOp (fun _ => v) o).run Try.prog W
theorem op_ex (o : Oper) (v : Value) (W : World) : ∃ R, OpIs o v W R := ⟨_, rfl⟩
theorem op_is (o : Oper) (v : Value) (W : World) : (op_ex o v W).choose = (execOp (fun _ => v) o).run Try.prog W := (op_ex o v W).choose_spec
def ldF : Oper := ⟨none, .load 39 (.tmp 0), 0, "", #[], none⟩
def ldD : Oper := ⟨none, .load 41 (.tmp 0), 0, "", #[], none⟩
theorem ldF_eq (ρ : Operand → Value) (d : Option Tmp) (x : Operand) (ty : TypeId) (pos : String) (af : Array Edge) (gd : Option (Nat × Bool)) (W : World) : (execOp ρ ⟨d, .load 39 x, ty, pos, af, gd⟩).run Try.prog W = (op_ex ldF (ρ x) W).choose := (op_is ldF (ρ x) W).symm
theorem ldF_at {W : World} {M : Nat} {T : TypeId} {cs xs post : List Value} (hA : At W M T cs) (hc : cs = xs ++ post) (hn : xs.length = 77) : (op_ex ldF (.pointer (some ⟨M, 0, none⟩)) W).choose = .ok (.value (.agg xs.toArray)) W := by
  subst hc
  have h := run_loadAt_mid W M 0 _ xs _ (At.range (pre := []) hA) Try.underlying39 rfl (by rw [rf_size, hn])
  rw [op_is]
  unfold ldF execOp
  simp only [Sem.run_bind, h, Result.andThen_ok, Sem.run_pure]
theorem ldD_eq (ρ : Operand → Value) (d : Option Tmp) (x : Operand) (ty : TypeId) (pos : String) (af : Array Edge) (gd : Option (Nat × Bool)) (W : World) : (execOp ρ ⟨d, .load 41 x, ty, pos, af, gd⟩).run Try.prog W = (op_ex ldD (ρ x) W).choose := (op_is ldD (ρ x) W).symm
theorem ldD_at {W : World} {M : Nat} {T : TypeId} {cs : List Value} (hA : At W M T cs) (hn : cs.length = 78) : (op_ex ldD (.pointer (some ⟨M, 0, none⟩)) W).choose = .ok (.value (.agg cs.toArray)) W := by
  have h := run_loadAt_mid W M 0 _ cs _ (At.range (pre := []) (post := []) (by simpa using hA)) Try.underlying41 rfl (by rw [rd_size, hn])
  rw [op_is]
  unfold ldD execOp
  simp only [Sem.run_bind, h, Result.andThen_ok, Sem.run_pure]
attribute [local go_sem ↓] Go.wp_at_zero Go.wp_at_succ ldF_eq ldD_eq h_st

set_option maxRecDepth 100000 in
set_option maxHeartbeats 4000000 in
theorem rwrites_any (r : Rh) (m : FlashM) (t : Int) (k : Nat) (a : Int) (A : Option Addr) (n c : Nat) (xs : List (BitVec 32)) (w : World) (ok : FlashOk k m) (hr : ReadsU w A n c xs) (hn : n ≤ 1000) :
    Calls Try.prog 44 #[rdVal r m t, .int .i64 a, .slice A n c] w (Gives (.tuple #[rdVal r (fWrites m a xs).1 t, .int .i64 (fWrites m a xs).2]) w) := by
  have hz := rf_zero
  have hz2 := rd_zero
  have hle := hr.le
  have HLN := Lib.hid hr.len
  have P0 := Lib.hid (Pair.start 41 w (rdCells r m t) rdZero)
  change Calls _ _ #[.agg (rdCells r m t).toArray, _, _] _ _
  go_enter Try.func44, Try.ntmps44
  go_wp2_with fail
  go_loopw [8] (fun i wr => ∃ (j : Nat) (m' : FlashM), j ≤ n ∧ i = .int .i64 j ∧ Pair 41 w (rdCells r m' t) rdZero wr ∧ FlashOk k m' ∧ fWrites m a xs = fWrites m' a (xs.drop j)) (fun i _ => n - (intOf i).toNat)
  case atStart => exact ⟨0, m, by omega, rfl, P0.out, ok, by simp⟩
  case round =>
    clear P0 ok
    obtain ⟨j, m', hj, rfl, P, ok', hw⟩ := hrel
    have HW := Lib.hid hw
    clear hw
    by_cases hlt : j < n
    · obtain ⟨ad, rfl, _⟩ := (hr.kept P.below).at_ hlt
      have i0 : (0 : Int) ≤ (j : Int) := by omega
      have i1 : (j : Int) < (n : Int) := by omega
      have hcl : ∀ W, Pair 41 w (rdCells r m' t) rdZero W → W.cell? (ad.add j) = some (.int .u32 (U (wd xs j))) := fun W PW => by
        obtain ⟨b, e, h⟩ := (hr.kept PW.below).at_ hlt
        injection e with e
        rw [e]; exact h
      have hld : ∀ W, Pair 41 w (rdCells r m' t) rdZero W → (op_ex ldF (.pointer (some ⟨w.heap.size, 0, none⟩)) W).choose = .ok (.value (.agg (rfCells r m').toArray)) W := fun W PW => ldF_at PW.a rfl (rf_len _ _)
      have OK' := Lib.hid ok'
      have wr0 := fun W => rwrite_any r m' k a (wd xs j) W ok'
      have okw := ok'.write a (wd xs j)
      obtain ⟨x, hx⟩ : ∃ x, x = fWrite m' a (wd xs j) := ⟨_, rfl⟩
      rw [← hx] at wr0 okw
      have WR := Lib.hid wr0
      have OKW := Lib.hid okw
      have hw2 : fWrites m' a (xs.drop j) = if x.2 = 0 then fWrites x.1 a (xs.drop (j + 1)) else x := by
        rw [drop_wd (by rw [HLN.out]; exact hlt), fWrites, ← hx]
      have HW2 := Lib.hid hw2
      clear ok' wr0 okw hx hw2
      go_wp2_with fail
      go_region_held3 (fun w' => Pair 41 w (rdCells r m' t) rdZero w') (first | assumption | exact Pair.drew (by assumption) | exact Pair.alloc (by assumption) _) (first
        | (go_at_call 58; (refine (WR.out _).mono ?_); rintro e w2 ⟨rfl, hb⟩; simp only [rfVal]; have P2 := Pair.call (by assumption) hb; (first | have AZ := Lib.hid ((At.news wr 39 rfZero).drew.kept (Turned.of_below hb (Nat.le_refl _) NoBlock) (fun h => h)) | have AZ := Lib.hid ((At.news wr.drew 39 rfZero).kept (Turned.of_below hb (Nat.le_refl _) NoBlock) (fun h => h)) | skip); clear hb)
        | ((refine HSt.of (ys := rfCells r x.1) (cs := rfZero) (by rfl) (by rfl) (by first | exact AZ.out | exact At.alloc_new _ _ rfZero (by rfl) rfl) rf_zero_len (rf_len _ _) (rf_one _ _) ?_); intro w4 A4 T4; have A4' := Lib.hid A4; have P4 := Pair.far (by assumption) (Pair.size (by assumption)) T4; clear A4 T4))
      all_goals
        have PP := Lib.hid P4
        clear P4
        by_cases hx0 : x.2 = 0
        · have H2 := HW2.out
          rw [if_pos hx0] at H2
          have HW3 := Lib.hid (HW.out.trans H2)
          clear H2
          go_wp2_with (first
            | ((refine wpList_ldh (xs := rfCells r x.1) (post := []) (.tmp 9) rfl (by rfl) (by rfl) Try.underlying39 rfl rf_size A4'.out (List.append_nil _).symm (rf_len _ _) ?_))
            | ((refine wpList_sth (xs := rfCells r m') (ys := rfCells r x.1) (post := [.int .i64 t]) (.tmp 29) (.tmp 28) rfl (by rfl) (by rfl) (by rfl) rf_size PP.out.a rfl (rf_len _ _) (rf_len _ _) (rf_one _ _) ?_); intro w5 A5 T5; have P5 := Lib.hid (PP.out.sta (cs' := rdCells r x.1 t) A5 T5); clear A5 T5))
          go_roundw
          case rel => exact ⟨j + 1, x.1, by omega, by go_num, P5.out, OKW.out, HW3.out⟩
          case measure => simp [intOf]; omega
        · have H2 := HW2.out
          rw [if_neg hx0] at H2
          have HW3 := Lib.hid (HW.out.trans H2)
          have hx1 : (x.2 == 0) = false := by rw [beq_eq_false_iff_ne]; exact hx0
          clear H2
          go_wp2_with (first
            | ((refine wpList_ldh (xs := rfCells r x.1) (post := []) (.tmp 9) rfl (by rfl) (by rfl) Try.underlying39 rfl rf_size A4'.out (List.append_nil _).symm (rf_len _ _) ?_))
            | ((refine wpList_sth (xs := rfCells r m') (ys := rfCells r x.1) (post := [.int .i64 t]) (.tmp 29) (.tmp 28) rfl (by rfl) (by rfl) (by rfl) rf_size PP.out.a rfl (rf_len _ _) (rf_len _ _) (rf_one _ _) ?_); intro w5 A5 T5; have P5 := Lib.hid (PP.out.sta (cs' := rdCells r x.1 t) A5 T5); clear A5 T5)
            | ((refine wpList_ldh (xs := rdCells r x.1 t) (post := []) (.tmp 3) rfl (by rfl) (by rfl) Try.underlying41 rfl rd_size P5.out.a (List.append_nil _).symm (rd_len _ _ _) ?_))
            | ((refine wpList_sth (xs := rdZero) (ys := rdCells r x.1 t) (post := []) (.tmp 6) (.tmp 32) rfl (by rfl) (by rfl) (by rfl) rd_size P5.out.b (List.append_nil _).symm rdZero_len (rd_len _ _ _) (rd_one _ _ _) ?_); intro w6 A6 T6; have P6 := Lib.hid (P5.out.stb (ds' := rdCells r x.1 t) (by simpa using A6) T6); clear A6 T6))
          rw [HW3.out]
          exact bodyPost_ret (rd_res2 Try.results44 _ rfl rfl P6.out.b (rd_len _ _ _)) rfl ⟨rfl, P6.out.below⟩
    · obtain rfl : j = n := by omega
      have H2 := HW.out
      rw [show xs.drop j = [] from List.drop_eq_nil_of_le (by rw [HLN.out]; omega), fWrites] at H2
      have HW3 := Lib.hid H2
      have PP := Lib.hid P
      clear H2 P ok'
      go_wp2_with (first
        | ((refine wpList_ldh (xs := rdCells r m' t) (post := []) (.tmp 3) rfl (by rfl) (by rfl) Try.underlying41 rfl rd_size PP.out.a (List.append_nil _).symm (rd_len _ _ _) ?_))
        | ((refine wpList_sth (xs := rdZero) (ys := rdCells r m' t) (post := []) (.tmp 6) (.tmp 34) rfl (by rfl) (by rfl) (by rfl) rd_size PP.out.b (List.append_nil _).symm rdZero_len (rd_len _ _ _) (rd_one _ _ _) ?_); intro w6 A6 T6; have P6 := Lib.hid (PP.out.stb (ds' := rdCells r m' t) (by simpa using A6) T6); clear A6 T6))
      rw [HW3.out]
      exact bodyPost_ret (rd_res2 Try.results44 _ rfl rfl P6.out.b (rd_len _ _ _)) rfl ⟨rfl, P6.out.below⟩
end Go.Proofs.Ytfckgfimmoinmaa

namespace Go.Proofs.Ytfckgfimmoinmaa
open Go.RowKit Bm

theorem check_far {m : FlashM} (he : m.errors ≠ 0#32) : dCheck m = ({ m with mode := 1, errors := 0#32 }, dCode m.errors) := if_neg he
theorem check_none {m : FlashM} (he : m.errors = 0#32) : dCheck m = (m, 0) := if_pos he
theorem clear_writes {m : FlashM} (hj : m.job = 0) (hw : m.wait = 0) (hu : m.chip.up = true) (hl : 0 < m.chip.ws.length) : fWrites m 0 [80#32] = ({ m with mode := 1, errors := 0#32 }, 0) := by
  have e : fWrite m 0 80#32 = ({ m with mode := 1, errors := 0#32 }, 0) := (Idle.write ⟨hu, hw, hj⟩ 0 (by omega) (by omega) 80#32 80#32 rfl)
  unfold fWrites
  rw [e, if_pos rfl]
  rfl
theorem FlashOk.len0 {k : Nat} {m : FlashM} (ok : FlashOk k m) : 0 < m.chip.ws.length := by
  have a := ok.chip.words
  have b := ok.chip.k1
  omega
theorem reads_one (w : World) (x : BitVec 32) : ReadsU (w.alloc (.cells #[.int .u32 (U x)] 33)) (some ⟨w.heap.size, 0, none⟩) 1 1 [x] :=
  ReadsU.of_at (xs := [x]) (rest := []) (At.news w 33 (Us [x])) rfl (by unfold maxLen; omega)
theorem reads_two (w : World) (x y : BitVec 32) : ReadsU (w.alloc (.cells #[.int .u32 (U x), .int .u32 (U y)] 33)) (some ⟨w.heap.size, 0, none⟩) 2 2 [x, y] :=
  ReadsU.of_at (xs := [x, y]) (rest := []) (At.news w 33 (Us [x, y])) rfl (by unfold maxLen; omega)

set_option maxRecDepth 100000 in
set_option maxHeartbeats 2000000 in
theorem rcheck_any (r : Rh) (m : FlashM) (t : Int) (k : Nat) (w : World) (ok : FlashOk k m) (hj : m.job = 0) (hw : m.wait = 0) (hu : m.chip.up = true) (hb : Bits m.errors) :
    Calls Try.prog 48 #[rdVal r m t] w (Gives (.tuple #[rdVal r (dCheck m).1 t, .int .i64 (dCheck m).2]) w) := by
  have hz := rf_zero
  have hz2 := rd_zero
  have P0 := Lib.hid (Pair.start 41 w (rdCells r m t) rdZero)
  have hs : fStatus m = m.errors ||| 128#32 := by unfold fStatus; rw [if_pos hj]
  have st := fun W => rstatus_any r m k W ok
  rw [hs] at st
  have CW := Lib.hid (clear_writes hj hw hu ok.len0)
  have OK := Lib.hid ok
  clear hs hj hw hu ok
  change Calls _ _ #[.agg (rdCells r m t).toArray] _ _
  by_cases he : m.errors = 0#32
  · rw [check_none he]
    rw [he] at st
    have ST := Lib.hid st
    clear st he hb
    go_enter Try.func48, Try.ntmps48
    go_wp2_with (first
      | ((refine wpList_ldh (ty := 39) (xs := rfCells r m) (post := [.int .i64 t]) _ rfl (by rfl) (by rfl) Try.underlying39 rfl rf_size P0.out.a rfl (rf_len _ _) ?_))
      | (go_at_call 59; (refine (ST.out _).mono ?_); rintro e w2 ⟨rfl, hb⟩; have P2 := Lib.hid (P0.out.call hb); clear hb)
      | ((refine wpList_ldh (ty := 41) (xs := rdCells r m t) (post := []) _ rfl (by rfl) (by rfl) Try.underlying41 rfl rd_size P2.out.a (List.append_nil _).symm (rd_len _ _ _) ?_))
      | ((refine wpList_sth (ty := 41) (xs := rdZero) (ys := rdCells r m t) (post := []) _ _ rfl (by rfl) (by rfl) (by rfl) rd_size P2.out.b (List.append_nil _).symm rdZero_len (rd_len _ _ _) (rd_one _ _ _) ?_); intro w6 A6 T6; have P6 := Lib.hid (P2.out.stb (ds' := rdCells r m t) (by simpa using A6) T6); clear A6 T6))
    exact bodyPost_ret (rd_res2 Try.results48 _ rfl rfl P6.out.b (rd_len _ _ _)) rfl ⟨rfl, P6.out.below⟩
  · rw [check_far he]
    obtain ⟨m2, hm2⟩ : ∃ m2, m2 = ({ m with mode := 1, errors := 0#32 } : FlashM) := ⟨_, rfl⟩
    rw [← hm2] at CW ⊢
    have CL := Lib.hid (fun W g (h : ReadsU W (some ⟨g, 0, none⟩) 1 1 [80#32]) => rwrites_any r m t k 0 (some ⟨g, 0, none⟩) 1 1 [80#32] W OK.out h (by omega))
    clear hm2
    have hb' : m.errors = 18#32 ∨ m.errors = 34#32 ∨ m.errors = 32#32 := by
      rcases hb with h | h | h | h
      · exact absurd h he
      · exact .inl h
      · exact .inr (.inl h)
      · exact .inr (.inr h)
    clear he hb
    rcases hb' with he | he | he
    all_goals
      rw [he] at st ⊢
      have ST := Lib.hid st
      clear st he
      go_enter Try.func48, Try.ntmps48
      go_wp2_with (first
        | ((refine wpList_ldh (ty := 39) (xs := rfCells r m) (post := [.int .i64 t]) _ rfl (by rfl) (by rfl) Try.underlying39 rfl rf_size P0.out.a rfl (rf_len _ _) ?_))
        | (go_at_call 59; (refine (ST.out _).mono ?_); rintro e w2 ⟨rfl, hb⟩; have P2 := Lib.hid (P0.out.call hb); clear hb)
        | ((refine wpList_ldh (ty := 41) (xs := rdCells r m t) (post := []) _ rfl (by rfl) (by rfl) Try.underlying41 rfl rd_size P2.out.a (List.append_nil _).symm (rd_len _ _ _) ?_))
        | (go_at_call 44; (refine (CL.out _ _ (reads_one w2 80#32)).mono ?_); rw [CW.out]; rintro e w3 ⟨rfl, hb⟩; simp only [rdVal]; have P3 := Lib.hid ((P2.out.alloc (.cells #[.int .u32 (U 80#32)] 33)).call hb); clear hb)
        | ((refine wpList_sth (ty := 41) (xs := rdCells r m t) (ys := rdCells r m2 t) (post := []) _ _ rfl (by rfl) (by rfl) (by rfl) rd_size P3.out.a (List.append_nil _).symm (rd_len _ _ _) (rd_len _ _ _) (rd_one _ _ _) ?_); intro w4 A4 T4; have P4 := Lib.hid (P3.out.sta (cs' := rdCells r m2 t) (by simpa using A4) T4); clear A4 T4)
        | ((refine wpList_ldh (ty := 41) (xs := rdCells r m2 t) (post := []) _ rfl (by rfl) (by rfl) Try.underlying41 rfl rd_size P4.out.a (List.append_nil _).symm (rd_len _ _ _) ?_))
        | ((refine wpList_sth (ty := 41) (xs := rdZero) (ys := rdCells r m2 t) (post := []) _ _ rfl (by rfl) (by rfl) (by rfl) rd_size P4.out.b (List.append_nil _).symm rdZero_len (rd_len _ _ _) (rd_one _ _ _) ?_); intro w6 A6 T6; have P6 := Lib.hid (P4.out.stb (ds' := rdCells r m2 t) (by simpa using A6) T6); clear A6 T6))
      exact bodyPost_ret (rd_res2 Try.results48 _ rfl rfl P6.out.b (rd_len _ _ _)) rfl ⟨rfl, P6.out.below⟩
end Go.Proofs.Ytfckgfimmoinmaa

namespace Go.Proofs.Ytfckgfimmoinmaa
open Go.RowKit Bm

/-- The document's driver behind a call, and a number. -/
def DrvOut (r : Rh) (x : DrvM × Int) (w : World) (e : Ending) (w' : World) : Prop :=
  ∃ r', e = .returned (.tuple #[rdVal r' x.1.f x.1.t, .int .i64 x.2]) ∧ RefAt w' r' x.1.f.chip ∧ Below w.heap.size w w' ∧ RefNew w r r'
theorem drvOut_mk {r r' : Rh} {f : FlashM} {t n : Int} {x : DrvM × Int} {w w' : World} (e : x = (⟨f, t⟩, n)) (hc : RefAt w' r' f.chip) (hb : Below w.heap.size w w') (hn : RefNew w r r') : DrvOut r x w (.returned (.tuple #[.agg (rdCells r' f t).toArray, .int .i64 n])) w' := by
  subst e
  exact ⟨r', rfl, hc, hb, hn⟩
theorem RefAt.otherT {w w' : World} {r : Rh} {c : ChipM} (h : RefAt w r c) {T : TypeId} {b : Nat} {cs : List Value} (hA : At w b T cs) (h1 : 33 ≠ T) (h2 : 3 ≠ T) (t : Turned (Just b) w w') : RefAt w' r c :=
  h.kept t (fun e => h.words.ne hA h1 e) (fun e => h.wear.ne hA h2 e)
theorem Pair.puta {T : TypeId} {w w1 : World} {cs cs' ds : List Value} (h : Pair T w cs ds w1) (i : Nat) (u : Value) (e : cs.set i u = cs') : Pair T w cs' ds (w1.setCell ⟨w.heap.size, i, none⟩ u) :=
  h.sta ((h.a.put i u).as e) ((Turned.refl (Just w.heap.size) w1).setCell (p := ⟨w.heap.size, i, none⟩) (fun _ => rfl) u)
theorem RefAt.putD {w : World} {r : Rh} {c : ChipM} (h : RefAt w r c) {b : Nat} {cs : List Value} (hA : At w b 41 cs) (i : Nat) (u : Value) : RefAt (w.setCell ⟨b, i, none⟩ u) r c :=
  h.otherT hA (by decide) (by decide) ((Turned.refl (Just b) w).setCell (p := ⟨b, i, none⟩) (fun _ => rfl) u)

/-- What wait has in its hands. -/
structure Waits (w : World) (r r' : Rh) (k : Nat) (d0 : DrvM) (m : FlashM) (t : Int) (wr : World) : Prop where
  p : Pair 41 w (rdCells r' m t) rdZero wr
  chip : RefAt wr r' m.chip
  new : RefNew w r r'
  ok : WaitOk k m
  same : dWait d0 = dWait ⟨m, t⟩
  t0 : 0 ≤ t
  t1 : t + m.left ≤ 1000000000000000

set_option maxRecDepth 100000 in
set_option maxHeartbeats 4000000 in
theorem rwait_any (r : Rh) (m : FlashM) (t : Int) (k : Nat) (w : World) (ok : WaitOk k m) (hc : RefAt w r m.chip) (t0 : 0 ≤ t) (t1 : t + m.left ≤ 1000000000000000) :
    Calls Try.prog 45 #[rdVal r m t] w (DrvOut r (dWait ⟨m, t⟩) w) := by
  have hz := rf_zero
  have hz2 := rd_zero
  have W0 : Hid (Waits w r r k ⟨m, t⟩ m t ((w.alloc (.cells (rdCells r m t).toArray 41)).alloc (.cells rdZero.toArray 41))) := Lib.hid
    ⟨Pair.start _ w _ _, hc.below (below_two w _ _), RefNew.refl _ _, ok, rfl, t0, t1⟩
  have g0 : 0 ≤ m.left := by
    by_cases hj : m.job = 0
    · have := (ok.ok.idle hj).2.2; omega
    · have := ok.ok.busy hj; omega
  change Calls _ _ #[.agg (rdCells r m t).toArray] _ _
  clear ok hc t0 t1
  go_enter Try.func45, Try.ntmps45
  go_wp2_with fail
  go_loopg [] m.left.toNat (fun g wr => ∃ (m' : FlashM) (t' : Int) (r' : Rh), (g : Int) = m'.left ∧ Waits w r r' k ⟨m, t⟩ m' t' wr)
  case atStart => exact ⟨m, t, r, by omega, W0.out⟩
  case round =>
    clear W0 g0
    obtain ⟨m', t', r', hg, S⟩ := hrel
    have OK := Lib.hid S.ok
    have st := fun W => rstatus_any r' m' k W S.ok.ok
    have HS := Lib.hid S
    have PP := Lib.hid S.p
    have CC := Lib.hid S.chip
    have b0 := S.t0
    have b1 := S.t1
    clear S
    by_cases hj : m'.job = 0
    · have hs : fStatus m' = m'.errors ||| 128#32 := by unfold fStatus; rw [if_pos hj]
      have hsl : ¬ U (fStatus m') < 128 := by
        rw [hs]
        rcases OK.out.idle hj with e | e | e | e <;> rw [e] <;> decide
      obtain ⟨s, hs2⟩ : ∃ s, s = fStatus m' := ⟨_, rfl⟩
      rw [← hs2] at st hsl
      have ST := Lib.hid st
      have RC := Lib.hid (fun W => rcheck_any r' m' t' k W OK.out.ok hj OK.out.wait OK.out.up (OK.out.idle hj))
      have E := Lib.hid (HS.out.same.trans (wait_still hj t'))
      have EC : Hid ((dCheck m').1.chip = m'.chip) := Lib.hid (by unfold dCheck; split <;> rfl)
      clear st hs hs2 hj hg
      go_wp2_with (first
        | ((refine wpList_ldh (ty := 39) (xs := rfCells r' m') (post := [.int .i64 t']) _ rfl (by rfl) (by rfl) Try.underlying39 rfl rf_size PP.out.a rfl (rf_len _ _) ?_))
        | (go_at_call 59; (refine (ST.out _).mono ?_); rintro e w2 ⟨rfl, hb⟩; have P2 := Lib.hid (PP.out.call hb); have C2 := Lib.hid (CC.out.below hb); clear hb)
        | ((refine wpList_ldh (ty := 41) (xs := rdCells r' m' t') (post := []) _ rfl (by rfl) (by rfl) Try.underlying41 rfl rd_size P2.out.a (List.append_nil _).symm (rd_len _ _ _) ?_))
        | (go_at_call 48; (refine (RC.out _).mono ?_); rintro e w3 ⟨rfl, hb⟩; simp only [rdVal]; have P3 := Lib.hid (P2.out.call hb); have C3 := Lib.hid (C2.out.below hb); clear hb)
        | ((refine wpList_sth (ty := 41) (xs := rdZero) (ys := rdCells r' (dCheck m').1 t') (post := []) _ _ rfl (by rfl) (by rfl) (by rfl) rd_size P3.out.b (List.append_nil _).symm rdZero_len (rd_len _ _ _) (rd_one _ _ _) ?_); intro w6 A6 T6; have P6 := Lib.hid (P3.out.stb (ds' := rdCells r' (dCheck m').1 t') (by simpa using A6) T6); have C6 := Lib.hid (C3.out.otherT P3.out.b (by decide) (by decide) T6); clear A6 T6))
      exact bodyPost_ret (rd_res2 Try.results45 _ rfl rfl P6.out.b (rd_len _ _ _)) rfl (drvOut_mk E.out (by rw [EC.out]; exact C6.out) P6.out.below HS.out.new)
    · have hs : fStatus m' = 0#32 := by unfold fStatus; rw [if_neg hj]; exact OK.out.busy hj
      rw [hs] at st
      have ST := Lib.hid st
      have hl := (OK.out.ok.busy hj).2.2.1
      have wr0 : IntKind.i64.wrap (t' + 1) = t' + 1 := by rw [IntKind.wrap_i64]; omega
      obtain ⟨x, hx⟩ : ∃ x, x = fTick m' 1 := ⟨_, rfl⟩
      have tk := fun W hW => rtick_any r' m' k 1 W OK.out.ok hW (by omega) (by omega)
      have zz := OK.out.tick hj t'
      rw [← hx] at tk zz
      have Z := Lib.hid zz
      have TK := Lib.hid tk
      have HX := Lib.hid hx
      have HJ := Lib.hid hj
      clear st hs hj tk hx zz
      by_cases hx0 : x.2 = 0
      · have hx1 : (x.2 != 0) = false := by rw [hx0]; rfl
        go_wp2_with (first
          | ((refine wpList_ldh (ty := 39) (xs := rfCells r' m') (post := [.int .i64 t']) _ rfl (by rfl) (by rfl) Try.underlying39 rfl rf_size PP.out.a rfl (rf_len _ _) ?_))
          | (go_at_call 59; (refine (ST.out _).mono ?_); rintro e w2 ⟨rfl, hb⟩; have P2 := Lib.hid (PP.out.call hb); have C2 := Lib.hid (CC.out.below hb); clear hb)
          | ((refine wpList_ldh (ty := 39) (xs := rfCells r' m') (post := [.int .i64 t']) _ rfl (by rfl) (by rfl) Try.underlying39 rfl rf_size P2.out.a rfl (rf_len _ _) ?_))
          | (go_at_call 60; (refine (TK.out _ C2.out).mono ?_); rintro e w3 ⟨r2, rfl, hc3, hb, hn3⟩; simp only [rfVal]; have P3 := Lib.hid (P2.out.call hb); have C3 := Lib.hid hc3; have N3 := Lib.hid (HS.out.new.trans (by have := P2.out.size; omega) hn3); clear hc3 hb hn3)
          | ((refine wpList_sth (ty := 39) (xs := rfZero) (ys := rfCells r2 x.1) (post := []) _ _ rfl (by rfl) (by rfl) (by rfl) rf_size (At.news w3 _ rfZero) (List.append_nil _).symm rf_zero_len (rf_len _ _) (rf_one _ _) ?_); intro w4 A4 T4; have A4' : Hid (At w4 w3.heap.size 39 (rfCells r2 x.1)) := Lib.hid (by simpa using A4); have P4 := Lib.hid ((P3.out.alloc _).far P3.out.size T4); have C4 := Lib.hid ((C3.out.below ((Below.refl _ w3).alloc (Nat.le_refl _) (.cells rfZero.toArray 39))).otherT (At.news w3 _ rfZero) (by decide) (by decide) T4); clear A4 T4)
          | ((refine wpList_ldh (ty := 39) (xs := rfCells r2 x.1) (post := []) _ rfl (by rfl) (by rfl) Try.underlying39 rfl rf_size A4'.out (List.append_nil _).symm (rf_len _ _) ?_))
          | ((refine wpList_sth (ty := 39) (xs := rfCells r' m') (ys := rfCells r2 x.1) (post := [.int .i64 t']) _ _ rfl (by rfl) (by rfl) (by rfl) rf_size P4.out.a rfl (rf_len _ _) (rf_len _ _) (rf_one _ _) ?_); intro w5 A5 T5; have P5 := Lib.hid (P4.out.sta (cs' := rdCells r2 x.1 t') A5 T5); have C5 := Lib.hid (C4.out.otherT P4.out.a (by decide) (by decide) T5); have g77 := P5.out.a.cell 77; have f77 := P5.out.a.frozen 77; simp only [rdg77] at g77; clear A5 T5))
        have P6 := Lib.hid (P5.out.puta 77 (.int .i64 (t' + 1)) (rds77 r2 x.1 t' (t' + 1)))
        have C6 := Lib.hid (C5.out.putD P5.out.a 77 (.int .i64 (t' + 1)))
        obtain ⟨z1, z2, z3⟩ := Z.out.1 hx0
        have S6 : Waits w r r2 k ⟨m, t⟩ x.1 (t' + 1) _ := ⟨P6.out, C6.out, N3.out, z1, HS.out.same.trans z2, by omega, by omega⟩
        have Z3 := Lib.hid z3
        clear z1 z2 z3
        go_roundg (gk - 1)
        case measure => go_light; omega
        case rel => go_light; exact ⟨x.1, t' + 1, r2, by rw [Z3.out]; omega, S6⟩
      · have hx1 : (x.2 != 0) = true := by simpa using hx0
        go_wp2_with (first
          | ((refine wpList_ldh (ty := 39) (xs := rfCells r' m') (post := [.int .i64 t']) _ rfl (by rfl) (by rfl) Try.underlying39 rfl rf_size PP.out.a rfl (rf_len _ _) ?_))
          | (go_at_call 59; (refine (ST.out _).mono ?_); rintro e w2 ⟨rfl, hb⟩; have P2 := Lib.hid (PP.out.call hb); have C2 := Lib.hid (CC.out.below hb); clear hb)
          | ((refine wpList_ldh (ty := 39) (xs := rfCells r' m') (post := [.int .i64 t']) _ rfl (by rfl) (by rfl) Try.underlying39 rfl rf_size P2.out.a rfl (rf_len _ _) ?_))
          | (go_at_call 60; (refine (TK.out _ C2.out).mono ?_); rintro e w3 ⟨r2, rfl, hc3, hb, hn3⟩; simp only [rfVal]; have P3 := Lib.hid (P2.out.call hb); have C3 := Lib.hid hc3; have N3 := Lib.hid (HS.out.new.trans (by have := P2.out.size; omega) hn3); clear hc3 hb hn3)
          | ((refine wpList_sth (ty := 39) (xs := rfZero) (ys := rfCells r2 x.1) (post := []) _ _ rfl (by rfl) (by rfl) (by rfl) rf_size (At.news w3 _ rfZero) (List.append_nil _).symm rf_zero_len (rf_len _ _) (rf_one _ _) ?_); intro w4 A4 T4; have A4' : Hid (At w4 w3.heap.size 39 (rfCells r2 x.1)) := Lib.hid (by simpa using A4); have P4 := Lib.hid ((P3.out.alloc _).far P3.out.size T4); have C4 := Lib.hid ((C3.out.below ((Below.refl _ w3).alloc (Nat.le_refl _) (.cells rfZero.toArray 39))).otherT (At.news w3 _ rfZero) (by decide) (by decide) T4); clear A4 T4)
          | ((refine wpList_ldh (ty := 39) (xs := rfCells r2 x.1) (post := []) _ rfl (by rfl) (by rfl) Try.underlying39 rfl rf_size A4'.out (List.append_nil _).symm (rf_len _ _) ?_))
          | ((refine wpList_sth (ty := 39) (xs := rfCells r' m') (ys := rfCells r2 x.1) (post := [.int .i64 t']) _ _ rfl (by rfl) (by rfl) (by rfl) rf_size P4.out.a rfl (rf_len _ _) (rf_len _ _) (rf_one _ _) ?_); intro w5 A5 T5; have P5 := Lib.hid (P4.out.sta (cs' := rdCells r2 x.1 t') A5 T5); have C5 := Lib.hid (C4.out.otherT P4.out.a (by decide) (by decide) T5); have g77 := P5.out.a.cell 77; have f77 := P5.out.a.frozen 77; simp only [rdg77] at g77; clear A5 T5)
          | ((refine wpList_ldh (ty := 41) (xs := rdCells r2 x.1 (t' + 1)) (post := []) _ rfl (by rfl) (by rfl) Try.underlying41 rfl rd_size (P5.out.puta 77 (.int .i64 (t' + 1)) (rds77 r2 x.1 t' (t' + 1))).a (List.append_nil _).symm (rd_len _ _ _) ?_))
          | ((refine wpList_sth (ty := 41) (xs := rdZero) (ys := rdCells r2 x.1 (t' + 1)) (post := []) _ _ rfl (by rfl) (by rfl) (by rfl) rd_size (P5.out.puta 77 (.int .i64 (t' + 1)) (rds77 r2 x.1 t' (t' + 1))).b (List.append_nil _).symm rdZero_len (rd_len _ _ _) (rd_one _ _ _) ?_); intro w6 A6 T6; have P6 := Lib.hid ((P5.out.puta 77 (.int .i64 (t' + 1)) (rds77 r2 x.1 t' (t' + 1))).stb (ds' := rdCells r2 x.1 (t' + 1)) (by simpa using A6) T6); have C6 := Lib.hid ((C5.out.putD P5.out.a 77 (.int .i64 (t' + 1))).otherT (P5.out.puta 77 (.int .i64 (t' + 1)) (rds77 r2 x.1 t' (t' + 1))).b (by decide) (by decide) T6); clear A6 T6))
        have E := HS.out.same.trans (Z.out.2 hx0)
        exact bodyPost_ret (rd_res2 Try.results45 _ rfl rfl P6.out.b (rd_len _ _ _)) rfl (drvOut_mk E C6.out P6.out.below N3.out)
end Go.Proofs.Ytfckgfimmoinmaa
