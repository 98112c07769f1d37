/- Do these pages of a block fit elsewhere? | The copies of each sector: a map of pairs of places. | The contract of a store's copies. -/
import Derived.Test.YtpkkejdjhnmjiaaGreatFtl2
import Derived.Maps.OwnSet
import Derived.Lib.SliceRun
namespace Go.Proofs.YtpkkejdjhnmjiaaGreat
open Go.RowKit Bm Go.Shelf
structure ReadsM (w : World) (A : Option Addr) (n cap : Nat) (ms : List PageM) : Prop where
  len : ms.length = n
  le : n ≤ cap
  max : cap ≤ maxLen
  cell : 0 < n → ∃ g off, A = some ⟨g, off, none⟩ ∧ g < w.heap.size ∧ ∀ j p, ms[j]? = some p → w.rangeAt g (off + j * 7) (pgC p)
theorem pgN_get {ms : List PageM} {i : Nat} (h : i < ms.length) : ms[i]? = some (pgN ms i) := by
  unfold pgN
  rw [List.getD_eq_getElem?_getD, List.getElem?_eq_getElem h]
  rfl
section
variable {w w' : World} {A : Option Addr} {n cap : Nat} {ms : List PageM}
theorem ReadsM.kept (h : ReadsM w A n cap ms) (hB : Below w.heap.size w w') : ReadsM w' A n cap ms :=
  ⟨h.len, h.le, h.max, fun hn => by
    obtain ⟨g, off, e, hlt, hc⟩ := h.cell hn
    exact ⟨g, off, e, Nat.lt_of_lt_of_le hlt hB.size, fun j b hb => range_kept (hc j b hb) (hB.block g hlt)⟩⟩
theorem ReadsM.turned (h : ReadsM w A n cap ms) {S : Nat → Prop} (t : Turned S w w') (hS : ∀ g off, A = some ⟨g, off, none⟩ → ¬ S g) : ReadsM w' A n cap ms :=
  ⟨h.len, h.le, h.max, fun hn => by
    obtain ⟨g, off, e, hlt, hc⟩ := h.cell hn
    exact ⟨g, off, e, Nat.lt_of_lt_of_le hlt t.size, fun j b hb => range_kept (hc j b hb) (t.block g hlt (hS g off e))⟩⟩
theorem ReadsM.at_ (h : ReadsM w A n cap ms) {j : Nat} (hj : j < n) : ∃ g off, A = some ⟨g, off, none⟩ ∧ g < w.heap.size ∧ w.rangeAt g (off + j * 7) (pgC (pgN ms j)) := by
  obtain ⟨g, off, e, hlt, hc⟩ := h.cell (by omega)
  exact ⟨g, off, e, hlt, hc j _ (pgN_get (by rw [h.len]; exact hj))⟩
theorem ReadsM.none (w : World) : ReadsM w none 0 0 [] := ⟨rfl, Nat.le_refl _, Nat.zero_le _, fun h => absurd h (by omega)⟩
theorem ppg_sizeM : (Tryz.prog.info? 73).map (·.size) = some 7 := by kernel_rfl
set_option maxRecDepth 100000 in
theorem wrong_any (p : PageM) (w : World) : Calls Tryz.prog 157 #[.agg (pgC p).toArray] w fun e w' => e = .returned (.bool (!pgOk p)) ∧ Below w.heap.size w w' := by
  have HP := Lib.hid (fun W => pright_any p W)
  unfold pgV at HP
  have hA : At (w.alloc (.cells (pgC p).toArray 73)) w.heap.size 73 (pgC p) := At.news w _ _
  have HA := Lib.hid hA
  go_enter Tryz.func157, Tryz.ntmps157
  go_wp2_with (first
    | (refine wpList_ldr _ rfl rfl rfl Tryz.underlying73 rfl ppg_sizeM (pgC_len p) HA.out.rng ?_)
    | (go_at_call 110; (with_reducible refine (HP.out _).mono ?_); rintro e w1 ⟨rfl, hb⟩; have HB := Lib.hid hb; clear hb))
  go_ret
  exact ⟨rfl, ((Below.refl _ w).alloc (Nat.le_refl _) _).trans (HB.out.mono (by simp))⟩
theorem firstBad (ms : List PageM) (j : Nat) (h : j < ms.length) (_hj : ∀ i, i < j → pgOk (pgN ms i) = true) (hb : pgOk (pgN ms j) = false) : ms.all pgOk = false := by
  rw [List.all_eq_false]
  exact ⟨pgN ms j, List.mem_of_getElem? (pgN_get h), by simp [hb]⟩
theorem noBad (ms : List PageM) (h : ∀ i, i < ms.length → pgOk (pgN ms i) = true) : ms.all pgOk = true := by
  rw [List.all_eq_true]
  intro p hp
  obtain ⟨i, hi, rfl⟩ := List.getElem_of_mem hp
  have := h i hi
  unfold pgN at this
  rwa [List.getD_eq_getElem?_getD, List.getElem?_eq_getElem hi] at this
set_option maxRecDepth 100000 in
theorem idxPg_any (hA : ReadsM w A n cap ms) (hn : n ≤ 100000) : Calls Tryz.prog 163 #[.slice A n cap, .func (.func 157) #[] #[]] w fun e w' => (∃ v : Int, e = .returned (.int .i64 v) ∧ (decide (0 ≤ v) = !ms.all pgOk)) ∧ Below w.heap.size w w' := by
  have HA := Lib.hid hA
  have WR := Lib.hid wrong_any
  clear hA
  go_enter Tryz.func163, Tryz.ntmps163
  go_wp2
  go_loopw [8] (fun i wr => ∃ j : Nat, j ≤ n ∧ i = .int .i64 j ∧ Below w.heap.size w wr ∧ ∀ i, i < j → pgOk (pgN ms i) = true) (fun i _ => n - (intOf i).toNat)
  case atStart => exact ⟨0, by omega, rfl, Below.refl _ _, fun i h => by omega⟩
  case round =>
    obtain ⟨j, hj, rfl, hb, hok⟩ := hrel
    have HB := Lib.hid hb
    have HO := Lib.hid hok
    clear hb hok
    by_cases hlt : j < n
    · have HR := Lib.hid (HA.out.kept HB.out)
      obtain ⟨g, off, rfl, hg, hr⟩ := HR.out.at_ hlt
      have HR' := Lib.hid hr
      have i0 : (0 : Int) ≤ (j : Int) := by omega
      have i1 : (j : Int) < (n : Int) := by omega
      have HLT : Hid (j < ms.length) := Lib.hid (by rw [HA.out.len]; exact hlt)
      clear hr hg
      cases hp : pgOk (pgN ms j) with
      | true =>
        have HP := Lib.hid hp
        have WR2 := Lib.hid (WR.out (pgN ms j))
        rw [hp] at WR2
        clear hp
        go_wp2_with (first
          | (refine wpList_ldr _ rfl rfl rfl Tryz.underlying73 rfl ppg_sizeM (pgC_len _) HR'.out ?_)
          | (go_at_call 157; (with_reducible refine (WR2.out _).mono ?_); rintro e w1 ⟨rfl, hb⟩; have HB1 := Lib.hid hb; clear hb))
        refine ⟨⟨j + 1, by omega, by go_num, HB.out.trans (HB1.out.mono HB.out.size), fun i hi => ?_⟩, by simp [intOf]; omega⟩
        by_cases e : i = j
        · subst e; exact HP.out
        · exact HO.out i (by omega)
      | false =>
        have HP := Lib.hid hp
        have WR2 := Lib.hid (WR.out (pgN ms j))
        rw [hp] at WR2
        clear hp
        go_wp2_with (first
          | (refine wpList_ldr _ rfl rfl rfl Tryz.underlying73 rfl ppg_sizeM (pgC_len _) HR'.out ?_)
          | (go_at_call 157; (with_reducible refine (WR2.out _).mono ?_); rintro e w1 ⟨rfl, hb⟩; have HB1 := Lib.hid hb; clear hb))
        go_ret
        exact ⟨⟨_, rfl, by rw [firstBad ms j HLT.out HO.out HP.out]; simp⟩, HB.out.trans (HB1.out.mono HB.out.size)⟩
    · obtain rfl : j = n := by omega
      have HF := Lib.hid (noBad ms (fun i hi => HO.out i (by rw [← HA.out.len]; exact hi)))
      go_wp2
      go_ret
      exact ⟨⟨_, rfl, by rw [HF.out]; rfl⟩, HB.out⟩
theorem hasPg_any (hA : ReadsM w A n cap ms) (hn : n ≤ 100000) : Calls Tryz.prog 158 #[.slice A n cap, .func (.func 157) #[] #[]] w fun e w' => e = .returned (.bool (!ms.all pgOk)) ∧ Below w.heap.size w w' := by
  have HI := Lib.hid (idxPg_any hA hn)
  clear hA
  go_enter Tryz.func158, Tryz.ntmps158
  go_wp2_with (go_at_call 163; (with_reducible refine HI.out.mono ?_); rintro e w1 ⟨⟨v, rfl, hv⟩, hb⟩; have HB := Lib.hid hb; have HV := Lib.hid hv; clear hb hv)
  go_ret
  exact ⟨by rw [← HV.out]; rfl, HB.out⟩
end
end Go.Proofs.YtpkkejdjhnmjiaaGreat
namespace Go.Proofs.YtpkkejdjhnmjiaaGreat
open Go.RowKit Bm Go.Shelf
def totF (bs : List BlkM) : Nat → Nat
  | 0 => 0
  | j + 1 => totF bs j + frIn (bkN bs j)
theorem frIn_le (b : BlkM) : frIn b ≤ 8 := by
  unfold frIn
  split
  · exact nFree_le _ _
  · omega
theorem totF_le (bs : List BlkM) : ∀ j, totF bs j ≤ 8 * j
  | 0 => Nat.le_refl _
  | j + 1 => by
    have := totF_le bs j
    have := frIn_le (bkN bs j)
    unfold totF
    omega
def fitsM (x : StoM) (b : Nat) (ms : List PageM) : Bool := decide ((ms.length : Int) ≤ -(frIn (bkN x.bs b) : Int) + (totF x.bs x.bs.length : Int)) && ms.all pgOk
section
variable {B p f q s k g : Nat} {K : Nat → Prop} {d : DrvM} {x : StoM} {w w' : World}
set_option maxRecDepth 100000 in
set_option maxHeartbeats 1000000 in
theorem Sto.fits (h : Sto B p f q s k g K d x w) (b : Nat) (hb : b < k) {A : Option Addr} {n cap : Nat} {ms : List PageM} (hA : ReadsM w A n cap ms) (hn : n ≤ 100000) :
    Calls Tryz.prog 152 #[.pointer (some ⟨s, 0, none⟩), .int .i64 b, .slice A n cap] w fun e w' => e = .returned (.bool (fitsM x b ms)) ∧ Below w.heap.size w w' := by
  have hzb := bk_zero
  have hk2 := h.k2
  obtain ⟨m, hm⟩ : ∃ m, m = x.bs.length := ⟨_, rfl⟩
  have hmk : m = k := by rw [hm, h.len]
  have c1 : w.cell? ⟨s, 1, none⟩ = some (.slice (some ⟨g, 0, none⟩) m m) := by rw [hm]; exact h.c1
  have C1 : Hid (∀ W, Below w.heap.size w W → W.cell? ⟨s, 1, none⟩ = some (.slice (some ⟨g, 0, none⟩) m m)) := Lib.hid (fun W hW => by rw [hm]; exact (h.below hW).c1)
  have BR := Lib.hid (fun W (hW : Below w.heap.size w W) j (hj : j < m) => (h.below hW).blk (b := j) (by omega))
  have BO := Lib.hid (fun j (hj : j < m) => h.bok (b := j) (by omega))
  have FI := Lib.hid (fun j (hj : j < m) W => freeIn_any (bkN x.bs j) (h.bok (b := j) (by omega)) W)
  have HA := Lib.hid hA
  have i1 : (b : Int) < (m : Int) := by omega
  have hbm : b < m := by omega
  have m64 : (m : Int) ≤ 64 := by omega
  have f0 := frIn_le (bkN x.bs b)
  have HFT : Hid (fitsM x b ms = (decide ((n : Int) ≤ -(frIn (bkN x.bs b) : Int) + (totF x.bs m : Int)) && ms.all pgOk)) := Lib.hid (by unfold fitsM; rw [hA.len, hm])
  have HB := Lib.hid (h.blk hb)
  have HBO := Lib.hid (h.bok hb)
  obtain ⟨fb, hfb⟩ : ∃ fb, fb = frIn (bkN x.bs b) := ⟨_, rfl⟩
  have FB := Lib.hid (fun W => freeIn_any (bkN x.bs b) (h.bok hb) W)
  rw [← hfb] at HFT FB f0
  unfold bkV at FB
  clear h hm hmk hA hfb hk2
  go_enter Tryz.func152, Tryz.ntmps152
  go_wp2_with (first
    | (refine wpList_ldr _ rfl rfl rfl Tryz.underlying147 rfl bk_size (bk_len HBO.out) HB.out ?_)
    | (go_at_call 156; (with_reducible refine (FB.out _).mono ?_); rintro e w1 ⟨rfl, hb1⟩; have HB1 := Lib.hid hb1; have c11 := C1.out _ hb1; clear hb1))
  go_loopw [7, 25] (fun r i wr => ∃ j : Nat, j ≤ m ∧ i = .int .i64 j ∧ r = .int .i64 (-(fb : Int) + (totF x.bs j : Int)) ∧ Below w.heap.size w wr) (fun _ i _ => m - (intOf i).toNat)
  case atStart => exact ⟨0, by omega, rfl, by simp [totF], HB1.out⟩
  case round =>
    obtain ⟨j, hj, rfl, rfl, hbb⟩ := hrel
    have HBB := Lib.hid hbb
    clear hbb
    have t0 := totF_le x.bs j
    by_cases hlt : j < m
    · have HR := Lib.hid (BR.out wr HBB.out j hlt)
      have HO := Lib.hid (BO.out j hlt)
      have FJ := Lib.hid (FI.out j hlt)
      unfold bkV at FJ
      have j0 : (0 : Int) ≤ (j : Int) := by omega
      have j1 : (j : Int) < (m : Int) := by omega
      have f1 := frIn_le (bkN x.bs j)
      have HTS : Hid (totF x.bs (j + 1) = totF x.bs j + frIn (bkN x.bs j)) := Lib.hid rfl
      go_wp2_with (first
        | (refine wpList_ldr _ rfl rfl rfl Tryz.underlying147 rfl bk_size (bk_len HO.out) HR.out ?_)
        | (refine wpList_stm (pre := []) (post := []) (xs := bkC bk0) _ _ rfl rfl rfl rfl bk_size (by rfl) (bk_len HO.out) (bk_one _) rfl (by simp) (At.news wr _ (bkC bk0)) ?_; intro w2 A2 T2; rw [List.nil_append, List.append_nil] at A2; have HA2 := Lib.hid A2; have HB2 : Hid (Below w.heap.size w w2) := Lib.hid (HBB.out.trans ((((Below.refl _ wr).alloc (Nat.le_refl _) _).trans (T2.below (fun i hi => by unfold Just at hi; omega) (by simp))).mono HBB.out.size)); clear A2 T2)
        | (refine wpList_ldr _ rfl rfl rfl Tryz.underlying147 rfl bk_size (bk_len HO.out) HA2.out.rng ?_)
        | (go_at_call 156; (with_reducible refine (FJ.out _).mono ?_); rintro e w3 ⟨rfl, hb3⟩; have HB3 := Lib.hid (HB2.out.trans (hb3.mono HB2.out.size)); clear hb3))
      refine ⟨⟨j + 1, by omega, by go_num, by rw [HTS.out]; go_num, HB3.out⟩, by simp [intOf]; omega⟩
    · obtain rfl : j = m := by omega
      have HC := Lib.hid (hasPg_any (HA.out.kept HBB.out) hn)
      obtain ⟨tt, htt⟩ : ∃ tt : Int, tt = -(fb : Int) + (totF x.bs j : Int) := ⟨_, rfl⟩
      rw [← htt] at HFT ⊢
      clear htt
      by_cases hle : (n : Int) ≤ tt
      · have hd : decide ((n : Int) ≤ tt) = true := decide_eq_true hle
        go_wp2_with (go_at_call 158; (with_reducible refine HC.out.mono ?_); rintro e w1 ⟨rfl, hb⟩; have HB5 := Lib.hid hb; clear hb)
        go_ret
        exact ⟨by rw [HFT.out, hd]; simp, HBB.out.trans (HB5.out.mono HBB.out.size)⟩
      · have hd : decide ((n : Int) ≤ tt) = false := decide_eq_false hle
        go_wp2
        go_ret
        exact ⟨by rw [HFT.out, hd]; rfl, HBB.out⟩
end
end Go.Proofs.YtpkkejdjhnmjiaaGreat
namespace Go.Proofs.YtpkkejdjhnmjiaaGreat
open Go.RowKit Bm Go.Shelf Go.Maps
def coC (y : PlM × PlM) : List Value := plC y.1 ++ plC y.2
def coV (y : PlM × PlM) : Value := .agg (coC y).toArray
def co0 : PlM × PlM := (pl0, pl0)
theorem coC_len (y : PlM × PlM) : (coC y).length = 18 := by simp [coC, plC_len]
theorem coC_one (y : PlM × PlM) : ∀ u ∈ coC y, u.oneCell' = true := by
  intro u hu
  rcases List.mem_append.1 hu with h | h <;> exact plC_one _ u h
theorem co_info : (Tryz.prog.info? 207).map (fun i => (i.zero, i.size)) = some (some (.agg (coC co0).toArray), 18) := by kernel_rfl
theorem co_zero (w : World) : (zeroValue 207).run Tryz.prog w = .ok (coV co0) w := (zero_of_info co_info).1 w
theorem co_size : (Tryz.prog.info? 207).map (·.size) = some 18 := by kernel_rfl
theorem keyedU : Keyed Tryz.prog 36 := int_keyed Tryz.underlying36
theorem wfU (s : BitVec 32) : (Lit.int .u32 (U s)).wf = true := U_wf s
theorem isKeyU (i : Int) : WideAt.IsKeyLit (.int .u32 i) := by simp [WideAt.IsKeyLit]
def heldR (v : Value) : Option (DataW Value × List MemPlace) := some (.held v, [])
structure MapC (w : World) (b n : Nat) (G : BitVec 32 → Option (PlM × PlM)) : Prop where
  ex : ∃ D : DataW Value, w.ownsMap Tryz.prog 36 heldR b n D ∧ ∀ s : BitVec 32, Maps.has D (.int .u32 (U s)) = (G s).isSome ∧ D.atKey (.int .u32 (U s)) (.held (coV co0)) = .held (coV ((G s).getD co0))
section
variable {w w' : World} {b n : Nat} {G : BitVec 32 → Option (PlM × PlM)}
theorem MapC.news (w : World) : MapC (w.alloc (.map #[] 0)) w.heap.size 0 (fun _ => none) :=
  ⟨.map [], World.ownsMap_made w _ _ _, fun _ => ⟨rfl, rfl⟩⟩
theorem MapC.look (h : MapC w b n G) (s : BitVec 32) : (Instr.lookup 198 (.map (some b)) (.int .u32 (U s)) false).run Tryz.prog w = .ok (coV ((G s).getD co0)) w := by
  obtain ⟨D, h1, h3⟩ := h
  obtain ⟨v, ps, hrun, hv⟩ := h1.lookup keyedU Tryz.underlying198 (co_zero w) (zd := .held (coV co0)) (zp := []) rfl (keyOf_int_mk Tryz.underlying36 (wfU s))
  rw [(h3 s).2] at hv
  simp only [heldR, Option.some.injEq, Prod.mk.injEq, DataW.held.injEq] at hv
  rw [hrun, hv.1]
theorem MapC.look2 (h : MapC w b n G) (s : BitVec 32) : (Instr.lookup 198 (.map (some b)) (.int .u32 (U s)) true).run Tryz.prog w = .ok (.tuple #[coV ((G s).getD co0), .bool (G s).isSome]) w := by
  obtain ⟨D, h1, h3⟩ := h
  obtain ⟨v, ps, hrun, hv⟩ := h1.look_ok keyedU Tryz.underlying198 (co_zero w) (zd := .held (coV co0)) (zp := []) rfl (keyOf_int_mk Tryz.underlying36 (wfU s))
  rw [(h3 s).2] at hv
  simp only [heldR, Option.some.injEq, Prod.mk.injEq, DataW.held.injEq] at hv
  rw [hrun, hv.1, (h3 s).1]
theorem MapC.store (h : MapC w b n G) (hn : n < 100000) (s : BitVec 32) (y : PlM × PlM) :
    ∃ w', (Instr.mapUpdate 198 (.map (some b)) (.int .u32 (U s)) (coV y)).run Tryz.prog w = .ok () w' ∧ MapC w' b (n + 1) (fun j => if j = s then some y else G j) ∧ Turned (Just b) w w' := by
  obtain ⟨D, h1, h3⟩ := h
  obtain ⟨w', hrun, ho, ht⟩ := h1.store keyedU Tryz.underlying198 (by unfold maxLen; omega) (keyOf_int_mk Tryz.underlying36 (wfU s)) (val := coV y) (d := .held (coV y)) (ps := []) rfl
  refine ⟨w', hrun, ⟨_, ho, ?_⟩, ?_⟩
  · intro j
    by_cases e : j = s
    · subst e
      simp only [if_pos, atKey_put_same h1.isMap (isKeyU _), has_put_same h1.isMap (isKeyU _), Option.isSome_some, Option.getD_some, and_self]
    · have hne : (Lit.int .u32 (U j)) ≠ (.int .u32 (U s)) := by intro e'; simp only [Lit.int.injEq, true_and] at e'; exact e (U_inj e')
      simp only [if_neg e]
      rw [atKey_put_other hne, has_put_other hne]
      exact h3 j
  · exact (Turned.refl _ _).grown ht.grown (fun k hk _ => by simp only [Option.some.injEq] at hk; exact hk.symm)
theorem MapC.kept (h : MapC w b n G) (hb : w'.heap[b]? = w.heap[b]?) : MapC w' b n G := by
  obtain ⟨D, ⟨es, clock, h1, h2⟩, h3⟩ := h
  exact ⟨D, ⟨es, clock, hb.trans h1, h2⟩, h3⟩
theorem MapC.map (h : MapC w b n G) : b < w.heap.size ∧ ∃ es clock, w.heap[b]? = some (.map es clock) := by
  obtain ⟨D, ⟨es, clock, h1, _⟩, _⟩ := h
  exact ⟨(Array.getElem?_eq_some_iff.1 h1).1, es, clock, h1⟩
theorem MapC.ne (h : MapC w b n G) {k : Nat} {t : TypeId} {cs : List Value} (hA : At w k t cs) : b ≠ k := by
  rintro rfl
  obtain ⟨_, es, clock, e⟩ := h.map
  unfold At at hA
  rw [e] at hA
  cases hA
theorem MapC.below (h : MapC w b n G) (hB : Below w.heap.size w w') : MapC w' b n G := h.kept (hB.block b h.map.1)
theorem MapC.turned (h : MapC w b n G) {S : Nat → Prop} (t : Turned S w w') (hb : ¬ S b) : MapC w' b n G := h.kept (t.block b h.map.1 hb)
theorem MapC.congr {G' : BitVec 32 → Option (PlM × PlM)} (h : MapC w b n G) (e : ∀ s, G s = G' s) : MapC w b n G' := by rwa [show G' = G from funext fun s => (e s).symm]
end
section
variable {ops : Array Oper} {rest : List Oper} {o : Oper} {a : Go.Act} {w : World} {Q : Exit → Go.Act → World → Prop} {b n : Nat} {G : BitVec 32 → Option (PlM × PlM)}
theorem wpList_lookC (m x : Operand) (s : BitVec 32) (hgd : o.guard = none) (ho : o.op = .lookup 198 m x false) (hm : a.eval m = .map (some b)) (hx : a.eval x = .int .u32 (U s)) (h : MapC w b n G)
    (hK : wpList Tryz.prog ops Q rest (a.put o.dst (coV ((G s).getD co0))) w) : wpList Tryz.prog ops Q (o :: rest) a w :=
  wpList_plain hgd fun K hK' => by
    unfold Oper.wp
    simp [execOp, ho, hm, hx, h.look s, Result.andThen]
    exact hK' _ _ hK
theorem wpList_lookC2 (m x : Operand) (s : BitVec 32) (hgd : o.guard = none) (ho : o.op = .lookup 198 m x true) (hm : a.eval m = .map (some b)) (hx : a.eval x = .int .u32 (U s)) (h : MapC w b n G)
    (hK : wpList Tryz.prog ops Q rest (a.put o.dst (.tuple #[coV ((G s).getD co0), .bool (G s).isSome])) w) : wpList Tryz.prog ops Q (o :: rest) a w :=
  wpList_plain hgd fun K hK' => by
    unfold Oper.wp
    simp [execOp, ho, hm, hx, h.look2 s, Result.andThen]
    exact hK' _ _ hK
theorem wpList_setC (m x y : Operand) (s : BitVec 32) (v : PlM × PlM) (hgd : o.guard = none) (ho : o.op = .mapUpdate 198 m x y) (hm : a.eval m = .map (some b)) (hx : a.eval x = .int .u32 (U s)) (hy : a.eval y = coV v) (h : MapC w b n G) (hn : n < 100000)
    (hK : ∀ w', MapC w' b (n + 1) (fun j => if j = s then some v else G j) → Turned (Just b) w w' → wpList Tryz.prog ops Q rest (a.put o.dst undef) w') : wpList Tryz.prog ops Q (o :: rest) a w :=
  wpList_plain hgd fun K hK' => by
    obtain ⟨w', hrun, r1, r2⟩ := h.store hn s v
    unfold Oper.wp
    simp [execOp, ho, hm, hx, hy, hrun, Result.andThen]
    exact hK' _ _ (hK w' r1 r2)
set_option maxRecDepth 100000 in
theorem run_co1 (y : PlM) (w : World) : (Instr.build 207 #[(0, .agg (plC y).toArray)]).run Tryz.prog w = .ok (coV (y, pl0)) w := by
  obtain ⟨b, i, p, q, g, d0, d1, d2, d3⟩ := y
  unfold coV coC plC pgC
  simp only
  generalize U p = p
  generalize U q = q
  generalize U d0 = d0
  generalize U d1 = d1
  generalize U d2 = d2
  generalize U d3 = d3
  kernel_rfl
set_option maxRecDepth 100000 in
theorem run_co2 (y z : PlM) (w : World) : (Instr.build 207 #[(0, .agg (plC y).toArray), (1, .agg (plC z).toArray)]).run Tryz.prog w = .ok (coV (y, z)) w := by
  obtain ⟨b, i, p, q, g, d0, d1, d2, d3⟩ := y
  obtain ⟨b', i', p', q', g', e0, e1, e2, e3⟩ := z
  unfold coV coC plC pgC
  simp only
  generalize U p = p
  generalize U q = q
  generalize U d0 = d0
  generalize U d1 = d1
  generalize U d2 = d2
  generalize U d3 = d3
  generalize U p' = p'
  generalize U q' = q'
  generalize U e0 = e0
  generalize U e1 = e1
  generalize U e2 = e2
  generalize U e3 = e3
  kernel_rfl
theorem wpList_bco1 (x : Operand) (y : PlM) (hgd : o.guard = none) (ho : o.op = .build 207 #[(0, x)]) (hx : a.eval x = .agg (plC y).toArray)
    (hK : wpList Tryz.prog ops Q rest (a.put o.dst (coV (y, pl0))) w) : wpList Tryz.prog ops Q (o :: rest) a w :=
  wpList_plain hgd fun K hK' => by
    unfold Oper.wp execOp
    simp only [ho, List.map_toArray, List.map_cons, List.map_nil, hx, Sem.run_bind, run_co1, Result.andThen_ok]
    exact hK' _ _ hK
theorem wpList_bco2 (x x' : Operand) (y z : PlM) (hgd : o.guard = none) (ho : o.op = .build 207 #[(0, x), (1, x')]) (hx : a.eval x = .agg (plC y).toArray) (hx' : a.eval x' = .agg (plC z).toArray)
    (hK : wpList Tryz.prog ops Q rest (a.put o.dst (coV (y, z))) w) : wpList Tryz.prog ops Q (o :: rest) a w :=
  wpList_plain hgd fun K hK' => by
    unfold Oper.wp execOp
    simp only [ho, List.map_toArray, List.map_cons, List.map_nil, hx, hx', Sem.run_bind, run_co2, Result.andThen_ok]
    exact hK' _ _ hK
end
end Go.Proofs.YtpkkejdjhnmjiaaGreat
namespace Go.Proofs.YtpkkejdjhnmjiaaGreat
open Go.RowKit Bm Go.Shelf Go.Maps
section
variable {w w' : World}
set_option maxRecDepth 100000 in
theorem bclone_any {g n : Nat} {bs : List BlkM} (hA : At w g 147 (bks bs)) (hb : ∀ b ∈ bs, BlkOk b) (hn : bs.length = n) (n0 : 0 < n) (n1 : n ≤ 100) :
    Calls Tryz.prog 149 #[.slice (some ⟨g, 0, none⟩) n n] w fun e w' => ∃ gr cap rest, e = .returned (.slice (some ⟨gr, 0, none⟩) n cap) ∧ At w' gr 147 (bks bs ++ rest) ∧ n ≤ cap ∧ cap ≤ maxLen ∧ w.heap.size ≤ gr ∧ Below w.heap.size w w' := by
  obtain ⟨i0, hin, hz0, hz1, hz2⟩ := info_parts bk_infoA
  have HN : Hid ((bks bs).length = n * 66) := Lib.hid (by rw [bks_len hb, hn, Nat.mul_comm])
  have HA := Lib.hid hA
  have n1' : (n : Int) ≤ 100 := by omega
  have qe : ∀ W : World, (binOp .eql 80 (.slice (some ⟨g, 0, none⟩) n n) (.slice none 0 0)).run Tryz.prog W = .ok (.bool false) W := fun W => Lib.run_eql_slice_nil W _ _ _ _ _ _ _ Tryz.underlying80
  clear hA hb hn
  go_enter Tryz.func149, Tryz.ntmps149
  go_wp2_with (at_builtin; refine halt_here ?_)
  refine Lib.hid ?_
  have hE : At (w.alloc (.cells #[] 147)) w.heap.size 147 [] := At.news w _ _
  refine wpList_append_lies _ rfl (.tmp 5) (.tmp 6) _ rfl w.heap.size 147 i0 _ 66 304 Tryz.underlying80 hin hz0 hz1 hz2 (by show (bkC bk0).toArray.size = 66; simpa using bk_len bk0_ok) (by omega) (.slice (some ⟨w.heap.size, 0, none⟩) 0 0) 0 [] (by rfl) (own_of_at (rest := []) hE (Nat.le_refl _) rfl rfl (Nat.le_refl _) (Nat.zero_le _)) ⟨g, 0, none⟩ n n (bks bs) (by rfl) HN.out ((HA.out.alloc _).news_at) (bks_one _) n0 (by unfold maxLen; omega) (by omega) (by simp) _ rfl ?_
  intro g3 cap3 w3 ho3 hg3 hgg3 _
  obtain ⟨rest, h1, h2, h3, h4, h5⟩ := at_of_own ho3
  have HR4 := Lib.hid h4
  rw [List.nil_append] at h1
  have HB : Hid (Below w.heap.size w w3) := Lib.hid (((Below.refl w.heap.size w).alloc (Nat.le_refl _) _).grown hg3 (by simp) (fun k hk => by simp only [Value.ownBlock, Option.some.injEq] at hk; omega))
  have HR1 := Lib.hid h1
  have HR3 : Hid (n ≤ cap3) := Lib.hid (by omega)
  have HR5 := Lib.hid h5
  rw [Nat.zero_add]
  clear ho3 hg3 hgg3 h1 h2 h3 h5 hE
  go_wp2
  go_ret
  exact ⟨g3, cap3, rest, rfl, HR1.out, HR3.out, HR4.out, HR5.out, HB.out⟩
end
def maskB (y : BlkM) (s : BitVec 32) (p : Nat) : BlkM := { y with kinds := (List.range 8).map fun i => if i < p ∧ (pgN y.pages i).s = s then 2 else nm y.kinds i }
theorem maskB_ok {y : BlkM} (h : BlkOk y) (s : BitVec 32) (p : Nat) : BlkOk (maskB y s p) := ⟨by simp [maskB], h.p⟩
theorem maskB_zero {y : BlkM} (h : BlkOk y) (s : BitVec 32) : maskB y s 0 = y := by
  unfold maskB
  have e : ((List.range 8).map fun i => if i < 0 ∧ (pgN y.pages i).s = s then 2 else nm y.kinds i) = y.kinds := by
    apply List.ext_getElem
    · simp [h.k]
    · intro i h1 h2
      simp [nm, List.getD_eq_getElem?_getD, h2]
  rw [e]
theorem maskB_pages (y : BlkM) (s : BitVec 32) (p : Nat) : (maskB y s p).pages = y.pages := rfl
theorem maskB_succ {y : BlkM} (s : BitVec 32) (p : Nat) (hp : p < 8) : maskB y s (p + 1) = if (pgN y.pages p).s = s then { maskB y s p with kinds := (maskB y s p).kinds.set p 2 } else maskB y s p := by
  have key : ∀ i, (if i < p + 1 ∧ (pgN y.pages i).s = s then (2 : Int) else nm y.kinds i) = if i = p ∧ (pgN y.pages p).s = s then 2 else (if i < p ∧ (pgN y.pages i).s = s then 2 else nm y.kinds i) := fun i => by
    by_cases e : i = p
    · subst e
      by_cases h : (pgN y.pages i).s = s <;> simp [h]
    · by_cases h : (pgN y.pages i).s = s
      · simp only [h, and_true, e, false_and, if_false]
        by_cases h2 : i < p
        · rw [if_pos (by omega), if_pos h2]
        · rw [if_neg (by omega), if_neg h2]
      · simp [h, e]
  split
  · rename_i h
    unfold maskB
    simp only
    congr 1
    apply List.ext_getElem
    · simp
    · intro i h1 h2
      simp only [List.getElem_map, List.getElem_range, List.getElem_set, key]
      by_cases e : p = i
      · subst e; simp [h]
      · rw [if_neg (fun h => e h.1.symm), if_neg e]
  · rename_i h
    unfold maskB
    congr 1
    apply List.map_congr_left
    intro i hi
    rw [key i, if_neg (fun h' => h h'.2)]
def maskS (rs : List BlkM) (x : PlM) : List BlkM := rs.set x.b.toNat (maskB (bkN rs x.b.toNat) x.p.s 8)
def restM (L : List PlM) (bs : List BlkM) (j : Nat) : List BlkM := (L.take j).foldl maskS bs
theorem restM_succ (L : List PlM) (bs : List BlkM) (j : Nat) (h : j < L.length) : restM L bs (j + 1) = maskS (restM L bs j) (plN L j) := fold_step maskS bs L j h
theorem maskS_ok {rs : List BlkM} (h : ∀ c ∈ rs, BlkOk c) (x : PlM) (hx : x.b.toNat < rs.length) : ∀ c ∈ maskS rs x, BlkOk c := blks_set h _ (maskB_ok (h _ (List.mem_of_getElem? (bkN_get hx))) _ _)
theorem restM_len (L : List PlM) (bs : List BlkM) : ∀ j, (restM L bs j).length = bs.length := fun j => by
  unfold restM
  generalize L.take j = M
  induction M generalizing bs with
  | nil => rfl
  | cons x M ih => rw [List.foldl_cons, ih]; simp [maskS]
theorem restM_ok (L : List PlM) {bs : List BlkM} (h : ∀ c ∈ bs, BlkOk c) (hL : ∀ x ∈ L, x.b.toNat < bs.length) : ∀ j, j ≤ L.length → ∀ c ∈ restM L bs j, BlkOk c
  | 0, _ => h
  | j + 1, hj => by
    rw [restM_succ L bs j hj]
    exact maskS_ok (restM_ok L h hL j (by omega)) _ (by rw [restM_len]; exact hL _ (List.mem_of_getElem? (plN_get hj)))
def G1 (L : List PlM) (j : Nat) (s : BitVec 32) : Option (PlM × PlM) := (lFind (L.take j) s).map fun y => (y, pl0)
def G2 (L1 L2 : List PlM) (j : Nat) (s : BitVec 32) : Option (PlM × PlM) :=
  match lFind (L2.take j) s with
  | some y => some ((lFind L1 s).getD pl0, y)
  | none => (lFind L1 s).map fun y => (y, pl0)
def allG (bs : List BlkM) (s : BitVec 32) : Option (PlM × PlM) := G2 (lOf (cnt bs)) (lOf (cnt (restM (lOf (cnt bs)) bs (lOf (cnt bs)).length))) (lOf (cnt (restM (lOf (cnt bs)) bs (lOf (cnt bs)).length))).length s
theorem find_take {L : List PlM} (hr : Rises L) {j : Nat} (h : j < L.length) (s : BitVec 32) : lFind (L.take (j + 1)) s = if s = (plN L j).p.s then some (plN L j) else lFind (L.take j) s := by
  have e : L.take (j + 1) = L.take j ++ [plN L j] := by rw [List.take_add_one, plN_get h]; rfl
  have hn : lFind (L.take j) (plN L j).p.s = none := by
    unfold lFind
    rw [List.find?_eq_none]
    intro z hz c
    have hz' := of_decide_eq_true c
    obtain ⟨i, hi, e⟩ := List.getElem_of_mem hz
    rw [List.length_take] at hi
    have := List.pairwise_iff_getElem.1 hr i j (by omega) h (by omega)
    rw [List.getElem_take] at e
    have e2 : plN L j = L[j] := by unfold plN; rw [List.getD_eq_getElem?_getD, List.getElem?_eq_getElem h]; rfl
    rw [e, hz', e2] at this
    omega
  rw [e]
  by_cases hs : s = (plN L j).p.s
  · subst hs
    rw [if_pos rfl]
    unfold lFind at hn ⊢
    rw [List.find?_append, hn]
    simp
  · rw [if_neg hs]
    unfold lFind
    rw [List.find?_append]
    have : decide ((plN L j).p.s = s) = false := decide_eq_false (fun h => hs h.symm)
    simp [this]
theorem find_take_none {L : List PlM} (hr : Rises L) {j : Nat} (h : j < L.length) : lFind (L.take j) (plN L j).p.s = none := by
  cases hc : lFind (L.take j) (plN L j).p.s with
  | none => rfl
  | some z =>
    obtain ⟨hz, hz'⟩ := find_mem hc
    obtain ⟨i, hi, e⟩ := List.getElem_of_mem hz
    rw [List.length_take] at hi
    have := List.pairwise_iff_getElem.1 hr i j (by omega) h (by omega)
    rw [List.getElem_take] at e
    have e2 : plN L j = L[j] := by unfold plN; rw [List.getD_eq_getElem?_getD, List.getElem?_eq_getElem h]; rfl
    rw [e, hz', e2] at this
    omega
theorem G1_succ {L : List PlM} (hr : Rises L) {j : Nat} (h : j < L.length) (s : BitVec 32) : (if s = (plN L j).p.s then some (plN L j, pl0) else G1 L j s) = G1 L (j + 1) s := by
  unfold G1
  rw [find_take hr h]
  split <;> rfl
theorem G2_succ {L1 L2 : List PlM} (hr : Rises L2) {j : Nat} (h : j < L2.length) (s : BitVec 32) : (if s = (plN L2 j).p.s then some (((G2 L1 L2 j (plN L2 j).p.s).getD co0).1, plN L2 j) else G2 L1 L2 j s) = G2 L1 L2 (j + 1) s := by
  unfold G2
  rw [find_take hr h, find_take_none hr h]
  split
  · rename_i e
    subst e
    simp only
    cases lFind L1 (plN L2 j).p.s <;> rfl
  · rfl
theorem G1_all (L1 L2 : List PlM) (s : BitVec 32) : G1 L1 L1.length s = G2 L1 L2 0 s := by
  unfold G1 G2
  rw [List.take_length]
  rfl
set_option maxRecDepth 100000 in
theorem run_fco (y z : PlM) (w : World) : (Instr.field 207 (coV (y, z)) 0).run Tryz.prog w = .ok (.agg (plC y).toArray) w := by
  obtain ⟨b, i, p, q, g, d0, d1, d2, d3⟩ := y
  obtain ⟨b', i', p', q', g', e0, e1, e2, e3⟩ := z
  unfold coV coC plC pgC
  simp only
  generalize U p = p
  generalize U q = q
  generalize U d0 = d0
  generalize U d1 = d1
  generalize U d2 = d2
  generalize U d3 = d3
  generalize U p' = p'
  generalize U q' = q'
  generalize U e0 = e0
  generalize U e1 = e1
  generalize U e2 = e2
  generalize U e3 = e3
  kernel_rfl
set_option maxRecDepth 100000 in
theorem run_fpl (y : PlM) (w : World) : (Instr.field 75 (.agg (plC y).toArray) 2).run Tryz.prog w = .ok (.agg (pgC y.p).toArray) w := by
  obtain ⟨b, i, p, q, g, d0, d1, d2, d3⟩ := y
  unfold plC pgC
  simp only
  generalize U p = p
  generalize U q = q
  generalize U d0 = d0
  generalize U d1 = d1
  generalize U d2 = d2
  generalize U d3 = d3
  kernel_rfl
set_option maxRecDepth 100000 in
theorem run_fpg (p : PageM) (w : World) : (Instr.field 73 (.agg (pgC p).toArray) 1).run Tryz.prog w = .ok (.int .u32 (U p.q)) w := by
  obtain ⟨p, q, g, d0, d1, d2, d3⟩ := p
  unfold pgC
  simp only
  generalize U p = p
  generalize U q = q
  generalize U d0 = d0
  generalize U d1 = d1
  generalize U d2 = d2
  generalize U d3 = d3
  kernel_rfl
section
variable {ops : Array Oper} {rest : List Oper} {o : Oper} {a : Go.Act} {w : World} {Q : Exit → Go.Act → World → Prop}
theorem wpList_fld {T f : Nat} {v u : Value} (x : Operand) (hgd : o.guard = none) (ho : o.op = .field T x f) (hx : a.eval x = v) (hr : ∀ w, (Instr.field T v f).run Tryz.prog w = .ok u w)
    (hK : wpList Tryz.prog ops Q rest (a.put o.dst u) w) : wpList Tryz.prog ops Q (o :: rest) a w :=
  wpList_plain hgd fun K hK' => by
    unfold Oper.wp execOp
    simp only [ho, hx, Sem.run_bind, hr, Result.andThen_ok]
    exact hK' _ _ hK
end
section
variable {w : World} {gr : Nat} {t : TypeId} {rs : List BlkM} {rest : List Value}
theorem row_range (h : At w gr t (bks rs ++ rest)) (hb : ∀ c ∈ rs, BlkOk c) {b : Nat} (hlt : b < rs.length) : w.rangeAt gr (b * 66) (bkC (bkN rs b)) := by
  rw [bks_cut rs b hlt, List.append_assoc, List.append_assoc] at h
  have := h.range
  rwa [bks_pre hb b (Nat.le_of_lt hlt)] at this
theorem row_kind (h : At w gr t (bks rs ++ rest)) (hb : ∀ c ∈ rs, BlkOk c) {b i : Nat} (hlt : b < rs.length) (hi : i < 8) : w.cell? ⟨gr, b * 66 + 2 + i, none⟩ = some (.int .i64 (nm (bkN rs b).kinds i)) := by
  have := row_range h hb hlt (2 + i) _ (bk_kind (hb _ (List.mem_of_getElem? (bkN_get hlt))) i hi)
  rwa [← Nat.add_assoc] at this
theorem row_page (h : At w gr t (bks rs ++ rest)) (hb : ∀ c ∈ rs, BlkOk c) {b i : Nat} (hlt : b < rs.length) (hi : i < 8) : w.cell? ⟨gr, b * 66 + 10 + i * 7, none⟩ = some (.int .u32 (U (pgN (bkN rs b).pages i).s)) :=
  bk_page_range (hb _ (List.mem_of_getElem? (bkN_get hlt))) (row_range h hb hlt) i hi 0 _ rfl
theorem row_setKind (h : At w gr t (bks rs ++ rest)) (hb : ∀ c ∈ rs, BlkOk c) {b i : Nat} (hlt : b < rs.length) (hi : i < 8) (v : Int) : At (w.setCell ⟨gr, b * 66 + 2 + i, none⟩ (.int .i64 v)) gr t (bks (rs.set b { bkN rs b with kinds := (bkN rs b).kinds.set i v }) ++ rest) := by
  have ho := hb _ (List.mem_of_getElem? (bkN_get hlt))
  have hp := bks_pre hb b (Nat.le_of_lt hlt)
  refine (h.put (b * 66 + 2 + i) _).as ?_
  rw [bks_put rs b _ hlt, ← bk_setKind ho i hi]
  conv => lhs; rw [bks_cut rs b hlt]
  rw [List.set_append_left _ _ (by rw [List.length_append, List.length_append, hp, bk_len ho]; omega), List.set_append_right _ _ (by omega), show b * 66 + 2 + i - (bks (rs.take b)).length = 2 + i by omega, List.set_append_left _ _ (by rw [bk_len ho]; omega)]
end
theorem bkN_setS {rs : List BlkM} {b : Nat} {c : BlkM} (h : b < rs.length) : bkN (rs.set b c) b = c := by rw [bkN_set h, if_pos rfl]
section
variable {B p f q s k g : Nat} {K : Nat → Prop} {d : DrvM} {x : StoM} {w w' : World}
set_option maxRecDepth 100000 in
set_option maxHeartbeats 4000000 in
theorem Sto.copies (h : Sto B p f q s k g K d x w) (k0 : 0 < k) :
    Calls Tryz.prog 143 #[.pointer (some ⟨s, 0, none⟩)] w fun e w' => ∃ mb n, e = .returned (.map (some mb)) ∧ MapC w' mb n (allG x.bs) ∧ n ≤ 10000 ∧ w.heap.size ≤ mb ∧ Below w.heap.size w w' := by
  have hzp := spl_zero
  have hzc := co_zero
  have hmm := @run_makeMap Tryz.prog
  have hk2 := h.k2
  obtain ⟨bs, hbs⟩ : ∃ bs, bs = x.bs := ⟨_, rfl⟩
  obtain ⟨n, hn⟩ : ∃ n, n = bs.length := ⟨_, rfl⟩
  have hnk : n = k := by rw [hn, hbs, h.len]
  have C1 : Hid (∀ W, Below w.heap.size w W → W.cell? ⟨s, 1, none⟩ = some (.slice (some ⟨g, 0, none⟩) n n)) := Lib.hid (fun W hW => by rw [hn, hbs]; exact (h.below hW).c1)
  have ok : ∀ b ∈ bs, BlkOk b := by rw [hbs]; exact h.ok
  have HOK := Lib.hid ok
  obtain ⟨L1, hL1⟩ : ∃ L, L = lOf (cnt bs) := ⟨_, rfl⟩
  have hin : ∀ y ∈ L1, ∃ b i : Nat, b < n ∧ i < 8 ∧ y.b = (b : Int) := fun y hy => by
    rw [hL1] at hy
    obtain ⟨h1, _, _⟩ := best_some _ _ _ (of_mem hy)
    obtain ⟨b, i, hb, hi, _, e⟩ := mem_cnt.1 h1
    exact ⟨b, i, by rw [hn]; exact hb, hi, by rw [e]⟩
  have hll : L1.length ≤ 8 * n := by rw [hL1, hn]; exact Nat.le_trans (of_len _) (cntU_len bs _)
  have HIN := Lib.hid hin
  have HR1 : Hid (Rises L1) := Lib.hid (by rw [hL1]; exact of_rises _)
  obtain ⟨L2, hL2⟩ : ∃ L, L = lOf (cnt (restM L1 bs L1.length)) := ⟨_, rfl⟩
  have HR2 : Hid (Rises L2) := Lib.hid (by rw [hL2]; exact of_rises _)
  have hl2 : L2.length ≤ 8 * n := by rw [hL2, hn, ← restM_len L1 bs L1.length]; exact Nat.le_trans (of_len _) (cntU_len _ _)
  have HALL : Hid (∀ s, G2 L1 L2 L2.length s = allG x.bs s) := Lib.hid (fun s => by rw [hL2, hL1, hbs]; rfl)
  have OF1 : Hid (∀ W, Below w.heap.size w W → Calls Tryz.prog 22 #[.slice (some ⟨g, 0, none⟩) n n] W fun e w' => ∃ B cap, e = .returned (.slice B L1.length cap) ∧ ReadsL w' B L1.length cap L1 ∧ Below W.heap.size W w' ∧ ∀ g off, B = some ⟨g, off, none⟩ → W.heap.size ≤ g) := Lib.hid (fun W hW => by
    have := lof_own (some ⟨g, 0, none⟩) n n bs W (by rw [hn, hbs]; exact (h.below hW).reads) (by omega)
    rwa [← hL1] at this)
  have OF2 : Hid (∀ W gr cap rest, At W gr 147 (bks (restM L1 bs L1.length) ++ rest) → n ≤ cap → cap ≤ maxLen → Calls Tryz.prog 22 #[.slice (some ⟨gr, 0, none⟩) n cap] W fun e w' => ∃ B cap, e = .returned (.slice B L2.length cap) ∧ ReadsL w' B L2.length cap L2 ∧ Below W.heap.size W w' ∧ ∀ g off, B = some ⟨g, off, none⟩ → W.heap.size ≤ g) := Lib.hid (fun W gr cap rest hA hc hm => by
    have hlen := restM_len L1 bs L1.length
    have := lof_own (some ⟨gr, 0, none⟩) n cap (restM L1 bs L1.length) W (by
      have := ReadsB.of_at (cap := cap) hA (restM_ok L1 ok (fun y hy => by obtain ⟨b, i, hb, _, e⟩ := hin y hy; rw [e]; omega) _ (Nat.le_refl _)) (by rw [hlen]; omega) hm
      rwa [hlen, ← hn] at this) (by omega)
    rwa [← hL2] at this)
  have CL : Hid (∀ W, Below w.heap.size w W → Calls Tryz.prog 149 #[.slice (some ⟨g, 0, none⟩) n n] W fun e w' => ∃ gr cap rest, e = .returned (.slice (some ⟨gr, 0, none⟩) n cap) ∧ At w' gr 147 (bks bs ++ rest) ∧ n ≤ cap ∧ cap ≤ maxLen ∧ W.heap.size ≤ gr ∧ Below W.heap.size W w') := Lib.hid (fun W hW => bclone_any (by rw [hbs]; exact (h.below hW).row) ok hn.symm (by omega) (by omega))
  have HN := Lib.hid hn
  have hn64 : (n : Int) ≤ 64 := by omega
  have hll' : (L1.length : Int) ≤ 512 := by omega
  have hl2' : (L2.length : Int) ≤ 512 := by omega
  have cs := C1.out (w.alloc (.map #[] 0)) ((Below.refl _ w).alloc (Nat.le_refl _) _)
  clear h hbs hn hnk hL1 hL2 hin ok
  go_enter Tryz.func143, Tryz.ntmps143
  go_wp2_with (first
    | (go_at_call 149; (with_reducible refine (CL.out _ ((Below.refl _ w).alloc (Nat.le_refl _) _)).mono ?_); rintro e w1 ⟨gr, cap, rest, rfl, hA, hc, hcm, hgr, hb1⟩; have HA := Lib.hid hA; have HC := Lib.hid hc; have HCM := Lib.hid hcm; have HGR : Hid (w.heap.size < gr) := Lib.hid (by rw [World.size_alloc] at hgr; omega); have HM1 := Lib.hid ((MapC.news w).below hb1); have hbw := ((Below.refl w.heap.size w).alloc (Nat.le_refl _) (.map #[] 0)).trans (hb1.mono (by simp)); have HB1 := Lib.hid hbw; have cs1 := C1.out _ hbw; clear hA hc hcm hgr hb1 hbw)
    | (go_at_call 22; (with_reducible refine (OF1.out _ HB1.out).mono ?_); rintro e w2 ⟨A2, c2, rfl, r2, hb2, hg2⟩; have HRD2 := Lib.hid r2; have HB2 := Lib.hid (HB1.out.trans (hb2.mono HB1.out.size)); have HM2 := Lib.hid (HM1.out.below hb2); have HA2 := Lib.hid (HA.out.kept (Turned.of_below hb2 (Nat.le_refl _) NoBlock) (fun h => h)); have HG2 : Hid (∀ go off, A2 = some ⟨go, off, none⟩ → gr < go) := Lib.hid (fun go off e => Nat.lt_of_lt_of_le HA.out.lt (hg2 go off e)); clear r2 hb2 hg2))
  go_loopw [23] (fun i wr => ∃ j : Nat, j ≤ L1.length ∧ i = .int .i64 j ∧ MapC wr w.heap.size j (G1 L1 j) ∧ At wr gr 147 (bks (restM L1 bs j) ++ rest) ∧ ReadsL wr A2 L1.length c2 L1 ∧ Below w.heap.size w wr) (fun i _ => L1.length - (intOf i).toNat)
  case atStart => exact ⟨0, by omega, rfl, HM2.out.congr (fun s => rfl), HA2.out, HRD2.out, HB2.out⟩
  case round =>
    obtain ⟨j, hj, rfl, hm, hA, hr, hb⟩ := hrel
    have HM := Lib.hid hm
    have HAA := Lib.hid hA
    have HR := Lib.hid hr
    have HB := Lib.hid hb
    clear hm hA hr hb cs cs1
    by_cases hlt : j < L1.length
    · have j0 : (0 : Int) ≤ (j : Int) := by omega
      have j1 : (j : Int) < (L1.length : Int) := by omega
      obtain ⟨gp, off, rfl, hgp, hrng⟩ := HR.out.at_ hlt
      obtain ⟨y, hy⟩ : ∃ y, y = plN L1 j := ⟨_, rfl⟩
      rw [← hy] at hrng
      have HRNG := Lib.hid hrng
      obtain ⟨xb, xi, hxb, hxi, hyb⟩ := HIN.out y (by rw [hy]; exact List.mem_of_getElem? (plN_get hlt))
      obtain ⟨rs, hrs⟩ : ∃ rs, rs = restM L1 bs j := ⟨_, rfl⟩
      rw [← hrs] at HAA
      have hrl : rs.length = n := by rw [hrs, restM_len, HN.out]
      have hrok : ∀ c ∈ rs, BlkOk c := by rw [hrs]; exact restM_ok L1 HOK.out (fun z hz => by obtain ⟨b, i, hb', _, e⟩ := HIN.out z hz; rw [e]; have := HN.out; omega) j hj
      have HNX : Hid (restM L1 bs (j + 1) = rs.set xb (maskB (bkN rs xb) y.p.s 8)) := Lib.hid (by rw [restM_succ L1 bs j hlt, ← hy, ← hrs]; unfold maskS; rw [hyb]; rfl)
      have HG1 : Hid (∀ s, (if s = y.p.s then some (y, pl0) else G1 L1 j s) = G1 L1 (j + 1) s) := Lib.hid (fun s => by rw [hy]; exact G1_succ HR1.out hlt s)
      have HGG : Hid (gr < gp) := Lib.hid (HG2.out gp off rfl)
      have HRL := Lib.hid hrl
      have HROK := Lib.hid hrok
      have hyb' : (xb : Int) < (n : Int) := by omega
      have hj512 : Hid (j < 100000) := Lib.hid (by omega)
      have HXB : Hid (xb < rs.length) := Lib.hid (by omega)
      have HYB := Lib.hid hyb
      have HC0 : Hid (∀ (W : World) (k : Nat), At W k 75 (plC y) → W.cell? ⟨k, 0, none⟩ = some (.int .i64 (xb : Int))) := Lib.hid (fun W k hA => by rw [← hyb]; exact hA.cell 0)
      clear hy hrng hrs hrl hrok hyb
      go_wp2_with (first
        | (refine wpList_ldr _ rfl rfl rfl Tryz.underlying75 rfl spl_size (plC_len _) HRNG.out ?_)
        | (refine wpList_stm (pre := []) (post := []) (xs := plC pl0) (ys := plC y) _ _ rfl rfl rfl rfl spl_size (plC_len _) (plC_len _) (plC_one _) rfl (by simp) (At.news wr _ (plC pl0)) ?_; intro w4 A4 T4; rw [List.nil_append, List.append_nil] at A4; have HA4 := Lib.hid A4; have HT4 : Hid (Below wr.heap.size wr w4) := Lib.hid (((Below.refl _ wr).alloc (Nat.le_refl _) _).trans (T4.below (fun i hi => by unfold Just at hi; omega) (by simp))); have c2 := A4.cell 2; have c0 := A4.cell 0; have c0' : w4.cell? ⟨wr.heap.size, 0, none⟩ = some (.int .i64 (xb : Int)) := HC0.out w4 _ A4; have c2' : w4.cell? ⟨wr.heap.size, 2, none⟩ = some (.int .u32 (U y.p.s)) := c2; clear A4 T4 c2 c0)
        | (refine wpList_ldr _ rfl rfl rfl Tryz.underlying75 rfl spl_size (plC_len _) HA4.out.rng ?_)
        | (refine wpList_bco1 _ y rfl rfl rfl ?_)
        | (refine wpList_setC _ _ _ y.p.s (y, pl0) rfl rfl rfl rfl rfl (HM.out.below HT4.out) hj512.out ?_; intro w5 hm5 ht5; have HM5 := Lib.hid (hm5.congr HG1.out); have HT5 := Lib.hid ht5; have c05 : w5.cell? ⟨wr.heap.size, 0, none⟩ = some (.int .i64 (xb : Int)) := HC0.out w5 _ (HA4.out.kept ht5 (fun e => (HM.out.below HT4.out).ne HA4.out e.symm)); clear hm5 ht5))
      obtain ⟨bx, hbx⟩ : ∃ bx, bx = wr.heap.size := ⟨_, rfl⟩
      have HT45 : Hid (Turned (Just w.heap.size) wr w5) := Lib.hid ((Turned.of_below HT4.out (Nat.le_refl _) _).trans HT5.out)
      have HA5 : Hid (At w5 bx 75 (plC y)) := Lib.hid (by rw [hbx]; exact HA4.out.kept HT5.out (fun e => (HM.out.below HT4.out).ne HA4.out e.symm))
      have HAA5 : Hid (At w5 gr 147 (bks (rs.set xb (maskB (bkN rs xb) y.p.s 0)) ++ rest)) := Lib.hid (by
        rw [maskB_zero (HROK.out _ (List.mem_of_getElem? (bkN_get HXB.out))), show rs.set xb (bkN rs xb) = rs from by apply List.ext_getElem?; intro i; rw [List.getElem?_set]; split; rename_i e; subst e; rw [if_pos HXB.out]; exact (bkN_get HXB.out).symm; rfl]
        exact HAA.out.kept HT45.out (fun e => by unfold Just at e; have := HGR.out; omega))
      have HR5 : Hid (ReadsL w5 (some ⟨gp, off, none⟩) L1.length c2 L1) := Lib.hid (readsL_turned HR.out HT45.out (fun g' off' e _ he => by injection e with e; injection e with e1 _; unfold Just at he; have := HGG.out; have := HGR.out; omega))
      have HB5 : Hid (Below w.heap.size w w5) := Lib.hid (HB.out.trans (HT45.out.below (fun k hk => by unfold Just at hk; omega) HB.out.size))
      rw [← hbx]
      clear hbx c0' c2' c05
      go_loopw [37] (fun i wr => ∃ p : Nat, p ≤ 8 ∧ i = .int .i64 p ∧ MapC wr w.heap.size (j + 1) (G1 L1 (j + 1)) ∧ At wr gr 147 (bks (rs.set xb (maskB (bkN rs xb) y.p.s p)) ++ rest) ∧ At wr bx 75 (plC y) ∧ ReadsL wr (some ⟨gp, off, none⟩) L1.length c2 L1 ∧ Below w.heap.size w wr) (fun i _ => 8 - (intOf i).toNat)
      case atStart => exact ⟨0, by omega, rfl, HM5.out, HAA5.out, HA5.out, HR5.out, HB5.out⟩
      case round =>
        obtain ⟨p, hp8, rfl, hm, hA, hbxx, hr, hb⟩ := hrel
        have HMp := Lib.hid hm
        have HAp := Lib.hid hA
        have HXp := Lib.hid hbxx
        have HRp := Lib.hid hr
        have HBp := Lib.hid hb
        clear hm hA hbxx hr hb
        by_cases hpl : p < 8
        · have p0 : (0 : Int) ≤ (p : Int) := by omega
          have p1 : (p : Int) < 8 := by omega
          have HMO := Lib.hid (maskB_ok (HROK.out _ (List.mem_of_getElem? (bkN_get HXB.out))) y.p.s p)
          have HSO := Lib.hid (blks_set HROK.out xb HMO.out)
          have HXL : Hid (xb < (rs.set xb (maskB (bkN rs xb) y.p.s p)).length) := Lib.hid (by rw [List.length_set]; exact HXB.out)
          have cpg := row_page HAp.out HSO.out HXL.out hpl
          have ckd := row_kind HAp.out HSO.out HXL.out hpl
          rw [bkN_setS HXB.out] at cpg ckd
          rw [maskB_pages] at cpg
          have cbx : wr.cell? ⟨bx, 2, none⟩ = some (.int .u32 (U y.p.s)) := HXp.out.cell 2
          have fz := HAp.out.frozen (xb * 66 + 2 + p)
          have HST := Lib.hid (maskB_succ (y := bkN rs xb) y.p.s p hpl)
          obtain ⟨z, hz⟩ : ∃ z, z = (pgN (bkN rs xb).pages p).s := ⟨_, rfl⟩
          rw [← hz] at cpg HST
          clear hz
          by_cases he : z = y.p.s
          · have he2 : (U z == U y.p.s) = true := by rw [he]; simp
            have HE : Hid (maskB (bkN rs xb) y.p.s (p + 1) = { maskB (bkN rs xb) y.p.s p with kinds := (maskB (bkN rs xb) y.p.s p).kinds.set p 2 }) := Lib.hid (by rw [HST.out, if_pos he])
            have HSK : Hid (∀ W, At W gr 147 (bks (rs.set xb (maskB (bkN rs xb) y.p.s p)) ++ rest) → At (W.setCell ⟨gr, xb * 66 + 2 + p, none⟩ (.int .i64 2)) gr 147 (bks (rs.set xb (maskB (bkN rs xb) y.p.s (p + 1))) ++ rest)) := Lib.hid (fun W hW => by
              have := row_setKind hW HSO.out HXL.out hpl 2
              rw [bkN_setS HXB.out, List.set_set] at this
              rw [HE.out]
              exact this)
            clear he
            go_wp2_with fail
            go_quiet (fail)
            go_wp2
            have TK : Turned (Just gr) wr ((wr.drewN nq).setCell ⟨gr, xb * 66 + 2 + p, none⟩ (.int .i64 2)) := ((Turned.refl (Just gr) wr).drewN nq).setCell (p := ⟨gr, xb * 66 + 2 + p, none⟩) (fun _ => rfl) _
            refine ⟨⟨p + 1, by omega, by go_num, HMp.out.turned TK (fun e => by unfold Just at e; have := HGR.out; omega), HSK.out _ (HAp.out.drewN nq), HXp.out.kept TK (fun e => HXp.out.ne HAp.out (by decide) e), readsL_turned HRp.out TK (fun g' off' e _ he => by injection e with e; injection e with e1 _; unfold Just at he; have := HGG.out; omega), HBp.out.trans (TK.below (fun k hk => by unfold Just at hk; have := HGR.out; omega) HBp.out.size)⟩, by simp [intOf]; omega⟩
          · have he2 : (U z == U y.p.s) = false := by rw [beq_eq_false_iff_ne]; exact fun h => he (U_inj h)
            have HE : Hid (maskB (bkN rs xb) y.p.s (p + 1) = maskB (bkN rs xb) y.p.s p) := Lib.hid (by rw [HST.out, if_neg he])
            clear he
            go_wp2_with fail
            go_quiet (fail)
            go_wp2
            refine ⟨⟨p + 1, by omega, by go_num, HMp.out.below (below_drewN _ _ _), by rw [HE.out]; exact HAp.out.drewN nq, HXp.out.drewN nq, HRp.out.kept (below_drewN _ _ _), HBp.out.trans (below_drewN _ _ _)⟩, by simp [intOf]; omega⟩
        · obtain rfl : p = 8 := by omega
          go_wp2
          refine ⟨⟨j + 1, by omega, by go_num, HMp.out, by rw [HNX.out]; exact HAp.out, HRp.out, HBp.out⟩, by simp [intOf]; omega⟩
    · obtain rfl : j = L1.length := by omega
      have HLN : Hid ((restM L1 bs L1.length).length = n) := Lib.hid (by rw [restM_len, HN.out])
      go_wp2_with (first
        | (go_at_call 22; (with_reducible refine (OF2.out _ _ _ _ HAA.out HC.out HCM.out).mono ?_); rintro e w4 ⟨A4, c4, rfl, r4, hb4, hg4⟩; have HR4 := Lib.hid r4; have HB4 := Lib.hid (HB.out.trans (hb4.mono HB.out.size)); have HM4 := Lib.hid (HM.out.below hb4); have HG4 : Hid (∀ go off, A4 = some ⟨go, off, none⟩ → w.heap.size ≠ go) := Lib.hid (fun go off e => by have := hg4 go off e; have := HM.out.map.1; omega); clear r4 hb4 hg4))
      go_loopw [61] (fun i wr => ∃ j2 : Nat, j2 ≤ L2.length ∧ i = .int .i64 j2 ∧ MapC wr w.heap.size (L1.length + j2) (G2 L1 L2 j2) ∧ ReadsL wr A4 L2.length c4 L2 ∧ Below w.heap.size w wr) (fun i _ => L2.length - (intOf i).toNat)
      case atStart => exact ⟨0, by omega, rfl, HM4.out.congr (fun s => G1_all L1 L2 s), HR4.out, HB4.out⟩
      case round =>
        obtain ⟨j2, hj2, rfl, hm, hr, hb⟩ := hrel
        have HMq := Lib.hid hm
        have HRq := Lib.hid hr
        have HBq := Lib.hid hb
        clear hm hr hb
        by_cases hlt2 : j2 < L2.length
        · have j0 : (0 : Int) ≤ (j2 : Int) := by omega
          have j1 : (j2 : Int) < (L2.length : Int) := by omega
          obtain ⟨gp, off, rfl, hgp, hrng⟩ := HRq.out.at_ hlt2
          obtain ⟨y, hy⟩ : ∃ y, y = plN L2 j2 := ⟨_, rfl⟩
          rw [← hy] at hrng
          have HRNG := Lib.hid hrng
          have HNE : Hid (gp ≠ w.heap.size) := Lib.hid (HG4.out gp off rfl).symm
          obtain ⟨z, hz⟩ : ∃ z, z = ((G2 L1 L2 j2 y.p.s).getD co0) := ⟨_, rfl⟩
          have HG2' : Hid (∀ s, (if s = y.p.s then some (z.1, y) else G2 L1 L2 j2 s) = G2 L1 L2 (j2 + 1) s) := Lib.hid (fun s => by rw [hz, hy]; exact G2_succ HR2.out hlt2 s)
          have HZ := Lib.hid hz
          have hj512 : Hid (L1.length + j2 < 100000) := Lib.hid (by omega)
          clear hy hrng hz
          go_wp2_with (first
            | (refine wpList_ldr _ rfl rfl rfl Tryz.underlying75 rfl spl_size (plC_len _) HRNG.out ?_)
            | (refine wpList_stm (pre := []) (post := []) (xs := plC pl0) (ys := plC y) _ _ rfl rfl rfl rfl spl_size (plC_len _) (plC_len _) (plC_one _) rfl (by simp) (At.news wr _ (plC pl0)) ?_; intro w5 A5 T5; rw [List.nil_append, List.append_nil] at A5; have HA5 := Lib.hid A5; have HT5 : Hid (Below wr.heap.size wr w5) := Lib.hid (((Below.refl _ wr).alloc (Nat.le_refl _) _).trans (T5.below (fun i hi => by unfold Just at hi; omega) (by simp))); have c2' : w5.cell? ⟨wr.heap.size, 2, none⟩ = some (.int .u32 (U y.p.s)) := A5.cell 2; clear A5 T5)
            | (refine wpList_lookC _ _ y.p.s rfl rfl rfl rfl (HMq.out.below HT5.out) ?_; rw [← HZ.out])
            | (refine wpList_fld (v := coV z) (u := .agg (plC z.1).toArray) _ rfl rfl rfl (fun W => run_fco z.1 z.2 W) ?_)
            | (refine wpList_ldr _ rfl rfl rfl Tryz.underlying75 rfl spl_size (plC_len _) HA5.out.rng ?_)
            | (refine wpList_bco2 _ _ z.1 y rfl rfl rfl rfl ?_)
            | (refine wpList_setC _ _ _ y.p.s (z.1, y) rfl rfl rfl rfl rfl (HMq.out.below HT5.out) hj512.out ?_; intro w6 hm6 ht6; have HM6 := Lib.hid (hm6.congr HG2'.out); have HT6 := Lib.hid ht6; clear hm6 ht6))
          have HTT : Turned (Just w.heap.size) wr w6 := (Turned.of_below HT5.out (Nat.le_refl _) _).trans HT6.out
          refine ⟨⟨j2 + 1, by omega, by go_num, HM6.out, readsL_turned HRq.out HTT (fun g' off' e _ he => by injection e with e; injection e with e1 _; unfold Just at he; exact HNE.out (e1.trans he)), HBq.out.trans (HTT.below (fun k hk => by unfold Just at hk; omega) HBq.out.size)⟩, by simp [intOf]; omega⟩
        · obtain rfl : j2 = L2.length := by omega
          go_wp2
          go_ret
          exact ⟨_, _, rfl, HMq.out.congr HALL.out, by omega, Nat.le_refl _, HBq.out⟩
end
end Go.Proofs.YtpkkejdjhnmjiaaGreat
