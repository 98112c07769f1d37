/- Plain math of FtlWears, first part: two stores that differ in retired blocks alone do the same. | Plain math of FtlWears, second part: a store whose blocks wear out, and a reclaim of it. | Plain math of FtlWears, third part: an act on a store whose blocks wear out. | Plain math of FtlWears, fourth part: a Mount of a flash with blocks that bear no more erasure. | A store whose blocks wear out, in memory: what an act, a look at its values, and a Mount leave. | The walk of layer ftl's statement FtlWears: where blocks bear few erasures a store goes on till it is full; it is never wrong, and all that was written is there behind a Mount. -/
import Derived.Test.YtnfgpjfldgocaaaGreatFtlL
import Derived.Test.YtnfgpjfldgocaaaGreatFtlLw
import Derived.Test.YtnfgpjfldgocaaaGreatFtlWalk3
import Derived.Deep.CutBlock
import Derived.Deep.DeepCutAuto
namespace Go.Proofs.YtnfgpjfldgocaaaGreat
open Go.RowKit Bm Go.Shelf
section
variable {bs bs' : List BlkM} {x x' y : StoM} {b k i : Nat} {d : DrvM}
structure TwB (bs bs' : List BlkM) : Prop where
  len : bs'.length = bs.length
  at_ : ∀ b, bkN bs' b = bkN bs b ∨ ((bkN bs b).head = 2 ∧ (bkN bs' b).head = 2 ∧ (bkN bs' b).count = (bkN bs b).count ∧ (∀ i, i < 8 → nm (bkN bs b).kinds i ≠ 1) ∧ ∀ i, i < 8 → nm (bkN bs' b).kinds i ≠ 1)
theorem TwB.refl (bs : List BlkM) : TwB bs bs := ⟨rfl, fun _ => .inl rfl⟩
theorem TwB.trans {bs2 : List BlkM} (h : TwB bs bs') (h' : TwB bs' bs2) : TwB bs bs2 := ⟨h'.len.trans h.len, fun b => by
  rcases h'.at_ b with e | ⟨h1, h2, h3, h4, h5⟩
  · rw [e]
    exact h.at_ b
  · rcases h.at_ b with e | ⟨g1, _, g3, g4, _⟩
    · rw [e] at h1 h3 h4
      exact .inr ⟨h1, h2, h3, h4, h5⟩
    · exact .inr ⟨g1, h2, h3.trans g3, g4, h5⟩⟩
theorem TwB.head (h : TwB bs bs') (b : Nat) : (bkN bs' b).head = (bkN bs b).head := by
  rcases h.at_ b with e | ⟨h1, h2, _⟩
  · rw [e]
  · rw [h1, h2]
theorem TwB.count (h : TwB bs bs') (b : Nat) : (bkN bs' b).count = (bkN bs b).count := by
  rcases h.at_ b with e | ⟨_, _, h3, _⟩
  · rw [e]
  · exact h3
theorem cntB_none (h : ∀ i, i < 8 → nm (bkN bs b).kinds i ≠ 1) : cntB bs b 8 = [] := List.eq_nil_iff_forall_not_mem.2 fun y hy => by
  obtain ⟨i, hi, hk, _⟩ := mem_cntB.1 hy
  exact h i hi hk
theorem TwB.cnt (h : TwB bs bs') : cnt bs' = cnt bs := by
  unfold Go.Proofs.YtnfgpjfldgocaaaGreat.cnt cntU
  rw [h.len]
  have : (fun b => cntB bs' b 8) = fun b => cntB bs b 8 := by
    funext b
    rcases h.at_ b with e | ⟨_, _, _, h4, h5⟩
    · unfold cntB
      rw [e]
    · rw [cntB_none h4, cntB_none h5]
  rw [this]
theorem TwB.set (h : TwB bs bs') (b : Nat) (c : BlkM) : TwB (bs.set b c) (bs'.set b c) := by
  refine ⟨by simp [h.len], fun j => ?_⟩
  by_cases hb : b < bs.length
  · rw [bkN_set hb, bkN_set (by rw [h.len]; exact hb)]
    by_cases e : j = b
    · rw [if_pos e, if_pos e]
      exact .inl rfl
    · rw [if_neg e, if_neg e]
      exact h.at_ j
  · have hb' : ¬ b < bs'.length := by rw [h.len]; exact hb
    rw [List.set_eq_of_length_le (by omega), List.set_eq_of_length_le (by omega)]
    exact h.at_ j
theorem TwB.mask (h : TwB bs bs') (x : PlM) : TwB (maskS bs x) (maskS bs' x) := by
  unfold maskS
  by_cases hb : x.b.toNat < bs.length
  · refine ⟨by simp [h.len], fun c => ?_⟩
    rw [bkN_set hb, bkN_set (by rw [h.len]; exact hb)]
    by_cases e : c = x.b.toNat
    · rw [if_pos e, if_pos e]
      rcases h.at_ x.b.toNat with e1 | ⟨h1, h2, h3, h4, h5⟩
      · rw [e1]
        exact .inl rfl
      · refine .inr ⟨h1, h2, h3, fun i hi => ?_, fun i hi => ?_⟩
        · rw [maskB_kind _ _ hi]
          split
          · decide
          · exact h4 i hi
        · rw [maskB_kind _ _ hi]
          split
          · decide
          · exact h5 i hi
    · rw [if_neg e, if_neg e]
      exact h.at_ c
  · rw [List.set_eq_of_length_le (by omega), List.set_eq_of_length_le (by rw [h.len]; omega)]
    exact h
theorem TwB.masks : ∀ (L : List PlM) {bs bs' : List BlkM}, TwB bs bs' → TwB (L.foldl maskS bs) (L.foldl maskS bs')
  | [], _, _, h => h
  | x :: L, _, _, h => TwB.masks L (h.mask x)
theorem TwB.rest (h : TwB bs bs') : TwB (restOf bs) (restOf bs') := by
  unfold restOf restM
  rw [h.cnt]
  exact TwB.masks _ h
theorem TwB.all (h : TwB bs bs') : allG bs' = allG bs := by
  funext s
  rw [allG_is, allG_is, h.cnt, h.rest.cnt]
theorem TwB.fr (h : TwB bs bs') (b : Nat) : frIn (bkN bs' b) = frIn (bkN bs b) := by
  rcases h.at_ b with e | ⟨h1, h2, _⟩
  · rw [e]
  · unfold frIn
    rw [h1, h2, if_neg (by decide), if_neg (by decide)]
theorem TwB.tot (h : TwB bs bs') : ∀ n, totF bs' n = totF bs n
  | 0 => rfl
  | n + 1 => by rw [totF, totF, TwB.tot h n, h.fr]
theorem TwB.val (h : TwB bs bs') (s : BitVec 32) : Val bs' s = Val bs s := by
  unfold Val Latest
  rw [h.cnt]
theorem TwB.pgs (h : TwB bs bs') : PgS bs' = PgS bs := by
  funext p
  unfold PgS
  rw [h.cnt]
structure Tw (x x' : StoM) : Prop where
  ret : x'.ret = x.ret
  off : x'.off = x.off
  bl : TwB x.bs x'.bs
  same : ∀ b, bo x.ret b = false → bkN x'.bs b = bkN x.bs b
theorem Tw.ord (h : Tw x x') : ordN x' = ordN x := by
  have e1 : cmpB x' = cmpB x := by
    funext a b
    unfold cmpB
    rw [h.bl.count, h.bl.count]
  have e2 : flt x' = flt x := by
    funext j
    unfold flt
    rw [h.ret]
  unfold ordN
  rw [e1, e2, h.bl.len]
theorem Tw.us (h : Tw x x') : usL x' = usL x := by
  unfold usL
  rw [h.ord]
  apply List.map_congr_left
  intro b hb
  rw [h.same b (mem_ordN.1 hb).2]
theorem Tw.spots (h : Tw x x') (wo : Int) : spotsM x' wo = spotsM x wo := by
  unfold spotsM
  rw [h.us]
theorem Tw.roomy (h : Tw x x') : roomyM x' = roomyM x := by
  unfold roomyM
  rw [h.spots]
  cases spotsM x (-1) with
  | nil => rfl
  | cons z L =>
    unfold roomyL
    rw [h.ret, h.us]
theorem Tw.fits (h : Tw x x') : fitsM x' = fitsM x := by
  funext b ms
  unfold fitsM
  rw [h.bl.fr, h.bl.tot, h.bl.len]
theorem Tw.cheap (h : Tw x x') : cheapM x' = cheapM x := by
  funext f
  have e : chStep x' f = chStep x f := by
    funext st y
    unfold chStep
    rw [h.fits]
  unfold cheapM chFold
  rw [e, h.us]
theorem Tw.mv (h : Tw x x') (k b : Nat) : mvAll k x' b = mvAll k x b := by
  unfold mvAll
  rw [h.bl.all]
theorem Tw.last (h : Tw x x') (pg : PageM) : lastP x' pg = lastP x pg := by
  unfold lastP
  rw [h.bl.all]
structure Both (r r' : DrvM × StoM × Int) : Prop where
  d : r'.1 = r.1
  e : r'.2.2 = r.2.2
  tw : Tw r.2.1 r'.2.1
theorem Tw.setB (h : Tw x x') (b : Nat) (c : BlkM) : Tw { x with bs := x.bs.set b c } { x' with bs := x'.bs.set b c } := ⟨h.ret, h.off, h.bl.set b c, fun j hj => by
  show bkN (x'.bs.set b c) j = bkN (x.bs.set b c) j
  by_cases hb : b < x.bs.length
  · rw [bkN_set hb, bkN_set (by rw [h.bl.len]; exact hb)]
    by_cases e : j = b
    · rw [if_pos e, if_pos e]
    · rw [if_neg e, if_neg e]
      exact h.same j hj
  · have hb' : ¬ b < x'.bs.length := by rw [h.bl.len]; exact hb
    rw [List.set_eq_of_length_le (by omega), List.set_eq_of_length_le (by omega)]
    exact h.same j hj⟩
theorem Tw.put (h : Tw x x') (hb : bo x.ret b = false) (d : DrvM) (i : Nat) (pg : PageM) : Both (mPut d x b i pg) (mPut d x' b i pg) := by
  unfold mPut
  dsimp only
  rw [h.same b hb]
  by_cases e : (dProgram d (pgAt b i) (pgWs pg)).2 ≠ 0
  · rw [if_pos e, if_pos e]
    exact ⟨rfl, rfl, h⟩
  · rw [if_neg e, if_neg e]
    exact ⟨rfl, rfl, h.setB b _⟩
theorem put_ret (d : DrvM) (x : StoM) (b i : Nat) (pg : PageM) : (mPut d x b i pg).2.1.ret = x.ret := by
  unfold mPut
  dsimp only
  split <;> rfl
theorem Tw.puts : ∀ (l : List ((Nat × Nat) × PageM)) {x x' : StoM} (_ : Tw x x') (d : DrvM) (_ : ∀ z ∈ l, bo x.ret z.1.1 = false), Both (mPuts d x l) (mPuts d x' l)
  | [], _, _, h, d, _ => by
    rw [mPuts_nil, mPuts_nil]
    exact ⟨rfl, rfl, h⟩
  | z :: l, x, x', h, d, hz => by
    have h1 := h.put (hz z List.mem_cons_self) d z.1.2 z.2
    have hr := put_ret d x z.1.1 z.1.2 z.2
    rw [mPuts, mPuts, h1.e, h1.d]
    by_cases e : (mPut d x z.1.1 z.1.2 z.2).2.2 ≠ 0
    · rw [if_pos e, if_pos e]
      exact h1
    · rw [if_neg e, if_neg e]
      exact Tw.puts l h1.tw _ fun y hy => by
        rw [hr]
        exact hz y (List.mem_cons_of_mem _ hy)
theorem Tw.nc (h : Tw x x') (hb : bo x.ret b = false) (hh : (bkN x.bs b).head = 1) : ncM x'.bs b = ncM x.bs b := by
  unfold ncM
  rw [h.same b hb, if_pos hh, if_pos hh]
theorem Tw.remake (h : Tw x x') (hb : bo x.ret b = false) (hh : (bkN x.bs b).head = 1) (d : DrvM) : Both (mRemake d x b) (mRemake d x' b) := by
  unfold mRemake
  dsimp only
  rw [h.nc hb hh]
  by_cases e1 : (dProgram d ((b : Int) * 64 + 3) [0#32]).2 ≠ 0
  · rw [if_pos e1, if_pos e1]
    exact ⟨rfl, rfl, h⟩
  rw [if_neg e1, if_neg e1]
  by_cases e2 : (dErase (dProgram d ((b : Int) * 64 + 3) [0#32]).1 b).2 ≠ 0
  · rw [if_pos e2, if_pos e2]
    exact ⟨rfl, rfl, h.setB b _⟩
  rw [if_neg e2, if_neg e2]
  by_cases e3 : (dProgram (dErase (dProgram d ((b : Int) * 64 + 3) [0#32]).1 b).1 ((b : Int) * 64) (hdWs (ncM x.bs b))).2 ≠ 0
  · rw [if_pos e3, if_pos e3]
    exact ⟨rfl, rfl, h.setB b _⟩
  rw [if_neg e3, if_neg e3]
  exact ⟨rfl, rfl, h.setB b _⟩
theorem bo_set (l : List Bool) (b j : Nat) (v : Bool) (hb : b < l.length) : bo (l.set b v) j = if j = b then v else bo l j := by
  unfold bo
  rw [List.getD_eq_getElem?_getD, List.getD_eq_getElem?_getD]
  by_cases e : j = b
  · subst e
    rw [if_pos rfl, List.getElem?_set_self hb]
    rfl
  · rw [if_neg e, List.getElem?_set_ne (Ne.symm e)]
theorem bo_set_or (l : List Bool) (b j : Nat) (h : bo (l.set b true) j = false) : bo l j = false := by
  by_cases hb : b < l.length
  · rw [bo_set l b j true hb] at h
    split at h
    · cases h
    · exact h
  · rwa [List.set_eq_of_length_le (by omega)] at h
theorem Tw.renew (h : Tw x x') (hb : bo x.ret b = false) (hh : (bkN x.bs b).head = 1) (d : DrvM) : Both (mRenew d x b) (mRenew d x' b) := by
  have h1 := h.remake hb hh d
  unfold mRenew
  dsimp only
  rw [h1.e]
  by_cases e : (mRemake d x b).2.2 = 5
  · rw [if_pos e, if_pos e, h1.d, h1.tw.ret]
    exact ⟨rfl, rfl, rfl, h1.tw.off, h1.tw.bl, fun j hj => h1.tw.same j (bo_set_or _ _ _ hj)⟩
  · rw [if_neg e, if_neg e]
    exact h1
end
end Go.Proofs.YtnfgpjfldgocaaaGreat
namespace Go.Proofs.YtnfgpjfldgocaaaGreat
open Go.RowKit Bm Go.Shelf
section
variable {ws : List (BitVec 32)} {b k i : Nat} {d d' : DrvM} {x x' x2 : StoM} {Q : Int} {wo : Int}
theorem torn_head (hl : 64 * b + 64 ≤ ws.length) (h3 : wd ws (64 * b + 3) = 0#32) : (bkOf (chunk ws b)).head = 2 ∧ (bkOf (chunk ws b)).count = 0#32 := by
  have hn : (bkOf (chunk ws b)).head ≠ 1 := fun h => by
    have := ((head_iff hl).1 h).2.2.2
    rw [h3] at this
    exact absurd this (by decide)
  have e : (chunk ws b).take 4 = [wd ws (64 * b), wd ws (64 * b + 1), wd ws (64 * b + 2), 0#32] := by
    rw [win_chunk_head b, win4 (by omega), h3]
  have hn' : (hdRd ((chunk ws b).take 4)).2 ≠ 1 := hn
  show (hdRd ((chunk ws b).take 4)).2 = 2 ∧ (hdRd ((chunk ws b).take 4)).1 = 0#32
  rw [e] at hn' ⊢
  have hf : freeB [wd ws (64 * b), wd ws (64 * b + 1), wd ws (64 * b + 2), 0#32] = false := by
    simp [freeB]
  have h4 : [wd ws (64 * b), wd ws (64 * b + 1), wd ws (64 * b + 2), 0#32].length = 4 := rfl
  unfold hdRd at hn' ⊢
  rw [if_pos h4, hf, if_neg Bool.false_ne_true] at hn' ⊢
  by_cases e2 : hdWs (wd [wd ws (64 * b), wd ws (64 * b + 1), wd ws (64 * b + 2), 0#32] 1) = [wd ws (64 * b), wd ws (64 * b + 1), wd ws (64 * b + 2), 0#32]
  · rw [if_pos e2] at hn'
    exact absurd rfl hn'
  · rw [if_neg e2]
    exact ⟨rfl, rfl⟩
theorem wornB (h : Live k d) (hr : Room 1 d.f.chip) (hb : b < k) (hw : d.f.chip.endure ≤ nm d.f.chip.wear b) (x : StoM) :
    ∃ d', mRemake d x b = (d', { x with bs := x.bs.set b blkT }, 5) ∧ Live k d' ∧ Spent 1 d d' ∧ (∀ j, j < k → j ≠ b → chunk d'.f.chip.ws j = chunk d.f.chip.ws j) ∧ (bkOf (chunk d'.f.chip.ws b)).head = 2 ∧ (bkOf (chunk d'.f.chip.ws b)).count = 0#32 := by
  have hl := h.ok.ok.chip.words
  obtain ⟨mo, e1, L1⟩ := dProgram_live [0#32] h hr (64 * b + 3) (by simp; omega)
  have l1 : ([0#32] : List (BitVec 32)).length = 1 := rfl
  rw [l1] at e1
  obtain ⟨d1, hd1⟩ : ∃ d1, d1 = after d mo 1 (andW d.f.chip.ws (64 * b + 3) [0#32]) := ⟨_, rfl⟩
  rw [← hd1] at e1
  rw [e1] at L1
  have c1 : d1.f.chip.left = burn 1 d.f.chip := by rw [hd1]; rfl
  have w1 : d1.f.chip.wear = d.f.chip.wear := by rw [hd1]; rfl
  have n1 : d1.f.chip.endure = d.f.chip.endure := by rw [hd1]; rfl
  have p1 : d1.f.chip.pick = d.f.chip.pick := by rw [hd1]; rfl
  have s1 : d1.f.chip.ws = andW d.f.chip.ws (64 * b + 3) [0#32] := by rw [hd1]; rfl
  obtain ⟨e2, L2⟩ := dErase_worn L1 b hb (by rw [w1, n1]; exact hw)
  obtain ⟨d2, hd2⟩ : ∃ d2, d2 = (dErase d1 b).1 := ⟨_, rfl⟩
  have e2' : dErase d1 b = (d2, 5) := by rw [hd2, e2]
  rw [← hd2] at L2
  have c2 : d2.f.chip = d1.f.chip := by rw [hd2, e2]
  have hl2 : d2.f.chip.ws.length = k * 64 := L2.ok.ok.chip.words
  have h3 : wd d2.f.chip.ws (64 * b + 3) = 0#32 := by
    have h4 := wd_get (ws := d2.f.chip.ws) (i := 64 * b + 3) (by omega)
    rw [c2, s1, andW_get _ _ _ (by rw [l1, hl]; omega), if_pos (by rw [l1]; omega)] at h4
    rw [c2, s1, ← Option.some.inj h4, show 64 * b + 3 - (64 * b + 3) = 0 by omega]
    exact BitVec.and_zero
  refine ⟨d2, ?_, L2, ⟨by rw [c2, c1], by rw [c2, w1], by rw [c2, n1], by rw [c2, p1]⟩, fun j hj hne => ?_, torn_head (by omega) h3⟩
  · unfold mRemake
    rw [show ((b : Int) * 64 + 3) = ((64 * b + 3 : Nat) : Int) by omega, e1]
    dsimp only
    rw [if_neg (by decide), e2']
    dsimp only
    rw [if_pos (by decide)]
  · refine bkOf_congr fun i hi => ?_
    rw [c2, s1, andW_get _ _ _ (by rw [l1, hl]; omega), if_neg (by rw [l1]; omega)]
def nrm (k : Nat) (d : DrvM) (x : StoM) : StoM := { x with bs := viewOf k d.f.chip.ws }
structure FitW (k : Nat) (Q : Int) (d : DrvM) (x : StoM) : Prop where
  live : Live k d
  left : d.f.chip.left = 0
  tw : Tw x (nrm k d x)
  head : ∀ b, b < k → ((bkN (viewOf k d.f.chip.ws) b).head = 1 ↔ bo x.ret b = false)
  off : x.off = false
  rlen : x.ret.length = 64
  far : ∀ b, k ≤ b → bo x.ret b = false
  un : UnP (PgS (viewOf k d.f.chip.ws))
  sec : ∀ p, PgS (viewOf k d.f.chip.ws) p → U p.s < (((k - 3) * 6 : Nat) : Int)
  seq : ∀ p, PgS (viewOf k d.f.chip.ws) p → U p.q ≤ Q
  worn : ∀ b, b < k → bo x.ret b = true → d.f.chip.endure ≤ nm d.f.chip.wear b ∧ (bkN (viewOf k d.f.chip.ws) b).head = 2
  le : ∀ b, nm d.f.chip.wear b ≤ d.f.chip.endure
  emp : (∀ b, bo x.ret b = false) → ∃ b, b < k ∧ bkEmpty (bkN (viewOf k d.f.chip.ws) b) = true
  en : d.f.chip.endure ≤ 2147483648
theorem FitW.k2 (h : FitW k Q d x) : k ≤ 64 := h.live.ok.ok.chip.k2
theorem FitW.sys (h : FitW k Q d x) : Sys k d (nrm k d x) := ⟨h.live, rfl⟩
theorem FitW.len (h : FitW k Q d x) : x.bs.length = k := by
  have := h.tw.bl.len
  rw [← this]
  exact view_len _ _
theorem FitW.fit (h : FitW k Q d x) (hr : ∀ b, bo x.ret b = false) : Fit False k Q d.f.chip.endure d (nrm k d x) :=
  ⟨h.sys, fun b hb => (h.head b hb).2 (hr b), hr, h.off, h.un, h.sec, h.seq, h.emp hr, h.le, False.elim, h.en⟩
theorem Tw.to_nrm (h : Tw x' x2) (hv : TwB x2.bs (viewOf k d.f.chip.ws)) (hs : ∀ b, bo x2.ret b = false → bkN (viewOf k d.f.chip.ws) b = bkN x2.bs b) : Tw x' (nrm k d x') :=
  ⟨rfl, rfl, h.bl.trans hv, fun b hb => (hs b (by rw [h.ret]; exact hb)).trans (h.same b hb)⟩
theorem sumF_app (bs : List BlkM) (wo : Int) (l m : List Nat) : sumF bs wo (l ++ m) = sumF bs wo l + sumF bs wo m := by
  unfold sumF
  rw [List.map_append, List.sum_append]
theorem sumF_flt (h0 : ∀ b, bo x.ret b = true → frIn (bkN x.bs b) = 0) : ∀ n, sumF x.bs wo (flt x n) = sumF x.bs wo (List.range n)
  | 0 => rfl
  | n + 1 => by
    rw [flt_succ, List.range_succ, sumF_app, sumF_app, sumF_flt h0 n]
    cases hb : bo x.ret n with
    | false => rfl
    | true =>
      have h1 := h0 n hb
      congr 1
      unfold sumF
      rw [if_pos rfl, List.map_nil, List.map_cons, List.map_nil, List.sum_cons, List.sum_nil, h1]
      split <;> rfl
theorem spotsW (h0 : ∀ b, bo x.ret b = true → frIn (bkN x.bs b) = 0) : (spotsM x wo).length = sumF x.bs wo (List.range x.bs.length) := by
  rw [spots_num, ← sumF_flt h0]
  unfold ordN
  exact sumF_perm (sortN_perm _ _)
theorem fits_lenW (h0 : ∀ b, bo x.ret b = true → frIn (bkN x.bs b) = 0) (hb : b < x.bs.length) {ms : List PageM} (hf : fitsM x b ms = true) : ms.length ≤ (spotsM x (b : Int)).length := by
  have h1 := sumF_out x.bs b x.bs.length
  rw [if_pos hb] at h1
  rw [spotsW h0]
  unfold fitsM at hf
  rw [Bool.and_eq_true, decide_eq_true_eq] at hf
  have h2 := hf.1
  omega
theorem FitW.fr0 (h : FitW k Q d x) (b : Nat) (hb : bo x.ret b = true) : frIn (bkN (viewOf k d.f.chip.ws) b) = 0 := by
  by_cases hk : b < k
  · unfold frIn
    rw [if_neg fun e => by
      have := (h.head b hk).1 e
      rw [this] at hb
      cases hb]
  · have := h.far b (by omega)
    rw [this] at hb
    cases hb
theorem burn_none {n : Nat} {c : ChipM} (h : c.left = 0) : burn n c = 0 := by unfold burn; rw [if_pos h]
theorem set_le {l : List Int} {E : Int} (b c : Nat) (hv : ∀ w, nm l w ≤ E) (h : nm l b < E) : nm (l.set b (nm l b + 1)) c ≤ E := by
  by_cases hb : b < l.length
  · rw [nm_set _ _ _ _ hb]
    split
    · omega
    · exact hv c
  · rw [List.set_eq_of_length_le (by omega)]
    exact hv c
theorem set_ge {l : List Int} (b c : Nat) : nm l c ≤ nm (l.set b (nm l b + 1)) c := by
  by_cases hb : b < l.length
  · rw [nm_set _ _ _ _ hb]
    split
    · next e => rw [e]; omega
    · exact Int.le_refl _
  · rw [List.set_eq_of_length_le (by omega)]
    exact Int.le_refl _
end
section
variable {b k : Nat} {d d' : DrvM} {x x' : StoM} {Q : Int}
theorem FitW.reclaim (h : FitW k Q d x) (hQ : Q < 2147483648) (hb : b < k) (hrb : bo x.ret b = false) (hf : fitsM x b (mvAll k x b) = true) :
    ∃ d' x', mReclaim d x b (mvAll k x b) = (d', x', 0) ∧ FitW k Q d' x' ∧ (∀ s, Val (viewOf k d'.f.chip.ws) s = Val (viewOf k d.f.chip.ws) s) ∧ d'.f.chip.endure = d.f.chip.endure ∧ d'.f.chip.pick = d.f.chip.pick ∧
      ((x'.ret = x.ret ∧ totF x'.bs k + (mvAll k x b).length + frIn (bkN x.bs b) = totF x.bs k + 8) ∨ x'.ret = x.ret.set b true) := by
  obtain ⟨X, hX⟩ : ∃ X, X = nrm k d x := ⟨_, rfl⟩
  have htw : Tw x X := by rw [hX]; exact h.tw
  have hs : Sys k d X := by rw [hX]; exact h.sys
  have hV : viewOf k d.f.chip.ws = X.bs := by rw [hX]; rfl
  have hXr : X.ret = x.ret := htw.ret
  have hXl : X.bs.length = k := sys_len hs
  have hun : UnP (PgS X.bs) := by rw [← hV]; exact h.un
  have hsec : ∀ p, PgS X.bs p → U p.s < (((k - 3) * 6 : Nat) : Int) := by rw [← hV]; exact h.sec
  have hseq : ∀ p, PgS X.bs p → U p.q ≤ Q := by rw [← hV]; exact h.seq
  have hright : ∀ p, PgS X.bs p → pgOk p = true := fun p hp => sys_right hs hp
  have h0 : ∀ b, bo X.ret b = true → frIn (bkN X.bs b) = 0 := fun b hb => by
    rw [hXr] at hb
    rw [← hV]
    exact h.fr0 b hb
  have hhd : (bkN X.bs b).head = 1 := by rw [← hV]; exact (h.head b hb).2 hrb
  have hhx : (bkN x.bs b).head = 1 := by rw [← htw.bl.head]; exact hhd
  have hmv : mvAll k x b = mvAll k X b := (htw.mv k b).symm
  rw [← htw.fits, hmv] at hf
  have hlen := fits_lenW h0 (by rw [hXl]; exact hb) hf
  have hq : ∀ p, PgS X.bs p → U p.q < 2147483648 := fun p hp => by have := hseq p hp; omega
  have hokm : ∀ m ∈ mvAll k X b, pgOk m = true ∧ ∃ p, PgS X.bs p ∧ p.s = m.s ∧ U m.q ≤ U p.q := fun m hm => moves_ok hun hright hq hm
  have hkeep := fun s hex => moves_keep (b := b) (k := k) (x := X) h.k2 hun hright hsec hq s hex
  rw [hmv]
  obtain ⟨ms, hms⟩ : ∃ ms, ms = mvAll k X b := ⟨_, rfl⟩
  rw [← hms] at hlen hokm ⊢
  simp only [← hms] at hkeep
  obtain ⟨l, hL⟩ : ∃ l, l = (spotsM X (b : Int)).zip ms := ⟨_, rfl⟩
  have hll : l.length = ms.length := by rw [hL, List.length_zip]; omega
  have hl1 : l.map (·.1) = (spotsM X (b : Int)).take ms.length := by rw [hL]; exact zip_fst _ _ hlen
  have hl2 : l.map (·.2) = ms := by rw [hL]; exact zip_snd _ _ hlen
  have hsp : ∀ z ∈ l, z.1 ∈ spotsM X (b : Int) := fun z hz => by
    have : z.1 ∈ l.map (·.1) := List.mem_map.2 ⟨z, hz, rfl⟩
    rw [hl1] at this
    exact List.mem_of_mem_take this
  have hms2 : ∀ z ∈ l, z.2 ∈ ms := fun z hz => by
    have : z.2 ∈ l.map (·.2) := List.mem_map.2 ⟨z, hz, rfl⟩
    rwa [hl2] at this
  have hmex : ∀ m ∈ ms, ∃ z ∈ l, z.2 = m := fun m hm => by
    rw [← hl2] at hm
    exact List.mem_map.1 hm
  have hne : ∀ z ∈ l, z.1.1 ≠ b := fun z hz e => by
    have := (spots_is (hsp z hz)).2.2.2.1
    rw [e] at this
    exact this rfl
  have hfr : Frees X (l.map (·.1)) := ⟨by rw [hl1]; exact (spots_nodup X _).sublist (List.take_sublist _ _), fun z hz => by
    rw [hl1] at hz
    obtain ⟨g1, _, g3, _, g5, g6⟩ := spots_is (List.mem_of_mem_take hz)
    exact ⟨g1, g3, g5, g6⟩⟩
  have hroom : ∀ n, Room n d.f.chip := fun n => .inl h.left
  obtain ⟨d1, x1, e1, s1, sp1, pu⟩ := Sys.puts l hs (hroom _) hfr (fun z hz => (hokm _ (hms2 z hz)).1)
  have hw1 : d1.f.chip.wear = d.f.chip.wear := sp1.wear
  have hl0 : d1.f.chip.left = 0 := by rw [sp1.left]; exact burn_none h.left
  have hx1r : x1.ret = x.ret := pu.ret.trans hXr
  have hl1b : b < x1.bs.length := by rw [pu.len, hXl]; exact hb
  have hbt : Both (mPuts d x l) (mPuts d X l) := Tw.puts l htw d fun z hz => by
    have := (spots_is (hsp z hz)).2.1
    rwa [hXr] at this
  rw [e1] at hbt
  have hLx : (spotsM x (b : Int)).zip ms = l := by rw [← htw.spots, hL]
  have hmx : ∀ m ∈ ms, ∃ z, PgS X.bs z ∧ z.s = m.s := fun m hm => by
    obtain ⟨p, h1, h2, _⟩ := (hokm m hm).2
    exact ⟨p, h1, h2⟩
  have htop : ∀ s, (∃ z, PgS X.bs z ∧ z.s = s) → ∃ p, TopP (PgS X.bs) s p := fun s ⟨z, hz, he⟩ => (top_or hun s).elim id fun hn => absurd he (hn z hz)
  have key : ∀ c2 : BlkM, (∀ i, i < 8 → nm c2.kinds i ≠ 1) → UnP (PgS (x1.bs.set b c2)) ∧ (∀ s, Val (x1.bs.set b c2) s = Val X.bs s) ∧ (∀ p, PgS (x1.bs.set b c2) p → U p.s < (((k - 3) * 6 : Nat) : Int)) ∧ (∀ p, PgS (x1.bs.set b c2) p → U p.q ≤ Q) := by
    intro c2 hc2
    have hmem : ∀ y, y ∈ cnt (x1.bs.set b c2) ↔ (y ∈ cnt X.bs ∨ ∃ z ∈ l, y = ⟨z.1.1, z.1.2, z.2⟩) ∧ y.b ≠ (b : Int) := fun y => by rw [mem_setN hl1b hc2, pu.mem]
    have hpg : ∀ p, PgS (x1.bs.set b c2) p ↔ OutS X.bs b p ∨ p ∈ ms := fun p => by
      constructor
      · rintro ⟨y, hy, rfl⟩
        obtain ⟨h1 | ⟨z, hz, e⟩, h2⟩ := (hmem y).1 hy
        · exact .inl ⟨y, h1, h2, rfl⟩
        · rw [e]
          exact .inr (hms2 z hz)
      · rintro (⟨y, h1, h2, rfl⟩ | hp)
        · exact ⟨y, (hmem y).2 ⟨.inl h1, h2⟩, rfl⟩
        · obtain ⟨z, hz, rfl⟩ := hmex p hp
          exact ⟨⟨z.1.1, z.1.2, z.2⟩, (hmem _).2 ⟨.inr ⟨z, hz, rfl⟩, by
            show (z.1.1 : Int) ≠ (b : Int)
            have := hne z hz
            omega⟩, rfl⟩
    have hun2 : UnP (PgS (x1.bs.set b c2)) := un_kept hun (fun z hz => out_in hz) hpg hkeep hmx htop
    refine ⟨hun2, fun s => val_kept hun hun2 (fun z hz => out_in hz) hpg hmx (fun p hp hg => ok_gone (hright p hp) hg) s (hkeep s), fun p hp => ?_, fun p hp => ?_⟩
    · rcases (hpg p).1 hp with h1 | h1
      · exact hsec p (out_in h1)
      · obtain ⟨r, g1, g2, _⟩ := (hokm p h1).2
        rw [← g2]
        exact hsec r g1
    · rcases (hpg p).1 hp with h1 | h1
      · exact hseq p (out_in h1)
      · obtain ⟨r, g1, _, g3⟩ := (hokm p h1).2
        exact Int.le_trans g3 (hseq r g1)
  have hN : ∀ (c2 : BlkM) (c : Nat), bkN (x1.bs.set b c2) c = if c = b then c2 else bkN x1.bs c := fun c2 c => bkN_set hl1b
  have hh1 : ∀ c, c < k → ((bkN x1.bs c).head = 1 ↔ bo x.ret c = false) := fun c hc => by
    rw [pu.head, ← hV]
    exact h.head c hc
  have hhm : (bkN (mPuts d x l).2.1.bs b).head = 1 := by
    rw [← hbt.tw.bl.head, pu.head]
    exact hhd
  have hrm : bo (mPuts d x l).2.1.ret b = false := by
    rw [← hbt.tw.ret, hx1r]
    exact hrb
  have hst := hbt.tw.renew hrm hhm d1
  have hmr : mReclaim d x b ms = mRenew d1 (mPuts d x l).2.1 b := by
    unfold mReclaim
    dsimp only
    rw [hLx, ← hbt.e, ← hbt.d, if_neg (fun h => h rfl)]
  by_cases hwb : nm d.f.chip.wear b < d.f.chip.endure
  · obtain ⟨d2, e2, s2, wo⟩ := s1.remake (.inl hl0) hb (by rw [hw1, sp1.endure]; exact hwb)
    have hrn : mRenew d1 x1 b = (d2, { x1 with bs := x1.bs.set b (blkG (ncM x1.bs b)) }, 0) := by
      unfold mRenew
      rw [e2]
      rfl
    have hv2 : viewOf k d2.f.chip.ws = x1.bs.set b (blkG (ncM x1.bs b)) := s2.view.symm
    obtain ⟨k1, k2, k3, k4⟩ := key (blkG (ncM x1.bs b)) (fun i _ => by rw [blkG_kind]; decide)
    rw [← hv2] at k1 k2 k3 k4
    rw [hrn] at hst
    obtain ⟨y, hy⟩ : ∃ y, y = (mRenew d1 (mPuts d x l).2.1 b).2.1 := ⟨_, rfl⟩
    have ey : mRenew d1 (mPuts d x l).2.1 b = (d2, y, 0) := Prod.ext hst.d.symm (Prod.ext hy.symm hst.e.symm)
    have hty : Tw y { x1 with bs := x1.bs.set b (blkG (ncM x1.bs b)) } := by rw [hy]; exact hst.tw
    have hyr : y.ret = x.ret := hty.ret.symm.trans hx1r
    refine ⟨d2, y, hmr.trans ey, ⟨s2.live, ?_, Tw.to_nrm hty (by rw [hv2]; exact TwB.refl _) (fun c _ => by rw [hv2]), fun c hc => ?_, ?_, by rw [hyr]; exact h.rlen, fun c hc => by rw [hyr]; exact h.far c hc, k1, k3, k4, fun c hc hcr => ?_, fun c => ?_, fun _ => ⟨b, hb, ?_⟩, ?_⟩, fun s => ?_, ?_, ?_, .inl ⟨hyr, ?_⟩⟩
    · rw [wo.left]
      exact burn_none hl0
    · rw [hv2, hN, hyr]
      split
      · next e =>
        rw [e, hrb]
        exact ⟨fun _ => rfl, fun _ => rfl⟩
      · exact hh1 c hc
    · rw [← hty.off]
      show x1.off = false
      rw [pu.off, htw.off]
      exact h.off
    · rw [hyr] at hcr
      rw [wo.endure, sp1.endure, wo.wear, hw1, hv2, hN, if_neg (fun e => by rw [e, hrb] at hcr; cases hcr), pu.head, ← hV]
      exact ⟨Int.le_trans (h.worn c hc hcr).1 (set_ge b c), (h.worn c hc hcr).2⟩
    · rw [wo.endure, sp1.endure, wo.wear, hw1]
      exact set_le b c h.le hwb
    · rw [hv2, hN, if_pos rfl, empty_fr]
      rfl
    · rw [wo.endure, sp1.endure]
      exact h.en
    · rw [hV]
      exact k2 s
    · rw [wo.endure, sp1.endure]
    · rw [wo.pick, sp1.pick]
    · have h1 := totF_set hl1b (blkG (ncM x1.bs b)) k
      rw [if_pos hb, if_pos hb, frIn_G] at h1
      have h2 := pu.total
      rw [hXl, hll] at h2
      have h3 := pu.same b (fun z hz e => hne z hz e)
      rw [h3] at h1
      have h4 := hty.bl.tot k
      have h5 := htw.bl.tot k
      have h6 := htw.bl.fr b
      have h7 : totF ({ x1 with bs := x1.bs.set b (blkG (ncM x1.bs b)) } : StoM).bs k = totF (x1.bs.set b (blkG (ncM x1.bs b))) k := rfl
      omega
  · obtain ⟨d2, e2, L2, sp2, far2, hd2, ct2⟩ := wornB s1.live (.inl hl0) hb (by rw [hw1, sp1.endure]; omega) x1
    have hrn : mRenew d1 x1 b = (d2, { x1 with bs := x1.bs.set b blkT, ret := x1.ret.set b true }, 0) := by
      unfold mRenew
      rw [e2]
      rfl
    have hv1 : viewOf k d1.f.chip.ws = x1.bs := s1.view.symm
    have hv2 : viewOf k d2.f.chip.ws = x1.bs.set b (bkOf (chunk d2.f.chip.ws b)) := by rw [view_far far2 hb, hv1]
    have hk2 : ∀ i, i < 8 → nm (bkOf (chunk d2.f.chip.ws b)).kinds i ≠ 1 := fun i hi => head_kinds (by rw [hd2]; decide) i hi
    obtain ⟨k1, k2, k3, k4⟩ := key _ hk2
    rw [← hv2] at k1 k2 k3 k4
    rw [hrn] at hst
    obtain ⟨y, hy⟩ : ∃ y, y = (mRenew d1 (mPuts d x l).2.1 b).2.1 := ⟨_, rfl⟩
    have ey : mRenew d1 (mPuts d x l).2.1 b = (d2, y, 0) := Prod.ext hst.d.symm (Prod.ext hy.symm hst.e.symm)
    have hty : Tw y { x1 with bs := x1.bs.set b blkT, ret := x1.ret.set b true } := by rw [hy]; exact hst.tw
    have hyr : y.ret = x.ret.set b true := by
      have h1 : x1.ret.set b true = y.ret := hty.ret
      rw [← h1, hx1r]
    have hbs : b < x.ret.length := by rw [h.rlen]; have := h.k2; omega
    have hyb : ∀ c, bo y.ret c = if c = b then true else bo x.ret c := fun c => by rw [hyr, bo_set _ _ _ _ hbs]
    refine ⟨d2, y, hmr.trans ey, ⟨L2, ?_, Tw.to_nrm hty ?_ (fun c hc => ?_), fun c hc => ?_, ?_, by rw [hyr, List.length_set]; exact h.rlen, fun c hc => ?_, k1, k3, k4, fun c hc hcr => ?_, fun c => ?_, fun hno => ?_, ?_⟩, fun s => ?_, ?_, ?_, .inr hyr⟩
    · rw [sp2.left]
      exact burn_none hl0
    · rw [hv2]
      refine ⟨by simp, fun c => ?_⟩
      show bkN (x1.bs.set b _) c = bkN (x1.bs.set b blkT) c ∨ _
      rw [hN, hN]
      by_cases e : c = b
      · rw [if_pos e, if_pos e]
        exact .inr ⟨rfl, hd2, ct2, fun i hi => by
          show nm (List.replicate 8 0) i ≠ 1
          unfold nm
          rw [List.getD_eq_getElem?_getD, List.getElem?_replicate, if_pos hi]
          decide, hk2⟩
      · rw [if_neg e, if_neg e]
        exact .inl rfl
    · rw [← hty.ret] at hyb
      have h1 := hyb c
      rw [hc] at h1
      rw [hv2]
      show bkN (x1.bs.set b _) c = bkN (x1.bs.set b blkT) c
      rw [hN, hN]
      by_cases e : c = b
      · rw [if_pos e] at h1
        cases h1
      · rw [if_neg e, if_neg e]
    · rw [hv2, hN, hyb]
      by_cases e : c = b
      · rw [if_pos e, if_pos e, hd2]
        exact ⟨fun h => absurd h (by decide), fun h => by cases h⟩
      · rw [if_neg e, if_neg e]
        exact hh1 c hc
    · rw [← hty.off]
      show x1.off = false
      rw [pu.off, htw.off]
      exact h.off
    · rw [hyb, if_neg (by omega)]
      exact h.far c hc
    · rw [hyb] at hcr
      rw [sp2.endure, sp1.endure, sp2.wear, hw1, hv2, hN]
      by_cases e : c = b
      · rw [if_pos e, e]
        exact ⟨by omega, hd2⟩
      · rw [if_neg e] at hcr
        rw [if_neg e, pu.head, ← hV]
        exact h.worn c hc hcr
    · rw [sp2.endure, sp1.endure, sp2.wear, hw1]
      exact h.le c
    · have := hno b
      rw [hyb, if_pos rfl] at this
      cases this
    · rw [sp2.endure, sp1.endure]
      exact h.en
    · rw [hV]
      exact k2 s
    · rw [sp2.endure, sp1.endure]
    · rw [sp2.pick, sp1.pick]
end
end Go.Proofs.YtnfgpjfldgocaaaGreat
namespace Go.Proofs.YtnfgpjfldgocaaaGreat
open Go.RowKit Bm Go.Shelf
section
variable {b k i : Nat} {d d' : DrvM} {x x' : StoM} {Q : Int} {pg : PageM}
def uN (l : List Bool) : Nat → Nat
  | 0 => 0
  | n + 1 => uN l n + if bo l n = true then 0 else 1
theorem uN_le (l : List Bool) : ∀ n, uN l n ≤ n
  | 0 => Nat.le_refl _
  | n + 1 => by
    have := uN_le l n
    unfold uN
    split <;> omega
theorem uN_set {l : List Bool} (hl : b < l.length) (h : bo l b = false) : ∀ n, uN (l.set b true) n + (if b < n then 1 else 0) = uN l n
  | 0 => rfl
  | n + 1 => by
    have ih := uN_set hl h n
    unfold uN
    rw [bo_set _ _ _ _ hl]
    by_cases e : n = b
    · subst e
      rw [if_neg (Nat.lt_irrefl _)] at ih
      rw [if_pos rfl, if_pos rfl, if_pos (Nat.lt_succ_self _), h, if_neg Bool.false_ne_true]
      omega
    · rw [if_neg e]
      by_cases h2 : b < n
      · rw [if_pos h2] at ih
        rw [if_pos (show b < n + 1 by omega)]
        omega
      · rw [if_neg h2] at ih
        rw [if_neg (show ¬ b < n + 1 by omega)]
        omega
theorem FitW.frx (h : FitW k Q d x) (b : Nat) (hb : bo x.ret b = true) : frIn (bkN x.bs b) = 0 := by
  rw [← h.tw.bl.fr]
  exact h.fr0 b hb
theorem FitW.way (h : FitW k Q d x) (hQ : Q < 2147483647) {s : BitVec 32} (hw : (wayM k x (allG x.bs) s).2 = true) :
    ∃ b : Nat, wayM k x (allG x.bs) s = ((b : Int), true) ∧ b < k ∧ bo x.ret b = false ∧ fitsM x b (mvAll k x b) = true ∧ (mvAll k x b).length + frIn (bkN x.bs b) < 8 := by
  by_cases hc : roomyM x = false ∧ (cheapM x (mvOf (allG x.bs) ((k - 3) * 6))).2 = true
  · obtain ⟨y, h1, h2, h3, h4⟩ := ch_is (f := mvOf (allG x.bs) ((k - 3) * 6)) (usL x) (0, false) (fun e => by cases e) (fun y hy => hy) hc.2
    obtain ⟨h5, h6, h7⟩ := us_mem.1 h2
    have e : y.1 = (cheapM x (mvOf (allG x.bs) ((k - 3) * 6))).1 := h1
    rw [h7] at h3
    rw [e] at h3 h4 h5 h6
    refine ⟨(cheapM x (mvOf (allG x.bs) ((k - 3) * 6))).1, ?_, Nat.lt_of_lt_of_le h5 (Nat.le_of_eq h.len), h6, h4, ?_⟩
    · unfold wayM
      rw [if_pos hc]
    · unfold mvAll
      omega
  · exfalso
    unfold wayM at hw
    rw [if_neg hc, if_pos] at hw
    · cases hw
    · rw [allG_is]
      cases hb : best (cnt x.bs) s with
      | none =>
        show U pl0.p.q < 2147483648
        decide
      | some y =>
        have h1 := (top_pg (best_top hb)).mem
        rw [← h.tw.bl.pgs] at h1
        have := h.seq _ h1
        show U y.p.q < 2147483648
        omega
theorem way_none {G : BitVec 32 → Option (PlM × PlM)} {s : BitVec 32} (hw : (wayM k x G s).2 = false) : ¬ (roomyM x = false ∧ (cheapM x (mvOf G ((k - 3) * 6))).2 = true) := fun hc => by
  unfold wayM at hw
  rw [if_pos hc] at hw
  cases hw
theorem FitW.done (h : FitW k Q d x) (hQ : Q < 2147483647) (hQ0 : 0 ≤ Q) (k5 : 5 ≤ k) (hp : pgOk { pg with q := 1#32 } = true) (hs : U pg.s < (((k - 3) * 6 : Nat) : Int)) (hw : (wayM k x (allG x.bs) pg.s).2 = false) :
    (mLast d x pg = (d, x, 9) ∧ ∃ b, bo x.ret b = true) ∨ ∃ d' x', mLast d x pg = (d', x', 0) ∧ FitW k (Q + 1) d' x' ∧ (∀ s, Val (viewOf k d'.f.chip.ws) s = newV pg (Val (viewOf k d.f.chip.ws)) s) ∧ d'.f.chip.endure = d.f.chip.endure := by
  obtain ⟨X, hX⟩ : ∃ X, X = nrm k d x := ⟨_, rfl⟩
  have htw : Tw x X := by rw [hX]; exact h.tw
  have hsy : Sys k d X := by rw [hX]; exact h.sys
  have hV : viewOf k d.f.chip.ws = X.bs := by rw [hX]; rfl
  have hXl : X.bs.length = k := sys_len hsy
  have hno : ¬ (roomyM X = false ∧ (cheapM X (mvOf (allG X.bs) ((k - 3) * 6))).2 = true) := by
    rw [htw.roomy, htw.cheap, htw.bl.all]
    exact way_none hw
  have hroom : Room 7 d.f.chip := .inl h.left
  have hfd : (∀ b, bo x.ret b = false) → ∃ d' x', mLast d X pg = (d', x', 0) ∧ Fit False k (Q + 1) d.f.chip.endure d' x' := fun hr => by
    have hf := h.fit hr
    rw [← hX] at hf
    obtain ⟨d', x', e1, e2, _⟩ := hf.done hQ hQ0 k5 hp hs hno hroom
    exact ⟨d', x', e1, e2⟩
  cases hz : spotsM x (-1) with
  | nil =>
    refine .inl ⟨?_, ?_⟩
    · unfold mLast
      rw [hz, mLastL]
    · apply Classical.byContradiction
      intro hne
      obtain ⟨d', x', e1, _⟩ := hfd fun b => by
        cases hb : bo x.ret b with
        | false => rfl
        | true => exact absurd ⟨b, hb⟩ hne
      unfold mLast at e1
      rw [htw.spots, hz, mLastL] at e1
      have : (9 : Int) = 0 := congrArg (fun r : DrvM × StoM × Int => r.2.2) e1
      exact absurd this (by decide)
  | cons z L =>
    right
    have hzX : spotsM X (-1) = z :: L := by rw [htw.spots, hz]
    have hlp : lastP x pg = lastP X pg := (htw.last pg).symm
    have hun : UnP (PgS X.bs) := by rw [← hV]; exact h.un
    have hseq : ∀ p, PgS X.bs p → U p.q ≤ Q := by rw [← hV]; exact h.seq
    obtain ⟨q1, q2, q3⟩ := last_q X pg hseq hQ hQ0
    have hpo : pgOk (lastP X pg) = true := by
      obtain ⟨q9, hq9⟩ : ∃ q9, lastP X pg = { pg with q := q9 } := ⟨_, rfl⟩
      rw [hq9] at q1 q2 ⊢
      have q1' : 1 ≤ U q9 := q1
      have q2' : U q9 ≤ Q + 1 := q2
      exact ok_with hp (q := q9) q1' (by omega)
    obtain ⟨g1, g2, g3, _, g5, g6⟩ := spots_is (x := X) (wo := -1) (z := z) (by rw [hzX]; exact List.mem_cons_self)
    have hzk : z.1 < k := by rw [← hXl]; exact g1
    have hzr : bo x.ret z.1 = false := by rw [← htw.ret]; exact g2
    obtain ⟨d1, e1, s1, sp1⟩ := hsy.put hroom hzk g3 g5 g6 hpo
    have hok := sys_okN hsy hzk
    obtain ⟨x1, hx1⟩ : ∃ x1 : StoM, x1 = { X with bs := putB X.bs z.1 z.2 (lastP X pg) } := ⟨_, rfl⟩
    rw [← hx1] at e1 s1
    have hb1 : x1.bs = putB X.bs z.1 z.2 (lastP X pg) := by rw [hx1]
    have hv1 : viewOf k d1.f.chip.ws = x1.bs := s1.view.symm
    have hlX : mLast d X pg = (d1, x1, 0) := by
      unfold mLast
      rw [hzX, mLastL_cons hpo]
      exact e1
    have hbt := htw.put hzr d z.2 (lastP X pg)
    rw [e1] at hbt
    obtain ⟨y, hy⟩ : ∃ y, y = (mPut d x z.1 z.2 (lastP X pg)).2.1 := ⟨_, rfl⟩
    have ey : mPut d x z.1 z.2 (lastP X pg) = (d1, y, 0) := Prod.ext hbt.d.symm (Prod.ext hy.symm hbt.e.symm)
    have hty : Tw y x1 := by rw [hy]; exact hbt.tw
    have hyr : y.ret = x.ret := by
      rw [hy]
      exact put_ret _ _ _ _ _
    have hpg : ∀ p, PgS x1.bs p ↔ p = lastP X pg ∨ PgS X.bs p := fun p => by
      unfold PgS
      rw [hb1]
      constructor
      · rintro ⟨y, hy, rfl⟩
        rcases (mem_putB g1 hok g3 g6).1 hy with e | h
        · rw [e]; exact .inl rfl
        · exact .inr ⟨y, h, rfl⟩
      · rintro (rfl | ⟨y, hy, rfl⟩)
        · exact ⟨_, (mem_putB g1 hok g3 g6).2 (.inl rfl), rfl⟩
        · exact ⟨y, (mem_putB g1 hok g3 g6).2 (.inr hy), rfl⟩
    have hsec := last_s X pg
    refine ⟨d1, y, ?_, ⟨s1.live, ?_, Tw.to_nrm hty (by rw [hv1]; exact TwB.refl _) (fun c _ => by rw [hv1]), fun c hc => ?_, ?_, by rw [hyr]; exact h.rlen, fun c hc => by rw [hyr]; exact h.far c hc, ?_, fun p hp => ?_, fun p hp => ?_, fun c hc hcr => ?_, fun c => ?_, fun hno => ?_, ?_⟩, fun s => ?_, ?_⟩
    · unfold mLast
      rw [hz, hlp, mLastL_cons hpo]
      exact ey
    · rw [sp1.left]
      exact burn_none h.left
    · rw [hv1, hb1, putB_head g1, hyr, ← hV]
      exact h.head c hc
    · rw [← hty.off, hx1]
      show X.off = false
      rw [htw.off]
      exact h.off
    · rw [hv1]
      exact (un_new hun hpg (fun z hz he => q3 z hz (he.trans hsec))).1
    · rw [hv1] at hp
      rcases (hpg p).1 hp with e | e
      · rw [e, hsec]
        exact hs
      · rw [← hV] at e
        exact h.sec p e
    · rw [hv1] at hp
      rcases (hpg p).1 hp with e | e
      · rw [e]
        exact q2
      · have := hseq p e
        omega
    · rw [hyr] at hcr
      rw [sp1.endure, sp1.wear, hv1, hb1, putB_head g1, ← hV]
      exact h.worn c hc hcr
    · rw [sp1.endure, sp1.wear]
      exact h.le c
    · obtain ⟨d', x', e3, e4⟩ := hfd fun b => by rw [← hyr]; exact hno b
      rw [hlX] at e3
      obtain ⟨c, hc, he⟩ := e4.emp
      have : x1 = x' := congrArg (fun r : DrvM × StoM × Int => r.2.1) e3
      exact ⟨c, hc, by rw [hv1, this]; exact he⟩
    · rw [sp1.endure]
      exact h.en
    · rw [hv1, hV]
      have hd := last_d X pg
      rw [val_new hun hpg (fun z hz he => q3 z hz (he.trans hsec)) s, hsec, hd]
      rfl
    · exact sp1.endure
inductive WActTo (k : Nat) (Q E : Int) (pg : PageM) (V : BitVec 32 → List (BitVec 32)) (R : DrvM × StoM × Int) : Prop
  | done : R.2.2 = 0 → FitW k (Q + 1) R.1 R.2.1 → (∀ s, Val (viewOf k R.1.f.chip.ws) s = newV pg V s) → R.1.f.chip.endure = E → WActTo k Q E pg V R
  | full (b : Nat) : R.2.2 = 9 → FitW k Q R.1 R.2.1 → (∀ s, Val (viewOf k R.1.f.chip.ws) s = V s) → R.1.f.chip.endure = E → bo R.2.1.ret b = true → WActTo k Q E pg V R
theorem newV_congr {V V' : BitVec 32 → List (BitVec 32)} (h : ∀ s, V s = V' s) (s : BitVec 32) : newV pg V s = newV pg V' s := by
  unfold newV
  rw [h]
theorem FitW.add (k5 : 5 ≤ k) (hp : pgOk { pg with q := 1#32 } = true) (hs : U pg.s < (((k - 3) * 6 : Nat) : Int)) (hQ : Q < 2147483647) (hQ0 : 0 ≤ Q) : ∀ (n : Nat) {d : DrvM} {x : StoM}, FitW k Q d x → uN x.ret k * (8 * k + 1) + (8 * k - totF x.bs k) < n →
    ∃ R, AddTo k pg n d x R ∧ WActTo k Q d.f.chip.endure pg (Val (viewOf k d.f.chip.ws)) R
  | 0, _, _, _, hn => absurd hn (Nat.not_lt_zero _)
  | n + 1, d, x, h, hn => by
    cases hw : (wayM k x (allG x.bs) pg.s).2 with
    | false =>
      refine ⟨_, .done hw, ?_⟩
      rcases h.done hQ hQ0 k5 hp hs hw with ⟨e, b, hb⟩ | ⟨d', x', e, h1, h2, h3⟩
      · rw [e]
        exact .full b rfl h (fun _ => rfl) rfl hb
      · rw [e]
        exact .done rfl h1 h2 h3
    | true =>
      obtain ⟨b, hwb, hb, hrb, hf, hg⟩ := h.way hQ hw
      obtain ⟨d', x', e1, h1, h2, h3, _, h5⟩ := h.reclaim (by omega) hb hrb hf
      have hlen := fits_lenW (x := x) h.frx (by rw [h.len]; exact hb) hf
      have hm : uN x'.ret k * (8 * k + 1) + (8 * k - totF x'.bs k) < n := by
        have t1 := totF_le x'.bs k
        have t2 := totF_le x.bs k
        rcases h5 with ⟨h6, h7⟩ | h6
        · rw [h6]
          omega
        · have hu := uN_set (b := b) (l := x.ret) (by rw [h.rlen]; have := h.k2; omega) hrb k
          rw [if_pos hb] at hu
          rw [h6]
          rw [← hu, Nat.succ_mul] at hn
          omega
      obtain ⟨R, hadd, hR⟩ := FitW.add k5 hp hs hQ hQ0 n h1 hm
      have e2 : (mReclaim d x b (mvAll k x b)).2.2 = 0 := by rw [e1]
      have hadd' : AddTo k pg n (mReclaim d x b (mvAll k x b)).1 (mReclaim d x b (mvAll k x b)).2.1 R := by
        rw [e1]
        exact hadd
      refine ⟨R, .more b hwb hb hlen e2 hadd', ?_⟩
      cases hR with
      | done r1 r2 r3 r4 => exact .done r1 r2 (fun s => (r3 s).trans (newV_congr h2 s)) (r4.trans h3)
      | full c r1 r2 r3 r4 r5 => exact .full c r1 r2 (fun s => (r3 s).trans (h2 s)) (r4.trans h3) r5
theorem FitW.look (h : FitW k Q d x) : FitW k Q (dLook d) x := by
  have e := look_chip h.live
  obtain ⟨h1, h2, h3, h4, h5, h6, h7, h8, h9, h10, h11, h12, h13, h14⟩ := h
  refine ⟨live_look h1, by rw [e]; exact h2, ?_, by rw [e]; exact h4, h5, h6, h7, by rw [e]; exact h8, by rw [e]; exact h9, by rw [e]; exact h10, by rw [e]; exact h11, by rw [e]; exact h12, by rw [e]; exact h13, by rw [e]; exact h14⟩
  unfold nrm
  rw [e]
  exact h3
theorem FitW.norm (h : FitW k Q d x) : FitW k Q d (nrm k d x) :=
  ⟨h.live, h.left, ⟨rfl, rfl, TwB.refl _, fun _ _ => rfl⟩, h.head, h.off, h.rlen, h.far, h.un, h.sec, h.seq, h.worn, h.le, h.emp, h.en⟩
theorem FitW.xlook (h : FitW k Q d x) (k1 : 1 ≤ k) : xLook d x = nrm k d x := by
  unfold xLook nrm
  rw [if_pos h.live.up, view_sc h.live.ok.ok.chip.words k1 h.k2]
theorem FitW.begin (h : FitW k Q d x) (k1 : 1 ≤ k) {a : Int} (a0 : 0 ≤ a) (a1 : a < secs k) : mBegin k d x a = (dLook d, nrm k d x, 0) := by
  have e := h.xlook k1
  unfold mBegin
  rw [if_neg (by omega), h.off, if_neg (by decide)]
  unfold mLook mNote lookE
  rw [e, if_pos h.live.up]
  show (dLook d, ({ nrm k d x with off := (nrm k d x).off || false } : StoM), (0 : Int)) = _
  rw [Bool.or_false]
theorem FitW.read (h : FitW k Q d x) (k1 : 1 ≤ k) {a : Nat} (a1 : (a : Int) < secs k) : rdM k d x a = Val (viewOf k d.f.chip.ws) (BitVec.ofNat 32 a) := by
  unfold rdM
  rw [h.begin k1 (by omega) a1, if_pos rfl]
  show rdOf (nrm k d x) _ = _
  unfold rdOf Val Latest d4Of valOf.d4OfM
  rw [Int.toNat_natCast, of_find]
  show _ = (fun p : PageM => [p.d0, p.d1, p.d2, p.d3]) (((best (cnt (nrm k d x).bs) (BitVec.ofNat 32 a)).map (·.p)).getD pg0)
  cases best (cnt (nrm k d x).bs) (BitVec.ofNat 32 a) <;> rfl
end
end Go.Proofs.YtnfgpjfldgocaaaGreat
namespace Go.Proofs.YtnfgpjfldgocaaaGreat
open Go.RowKit Bm Go.Shelf
section
variable {b k i : Nat} {d d' : DrvM} {x x' : StoM} {Q : Int} {r : List Bool}
theorem head_count {ws : List (BitVec 32)} (h : (bkOf (chunk ws b)).head ≠ 1) : (bkOf (chunk ws b)).count = 0#32 := by
  have h' : (hdRd ((chunk ws b).take 4)).2 ≠ 1 := h
  show (hdRd ((chunk ws b).take 4)).1 = 0#32
  unfold hdRd at h' ⊢
  split
  · split
    · rfl
    · split
      · next h1 h2 h3 =>
        rw [if_pos h1, if_neg h2, if_pos h3] at h'
        exact absurd rfl h'
      · rfl
  · rfl
theorem blkT_kind (i : Nat) : nm blkT.kinds i ≠ 1 := by
  show nm (List.replicate 8 0) i ≠ 1
  unfold nm
  rw [List.getD_eq_getElem?_getD, List.getElem?_replicate]
  split <;> decide
theorem Fit.toW {C : Prop} {W : Int} (h : Fit C k Q W d x) (hl : d.f.chip.left = 0) (hW : W ≤ d.f.chip.endure) (hr : x.ret.length = 64) : FitW k Q d x := by
  have hv : viewOf k d.f.chip.ws = x.bs := h.sys.view.symm
  have hn : nrm k d x = x := by
    unfold nrm
    rw [hv]
  exact ⟨h.sys.live, hl, by rw [hn]; exact ⟨rfl, rfl, TwB.refl _, fun _ _ => rfl⟩, fun b hb => by rw [hv, h.ret b]; exact ⟨fun _ => rfl, fun _ => h.head b hb⟩, h.off, hr, fun b _ => h.ret b, by rw [hv]; exact h.un, by rw [hv]; exact h.sec, by rw [hv]; exact h.seq, fun b _ hb => absurd hb (by rw [h.ret b]; decide), fun b => Int.le_trans (h.wear b) hW, fun _ => by rw [hv]; exact h.emp, h.en⟩
structure Fx (k j : Nat) (d0 : DrvM) (r : List Bool) (d : DrvM) (x : StoM) : Prop where
  live : Live k d
  left : d.f.chip.left = 0
  wear : d.f.chip.wear = d0.f.chip.wear
  endure : d.f.chip.endure = d0.f.chip.endure
  view : TwB (viewOf k d0.f.chip.ws) (viewOf k d.f.chip.ws)
  bl : TwB x.bs (viewOf k d.f.chip.ws)
  same : ∀ b, bo x.ret b = false → bkN (viewOf k d.f.chip.ws) b = bkN x.bs b
  ret : ∀ b, bo x.ret b = if b < j then bo r b else false
  off : x.off = false
  rlen : x.ret.length = 64
theorem Fx.step {j : Nat} {d0 : DrvM} (h : Fx k j d0 r d x) (hj : j < k) (hk : k ≤ 64) (hh : (bkN (viewOf k d0.f.chip.ws) j).head = 1 ↔ bo r j = false) (hw : bo r j = true → d0.f.chip.endure ≤ nm d0.f.chip.wear j ∧ (bkN (viewOf k d0.f.chip.ws) j).head = 2) :
    ∃ d' x', mFixS d x j = (d', x', 0) ∧ Fx k (j + 1) d0 r d' x' := by
  have hv : (bkN (viewOf k d.f.chip.ws) j).head = (bkN (viewOf k d0.f.chip.ws) j).head := h.view.head j
  have hx : (bkN x.bs j).head = (bkN (viewOf k d0.f.chip.ws) j).head := (h.bl.head j).symm.trans hv
  cases hb : bo r j with
  | false =>
    have h1 := hh.2 hb
    refine ⟨d, x, if_pos (hx.trans h1), h.live, h.left, h.wear, h.endure, h.view, h.bl, h.same, fun b => ?_, h.off, h.rlen⟩
    rw [h.ret]
    by_cases e : b = j
    · rw [e, if_neg (Nat.lt_irrefl _), if_pos (Nat.lt_succ_self _), hb]
    · by_cases h2 : b < j
      · rw [if_pos h2, if_pos (by omega)]
      · rw [if_neg h2, if_neg (by omega)]
  | true =>
    obtain ⟨w1, w2⟩ := hw hb
    obtain ⟨d2, e2, L2, sp2, far2, hd2, ct2⟩ := wornB h.live (.inl h.left) hj (by rw [h.endure, h.wear]; exact w1) x
    have hxl : j < x.bs.length := by
      have := h.bl.len
      rw [view_len] at this
      omega
    have hrl : j < x.ret.length := by rw [h.rlen]; omega
    have hvl : j < (viewOf k d.f.chip.ws).length := by rw [view_len]; exact hj
    have hrn : mRenew d x j = (d2, { x with bs := x.bs.set j blkT, ret := x.ret.set j true }, 0) := by
      unfold mRenew
      rw [e2]
      rfl
    have hv2 : viewOf k d2.f.chip.ws = (viewOf k d.f.chip.ws).set j (bkOf (chunk d2.f.chip.ws j)) := view_far far2 hj
    have hk2 : ∀ i, i < 8 → nm (bkOf (chunk d2.f.chip.ws j)).kinds i ≠ 1 := fun i hi => head_kinds (by rw [hd2]; decide) i hi
    have hc2 : (bkN (viewOf k d.f.chip.ws) j).head ≠ 1 := by rw [hv, w2]; decide
    have hvj : bkN (viewOf k d.f.chip.ws) j = bkOf (chunk d.f.chip.ws j) := view_N hj
    have hvt : TwB (viewOf k d.f.chip.ws) (viewOf k d2.f.chip.ws) := by
      rw [hv2]
      refine ⟨by simp, fun c => ?_⟩
      rw [bkN_set hvl]
      by_cases e : c = j
      · rw [if_pos e, e, hvj]
        rw [hvj] at hc2
        refine .inr ⟨?_, hd2, ct2.trans (head_count hc2).symm, fun i hi => head_kinds hc2 i hi, hk2⟩
        rw [← hvj, hv, w2]
      · rw [if_neg e]
        exact .inl rfl
    refine ⟨d2, _, (if_neg (by rw [hx, w2]; decide)).trans hrn, L2, ?_, ?_, ?_, h.view.trans hvt, ?_, fun c hc => ?_, fun c => ?_, h.off, by rw [List.length_set]; exact h.rlen⟩
    · rw [sp2.left]
      exact burn_none h.left
    · rw [sp2.wear, h.wear]
    · rw [sp2.endure, h.endure]
    · rw [hv2]
      refine ⟨by simp [h.bl.len], fun c => ?_⟩
      rw [bkN_set hvl, bkN_set hxl]
      by_cases e : c = j
      · rw [if_pos e, if_pos e]
        exact .inr ⟨rfl, hd2, ct2, fun i _ => blkT_kind i, hk2⟩
      · rw [if_neg e, if_neg e]
        exact h.bl.at_ c
    · have hc' : bo (x.ret.set j true) c = false := hc
      rw [bo_set _ _ _ _ hrl] at hc'
      by_cases e : c = j
      · rw [if_pos e] at hc'
        cases hc'
      · rw [if_neg e] at hc'
        rw [hv2, bkN_set hvl, bkN_set hxl, if_neg e, if_neg e]
        exact h.same c hc'
    · show bo (x.ret.set j true) c = _
      rw [bo_set _ _ _ _ hrl]
      by_cases e : c = j
      · rw [if_pos e, e, if_pos (Nat.lt_succ_self _), hb]
      · rw [if_neg e, h.ret]
        by_cases h2 : c < j
        · rw [if_pos h2, if_pos (by omega)]
        · rw [if_neg h2, if_neg (by omega)]
theorem FitW.fixes (h : FitW k Q d x) (k1 : 1 ≤ k) : ∀ j, j ≤ k → ∃ d' x', mFix (dLook d) (x0 d.f.chip.ws) (List.range j) = (d', x', 0) ∧ Fx k j d x.ret d' x'
  | 0, _ => by
    have e := look_chip h.live
    have hx : (x0 d.f.chip.ws).bs = viewOf k d.f.chip.ws := view_sc h.live.ok.ok.chip.words k1 h.k2
    refine ⟨_, _, mFix_nil _ _, live_look h.live, by rw [e]; exact h.left, by rw [e], by rw [e], by rw [e]; exact TwB.refl _, by rw [e, hx]; exact TwB.refl _, fun b _ => by rw [e, hx], fun b => ?_, rfl, rfl⟩
    rw [x0_ret, if_neg (Nat.not_lt_zero _)]
  | j + 1, hj => by
    obtain ⟨d1, x1, e1, f1⟩ := FitW.fixes h k1 j (by omega)
    obtain ⟨d2, x2, e2, f2⟩ := f1.step (by omega) h.k2 (h.head j (by omega)) (fun hb => h.worn j (by omega) hb)
    refine ⟨d2, x2, ?_, f2⟩
    rw [List.range_succ, mFix_snoc _ _ _ _ (by rw [e1]), e1]
    exact e2
theorem FitW.fixed (h : FitW k Q d x) (hf : Fx k k d x.ret d' x') : FitW k Q d' x' := by
  have hret : ∀ b, bo x'.ret b = bo x.ret b := fun b => by
    rw [hf.ret]
    by_cases hb : b < k
    · rw [if_pos hb]
    · rw [if_neg hb, h.far b (by omega)]
  refine ⟨hf.live, hf.left, ⟨rfl, rfl, hf.bl, hf.same⟩, fun b hb => ?_, hf.off, hf.rlen, fun b hb => by rw [hret]; exact h.far b hb, by rw [hf.view.pgs]; exact h.un, by rw [hf.view.pgs]; exact h.sec, by rw [hf.view.pgs]; exact h.seq, fun b hb hr => ?_, by rw [hf.endure, hf.wear]; exact h.le, fun hn => ?_, by rw [hf.endure]; exact h.en⟩
  · rw [hf.view.head, hret]
    exact h.head b hb
  · rw [hret] at hr
    rw [hf.endure, hf.wear, hf.view.head]
    exact h.worn b hb hr
  · obtain ⟨b, hb, he⟩ := h.emp fun b => by rw [← hret]; exact hn b
    refine ⟨b, hb, ?_⟩
    rcases hf.view.at_ b with e | ⟨e1, _⟩
    · rw [e]
      exact he
    · have := (empty_iff _).1 he
      rw [e1] at this
      exact absurd this.1 (by decide)
theorem FitW.renew (h : FitW k Q d x) (hb : b < k) (hrb : bo x.ret b = false) (hn : NoNeed (viewOf k d.f.chip.ws) b) :
    ∃ d' x', mRenew d x b = (d', x', 0) ∧ FitW k Q d' x' ∧ (∀ s, Val (viewOf k d'.f.chip.ws) s = Val (viewOf k d.f.chip.ws) s) ∧ d'.f.chip.endure = d.f.chip.endure := by
  obtain ⟨X, hX⟩ : ∃ X, X = nrm k d x := ⟨_, rfl⟩
  have htw : Tw x X := by rw [hX]; exact h.tw
  have hs : Sys k d X := by rw [hX]; exact h.sys
  have hV : viewOf k d.f.chip.ws = X.bs := by rw [hX]; rfl
  have hXr : X.ret = x.ret := htw.ret
  have hXl : X.bs.length = k := sys_len hs
  have hXb : b < X.bs.length := by rw [hXl]; exact hb
  have hun : UnP (PgS X.bs) := by rw [← hV]; exact h.un
  rw [hV] at hn
  have hhd : (bkN X.bs b).head = 1 := by rw [← hV]; exact (h.head b hb).2 hrb
  have hhx : (bkN x.bs b).head = 1 := by rw [← htw.bl.head]; exact hhd
  have hst := htw.renew hrb hhx d
  have key : ∀ c2 : BlkM, (∀ i, i < 8 → nm c2.kinds i ≠ 1) → UnP (PgS (X.bs.set b c2)) ∧ (∀ s, Val (X.bs.set b c2) s = Val X.bs s) ∧ (∀ p, PgS (X.bs.set b c2) p → PgS X.bs p) := by
    intro c2 hc2
    have hpg : ∀ p, PgS (X.bs.set b c2) p ↔ OutS X.bs b p := fun p => by
      constructor
      · rintro ⟨y, hy, rfl⟩
        obtain ⟨h1, h2⟩ := (mem_setN hXb hc2).1 hy
        exact ⟨y, h1, h2, rfl⟩
      · rintro ⟨y, h1, h2, rfl⟩
        exact ⟨y, (mem_setN hXb hc2).2 ⟨h1, h2⟩, rfl⟩
    have hst := same_drop hun hn hpg
    exact ⟨same_un hun hst, same_val hun hst, fun p hp => out_in ((hpg p).1 hp)⟩
  have hN : ∀ (c2 : BlkM) (c : Nat), bkN (X.bs.set b c2) c = if c = b then c2 else bkN X.bs c := fun c2 c => bkN_set hXb
  by_cases hwb : nm d.f.chip.wear b < d.f.chip.endure
  · obtain ⟨d2, e2, s2, wo⟩ := hs.remake (.inl h.left) hb hwb
    have hrn : mRenew d X b = (d2, { X with bs := X.bs.set b (blkG (ncM X.bs b)) }, 0) := by
      unfold mRenew
      rw [e2]
      rfl
    have hv2 : viewOf k d2.f.chip.ws = X.bs.set b (blkG (ncM X.bs b)) := s2.view.symm
    obtain ⟨k1, k2, k3⟩ := key (blkG (ncM X.bs b)) (fun i _ => by rw [blkG_kind]; decide)
    rw [← hv2] at k1 k2 k3
    rw [hrn] at hst
    obtain ⟨y, hy⟩ : ∃ y, y = (mRenew d x b).2.1 := ⟨_, rfl⟩
    have ey : mRenew d x b = (d2, y, 0) := Prod.ext hst.d.symm (Prod.ext hy.symm hst.e.symm)
    have hty : Tw y { X with bs := X.bs.set b (blkG (ncM X.bs b)) } := by rw [hy]; exact hst.tw
    have hyr : y.ret = x.ret := hty.ret.symm.trans hXr
    refine ⟨d2, y, ey, ⟨s2.live, ?_, Tw.to_nrm hty (by rw [hv2]; exact TwB.refl _) (fun c _ => by rw [hv2]), fun c hc => ?_, ?_, by rw [hyr]; exact h.rlen, fun c hc => by rw [hyr]; exact h.far c hc, k1, fun p hp => h.sec p (by rw [hV]; exact k3 p hp), fun p hp => h.seq p (by rw [hV]; exact k3 p hp), fun c hc hcr => ?_, fun c => ?_, fun _ => ⟨b, hb, ?_⟩, ?_⟩, fun s => ?_, wo.endure⟩
    · rw [wo.left]
      exact burn_none h.left
    · rw [hv2, hN, hyr]
      split
      · next e =>
        rw [e, hrb]
        exact ⟨fun _ => rfl, fun _ => rfl⟩
      · rw [← hV]
        exact h.head c hc
    · rw [← hty.off]
      show X.off = false
      rw [htw.off]
      exact h.off
    · rw [hyr] at hcr
      rw [wo.endure, wo.wear, hv2, hN, if_neg (fun e => by rw [e, hrb] at hcr; cases hcr), ← hV]
      exact ⟨Int.le_trans (h.worn c hc hcr).1 (set_ge b c), (h.worn c hc hcr).2⟩
    · rw [wo.endure, wo.wear]
      exact set_le b c h.le hwb
    · rw [hv2, hN, if_pos rfl, empty_fr]
      rfl
    · rw [wo.endure]
      exact h.en
    · rw [hV]
      exact k2 s
  · obtain ⟨d2, e2, L2, sp2, far2, hd2, ct2⟩ := wornB h.live (.inl h.left) hb (by omega) X
    have hrn : mRenew d X b = (d2, { X with bs := X.bs.set b blkT, ret := X.ret.set b true }, 0) := by
      unfold mRenew
      rw [e2]
      rfl
    have hv2 : viewOf k d2.f.chip.ws = X.bs.set b (bkOf (chunk d2.f.chip.ws b)) := by rw [view_far far2 hb, hV]
    have hk2 : ∀ i, i < 8 → nm (bkOf (chunk d2.f.chip.ws b)).kinds i ≠ 1 := fun i hi => head_kinds (by rw [hd2]; decide) i hi
    obtain ⟨k1, k2, k3⟩ := key _ hk2
    rw [← hv2] at k1 k2 k3
    rw [hrn] at hst
    obtain ⟨y, hy⟩ : ∃ y, y = (mRenew d x b).2.1 := ⟨_, rfl⟩
    have ey : mRenew d x b = (d2, y, 0) := Prod.ext hst.d.symm (Prod.ext hy.symm hst.e.symm)
    have hty : Tw y { X with bs := X.bs.set b blkT, ret := X.ret.set b true } := by rw [hy]; exact hst.tw
    have hyr : y.ret = x.ret.set b true := by
      have h1 : X.ret.set b true = y.ret := hty.ret
      rw [← h1, hXr]
    have hbs : b < x.ret.length := by rw [h.rlen]; have := h.k2; omega
    have hyb : ∀ c, bo y.ret c = if c = b then true else bo x.ret c := fun c => by rw [hyr, bo_set _ _ _ _ hbs]
    refine ⟨d2, y, ey, ⟨L2, ?_, Tw.to_nrm hty ?_ (fun c hc => ?_), fun c hc => ?_, ?_, by rw [hyr, List.length_set]; exact h.rlen, fun c hc => ?_, k1, fun p hp => h.sec p (by rw [hV]; exact k3 p hp), fun p hp => h.seq p (by rw [hV]; exact k3 p hp), fun c hc hcr => ?_, fun c => ?_, fun hno => ?_, ?_⟩, fun s => ?_, sp2.endure⟩
    · rw [sp2.left]
      exact burn_none h.left
    · rw [hv2]
      refine ⟨by simp, fun c => ?_⟩
      show bkN (X.bs.set b _) c = bkN (X.bs.set b blkT) c ∨ _
      rw [hN, hN]
      by_cases e : c = b
      · rw [if_pos e, if_pos e]
        exact .inr ⟨rfl, hd2, ct2, fun i _ => blkT_kind i, hk2⟩
      · rw [if_neg e, if_neg e]
        exact .inl rfl
    · rw [← hty.ret] at hyb
      have h1 := hyb c
      rw [hc] at h1
      rw [hv2]
      show bkN (X.bs.set b _) c = bkN (X.bs.set b blkT) c
      rw [hN, hN]
      by_cases e : c = b
      · rw [if_pos e] at h1
        cases h1
      · rw [if_neg e, if_neg e]
    · rw [hv2, hN, hyb]
      by_cases e : c = b
      · rw [if_pos e, if_pos e, hd2]
        exact ⟨fun h => absurd h (by decide), fun h => by cases h⟩
      · rw [if_neg e, if_neg e, ← hV]
        exact h.head c hc
    · rw [← hty.off]
      show X.off = false
      rw [htw.off]
      exact h.off
    · rw [hyb, if_neg (by omega)]
      exact h.far c hc
    · rw [hyb] at hcr
      rw [sp2.endure, sp2.wear, hv2, hN]
      by_cases e : c = b
      · rw [if_pos e, e]
        exact ⟨by omega, hd2⟩
      · rw [if_neg e] at hcr
        rw [if_neg e, ← hV]
        exact h.worn c hc hcr
    · rw [sp2.endure, sp2.wear]
      exact h.le c
    · have := hno b
      rw [hyb, if_pos rfl] at this
      cases this
    · rw [sp2.endure]
      exact h.en
    · rw [hV]
      exact k2 s
theorem FitW.mount (h : FitW k Q d x) (k1 : 1 ≤ k) :
    ∃ d' x', mRep k (dLook d) (x0 d.f.chip.ws) = (d', x', 0) ∧ FitW k Q d' x' ∧ (∀ s, Val (viewOf k d'.f.chip.ws) s = Val (viewOf k d.f.chip.ws) s) ∧ d'.f.chip.endure = d.f.chip.endure := by
  obtain ⟨d1, x1, e1, f1⟩ := h.fixes k1 k (Nat.le_refl k)
  have h1 := h.fixed f1
  have hval : ∀ s, Val (viewOf k d1.f.chip.ws) s = Val (viewOf k d.f.chip.ws) s := fun s => f1.view.val s
  unfold mRep
  rw [e1, if_neg (fun h => h rfl)]
  show ∃ d' x', mTail d1 x1 = (d', x', 0) ∧ _
  unfold mTail
  by_cases ha : x1.bs.any bkEmpty = true
  · rw [if_pos ha]
    exact ⟨d1, x1, rfl, h1, hval, f1.endure⟩
  · rw [if_neg ha]
    cases ht : tailB x1 with
    | none =>
      rw [mTl_none ht]
      exact ⟨d1, x1, rfl, h1, hval, f1.endure⟩
    | some b =>
      rw [mTl_some ht]
      have hm := List.mem_of_find?_eq_some ht
      have hp := List.find?_some ht
      rw [decide_eq_true_eq] at hp
      obtain ⟨hb, hr⟩ := mem_ordN.1 hm
      have hn := of_needed hp
      have hn2 : NoNeed (viewOf k d1.f.chip.ws) b := by
        unfold NoNeed at hn ⊢
        rw [f1.bl.cnt]
        exact hn
      obtain ⟨d2, x2, g1, g2, g3, g4⟩ := h1.renew (by rw [← h1.len]; exact hb) hr hn2
      exact ⟨d2, x2, g1, g2, fun s => (g3 s).trans (hval s), g4.trans f1.endure⟩
end
end Go.Proofs.YtnfgpjfldgocaaaGreat
namespace Go.Proofs.YtnfgpjfldgocaaaGreat
open Go.RowKit Bm Go.Shelf
structure WelW (B p f q s k : Nat) (K : Nat → Prop) (Q T E : Int) (V : BitVec 32 → List (BitVec 32)) (w : World) (d : DrvM) (x : StoM) : Prop where
  sto : ∃ g, Sto B p f q s k g K d x w
  fit : FitW k Q d x
  endure : d.f.chip.endure = E
  t0 : 0 ≤ d.t
  t1 : d.t ≤ T
  val : ∀ n : BitVec 32, Val (viewOf k d.f.chip.ws) n = V n
section
variable {B p f q s k g : Nat} {K K' : Nat → Prop} {Q W T E : Int} {V V' : BitVec 32 → List (BitVec 32)} {d d' : DrvM} {x : StoM} {w w' : World}
theorem WelW.below (h : WelW B p f q s k K Q T E V w d x) (hB : Below w.heap.size w w') : WelW B p f q s k K Q T E V w' d x := by
  obtain ⟨⟨g, hs⟩, h2, h3, h4, h5, h6⟩ := h
  exact ⟨⟨g, hs.below hB⟩, h2, h3, h4, h5, h6⟩
theorem WelW.move (h : WelW B p f q s k K Q T E V w d x) {S : Nat → Prop} (hb : ∀ i, S i → K i) (t : Turned S w w') (hK : ∀ i, K' i → (K i ∨ w.heap.size ≤ i) ∧ i < w'.heap.size) : WelW B p f q s k K' Q T E V w' d x := by
  obtain ⟨⟨g, hs⟩, h2, h3, h4, h5, h6⟩ := h
  exact ⟨⟨g, hs.move h2.live.ok.calm.job hb t hK⟩, h2, h3, h4, h5, h6⟩
theorem WelW.less (h : WelW B p f q s k K Q T E V w d x) (hk : ∀ i, K' i → K i) : WelW B p f q s k K' Q T E V w d x := by
  obtain ⟨⟨g, hs⟩, h2, h3, h4, h5, h6⟩ := h
  exact ⟨⟨g, hs.less hk⟩, h2, h3, h4, h5, h6⟩
theorem WelW.kin (h : WelW B p f q s k K Q T E V w d x) (i : Nat) (hi : K i) : i < w.heap.size := by
  obtain ⟨⟨g, hs⟩, _⟩ := h
  exact hs.kin i hi
theorem WelW.size (h : WelW B p f q s k K Q T E V w d x) : B ≤ w.heap.size := by
  obtain ⟨⟨g, hs⟩, _⟩ := h
  exact hs.size
theorem FitW.grow {Q' : Int} (h : FitW k Q d x) (hQ : Q ≤ Q') : FitW k Q' d x :=
  ⟨h.live, h.left, h.tw, h.head, h.off, h.rlen, h.far, h.un, h.sec, fun p hp => Int.le_trans (h.seq p hp) hQ, h.worn, h.le, h.emp, h.en⟩
theorem WelW.grow {Q' T' : Int} (h : WelW B p f q s k K Q T E V w d x) (hQ : Q ≤ Q') (hT : T ≤ T') : WelW B p f q s k K Q' T' E V w d x := by
  obtain ⟨hs, hf, he, h0, h1, hv⟩ := h
  exact ⟨hs, hf.grow hQ, he, h0, by omega, hv⟩
theorem WelW.of {C : Prop} (h : Well C B p f q s k K Q W T E V w d x) (hW : W ≤ E) : WelW B p f q s k K Q T E V w d x := by
  obtain ⟨⟨g, hs⟩, hf, hl, he, h0, h1, hv⟩ := h
  refine ⟨⟨g, hs⟩, hf.toW hl (by rw [he]; exact hW) hs.ret, he, h0, h1, fun n => ?_⟩
  rw [← hf.sys.view]
  exact hv n
theorem WelW.sectors (h : WelW B p f q s k K Q T E V w d x) : Calls Tryz.prog 13 #[.pointer (some ⟨s, 0, none⟩)] w fun e w' => e = .returned (.int .i64 (secs k)) ∧ w' = w := by
  obtain ⟨⟨g, hs⟩, _⟩ := h
  exact hs.sectors
theorem WelW.retired (h : WelW B p f q s k K Q T E V w d x) : Calls Tryz.prog 22 #[.pointer (some ⟨s, 0, none⟩)] w fun e w' => e = .returned (.int .i64 (nTrue x.ret 64 : Nat)) ∧ w' = w := by
  obtain ⟨⟨g, hs⟩, _⟩ := h
  exact hs.retired
theorem nTrue_pos {l : List Bool} {b : Nat} (h : bo l b = true) : ∀ n, b < n → 0 < nTrue l n
  | 0, hb => by omega
  | n + 1, hb => by
    rw [nTrue]
    by_cases e : b = n
    · subst e
      rw [h]
      exact Nat.succ_pos _
    · have := nTrue_pos h n (by omega)
      omega
def CaseW (k : Nat) (a : Act8) (V : BitVec 32 → List (BitVec 32)) (ee : Int) (V' : BitVec 32 → List (BitVec 32)) (x' : StoM) : Prop :=
  (¬ in8 k a ∧ ee = 10 ∧ V' = V) ∨ (in8 k a ∧ ee = 0 ∧ V' = val8 k a V) ∨ (in8 k a ∧ ee = 9 ∧ V' = V ∧ 0 < nTrue x'.ret 64)
def ActedW (B p f q s k : Nat) (K : Nat → Prop) (Q T E : Int) (V : BitVec 32 → List (BitVec 32)) (a : Act8) (w : World) (e : Ending) (w' : World) : Prop :=
  ∃ (ee : Int) (d' : DrvM) (x' : StoM) (V' : BitVec 32 → List (BitVec 32)), e = .returned (.int .i64 ee) ∧ WelW B p f q s k K Q T E V' w' d' x' ∧ CaseW k a V ee V' x' ∧ Turned (May B K) w w'
theorem WelW.act (h : WelW B p f q s k K Q T E V w d x) (k5 : 5 ≤ k) (hk : k ≤ 19) (hQ : Q < 2147483647) (hQ0 : 0 ≤ Q) {n : Nat} (hn : k * (8 * k + 1) + 8 * k < n) (hT : T + 3000 * ((n : Int) + 1) ≤ 70000000000000) (a : Act8) (ha : A8Ok a) :
    Calls Tryz.prog 16 #[.pointer (some ⟨s, 0, none⟩), .agg #[.int .u8 a.k, .int .i64 a.s, .int .u32 (U a.v)]] w (ActedW B p f q s k K (Q + 1) (T + 3000 * ((n : Int) + 1)) E V a w) := by
  obtain ⟨⟨g, hs⟩, hf, he, h0, h1, hv⟩ := h
  have hok := hf.live.ok
  by_cases hin : in8 k a
  · obtain ⟨i0, i1⟩ := hin
    obtain ⟨m, hm⟩ : ∃ m : Nat, a.s = (m : Int) := ⟨a.s.toNat, by omega⟩
    have hm2 : a.s.toNat = m := by omega
    have hm5 : m < 512 := by unfold secs at i1; omega
    have hbeg := hf.begin (by omega) i0 i1
    have ec := look_chip hf.live
    have hs2 : U (BitVec.ofNat 32 m) = (m : Int) := U_ofNat m (by omega)
    have hmeas : uN (nrm k d x).ret k * (8 * k + 1) + (8 * k - totF (nrm k d x).bs k) < n := by
      have h1 := Nat.mul_le_mul_right (8 * k + 1) (uN_le (nrm k d x).ret k)
      omega
    obtain ⟨R, hadd, hact⟩ := FitW.add k5 (pg := { pg8 a with s := BitVec.ofNat 32 m }) (pg8_ok a m hm5) (by show U (BitVec.ofNat 32 m) < _; rw [hs2]; unfold secs at i1; omega) hQ hQ0 n hf.norm.look hmeas
    rw [ec] at hact
    have htk := addTo_ticks hk hadd
    rw [look_t] at htk
    have hnew : newV { pg8 a with s := BitVec.ofNat 32 m } (Val (viewOf k d.f.chip.ws)) = val8 k a V := funext fun j => by
      unfold newV val8
      rw [hm2, hv]
      show (if j = BitVec.ofNat 32 m then valOf.d4OfM (pg8 a) else V j) = _
      rw [pg8_words]
      by_cases hj : j = BitVec.ofNat 32 m
      · rw [if_pos hj, if_pos ⟨⟨i0, i1⟩, hj⟩]
      · rw [if_neg hj, if_neg (fun e => hj e.2)]
    rw [he] at hact
    have hR : 0 ≤ R.2.2 ∧ R.2.2 ≤ 100 ∧ R.2.2 ≠ 4 ∧ R.2.1.off = false := by
      cases hact with
      | done e g _ _ => rw [e]; exact ⟨Int.le_refl 0, by decide, by decide, g.off⟩
      | full _ e g _ _ _ => rw [e]; exact ⟨by decide, by decide, by decide, g.off⟩
    have hchg : mChg k d x a.s R = R := by
      unfold mChg
      rw [hbeg, if_pos rfl]
      obtain ⟨r1, ⟨r2, r3, r4⟩, r5⟩ := R
      obtain ⟨_, _, hr3, hr4⟩ := hR
      simp only at hr3 hr4
      subst hr4
      unfold mNote
      simp only [Bool.false_or, decide_eq_false hr3]
    refine (hs.do8 hok hk (by omega) a ha (n := n) (R := R) (fun _ => ?_) (fun _ => ⟨hR.1, hR.2.1⟩) h0 (by omega)).mono ?_
    · rw [hbeg, hm2]
      exact hadd
    · rintro e w1 ⟨rfl, hs1, t1⟩
      rw [hchg] at hs1 ⊢
      cases hact with
      | done g1 g2 g3 g4 =>
        exact ⟨0, R.1, R.2.1, val8 k a V, by rw [g1], ⟨hs1, g2, g4, by omega, by omega, fun j => (g3 j).trans (congrFun hnew j)⟩, .inr (.inl ⟨⟨i0, i1⟩, rfl, rfl⟩), t1⟩
      | full b g1 g2 g3 g4 g5 =>
        refine ⟨9, R.1, R.2.1, V, by rw [g1], ⟨hs1, g2.grow (by omega), g4, by omega, by omega, fun j => (g3 j).trans (hv j)⟩, .inr (.inr ⟨⟨i0, i1⟩, rfl, rfl, nTrue_pos g5 64 ?_⟩), t1⟩
        apply Classical.byContradiction
        intro hb
        rw [g2.far b (by omega)] at g5
        cases g5
  · have hout : a.s < 0 ∨ secs k ≤ a.s := by unfold in8 at hin; omega
    have hbeg : mBegin k d x a.s = (d, x, 10) := if_pos hout
    have hchg : mChg k d x a.s (d, x, 0) = (d, x, 10) := by
      unfold mChg
      rw [hbeg]
      exact if_neg (show ¬ ((10 : Int) = 0) by decide)
    refine (hs.do8 hok hk (by omega) a ha (n := 0) (R := (d, x, 0)) (fun h => ?_) (fun _ => ⟨Int.le_refl 0, by show (0 : Int) ≤ 100; decide⟩) h0 (by omega)).mono ?_
    · rw [hbeg] at h
      exact absurd h (show ¬ ((10 : Int) = 0) by decide)
    · rintro e w1 ⟨rfl, hs1, t1⟩
      rw [hchg] at hs1 ⊢
      exact ⟨10, d, x, V, rfl, WelW.grow ⟨hs1, hf, he, h0, h1, hv⟩ (by omega) (by omega), .inl ⟨hin, rfl, rfl⟩, t1⟩
theorem WelW.read (h : WelW B p f q s k K Q T E V w d x) (k5 : 5 ≤ k) {n : Nat} (hn : (n : Int) < secs k) :
    Calls Tryz.prog 33 #[.pointer (some ⟨s, 0, none⟩), .int .i64 (n : Int)] w fun e w' => e = .returned (.tuple #[.agg (Us (V (BitVec.ofNat 32 n))).toArray, .int .i64 0]) ∧ (∃ d' x', WelW B p f q s k K Q T E V w' d' x') ∧ Turned (May B K) w w' := by
  obtain ⟨⟨g, hs⟩, hf, he, h0, h1, hv⟩ := h
  have hk2 := hf.k2
  have hsec : secs k ≤ 400 := by unfold secs; omega
  have hbeg := hf.begin (by omega) (a := (n : Int)) (by omega) hn
  have hrd := hf.read (by omega) hn
  refine (hs.read hf.live.ok (by omega) (n : Int) (by omega) (by omega)).mono ?_
  rintro e w1 ⟨rfl, hs1, t1⟩
  rw [hbeg] at hs1 ⊢
  have hc := look_chip hf.live
  exact ⟨by rw [hrd, hv], ⟨dLook d, nrm k d x, hs1, hf.norm.look, by rw [hc]; exact he, by rw [look_t]; exact h0, by rw [look_t]; exact h1, by rw [hc]; exact hv⟩, t1⟩
theorem WelW.counts (h : WelW B p f q s k K Q T E V w d x) (k5 : 5 ≤ k) :
    Calls Tryz.prog 28 #[.pointer (some ⟨s, 0, none⟩)] w fun e w' => ∃ gc, e = .returned (.slice (some ⟨gc, 0, none⟩) k k) ∧ (∃ d' x', WelW B p f q s k K Q T E V w' d' x') ∧ Turned (May B K) w w' := by
  obtain ⟨⟨g, hs⟩, hf, he, h0, h1, hv⟩ := h
  refine (hs.counts hf.live.ok (by omega)).mono ?_
  rintro e w1 ⟨gc, rfl, hs1, _, _, t1⟩
  rw [hf.xlook (by omega)] at hs1
  have hc := look_chip hf.live
  exact ⟨gc, rfl, ⟨dLook d, nrm k d x, hs1, hf.norm.look, by rw [hc]; exact he, by rw [look_t]; exact h0, by rw [look_t]; exact h1, by rw [hc]; exact hv⟩, t1⟩
theorem WelW.mount (h : WelW B p f q s k K Q T E V w d x) (k5 : 5 ≤ k) (hk : k ≤ 19) (hT : T ≤ 70000000000000) :
    Calls Tryz.prog 19 #[.pointer (some ⟨q, 0, none⟩)] w fun e w' => e = .returned (.tuple #[.pointer (some ⟨w.heap.size, 0, none⟩), .int .i64 0]) ∧ (∃ d' x', WelW B p f q w.heap.size k K Q (T + 100 * (k : Int) + 100) E V w' d' x') ∧ Turned (May B K) w w' := by
  obtain ⟨⟨g, hs⟩, hf, he, h0, h1, hv⟩ := h
  have hdv : Dv B p f q k K d w := hs.dv.less fun i e => .inl e
  have htk := mRep_ticks (k := k) (dLook d) (x0 d.f.chip.ws)
  rw [look_t] at htk
  obtain ⟨d1, x1, m1, m2, m3, m4⟩ := hf.mount (by omega)
  rw [m1] at htk
  refine (hdv.mount hf.live.ok k5 hk hf.live.up h0 (by omega)).mono ?_
  rintro e w1 ho
  rw [m1] at ho
  obtain ⟨o1, ⟨g1, o2⟩, o3⟩ := ho
  exact ⟨o1, ⟨d1, x1, ⟨g1, o2⟩, m2, m4.trans he, by have := htk.1; dsimp only at this; omega, by have := htk.2; dsimp only at this; omega, fun n => (m3 n).trans (hv n)⟩, o3⟩
def ValsW (B p f q s k : Nat) (K : Nat → Prop) (Q T E : Int) (V : BitVec 32 → List (BitVec 32)) (w : World) (e : Ending) (w' : World) : Prop :=
  ∃ v d' x', e = .returned (.tuple #[v, .bool true]) ∧ w'.ownsRow w.heap.size 44 4 v ((k - 3) * 6) (vls V ((k - 3) * 6)) ∧ WelW B p f q s k (KV K v) Q T E V w' d' x' ∧ Turned (May B K) w w'
set_option maxRecDepth 100000 in
set_option maxHeartbeats 1000000 in
theorem WelW.values (h : WelW B p f q s k K Q T E V w d x) (k5 : 5 ≤ k) (hV : ∀ n, (V n).length = 4) :
    Calls Tryz.prog 20 #[.pointer (some ⟨s, 0, none⟩)] w (ValsW B p f q s k K Q T E V w) := by
  obtain ⟨i0, hin, hz0, hz1, hz2⟩ := info_parts v44_info
  have b4 := run_bv4
  have SE := Lib.hid h.sectors
  have hk2 := h.fit.k2
  obtain ⟨S, hS⟩ : ∃ S : Nat, S = (k - 3) * 6 := ⟨_, rfl⟩
  have hS2 : secs k = (S : Int) := by unfold secs; omega
  have HS2 := Lib.hid hS2
  have hS4 : (S : Int) ≤ 400 := by omega
  have HS := Lib.hid hS
  have HH := Lib.hid (h.move (K' := KV K (.slice none 0 0)) (S := NoBlock) (fun _ e => e.elim) (Turned.refl _ w) (fun i e => by
    rcases e with e | e
    · exact ⟨.inl e, h.kin i e⟩
    · cases e))
  have HV := Lib.hid hV
  have HSZ := Lib.hid h.size
  have HK5 := Lib.hid k5
  unfold ValsW
  rw [← hS]
  clear h hV hS2 hS
  go_enter Tryz.func20, Tryz.ntmps20
  go_wp2_with (first
    | (go_at_call 13; (with_reducible refine SE.out.mono ?_); rintro e w1 ⟨rfl, hw⟩; obtain rfl := hw.symm; rw [HS2.out]))
  go_loopw [4, 10] (fun v i wr => ∃ (j : Nat) (d' : DrvM) (x' : StoM), j ≤ S ∧ i = .int .i64 j ∧ wr.ownsRow w.heap.size 44 4 v j (vls V j) ∧ WelW B p f q s k (KV K v) Q T E V wr d' x' ∧ Turned (May B K) w wr) (fun _ i _ => S - (intOf i).toNat)
  case atStart => exact ⟨0, d, x, by omega, rfl, World.ownsRow_nil _ _ _ _, HH.out, Turned.refl _ _⟩
  case round =>
    obtain ⟨j, d', x', hj, rfl, hrow, hwell, htn⟩ := hrel
    have HROW := Lib.hid hrow
    have HWE := Lib.hid hwell
    have HTN := Lib.hid htn
    clear hrow hwell htn
    by_cases hlt : j < S
    · have j0 : (0 : Int) ≤ (j : Int) := by omega
      have j1 : (j : Int) < (S : Int) := by omega
      have RD := Lib.hid (HWE.out.read HK5.out (n := j) (by rw [HS2.out]; omega))
      have hy4 := HV.out (BitVec.ofNat 32 j)
      obtain ⟨y, hy⟩ : ∃ y, y = V (BitVec.ofNat 32 j) := ⟨_, rfl⟩
      rw [← hy] at RD hy4
      have HVS : Hid (vls V (j + 1) = vls V j ++ Us y) := Lib.hid (by rw [vls_succ, hy])
      have HY4 := Lib.hid hy4
      obtain ⟨y0, y1, y2, y3, hyy⟩ : ∃ a b c e, y = [a, b, c, e] := by
        match y, hy4 with
        | [a, b, c, e], _ => exact ⟨a, b, c, e, rfl⟩
      have HYY := Lib.hid hyy
      clear hy hy4 hyy
      go_upto_region 8 with (first
        | (go_at_call 33; (with_reducible refine RD.out.mono ?_); rintro e w2 ⟨rfl, ⟨d2, x2, hw2⟩, t2⟩; have HW2 := Lib.hid hw2; have HT2 := Lib.hid t2; clear hw2 t2)
        | (refine wpList_stm (pre := []) (post := []) (xs := Us d40) (ys := Us y) _ _ rfl rfl rfl rfl d4_size rfl (by rw [Us_length]; exact HY4.out) (Us_one _) rfl (by simp) (At.news w2 _ (Us d40)) ?_; intro w3 A3 T3; rw [List.nil_append, List.append_nil] at A3; have HA3 := Lib.hid A3; have HB3 : Hid (Below w2.heap.size w2 w3) := Lib.hid (((Below.refl _ w2).alloc (Nat.le_refl _) _).trans (T3.below (fun i hi => by unfold Just at hi; omega) (by simp))); clear A3 T3))
      have HW3 := Lib.hid (HW2.out.below HB3.out)
      have HROW3 : Hid (w3.ownsRow w.heap.size 44 4 u4 j (vls V j)) := Lib.hid (Theirs.own_turned (Theirs.own_turned HROW.out HT2.out (fun r e h => h.2 (.inr e))) (Turned.of_below HB3.out (Nat.le_refl _) NoBlock) (fun _ _ h => h))
      have HT3 : Hid (Turned (May B K) w w3) := Lib.hid (HTN.out.trans ((may_less HT2.out fun _ e => .inl e).trans (Turned.of_below HB3.out (Nat.le_refl _) _)))
      have hA3 := HA3.out
      rw [HYY.out] at hA3
      obtain ⟨bx, hbx⟩ : ∃ bx, bx = w2.heap.size := ⟨_, rfl⟩
      rw [← hbx] at hA3 ⊢
      have c0 : w3.cell? ⟨bx, 0, none⟩ = some (.int .u32 (U y0)) := hA3.cell 0
      have c1 : w3.cell? ⟨bx, 1, none⟩ = some (.int .u32 (U y1)) := hA3.cell 1
      have c2 : w3.cell? ⟨bx, 2, none⟩ = some (.int .u32 (U y2)) := hA3.cell 2
      have c3 : w3.cell? ⟨bx, 3, none⟩ = some (.int .u32 (U y3)) := hA3.cell 3
      have FIN : Hid (∀ (w9 : World) (g cap : Nat), w9.ownsRow w.heap.size 44 4 (.slice (some ⟨g, 0, none⟩) (j + 1) cap) (j + 1) (vls V j ++ Us y) → (w3.alloc (.cells (Us y).toArray 44)).grownBy w9 u4.ownBlock → (u4.ownBlock = some g ∨ g = (w3.alloc (.cells (Us y).toArray 44)).heap.size) → g < w9.heap.size →
          w9.ownsRow w.heap.size 44 4 (.slice (some ⟨g, 0, none⟩) (j + 1) cap) (j + 1) (vls V (j + 1)) ∧ WelW B p f q s k (KV K (.slice (some ⟨g, 0, none⟩) (j + 1) cap)) Q T E V w9 d2 x2 ∧ Turned (May B K) w w9) := Lib.hid (fun w9 g cap h1 h2 h3 h4 => by
        have tr : Turned (fun r => u4.ownBlock = some r) w3 w9 := ((Turned.refl _ w3).alloc _).grown h2 (fun k e _ => e)
        refine ⟨by rw [HVS.out]; exact h1, HW3.out.move (S := fun r => u4.ownBlock = some r) (fun i e => .inr e) tr (fun i e => ?_), HT3.out.after tr (fun i hi e => by have := (HROW3.out.lt i e).1; omega)⟩
        rcases e with e | e
        · exact ⟨.inl (.inl e), Nat.lt_of_lt_of_le (HW3.out.kin i (.inl e)) tr.size⟩
        · have eg : g = i := by
            have e' : some g = some i := e
            exact Option.some.inj e'
          subst eg
          refine ⟨?_, h4⟩
          rcases h3 with h3 | h3
          · exact .inl (.inr h3)
          · right
            rw [h3]
            simp)
      clear hbx hA3
      have HHB : Hid (w.heap.size ≤ (w3.alloc (.cells (Us y).toArray 44)).heap.size) := Lib.hid (by have := HT3.out.size; simp; omega)
      go_wp2_with (first
        | (refine wpList_appV (y := y) (base := w.heap.size) (n := j) (xs := vls V j) (v := u4) hin hz0 hz1 hz2 (by rfl) _ _ rfl rfl rfl (Theirs.own_turned HROW3.out ((Turned.refl NoBlock w3).alloc _) (fun _ _ h => h)) rfl (by rw [HYY.out]; exact At.alloc_new _ _ _ rfl rfl) HY4.out (by omega) (by have := HHB.out; simp at this ⊢; omega) ?_; intro g9 cap9 w9 o9 n9 h9 l9; have HF := Lib.hid (FIN.out w9 g9 cap9 o9 (by rw [HYY.out]; exact n9) (by rw [HYY.out]; exact h9) l9); clear o9 n9 h9 l9))
      go_roundw
      case rel => exact ⟨j + 1, d2, x2, by omega, by go_num, HF.out.1, HF.out.2.1, HF.out.2.2⟩
      case measure => simp [intOf]; omega
    · obtain rfl : j = S := by omega
      go_wp2
      refine bodyPost_ret (results_tmp2 rfl _ _ _) rfl ⟨_, d', x', rfl, HROW.out, HWE.out, HTN.out⟩
end
end Go.Proofs.YtnfgpjfldgocaaaGreat
namespace Go.Proofs.YtnfgpjfldgocaaaGreat
open Go.RowKit Bm Go.Shelf
set_option maxRecDepth 100000 in
set_option maxHeartbeats 8000000 in
theorem ftlWears_walk (a0 : Int) (b0 : (Lit.int .u8 a0).wf = true) (A : Option Addr) (n cap : Nat) (xs : List Act8) (w : World) (hr : ReadsA8 w A n cap xs) :
    Calls Tryz.prog 5 #[.int .u8 a0, .slice A n cap] w fun e w' => e = .returned (.bool true) ∧ Below w.heap.size w w' := by
  have c0 := bounds_u8 b0
  have hle := hr.le
  have hmx := hr.max
  unfold maxLen at hmx
  have HR := Lib.hid hr
  obtain ⟨E, hE, e1, e8⟩ : ∃ E : Int, 1 + a0 % 8 = E ∧ 1 ≤ E ∧ E ≤ 8 := ⟨_, rfl, by omega, by omega⟩
  clear hr b0
  go_enter Tryz.func5, Tryz.ntmps5
  go_upto_region 3 with (first
    | (go_at_call 10; (refine (alive8_any w).mono ?_); rintro e wa ⟨rfl, hBa⟩; have HBA := Lib.hid hBa; clear hBa))
  by_cases hn180 : 180 < n
  · have hn' : (180 : Int) < (n : Int) := by omega
    go_wp2
    go_ret
    exact ⟨rfl, HBA.out⟩
  have hn' : ¬ ((180 : Int) < (n : Int)) := by omega
  go_upto_region 6 with (first
    | (go_at_call 11; (refine (begin8_any (B := w.heap.size) 6 E wa HBA.out.size (by omega) (by omega) (by omega) (by omega)).mono ?_); rintro e w1 ⟨p, f, q, rfl, s0, b1⟩; have S1 : Hid (Dv w.heap.size p f q 6 NoBlock ⟨fNew (mNew 6 E), 0⟩ w1) := Lib.hid s0; have B1 := Lib.hid (HBA.out.trans (b1.mono HBA.out.size)); clear s0 b1)
    | (refine wpList_stm (pre := []) (post := []) (xs := wd0) (ys := wdC p q) _ _ rfl rfl rfl rfl wd_size rfl rfl (wdC_one p q) rfl (by simp) (At.news w1 _ wd0) ?_; intro w2 A2 T2; rw [List.nil_append, List.append_nil] at A2; have HA2 := Lib.hid A2; have HB2 : Hid (Below w1.heap.size w1 w2) := Lib.hid (((Below.refl _ w1).alloc (Nat.le_refl _) _).trans (T2.below (fun i hi => by unfold Just at hi; omega) (by simp))); clear A2 T2))
  obtain ⟨k, hk⟩ : ∃ k : Nat, k = 6 := ⟨_, rfl⟩
  rw [← hk] at S1
  obtain ⟨S, hS, hS2⟩ : ∃ S : Nat, S = (k - 3) * 6 ∧ S ≤ 30 := ⟨_, rfl, by omega⟩
  have hsec : secs k = (S : Int) := by unfold secs; omega
  have HSEC := Lib.hid hsec
  have HS := Lib.hid hS
  have HK := Lib.hid hk
  obtain ⟨bt, hbt⟩ : ∃ bt, bt = w1.heap.size := ⟨_, rfl⟩
  rw [← hbt] at HA2 ⊢
  have B2 := Lib.hid (B1.out.trans (HB2.out.mono B1.out.size))
  have S2 : Hid (Dv w.heap.size p f q k (Just bt) ⟨fNew (mNew k E), 0⟩ w2) := Lib.hid (S1.out.move rfl (S := NoBlock) (fun _ e => e.elim) (Turned.of_below HB2.out (Nat.le_refl _) _) (fun i e => by unfold Just at e; rw [e]; exact ⟨.inr (by omega), HA2.out.lt⟩))
  have FO := Lib.hid (format_new (C := False) S2.out (by omega) (by omega) (by omega) (by omega))
  have c1 : w2.cell? ⟨bt, 1, none⟩ = some (.pointer (some ⟨q, 0, none⟩)) := HA2.out.cell 1
  obtain ⟨s1, hs1⟩ : ∃ s1, s1 = w2.heap.size := ⟨_, rfl⟩
  rw [← hs1] at FO
  clear hbt hs1 S1 hS hsec
  go_upto_region 9 with (first
    | (go_at_call 12; (with_reducible refine FO.out.mono ?_); rintro e w3 ⟨rfl, ⟨d3, x3, s3⟩, t3⟩; have S3 := Lib.hid (WelW.of s3 e1); have T3 := Lib.hid t3; clear s3 t3))
  have HA3 : Hid (At w3 bt 27 (wdC p q)) := Lib.hid (HA2.out.kept T3.out (fun e => e.2 rfl))
  have B3 := Lib.hid (B2.out.trans (mayB_below T3.out B2.out.size))
  have SE := Lib.hid S3.out.sectors
  rw [HSEC.out] at SE
  have NW := Lib.hid (new8_any S (by omega) w3)
  clear c1 FO S2 HA2 B2
  go_upto_region 12 with (first
    | (go_at_call 13; (with_reducible refine SE.out.mono ?_); rintro e w4 ⟨rfl, hw⟩; obtain rfl := hw.symm)
    | (go_at_call 15; (with_reducible refine NW.out.mono ?_); rintro e w5 ⟨v, rfl, hrow, hb5⟩; have HROW := Lib.hid hrow; have HB5 := Lib.hid hb5; clear hrow hb5))
  have HW5 : Hid (WelW w.heap.size p f q s1 k (KV (Just bt) v) 0 1000 E (fun _ => d40) w5 d3 x3) := Lib.hid ((S3.out.move (K' := KV (Just bt) v) (S := NoBlock) (fun _ e => e.elim) (Turned.of_below HB5.out (Nat.le_refl _) _) (fun i e => by
    have hz := HROW.out.lt
    rcases e with e | e
    · exact ⟨.inl e, by have := HA3.out.lt; have := HB5.out.size; rw [show i = bt from e]; omega⟩
    · exact ⟨.inr (hz i e).1, (hz i e).2⟩)).grow (by omega) (by omega))
  have HA5 : Hid (At w5 bt 27 (wdC p q)) := Lib.hid (HA3.out.kept (Turned.of_below HB5.out (Nat.le_refl _) NoBlock) (fun h => h))
  have B5 := Lib.hid (B3.out.trans (HB5.out.mono B3.out.size))
  have HROW5 : Hid (w5.ownsRow w.heap.size 44 4 v S (vls (fun _ => d40) S)) := Lib.hid (own_lower HROW.out B3.out.size)
  clear HROW HB5 B3 HA3 S3 NW SE T3 c0 hk
  go_wp2
  go_loopw [9, 51] (fun v i wr => ∃ (j : Nat) (d : DrvM) (x : StoM) (V : BitVec 32 → List (BitVec 32)), j ≤ n ∧ i = .int .i64 j ∧ WelW w.heap.size p f q s1 k (KV (Just bt) v) (j : Int) (1000 + 1100000 * (j : Int)) E V wr d x ∧ (∀ n, (V n).length = 4) ∧ At wr bt 27 (wdC p q) ∧ wr.ownsRow w.heap.size 44 4 v S (vls V S) ∧ Below w.heap.size w wr) (fun _ i _ => n - (intOf i).toNat)
  case atStart => exact ⟨0, d3, x3, _, by omega, rfl, HW5.out.grow (by omega) (by omega), fun _ => d40_len, HA5.out, HROW5.out, B5.out⟩
  case round =>
    obtain ⟨j, d, x, V, hj, rfl, hwell, hV, hA, hrow, hB⟩ := hrel
    have HWE := Lib.hid hwell
    have HV := Lib.hid hV
    have HA := Lib.hid hA
    have HROW := Lib.hid hrow
    have HB := Lib.hid hB
    obtain ⟨A1, cap1, rfl, _⟩ := own_readsV hV hrow
    clear hwell hV hA hrow hB HW5 HA5 B5 HROW5
    by_cases hlt : j < n
    · have j0 : (0 : Int) ≤ (j : Int) := by omega
      have j1 : (j : Int) < (n : Int) := by omega
      obtain ⟨g, off, y, rfl, hy, _, y0, y1, y2⟩ := (HR.out.kept HB.out).at_ hlt
      have HY := Lib.hid hy
      clear hy
      go_upto_region 15 with (first
        | (refine wpList_stm (pre := []) (post := []) (xs := a8Z) (ys := a8C y) _ _ rfl rfl rfl rfl a8_size rfl rfl (a8_one y) rfl (by simp) (At.news wr _ a8Z) ?_; intro w4 A4 T4; rw [List.nil_append, List.append_nil] at A4; have HA4 := Lib.hid A4; have HB4 : Hid (Below wr.heap.size wr w4) := Lib.hid (((Below.refl _ wr).alloc (Nat.le_refl _) _).trans (T4.below (fun i hi => by unfold Just at hi; omega) (by simp))); clear A4 T4))
      obtain ⟨b4, hb4⟩ : ∃ b4, b4 = wr.heap.size := ⟨_, rfl⟩
      rw [← hb4] at HA4 ⊢
      have HB4N : Hid (b4 ≠ bt) := Lib.hid (by have := HA.out.lt; omega)
      have HW4 : Hid (WelW w.heap.size p f q s1 k (fun i => KV (Just bt) (.slice A1 S cap1) i ∨ i = b4) (j : Int) (1000 + 1100000 * (j : Int)) E V w4 d x) := Lib.hid (HWE.out.move (S := NoBlock) (fun _ e => e.elim) (Turned.of_below HB4.out (Nat.le_refl _) _) (fun i e => by
        rcases e with e | e
        · exact ⟨.inl e, Nat.lt_of_lt_of_le (HWE.out.kin i e) HB4.out.size⟩
        · exact ⟨.inr (by omega), by rw [e]; exact HA4.out.lt⟩))
      have HDO := Lib.hid (HW4.out.act (by have := HK.out; omega) (by have := HK.out; omega) (by omega) (by omega) (n := 343) (by rw [HK.out]; decide) (by omega) y HY.out)
      obtain ⟨bi, hbi⟩ : ∃ bi : Bool, bi = decide (in8 k y) := ⟨_, rfl⟩
      have HBI := Lib.hid hbi
      have z0 : w4.cell? ⟨b4, 0, none⟩ = some (.int .u8 y.k) := HA4.out.cell 0
      have z1 : w4.cell? ⟨b4, 1, none⟩ = some (.int .i64 y.s) := HA4.out.cell 1
      have z2 : w4.cell? ⟨b4, 2, none⟩ = some (.int .u32 (U y.v)) := HA4.out.cell 2
      clear y0 y1 y2 hbi hb4 HWE
      simp only [Act.put]
      go_cut [12] (fun s12 wx => s12 = .bool bi ∧ wx = w4)
      case first =>
        have h3 : (¬ (0 ≤ y.s)) ∨ (0 ≤ y.s ∧ ¬ (y.s < (S : Int))) ∨ (0 ≤ y.s ∧ y.s < (S : Int)) := by omega
        rcases h3 with h | ⟨h, h'⟩ | ⟨h, h'⟩
        · obtain rfl : bi = false := by rw [HBI.out]; exact decide_eq_false (fun e => h e.1)
          go_wp2
          go_meet
          exact ⟨rfl, rfl⟩
        · obtain rfl : bi = false := by rw [HBI.out]; exact decide_eq_false (fun e => h' (by rw [← HSEC.out]; exact e.2))
          go_wp2
          go_meet
          exact ⟨rfl, rfl⟩
        · obtain rfl : bi = true := by rw [HBI.out]; exact decide_eq_true ⟨h, by rw [HSEC.out]; exact h'⟩
          go_wp2
          go_meet
          exact ⟨rfl, rfl⟩
      case rest =>
        obtain ⟨rfl, hwx⟩ := hcut
        obtain rfl := hwx.symm
        go_upto_region 17 with (first
          | (go_at_call 16; (with_reducible refine HDO.out.mono ?_); rintro e w5 ⟨rr, d5, x5, V5, rfl, s5, hc5, t5⟩; have S5 := Lib.hid s5; have HC5 := Lib.hid hc5; have T5 := Lib.hid t5; clear s5 hc5 t5))
        have HA5 : Hid (At w5 bt 27 (wdC p q)) := Lib.hid ((HA.out.kept (Turned.of_below HB4.out (Nat.le_refl _) NoBlock) (fun h => h)).kept T5.out (fun e => e.2 (.inl (.inl rfl))))
        have HP5 : Hid (At w5 b4 40 (a8C y)) := Lib.hid (HA4.out.kept T5.out (fun e => e.2 (.inr rfl)))
        have HROW5 : Hid (w5.ownsRow w.heap.size 44 4 (.slice A1 S cap1) S (vls V S)) := Lib.hid (Theirs.own_turned (Theirs.own_turned HROW.out (Turned.of_below HB4.out (Nat.le_refl _) NoBlock) (fun _ _ h => h)) T5.out (fun r e h => h.2 (.inl (.inr e))))
        have B4 := HB.out.trans (HB4.out.mono HB.out.size)
        have B5 := Lib.hid (B4.trans (mayB_below T5.out B4.size))
        clear z0 z1 z2 HDO HA HROW HA4 HB4 HB HW4 T5 B4
        rcases HC5.out with ⟨hin, rfl, rfl⟩ | ⟨hin, rfl, rfl⟩ | ⟨hin, rfl, rfl, hnt⟩
        · obtain rfl : bi = false := by rw [HBI.out]; exact decide_eq_false hin
          have HW7 := Lib.hid (S5.out.less (K' := KV (Just bt) (.slice A1 S cap1)) (fun i e => .inl e))
          clear hin HC5
          go_wp2_with fail
          go_roundw
          case rel => exact ⟨j + 1, d5, x5, V5, by omega, by go_num, HW7.out.grow (by omega) (by omega), HV.out, HA5.out, HROW5.out, B5.out⟩
          case measure => simp [intOf]; omega
        · obtain rfl : bi = true := by rw [HBI.out]; exact decide_eq_true hin
          obtain ⟨q0, q1, q2, q3, hz⟩ : ∃ q0 q1 q2 q3 : BitVec 32, v8 y = [q0, q1, q2, q3] := by
            unfold v8
            split
            · exact ⟨_, _, _, _, rfl⟩
            · exact ⟨_, _, _, _, rfl⟩
          have VA := fun W => value8_any y HY.out W
          rw [hz] at VA
          have HVA := Lib.hid VA
          have HVP : Hid (vls (putV V y.s [q0, q1, q2, q3]) S = vls (val8 k y V) S) := Lib.hid (by rw [← hz]; exact vls_put k S V y (by rw [HSEC.out]; exact Int.le_refl _) (by rw [HSEC.out]; omega))
          have PU := Lib.hid (fun W (hW : Below w5.heap.size w5 W) => put8_any ((own_vals HV.out HROW5.out).kept hW) (by omega) y.s q0 q1 q2 q3)
          have l0 : ∀ W, Below w5.heap.size w5 W → W.cell? ⟨b4, 0, none⟩ = some (.int .u8 y.k) := fun W hW => (HP5.out.kept (Turned.of_below hW (Nat.le_refl _) NoBlock) (fun h => h)).cell 0
          have l1 : ∀ W, Below w5.heap.size w5 W → W.cell? ⟨b4, 1, none⟩ = some (.int .i64 y.s) := fun W hW => (HP5.out.kept (Turned.of_below hW (Nat.le_refl _) NoBlock) (fun h => h)).cell 1
          have l2 : ∀ W, Below w5.heap.size w5 W → W.cell? ⟨b4, 2, none⟩ = some (.int .u32 (U y.v)) := fun W hW => (HP5.out.kept (Turned.of_below hW (Nat.le_refl _) NoBlock) (fun h => h)).cell 2
          have HV5 := Lib.hid (fun n => val8_len k y V HV.out n)
          clear VA hz hin HC5
          go_wp2_with fail
          go_region_held3 (fun W => Below w5.heap.size w5 W) (first | assumption | exact (Below.refl _ w5).drew) (first
            | (go_at_call 18; (refine (HVA.out _).mono ?_); rintro e v6 ⟨rfl, hb⟩; have S6 := Below.trans (by assumption) (hb.mono (Below.size (by assumption))); clear hb)
            | (go_at_call 17; (refine (PU.out _ (by assumption)).mono ?_); rintro e v7 ⟨vr, rfl, hrow7, hb⟩; have HR7 : Hid (v7.ownsRow w5.heap.size 44 4 vr S (vls (val8 k y V) S)) := Lib.hid (by rw [← HVP.out]; exact own_lower hrow7 (Below.size (by assumption))); have S7 := Below.trans (by assumption) (hb.mono (Below.size (by assumption))); clear hb hrow7))
          have S7 : Below w5.heap.size w5 v7 := by assumption
          have HB7 := Lib.hid S7
          have HW7 : Hid (WelW w.heap.size p f q s1 k (KV (Just bt) vr) ((j + 1 : Nat) : Int) (1000 + 1100000 * ((j + 1 : Nat) : Int)) E (val8 k y V) v7 d5 x5) := Lib.hid ((S5.out.move (K' := KV (Just bt) vr) (S := NoBlock) (fun _ e => e.elim) (Turned.of_below HB7.out (Nat.le_refl _) _) (fun i e => by
            rcases e with e | e
            · exact ⟨.inl (.inl (.inl e)), by have := HA5.out.lt; have := HB7.out.size; rw [show i = bt from e]; omega⟩
            · exact ⟨.inr (HR7.out.lt i e).1, (HR7.out.lt i e).2⟩)).grow (by omega) (by omega))
          have HA7 : Hid (At v7 bt 27 (wdC p q)) := Lib.hid (HA5.out.kept (Turned.of_below HB7.out (Nat.le_refl _) NoBlock) (fun h => h))
          have B7 := Lib.hid (B5.out.trans (HB7.out.mono B5.out.size))
          have HR7 : Hid (v7.ownsRow w.heap.size 44 4 vr S (vls (val8 k y V) S)) := Lib.hid (own_lower HR7.out B5.out.size)
          clear S7 l0 l1 l2 PU HVA HVP HROW5 HA5 HP5 S5 HB7 B5
          go_wp2_with fail
          go_roundw
          case rel => exact ⟨j + 1, d5, x5, val8 k y V, by omega, by go_num, HW7.out, HV5.out, HA7.out, HR7.out, B7.out⟩
          case measure => simp [intOf]; omega
        · obtain rfl : bi = true := by rw [HBI.out]; exact decide_eq_true hin
          have RT := Lib.hid S5.out.retired
          have HW7 := Lib.hid (S5.out.less (K' := KV (Just bt) (.slice A1 S cap1)) (fun i e => .inl e))
          obtain ⟨nt, hnte⟩ : ∃ nt : Nat, nt = nTrue x5.ret 64 := ⟨_, rfl⟩
          rw [← hnte] at RT hnt
          have hnt' : ((nt : Int) == 0) = false := by rw [beq_eq_false_iff_ne]; omega
          clear hin HC5 hnte hnt
          go_wp2_with (first
            | (go_at_call 22; (with_reducible refine RT.out.mono ?_); rintro e w6 ⟨rfl, hw⟩; obtain rfl := hw.symm))
          go_roundw
          case rel => exact ⟨j + 1, d5, x5, V5, by omega, by go_num, HW7.out.grow (by omega) (by omega), HV.out, HA5.out, HROW5.out, B5.out⟩
          case measure => simp [intOf]; omega
    · obtain rfl : j = n := by omega
      have VA := HWE.out.values (by have := HK.out; omega) HV.out
      unfold ValsW at VA
      rw [← HS.out] at VA
      have HVA := Lib.hid VA
      clear VA
      go_upto_region 24 with (first
        | (go_at_call 20; (with_reducible refine HVA.out.mono ?_); rintro e v9 ⟨vv, d9, x9, rfl, hrow9, hw9, t9⟩; have HROW9 := Lib.hid hrow9; have HW9 := Lib.hid hw9; have T9 := Lib.hid t9; clear hrow9 hw9 t9))
      have HA9 : Hid (At v9 bt 27 (wdC p q)) := Lib.hid (HA.out.kept T9.out (fun e => e.2 (.inl rfl)))
      have HRV9 : Hid (v9.ownsRow w.heap.size 44 4 (.slice A1 S cap1) S (vls V S)) := Lib.hid (Theirs.own_turned HROW.out T9.out (fun r e h => h.2 (.inr e)))
      have B9 := Lib.hid (HB.out.trans (mayB_below T9.out HB.out.size))
      obtain ⟨A9, cap9, rfl, R9⟩ := own_readsV HV.out HROW9.out
      have SA := Lib.hid (same8_any R9 (own_vals HV.out HRV9.out) (by omega))
      have HW9' := Lib.hid (HW9.out.less (K' := KV (Just bt) (.slice A1 S cap1)) (fun i e => .inl e))
      have CN := Lib.hid (fun W (hW : Below v9.heap.size v9 W) => (HW9'.out.below hW).counts (by have := HK.out; omega))
      have hk6 : ((k : Int) != 6) = false := by rw [HK.out]; rfl
      clear R9 HROW9 HW9 T9 HVA HWE HA HROW HB
      go_upto_region 26 with (first
        | (go_at_call 21; (with_reducible refine SA.out.mono ?_); rintro e v10 ⟨rfl, hb10⟩; have HB10 := Lib.hid hb10; clear hb10)
        | (go_at_call 28; (with_reducible refine (CN.out _ HB10.out).mono ?_); rintro e v11 ⟨gc, rfl, ⟨d11, x11, hw11⟩, t11⟩; have HW11 := Lib.hid hw11; have T11 := Lib.hid t11; clear hw11 t11))
      have tb := Turned.of_below HB10.out (Nat.le_refl _) NoBlock
      have HA11 : Hid (At v11 bt 27 (wdC p q)) := Lib.hid ((HA9.out.kept tb (fun h => h)).kept T11.out (fun e => e.2 (.inl rfl)))
      have HRV11 := Lib.hid (Theirs.own_turned (Theirs.own_turned HRV9.out tb (fun _ _ h => h)) T11.out (fun r e h => h.2 (.inr e)))
      have B10 := B9.out.trans (HB10.out.mono B9.out.size)
      have B11 := Lib.hid (B10.trans (mayB_below T11.out B10.size))
      have MO := Lib.hid (HW11.out.mount (by have := HK.out; omega) (by have := HK.out; omega) (by omega))
      obtain ⟨s8, hs8⟩ : ∃ s8, s8 = v11.heap.size := ⟨_, rfl⟩
      rw [← hs8] at MO
      have c1 : v11.cell? ⟨bt, 1, none⟩ = some (.pointer (some ⟨q, 0, none⟩)) := HA11.out.cell 1
      clear hs8 tb B10 CN SA T11 HW9' HA9 HRV9 hk6
      go_upto_region 27 with (first
        | (go_at_call 19; (with_reducible refine MO.out.mono ?_); rintro e v12 ⟨rfl, ⟨d12, x12, hw12⟩, t12⟩; have HW12 := Lib.hid hw12; have T12 := Lib.hid t12; clear hw12 t12))
      have HRV12 := Lib.hid (Theirs.own_turned HRV11.out T12.out (fun r e h => h.2 (.inr e)))
      have B12 := Lib.hid (B11.out.trans (mayB_below T12.out B11.out.size))
      have VA2 := HW12.out.values (by have := HK.out; omega) HV.out
      unfold ValsW at VA2
      rw [← HS.out] at VA2
      have HVA2 := Lib.hid VA2
      clear VA2 c1 MO HA11 HRV11 T12
      go_upto_region 30 with (first
        | (go_at_call 20; (with_reducible refine HVA2.out.mono ?_); rintro e v13 ⟨vw, d13, x13, rfl, hrow13, hw13, t13⟩; have HROW13 := Lib.hid hrow13; have T13 := Lib.hid t13; clear hrow13 hw13 t13))
      have HRV13 : Hid (v13.ownsRow w.heap.size 44 4 (.slice A1 S cap1) S (vls V S)) := Lib.hid (Theirs.own_turned HRV12.out T13.out (fun r e h => h.2 (.inr e)))
      have B13 := Lib.hid (B12.out.trans (mayB_below T13.out B12.out.size))
      obtain ⟨A13, cap13, rfl, R13⟩ := own_readsV HV.out HROW13.out
      have SA := Lib.hid (same8_any R13 (own_vals HV.out HRV13.out) (by omega))
      clear R13 HROW13 T13 HVA2 HRV12
      go_wp2_with (first
        | (go_at_call 21; (with_reducible refine SA.out.mono ?_); rintro e v14 ⟨rfl, hb14⟩; have HB14 := Lib.hid hb14; clear hb14))
      go_ret
      exact ⟨rfl, B13.out.trans (HB14.out.mono B13.out.size)⟩
end Go.Proofs.YtnfgpjfldgocaaaGreat
