import Derived.Test.YtnfgpjfldgocaaaGreatFtlL
import Derived.Test.YtnfgpjfldgocaaaGreatFtlWalk3
import Derived.Test.YtnfgpjfldgocaaaGreatFtlOp
namespace Go.Proofs.YtnfgpjfldgocaaaGreat
section
open Go.RowKit Bm Go.Shelf
section
variable {B p f q s k g : Nat} {K : Nat -> Prop} {Q W T E : Int} {V V' : BitVec 32 -> List (BitVec 32)} {d d' : DrvM} {x : StoM} {w w' : World}
theorem Dv.mount (h : Dv B p f q k K d w) (ok : DrvOk k d) (k5 : 5 <= k) (hk : k <= 19) (hu : d.f.chip.up = true) (t0 : 0 <= d.t) (t1 : d.t <= 80000000000000) :
  Calls Tryz.prog 19 #[.pointer (some ⟨q, 0, none⟩)] w (OpenOut B p f q w.heap.size k K (mRep k (dLook d) (x0 d.f.chip.ws)) w) :=
 topMount_any (openM_any h ok k5 (by omega) hu (fun g W hs => hs.repair (look_calm ok) hk (by unfold dLook; split <;> exact t0) (by unfold dLook; split <;> exact t1)))
theorem mRep_ticks (d : DrvM) (x : StoM) : d.t <= (mRep k d x).1.t /\ (mRep k d x).1.t <= d.t + 100 * (k : Int) + 100 := by
 have h := fix_ticks (List.range k) d x
 rw [List.length_range] at h
 unfold mRep
 split
 ·omega
 ·unfold mTail
  split
  ·dsimp only
   omega
  ·cases ht : tailB (mFix d x (List.range k)).2.1 with
   | none =>
     rw [mTl_none ht]
     dsimp only
     omega
   | some b =>
     rw [mTl_some ht]
     have := mRenew_ticks (mFix d x (List.range k)).1 (mFix d x (List.range k)).2.1 b
     omega
structure WelF (B p f q s k : Nat) (K : Nat -> Prop) (Q W T E : Int) (V : BitVec 32 -> List (BitVec 32)) (w : World) (d : DrvM) (x : StoM) : Prop where
 sto : ∃ g, Sto B p f q s k g K d x w
 fit : Fit False k Q W d x
 left : 0 <= d.f.chip.left
 endure : d.f.chip.endure = E
 t0 : 0 <= d.t
 t1 : d.t <= T
 val : ∀ n : BitVec 32, Val x.bs n = V n
structure Down (B p f q k : Nat) (K : Nat -> Prop) (Q W T E : Int) (V : BitVec 32 -> List (BitVec 32)) (w : World) (d : DrvM) : Prop where
 dv : Dv B p f q k K d w
 ok : DrvOk k d
 rest : Rest k Q W d.f.chip V
 endure : d.f.chip.endure = E
 t0 : 0 <= d.t
 t1 : d.t <= T
theorem WelF.move {K' : Nat -> Prop} (h : WelF B p f q s k K Q W T E V w d x) {S : Nat -> Prop} (hb : ∀ i, S i -> K i) (t : Turned S w w') (hK : ∀ i, K' i -> (K i \/ w.heap.size <= i) /\ i < w'.heap.size) : WelF B p f q s k K' Q W T E V w' d x := by
 obtain ⟨⟨g, hs⟩, h2, h3, h4, h5, h6, h7⟩ := h
 exact ⟨⟨g, hs.move h2.sys.live.ok.calm.job hb t hK⟩, h2, h3, h4, h5, h6, h7⟩
theorem WelF.kin (h : WelF B p f q s k K Q W T E V w d x) (i : Nat) (hi : K i) : i < w.heap.size := by
 obtain ⟨⟨g, hs⟩, _⟩ := h
 exact hs.kin i hi
theorem WelF.grow {Q' W' T' : Int} (h : WelF B p f q s k K Q W T E V w d x) (hQ : Q <= Q') (hW : W <= W') (hT : T <= T') : WelF B p f q s k K Q' W' T' E V w d x := by
 obtain ⟨hs, hf, hl, he, h0, h1, hv⟩ := h
 exact ⟨hs, ⟨hf.sys, hf.head, hf.ret, hf.off, hf.un, hf.sec, fun p hp => by have := hf.seq p hp; omega, hf.emp, fun b => by have := hf.wear b; omega, hf.cw, hf.en⟩, hl, he, h0, by omega, hv⟩
theorem WelF.of (h : Well False B p f q s k K Q W T E V w d x) : WelF B p f q s k K Q W T E V w d x := ⟨h.sto, h.fit, by rw [h.left]; exact Int.le_refl 0, h.endure, h.t0, h.t1, h.val⟩
theorem WelF.dv (h : WelF B p f q s k K Q W T E V w d x) : Dv B p f q k K d w := by
 obtain ⟨⟨g, hs⟩, _⟩ := h
 exact hs.dv.less fun i e => .inl e
theorem Down.move {K' : Nat -> Prop} (h : Down B p f q k K Q W T E V w d) {S : Nat -> Prop} (hb : ∀ i, S i -> K i) (t : Turned S w w') (hK : ∀ i, K' i -> (K i \/ w.heap.size <= i) /\ i < w'.heap.size) : Down B p f q k K' Q W T E V w' d :=
 ⟨h.dv.move h.ok.calm.job hb t hK, h.ok, h.rest, h.endure, h.t0, h.t1⟩
theorem Down.grow {Q' W' T' : Int} (h : Down B p f q k K Q W T E V w d) (hQ : Q <= Q') (hW : W <= W') (hT : T <= T') : Down B p f q k K Q' W' T' E V w d :=
 ⟨h.dv, h.ok, h.rest.weaken hQ hW, h.endure, h.t0, by have := h.t1; omega⟩
theorem Fit.toRest {C : Prop} (h : Fit C k Q W d x) : Rest k Q W d.f.chip (Val x.bs) := by
 have hv : viewOf k d.f.chip.ws = x.bs := by rw [h.sys.view]
 obtain ⟨b, hb, he⟩ := h.emp
 exact ⟨by rw [hv]; exact h.un, by rw [hv]; exact h.sec, by rw [hv]; exact h.seq, h.wear, h.en, fun s => by rw [hv], fun j hj => .inl (by rw [<- view_N (k := k) hj, hv]; exact h.head j hj), .inl ⟨b, hb, by rw [hv]; exact noneed_empty (fun i hi => empty_none he i hi), by rw [hv]; exact h.head⟩⟩
theorem Rest.vals {c : ChipM} (h : Rest k Q W c V) (e : ∀ s, V s = V' s) : Rest k Q W c V' := ⟨h.un, h.sec, h.seq, h.wear, h.en, fun s => (h.val s).trans (e s), h.safe, h.mode⟩
inductive Acted8 (B p f q s k : Nat) (K : Nat -> Prop) (Q W T E : Int) (V : BitVec 32 -> List (BitVec 32)) (a : Act8) (w : World) (e : Ending) (w' : World) : Prop
 | none (d : DrvM) (x : StoM) : ¬ in8 k a -> e = .returned (.int .i64 10) -> WelF B p f q s k K Q W T E V w' d x -> Turned (May B K) w w' -> Acted8 B p f q s k K Q W T E V a w e w'
 | done (d : DrvM) (x : StoM) : in8 k a -> e = .returned (.int .i64 0) -> WelF B p f q s k K Q W T E (val8 k a V) w' d x -> Turned (May B K) w w' -> Acted8 B p f q s k K Q W T E V a w e w'
 | cut (d : DrvM) (V' : BitVec 32 -> List (BitVec 32)) : in8 k a -> e = .returned (.int .i64 4) -> Down B p f q k K Q W T E V' w' d -> (V' = V \/ V' = val8 k a V) -> Turned (May B K) w w' -> Acted8 B p f q s k K Q W T E V a w e w'
theorem WelF.act (h : WelF B p f q s k K Q W T E V w d x) (k5 : 5 <= k) (hk : k <= 19) (hQ : Q < 2147483647) (hQ0 : 0 <= Q) (hW : W + ((8 * k : Nat) : Int) < E) (hT : T <= 70000000000000) (a : Act8) (ha : A8Ok a) :
  Calls Tryz.prog 16 #[.pointer (some ⟨s, 0, none⟩), .agg #[.int .u8 a.k, .int .i64 a.s, .int .u32 (U a.v)]] w (Acted8 B p f q s k K (Q + 1) (W + ((8 * k : Nat) : Int)) (T + 3000 * ((8 * k : Nat) + 1)) E V a w) := by
 obtain ⟨⟨g, hs⟩, hf, hl, he, h0, h1, hv⟩ := h
 have hok := hf.sys.live.ok
 by_cases hin : in8 k a
 ·obtain ⟨i0, i1⟩ := hin
  obtain ⟨n, hn⟩ : ∃ n : Nat, a.s = (n : Int) := ⟨a.s.toNat, by omega⟩
  have hn2 : a.s.toNat = n := by omega
  have hn5 : n < 512 := by unfold secs at i1; omega
  have hbeg := hf.begin (by omega) i0 i1
  have ec := look_chip hf.sys.live
  have hs2 : U (BitVec.ofNat 32 n) = (n : Int) := U_ofNat n (by omega)
  obtain ⟨R, hadd, hact⟩ := Fit.addF (C := False) k5 (pg := { pg8 a with s := BitVec.ofNat 32 n }) (pg8_ok a n hn5) (by show U (BitVec.ofNat 32 n) < _; rw [hs2]; unfold secs at i1; omega) hQ hQ0 (8 * k) hf.look (by rw [ec]; exact hl) (by rw [ec, he]; exact hW) (by omega)
  have htk := addTo_ticks hk hadd
  rw [look_t] at htk
  have hnew : ∀ m, newV { pg8 a with s := BitVec.ofNat 32 n } (Val x.bs) m = val8 k a V m := fun m => by
   unfold newV val8
   rw [hn2, hv]
   show (if m = BitVec.ofNat 32 n then valOf.d4OfM (pg8 a) else V m) = _
   rw [pg8_words]
   by_cases hm : m = BitVec.ofNat 32 n
   ·rw [if_pos hm, if_pos ⟨⟨i0, i1⟩, hm⟩]
   ·rw [if_neg hm, if_neg (fun e => hm e.2)]
  have hR : 0 <= R.2.2 /\ R.2.2 <= 100 := by
   cases hact with
   | done e _ _ _ _ => rw [e]; exact ⟨Int.le_refl 0, by decide⟩
   | was e _ => rw [e]; exact ⟨by decide, by decide⟩
   | would e _ => rw [e]; exact ⟨by decide, by decide⟩
  refine (hs.do8 hok hk (by omega) a ha (n := 8 * k) (R := R) (fun _ => ?_) (fun _ => hR) h0 (by omega)).mono ?_
  ·rw [hbeg, hn2]
   exact hadd
  ·rintro e w1 ⟨rfl, hs1, t1⟩
   have hchg : mChg k d x a.s R = mNote R := by
    unfold mChg
    rw [hbeg, if_pos rfl]
   rw [hchg] at hs1 ⊢
   have hE : (dLook d).f.chip.endure = E := by rw [ec]; exact he
   cases hact with
   | done g1 g2 g3 g4 g5 =>
     have hnote : mNote R = R := by
      obtain ⟨r1, ⟨r2, r3, r4⟩, r5⟩ := R
      have := g2.off
      simp only at g1 this
      subst g1 this
      rfl
     rw [hnote] at hs1 ⊢
     refine .done R.1 R.2.1 ⟨i0, i1⟩ (by rw [g1]) ⟨hs1, g2, g4, g5.trans hE, by omega, by omega, fun m => (g3 m).trans (hnew m)⟩ t1
   | was g1 g2 =>
     obtain ⟨g3, hs3⟩ := hs1
     refine .cut R.1 V ⟨i0, i1⟩ (by show Ending.returned (.int .i64 R.2.2) = _; rw [g1]) ⟨hs3.dv.less (fun i e => .inl e), g2.ok, g2.rest.vals hv, g2.endure.trans hE, by omega, by omega⟩ (.inl rfl) t1
   | would g1 g2 =>
     obtain ⟨g3, hs3⟩ := hs1
     refine .cut R.1 (val8 k a V) ⟨i0, i1⟩ (by show Ending.returned (.int .i64 R.2.2) = _; rw [g1]) ⟨hs3.dv.less (fun i e => .inl e), g2.ok, g2.rest.vals hnew, g2.endure.trans hE, by omega, by omega⟩ (.inr rfl) t1
 ·have hout : a.s < 0 \/ secs k <= a.s := by unfold in8 at hin; omega
  have hbeg : mBegin k d x a.s = (d, x, 10) := if_pos hout
  have hchg : mChg k d x a.s (d, x, 0) = (d, x, 10) := by
   unfold mChg
   rw [hbeg]
   exact if_neg (show ¬ ((10 : Int) = 0) by decide)
  refine (hs.do8 hok hk (by omega) a ha (n := 0) (R := (d, x, 0)) (fun h => ?_) (fun _ => ⟨Int.le_refl 0, by show (0 : Int) <= 100; decide⟩) h0 (by omega)).mono ?_
  ·rw [hbeg] at h
   exact absurd h (show ¬ ((10 : Int) = 0) by decide)
  ·rintro e w1 ⟨rfl, hs1, t1⟩
   rw [hchg] at hs1 ⊢
   exact .none d x hin rfl (WelF.grow ⟨hs1, hf, hl, he, h0, h1, hv⟩ (by omega) (by omega) (by omega)) t1
theorem StK.cut {m : FlashM} (s : StK B p f K m w) (ok : FlashOk k m) :
  Calls Tryz.prog 25 #[.pointer (some ⟨p, 0, none⟩)] w (StKOut B p f K { m with chip := mCut m.chip } (.tuple #[]) w) := by
 obtain ⟨⟨h, rfl, rfl, x, ho⟩, hs, hk⟩ := s
 have a := ok.chip.wears
 have c := ok.chip.k1
 refine (cut_any h.c m.chip w x.chip (by omega)).mono ?_
 rintro e w' ⟨rfl, hc, t⟩
 exact ⟨rfl, ⟨⟨h, rfl, rfl, x.chipTo t hc, ho⟩, Nat.le_trans hs t.size, fun i hi => Nat.lt_of_lt_of_le (hk i hi) t.size⟩, t.mono fun i _ e => ho i (.inl e)⟩
theorem Down.cut (h : Down B p f q k K Q W T E V w d) :
  Calls Tryz.prog 25 #[.pointer (some ⟨p, 0, none⟩)] w fun e w' => e = .returned (.tuple #[]) /\ (∃ d', Down B p f q k K Q W T E V w' d') /\ Turned (May B K) w w' := by
 refine (h.dv.st.cut h.ok.ok).mono ?_
 rintro e w' ⟨rfl, s', t⟩
 exact ⟨rfl, ⟨⟨{ d.f with chip := mCut d.f.chip }, d.t⟩, ⟨s', h.dv.own.kept t (fun h => h.2 (.inr rfl)), h.dv.qB⟩, ⟨h.ok.ok.chipTo _ h.ok.ok.chip.cut, ⟨h.ok.calm.job, h.ok.calm.wait, h.ok.calm.errors⟩⟩, h.rest.as rfl rfl rfl, h.endure, h.t0, h.t1⟩, may_less t (fun i h => .inl h)⟩
theorem WelF.down (h : WelF B p f q s k K Q W T E V w d x) : Down B p f q k K Q W T E V w d := ⟨h.dv, h.fit.sys.live.ok, h.fit.toRest.vals h.val, h.endure, h.t0, h.t1⟩
structure Fresh8 (B p f q k : Nat) (K : Nat -> Prop) (Q W E : Int) (V : BitVec 32 -> List (BitVec 32)) (w : World) (d : DrvM) : Prop where
 down : Down B p f q k K Q W 0 E V w d
 live : Live k d
 left : 0 <= d.f.chip.left
theorem Down.again (h : Down B p f q k K Q W T E V w d) (q0 : Nat) :
  Calls Tryz.prog 26 #[.agg #[.pointer (some ⟨p, 0, none⟩), .pointer (some ⟨q0, 0, none⟩)]] w fun e w' => ∃ f' q' d', e = .returned (.tuple #[.agg #[.pointer (some ⟨p, 0, none⟩), .pointer (some ⟨q', 0, none⟩)], .bool true]) /\ Fresh8 B p f' q' k K Q W E V w' d' /\ d'.f.chip.left = 0 /\ Turned (May B K) w w' := by
 refine (again_any q0 h.dv h.ok).mono ?_
 rintro e w' ⟨f', q', rfl, hd, t⟩
 have hok : DrvOk k ⟨fNew (mOn d.f.chip), 0⟩ := ⟨FlashOk.new h.ok.ok.chip.on, ⟨rfl, rfl, rfl⟩⟩
 exact ⟨f', q', _, rfl, ⟨⟨hd, hok, h.rest.as rfl rfl rfl, h.endure, Int.le_refl 0, Int.le_refl 0⟩, ⟨hok, rfl, lk_none⟩, Int.le_refl 0⟩, rfl, t⟩
theorem Fresh8.move {K' : Nat -> Prop} (h : Fresh8 B p f q k K Q W E V w d) {S : Nat -> Prop} (hb : ∀ i, S i -> K i) (t : Turned S w w') (hK : ∀ i, K' i -> (K i \/ w.heap.size <= i) /\ i < w'.heap.size) : Fresh8 B p f q k K' Q W E V w' d := ⟨h.down.move hb t hK, h.live, h.left⟩
theorem Fresh8.fuse (h : Fresh8 B p f q k K Q W E V w d) (n : Int) (v : BitVec 32) (n1 : n <= 9223372036854775807) :
  Calls Tryz.prog 24 #[.pointer (some ⟨p, 0, none⟩), .int .i64 n, .int .u32 (U v)] w fun e w' => e = .returned (.tuple #[]) /\ (∃ d', Fresh8 B p f q k K Q W E V w' d') /\ Turned (May B K) w w' := by
 have hd := h.down
 refine (hd.dv.st.fuse hd.ok.ok n v).mono ?_
 rintro e w' ⟨rfl, s', t⟩
 have hok : DrvOk k ⟨{ d.f with chip := mFuse d.f.chip n v }, d.t⟩ := ⟨hd.ok.ok.chipTo _ (hd.ok.ok.chip.fuse n v n1), ⟨hd.ok.calm.job, hd.ok.calm.wait, hd.ok.calm.errors⟩⟩
 exact ⟨rfl, ⟨⟨{ d.f with chip := mFuse d.f.chip n v }, d.t⟩, ⟨⟨s', hd.dv.own.kept t (fun h => h.2 (.inr rfl)), hd.dv.qB⟩, hok, hd.rest.as rfl rfl rfl, hd.endure, hd.t0, hd.t1⟩, ⟨hok, h.live.up, h.live.free⟩, by show 0 <= max n 0; omega⟩, may_less t (fun i h => .inl h)⟩
inductive Mounted8 (B p f q s k : Nat) (K : Nat -> Prop) (Q W E : Int) (V : BitVec 32 -> List (BitVec 32)) (left : Int) (w : World) (e : Ending) (w' : World) : Prop
 | done (d : DrvM) (x : StoM) : e = .returned (.tuple #[.pointer (some ⟨s, 0, none⟩), .int .i64 0]) -> WelF B p f q s k K Q W 1000000 E V w' d x -> Turned (May B K) w w' -> Mounted8 B p f q s k K Q W E V left w e w'
 | cut (d : DrvM) : left ≠ 0 -> e = .returned (.tuple #[.pointer none, .int .i64 4]) -> Down B p f q k K Q W 1000000 E V w' d -> d.f.chip.up = false -> Turned (May B K) w w' -> Mounted8 B p f q s k K Q W E V left w e w'
theorem Fresh8.mount (h : Fresh8 B p f q k K Q W E V w d) (k5 : 5 <= k) (hk : k <= 19) (hW : W < E) :
  Calls Tryz.prog 19 #[.pointer (some ⟨q, 0, none⟩)] w (Mounted8 B p f q w.heap.size k K Q (W + 1) E V d.f.chip.left w) := by
 have hd := h.down
 have ht0 := hd.t0
 have ht1 := hd.t1
 have htk := mRep_ticks (k := k) (dLook d) (x0 d.f.chip.ws)
 rw [look_t] at htk
 have hm := hd.rest.mount h.live (by omega) (by rw [hd.endure]; exact hW) h.left
 refine (hd.dv.mount hd.ok k5 hk h.live.up ht0 (by omega)).mono ?_
 rintro e w' ⟨he, ⟨g, hs⟩, t⟩
 cases hm with
 | done g1 g2 g3 g4 g5 =>
   rw [g1] at he
   exact .done _ _ he ⟨⟨g, hs⟩, g2, g4, g5.trans hd.endure, by omega, by omega, g3⟩ t
 | cut g0 g1 g2 =>
   rw [g1] at he
   exact .cut _ g0 he ⟨hs.dv.less (fun i e => .inl e), g2.ok, g2.rest, g2.endure.trans hd.endure, by omega, by omega⟩ g2.up t
theorem WelF.fuse (h : WelF B p f q s k K Q W T E V w d x) (n : Int) (v : BitVec 32) (n1 : n <= 9223372036854775807) :
  Calls Tryz.prog 24 #[.pointer (some ⟨p, 0, none⟩), .int .i64 n, .int .u32 (U v)] w fun e w' => e = .returned (.tuple #[]) /\ (∃ d', WelF B p f q s k K Q W T E V w' d' x /\ (n = 0 -> Well False B p f q s k K Q W T E V w' d' x)) /\ Turned (May B K) w w' := by
 obtain ⟨⟨g, hs⟩, hf, hl, he, h0, h1, hv⟩ := h
 have hok := hf.sys.live.ok
 refine (hs.dv.st.fuse hok.ok n v).mono ?_
 rintro e w' ⟨rfl, s', t⟩
 have hok' : DrvOk k ⟨{ d.f with chip := mFuse d.f.chip n v }, d.t⟩ := ⟨hok.ok.chipTo _ (hok.ok.chip.fuse n v n1), ⟨hok.calm.job, hok.calm.wait, hok.calm.errors⟩⟩
 have hsys : Sys k ⟨{ d.f with chip := mFuse d.f.chip n v }, d.t⟩ x := ⟨⟨hok', hf.sys.live.up, hf.sys.live.free⟩, hf.sys.view⟩
 have hfit : Fit False k Q W ⟨{ d.f with chip := mFuse d.f.chip n v }, d.t⟩ x := ⟨hsys, hf.head, hf.ret, hf.off, hf.un, hf.sec, hf.seq, hf.emp, hf.wear, fun hC => hC.elim, hf.en⟩
 have hsto : Sto B p f q s k g K ⟨{ d.f with chip := mFuse d.f.chip n v }, d.t⟩ x w' := ⟨⟨s', hs.dv.own.kept t (fun h => h.2 (.inr rfl)), hs.dv.qB⟩, hs.own.kept t (fun h => h.2 (.inl (.inr (.inl rfl)))), hs.row.kept t (fun h => h.2 (.inl (.inr (.inr rfl)))), hs.ok, hs.ret, hs.len, hs.k2, hs.sB, hs.gB⟩
 refine ⟨rfl, ⟨⟨{ d.f with chip := mFuse d.f.chip n v }, d.t⟩, ⟨⟨g, hsto⟩, hfit, by show 0 <= max n 0; omega, he, h0, h1, hv⟩, fun hn => ⟨⟨g, hsto⟩, hfit, ?_, he, h0, h1, hv⟩⟩, may_less t (fun i h => .inl (.inl h))⟩
 show max n 0 = 0
 omega
end
end
section
open Go.ChangeShapes Go.WideShapes Go.ChangeAt Go.RowKit Bm
structure ReadsM8 (w : World) (A : Option Addr) (n cap : Nat) (ms : List Int) : Prop where
 len : ms.length = n
 le : n <= cap
 max : cap <= maxLen
 cell : 0 < n -> ∃ ad, A = some ad /\ ad.block < w.heap.size /\ ∀ j, j < n -> w.cell? (ad.add j) = some (.int .u8 (nm ms j)) /\ 0 <= nm ms j /\ nm ms j <= 255
structure LifeM where
 A : Option Addr
 n : Nat
 cap : Nat
 acts : List Act8
 fuse : Int
 pick : BitVec 32
 MA : Option Addr
 mn : Nat
 mcap : Nat
 ms : List Int
 deriving Inhabited
def lfC (x : LifeM) : List Value := [.slice x.A x.n x.cap, .int .u8 x.fuse, .int .u32 (U x.pick), .slice x.MA x.mn x.mcap]
structure LifeOk (w : World) (x : LifeM) : Prop where
 f0 : 0 <= x.fuse
 f1 : x.fuse <= 255
 acts : ReadsA8 w x.A x.n x.cap x.acts
 mounts : ReadsM8 w x.MA x.mn x.mcap x.ms
structure ReadsL8 (w : World) (A : Option Addr) (n cap : Nat) (xs : List LifeM) : Prop where
 len : xs.length = n
 le : n <= cap
 max : cap <= maxLen
 cell : 0 < n -> ∃ g off, A = some ⟨g, off, none⟩ /\ g < w.heap.size /\ ∀ j x, xs[j]? = some x -> LifeOk w x /\ w.rangeAt g (off + j * 4) (lfC x)
section
variable {w w' : World} {A : Option Addr} {n cap : Nat} {ms : List Int} {xs : List LifeM} {x : LifeM}
theorem ReadsM8.kept (h : ReadsM8 w A n cap ms) (hB : Below w.heap.size w w') : ReadsM8 w' A n cap ms :=
 ⟨h.len, h.le, h.max, fun hn => by
  obtain ⟨ad, e, hlt, hc⟩ := h.cell hn
  exact ⟨ad, e, Nat.lt_of_lt_of_le hlt hB.size, fun j hj => ⟨(hB.cell (p := ad.add j) (by unfold Addr.add; split <;> exact hlt)).trans (hc j hj).1, (hc j hj).2⟩⟩⟩
theorem LifeOk.kept (h : LifeOk w x) (hB : Below w.heap.size w w') : LifeOk w' x := ⟨h.f0, h.f1, h.acts.kept hB, h.mounts.kept hB⟩
theorem ReadsL8.kept (h : ReadsL8 w A n cap xs) (hB : Below w.heap.size w w') : ReadsL8 w' A n cap xs :=
 ⟨h.len, h.le, h.max, fun hn => by
  obtain ⟨g, off, e, hlt, hc⟩ := h.cell hn
  exact ⟨g, off, e, Nat.lt_of_lt_of_le hlt hB.size, fun j x hx => ⟨(hc j x hx).1.kept hB, range_kept (hc j x hx).2 (hB.block g hlt)⟩⟩⟩
theorem ReadsL8.at_ (h : ReadsL8 w A n cap xs) {j : Nat} (hj : j < n) : ∃ g off x, A = some ⟨g, off, none⟩ /\ LifeOk w x /\ xs[j]? = some x /\ w.rangeAt g (off + j * 4) (lfC x) := by
 obtain ⟨g, off, e, _, hc⟩ := h.cell (by omega)
 have hl := h.len
 have hx : xs[j]? = some xs[j] := List.getElem?_eq_getElem (by omega)
 obtain ⟨h1, h2⟩ := hc j _ hx
 exact ⟨g, off, xs[j], e, h1, hx, h2⟩
end
section
variable {H : Type} {enc : TypeId × Value -> H} {W : World}
set_option maxRecDepth 100000 in
theorem acts_of {fuel : Nat} {c : Value} {D : DataW H × List MemPlace} (hf : DataW.trod enc Tryz.prog W 0 (fun _ => true) true fuel 22 [c] = some D) :
  ∃ A n cap xs, c = .slice A n cap /\ ReadsA8 W A n cap xs := by
 rcases Go.Deep.open_slice Tryz.underlying22 hf with ⟨hc, _⟩ | ⟨a, n, cap, m, fu, D, Pl, hc, _, hle, hmx, hm, _, hi⟩
 ·simp only [List.cons.injEq, and_true] at hc
  subst hc
  exact ⟨none, 0, 0, [], rfl, rfl, Nat.le_refl _, Nat.zero_le _, fun h => absurd h (by omega)⟩
 ·skip
  simp only [List.cons.injEq, and_true] at hc
  subst hc
  simp only [if_true] at hm
  have hC : Tryz.prog.cellsOf 40 = 3 := by kernel_rfl
  have key : ∀ j, j < n -> ∃ x : Act8, A8Ok x /\ ∀ i v, (a8C x)[i]? = some v -> W.cell? (a.add (j * 3 + i)) = some v := by
   intro j hj
   obtain ⟨cs', hcs, ht⟩ := hi j (by omega)
   rw [hC] at hcs
   obtain ⟨xs, n', _, _, hlen, hxl, hfl⟩ := DataW.trod_struct Tryz.underlying40 ht
   rw [hC] at hlen
   obtain ⟨_, _, hat⟩ := World.cells?_some hcs
   match cs', hlen with
   | [c0, c1, c2], _ =>
     have h0 := hfl 0 _ rfl
     have h1 := hfl 1 _ rfl
     have h2 := hfl 2 _ rfl
     have one0 : Tryz.prog.cellsOf 5 = 1 := by kernel_rfl
     have one1 : Tryz.prog.cellsOf 3 = 1 := by kernel_rfl
     have one2 : Tryz.prog.cellsOf 38 = 1 := by kernel_rfl
     have xl : xs.length = 3 := hxl
     simp only [List.getElem_toArray, List.getElem_cons_zero, List.getElem_cons_succ, one0, one1, one2] at h0 h1 h2
     obtain ⟨z0, rfl, w0⟩ := slot_int8 Tryz.underlying5 rfl h0 (by simp [xl])
     obtain ⟨z1, rfl, w1⟩ := slot_int8 Tryz.underlying3 rfl h1 (by simp [xl])
     obtain ⟨z2, rfl, w2⟩ := slot_int8 Tryz.underlying38 rfl h2 (by simp [xl])
     have b2 := bounds_u32 w2
     obtain ⟨vv, hvv⟩ := U_of b2.1 (by omega)
     refine ⟨⟨z0, z1, vv⟩, ⟨(bounds_u8 w0).1, (bounds_u8 w0).2, (bounds_i64 w1).1, by have := (bounds_i64 w1).2; omega⟩, fun i v hv => ?_⟩
     have hlt : i < 3 := (List.getElem?_eq_some_iff.1 hv).1
     rw [<- Go.Deep.add_add]
     refine (hat i hlt).trans ?_
     rw [hvv]
     exact hv
  refine ⟨some a, n, cap, (List.range n).map fun j => if h : j < n then (key j h).choose else default, rfl, by simp, hle, hmx, fun hn => ?_⟩
  ·have g := (key 0 hn).choose_spec.2 0 _ rfl
   have ha : a = ⟨a.block, a.off, none⟩ := no_spot8 (W := W) (by simpa [Addr.add] using g)
   refine ⟨a.block, a.off, congrArg some ha, ?_, ?_⟩
   ·have := World.block_lt_of_cell? W _ g
    revert this
    unfold Addr.add
    simp
   ·intro j x hx
    have hj : j < n := by
     have := (List.getElem?_eq_some_iff.1 hx).1
     simpa using this
    have e : x = (key j hj).choose := by
     rw [List.getElem?_map, List.getElem?_range hj] at hx
     simp only [Option.map_some, Option.some.injEq] at hx
     rw [dif_pos hj] at hx
     exact hx.symm
    rw [e]
    refine ⟨(key j hj).choose_spec.1, ?_⟩
    intro i v hv
    have := (key j hj).choose_spec.2 i v hv
    rw [ha] at this
    rw [Nat.add_assoc]
    unfold Addr.add at this
    split at this
    ·rename_i h0; rw [h0, Nat.add_zero]; exact this
    ·exact this
set_option maxRecDepth 100000 in
theorem bytes_of {fuel : Nat} {c : Value} {D : DataW H × List MemPlace} (hf : DataW.trod enc Tryz.prog W 0 (fun _ => true) true fuel 52 [c] = some D) :
  ∃ A n cap ms, c = .slice A n cap /\ ReadsM8 W A n cap ms := by
 rcases Go.ChangeShapes.open_ints Tryz.underlying52 Tryz.underlying5 (by kernel_rfl) hf with ⟨hc, _⟩ | ⟨a, n, cap', zs, hc, _, hle, hmx, hlen, _, hcell, hwf⟩
 ·simp only [List.cons.injEq, and_true] at hc
  subst hc
  exact ⟨none, 0, 0, [], rfl, rfl, Nat.le_refl _, Nat.zero_le _, fun h => absurd h (by omega)⟩
 ·simp only [List.cons.injEq, and_true] at hc
  subst hc
  simp only [if_true] at hlen
  refine ⟨some a, n, cap', zs.take n, rfl, by rw [List.length_take]; omega, hle, hmx, fun hn => ⟨a, rfl, ?_, fun j hj => ?_⟩⟩
  ·have g := hcell 0 (by omega)
   have := World.block_lt_of_cell? W _ g
   revert this
   unfold Addr.add
   simp
  ·have hx : j < zs.length := by omega
   have hz : nm (zs.take n) j = zs[j] := by
    unfold nm
    rw [List.getD_eq_getElem?_getD, List.getElem?_take_of_lt hj, List.getElem?_eq_getElem hx]
    rfl
   have hw := bounds_u8 (hwf zs[j] (List.getElem_mem hx))
   rw [hz, hcell j (by omega)]
   refine ⟨?_, hw.1, hw.2⟩
   simp [List.getD, hx]
set_option maxRecDepth 100000 in
theorem open_Lives {base : Nat} {v : Value} {d : DataW H} {p : List MemPlace} (hval : Value.okWide Tryz.prog W .any base 50 v) (h : DataW.Trod enc Tryz.prog W 0 (fun _ => true) true 50 v d p) :
  ∃ A n cap xs, v = .slice A n cap /\ ReadsL8 W A n cap xs := by
 obtain ⟨A, n, cap, rfl⟩ := okWide_slice Tryz.underlying50 hval
 obtain ⟨fuel, hf⟩ := h
 refine ⟨A, n, cap, ?_⟩
 rcases Go.Deep.open_slice Tryz.underlying50 hf with ⟨hc, _⟩ | ⟨a, len, cap', m, fu, D, Pl, hc, _, hle, hmx, hm, _, hi⟩
 ·simp only [Value.cells, List.cons.injEq, Value.slice.injEq, and_true] at hc
  obtain ⟨rfl, rfl, rfl⟩ := hc
  exact ⟨[], rfl, rfl, Nat.le_refl _, Nat.zero_le _, fun h => absurd h (by omega)⟩
 ·simp only [Value.cells, List.cons.injEq, Value.slice.injEq, and_true] at hc
  obtain ⟨rfl, rfl, rfl⟩ := hc
  simp only [if_true] at hm
  have hC : Tryz.prog.cellsOf 54 = 4 := by kernel_rfl
  have key : ∀ j, j < n -> ∃ x : LifeM, LifeOk W x /\ ∀ i v, (lfC x)[i]? = some v -> W.cell? (a.add (j * 4 + i)) = some v := by
   intro j hj
   obtain ⟨cs', hcs, ht⟩ := hi j (by omega)
   rw [hC] at hcs
   obtain ⟨xs, n', _, _, hlen, hxl, hfl⟩ := DataW.trod_struct Tryz.underlying54 ht
   rw [hC] at hlen
   obtain ⟨_, _, hat⟩ := World.cells?_some hcs
   match cs', hlen with
   | [c0, c1, c2, c3], _ =>
     have h0 := hfl 0 _ rfl
     have h1 := hfl 1 _ rfl
     have h2 := hfl 2 _ rfl
     have h3 := hfl 3 _ rfl
     have one0 : Tryz.prog.cellsOf 22 = 1 := by kernel_rfl
     have one1 : Tryz.prog.cellsOf 5 = 1 := by kernel_rfl
     have one2 : Tryz.prog.cellsOf 38 = 1 := by kernel_rfl
     have one3 : Tryz.prog.cellsOf 52 = 1 := by kernel_rfl
     have xl : xs.length = 4 := hxl
     simp only [List.getElem_toArray, List.getElem_cons_zero, List.getElem_cons_succ, one0, one1, one2, one3] at h0 h1 h2 h3
     obtain ⟨z1, rfl, w1⟩ := slot_int8 Tryz.underlying5 rfl h1 (by simp [xl])
     obtain ⟨z2, rfl, w2⟩ := slot_int8 Tryz.underlying38 rfl h2 (by simp [xl])
     obtain ⟨D0, hD0⟩ := Option.isSome_iff_exists.1 (show (xs[0]?).isSome = true by simp [xl])
     obtain ⟨D3, hD3⟩ := Option.isSome_iff_exists.1 (show (xs[3]?).isSome = true by simp [xl])
     obtain ⟨A0, n0, cap0, acs, e0, r0⟩ := acts_of (c := c0) (h0.trans hD0)
     obtain ⟨A3, n3, cap3, ms, e3, r3⟩ := bytes_of (c := c3) (h3.trans hD3)
     have b2 := bounds_u32 w2
     obtain ⟨vv, hvv⟩ := U_of b2.1 (by omega)
     refine ⟨⟨A0, n0, cap0, acs, z1, vv, A3, n3, cap3, ms⟩, ⟨(bounds_u8 w1).1, (bounds_u8 w1).2, r0, r3⟩, fun i v hv => ?_⟩
     have hlt : i < 4 := (List.getElem?_eq_some_iff.1 hv).1
     rw [<- Go.Deep.add_add]
     refine (hat i hlt).trans ?_
     rw [hvv, e0, e3]
     exact hv
  refine ⟨(List.range n).map fun j => if h : j < n then (key j h).choose else default, rfl, by simp, hle, hmx, fun hn => ?_⟩
  ·have g := (key 0 hn).choose_spec.2 0 _ rfl
   have ha : a = ⟨a.block, a.off, none⟩ := no_spot8 (W := W) (by simpa [Addr.add] using g)
   refine ⟨a.block, a.off, congrArg some ha, ?_, ?_⟩
   ·have := World.block_lt_of_cell? W _ g
    revert this
    unfold Addr.add
    simp
   ·intro j x hx
    have hj : j < n := by
     have := (List.getElem?_eq_some_iff.1 hx).1
     simpa using this
    have e : x = (key j hj).choose := by
     rw [List.getElem?_map, List.getElem?_range hj] at hx
     simp only [Option.map_some, Option.some.injEq] at hx
     rw [dif_pos hj] at hx
     exact hx.symm
    rw [e]
    refine ⟨(key j hj).choose_spec.1, ?_⟩
    intro i v hv
    have := (key j hj).choose_spec.2 i v hv
    rw [ha] at this
    rw [Nat.add_assoc]
    unfold Addr.add at this
    split at this
    ·rename_i h0; rw [h0, Nat.add_zero]; exact this
    ·exact this
end
end
section
open Go.RowKit Bm Go.Shelf
theorem lf_size : (Tryz.prog.info? 54).map (·.size) = some 4 := by kernel_rfl
def lfZ : List Value := [.slice none 0 0, .int .u8 0, .int .u32 0, .slice none 0 0]
theorem lf_one (x : LifeM) : ∀ u ∈ lfC x, u.oneCell' = true := by
 intro u hu
 simp only [lfC, List.mem_cons, List.not_mem_nil, or_false] at hu
 rcases hu with rfl | rfl | rfl | rfl <;> rfl
theorem len_acts8 (A : Option Addr) (n cap : Nat) (W : World) : (Builtin.len_ #[22] 3 #[Value.slice A n cap]).run Tryz.prog W = .ok (.int .i64 n) W := by
 cases A <;> simp [Builtin.len_, go_sem]
theorem len_bytes8 (A : Option Addr) (n cap : Nat) (W : World) : (Builtin.len_ #[52] 3 #[Value.slice A n cap]).run Tryz.prog W = .ok (.int .i64 n) W := by
 cases A <;> simp [Builtin.len_, go_sem]
section
variable {w w' : World} {A A' : Option Addr} {n cap cap' : Nat} {ys zs : Nat -> List (BitVec 32)}
def SomeB (w : World) (e : Ending) (w' : World) : Prop := (∃ b : Bool, e = .returned (.bool b)) /\ Below w.heap.size w w'
def Light8 (n : Nat) (xs : List LifeM) (w : World) (e : Ending) (w' : World) : Prop := (∃ b : Bool, e = .returned (.bool b) /\ (b = false -> n <= 5 /\ ∀ (j : Nat) (x : LifeM), xs[j]? = some x -> x.n <= 60 /\ x.mn <= 4)) /\ Below w.heap.size w w'
set_option maxRecDepth 100000 in
set_option maxHeartbeats 2000000 in
theorem heavy8_any (xs : List LifeM) (h : ReadsL8 w A n cap xs) : Calls Tryz.prog 23 #[.slice A n cap] w (Light8 n xs w) := by
 have hle := h.le
 have hmx := h.max
 unfold maxLen at hmx
 have HR := Lib.hid h
 have LA := len_acts8
 have LB := len_bytes8
 have HLA := Lib.hid LA
 have HLB := Lib.hid LB
 clear h LA LB
 go_enter Tryz.func23, Tryz.ntmps23
 go_wp2
 go_loopw [7] (fun i wr => ∃ j : Nat, j <= n /\ i = .int .i64 j /\ Below w.heap.size w wr /\ ∀ (i : Nat) (x : LifeM), i < j -> xs[i]? = some x -> x.n <= 60 /\ x.mn <= 4) (fun i _ => n - (intOf i).toNat)
 case atStart => exact ⟨0, by omega, rfl, Below.refl _ _, fun i x h => by omega⟩
 case round =>
  obtain ⟨j, hj, rfl, hb, hl⟩ := hrel
  have HB := Lib.hid hb
  have HL := Lib.hid hl
  clear hb hl
  by_cases hlt : j < n
  ·have j0 : (0 : Int) <= (j : Int) := by omega
   have j1 : (j : Int) < (n : Int) := by omega
   obtain ⟨g, off, x, rfl, hx, hxs, hr⟩ := (HR.out.kept HB.out).at_ hlt
   have HRR := Lib.hid hr
   have HXS := Lib.hid hxs
   clear hx hr hxs
   go_upto_region 4 with (first
    | (refine wpList_ldr _ rfl rfl rfl Tryz.underlying54 rfl lf_size rfl HRR.out ?_)
    | (refine wpList_stm (pre := []) (post := []) (xs := lfZ) (ys := lfC x) _ _ rfl rfl rfl rfl lf_size rfl rfl (lf_one x) rfl (by simp) (At.news wr _ lfZ) ?_; intro w4 A4 T4; rw [List.nil_append, List.append_nil] at A4; have HA4 := Lib.hid A4; have HB4 : Hid (Below wr.heap.size wr w4) := Lib.hid (((Below.refl _ wr).alloc (Nat.le_refl _) _).trans (T4.below (fun i hi => by unfold Just at hi; omega) (by simp))); clear A4 T4))
   obtain ⟨b4, hb4⟩ : ∃ b4, b4 = wr.heap.size := ⟨_, rfl⟩
   rw [<- hb4] at HA4 ⊢
   clear hb4
   obtain ⟨xA, xn, xcap, xacts, fu, pi, xM, mn, mcap, ms⟩ := x
   have z0 : w4.cell? ⟨b4, 0, none⟩ = some (.slice xA xn xcap) := HA4.out.cell 0
   have z3 : w4.cell? ⟨b4, 3, none⟩ = some (.slice xM mn mcap) := HA4.out.cell 3
   have LA := HLA.out xA xn xcap
   have LB := HLB.out xM mn mcap
   have HB2 := Lib.hid (HB.out.trans (HB4.out.mono HB.out.size))
   by_cases h1 : 60 < xn
   ·have e1 : (60 : Int) < (xn : Int) := by omega
    go_wp2_with fail
    go_ret
    exact ⟨⟨true, rfl, fun h => by cases h⟩, HB2.out⟩
   ·have e1 : ¬ ((60 : Int) < (xn : Int)) := by omega
    by_cases h2 : 4 < mn
    ·have e2 : (4 : Int) < (mn : Int) := by omega
     go_wp2_with fail
     go_ret
     exact ⟨⟨true, rfl, fun h => by cases h⟩, HB2.out⟩
    ·have e2 : ¬ ((4 : Int) < (mn : Int)) := by omega
     have H12 : Hid (xn <= 60 /\ mn <= 4) := Lib.hid ⟨by omega, by omega⟩
     clear h1 h2
     go_wp2_with fail
     go_roundw
     case rel => exact ⟨j + 1, by omega, by go_num, HB2.out, fun i x hi hx => by
      by_cases e : i = j
      ·subst e
       rw [HXS.out] at hx
       injection hx with hx
       subst hx
       exact H12.out
      ·exact HL.out i x (by omega) hx⟩
     case measure => simp [intOf]; omega
  ·obtain rfl : j = n := by omega
   have HLN := Lib.hid HR.out.len
   by_cases h5 : 5 < j
   ·have e5 : (5 : Int) < (j : Int) := by omega
    go_wp2
    go_ret
    exact ⟨⟨true, rfl, fun h => by cases h⟩, HB.out⟩
   ·have e5 : ¬ ((5 : Int) < (j : Int)) := by omega
    go_wp2
    go_ret
    exact ⟨⟨false, rfl, fun _ => ⟨by omega, fun i x hx => HL.out i x (by
     have := (List.getElem?_eq_some_iff.1 hx).1
     rw [HLN.out] at this
     exact this) hx⟩⟩, HB.out⟩
set_option maxRecDepth 100000 in
set_option maxHeartbeats 2000000 in
theorem same8_some (h1 : ReadsV w A n cap ys) (h2 : ReadsV w A' n cap' zs) (hn : n <= 1000) : Calls Tryz.prog 21 #[.slice A n cap, .slice A' n cap'] w (SomeB w) := by
 have H1 := Lib.hid h1
 have H2 := Lib.hid h2
 clear h1 h2
 go_enter Tryz.func21, Tryz.ntmps21
 go_wp2
 go_loopw [5] (fun i wr => ∃ j : Nat, j <= n /\ i = .int .i64 j /\ Below w.heap.size w wr) (fun i _ => n - (intOf i).toNat)
 case atStart => exact ⟨0, by omega, rfl, Below.refl _ _⟩
 case round =>
  obtain ⟨j, hj, rfl, hb⟩ := hrel
  have HB := Lib.hid hb
  clear hb
  by_cases hlt : j < n
  ·have j0 : (0 : Int) <= (j : Int) := by omega
   have j1 : (j : Int) < (n : Int) := by omega
   have hn' : (n : Int) <= 1000 := by omega
   obtain ⟨g, rfl, _, hc⟩ := (H1.out.kept HB.out).cell (by omega)
   obtain ⟨g', rfl, _, hc'⟩ := (H2.out.kept HB.out).cell (by omega)
   have r1 := hc j hlt
   have r2 := hc' j hlt
   have h4 := H1.out.four j hlt
   have h5 := H2.out.four j hlt
   obtain ⟨y0, y1, y2, y3, hyy⟩ : ∃ a b c e, ys j = [a, b, c, e] := by
    generalize ys j = l at h4
    match l, h4 with
    | [a, b, c, e], _ => exact ⟨a, b, c, e, rfl⟩
   obtain ⟨z0, z1, z2, z3, hzz⟩ : ∃ a b c e, zs j = [a, b, c, e] := by
    generalize zs j = l at h5
    match l, h5 with
    | [a, b, c, e], _ => exact ⟨a, b, c, e, rfl⟩
   rw [hyy] at r1
   rw [hzz] at r2
   have a0 : wr.cell? ⟨g, j * 4, none⟩ = some (.int .u32 (U y0)) := r1 0 _ rfl
   have a1 : wr.cell? ⟨g, j * 4 + 1, none⟩ = some (.int .u32 (U y1)) := r1 1 _ rfl
   have a2 : wr.cell? ⟨g, j * 4 + 2, none⟩ = some (.int .u32 (U y2)) := r1 2 _ rfl
   have a3 : wr.cell? ⟨g, j * 4 + 3, none⟩ = some (.int .u32 (U y3)) := r1 3 _ rfl
   have b0 : wr.cell? ⟨g', j * 4, none⟩ = some (.int .u32 (U z0)) := r2 0 _ rfl
   have b1 : wr.cell? ⟨g', j * 4 + 1, none⟩ = some (.int .u32 (U z1)) := r2 1 _ rfl
   have b2 : wr.cell? ⟨g', j * 4 + 2, none⟩ = some (.int .u32 (U z2)) := r2 2 _ rfl
   have b3 : wr.cell? ⟨g', j * 4 + 3, none⟩ = some (.int .u32 (U z3)) := r2 3 _ rfl
   have HBN : Hid (∀ nq, Below w.heap.size w (wr.drewN nq)) := Lib.hid (fun nq => HB.out.trans ((below_drewN wr.heap.size wr nq).mono HB.out.size))
   clear hc hc' r1 r2 h4 h5 hyy hzz
   go_upto_region 6 with (fail)
   by_cases e0 : U y0 = U z0
   ·by_cases e1 : U y1 = U z1
    ·by_cases e2 : U y2 = U z2
     ·by_cases e3 : U y3 = U z3
      ·rw [e0] at a0
       rw [e1] at a1
       rw [e2] at a2
       rw [e3] at a3
       clear e0 e1 e2 e3
       go_quiet (fail)
       rename_i nq _
       go_wp2_with fail
       go_roundw
       case rel => exact ⟨j + 1, by omega, by go_num, HBN.out _⟩
       case measure => simp [intOf]; omega
      ·have f3 : (U y3 == U z3) = false := by rw [beq_eq_false_iff_ne]; exact e3
       rw [e0] at a0
       rw [e1] at a1
       rw [e2] at a2
       clear e0 e1 e2 e3
       go_quiet (fail)
       go_wp2_with fail
       go_ret
       exact ⟨⟨_, rfl⟩, HBN.out _⟩
     ·have f3 : (U y2 == U z2) = false := by rw [beq_eq_false_iff_ne]; exact e2
      rw [e0] at a0
      rw [e1] at a1
      clear e0 e1 e2
      go_quiet (fail)
      go_wp2_with fail
      go_ret
      exact ⟨⟨_, rfl⟩, HBN.out _⟩
    ·have f3 : (U y1 == U z1) = false := by rw [beq_eq_false_iff_ne]; exact e1
     rw [e0] at a0
     clear e0 e1
     go_quiet (fail)
     go_wp2_with fail
     go_ret
     exact ⟨⟨_, rfl⟩, HBN.out _⟩
   ·have f3 : (U y0 == U z0) = false := by rw [beq_eq_false_iff_ne]; exact e0
    clear e0
    go_quiet (fail)
    go_wp2_with fail
    go_ret
    exact ⟨⟨_, rfl⟩, HBN.out _⟩
  ·obtain rfl : j = n := by omega
   go_wp2
   go_ret
   exact ⟨⟨_, rfl⟩, HB.out⟩
end
end
end Go.Proofs.YtnfgpjfldgocaaaGreat
