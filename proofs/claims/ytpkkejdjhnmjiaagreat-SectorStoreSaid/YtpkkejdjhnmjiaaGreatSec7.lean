import Derived.Test.YtpkkejdjhnmjiaaGreatV4
import Derived.BigRegion
import Derived.BigQuiet
import Derived.Deep.QuietTactic
import Derived.Deep.DeepCutAuto
import Derived.Deep.LoopGhost
import Derived.Deep.Light
import Derived.Test.YtpkkejdjhnmjiaaGreatHold
import Derived.Test.YtpkkejdjhnmjiaaGreatBuild
namespace Go.Proofs.YtpkkejdjhnmjiaaGreat
section
open Go.RowKit Bm
theorem at_stay {w w' : World} {b : Nat} {t : TypeId} {cs : List Value} (h : At w b t cs) (hB : Below w.heap.size w w') : At w' b t cs := h.kept (Turned.of_below hB (Nat.le_refl _) NoBlock) (fun h => h)
theorem own_keep {W W' : World} {base n k : Nat} {t : TypeId} {v : Value} {xs : List Value} (h : W.ownsRow base t k v n xs) (hb : Below W.heap.size W W') : W'.ownsRow base t k v n xs := own_turned h (Turned.of_below hb (Nat.le_refl _) NoBlock) (fun _ _ h => h)
structure MemM where
 l : List V4
 fail : Int
 left : Int
 deriving DecidableEq, Inhabited
def mFails (m : MemM) : MemM × Bool := if m.fail ≠ 0 /\ m.left = 0 then (m, true) else ({ m with left := wrap64 (m.left - 1) }, false)
def mHas (m : MemM) (i : Int) : Prop := 0 <= i /\ i < m.l.length
instance (m : MemM) (i : Int) : Decidable (mHas m i) := inferInstanceAs (Decidable (_ /\ _))
def mGet10 (m : MemM) (i : Int) : MemM × V4 × Int :=
 if (mFails m).2 = false /\ mHas m i then ((mFails m).1, vN m.l i.toNat, 0) else ((mFails m).1, v40, m.fail)
def mWrite (m : MemM) (i : Int) (v : V4) : MemM × Int :=
 if (mFails m).2 = false /\ mHas m i then ({ (mFails m).1 with l := m.l.set i.toNat v }, 0) else ((mFails m).1, m.fail)
theorem mFails_l (m : MemM) : (mFails m).1.l = m.l := by unfold mFails; split <;> rfl
theorem mFails_fail (m : MemM) : (mFails m).1.fail = m.fail := by unfold mFails; split <;> rfl
structure MemAt (base p : Nat) (A : Option Addr) (c : Nat) (m : MemM) (w : World) : Prop where
 at_ : At w p 49 [.slice A m.l.length c, .int .i64 m.fail, .int .i64 m.left]
 row : w.ownsRow base 43 4 (.slice A m.l.length c) m.l.length (v4K.all m.l)
 few : m.l.length <= 1000
 low : base <= p
section
variable {base p : Nat} {A : Option Addr} {c : Nat} {m : MemM} {w w' : World}
theorem MemAt.kept (h : MemAt base p A c m w) (hb : Below w.heap.size w w') : MemAt base p A c m w' := ⟨at_stay h.at_ hb, own_keep h.row hb, h.few, h.low⟩
theorem MemAt.reads (h : MemAt base p A c m w) : v4K.Reads w A m.l.length c m.l := by
 obtain ⟨A', c', e, hr, _⟩ := Kd.Reads.of_own (K := v4K) h.row rfl
 cases e
 exact hr
theorem own_apart {w w' : World} {base n k b : Nat} {t t' : TypeId} {v : Value} {xs cs : List Value} (h : w.ownsRow base t k v n xs) (hA : At w b t' cs) (hne : t ≠ t') (hT : Turned (Just b) w w') : w'.ownsRow base t k v n xs := by
 obtain ⟨hl, h⟩ := h
 refine ⟨hl, ?_⟩
 rcases h with h | ⟨g, cap, cur, rfl, hb, hg, h2⟩
 ·exact .inl h
 ·have hA' : At w g t cur.toList := by unfold At; simpa using hg
  exact .inr ⟨g, cap, cur, rfl, hb, (hT.block g (Array.getElem?_eq_some_iff.1 hg).1 (fun e => by unfold Just at e; exact hA'.ne (hA.as rfl) hne e)).trans hg, h2⟩
theorem own_small {w : World} {base n k cap g : Nat} {t : TypeId} {xs : List Value} {A : Option Addr} (h : w.ownsRow base t k (.slice A n cap) n xs) (e : A = some ⟨g, 0, none⟩) : g < w.heap.size /\ base <= g := by
 subst e
 rcases h.2 with ⟨e, _⟩ | ⟨g', cap', cur, e, hb, hg, _⟩
 ·cases e
 ·injection e with e1 _ _
  injection e1 with e1
  injection e1 with e1
  subst e1
  exact ⟨(Array.getElem?_eq_some_iff.1 hg).1, hb⟩
theorem own_turn {S : Nat -> Prop} {w w' : World} {base n k cap : Nat} {t : TypeId} {xs : List Value} {A : Option Addr} (h : w.ownsRow base t k (.slice A n cap) n xs) (hT : Turned S w w') (hS : ∀ g, A = some ⟨g, 0, none⟩ -> ¬ S g) : w'.ownsRow base t k (.slice A n cap) n xs := by
 obtain ⟨hl, h⟩ := h
 refine ⟨hl, ?_⟩
 rcases h with h | ⟨g, cap', cur, e, hb, hg, h2⟩
 ·exact .inl h
 ·injection e with e1 e2 e3
  subst e1 e3
  exact .inr ⟨g, cap, cur, rfl, hb, (hT.block g (Array.getElem?_eq_some_iff.1 hg).1 (hS g rfl)).trans hg, h2⟩
theorem MemAt.turn {S : Nat -> Prop} (h : MemAt base p A c m w) (hT : Turned S w w') (hp : ¬ S p) (hg : ∀ g, A = some ⟨g, 0, none⟩ -> ¬ S g) : MemAt base p A c m w' := ⟨h.at_.kept hT hp, own_turn h.row hT hg, h.few, h.low⟩
theorem MemAt.small (h : MemAt base p A c m w) : ∀ g, A = some ⟨g, 0, none⟩ -> g < w.heap.size := fun _ e => (own_small h.row e).1
def MemS (p : Nat) (A : Option Addr) : Nat -> Prop := fun k => k = p \/ A = some ⟨k, 0, none⟩
set_option maxRecDepth 100000 in
set_option maxHeartbeats 1000000 in
theorem mfails_any (h : MemAt base p A c m w) (_l0 : -9223372036854775808 <= m.left) (_l1 : m.left <= 9223372036854775807) :
  Calls Tryz.prog 175 #[.pointer (some ⟨p, 0, none⟩)] w fun e w' => e = .returned (.bool (mFails m).2) /\ MemAt base p A c (mFails m).1 w' /\ Turned (Just p) w w' := by
 have c1 : w.cell? ⟨p, 1, none⟩ = some (.int .i64 m.fail) := h.at_.cell 1
 have c2 : w.cell? ⟨p, 2, none⟩ = some (.int .i64 m.left) := h.at_.cell 2
 have f2 := h.at_.frozen 2
 have H := Lib.hid h
 clear h
 have hcase : ((m.fail != 0) = true /\ (m.left == 0) = true /\ mFails m = (m, true)) \/ ((m.fail != 0) = true /\ (m.left == 0) = false /\ mFails m = ({ m with left := wrap64 (m.left - 1) }, false)) \/ ((m.fail != 0) = false /\ mFails m = ({ m with left := wrap64 (m.left - 1) }, false)) := by
  unfold mFails
  by_cases h1 : m.fail = 0
  ·exact .inr (.inr ⟨by simp [h1], by rw [if_neg (by simp [h1])]⟩)
  ·by_cases h2 : m.left = 0
   ·exact .inl ⟨by simp [h1], by simp [h2], by rw [if_pos ⟨h1, h2⟩]⟩
   ·exact .inr (.inl ⟨by simp [h1], by simp [h2], by rw [if_neg (by simp [h2])]⟩)
 have fin : ∀ u : Int, MemAt base p A c { m with left := u } (w.setCell ⟨p, 2, none⟩ (.int .i64 u)) := fun u => ⟨(H.out.at_.put 2 _).as rfl, own_apart H.out.row H.out.at_ (by decide) (turned_set _ _ _ _), H.out.few, H.out.low⟩
 have FIN := Lib.hid fin
 clear fin
 rcases hcase with ⟨h1, h2, h3⟩ | ⟨h1, h2, h3⟩ | ⟨h1, h3⟩
 ·have H3 := Lib.hid h3
  clear h3
  go_enter Tryz.func175, Tryz.ntmps175
  go_wp2
  go_ret
  rw [H3.out]
  exact ⟨rfl, H.out, Turned.refl _ _⟩
 ·have H3 := Lib.hid h3
  clear h3
  go_enter Tryz.func175, Tryz.ntmps175
  go_wp2
  go_ret
  rw [H3.out]
  exact ⟨rfl, FIN.out _, turned_set _ _ _ _⟩
 ·have H3 := Lib.hid h3
  clear h3
  go_enter Tryz.func175, Tryz.ntmps175
  go_wp2
  go_ret
  rw [H3.out]
  exact ⟨rfl, FIN.out _, turned_set _ _ _ _⟩
theorem msize_any (h : MemAt base p A c m w) : Calls Tryz.prog 172 #[.pointer (some ⟨p, 0, none⟩)] w fun e w' => e = .returned (.int .i64 m.l.length) /\ w' = w := by
 have c0 : w.cell? ⟨p, 0, none⟩ = some (.slice A m.l.length c) := h.at_.cell 0
 go_enter Tryz.func172, Tryz.ntmps172
 go_wp2
 go_ret
 exact ⟨rfl, rfl⟩
theorem m_ways (m : MemM) (i : Int) : ((mFails m).2 = true /\ ¬ ((mFails m).2 = false /\ mHas m i)) \/ ((mFails m).2 = false /\ i < 0 /\ ¬ ((mFails m).2 = false /\ mHas m i)) \/ ((mFails m).2 = false /\ 0 <= i /\ ¬ i < (m.l.length : Int) /\ ¬ ((mFails m).2 = false /\ mHas m i)) \/ ((mFails m).2 = false /\ 0 <= i /\ i < (m.l.length : Int) /\ (mFails m).2 = false /\ mHas m i) := by
 unfold mHas
 cases (mFails m).2
 ·by_cases h1 : i < 0
  ·exact .inr (.inl ⟨rfl, h1, fun h => by omega⟩)
  ·by_cases h2 : i < (m.l.length : Int)
   ·exact .inr (.inr (.inr ⟨rfl, by omega, h2, rfl, by omega, h2⟩))
   ·exact .inr (.inr (.inl ⟨rfl, by omega, h2, fun h => by omega⟩))
 ·exact .inl ⟨rfl, fun h => by cases h.1⟩
set_option maxRecDepth 100000 in
set_option maxHeartbeats 2000000 in
theorem mread_any (h : MemAt base p A c m w) (l0 : -9223372036854775808 <= m.left) (l1 : m.left <= 9223372036854775807) (_hb : base <= w.heap.size) (i : Int) :
  Calls Tryz.prog 171 #[.pointer (some ⟨p, 0, none⟩), .int .i64 i] w fun e w' => e = .returned (.tuple #[.agg (v4C (mGet10 m i).2.1).toArray, .int .i64 (mGet10 m i).2.2]) /\ MemAt base p A c (mGet10 m i).1 w' /\ Turned (Just p) w w' := by
 obtain ⟨W0, hW0⟩ : ∃ W0, W0 = w.alloc (.cells #[.int .u32 0, .int .u32 0, .int .u32 0, .int .u32 0] 43) := ⟨_, rfl⟩
 have b0 : Below w.heap.size w W0 := by rw [hW0]; exact (Below.refl _ w).alloc (Nat.le_refl _) _
 have a0 : At W0 w.heap.size 43 (v4C v40) := by rw [hW0]; exact At.news w _ [.int .u32 0, .int .u32 0, .int .u32 0, .int .u32 0]
 have hf := mfails_any (h.kept b0) l0 l1
 obtain ⟨m1, hm1⟩ : ∃ m1, m1 = (mFails m).1 := ⟨_, rfl⟩
 obtain ⟨q, hq⟩ : ∃ q, q = (mFails m).2 := ⟨_, rfl⟩
 have hml : m1.l = m.l := by rw [hm1, mFails_l]
 have hmf : m1.fail = m.fail := by rw [hm1, mFails_fail]
 have hp := h.at_.lt
 have HSM := Lib.hid h.small
 have hr : mGet10 m i = if q = false /\ mHas m i then (m1, vN m.l i.toNat, 0) else (m1, v40, m.fail) := by rw [hq, hm1]; rfl
 have hw := m_ways m i
 rw [<- hq] at hw hf
 rw [<- hm1] at hf
 have HF := Lib.hid hf
 have HB0 := Lib.hid b0
 have HA0 := Lib.hid a0
 have HR := Lib.hid hr
 have HP := Lib.hid hp
 have HML := Lib.hid hml
 have HMF := Lib.hid hmf
 clear h b0 a0 hf hm1 hq hml hmf hp hr
 go_enter Tryz.func171, Tryz.ntmps171
 go_upto_region 1 with (fail)
 change Code.wp _ _ _ _ (w.alloc (.cells #[.int .u32 0, .int .u32 0, .int .u32 0, .int .u32 0] 43))
 rw [<- hW0]
 clear hW0
 have HFIN : Hid (∀ w1 V, MemAt base p A c m1 w1 -> Turned (Just p) W0 w1 -> Turned (Just w.heap.size) w1 V -> MemAt base p A c m1 V /\ Turned (Just p) w V) := Lib.hid (fun w1 V h1 h2 h3 => ⟨h1.turn h3 (fun e => by have := HP.out; unfold Just at e; omega) (fun g e e2 => by have := HSM.out g e; unfold Just at e2; omega), by
  have t1 := (Turned.of_below HB0.out (Nat.le_refl _) (Just p)).trans h2
  exact t1.after h3 (fun i hi e => by unfold Just at e; omega)⟩)
 rcases hw with ⟨rfl, h1⟩ | ⟨rfl, h2, h1⟩ | ⟨rfl, h2, h3, h1⟩ | ⟨rfl, h2, h3, h1⟩
 ·rw [if_neg h1] at HR
  clear h1
  go_upto_region 2 with (first
   | (go_at_call 175; (with_reducible refine HF.out.mono ?_); rintro e w1 ⟨rfl, hm, ht⟩; have HM := Lib.hid hm; have HT := Lib.hid ht; have g1 : w1.cell? ⟨p, 1, none⟩ = some (.int .i64 m1.fail) := hm.at_.cell 1; have g0 : w1.cell? ⟨p, 0, none⟩ = some (.slice A m1.l.length c) := hm.at_.cell 0; have ha := HA0.out.kept ht (fun e => by have := HP.out; unfold Just at e; omega); have HA1 := Lib.hid ha; clear hm ht ha))
  have k0 : w1.cell? ⟨w.heap.size, 0, none⟩ = some (.int .u32 0) := HA1.out.cell 0
  have k1 : w1.cell? ⟨w.heap.size, 1, none⟩ = some (.int .u32 0) := HA1.out.cell 1
  have k2 : w1.cell? ⟨w.heap.size, 2, none⟩ = some (.int .u32 0) := HA1.out.cell 2
  have k3 : w1.cell? ⟨w.heap.size, 3, none⟩ = some (.int .u32 0) := HA1.out.cell 3
  have f0 := HA1.out.frozen 0
  have f1 := HA1.out.frozen 1
  have f2 := HA1.out.frozen 2
  have f3 := HA1.out.frozen 3
  have np : p ≠ w.heap.size := by have := HP.out; omega
  have np' : w.heap.size ≠ p := by have := HP.out; omega
  go_region
  have a9 := ((((HA1.out.put 0 (.int .u32 0)).put 1 (.int .u32 0)).put 2 (.int .u32 0)).put 3 (.int .u32 0)).drew
  have t9 := ((((turned_set w1 w.heap.size 0 (.int .u32 0)).trans (turned_set _ _ 1 (.int .u32 0))).trans (turned_set _ _ 2 (.int .u32 0))).trans (turned_set _ _ 3 (.int .u32 0))).drew
  have fin := HFIN.out w1 _ HM.out HT.out t9
  have HN9 := Lib.hid fin
  have HA9 := Lib.hid a9
  clear a9 t9 fin k0 k1 k2 k3 f0 f1 f2 f3 g0 g1
  go_wp2
  refine bodyPost_ret (res_cell2 Tryz.results171 _ Tryz.underlying43 rfl v4_size rfl rfl HA9.out rfl) rfl ?_
  rw [HR.out, <- HMF.out]
  exact ⟨rfl, HN9.out⟩
 ·rw [if_neg h1] at HR
  clear h1
  go_upto_region 2 with (first
   | (go_at_call 175; (with_reducible refine HF.out.mono ?_); rintro e w1 ⟨rfl, hm, ht⟩; have HM := Lib.hid hm; have HT := Lib.hid ht; have g1 : w1.cell? ⟨p, 1, none⟩ = some (.int .i64 m1.fail) := hm.at_.cell 1; have g0 : w1.cell? ⟨p, 0, none⟩ = some (.slice A m1.l.length c) := hm.at_.cell 0; have ha := HA0.out.kept ht (fun e => by have := HP.out; unfold Just at e; omega); have HA1 := Lib.hid ha; clear hm ht ha))
  have k0 : w1.cell? ⟨w.heap.size, 0, none⟩ = some (.int .u32 0) := HA1.out.cell 0
  have k1 : w1.cell? ⟨w.heap.size, 1, none⟩ = some (.int .u32 0) := HA1.out.cell 1
  have k2 : w1.cell? ⟨w.heap.size, 2, none⟩ = some (.int .u32 0) := HA1.out.cell 2
  have k3 : w1.cell? ⟨w.heap.size, 3, none⟩ = some (.int .u32 0) := HA1.out.cell 3
  have f0 := HA1.out.frozen 0
  have f1 := HA1.out.frozen 1
  have f2 := HA1.out.frozen 2
  have f3 := HA1.out.frozen 3
  have np : p ≠ w.heap.size := by have := HP.out; omega
  have np' : w.heap.size ≠ p := by have := HP.out; omega
  go_region
  have a9 := ((((HA1.out.put 0 (.int .u32 0)).put 1 (.int .u32 0)).put 2 (.int .u32 0)).put 3 (.int .u32 0)).drew
  have t9 := ((((turned_set w1 w.heap.size 0 (.int .u32 0)).trans (turned_set _ _ 1 (.int .u32 0))).trans (turned_set _ _ 2 (.int .u32 0))).trans (turned_set _ _ 3 (.int .u32 0))).drew
  have fin := HFIN.out w1 _ HM.out HT.out t9
  have HN9 := Lib.hid fin
  have HA9 := Lib.hid a9
  clear a9 t9 fin k0 k1 k2 k3 f0 f1 f2 f3 g0 g1
  go_wp2
  refine bodyPost_ret (res_cell2 Tryz.results171 _ Tryz.underlying43 rfl v4_size rfl rfl HA9.out rfl) rfl ?_
  rw [HR.out, <- HMF.out]
  exact ⟨rfl, HN9.out⟩
 ·rw [<- HML.out] at h3
  rw [if_neg h1] at HR
  clear h1
  go_upto_region 2 with (first
   | (go_at_call 175; (with_reducible refine HF.out.mono ?_); rintro e w1 ⟨rfl, hm, ht⟩; have HM := Lib.hid hm; have HT := Lib.hid ht; have g1 : w1.cell? ⟨p, 1, none⟩ = some (.int .i64 m1.fail) := hm.at_.cell 1; have g0 : w1.cell? ⟨p, 0, none⟩ = some (.slice A m1.l.length c) := hm.at_.cell 0; have ha := HA0.out.kept ht (fun e => by have := HP.out; unfold Just at e; omega); have HA1 := Lib.hid ha; clear hm ht ha))
  have k0 : w1.cell? ⟨w.heap.size, 0, none⟩ = some (.int .u32 0) := HA1.out.cell 0
  have k1 : w1.cell? ⟨w.heap.size, 1, none⟩ = some (.int .u32 0) := HA1.out.cell 1
  have k2 : w1.cell? ⟨w.heap.size, 2, none⟩ = some (.int .u32 0) := HA1.out.cell 2
  have k3 : w1.cell? ⟨w.heap.size, 3, none⟩ = some (.int .u32 0) := HA1.out.cell 3
  have f0 := HA1.out.frozen 0
  have f1 := HA1.out.frozen 1
  have f2 := HA1.out.frozen 2
  have f3 := HA1.out.frozen 3
  have np : p ≠ w.heap.size := by have := HP.out; omega
  have np' : w.heap.size ≠ p := by have := HP.out; omega
  go_region
  have a9 := ((((HA1.out.put 0 (.int .u32 0)).put 1 (.int .u32 0)).put 2 (.int .u32 0)).put 3 (.int .u32 0)).drew
  have t9 := ((((turned_set w1 w.heap.size 0 (.int .u32 0)).trans (turned_set _ _ 1 (.int .u32 0))).trans (turned_set _ _ 2 (.int .u32 0))).trans (turned_set _ _ 3 (.int .u32 0))).drew
  have fin := HFIN.out w1 _ HM.out HT.out t9
  have HN9 := Lib.hid fin
  have HA9 := Lib.hid a9
  clear a9 t9 fin k0 k1 k2 k3 f0 f1 f2 f3 g0 g1
  go_wp2
  refine bodyPost_ret (res_cell2 Tryz.results171 _ Tryz.underlying43 rfl v4_size rfl rfl HA9.out rfl) rfl ?_
  rw [HR.out, <- HMF.out]
  exact ⟨rfl, HN9.out⟩
 ·rw [if_pos h1] at HR
  clear h1
  obtain ⟨j, rfl⟩ : ∃ j : Nat, i = (j : Int) := ⟨i.toNat, by omega⟩
  have hj : j < m.l.length := by omega
  rw [<- HML.out] at hj h3
  have HJ := Lib.hid hj
  clear hj
  go_upto_region 3 with (first
   | (go_at_call 175; (with_reducible refine HF.out.mono ?_); rintro e w1 ⟨rfl, hm, ht⟩; have HM := Lib.hid hm; have HT := Lib.hid ht; have g0 : w1.cell? ⟨p, 0, none⟩ = some (.slice A m1.l.length c) := hm.at_.cell 0; have ha := HA0.out.kept ht (fun e => by have := HP.out; unfold Just at e; omega); have HA1 := Lib.hid ha; clear hm ht ha))
  obtain ⟨g, off, rfl, _, hr⟩ := HM.out.reads.at_ HJ.out
  obtain ⟨v, hv⟩ : ∃ v, v = v4K.nth m1.l j := ⟨_, rfl⟩
  rw [<- hv] at hr
  have HV := Lib.hid hv
  have HRR := Lib.hid hr
  clear hv hr
  go_wp2_with (first
   | (refine wpList_ldr (xs := v4C v) _ rfl rfl rfl Tryz.underlying43 rfl v4_size (v4_len _) HRR.out ?_)
   | (refine wpList_stm (pre := []) (post := []) (xs := v4C v40) (ys := v4C v) _ _ rfl rfl rfl rfl v4_size (v4_len _) (v4_len _) (v4_one _) rfl (by simp) HA1.out ?_; intro V A9 T9; rw [List.nil_append, List.append_nil] at A9; have HA9 := Lib.hid A9; have HT9 := Lib.hid T9; clear A9 T9))
  have fin := HFIN.out w1 _ HM.out HT.out HT9.out
  refine bodyPost_ret (res_cell2 Tryz.results171 _ Tryz.underlying43 rfl v4_size rfl rfl HA9.out (v4_len _)) rfl ?_
  rw [HR.out]
  refine ⟨?_, fin⟩
  rw [HV.out, HML.out]
  rfl
set_option maxRecDepth 100000 in
set_option maxHeartbeats 2000000 in
theorem mwrite_any (h : MemAt base p A c m w) (l0 : -9223372036854775808 <= m.left) (l1 : m.left <= 9223372036854775807) (_hb : base <= w.heap.size) (i : Int) (v : V4) :
  Calls Tryz.prog 174 #[.pointer (some ⟨p, 0, none⟩), .int .i64 i, .agg (v4C v).toArray] w fun e w' => e = .returned (.int .i64 (mWrite m i v).2) /\ MemAt base p A c (mWrite m i v).1 w' /\ Turned (MemS p A) w w' := by
 obtain ⟨W0, hW0⟩ : ∃ W0, W0 = w.alloc (.cells (v4C v).toArray 43) := ⟨_, rfl⟩
 have b0 : Below w.heap.size w W0 := by rw [hW0]; exact (Below.refl _ w).alloc (Nat.le_refl _) _
 have a0 : At W0 w.heap.size 43 (v4C v) := by rw [hW0]; exact At.news w _ _
 have hf := mfails_any (h.kept b0) l0 l1
 obtain ⟨m1, hm1⟩ : ∃ m1, m1 = (mFails m).1 := ⟨_, rfl⟩
 obtain ⟨q, hq⟩ : ∃ q, q = (mFails m).2 := ⟨_, rfl⟩
 have hml : m1.l = m.l := by rw [hm1, mFails_l]
 have hmf : m1.fail = m.fail := by rw [hm1, mFails_fail]
 have hp := h.at_.lt
 have HSM := Lib.hid h.small
 have hr : mWrite m i v = if q = false /\ mHas m i then ({ m1 with l := m.l.set i.toNat v }, 0) else (m1, m.fail) := by rw [hq, hm1]; rfl
 have hw := m_ways m i
 rw [<- hq] at hw hf
 rw [<- hm1] at hf
 have HF := Lib.hid hf
 have HB0 := Lib.hid b0
 have HA0 := Lib.hid a0
 have HR := Lib.hid hr
 have HP := Lib.hid hp
 have HML := Lib.hid hml
 have HMF := Lib.hid hmf
 clear h b0 a0 hf hm1 hq hml hmf hp hr
 go_enter Tryz.func174, Tryz.ntmps174
 go_upto_region 1 with (fail)
 change Code.wp _ _ _ _ (w.alloc (.cells (v4C v).toArray 43))
 rw [<- hW0]
 clear hW0
 have HFIN : Hid (∀ w1, Turned (Just p) W0 w1 -> Turned (MemS p A) w w1) := Lib.hid (fun w1 h2 => ((Turned.of_below HB0.out (Nat.le_refl _) (Just p)).trans h2).mono (fun i _ e => .inl (by unfold Just at e; exact e)))
 rcases hw with ⟨rfl, h1⟩ | ⟨rfl, h2, h1⟩ | ⟨rfl, h2, h3, h1⟩ | ⟨rfl, h2, h3, h1⟩
 case inr.inr.inr =>
  rw [if_pos h1] at HR
  clear h1
  obtain ⟨j, rfl⟩ : ∃ j : Nat, i = (j : Int) := ⟨i.toNat, by omega⟩
  have hj : j < m.l.length := by omega
  rw [<- HML.out] at hj h3
  have HJ := Lib.hid hj
  clear hj
  go_upto_region 3 with (first
   | (go_at_call 175; (with_reducible refine HF.out.mono ?_); rintro e w1 ⟨rfl, hm, ht⟩; have HM := Lib.hid hm; have HT := Lib.hid ht; have g0 : w1.cell? ⟨p, 0, none⟩ = some (.slice A m1.l.length c) := hm.at_.cell 0; have ha := HA0.out.kept ht (fun e => by have := HP.out; unfold Just at e; omega); have HA1 := Lib.hid ha; clear hm ht ha))
  obtain ⟨g, rfl, hg, hgl⟩ := own_some HM.out.row (by have := HJ.out; omega)
  obtain ⟨rest, hA, hp2, _, hset⟩ := own_around HM.out.row HJ.out
  have hgw := (HSM.out g rfl)
  obtain ⟨c0, c1, c2, c3⟩ := v4_cells hA.range
  have hp3 : (v4K.all (m1.l.take j)).length = j * 4 := hp2
  rw [hp3] at c0 c1 c2 c3
  have f0 := hA.frozen (j * 4)
  have f1 := hA.frozen (j * 4 + 1)
  have f2 := hA.frozen (j * 4 + 2)
  have f3 := hA.frozen (j * 4 + 3)
  obtain ⟨d0, d1, d2, d3⟩ := v4_cells HA1.out.rng0
  simp only [Nat.zero_add] at d0 d1 d2 d3
  have np : g ≠ w.heap.size := by omega
  have np' : w.heap.size ≠ g := by omega
  have ng : g ≠ p := hA.ne HM.out.at_ (by decide)
  have ng' : p ≠ g := fun e => ng e.symm
  have a9 := At.setCells (v4C v) _ _ hA rfl
  have t9 := turned_setCells g (v4C v) (j * 4) w1
  rw [hp3] at a9
  obtain ⟨V, hV⟩ : ∃ V, V = w1.setCells g (j * 4) (v4C v) := ⟨_, rfl⟩
  rw [<- hV] at a9 t9
  have hfin : MemAt base p (some ⟨g, 0, none⟩) c { m1 with l := m1.l.set j v } V.drew := ⟨by
   show At V.drew p _ [.slice _ (m1.l.set j v).length c, _, _]
   rw [List.length_set]
   exact (HM.out.at_.kept t9 (fun e => by unfold Just at e; exact ng' e)).drew, by
   show V.drew.ownsRow base _ 4 (.slice _ (m1.l.set j v).length c) (m1.l.set j v).length _
   rw [List.length_set]
   exact hset V v a9, by
   show (m1.l.set j v).length <= 1000
   rw [List.length_set]
   exact HM.out.few, HM.out.low⟩
  have htt : Turned (MemS p (some ⟨g, 0, none⟩)) w V.drew := ((HFIN.out w1 HT.out).trans (t9.mono (fun i _ e => .inr (by unfold Just at e; rw [e])))).drew
  have H9 := Lib.hid hfin
  have HTT := Lib.hid htt
  have HVE : Hid (V.drew = ((((w1.setCell ⟨g, j * 4, none⟩ (.int .u32 (U v.a))).setCell ⟨g, j * 4 + 1, none⟩ (.int .u32 (U v.b))).setCell ⟨g, j * 4 + 2, none⟩ (.int .u32 (U v.c))).setCell ⟨g, j * 4 + 3, none⟩ (.int .u32 (U v.d))).drew) := Lib.hid (by rw [hV]; rfl)
  clear hA hset hp2 hp3 a9 t9 hV hfin htt
  go_region
  rw [<- HVE.out]
  clear c0 c1 c2 c3 f0 f1 f2 f3 d0 d1 d2 d3 g0
  go_wp2
  go_ret
  rw [HR.out, <- HML.out]
  exact ⟨rfl, H9.out, HTT.out⟩
 all_goals
  try rw [<- HML.out] at h3
  rw [if_neg h1] at HR
  clear h1
  go_wp2_with (first
   | (go_at_call 175; (with_reducible refine HF.out.mono ?_); rintro e w1 ⟨rfl, hm, ht⟩; have HM := Lib.hid hm; have HT := Lib.hid ht; have g1 : w1.cell? ⟨p, 1, none⟩ = some (.int .i64 m1.fail) := hm.at_.cell 1; have g0 : w1.cell? ⟨p, 0, none⟩ = some (.slice A m1.l.length c) := hm.at_.cell 0; clear hm ht))
  go_ret
  rw [HR.out, <- HMF.out]
  exact ⟨rfl, HM.out, HFIN.out _ HT.out⟩
end
end
section
set_option linter.unusedSimpArgs false
open Go.RowKit Bm
structure DvM where
 first : BitVec 32
 many : BitVec 32
 err : BitVec 32
 line : BitVec 32
 buf : List (BitVec 32)
 place : Nat
 disk : List V4
 deriving DecidableEq, Inhabited
structure DvOk (d : DvM) : Prop where
 b : d.buf.length = 16
 p : d.place < 16
 few : d.disk.length <= 1000
def dvC (sl : Value) (d : DvM) : List Value := [.int .u32 (U d.first), .int .u32 (U d.many), .int .u32 (U d.err), .int .u32 (U d.line)] ++ (Us d.buf ++ [.int .i64 d.place, sl])
theorem dv_len {sl : Value} {d : DvM} (h : DvOk d) : (dvC sl d).length = 22 := by
 unfold dvC
 rw [List.length_append, List.length_append, Us_length, h.b]
 rfl
theorem dv_one {A : Option Addr} {n c : Nat} (d : DvM) : ∀ u ∈ dvC (.slice A n c) d, u.oneCell' = true := by
 intro u hu
 simp only [dvC, List.mem_append, List.mem_cons, List.not_mem_nil, or_false] at hu
 rcases hu with (rfl | rfl | rfl | rfl) | hu | rfl | rfl
 ·rfl
 ·rfl
 ·rfl
 ·rfl
 ·exact Us_one _ u hu
 ·rfl
 ·rfl
def dvZ : List Value := [.int .u32 0, .int .u32 0, .int .u32 0, .int .u32 0] ++ (List.replicate 16 (.int .u32 0) ++ [.int .i64 0, .slice none 0 0])
theorem dvZ_len : dvZ.length = 22 := rfl
theorem dv_size : (Tryz.prog.info? 40).map (·.size) = some 22 := by kernel_rfl
theorem dv_infoZ : (Tryz.prog.info? 40).map (fun i => (i.zero, i.size)) = some (some (.agg dvZ.toArray), 22) := by kernel_rfl
theorem dv_zero (w : World) : (zeroValue 40).run Tryz.prog w = .ok (.agg dvZ.toArray) w := (zero_of_info dv_infoZ).1 w
section
variable {W : World} {b : Nat} {sl : Value} {d : DvM}
theorem dv_cells (h : At W b 40 (dvC sl d)) (ok : DvOk d) : W.cell? ⟨b, 0, none⟩ = some (.int .u32 (U d.first)) /\ W.cell? ⟨b, 1, none⟩ = some (.int .u32 (U d.many)) /\ W.cell? ⟨b, 2, none⟩ = some (.int .u32 (U d.err)) /\ W.cell? ⟨b, 3, none⟩ = some (.int .u32 (U d.line)) /\ W.cell? ⟨b, 20, none⟩ = some (.int .i64 d.place) /\ W.cell? ⟨b, 21, none⟩ = some sl := by
 refine ⟨h.cell 0, h.cell 1, h.cell 2, h.cell 3, ?_, ?_⟩
 ·rw [h.cell 20]
  unfold dvC
  rw [List.getElem?_append_right (by simp), List.getElem?_append_right (by rw [Us_length, ok.b]; simp), Us_length, ok.b]
  rfl
 ·rw [h.cell 21]
  unfold dvC
  rw [List.getElem?_append_right (by simp), List.getElem?_append_right (by rw [Us_length, ok.b]; simp), Us_length, ok.b]
  rfl
theorem dv_word (h : At W b 40 (dvC sl d)) (ok : DvOk d) {j : Nat} (hj : j < 16) : W.cell? ⟨b, 4 + j, none⟩ = some (.int .u32 (U (wd d.buf j))) := by
 rw [h.cell (4 + j)]
 unfold dvC
 rw [List.getElem?_append_right (by simp), show 4 + j - [Value.int .u32 (U d.first), .int .u32 (U d.many), .int .u32 (U d.err), .int .u32 (U d.line)].length = j by simp, List.getElem?_append_left (by rw [Us_length, ok.b]; exact hj)]
 exact Us_get _ _ (by rw [ok.b]; exact hj)
end
def dNext (p : Nat) : Nat := (p + 1) % 16
def dGet (d : DvM) (reg : Int) : DvM × BitVec 32 × Int :=
 if reg = 0 then (d, 0#32, 0) else if reg = 1 then (d, d.first, 0) else if reg = 2 then (d, d.many, 0)
 else if reg = 3 then (if U d.err = 0 then (d, 1#32, 0) else (d, 3#32, 0)) else if reg = 4 then (d, d.err, 0)
 else if reg = 5 then ({ d with place := dNext d.place }, wd d.buf d.place, 0) else if reg = 6 then (d, BitVec.ofNat 32 d.disk.length, 0)
 else if reg = 7 then (d, d.line, 0) else (d, 0#32, 3)
def V2 (w : World) (cs : List Value) : World := (w.alloc (.cells cs.toArray 40)).alloc (.cells dvZ.toArray 40)
theorem V2_a (w : World) (cs : List Value) : At (V2 w cs) w.heap.size 40 cs := (At.news w _ _).alloc _
theorem V2_b (w : World) (cs : List Value) : At (V2 w cs) (w.heap.size + 1) 40 dvZ := At.alloc_new _ _ _ (by rw [World.size_alloc]) rfl
theorem V2_below (w : World) (cs : List Value) : Below w.heap.size w (V2 w cs) := below_two w _ _
theorem V2_size (w : World) (cs : List Value) : (V2 w cs).heap.size = w.heap.size + 2 := by unfold V2; rw [World.size_alloc, World.size_alloc]
theorem res_cell3 {P : Program} {fn : Func} {p q r : Tmp} {T : TypeId} {d : TypeDesc} {n : Nat} (h : fn.results = #[.cell p T, .tmp q, .tmp r]) (tmps : Array Value) {w : World} {g : Nat} {cs : List Value} {v u : Value} (hu : P.underlying T = some d) (hd : d.isRow = true) (hi : (P.info? T).map (·.size) = some n) (hp : tmps.getD p undef = .pointer (some ⟨g, 0, none⟩)) (hq : tmps.getD q undef = v) (hr : tmps.getD r undef = u) (hA : At w g T cs) (hn : cs.length = n) : (results fn tmps).run P w = .ok (.tuple #[.agg cs.toArray, v, u]) w := by
 have hp' : tmps[p]?.getD undef = .pointer (some ⟨g, 0, none⟩) := by simpa using hp
 have hq' : tmps[q]?.getD undef = v := by simpa using hq
 have hr' : tmps[r]?.getD undef = u := by simpa using hr
 simp [results, h, hp', hq', hr', asAddr, run_loadVar_row (P := P) w g T T cs.toArray (0, 0) _ hA hu (by cases d <;> exact hd) (by rw [hi]; simp [hn])]
theorem dv_place {sl : Value} {d : DvM} (ok : DvOk d) : (dvC sl d).set 20 (.int .i64 (((d.place : Int) + 1) % 16)) = dvC sl { d with place := dNext d.place } := by
 have hp : ((dNext d.place : Nat) : Int) = ((d.place : Int) + 1) % 16 := by unfold dNext; omega
 unfold dvC
 rw [List.set_append_right _ _ (by simp), List.set_append_right _ _ (by rw [Us_length, ok.b]; simp), Us_length, ok.b, hp]
 rfl
theorem dv_ok5 {d : DvM} (ok : DvOk d) : DvOk { d with place := dNext d.place } := ⟨ok.b, by simp only [dNext]; omega, ok.few⟩
theorem wrap_small {n : Nat} (h : n <= 1000) : IntKind.u32.wrap (n : Int) = (n : Int) := by
 show (n : Int) % 4294967296 = n
 omega
theorem U_small {n : Nat} (h : n <= 1000) : U (BitVec.ofNat 32 n) = (n : Int) := by
 unfold U
 rw [BitVec.toNat_ofNat, Nat.mod_eq_of_lt (by omega)]
set_option maxRecDepth 100000 in
set_option maxHeartbeats 4000000 in
theorem rget10_any (A : Option Addr) (c : Nat) (d : DvM) (ok : DvOk d) (reg : Int) (w : World) :
  Calls Tryz.prog 18 #[.agg (dvC (.slice A d.disk.length c) d).toArray, .int .i64 reg] w fun e w' => e = .returned (.tuple #[.agg (dvC (.slice A d.disk.length c) (dGet d reg).1).toArray, .int .u32 (U (dGet d reg).2.1), .int .i64 (dGet d reg).2.2]) /\ Below w.heap.size w w' := by
 obtain ⟨W0, hW0⟩ : ∃ W0, W0 = V2 w (dvC (.slice A d.disk.length c) d) := ⟨_, rfl⟩
 have hz := dv_zero
 have a0 := V2_a w (dvC (.slice A d.disk.length c) d)
 have a1 := V2_b w (dvC (.slice A d.disk.length c) d)
 have b0 := V2_below w (dvC (.slice A d.disk.length c) d)
 have s0 := V2_size w (dvC (.slice A d.disk.length c) d)
 have hW1 := hW0
 unfold V2 at hW1
 rw [<- hW0] at a0 a1 b0 s0
 obtain ⟨c0, c1, c2, c3, c20, c21⟩ := dv_cells a0 ok
 have HA0 := Lib.hid a0
 have HA1 := Lib.hid a1
 have HB0 := Lib.hid b0
 have HS0 := Lib.hid s0
 have HOK := Lib.hid ok
 have hl := dv_len (sl := .slice A d.disk.length c) ok
 have HL := Lib.hid hl
 have fin : ∀ V, Turned (Just (w.heap.size + 1)) W0 V -> Below w.heap.size w V := fun V h => b0.trans (below_just h (by omega) (by omega))
 have HFIN := Lib.hid fin
 clear a0 a1 b0 s0 hW0 hl fin
 go_enter Tryz.func18, Tryz.ntmps18
 go_upto_region 1 with (fail)
 change Code.wp _ _ _ _ ((w.alloc (.cells (dvC (.slice A d.disk.length c) d).toArray 40)).alloc (.cells dvZ.toArray 40))
 rw [<- hW1]
 clear hW1
 by_cases r0 : reg = 0
 ·have HG : Hid (dGet d reg = (d, 0#32, 0)) := Lib.hid (by unfold dGet; rw [if_pos r0])
  have e0 : (reg == 0) = true := by rw [beq_iff_eq]; exact r0
  clear r0
  go_wp2_with (first
     | (refine wpList_ldr (xs := dvC (.slice A d.disk.length c) d) _ rfl rfl rfl Tryz.underlying40 rfl dv_size HL.out HA0.out.rng0 ?_)
     | (refine wpList_stm (pre := []) (post := []) (xs := dvZ) (ys := dvC (.slice A d.disk.length c) d) _ _ rfl rfl rfl rfl dv_size dvZ_len HL.out (dv_one _) rfl (by simp) HA1.out ?_; intro V A9 T9; rw [List.nil_append, List.append_nil] at A9; have HA9 := Lib.hid A9; have HT9 := Lib.hid T9; clear A9 T9))
  refine bodyPost_ret (res_cell3 Tryz.results18 _ Tryz.underlying40 rfl dv_size rfl rfl rfl HA9.out HL.out) rfl ?_
  rw [HG.out]
  exact ⟨rfl, HFIN.out _ HT9.out⟩
 have e0 : (reg == 0) = false := by rw [beq_eq_false_iff_ne]; exact r0
 by_cases r1 : reg = 1
 ·have HG : Hid (dGet d reg = (d, d.first, 0)) := Lib.hid (by unfold dGet; rw [if_neg r0, if_pos r1])
  have e1 : (reg == 1) = true := by rw [beq_iff_eq]; exact r1
  clear r0 r1
  go_upto_region 5 with (fail)
  have e9 : ∀ W, Turned (Just (w.heap.size + 1)) W0 W -> At W w.heap.size 40 (dvC (.slice A d.disk.length c) d) := fun W h => HA0.out.kept h (by unfold Just; omega)
  have SD : Turned (Just (w.heap.size + 1)) W0 W0.drew := (Turned.refl _ _).drew
  refine wp_region_held_drew (S := fun W => Turned (Just (w.heap.size + 1)) W0 W) (by kernel_rfl) SD ?_
  intro S0
  replace S0 : Turned (Just (w.heap.size + 1)) W0 W0.drew := SD
  refine aT 0 (.agg (dvC (.slice A d.disk.length c) d).toArray) rfl ?_ (h2 := fun W hS => (load_is _ _ _ _ _ _ _ _ W).trans (load_at Tryz.underlying40 rfl dv_size (e9 W hS).rng0 HL.out)); simp only [see1, see2, see3, Act.put, see4, see5, see6]
  refine aT 1 (.pointer (some ⟨w.heap.size, 0, none⟩)) rfl ?_; simp only [see1, see2, see3, Act.put, see4, see5, see6]
  refine aT 2 (.int .u32 (U d.first)) rfl ?_ (h2 := fun W hS => by have c0 := (fun W hS => (dv_cells (e9 W hS) HOK.out).1) W hS; go_simp; done); simp only [see1, see2, see3, Act.put, see4, see5, see6]
  refine aS 3 (pre := []) (post := []) (xs := dvZ) (ys := dvC (.slice A d.disk.length c) d) _ _ rfl rfl rfl rfl dv_size dvZ_len HL.out (dv_one _) rfl (by simp) (HA1.out.drew) ?_
  intro V A9 T9
  rw [List.nil_append, List.append_nil] at A9
  have HA9 := Lib.hid A9
  have T8 : Turned (Just (w.heap.size + 1)) W0 V := S0.trans T9
  have HT9 := Lib.hid T8
  clear A9 T9
  refine ⟨T8, ?_⟩
  simp only [see1, see2, see3, Act.put, see4, see5, see6]
  refine aT 4 (.int .u32 (U d.first)) rfl ?_; simp only [see1, see2, see3, Act.put, see4, see5, see6]
  refine aT 5 (.int .i64 0) rfl ?_; simp only [see1, see2, see3, Act.put, see4, see5, see6]
  refine wpAnyH_done (by kernel_rfl) ?_ _
  go_wp2_with (fail)
  refine bodyPost_ret (res_cell3 Tryz.results18 _ Tryz.underlying40 rfl dv_size rfl rfl rfl HA9.out HL.out) rfl ?_
  rw [HG.out]
  exact ⟨rfl, HFIN.out _ HT9.out⟩
 have e1 : (reg == 1) = false := by rw [beq_eq_false_iff_ne]; exact r1
 by_cases r2 : reg = 2
 ·have HG : Hid (dGet d reg = (d, d.many, 0)) := Lib.hid (by unfold dGet; rw [if_neg r0, if_neg r1, if_pos r2])
  have e2 : (reg == 2) = true := by rw [beq_iff_eq]; exact r2
  clear r0 r1 r2
  go_upto_region 7 with (fail)
  have e9 : ∀ W, Turned (Just (w.heap.size + 1)) W0 W -> At W w.heap.size 40 (dvC (.slice A d.disk.length c) d) := fun W h => HA0.out.kept h (by unfold Just; omega)
  have SD : Turned (Just (w.heap.size + 1)) W0 W0.drew := (Turned.refl _ _).drew
  refine wp_region_held_drew (S := fun W => Turned (Just (w.heap.size + 1)) W0 W) (by kernel_rfl) SD ?_
  intro S0
  replace S0 : Turned (Just (w.heap.size + 1)) W0 W0.drew := SD
  refine aT 0 (.agg (dvC (.slice A d.disk.length c) d).toArray) rfl ?_ (h2 := fun W hS => (load_is _ _ _ _ _ _ _ _ W).trans (load_at Tryz.underlying40 rfl dv_size (e9 W hS).rng0 HL.out)); simp only [see1, see2, see3, Act.put, see4, see5, see6]
  refine aT 1 (.pointer (some ⟨w.heap.size, 1, none⟩)) rfl ?_; simp only [see1, see2, see3, Act.put, see4, see5, see6]
  refine aT 2 (.int .u32 (U d.many)) rfl ?_ (h2 := fun W hS => by have c0 := (fun W hS => (dv_cells (e9 W hS) HOK.out).2.1) W hS; go_simp; done); simp only [see1, see2, see3, Act.put, see4, see5, see6]
  refine aS 3 (pre := []) (post := []) (xs := dvZ) (ys := dvC (.slice A d.disk.length c) d) _ _ rfl rfl rfl rfl dv_size dvZ_len HL.out (dv_one _) rfl (by simp) (HA1.out.drew) ?_
  intro V A9 T9
  rw [List.nil_append, List.append_nil] at A9
  have HA9 := Lib.hid A9
  have T8 : Turned (Just (w.heap.size + 1)) W0 V := S0.trans T9
  have HT9 := Lib.hid T8
  clear A9 T9
  refine ⟨T8, ?_⟩
  simp only [see1, see2, see3, Act.put, see4, see5, see6]
  refine aT 4 (.int .u32 (U d.many)) rfl ?_; simp only [see1, see2, see3, Act.put, see4, see5, see6]
  refine aT 5 (.int .i64 0) rfl ?_; simp only [see1, see2, see3, Act.put, see4, see5, see6]
  refine wpAnyH_done (by kernel_rfl) ?_ _
  go_wp2_with (fail)
  refine bodyPost_ret (res_cell3 Tryz.results18 _ Tryz.underlying40 rfl dv_size rfl rfl rfl HA9.out HL.out) rfl ?_
  rw [HG.out]
  exact ⟨rfl, HFIN.out _ HT9.out⟩
 have e2 : (reg == 2) = false := by rw [beq_eq_false_iff_ne]; exact r2
 by_cases r3 : reg = 3
 ·have e3 : (reg == 3) = true := by rw [beq_iff_eq]; exact r3
  by_cases er : U d.err = 0
  ·have HG : Hid (dGet d reg = (d, 1#32, 0)) := Lib.hid (by unfold dGet; rw [if_neg r0, if_neg r1, if_neg r2, if_pos r3, if_pos er])
   have ee : (U d.err == 0) = true := by rw [beq_iff_eq]; exact er
   clear r0 r1 r2 r3 er
   go_wp2_with (first
      | (refine wpList_ldr (xs := dvC (.slice A d.disk.length c) d) _ rfl rfl rfl Tryz.underlying40 rfl dv_size HL.out HA0.out.rng0 ?_)
      | (refine wpList_stm (pre := []) (post := []) (xs := dvZ) (ys := dvC (.slice A d.disk.length c) d) _ _ rfl rfl rfl rfl dv_size dvZ_len HL.out (dv_one _) rfl (by simp) HA1.out ?_; intro V A9 T9; rw [List.nil_append, List.append_nil] at A9; have HA9 := Lib.hid A9; have HT9 := Lib.hid T9; clear A9 T9))
   refine bodyPost_ret (res_cell3 Tryz.results18 _ Tryz.underlying40 rfl dv_size rfl rfl rfl HA9.out HL.out) rfl ?_
   rw [HG.out]
   exact ⟨rfl, HFIN.out _ HT9.out⟩
  ·have HG : Hid (dGet d reg = (d, 3#32, 0)) := Lib.hid (by unfold dGet; rw [if_neg r0, if_neg r1, if_neg r2, if_pos r3, if_neg er])
   have ee : (U d.err == 0) = false := by rw [beq_eq_false_iff_ne]; exact er
   clear r0 r1 r2 r3 er
   go_wp2_with (first
      | (refine wpList_ldr (xs := dvC (.slice A d.disk.length c) d) _ rfl rfl rfl Tryz.underlying40 rfl dv_size HL.out HA0.out.rng0 ?_)
      | (refine wpList_stm (pre := []) (post := []) (xs := dvZ) (ys := dvC (.slice A d.disk.length c) d) _ _ rfl rfl rfl rfl dv_size dvZ_len HL.out (dv_one _) rfl (by simp) HA1.out ?_; intro V A9 T9; rw [List.nil_append, List.append_nil] at A9; have HA9 := Lib.hid A9; have HT9 := Lib.hid T9; clear A9 T9))
   refine bodyPost_ret (res_cell3 Tryz.results18 _ Tryz.underlying40 rfl dv_size rfl rfl rfl HA9.out HL.out) rfl ?_
   rw [HG.out]
   exact ⟨rfl, HFIN.out _ HT9.out⟩
 have e3 : (reg == 3) = false := by rw [beq_eq_false_iff_ne]; exact r3
 by_cases r4 : reg = 4
 ·have HG : Hid (dGet d reg = (d, d.err, 0)) := Lib.hid (by unfold dGet; rw [if_neg r0, if_neg r1, if_neg r2, if_neg r3, if_pos r4])
  have e4 : (reg == 4) = true := by rw [beq_iff_eq]; exact r4
  clear r0 r1 r2 r3 r4
  go_upto_region 13 with (fail)
  have e9 : ∀ W, Turned (Just (w.heap.size + 1)) W0 W -> At W w.heap.size 40 (dvC (.slice A d.disk.length c) d) := fun W h => HA0.out.kept h (by unfold Just; omega)
  have SD : Turned (Just (w.heap.size + 1)) W0 W0.drew := (Turned.refl _ _).drew
  refine wp_region_held_drew (S := fun W => Turned (Just (w.heap.size + 1)) W0 W) (by kernel_rfl) SD ?_
  intro S0
  replace S0 : Turned (Just (w.heap.size + 1)) W0 W0.drew := SD
  refine aT 0 (.agg (dvC (.slice A d.disk.length c) d).toArray) rfl ?_ (h2 := fun W hS => (load_is _ _ _ _ _ _ _ _ W).trans (load_at Tryz.underlying40 rfl dv_size (e9 W hS).rng0 HL.out)); simp only [see1, see2, see3, Act.put, see4, see5, see6]
  refine aT 1 (.pointer (some ⟨w.heap.size, 2, none⟩)) rfl ?_; simp only [see1, see2, see3, Act.put, see4, see5, see6]
  refine aT 2 (.int .u32 (U d.err)) rfl ?_ (h2 := fun W hS => by have c0 := (fun W hS => (dv_cells (e9 W hS) HOK.out).2.2.1) W hS; go_simp; done); simp only [see1, see2, see3, Act.put, see4, see5, see6]
  refine aS 3 (pre := []) (post := []) (xs := dvZ) (ys := dvC (.slice A d.disk.length c) d) _ _ rfl rfl rfl rfl dv_size dvZ_len HL.out (dv_one _) rfl (by simp) (HA1.out.drew) ?_
  intro V A9 T9
  rw [List.nil_append, List.append_nil] at A9
  have HA9 := Lib.hid A9
  have T8 : Turned (Just (w.heap.size + 1)) W0 V := S0.trans T9
  have HT9 := Lib.hid T8
  clear A9 T9
  refine ⟨T8, ?_⟩
  simp only [see1, see2, see3, Act.put, see4, see5, see6]
  refine aT 4 (.int .u32 (U d.err)) rfl ?_; simp only [see1, see2, see3, Act.put, see4, see5, see6]
  refine aT 5 (.int .i64 0) rfl ?_; simp only [see1, see2, see3, Act.put, see4, see5, see6]
  refine wpAnyH_done (by kernel_rfl) ?_ _
  go_wp2_with (fail)
  refine bodyPost_ret (res_cell3 Tryz.results18 _ Tryz.underlying40 rfl dv_size rfl rfl rfl HA9.out HL.out) rfl ?_
  rw [HG.out]
  exact ⟨rfl, HFIN.out _ HT9.out⟩
 have e4 : (reg == 4) = false := by rw [beq_eq_false_iff_ne]; exact r4
 by_cases r5 : reg = 5
 ·have HG : Hid (dGet d reg = ({ d with place := dNext d.place }, wd d.buf d.place, 0)) := Lib.hid (by unfold dGet; rw [if_neg r0, if_neg r1, if_neg r2, if_neg r3, if_neg r4, if_pos r5])
  have e5 : (reg == 5) = true := by rw [beq_iff_eq]; exact r5
  clear r0 r1 r2 r3 r4 r5
  have cw := dv_word HA0.out HOK.out HOK.out.p
  have p16 := HOK.out.p
  have f20 := HA0.out.frozen 20
  have p16' : (d.place : Int) < 16 := by omega
  have p0 : (0 : Int) <= d.place := by omega
  go_upto_region 17 with (fail)
  have A5 : At (W0.setCell ⟨w.heap.size, 20, none⟩ (.int .i64 (((d.place : Int) + 1) % 16))) w.heap.size 40 (dvC (.slice A d.disk.length c) { d with place := dNext d.place }) := (HA0.out.put 20 _).as (dv_place HOK.out)
  have A6 : At (W0.setCell ⟨w.heap.size, 20, none⟩ (.int .i64 (((d.place : Int) + 1) % 16))) (w.heap.size + 1) 40 dvZ := HA1.out.far (by simp) _
  have B6 : Below w.heap.size w (W0.setCell ⟨w.heap.size, 20, none⟩ (.int .i64 (((d.place : Int) + 1) % 16))) := HB0.out.trans (below_set 20 (Nat.le_refl _) (by rw [HS0.out]; omega) _)
  have S6 : (W0.setCell ⟨w.heap.size, 20, none⟩ (.int .i64 (((d.place : Int) + 1) % 16))).heap.size = w.heap.size + 2 := by rw [World.size_setCell]; exact HS0.out
  generalize W0.setCell ⟨w.heap.size, 20, none⟩ (.int .i64 (((d.place : Int) + 1) % 16)) = W1 at A5 A6 B6 S6 ⊢
  have HA5 := Lib.hid A5
  have HA6 := Lib.hid A6
  have HL5 := Lib.hid (dv_len (sl := .slice A d.disk.length c) (dv_ok5 HOK.out))
  have fin5 : ∀ V, Turned (Just (w.heap.size + 1)) W1 V -> Below w.heap.size w V := fun V h => B6.trans (below_just h (by omega) (by omega))
  have HF5 := Lib.hid fin5
  clear A5 A6 B6 S6 fin5 cw p16 f20 c0 c1 c2 c3 c20 c21
  go_wp2_with (first
   | (refine wpList_ldr (xs := dvC (.slice A d.disk.length c) { d with place := dNext d.place }) _ rfl rfl rfl Tryz.underlying40 rfl dv_size HL5.out HA5.out.rng0 ?_)
   | (refine wpList_stm (pre := []) (post := []) (xs := dvZ) (ys := dvC (.slice A d.disk.length c) { d with place := dNext d.place }) _ _ rfl rfl rfl rfl dv_size dvZ_len HL5.out (dv_one _) rfl (by simp) HA6.out ?_; intro V A9 T9; rw [List.nil_append, List.append_nil] at A9; have HA9 := Lib.hid A9; have HT9 := Lib.hid T9; clear A9 T9))
  refine bodyPost_ret (res_cell3 Tryz.results18 _ Tryz.underlying40 rfl dv_size rfl rfl rfl HA9.out HL5.out) rfl ?_
  rw [HG.out]
  exact ⟨rfl, HF5.out _ HT9.out⟩
 have e5 : (reg == 5) = false := by rw [beq_eq_false_iff_ne]; exact r5
 by_cases r6 : reg = 6
 ·have HG : Hid (dGet d reg = (d, BitVec.ofNat 32 d.disk.length, 0)) := Lib.hid (by unfold dGet; rw [if_neg r0, if_neg r1, if_neg r2, if_neg r3, if_neg r4, if_neg r5, if_pos r6])
  have e6 : (reg == 6) = true := by rw [beq_iff_eq]; exact r6
  clear r0 r1 r2 r3 r4 r5 r6
  go_upto_region 19 with (fail)
  have e9 : ∀ W, Turned (Just (w.heap.size + 1)) W0 W -> At W w.heap.size 40 (dvC (.slice A d.disk.length c) d) := fun W h => HA0.out.kept h (by unfold Just; omega)
  have SD : Turned (Just (w.heap.size + 1)) W0 W0.drew := (Turned.refl _ _).drew
  refine wp_region_held_drew (S := fun W => Turned (Just (w.heap.size + 1)) W0 W) (by kernel_rfl) SD ?_
  intro S0
  replace S0 : Turned (Just (w.heap.size + 1)) W0 W0.drew := SD
  refine aT 0 (.agg (dvC (.slice A d.disk.length c) d).toArray) rfl ?_ (h2 := fun W hS => (load_is _ _ _ _ _ _ _ _ W).trans (load_at Tryz.underlying40 rfl dv_size (e9 W hS).rng0 HL.out)); simp only [see1, see2, see3, Act.put, see4, see5, see6]
  refine aT 1 (.pointer (some ⟨w.heap.size, 21, none⟩)) rfl ?_; simp only [see1, see2, see3, Act.put, see4, see5, see6]
  refine aT 2 (.slice A d.disk.length c) rfl ?_ (h2 := fun W hS => by have c0 := (fun W hS => (dv_cells (e9 W hS) HOK.out).2.2.2.2.2) W hS; go_simp; done); simp only [see1, see2, see3, Act.put, see4, see5, see6]
  refine aT 3 (.int .i64 d.disk.length) rfl ?_; simp only [see1, see2, see3, Act.put, see4, see5, see6]
  refine aT 4 (.int .u32 (U (BitVec.ofNat 32 d.disk.length))) rfl ?_ (h2 := fun W _ => by have hn := HOK.out.few; rw [U_small hn]; have hz := wrap_small hn; go_simp; done); simp only [see1, see2, see3, Act.put, see4, see5, see6]
  refine aS 5 (pre := []) (post := []) (xs := dvZ) (ys := dvC (.slice A d.disk.length c) d) _ _ rfl rfl rfl rfl dv_size dvZ_len HL.out (dv_one _) rfl (by simp) (HA1.out.drew) ?_
  intro V A9 T9
  rw [List.nil_append, List.append_nil] at A9
  have HA9 := Lib.hid A9
  have T8 : Turned (Just (w.heap.size + 1)) W0 V := S0.trans T9
  have HT9 := Lib.hid T8
  clear A9 T9
  refine ⟨T8, ?_⟩
  simp only [see1, see2, see3, Act.put, see4, see5, see6]
  refine aT 6 (.int .u32 (U (BitVec.ofNat 32 d.disk.length))) rfl ?_; simp only [see1, see2, see3, Act.put, see4, see5, see6]
  refine aT 7 (.int .i64 0) rfl ?_; simp only [see1, see2, see3, Act.put, see4, see5, see6]
  refine wpAnyH_done (by kernel_rfl) ?_ _
  go_wp2_with (fail)
  refine bodyPost_ret (res_cell3 Tryz.results18 _ Tryz.underlying40 rfl dv_size rfl rfl rfl HA9.out HL.out) rfl ?_
  rw [HG.out]
  exact ⟨rfl, HFIN.out _ HT9.out⟩
 have e6 : (reg == 6) = false := by rw [beq_eq_false_iff_ne]; exact r6
 by_cases r7 : reg = 7
 ·have HG : Hid (dGet d reg = (d, d.line, 0)) := Lib.hid (by unfold dGet; rw [if_neg r0, if_neg r1, if_neg r2, if_neg r3, if_neg r4, if_neg r5, if_neg r6, if_pos r7])
  have e7 : (reg == 7) = true := by rw [beq_iff_eq]; exact r7
  clear r0 r1 r2 r3 r4 r5 r6 r7
  go_upto_region 21 with (fail)
  have e9 : ∀ W, Turned (Just (w.heap.size + 1)) W0 W -> At W w.heap.size 40 (dvC (.slice A d.disk.length c) d) := fun W h => HA0.out.kept h (by unfold Just; omega)
  have SD : Turned (Just (w.heap.size + 1)) W0 W0.drew := (Turned.refl _ _).drew
  refine wp_region_held_drew (S := fun W => Turned (Just (w.heap.size + 1)) W0 W) (by kernel_rfl) SD ?_
  intro S0
  replace S0 : Turned (Just (w.heap.size + 1)) W0 W0.drew := SD
  refine aT 0 (.agg (dvC (.slice A d.disk.length c) d).toArray) rfl ?_ (h2 := fun W hS => (load_is _ _ _ _ _ _ _ _ W).trans (load_at Tryz.underlying40 rfl dv_size (e9 W hS).rng0 HL.out)); simp only [see1, see2, see3, Act.put, see4, see5, see6]
  refine aT 1 (.pointer (some ⟨w.heap.size, 3, none⟩)) rfl ?_; simp only [see1, see2, see3, Act.put, see4, see5, see6]
  refine aT 2 (.int .u32 (U d.line)) rfl ?_ (h2 := fun W hS => by have c0 := (fun W hS => (dv_cells (e9 W hS) HOK.out).2.2.2.1) W hS; go_simp; done); simp only [see1, see2, see3, Act.put, see4, see5, see6]
  refine aS 3 (pre := []) (post := []) (xs := dvZ) (ys := dvC (.slice A d.disk.length c) d) _ _ rfl rfl rfl rfl dv_size dvZ_len HL.out (dv_one _) rfl (by simp) (HA1.out.drew) ?_
  intro V A9 T9
  rw [List.nil_append, List.append_nil] at A9
  have HA9 := Lib.hid A9
  have T8 : Turned (Just (w.heap.size + 1)) W0 V := S0.trans T9
  have HT9 := Lib.hid T8
  clear A9 T9
  refine ⟨T8, ?_⟩
  simp only [see1, see2, see3, Act.put, see4, see5, see6]
  refine aT 4 (.int .u32 (U d.line)) rfl ?_; simp only [see1, see2, see3, Act.put, see4, see5, see6]
  refine aT 5 (.int .i64 0) rfl ?_; simp only [see1, see2, see3, Act.put, see4, see5, see6]
  refine wpAnyH_done (by kernel_rfl) ?_ _
  go_wp2_with (fail)
  refine bodyPost_ret (res_cell3 Tryz.results18 _ Tryz.underlying40 rfl dv_size rfl rfl rfl HA9.out HL.out) rfl ?_
  rw [HG.out]
  exact ⟨rfl, HFIN.out _ HT9.out⟩
 have e7 : (reg == 7) = false := by rw [beq_eq_false_iff_ne]; exact r7
 have HG : Hid (dGet d reg = (d, 0#32, 3)) := Lib.hid (by unfold dGet; rw [if_neg r0, if_neg r1, if_neg r2, if_neg r3, if_neg r4, if_neg r5, if_neg r6, if_neg r7])
 clear r0 r1 r2 r3 r4 r5 r6 r7
 go_wp2_with (first
    | (refine wpList_ldr (xs := dvC (.slice A d.disk.length c) d) _ rfl rfl rfl Tryz.underlying40 rfl dv_size HL.out HA0.out.rng0 ?_)
    | (refine wpList_stm (pre := []) (post := []) (xs := dvZ) (ys := dvC (.slice A d.disk.length c) d) _ _ rfl rfl rfl rfl dv_size dvZ_len HL.out (dv_one _) rfl (by simp) HA1.out ?_; intro V A9 T9; rw [List.nil_append, List.append_nil] at A9; have HA9 := Lib.hid A9; have HT9 := Lib.hid T9; clear A9 T9))
 refine bodyPost_ret (res_cell3 Tryz.results18 _ Tryz.underlying40 rfl dv_size rfl rfl rfl HA9.out HL.out) rfl ?_
 rw [HG.out]
 exact ⟨rfl, HFIN.out _ HT9.out⟩
end
section
open Go.RowKit Bm
theorem Kd.Reads.take {α : Type} {K : Kd α} {w : World} {A : Option Addr} {n c : Nat} {xs : List α} (h : K.Reads w A n c xs) {m : Nat} (hm : m <= n) : K.Reads w A m c (xs.take m) :=
 ⟨by rw [List.length_take, h.len, Nat.min_eq_left hm], Nat.le_trans hm h.le, h.max, fun h0 => by
  obtain ⟨g, off, e, hg, hc⟩ := h.cell (by omega)
  refine ⟨g, off, e, hg, fun j x hj => hc j x ?_⟩
  rw [List.getElem?_take] at hj
  split at hj
  ·exact hj
  ·cases hj⟩
theorem Kd.Reads.drop {α : Type} {K : Kd α} {w : World} {g off : Nat} {n c : Nat} {xs : List α} (h : K.Reads w (some ⟨g, off, Option.none⟩) n c xs) {m : Nat} (hm : m <= n) (off' : Nat) (ho : off' = off + m * K.k) : K.Reads w (some ⟨g, off', Option.none⟩) (n - m) (c - m) (xs.drop m) :=
 ⟨by rw [List.length_drop, h.len], Nat.sub_le_sub_right h.le m, Nat.le_trans (Nat.sub_le _ _) h.max, fun h0 => by
  obtain ⟨g', off2, e, hg, hc⟩ := h.cell (by omega)
  cases e
  refine ⟨g, off', rfl, hg, fun j x hj => ?_⟩
  rw [List.getElem?_drop] at hj
  have := hc (m + j) x hj
  rwa [show off + (m + j) * K.k = off' + j * K.k by rw [ho, Nat.add_mul]; omega] at this⟩
set_option maxRecDepth 100000 in
set_option maxHeartbeats 4000000 in
theorem rput10_any (A : Option Addr) (n c : Nat) (xs : List V4) (w : World) (hR : v4K.Reads w A n c xs) (hn : n <= 1000) (i : Nat) (hi : i < n) (v : V4) :
  Calls Tryz.prog 51 #[.slice A n c, .int .i64 i, .agg (v4C v).toArray] w fun e w' => ∃ B cap, e = .returned (.slice B n cap) /\ w'.ownsRow w.heap.size 43 4 (.slice B n cap) n (v4K.all (xs.set i v)) /\ Below w.heap.size w w' := by
 obtain ⟨i0, hin, hz0, hz1, hz2⟩ := info_parts v4_infoA
 obtain ⟨g, off, rfl, hg, -⟩ := hR.cell (by omega)
 have hc := hR.le
 have hm := hR.max
 have h1 : (i : Int) <= c := by omega
 have h2 : (0 : Int) <= i := by omega
 have h3 : (i : Int) + 1 <= n := by omega
 have h4 : (n : Int) <= c := by omega
 have h5 : (0 : Int) <= (i : Int) + 1 := by omega
 have HR := Lib.hid hR
 clear hR
 go_enter Tryz.func51, Tryz.ntmps51
 go_wp2_with (at_builtin; refine halt_here ?_)
 refine Lib.hid ?_
 have hE : At ((w.alloc (.cells (v4C v).toArray 43)).alloc (.cells #[] 43)) (w.heap.size + 1) 43 ([] ++ []) := At.alloc_new _ _ _ (by rw [World.size_alloc]) rfl
 have hV : At ((w.alloc (.cells (v4C v).toArray 43)).alloc (.cells #[] 43)) w.heap.size 43 (v4C v) := (At.news w _ _).alloc _
 have hb0 : Below w.heap.size w ((w.alloc (.cells (v4C v).toArray 43)).alloc (.cells #[] 43)) := below_two w _ _
 have hs0 : ((w.alloc (.cells (v4C v).toArray 43)).alloc (.cells #[] 43)).heap.size = w.heap.size + 2 := by rw [World.size_alloc, World.size_alloc]
 refine wpList_join (K := v4K) (base := w.heap.size + 1) (xs := []) (ys := xs.take i) (.tmp 8) (.tmp 11) rfl rfl Tryz.underlying38 hin hz0 hz1 hz2 (by rfl) (by omega) (v := .slice (some ⟨w.heap.size + 1, 0, none⟩) 0 0) (by rfl) (own_of_at (xs := v4K.all []) (rest := []) hE (Nat.le_refl _) rfl rfl (Nat.le_refl _) (Nat.zero_le _)) (by rfl) ((HR.out.kept hb0).take (by omega)) (by simp; omega) (by rw [hs0]; omega) ?_
 intro B cap w1 o1 b1 _
 have e : ([] : List V4).length + i = i := Nat.zero_add i
 rw [e, List.nil_append] at o1
 rw [e]
 simp only [Act.put, List.setIfInBounds_toArray, List.set_cons_zero, List.set_cons_succ]
 have hV1 : At w1 w.heap.size 43 (v4C v) := (b1.block _ (by omega)).trans hV
 have hb1 : Below w.heap.size w w1 := hb0.trans (b1.mono (by omega))
 have z1 : w.heap.size + 2 <= w1.heap.size := by have := b1.size; omega
 have O1 := Lib.hid o1
 have B1 := Lib.hid b1
 have HB1 := Lib.hid hb1
 have Z1 := Lib.hid z1
 clear o1 b1 hb0 hs0 hE hV
 have HV1 := Lib.hid hV1
 obtain ⟨q0, q1, q2, q3⟩ := v4_cells hV1.rng0
 go_wp2_with (first
  | (refine wpList_ldr (xs := v4C v) _ rfl rfl rfl Tryz.underlying43 rfl v4_size (v4_len v) HV1.out.rng0 ?_)
  | (refine wpList_build_one _ rfl rfl rfl Tryz.underlying38 hin hz0 hz1 (cs := (v4C v).toArray) (by rfl) (by omega) (by omega) ?_)
  | (at_builtin; refine halt_here ?_))
 refine Lib.hid ?_
 have hxl : (xs.take i).length = i := by rw [List.length_take, HR.out.len]; omega
 refine wpList_snoc (K := v4K) (base := w.heap.size + 1) (xs := xs.take i) (y := v) (v := .slice B i cap) Tryz.underlying38 hin hz0 hz1 hz2 (by rfl) (by omega) _ _ (by rfl) (by rfl) (by rfl) (by rw [hxl]; exact O1.out.alloc (.cells (v4C v).toArray 43)) (by rfl) (At.news w1 _ _) (by rw [hxl]; omega) (by have := Z1.out; simp; omega) ?_
 intro g2 cap2 w2 o2 b2
 simp only [Act.put, List.setIfInBounds_toArray, List.set_cons_zero, List.set_cons_succ]
 rw [List.length_append, List.length_singleton, hxl] at o2
 rw [hxl]
 have b2' : Below (w.heap.size + 1) w1 w2 := ((Below.refl _ w1).alloc (by have := Z1.out; omega) _).trans b2
 have O2 := Lib.hid o2
 have HB2 := Lib.hid (HB1.out.trans (b2'.mono (by omega)))
 have Z2 : Hid (w.heap.size + 2 <= w2.heap.size) := Lib.hid (by have := b2'.size; have := Z1.out; omega)
 clear o2 b2 b2' q0 q1 q2 q3
 go_wp2_with (at_builtin; refine halt_here ?_)
 all_goals (
  have hl1 : (xs.take i ++ [v]).length = i + 1 := by rw [List.length_append, hxl]; rfl
  have hl2 : i + 1 + (n - (i + 1)) = n := by omega
  have hset : xs.set i v = xs.take i ++ [v] ++ xs.drop (i + 1) := by rw [List.set_eq_take_append_cons_drop, if_pos (by rw [HR.out.len]; exact hi), List.append_assoc]; rfl)
 ·rename_i hci
  have hn1 : xs.drop (i + 1) = [] := List.drop_eq_nil_of_le (by rw [HR.out.len]; omega)
  have hr : v4K.Reads w2 (some ⟨g, off, none⟩) (n - (i + 1)) 0 (xs.drop (i + 1)) := by rw [hn1, show n - (i + 1) = 0 by omega]; exact ⟨rfl, Nat.le_refl _, Nat.zero_le _, fun h => absurd h (by omega)⟩
  refine Lib.hid ?_
  refine wpList_join (K := v4K) (base := w.heap.size + 1) (xs := xs.take i ++ [v]) (ys := xs.drop (i + 1)) (.tmp 17) (.tmp 21) rfl rfl Tryz.underlying38 hin hz0 hz1 hz2 (by rfl) (by omega) (v := .slice (some ⟨g2, 0, none⟩) (i + 1) cap2) (by rfl) (by rw [hl1]; exact O2.out) (by rfl) hr (by rw [hl1]; omega) (by have := Z2.out; omega) ?_
  intro B3 cap3 w3 o3 b3 _
  rw [hl1, hl2, <- hset] at o3
  rw [hl1, hl2]
  simp only [Act.put, List.setIfInBounds_toArray, List.set_cons_zero, List.set_cons_succ]
  have O3 := Lib.hid (own_base (base' := w.heap.size) o3 (by omega))
  have HB3 := Lib.hid (HB2.out.trans (b3.mono (by omega)))
  clear o3 b3
  go_wp2
  go_ret
  exact ⟨B3, cap3, rfl, O3.out, HB3.out⟩
 ·rename_i hci
  have hr : v4K.Reads w2 (some ⟨g, off + (i + 1) * 4, none⟩) (n - (i + 1)) (c - (i + 1)) (xs.drop (i + 1)) := (HR.out.kept HB2.out).drop (m := i + 1) (by omega) _ rfl
  refine Lib.hid ?_
  refine wpList_join (K := v4K) (base := w.heap.size + 1) (xs := xs.take i ++ [v]) (ys := xs.drop (i + 1)) (.tmp 17) (.tmp 21) rfl rfl Tryz.underlying38 hin hz0 hz1 hz2 (by rfl) (by omega) (v := .slice (some ⟨g2, 0, none⟩) (i + 1) cap2) (by rfl) (by rw [hl1]; exact O2.out) (by rfl) hr (by rw [hl1]; omega) (by have := Z2.out; omega) ?_
  intro B3 cap3 w3 o3 b3 _
  rw [hl1, hl2, <- hset] at o3
  rw [hl1, hl2]
  simp only [Act.put, List.setIfInBounds_toArray, List.set_cons_zero, List.set_cons_succ]
  have O3 := Lib.hid (own_base (base' := w.heap.size) o3 (by omega))
  have HB3 := Lib.hid (HB2.out.trans (b3.mono (by omega)))
  clear o3 b3
  go_wp2
  go_ret
  exact ⟨B3, cap3, rfl, O3.out, HB3.out⟩
end
section
set_option linter.unusedSimpArgs false
open Go.RowKit Bm
section
variable {base p c : Nat} {A : Option Addr} {m : MemM} {w w' : World}
set_option maxRecDepth 100000 in
set_option maxHeartbeats 2000000 in
theorem mtrim_any (h : MemAt base p A c m w) (l0 : -9223372036854775808 <= m.left) (l1 : m.left <= 9223372036854775807) (hb : base <= w.heap.size) (i : Int) :
  Calls Tryz.prog 173 #[.pointer (some ⟨p, 0, none⟩), .int .i64 i] w fun e w' => e = .returned (.int .i64 (mWrite m i v40).2) /\ MemAt base p A c (mWrite m i v40).1 w' /\ Turned (MemS p A) w w' := by
 have HW := Lib.hid (mwrite_any h l0 l1 hb i v40)
 have hz4 := v4_zero
 clear h
 go_enter Tryz.func173, Tryz.ntmps173
 go_wp2_with (first
  | (go_at_call 174; (with_reducible refine HW.out.mono ?_); rintro e w1 ⟨rfl, hm, ht⟩; have HM := Lib.hid hm; have HT := Lib.hid ht; clear hm ht))
 go_ret
 exact ⟨rfl, HM.out, HT.out⟩
end
end
section
open Go.RowKit Bm
theorem meth_sectors (k : Nat) (p : Nat) (w : World) : (method (k + 1) 47 (.pointer (some ⟨p, 0, none⟩)) "Sectors").run Tryz.prog w = .ok (172, .pointer (some ⟨p, 0, none⟩)) w := by kernel_rfl
theorem meth_read (k : Nat) (p : Nat) (w : World) : (method (k + 1) 47 (.pointer (some ⟨p, 0, none⟩)) "Read").run Tryz.prog w = .ok (171, .pointer (some ⟨p, 0, none⟩)) w := by kernel_rfl
theorem meth_write (k : Nat) (p : Nat) (w : World) : (method (k + 1) 47 (.pointer (some ⟨p, 0, none⟩)) "Write").run Tryz.prog w = .ok (174, .pointer (some ⟨p, 0, none⟩)) w := by kernel_rfl
theorem meth_trim (k : Nat) (p : Nat) (w : World) : (method (k + 1) 47 (.pointer (some ⟨p, 0, none⟩)) "Trim").run Tryz.prog w = .ok (173, .pointer (some ⟨p, 0, none⟩)) w := by kernel_rfl
end
end Go.Proofs.YtpkkejdjhnmjiaaGreat
