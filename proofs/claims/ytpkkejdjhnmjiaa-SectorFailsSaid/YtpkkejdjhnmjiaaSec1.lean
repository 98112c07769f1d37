/- A disk in memory that may fail (the statements' of layer sector): plain data, and the contracts of its methods. -/
import Derived.Test.YtpkkejdjhnmjiaaV4
import Derived.BigRegion
import Derived.BigQuiet
import Derived.Deep.QuietTactic
import Derived.Deep.DeepCutAuto
import Derived.Deep.LoopGhost
import Derived.Deep.Light
namespace Go.Proofs.Ytpkkejdjhnmjiaa
open Go.RowKit Bm

theorem at_stay {w w' : World} {b : Nat} {t : TypeId} {cs : List Value} (h : At w b t cs) (hB : Below w.heap.size w w') : At w' b t cs := h.kept (Turned.of_below hB (Nat.le_refl _) NoBlock) (fun h => h)
theorem own_keep {W W' : World} {base n k : Nat} {t : TypeId} {v : Value} {xs : List Value} (h : W.ownsRow base t k v n xs) (hb : Below W.heap.size W W') : W'.ownsRow base t k v n xs := own_turned h (Turned.of_below hb (Nat.le_refl _) NoBlock) (fun _ _ h => h)

/-- A disk in memory: its sectors, the error that it will answer, how many calls till then. -/
structure MemM where
  l : List V4
  fail : Int
  left : Int
  deriving DecidableEq, Inhabited
def mFails (m : MemM) : MemM × Bool := if m.fail ≠ 0 ∧ m.left = 0 then (m, true) else ({ m with left := wrap64 (m.left - 1) }, false)
def mHas (m : MemM) (i : Int) : Prop := 0 ≤ i ∧ i < m.l.length
instance (m : MemM) (i : Int) : Decidable (mHas m i) := inferInstanceAs (Decidable (_ ∧ _))
def mGet10 (m : MemM) (i : Int) : MemM × V4 × Int :=
  if (mFails m).2 = false ∧ mHas m i then ((mFails m).1, vN m.l i.toNat, 0) else ((mFails m).1, v40, m.fail)
def mWrite (m : MemM) (i : Int) (v : V4) : MemM × Int :=
  if (mFails m).2 = false ∧ mHas m i then ({ (mFails m).1 with l := m.l.set i.toNat v }, 0) else ((mFails m).1, m.fail)
theorem mFails_l (m : MemM) : (mFails m).1.l = m.l := by unfold mFails; split <;> rfl
theorem mFails_fail (m : MemM) : (mFails m).1.fail = m.fail := by unfold mFails; split <;> rfl

/-- The disk lies at p, its row is one's own. -/
structure MemAt (base p : Nat) (A : Option Addr) (c : Nat) (m : MemM) (w : World) : Prop where
  at_ : At w p 28 [.slice A m.l.length c, .int .i64 m.fail, .int .i64 m.left]
  row : w.ownsRow base 39 4 (.slice A m.l.length c) m.l.length (v4K.all m.l)
  few : m.l.length ≤ 1000
  low : base ≤ p
section
variable {base p : Nat} {A : Option Addr} {c : Nat} {m : MemM} {w w' : World}
theorem MemAt.kept (h : MemAt base p A c m w) (hb : Below w.heap.size w w') : MemAt base p A c m w' := ⟨at_stay h.at_ hb, own_keep h.row hb, h.few, h.low⟩
theorem MemAt.reads (h : MemAt base p A c m w) : v4K.Reads w A m.l.length c m.l := by
  obtain ⟨A', c', e, hr, _⟩ := Kd.Reads.of_own (K := v4K) h.row rfl
  cases e
  exact hr
theorem own_apart {w w' : World} {base n k b : Nat} {t t' : TypeId} {v : Value} {xs cs : List Value} (h : w.ownsRow base t k v n xs) (hA : At w b t' cs) (hne : t ≠ t') (hT : Turned (Just b) w w') : w'.ownsRow base t k v n xs := by
  obtain ⟨hl, h⟩ := h
  refine ⟨hl, ?_⟩
  rcases h with h | ⟨g, cap, cur, rfl, hb, hg, h2⟩
  · exact .inl h
  · have hA' : At w g t cur.toList := by unfold At; simpa using hg
    exact .inr ⟨g, cap, cur, rfl, hb, (hT.block g (Array.getElem?_eq_some_iff.1 hg).1 (fun e => by unfold Just at e; exact hA'.ne (hA.as rfl) hne e)).trans hg, h2⟩
theorem own_small {w : World} {base n k cap g : Nat} {t : TypeId} {xs : List Value} {A : Option Addr} (h : w.ownsRow base t k (.slice A n cap) n xs) (e : A = some ⟨g, 0, none⟩) : g < w.heap.size ∧ base ≤ g := by
  subst e
  rcases h.2 with ⟨e, _⟩ | ⟨g', cap', cur, e, hb, hg, _⟩
  · cases e
  · injection e with e1 _ _
    injection e1 with e1
    injection e1 with e1
    subst e1
    exact ⟨(Array.getElem?_eq_some_iff.1 hg).1, hb⟩
theorem own_turn {S : Nat → Prop} {w w' : World} {base n k cap : Nat} {t : TypeId} {xs : List Value} {A : Option Addr} (h : w.ownsRow base t k (.slice A n cap) n xs) (hT : Turned S w w') (hS : ∀ g, A = some ⟨g, 0, none⟩ → ¬ S g) : w'.ownsRow base t k (.slice A n cap) n xs := by
  obtain ⟨hl, h⟩ := h
  refine ⟨hl, ?_⟩
  rcases h with h | ⟨g, cap', cur, e, hb, hg, h2⟩
  · exact .inl h
  · injection e with e1 e2 e3
    subst e1 e3
    exact .inr ⟨g, cap, cur, rfl, hb, (hT.block g (Array.getElem?_eq_some_iff.1 hg).1 (hS g rfl)).trans hg, h2⟩
theorem MemAt.turn {S : Nat → Prop} (h : MemAt base p A c m w) (hT : Turned S w w') (hp : ¬ S p) (hg : ∀ g, A = some ⟨g, 0, none⟩ → ¬ S g) : MemAt base p A c m w' := ⟨h.at_.kept hT hp, own_turn h.row hT hg, h.few, h.low⟩
theorem MemAt.small (h : MemAt base p A c m w) : ∀ g, A = some ⟨g, 0, none⟩ → g < w.heap.size := fun _ e => (own_small h.row e).1
/-- The blocks of a disk in memory. -/
def MemS (p : Nat) (A : Option Addr) : Nat → Prop := fun k => k = p ∨ A = some ⟨k, 0, none⟩

set_option maxRecDepth 100000 in
set_option maxHeartbeats 1000000 in
theorem mfails_any (h : MemAt base p A c m w) (_l0 : -9223372036854775808 ≤ m.left) (_l1 : m.left ≤ 9223372036854775807) :
    Calls Try.prog 49 #[.pointer (some ⟨p, 0, none⟩)] w fun e w' => e = .returned (.bool (mFails m).2) ∧ MemAt base p A c (mFails m).1 w' ∧ Turned (Just p) w w' := by
  have c1 : w.cell? ⟨p, 1, none⟩ = some (.int .i64 m.fail) := h.at_.cell 1
  have c2 : w.cell? ⟨p, 2, none⟩ = some (.int .i64 m.left) := h.at_.cell 2
  have f2 := h.at_.frozen 2
  have H := Lib.hid h
  clear h
  have hcase : ((m.fail != 0) = true ∧ (m.left == 0) = true ∧ mFails m = (m, true)) ∨ ((m.fail != 0) = true ∧ (m.left == 0) = false ∧ mFails m = ({ m with left := wrap64 (m.left - 1) }, false)) ∨ ((m.fail != 0) = false ∧ mFails m = ({ m with left := wrap64 (m.left - 1) }, false)) := by
    unfold mFails
    by_cases h1 : m.fail = 0
    · exact .inr (.inr ⟨by simp [h1], by rw [if_neg (by simp [h1])]⟩)
    · by_cases h2 : m.left = 0
      · exact .inl ⟨by simp [h1], by simp [h2], by rw [if_pos ⟨h1, h2⟩]⟩
      · exact .inr (.inl ⟨by simp [h1], by simp [h2], by rw [if_neg (by simp [h2])]⟩)
  have fin : ∀ u : Int, MemAt base p A c { m with left := u } (w.setCell ⟨p, 2, none⟩ (.int .i64 u)) := fun u => ⟨(H.out.at_.put 2 _).as rfl, own_apart H.out.row H.out.at_ (by decide) (turned_set _ _ _ _), H.out.few, H.out.low⟩
  have FIN := Lib.hid fin
  clear fin
  rcases hcase with ⟨h1, h2, h3⟩ | ⟨h1, h2, h3⟩ | ⟨h1, h3⟩
  · have H3 := Lib.hid h3
    clear h3
    go_enter Try.func49, Try.ntmps49
    go_wp2
    go_ret
    rw [H3.out]
    exact ⟨rfl, H.out, Turned.refl _ _⟩
  · have H3 := Lib.hid h3
    clear h3
    go_enter Try.func49, Try.ntmps49
    go_wp2
    go_ret
    rw [H3.out]
    exact ⟨rfl, FIN.out _, turned_set _ _ _ _⟩
  · have H3 := Lib.hid h3
    clear h3
    go_enter Try.func49, Try.ntmps49
    go_wp2
    go_ret
    rw [H3.out]
    exact ⟨rfl, FIN.out _, turned_set _ _ _ _⟩

theorem msize_any (h : MemAt base p A c m w) : Calls Try.prog 46 #[.pointer (some ⟨p, 0, none⟩)] w fun e w' => e = .returned (.int .i64 m.l.length) ∧ w' = w := by
  have c0 : w.cell? ⟨p, 0, none⟩ = some (.slice A m.l.length c) := h.at_.cell 0
  go_enter Try.func46, Try.ntmps46
  go_wp2
  go_ret
  exact ⟨rfl, rfl⟩

/-- Where it reads, and writes: three ways. -/
theorem m_ways (m : MemM) (i : Int) : ((mFails m).2 = true ∧ ¬ ((mFails m).2 = false ∧ mHas m i)) ∨ ((mFails m).2 = false ∧ i < 0 ∧ ¬ ((mFails m).2 = false ∧ mHas m i)) ∨ ((mFails m).2 = false ∧ 0 ≤ i ∧ ¬ i < (m.l.length : Int) ∧ ¬ ((mFails m).2 = false ∧ mHas m i)) ∨ ((mFails m).2 = false ∧ 0 ≤ i ∧ i < (m.l.length : Int) ∧ (mFails m).2 = false ∧ mHas m i) := by
  unfold mHas
  cases (mFails m).2
  · by_cases h1 : i < 0
    · exact .inr (.inl ⟨rfl, h1, fun h => by omega⟩)
    · by_cases h2 : i < (m.l.length : Int)
      · exact .inr (.inr (.inr ⟨rfl, by omega, h2, rfl, by omega, h2⟩))
      · exact .inr (.inr (.inl ⟨rfl, by omega, h2, fun h => by omega⟩))
  · exact .inl ⟨rfl, fun h => by cases h.1⟩

set_option maxRecDepth 100000 in
set_option maxHeartbeats 2000000 in
theorem mread_any (h : MemAt base p A c m w) (l0 : -9223372036854775808 ≤ m.left) (l1 : m.left ≤ 9223372036854775807) (_hb : base ≤ w.heap.size) (i : Int) :
    Calls Try.prog 45 #[.pointer (some ⟨p, 0, none⟩), .int .i64 i] w fun e w' => e = .returned (.tuple #[.agg (v4C (mGet10 m i).2.1).toArray, .int .i64 (mGet10 m i).2.2]) ∧ MemAt base p A c (mGet10 m i).1 w' ∧ Turned (Just p) w w' := by
  obtain ⟨W0, hW0⟩ : ∃ W0, W0 = w.alloc (.cells #[.int .u32 0, .int .u32 0, .int .u32 0, .int .u32 0] 39) := ⟨_, rfl⟩
  have b0 : Below w.heap.size w W0 := by rw [hW0]; exact (Below.refl _ w).alloc (Nat.le_refl _) _
  have a0 : At W0 w.heap.size 39 (v4C v40) := by rw [hW0]; exact At.news w _ [.int .u32 0, .int .u32 0, .int .u32 0, .int .u32 0]
  have hf := mfails_any (h.kept b0) l0 l1
  obtain ⟨m1, hm1⟩ : ∃ m1, m1 = (mFails m).1 := ⟨_, rfl⟩
  obtain ⟨q, hq⟩ : ∃ q, q = (mFails m).2 := ⟨_, rfl⟩
  have hml : m1.l = m.l := by rw [hm1, mFails_l]
  have hmf : m1.fail = m.fail := by rw [hm1, mFails_fail]
  have hp := h.at_.lt
  have HSM := Lib.hid h.small
  have hr : mGet10 m i = if q = false ∧ mHas m i then (m1, vN m.l i.toNat, 0) else (m1, v40, m.fail) := by rw [hq, hm1]; rfl
  have hw := m_ways m i
  rw [← hq] at hw hf
  rw [← hm1] at hf
  have HF := Lib.hid hf
  have HB0 := Lib.hid b0
  have HA0 := Lib.hid a0
  have HR := Lib.hid hr
  have HP := Lib.hid hp
  have HML := Lib.hid hml
  have HMF := Lib.hid hmf
  clear h b0 a0 hf hm1 hq hml hmf hp hr
  go_enter Try.func45, Try.ntmps45
  go_upto_region 1 with (fail)
  change Code.wp _ _ _ _ (w.alloc (.cells #[.int .u32 0, .int .u32 0, .int .u32 0, .int .u32 0] 39))
  rw [← hW0]
  clear hW0
  have HFIN : Hid (∀ w1 V, MemAt base p A c m1 w1 → Turned (Just p) W0 w1 → Turned (Just w.heap.size) w1 V → MemAt base p A c m1 V ∧ Turned (Just p) w V) := Lib.hid (fun w1 V h1 h2 h3 => ⟨h1.turn h3 (fun e => by have := HP.out; unfold Just at e; omega) (fun g e e2 => by have := HSM.out g e; unfold Just at e2; omega), by
    have t1 := (Turned.of_below HB0.out (Nat.le_refl _) (Just p)).trans h2
    exact t1.after h3 (fun i hi e => by unfold Just at e; omega)⟩)
  rcases hw with ⟨rfl, h1⟩ | ⟨rfl, h2, h1⟩ | ⟨rfl, h2, h3, h1⟩ | ⟨rfl, h2, h3, h1⟩
  · rw [if_neg h1] at HR
    clear h1
    go_upto_region 2 with (first
      | (go_at_call 49; (with_reducible refine HF.out.mono ?_); rintro e w1 ⟨rfl, hm, ht⟩; have HM := Lib.hid hm; have HT := Lib.hid ht; have g1 : w1.cell? ⟨p, 1, none⟩ = some (.int .i64 m1.fail) := hm.at_.cell 1; have g0 : w1.cell? ⟨p, 0, none⟩ = some (.slice A m1.l.length c) := hm.at_.cell 0; have ha := HA0.out.kept ht (fun e => by have := HP.out; unfold Just at e; omega); have HA1 := Lib.hid ha; clear hm ht ha))
    have k0 : w1.cell? ⟨w.heap.size, 0, none⟩ = some (.int .u32 0) := HA1.out.cell 0
    have k1 : w1.cell? ⟨w.heap.size, 1, none⟩ = some (.int .u32 0) := HA1.out.cell 1
    have k2 : w1.cell? ⟨w.heap.size, 2, none⟩ = some (.int .u32 0) := HA1.out.cell 2
    have k3 : w1.cell? ⟨w.heap.size, 3, none⟩ = some (.int .u32 0) := HA1.out.cell 3
    have f0 := HA1.out.frozen 0
    have f1 := HA1.out.frozen 1
    have f2 := HA1.out.frozen 2
    have f3 := HA1.out.frozen 3
    have np : p ≠ w.heap.size := by have := HP.out; omega
    have np' : w.heap.size ≠ p := by have := HP.out; omega
    go_region
    have a9 := ((((HA1.out.put 0 (.int .u32 0)).put 1 (.int .u32 0)).put 2 (.int .u32 0)).put 3 (.int .u32 0)).drew
    have t9 := ((((turned_set w1 w.heap.size 0 (.int .u32 0)).trans (turned_set _ _ 1 (.int .u32 0))).trans (turned_set _ _ 2 (.int .u32 0))).trans (turned_set _ _ 3 (.int .u32 0))).drew
    have fin := HFIN.out w1 _ HM.out HT.out t9
    have HN9 := Lib.hid fin
    have HA9 := Lib.hid a9
    clear a9 t9 fin k0 k1 k2 k3 f0 f1 f2 f3 g0 g1
    go_wp2
    refine bodyPost_ret (res_cell2 Try.results45 _ Try.underlying39 rfl v4_size rfl rfl HA9.out rfl) rfl ?_
    rw [HR.out, ← HMF.out]
    exact ⟨rfl, HN9.out⟩
  · rw [if_neg h1] at HR
    clear h1
    go_upto_region 2 with (first
      | (go_at_call 49; (with_reducible refine HF.out.mono ?_); rintro e w1 ⟨rfl, hm, ht⟩; have HM := Lib.hid hm; have HT := Lib.hid ht; have g1 : w1.cell? ⟨p, 1, none⟩ = some (.int .i64 m1.fail) := hm.at_.cell 1; have g0 : w1.cell? ⟨p, 0, none⟩ = some (.slice A m1.l.length c) := hm.at_.cell 0; have ha := HA0.out.kept ht (fun e => by have := HP.out; unfold Just at e; omega); have HA1 := Lib.hid ha; clear hm ht ha))
    have k0 : w1.cell? ⟨w.heap.size, 0, none⟩ = some (.int .u32 0) := HA1.out.cell 0
    have k1 : w1.cell? ⟨w.heap.size, 1, none⟩ = some (.int .u32 0) := HA1.out.cell 1
    have k2 : w1.cell? ⟨w.heap.size, 2, none⟩ = some (.int .u32 0) := HA1.out.cell 2
    have k3 : w1.cell? ⟨w.heap.size, 3, none⟩ = some (.int .u32 0) := HA1.out.cell 3
    have f0 := HA1.out.frozen 0
    have f1 := HA1.out.frozen 1
    have f2 := HA1.out.frozen 2
    have f3 := HA1.out.frozen 3
    have np : p ≠ w.heap.size := by have := HP.out; omega
    have np' : w.heap.size ≠ p := by have := HP.out; omega
    go_region
    have a9 := ((((HA1.out.put 0 (.int .u32 0)).put 1 (.int .u32 0)).put 2 (.int .u32 0)).put 3 (.int .u32 0)).drew
    have t9 := ((((turned_set w1 w.heap.size 0 (.int .u32 0)).trans (turned_set _ _ 1 (.int .u32 0))).trans (turned_set _ _ 2 (.int .u32 0))).trans (turned_set _ _ 3 (.int .u32 0))).drew
    have fin := HFIN.out w1 _ HM.out HT.out t9
    have HN9 := Lib.hid fin
    have HA9 := Lib.hid a9
    clear a9 t9 fin k0 k1 k2 k3 f0 f1 f2 f3 g0 g1
    go_wp2
    refine bodyPost_ret (res_cell2 Try.results45 _ Try.underlying39 rfl v4_size rfl rfl HA9.out rfl) rfl ?_
    rw [HR.out, ← HMF.out]
    exact ⟨rfl, HN9.out⟩
  · rw [← HML.out] at h3
    rw [if_neg h1] at HR
    clear h1
    go_upto_region 2 with (first
      | (go_at_call 49; (with_reducible refine HF.out.mono ?_); rintro e w1 ⟨rfl, hm, ht⟩; have HM := Lib.hid hm; have HT := Lib.hid ht; have g1 : w1.cell? ⟨p, 1, none⟩ = some (.int .i64 m1.fail) := hm.at_.cell 1; have g0 : w1.cell? ⟨p, 0, none⟩ = some (.slice A m1.l.length c) := hm.at_.cell 0; have ha := HA0.out.kept ht (fun e => by have := HP.out; unfold Just at e; omega); have HA1 := Lib.hid ha; clear hm ht ha))
    have k0 : w1.cell? ⟨w.heap.size, 0, none⟩ = some (.int .u32 0) := HA1.out.cell 0
    have k1 : w1.cell? ⟨w.heap.size, 1, none⟩ = some (.int .u32 0) := HA1.out.cell 1
    have k2 : w1.cell? ⟨w.heap.size, 2, none⟩ = some (.int .u32 0) := HA1.out.cell 2
    have k3 : w1.cell? ⟨w.heap.size, 3, none⟩ = some (.int .u32 0) := HA1.out.cell 3
    have f0 := HA1.out.frozen 0
    have f1 := HA1.out.frozen 1
    have f2 := HA1.out.frozen 2
    have f3 := HA1.out.frozen 3
    have np : p ≠ w.heap.size := by have := HP.out; omega
    have np' : w.heap.size ≠ p := by have := HP.out; omega
    go_region
    have a9 := ((((HA1.out.put 0 (.int .u32 0)).put 1 (.int .u32 0)).put 2 (.int .u32 0)).put 3 (.int .u32 0)).drew
    have t9 := ((((turned_set w1 w.heap.size 0 (.int .u32 0)).trans (turned_set _ _ 1 (.int .u32 0))).trans (turned_set _ _ 2 (.int .u32 0))).trans (turned_set _ _ 3 (.int .u32 0))).drew
    have fin := HFIN.out w1 _ HM.out HT.out t9
    have HN9 := Lib.hid fin
    have HA9 := Lib.hid a9
    clear a9 t9 fin k0 k1 k2 k3 f0 f1 f2 f3 g0 g1
    go_wp2
    refine bodyPost_ret (res_cell2 Try.results45 _ Try.underlying39 rfl v4_size rfl rfl HA9.out rfl) rfl ?_
    rw [HR.out, ← HMF.out]
    exact ⟨rfl, HN9.out⟩
  · rw [if_pos h1] at HR
    clear h1
    obtain ⟨j, rfl⟩ : ∃ j : Nat, i = (j : Int) := ⟨i.toNat, by omega⟩
    have hj : j < m.l.length := by omega
    rw [← HML.out] at hj h3
    have HJ := Lib.hid hj
    clear hj
    go_upto_region 3 with (first
      | (go_at_call 49; (with_reducible refine HF.out.mono ?_); rintro e w1 ⟨rfl, hm, ht⟩; have HM := Lib.hid hm; have HT := Lib.hid ht; have g0 : w1.cell? ⟨p, 0, none⟩ = some (.slice A m1.l.length c) := hm.at_.cell 0; have ha := HA0.out.kept ht (fun e => by have := HP.out; unfold Just at e; omega); have HA1 := Lib.hid ha; clear hm ht ha))
    obtain ⟨g, off, rfl, _, hr⟩ := HM.out.reads.at_ HJ.out
    obtain ⟨v, hv⟩ : ∃ v, v = v4K.nth m1.l j := ⟨_, rfl⟩
    rw [← hv] at hr
    have HV := Lib.hid hv
    have HRR := Lib.hid hr
    clear hv hr
    go_wp2_with (first
      | (refine wpList_ldr (xs := v4C v) _ rfl rfl rfl Try.underlying39 rfl v4_size (v4_len _) HRR.out ?_)
      | (refine wpList_stm (pre := []) (post := []) (xs := v4C v40) (ys := v4C v) _ _ rfl rfl rfl rfl v4_size (v4_len _) (v4_len _) (v4_one _) rfl (by simp) HA1.out ?_; intro V A9 T9; rw [List.nil_append, List.append_nil] at A9; have HA9 := Lib.hid A9; have HT9 := Lib.hid T9; clear A9 T9))
    have fin := HFIN.out w1 _ HM.out HT.out HT9.out
    refine bodyPost_ret (res_cell2 Try.results45 _ Try.underlying39 rfl v4_size rfl rfl HA9.out (v4_len _)) rfl ?_
    rw [HR.out]
    refine ⟨?_, fin⟩
    rw [HV.out, HML.out]
    rfl

set_option maxRecDepth 100000 in
set_option maxHeartbeats 2000000 in
theorem mwrite_any (h : MemAt base p A c m w) (l0 : -9223372036854775808 ≤ m.left) (l1 : m.left ≤ 9223372036854775807) (_hb : base ≤ w.heap.size) (i : Int) (v : V4) :
    Calls Try.prog 48 #[.pointer (some ⟨p, 0, none⟩), .int .i64 i, .agg (v4C v).toArray] w fun e w' => e = .returned (.int .i64 (mWrite m i v).2) ∧ MemAt base p A c (mWrite m i v).1 w' ∧ Turned (MemS p A) w w' := by
  obtain ⟨W0, hW0⟩ : ∃ W0, W0 = w.alloc (.cells (v4C v).toArray 39) := ⟨_, rfl⟩
  have b0 : Below w.heap.size w W0 := by rw [hW0]; exact (Below.refl _ w).alloc (Nat.le_refl _) _
  have a0 : At W0 w.heap.size 39 (v4C v) := by rw [hW0]; exact At.news w _ _
  have hf := mfails_any (h.kept b0) l0 l1
  obtain ⟨m1, hm1⟩ : ∃ m1, m1 = (mFails m).1 := ⟨_, rfl⟩
  obtain ⟨q, hq⟩ : ∃ q, q = (mFails m).2 := ⟨_, rfl⟩
  have hml : m1.l = m.l := by rw [hm1, mFails_l]
  have hmf : m1.fail = m.fail := by rw [hm1, mFails_fail]
  have hp := h.at_.lt
  have HSM := Lib.hid h.small
  have hr : mWrite m i v = if q = false ∧ mHas m i then ({ m1 with l := m.l.set i.toNat v }, 0) else (m1, m.fail) := by rw [hq, hm1]; rfl
  have hw := m_ways m i
  rw [← hq] at hw hf
  rw [← hm1] at hf
  have HF := Lib.hid hf
  have HB0 := Lib.hid b0
  have HA0 := Lib.hid a0
  have HR := Lib.hid hr
  have HP := Lib.hid hp
  have HML := Lib.hid hml
  have HMF := Lib.hid hmf
  clear h b0 a0 hf hm1 hq hml hmf hp hr
  go_enter Try.func48, Try.ntmps48
  go_upto_region 1 with (fail)
  change Code.wp _ _ _ _ (w.alloc (.cells (v4C v).toArray 39))
  rw [← hW0]
  clear hW0
  have HFIN : Hid (∀ w1, Turned (Just p) W0 w1 → Turned (MemS p A) w w1) := Lib.hid (fun w1 h2 => ((Turned.of_below HB0.out (Nat.le_refl _) (Just p)).trans h2).mono (fun i _ e => .inl (by unfold Just at e; exact e)))
  rcases hw with ⟨rfl, h1⟩ | ⟨rfl, h2, h1⟩ | ⟨rfl, h2, h3, h1⟩ | ⟨rfl, h2, h3, h1⟩
  case inr.inr.inr =>
    rw [if_pos h1] at HR
    clear h1
    obtain ⟨j, rfl⟩ : ∃ j : Nat, i = (j : Int) := ⟨i.toNat, by omega⟩
    have hj : j < m.l.length := by omega
    rw [← HML.out] at hj h3
    have HJ := Lib.hid hj
    clear hj
    go_upto_region 3 with (first
      | (go_at_call 49; (with_reducible refine HF.out.mono ?_); rintro e w1 ⟨rfl, hm, ht⟩; have HM := Lib.hid hm; have HT := Lib.hid ht; have g0 : w1.cell? ⟨p, 0, none⟩ = some (.slice A m1.l.length c) := hm.at_.cell 0; have ha := HA0.out.kept ht (fun e => by have := HP.out; unfold Just at e; omega); have HA1 := Lib.hid ha; clear hm ht ha))
    obtain ⟨g, rfl, hg, hgl⟩ := own_some HM.out.row (by have := HJ.out; omega)
    obtain ⟨rest, hA, hp2, _, hset⟩ := own_around HM.out.row HJ.out
    have hgw := (HSM.out g rfl)
    obtain ⟨c0, c1, c2, c3⟩ := v4_cells hA.range
    have hp3 : (v4K.all (m1.l.take j)).length = j * 4 := hp2
    rw [hp3] at c0 c1 c2 c3
    have f0 := hA.frozen (j * 4)
    have f1 := hA.frozen (j * 4 + 1)
    have f2 := hA.frozen (j * 4 + 2)
    have f3 := hA.frozen (j * 4 + 3)
    obtain ⟨d0, d1, d2, d3⟩ := v4_cells HA1.out.rng0
    simp only [Nat.zero_add] at d0 d1 d2 d3
    have np : g ≠ w.heap.size := by omega
    have np' : w.heap.size ≠ g := by omega
    have ng : g ≠ p := hA.ne HM.out.at_ (by decide)
    have ng' : p ≠ g := fun e => ng e.symm
    have a9 := At.setCells (v4C v) _ _ hA rfl
    have t9 := turned_setCells g (v4C v) (j * 4) w1
    rw [hp3] at a9
    obtain ⟨V, hV⟩ : ∃ V, V = w1.setCells g (j * 4) (v4C v) := ⟨_, rfl⟩
    rw [← hV] at a9 t9
    have hfin : MemAt base p (some ⟨g, 0, none⟩) c { m1 with l := m1.l.set j v } V.drew := ⟨by
      show At V.drew p _ [.slice _ (m1.l.set j v).length c, _, _]
      rw [List.length_set]
      exact (HM.out.at_.kept t9 (fun e => by unfold Just at e; exact ng' e)).drew, by
      show V.drew.ownsRow base _ 4 (.slice _ (m1.l.set j v).length c) (m1.l.set j v).length _
      rw [List.length_set]
      exact hset V v a9, by
      show (m1.l.set j v).length ≤ 1000
      rw [List.length_set]
      exact HM.out.few, HM.out.low⟩
    have htt : Turned (MemS p (some ⟨g, 0, none⟩)) w V.drew := ((HFIN.out w1 HT.out).trans (t9.mono (fun i _ e => .inr (by unfold Just at e; rw [e])))).drew
    have H9 := Lib.hid hfin
    have HTT := Lib.hid htt
    have HVE : Hid (V.drew = ((((w1.setCell ⟨g, j * 4, none⟩ (.int .u32 (U v.a))).setCell ⟨g, j * 4 + 1, none⟩ (.int .u32 (U v.b))).setCell ⟨g, j * 4 + 2, none⟩ (.int .u32 (U v.c))).setCell ⟨g, j * 4 + 3, none⟩ (.int .u32 (U v.d))).drew) := Lib.hid (by rw [hV]; rfl)
    clear hA hset hp2 hp3 a9 t9 hV hfin htt
    go_region
    rw [← HVE.out]
    clear c0 c1 c2 c3 f0 f1 f2 f3 d0 d1 d2 d3 g0
    go_wp2
    go_ret
    rw [HR.out, ← HML.out]
    exact ⟨rfl, H9.out, HTT.out⟩
  all_goals
    try rw [← HML.out] at h3
    rw [if_neg h1] at HR
    clear h1
    go_wp2_with (first
      | (go_at_call 49; (with_reducible refine HF.out.mono ?_); rintro e w1 ⟨rfl, hm, ht⟩; have HM := Lib.hid hm; have HT := Lib.hid ht; have g1 : w1.cell? ⟨p, 1, none⟩ = some (.int .i64 m1.fail) := hm.at_.cell 1; have g0 : w1.cell? ⟨p, 0, none⟩ = some (.slice A m1.l.length c) := hm.at_.cell 0; clear hm ht))
    go_ret
    rw [HR.out, ← HMF.out]
    exact ⟨rfl, HM.out, HFIN.out _ HT.out⟩
end
end Go.Proofs.Ytpkkejdjhnmjiaa
