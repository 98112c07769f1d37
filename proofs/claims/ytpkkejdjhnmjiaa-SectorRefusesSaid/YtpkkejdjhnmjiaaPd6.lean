/- The statements' disk in memory stands behind the program's device (layer sector); what all these statements ask first. -/
import Derived.Test.YtpkkejdjhnmjiaaPd5
import Derived.Test.YtpkkejdjhnmjiaaSec7
namespace Go.Proofs.Ytpkkejdjhnmjiaa
open Go.RowKit Bm

/-- The disk in memory, behind the interface. -/
def memD (B p : Nat) (A : Option Addr) (c : Nat) : Dk10 MemM where
  T := 24
  v := .pointer (some ⟨p, 0, none⟩)
  fs := 46
  fr := 45
  fw := 48
  ft := 47
  B := B
  st := fun K m w => MemAt B p A c m w ∧ ¬ K p ∧ (∀ g, A = some ⟨g, 0, none⟩ → ¬ K g) ∧ (∀ i, K i → i < w.heap.size) ∧ B ≤ w.heap.size ∧ -9223372036854775808 ≤ m.left ∧ m.left ≤ 9223372036854775807
  len := fun m => m.l.length
  rd := fun m i => mGet10 m i
  wr := fun m i x => mWrite m i x
  tr := fun m i => mWrite m i v40
  room := fun _ _ => True
theorem mFails_left {m : MemM} (h : -9223372036854775808 ≤ m.left ∧ m.left ≤ 9223372036854775807) : -9223372036854775808 ≤ (mFails m).1.left ∧ (mFails m).1.left ≤ 9223372036854775807 := by
  unfold mFails
  split
  · exact h
  · exact ⟨w64_lo _, w64_hi _⟩
theorem mGet10_left {m : MemM} (i : Int) (h : -9223372036854775808 ≤ m.left ∧ m.left ≤ 9223372036854775807) : -9223372036854775808 ≤ (mGet10 m i).1.left ∧ (mGet10 m i).1.left ≤ 9223372036854775807 := by
  unfold mGet10
  split <;> exact mFails_left h
theorem mWrite_left {m : MemM} (i : Int) (x : V4) (h : -9223372036854775808 ≤ m.left ∧ m.left ≤ 9223372036854775807) : -9223372036854775808 ≤ (mWrite m i x).1.left ∧ (mWrite m i x).1.left ≤ 9223372036854775807 := by
  unfold mWrite
  split <;> exact mFails_left h
theorem mGet10_len (m : MemM) (i : Int) : (mGet10 m i).1.l.length = m.l.length := by
  unfold mGet10
  split <;> rw [mFails_l]
theorem mWrite_len (m : MemM) (i : Int) (x : V4) : (mWrite m i x).1.l.length = m.l.length := by
  unfold mWrite
  split
  · exact List.length_set
  · rw [mFails_l]
theorem mem_is (B p : Nat) (A : Option Addr) (c : Nat) : (memD B p A c).Is where
  ms := fun k w => meth_sectors k p w
  mr := fun k w => meth_read k p w
  mw := fun k w => meth_write k p w
  mt := fun k w => meth_trim k p w
  gs := fun args w => by kernel_rfl
  gr := fun args w => by kernel_rfl
  gw := fun args w => by kernel_rfl
  gt := fun args w => by kernel_rfl
  one := rfl
  few := fun h => h.1.few
  low := fun h => h.2.2.2.2.1
  kin := fun h => h.2.2.2.1
  move := fun {K K' S m w w'} h hs t hK => ⟨h.1.turn t (fun e => h.2.1 (hs _ e)) (fun g e e2 => h.2.2.1 g e (hs _ e2)), fun e => by
      rcases (hK _ e).1 with h1 | h1
      · exact h.2.1 h1
      · have := h.1.at_.lt
        omega, fun g e e2 => by
      rcases (hK _ e2).1 with h1 | h1
      · exact h.2.2.1 g e h1
      · have := h.1.small g e
        omega, fun i e => (hK i e).2, Nat.le_trans h.2.2.2.2.1 t.size, h.2.2.2.2.2⟩
  cs := fun h => msize_any h.1
  cr := fun {K m w} h _ i hi => (mread_any h.1 h.2.2.2.2.2.1 h.2.2.2.2.2.2 h.2.2.2.2.1 i).mono fun e w' ⟨h1, h2, h3⟩ => ⟨h1, ⟨h2, h.2.1, h.2.2.1, fun i e => Nat.lt_of_lt_of_le (h.2.2.2.1 i e) h3.size, Nat.le_trans h.2.2.2.2.1 h3.size, mGet10_left _ h.2.2.2.2.2⟩, h3.mono fun i _ e => by rw [show i = p from e]; exact ⟨h.1.low, h.2.1⟩⟩
  cw := fun {K m w} h _ i hi x => (mwrite_any h.1 h.2.2.2.2.2.1 h.2.2.2.2.2.2 h.2.2.2.2.1 i x).mono fun e w' ⟨h1, h2, h3⟩ => ⟨h1, ⟨h2, h.2.1, h.2.2.1, fun i e => Nat.lt_of_lt_of_le (h.2.2.2.1 i e) h3.size, Nat.le_trans h.2.2.2.2.1 h3.size, mWrite_left _ _ h.2.2.2.2.2⟩, h3.mono fun i _ e => by
    rcases e with rfl | e
    · exact ⟨h.1.low, h.2.1⟩
    · exact ⟨(own_small h.1.row e).2, h.2.2.1 i e⟩⟩
  ct := fun {K m w} h _ i hi => (mtrim_any h.1 h.2.2.2.2.2.1 h.2.2.2.2.2.2 h.2.2.2.2.1 i).mono fun e w' ⟨h1, h2, h3⟩ => ⟨h1, ⟨h2, h.2.1, h.2.2.1, fun i e => Nat.lt_of_lt_of_le (h.2.2.2.1 i e) h3.size, Nat.le_trans h.2.2.2.2.1 h3.size, mWrite_left _ _ h.2.2.2.2.2⟩, h3.mono fun i _ e => by
    rcases e with rfl | e
    · exact ⟨h.1.low, h.2.1⟩
    · exact ⟨(own_small h.1.row e).2, h.2.2.1 i e⟩⟩
  lr := fun m i => mGet10_len m i
  lw := fun m i x => mWrite_len m i x
  lt := fun m i => mWrite_len m i v40
  rr := fun _ _ _ _ => trivial
  rw := fun _ _ _ _ _ => trivial
  rt := fun _ _ _ _ => trivial
  rl := fun _ _ _ => trivial
/-- A disk that doesn't fail keeps what it was told. -/
theorem mem_faith (B p : Nat) (A : Option Addr) (c : Nat) : Faith (memD B p A c) (fun m => m.fail = 0) (fun m => m.l) where
  len := fun _ => rfl
  rd := fun m i h hi => by
    have hq : (mFails m).2 = false := by unfold mFails; rw [if_neg (fun e => e.1 h)]
    have hh : mHas m (i : Int) := ⟨by omega, by have : i < m.l.length := hi; omega⟩
    show (mGet10 m i).2 = _ ∧ (mGet10 m i).1.l = m.l ∧ (mGet10 m i).1.fail = 0
    unfold mGet10
    rw [if_pos ⟨hq, hh⟩]
    exact ⟨rfl, mFails_l m, (mFails_fail m).trans h⟩
  wr := fun m i x h hi => by
    have hq : (mFails m).2 = false := by unfold mFails; rw [if_neg (fun e => e.1 h)]
    have hh : mHas m (i : Int) := ⟨by omega, by have : i < m.l.length := hi; omega⟩
    show (mWrite m i x).2 = 0 ∧ (mWrite m i x).1.l = m.l.set i x ∧ (mWrite m i x).1.fail = 0
    unfold mWrite
    rw [if_pos ⟨hq, hh⟩]
    exact ⟨rfl, rfl, (mFails_fail m).trans h⟩
  tr := fun m i h hi => by
    have hq : (mFails m).2 = false := by unfold mFails; rw [if_neg (fun e => e.1 h)]
    have hh : mHas m (i : Int) := ⟨by omega, by have : i < m.l.length := hi; omega⟩
    show (mWrite m i v40).2 = 0 ∧ (mWrite m i v40).1.l = m.l.set i v40 ∧ (mWrite m i v40).1.fail = 0
    unfold mWrite
    rw [if_pos ⟨hq, hh⟩]
    exact ⟨rfl, rfl, (mFails_fail m).trans h⟩
/-- A disk in memory that was just made. -/
theorem mem_new {B c : Nat} {w w1 : World} {A : Option Addr} {m : MemM} (hO : w1.ownsRow B 39 4 (.slice A m.l.length c) m.l.length (v4K.all m.l)) (hl : m.l.length ≤ 1000) (hm : -9223372036854775808 ≤ m.left ∧ m.left ≤ 9223372036854775807) (hB : B ≤ w1.heap.size) {K : Nat → Prop} (hK : ∀ i, K i → i < w1.heap.size) (hg : ∀ g, A = some ⟨g, 0, none⟩ → ¬ K g)
    (hw : w = w1.alloc (.cells [.slice A m.l.length c, .int .i64 m.fail, .int .i64 m.left].toArray 28)) : (memD B w1.heap.size A c).st K m w := by
  subst hw
  refine ⟨⟨At.news w1 _ _, own_keep hO ((Below.refl _ w1).alloc (Nat.le_refl _) _), hl, hB⟩, fun e => by have := hK _ e; omega, hg, fun i e => by rw [World.size_alloc]; have := hK i e; omega, by rw [World.size_alloc]; omega, hm⟩
/-- A device of such a disk. -/
theorem new_mem {B c : Nat} {w w1 : World} {A : Option Addr} {m : MemM} (hO : w1.ownsRow B 39 4 (.slice A m.l.length c) m.l.length (v4K.all m.l)) (hl : m.l.length ≤ 1000) (hm : -9223372036854775808 ≤ m.left ∧ m.left ≤ 9223372036854775807) (hB : B ≤ w1.heap.size) {K : Nat → Prop} (hK : ∀ i, K i → i < w1.heap.size) (hg : ∀ g, A = some ⟨g, 0, none⟩ → ¬ K g)
    (hw : w = w1.alloc (.cells [.slice A m.l.length c, .int .i64 m.fail, .int .i64 m.left].toArray 28)) :
    Calls Try.prog 10 #[.iface 24 (.pointer (some ⟨w1.heap.size, 0, none⟩))] w fun e w' => ∃ q, e = .returned (.pointer (some ⟨q, 0, none⟩)) ∧ PdAt (memD B w1.heap.size A c) q K pd0 m w' ∧ Below w1.heap.size w1 w' ∧ w1.heap.size < q := by
  have hs := mem_new hO hl hm hB hK hg hw
  have hz : w.heap.size = w1.heap.size + 1 := by rw [hw, World.size_alloc]
  have h := new10 (mem_is B w1.heap.size A c) hs (fun e => by have := hK _ e; omega)
  refine h.mono ?_
  rintro e w' ⟨rfl, h1, h2⟩
  refine ⟨_, rfl, h1, ?_, by omega⟩
  have hb : Below w1.heap.size w1 w := by rw [hw]; exact (Below.refl _ w1).alloc (Nat.le_refl _) _
  exact hb.trans (h2.mono hb.size)
theorem un_below {B : Nat} {K : Nat → Prop} {w w' : World} (t : Turned (Un10 B K) w w') (hB : B ≤ w.heap.size) : Below B w w' := t.below (fun _ h => h.1) hB

/-! ### What all these statements ask first -/
def aD (f m e l b0 : BitVec 32) (p : Nat) : DvM := ⟨f, m, e, l, b0 :: List.replicate 15 0#32, p, []⟩
def aM (x : BitVec 32) (left : Int) : MemM := ⟨[⟨x, 0#32, 0#32, 0#32⟩, v40, v40], 0, left⟩
section
variable {α : Type} {D : Dk10 α} {q : Nat} {K K' S : Nat → Prop} {d d' : DvM} {a a' : α} {w w' : World}
/-- Set, what it does known. -/
theorem PdAt.setTo (h : PdAt D q K d a w) (hD : D.Is) (hr : D.room a 4) (reg : Int) (v : BitVec 32) {e0 : Int} (he : pSet D reg v d a = (d', a', e0)) {V : Int} (hV : U v = V) :
    Calls Try.prog 13 #[.pointer (some ⟨q, 0, none⟩), .int .i64 reg, .int .u32 V] w fun e w' => e = .returned (.int .i64 e0) ∧ PdAt D q K d' a' w' ∧ Turned (Un10 D.B K) w w' := by
  have := set10 h hD hr reg v
  rw [he, hV] at this
  exact this
theorem PdAt.getTo (h : PdAt D q K d a w) (hD : D.Is) (reg : Int) {e0 : Int} {v : BitVec 32} {n : Nat} (hn : D.len a = n) (he : pGet n d reg = (d', v, e0)) {V : Int} (hV : U v = V) :
    Calls Try.prog 14 #[.pointer (some ⟨q, 0, none⟩), .int .i64 reg] w fun e w' => e = .returned (.tuple #[.int .u32 V, .int .i64 e0]) ∧ PdAt D q K d' a w' ∧ Turned (Un10 D.B K) w w' := by
  have := get10 h hD reg
  rw [hn, he, hV] at this
  exact this
end
section
variable {B p q c : Nat} {A : Option Addr} {K : Nat → Prop} {w : World}
theorem alv1 (h : PdAt (memD B p A c) q K pd0 (aM 0 0) w) : Calls Try.prog 13 #[.pointer (some ⟨q, 0, none⟩), .int .i64 2, .int .u32 1] w fun e w' => e = .returned (.int .i64 0) ∧ PdAt (memD B p A c) q K (aD 0 1 0 0 0 0) (aM 0 0) w' ∧ Turned (Un10 B K) w w' := h.setTo (mem_is B p A c) trivial 2 1#32 (by kernel_rfl) rfl
theorem alv2 (h : PdAt (memD B p A c) q K (aD 0 1 0 0 0 0) (aM 0 0) w) : Calls Try.prog 13 #[.pointer (some ⟨q, 0, none⟩), .int .i64 5, .int .u32 7] w fun e w' => e = .returned (.int .i64 0) ∧ PdAt (memD B p A c) q K (aD 0 1 0 0 7 1) (aM 0 0) w' ∧ Turned (Un10 B K) w w' := h.setTo (mem_is B p A c) trivial 5 7#32 (by kernel_rfl) rfl
theorem alv3 (h : PdAt (memD B p A c) q K (aD 0 1 0 0 7 1) (aM 0 0) w) : Calls Try.prog 13 #[.pointer (some ⟨q, 0, none⟩), .int .i64 0, .int .u32 2] w fun e w' => e = .returned (.int .i64 0) ∧ PdAt (memD B p A c) q K (aD 0 1 0 1 7 0) (aM 7 (-1)) w' ∧ Turned (Un10 B K) w w' := h.setTo (mem_is B p A c) trivial 0 2#32 (by kernel_rfl) rfl
theorem alv4 (h : PdAt (memD B p A c) q K (aD 0 1 0 1 7 0) (aM 7 (-1)) w) : Calls Try.prog 13 #[.pointer (some ⟨q, 0, none⟩), .int .i64 7, .int .u32 1] w fun e w' => e = .returned (.int .i64 0) ∧ PdAt (memD B p A c) q K (aD 0 1 0 0 7 0) (aM 7 (-1)) w' ∧ Turned (Un10 B K) w w' := h.setTo (mem_is B p A c) trivial 7 1#32 (by kernel_rfl) rfl
theorem alv5 (h : PdAt (memD B p A c) q K (aD 0 1 0 0 7 0) (aM 7 (-1)) w) : Calls Try.prog 13 #[.pointer (some ⟨q, 0, none⟩), .int .i64 5, .int .u32 9] w fun e w' => e = .returned (.int .i64 0) ∧ PdAt (memD B p A c) q K (aD 0 1 0 0 9 1) (aM 7 (-1)) w' ∧ Turned (Un10 B K) w w' := h.setTo (mem_is B p A c) trivial 5 9#32 (by kernel_rfl) rfl
theorem alv6 (h : PdAt (memD B p A c) q K (aD 0 1 0 0 9 1) (aM 7 (-1)) w) : Calls Try.prog 13 #[.pointer (some ⟨q, 0, none⟩), .int .i64 0, .int .u32 1] w fun e w' => e = .returned (.int .i64 0) ∧ PdAt (memD B p A c) q K (aD 0 1 0 1 7 0) (aM 7 (-2)) w' ∧ Turned (Un10 B K) w w' := h.setTo (mem_is B p A c) trivial 0 1#32 (by kernel_rfl) rfl
theorem alv7 {x : BitVec 32} {n : Int} (h : PdAt (memD B p A c) q K (aD 0 1 0 1 7 0) (aM x n) w) : Calls Try.prog 14 #[.pointer (some ⟨q, 0, none⟩), .int .i64 5] w fun e w' => e = .returned (.tuple #[.int .u32 7, .int .i64 0]) ∧ PdAt (memD B p A c) q K (aD 0 1 0 1 7 1) (aM x n) w' ∧ Turned (Un10 B K) w w' := h.getTo (mem_is B p A c) 5 rfl (show pGet 3 (aD 0 1 0 1 7 0) 5 = (aD 0 1 0 1 7 1, 7#32, 0) by kernel_rfl) rfl
theorem alv8 {x : BitVec 32} {n : Int} (h : PdAt (memD B p A c) q K (aD 0 1 0 1 7 1) (aM x n) w) : Calls Try.prog 14 #[.pointer (some ⟨q, 0, none⟩), .int .i64 6] w fun e w' => e = .returned (.tuple #[.int .u32 3, .int .i64 0]) ∧ PdAt (memD B p A c) q K (aD 0 1 0 1 7 1) (aM x n) w' ∧ Turned (Un10 B K) w w' := h.getTo (mem_is B p A c) 6 rfl (show pGet 3 (aD 0 1 0 1 7 1) 6 = (aD 0 1 0 1 7 1, 3#32, 0) by kernel_rfl) rfl
theorem alv9 {x : BitVec 32} {n : Int} (h : PdAt (memD B p A c) q K (aD 0 1 0 1 7 1) (aM x n) w) : Calls Try.prog 14 #[.pointer (some ⟨q, 0, none⟩), .int .i64 8] w fun e w' => e = .returned (.tuple #[.int .u32 0, .int .i64 3]) ∧ PdAt (memD B p A c) q K (aD 0 1 0 1 7 1) (aM x n) w' ∧ Turned (Un10 B K) w w' := h.getTo (mem_is B p A c) 8 rfl (show pGet 3 (aD 0 1 0 1 7 1) 8 = (aD 0 1 0 1 7 1, 0#32, 3) by kernel_rfl) rfl
theorem alv10 (h : PdAt (memD B p A c) q K (aD 0 1 0 1 7 1) (aM 7 (-2)) w) : Calls Try.prog 13 #[.pointer (some ⟨q, 0, none⟩), .int .i64 1, .int .u32 3] w fun e w' => e = .returned (.int .i64 0) ∧ PdAt (memD B p A c) q K (aD 3 1 0 1 7 1) (aM 7 (-2)) w' ∧ Turned (Un10 B K) w w' := h.setTo (mem_is B p A c) trivial 1 3#32 (by kernel_rfl) rfl
theorem alv11 (h : PdAt (memD B p A c) q K (aD 3 1 0 1 7 1) (aM 7 (-2)) w) : Calls Try.prog 13 #[.pointer (some ⟨q, 0, none⟩), .int .i64 0, .int .u32 1] w fun e w' => e = .returned (.int .i64 0) ∧ PdAt (memD B p A c) q K (aD 3 1 2 1 7 0) (aM 7 (-2)) w' ∧ Turned (Un10 B K) w w' := h.setTo (mem_is B p A c) trivial 0 1#32 (by kernel_rfl) rfl
theorem alv12 {x : BitVec 32} {n : Int} (h : PdAt (memD B p A c) q K (aD 3 1 2 1 7 0) (aM x n) w) : Calls Try.prog 14 #[.pointer (some ⟨q, 0, none⟩), .int .i64 4] w fun e w' => e = .returned (.tuple #[.int .u32 2, .int .i64 0]) ∧ PdAt (memD B p A c) q K (aD 3 1 2 1 7 0) (aM x n) w' ∧ Turned (Un10 B K) w w' := h.getTo (mem_is B p A c) 4 rfl (show pGet 3 (aD 3 1 2 1 7 0) 4 = (aD 3 1 2 1 7 0, 2#32, 0) by kernel_rfl) rfl
end
set_option maxRecDepth 100000 in
set_option maxHeartbeats 4000000 in
theorem alive10_any (w : World) : Calls Try.prog 9 #[] w fun e w' => e = .returned (.bool true) ∧ Below w.heap.size w w' := by
  obtain ⟨i0, hin, hz0, hz1, hz2⟩ := info_parts v4_infoA
  go_enter Try.func9, Try.ntmps9
  go_wp2_with (at_make; refine halt_here ?_)
  refine Lib.hid ?_
  refine wpList_madeK v4K w rfl _ _ rfl w.heap.size Try.underlying25 hin hz0 hz1 hz2 (by omega) 3 (by rfl) (by rfl) (by omega) (Nat.le_refl _) ?_
  intro w1 h1 h2
  have HO1 := Lib.hid h1
  have HB1 := Lib.hid h2
  clear h1 h2
  simp only [Act.put, List.setIfInBounds_toArray, List.set_cons_zero, List.set_cons_succ]
  have HNW := Lib.hid (fun W hW => new_mem (B := w.heap.size) (m := aM 0 0) (w := W) (K := NoBlock) HO1.out (by decide) (by decide) HB1.out.size (fun i e => e.elim) (fun g e e2 => e2) hW)
  go_upto_region 2 with (go_at_call 10; (refine (HNW.out _ rfl).mono ?_); rintro e w2 ⟨q, rfl, p0, b0, -⟩; have P0 := Lib.hid p0; have B0 := Lib.hid (HB1.out.trans (b0.mono HB1.out.size)); clear p0 b0)
  obtain ⟨p, hp⟩ : ∃ p, p = w1.heap.size := ⟨_, rfl⟩
  rw [← hp] at P0
  obtain ⟨A, hA⟩ : ∃ A : Option Addr, A = some ⟨w.heap.size, 0, none⟩ := ⟨_, rfl⟩
  rw [← hA] at P0
  clear hp hA HNW HO1
  go_upto_region 4 with (first
    | (go_at_call 13; (with_reducible refine (alv1 P0.out).mono ?_); rintro e w3 ⟨rfl, p1, t1⟩; have P1 := Lib.hid p1; have B1 := Lib.hid (B0.out.trans (un_below t1 B0.out.size)); clear p1 t1)
    | (go_at_call 13; (with_reducible refine (alv2 P1.out).mono ?_); rintro e w4 ⟨rfl, p1, t1⟩; have P2 := Lib.hid p1; have B2 := Lib.hid (B1.out.trans (un_below t1 B1.out.size)); clear p1 t1)
    | (go_at_call 13; (with_reducible refine (alv3 P2.out).mono ?_); rintro e w5 ⟨rfl, p1, t1⟩; have P3 := Lib.hid p1; have B3 := Lib.hid (B2.out.trans (un_below t1 B2.out.size)); clear p1 t1)
    | (go_at_call 15; (with_reducible refine (up10 P3.out).mono ?_); rintro e w6 ⟨rfl, hw⟩; obtain rfl := hw.symm; have hu : (U (aD 0 1 0 1 7 0).line == 1) = true := rfl)
    | (go_at_call 13; (with_reducible refine (alv4 P3.out).mono ?_); rintro e w6 ⟨rfl, p1, t1⟩; have P4 := Lib.hid p1; have B4 := Lib.hid (B3.out.trans (un_below t1 B3.out.size)); clear p1 t1)
    | (go_at_call 13; (with_reducible refine (alv5 P4.out).mono ?_); rintro e w7 ⟨rfl, p1, t1⟩; have P5 := Lib.hid p1; have B5 := Lib.hid (B4.out.trans (un_below t1 B4.out.size)); clear p1 t1)
    | (go_at_call 13; (with_reducible refine (alv6 P5.out).mono ?_); rintro e w8 ⟨rfl, p1, t1⟩; have P6 := Lib.hid p1; have B6 := Lib.hid (B5.out.trans (un_below t1 B5.out.size)); clear p1 t1))
  clear P0 P1 P2 P3 P4 P5 B0 B1 B2 B3 B4 B5
  go_wp2_with (first
    | (go_at_call 14; (with_reducible refine (alv7 P6.out).mono ?_); rintro e w9 ⟨rfl, p1, t1⟩; have P7 := Lib.hid p1; have B7 := Lib.hid (B6.out.trans (un_below t1 B6.out.size)); clear p1 t1)
    | (go_at_call 14; (with_reducible refine (alv8 P7.out).mono ?_); rintro e w10 ⟨rfl, p1, t1⟩; have P8 := Lib.hid p1; have B8 := Lib.hid (B7.out.trans (un_below t1 B7.out.size)); clear p1 t1)
    | (go_at_call 14; (with_reducible refine (alv9 P8.out).mono ?_); rintro e w11 ⟨rfl, p1, t1⟩; have P9 := Lib.hid p1; have B9 := Lib.hid (B8.out.trans (un_below t1 B8.out.size)); clear p1 t1)
    | (go_at_call 13; (with_reducible refine (alv10 P9.out).mono ?_); rintro e w12 ⟨rfl, p1, t1⟩; have P10 := Lib.hid p1; have B10 := Lib.hid (B9.out.trans (un_below t1 B9.out.size)); clear p1 t1)
    | (go_at_call 13; (with_reducible refine (alv11 P10.out).mono ?_); rintro e w13 ⟨rfl, p1, t1⟩; have P11 := Lib.hid p1; have B11 := Lib.hid (B10.out.trans (un_below t1 B10.out.size)); clear p1 t1)
    | (go_at_call 14; (with_reducible refine (alv12 P11.out).mono ?_); rintro e w14 ⟨rfl, p1, t1⟩; have B12 := Lib.hid (B11.out.trans (un_below t1 B11.out.size)); clear p1 t1))
  go_ret
  exact ⟨rfl, B12.out⟩
end Go.Proofs.Ytpkkejdjhnmjiaa
