import Derived.Test.YtpkkejdjhnmjiaaGreatPd5
import Derived.Test.YtpkkejdjhnmjiaaGreatSec7
import Derived.Test.YtpkkejdjhnmjiaaGreatSecOp
import Derived.Test.YtpkkejdjhnmjiaaGreatFtl9
import Derived.Test.YtpkkejdjhnmjiaaGreatFtlMp
import Derived.Test.YtpkkejdjhnmjiaaGreatOpens
import Derived.OpenShut
namespace Go.Proofs.YtpkkejdjhnmjiaaGreat
section
open Go.RowKit Bm
def memD (B p : Nat) (A : Option Addr) (c : Nat) : Dk10 MemM where
 T := 47
 v := .pointer (some ⟨p, 0, none⟩)
 fs := 172
 fr := 171
 fw := 174
 ft := 173
 B := B
 st := fun K m w => MemAt B p A c m w /\ ¬ K p /\ (∀ g, A = some ⟨g, 0, none⟩ -> ¬ K g) /\ (∀ i, K i -> i < w.heap.size) /\ B <= w.heap.size /\ -9223372036854775808 <= m.left /\ m.left <= 9223372036854775807
 len := fun m => m.l.length
 rd := fun m i => mGet10 m i
 wr := fun m i x => mWrite m i x
 tr := fun m i => mWrite m i v40
 room := fun _ _ => True
theorem mFails_left {m : MemM} (h : -9223372036854775808 <= m.left /\ m.left <= 9223372036854775807) : -9223372036854775808 <= (mFails m).1.left /\ (mFails m).1.left <= 9223372036854775807 := by
 unfold mFails
 split
 ·exact h
 ·exact ⟨w64_lo _, w64_hi _⟩
theorem mGet10_left {m : MemM} (i : Int) (h : -9223372036854775808 <= m.left /\ m.left <= 9223372036854775807) : -9223372036854775808 <= (mGet10 m i).1.left /\ (mGet10 m i).1.left <= 9223372036854775807 := by
 unfold mGet10
 split <;> exact mFails_left h
theorem mWrite_left {m : MemM} (i : Int) (x : V4) (h : -9223372036854775808 <= m.left /\ m.left <= 9223372036854775807) : -9223372036854775808 <= (mWrite m i x).1.left /\ (mWrite m i x).1.left <= 9223372036854775807 := by
 unfold mWrite
 split <;> exact mFails_left h
theorem mGet10_len (m : MemM) (i : Int) : (mGet10 m i).1.l.length = m.l.length := by
 unfold mGet10
 split <;> rw [mFails_l]
theorem mWrite_len (m : MemM) (i : Int) (x : V4) : (mWrite m i x).1.l.length = m.l.length := by
 unfold mWrite
 split
 ·exact List.length_set
 ·rw [mFails_l]
theorem mem_is (B p : Nat) (A : Option Addr) (c : Nat) : (memD B p A c).Is where
 ms := fun k w => meth_sectors k p w
 mr := fun k w => meth_read k p w
 mw := fun k w => meth_write k p w
 mt := fun k w => meth_trim k p w
 gs := fun args w => by kernel_rfl
 gr := fun args w => by kernel_rfl
 gw := fun args w => by kernel_rfl
 gt := fun args w => by kernel_rfl
 one := rfl
 few := fun h => h.1.few
 low := fun h => h.2.2.2.2.1
 kin := fun h => h.2.2.2.1
 move := fun {K K' S m w w'} h hs t hK => ⟨h.1.turn t (fun e => h.2.1 (hs _ e)) (fun g e e2 => h.2.2.1 g e (hs _ e2)), fun e => by
   rcases (hK _ e).1 with h1 | h1
   ·exact h.2.1 h1
   ·have := h.1.at_.lt
    omega, fun g e e2 => by
   rcases (hK _ e2).1 with h1 | h1
   ·exact h.2.2.1 g e h1
   ·have := h.1.small g e
    omega, fun i e => (hK i e).2, Nat.le_trans h.2.2.2.2.1 t.size, h.2.2.2.2.2⟩
 cs := fun h => msize_any h.1
 cr := fun {K m w} h _ i hi => (mread_any h.1 h.2.2.2.2.2.1 h.2.2.2.2.2.2 h.2.2.2.2.1 i).mono fun e w' ⟨h1, h2, h3⟩ => ⟨h1, ⟨h2, h.2.1, h.2.2.1, fun i e => Nat.lt_of_lt_of_le (h.2.2.2.1 i e) h3.size, Nat.le_trans h.2.2.2.2.1 h3.size, mGet10_left _ h.2.2.2.2.2⟩, h3.mono fun i _ e => by rw [show i = p from e]; exact ⟨h.1.low, h.2.1⟩⟩
 cw := fun {K m w} h _ i hi x => (mwrite_any h.1 h.2.2.2.2.2.1 h.2.2.2.2.2.2 h.2.2.2.2.1 i x).mono fun e w' ⟨h1, h2, h3⟩ => ⟨h1, ⟨h2, h.2.1, h.2.2.1, fun i e => Nat.lt_of_lt_of_le (h.2.2.2.1 i e) h3.size, Nat.le_trans h.2.2.2.2.1 h3.size, mWrite_left _ _ h.2.2.2.2.2⟩, h3.mono fun i _ e => by
  rcases e with rfl | e
  ·exact ⟨h.1.low, h.2.1⟩
  ·exact ⟨(own_small h.1.row e).2, h.2.2.1 i e⟩⟩
 ct := fun {K m w} h _ i hi => (mtrim_any h.1 h.2.2.2.2.2.1 h.2.2.2.2.2.2 h.2.2.2.2.1 i).mono fun e w' ⟨h1, h2, h3⟩ => ⟨h1, ⟨h2, h.2.1, h.2.2.1, fun i e => Nat.lt_of_lt_of_le (h.2.2.2.1 i e) h3.size, Nat.le_trans h.2.2.2.2.1 h3.size, mWrite_left _ _ h.2.2.2.2.2⟩, h3.mono fun i _ e => by
  rcases e with rfl | e
  ·exact ⟨h.1.low, h.2.1⟩
  ·exact ⟨(own_small h.1.row e).2, h.2.2.1 i e⟩⟩
 lr := fun m i => mGet10_len m i
 lw := fun m i x => mWrite_len m i x
 lt := fun m i => mWrite_len m i v40
 rr := fun _ _ _ _ => trivial
 rw := fun _ _ _ _ _ => trivial
 rt := fun _ _ _ _ => trivial
 rl := fun _ _ _ => trivial
theorem mem_new {B c : Nat} {w w1 : World} {A : Option Addr} {m : MemM} (hO : w1.ownsRow B 43 4 (.slice A m.l.length c) m.l.length (v4K.all m.l)) (hl : m.l.length <= 1000) (hm : -9223372036854775808 <= m.left /\ m.left <= 9223372036854775807) (hB : B <= w1.heap.size) {K : Nat -> Prop} (hK : ∀ i, K i -> i < w1.heap.size) (hg : ∀ g, A = some ⟨g, 0, none⟩ -> ¬ K g)
  (hw : w = w1.alloc (.cells [.slice A m.l.length c, .int .i64 m.fail, .int .i64 m.left].toArray 49)) : (memD B w1.heap.size A c).st K m w := by
 subst hw
 refine ⟨⟨At.news w1 _ _, own_keep hO ((Below.refl _ w1).alloc (Nat.le_refl _) _), hl, hB⟩, fun e => by have := hK _ e; omega, hg, fun i e => by rw [World.size_alloc]; have := hK i e; omega, by rw [World.size_alloc]; omega, hm⟩
theorem new_mem {B c : Nat} {w w1 : World} {A : Option Addr} {m : MemM} (hO : w1.ownsRow B 43 4 (.slice A m.l.length c) m.l.length (v4K.all m.l)) (hl : m.l.length <= 1000) (hm : -9223372036854775808 <= m.left /\ m.left <= 9223372036854775807) (hB : B <= w1.heap.size) {K : Nat -> Prop} (hK : ∀ i, K i -> i < w1.heap.size) (hg : ∀ g, A = some ⟨g, 0, none⟩ -> ¬ K g)
  (hw : w = w1.alloc (.cells [.slice A m.l.length c, .int .i64 m.fail, .int .i64 m.left].toArray 49)) :
  Calls Tryz.prog 7 #[.iface 47 (.pointer (some ⟨w1.heap.size, 0, none⟩))] w fun e w' => ∃ q, e = .returned (.pointer (some ⟨q, 0, none⟩)) /\ PdAt (memD B w1.heap.size A c) q K pd0 m w' /\ Below w1.heap.size w1 w' /\ w1.heap.size < q := by
 have hs := mem_new hO hl hm hB hK hg hw
 have hz : w.heap.size = w1.heap.size + 1 := by rw [hw, World.size_alloc]
 have h := new10 (mem_is B w1.heap.size A c) hs (fun e => by have := hK _ e; omega)
 refine h.mono ?_
 rintro e w' ⟨rfl, h1, h2⟩
 refine ⟨_, rfl, h1, ?_, by omega⟩
 have hb : Below w1.heap.size w1 w := by rw [hw]; exact (Below.refl _ w1).alloc (Nat.le_refl _) _
 exact hb.trans (h2.mono hb.size)
theorem un_below {B : Nat} {K : Nat -> Prop} {w w' : World} (t : Turned (Un10 B K) w w') (hB : B <= w.heap.size) : Below B w w' := t.below (fun _ h => h.1) hB
def aD (f m e l b0 : BitVec 32) (p : Nat) : DvM := ⟨f, m, e, l, b0 :: List.replicate 15 0#32, p, []⟩
def aM (x : BitVec 32) (left : Int) : MemM := ⟨[⟨x, 0#32, 0#32, 0#32⟩, v40, v40], 0, left⟩
section
variable {α : Type} {D : Dk10 α} {q : Nat} {K K' S : Nat -> Prop} {d d' : DvM} {a a' : α} {w w' : World}
theorem PdAt.setTo (h : PdAt D q K d a w) (hD : D.Is) (hr : D.room a 4) (reg : Int) (v : BitVec 32) {e0 : Int} (he : pSet D reg v d a = (d', a', e0)) {V : Int} (hV : U v = V) :
  Calls Tryz.prog 10 #[.pointer (some ⟨q, 0, none⟩), .int .i64 reg, .int .u32 V] w fun e w' => e = .returned (.int .i64 e0) /\ PdAt D q K d' a' w' /\ Turned (Un10 D.B K) w w' := by
 have := set10 h hD hr reg v
 rw [he, hV] at this
 exact this
theorem PdAt.getTo (h : PdAt D q K d a w) (hD : D.Is) (reg : Int) {e0 : Int} {v : BitVec 32} {n : Nat} (hn : D.len a = n) (he : pGet n d reg = (d', v, e0)) {V : Int} (hV : U v = V) :
  Calls Tryz.prog 12 #[.pointer (some ⟨q, 0, none⟩), .int .i64 reg] w fun e w' => e = .returned (.tuple #[.int .u32 V, .int .i64 e0]) /\ PdAt D q K d' a w' /\ Turned (Un10 D.B K) w w' := by
 have := get10 h hD reg
 rw [hn, he, hV] at this
 exact this
end
section
variable {B p q c : Nat} {A : Option Addr} {K : Nat -> Prop} {w : World}
theorem alv1 (h : PdAt (memD B p A c) q K pd0 (aM 0 0) w) : Calls Tryz.prog 10 #[.pointer (some ⟨q, 0, none⟩), .int .i64 2, .int .u32 1] w fun e w' => e = .returned (.int .i64 0) /\ PdAt (memD B p A c) q K (aD 0 1 0 0 0 0) (aM 0 0) w' /\ Turned (Un10 B K) w w' := h.setTo (mem_is B p A c) trivial 2 1#32 (by kernel_rfl) rfl
theorem alv2 (h : PdAt (memD B p A c) q K (aD 0 1 0 0 0 0) (aM 0 0) w) : Calls Tryz.prog 10 #[.pointer (some ⟨q, 0, none⟩), .int .i64 5, .int .u32 7] w fun e w' => e = .returned (.int .i64 0) /\ PdAt (memD B p A c) q K (aD 0 1 0 0 7 1) (aM 0 0) w' /\ Turned (Un10 B K) w w' := h.setTo (mem_is B p A c) trivial 5 7#32 (by kernel_rfl) rfl
theorem alv3 (h : PdAt (memD B p A c) q K (aD 0 1 0 0 7 1) (aM 0 0) w) : Calls Tryz.prog 10 #[.pointer (some ⟨q, 0, none⟩), .int .i64 0, .int .u32 2] w fun e w' => e = .returned (.int .i64 0) /\ PdAt (memD B p A c) q K (aD 0 1 0 1 7 0) (aM 7 (-1)) w' /\ Turned (Un10 B K) w w' := h.setTo (mem_is B p A c) trivial 0 2#32 (by kernel_rfl) rfl
theorem alv4 (h : PdAt (memD B p A c) q K (aD 0 1 0 1 7 0) (aM 7 (-1)) w) : Calls Tryz.prog 10 #[.pointer (some ⟨q, 0, none⟩), .int .i64 7, .int .u32 1] w fun e w' => e = .returned (.int .i64 0) /\ PdAt (memD B p A c) q K (aD 0 1 0 0 7 0) (aM 7 (-1)) w' /\ Turned (Un10 B K) w w' := h.setTo (mem_is B p A c) trivial 7 1#32 (by kernel_rfl) rfl
theorem alv5 (h : PdAt (memD B p A c) q K (aD 0 1 0 0 7 0) (aM 7 (-1)) w) : Calls Tryz.prog 10 #[.pointer (some ⟨q, 0, none⟩), .int .i64 5, .int .u32 9] w fun e w' => e = .returned (.int .i64 0) /\ PdAt (memD B p A c) q K (aD 0 1 0 0 9 1) (aM 7 (-1)) w' /\ Turned (Un10 B K) w w' := h.setTo (mem_is B p A c) trivial 5 9#32 (by kernel_rfl) rfl
theorem alv6 (h : PdAt (memD B p A c) q K (aD 0 1 0 0 9 1) (aM 7 (-1)) w) : Calls Tryz.prog 10 #[.pointer (some ⟨q, 0, none⟩), .int .i64 0, .int .u32 1] w fun e w' => e = .returned (.int .i64 0) /\ PdAt (memD B p A c) q K (aD 0 1 0 1 7 0) (aM 7 (-2)) w' /\ Turned (Un10 B K) w w' := h.setTo (mem_is B p A c) trivial 0 1#32 (by kernel_rfl) rfl
theorem alv7 {x : BitVec 32} {n : Int} (h : PdAt (memD B p A c) q K (aD 0 1 0 1 7 0) (aM x n) w) : Calls Tryz.prog 12 #[.pointer (some ⟨q, 0, none⟩), .int .i64 5] w fun e w' => e = .returned (.tuple #[.int .u32 7, .int .i64 0]) /\ PdAt (memD B p A c) q K (aD 0 1 0 1 7 1) (aM x n) w' /\ Turned (Un10 B K) w w' := h.getTo (mem_is B p A c) 5 rfl (show pGet 3 (aD 0 1 0 1 7 0) 5 = (aD 0 1 0 1 7 1, 7#32, 0) by kernel_rfl) rfl
theorem alv8 {x : BitVec 32} {n : Int} (h : PdAt (memD B p A c) q K (aD 0 1 0 1 7 1) (aM x n) w) : Calls Tryz.prog 12 #[.pointer (some ⟨q, 0, none⟩), .int .i64 6] w fun e w' => e = .returned (.tuple #[.int .u32 3, .int .i64 0]) /\ PdAt (memD B p A c) q K (aD 0 1 0 1 7 1) (aM x n) w' /\ Turned (Un10 B K) w w' := h.getTo (mem_is B p A c) 6 rfl (show pGet 3 (aD 0 1 0 1 7 1) 6 = (aD 0 1 0 1 7 1, 3#32, 0) by kernel_rfl) rfl
theorem alv9 {x : BitVec 32} {n : Int} (h : PdAt (memD B p A c) q K (aD 0 1 0 1 7 1) (aM x n) w) : Calls Tryz.prog 12 #[.pointer (some ⟨q, 0, none⟩), .int .i64 8] w fun e w' => e = .returned (.tuple #[.int .u32 0, .int .i64 3]) /\ PdAt (memD B p A c) q K (aD 0 1 0 1 7 1) (aM x n) w' /\ Turned (Un10 B K) w w' := h.getTo (mem_is B p A c) 8 rfl (show pGet 3 (aD 0 1 0 1 7 1) 8 = (aD 0 1 0 1 7 1, 0#32, 3) by kernel_rfl) rfl
theorem alv10 (h : PdAt (memD B p A c) q K (aD 0 1 0 1 7 1) (aM 7 (-2)) w) : Calls Tryz.prog 10 #[.pointer (some ⟨q, 0, none⟩), .int .i64 1, .int .u32 3] w fun e w' => e = .returned (.int .i64 0) /\ PdAt (memD B p A c) q K (aD 3 1 0 1 7 1) (aM 7 (-2)) w' /\ Turned (Un10 B K) w w' := h.setTo (mem_is B p A c) trivial 1 3#32 (by kernel_rfl) rfl
theorem alv11 (h : PdAt (memD B p A c) q K (aD 3 1 0 1 7 1) (aM 7 (-2)) w) : Calls Tryz.prog 10 #[.pointer (some ⟨q, 0, none⟩), .int .i64 0, .int .u32 1] w fun e w' => e = .returned (.int .i64 0) /\ PdAt (memD B p A c) q K (aD 3 1 2 1 7 0) (aM 7 (-2)) w' /\ Turned (Un10 B K) w w' := h.setTo (mem_is B p A c) trivial 0 1#32 (by kernel_rfl) rfl
theorem alv12 {x : BitVec 32} {n : Int} (h : PdAt (memD B p A c) q K (aD 3 1 2 1 7 0) (aM x n) w) : Calls Tryz.prog 12 #[.pointer (some ⟨q, 0, none⟩), .int .i64 4] w fun e w' => e = .returned (.tuple #[.int .u32 2, .int .i64 0]) /\ PdAt (memD B p A c) q K (aD 3 1 2 1 7 0) (aM x n) w' /\ Turned (Un10 B K) w w' := h.getTo (mem_is B p A c) 4 rfl (show pGet 3 (aD 3 1 2 1 7 0) 4 = (aD 3 1 2 1 7 0, 2#32, 0) by kernel_rfl) rfl
end
set_option maxRecDepth 100000 in
set_option maxHeartbeats 4000000 in
theorem alive10_any (w : World) : Calls Tryz.prog 4 #[] w fun e w' => e = .returned (.bool true) /\ Below w.heap.size w w' := by
 obtain ⟨i0, hin, hz0, hz1, hz2⟩ := info_parts v4_infoA
 go_enter Tryz.func4, Tryz.ntmps4
 go_wp2_with (at_make; refine halt_here ?_)
 refine Lib.hid ?_
 refine wpList_madeK v4K w rfl _ _ rfl w.heap.size Tryz.underlying38 hin hz0 hz1 hz2 (by omega) 3 (by rfl) (by rfl) (by omega) (Nat.le_refl _) ?_
 intro w1 h1 h2
 have HO1 := Lib.hid h1
 have HB1 := Lib.hid h2
 clear h1 h2
 simp only [Act.put, List.setIfInBounds_toArray, List.set_cons_zero, List.set_cons_succ]
 have HNW := Lib.hid (fun W hW => new_mem (B := w.heap.size) (m := aM 0 0) (w := W) (K := NoBlock) HO1.out (by decide) (by decide) HB1.out.size (fun i e => e.elim) (fun g e e2 => e2) hW)
 go_upto_region 2 with (go_at_call 7; (refine (HNW.out _ rfl).mono ?_); rintro e w2 ⟨q, rfl, p0, b0, -⟩; have P0 := Lib.hid p0; have B0 := Lib.hid (HB1.out.trans (b0.mono HB1.out.size)); clear p0 b0)
 obtain ⟨p, hp⟩ : ∃ p, p = w1.heap.size := ⟨_, rfl⟩
 rw [<- hp] at P0
 obtain ⟨A, hA⟩ : ∃ A : Option Addr, A = some ⟨w.heap.size, 0, none⟩ := ⟨_, rfl⟩
 rw [<- hA] at P0
 clear hp hA HNW HO1
 go_upto_region 4 with (first
  | (go_at_call 10; (with_reducible refine (alv1 P0.out).mono ?_); rintro e w3 ⟨rfl, p1, t1⟩; have P1 := Lib.hid p1; have B1 := Lib.hid (B0.out.trans (un_below t1 B0.out.size)); clear p1 t1)
  | (go_at_call 10; (with_reducible refine (alv2 P1.out).mono ?_); rintro e w4 ⟨rfl, p1, t1⟩; have P2 := Lib.hid p1; have B2 := Lib.hid (B1.out.trans (un_below t1 B1.out.size)); clear p1 t1)
  | (go_at_call 10; (with_reducible refine (alv3 P2.out).mono ?_); rintro e w5 ⟨rfl, p1, t1⟩; have P3 := Lib.hid p1; have B3 := Lib.hid (B2.out.trans (un_below t1 B2.out.size)); clear p1 t1)
  | (go_at_call 11; (with_reducible refine (up10 P3.out).mono ?_); rintro e w6 ⟨rfl, hw⟩; obtain rfl := hw.symm; have hu : (U (aD 0 1 0 1 7 0).line == 1) = true := rfl)
  | (go_at_call 10; (with_reducible refine (alv4 P3.out).mono ?_); rintro e w6 ⟨rfl, p1, t1⟩; have P4 := Lib.hid p1; have B4 := Lib.hid (B3.out.trans (un_below t1 B3.out.size)); clear p1 t1)
  | (go_at_call 10; (with_reducible refine (alv5 P4.out).mono ?_); rintro e w7 ⟨rfl, p1, t1⟩; have P5 := Lib.hid p1; have B5 := Lib.hid (B4.out.trans (un_below t1 B4.out.size)); clear p1 t1)
  | (go_at_call 10; (with_reducible refine (alv6 P5.out).mono ?_); rintro e w8 ⟨rfl, p1, t1⟩; have P6 := Lib.hid p1; have B6 := Lib.hid (B5.out.trans (un_below t1 B5.out.size)); clear p1 t1))
 clear P0 P1 P2 P3 P4 P5 B0 B1 B2 B3 B4 B5
 go_wp2_with (first
  | (go_at_call 12; (with_reducible refine (alv7 P6.out).mono ?_); rintro e w9 ⟨rfl, p1, t1⟩; have P7 := Lib.hid p1; have B7 := Lib.hid (B6.out.trans (un_below t1 B6.out.size)); clear p1 t1)
  | (go_at_call 12; (with_reducible refine (alv8 P7.out).mono ?_); rintro e w10 ⟨rfl, p1, t1⟩; have P8 := Lib.hid p1; have B8 := Lib.hid (B7.out.trans (un_below t1 B7.out.size)); clear p1 t1)
  | (go_at_call 12; (with_reducible refine (alv9 P8.out).mono ?_); rintro e w11 ⟨rfl, p1, t1⟩; have P9 := Lib.hid p1; have B9 := Lib.hid (B8.out.trans (un_below t1 B8.out.size)); clear p1 t1)
  | (go_at_call 10; (with_reducible refine (alv10 P9.out).mono ?_); rintro e w12 ⟨rfl, p1, t1⟩; have P10 := Lib.hid p1; have B10 := Lib.hid (B9.out.trans (un_below t1 B9.out.size)); clear p1 t1)
  | (go_at_call 10; (with_reducible refine (alv11 P10.out).mono ?_); rintro e w13 ⟨rfl, p1, t1⟩; have P11 := Lib.hid p1; have B11 := Lib.hid (B10.out.trans (un_below t1 B10.out.size)); clear p1 t1)
  | (go_at_call 12; (with_reducible refine (alv12 P11.out).mono ?_); rintro e w14 ⟨rfl, p1, t1⟩; have B12 := Lib.hid (B11.out.trans (un_below t1 B11.out.size)); clear p1 t1))
 go_ret
 exact ⟨rfl, B12.out⟩
end
section
open Go.RowKit Bm
def KR10 (K : Nat -> Prop) (b4 b6 : Nat) (A : Option Addr) (i : Nat) : Prop := K i \/ i = b4 \/ i = b6 \/ ∃ off, A = some ⟨i, off, none⟩
structure RunB (B : Nat) (K : Nat -> Prop) (N : Nat) (w0 : World) (b4 b6 : Nat) (A : Option Addr) (c : Nat) (dd : DvM) (w : World) : Prop where
 box : At w b4 40 (dvC (.slice A N c) dd)
 out : At w b6 40 dvZ
 row : v4K.Reads w A N c dd.disk
 far : ∀ g off, A = some ⟨g, off, none⟩ -> g ≠ b4 /\ g ≠ b6 /\ g < w.heap.size
 turned : Turned (Un10 B K) w0 w
section
variable {B N b4 b6 c c' : Nat} {K S : Nat -> Prop} {w0 w w' : World} {A A' : Option Addr} {dd dd' : DvM}
theorem RunB.kept (h : RunB B K N w0 b4 b6 A c dd w) (t : Turned S w w') (h4 : ¬ S b4) (h6 : ¬ S b6) (hA : ∀ g off, A = some ⟨g, off, none⟩ -> ¬ S g) (hS : ∀ i, i < w0.heap.size -> S i -> Un10 B K i) : RunB B K N w0 b4 b6 A c dd w' :=
 ⟨h.box.kept t h4, h.out.kept t h6, h.row.turned t hA, fun g off e => by have h1 := h.far g off e; have h2 := t.size; exact ⟨h1.1, h1.2.1, by omega⟩, h.turned.after t hS⟩
theorem RunB.below (h : RunB B K N w0 b4 b6 A c dd w) (t : Below w.heap.size w w') : RunB B K N w0 b4 b6 A c dd w' :=
 h.kept (S := NoBlock) (Turned.of_below t (Nat.le_refl _) _) (fun e => e) (fun e => e) (fun _ _ _ e => e) (fun _ _ e => e.elim)
theorem RunB.drewN (h : RunB B K N w0 b4 b6 A c dd w) (n : Nat) : RunB B K N w0 b4 b6 A c dd (w.drewN n) :=
 h.kept (S := NoBlock) ((Turned.refl _ w).drewN n) (fun e => e) (fun e => e) (fun _ _ _ e => e) (fun _ _ e => e.elim)
theorem RunB.store (h : RunB B K N w0 b4 b6 A c dd w) (hA : At w' b4 40 (dvC (.slice A' N c') dd')) (t : Turned (Just b4) w w') (hr : v4K.Reads w A' N c' dd'.disk) (hf : ∀ g off, A' = some ⟨g, off, none⟩ -> g ≠ b4 /\ g ≠ b6 /\ g < w.heap.size) (h46 : b4 ≠ b6) (h4 : w0.heap.size <= b4) : RunB B K N w0 b4 b6 A' c' dd' w' :=
 ⟨hA, h.out.kept t (fun e => h46 e.symm), hr.turned t (fun g off e e2 => (hf g off e).1 e2), fun g off e => by have h1 := hf g off e; have h2 := t.size; exact ⟨h1.1, h1.2.1, by omega⟩, h.turned.after t (fun i hi e => by rw [show i = b4 from e] at hi; omega)⟩
end
section
variable {α : Type} {D : Dk10 α} {q : Nat} {K K' S : Nat -> Prop} {d d' : DvM} {a : α} {w w' : World} {I : α -> Prop} {view : α -> List V4}
theorem doc_ok (hF : Faith D I view) (hD : D.Is) (h : PdAt D q K d a w) : DvOk (docOf view d a) := ⟨h.b, h.p, by show (view a).length <= 1000; rw [<- hF.len]; exact hD.few h.dk⟩
theorem set_len (hD : D.Is) (hF : Faith D I view) (hI : I a) (reg : Int) (v : BitVec 32) (d : DvM) : D.len (pSet D reg v d a).2.1 = D.len a := by
 have h := (set_doc hD hF hI reg v d).1
 have h1 : docOf view (pSet D reg v d a).1 (pSet D reg v d a).2.1 = (dSet (docOf view d a) reg v).1 := by rw [<- h]
 have h2 := dSet_disk (docOf view d a) reg v
 rw [<- h1] at h2
 rw [hF.len, hF.len]
 exact h2
theorem act10_size : (Tryz.prog.info? 66).map (·.size) = some 3 := by kernel_rfl
theorem act10_len (x : Act10) : (act10C x).length = 3 := rfl
def act10Z : List Value := [.int .u8 0, .int .i64 0, .int .u32 0]
theorem res_dev_bool {fn : Func} {i j : Tmp} (h : fn.results = #[.cell i 40, .tmp j]) (tmps : Array Value) {w : World} {g : Nat} {cs : List Value} {v : Value} (hp : tmps.getD i undef = .pointer (some ⟨g, 0, none⟩)) (hq : tmps.getD j undef = v) (hA : At w g 40 cs) (hn : cs.length = 22) : (results fn tmps).run Tryz.prog w = .ok (.tuple #[.agg cs.toArray, v]) w :=
 res_cell2 h tmps Tryz.underlying40 rfl dv_size hp hq hA hn
set_option maxRecDepth 100000 in
set_option maxHeartbeats 8000000 in
theorem run10_any (hD : D.Is) (hF : Faith D I view) (h : PdAt D q K d a w) (hI : I a) (N n : Nat) (hN : D.len a = N) (hroom : D.room a (4 * n)) (A : Option Addr) (c : Nat) (hR : v4K.Reads w A N c (view a)) (hKA : ∀ g off, A = some ⟨g, off, none⟩ -> K g)
  (L : Option Addr) (cl : Nat) (xs : List Act10) (hL : act10K.Reads w L n cl xs) (hx : ∀ x ∈ xs, x.Ok) (hLB : 0 < n -> ∀ g off, L = some ⟨g, off, none⟩ -> g < D.B) :
  Calls Tryz.prog 8 #[.pointer (some ⟨q, 0, none⟩), .agg (dvC (.slice A N c) (docOf view d a)).toArray, .slice L n cl] w fun e w' => ∃ A' c' d' a', e = .returned (.tuple #[.agg (dvC (.slice A' N c') (docOf view d' a')).toArray, .bool true]) /\ PdAt D q (fun i => K i \/ ∃ off, A' = some ⟨i, off, none⟩) d' a' w' /\ I a' /\ v4K.Reads w' A' N c' (view a') /\ (∀ g off, A' = some ⟨g, off, none⟩ -> K g \/ w.heap.size <= g) /\ Turned (Un10 D.B K) w w' := by
 obtain ⟨W0, hW0⟩ : ∃ W0, W0 = V2 w (dvC (.slice A N c) (docOf view d a)) := ⟨_, rfl⟩
 have hz := dv_zero
 have a0 := V2_a w (dvC (.slice A N c) (docOf view d a))
 have a1 := V2_b w (dvC (.slice A N c) (docOf view d a))
 have b0 := V2_below w (dvC (.slice A N c) (docOf view d a))
 have s0 := V2_size w (dvC (.slice A N c) (docOf view d a))
 have hW1 := hW0
 unfold V2 at hW1
 rw [<- hW0] at a0 a1 b0 s0
 have hsz := h.low hD
 obtain ⟨b4, hb4⟩ : ∃ b4, b4 = w.heap.size := ⟨_, rfl⟩
 obtain ⟨b6, hb6⟩ : ∃ b6, b6 = w.heap.size + 1 := ⟨_, rfl⟩
 have hlowA : ∀ g off, A = some ⟨g, off, none⟩ -> g < w.heap.size := fun g off e => h.kin hD g (hKA g off e)
 have HRB : Hid (RunB D.B K N w b4 b6 A c (docOf view d a) W0) := Lib.hid ⟨by rw [hb4]; exact a0, by rw [hb6]; exact a1, hR.kept b0, fun g off e => by have := hlowA g off e; omega, Turned.of_below b0 (Nat.le_refl _) _⟩
 have HPD : Hid (PdAt D q (KR10 K b4 b6 A) d a W0) := Lib.hid (h.move hD (S := NoBlock) (fun _ e => e.elim) (Turned.of_below b0 (Nat.le_refl _) _) (fun i e => by
  rcases e with e | e | e | ⟨off, e⟩
  ·exact ⟨.inl e, by have := h.kin hD i e; omega⟩
  ·exact ⟨.inr (by omega), by omega⟩
  ·exact ⟨.inr (by omega), by omega⟩
  ·exact ⟨.inl (hKA i off e), by have := hlowA i off e; omega⟩))
 have HLR := Lib.hid hL
 have HBS : Hid (b4 = w.heap.size /\ b6 = w.heap.size + 1 /\ D.B <= w.heap.size) := Lib.hid ⟨hb4, hb6, hsz⟩
 have HI := Lib.hid hI
 have HN := Lib.hid hN
 have HRM := Lib.hid hroom
 have HX := Lib.hid hx
 have HLB := Lib.hid hLB
 have HD := Lib.hid hD
 have HF := Lib.hid hF
 have HLL := Lib.hid hL.len
 have HN1 : Hid (N <= 1000) := Lib.hid (by rw [<- hN]; exact hD.few h.dk)
 have HAF : Hid (∀ g off, A = some ⟨g, off, none⟩ -> K g \/ w.heap.size <= g) := Lib.hid fun g off e => .inl (hKA g off e)
 clear a0 a1 b0 s0 hW0 hlowA h hI hN hroom hx hLB hF hD hL hR hKA hsz
 go_enter Tryz.func8, Tryz.ntmps8
 go_upto_region 1 with (fail)
 change Code.wp _ _ _ _ ((w.alloc (.cells (dvC (.slice A N c) (docOf view d a)).toArray 40)).alloc (.cells dvZ.toArray 40))
 rw [<- hW1, <- hb6, <- hb4]
 clear hW1 hb4 hb6
 go_upto_region 2 with (fail)
 go_loopw [20] (fun i wr => ∃ (j : Nat) (A : Option Addr) (c : Nat) (d : DvM) (a : α), j <= n /\ i = .int .i64 j /\ RunB D.B K N w b4 b6 A c (docOf view d a) wr /\ PdAt D q (KR10 K b4 b6 A) d a wr /\ I a /\ D.len a = N /\ D.room a (4 * (n - j)) /\ ∀ g off, A = some ⟨g, off, none⟩ -> K g \/ w.heap.size <= g) (fun i _ => n - (intOf i).toNat)
 case atStart => exact ⟨0, A, c, d, a, Nat.zero_le _, rfl, HRB.out, HPD.out, HI.out, HN.out, HRM.out, HAF.out⟩
 case round =>
  clear HRB HPD HI HN HRM HAF
  obtain ⟨j, A, c, d, a, hj, rfl, hrb, hpd, hi, hlen, hroom, hfar⟩ := hrel
  have HRB := Lib.hid hrb
  have HPD := Lib.hid hpd
  have HI := Lib.hid hi
  have HN := Lib.hid hlen
  have HRM := Lib.hid hroom
  have HAF := Lib.hid hfar
  clear hrb hpd hi hlen hroom hfar
  by_cases hlt : j < n
  ·have ht : (j : Int) < n := by omega
   have ht0 : (0 : Int) <= j := by omega
   obtain ⟨g, off, eL, hg, hrg⟩ := (HLR.out.turned HRB.out.turned (fun g off e e2 => by have h1 := HLB.out (by omega) g off e; have h2 := e2.1; omega)).at_ hlt
   subst eL
   obtain ⟨x, hx⟩ : ∃ x, x = act10K.nth xs j := ⟨_, rfl⟩
   rw [<- hx] at hrg
   have hok : x.Ok := by rw [hx]; exact HX.out _ (act10K.nth_mem (by rw [HLL.out]; exact hlt))
   have k0 := (bounds_u8 hok.1).1
   have k1 := (bounds_u8 hok.1).2
   have HRG : Hid (wr.rangeAt g (off + j * 3) (act10C x)) := Lib.hid hrg
   have hle := HLR.out.le
   have hle' : (n : Int) <= cl := by omega
   have hnm : (n : Int) <= 9223372036854775807 := by have := HLR.out.max; unfold maxLen at this; omega
   have HMX := Lib.hid HLR.out.max
   clear hx hok hrg hle
   go_upto_region 4 with (first
    | (refine wpList_ldr (xs := act10C x) _ rfl rfl rfl Tryz.underlying66 rfl act10_size (act10_len x) HRG.out ?_)
    | (refine wpList_stm (pre := []) (post := []) (xs := act10Z) (ys := act10C x) _ _ rfl rfl rfl rfl act10_size rfl (act10_len x) (act10_one x) rfl (by simp) (At.news wr _ act10Z) ?_; intro w4 A4 T4; rw [List.nil_append, List.append_nil] at A4; have HA4 := Lib.hid A4; have HB4 : Hid (Below wr.heap.size wr w4) := Lib.hid (((Below.refl _ wr).alloc (Nat.le_refl _) _).trans (T4.below (fun i hi => by unfold Just at hi; omega) (by simp))); clear A4 T4))
   obtain ⟨b9, hb9⟩ : ∃ b9, b9 = wr.heap.size := ⟨_, rfl⟩
   have h46 : b4 ≠ b6 := by have := HBS.out; omega
   have H46 := Lib.hid h46
   have h94 : b4 < b9 /\ b6 < b9 /\ w.heap.size <= b9 /\ w.heap.size <= b4 := by
    have h1 := HRB.out.box.lt
    have h2 := HRB.out.out.lt
    have h3 := HBS.out
    omega
   have H94 := Lib.hid h94
   have HRB4 := Lib.hid (HRB.out.below HB4.out)
   have HPD4 : Hid (PdAt D q (fun i => KR10 K b4 b6 A i \/ i = b9) d a w4) := Lib.hid (HPD.out.move HD.out (S := NoBlock) (fun _ e => e.elim) (Turned.of_below HB4.out (Nat.le_refl _) _) (fun i e => by
    have hs := HB4.out.size
    rcases e with e | e
    ·exact ⟨.inl e, by have := HPD.out.kin HD.out i e; omega⟩
    ·have := HA4.out.lt
     exact ⟨.inr (by omega), by omega⟩))
   have HA49 : Hid (At w4 b9 66 (act10C x)) := Lib.hid (by rw [hb9]; exact HA4.out)
   have HFARb : Hid (∀ g off, A = some ⟨g, off, none⟩ -> g < b9) := Lib.hid fun g off e => by rw [hb9]; exact (HRB.out.far g off e).2.2
   rw [<- hb9]
   have z0 : w4.cell? ⟨b9, 0, none⟩ = some (.int .u8 x.kind) := HA49.out.cell 0
   have z1 : w4.cell? ⟨b9, 1, none⟩ = some (.int .i64 x.reg) := HA49.out.cell 1
   have z2 : w4.cell? ⟨b9, 2, none⟩ = some (.int .u32 (U x.v)) := HA49.out.cell 2
   have HOK := Lib.hid (doc_ok HF.out HD.out HPD.out)
   have HNL : Hid ((docOf view d a).disk.length = N) := Lib.hid (by rw [<- HN.out, HF.out.len]; rfl)
   clear hb9 h46 h94 HB4 HA4 HRB HPD HRG
   simp only [Act.put]
   obtain ⟨dd, hdd⟩ : ∃ dd, dd = docOf view d a := ⟨_, rfl⟩
   rw [<- hdd] at HRB4 HOK HNL
   have HDD := Lib.hid hdd
   clear hdd
   obtain ⟨K4, hK4⟩ : ∃ K4 : Nat -> Prop, K4 = fun i => KR10 K b4 b6 A i \/ i = b9 := ⟨_, rfl⟩
   rw [<- hK4] at HPD4
   have HK4 : Hid (∀ i, K4 i ↔ (KR10 K b4 b6 A i \/ i = b9)) := Lib.hid fun i => by rw [hK4]
   clear hK4
   have HUN : Hid (∀ {W W' : World} {c' : Nat} {dd' : DvM}, Turned (Un10 D.B K4) W W' -> RunB D.B K N w b4 b6 A c' dd' W -> At W b9 66 (act10C x) -> RunB D.B K N w b4 b6 A c' dd' W' /\ At W' b9 66 (act10C x)) := Lib.hid fun t h h9 =>
    ⟨h.kept t (fun e => e.2 ((HK4.out _).2 (.inl (.inr (.inl rfl))))) (fun e => e.2 ((HK4.out _).2 (.inl (.inr (.inr (.inl rfl)))))) (fun g off e u => u.2 ((HK4.out _).2 (.inl (.inr (.inr (.inr ⟨off, e⟩)))))) (fun i _ u => ⟨u.1, fun k => u.2 ((HK4.out _).2 (.inl (.inl k)))⟩), h9.kept t (fun e => e.2 ((HK4.out _).2 (.inr rfl)))⟩
   by_cases hk : x.kind % 2 = 1
   ·have ek : (x.kind % 2 == 1) = true := by rw [beq_iff_eq]; exact hk
    clear hk
    have hgd := get_doc HF.out x.reg d (a := a)
    rw [<- HDD.out] at hgd
    obtain ⟨r, hr⟩ : ∃ r, r = dGet dd x.reg := ⟨_, rfl⟩
    obtain ⟨dd1, vv, ee⟩ := r
    obtain ⟨d1, hd1⟩ : ∃ d1, d1 = (pGet (D.len a) d x.reg).1 := ⟨_, rfl⟩
    have HG : Hid (Calls Tryz.prog 12 #[.pointer (some ⟨q, 0, none⟩), .int .i64 x.reg] w4 fun e w' => e = .returned (.tuple #[.int .u32 (U vv), .int .i64 ee]) /\ PdAt D q K4 d1 a w' /\ Turned (Un10 D.B K4) w4 w') := Lib.hid (by
     have h := get10 HPD4.out HD.out x.reg
     rw [<- hr] at hgd
     have e1 : (pGet (D.len a) d x.reg).2 = (vv, ee) := congrArg Prod.snd hgd
     rw [e1, <- hd1] at h
     exact h)
    have HRG : Hid (∀ W, Calls Tryz.prog 18 #[.agg (dvC (.slice A N c) dd).toArray, .int .i64 x.reg] W fun e w' => e = .returned (.tuple #[.agg (dvC (.slice A N c) dd1).toArray, .int .u32 (U vv), .int .i64 ee]) /\ Below W.heap.size W w') := Lib.hid fun W => by
     have h := rget10_any A c dd HOK.out x.reg W
     rw [HNL.out, <- hr] at h
     exact h
    have HD1 : Hid (docOf view d1 a = dd1) := Lib.hid (by rw [hd1]; rw [<- hr] at hgd; exact congrArg Prod.fst hgd)
    clear hr hd1 hgd
    go_upto_region 6 with (go_at_call 12; (with_reducible refine HG.out.mono ?_); rintro e w5 ⟨rfl, p1, t1⟩; have HP5 := Lib.hid p1; have HU5 := Lib.hid (HUN.out t1 HRB4.out HA49.out); clear p1 t1)
    have HL := Lib.hid (dv_len (sl := .slice A N c) HOK.out)
    have z1 : w5.cell? ⟨b9, 1, none⟩ = some (.int .i64 x.reg) := HU5.out.2.cell 1
    have HOK1 : Hid (DvOk dd1) := Lib.hid (by rw [<- HD1.out]; exact doc_ok HF.out HD.out HP5.out)
    have HL1 := Lib.hid (dv_len (sl := .slice A N c) HOK1.out)
    go_upto_region 7 with (first
     | (refine wpList_ldr (xs := dvC (.slice A N c) dd) _ rfl rfl rfl Tryz.underlying40 rfl dv_size HL.out HU5.out.1.box.rng0 ?_)
     | (go_at_call 18; (with_reducible refine (HRG.out _).mono ?_); rintro e w6 ⟨rfl, hb⟩; have HB6 := Lib.hid hb; clear hb)
     | (refine wpList_stm (pre := []) (post := []) (xs := dvZ) (ys := dvC (.slice A N c) dd1) _ _ rfl rfl rfl rfl dv_size dvZ_len HL1.out (dv_one _) rfl (by simp) (At.news w6 _ dvZ) ?_; intro w7 A7 T7; rw [List.nil_append, List.append_nil] at A7; have HA7 := Lib.hid A7; have HB7 : Hid (Below w6.heap.size w6 w7) := Lib.hid (((Below.refl _ w6).alloc (Nat.le_refl _) _).trans (T7.below (fun i hi => by unfold Just at hi; omega) (by simp))); clear A7 T7))
    have HB57 : Hid (Below w5.heap.size w5 w7) := Lib.hid (HB6.out.trans (HB7.out.mono HB6.out.size))
    have HR7 := Lib.hid (HU5.out.1.below HB57.out)
    have HP7 := Lib.hid (HP5.out.below HD.out HB57.out)
    have HA97 := Lib.hid (at_stay HU5.out.2 HB57.out)
    go_upto_region 8 with (first
     | (refine wpList_ldr (xs := dvC (.slice A N c) dd1) _ rfl rfl rfl Tryz.underlying40 rfl dv_size HL1.out HA7.out.rng0 ?_)
     | (refine wpList_stm (pre := []) (post := []) (xs := dvC (.slice A N c) dd) (ys := dvC (.slice A N c) dd1) _ _ rfl rfl rfl rfl dv_size HL.out HL1.out (dv_one _) rfl (by simp) HR7.out.box ?_; intro w8 A8 T8; rw [List.nil_append, List.append_nil] at A8; have HA8 := Lib.hid A8; have HT8 := Lib.hid T8; clear A8 T8))
    have hrow1 : dd1.disk = dd.disk := by rw [<- HD1.out, HDD.out]; rfl
    have HR8 := Lib.hid (HR7.out.store HA8.out HT8.out (by rw [hrow1]; exact HR7.out.row) HR7.out.far H46.out H94.out.2.2.2)
    clear hrow1 z0 z1 z2 HB57 HB6 HB7 HA7 HP5 HU5 HR7 HRG HG
    have HP9 : Hid (PdAt D q K4 d1 a w8) := Lib.hid (by
     have hT : Turned (Just b4) w7 w8 := HT8.out
     exact (HP7.out.move HD.out (S := Just b4) (K' := K4) (fun i e => by rw [show i = b4 from e]; exact (HK4.out _).2 (.inl (.inr (.inl rfl)))) hT (fun i e => ⟨.inl e, by have := HP7.out.kin HD.out i e; have := hT.size; omega⟩)))
    have HUP : Hid (∀ nn, Calls Tryz.prog 11 #[.pointer (some ⟨q, 0, none⟩)] (w8.drewN nn) fun e w' => e = .returned (.bool (U dd1.line == 1)) /\ w' = w8.drewN nn) := Lib.hid fun nn => by
     have h := up10 (HP9.out.drewN HD.out nn)
     rw [show d1.line = dd1.line by rw [<- HD1.out]; rfl] at h
     exact h
    have cl3 : w8.cell? ⟨b4, 3, none⟩ = some (.int .u32 (U dd1.line)) := HR8.out.box.cell 3
    clear HP7
    go_upto_region 15 with (fail)
    go_upto_region 17 with (go_quiet ((go_at_call 11; exact Calls.quiet_of_same (HUP.out _))))
    go_wp2
    go_roundw
    case rel =>
     refine ⟨j + 1, A, c, d1, a, by omega, by go_num, by rw [HD1.out]; exact HR8.out.drewN nq, ?_, HI.out, HN.out, (HD.out.le a _ 4 (by rw [show 4 * (n - (j + 1)) + 4 = 4 * (n - j) by omega]; exact HRM.out)), HAF.out⟩
     exact ((HP9.out.drewN HD.out nq).less HD.out (fun i e => (HK4.out i).2 (.inl e)))
    case measure => simp [intOf]; omega
   ·have ek : (x.kind % 2 == 1) = false := by rw [beq_eq_false_iff_ne]; exact hk
    clear hk
    have hsd := set_doc HD.out HF.out HI.out x.reg x.v d
    rw [<- HDD.out] at hsd
    have hslen := set_len HD.out HF.out HI.out x.reg x.v d
    have hsroom := set_room HD.out x.reg x.v d (4 * (n - (j + 1))) (by rw [show 4 * (n - (j + 1)) + 4 = 4 * (n - j) by omega]; exact HRM.out)
    obtain ⟨r, hr⟩ : ∃ r, r = dSet dd x.reg x.v := ⟨_, rfl⟩
    obtain ⟨dd1, ee⟩ := r
    obtain ⟨r1, hr1⟩ : ∃ r1, r1 = pSet D x.reg x.v d a := ⟨_, rfl⟩
    rw [<- hr1] at hslen hsroom hsd
    rw [<- hr] at hsd
    obtain ⟨d1, a1, e1⟩ := r1
    dsimp only at hslen hsroom hsd
    have he1 : e1 = ee := congrArg Prod.snd hsd.1
    subst he1
    have HS : Hid (Calls Tryz.prog 10 #[.pointer (some ⟨q, 0, none⟩), .int .i64 x.reg, .int .u32 (U x.v)] w4 fun e w' => e = .returned (.int .i64 e1) /\ PdAt D q K4 d1 a1 w' /\ Turned (Un10 D.B K4) w4 w') := Lib.hid (by
     have h := set10 HPD4.out HD.out (HD.out.le a 4 (4 * (n - (j + 1))) (by rw [show 4 + 4 * (n - (j + 1)) = 4 * (n - j) by omega]; exact HRM.out)) x.reg x.v
     rw [<- hr1] at h
     exact h)
    have HRS : Hid (∀ W, v4K.Reads W A N c dd.disk -> (∀ g off, A = some ⟨g, off, none⟩ -> g < W.heap.size) -> Calls Tryz.prog 19 #[.agg (dvC (.slice A N c) dd).toArray, .int .i64 x.reg, .int .u32 (U x.v)] W fun e w' => ∃ A1 c1, e = .returned (.tuple #[.agg (dvC (.slice A1 N c1) dd1).toArray, .int .i64 e1]) /\ v4K.Reads w' A1 N c1 dd1.disk /\ Below W.heap.size W w' /\ ∀ g off, A1 = some ⟨g, off, none⟩ -> A1 = A \/ (W.heap.size + 2 <= g /\ g < w'.heap.size)) := Lib.hid fun W h1 h2 => by
     have h := rset10_any A c dd HOK.out x.reg x.v W (by rw [HNL.out]; exact h1) h2
     rw [HNL.out, <- hr] at h
     exact h
    have HD1 : Hid (docOf view d1 a1 = dd1) := Lib.hid (congrArg Prod.fst hsd.1)
    have HI1 := Lib.hid hsd.2
    have HN1a := Lib.hid (hslen.trans HN.out)
    have HRM1 := Lib.hid hsroom
    clear hr hr1 hsd hslen hsroom
    go_upto_region 11 with (go_at_call 10; (with_reducible refine HS.out.mono ?_); rintro e w5 ⟨rfl, p1, t1⟩; have HP5 := Lib.hid p1; have HU5 := Lib.hid (HUN.out t1 HRB4.out HA49.out); clear p1 t1)
    have HL := Lib.hid (dv_len (sl := .slice A N c) HOK.out)
    have z1 : w5.cell? ⟨b9, 1, none⟩ = some (.int .i64 x.reg) := HU5.out.2.cell 1
    have z2 : w5.cell? ⟨b9, 2, none⟩ = some (.int .u32 (U x.v)) := HU5.out.2.cell 2
    have HOK1 : Hid (DvOk dd1) := Lib.hid (by rw [<- HD1.out]; exact doc_ok HF.out HD.out HP5.out)
    have HRS5 := Lib.hid (HRS.out w5 HU5.out.1.row (fun g off e => (HU5.out.1.far g off e).2.2))
    go_upto_region 12 with (first
     | (refine wpList_ldr (xs := dvC (.slice A N c) dd) _ rfl rfl rfl Tryz.underlying40 rfl dv_size HL.out HU5.out.1.box.rng0 ?_)
     | (go_at_call 19; (with_reducible refine HRS5.out.mono ?_); rintro e w6 ⟨A1, c1, rfl, r1, hb, hf⟩; have HR1 := Lib.hid r1; have HB6 := Lib.hid hb; have HF1 := Lib.hid hf; clear r1 hb hf)
     | (refine wpList_stm (pre := []) (post := []) (xs := dvZ) (ys := dvC (.slice A1 N c1) dd1) _ _ rfl rfl rfl rfl dv_size dvZ_len (dv_len HOK1.out) (dv_one _) rfl (by simp) (At.news w6 _ dvZ) ?_; intro w7 A7 T7; rw [List.nil_append, List.append_nil] at A7; have HA7 := Lib.hid A7; have HB7 : Hid (Below w6.heap.size w6 w7) := Lib.hid (((Below.refl _ w6).alloc (Nat.le_refl _) _).trans (T7.below (fun i hi => by unfold Just at hi; omega) (by simp))); clear A7 T7))
    have HL1 := Lib.hid (dv_len (sl := .slice A1 N c1) HOK1.out)
    have HB57 : Hid (Below w5.heap.size w5 w7) := Lib.hid (HB6.out.trans (HB7.out.mono HB6.out.size))
    have HR7 := Lib.hid (HU5.out.1.below HB57.out)
    have HA97 := Lib.hid (at_stay HU5.out.2 HB57.out)
    have HROW7 : Hid (v4K.Reads w7 A1 N c1 dd1.disk) := Lib.hid (HR1.out.kept HB7.out)
    have HF7 : Hid (∀ g off, A1 = some ⟨g, off, none⟩ -> g ≠ b4 /\ g ≠ b6 /\ g < w7.heap.size) := Lib.hid fun g off e => by
     have hz7 := HB57.out.size
     have hz6 := HB7.out.size
     have hbx := HU5.out.1.box.lt
     have hbo := HU5.out.1.out.lt
     rcases HF1.out g off e with h | h
     ·have h1 := HU5.out.1.far g off (h ▸ e)
      exact ⟨h1.1, h1.2.1, by omega⟩
     ·exact ⟨by omega, by omega, by omega⟩
    have HAF1 : Hid (∀ g off, A1 = some ⟨g, off, none⟩ -> K g \/ w.heap.size <= g) := Lib.hid fun g off e => by
     rcases HF1.out g off e with h | h
     ·exact HAF.out g off (h ▸ e)
     ·right
      have h1 := HU5.out.1.box.lt
      have h2 := HBS.out
      omega
    have HKA : Hid (∀ i off, A1 = some ⟨i, off, none⟩ -> K4 i \/ (w5.heap.size <= i /\ i < w7.heap.size)) := Lib.hid fun i off e => by
     rcases HF1.out i off e with h | h
     ·exact .inl ((HK4.out i).2 (.inl (.inr (.inr (.inr ⟨off, h ▸ e⟩)))))
     ·exact .inr ⟨by omega, (HF7.out i off e).2.2⟩
    go_upto_region 13 with (first
     | (refine wpList_ldr (xs := dvC (.slice A1 N c1) dd1) _ rfl rfl rfl Tryz.underlying40 rfl dv_size HL1.out HA7.out.rng0 ?_)
     | (refine wpList_stm (pre := []) (post := []) (xs := dvC (.slice A N c) dd) (ys := dvC (.slice A1 N c1) dd1) _ _ rfl rfl rfl rfl dv_size HL.out HL1.out (dv_one _) rfl (by simp) HR7.out.box ?_; intro w8 A8 T8; rw [List.nil_append, List.append_nil] at A8; have HA8 := Lib.hid A8; have HT8 := Lib.hid T8; clear A8 T8))
    simp only [Act.put, List.setIfInBounds_toArray, List.set_cons_zero, List.set_cons_succ]
    have HR8 := Lib.hid (HR7.out.store HA8.out HT8.out HROW7.out HF7.out H46.out H94.out.2.2.2)
    have HP7 : Hid (PdAt D q (fun i => K4 i \/ ∃ off, A1 = some ⟨i, off, none⟩) d1 a1 w7) := Lib.hid (HP5.out.move HD.out (S := NoBlock) (fun _ e => e.elim) (Turned.of_below HB57.out (Nat.le_refl _) _) (fun i e => by
     rcases e with e | ⟨off, e⟩
     ·exact ⟨.inl e, by have := HP5.out.kin HD.out i e; have := HB57.out.size; omega⟩
     ·have hz := HB57.out.size
      rcases HKA.out i off e with h | h
      ·exact ⟨.inl h, by have := HP5.out.kin HD.out i h; omega⟩
      ·exact ⟨.inr h.1, h.2⟩))
    have HP9 : Hid (PdAt D q (fun i => K4 i \/ ∃ off, A1 = some ⟨i, off, none⟩) d1 a1 w8) := Lib.hid (HP7.out.move HD.out (S := Just b4) (fun i e => by rw [show i = b4 from e]; exact .inl ((HK4.out _).2 (.inl (.inr (.inl rfl))))) HT8.out (fun i e => ⟨.inl e, by have := HP7.out.kin HD.out i e; have := HT8.out.size; omega⟩))
    clear z0 z1 z2 HB57 HB6 HB7 HA7 HP5 HU5 HR7 HRS HRS5 HS HP7
    have HUP : Hid (∀ nn, Calls Tryz.prog 11 #[.pointer (some ⟨q, 0, none⟩)] (w8.drewN nn) fun e w' => e = .returned (.bool (U dd1.line == 1)) /\ w' = w8.drewN nn) := Lib.hid fun nn => by
     have h := up10 (HP9.out.drewN HD.out nn)
     rw [show d1.line = dd1.line by rw [<- HD1.out]; rfl] at h
     exact h
    have cl3 : w8.cell? ⟨b4, 3, none⟩ = some (.int .u32 (U dd1.line)) := HR8.out.box.cell 3
    go_upto_region 15 with (fail)
    go_upto_region 17 with (go_quiet ((go_at_call 11; exact Calls.quiet_of_same (HUP.out _))))
    go_wp2
    go_roundw
    case rel =>
     refine ⟨j + 1, A1, c1, d1, a1, by omega, by go_num, by rw [HD1.out]; exact HR8.out.drewN nq, ?_, HI1.out, HN1a.out, HRM1.out, HAF1.out⟩
     exact (HP9.out.drewN HD.out nq).less HD.out (fun i e => by
      rcases e with e | e | e | e
      ·exact .inl ((HK4.out i).2 (.inl (.inl e)))
      ·exact .inl ((HK4.out i).2 (.inl (.inr (.inl e))))
      ·exact .inl ((HK4.out i).2 (.inl (.inr (.inr (.inl e)))))
      ·exact .inr e)
    case measure => simp [intOf]; omega
  ·have HJN : Hid (j = n) := Lib.hid (by omega)
   have hge : ¬ (j : Int) < n := by omega
   have HOK := Lib.hid (doc_ok HF.out HD.out HPD.out)
   have HL := Lib.hid (dv_len (sl := .slice A N c) HOK.out)
   have hnb4 : Hid (b4 ≠ b6) := Lib.hid (by have := HBS.out; omega)
   go_wp2_with (first
    | (refine wpList_ldr (xs := dvC (.slice A N c) (docOf view d a)) _ rfl rfl rfl Tryz.underlying40 rfl dv_size HL.out HRB.out.box.rng0 ?_)
    | (refine wpList_stm (pre := []) (post := []) (xs := dvZ) (ys := dvC (.slice A N c) (docOf view d a)) _ _ rfl rfl rfl rfl dv_size dvZ_len HL.out (dv_one _) rfl (by simp) HRB.out.out ?_; intro w8 A8 T8; rw [List.nil_append, List.append_nil] at A8; have HA8 := Lib.hid A8; have HT8 := Lib.hid T8; clear A8 T8))
   refine bodyPost_ret (res_dev_bool Tryz.results8 _ rfl rfl HA8.out HL.out) rfl ?_
   refine ⟨A, c, d, a, rfl, ?_, HI.out, HRB.out.row.turned HT8.out (fun g off e e2 => (HRB.out.far g off e).2.1 e2), HAF.out, HRB.out.turned.after HT8.out (fun i hi e => by have h1 := HBS.out; rw [show i = b6 from e] at hi; omega)⟩
   exact (HPD.out.move HD.out (S := Just b6) (K' := KR10 K b4 b6 A) (fun i e => .inr (.inr (.inl e))) HT8.out (fun i e => ⟨.inl e, by have := HPD.out.kin HD.out i e; have := HT8.out.size; omega⟩)).less HD.out (fun i e => e.elim .inl (fun h => .inr (.inr (.inr h))))
end
end
section
open Go.RowKit Bm Go.Shelf
section
variable {C : Prop} {k b : Nat} {Q W : Int} {d d' : DrvM} {x x' : StoM}
theorem Fit.addA (k5 : 5 <= k) {pg : PageM} (hp : pgOk { pg with q := 1#32 } = true) (hs : U pg.s < (((k - 3) * 6 : Nat) : Int)) (hQ : Q < 2147483647) (hQ0 : 0 <= Q) : ∀ (n : Nat) {W : Int} {d : DrvM} {x : StoM}, Fit C k Q W d x -> d.f.chip.left = 0 -> W + n < d.f.chip.endure -> 8 * k <= n + totF x.bs k ->
  ∃ (d' : DrvM) (x' : StoM) (m : Nat), AddTo k pg n d x (d', x', 0) /\ Fit C k (Q + 1) (W + m) d' x' /\ totF x.bs k + m <= totF x'.bs k + 1 /\ (∀ s, Val x'.bs s = if s = pg.s then valOf.d4OfM pg else Val x.bs s) /\ d'.f.chip.left = 0 /\ d'.f.chip.endure = d.f.chip.endure := by
 have hdone : ∀ (n : Nat) {W : Int} {d : DrvM} {x : StoM}, Fit C k Q W d x -> d.f.chip.left = 0 -> ¬ (roomyM x = false /\ (cheapM x (mvOf (allG x.bs) ((k - 3) * 6))).2 = true) ->
   ∃ (d' : DrvM) (x' : StoM) (m : Nat), AddTo k pg n d x (d', x', 0) /\ Fit C k (Q + 1) (W + m) d' x' /\ totF x.bs k + m <= totF x'.bs k + 1 /\ (∀ s, Val x'.bs s = if s = pg.s then valOf.d4OfM pg else Val x.bs s) /\ d'.f.chip.left = 0 /\ d'.f.chip.endure = d.f.chip.endure := by
  intro n W d x h hl hno
  obtain ⟨d1, x1, e1, f1, v1, sp, tt⟩ := h.doneT hQ hQ0 k5 hp hs hno (.inl hl)
  have hway : (wayM k x (allG x.bs) pg.s).2 = false := by
   unfold wayM
   rw [if_neg hno, if_pos]
   rw [allG_is]
   cases hb : best (cnt x.bs) pg.s with
   | none =>
     show U pl0.p.q < 2147483648
     decide
   | some y =>
     have := h.seq _ (top_pg (best_top hb)).mem
     show U y.p.q < 2147483648
     omega
  refine ⟨d1, x1, 0, ?_, f1.weaken (by omega), by omega, v1, ?_, sp.endure⟩
  ·rw [<- e1]
   exact .done hway
  ·rw [sp.left]
   unfold burn
   rw [if_pos hl]
 intro n
 induction n with
 | zero =>
   intro W d x h hl hw ht
   have hle := totF_le8 (k := k) x
   by_cases hno : roomyM x = false /\ (cheapM x (mvOf (allG x.bs) ((k - 3) * 6))).2 = true
   ·obtain ⟨h1, h2, h3⟩ := cheap_is hno.2
    have hck : (cheapM x (mvOf (allG x.bs) ((k - 3) * 6))).1 < k := Nat.lt_of_lt_of_eq h1 h.len
    obtain ⟨d1, x1, e1, f1, v1, n1, p1, l1, t1⟩ := h.reclaim (by omega) (by omega) hck h3 (.inl hl)
    have := totF_le8 (k := k) x1
    have e : (mvAll k x (cheapM x (mvOf (allG x.bs) ((k - 3) * 6))).1).length = (mvOf (allG x.bs) ((k - 3) * 6) (cheapM x (mvOf (allG x.bs) ((k - 3) * 6))).1).length := rfl
    omega
   ·exact hdone 0 h hl hno
 | succ n ih =>
   intro W d x h hl hw ht
   by_cases hno : roomyM x = false /\ (cheapM x (mvOf (allG x.bs) ((k - 3) * 6))).2 = true
   ·obtain ⟨h1, h2, h3⟩ := cheap_is hno.2
    obtain ⟨b, hb⟩ : ∃ b, b = (cheapM x (mvOf (allG x.bs) ((k - 3) * 6))).1 := ⟨_, rfl⟩
    rw [<- hb] at h1 h2 h3
    have hck : b < k := Nat.lt_of_lt_of_eq h1 h.len
    have hlen := fits_len h hck (ms := mvAll k x b) h3
    obtain ⟨d1, x1, e1, f1, v1, n1, p1, l1, t1⟩ := h.reclaim (by omega) (by omega) hck h3 (.inl hl)
    have hl1 : d1.f.chip.left = 0 := by rw [l1]; unfold burn; rw [if_pos hl]
    have e : (mvAll k x b).length = (mvOf (allG x.bs) ((k - 3) * 6) b).length := rfl
    obtain ⟨d2, x2, m, a2, f2, t2, v2, l2, n2⟩ := ih f1 hl1 (by rw [n1]; omega) (by omega)
    have hway : wayM k x (allG x.bs) pg.s = ((b : Int), true) := by
     unfold wayM
     rw [if_pos hno, hb]
    refine ⟨d2, x2, m + 1, .more b hway hck hlen (by rw [e1]) (by rw [e1]; exact a2), f2.weaken (by omega), by omega, fun s => ?_, l2, n2.trans n1⟩
    rw [v2, v1]
   ·exact hdone (n + 1) h hl hno
theorem Fit.actA {c : Nat} (h : Fit C k Q ((totF x.bs k : Nat) + (c : Int)) d x) (k5 : 5 <= k) (hQ : Q < 2147483647) (hQ0 : 0 <= Q) (hl : d.f.chip.left = 0) (hw : (c : Int) + ((8 * k : Nat) : Int) < d.f.chip.endure) {a : Nat} (ha : (a : Int) < secs k) {pg : PageM} (hp : pgOk { ({ pg with s := BitVec.ofNat 32 a } : PageM) with q := 1#32 } = true) :
  ∃ (d' : DrvM) (x' : StoM) (n : Nat), n <= 8 * k /\ AddTo k { pg with s := BitVec.ofNat 32 a } n (dLook d) x (d', x', 0) /\ Fit C k (Q + 1) ((totF x'.bs k : Nat) + ((c + 1 : Nat) : Int)) d' x' /\ (∀ s, Val x'.bs s = if s = BitVec.ofNat 32 a then valOf.d4OfM pg else Val x.bs s) /\ d'.f.chip.left = 0 /\ d'.f.chip.endure = d.f.chip.endure := by
 have e := look_chip h.sys.live
 have hk := h.k2
 have ha2 : (a : Int) < (((k - 3) * 6 : Nat) : Int) := by unfold secs at ha; omega
 have hs : U (BitVec.ofNat 32 a) = (a : Int) := U_ofNat a (by omega)
 have ht := totF_le8 (k := k) x
 obtain ⟨d', x', m, h1, h2, h3, h4, h5, h6⟩ := Fit.addA k5 (pg := { pg with s := BitVec.ofNat 32 a }) hp (by show U (BitVec.ofNat 32 a) < _; rw [hs]; exact ha2) hQ hQ0 (8 * k - totF x.bs k) h.look (by rw [e]; exact hl) (by rw [e]; omega) (by omega)
 exact ⟨d', x', 8 * k - totF x.bs k, by omega, h1, h2.weaken (by omega), h4, h5, by rw [h6, e]⟩
end
def v4W (v : V4) : List (BitVec 32) := [v.a, v.b, v.c, v.d]
theorem v4W_us (v : V4) : Us (v4W v) = v4C v := rfl
structure StoW (B p f q s : Nat) (K : Nat -> Prop) (l : List V4) (n : Nat) (w : World) (d : DrvM) (x : StoM) : Prop where
 sto : ∃ g, Sto B p f q s 5 g K d x w
 fit : Fit True 5 (n : Int) ((totF x.bs 5 : Nat) + ((n + 1 : Nat) : Int)) d x
 left : d.f.chip.left = 0
 endure : d.f.chip.endure = 10000
 t0 : 0 <= d.t
 t1 : d.t <= 500 + 123000 * (n : Int)
 val : ∀ m : BitVec 32, Val x.bs m = v4W (vN l m.toNat)
section
variable {B p f q s : Nat} {K K' : Nat -> Prop} {l : List V4} {n : Nat} {w w' : World} {d : DrvM} {x : StoM}
theorem StoW.put {pg : PageM} {y : V4} (h : StoW B p f q s K l n w d x) (hn : n <= 400) {a : Nat} (ha : a < 12) (hl : l.length = 12) (hp : pgOk { ({ pg with s := BitVec.ofNat 32 a } : PageM) with q := 1#32 } = true) (hy : valOf.d4OfM pg = v4W y) :
  ∃ (d' : DrvM) (x' : StoM) (m : Nat), m <= 40 /\ AddTo 5 { pg with s := BitVec.ofNat 32 a } m (dLook d) x (d', x', 0) /\ mChg 5 d x (a : Int) (d', x', 0) = (d', x', 0) /\ mBegin 5 d x (a : Int) = (dLook d, x, 0) /\ ∀ w', (∃ g, Sto B p f q s 5 g K d' x' w') -> StoW B p f q s K (l.set a y) (n + 1) w' d' x' := by
 have hsec : secs 5 = 12 := by decide
 have i1 : (a : Int) < secs 5 := by rw [hsec]; omega
 have hbeg := h.fit.begin (by omega) (a := (a : Int)) (by omega) i1
 obtain ⟨d', x', m, hm, hadd, hf', hv', hl', he'⟩ := h.fit.actA (by omega) (by omega) (by omega) h.left (by rw [h.endure]; omega) i1 hp
 have hchg : mChg 5 d x (a : Int) (d', x', 0) = (d', x', 0) := chg_fit h.fit (by omega) (by omega) i1 hf'.off rfl
 have htk := addTo_ticks (by omega) hadd
 rw [look_t] at htk
 dsimp only at htk
 have h0 := h.t0
 have h1 := h.t1
 refine ⟨d', x', m, hm, hadd, hchg, hbeg, fun w' hs => ⟨hs, ?_, hl', he'.trans h.endure, by omega, by push_cast; omega, fun z => ?_⟩⟩
 ·have e1 : ((n + 1 : Nat) : Int) = (n : Int) + 1 := by omega
  rw [e1]
  exact hf'
 ·rw [hv' z, h.val z, hy]
  unfold vN
  rw [v4K.nth_set y (by omega)]
  by_cases hz : z = BitVec.ofNat 32 a
  ·rw [if_pos hz, if_pos (by rw [hz, BitVec.toNat_ofNat, Nat.mod_eq_of_lt (by omega)])]
  ·rw [if_neg hz, if_neg (fun e => hz (by rw [<- e]; simp))]
end
def stoD (B p f q s : Nat) : Dk10 (List V4 × Nat) where
 T := 30
 v := .pointer (some ⟨s, 0, none⟩)
 fs := 37
 fr := 9
 fw := 140
 ft := 139
 B := B
 st := fun K a w => a.1.length = 12 /\ ∃ d x, StoW B p f q s K a.1 a.2 w d x
 len := fun a => a.1.length
 rd := fun a i => (a, vN a.1 i, 0)
 wr := fun a i y => ((a.1.set i y, a.2 + 1), 0)
 tr := fun a i => ((a.1.set i v40, a.2 + 1), 0)
 room := fun a n => a.2 + n <= 401
theorem meths_sectors (k : Nat) (p : Nat) (w : World) : (method (k + 1) 30 (.pointer (some ⟨p, 0, none⟩)) "Sectors").run Tryz.prog w = .ok (37, .pointer (some ⟨p, 0, none⟩)) w := by kernel_rfl
theorem meths_read (k : Nat) (p : Nat) (w : World) : (method (k + 1) 30 (.pointer (some ⟨p, 0, none⟩)) "Read").run Tryz.prog w = .ok (9, .pointer (some ⟨p, 0, none⟩)) w := by kernel_rfl
theorem meths_write (k : Nat) (p : Nat) (w : World) : (method (k + 1) 30 (.pointer (some ⟨p, 0, none⟩)) "Write").run Tryz.prog w = .ok (140, .pointer (some ⟨p, 0, none⟩)) w := by kernel_rfl
theorem meths_trim (k : Nat) (p : Nat) (w : World) : (method (k + 1) 30 (.pointer (some ⟨p, 0, none⟩)) "Trim").run Tryz.prog w = .ok (139, .pointer (some ⟨p, 0, none⟩)) w := by kernel_rfl
theorem un_may {B : Nat} {K : Nat -> Prop} {w w' : World} (t : Turned (May B K) w w') : Turned (Un10 B K) w w' := t
theorem pgW_ok (a b c e : BitVec 32) (n : Nat) (hn : n < 512) : pgOk { ({ pgW a b c e with s := BitVec.ofNat 32 n } : PageM) with q := 1#32 } = true := by
 have h1 : U (BitVec.ofNat 32 n) < 512 := by rw [U_ofNat n (by omega)]; omega
 unfold pgOk pgW
 simp only [Bool.and_eq_true, decide_eq_true_eq]
 exact ⟨h1, by decide, by decide, rfl⟩
theorem pgT_ok (n : Nat) (hn : n < 512) : pgOk { ({ pgT with s := BitVec.ofNat 32 n } : PageM) with q := 1#32 } = true := by
 have h1 : U (BitVec.ofNat 32 n) < 512 := by rw [U_ofNat n (by omega)]; omega
 unfold pgOk pgT pgData0
 simp only [Bool.and_eq_true, decide_eq_true_eq]
 exact ⟨h1, by decide, by decide, by decide⟩
theorem sto_read {B p f q s : Nat} {K : Nat -> Prop} {a : List V4 × Nat} {w : World} (h : (stoD B p f q s).st K a w) (i : Nat) (hi : i < a.1.length) :
  Calls Tryz.prog 9 #[.pointer (some ⟨s, 0, none⟩), .int .i64 i] w fun e w' => e = .returned (.tuple #[.agg (v4C (vN a.1 i)).toArray, .int .i64 0]) /\ (stoD B p f q s).st K a w' /\ Turned (Un10 B K) w w' := by
 obtain ⟨h0, d, x, hw⟩ := h
 obtain ⟨g, hg⟩ := hw.sto
 rw [h0] at hi
 have hn : (i : Int) < secs 5 := by have : secs 5 = 12 := by decide
                                    omega
 have hbeg := hw.fit.begin (by omega) (a := (i : Int)) (by omega) hn
 have hrd := hw.fit.read (by omega) hn
 refine (hg.read hw.fit.sys.live.ok (by omega) (i : Int) (by omega) (by omega)).mono ?_
 rintro e w1 ⟨rfl, hs1, t1⟩
 rw [hbeg] at hs1 ⊢
 have hc := look_chip hw.fit.sys.live
 refine ⟨?_, ⟨h0, dLook d, x, ⟨hs1, hw.fit.look, by rw [hc]; exact hw.left, by rw [hc]; exact hw.endure, by rw [look_t]; exact hw.t0, by rw [look_t]; exact hw.t1, hw.val⟩⟩, un_may t1⟩
 rw [hrd, hw.val, v4W_us, BitVec.toNat_ofNat, Nat.mod_eq_of_lt (by omega)]
theorem sto_is (B p f q s : Nat) : (stoD B p f q s).Is where
 ms := fun k w => meths_sectors k s w
 mr := fun k w => meths_read k s w
 mw := fun k w => meths_write k s w
 mt := fun k w => meths_trim k s w
 gs := fun args w => by kernel_rfl
 gr := fun args w => by kernel_rfl
 gw := fun args w => by kernel_rfl
 gt := fun args w => by kernel_rfl
 one := rfl
 few := fun h => by show List.length _ <= 1000; rw [h.1]; decide
 low := fun h => by obtain ⟨_, d, x, hw⟩ := h; obtain ⟨g, hs⟩ := hw.sto; exact hs.size
 kin := fun h i hi => by obtain ⟨_, d, x, hw⟩ := h; obtain ⟨g, hs⟩ := hw.sto; exact hs.kin i hi
 move := fun h hs t hK => by
  obtain ⟨h0, d, x, hw⟩ := h
  obtain ⟨g, hg⟩ := hw.sto
  exact ⟨h0, d, x, ⟨⟨g, hg.move hw.fit.sys.live.ok.calm.job hs t hK⟩, hw.fit, hw.left, hw.endure, hw.t0, hw.t1, hw.val⟩⟩
 cs := fun {K a w} h => by
  obtain ⟨h0, d, x, hw⟩ := h
  obtain ⟨g, hg⟩ := hw.sto
  have h1 := hg.sectors
  show Calls _ _ _ _ fun e w' => e = .returned (.int .i64 (a.1.length : Nat)) /\ w' = w
  rw [h0]
  exact h1
 cr := fun h _ i hi => sto_read h i hi
 cw := fun {K a w} h hr i hi y => by
  obtain ⟨h0, d, x, hw⟩ := h
  obtain ⟨g, hg⟩ := hw.sto
  have hi : i < a.1.length := hi
  have hr : a.2 + 1 <= 401 := hr
  rw [h0] at hi
  obtain ⟨d', x', m, hm, hadd, hchg, hbeg, hnew⟩ := hw.put (by omega) hi h0 (pgW_ok y.a y.b y.c y.d i (by omega)) (y := y) rfl
  have h1 := hw.t1
  refine (hg.write hw.fit.sys.live.ok (by omega) (by omega) (i : Int) (by omega) (by omega) (n := m) (v0 := y.a) (v1 := y.b) (v2 := y.c) (v3 := y.d) (R := (d', x', 0)) (fun _ => ?_) (fun _ => ⟨Int.le_refl 0, by show (0 : Int) <= 100; decide⟩) hw.t0 (by omega)).mono ?_
  ·rw [hbeg, Int.toNat_natCast]
   exact hadd
  ·rintro e w1 ⟨rfl, hs1, t1⟩
   rw [hchg] at hs1 ⊢
   exact ⟨rfl, ⟨by show List.length (List.set _ _ _) = 12; rw [List.length_set]; exact h0, d', x', hnew w1 hs1⟩, un_may t1⟩
 ct := fun {K a w} h hr i hi => by
  obtain ⟨h0, d, x, hw⟩ := h
  obtain ⟨g, hg⟩ := hw.sto
  have hi : i < a.1.length := hi
  have hr : a.2 + 1 <= 401 := hr
  rw [h0] at hi
  obtain ⟨d', x', m, hm, hadd, hchg, hbeg, hnew⟩ := hw.put (by omega) hi h0 (pgT_ok i (by omega)) (y := v40) rfl
  have h1 := hw.t1
  refine (hg.trim hw.fit.sys.live.ok (by omega) (by omega) (i : Int) (by omega) (by omega) (n := m) (R := (d', x', 0)) (fun _ => ?_) (fun _ => ⟨Int.le_refl 0, by show (0 : Int) <= 100; decide⟩) hw.t0 (by omega)).mono ?_
  ·rw [hbeg, Int.toNat_natCast]
   exact hadd
  ·rintro e w1 ⟨rfl, hs1, t1⟩
   rw [hchg] at hs1 ⊢
   exact ⟨rfl, ⟨by show List.length (List.set _ _ _) = 12; rw [List.length_set]; exact h0, d', x', hnew w1 hs1⟩, un_may t1⟩
 lr := fun _ _ => rfl
 lw := fun _ _ _ => List.length_set
 lt := fun _ _ => List.length_set
 rr := fun a i n h => by show a.2 + n <= 401; have : a.2 + (n + 1) <= 401 := h; omega
 rw := fun a i y n h => by show a.2 + 1 + n <= 401; have : a.2 + (n + 1) <= 401 := h; omega
 rt := fun a i n h => by show a.2 + 1 + n <= 401; have : a.2 + (n + 1) <= 401 := h; omega
 rl := fun a n h => by show a.2 + n <= 401; have : a.2 + (n + 1) <= 401 := h; omega
theorem sto_faith (B p f q s : Nat) : Faith (stoD B p f q s) (fun _ => True) (fun a => a.1) where
 len := fun _ => rfl
 rd := fun _ _ _ _ => ⟨rfl, rfl, trivial⟩
 wr := fun _ _ _ _ _ => ⟨rfl, rfl, trivial⟩
 tr := fun _ _ _ _ => ⟨rfl, rfl, trivial⟩
theorem format_sto {B p f q : Nat} {K : Nat -> Prop} {w : World} (h : Dv B p f q 5 K ⟨fNew (mNew 5 10000), 0⟩ w) :
  Calls Tryz.prog 6 #[.pointer (some ⟨q, 0, none⟩)] w fun e w' => e = .returned (.tuple #[.pointer (some ⟨w.heap.size, 0, none⟩), .int .i64 0]) /\ (stoD B p f q w.heap.size).st K (List.replicate 12 v40, 0) w' /\ Turned (May B K) w w' := by
 obtain ⟨d, hd⟩ : ∃ d : DrvM, d = ⟨fNew (mNew 5 10000), 0⟩ := ⟨_, rfl⟩
 obtain ⟨d', x', m1, m2, m3, m4, m5⟩ := new_fit (C := True) (k := 5) (endure := 10000) (by omega) (by omega) (by omega) (by omega) hd
 rw [<- hd] at h
 have hok : DrvOk 5 d := by rw [hd]; exact ⟨newOk 5 10000 (by omega) (by omega) (by omega) (by omega), ⟨rfl, rfl, rfl⟩⟩
 have hu : d.f.chip.up = true := by rw [hd]; rfl
 have ht : d.t = 0 := by rw [hd]
 have htk := renews_ticks (List.range 5) (dLook d) (x0 d.f.chip.ws)
 rw [m1, look_t, ht, List.length_range] at htk
 refine (h.format hok (by omega) (by omega) hu (by omega) (by omega)).mono ?_
 intro e w1 ho
 obtain ⟨o1, o2, o3⟩ := ho.ok (by rw [m1])
 rw [m1] at o2
 refine ⟨o1, ⟨List.length_replicate, d', x', ⟨o2, m2.weaken (by omega), m4, m5, htk.1, by have := htk.2; dsimp only at this; omega, fun n => ?_⟩⟩, o3⟩
 rw [m3 n]
 have : vN (List.replicate 12 v40) n.toNat = v40 := by
  unfold vN Kd.nth
  rw [List.getD_eq_getElem?_getD, List.getElem?_replicate]
  split <;> rfl
 rw [this]
 rfl
end
section
open Go.RowKit Bm Go.Shelf
theorem wdC_one10 (p q : Nat) : ∀ u ∈ wdC p q, u.oneCell' = true := by
 intro u hu
 simp only [wdC, List.mem_cons, List.not_mem_nil, or_false] at hu
 rcases hu with rfl | rfl <;> rfl
set_option maxRecDepth 100000 in
set_option maxHeartbeats 8000000 in
theorem sectorStore_walk (A : Option Addr) (cap : Nat) (xs : List Act10) (bo : ∀ a ∈ xs, Act10.Ok a) (w : World) (r : act10K.Reads w A xs.length cap xs) :
  Calls Tryz.prog 3 #[.slice A xs.length cap] w fun e w' => e = .returned (.bool true) /\ Below w.heap.size w w' := by
 obtain ⟨i0, hin, hz0, hz1, hz2⟩ := info_parts v4_infoA
 have hle := r.le
 have hmx := r.max
 unfold maxLen at hmx
 have HR := Lib.hid r
 have HBO := Lib.hid bo
 obtain ⟨n, hn⟩ : ∃ n, n = xs.length := ⟨_, rfl⟩
 rw [<- hn] at HR hle ⊢
 have hnb : (n : Int) <= 9223372036854775807 := by omega
 have hn0 : (0 : Int) <= n := by omega
 clear bo r hn hle hmx
 go_enter Tryz.func3, Tryz.ntmps3
 go_upto_region 3 with (go_at_call 4; (refine (alive10_any w).mono ?_); rintro e wa ⟨rfl, hBa⟩; have HBA := Lib.hid hBa; clear hBa)
 by_cases h100 : 100 < n
 ·have hn' : (100 : Int) < (n : Int) := by omega
  go_wp2
  go_ret
  exact ⟨rfl, HBA.out⟩
 have hn' : ¬ ((100 : Int) < (n : Int)) := by omega
 go_upto_region 6 with (first
  | (go_at_call 5; (refine (begin8_any (B := w.heap.size) 5 10000 wa HBA.out.size (by omega) (by omega) (by omega) (by omega)).mono ?_); rintro e w1 ⟨p, f, q, rfl, s0, b1⟩; have S1 : Hid (Dv w.heap.size p f q 5 NoBlock ⟨fNew (mNew 5 10000), 0⟩ w1) := Lib.hid s0; have B1 := Lib.hid (HBA.out.trans (b1.mono HBA.out.size)); clear s0 b1)
  | (refine wpList_stm (pre := []) (post := []) (xs := wd0) (ys := wdC p q) _ _ rfl rfl rfl rfl wd_size rfl rfl (wdC_one10 p q) rfl (by simp) (At.news w1 _ wd0) ?_; intro w2 A2 T2; rw [List.nil_append, List.append_nil] at A2; have HA2 := Lib.hid A2; have HB2 : Hid (Below w1.heap.size w1 w2) := Lib.hid (((Below.refl _ w1).alloc (Nat.le_refl _) _).trans (T2.below (fun i hi => by unfold Just at hi; omega) (by simp))); clear A2 T2))
 obtain ⟨bt, hbt⟩ : ∃ bt, bt = w1.heap.size := ⟨_, rfl⟩
 rw [<- hbt] at HA2 ⊢
 have B2 := Lib.hid (B1.out.trans (HB2.out.mono B1.out.size))
 have S2 : Hid (Dv w.heap.size p f q 5 NoBlock ⟨fNew (mNew 5 10000), 0⟩ w2) := Lib.hid (S1.out.move rfl (S := NoBlock) (fun _ e => e.elim) (Turned.of_below HB2.out (Nat.le_refl _) _) (fun i e => e.elim))
 have FO := Lib.hid (format_sto S2.out)
 have c1 : w2.cell? ⟨bt, 1, none⟩ = some (.pointer (some ⟨q, 0, none⟩)) := HA2.out.cell 1
 obtain ⟨s1, hs1⟩ : ∃ s1, s1 = w2.heap.size := ⟨_, rfl⟩
 rw [<- hs1] at FO
 clear hbt hs1 S1 B1 HB2
 go_upto_region 9 with (first
  | (go_at_call 6; (with_reducible refine FO.out.mono ?_); rintro e w3 ⟨rfl, s3, t3⟩; have S3 := Lib.hid s3; have B3 := Lib.hid (B2.out.trans (un_below (un_may t3) B2.out.size)); clear s3 t3))
 clear c1 FO S2 HA2 B2 HBA
 have HNW : Hid (Calls Tryz.prog 7 #[.iface 30 (.pointer (some ⟨s1, 0, none⟩))] w3 fun e w' => e = .returned (.pointer (some ⟨w3.heap.size, 0, none⟩)) /\ PdAt (stoD w.heap.size p f q s1) w3.heap.size NoBlock pd0 (List.replicate 12 v40, 0) w' /\ Below w3.heap.size w3 w') := Lib.hid (new10 (sto_is w.heap.size p f q s1) S3.out (fun e => e))
 obtain ⟨qd, hqd⟩ : ∃ qd, qd = w3.heap.size := ⟨_, rfl⟩
 rw [<- hqd] at HNW
 have HQD := Lib.hid hqd
 clear hqd
 go_upto_region 12 with (go_at_call 7; (with_reducible refine HNW.out.mono ?_); rintro e w4 ⟨rfl, p4, b4⟩; have P4 := Lib.hid p4; have B4 := Lib.hid (B3.out.trans (b4.mono (by have := HQD.out; have := B3.out.size; omega))); clear p4 b4)
 obtain ⟨D, hDd⟩ : ∃ D, D = stoD w.heap.size p f q s1 := ⟨_, rfl⟩
 have HD : Hid D.Is := Lib.hid (by rw [hDd]; exact sto_is ..)
 have HFT : Hid (Faith D (fun _ => True) (fun a => a.1)) := Lib.hid (by rw [hDd]; exact sto_faith ..)
 have HDB : Hid (D.B = w.heap.size) := Lib.hid (by rw [hDd]; rfl)
 have HDL : Hid (∀ a, D.len a = a.1.length) := Lib.hid (by rw [hDd]; exact fun _ => rfl)
 have HRM : Hid (D.room (List.replicate 12 v40, 0) (4 * n)) := Lib.hid (by rw [hDd]; show 0 + 4 * n <= 401; omega)
 have HRD : Hid (∀ {K : Nat -> Prop} {a : List V4 × Nat} {W : World}, D.st K a W -> a.1.length = 12 /\ ∀ i : Nat, i < 12 -> Calls Tryz.prog 9 #[.pointer (some ⟨s1, 0, none⟩), .int .i64 i] W fun e w' => e = .returned (.tuple #[.agg (v4C (vN a.1 i)).toArray, .int .i64 0]) /\ D.st K a w' /\ Turned (Un10 w.heap.size K) W w') := Lib.hid (by
  rw [hDd]
  exact fun h => ⟨h.1, fun i hi => sto_read h i (by rw [h.1]; exact hi)⟩)
 rw [<- hDd] at P4
 clear hDd HNW S3 B3
 go_wp2_with (at_make; refine halt_here ?_)
 refine Lib.hid ?_
 refine wpList_madeK v4K w4 rfl _ _ rfl w4.heap.size Tryz.underlying38 hin hz0 hz1 hz2 (by omega) 12 (by rfl) (by rfl) (by omega) (Nat.le_refl _) ?_
 intro w5 h1 h2
 have HO5 := Lib.hid h1
 have HB5 := Lib.hid h2
 have HLT5 : Hid (w4.heap.size < w5.heap.size) := Lib.hid (own_hi10 h1 rfl)
 clear h1 h2
 simp only [Act.put, List.setIfInBounds_toArray, List.set_cons_zero, List.set_cons_succ]
 have HP5 : Hid (PdAt D qd (Just w4.heap.size) pd0 (List.replicate 12 v40, 0) w5) := Lib.hid (P4.out.move HD.out (S := NoBlock) (fun _ e => e.elim) (Turned.of_below HB5.out (Nat.le_refl _) _) (fun i e => by rw [show i = w4.heap.size from e]; exact ⟨.inr (Nat.le_refl _), HLT5.out⟩))
 have HRUN := Lib.hid (run10_any HD.out HFT.out HP5.out trivial 12 n (by rw [HDL.out]; exact List.length_replicate) HRM.out (some ⟨w4.heap.size, 0, none⟩) 12 (by
   obtain ⟨A', c', e, hr, _⟩ := Kd.Reads.of_own (K := v4K) HO5.out List.length_replicate.symm
   cases e
   exact hr) (fun g off e => by cases e; rfl) A cap xs (HR.out.kept (B4.out.trans (HB5.out.mono B4.out.size))) HBO.out (fun h0 g off e => by
   obtain ⟨g', off', e', hg', _⟩ := HR.out.cell h0
   rw [e] at e'
   cases e'
   rw [HDB.out]
   exact hg'))
 have hz34 := dv_zero
 have hz4 := v4_zero
 go_upto_region 15 with (first
  | (go_at_call 8; (refine HRUN.out.mono ?_); rintro e w6 ⟨A6, c6, d6, a6, rfl, p6, -, r6, f6, t6⟩; have HP6 := Lib.hid p6; have HR6 := Lib.hid r6; have HT6 := Lib.hid t6; have HOK6 := Lib.hid (doc_ok HFT.out HD.out p6); clear p6 r6 f6 t6)
  | (refine wpList_stm (pre := []) (post := []) (xs := dvZ) (ys := dvC (.slice A6 12 c6) (docOf (fun a : List V4 × Nat => a.1) d6 a6)) _ _ rfl rfl rfl rfl dv_size dvZ_len (dv_len HOK6.out) (dv_one _) rfl (by simp) (At.news w6 _ dvZ) ?_; intro w7 A7 T7; rw [List.nil_append, List.append_nil] at A7; have HA7 := Lib.hid A7; have HB7 : Hid (Below w6.heap.size w6 w7) := Lib.hid (((Below.refl _ w6).alloc (Nat.le_refl _) _).trans (T7.below (fun i hi => by unfold Just at hi; omega) (by simp))); clear A7 T7))
 obtain ⟨KA, hKA⟩ : ∃ KA : Nat -> Prop, KA = fun i => ∃ off, A6 = some ⟨i, off, none⟩ := ⟨_, rfl⟩
 have HKA : Hid (∀ i, KA i ↔ ∃ off, A6 = some ⟨i, off, none⟩) := Lib.hid fun i => by rw [hKA]
 have HS7 : Hid (D.st KA a6 w7) := Lib.hid (HD.out.move HP6.out.dk (S := NoBlock) (fun _ e => e.elim) (Turned.of_below HB7.out (Nat.le_refl _) _) (fun i e => by
  have h1 : (Just w4.heap.size i \/ ∃ off, A6 = some ⟨i, off, none⟩) \/ i = qd := .inl (.inr ((HKA.out i).1 e))
  exact ⟨.inl h1, by have := HD.out.kin HP6.out.dk i h1; have := HB7.out.size; omega⟩))
 have HR7 := Lib.hid (HR6.out.kept HB7.out)
 have HW7 : Hid (Below w.heap.size w w7) := Lib.hid (by
  have h1 := B4.out.trans (HB5.out.mono B4.out.size)
  have h2 := h1.trans (un_below (by rw [<- HDB.out]; exact HT6.out) h1.size)
  exact h2.trans (HB7.out.mono h2.size))
 obtain ⟨b8, hb8⟩ : ∃ b8, b8 = w6.heap.size := ⟨_, rfl⟩
 rw [<- hb8] at HA7 ⊢
 have c21 : w7.cell? ⟨b8, 21, none⟩ = some (.slice A6 12 c6) := (dv_cells HA7.out HOK6.out).2.2.2.2.2
 have hc6 : (12 : Int) <= c6 := by have := HR7.out.le; omega
 clear hKA hb8 HP6 HR6 HT6 HB7 HP5 HRUN HO5 HB5 HLT5 P4 B4
 go_upto_region 18 with (fail)
 go_loopw [55] (fun i wr => ∃ j : Nat, j <= 12 /\ i = .int .i64 j /\ D.st KA a6 wr /\ v4K.Reads wr A6 12 c6 a6.1 /\ Below w.heap.size w wr) (fun i _ => 12 - (intOf i).toNat)
 case atStart => exact ⟨0, Nat.zero_le _, rfl, HS7.out, HR7.out, HW7.out⟩
 case round =>
  obtain ⟨j, hj, rfl, hs, hr, hB⟩ := hrel
  have HS := Lib.hid hs
  have HRr := Lib.hid hr
  have HB := Lib.hid hB
  clear hs hr hB HS7 HR7 HW7
  by_cases hlt : j < 12
  ·have ht : (j : Int) < 12 := by omega
   have ht0 : (0 : Int) <= j := by omega
   obtain ⟨g, off, eA, hg, hrg⟩ := HRr.out.at_ hlt
   subst eA
   obtain ⟨x, hx⟩ : ∃ x, x = vN a6.1 j := ⟨_, rfl⟩
   have HRG : Hid (wr.rangeAt g (off + j * 4) (v4C x)) := Lib.hid (by rw [hx]; exact hrg)
   have HX := Lib.hid hx
   clear hx hrg
   go_upto_region 20 with (first
    | (refine wpList_ldr (xs := v4C x) _ rfl rfl rfl Tryz.underlying43 rfl v4_size (v4_len _) HRG.out ?_)
    | (refine wpList_stm (pre := []) (post := []) (xs := v4C v40) (ys := v4C x) _ _ rfl rfl rfl rfl v4_size (v4_len _) (v4_len _) (v4_one _) rfl (by simp) (At.news wr _ (v4C v40)) ?_; intro w9 A9 T9; rw [List.nil_append, List.append_nil] at A9; have HA9 := Lib.hid A9; have HB9 : Hid (Below wr.heap.size wr w9) := Lib.hid (((Below.refl _ wr).alloc (Nat.le_refl _) _).trans (T9.below (fun i hi => by unfold Just at hi; omega) (by simp))); clear A9 T9))
   try simp only [Act.put]
   obtain ⟨b11, hb11⟩ : ∃ b11, b11 = wr.heap.size := ⟨_, rfl⟩
   rw [<- hb11] at HA9 ⊢
   have HS9 : Hid (D.st (fun i => KA i \/ i = b11) a6 w9) := Lib.hid (HD.out.move HS.out (S := NoBlock) (fun _ e => e.elim) (Turned.of_below HB9.out (Nat.le_refl _) _) (fun i e => by
    have hz := HB9.out.size
    rcases e with e | e
    ·exact ⟨.inl e, by have := HD.out.kin HS.out i e; omega⟩
    ·exact ⟨.inr (by omega), by rw [e]; exact HA9.out.lt⟩))
   have HR9 := Lib.hid (HRr.out.kept HB9.out)
   have HW9 := Lib.hid (HB.out.trans (HB9.out.mono HB.out.size))
   have HRC : Hid (Calls Tryz.prog 9 #[.pointer (some ⟨s1, 0, none⟩), .int .i64 (j : Int)] w9 fun e w' => e = .returned (.tuple #[.agg (v4C x).toArray, .int .i64 0]) /\ D.st (fun i => KA i \/ i = b11) a6 w' /\ Turned (Un10 w.heap.size (fun i => KA i \/ i = b11)) w9 w') := Lib.hid (by
    have h := (HRD.out HS9.out).2 j hlt
    rw [<- HX.out] at h
    exact h)
   clear hb11 HRG HS HRr HB HB9 HS9
   go_upto_region 21 with (first
    | (go_at_call 9; (with_reducible refine HRC.out.mono ?_); rintro e w10 ⟨rfl, s10, t10⟩; have HS10 := Lib.hid s10; have HT10 := Lib.hid t10; clear s10 t10)
    | (refine wpList_stm (pre := []) (post := []) (xs := v4C v40) (ys := v4C x) _ _ rfl rfl rfl rfl v4_size (v4_len _) (v4_len _) (v4_one _) rfl (by simp) (At.news w10 _ (v4C v40)) ?_; intro w11 A11 T11; rw [List.nil_append, List.append_nil] at A11; have HA11 := Lib.hid A11; have HB11 : Hid (Below w10.heap.size w10 w11) := Lib.hid (((Below.refl _ w10).alloc (Nat.le_refl _) _).trans (T11.below (fun i hi => by unfold Just at hi; omega) (by simp))); clear A11 T11))
   try simp only [Act.put, List.setIfInBounds_toArray, List.set_cons_zero, List.set_cons_succ]
   have HA91 : Hid (At w11 b11 43 (v4C x)) := Lib.hid (at_stay (HA9.out.kept HT10.out (fun e => e.2 (.inr rfl))) HB11.out)
   have q9 : ∀ W : World, (Op.equalIn 10000 43 (.agg (v4C x).toArray) (.agg (v4C x).toArray)).run Tryz.prog W = .ok true W := fun W => by
    have := run_eqv x x W
    rw [decide_eq_true rfl] at this
    exact this
   have HS11 : Hid (D.st KA a6 w11) := Lib.hid (HD.out.move HS10.out (S := NoBlock) (fun _ e => e.elim) (Turned.of_below HB11.out (Nat.le_refl _) _) (fun i e => ⟨.inl (.inl e), by have := HD.out.kin HS10.out i (.inl e); have := HB11.out.size; omega⟩))
   have HR11 : Hid (v4K.Reads w11 (some ⟨g, off, none⟩) 12 c6 a6.1) := Lib.hid ((HR9.out.turned HT10.out (fun g' off' e u => u.2 (.inl ((HKA.out g').2 ⟨off', e⟩)))).kept HB11.out)
   have HW11 : Hid (Below w.heap.size w w11) := Lib.hid (by
    have h2 := HW9.out.trans (un_below HT10.out HW9.out.size)
    exact h2.trans (HB11.out.mono h2.size))
   clear HS10 HT10 HR9 HW9 HRC HB11
   go_wp2_with (first
    | (refine wpList_ldr (xs := v4C x) _ rfl rfl rfl Tryz.underlying43 rfl v4_size (v4_len _) HA11.out.rng0 ?_)
    | (refine wpList_ldr (xs := v4C x) _ rfl rfl rfl Tryz.underlying43 rfl v4_size (v4_len _) HA91.out.rng0 ?_))
   go_roundw
   case rel => exact ⟨j + 1, by omega, by go_num, HS11.out, HR11.out, HW11.out⟩
   case measure => simp [intOf]; omega
  ·have hge : ¬ (j : Int) < 12 := by omega
   clear hlt
   go_wp2
   go_ret
   exact ⟨rfl, HB.out⟩
end
end Go.Proofs.YtpkkejdjhnmjiaaGreat
