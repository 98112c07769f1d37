/- The iterators of layer scan: the pages of a block, the chunks of a slice, a slice's numbers from its end on. -/
import Derived.Test.YtpkkejdjhnmjiaaGreatIn
import Derived.Test.YtpkkejdjhnmjiaaGreatMid
import Derived.Test.YtpkkejdjhnmjiaaGreatPage
import Derived.BigRegion
import Derived.Deep.DeepCutAuto
import Derived.Deep.RegionHeld3
import Derived.Deep.QuietTactic
import Derived.BigQuiet
namespace Go.Proofs.YtpkkejdjhnmjiaaGreat
open Go.RowKit Bm Go.Shelf
attribute [local go_sem] Oper.semAt_some
def fins (n k : Nat) : List (Fin n) := (List.finRange n).take k
theorem fins_length (n k : Nat) (h : k ≤ n) : (fins n k).length = k := by unfold fins; rw [List.length_take, List.length_finRange]; omega
theorem fins_succ (n k : Nat) (h : k < n) : fins n (k + 1) = fins n k ++ [⟨k, h⟩] := by
  unfold fins
  rw [List.take_add_one, List.getElem?_eq_getElem (by rw [List.length_finRange]; exact h)]
  simp
theorem fins_map (n k : Nat) (h : k ≤ n) : (fins n k).map (·.val) = List.range k := by
  apply List.ext_getElem
  · rw [List.length_map, fins_length n k h, List.length_range]
  · intro i h1 h2
    simp [fins]
def sub (ad : Addr) (lo len cap : Nat) : Value := .slice (some (ad.add lo)) len cap
def pageV (ad : Addr) (c : Nat) (p : Fin 8) : Array Value := #[.int .i64 ((p.val : Nat) : Int), sub ad (4 + 7 * p.val) 7 (c - (4 + 7 * p.val))]
theorem pages_of (A : Option Addr) (n c : Nat) (w : World) :
    Calls Tryz.prog 83 #[.slice A n c] w fun e w' => e = .returned (.func (.func 99) #[] #[.pointer (some ⟨w.heap.size, 0, none⟩)]) ∧ w' = w.alloc (.cells #[.slice A n c] 89) := by
  go_enter Tryz.func83, Tryz.ntmps83
  go_wp2
  go_ret
  exact ⟨rfl, rfl⟩
set_option maxRecDepth 100000 in
set_option maxHeartbeats 2000000 in
theorem pages_in (l Bs : Nat) (ad : Addr) (c : Nat) (hc : 64 ≤ c) (K : Nat → Prop) (hK : K Bs) (J Jx : List (Fin 8) → World → Prop)
    (hY : ∀ pre x W, J pre W → pre.length < 8 → YieldAt Fence.wide 8 Tryz.prog l (pageV ad c x) W fun e W' =>
      (e = .returned (.bool true) ∧ J (pre ++ [x]) W' ∧ Keeps K W W') ∨ (e = .returned (.bool false) ∧ Jx (pre ++ [x]) W'))
    (W : World) (hBs : At W Bs 89 [.slice (some ad) 64 c]) (h0 : J [] W) :
    CallsIn Fence.wide 9 Tryz.prog 99 #[.func (.yield l) #[] #[], .pointer (some ⟨Bs, 0, none⟩)] W fun e W' => (∃ v, e = .returned v) ∧
      ((∃ ys, ys = fins 8 8 ∧ J ys W') ∨ (∃ pre, (∃ k, k ≤ 8 ∧ pre = fins 8 k) ∧ Jx pre W')) := by
  refine callsIn_of_wp Tryz.func99 rfl trivial ?_ rfl
  simp only [Tryz.ntmps99, List.size_toArray, List.length_cons, List.length_nil, Nat.reduceAdd, Nat.reduceSub, Array.replicate_succ, Array.replicate_zero, List.push_toArray, List.append_toArray, List.nil_append, List.cons_append]
  gi_wp2
  gi_loopw [5] (fun i wr => ∃ k : Nat, k ≤ 8 ∧ i = .int .i64 k ∧ J (fins 8 k) wr ∧ At wr Bs 89 [.slice (some ad) 64 c]) (fun i _ => 8 - (intOf i).toNat)
  case atStart => exact ⟨0, Nat.zero_le _, rfl, h0, hBs⟩
  case round =>
    obtain ⟨k, hk, rfl, hJs, hB⟩ := hrel
    by_cases hlt : k < 8
    · obtain ⟨fn, tmps, assign, body, hy, hR⟩ := hY _ ⟨k, hlt⟩ wr hJs (by rw [fins_length _ _ hk]; exact hlt)
      unfold pageV sub at hy
      dsimp only at hy
      have hcell := hB.cell 0
      simp only [List.getElem?_cons_zero] at hcell
      have e0 : pgAt 0 (k : Int) = ((4 + 7 * k : Nat) : Int) := by unfold pgAt; rw [if_pos (by omega)]; omega
      gi_wp2_with (refine ⟨trivial, ?_⟩; gi_at_call 100; refine (callsIn_wide.2 (pat_any _ _ _ (by omega) (by omega) (by omega) (by omega))).mono ?_; rintro e w' ⟨rfl, rfl⟩; rw [e0])
      refine hR.mono ?_
      rintro e W3 (⟨rfl, hJ3, hk3⟩ | ⟨rfl, hJx3⟩)
      · have hB3 := hk3.at_ hK hB
        gi_wp2
        go_roundw
        case rel => exact ⟨k + 1, by omega, by go_num, by rw [fins_succ _ _ hlt]; exact hJ3, hB3⟩
        case measure => simp [intOf]; omega
      · gi_wp2
        refine bodyPost_ret (results_none rfl _ _ _) rfl ?_
        exact ⟨⟨_, rfl⟩, .inr ⟨_, ⟨k + 1, by omega, (fins_succ _ _ hlt).symm⟩, hJx3⟩⟩
    · obtain rfl : k = 8 := by omega
      gi_wp2
      go_end0
      exact ⟨⟨_, rfl⟩, .inl ⟨_, rfl, hJs⟩⟩
theorem pages_stops (Bs : Nat) (ad : Addr) (c : Nat) (hc : 64 ≤ c) (K : Nat → Prop) (hK : K Bs) (w : World) (hB : At w Bs 89 [.slice (some ad) 64 c]) :
    SeqStopsK Fence.wide 9 Tryz.prog 99 #[.pointer (some ⟨Bs, 0, none⟩)] (pageV ad c) (Keeps K) (fun ys => ys = fins 8 8) (fun pre => ∃ k, k ≤ 8 ∧ pre = fins 8 k) 8 w := fun l J Jx W hW _ _ hY h0 =>
  pages_in l Bs ad c hc K hK J Jx hY W (hB.kept (Turned.of_below hW (Nat.le_refl _) NoBlock) (fun h => h)) h0
def chunkV (ad : Addr) {m : Nat} (i : Fin m) : Array Value := #[sub ad (64 * i.val) 64 64]
theorem chunk_of (A : Option Addr) (n c : Nat) (w : World) :
    Calls Tryz.prog 67 #[.slice A n c, .int .i64 64] w fun e w' => e = .returned (.func (.func 81) #[] #[.pointer (some ⟨w.heap.size, 0, none⟩), .pointer (some ⟨w.heap.size + 1, 0, none⟩)]) ∧
      w' = (w.alloc (.cells #[.slice A n c] 89)).alloc (.cells #[.int .i64 64] 3) := by
  go_enter Tryz.func67, Tryz.ntmps67
  go_wp2
  go_ret
  exact ⟨rfl, rfl⟩
theorem abides_drew {β : Type} {B : Nat} {J : β → World → Prop} (h : AbidesFrom B J) {s : β} {w : World} (hs : J s w) : J s w.drew :=
  h s w w.drew none hs ⟨rfl, rfl, rfl, Nat.le_refl _, fun _ _ _ => rfl⟩ (fun r e => by cases e)
set_option maxRecDepth 100000 in
set_option maxHeartbeats 2000000 in
theorem chunks_in (l Bs Bn : Nat) (ad : Addr) (m c : Nat) (hc : 64 * m ≤ c) (hm : m ≤ 64) (B : Nat) (K : Nat → Prop) (hK : K Bs) (hK' : K Bn) (J Jx : List (Fin m) → World → Prop) (hJ : AbidesFrom B J)
    (hY : ∀ pre x W, J pre W → pre.length < m → YieldAt Fence.wide 8 Tryz.prog l (chunkV ad x) W fun e W' =>
      (e = .returned (.bool true) ∧ J (pre ++ [x]) W' ∧ Keeps K W W') ∨ (e = .returned (.bool false) ∧ Jx (pre ++ [x]) W'))
    (W : World) (hBs : At W Bs 89 [.slice (some ad) (64 * m) c]) (hBn : At W Bn 3 [.int .i64 64]) (h0 : J [] W) :
    CallsIn Fence.wide 9 Tryz.prog 81 #[.func (.yield l) #[] #[], .pointer (some ⟨Bs, 0, none⟩), .pointer (some ⟨Bn, 0, none⟩)] W fun e W' => (∃ v, e = .returned v) ∧
      ((∃ ys, ys = fins m m ∧ J ys W') ∨ (∃ pre, (∃ k, k ≤ m ∧ pre = fins m k) ∧ Jx pre W')) := by
  refine callsIn_of_wp Tryz.func81 rfl trivial ?_ rfl
  simp only [Tryz.ntmps81, List.size_toArray, List.length_cons, List.length_nil, Nat.reduceAdd, Nat.reduceSub, Array.replicate_succ, Array.replicate_zero, List.push_toArray, List.append_toArray, List.nil_append, List.cons_append]
  gi_wp2
  gi_loopw [4] (fun i wr => ∃ k : Nat, k ≤ m ∧ i = .int .i64 ((64 * k : Nat) : Int) ∧ J (fins m k) wr ∧ At wr Bs 89 [.slice (some ad) (64 * m) c] ∧ At wr Bn 3 [.int .i64 64]) (fun i _ => 64 * m - (intOf i).toNat)
  case atStart => exact ⟨0, Nat.zero_le _, rfl, h0, hBs, hBn⟩
  case round =>
    obtain ⟨k, hk, rfl, hJs, hB, hN⟩ := hrel
    have hcell := hB.cell 0
    have hcelln := hN.cell 0
    simp only [List.getElem?_cons_zero] at hcell hcelln
    have hcd : wr.drew.cell? ⟨Bs, 0, none⟩ = some (.slice (some ad) (64 * m) c) := hcell
    have hnd : wr.drew.cell? ⟨Bn, 0, none⟩ = some (.int .i64 64) := hcelln
    by_cases hlt : k < m
    · have i0 : (0 : Int) ≤ ((64 * k : Nat) : Int) := by omega
      have i1 : ((64 * k : Nat) : Int) ≤ ((64 * m : Nat) : Int) := by omega
      have i2 : ((64 * k : Nat) : Int) < ((64 * m : Nat) : Int) := by omega
      obtain ⟨fn, tmps, assign, body, hy, hR⟩ := hY _ ⟨k, hlt⟩ wr.drew (abides_drew hJ hJs) (by rw [fins_length _ _ hk]; exact hlt)
      unfold chunkV sub at hy
      dsimp only at hy
      have h64 : ¬ (((64 * m - 64 * k : Nat) : Int) < 64) := by omega
      have j0 : (0 : Int) ≤ 64 * (k : Int) := by omega
      have j1 : (64 : Int) * (k : Int) ≤ 64 * (m : Int) := by omega
      have hck : ¬ c = 64 * k := by omega
      gi_wp2
      refine wpIn_wide.2 ?_
      go_region_held3 (fun w' => w'.cell? ⟨Bs, 0, none⟩ = some (.slice (some ad) (64 * m) c) ∧ w'.cell? ⟨Bn, 0, none⟩ = some (.int .i64 64)) (go_keep) (fail)
      have hj1 : (64 : Int) * k ≤ 64 * k + 64 := by omega
      have hj2 : (64 : Int) * k + 64 ≤ c := by omega
      gi_wp2
      refine hR.mono ?_
      rintro e W3 (⟨rfl, hJ3, hk3⟩ | ⟨rfl, hJx3⟩)
      · have hB3 := hk3.at_ hK hB.drew
        have hN3 := hk3.at_ hK' hN.drew
        have hn3 := hN3.cell 0
        simp only [List.getElem?_cons_zero] at hn3
        gi_wp2
        go_roundw
        case rel => exact ⟨k + 1, by omega, by go_num, by rw [fins_succ _ _ hlt]; exact hJ3, hB3, hN3⟩
        case measure => simp [intOf]; omega
      · gi_wp2
        refine bodyPost_ret (results_none rfl _ _ _) rfl ?_
        exact ⟨⟨_, rfl⟩, .inr ⟨_, ⟨k + 1, by omega, (fins_succ _ _ hlt).symm⟩, hJx3⟩⟩
    · obtain rfl : k = m := by omega
      gi_wp2
      go_end0
      exact ⟨⟨_, rfl⟩, .inl ⟨_, rfl, hJs⟩⟩
theorem chunks_stops (Bs Bn : Nat) (ad : Addr) (m c : Nat) (hc : 64 * m ≤ c) (hm : m ≤ 64) (K : Nat → Prop) (hK : K Bs) (hK' : K Bn) (w : World) (hB : At w Bs 89 [.slice (some ad) (64 * m) c]) (hN : At w Bn 3 [.int .i64 64]) :
    SeqStopsK Fence.wide 9 Tryz.prog 81 #[.pointer (some ⟨Bs, 0, none⟩), .pointer (some ⟨Bn, 0, none⟩)] (chunkV ad) (Keeps K) (fun ys => ys = fins m m) (fun pre => ∃ k, k ≤ m ∧ pre = fins m k) m w := fun l J Jx W hW hJ _ hY h0 =>
  chunks_in l Bs Bn ad m c hc hm _ K hK hK' J Jx hJ hY W (hB.kept (Turned.of_below hW (Nat.le_refl _) NoBlock) (fun h => h)) (hN.kept (Turned.of_below hW (Nat.le_refl _) NoBlock) (fun h => h)) h0
theorem back_of (A : Option Addr) (n c : Nat) (w : World) :
    Calls Tryz.prog 165 #[.slice A n c] w fun e w' => e = .returned (.func (.func 168) #[] #[.pointer (some ⟨w.heap.size, 0, none⟩)]) ∧ w' = w.alloc (.cells #[.slice A n c] 110) := by
  go_enter Tryz.func165, Tryz.ntmps165
  go_wp2
  go_ret
  exact ⟨rfl, rfl⟩
def downs (k : Nat) : List Nat := (List.range k).map (7 - ·)
def backV (ks : List Int) (i : Nat) : Array Value := #[.int .i64 (i : Int), .int .i64 (nm ks i)]
theorem downs_succ (k : Nat) : downs (k + 1) = downs k ++ [7 - k] := by simp [downs, List.range_succ]
theorem downs_length (k : Nat) : (downs k).length = k := by simp [downs]
set_option maxRecDepth 100000 in
set_option maxHeartbeats 2000000 in
theorem backs_in (l Bs : Nat) (ad : Addr) (c : Nat) (ks : List Int) (K : Nat → Prop) (hK : K Bs) (hK' : K ad.block) (J Jx : List Nat → World → Prop)
    (hY : ∀ pre x W, J pre W → pre.length < 8 → YieldAt Fence.wide 8 Tryz.prog l (backV ks x) W fun e W' =>
      (e = .returned (.bool true) ∧ J (pre ++ [x]) W' ∧ Keeps K W W') ∨ (e = .returned (.bool false) ∧ Jx (pre ++ [x]) W'))
    (W : World) (hBs : At W Bs 110 [.slice (some ad) 8 c]) (hcs : ∀ i, i < 8 → W.cell? (ad.add i) = some (.int .i64 (nm ks i))) (h0 : J [] W) :
    CallsIn Fence.wide 9 Tryz.prog 168 #[.func (.yield l) #[] #[], .pointer (some ⟨Bs, 0, none⟩)] W fun e W' => (∃ v, e = .returned v) ∧
      ((∃ ys, ys = downs 8 ∧ J ys W') ∨ (∃ pre, (∃ k, k < 8 ∧ pre = downs (k + 1)) ∧ Jx pre W')) := by
  refine callsIn_of_wp Tryz.func168 rfl trivial ?_ rfl
  simp only [Tryz.ntmps168, List.size_toArray, List.length_cons, List.length_nil, Nat.reduceAdd, Nat.reduceSub, Array.replicate_succ, Array.replicate_zero, List.push_toArray, List.append_toArray, List.nil_append, List.cons_append]
  have hcell0 := hBs.cell 0
  simp only [List.getElem?_cons_zero] at hcell0
  gi_wp2
  gi_loopw [3] (fun i wr => ∃ k : Nat, k ≤ 8 ∧ i = .int .i64 (7 - (k : Int)) ∧ J (downs k) wr ∧ At wr Bs 110 [.slice (some ad) 8 c] ∧ ∀ i, i < 8 → wr.cell? (ad.add i) = some (.int .i64 (nm ks i))) (fun i _ => (intOf i + 1).toNat)
  case atStart => exact ⟨0, Nat.zero_le _, rfl, h0, hBs, hcs⟩
  case round =>
    obtain ⟨k, hk, rfl, hJs, hB, hC⟩ := hrel
    have hcell := hB.cell 0
    simp only [List.getElem?_cons_zero] at hcell
    by_cases hlt : k < 8
    · obtain ⟨fn, tmps, assign, body, hy, hR⟩ := hY _ (7 - k) wr hJs (by rw [downs_length]; exact hlt)
      have hCk := hC (7 - k) (by omega)
      unfold backV at hy
      obtain ⟨q, hq⟩ : ∃ q : Nat, q = 7 - k := ⟨_, rfl⟩
      have e7 : (7 : Int) - (k : Int) = (q : Int) := by omega
      rw [← hq] at hy hR hCk
      rw [e7]
      have q0 : (0 : Int) ≤ (q : Int) := by omega
      have q1 : (q : Int) < 8 := by omega
      clear hcell0
      have HQ := Lib.hid hq
      have HE := Lib.hid e7
      clear hq e7
      gi_wp2
      refine hR.mono ?_
      rintro e W3 (⟨rfl, hJ3, hk3⟩ | ⟨rfl, hJx3⟩)
      · have hB3 := hk3.at_ hK hB
        gi_wp2
        go_roundw
        case rel => exact ⟨k + 1, by omega, by have := HE.out; go_num, by rw [downs_succ, ← HQ.out]; exact hJ3, hB3, fun i hi => (World.cell?_of_block (a := ad.add i) (by rw [add_block]; exact hk3 _ hK')).trans (hC i hi)⟩
        case measure => simp [intOf]
      · gi_wp2
        refine bodyPost_ret (results_none rfl _ _ _) rfl ?_
        exact ⟨⟨_, rfl⟩, .inr ⟨_, ⟨k, by omega, by rw [downs_succ, ← HQ.out]⟩, hJx3⟩⟩
    · obtain rfl : k = 8 := by omega
      gi_wp2
      go_end0
      exact ⟨⟨_, rfl⟩, .inl ⟨_, rfl, hJs⟩⟩
theorem backs_stops (Bs : Nat) (ad : Addr) (c : Nat) (ks : List Int) (K : Nat → Prop) (hK : K Bs) (hK' : K ad.block) (w : World) (had : ad.block < w.heap.size) (hB : At w Bs 110 [.slice (some ad) 8 c]) (hcs : ∀ i, i < 8 → w.cell? (ad.add i) = some (.int .i64 (nm ks i))) :
    SeqStopsK Fence.wide 9 Tryz.prog 168 #[.pointer (some ⟨Bs, 0, none⟩)] (backV ks) (Keeps K) (fun ys => ys = downs 8) (fun pre => ∃ k, k < 8 ∧ pre = downs (k + 1)) 8 w := fun l J Jx W hW _ _ hY h0 =>
  backs_in l Bs ad c ks K hK hK' J Jx hY W (hB.kept (Turned.of_below hW (Nat.le_refl _) NoBlock) (fun h => h)) (fun i hi => (hW.cell (p := ad.add i) (by rw [add_block]; exact had)).trans (hcs i hi)) h0
end Go.Proofs.YtpkkejdjhnmjiaaGreat
