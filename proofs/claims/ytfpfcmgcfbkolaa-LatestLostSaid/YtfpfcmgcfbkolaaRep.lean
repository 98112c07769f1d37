/- Contract of slices.Repeat at one word. -/
import Derived.Test.YtfpfcmgcfbkolaaMem
import Derived.Test.YtfpfcmgcfbkolaaLaw
import Derived.Lib.SliceRun
import Derived.Deep.QuietTactic
import Derived.BigQuiet
import Derived.Deep.RegionHeld3
import Derived.StillTailTactics
import Derived.Lib.Hide
import Derived.Laws.CopyOwn
import Derived.Laws.BitsAllLaws
import Derived.Deep.RegionLaw
import Derived.Deep.RegionWith
import Derived.Deep.DrawnRows
namespace Go.Proofs.Ytfpfcmgcfbkolaa
open Go.RowKit Bm
attribute [local go_sem ↓] Go.wp_at_zero Go.wp_at_succ

theorem infoU : (Try.prog.info? 34).map (fun i => (i.zero, i.size, i.bytes)) = some (some (.int .u32 0), 1, 4) := by kernel_rfl
theorem add_zero_block (b j : Nat) : (⟨b, 0, none⟩ : Addr).add j = ⟨b, j, none⟩ := by unfold Addr.add; split <;> simp_all

theorem u64_low (y : Int) (h0 : 0 ≤ y) (h1 : y < 4294967296) : bits .and .u64 y 4294967295 = y := by
  rw [u64_and _ _ h0 (by omega) (by omega) (by omega)]
  rw [show (4294967295 : Int).toNat = 2 ^ 32 - 1 by rfl, Nat.and_two_pow_sub_one_eq_mod]
  omega

theorem mul64_one (y : Int) (w : World) (h0 : 0 ≤ y) (h1 : y < 4294967296) :
    Calls Try.prog 65 #[.int .u64 1, .int .u64 y] w fun e w' => e = .returned (.tuple #[.int .u64 0, .int .u64 y]) ∧ w' = w := by
  have a1 : bits .and .u64 1 4294967295 = 1 := u64_low 1 (by omega) (by omega)
  have a2 : bits .and .u64 y 4294967295 = y := u64_low y h0 h1
  have a3 : bits .and .u64 0 4294967295 = 0 := u64_low 0 (by omega) (by omega)
  have d : y / 4294967296 = 0 := by omega
  go_enter Try.func65, Try.ntmps65
  go_wp2
  go_ret2
  exact ⟨rfl, rfl⟩

theorem mul_one (y : Int) (w : World) (h0 : 0 ≤ y) (h1 : y < 4294967296) :
    Calls Try.prog 62 #[.int .u64 1, .int .u64 y] w fun e w' => e = .returned (.tuple #[.int .u64 0, .int .u64 y]) ∧ w' = w := by
  go_enter Try.func62, Try.ntmps62
  go_wp2_with (go_at_call 65; with_reducible refine (mul64_one _ _ h0 h1).mono ?_; rintro e w' ⟨rfl, rfl⟩)
  go_ret2
  exact ⟨rfl, rfl⟩

theorem made_zeros (n : Nat) : madeCells #[.int .u32 0] n = (List.replicate n (Value.int .u32 0)).toArray := by
  apply Array.ext'
  simp [madeCells]
  apply List.ext_getElem
  · simp
  · intro i h1 h2
    simp [Nat.mod_one]

/-- k cells are X, the rest of n are Y. -/
def part (X Y : Value) (k n : Nat) : List Value := List.replicate k X ++ List.replicate (n - k) Y

theorem part_splice (X Y : Value) (k m n : Nat) (h : k + m ≤ n) : splice (part X Y k n) k (List.replicate m X) = part X Y (k + m) n := by
  unfold splice part
  have e1 : (List.replicate k X ++ List.replicate (n - k) Y).take k = List.replicate k X := by simp
  have e2 : (List.replicate k X ++ List.replicate (n - k) Y).drop (k + (List.replicate m X).length) = List.replicate (n - (k + m)) Y := by
    rw [List.length_replicate, List.drop_append, List.length_replicate, List.drop_eq_nil_of_le (by simp), List.nil_append, List.drop_replicate]
    congr 1
    omega
  rw [e1, e2, ← List.append_assoc, List.replicate_append_replicate]
theorem part_get (X Y : Value) (k n j : Nat) (h : j < k) : (part X Y k n)[j]? = some X := by
  unfold part
  rw [List.getElem?_append_left (by simpa using h)]
  simp [h]
theorem part_length (X Y : Value) (k n : Nat) (h : k ≤ n) : (part X Y k n).length = n := by simp [part]; omega
theorem part_zero (X Y : Value) (n : Nat) : part X Y 0 n = List.replicate n Y := by simp [part]
theorem part_full (X Y : Value) (n : Nat) : part X Y n n = List.replicate n X := by simp [part]

set_option maxRecDepth 100000 in
set_option maxHeartbeats 800000 in
theorem repeat_any (ad : Addr) (cap n : Nat) (x : BitVec 32) (w : World) (h0 : 1 ≤ n) (hn : n ≤ 1000000) (had : ad.block < w.heap.size) (hx : w.cell? ad = some (.int .u32 (U x))) :
    Calls Try.prog 58 #[.slice (some ad) 1 cap, .int .i64 n] w (Fresh w 34 (List.replicate n (.int .u32 (U x)))) := by
  obtain ⟨i0, hi, hz0, hz1, hz2⟩ := info_parts infoU
  have hmk := fun W => run_make (P := Try.prog) W 66 34 i0 (.int .u32 0) Try.underlying66 hi hz0 .i64 .i64 (n : Int) (n : Int) (by omega) (by omega) (by rw [hz2]; omega) (by omega)
  rw [show ((n : Int).toNat) = n by omega, hz1, Nat.mul_one, show (Value.int .u32 0).cells = #[.int .u32 0] from rfl, made_zeros] at hmk
  have hone : (Try.prog.info? 34).map (·.size) = some 1 := by rw [hi, Option.map_some, hz1]
  generalize hX : Value.int .u32 (U x) = X at hx ⊢
  have X1 : X.oneCell' = true := by rw [← hX]; rfl
  clear hX
  generalize hY : Value.int .u32 0 = Y at hmk
  rw [← part_zero X Y n] at hmk
  clear hY
  have HONE := Lib.hid hone
  clear hone
  go_enter Try.func58, Try.ntmps58
  go_wp2_with (first
    | (go_at_call 62; with_reducible refine (mul_one _ _ (by omega) (by omega)).mono ?_; rintro e w' ⟨rfl, rfl⟩)
    | (with_reducible refine wpList_copy_splice rfl (.tmp 31) (.tmp 32) _ _ rfl 34 Try.underlying66 HONE.out (some ⟨w'.heap.size, 0, none⟩) (some ad) n n 1 cap rfl rfl w'.heap.size 0 (part X Y 0 n) 34 (heap_alloc_new w' _) (List.replicate 1 X) ?c1 ?c2 ?c3 ?c4 w'.heap.size w' ((Below.refl _ _).alloc (Nat.le_refl _) _) (Nat.le_refl _) ?c5))
  case c1 => rw [List.length_replicate]; exact (Nat.min_eq_left h0).symm
  case c2 =>
    intro j v hj
    have h1 : j = 0 := by
      have := (List.getElem?_eq_some_iff.1 hj).1
      simpa using this
    subst h1
    rw [World.cell?_alloc_lt _ _ _ (by unfold Addr.add; split <;> exact had)]
    simp at hj
    subst hj
    exact hx
  case c3 => rw [part_length _ _ _ _ (by omega)]; simp; omega
  case c4 => intro v hv; rw [List.eq_of_mem_replicate hv]; exact X1
  case c5 =>
    intro w2 HG2 hB2
    have hA : At w2 w'.heap.size 34 (part X Y 1 n) := by
      rw [← part_splice X Y 0 1 n (by omega)]
      exact HG2.out
    clear HG2 hmk
    go_wp2
    go_loopw [8] (fun i wr => ∃ k : Nat, 1 ≤ k ∧ k ≤ n ∧ i = .int .i64 k ∧ At wr w'.heap.size 34 (part X Y k n) ∧ Below w'.heap.size w' wr) (fun i _ => n - (intOf i).toNat)
    case atStart => exact ⟨1, by omega, by omega, rfl, hA, hB2⟩
    case round =>
      clear hA hB2
      obtain ⟨k, hk1, hk2, rfl, hA, hB⟩ := hrel
      by_cases hlt : k < n
      · obtain ⟨m, hm, hm1, hm2, hm3⟩ : ∃ m, m = Nat.min k (n - k) ∧ 1 ≤ m ∧ m ≤ k ∧ k + m ≤ n := ⟨_, rfl, by show 1 ≤ min k (n - k); omega, by show min k (n - k) ≤ k; omega, by show k + min k (n - k) ≤ n; omega⟩
        have HM := Lib.hid hm
        clear hm
        have hnk : ¬ n = k := by omega
        have wr0 : IntKind.i64.wrap ((k : Int) + (m : Int)) = (k : Int) + (m : Int) := by rw [IntKind.wrap_i64]; omega
        have WR := Lib.hid wr0
        clear wr0
        have i1 : (0 : Int) ≤ (k : Int) := by omega
        have i2 : (k : Int) ≤ (n : Int) := by omega
        have c2 : ∀ j v, (List.replicate m X)[j]? = some v → wr.drew.cell? ((⟨w'.heap.size, 0, none⟩ : Addr).add j) = some v := by
          intro j v hj
          have hjm : j < m := by simpa using (List.getElem?_eq_some_iff.1 hj).1
          rw [add_zero_block, hA.drew.cell, part_get _ _ _ _ _ (by omega)]
          rw [← hj]; simp [hjm]
        have C2 := Lib.hid c2
        clear c2
        have c4 : Hid (∀ v ∈ List.replicate m X, v.oneCell' = true) := by intro v hv; rw [List.eq_of_mem_replicate hv]; exact X1
        have c3 : Hid (k + (List.replicate m X).length ≤ (part X Y k n).length) := by rw [part_length _ _ _ _ hk2, List.length_replicate]; exact hm3
        have c1 : Hid ((List.replicate m X).length = Nat.min k (n - k)) := by rw [List.length_replicate]; exact HM.out
        go_wp2_with fail
        go_region_law ((refine step_copy_splice (by rfl) (.tmp 41) (.tmp 44) _ _ (by rfl) 34 Try.underlying66 HONE.out (some ⟨w'.heap.size, k, none⟩) (some ⟨w'.heap.size, 0, none⟩) (n - k) (n - k) k n (by go_simp) (by go_simp) w'.heap.size k (part X Y k n) 34 hA.drew (List.replicate m X) c1.out (fun _ => ⟨rfl, _, rfl, C2.out⟩) c3.out c4.out w'.heap.size w' hB.drew (Nat.le_refl _) ?_; intro w3 hg3 hb3))
        have hA3 : At w3 w'.heap.size 34 (part X Y (k + m) n) := by
          rw [← part_splice X Y k m n hm3]
          exact hg3.out
        rw [WR.out]
        simp only [List.getElem_toArray, List.getElem_cons_succ, List.getElem_cons_zero]
        go_simp
        go_wp2
        go_roundw
        case rel => exact ⟨k + m, by omega, hm3, by go_num, hA3, hb3⟩
        case measure => simp [intOf]; omega
      · obtain rfl : k = n := by omega
        go_wp2
        go_ret
        rw [part_full] at hA
        refine ⟨w'.heap.size, k, [], by simp, by simpa using hA, by simp, by unfold maxLen; omega, Nat.le_refl _, hB⟩
end Go.Proofs.Ytfpfcmgcfbkolaa
