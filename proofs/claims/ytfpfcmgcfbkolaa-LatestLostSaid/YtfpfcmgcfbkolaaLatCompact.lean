/- The contract of the library's stable sort, at places (layer latest). | The contract of the library's stable sort at no places (layer latest). | The contract of the library's CompactFunc, at places (layer latest). -/
import Derived.Test.YtfpfcmgcfbkolaaLatSym
import Derived.Lib.SliceRun
namespace Go.Proofs.Ytfpfcmgcfbkolaa
open Go.RowKit Bm

section
variable {xs ys zs : List PlM} {a b k n : Nat}
/-- Behind the insertions into a row of 20. -/
theorem Cuts.ins (h : Cuts (fun c => a ≤ c ∨ 20 ∣ c) xs ys) (ha : 20 ∣ a) (hb : b = a + 20 ∨ (b = xs.length ∧ b < a + 20)) (hbn : b ≤ xs.length) (hm : Mix a b ys zs) (hs : Srt zs a b) : Cuts (fun c => b ≤ c ∨ 20 ∣ c) xs zs := by
  refine (h.step (.inr (.inl (Nat.le_refl _))) ?_ hbn hm hs).congr fun c c1 c2 => ?_
  · rcases hb with hb | hb
    · exact .inl (.inl (by omega))
    · exact .inr hb.1
  · omega
theorem Cuts.ins_bef (h : Cuts (fun c => a ≤ c ∨ 20 ∣ c) xs ys) (hx : ∀ i j, i < j → j < xs.length → Ahead (plN xs i) (plN xs j)) (hb : b ≤ xs.length) : ∀ i j, a ≤ i → i < j → j < b → Ahead (plN ys i) (plN ys j) := fun i j h1 h2 h3 =>
  h.bef hx (c := j) (.inl (by omega)) h2 (Nat.le_refl _) (by omega)
/-- Ahead of a merge of two rows of k. -/
theorem Cuts.two (h : Cuts (fun c => (k ∣ c ∧ a ≤ c) ∨ 2 * k ∣ c) xs ys) (hx : ∀ i j, i < j → j < xs.length → Ahead (plN xs i) (plN xs j)) (ha : 2 * k ∣ a) (hab : a + k ≤ b) (hb : b ≤ a + 2 * k) (hbn : b ≤ xs.length) :
    Srt ys a (a + k) ∧ Srt ys (a + k) b ∧ Bef ys a (a + k) b := by
  have hk : k ∣ a := Nat.dvd_trans ⟨2, Nat.mul_comm _ _⟩ ha
  have hk1 : k ∣ a + k := (Nat.dvd_add_right hk).2 (Nat.dvd_refl k)
  have hd : ∀ c, ((k ∣ c ∧ a ≤ c) ∨ 2 * k ∣ c) → k ∣ c := fun c hc => by
    rcases hc with hc | hc
    · exact hc.1
    · exact Nat.dvd_trans ⟨2, Nat.mul_comm _ _⟩ hc
  refine ⟨h.rows (by omega) fun c c1 c2 hc => no_mult hk (hd c hc) c1 c2, h.rows hbn fun c c1 c2 hc => no_mult hk1 (hd c hc) c1 (by omega), fun i j h1 h2 h3 h4 => h.bef hx (c := a + k) (.inl ⟨hk1, by omega⟩) h2 h3 (by omega)⟩
/-- Behind it. -/
theorem Cuts.merged (h : Cuts (fun c => (k ∣ c ∧ a ≤ c) ∨ 2 * k ∣ c) xs ys) (ha : 2 * k ∣ a) (hb : b = a + 2 * k) (hbn : b ≤ xs.length) (hm : Mix a b ys zs) (hs : Srt zs a b) : Cuts (fun c => (k ∣ c ∧ b ≤ c) ∨ 2 * k ∣ c) xs zs := by
  have hk : k ∣ a := Nat.dvd_trans ⟨2, Nat.mul_comm _ _⟩ ha
  have hbk : 2 * k ∣ b := by rw [hb]; exact (Nat.dvd_add_right ha).2 (Nat.dvd_refl _)
  refine (h.step (.inr (.inr ha)) (.inl (.inr hbk)) hbn hm hs).congr fun c c1 c2 => ⟨?_, ?_⟩
  · rintro ⟨hc | hc, hn⟩
    · by_cases e : c = a
      · exact .inr (e ▸ ha)
      · exact .inl ⟨hc.1, by omega⟩
    · exact .inr hc
  · rintro (hc | hc)
    · exact ⟨.inl ⟨hc.1, by omega⟩, by omega⟩
    · exact ⟨.inr hc, fun hn => no_mult ha hc hn.1 (by omega)⟩
theorem Cuts.last (h : Cuts (fun c => (k ∣ c ∧ a ≤ c) ∨ 2 * k ∣ c) xs ys) (ha : 2 * k ∣ a) (han : a ≤ xs.length) (hb : xs.length < a + 2 * k) (hm : Mix a xs.length ys zs) (hs : Srt zs a xs.length) : Cuts (fun c => 2 * k ∣ c) xs zs := by
  refine (h.step (.inr (.inr ha)) (.inr rfl) (Nat.le_refl _) hm hs).congr fun c c1 c2 => ⟨?_, ?_⟩
  · rintro ⟨hc | hc, hn⟩
    · obtain rfl : c = a := by omega
      exact ha
    · exact hc
  · intro hc
    exact ⟨.inr hc, fun hn => no_mult ha hc hn.1 (by omega)⟩
theorem Cuts.rest (h : Cuts (fun c => (k ∣ c ∧ a ≤ c) ∨ 2 * k ∣ c) xs ys) (ha : 2 * k ∣ a) (hb : xs.length ≤ a + k) : Cuts (fun c => 2 * k ∣ c) xs ys := by
  have hk : k ∣ a := Nat.dvd_trans ⟨2, Nat.mul_comm _ _⟩ ha
  refine h.congr fun c c1 c2 => ⟨?_, .inr⟩
  rintro (hc | hc)
  · by_cases e : c = a
    · exact e ▸ ha
    · exact (no_mult hk hc.1 (by omega) (by omega)).elim
  · exact hc
end

set_option maxRecDepth 100000 in
set_option maxHeartbeats 4000000 in
theorem stable_any (g n cap : Nat) (xs : List PlM) (rest : List Value) (w : World) (hA : At w g 42 (pls xs ++ rest)) (hn : xs.length = n) (hm : n ≤ 1000000) (hx : ∀ i j, i < j → j < xs.length → Ahead (plN xs i) (plN xs j)) :
    Calls Try.prog 57 #[.slice (some ⟨g, 0, none⟩) n cap, .int .i64 n, .func (.func 36) #[] #[]] w fun e w' => e = .returned (.tuple #[]) ∧ ∃ ys, Cuts (fun _ => False) xs ys ∧ At w' g 42 (pls ys ++ rest) ∧ Turned (Just g) w w' := by
  have HN := Lib.hid hn
  have HA := Lib.hid hA
  have HX := Lib.hid hx
  have hm' : (n : Int) ≤ 1000000 := by omega
  have hn0 : (0 : Int) ≤ (n : Int) := by omega
  clear hn hA hx
  go_enter Try.func57, Try.ntmps57
  go_wp2
  go_loopg [7, 8] (n + 20) (fun gh s7 s8 wr => ∃ (a b : Nat) (ys : List PlM), a ≤ n ∧ gh = n + 20 - a ∧ s7 = .int .i64 a ∧ s8 = .int .i64 b ∧ Hid (b = a + 20 ∧ 20 ∣ a) ∧ Cuts (fun c => a ≤ c ∨ 20 ∣ c) xs ys ∧ At wr g 42 (pls ys ++ rest) ∧ Turned (Just g) w wr)
  case atStart => exact ⟨0, 20, xs, by omega, by omega, rfl, rfl, Lib.hid ⟨rfl, ⟨0, rfl⟩⟩, (Cuts.all xs).congr (fun c _ _ => ⟨fun _ => .inl (Nat.zero_le _), fun _ => trivial⟩), HA.out, Turned.refl _ _⟩
  case round =>
    obtain ⟨a, b, ys, han, rfl, rfl, rfl, HE, hc, hA, hT⟩ := hrel
    have HC := Lib.hid hc
    have HAt := Lib.hid hA
    have HT := Lib.hid hT
    clear hc hA hT
    have hab : (a : Int) < (b : Int) := by have := HE.out; omega
    have hb20 : (b : Int) ≤ 1000020 := by have := HE.out; omega
    by_cases hbn : b ≤ n
    · have hbn' : (b : Int) ≤ (n : Int) := by omega
      have HI := Lib.hid (fun W h => ins_any g n cap a b ys rest W h (HC.out.len.trans HN.out) (by omega) hbn hm (HC.out.ins_bef HX.out (by rw [HN.out]; exact hbn)))
      go_wp2_with (go_at_call 60; (refine (HI.out _ HAt.out).mono ?_); rintro e w1 ⟨rfl, zs, hz, hs, hA1, hT1⟩; have HZ := Lib.hid hz; have HS := Lib.hid hs; have HA1 := Lib.hid hA1; have HT1 := Lib.hid (HT.out.trans hT1); clear hz hs hA1 hT1)
      go_roundg (n + 20 - b)
      case measure => have := HE.out; omega
      case rel => exact ⟨b, b + 20, zs, hbn, rfl, rfl, by go_num, Lib.hid ⟨rfl, by have := HE.out; omega⟩, HC.out.ins HE.out.2 (.inl HE.out.1) (by rw [HN.out]; exact hbn) HZ.out HS.out, HA1.out, HT1.out⟩
    · have hbn' : ¬ (b : Int) ≤ (n : Int) := by omega
      have HI := Lib.hid (fun W h => ins_any g n cap a n ys rest W h (HC.out.len.trans HN.out) han (Nat.le_refl _) hm (HC.out.ins_bef HX.out (by rw [HN.out]; exact Nat.le_refl _)))
      go_wp2_with (go_at_call 60; (refine (HI.out _ HAt.out).mono ?_); rintro e w1 ⟨rfl, zs, hz, hs, hA1, hT1⟩; have HZ := Lib.hid hz; have HS := Lib.hid hs; have HA1 := Lib.hid hA1; have HT1 := Lib.hid (HT.out.trans hT1); clear hz hs hA1 hT1)
      have hc1 : Cuts (fun c => 20 ∣ c) xs zs := (HC.out.ins HE.out.2 (b := n) (.inr ⟨HN.out.symm, by have := HE.out; omega⟩) (by rw [HN.out]; exact Nat.le_refl _) HZ.out HS.out).congr (fun c _ h2 => by rw [HN.out] at h2; constructor; (intro h; rcases h with h | h; omega; exact h); exact .inr)
      have HC1 := Lib.hid hc1
      clear hc1
      go_loopg [6] (2 * n + 20 - 20) (fun gh s6 wr => ∃ (k : Nat) (us : List PlM), 0 < k ∧ k ≤ 2 * n + 20 ∧ gh = 2 * n + 20 - k ∧ s6 = .int .i64 k ∧ Cuts (fun c => k ∣ c) xs us ∧ At wr g 42 (pls us ++ rest) ∧ Turned (Just g) w wr)
      case atStart => exact ⟨20, zs, by omega, by omega, rfl, rfl, HC1.out, HA1.out, HT1.out⟩
      case round =>
        obtain ⟨k, us, hk0, hkn, rfl, rfl, hc, hA, hT⟩ := hrel
        have HC2 := Lib.hid hc
        have HA2 := Lib.hid hA
        have HT2 := Lib.hid hT
        clear hc hA hT HE HC HAt HT HI HZ HS HC1 HA1 HT1
        have hk0' : (0 : Int) < (k : Int) := by omega
        by_cases hkl : k < n
        · have hkl' : (k : Int) < (n : Int) := by omega
          go_wp2
          go_loopg [7, 8] (n + 2 * k) (fun gh s7 s8 wr => ∃ (a b : Nat) (ys : List PlM), a ≤ n ∧ gh = n + 2 * k - a ∧ s7 = .int .i64 a ∧ s8 = .int .i64 b ∧ Hid (b = a + 2 * k ∧ 2 * k ∣ a) ∧ Cuts (fun c => (k ∣ c ∧ a ≤ c) ∨ 2 * k ∣ c) xs ys ∧ At wr g 42 (pls ys ++ rest) ∧ Turned (Just g) w wr)
          case atStart => exact ⟨0, 2 * k, us, by omega, by omega, rfl, by go_num, Lib.hid ⟨by omega, ⟨0, rfl⟩⟩, HC2.out.congr (fun c _ _ => ⟨fun h => .inl ⟨h, Nat.zero_le _⟩, fun h => by
            rcases h with h | h
            · exact h.1
            · exact Nat.dvd_trans ⟨2, Nat.mul_comm _ _⟩ h⟩), HA2.out, HT2.out⟩
          case round =>
            obtain ⟨a, b, ys, han, rfl, rfl, rfl, HE, hc, hA, hT⟩ := hrel
            have HC := Lib.hid hc
            have HAt := Lib.hid hA
            have HT := Lib.hid hT
            clear hc hA hT
            have hab : (a : Int) + (k : Int) < (b : Int) := by have := HE.out; omega
            have hb3 : (b : Int) ≤ (n : Int) + 2 * (k : Int) := by have := HE.out; omega
            obtain ⟨m, hmk⟩ : ∃ m : Nat, (a : Int) + (k : Int) = (m : Int) := ⟨a + k, by omega⟩
            have hm0 : m = a + k := by omega
            have HM0 := Lib.hid hm0
            clear hm0
            by_cases hbn : b ≤ n
            · have hbn' : (b : Int) ≤ (n : Int) := by omega
              have HI : Hid (∀ W, At W g 42 (pls ys ++ rest) → Calls Try.prog 61 #[.slice (some ⟨g, 0, none⟩) n cap, .int .i64 a, .int .i64 m, .int .i64 b, .func (.func 36) #[] #[]] W fun e w' => e = .returned (.tuple #[]) ∧ ∃ zs, Mix a b ys zs ∧ Srt zs a b ∧ At w' g 42 (pls zs ++ rest) ∧ Turned (Just g) W w') := Lib.hid fun W h => by
                obtain ⟨t1, t2, t3⟩ := HC.out.two HX.out (b := b) HE.out.2 (by have := HE.out; omega) (by have := HE.out; omega) (by rw [HN.out]; exact hbn)
                rw [← HM0.out] at t1 t2 t3
                exact sym_any g n cap rest hm _ a m b ys W (Nat.le_refl _) h (HC.out.len.trans HN.out) (by have := HM0.out; omega) (by have := HE.out; have := HM0.out; omega) hbn t1 t2 t3
              go_wp2_with (go_at_call 61; (refine (HI.out _ HAt.out).mono ?_); rintro e w1 ⟨rfl, zs, hz, hs, hA1, hT1⟩; have HZ := Lib.hid hz; have HS := Lib.hid hs; have HA1 := Lib.hid hA1; have HT1 := Lib.hid (HT.out.trans hT1); clear hz hs hA1 hT1)
              go_roundg (n + 2 * k - b)
              case measure => have := HE.out; omega
              case rel => exact ⟨b, b + 2 * k, zs, hbn, rfl, rfl, by go_num, Lib.hid ⟨rfl, by rw [HE.out.1]; exact (Nat.dvd_add_right HE.out.2).2 (Nat.dvd_refl _)⟩, HC.out.merged HE.out.2 HE.out.1 (by rw [HN.out]; exact hbn) HZ.out HS.out, HA1.out, HT1.out⟩
            · have hbn' : ¬ (b : Int) ≤ (n : Int) := by omega
              by_cases hmn : m < n
              · have hmn' : (m : Int) < (n : Int) := by omega
                have HI : Hid (∀ W, At W g 42 (pls ys ++ rest) → Calls Try.prog 61 #[.slice (some ⟨g, 0, none⟩) n cap, .int .i64 a, .int .i64 m, .int .i64 n, .func (.func 36) #[] #[]] W fun e w' => e = .returned (.tuple #[]) ∧ ∃ zs, Mix a n ys zs ∧ Srt zs a n ∧ At w' g 42 (pls zs ++ rest) ∧ Turned (Just g) W w') := Lib.hid fun W h => by
                  obtain ⟨t1, t2, t3⟩ := HC.out.two HX.out (b := n) HE.out.2 (by have := HE.out; have := HM0.out; omega) (by have := HE.out; omega) (by rw [HN.out]; exact Nat.le_refl _)
                  rw [← HM0.out] at t1 t2 t3
                  exact sym_any g n cap rest hm _ a m n ys W (Nat.le_refl _) h (HC.out.len.trans HN.out) (by have := HM0.out; omega) hmn (Nat.le_refl _) t1 t2 t3
                go_wp2_with (go_at_call 61; (refine (HI.out _ HAt.out).mono ?_); rintro e w1 ⟨rfl, zs, hz, hs, hA1, hT1⟩; have HZ := Lib.hid hz; have HS := Lib.hid hs; have HA1 := Lib.hid hA1; have HT1 := Lib.hid (HT.out.trans hT1); clear hz hs hA1 hT1)
                go_roundg (2 * n + 20 - (k * 2))
                case measure => omega
                case rel => exact ⟨k * 2, zs, by omega, by omega, rfl, by go_num, by
                  have := HC.out.last (zs := zs) HE.out.2 (by rw [HN.out]; exact han) (by rw [HN.out]; have := HE.out; omega) (by rw [HN.out]; exact HZ.out) (by rw [HN.out]; exact HS.out)
                  rwa [Nat.mul_comm] at this, HA1.out, HT1.out⟩
              · have hmn' : ¬ (m : Int) < (n : Int) := by omega
                go_wp2
                go_roundg (2 * n + 20 - (k * 2))
                case measure => omega
                case rel => exact ⟨k * 2, ys, by omega, by omega, rfl, by go_num, by
                  have := HC.out.rest HE.out.2 (by rw [HN.out]; have := HM0.out; omega)
                  rwa [Nat.mul_comm] at this, HAt.out, HT.out⟩
        · have hkl' : ¬ (k : Int) < (n : Int) := by omega
          go_wp2
          go_end0
          exact ⟨rfl, us, HC2.out.congr (fun c c1 c2 => ⟨fun h => no_mult (Nat.dvd_zero k) h c1 (by rw [HN.out] at c2; omega), fun h => h.elim⟩), HA2.out, HT2.out⟩

set_option maxHeartbeats 2000000 in
theorem sort_any (g n cap : Nat) (xs : List PlM) (rest : List Value) (w : World) (hA : At w g 42 (pls xs ++ rest)) (hn : xs.length = n) (hm : n ≤ 1000000) (hx : xs.Pairwise Ahead) :
    Calls Try.prog 48 #[.slice (some ⟨g, 0, none⟩) n cap, .func (.func 36) #[] #[]] w fun e w' => e = .returned (.tuple #[]) ∧ ∃ ys, ys.length = n ∧ news ys n = lOf xs ∧ At w' g 42 (pls ys ++ rest) ∧ Turned (Just g) w w' := by
  have HS := Lib.hid (stable_any g n cap xs rest w hA hn hm fun i j => pair_at hx)
  have HN := Lib.hid hn
  have HX := Lib.hid hx
  clear hA hn hx
  go_enter Try.func48, Try.ntmps48
  go_wp2_with (go_at_call 57; (refine HS.out.mono ?_); rintro e w1 ⟨rfl, ys, hc, hA1, hT1⟩; have HC := Lib.hid hc; have HA1 := Lib.hid hA1; have HT1 := Lib.hid hT1; clear hc hA1 hT1)
  go_end0
  refine ⟨rfl, ys, HC.out.len.trans HN.out, ?_, HA1.out, HT1.out⟩
  have := news_of HX.out HC.out.len (HC.out.sorted fun _ _ _ h => h) (fun i hi => by obtain ⟨j, h1, h2, _⟩ := HC.out.to i hi; exact ⟨j, h1, h2⟩) HC.out.of
  rwa [HC.out.len, HN.out] at this
end Go.Proofs.Ytfpfcmgcfbkolaa

namespace Go.Proofs.Ytfpfcmgcfbkolaa
open Go.RowKit Bm

set_option maxHeartbeats 2000000 in
theorem ins_nil (w : World) (f : Value) : Calls Try.prog 60 #[.slice none 0 0, .int .i64 0, .int .i64 0, f] w fun e w' => e = .returned (.tuple #[]) ∧ w' = w := by
  go_enter Try.func60, Try.ntmps60
  go_wp2
  go_loopw [8] (fun i wr => i = .int .i64 1 ∧ wr = w) (fun _ _ => 0)
  case atStart => exact ⟨rfl, rfl⟩
  case round =>
    obtain ⟨rfl, rfl⟩ := hrel
    go_wp2
    go_end0
    exact ⟨rfl, rfl⟩
set_option maxHeartbeats 2000000 in
theorem stable_nil (w : World) (f : Value) : Calls Try.prog 57 #[.slice none 0 0, .int .i64 0, f] w fun e w' => e = .returned (.tuple #[]) ∧ w' = w := by
  go_enter Try.func57, Try.ntmps57
  go_wp2
  go_loopw [7, 8] (fun i j wr => i = .int .i64 0 ∧ j = .int .i64 20 ∧ wr = w) (fun _ _ _ => 0)
  case atStart => exact ⟨rfl, rfl, rfl⟩
  case round =>
    obtain ⟨rfl, rfl, rfl⟩ := hrel
    go_wp2_with (go_at_call 60; (refine (ins_nil _ _).mono ?_); rintro e w1 ⟨rfl, rfl⟩)
    go_loopw [6] (fun i wq => i = .int .i64 20 ∧ wq = w1) (fun _ _ => 0)
    case atStart => exact ⟨rfl, rfl⟩
    case round =>
      obtain ⟨rfl, rfl⟩ := hrel
      go_wp2
      go_end0
      exact ⟨rfl, rfl⟩
set_option maxHeartbeats 2000000 in
theorem sort_nil (w : World) (f : Value) : Calls Try.prog 48 #[.slice none 0 0, f] w fun e w' => e = .returned (.tuple #[]) ∧ w' = w := by
  go_enter Try.func48, Try.ntmps48
  go_wp2_with (go_at_call 57; (refine (stable_nil _ _).mono ?_); rintro e w1 ⟨rfl, rfl⟩)
  go_end0
  exact ⟨rfl, rfl⟩
end Go.Proofs.Ytfpfcmgcfbkolaa

namespace Go.Proofs.Ytfpfcmgcfbkolaa
open Go.RowKit Bm

attribute [local go_sem ↓] Go.wp_at_zero Go.wp_at_succ ldPS_eq stP_eq

def zeros9 (n : Nat) : List Value := (Builtin.zeroCells (plC pl0).toArray n).toList
theorem zeros9_len (n : Nat) : (zeros9 n).length = n * 9 := by unfold zeros9 Builtin.zeroCells; simp [plC_len]
theorem zeros9_one (n : Nat) : ∀ u ∈ zeros9 n, u.oneCell' = true := by
  intro u hu
  unfold zeros9 Builtin.zeroCells at hu
  simp only [Array.toList_map, List.mem_map] at hu
  obtain ⟨i, _, rfl⟩ := hu
  have hlt : i % (plC pl0).toArray.size < (plC pl0).toArray.size := Nat.mod_lt _ (by simp [plC_len])
  have e := getElem!_pos (plC pl0).toArray (i % (plC pl0).toArray.size) hlt
  rw [e]
  exact plC_one pl0 _ (by rw [List.getElem_toArray]; exact List.getElem_mem _)
theorem clear_at {W : World} {g k m c : Nat} {ys : List PlM} {rest : List Value} (hA : At W g 42 (pls ys ++ rest)) (hk : k + m = ys.length) (hm : 0 < m) (ty : TypeId) :
    ∃ W1, (Builtin.clear_ #[29] ty #[.slice (some ⟨g, k * 9, none⟩) m c]).run Try.prog W = .ok (.tuple #[]) W1 ∧ At W1 g 42 (pls (ys.take k) ++ (zeros9 m ++ rest)) ∧ Turned (Just g) W W1 := by
  have e : pls ys ++ rest = pls (ys.take k) ++ (pls (ys.drop k) ++ rest) := by
    rw [← List.append_assoc, show pls (ys.take k) ++ pls (ys.drop k) = pls ys by unfold pls; rw [← List.flatMap_append, List.take_append_drop]]
  rw [e] at hA
  have h1 : (pls (ys.take k)).length = k * 9 := by rw [pls_len, List.length_take, Nat.min_eq_left (by omega), Nat.mul_comm]
  have h2 : (pls (ys.drop k)).length = m * 9 := by rw [pls_len, List.length_drop, Nat.mul_comm]; congr 1; omega
  have h3 := At.setCells (zeros9 m) _ _ hA (by rw [zeros9_len, h2])
  rw [h1] at h3
  have ht := hA.there
  rw [h1, h2, ← zeros9_len m] at ht
  have hst := run_storeCells_cells (P := Try.prog) g (k * 9) (zeros9 m) 0 W (fun j hj => (ht j hj).1) (fun j hj => (ht j hj).2) (zeros9_one m)
  refine ⟨_, ?_, h3, turned_setCells g _ _ W⟩
  obtain ⟨d, rfl⟩ : ∃ d, m = d + 1 := ⟨m - 1, by omega⟩
  simp only [Nat.add_zero] at hst
  unfold zeros9 at hst ⊢
  simp [Builtin.clear_, run_underlying Try.underlying29]
  show (Sem.run Try.prog (storeCells { block := g, off := k * 9 } (Builtin.zeroCells (plC pl0).toArray (d + 1)).toList) W).andThen _ = _
  rw [hst]
  rfl

set_option maxRecDepth 100000 in
set_option maxHeartbeats 4000000 in
theorem compact_any (g n cap : Nat) (zs : List PlM) (rest : List Value) (w : World) (hA : At w g 42 (pls zs ++ rest)) (hn : zs.length = n) (hcap : n ≤ cap) (hm : n ≤ 1000000) (hcm : cap ≤ maxLen) :
    Calls Try.prog 39 #[.slice (some ⟨g, 0, none⟩) n cap, .func (.func 40) #[] #[]] w fun e w' => ∃ k rest', e = .returned (.slice (some ⟨g, 0, none⟩) k cap) ∧ k = (news zs n).length ∧ At w' g 42 (pls (news zs n) ++ rest') ∧ Turned (Just g) w w' := by
  have HN := Lib.hid hn
  have HA := Lib.hid hA
  have SM := Lib.hid same_any
  have hm' : (n : Int) ≤ 1000000 := by omega
  have hcap' : (n : Int) ≤ (cap : Int) := by omega
  have hcm' : (cap : Int) ≤ 9223372036854775807 := by unfold maxLen at hcm; omega
  have HZ0 : Hid (newAt zs 0 = true) := Lib.hid (by unfold newAt; simp)
  clear hn hA
  by_cases h2 : n < 2
  · have h2' : (n : Int) < 2 := by omega
    have HE : Hid (news zs n = zs) := Lib.hid (by
      rw [news_all (by rw [HN.out]; exact Nat.le_refl _) (fun i hi => by rw [show i = 0 by omega]; exact HZ0.out), ← HN.out, List.take_length])
    go_enter Try.func39, Try.ntmps39
    go_wp2
    go_ret
    exact ⟨n, rest, rfl, by rw [HE.out, HN.out], by rw [HE.out]; exact HA.out, Turned.refl _ _⟩
  · have h2' : ¬ (n : Int) < 2 := by omega
    go_enter Try.func39, Try.ntmps39
    go_wp2
    go_loopg [5] (n - 1) (fun gh i wr => ∃ k : Nat, 1 ≤ k ∧ k ≤ n ∧ gh = n - k ∧ i = .int .i64 k ∧ Below w.heap.size w wr ∧ ∀ j, j < k → newAt zs j = true)
    case atStart => exact ⟨1, Nat.le_refl _, by omega, rfl, rfl, Below.refl _ _, fun j hj => by rw [show j = 0 by omega]; exact HZ0.out⟩
    case round =>
      obtain ⟨k, hk1, hkn, rfl, rfl, hB, hN⟩ := hrel
      have HB := Lib.hid hB
      have HNW := Lib.hid hN
      clear hB hN
      by_cases hlt : k < n
      · obtain ⟨q, rfl⟩ : ∃ q, k = q + 1 := ⟨k - 1, by omega⟩
        have hlt' : (q : Int) + 1 < (n : Int) := by omega
        have hq0 : (0 : Int) ≤ (q : Int) := by omega
        have hq1 : (0 : Int) ≤ (q : Int) + 1 := by omega
        have hq2 : (q : Int) < (n : Int) := by omega
        have hwq : IntKind.i64.wrap (q : Int) = (q : Int) := by rw [IntKind.wrap_i64]; omega
        have e1 : ((q : Int) + 1).toNat = q + 1 := by omega
        obtain ⟨x, hx⟩ : ∃ x, x = plN zs (q + 1) := ⟨_, rfl⟩
        obtain ⟨y, hy⟩ : ∃ y, y = plN zs q := ⟨_, rfl⟩
        have hA1 : At wr g 42 (pls zs ++ rest) := HA.out.kept (Turned.of_below HB.out (Nat.le_refl _) NoBlock) (fun h => h)
        have rx := hA1.place (j := q + 1) (by have := HN.out; omega)
        have ry := hA1.place (j := q) (by have := HN.out; omega)
        rw [← hx] at rx
        rw [← hy] at ry
        have HX := Lib.hid hx
        have HY := Lib.hid hy
        have HRX := Lib.hid rx
        have HRY := Lib.hid ry
        have HAt := Lib.hid hA1
        have HG := Lib.hid hA1.lt
        have lx : ∀ W, Below wr.heap.size wr W → (op_ex (ldB 42) (.pointer (some ⟨g, (q + 1) * 9, none⟩)) W).choose = .ok (.value (.agg (plC x).toArray)) W := fun W hW => ldP_at (range_kept HRX.out (hW.block g HG.out))
        have ly : ∀ W, Below wr.heap.size wr W → (op_ex (ldB 42) (.pointer (some ⟨g, q * 9, none⟩)) W).choose = .ok (.value (.agg (plC y).toArray)) W := fun W hW => ldP_at (range_kept HRY.out (hW.block g HG.out))
        clear hx hy rx ry hA1
        by_cases hc : x.p.s = y.p.s
        · have hcd : decide (x.p.s = y.p.s) = true := decide_eq_true hc
          have HNA : Hid (newAt zs (q + 1) = false) := Lib.hid (by
            unfold newAt
            rw [Nat.add_sub_cancel, ← HX.out, ← HY.out]
            exact decide_eq_false (by rintro (h | h); omega; exact h hc))
          clear hc
          obtain ⟨hna0, hnl0⟩ := NewAt.start (zs := zs) (k := q + 1) (by rw [HN.out]; exact hlt) HNW.out HNA.out
          have HNA0 := Lib.hid hna0
          have HNL0 := Lib.hid hnl0
          clear hna0 hnl0
          go_wp2_with fail
          go_region_held3 (fun W => Below wr.heap.size wr W) (first | assumption | exact (Below.refl _ wr).drew) (first
            | (go_at_call 40; (refine (SM.out x y _).mono ?_); rintro e v1 ⟨rfl, hb⟩; have S1 := Below.trans (by assumption) (hb.mono (Below.size (by assumption))); clear hb))
          have S3 : Below wr.heap.size wr v1 := by assumption
          have HB3 := Lib.hid (HB.out.trans (S3.mono HB.out.size))
          have HA3 := Lib.hid (HAt.out.kept (Turned.of_below S3 (Nat.le_refl _) NoBlock) (fun h => h))
          clear lx ly S3
          go_wp2
          go_loopg [5, 7] (n - (q + 1 + 1)) (fun gh i j wr => ∃ (t j' : Nat) (ys : List PlM), 1 ≤ j' ∧ q + 1 + j' ≤ n ∧ gh = n - (q + 1 + j') ∧ i = .int .i64 t ∧ j = .int .i64 j' ∧ Hid (t = (news zs (q + 1 + j')).length) ∧ NewAt zs ys (q + 1 + j') ∧ At wr g 42 (pls ys ++ rest) ∧ Turned (Just g) w wr)
          case atStart => exact ⟨q + 1, 1, zs, Nat.le_refl _, hlt, rfl, by go_num, rfl, Lib.hid HNL0.out.symm, HNA0.out, HA3.out, Turned.of_below HB3.out (Nat.le_refl _) _⟩
          case round =>
            obtain ⟨t, j, ys, hj1, hjn, rfl, rfl, rfl, HTL, hna, hA, hT⟩ := hrel
            have HNE := Lib.hid hna
            have HA4 := Lib.hid hA
            have HT4 := Lib.hid hT
            have HLE : Hid (t < q + 1 + j) := Lib.hid (by rw [HTL.out]; exact hna.le)
            have HYL : Hid (ys.length = n) := Lib.hid (hna.len.trans HN.out)
            clear hna hA hT
            by_cases hlt2 : q + 1 + j < n
            · obtain ⟨i, rfl⟩ : ∃ i, j = i + 1 := ⟨j - 1, by omega⟩
              have hL : ((n - (q + 1) : Nat) : Int) = (n : Int) - ((q : Int) + 1) := by omega
              have hj0 : (0 : Int) ≤ (i : Int) := by omega
              have hj2 : (0 : Int) ≤ (i : Int) + 1 := by omega
              have hj3 : (i : Int) + 1 < ((n - (q + 1) : Nat) : Int) := by omega
              have hj4 : (i : Int) < ((n - (q + 1) : Nat) : Int) := by omega
              have hwi : IntKind.i64.wrap (i : Int) = (i : Int) := by rw [IntKind.wrap_i64]; omega
              have e2 : ((i : Int) + 1).toNat = i + 1 := by omega
              have ht0 : (0 : Int) ≤ (t : Int) := by omega
              have ht1 : (t : Int) < (n : Int) := by have := HLE.out; omega
              obtain ⟨x', hx⟩ : ∃ x, x = plN zs (q + 1 + (i + 1)) := ⟨_, rfl⟩
              obtain ⟨y', hy⟩ : ∃ y, y = plN zs (q + 1 + i) := ⟨_, rfl⟩
              have rx := HA4.out.place (j := q + 1 + (i + 1)) (by have := HYL.out; omega)
              have ry := HA4.out.place (j := q + 1 + i) (by have := HYL.out; omega)
              rw [HNE.out.old _ (by omega), ← hx, Nat.add_mul (q + 1) (i + 1) 9] at rx
              rw [HNE.out.old _ (by omega), ← hy, Nat.add_mul (q + 1) i 9] at ry
              have HX2 := Lib.hid hx
              have HY2 := Lib.hid hy
              have HRX2 := Lib.hid rx
              have HRY2 := Lib.hid ry
              have HG2 := Lib.hid HA4.out.lt
              have lx : ∀ W, Below wr.heap.size wr W → (op_ex (ldB 42) (.pointer (some ⟨g, (q + 1) * 9 + (i + 1) * 9, none⟩)) W).choose = .ok (.value (.agg (plC x').toArray)) W := fun W hW => ldP_at (range_kept HRX2.out (hW.block g HG2.out))
              have ly : ∀ W, Below wr.heap.size wr W → (op_ex (ldB 42) (.pointer (some ⟨g, (q + 1) * 9 + i * 9, none⟩)) W).choose = .ok (.value (.agg (plC y').toArray)) W := fun W hW => ldP_at (range_kept HRY2.out (hW.block g HG2.out))
              clear hx hy rx ry hL
              by_cases hc : x'.p.s = y'.p.s
              · have hcd2 : decide (x'.p.s = y'.p.s) = true := decide_eq_true hc
                have HNB : Hid (newAt zs (q + 1 + (i + 1)) = false) := Lib.hid (by
                  unfold newAt
                  rw [show q + 1 + (i + 1) - 1 = q + 1 + i by omega, ← HX2.out, ← HY2.out]
                  exact decide_eq_false (by rintro (h | h); omega; exact h hc))
                clear hc
                go_wp2_with fail
                go_region_held3 (fun W => Below wr.heap.size wr W) (first | assumption | exact (Below.refl _ wr).drew) (first
                  | (go_at_call 40; (refine (SM.out x' y' _).mono ?_); rintro e v2 ⟨rfl, hb⟩; have S1 := Below.trans (by assumption) (hb.mono (Below.size (by assumption))); clear hb))
                have S3 : Below wr.heap.size wr v2 := by assumption
                have HA5 := Lib.hid (HA4.out.kept (Turned.of_below S3 (Nat.le_refl _) NoBlock) (fun h => h))
                have HT5 := Lib.hid (HT4.out.trans (Turned.of_below S3 (Nat.le_refl _) _))
                clear lx ly S3
                go_wp2
                go_roundg (n - (q + 1 + (i + 1 + 1)))
                case measure => omega
                case rel =>
                  obtain ⟨n1, n2⟩ := HNE.out.skip HNB.out
                  exact ⟨t, i + 1 + 1, ys, by omega, by omega, rfl, rfl, by go_num, Lib.hid (by rw [HTL.out]; exact congrArg List.length n2.symm), n1, HA5.out, HT5.out⟩
              · have hcd2 : decide (x'.p.s = y'.p.s) = false := decide_eq_false hc
                have HNB : Hid (newAt zs (q + 1 + (i + 1)) = true) := Lib.hid (by
                  unfold newAt
                  rw [show q + 1 + (i + 1) - 1 = q + 1 + i by omega, ← HX2.out, ← HY2.out]
                  exact decide_eq_true (.inr hc))
                clear hc
                go_wp2_with fail
                go_region_held3 (fun W => Below wr.heap.size wr W) (first | assumption | exact (Below.refl _ wr).drew) (first
                  | (go_at_call 40; (refine (SM.out x' y' _).mono ?_); rintro e v2 ⟨rfl, hb⟩; have S1 := Below.trans (by assumption) (hb.mono (Below.size (by assumption))); clear hb))
                have S3 : Below wr.heap.size wr v2 := by assumption
                have hA5 : At v2 g 42 (pls ys ++ rest) := HA4.out.kept (Turned.of_below S3 (Nat.le_refl _) NoBlock) (fun h => h)
                have HT5 := Lib.hid (HT4.out.trans (Turned.of_below S3 (Nat.le_refl _) _))
                have lx2 := lx v2 S3
                have hlt9 : t < ys.length := by have := HYL.out; have := HLE.out; omega
                have st2 := stP_at hA5 hlt9 x'
                obtain ⟨V3, hV3⟩ : ∃ V, V = v2.setCells g (t * 9) (plC x') := ⟨_, rfl⟩
                rw [← hV3] at st2
                have hA6 := hA5.put9 hlt9 x'
                have hT6 := turned_setCells g (plC x') (t * 9) v2
                rw [← hV3] at hA6 hT6
                have HA6 := Lib.hid hA6
                have HT6 := Lib.hid (HT5.out.trans hT6)
                clear lx ly S3 hA5 hA6 hT6 hV3 hlt9
                go_wp2
                go_roundg (n - (q + 1 + (i + 1 + 1)))
                case measure => omega
                case rel =>
                  obtain ⟨n1, n2⟩ := HNE.out.take (by rw [HN.out]; exact hlt2) HNB.out
                  rw [← HTL.out, ← HX2.out] at n1
                  exact ⟨t + 1, i + 1 + 1, _, by omega, by omega, rfl, by go_num, by go_num, Lib.hid (by rw [HTL.out]; exact n2.symm), n1, HA6.out, HT6.out⟩
            · have hjn2 : q + 1 + j = n := by omega
              have hj3 : ¬ (j : Int) < ((n - (q + 1) : Nat) : Int) := by omega
              have ht0 : (0 : Int) ≤ (t : Int) := by omega
              have ht1 : (t : Int) < (n : Int) := by have := HLE.out; omega
              have ht2 : (t : Int) ≤ (n : Int) := by omega
              have ht3 : (t : Int) ≤ (cap : Int) := by omega
              have ht4 : ¬ cap = t := by omega
              have hne := HNE.out
              rw [hjn2, ← HN.out] at hne
              have HEND := Lib.hid hne.end_
              have HTE : Hid (t = (news zs n).length) := Lib.hid (by rw [HTL.out, hjn2])
              obtain ⟨W1, hcl, hA7, hT7⟩ : ∃ W1, (∀ ty, (Builtin.clear_ #[29] ty #[.slice (some ⟨g, t * 9, none⟩) (n - t) (cap - t)]).run Try.prog wr = .ok (.tuple #[]) W1) ∧ At W1 g 42 (pls (ys.take t) ++ (zeros9 (n - t) ++ rest)) ∧ Turned (Just g) wr W1 := by
                obtain ⟨W1, a1, a2, a3⟩ := clear_at (c := cap - t) HA4.out (k := t) (m := n - t) (by have := HYL.out; omega) (by omega) 0
                exact ⟨W1, fun ty => a1, a2, a3⟩
              have HA7 := Lib.hid hA7
              have HT7 := Lib.hid (HT4.out.trans hT7)
              clear hne hA7 hT7
              go_wp2
              go_ret
              refine ⟨t, rfl, HTE.out, ⟨zeros9 (n - t) ++ rest, ?_⟩, HT7.out⟩
              have e9 := HEND.out
              rw [HN.out, ← HTE.out] at e9
              rw [← e9]
              exact HA7.out
        · have hcd : decide (x.p.s = y.p.s) = false := decide_eq_false hc
          have HNA : Hid (newAt zs (q + 1) = true) := Lib.hid (by
            unfold newAt
            rw [Nat.add_sub_cancel, ← HX.out, ← HY.out]
            exact decide_eq_true (.inr hc))
          clear hc
          go_wp2_with fail
          go_region_held3 (fun W => Below wr.heap.size wr W) (first | assumption | exact (Below.refl _ wr).drew) (first
            | (go_at_call 40; (refine (SM.out x y _).mono ?_); rintro e v1 ⟨rfl, hb⟩; have S1 := Below.trans (by assumption) (hb.mono (Below.size (by assumption))); clear hb))
          have S3 : Below wr.heap.size wr v1 := by assumption
          have HB3 := Lib.hid (HB.out.trans (S3.mono HB.out.size))
          clear lx ly S3
          go_wp2
          go_roundg (n - (q + 1 + 1))
          case measure => omega
          case rel => exact ⟨q + 1 + 1, by omega, by omega, rfl, by go_num, HB3.out, fun j hj => by
            by_cases e : j = q + 1
            · rw [e]; exact HNA.out
            · exact HNW.out j (by omega)⟩
      · obtain rfl : k = n := by omega
        have HE : Hid (news zs k = zs) := Lib.hid (by
          rw [news_all (by rw [HN.out]; exact Nat.le_refl _) HNW.out, ← HN.out, List.take_length])
        go_wp2
        go_ret
        exact ⟨k, rest, rfl, by rw [HE.out, HN.out], by rw [HE.out]; exact HA.out.kept (Turned.of_below HB.out (Nat.le_refl _) NoBlock) (fun h => h), Turned.of_below HB.out (Nat.le_refl _) _⟩
end Go.Proofs.Ytfpfcmgcfbkolaa
