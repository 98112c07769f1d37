/- Contract of the program's page.Read. -/
import Derived.Test.YtfpfcmgcfbkolaaPage3
import Derived.BigRegion
import Derived.Deep.DeepCutAuto
import Derived.Deep.RegionHeld3
import Derived.Laws.CopyOwn
import Derived.Deep.RegionLaw
import Derived.Lib.Hide
namespace Go.Proofs.Ytfpfcmgcfbkolaa
open Go.RowKit Bm

theorem high_bit (i : Nat) : (2147483648#32).getLsbD i = decide (i = 31) := by
  rw [show (2147483648#32 : BitVec 32) = BitVec.twoPow 32 31 from rfl, BitVec.getLsbD_twoPow]
  by_cases e : i = 31
  · subst e; rfl
  · rw [decide_eq_false e]; simp; omega
theorem low_part (x : BitVec 32) : x &&& ~~~2147483648#32 = BitVec.ofNat 32 (x.toNat % 2147483648) := by
  apply BitVec.eq_of_getLsbD_eq
  intro i hi
  rw [BitVec.getLsbD_and, BitVec.getLsbD_not, high_bit, BitVec.getLsbD_ofNat, show (2147483648 : Nat) = 2 ^ 31 from rfl, Nat.testBit_mod_two_pow]
  show (x.toNat.testBit i && _) = _
  by_cases e : i = 31
  · subst e; simp
  · have : i < 31 := by omega
    simp [e, this, hi]
theorem U_low (x : BitVec 32) : bits .andNot .u32 (U x) 2147483648 = U (BitVec.ofNat 32 (x.toNat % 2147483648)) := by
  rw [← low_part]; exact U_andNot x 2147483648#32
theorem high_part (x : BitVec 32) : (x &&& 2147483648#32 = 0#32) ↔ U x < 2147483648 := by
  rw [show (2147483648#32 : BitVec 32) = BitVec.twoPow 32 31 from rfl, BitVec.and_twoPow]
  have h : x.getLsbD 31 = decide (2147483648 ≤ x.toNat) := by
    have := BitVec.msb_eq_decide x
    simpa [BitVec.msb_eq_getLsbD_last] using this
  rw [h]
  unfold U
  by_cases e : 2147483648 ≤ x.toNat
  · rw [decide_eq_true e]; simp; omega
  · rw [decide_eq_false e]; simp; omega
/-- What the highest bit of a word says. -/
theorem U_high (x : BitVec 32) : bits .and .u32 (U x) 2147483648 = if decide (2147483648 ≤ U x) then 2147483648 else 0 := by
  rw [show bits .and .u32 (U x) 2147483648 = U (x &&& 2147483648#32) from U_and x 2147483648#32]
  by_cases e : 2147483648 ≤ U x
  · rw [if_pos (by simpa using e)]
    have h := mt (high_part x).1 (by omega)
    rw [show (2147483648#32 : BitVec 32) = BitVec.twoPow 32 31 from rfl, BitVec.and_twoPow] at h ⊢
    split at h
    · rename_i h'; rw [if_pos h']; rfl
    · exact absurd rfl h
  · rw [if_neg (by simpa using e), (high_part x).2 (by omega)]; rfl

theorem ppg_size : (Try.prog.info? 40).map (·.size) = some 7 := by kernel_rfl
/-- The results of a function that returns a page and a number, the page out of its variable. -/
theorem ppg_res2 {fn : Func} {i j : Tmp} (h : fn.results = #[.cell i 40, .tmp j]) (tmps : Array Value) {w : World} {g : Nat} {p : PageM} {v : Value} (hp : tmps.getD i undef = .pointer (some ⟨g, 0, none⟩)) (hq : tmps.getD j undef = v) (hA : PgAt w g 40 p) :
    (results fn tmps).run Try.prog w = .ok (.tuple #[pgV p, v]) w := by
  have hp' : tmps[i]?.getD undef = .pointer (some ⟨g, 0, none⟩) := by simpa using hp
  have hq' : tmps[j]?.getD undef = v := by simpa using hq
  simp [results, h, hp', hq', asAddr, run_loadVar_row (P := Try.prog) w g 40 40 (pgC p).toArray (0, 0) _ hA.at_ Try.underlying40 rfl (by rw [ppg_size]; simp [pgC]), pgV]

set_option maxRecDepth 100000 in
set_option maxHeartbeats 1000000 in
theorem pread_any (A : Option Addr) (n c : Nat) (xs : List (BitVec 32)) (w : World) (hA : ReadsU w A n c xs) (hn : n ≤ 1000000) :
    Calls Try.prog 46 #[.slice A n c] w fun e w' => e = .returned (.tuple #[pgV (pgRd xs).1, .int .i64 (pgRd xs).2]) ∧ Below w.heap.size w w' := by
  have hAl := hA.le
  have hlen := hA.len
  have hb0 : Below w.heap.size w (w.alloc (.cells (pgC pg0).toArray 40)) := (Below.refl _ w).alloc (Nat.le_refl _) _
  have FR := Lib.hid (pfree_any A n c 7 xs _ (hA.kept hb0) hn (by omega) (by omega))
  have R0 := Lib.hid (PgAt.news w 40 pg0)
  have HB0 := Lib.hid hb0
  clear hb0
  by_cases h7 : n = 7
  · subst h7
    rw [freeB_iff hlen] at FR
    cases hf : freeB xs
    · rw [hf] at FR
      obtain ⟨a, rfl⟩ := hA.some_ (by omega)
      have HA := Lib.hid hA
      by_cases hv : pgWs (pgOf xs) = xs
      · rw [pgRd_good hlen hf hv]
        have HV := Lib.hid (decide_eq_true hv)
        clear hv hf hlen hA
        go_enter Try.func46, Try.ntmps46
        go_upto_region 5 with (go_at_call 50; (refine FR.out.mono ?_); rintro e V ⟨rfl, hb⟩; have HBV := Lib.hid (HB0.out.trans (hb.mono (by simp))); have RR := Lib.hid (R0.out.at_.kept (Turned.of_below hb (Nat.le_refl _) NoBlock) (fun h => h)); clear hb)
        have HAV := HA.out.kept HBV.out
        obtain ⟨p, hp⟩ : ∃ p, p = pgOf xs := ⟨_, rfl⟩
        rw [← hp] at HV
        have c0 := HAV.c0 (by omega)
        have c1 := HAV.cj 1 (by omega) (by omega)
        rw [show wd xs 1 = p.q by rw [hp]; rfl] at c1
        have KA : ∀ o, ReadsU (V.alloc o) (some a) 7 c xs := fun o => HAV.kept ((Below.refl _ V).alloc (Nat.le_refl _) o)
        have k0 := fun o => (KA o).c0 (by omega)
        have k1 := fun o => (KA o).cj 1 (by omega) (by omega)
        rw [show wd xs 1 = p.q by rw [hp]; rfl] at k1
        clear KA
        have es : bits .andNot .u32 (U (wd xs 0)) 2147483648 = U p.s := by rw [hp]; exact U_low _
        obtain ⟨H, eh, hH⟩ : ∃ H, bits .and .u32 (U (wd xs 0)) 2147483648 = H ∧ Hid ((H != 0) = p.g) := ⟨_, rfl, by rw [U_high, hp]; unfold pgOf; cases decide (2147483648 ≤ U (wd xs 0)) <;> rfl⟩
        have HP := Lib.hid hp
        have HAVV := Lib.hid HAV
        clear hp HAV
        have hab : a.block < V.heap.size := HAVV.out.lt (by omega)
        have hne : a.block ≠ V.heap.size := by omega
        have hne' : ¬ V.heap.size = a.block := by omega
        have hab' : a.block < V.drew.heap.size := hab
        go_region_held3 (fun w' => w'.cell? a = some (.int .u32 (U (wd xs 0))) ∧ w'.cell? ⟨a.block, a.off + 1, none⟩ = some (.int .u32 (U p.q))) (go_keep) (fail)
        rw [hH.out]
        obtain ⟨T, hT⟩ : ∃ T, T = (V.alloc (.cells (pgC ⟨p.s, p.q, p.g, 0#32, 0#32, 0#32, 0#32⟩).toArray 40)).drew := ⟨_, rfl⟩
        change Exit.then _ _ _ _ ((V.alloc (.cells (pgC ⟨p.s, p.q, p.g, 0#32, 0#32, 0#32, 0#32⟩).toArray 40)).drew)
        have hbT : Below V.heap.size V T := by rw [hT]; exact ((Below.refl _ V).alloc (Nat.le_refl _) _).drew
        have pT : PgAt T V.heap.size 40 ⟨p.s, p.q, p.g, 0#32, 0#32, 0#32, 0#32⟩ := by rw [hT]; exact ⟨(At.news V _ _).drew⟩
        rw [← hT]
        clear hT c0 c1 k0 k1 es eh hH
        have BT := Lib.hid hbT
        have PT := Lib.hid pT
        have hcc : ¬ c = 2 := by omega
        have hl5 : c - 2 + 2 = c := by omega
        have HONE : Hid ((Try.prog.info? 34).map (·.size) = some 1) := by
          obtain ⟨i0, hin, hz0, hz1, hz2⟩ := info_parts infoU
          show _ = _
          rw [hin, Option.map_some, hz1]
        have c2 : Hid (∀ j v, (Us [p.d0, p.d1, p.d2, p.d3])[j]? = some v → T.drew.cell? ((⟨a.block, a.off + 2, none⟩ : Addr).add j) = some v) := by
          intro j v hj
          have hj4 : j < 4 := (List.getElem?_eq_some_iff.1 hj).1
          have HT := HAVV.out.kept hbT
          have e : ((⟨a.block, a.off + 2, none⟩ : Addr).add j) = ⟨a.block, a.off + (2 + j), none⟩ := by
            unfold Addr.add
            split
            · simp_all
            · simp; omega
          rw [e]
          refine (HT.cj (2 + j) (by omega) (by omega)).trans ?_
          rw [← hj, HP.out]
          obtain rfl | rfl | rfl | rfl : j = 0 ∨ j = 1 ∨ j = 2 ∨ j = 3 := by omega
          all_goals rfl
        clear hbT pT
        go_wp2_with fail
        go_region_law ((refine step_copy_splice (by rfl) (.tmp 26) (.tmp 28) _ _ (by rfl) 34 Try.underlying66 HONE.out (some ⟨V.heap.size, 3, none⟩) (some ⟨a.block, a.off + 2, none⟩) 4 4 5 (c - 2) (by go_simp) (by go_simp) V.heap.size 3 (pgC ⟨p.s, p.q, p.g, 0#32, 0#32, 0#32, 0#32⟩) 40 PT.out.at_.drew (Us [p.d0, p.d1, p.d2, p.d3]) (by rfl) (fun _ => ⟨rfl, _, rfl, c2.out⟩) (by simp [pgC, Us]) (Us_one _) V.heap.size V BT.out.drew (Nat.le_refl _) ?_; intro w3 hg3 hb3))
        have P3 : PgAt w3 V.heap.size 40 p := ⟨hg3.out⟩
        have R3 := Lib.hid (PgAt.on (p := pg0) ⟨RR.out⟩ hb3)
        have HA3 := Lib.hid (HAVV.out.kept hb3)
        have BT3 := Lib.hid (HBV.out.trans (hb3.mono HBV.out.size))
        obtain ⟨p0, p1, p2, p3, p4, p5, p6⟩ := P3.cells
        have RW := Lib.hid (fun W => pwords_any p W)
        unfold pgV pgC at RW
        have hl : (pgWs p).length ≤ 1000000 := by rcases pgWs_len p with h | h <;> omega
        have HL := Lib.hid hl
        have PT3 := Lib.hid P3
        clear hb3 hg3 P3 hl c2
        go_wp2_with (first
          | (go_at_call 55; (refine (RW.out _).mono ?_); rintro e w4 ⟨A4, cc4, rfl, hr, _, hb⟩; have HR := Lib.hid hr; have HA4 := Lib.hid (HA3.out.kept hb); have HB4 := Lib.hid (BT3.out.trans (hb.mono BT3.out.size)); have R4 := Lib.hid (R3.out.on hb); have P4 := Lib.hid (PT3.out.on hb); clear hr hb)
          | (go_at_call 51; (refine (equal_any _ _ _ _ _ _ _ _ _ HR.out HA4.out HL.out (by omega)).mono ?_); rintro e w5 ⟨rfl, k, rfl⟩; rw [HV.out]; obtain ⟨q0, q1, q2, q3, q4, q5, q6⟩ := P4.out.cells; obtain ⟨r0, r1, r2, r3, r4, r5, r6⟩ := R4.out.cells; have f0 := R4.out.at_.frozen 0; have f1 := R4.out.at_.frozen 1; have f2 := R4.out.at_.frozen 2; have f3 := R4.out.at_.frozen 3; have f4 := R4.out.at_.frozen 4; have f5 := R4.out.at_.frozen 5; have f6 := R4.out.at_.frozen 6))
        rw [← HP.out]
        exact bodyPost_ret (ppg_res2 Try.results46 _ rfl rfl ((R4.out.drewN k).put7 p)) rfl ⟨rfl, PgAt.put7_below (HB4.out.trans (below_drewN' _ _ _)) (Nat.le_refl _) _ _ _ _ _ _ _⟩
      · rw [pgRd_torn hlen hf hv]
        have HV := Lib.hid (decide_eq_false hv)
        clear hv hf hlen hA
        go_enter Try.func46, Try.ntmps46
        go_upto_region 5 with (go_at_call 50; (refine FR.out.mono ?_); rintro e V ⟨rfl, hb⟩; have HBV := Lib.hid (HB0.out.trans (hb.mono (by simp))); have RR := Lib.hid (R0.out.at_.kept (Turned.of_below hb (Nat.le_refl _) NoBlock) (fun h => h)); clear hb)
        have HAV := HA.out.kept HBV.out
        obtain ⟨p, hp⟩ : ∃ p, p = pgOf xs := ⟨_, rfl⟩
        rw [← hp] at HV
        have c0 := HAV.c0 (by omega)
        have c1 := HAV.cj 1 (by omega) (by omega)
        rw [show wd xs 1 = p.q by rw [hp]; rfl] at c1
        have KA : ∀ o, ReadsU (V.alloc o) (some a) 7 c xs := fun o => HAV.kept ((Below.refl _ V).alloc (Nat.le_refl _) o)
        have k0 := fun o => (KA o).c0 (by omega)
        have k1 := fun o => (KA o).cj 1 (by omega) (by omega)
        rw [show wd xs 1 = p.q by rw [hp]; rfl] at k1
        clear KA
        have es : bits .andNot .u32 (U (wd xs 0)) 2147483648 = U p.s := by rw [hp]; exact U_low _
        obtain ⟨H, eh, hH⟩ : ∃ H, bits .and .u32 (U (wd xs 0)) 2147483648 = H ∧ Hid ((H != 0) = p.g) := ⟨_, rfl, by rw [U_high, hp]; unfold pgOf; cases decide (2147483648 ≤ U (wd xs 0)) <;> rfl⟩
        have HP := Lib.hid hp
        have HAVV := Lib.hid HAV
        clear hp HAV
        have hab : a.block < V.heap.size := HAVV.out.lt (by omega)
        have hne : a.block ≠ V.heap.size := by omega
        have hne' : ¬ V.heap.size = a.block := by omega
        have hab' : a.block < V.drew.heap.size := hab
        go_region_held3 (fun w' => w'.cell? a = some (.int .u32 (U (wd xs 0))) ∧ w'.cell? ⟨a.block, a.off + 1, none⟩ = some (.int .u32 (U p.q))) (go_keep) (fail)
        rw [hH.out]
        obtain ⟨T, hT⟩ : ∃ T, T = (V.alloc (.cells (pgC ⟨p.s, p.q, p.g, 0#32, 0#32, 0#32, 0#32⟩).toArray 40)).drew := ⟨_, rfl⟩
        change Exit.then _ _ _ _ ((V.alloc (.cells (pgC ⟨p.s, p.q, p.g, 0#32, 0#32, 0#32, 0#32⟩).toArray 40)).drew)
        have hbT : Below V.heap.size V T := by rw [hT]; exact ((Below.refl _ V).alloc (Nat.le_refl _) _).drew
        have pT : PgAt T V.heap.size 40 ⟨p.s, p.q, p.g, 0#32, 0#32, 0#32, 0#32⟩ := by rw [hT]; exact ⟨(At.news V _ _).drew⟩
        rw [← hT]
        clear hT c0 c1 k0 k1 es eh hH
        have BT := Lib.hid hbT
        have PT := Lib.hid pT
        have hcc : ¬ c = 2 := by omega
        have hl5 : c - 2 + 2 = c := by omega
        have HONE : Hid ((Try.prog.info? 34).map (·.size) = some 1) := by
          obtain ⟨i0, hin, hz0, hz1, hz2⟩ := info_parts infoU
          show _ = _
          rw [hin, Option.map_some, hz1]
        have c2 : Hid (∀ j v, (Us [p.d0, p.d1, p.d2, p.d3])[j]? = some v → T.drew.cell? ((⟨a.block, a.off + 2, none⟩ : Addr).add j) = some v) := by
          intro j v hj
          have hj4 : j < 4 := (List.getElem?_eq_some_iff.1 hj).1
          have HT := HAVV.out.kept hbT
          have e : ((⟨a.block, a.off + 2, none⟩ : Addr).add j) = ⟨a.block, a.off + (2 + j), none⟩ := by
            unfold Addr.add
            split
            · simp_all
            · simp; omega
          rw [e]
          refine (HT.cj (2 + j) (by omega) (by omega)).trans ?_
          rw [← hj, HP.out]
          obtain rfl | rfl | rfl | rfl : j = 0 ∨ j = 1 ∨ j = 2 ∨ j = 3 := by omega
          all_goals rfl
        clear hbT pT
        go_wp2_with fail
        go_region_law ((refine step_copy_splice (by rfl) (.tmp 26) (.tmp 28) _ _ (by rfl) 34 Try.underlying66 HONE.out (some ⟨V.heap.size, 3, none⟩) (some ⟨a.block, a.off + 2, none⟩) 4 4 5 (c - 2) (by go_simp) (by go_simp) V.heap.size 3 (pgC ⟨p.s, p.q, p.g, 0#32, 0#32, 0#32, 0#32⟩) 40 PT.out.at_.drew (Us [p.d0, p.d1, p.d2, p.d3]) (by rfl) (fun _ => ⟨rfl, _, rfl, c2.out⟩) (by simp [pgC, Us]) (Us_one _) V.heap.size V BT.out.drew (Nat.le_refl _) ?_; intro w3 hg3 hb3))
        have P3 : PgAt w3 V.heap.size 40 p := ⟨hg3.out⟩
        have R3 := Lib.hid (PgAt.on (p := pg0) ⟨RR.out⟩ hb3)
        have HA3 := Lib.hid (HAVV.out.kept hb3)
        have BT3 := Lib.hid (HBV.out.trans (hb3.mono HBV.out.size))
        obtain ⟨p0, p1, p2, p3, p4, p5, p6⟩ := P3.cells
        have RW := Lib.hid (fun W => pwords_any p W)
        unfold pgV pgC at RW
        have hl : (pgWs p).length ≤ 1000000 := by rcases pgWs_len p with h | h <;> omega
        have HL := Lib.hid hl
        have PT3 := Lib.hid P3
        clear hb3 hg3 P3 hl c2
        go_wp2_with (first
          | (go_at_call 55; (refine (RW.out _).mono ?_); rintro e w4 ⟨A4, cc4, rfl, hr, _, hb⟩; have HR := Lib.hid hr; have HA4 := Lib.hid (HA3.out.kept hb); have HB4 := Lib.hid (BT3.out.trans (hb.mono BT3.out.size)); have R4 := Lib.hid (R3.out.on hb); have P4 := Lib.hid (PT3.out.on hb); clear hr hb)
          | (go_at_call 51; (refine (equal_any _ _ _ _ _ _ _ _ _ HR.out HA4.out HL.out (by omega)).mono ?_); rintro e w5 ⟨rfl, k, rfl⟩; rw [HV.out]; obtain ⟨q0, q1, q2, q3, q4, q5, q6⟩ := P4.out.cells; obtain ⟨r0, r1, r2, r3, r4, r5, r6⟩ := R4.out.cells; have f0 := R4.out.at_.frozen 0; have f1 := R4.out.at_.frozen 1; have f2 := R4.out.at_.frozen 2; have f3 := R4.out.at_.frozen 3; have f4 := R4.out.at_.frozen 4; have f5 := R4.out.at_.frozen 5; have f6 := R4.out.at_.frozen 6))
        exact bodyPost_ret (ppg_res2 Try.results46 _ rfl rfl ((R4.out.drewN k).put7 pg0)) rfl ⟨rfl, PgAt.put7_below (HB4.out.trans (below_drewN' _ _ _)) (Nat.le_refl _) _ _ _ _ _ _ _⟩
    · rw [hf] at FR
      rw [pgRd_free hlen hf]
      clear hf hlen hA
      go_enter Try.func46, Try.ntmps46
      go_wp2_with (go_at_call 50; (refine FR.out.mono ?_); rintro e V ⟨rfl, hb⟩; have HBV := Lib.hid (HB0.out.trans (hb.mono (by simp))); have R4 := Lib.hid (R0.out.on hb); clear hb; obtain ⟨r0, r1, r2, r3, r4, r5, r6⟩ := R4.out.cells; have f0 := R4.out.at_.frozen 0; have f1 := R4.out.at_.frozen 1; have f2 := R4.out.at_.frozen 2; have f3 := R4.out.at_.frozen 3; have f4 := R4.out.at_.frozen 4; have f5 := R4.out.at_.frozen 5; have f6 := R4.out.at_.frozen 6)
      exact bodyPost_ret (ppg_res2 Try.results46 _ rfl rfl (R4.out.put7 pg0)) rfl ⟨rfl, PgAt.put7_below HBV.out (Nat.le_refl _) _ _ _ _ _ _ _⟩
  · rw [ne_replicate (by omega)] at FR
    rw [pgRd_far (by omega)]
    have h7' : ¬ (n : Int) = 7 := by omega
    clear hA
    go_enter Try.func46, Try.ntmps46
    go_wp2_with (go_at_call 50; (refine FR.out.mono ?_); rintro e V ⟨rfl, hb⟩; have HBV := Lib.hid (HB0.out.trans (hb.mono (by simp))); have R4 := Lib.hid (R0.out.on hb); clear hb; obtain ⟨r0, r1, r2, r3, r4, r5, r6⟩ := R4.out.cells; have f0 := R4.out.at_.frozen 0; have f1 := R4.out.at_.frozen 1; have f2 := R4.out.at_.frozen 2; have f3 := R4.out.at_.frozen 3; have f4 := R4.out.at_.frozen 4; have f5 := R4.out.at_.frozen 5; have f6 := R4.out.at_.frozen 6)
    exact bodyPost_ret (ppg_res2 Try.results46 _ rfl rfl (R4.out.put7 pg0)) rfl ⟨rfl, PgAt.put7_below HBV.out (Nat.le_refl _) _ _ _ _ _ _ _⟩
end Go.Proofs.Ytfpfcmgcfbkolaa
