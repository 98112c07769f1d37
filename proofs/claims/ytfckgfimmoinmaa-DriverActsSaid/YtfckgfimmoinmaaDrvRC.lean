/- The document's driver: the contract of Read. | The document's driver: the contract of Read, where words are read. -/
import Derived.Test.YtfckgfimmoinmaaDrvRef6
import Derived.Test.YtfckgfimmoinmaaRep
import Derived.Test.YtfckgfimmoinmaaCfiRef6
namespace Go.Proofs.Ytfckgfimmoinmaa
open Go.RowKit Bm

/-- The document's driver behind Read, the words, and a number. -/
def ReadOut (r : Rh) (x : DrvM × List (BitVec 32) × Int) (w : World) (e : Ending) (w' : World) : Prop :=
  ∃ A cap, e = .returned (.tuple #[rdVal r x.1.f x.1.t, .slice A x.2.1.length cap, .int .i64 x.2.2]) ∧ ReadsU w' A x.2.1.length cap x.2.1 ∧ RefAt w' r x.1.f.chip ∧ Below w.heap.size w w' ∧ (∀ a, A = some a → w.heap.size ≤ a.block)
theorem reads_none (w : World) (A : Option Addr) : ReadsU w A 0 0 [] := ⟨rfl, Nat.le_refl _, by unfold maxLen; omega, fun h => absurd h (by omega)⟩
theorem readOut_none {r : Rh} {f : FlashM} {t n : Int} {x : DrvM × List (BitVec 32) × Int} {w w' : World} (e : x = (⟨f, t⟩, [], n)) (hc : RefAt w' r f.chip) (hb : Below w.heap.size w w') : ReadOut r x w (.returned (.tuple #[.agg (rdCells r f t).toArray, .slice none 0 0, .int .i64 n])) w' := by
  subst e
  exact ⟨none, 0, rfl, reads_none _ _, hc, hb, fun a e => by cases e⟩
theorem rd_res3 {fn : Func} {p q s : Tmp} (h : fn.results = #[.cell p 41, .tmp q, .tmp s]) (tmps : Array Value) {w : World} {g : Nat} {cs : List Value} {v u : Value} (hp : tmps.getD p undef = .pointer (some ⟨g, 0, none⟩)) (hq : tmps.getD q undef = v) (hs : tmps.getD s undef = u) (hA : At w g 41 cs) (hn : cs.length = 78) :
    (results fn tmps).run Try.prog w = .ok (.tuple #[.agg cs.toArray, v, u]) w := by
  have hp' : tmps[p]?.getD undef = .pointer (some ⟨g, 0, none⟩) := by simpa using hp
  have hq' : tmps[q]?.getD undef = v := by simpa using hq
  have hs' : tmps[s]?.getD undef = u := by simpa using hs
  simp [results, h, hp', hq', hs', asAddr, run_loadVar_row (P := Try.prog) w g 41 41 cs.toArray (0, 0) _ hA Try.underlying41 rfl (by rw [rd_size]; simp [hn])]
theorem take_more {ws : List (BitVec 32)} {a j : Nat} (h : a + j < ws.length) : (ws.drop a).take (j + 1) = (ws.drop a).take j ++ [wd ws (a + j)] := by
  rw [List.take_add_one, List.getElem?_drop, List.getElem?_eq_getElem h]
  unfold wd
  rw [List.getD_eq_getElem?_getD, List.getElem?_eq_getElem h]
  rfl
theorem Pair.grown {T : TypeId} {w w1 w2 : World} {cs ds : List Value} (h : Pair T w cs ds w1) {row : Option Nat} (hg : w1.grownBy w2 row) (hr : ∀ k, row = some k → w.heap.size + 2 ≤ k) : Pair T w cs ds w2 := by
  have t : Turned (fun i => w.heap.size + 2 ≤ i) w1 w2 := (Turned.refl _ w1).grown hg (fun k hk _ => hr k hk)
  exact ⟨h.a.kept t (by simp), h.b.kept t (by simp), h.below.trans (t.below (fun i (hi : w.heap.size + 2 ≤ i) => by omega) (by have := h.size; omega)), Nat.le_trans h.size t.size⟩
theorem RefAt.grown {w w1 w2 : World} {r : Rh} {c : ChipM} (h : RefAt w1 r c) {row : Option Nat} (hg : w1.grownBy w2 row) (hr : ∀ k, row = some k → w.heap.size + 2 ≤ k) (h1 : r.gw < w.heap.size) (h2 : r.ge < w.heap.size) : RefAt w2 r c :=
  h.kept ((Turned.refl (fun i => w.heap.size + 2 ≤ i) w1).grown hg (fun k hk _ => hr k hk)) (by omega) (by omega)

set_option maxRecDepth 100000 in
set_option maxHeartbeats 4000000 in
theorem rread5_none (r : Rh) (m : FlashM) (t : Int) (k : Nat) (a many : Int) (w : World) (h : DrvOk k ⟨m, t⟩) (hc : RefAt w r m.chip) (hm : many < 0 ∨ 64 < many ∨ many = 0 ∨ fRefuse m a ≠ 0) :
    Calls Try.prog 18 #[rdVal r m t, .int .i64 a, .int .i64 many] w (ReadOut r (dRead ⟨m, t⟩ a many) w) := by
  have hz := rf_zero
  have hz2 := rd_zero
  have P0 := Lib.hid (Pair.start 41 w (rdCells r m t) rdZero)
  have C0 := Lib.hid (hc.below (below_two w (.cells (rdCells r m t).toArray 41) (.cells rdZero.toArray 41)))
  clear hc
  change Calls _ _ #[.agg (rdCells r m t).toArray, _, _] _ _
  by_cases h1 : many < 0
  · have E : Hid (dRead ⟨m, t⟩ a many = (⟨m, t⟩, [], 2)) := Lib.hid (if_pos (.inl h1))
    clear hm h
    go_enter Try.func18, Try.ntmps18
    go_wp2_with (first
      | ((refine wpList_ldh (ty := 41) (xs := rdCells r m t) (post := []) _ rfl (by rfl) (by rfl) Try.underlying41 rfl rd_size P0.out.a (List.append_nil _).symm (rd_len _ _ _) ?_))
      | ((refine wpList_sth (ty := 41) (xs := rdZero) (ys := rdCells r m t) (post := []) _ _ rfl (by rfl) (by rfl) (by rfl) rd_size P0.out.b (List.append_nil _).symm rdZero_len (rd_len _ _ _) (rd_one _ _ _) ?_); intro w8 A8 T8; have P8 := Lib.hid (P0.out.stb (ds' := rdCells r m t) (by simpa using A8) T8); have C8 := Lib.hid (C0.out.otherT P0.out.b (by decide) (by decide) T8); clear A8 T8))
    exact bodyPost_ret (rd_res3 Try.results18 _ rfl rfl rfl P8.out.b (rd_len _ _ _)) rfl (readOut_none E.out C8.out P8.out.below)
  by_cases h2 : 64 < many
  · have E : Hid (dRead ⟨m, t⟩ a many = (⟨m, t⟩, [], 2)) := Lib.hid (if_pos (.inr h2))
    clear hm h
    go_enter Try.func18, Try.ntmps18
    go_wp2_with (first
      | ((refine wpList_ldh (ty := 41) (xs := rdCells r m t) (post := []) _ rfl (by rfl) (by rfl) Try.underlying41 rfl rd_size P0.out.a (List.append_nil _).symm (rd_len _ _ _) ?_))
      | ((refine wpList_sth (ty := 41) (xs := rdZero) (ys := rdCells r m t) (post := []) _ _ rfl (by rfl) (by rfl) (by rfl) rd_size P0.out.b (List.append_nil _).symm rdZero_len (rd_len _ _ _) (rd_one _ _ _) ?_); intro w8 A8 T8; have P8 := Lib.hid (P0.out.stb (ds' := rdCells r m t) (by simpa using A8) T8); have C8 := Lib.hid (C0.out.otherT P0.out.b (by decide) (by decide) T8); clear A8 T8))
    exact bodyPost_ret (rd_res3 Try.results18 _ rfl rfl rfl P8.out.b (rd_len _ _ _)) rfl (readOut_none E.out C8.out P8.out.below)
  have hno : ¬ (many < 0 ∨ 64 < many) := by omega
  by_cases h3 : many = 0
  · have E : Hid (dRead ⟨m, t⟩ a many = (⟨m, t⟩, [], 0)) := Lib.hid (by unfold dRead; rw [if_neg hno, if_pos h3])
    subst h3
    clear hm h
    go_enter Try.func18, Try.ntmps18
    go_wp2_with (first
      | ((refine wpList_ldh (ty := 41) (xs := rdCells r m t) (post := []) _ rfl (by rfl) (by rfl) Try.underlying41 rfl rd_size P0.out.a (List.append_nil _).symm (rd_len _ _ _) ?_))
      | ((refine wpList_sth (ty := 41) (xs := rdZero) (ys := rdCells r m t) (post := []) _ _ rfl (by rfl) (by rfl) (by rfl) rd_size P0.out.b (List.append_nil _).symm rdZero_len (rd_len _ _ _) (rd_one _ _ _) ?_); intro w8 A8 T8; have P8 := Lib.hid (P0.out.stb (ds' := rdCells r m t) (by simpa using A8) T8); have C8 := Lib.hid (C0.out.otherT P0.out.b (by decide) (by decide) T8); clear A8 T8))
    exact bodyPost_ret (rd_res3 Try.results18 _ rfl rfl rfl P8.out.b (rd_len _ _ _)) rfl (readOut_none E.out C8.out P8.out.below)
  have hrf : fRefuse m a ≠ 0 := by
    rcases hm with e | e | e | e
    · exact absurd e h1
    · exact absurd e h2
    · exact absurd e h3
    · exact e
  have E : Hid (dRead ⟨m, t⟩ a many = (⟨m, t⟩, [], fRefuse m a)) := Lib.hid (by unfold dRead; rw [if_neg hno, if_neg h3, if_neg hrf])
  have cl := fun W g (hr : ReadsU W (some ⟨g, 0, none⟩) 1 1 [255#32]) => rwrites_any r m t k a (some ⟨g, 0, none⟩) 1 1 [255#32] W h.ok hr (by omega)
  rw [read_writes h.calm a, if_neg hrf] at cl
  obtain ⟨q, hq⟩ : ∃ q, q = fRefuse m a := ⟨_, rfl⟩
  have hx1 : (fRefuse m a != 0) = true := by simpa using hrf
  rw [← hq] at cl E hx1
  have CL := Lib.hid cl
  have h3' : (many == 0) = false := by rw [beq_eq_false_iff_ne]; exact h3
  obtain ⟨V, hV⟩ : ∃ V, V = (w.alloc (.cells (rdCells r m t).toArray 41)).alloc (.cells rdZero.toArray 41) := ⟨_, rfl⟩
  rw [← hV] at P0 C0
  have HV := Lib.hid hV
  clear cl hrf hq hm h hno h3 hV
  go_enter Try.func18, Try.ntmps18
  go_upto_region 5 with fail
  change Code.wp _ _ _ _ ((w.alloc (.cells (rdCells r m t).toArray 41)).alloc (.cells rdZero.toArray 41))
  rw [← HV.out]
  go_wp2_with (first
    | ((refine wpList_ldh (ty := 41) (xs := rdCells r m t) (post := []) _ rfl (by rfl) (by rfl) Try.underlying41 rfl rd_size P0.out.a (List.append_nil _).symm (rd_len _ _ _) ?_))
    | (go_at_call 44; (refine (CL.out _ _ (reads_one V 255#32)).mono ?_); rintro e w3 ⟨rfl, hb⟩; simp only [rdVal]; have P3 := Lib.hid ((P0.out.alloc (.cells #[.int .u32 (U 255#32)] 33)).call hb); have C3 := Lib.hid ((C0.out.below ((Below.refl _ V).alloc (Nat.le_refl _) (.cells #[.int .u32 (U 255#32)] 33))).below hb); clear hb)
    | ((refine wpList_sth (ty := 41) (xs := rdCells r m t) (ys := rdCells r m t) (post := []) _ _ rfl (by rfl) (by rfl) (by rfl) rd_size P3.out.a (List.append_nil _).symm (rd_len _ _ _) (rd_len _ _ _) (rd_one _ _ _) ?_); intro w4 A4 T4; have P4 := Lib.hid (P3.out.sta (cs' := rdCells r m t) (by simpa using A4) T4); have C4 := Lib.hid (C3.out.otherT P3.out.a (by decide) (by decide) T4); clear A4 T4)
    | ((refine wpList_ldh (ty := 41) (xs := rdCells r m t) (post := []) _ rfl (by rfl) (by rfl) Try.underlying41 rfl rd_size P4.out.a (List.append_nil _).symm (rd_len _ _ _) ?_))
    | ((refine wpList_sth (ty := 41) (xs := rdZero) (ys := rdCells r m t) (post := []) _ _ rfl (by rfl) (by rfl) (by rfl) rd_size P4.out.b (List.append_nil _).symm rdZero_len (rd_len _ _ _) (rd_one _ _ _) ?_); intro w8 A8 T8; have P8 := Lib.hid (P4.out.stb (ds' := rdCells r m t) (by simpa using A8) T8); have C8 := Lib.hid (C4.out.otherT P4.out.b (by decide) (by decide) T8); clear A8 T8))
  exact bodyPost_ret (rd_res3 Try.results18 _ rfl rfl rfl P8.out.b (rd_len _ _ _)) rfl (readOut_none E.out C8.out P8.out.below)
end Go.Proofs.Ytfckgfimmoinmaa

namespace Go.Proofs.Ytfckgfimmoinmaa
open Go.RowKit Bm

theorem grown_of {w w' : World} (hb : Below w.heap.size w w') : w.grownBy w' none := ⟨hb.os, hb.tape, hb.output, hb.size, fun k hk _ => hb.block k hk⟩
theorem own_nil (W : World) (base : Nat) : W.ownsRow base 33 1 (.slice none 0 0) 0 (Us []) := World.ownsRow_nil W base 33 1

set_option maxRecDepth 100000 in
set_option maxHeartbeats 4000000 in
theorem rread5_some (r : Rh) (m : FlashM) (t : Int) (k : Nat) (i N : Nat) (w : World) (h : DrvOk k ⟨m, t⟩) (hc : RefAt w r m.chip) (hN0 : 1 ≤ N) (hN : N ≤ 64) (hi : i < m.chip.ws.length) (hu : m.chip.up = true) :
    Calls Try.prog 18 #[rdVal r m t, .int .i64 (i : Int), .int .i64 (N : Int)] w (ReadOut r (dRead ⟨m, t⟩ i N) w) := by
  have hz := rf_zero
  have hz2 := rd_zero
  obtain ⟨i0, hin, hz0, hz1, hzz⟩ := info_parts infoU
  have hlen : m.chip.ws.length ≤ 4096 := by
    have a : m.chip.ws.length = k * 64 := h.ok.chip.words
    have b := h.ok.chip.k2
    omega
  have hrf : fRefuse m i = 0 := fRefuse_on hu i (by omega) (by omega)
  have E : Hid (dRead ⟨m, t⟩ i N = if (i : Int) + N ≤ m.chip.ws.length then (⟨{ m with mode := 0 }, t⟩, (m.chip.ws.drop i).take N, 0) else (⟨{ m with mode := 0 }, t⟩, [], 3)) := Lib.hid (by
    unfold dRead
    rw [if_neg (by omega), if_neg (by omega), if_pos hrf]
    rfl)
  have cl := fun W g (hr : ReadsU W (some ⟨g, 0, none⟩) 1 1 [255#32]) => rwrites_any r m t k i (some ⟨g, 0, none⟩) 1 1 [255#32] W h.ok hr (by omega)
  rw [read_writes h.calm i, if_pos hrf] at cl
  have mok := h.ok.calmMode h.calm 0 (by simp)
  have rw0 := fun (a : Int) (h0 : 0 ≤ a) => read_word (m := m) hu a h0
  obtain ⟨m1, hm1⟩ : ∃ m1, m1 = ({ m with mode := 0 } : FlashM) := ⟨_, rfl⟩
  have hc1 : m1.chip = m.chip := by rw [hm1]
  rw [← hm1] at cl mok rw0 E
  have RW0 := Lib.hid rw0
  have CL := Lib.hid cl
  have MOK := Lib.hid mok
  have HC1 := Lib.hid hc1
  have hg1 := hc.words.lt
  have hg2 := hc.wear.lt
  obtain ⟨V, hV⟩ : ∃ V, V = (w.alloc (.cells (rdCells r m t).toArray 41)).alloc (.cells rdZero.toArray 41) := ⟨_, rfl⟩
  have P0 : Hid (Pair 41 w (rdCells r m t) rdZero V) := Lib.hid (by rw [hV]; exact Pair.start 41 w (rdCells r m t) rdZero)
  have C0 : Hid (RefAt V r m1.chip) := Lib.hid (by rw [hV, hc1]; exact hc.below (below_two w _ _))
  have HV := Lib.hid hV
  clear cl mok rw0 hm1 hc1 hrf h hc hu hV
  have n0 : ¬ ((N : Int) < 0) := by omega
  have n1 : ¬ (64 : Int) < (N : Int) := by omega
  have n2 : ((N : Int) == 0) = false := by rw [beq_eq_false_iff_ne]; omega
  change Calls _ _ #[.agg (rdCells r m t).toArray, _, _] _ _
  go_enter Try.func18, Try.ntmps18
  go_upto_region 5 with fail
  change Code.wp _ _ _ _ ((w.alloc (.cells (rdCells r m t).toArray 41)).alloc (.cells rdZero.toArray 41))
  rw [← HV.out]
  go_wp2_with (first
    | ((refine wpList_ldh (ty := 41) (xs := rdCells r m t) (post := []) _ rfl (by rfl) (by rfl) Try.underlying41 rfl rd_size P0.out.a (List.append_nil _).symm (rd_len _ _ _) ?_))
    | (go_at_call 44; (refine (CL.out _ _ (reads_one V 255#32)).mono ?_); rintro e w3 ⟨rfl, hb⟩; simp only [rdVal]; have P3 := Lib.hid ((P0.out.alloc (.cells #[.int .u32 (U 255#32)] 33)).call hb); have C3 := Lib.hid ((C0.out.below ((Below.refl _ V).alloc (Nat.le_refl _) (.cells #[.int .u32 (U 255#32)] 33))).below hb); clear hb)
    | ((refine wpList_sth (ty := 41) (xs := rdCells r m t) (ys := rdCells r m1 t) (post := []) _ _ rfl (by rfl) (by rfl) (by rfl) rd_size P3.out.a (List.append_nil _).symm (rd_len _ _ _) (rd_len _ _ _) (rd_one _ _ _) ?_); intro w4 A4 T4; have P4 := Lib.hid (P3.out.sta (cs' := rdCells r m1 t) (by simpa using A4) T4); have C4 := Lib.hid (C3.out.otherT P3.out.a (by decide) (by decide) T4); clear A4 T4))
  have O4 := Lib.hid (own_nil w4 (w.heap.size + 2))
  go_loopw [10, 11] (fun s i' wr => ∃ (j : Nat) (A : Option Addr) (cap : Nat), j ≤ N ∧ i' = .int .i64 j ∧ s = .slice A j cap ∧ (0 < j → ∃ g, A = some ⟨g, 0, none⟩) ∧ i + j ≤ m.chip.ws.length ∧ Pair 41 w (rdCells r m1 t) rdZero wr ∧ RefAt wr r m1.chip ∧ wr.ownsRow (w.heap.size + 2) 33 1 s j (Us ((m.chip.ws.drop i).take j))) (fun _ i' _ => N - (intOf i').toNat)
  case atStart => exact ⟨0, none, 0, by omega, rfl, rfl, fun h => absurd h (by omega), by omega, P4.out, C4.out, O4.out⟩
  case round =>
    clear P4 C4 O4 P3 C3 P0 C0 HV
    obtain ⟨j, A, cap, hj, rfl, rfl, hA, hij, P, C, O⟩ := hrel
    have PP := Lib.hid P
    have CC := Lib.hid C
    have OO := Lib.hid O
    have HA := Lib.hid hA
    clear P C O hA
    by_cases hlt : j < N
    · have j1 : (j : Int) < (N : Int) := by omega
      have wr0 : IntKind.i64.wrap ((i : Int) + (j : Int)) = (i : Int) + (j : Int) := by rw [IntKind.wrap_i64]; omega
      have rd := fun W hW => fref_read r m1 k ((i : Int) + (j : Int)) W MOK.out hW
      rw [RW0.out _ (by omega)] at rd
      by_cases hin2 : i + j < m.chip.ws.length
      · rw [if_pos (by omega), show ((i : Int) + (j : Int)).toNat = i + j by omega] at rd
        have RD := Lib.hid rd
        have TK := Lib.hid (take_more hin2)
        obtain ⟨x, hx⟩ : ∃ x, x = wd m.chip.ws (i + j) := ⟨_, rfl⟩
        rw [← hx] at RD TK
        clear rd hx
        go_wp2_with (first
          | ((refine wpList_ldh (ty := 39) (xs := rfCells r m1) (post := [.int .i64 t]) _ rfl (by rfl) (by rfl) Try.underlying39 rfl rf_size PP.out.a rfl (rf_len _ _) ?_))
          | (go_at_call 47; (refine (RD.out _ CC.out).mono ?_); rintro e w5 ⟨rfl, hb⟩; have P5 := Lib.hid (PP.out.call hb); have C5 := Lib.hid (CC.out.below hb); have HB5 := Lib.hid hb; clear hb)
          | (at_builtin; refine wpList_append_lies _ rfl (.tmp 53) (.tmp 55) _ rfl (w.heap.size + 2) 33 i0 _ 1 4 Try.underlying31 hin hz0 hz1 hzz rfl (by omega) (.slice A j cap) j (Us ((m.chip.ws.drop i).take j)) rfl ?own ⟨w5.heap.size, 0, none⟩ 1 1 (Us [x]) rfl rfl ?news (Us_one _) (by omega) (by unfold maxLen; omega) (by omega) (by have := P5.out.size; simp; omega) _ rfl ?k))
        case own => exact (OO.out.kept (grown_of HB5.out) (by cases (Value.slice A j cap).ownBlock <;> simp)).alloc _
        case news =>
          intro b u hb
          rw [add_zero_block]
          exact ((At.news w5 33 (Us [x])).cell b).trans hb
        case k =>
          intro g cap' w6 hown hgr hat hlt6
          have hv : ∀ q, (Value.slice A j cap).ownBlock = some q → w.heap.size + 2 ≤ q := fun q hq => (OO.out.lt q hq).1
          have P6 := Lib.hid ((P5.out.alloc _).grown hgr hv)
          have C6 := Lib.hid ((C5.out.below ((Below.refl _ w5).alloc (Nat.le_refl _) (.cells #[.int .u32 (U x)] 33))).grown hgr hv hg1 hg2)
          have O6 : Hid (w6.ownsRow (w.heap.size + 2) 33 1 (.slice (some ⟨g, 0, none⟩) (j + 1) cap') (j + 1) (Us ((m.chip.ws.drop i).take (j + 1)))) := Lib.hid (by rw [TK.out, Us_append]; exact hown)
          clear hown hgr hat hlt6 hv
          go_wp2
          go_roundw
          case rel => exact ⟨j + 1, some ⟨g, 0, none⟩, cap', by omega, by go_num, rfl, fun _ => ⟨g, rfl⟩, by omega, P6.out, C6.out, O6.out⟩
          case measure => simp [intOf]; omega
      · rw [if_neg (by omega)] at rd
        have RD := Lib.hid rd
        have E2 := E.out
        rw [if_neg (by omega)] at E2
        have E3 := Lib.hid E2
        clear rd E2
        go_wp2_with (first
          | ((refine wpList_ldh (ty := 39) (xs := rfCells r m1) (post := [.int .i64 t]) _ rfl (by rfl) (by rfl) Try.underlying39 rfl rf_size PP.out.a rfl (rf_len _ _) ?_))
          | (go_at_call 47; (refine (RD.out _ CC.out).mono ?_); rintro e w5 ⟨rfl, hb⟩; have P5 := Lib.hid (PP.out.call hb); have C5 := Lib.hid (CC.out.below hb); clear hb)
          | ((refine wpList_ldh (ty := 41) (xs := rdCells r m1 t) (post := []) _ rfl (by rfl) (by rfl) Try.underlying41 rfl rd_size P5.out.a (List.append_nil _).symm (rd_len _ _ _) ?_))
          | ((refine wpList_sth (ty := 41) (xs := rdZero) (ys := rdCells r m1 t) (post := []) _ _ rfl (by rfl) (by rfl) (by rfl) rd_size P5.out.b (List.append_nil _).symm rdZero_len (rd_len _ _ _) (rd_one _ _ _) ?_); intro w8 A8 T8; have P8 := Lib.hid (P5.out.stb (ds' := rdCells r m1 t) (by simpa using A8) T8); have C8 := Lib.hid (C5.out.otherT P5.out.b (by decide) (by decide) T8); clear A8 T8))
        exact bodyPost_ret (rd_res3 Try.results18 _ rfl rfl rfl P8.out.b (rd_len _ _ _)) rfl (readOut_none E3.out C8.out P8.out.below)
    · obtain rfl : j = N := by omega
      have E2 := E.out
      rw [if_pos (by omega)] at E2
      have E3 := Lib.hid E2
      obtain ⟨g, rfl⟩ := HA.out (by omega)
      clear E2
      go_wp2_with (first
        | ((refine wpList_ldh (ty := 41) (xs := rdCells r m1 t) (post := []) _ rfl (by rfl) (by rfl) Try.underlying41 rfl rd_size PP.out.a (List.append_nil _).symm (rd_len _ _ _) ?_))
        | ((refine wpList_sth (ty := 41) (xs := rdZero) (ys := rdCells r m1 t) (post := []) _ _ rfl (by rfl) (by rfl) (by rfl) rd_size PP.out.b (List.append_nil _).symm rdZero_len (rd_len _ _ _) (rd_one _ _ _) ?_); intro w8 A8 T8; have P8 := Lib.hid (PP.out.stb (ds' := rdCells r m1 t) (by simpa using A8) T8); have C8 := Lib.hid (CC.out.otherT PP.out.b (by decide) (by decide) T8); have T8' := Lib.hid T8; clear A8 T8))
      obtain ⟨rest, hA, hAl, hAm, hAb, hAn⟩ := At.of_own OO.out (by omega)
      have hA8 := hA.kept T8'.out (by unfold Just; omega)
      have hl8 : ((m.chip.ws.drop i).take j).length = j := by rw [Us_length] at hAn; exact hAn
      refine bodyPost_ret (rd_res3 Try.results18 _ rfl rfl rfl P8.out.b (rd_len _ _ _)) rfl ?_
      rw [E3.out]
      refine ⟨some ⟨g, 0, none⟩, cap, ?_, ReadsU.of_at hA8 hAl hAm, C8.out, P8.out.below, fun a e => by
        injection e with e
        rw [← e]
        exact Nat.le_trans (Nat.le_add_right _ 2) hAb⟩
      show _ = Ending.returned (.tuple #[_, .slice _ ((m.chip.ws.drop i).take j).length _, _])
      rw [hl8]
      rfl

theorem rread5_any (r : Rh) (m : FlashM) (t : Int) (k : Nat) (a many : Int) (w : World) (h : DrvOk k ⟨m, t⟩) (hc : RefAt w r m.chip) :
    Calls Try.prog 18 #[rdVal r m t, .int .i64 a, .int .i64 many] w (ReadOut r (dRead ⟨m, t⟩ a many) w) := by
  by_cases hm : many < 0 ∨ 64 < many ∨ many = 0 ∨ fRefuse m a ≠ 0
  · exact rread5_none r m t k a many w h hc hm
  · have hrf : fRefuse m a = 0 := Classical.not_not.1 fun e => hm (.inr (.inr (.inr e)))
    obtain ⟨hu, h0, h1⟩ := fRefuse_zero hrf
    obtain ⟨i, rfl⟩ := Int.eq_ofNat_of_zero_le h0
    obtain ⟨N, rfl⟩ := Int.eq_ofNat_of_zero_le (show 0 ≤ many by omega)
    exact rread5_some r m t k i N w h hc (by omega) (by omega) (by omega) hu
end Go.Proofs.Ytfckgfimmoinmaa
