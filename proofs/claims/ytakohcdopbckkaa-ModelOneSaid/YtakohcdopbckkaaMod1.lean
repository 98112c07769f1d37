/- The permitted states of sectors, as plain data (layer model); contracts of the program's five functions and their helpers. -/
import Derived.Test.YtakohcdopbckkaaKd
import Derived.Laws.StructEq
import Derived.Lib.SliceRun
import Derived.BigRegion
import Derived.BigQuiet
import Derived.Deep.QuietTactic
import Derived.Deep.DeepCutAuto
import Derived.Deep.LoopGhost
import Derived.Deep.Light
namespace Go.Proofs.Ytakohcdopbckkaa
open Go.RowKit Bm

/-- What a sector has: four words. -/
structure V4 where
  a : BitVec 32
  b : BitVec 32
  c : BitVec 32
  d : BitVec 32
  deriving DecidableEq, Inhabited
def v4C (v : V4) : List Value := [.int .u32 (U v.a), .int .u32 (U v.b), .int .u32 (U v.c), .int .u32 (U v.d)]
def v40 : V4 := ⟨0#32, 0#32, 0#32, 0#32⟩
theorem v4_one (v : V4) : ∀ u ∈ v4C v, u.oneCell' = true := by
  intro u hu
  simp only [v4C, List.mem_cons, List.not_mem_nil, or_false] at hu
  rcases hu with rfl | rfl | rfl | rfl <;> rfl
def v4K : Kd V4 := ⟨v4C, 4, v40, fun _ => rfl, v4_one, by decide⟩
theorem v4_len (v : V4) : (v4C v).length = 4 := rfl
theorem v4_ext {x y : V4} (h0 : x.a = y.a) (h1 : x.b = y.b) (h2 : x.c = y.c) (h3 : x.d = y.d) : x = y := by
  cases x; cases y; simp_all
def vN (l : List V4) (i : Nat) : V4 := v4K.nth l i

/-- A state: what sectors have, and what one may have instead. -/
structure StM where
  sure : List V4
  go : Bool
  at_ : Int
  next : V4
  deriving DecidableEq, Inhabited
def stC (sl : Value) (s : StM) : List Value := [sl, .bool s.go, .int .i64 s.at_, .int .u32 (U s.next.a), .int .u32 (U s.next.b), .int .u32 (U s.next.c), .int .u32 (U s.next.d)]
theorem stC_len (sl : Value) (s : StM) : (stC sl s).length = 7 := rfl
theorem stC_one {A : Option Addr} {n c : Nat} (s : StM) : ∀ u ∈ stC (.slice A n c) s, u.oneCell' = true := by
  intro u hu
  simp only [stC, List.mem_cons, List.not_mem_nil, or_false] at hu
  rcases hu with rfl | rfl | rfl | rfl | rfl | rfl | rfl <;> rfl
def st0 : StM := ⟨[], false, 0, v40⟩
def calmS (l : List V4) : StM := ⟨l, false, 0, v40⟩
def isAt (s : StM) (i : Int) : Prop := 0 ≤ i ∧ i < s.sure.length
instance (s : StM) (i : Int) : Decidable (isAt s i) := inferInstanceAs (Decidable (_ ∧ _))
def sNew (n : Int) : StM := calmS (List.replicate (min (max n 0) 1000).toNat v40)
def sDone (s : StM) (i : Int) (v : V4) : StM := if isAt s i then calmS (s.sure.set i.toNat v) else s
def sBegun (s : StM) (i : Int) (v : V4) : StM := if isAt s i then ⟨s.sure, true, i, v⟩ else s
def okAt (s : StM) (l : List V4) (i : Nat) : Prop := vN l i = vN s.sure i ∨ (s.go = true ∧ (i : Int) = s.at_ ∧ vN l i = s.next)
instance (s : StM) (l : List V4) (i : Nat) : Decidable (okAt s l i) := inferInstanceAs (Decidable (_ ∨ _))
def sMay (s : StM) (l : List V4) : Prop := l.length = s.sure.length ∧ ∀ i, i < l.length → okAt s l i
instance (s : StM) (l : List V4) : Decidable (sMay s l) := inferInstanceAs (Decidable (_ ∧ ∀ i, i < l.length → _))
def sSeen (s : StM) (l : List V4) : StM := if sMay s l then calmS l else s

abbrev TV : TypeId := 24
abbrev TL : TypeId := 22
theorem v4_size : (Try.prog.info? 24).map (·.size) = some 4 := by kernel_rfl
theorem v4_infoA : (Try.prog.info? 24).map (fun i => (i.zero, i.size, i.bytes)) = some (some (.agg (v4C v40).toArray), 4, 16) := by kernel_rfl
theorem v4_infoZ : (Try.prog.info? 24).map (fun i => (i.zero, i.size)) = some (some (.agg (v4C v40).toArray), 4) := by kernel_rfl
theorem v4_zero (w : World) : (zeroValue 24).run Try.prog w = .ok (.agg (v4C v40).toArray) w := (zero_of_info v4_infoZ).1 w
theorem st_size : (Try.prog.info? 28).map (·.size) = some 7 := by kernel_rfl
theorem st_infoZ : (Try.prog.info? 28).map (fun i => (i.zero, i.size)) = some (some (.agg (stC (.slice none 0 0) st0).toArray), 7) := by kernel_rfl
theorem st_zero (w : World) : (zeroValue 28).run Try.prog w = .ok (.agg (stC (.slice none 0 0) st0).toArray) w := (zero_of_info st_infoZ).1 w

/-- What a call hands back: this state, its row its own. -/
def Ours (s : StM) (w : World) (e : Ending) (w' : World) : Prop :=
  ∃ B cap, e = .returned (.agg (stC (.slice B s.sure.length cap) s).toArray) ∧ w'.ownsRow w.heap.size 24 4 (.slice B s.sure.length cap) s.sure.length (v4K.all s.sure) ∧ Below w.heap.size w w'

set_option maxRecDepth 100000 in
set_option maxHeartbeats 1000000 in
theorem clone4_any (A : Option Addr) (n c : Nat) (xs : List V4) (w : World) (hR : v4K.Reads w A n c xs) (hn : n ≤ 50000) :
    Calls Try.prog 23 #[.slice A n c] w fun e w' => ∃ B cap, e = .returned (.slice B n cap) ∧ w'.ownsRow w.heap.size 24 4 (.slice B n cap) n (v4K.all xs) ∧ Below w.heap.size w w' := by
  obtain ⟨i0, hin, hz0, hz1, hz2⟩ := info_parts v4_infoA
  have qe : ∀ W : World, (binOp .eql 22 (.slice A n c) (.slice none 0 0)).run Try.prog W = .ok (.bool A.isNone) W := fun W => Lib.run_eql_slice_nil W _ _ _ _ _ _ _ Try.underlying22
  have HR := Lib.hid hR
  clear hR
  cases A with
  | none =>
    have n0 : n = 0 := by
      rcases Nat.eq_zero_or_pos n with e | e
      · exact e
      · obtain ⟨g, off, e', _⟩ := HR.out.cell e
        cases e'
    subst n0
    have hx : xs = [] := List.eq_nil_of_length_eq_zero HR.out.len
    subst hx
    have qe' : ∀ W : World, (binOp .eql 22 (.slice none 0 c) (.slice none 0 0)).run Try.prog W = .ok (.bool true) W := qe
    clear qe
    go_enter Try.func23, Try.ntmps23
    go_wp2
    go_ret
    exact ⟨none, 0, rfl, World.ownsRow_nil _ _ _ _, Below.refl _ _⟩
  | some ad =>
    have qe' : ∀ W : World, (binOp .eql 22 (.slice (some ad) n c) (.slice none 0 0)).run Try.prog W = .ok (.bool false) W := qe
    clear qe
    go_enter Try.func23, Try.ntmps23
    go_wp2_with (at_builtin; refine halt_here ?_)
    refine Lib.hid ?_
    have hE : At (w.alloc (.cells #[] 24)) w.heap.size 24 ([] ++ []) := At.news w _ _
    have hb0 : Below w.heap.size w (w.alloc (.cells #[] 24)) := (Below.refl _ w).alloc (Nat.le_refl _) _
    refine wpList_join (K := v4K) (base := w.heap.size) (xs := []) (ys := xs) (.tmp 5) (.tmp 6) rfl rfl Try.underlying22 hin hz0 hz1 hz2 (by rfl) (by omega) (v := .slice (some ⟨w.heap.size, 0, none⟩) 0 0) (by rfl) (own_of_at (xs := v4K.all []) (rest := []) hE (Nat.le_refl _) rfl rfl (Nat.le_refl _) (Nat.zero_le _)) (by rfl) (HR.out.kept hb0) (by simp; omega) (by simp) ?_
    intro B cap w' h1 h2 h3
    have e : ([] : List V4).length + n = n := Nat.zero_add n
    rw [e, List.nil_append] at h1
    rw [e]
    have H1 := Lib.hid h1
    have H2 := Lib.hid (hb0.trans h2)
    clear h1 h2 h3 hE hb0 e
    go_wp2
    go_ret
    exact ⟨B, cap, rfl, H1.out, H2.out⟩

set_option maxRecDepth 100000 in
set_option maxHeartbeats 1000000 in
theorem own4_any (A : Option Addr) (c : Nat) (s : StM) (w : World) (hR : v4K.Reads w A s.sure.length c s.sure) (hn : s.sure.length ≤ 50000) :
    Calls Try.prog 22 #[.agg (stC (.slice A s.sure.length c) s).toArray] w (Ours s w) := by
  obtain ⟨W0, hW0⟩ : ∃ W0, W0 = (w.alloc (.cells (stC (.slice A s.sure.length c) s).toArray 28)).alloc (.cells (stC (.slice none 0 0) st0).toArray 28) := ⟨_, rfl⟩
  have hz := st_zero
  have A0 : At W0 w.heap.size 28 (stC (.slice A s.sure.length c) s) := by rw [hW0]; exact (At.news w _ _).alloc _
  have A1 : At W0 (w.heap.size + 1) 28 (stC (.slice none 0 0) st0) := by rw [hW0]; exact At.alloc_new _ _ _ (by rw [World.size_alloc]) rfl
  have B0 : Below w.heap.size w W0 := by rw [hW0]; exact below_two w _ _
  have s0 : W0.heap.size = w.heap.size + 2 := by rw [hW0, World.size_alloc, World.size_alloc]
  have c0 : W0.cell? ⟨w.heap.size, 0, none⟩ = some (.slice A s.sure.length c) := A0.cell 0
  have HC := Lib.hid (clone4_any A s.sure.length c s.sure W0 (hR.kept B0) hn)
  have HA0 := Lib.hid A0
  have HA1 := Lib.hid A1
  have HB0 := Lib.hid B0
  have HS0 := Lib.hid s0
  clear A0 A1 B0 s0 hR
  go_enter Try.func22, Try.ntmps22
  go_upto_region 1 with (fail)
  change Code.wp _ _ _ _ ((w.alloc (.cells (stC (.slice A s.sure.length c) s).toArray 28)).alloc (.cells (stC (.slice none 0 0) st0).toArray 28))
  rw [← hW0]
  clear hW0
  go_wp2_with (first
    | (go_at_call 23; (with_reducible refine Calls.mono HC.out ?_); rintro e w1 ⟨B, cap, rfl, h1, h2⟩; have HO := Lib.hid h1; have HB := Lib.hid h2; have HA2 := Lib.hid (HA0.out.kept (Turned.of_below h2 (Nat.le_refl _) NoBlock) (fun h => h)); have HA3 := Lib.hid (HA1.out.kept (Turned.of_below h2 (Nat.le_refl _) NoBlock) (fun h => h)); have f0 := HA2.out.frozen 0; have g0 : w1.cell? ⟨w.heap.size, 0, none⟩ = some (.slice A s.sure.length c) := HA2.out.cell 0; clear h1 h2)
    | (refine wpList_ldr (xs := stC (.slice B s.sure.length cap) s) _ rfl rfl rfl Try.underlying28 rfl st_size (stC_len _ _) (HA2.out.put 0 (.slice B s.sure.length cap)).rng0 ?_)
    | (refine wpList_stm (pre := []) (post := []) (xs := stC (.slice none 0 0) st0) (ys := stC (.slice B s.sure.length cap) s) _ _ rfl rfl rfl rfl st_size (by rfl) (stC_len _ _) (stC_one _) rfl (by simp) (HA3.out.far (by simp) _) ?_; intro V A3 T3; rw [List.nil_append, List.append_nil] at A3; have HA4 := Lib.hid A3; have HT3 := Lib.hid T3; clear A3 T3))
  refine bodyPost_ret (res_cell Try.results22 _ Try.underlying28 rfl st_size rfl HA4.out (stC_len _ _)) rfl ⟨B, cap, rfl, ?_, ?_⟩
  · have h0 := HS0.out
    have t1 : Turned (Just w.heap.size) w1 (w1.setCell ⟨w.heap.size, 0, none⟩ (.slice B s.sure.length cap)) := turned_set _ _ _ _
    exact own_base (own_turned (own_turned HO.out t1 (fun i hi e => by unfold Just at e; omega)) HT3.out (fun i hi e => by unfold Just at e; omega)) (by omega)
  · have h0 := HS0.out
    have h1 := HB.out.size
    exact ((HB0.out.trans (HB.out.mono (by omega))).trans (below_set 0 (Nat.le_refl _) (by omega) _)).trans (below_just HT3.out (by omega) (by simp; omega))

/-! ### Done, Begun: whether an index is one of the state's -/
set_option maxRecDepth 100000 in
set_option maxHeartbeats 1000000 in
theorem has4_any (A : Option Addr) (c : Nat) (s : StM) (i : Int) (w : World) :
    Calls Try.prog 24 #[.agg (stC (.slice A s.sure.length c) s).toArray, .int .i64 i] w fun e w' => e = .returned (.bool (decide (isAt s i))) ∧ Below w.heap.size w w' := by
  have A0 : At (w.alloc (.cells (stC (.slice A s.sure.length c) s).toArray 28)) w.heap.size 28 (stC (.slice A s.sure.length c) s) := At.news w _ _
  have c0 : (w.alloc (.cells (stC (.slice A s.sure.length c) s).toArray 28)).cell? ⟨w.heap.size, 0, none⟩ = some (.slice A s.sure.length c) := A0.cell 0
  have B0 : Below w.heap.size w (w.alloc (.cells (stC (.slice A s.sure.length c) s).toArray 28)) := (Below.refl _ w).alloc (Nat.le_refl _) _
  have HB0 := Lib.hid B0
  clear A0 B0
  by_cases h0 : 0 ≤ i
  · have hd : decide (isAt s i) = decide (i < (s.sure.length : Int)) := by unfold isAt; simp [h0]
    have HD := Lib.hid hd
    clear hd
    go_enter Try.func24, Try.ntmps24
    go_wp2
    go_ret
    exact ⟨by rw [HD.out]; rfl, HB0.out⟩
  · have hd : decide (isAt s i) = false := by unfold isAt; simp [h0]
    have HD := Lib.hid hd
    clear hd
    have h0' : i < 0 := by omega
    go_enter Try.func24, Try.ntmps24
    go_wp2
    go_ret
    exact ⟨by rw [HD.out]; rfl, HB0.out⟩

theorem run_st (A : Option Addr) (n c : Nat) (w : World) : (Instr.build 28 #[(0, .slice A n c)]).run Try.prog w = .ok (.agg (stC (.slice A n c) st0).toArray) w := by kernel_rfl

/-- Three new variables: a state, a value, a state to hand back. -/
def W3 (w : World) (cs vs : List Value) : World := ((w.alloc (.cells cs.toArray 28)).alloc (.cells vs.toArray 24)).alloc (.cells (stC (.slice none 0 0) st0).toArray 28)
theorem W3_a (w : World) (cs vs : List Value) : At (W3 w cs vs) w.heap.size 28 cs := ((At.news w _ _).alloc _).alloc _
theorem W3_b (w : World) (cs vs : List Value) : At (W3 w cs vs) (w.heap.size + 1) 24 vs := (At.alloc_new _ _ _ (by rw [World.size_alloc]) rfl).alloc _
theorem W3_c (w : World) (cs vs : List Value) : At (W3 w cs vs) (w.heap.size + 2) 28 (stC (.slice none 0 0) st0) := At.alloc_new _ _ _ (by rw [World.size_alloc, World.size_alloc]) rfl
theorem W3_size (w : World) (cs vs : List Value) : (W3 w cs vs).heap.size = w.heap.size + 3 := by unfold W3; rw [World.size_alloc, World.size_alloc, World.size_alloc]
theorem W3_below (w : World) (cs vs : List Value) : Below w.heap.size w (W3 w cs vs) := (below_two w _ _).alloc (by rw [World.size_alloc, World.size_alloc]; omega) _

set_option maxRecDepth 100000 in
set_option maxHeartbeats 1000000 in
theorem done4_any (A : Option Addr) (c : Nat) (s : StM) (i : Int) (v : V4) (w : World) (hR : v4K.Reads w A s.sure.length c s.sure) (hn : s.sure.length ≤ 50000) :
    Calls Try.prog 13 #[.agg (stC (.slice A s.sure.length c) s).toArray, .int .i64 i, .agg (v4C v).toArray] w (Ours (sDone s i v) w) := by
  obtain ⟨W0, hW0⟩ : ∃ W0, W0 = W3 w (stC (.slice A s.sure.length c) s) (v4C v) := ⟨_, rfl⟩
  have hz := st_zero
  have A0 := W3_a w (stC (.slice A s.sure.length c) s) (v4C v)
  have A1 := W3_b w (stC (.slice A s.sure.length c) s) (v4C v)
  have A2 := W3_c w (stC (.slice A s.sure.length c) s) (v4C v)
  have B0 := W3_below w (stC (.slice A s.sure.length c) s) (v4C v)
  have s0 := W3_size w (stC (.slice A s.sure.length c) s) (v4C v)
  have hW1 := hW0
  unfold W3 at hW1
  rw [← hW0] at A0 A1 A2 B0 s0
  have HC := Lib.hid (own4_any A c s W0 (hR.kept B0) hn)
  have HA0 := Lib.hid A0
  have HA1 := Lib.hid A1
  have HA2 := Lib.hid A2
  have HB0 := Lib.hid B0
  have HS0 := Lib.hid s0
  have HN := Lib.hid hn
  clear A0 A1 A2 B0 s0 hR hW0 hn
  go_enter Try.func13, Try.ntmps13
  go_upto_region 1 with (fail)
  change Code.wp _ _ _ _ (((w.alloc (.cells (stC (.slice A s.sure.length c) s).toArray 28)).alloc (.cells (v4C v).toArray 24)).alloc (.cells (stC (.slice none 0 0) st0).toArray 28))
  rw [← hW1]
  clear hW1
  go_upto_region 2 with (first
    | (refine wpList_ldr (xs := stC (.slice A s.sure.length c) s) _ rfl rfl rfl Try.underlying28 rfl st_size (stC_len _ _) HA0.out.rng0 ?_)
    | (go_at_call 22; (with_reducible refine Calls.mono HC.out ?_); rintro e w1 ⟨B, cap, rfl, h1, h2⟩; have HO := Lib.hid h1; have HB := Lib.hid h2; have HA3 := Lib.hid (HA0.out.kept (Turned.of_below h2 (Nat.le_refl _) NoBlock) (fun h => h)); have HA4 := Lib.hid (HA1.out.kept (Turned.of_below h2 (Nat.le_refl _) NoBlock) (fun h => h)); have HA5 := Lib.hid (HA2.out.kept (Turned.of_below h2 (Nat.le_refl _) NoBlock) (fun h => h)); clear h1 h2)
    | (refine wpList_stm (pre := []) (post := []) (xs := stC (.slice A s.sure.length c) s) (ys := stC (.slice B s.sure.length cap) s) _ _ rfl rfl rfl rfl st_size (by rfl) (stC_len _ _) (stC_one _) rfl (by simp) HA3.out ?_; intro V A6 T6; rw [List.nil_append, List.append_nil] at A6; have HA6 := Lib.hid A6; have HT6 := Lib.hid T6; clear A6 T6))
  have h0 := HS0.out
  have h1 := HB.out.size
  have HV1 := Lib.hid (HA4.out.kept HT6.out (fun e => by unfold Just at e; omega))
  have HV2 := Lib.hid (HA5.out.kept HT6.out (fun e => by unfold Just at e; omega))
  have HOV := Lib.hid (own_turned HO.out HT6.out (fun j hj e => by unfold Just at e; omega))
  have HBV : Hid (Below w.heap.size w V) := Lib.hid ((HB0.out.trans (HB.out.mono (by omega))).trans (below_just HT6.out (Nat.le_refl _) (by omega)))
  have hh := has4_any B cap s i V
  clear h0 h1 HB0 HB HC HA0 HA1 HA2 HA3 HA4 HA5 HO HT6
  by_cases hi : isAt s i
  · have hd : decide (isAt s i) = true := by simp [hi]
    rw [hd] at hh
    have HH := Lib.hid hh
    obtain ⟨j, rfl⟩ : ∃ j : Nat, i = (j : Int) := ⟨i.toNat, by unfold isAt at hi; omega⟩
    have hj : j < s.sure.length := by unfold isAt at hi; omega
    have j0 : (0 : Int) ≤ (j : Int) := by omega
    have j1 : (j : Int) < (s.sure.length : Int) := by omega
    have hsd : sDone s j v = calmS (s.sure.set j v) := by unfold sDone; rw [if_pos hi]; rfl
    obtain ⟨g, rfl, hg, hg2⟩ := own_some HOV.out (by omega)
    obtain ⟨rest, hA, hp, _, hset⟩ := own_around HOV.out hj
    have HSD := Lib.hid hsd
    have HAR := Lib.hid hA
    have HP := Lib.hid hp
    have HSET := Lib.hid hset
    have HG : Hid (W0.heap.size ≤ g ∧ g < V.heap.size) := Lib.hid ⟨hg, hg2⟩
    clear hd hh hi hsd hA hp hset hg hg2
    have hb := run_st
    go_wp2_with (first
      | (refine wpList_ldr (xs := stC (.slice (some ⟨g, 0, none⟩) s.sure.length cap) s) _ rfl rfl rfl Try.underlying28 rfl st_size (stC_len _ _) HA6.out.rng0 ?_)
      | (go_at_call 24; (with_reducible refine Calls.mono HH.out ?_); rintro e w2 ⟨rfl, h2⟩; have HB2 := Lib.hid h2; have HX0 := Lib.hid (HA6.out.kept (Turned.of_below h2 (Nat.le_refl _) NoBlock) (fun h => h)); have HX1 := Lib.hid (HV1.out.kept (Turned.of_below h2 (Nat.le_refl _) NoBlock) (fun h => h)); have HX2 := Lib.hid (HV2.out.kept (Turned.of_below h2 (Nat.le_refl _) NoBlock) (fun h => h)); have HX3 := Lib.hid (HAR.out.kept (Turned.of_below h2 (Nat.le_refl _) NoBlock) (fun h => h)); have k0 : w2.cell? ⟨w.heap.size, 0, none⟩ = some (.slice (some ⟨g, 0, none⟩) s.sure.length cap) := HX0.out.cell 0; clear h2)
      | (refine wpList_ldr (xs := v4C v) _ rfl rfl rfl Try.underlying24 rfl v4_size (v4_len _) HX1.out.rng0 ?_)
      | (refine wpList_stm (pre := v4K.all (s.sure.take j)) (post := v4K.all (s.sure.drop (j + 1)) ++ rest) (xs := v4K.c (v4K.nth s.sure j)) (ys := v4C v) _ _ rfl rfl rfl rfl v4_size (v4K.len _) (v4_len _) (v4_one _) HP.out rfl HX3.out ?_; intro V3 A7 T7; have HA7 := Lib.hid (HSET.out V3 v A7); have HT7 := Lib.hid T7; have HX4 := Lib.hid (HX0.out.kept T7 (fun e => by have := HG.out; have := HS0.out; unfold Just at e; omega)); have HX5 := Lib.hid (HX2.out.kept T7 (fun e => by have := HG.out; have := HS0.out; unfold Just at e; omega)); have k1 : V3.cell? ⟨w.heap.size, 0, none⟩ = some (.slice (some ⟨g, 0, none⟩) s.sure.length cap) := HX4.out.cell 0; clear A7 T7)
      | (refine wpList_stm (pre := []) (post := []) (xs := stC (.slice none 0 0) st0) (ys := stC (.slice (some ⟨g, 0, none⟩) s.sure.length cap) st0) _ _ rfl rfl rfl rfl st_size (by rfl) (stC_len _ _) (stC_one _) rfl (by simp) HX5.out ?_; intro V4 A8 T8; rw [List.nil_append, List.append_nil] at A8; have HA8 := Lib.hid A8; have HT8 := Lib.hid T8; clear A8 T8))
    refine bodyPost_ret (res_cell Try.results13 _ Try.underlying28 rfl st_size rfl HA8.out (stC_len _ _)) rfl ?_
    rw [HSD.out]
    have e : (calmS (s.sure.set j v)).sure.length = s.sure.length := List.length_set
    have h0 := HS0.out
    have h1 := HB2.out.size
    have h2 := HT7.out.size
    have h3 := HBV.out.size
    have h4 := HG.out
    refine ⟨some ⟨g, 0, none⟩, cap, by rw [e]; rfl, ?_, ?_⟩
    · rw [e]
      exact own_base (own_turned HA7.out HT8.out (fun k hk e => by unfold Just at e; omega)) (by omega)
    · exact ((HBV.out.trans (HB2.out.mono (by omega))).trans (below_just HT7.out (by omega) (by omega))).trans (below_just HT8.out (by omega) (by omega))
  · have hd : decide (isAt s i) = false := by simp [hi]
    rw [hd] at hh
    have HH := Lib.hid hh
    have hsd : sDone s i v = s := by unfold sDone; rw [if_neg hi]
    have HSD := Lib.hid hsd
    clear hd hh hi hsd
    go_wp2_with (first
      | (refine wpList_ldr (xs := stC (.slice B s.sure.length cap) s) _ rfl rfl rfl Try.underlying28 rfl st_size (stC_len _ _) HA6.out.rng0 ?_)
      | (go_at_call 24; (with_reducible refine Calls.mono HH.out ?_); rintro e w2 ⟨rfl, h2⟩; have HB2 := Lib.hid h2; have HX0 := Lib.hid (HA6.out.kept (Turned.of_below h2 (Nat.le_refl _) NoBlock) (fun h => h)); have HX2 := Lib.hid (HV2.out.kept (Turned.of_below h2 (Nat.le_refl _) NoBlock) (fun h => h)); clear h2)
      | (refine wpList_ldr (xs := stC (.slice B s.sure.length cap) s) _ rfl rfl rfl Try.underlying28 rfl st_size (stC_len _ _) HX0.out.rng0 ?_)
      | (refine wpList_stm (pre := []) (post := []) (xs := stC (.slice none 0 0) st0) (ys := stC (.slice B s.sure.length cap) s) _ _ rfl rfl rfl rfl st_size (by rfl) (stC_len _ _) (stC_one _) rfl (by simp) HX2.out ?_; intro V4 A8 T8; rw [List.nil_append, List.append_nil] at A8; have HA8 := Lib.hid A8; have HT8 := Lib.hid T8; clear A8 T8))
    refine bodyPost_ret (res_cell Try.results13 _ Try.underlying28 rfl st_size rfl HA8.out (stC_len _ _)) rfl ?_
    rw [HSD.out]
    have h0 := HS0.out
    have h1 := HB2.out.size
    have h3 := HBV.out.size
    refine ⟨B, cap, rfl, ?_, ?_⟩
    · exact own_base (own_turned (own_turned HOV.out (Turned.of_below HB2.out (Nat.le_refl _) NoBlock) (fun _ _ h => h)) HT8.out (fun k hk e => by unfold Just at e; omega)) (by omega)
    · exact (HBV.out.trans (HB2.out.mono (by omega))).trans (below_just HT8.out (by omega) (by omega))

set_option maxRecDepth 100000 in
set_option maxHeartbeats 1000000 in
theorem begun4_any (A : Option Addr) (c : Nat) (s : StM) (i : Int) (v : V4) (w : World) (hR : v4K.Reads w A s.sure.length c s.sure) (hn : s.sure.length ≤ 50000) :
    Calls Try.prog 15 #[.agg (stC (.slice A s.sure.length c) s).toArray, .int .i64 i, .agg (v4C v).toArray] w (Ours (sBegun s i v) w) := by
  obtain ⟨W0, hW0⟩ : ∃ W0, W0 = W3 w (stC (.slice A s.sure.length c) s) (v4C v) := ⟨_, rfl⟩
  have hz := st_zero
  have A0 := W3_a w (stC (.slice A s.sure.length c) s) (v4C v)
  have A1 := W3_b w (stC (.slice A s.sure.length c) s) (v4C v)
  have A2 := W3_c w (stC (.slice A s.sure.length c) s) (v4C v)
  have B0 := W3_below w (stC (.slice A s.sure.length c) s) (v4C v)
  have s0 := W3_size w (stC (.slice A s.sure.length c) s) (v4C v)
  have hW1 := hW0
  unfold W3 at hW1
  rw [← hW0] at A0 A1 A2 B0 s0
  have HC := Lib.hid (own4_any A c s W0 (hR.kept B0) hn)
  have HA0 := Lib.hid A0
  have HA1 := Lib.hid A1
  have HA2 := Lib.hid A2
  have HB0 := Lib.hid B0
  have HS0 := Lib.hid s0
  have HN := Lib.hid hn
  clear A0 A1 A2 B0 s0 hR hW0 hn
  go_enter Try.func15, Try.ntmps15
  go_upto_region 1 with (fail)
  change Code.wp _ _ _ _ (((w.alloc (.cells (stC (.slice A s.sure.length c) s).toArray 28)).alloc (.cells (v4C v).toArray 24)).alloc (.cells (stC (.slice none 0 0) st0).toArray 28))
  rw [← hW1]
  clear hW1
  go_upto_region 2 with (first
    | (refine wpList_ldr (xs := stC (.slice A s.sure.length c) s) _ rfl rfl rfl Try.underlying28 rfl st_size (stC_len _ _) HA0.out.rng0 ?_)
    | (go_at_call 22; (with_reducible refine Calls.mono HC.out ?_); rintro e w1 ⟨B, cap, rfl, h1, h2⟩; have HO := Lib.hid h1; have HB := Lib.hid h2; have HA3 := Lib.hid (HA0.out.kept (Turned.of_below h2 (Nat.le_refl _) NoBlock) (fun h => h)); have HA4 := Lib.hid (HA1.out.kept (Turned.of_below h2 (Nat.le_refl _) NoBlock) (fun h => h)); have HA5 := Lib.hid (HA2.out.kept (Turned.of_below h2 (Nat.le_refl _) NoBlock) (fun h => h)); clear h1 h2)
    | (refine wpList_stm (pre := []) (post := []) (xs := stC (.slice A s.sure.length c) s) (ys := stC (.slice B s.sure.length cap) s) _ _ rfl rfl rfl rfl st_size (by rfl) (stC_len _ _) (stC_one _) rfl (by simp) HA3.out ?_; intro V A6 T6; rw [List.nil_append, List.append_nil] at A6; have HA6 := Lib.hid A6; have HT6 := Lib.hid T6; clear A6 T6))
  have h0 := HS0.out
  have h1 := HB.out.size
  have HV1 := Lib.hid (HA4.out.kept HT6.out (fun e => by unfold Just at e; omega))
  have HV2 := Lib.hid (HA5.out.kept HT6.out (fun e => by unfold Just at e; omega))
  have HOV := Lib.hid (own_turned HO.out HT6.out (fun j hj e => by unfold Just at e; omega))
  have HBV : Hid (Below w.heap.size w V) := Lib.hid ((HB0.out.trans (HB.out.mono (by omega))).trans (below_just HT6.out (Nat.le_refl _) (by omega)))
  have hh := has4_any B cap s i V
  clear h0 h1 HB0 HB HC HA0 HA1 HA2 HA3 HA4 HA5 HO HT6
  by_cases hi : isAt s i
  · have hd : decide (isAt s i) = true := by simp [hi]
    rw [hd] at hh
    have HH := Lib.hid hh
    have hsd : sBegun s i v = ⟨s.sure, true, i, v⟩ := by unfold sBegun; rw [if_pos hi]
    have HSD := Lib.hid hsd
    clear hd hh hi hsd
    go_upto_region 4 with (first
      | (refine wpList_ldr (xs := stC (.slice B s.sure.length cap) s) _ rfl rfl rfl Try.underlying28 rfl st_size (stC_len _ _) HA6.out.rng0 ?_)
      | (go_at_call 24; (with_reducible refine Calls.mono HH.out ?_); rintro e w2 ⟨rfl, h2⟩; have HB2 := Lib.hid h2; have HX0 := Lib.hid (HA6.out.kept (Turned.of_below h2 (Nat.le_refl _) NoBlock) (fun h => h)); have HX1 := Lib.hid (HV1.out.kept (Turned.of_below h2 (Nat.le_refl _) NoBlock) (fun h => h)); have HX2 := Lib.hid (HV2.out.kept (Turned.of_below h2 (Nat.le_refl _) NoBlock) (fun h => h)); clear h2))
    have k1 : w2.cell? ⟨w.heap.size, 1, none⟩ = some (.bool s.go) := HX0.out.cell 1
    have k2 : w2.cell? ⟨w.heap.size, 2, none⟩ = some (.int .i64 s.at_) := HX0.out.cell 2
    have k3 : w2.cell? ⟨w.heap.size, 3, none⟩ = some (.int .u32 (U s.next.a)) := HX0.out.cell 3
    have k4 : w2.cell? ⟨w.heap.size, 4, none⟩ = some (.int .u32 (U s.next.b)) := HX0.out.cell 4
    have k5 : w2.cell? ⟨w.heap.size, 5, none⟩ = some (.int .u32 (U s.next.c)) := HX0.out.cell 5
    have k6 : w2.cell? ⟨w.heap.size, 6, none⟩ = some (.int .u32 (U s.next.d)) := HX0.out.cell 6
    have f1 := HX0.out.frozen 1
    have f2 := HX0.out.frozen 2
    have f3 := HX0.out.frozen 3
    have f4 := HX0.out.frozen 4
    have f5 := HX0.out.frozen 5
    have f6 := HX0.out.frozen 6
    have l0 : w2.cell? ⟨w.heap.size + 1, 0, none⟩ = some (.int .u32 (U v.a)) := HX1.out.cell 0
    have l1 : w2.cell? ⟨w.heap.size + 1, 1, none⟩ = some (.int .u32 (U v.b)) := HX1.out.cell 1
    have l2 : w2.cell? ⟨w.heap.size + 1, 2, none⟩ = some (.int .u32 (U v.c)) := HX1.out.cell 2
    have l3 : w2.cell? ⟨w.heap.size + 1, 3, none⟩ = some (.int .u32 (U v.d)) := HX1.out.cell 3
    go_region
    have a9 := ((((((HX0.out.put 1 (.bool true)).put 2 (.int .i64 i)).put 3 (.int .u32 (U v.a))).put 4 (.int .u32 (U v.b))).put 5 (.int .u32 (U v.c))).put 6 (.int .u32 (U v.d))).drew
    have t9 := ((((((turned_set w2 w.heap.size 1 (.bool true)).trans (turned_set _ _ 2 (.int .i64 i))).trans (turned_set _ _ 3 (.int .u32 (U v.a)))).trans (turned_set _ _ 4 (.int .u32 (U v.b)))).trans (turned_set _ _ 5 (.int .u32 (U v.c)))).trans (turned_set _ _ 6 (.int .u32 (U v.d)))).drew
    have a10 := HX2.out.kept t9 (fun e => by unfold Just at e; omega)
    have a9' := a9.as (cs' := stC (.slice B s.sure.length cap) ⟨s.sure, true, i, v⟩) rfl
    have HA9 := Lib.hid a9'
    have HT9 := Lib.hid t9
    have HA10 := Lib.hid a10
    clear a9 a9' t9 a10 k1 k2 k3 k4 k5 k6 f1 f2 f3 f4 f5 f6 l0 l1 l2 l3
    go_wp2_with (first
      | (refine wpList_ldr (xs := stC (.slice B s.sure.length cap) ⟨s.sure, true, i, v⟩) _ rfl rfl rfl Try.underlying28 rfl st_size (stC_len _ _) HA9.out.rng0 ?_)
      | (refine wpList_stm (pre := []) (post := []) (xs := stC (.slice none 0 0) st0) (ys := stC (.slice B s.sure.length cap) ⟨s.sure, true, i, v⟩) _ _ rfl rfl rfl rfl st_size (by rfl) (stC_len _ _) (stC_one _) rfl (by simp) HA10.out ?_; intro V4 A8 T8; rw [List.nil_append, List.append_nil] at A8; have HA8 := Lib.hid A8; have HT8 := Lib.hid T8; clear A8 T8))
    refine bodyPost_ret (res_cell Try.results15 _ Try.underlying28 rfl st_size rfl HA8.out (stC_len _ _)) rfl ?_
    rw [HSD.out]
    have h0 := HS0.out
    have h1 := HB2.out.size
    have h2 := HT9.out.size
    have h3 := HBV.out.size
    refine ⟨B, cap, rfl, ?_, ?_⟩
    · exact own_base (own_turned (own_turned (own_turned HOV.out (Turned.of_below HB2.out (Nat.le_refl _) NoBlock) (fun _ _ h => h)) HT9.out (fun k hk e => by unfold Just at e; omega)) HT8.out (fun k hk e => by unfold Just at e; omega)) (by omega)
    · exact ((HBV.out.trans (HB2.out.mono (by omega))).trans (below_just HT9.out (by omega) (by omega))).trans (below_just HT8.out (by omega) (by omega))
  · have hd : decide (isAt s i) = false := by simp [hi]
    rw [hd] at hh
    have HH := Lib.hid hh
    have hsd : sBegun s i v = s := by unfold sBegun; rw [if_neg hi]
    have HSD := Lib.hid hsd
    clear hd hh hi hsd
    go_wp2_with (first
      | (refine wpList_ldr (xs := stC (.slice B s.sure.length cap) s) _ rfl rfl rfl Try.underlying28 rfl st_size (stC_len _ _) HA6.out.rng0 ?_)
      | (go_at_call 24; (with_reducible refine Calls.mono HH.out ?_); rintro e w2 ⟨rfl, h2⟩; have HB2 := Lib.hid h2; have HX0 := Lib.hid (HA6.out.kept (Turned.of_below h2 (Nat.le_refl _) NoBlock) (fun h => h)); have HX2 := Lib.hid (HV2.out.kept (Turned.of_below h2 (Nat.le_refl _) NoBlock) (fun h => h)); clear h2)
      | (refine wpList_ldr (xs := stC (.slice B s.sure.length cap) s) _ rfl rfl rfl Try.underlying28 rfl st_size (stC_len _ _) HX0.out.rng0 ?_)
      | (refine wpList_stm (pre := []) (post := []) (xs := stC (.slice none 0 0) st0) (ys := stC (.slice B s.sure.length cap) s) _ _ rfl rfl rfl rfl st_size (by rfl) (stC_len _ _) (stC_one _) rfl (by simp) HX2.out ?_; intro V4 A8 T8; rw [List.nil_append, List.append_nil] at A8; have HA8 := Lib.hid A8; have HT8 := Lib.hid T8; clear A8 T8))
    refine bodyPost_ret (res_cell Try.results15 _ Try.underlying28 rfl st_size rfl HA8.out (stC_len _ _)) rfl ?_
    rw [HSD.out]
    have h0 := HS0.out
    have h1 := HB2.out.size
    have h3 := HBV.out.size
    refine ⟨B, cap, rfl, ?_, ?_⟩
    · exact own_base (own_turned (own_turned HOV.out (Turned.of_below HB2.out (Nat.le_refl _) NoBlock) (fun _ _ h => h)) HT8.out (fun k hk e => by unfold Just at e; omega)) (by omega)
    · exact (HBV.out.trans (HB2.out.mono (by omega))).trans (below_just HT8.out (by omega) (by omega))
end Go.Proofs.Ytakohcdopbckkaa
