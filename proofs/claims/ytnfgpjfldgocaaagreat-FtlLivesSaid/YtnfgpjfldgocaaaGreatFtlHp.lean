import Derived.Test.YtnfgpjfldgocaaaGreatFtl9
import Derived.Test.YtnfgpjfldgocaaaGreatFtlMp
import Derived.BigQuiet
import Derived.Deep.QuietTactic
namespace Go.Proofs.YtnfgpjfldgocaaaGreat
section
open Go.RowKit Bm Go.Shelf
structure Act8 where
 k : Int
 s : Int
 v : BitVec 32
 deriving Inhabited
def a8C (a : Act8) : List Value := [.int .u8 a.k, .int .i64 a.s, .int .u32 (U a.v)]
structure A8Ok (a : Act8) : Prop where
 k0 : 0 <= a.k
 k1 : a.k <= 255
 s0 : -9223372036854775808 <= a.s
 s1 : a.s <= 9223372036854775807
def v8 (a : Act8) : List (BitVec 32) := if a.k % 4 = 3 then d40 else [a.v, a.v ^^^ 5#32, ~~~a.v, BitVec.ofInt 32 a.s]
theorem ofInt_wrap (s : Int) : IntKind.u32.wrap s = U (BitVec.ofInt 32 s) := by
 show s % 4294967296 = ((BitVec.ofInt 32 s).toNat : Int)
 rw [BitVec.toNat_ofInt]
 omega
theorem v44_size : (Tryz.prog.info? 44).map (·.size) = some 4 := by kernel_rfl
theorem v8_res1 {fn : Func} {p : Tmp} (h : fn.results = #[.cell p 44]) (tmps : Array Value) {w : World} {g : Nat} {cs : List Value} (hp : tmps.getD p undef = .pointer (some ⟨g, 0, none⟩)) (hA : At w g 44 cs) (hn : cs.length = 4) :
  (results fn tmps).run Tryz.prog w = .ok (.agg cs.toArray) w :=
 results_cell_row h tmps w g 44 cs.toArray (0, 0) _ hp hA Tryz.underlying44 rfl (by rw [v44_size]; simp [hn])
set_option maxRecDepth 100000 in
theorem run_bv0 (w : World) : (Instr.build 44 #[]).run Tryz.prog w = .ok (.agg #[.int .u32 0, .int .u32 0, .int .u32 0, .int .u32 0]) w := by kernel_rfl
set_option maxRecDepth 100000 in
theorem run_bv4 (a b c e : Int) (w : World) : (Instr.build 44 #[(0, .int .u32 a), (1, .int .u32 b), (2, .int .u32 c), (3, .int .u32 e)]).run Tryz.prog w = .ok (.agg #[.int .u32 a, .int .u32 b, .int .u32 c, .int .u32 e]) w := by kernel_rfl
set_option maxRecDepth 100000 in
theorem run_b4a (a b c e : Int) (w : World) : (Instr.build 67 #[(0, .int .u32 a), (1, .int .u32 b), (2, .int .u32 c), (3, .int .u32 e)]).run Tryz.prog w = .ok (.agg #[.int .u32 a, .int .u32 b, .int .u32 c, .int .u32 e]) w := by kernel_rfl
set_option maxRecDepth 100000 in
set_option maxHeartbeats 1000000 in
theorem value8_any (a : Act8) (ha : A8Ok a) (w : World) : Calls Tryz.prog 18 #[.agg #[.int .u8 a.k, .int .i64 a.s, .int .u32 (U a.v)]] w fun e w' => e = .returned (.agg (Us (v8 a)).toArray) /\ Below w.heap.size w w' := by
 have b0 := run_bv0
 have b4 := run_bv4
 have k0 := ha.k0
 have k1 := ha.k1
 have HV : Hid (v8 a = if a.k % 4 = 3 then d40 else [a.v, a.v ^^^ 5#32, ~~~a.v, BitVec.ofInt 32 a.s]) := Lib.hid rfl
 have u5 : U 5#32 = 5 := rfl
 have hx : bits .xor .u32 (U a.v) 5 = U (a.v ^^^ 5#32) := U_xor a.v 5#32
 have hw : a.s % 4294967296 = U (BitVec.ofInt 32 a.s) := ofInt_wrap a.s
 obtain ⟨n, hn⟩ : ∃ n, n = a.s := ⟨_, rfl⟩
 obtain ⟨kk, hkk⟩ : ∃ kk, kk = a.k := ⟨_, rfl⟩
 rw [<- hkk] at k0 k1 HV ⊢
 clear u5
 by_cases h3 : kk % 4 = 3
 ·have HV2 : Hid (v8 a = d40) := Lib.hid (by rw [HV.out, if_pos h3])
  have e3 : (kk % 4 == 3) = true := by rw [beq_iff_eq]; exact h3
  clear HV hkk hn h3
  go_enter Tryz.func18, Tryz.ntmps18
  go_wp2_with (refine wpList_stm (pre := []) (post := []) (xs := Us d40) (ys := Us d40) _ _ rfl rfl rfl rfl v44_size rfl rfl (Us_one _) rfl (by simp) (At.alloc_new (w := w.alloc (.cells #[.int .u8 kk, .int .i64 a.s, .int .u32 (U a.v)] 40)) _ 44 (Us d40) (by simp) rfl) ?_; intro w5 A5 T5; rw [List.nil_append, List.append_nil] at A5; have HA5 := Lib.hid A5; have HT5 := Lib.hid T5; clear A5 T5)
  refine bodyPost_ret (v8_res1 Tryz.results18 _ rfl HA5.out rfl) rfl ⟨by rw [HV2.out], ?_⟩
  exact (below_two w _ _).trans (HT5.out.below (fun i hi => by unfold Just at hi; omega) (by simp; omega))
 ·have HV2 : Hid (v8 a = [a.v, a.v ^^^ 5#32, ~~~a.v, BitVec.ofInt 32 a.s]) := Lib.hid (by rw [HV.out, if_neg h3])
  have e3 : (kk % 4 == 3) = false := by rw [beq_eq_false_iff_ne]; exact h3
  clear HV hkk hn h3
  go_enter Tryz.func18, Tryz.ntmps18
  go_wp2_with fail
  refine bodyPost_ret (v8_res1 (cs := Us [a.v, a.v ^^^ 5#32, ~~~a.v, BitVec.ofInt 32 a.s]) Tryz.results18 _ rfl (At.alloc_new _ _ _ (by simp) rfl) rfl) rfl ⟨by rw [HV2.out], below_two w _ _⟩
def pg8 (a : Act8) : PageM := if a.k % 4 = 3 then pgT else pgW a.v (a.v ^^^ 5#32) (~~~a.v) (BitVec.ofInt 32 a.s)
theorem pg8_words (a : Act8) : valOf.d4OfM (pg8 a) = v8 a := by
 unfold pg8 v8
 split <;> rfl
section
variable {B p f q s k g : Nat} {K : Nat -> Prop} {d d' : DrvM} {x : StoM} {w w' : World}
set_option maxRecDepth 100000 in
set_option maxHeartbeats 1000000 in
theorem Sto.do8 (h : Sto B p f q s k g K d x w) (ok : DrvOk k d) (hk : k <= 19) (k3 : 3 <= k) (a : Act8) (ha : A8Ok a) {n : Nat} {R : DrvM × StoM × Int}
  (hA : (mBegin k d x a.s).2.2 = 0 -> AddTo k { pg8 a with s := BitVec.ofNat 32 a.s.toNat } n (mBegin k d x a.s).1 (mBegin k d x a.s).2.1 R) (hE : (mBegin k d x a.s).2.2 = 0 -> 0 <= R.2.2 /\ R.2.2 <= 100) (t0 : 0 <= d.t) (t1 : d.t + 3000 * (n : Int) <= 80000000000000) :
  Calls Tryz.prog 16 #[.pointer (some ⟨s, 0, none⟩), .agg #[.int .u8 a.k, .int .i64 a.s, .int .u32 (U a.v)]] w (StoOut B p f q s k K (mChg k d x a.s R) w) := by
 have k0 := ha.k0
 have k1 := ha.k1
 obtain ⟨W0, hW0⟩ : ∃ W0, W0 = w.alloc (.cells #[.int .u8 a.k, .int .i64 a.s, .int .u32 (U a.v)] 40) := ⟨_, rfl⟩
 have hW0' := hW0.symm
 have B0 : Below w.heap.size w W0 := by rw [hW0]; exact (Below.refl _ w).alloc (Nat.le_refl _) _
 have A0 : At W0 w.heap.size 40 [.int .u8 a.k, .int .i64 a.s, .int .u32 (U a.v)] := by rw [hW0]; exact At.news w _ _
 have q0 : W0.cell? ⟨w.heap.size, 0, none⟩ = some (.int .u8 a.k) := A0.cell 0
 have q1 : W0.cell? ⟨w.heap.size, 1, none⟩ = some (.int .i64 a.s) := A0.cell 1
 have q2 : W0.cell? ⟨w.heap.size, 2, none⟩ = some (.int .u32 (U a.v)) := A0.cell 2
 have HB0 := Lib.hid B0
 have HA0 := Lib.hid A0
 have HH := Lib.hid h
 have HP : Hid (pg8 a = if a.k % 4 = 3 then pgT else pgW a.v (a.v ^^^ 5#32) (~~~a.v) (BitVec.ofInt 32 a.s)) := Lib.hid rfl
 have HV : Hid (v8 a = if a.k % 4 = 3 then d40 else [a.v, a.v ^^^ 5#32, ~~~a.v, BitVec.ofInt 32 a.s]) := Lib.hid rfl
 by_cases h3 : a.k % 4 = 3
 ·rw [HP.out, if_pos h3] at hA
  have TR := Lib.hid ((h.below B0).trim ok hk k3 a.s ha.s0 ha.s1 hA hE t0 t1)
  have e3 : (a.k % 4 == 3) = true := by rw [beq_iff_eq]; exact h3
  clear h ok hA hE t0 t1 B0 A0 hW0 HP HV h3
  go_enter Tryz.func16, Tryz.ntmps16
  go_wp2_with (first
   | (go_at_call 36; (with_reducible refine TR.out.mono ?_); rintro e w1 ⟨rfl, hs1, t1⟩; have HS1 := Lib.hid hs1; have HT1 := Lib.hid t1; clear hs1 t1))
  go_ret
  exact ⟨rfl, HS1.out, (Turned.of_below HB0.out (Nat.le_refl _) _).trans HT1.out⟩
 ·rw [HP.out, if_neg h3] at hA
  have HV2 : Hid (v8 a = [a.v, a.v ^^^ 5#32, ~~~a.v, BitVec.ofInt 32 a.s]) := Lib.hid (by rw [HV.out, if_neg h3])
  have WR := Lib.hid (fun W (hW : Below w.heap.size w W) => (h.below hW).write (v0 := a.v) (v1 := a.v ^^^ 5#32) (v2 := ~~~a.v) (v3 := BitVec.ofInt 32 a.s) ok hk k3 a.s ha.s0 ha.s1 hA hE t0 t1)
  have VA := Lib.hid (value8_any a ha W0)
  rw [HV2.out] at VA
  have e3 : (a.k % 4 == 3) = false := by rw [beq_eq_false_iff_ne]; exact h3
  clear h ok hA hE t0 t1 B0 A0 hW0 HP HV h3
  go_enter Tryz.func16, Tryz.ntmps16
  go_upto_region 4 with (first
   | (go_at_call 18; (with_reducible refine VA.out.mono ?_); rintro e w1 ⟨rfl, hb1⟩; have HB1 := Lib.hid hb1; clear hb1)
   | (refine wpList_stm (pre := []) (post := []) (xs := Us d40) (ys := Us [a.v, a.v ^^^ 5#32, ~~~a.v, BitVec.ofInt 32 a.s]) _ _ rfl rfl rfl rfl v44_size rfl rfl (Us_one _) rfl (by simp) (At.news w1 _ (Us d40)) ?_; intro w2 A2 T2; rw [List.nil_append, List.append_nil] at A2; have HA2 := Lib.hid A2; have HB2 : Hid (Below w1.heap.size w1 w2) := Lib.hid (((Below.refl _ w1).alloc (Nat.le_refl _) _).trans (T2.below (fun i hi => by unfold Just at hi; omega) (by simp))); clear A2 T2))
  have B2 : Hid (Below w.heap.size w w2) := Lib.hid (HB0.out.trans ((HB1.out.mono HB0.out.size).trans (HB2.out.mono (Nat.le_trans HB0.out.size HB1.out.size))))
  have A2' : At w2 w.heap.size 40 [.int .u8 a.k, .int .i64 a.s, .int .u32 (U a.v)] := (HA0.out.kept (Turned.of_below HB1.out (Nat.le_refl _) NoBlock) (fun h => h)).kept (Turned.of_below HB2.out (Nat.le_refl _) NoBlock) (fun h => h)
  have r1 : w2.cell? ⟨w.heap.size, 1, none⟩ = some (.int .i64 a.s) := A2'.cell 1
  have y0 : w2.cell? ⟨w1.heap.size, 0, none⟩ = some (.int .u32 (U a.v)) := HA2.out.cell 0
  have y1 : w2.cell? ⟨w1.heap.size, 1, none⟩ = some (.int .u32 (U (a.v ^^^ 5#32))) := HA2.out.cell 1
  have y2 : w2.cell? ⟨w1.heap.size, 2, none⟩ = some (.int .u32 (U (~~~a.v))) := HA2.out.cell 2
  have y3 : w2.cell? ⟨w1.heap.size, 3, none⟩ = some (.int .u32 (U (BitVec.ofInt 32 a.s))) := HA2.out.cell 3
  have b4 : ∀ (a b c e : Int) (w : World), (Instr.build 67 #[(0, .int .u32 a), (1, .int .u32 b), (2, .int .u32 c), (3, .int .u32 e)]).run Tryz.prog w = .ok (.agg #[.int .u32 a, .int .u32 b, .int .u32 c, .int .u32 e]) w := run_b4a
  clear A2'
  go_wp2_with (first
   | (go_at_call 35; (with_reducible refine (WR.out _ B2.out).mono ?_); rintro e w3 ⟨rfl, hs3, t3⟩; have HS3 := Lib.hid hs3; have HT3 := Lib.hid t3; clear hs3 t3))
  go_ret
  exact ⟨rfl, HS3.out, (Turned.of_below B2.out (Nat.le_refl _) _).trans HT3.out⟩
end
end
section
open Go.RowKit Bm Go.Shelf
def in8 (k : Nat) (a : Act8) : Prop := 0 <= a.s /\ a.s < secs k
instance (k : Nat) (a : Act8) : Decidable (in8 k a) := inferInstanceAs (Decidable (_ /\ _))
def val8 (k : Nat) (a : Act8) (V : BitVec 32 -> List (BitVec 32)) (s : BitVec 32) : List (BitVec 32) := if in8 k a /\ s = BitVec.ofNat 32 a.s.toNat then v8 a else V s
structure Well (C : Prop) (B p f q s k : Nat) (K : Nat -> Prop) (Q W T E : Int) (V : BitVec 32 -> List (BitVec 32)) (w : World) (d : DrvM) (x : StoM) : Prop where
 sto : ∃ g, Sto B p f q s k g K d x w
 fit : Fit C k Q W d x
 left : d.f.chip.left = 0
 endure : d.f.chip.endure = E
 t0 : 0 <= d.t
 t1 : d.t <= T
 val : ∀ n : BitVec 32, Val x.bs n = V n
section
variable {C : Prop} {B p f q s k : Nat} {K : Nat -> Prop} {Q W T E : Int} {V : BitVec 32 -> List (BitVec 32)} {d : DrvM} {x : StoM} {w w' : World}
theorem Well.below (h : Well C B p f q s k K Q W T E V w d x) (hB : Below w.heap.size w w') : Well C B p f q s k K Q W T E V w' d x := by
 obtain ⟨⟨g, hs⟩, h2, h3, h4, h5, h6, h7⟩ := h
 exact ⟨⟨g, hs.below hB⟩, h2, h3, h4, h5, h6, h7⟩
theorem pg8_ok (a : Act8) (n : Nat) (hn : n < 512) : pgOk { ({ pg8 a with s := BitVec.ofNat 32 n } : PageM) with q := 1#32 } = true := by
 have hs : U (BitVec.ofNat 32 n) = (n : Int) := U_ofNat n (by omega)
 have h1 : U (BitVec.ofNat 32 n) < 512 := by omega
 unfold pg8
 split
 ·unfold pgOk pgT pgData0
  simp only [Bool.and_eq_true, decide_eq_true_eq]
  exact ⟨h1, by decide, by decide, by decide⟩
 ·unfold pgOk pgW
  simp only [Bool.and_eq_true, decide_eq_true_eq]
  exact ⟨h1, by decide, by decide, rfl⟩
theorem Well.read (h : Well C B p f q s k K Q W T E V w d x) (k5 : 5 <= k) {n : Nat} (hn : (n : Int) < secs k) :
  Calls Tryz.prog 33 #[.pointer (some ⟨s, 0, none⟩), .int .i64 (n : Int)] w fun e w' => e = .returned (.tuple #[.agg (Us (V (BitVec.ofNat 32 n))).toArray, .int .i64 0]) /\ (∃ d', Well C B p f q s k K Q W T E V w' d' x) /\ Turned (May B K) w w' := by
 obtain ⟨⟨g, hs⟩, hf, hl, he, h0, h1, hv⟩ := h
 have hk2 := hf.k2
 have hsec : secs k <= 400 := by unfold secs; omega
 have hbeg := hf.begin (by omega) (a := (n : Int)) (by omega) hn
 have hrd := hf.read (by omega) hn
 refine (hs.read hf.sys.live.ok (by omega) (n : Int) (by omega) (by omega)).mono ?_
 rintro e w1 ⟨rfl, hs1, t1⟩
 rw [hbeg] at hs1 ⊢
 have hc := look_chip hf.sys.live
 exact ⟨by rw [hrd, hv], ⟨dLook d, hs1, hf.look, by rw [hc]; exact hl, by rw [hc]; exact he, by rw [look_t]; exact h0, by rw [look_t]; exact h1, hv⟩, t1⟩
theorem format_new {E : Int} (h : Dv B p f q k K ⟨fNew (mNew k E), 0⟩ w) (k5 : 5 <= k) (k2 : k <= 64) (e0 : 0 < E) (e1 : E <= 2147483648) :
  Calls Tryz.prog 12 #[.pointer (some ⟨q, 0, none⟩)] w fun e w' => e = .returned (.tuple #[.pointer (some ⟨w.heap.size, 0, none⟩), .int .i64 0]) /\ (∃ d x, Well C B p f q w.heap.size k K 0 1 (100 * (k : Int)) E (fun _ => d40) w' d x) /\ Turned (May B K) w w' := by
 obtain ⟨d, hd⟩ : ∃ d : DrvM, d = ⟨fNew (mNew k E), 0⟩ := ⟨_, rfl⟩
 obtain ⟨d', x', m1, m2, m3, m4, m5⟩ := new_fit (k := k) (by omega) k2 e0 e1 hd
 rw [<- hd] at h
 have hok : DrvOk k d := by rw [hd]; exact ⟨newOk k E (by omega) k2 (by omega) (by omega), ⟨rfl, rfl, rfl⟩⟩
 have hu : d.f.chip.up = true := by rw [hd]; rfl
 have ht : d.t = 0 := by rw [hd]
 have htk := renews_ticks (List.range k) (dLook d) (x0 d.f.chip.ws)
 rw [m1, look_t, ht, List.length_range] at htk
 refine (h.format hok k5 k2 hu (by omega) (by omega)).mono ?_
 intro e w1 ho
 obtain ⟨o1, o2, o3⟩ := ho.ok (by rw [m1])
 rw [m1] at o2
 exact ⟨o1, ⟨d', x', o2, m2, m4, m5, htk.1, by have := htk.2; dsimp only at this; omega, fun n => m3 n⟩, o3⟩
end
end
section
open Go.RowKit Bm Go.Shelf
def vls (V : BitVec 32 -> List (BitVec 32)) (n : Nat) : List Value := (List.range n).flatMap fun i => Us (V (BitVec.ofNat 32 i))
theorem vls_succ (V : BitVec 32 -> List (BitVec 32)) (n : Nat) : vls V (n + 1) = vls V n ++ Us (V (BitVec.ofNat 32 n)) := by
 unfold vls
 rw [List.range_succ, List.flatMap_append, List.flatMap_singleton]
theorem v44_info : (Tryz.prog.info? 44).map (fun i => (i.zero, i.size, i.bytes)) = some (some (.agg #[.int .u32 0, .int .u32 0, .int .u32 0, .int .u32 0]), 4, 16) := by kernel_rfl
section
variable {ops : Array Oper} {rest : List Oper} {o : Oper} {a : Go.Act} {w : World} {Q : Exit -> Go.Act -> World -> Prop} {base n : Nat} {xs : List Value} {y : List (BitVec 32)} {v : Value}
theorem wpList_appV {i0 : TypeInfo} {z : Value} (hin : Tryz.prog.info? 44 = some i0) (hz0 : i0.zero = some z) (hz1 : i0.size = 4) (hz2 : i0.bytes = 16) (hz3 : z.cells.size = 4)
  (s x : Operand) (hgd : o.guard = none) (hop : o.op = .call { callee := .builtin .append, args := #[s, x], argTypes := #[36, 36] }) (hs : a.eval s = v) (hown : w.ownsRow base 44 4 v n xs) {g : Nat} (hx : a.eval x = .slice (some ⟨g, 0, none⟩) 1 1) (hA : At w g 44 (Us y)) (hy : y.length = 4) (hl : n <= 100000) (hb : base <= w.heap.size)
  (h : ∀ g cap w', w'.ownsRow base 44 4 (.slice (some ⟨g, 0, none⟩) (n + 1) cap) (n + 1) (xs ++ Us y) -> w.grownBy w' v.ownBlock -> (v.ownBlock = some g \/ g = w.heap.size) -> g < w'.heap.size -> wpList Tryz.prog ops Q rest (a.put o.dst (.slice (some ⟨g, 0, none⟩) (n + 1) cap)) w') : wpList Tryz.prog ops Q (o :: rest) a w := by
 refine wpList_append_lies _ hgd s x _ hop base _ i0 z 4 16 Tryz.underlying36 hin hz0 hz1 hz2 hz3 (by omega) v n _ hs hown ⟨g, 0, none⟩ 1 1 (Us y) hx (by rw [Us_length, hy]) hA.news_at (Us_one _) (by omega) (by unfold maxLen; omega) (by omega) hb _ rfl ?_
 intro g' cap w' h1 h2 h3 h4
 exact h g' cap w' h1 h2 h3 h4
end
section
variable {C : Prop} {B p f q s k : Nat} {K K' : Nat -> Prop} {Q W T E : Int} {V : BitVec 32 -> List (BitVec 32)} {d : DrvM} {x : StoM} {w w' : World}
theorem Well.move (h : Well C B p f q s k K Q W T E V w d x) {S : Nat -> Prop} (hb : ∀ i, S i -> K i) (t : Turned S w w') (hK : ∀ i, K' i -> (K i \/ w.heap.size <= i) /\ i < w'.heap.size) : Well C B p f q s k K' Q W T E V w' d x := by
 obtain ⟨⟨g, hs⟩, h2, h3, h4, h5, h6, h7⟩ := h
 exact ⟨⟨g, hs.move h2.sys.live.ok.calm.job hb t hK⟩, h2, h3, h4, h5, h6, h7⟩
theorem Well.kin (h : Well C B p f q s k K Q W T E V w d x) (i : Nat) (hi : K i) : i < w.heap.size := by
 obtain ⟨⟨g, hs⟩, _⟩ := h
 exact hs.kin i hi
theorem Well.size (h : Well C B p f q s k K Q W T E V w d x) : B <= w.heap.size := by
 obtain ⟨⟨g, hs⟩, _⟩ := h
 exact hs.size
theorem Well.sectors (h : Well C B p f q s k K Q W T E V w d x) : Calls Tryz.prog 13 #[.pointer (some ⟨s, 0, none⟩)] w fun e w' => e = .returned (.int .i64 (secs k)) /\ w' = w := by
 obtain ⟨⟨g, hs⟩, _⟩ := h
 exact hs.sectors
def KV (K : Nat -> Prop) (v : Value) (i : Nat) : Prop := K i \/ v.ownBlock = some i
def ValsOut (C : Prop) (B p f q s k : Nat) (K : Nat -> Prop) (Q W T E : Int) (V : BitVec 32 -> List (BitVec 32)) (x : StoM) (w : World) (e : Ending) (w' : World) : Prop :=
 ∃ v d', e = .returned (.tuple #[v, .bool true]) /\ w'.ownsRow w.heap.size 44 4 v ((k - 3) * 6) (vls V ((k - 3) * 6)) /\ Well C B p f q s k (KV K v) Q W T E V w' d' x /\ Turned (May B K) w w'
set_option maxRecDepth 100000 in
set_option maxHeartbeats 1000000 in
theorem Well.values (h : Well C B p f q s k K Q W T E V w d x) (k5 : 5 <= k) (hV : ∀ n, (V n).length = 4) :
  Calls Tryz.prog 20 #[.pointer (some ⟨s, 0, none⟩)] w (ValsOut C B p f q s k K Q W T E V x w) := by
 obtain ⟨i0, hin, hz0, hz1, hz2⟩ := info_parts v44_info
 have b4 := run_bv4
 have SE := Lib.hid h.sectors
 have hk2 := h.fit.k2
 obtain ⟨S, hS⟩ : ∃ S : Nat, S = (k - 3) * 6 := ⟨_, rfl⟩
 have hS2 : secs k = (S : Int) := by unfold secs; omega
 have HS2 := Lib.hid hS2
 have hS4 : (S : Int) <= 400 := by omega
 have HS := Lib.hid hS
 have HH := Lib.hid (h.move (K' := KV K (.slice none 0 0)) (S := NoBlock) (fun _ e => e.elim) (Turned.refl _ w) (fun i e => by
  rcases e with e | e
  ·exact ⟨.inl e, h.kin i e⟩
  ·cases e))
 have HV := Lib.hid hV
 have HSZ := Lib.hid h.size
 have HK5 := Lib.hid k5
 unfold ValsOut
 rw [<- hS]
 clear h hV hS2 hS
 go_enter Tryz.func20, Tryz.ntmps20
 go_wp2_with (first
  | (go_at_call 13; (with_reducible refine SE.out.mono ?_); rintro e w1 ⟨rfl, hw⟩; obtain rfl := hw.symm; rw [HS2.out]))
 go_loopw [4, 10] (fun v i wr => ∃ (j : Nat) (d' : DrvM), j <= S /\ i = .int .i64 j /\ wr.ownsRow w.heap.size 44 4 v j (vls V j) /\ Well C B p f q s k (KV K v) Q W T E V wr d' x /\ Turned (May B K) w wr) (fun _ i _ => S - (intOf i).toNat)
 case atStart => exact ⟨0, d, by omega, rfl, World.ownsRow_nil _ _ _ _, HH.out, Turned.refl _ _⟩
 case round =>
  obtain ⟨j, d', hj, rfl, hrow, hwell, htn⟩ := hrel
  have HROW := Lib.hid hrow
  have HWE := Lib.hid hwell
  have HTN := Lib.hid htn
  clear hrow hwell htn
  by_cases hlt : j < S
  ·have j0 : (0 : Int) <= (j : Int) := by omega
   have j1 : (j : Int) < (S : Int) := by omega
   have RD := Lib.hid (HWE.out.read HK5.out (n := j) (by rw [HS2.out]; omega))
   have hy4 := HV.out (BitVec.ofNat 32 j)
   obtain ⟨y, hy⟩ : ∃ y, y = V (BitVec.ofNat 32 j) := ⟨_, rfl⟩
   rw [<- hy] at RD hy4
   have HVS : Hid (vls V (j + 1) = vls V j ++ Us y) := Lib.hid (by rw [vls_succ, hy])
   have HY4 := Lib.hid hy4
   obtain ⟨y0, y1, y2, y3, hyy⟩ : ∃ a b c e, y = [a, b, c, e] := by
    match y, hy4 with
    | [a, b, c, e], _ => exact ⟨a, b, c, e, rfl⟩
   have HYY := Lib.hid hyy
   clear hy hy4 hyy
   go_upto_region 8 with (first
    | (go_at_call 33; (with_reducible refine RD.out.mono ?_); rintro e w2 ⟨rfl, ⟨d2, hw2⟩, t2⟩; have HW2 := Lib.hid hw2; have HT2 := Lib.hid t2; clear hw2 t2)
    | (refine wpList_stm (pre := []) (post := []) (xs := Us d40) (ys := Us y) _ _ rfl rfl rfl rfl d4_size rfl (by rw [Us_length]; exact HY4.out) (Us_one _) rfl (by simp) (At.news w2 _ (Us d40)) ?_; intro w3 A3 T3; rw [List.nil_append, List.append_nil] at A3; have HA3 := Lib.hid A3; have HB3 : Hid (Below w2.heap.size w2 w3) := Lib.hid (((Below.refl _ w2).alloc (Nat.le_refl _) _).trans (T3.below (fun i hi => by unfold Just at hi; omega) (by simp))); clear A3 T3))
   have HW3 := Lib.hid (HW2.out.below HB3.out)
   have HROW3 : Hid (w3.ownsRow w.heap.size 44 4 u4 j (vls V j)) := Lib.hid (Theirs.own_turned (Theirs.own_turned HROW.out HT2.out (fun r e h => h.2 (.inr e))) (Turned.of_below HB3.out (Nat.le_refl _) NoBlock) (fun _ _ h => h))
   have HT3 : Hid (Turned (May B K) w w3) := Lib.hid (HTN.out.trans ((may_less HT2.out fun _ e => .inl e).trans (Turned.of_below HB3.out (Nat.le_refl _) _)))
   have hA3 := HA3.out
   rw [HYY.out] at hA3
   obtain ⟨bx, hbx⟩ : ∃ bx, bx = w2.heap.size := ⟨_, rfl⟩
   rw [<- hbx] at hA3 ⊢
   have c0 : w3.cell? ⟨bx, 0, none⟩ = some (.int .u32 (U y0)) := hA3.cell 0
   have c1 : w3.cell? ⟨bx, 1, none⟩ = some (.int .u32 (U y1)) := hA3.cell 1
   have c2 : w3.cell? ⟨bx, 2, none⟩ = some (.int .u32 (U y2)) := hA3.cell 2
   have c3 : w3.cell? ⟨bx, 3, none⟩ = some (.int .u32 (U y3)) := hA3.cell 3
   have FIN : Hid (∀ (w9 : World) (g cap : Nat), w9.ownsRow w.heap.size 44 4 (.slice (some ⟨g, 0, none⟩) (j + 1) cap) (j + 1) (vls V j ++ Us y) -> (w3.alloc (.cells (Us y).toArray 44)).grownBy w9 u4.ownBlock -> (u4.ownBlock = some g \/ g = (w3.alloc (.cells (Us y).toArray 44)).heap.size) -> g < w9.heap.size ->
     w9.ownsRow w.heap.size 44 4 (.slice (some ⟨g, 0, none⟩) (j + 1) cap) (j + 1) (vls V (j + 1)) /\ Well C B p f q s k (KV K (.slice (some ⟨g, 0, none⟩) (j + 1) cap)) Q W T E V w9 d2 x /\ Turned (May B K) w w9) := Lib.hid (fun w9 g cap h1 h2 h3 h4 => by
    have tr : Turned (fun r => u4.ownBlock = some r) w3 w9 := ((Turned.refl _ w3).alloc _).grown h2 (fun k e _ => e)
    refine ⟨by rw [HVS.out]; exact h1, HW3.out.move (S := fun r => u4.ownBlock = some r) (fun i e => .inr e) tr (fun i e => ?_), HT3.out.after tr (fun i hi e => by have := (HROW3.out.lt i e).1; omega)⟩
    rcases e with e | e
    ·exact ⟨.inl (.inl e), Nat.lt_of_lt_of_le (HW3.out.kin i (.inl e)) tr.size⟩
    ·have eg : g = i := by
      have e' : some g = some i := e
      exact Option.some.inj e'
     subst eg
     refine ⟨?_, h4⟩
     rcases h3 with h3 | h3
     ·exact .inl (.inr h3)
     ·right
      rw [h3]
      simp)
   clear hbx hA3
   have HHB : Hid (w.heap.size <= (w3.alloc (.cells (Us y).toArray 44)).heap.size) := Lib.hid (by have := HT3.out.size; simp; omega)
   go_wp2_with (first
    | (refine wpList_appV (y := y) (base := w.heap.size) (n := j) (xs := vls V j) (v := u4) hin hz0 hz1 hz2 (by rfl) _ _ rfl rfl rfl (Theirs.own_turned HROW3.out ((Turned.refl NoBlock w3).alloc _) (fun _ _ h => h)) rfl (by rw [HYY.out]; exact At.alloc_new _ _ _ rfl rfl) HY4.out (by omega) (by have := HHB.out; simp at this ⊢; omega) ?_; intro g9 cap9 w9 o9 n9 h9 l9; have HF := Lib.hid (FIN.out w9 g9 cap9 o9 (by rw [HYY.out]; exact n9) (by rw [HYY.out]; exact h9) l9); clear o9 n9 h9 l9))
   go_roundw
   case rel => exact ⟨j + 1, d2, by omega, by go_num, HF.out.1, HF.out.2.1, HF.out.2.2⟩
   case measure => simp [intOf]; omega
  ·obtain rfl : j = S := by omega
   go_wp2
   refine bodyPost_ret (results_tmp2 rfl _ _ _) rfl ⟨_, d', rfl, HROW.out, HWE.out, HTN.out⟩
end
end
section
open Go.RowKit Bm Go.Shelf
structure ReadsV (w : World) (A : Option Addr) (n cap : Nat) (ys : Nat -> List (BitVec 32)) : Prop where
 le : n <= cap
 max : cap <= maxLen
 four : ∀ j, j < n -> (ys j).length = 4
 cell : 0 < n -> ∃ g, A = some ⟨g, 0, none⟩ /\ g < w.heap.size /\ ∀ j, j < n -> w.rangeAt g (j * 4) (Us (ys j))
section
variable {w w' : World} {A A' : Option Addr} {n cap cap' : Nat} {ys : Nat -> List (BitVec 32)} {V : BitVec 32 -> List (BitVec 32)}
theorem ReadsV.kept (h : ReadsV w A n cap ys) (hB : Below w.heap.size w w') : ReadsV w' A n cap ys :=
 ⟨h.le, h.max, h.four, fun hn => by
  obtain ⟨g, e, hlt, hc⟩ := h.cell hn
  exact ⟨g, e, Nat.lt_of_lt_of_le hlt hB.size, fun j hj => range_kept (hc j hj) (hB.block g hlt)⟩⟩
theorem vls_get (hV : ∀ n, (V n).length = 4) : ∀ (n j : Nat) (i : Nat) (u : Value), j < n -> (Us (V (BitVec.ofNat 32 j)))[i]? = some u -> (vls V n)[j * 4 + i]? = some u
 | 0, j, _, _, h, _ => by omega
 | n + 1, j, i, u, h, hu => by
   have hl : ∀ m, (vls V m).length = m * 4 := fun m => by
    induction m with
    | zero => rfl
    | succ m ih => rw [vls_succ, List.length_append, ih, Us_length, hV]; omega
   have hi : i < 4 := by
    have := (List.getElem?_eq_some_iff.1 hu).1
    rwa [Us_length, hV] at this
   rw [vls_succ]
   by_cases e : j = n
   ·subst e
    rw [List.getElem?_append_right (by rw [hl]; omega), hl, show j * 4 + i - j * 4 = i by omega]
    exact hu
   ·rw [List.getElem?_append_left (by rw [hl]; omega)]
    exact vls_get hV n j i u (by omega) hu
theorem own_readsV {base : Nat} {v : Value} (hV : ∀ n, (V n).length = 4) (h : w.ownsRow base 44 4 v n (vls V n)) : ∃ A cap, v = .slice A n cap /\ ReadsV w A n cap (fun j => V (BitVec.ofNat 32 j)) := by
 obtain ⟨hl, ⟨rfl, h0⟩ | ⟨g, cap, cur, rfl, hb, hg, hn, hm, hs, ht⟩⟩ := h
 ·subst h0
  exact ⟨none, 0, rfl, Nat.le_refl _, Nat.zero_le _, fun j hj => by omega, fun hn => by omega⟩
 ·refine ⟨_, cap, rfl, hn, hm, fun j _ => hV _, fun _ => ⟨g, rfl, (Array.getElem?_eq_some_iff.1 hg).1, fun j hj i u hu => ?_⟩⟩
  have hA : At w g 44 (vls V n ++ cur.toList.drop (n * 4)) := by
   rw [<- ht, List.take_append_drop]
   unfold At
   simpa using hg
  have h2 := vls_get hV n j i u hj hu
  rw [hA.cell, List.getElem?_append_left (List.getElem?_eq_some_iff.1 h2).1]
  exact h2
set_option maxRecDepth 100000 in
set_option maxHeartbeats 1000000 in
theorem same8_any (h1 : ReadsV w A n cap ys) (h2 : ReadsV w A' n cap' ys) (hn : n <= 1000) : Calls Tryz.prog 21 #[.slice A n cap, .slice A' n cap'] w fun e w' => e = .returned (.bool true) /\ Below w.heap.size w w' := by
 have H1 := Lib.hid h1
 have H2 := Lib.hid h2
 clear h1 h2
 go_enter Tryz.func21, Tryz.ntmps21
 go_wp2
 go_loopw [5] (fun i wr => ∃ j : Nat, j <= n /\ i = .int .i64 j /\ Below w.heap.size w wr) (fun i _ => n - (intOf i).toNat)
 case atStart => exact ⟨0, by omega, rfl, Below.refl _ _⟩
 case round =>
  obtain ⟨j, hj, rfl, hb⟩ := hrel
  have HB := Lib.hid hb
  clear hb
  by_cases hlt : j < n
  ·have j0 : (0 : Int) <= (j : Int) := by omega
   have j1 : (j : Int) < (n : Int) := by omega
   have hn' : (n : Int) <= 1000 := by omega
   obtain ⟨g, rfl, _, hc⟩ := (H1.out.kept HB.out).cell (by omega)
   obtain ⟨g', rfl, _, hc'⟩ := (H2.out.kept HB.out).cell (by omega)
   have r1 := hc j hlt
   have r2 := hc' j hlt
   have h4 := H1.out.four j hlt
   obtain ⟨y0, y1, y2, y3, hyy⟩ : ∃ a b c e, ys j = [a, b, c, e] := by
    generalize ys j = l at h4
    match l, h4 with
    | [a, b, c, e], _ => exact ⟨a, b, c, e, rfl⟩
   rw [hyy] at r1 r2
   have a0 : wr.cell? ⟨g, j * 4, none⟩ = some (.int .u32 (U y0)) := r1 0 _ rfl
   have a1 : wr.cell? ⟨g, j * 4 + 1, none⟩ = some (.int .u32 (U y1)) := r1 1 _ rfl
   have a2 : wr.cell? ⟨g, j * 4 + 2, none⟩ = some (.int .u32 (U y2)) := r1 2 _ rfl
   have a3 : wr.cell? ⟨g, j * 4 + 3, none⟩ = some (.int .u32 (U y3)) := r1 3 _ rfl
   have b0 : wr.cell? ⟨g', j * 4, none⟩ = some (.int .u32 (U y0)) := r2 0 _ rfl
   have b1 : wr.cell? ⟨g', j * 4 + 1, none⟩ = some (.int .u32 (U y1)) := r2 1 _ rfl
   have b2 : wr.cell? ⟨g', j * 4 + 2, none⟩ = some (.int .u32 (U y2)) := r2 2 _ rfl
   have b3 : wr.cell? ⟨g', j * 4 + 3, none⟩ = some (.int .u32 (U y3)) := r2 3 _ rfl
   clear hc hc' r1 r2 h4 hyy
   go_upto_region 6 with (fail)
   go_quiet (fail)
   rename_i nq _
   have HBQ : Hid (Below w.heap.size w (wr.drewN nq)) := Lib.hid (HB.out.trans ((below_drewN wr.heap.size wr nq).mono HB.out.size))
   go_wp2_with fail
   go_roundw
   case rel => exact ⟨j + 1, by omega, by go_num, HBQ.out⟩
   case measure => simp [intOf]; omega
  ·obtain rfl : j = n := by omega
   go_wp2
   go_ret
   exact ⟨rfl, HB.out⟩
set_option maxRecDepth 100000 in
set_option maxHeartbeats 1000000 in
theorem new8_any (n : Nat) (hn : n <= 1000) (w : World) : Calls Tryz.prog 15 #[.int .i64 n] w fun e w' => ∃ v, e = .returned v /\ w'.ownsRow w.heap.size 44 4 v n (vls (fun _ => d40) n) /\ Below w.heap.size w w' := by
 obtain ⟨i0, hin, hz0, hz1, hz2⟩ := info_parts v44_info
 have b0 := run_bv0
 have hn' : (n : Int) <= 1000 := by omega
 go_enter Tryz.func15, Tryz.ntmps15
 go_wp2
 go_loopw [3, 4] (fun v i wr => ∃ j : Nat, j <= n /\ i = .int .i64 j /\ wr.ownsRow w.heap.size 44 4 v j (vls (fun _ => d40) j) /\ Below w.heap.size w wr) (fun _ i _ => n - (intOf i).toNat)
 case atStart => exact ⟨0, by omega, rfl, World.ownsRow_nil _ _ _ _, Below.refl _ _⟩
 case round =>
  obtain ⟨j, hj, rfl, hrow, hb⟩ := hrel
  have HROW := Lib.hid hrow
  have HB := Lib.hid hb
  clear hrow hb
  by_cases hlt : j < n
  ·have j0 : (0 : Int) <= (j : Int) := by omega
   have j1 : (j : Int) < (n : Int) := by omega
   have HHB : Hid (w.heap.size <= (wr.alloc (.cells (Us d40).toArray 44)).heap.size) := Lib.hid (by have := HB.out.size; simp; omega)
   have FIN : Hid (∀ (w9 : World) (g cap : Nat), w9.ownsRow w.heap.size 44 4 (.slice (some ⟨g, 0, none⟩) (j + 1) cap) (j + 1) (vls (fun _ => d40) j ++ Us d40) -> (wr.alloc (.cells (Us d40).toArray 44)).grownBy w9 u3.ownBlock ->
     w9.ownsRow w.heap.size 44 4 (.slice (some ⟨g, 0, none⟩) (j + 1) cap) (j + 1) (vls (fun _ => d40) (j + 1)) /\ Below w.heap.size w w9) := Lib.hid (fun w9 g cap h1 h2 =>
    ⟨by rw [vls_succ]; exact h1, ((HB.out.alloc HB.out.size _).grown h2 HHB.out (fun k hk => (HROW.out.lt k hk).1))⟩)
   go_wp2_with (first
    | (refine wpList_appV (y := d40) (base := w.heap.size) (n := j) (xs := vls (fun _ => d40) j) (v := u3) hin hz0 hz1 hz2 (by rfl) _ _ rfl rfl rfl (Theirs.own_turned HROW.out ((Turned.refl NoBlock wr).alloc _) (fun _ _ h => h)) rfl (At.alloc_new _ _ _ rfl rfl) rfl (by omega) (by have := HHB.out; simp at this ⊢; omega) ?_; intro g9 cap9 w9 o9 n9 h9 l9; have HF := Lib.hid (FIN.out w9 g9 cap9 o9 n9); clear o9 n9 h9 l9))
   go_roundw
   case rel => exact ⟨j + 1, by omega, by go_num, HF.out.1, HF.out.2⟩
   case measure => simp [intOf]; omega
  ·obtain rfl : j = n := by omega
   go_wp2
   go_ret
   exact ⟨_, rfl, HROW.out, HB.out⟩
end
end
section
open Go.RowKit Bm Go.Shelf
def putV (V : BitVec 32 -> List (BitVec 32)) (at_ : Int) (y : List (BitVec 32)) (s : BitVec 32) : List (BitVec 32) := if U s = at_ then y else V s
theorem own_lower {w : World} {b0 b1 n k : Nat} {t : TypeId} {v : Value} {xs : List Value} (h : w.ownsRow b1 t k v n xs) (hb : b0 <= b1) : w.ownsRow b0 t k v n xs := by
 obtain ⟨hl, h | ⟨g, cap, cur, e, h1, h2⟩⟩ := h
 ·exact ⟨hl, .inl h⟩
 ·exact ⟨hl, .inr ⟨g, cap, cur, e, Nat.le_trans hb h1, h2⟩⟩
section
variable {w w' : World} {A : Option Addr} {n cap : Nat} {V : BitVec 32 -> List (BitVec 32)}
set_option maxRecDepth 100000 in
set_option maxHeartbeats 1000000 in
theorem put8_any (h : ReadsV w A n cap (fun j => V (BitVec.ofNat 32 j))) (hn : n <= 1000) (at_ : Int) (z0 z1 z2 z3 : BitVec 32) :
  Calls Tryz.prog 17 #[.slice A n cap, .int .i64 at_, .agg #[.int .u32 (U z0), .int .u32 (U z1), .int .u32 (U z2), .int .u32 (U z3)]] w fun e w' => ∃ v, e = .returned v /\ w'.ownsRow w.heap.size 44 4 v n (vls (putV V at_ [z0, z1, z2, z3]) n) /\ Below w.heap.size w w' := by
 obtain ⟨i0, hin, hz0, hz1, hz2⟩ := info_parts v44_info
 have hn' : (n : Int) <= 1000 := by omega
 obtain ⟨W0, hW0⟩ : ∃ W0, W0 = w.alloc (.cells #[.int .u32 (U z0), .int .u32 (U z1), .int .u32 (U z2), .int .u32 (U z3)] 44) := ⟨_, rfl⟩
 have hW0' := hW0.symm
 have A0 : At W0 w.heap.size 44 (Us [z0, z1, z2, z3]) := by rw [hW0]; exact At.news w _ _
 have B0 : Below w.heap.size w W0 := by rw [hW0]; exact (Below.refl _ w).alloc (Nat.le_refl _) _
 have HR := Lib.hid (h.kept B0)
 have HA0 := Lib.hid A0
 have HB0 := Lib.hid B0
 obtain ⟨bx, hbx⟩ : ∃ bx, bx = w.heap.size := ⟨_, rfl⟩
 rw [<- hbx] at HA0
 have HBX := Lib.hid hbx
 have HBXL : Hid (bx < W0.heap.size) := Lib.hid HA0.out.lt
 clear h A0 B0 hW0 hbx
 go_enter Tryz.func17, Tryz.ntmps17
 go_upto_region 1 with (fail)
 rw [<- HBX.out]
 clear hW0'
 go_wp2
 go_loopw [7, 8] (fun v i wr => ∃ j : Nat, j <= n /\ i = .int .i64 j /\ wr.ownsRow W0.heap.size 44 4 v j (vls (putV V at_ [z0, z1, z2, z3]) j) /\ Below W0.heap.size W0 wr) (fun _ i _ => n - (intOf i).toNat)
 case atStart => exact ⟨0, by omega, rfl, World.ownsRow_nil _ _ _ _, Below.refl _ _⟩
 case round =>
  obtain ⟨j, hj, rfl, hrow, hb⟩ := hrel
  have HROW := Lib.hid hrow
  have HB := Lib.hid hb
  clear hrow hb
  by_cases hlt : j < n
  ·have j0 : (0 : Int) <= (j : Int) := by omega
   have j1 : (j : Int) < (n : Int) := by omega
   have hU : U (BitVec.ofNat 32 j) = (j : Int) := U_ofNat j (by omega)
   have HU := Lib.hid hU
   clear hU
   have FIN : Hid (∀ (y : List (BitVec 32)) (w9 : World) (g cap : Nat), putV V at_ [z0, z1, z2, z3] (BitVec.ofNat 32 j) = y -> w9.ownsRow W0.heap.size 44 4 (.slice (some ⟨g, 0, none⟩) (j + 1) cap) (j + 1) (vls (putV V at_ [z0, z1, z2, z3]) j ++ Us y) -> (wr.alloc (.cells (Us y).toArray 44)).grownBy w9 u7.ownBlock ->
     w9.ownsRow W0.heap.size 44 4 (.slice (some ⟨g, 0, none⟩) (j + 1) cap) (j + 1) (vls (putV V at_ [z0, z1, z2, z3]) (j + 1)) /\ Below W0.heap.size W0 w9) := Lib.hid (fun y w9 g cap e h1 h2 =>
    ⟨by rw [vls_succ, e]; exact h1, ((HB.out.alloc HB.out.size _).grown h2 (by have := HB.out.size; simp; omega) (fun k hk => (HROW.out.lt k hk).1))⟩)
   have HSZ : Hid (W0.heap.size <= wr.heap.size) := Lib.hid HB.out.size
   by_cases he : (j : Int) = at_
   ·have e1 : ((j : Int) == at_) = true := by rw [beq_iff_eq]; exact he
    have HY : Hid (putV V at_ [z0, z1, z2, z3] (BitVec.ofNat 32 j) = [z0, z1, z2, z3]) := Lib.hid (if_pos (HU.out.trans he))
    have hA := HA0.out.kept (Turned.of_below HB.out (Nat.le_refl _) NoBlock) (fun h => h)
    have c0 : wr.cell? ⟨bx, 0, none⟩ = some (.int .u32 (U z0)) := hA.cell 0
    have c1 : wr.cell? ⟨bx, 1, none⟩ = some (.int .u32 (U z1)) := hA.cell 1
    have c2 : wr.cell? ⟨bx, 2, none⟩ = some (.int .u32 (U z2)) := hA.cell 2
    have c3 : wr.cell? ⟨bx, 3, none⟩ = some (.int .u32 (U z3)) := hA.cell 3
    clear hA he
    go_wp2_with (first
     | (refine wpList_appV (y := [z0, z1, z2, z3]) (base := W0.heap.size) (n := j) (xs := vls (putV V at_ [z0, z1, z2, z3]) j) (v := u7) hin hz0 hz1 hz2 (by rfl) _ _ rfl rfl rfl (Theirs.own_turned HROW.out ((Turned.refl NoBlock wr).alloc _) (fun _ _ h => h)) rfl (At.alloc_new _ _ _ rfl rfl) rfl (by omega) (by have := HSZ.out; simp; omega) ?_; intro g9 cap9 w9 o9 n9 h9 l9; have HF := Lib.hid (FIN.out _ w9 g9 cap9 HY.out o9 n9); clear o9 n9 h9 l9))
    go_roundw
    case rel => exact ⟨j + 1, by omega, by go_num, HF.out.1, HF.out.2⟩
    case measure => simp [intOf]; omega
   ·have e1 : ((j : Int) == at_) = false := by rw [beq_eq_false_iff_ne]; exact he
    obtain ⟨g, rfl, _, hc⟩ := (HR.out.kept HB.out).cell (by omega)
    have r1 := hc j hlt
    have h4 := HR.out.four j hlt
    obtain ⟨y0, y1, y2, y3, hyy⟩ : ∃ a b c e, V (BitVec.ofNat 32 j) = [a, b, c, e] := by
     generalize V (BitVec.ofNat 32 j) = l at h4
     match l, h4 with
     | [a, b, c, e], _ => exact ⟨a, b, c, e, rfl⟩
    rw [hyy] at r1
    have HY : Hid (putV V at_ [z0, z1, z2, z3] (BitVec.ofNat 32 j) = [y0, y1, y2, y3]) := Lib.hid (by
     unfold putV
     rw [if_neg (fun e => he (HU.out.symm.trans e)), hyy])
    have a0 : wr.cell? ⟨g, j * 4, none⟩ = some (.int .u32 (U y0)) := r1 0 _ rfl
    have a1 : wr.cell? ⟨g, j * 4 + 1, none⟩ = some (.int .u32 (U y1)) := r1 1 _ rfl
    have a2 : wr.cell? ⟨g, j * 4 + 2, none⟩ = some (.int .u32 (U y2)) := r1 2 _ rfl
    have a3 : wr.cell? ⟨g, j * 4 + 3, none⟩ = some (.int .u32 (U y3)) := r1 3 _ rfl
    clear hc r1 h4 hyy he
    go_wp2_with (first
     | (refine wpList_appV (y := [y0, y1, y2, y3]) (base := W0.heap.size) (n := j) (xs := vls (putV V at_ [z0, z1, z2, z3]) j) (v := u7) hin hz0 hz1 hz2 (by rfl) _ _ rfl rfl rfl (Theirs.own_turned HROW.out ((Turned.refl NoBlock wr).alloc _) (fun _ _ h => h)) rfl (At.alloc_new _ _ _ rfl rfl) rfl (by omega) (by have := HSZ.out; simp; omega) ?_; intro g9 cap9 w9 o9 n9 h9 l9; have HF := Lib.hid (FIN.out _ w9 g9 cap9 HY.out o9 n9); clear o9 n9 h9 l9))
    go_roundw
    case rel => exact ⟨j + 1, by omega, by go_num, HF.out.1, HF.out.2⟩
    case measure => simp [intOf]; omega
  ·obtain rfl : j = n := by omega
   go_wp2
   go_ret
   exact ⟨_, rfl, own_lower HROW.out HB0.out.size, HB0.out.trans (HB.out.mono HB0.out.size)⟩
end
end
section
open Go.RowKit Bm Go.Shelf
section
variable {B p f q k : Nat} {K : Nat -> Prop} {d : DrvM} {w w' : World}
set_option maxRecDepth 100000 in
theorem dnewK_any (B p f k : Nat) (K : Nat -> Prop) (m : FlashM) (w : World) (s : StK B p f K m w) (ok : FlashOk k m) : Calls Tryz.prog 39 #[.pointer (some ⟨f, 0, none⟩), .int .i64 k] w fun e w' => ∃ q, e = .returned (.pointer (some ⟨q, 0, none⟩)) /\ Dv B p f q k K ⟨m, 0⟩ w' /\ Below w.heap.size w w' := by
 have k1 := ok.chip.k1
 have k2 := ok.chip.k2
 have hs := s.size
 have b := (Below.refl w.heap.size w).alloc (Nat.le_refl _) (.cells (drvCells f k 0).toArray 122)
 have hq : May B K w.heap.size := ⟨hs, fun e => by have := s.kin _ e; omega⟩
 have sK := (s.more b w.heap.size (Nat.le_refl _) (by rw [World.size_alloc]; omega))
 have SK := Lib.hid sK
 have HB := Lib.hid b
 have HQ := Lib.hid hq
 clear s ok sK b hq
 go_enter Tryz.func39, Tryz.ntmps39
 go_wp2
 go_ret
 exact ⟨w.heap.size, rfl, ⟨SK.out, At.alloc_new _ _ _ rfl rfl, HQ.out⟩, HB.out⟩
def AgainW (B p k : Nat) (K : Nat -> Prop) (d : DrvM) (w : World) (e : Ending) (w' : World) : Prop :=
 ∃ f q, e = .returned (.tuple #[.agg #[.pointer (some ⟨p, 0, none⟩), .pointer (some ⟨q, 0, none⟩)], .bool true]) /\ Dv B p f q k K ⟨fNew (mOn d.f.chip), 0⟩ w' /\ Turned (May B K) w w'
theorem wd_len : (Tryz.prog.info? 27).map (·.size) = some 2 := by kernel_rfl
set_option maxRecDepth 100000 in
set_option maxHeartbeats 1000000 in
theorem again_any (q0 : Nat) (h : Dv B p f q k K d w) (ok : DrvOk k d) : Calls Tryz.prog 26 #[.agg (wdC p q0).toArray] w (AgainW B p k K d w) := by
 obtain ⟨W0, hW0⟩ : ∃ W0, W0 = (w.alloc (.cells (wdC p q0).toArray 27)).alloc (.cells #[.pointer none, .pointer none] 27) := ⟨_, rfl⟩
 have hW0' := hW0.symm
 have B1 : Below w.heap.size w W0 := by rw [hW0]; exact ((Below.refl _ w).alloc (Nat.le_refl _) _).alloc (by simp) _
 have Z0 : W0.heap.size = w.heap.size + 1 + 1 := by rw [hW0]; simp
 have A1 : At W0 w.heap.size 27 (wdC p q0) := by
  rw [hW0]
  exact (At.news w _ _).kept (Turned.of_below ((Below.refl _ _).alloc (Nat.le_refl _) _) (Nat.le_refl _) NoBlock) (fun h => h)
 have A2 : At W0 (w.heap.size + 1) 27 wd0 := by
  have e : w.heap.size + 1 = (w.alloc (.cells (wdC p q0).toArray 27)).heap.size := by simp
  rw [hW0, e]
  exact At.news _ _ _
 have s0 : StK B p f K d.f w := h.st.less (fun i e => .inl e)
 have s1 := s0.renew B1 (K' := fun i => (K i \/ i = w.heap.size) \/ i = w.heap.size + 1) (fun i e => by
  rcases e with (e | e) | e
  ·have := s0.kin i e; exact ⟨.inl e, by omega⟩
  ·exact ⟨.inr (by omega), by omega⟩
  ·exact ⟨.inr (by omega), by omega⟩)
 obtain ⟨⟨hh, hp, hf, x, ho⟩, hs, hk⟩ := s1
 have hl : 1 <= d.f.chip.wear.length := by rw [ok.ok.chip.wears]; exact ok.ok.chip.k1
 have hn : (d.f.chip.wear.length : Int) = (k : Int) := by rw [ok.ok.chip.wears]
 have ON := on_any hh.c d.f.chip W0 x.chip hl
 have HON := Lib.hid ON
 have HA1 := Lib.hid A1
 have HA2 := Lib.hid A2
 have HB1 := Lib.hid B1
 have HZ0 := Lib.hid Z0
 have HO := Lib.hid ho
 have HK := Lib.hid hk
 have HS := Lib.hid hs
 have HL := Lib.hid hl
 have HN := Lib.hid hn
 have HOK := Lib.hid ok
 have HKI := Lib.hid s0.kin
 have HSZ := Lib.hid s0.size
 obtain ⟨bx, hbx⟩ : ∃ bx, bx = w.heap.size := ⟨_, rfl⟩
 rw [<- hbx] at HA1 HA2 HZ0 HO HK
 have HBX := Lib.hid hbx
 clear ON A1 A2 B1 Z0 ho hk hs hl hn ok h s0 hW0 x hbx
 subst hp
 go_enter Tryz.func26, Tryz.ntmps26
 go_upto_region 1 with (fail)
 rw [<- HBX.out]
 clear hW0'
 have c00 := HA1.out.cell 0
 simp only [wdC, List.getElem?_cons_zero] at c00
 go_upto_region 2 with (first
  | (go_at_call 46; (with_reducible refine HON.out.mono ?_); rintro e w1 ⟨rfl, hc, ht⟩; have HC := Lib.hid hc; have HT := Lib.hid ht; clear hc ht))
 have FN := Lib.hid (fnew_any hh.c (mOn d.f.chip) w1 HC.out HL.out)
 have HA1' := Lib.hid (HA1.out.kept HT.out (fun e => (HO.out _ (.inl e)).2 (.inl (.inr rfl))))
 have HA2' := Lib.hid (HA2.out.kept HT.out (fun e => (HO.out _ (.inl e)).2 (.inr rfl)))
 have c0 := HA1'.out.cell 0
 simp only [wdC, List.getElem?_cons_zero] at c0
 go_upto_region 3 with (first
  | (go_at_call 38; (with_reducible refine FN.out.mono ?_); rintro e w2 ⟨f', l', rfl, x2, hf2, hl2, hB2⟩; have X2 := Lib.hid x2; have HF := Lib.hid hf2; have HL2 := Lib.hid hl2; have HB2 := Lib.hid hB2; clear x2 hf2 hl2 hB2))
 have HA1b := Lib.hid (HA1'.out.kept (Turned.of_below HB2.out (Nat.le_refl _) NoBlock) (fun h => h))
 have HA2b := Lib.hid (HA2'.out.kept (Turned.of_below HB2.out (Nat.le_refl _) NoBlock) (fun h => h))
 have HSK : Hid (StK B hh.c.p f' (fun i => (K i \/ i = bx) \/ i = bx + 1) (fNew (mOn d.f.chip)) w2) := Lib.hid (by
  have h1 := HT.out.size
  have h2 := HB2.out.size
  have h3 := HF.out
  have h4 := HL2.out
  have h5 := HS.out
  refine ⟨⟨⟨hh.c, f', l', 0, 0, 0⟩, rfl, rfl, X2.out, fun i hi => ?_⟩, by omega, fun i e => by have := HK.out i e; omega⟩
  rcases hi with e | e | e
  ·exact HO.out i (.inl e)
  ·simp only at e
   exact ⟨by omega, fun e2 => by have := HK.out i e2; omega⟩
  ·simp only at e
   exact ⟨by omega, fun e2 => by have := HK.out i e2; omega⟩)
 have bl := blocks_any hh.c (mOn d.f.chip) w2 X2.out.chip
 rw [show ((mOn d.f.chip).wear.length : Int) = (k : Int) from HN.out] at bl
 have BL := Lib.hid bl
 have DN := Lib.hid (dnewK_any B hh.c.p f' k _ _ w2 HSK.out (FlashOk.new HOK.out.ok.chip.on))
 have d0 := HA1b.out.cell 0
 simp only [wdC, List.getElem?_cons_zero] at d0
 clear c0 bl
 go_upto_region 5 with (fail)
 go_upto_region 6 with (first
  | (go_at_call 45; (with_reducible refine BL.out.mono ?_); rintro e w3 ⟨rfl, rfl⟩)
  | (go_at_call 39; (with_reducible refine DN.out.mono ?_); rintro e w3 ⟨q', rfl, s3, hB3⟩; have HS3 := Lib.hid s3; have HB3 := Lib.hid hB3; have HA3 := Lib.hid (HA1b.out.kept (Turned.of_below hB3 (Nat.le_refl _) NoBlock) (fun h => h)); have HA3b := Lib.hid (HA2b.out.kept (Turned.of_below hB3 (Nat.le_refl _) NoBlock) (fun h => h)); have e1 := HA3.out.cell 1; have f1 := HA3.out.frozen 1; simp only [wdC, List.getElem?_cons_succ, List.getElem?_cons_zero] at e1; clear s3 hB3))
 obtain ⟨w4, hw4⟩ : ∃ w4, w4 = w3.setCell ⟨bx, 1, none⟩ (.pointer (some ⟨q', 0, none⟩)) := ⟨_, rfl⟩
 have HA4 : Hid (At w4 bx 27 (wdC hh.c.p q')) := Lib.hid (by rw [hw4]; exact HA3.out.put 1 _)
 have HT4 : Hid (Turned (Just bx) w3 w4) := Lib.hid (by rw [hw4]; exact (Turned.refl (Just bx) w3).setCell (p := ⟨bx, 1, none⟩) (fun _ => rfl) _)
 have HA4b : Hid (At w4 (bx + 1) 27 wd0) := Lib.hid (HA3b.out.kept HT4.out (fun e => by unfold Just at e; omega))
 have i0 := HA4.out.cell 0
 have i1 := HA4.out.cell 1
 simp only [wdC, List.getElem?_cons_succ, List.getElem?_cons_zero] at i0 i1
 rw [<- hw4]
 clear hw4 d0 e1 f1
 have hne : bx ≠ bx + 1 := by omega
 have k0 := HA4b.out.cell 0
 have k1 := HA4b.out.cell 1
 have l0 := HA4b.out.frozen 0
 have l1 := HA4b.out.frozen 1
 simp only [wd0, List.getElem?_cons_succ, List.getElem?_cons_zero] at k0 k1
 have hwl := wd_len
 have hwu := Tryz.underlying27
 go_region
 go_wp2
 obtain ⟨w5, hw5⟩ : ∃ w5, w5 = ((w4.setCell ⟨bx + 1, 0, none⟩ (.pointer (some ⟨hh.c.p, 0, none⟩))).setCell ⟨bx + 1, 1, none⟩ (.pointer (some ⟨q', 0, none⟩))).drew := ⟨_, rfl⟩
 have A5 : At w5 (bx + 1) 27 (wdC hh.c.p q') := by
  rw [hw5]
  exact (HA4b.out.put 0 _).put 1 _
 have T5 : Turned (Just (bx + 1)) w4 w5 := by
  rw [hw5]
  exact (((Turned.refl (Just (bx + 1)) w4).setCell (p := ⟨bx + 1, 0, none⟩) (fun _ => rfl) _).setCell (p := ⟨bx + 1, 1, none⟩) (fun _ => rfl) _).drew
 rw [<- hw5]
 refine bodyPost_ret (wd_res2 (cs := wdC hh.c.p q') Tryz.results26 _ rfl rfl A5 rfl) rfl ⟨f', q', rfl, ?_, ?_⟩
 ·exact ((HS3.out.lones rfl (S := Just bx) (fun i e => .inl (.inr e)) HT4.out).lones rfl (S := Just (bx + 1)) (fun i e => .inr e) T5).less (fun i e => .inl (.inl e))
 ·have z0 := HBX.out
  have z1 := HSZ.out
  have m1 : May B K bx := ⟨by omega, fun e => by have := HKI.out _ e; omega⟩
  have m2 : May B K (bx + 1) := ⟨by omega, fun e => by have := HKI.out _ e; omega⟩
  have t1 : Turned (May B K) w W0 := Turned.of_below HB1.out (Nat.le_refl _) _
  have t2 : Turned (May B K) W0 w1 := HT.out.mono fun i _ e => ⟨(HO.out i (.inl e)).1, fun e2 => (HO.out i (.inl e)).2 (.inl (.inl e2))⟩
  have t3 := Turned.of_below HB2.out (Nat.le_refl _) (May B K)
  have t4 := Turned.of_below HB3.out (Nat.le_refl _) (May B K)
  have t5 : Turned (May B K) w3 w4 := HT4.out.mono fun i _ e => by rw [show i = bx from e]; exact m1
  have t6 : Turned (May B K) w4 w5 := T5.mono fun i _ e => by rw [show i = bx + 1 from e]; exact m2
  exact ((((t1.trans t2).trans t3).trans t4).trans t5).trans t6
end
end
section
open Go.RowKit Bm Go.Shelf
section
variable {C : Prop} {B p f q s k : Nat} {K : Nat -> Prop} {Q W T E : Int} {V : BitVec 32 -> List (BitVec 32)} {d : DrvM} {x : StoM} {w w' : World}
end
end
end Go.Proofs.YtnfgpjfldgocaaaGreat
