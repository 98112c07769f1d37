/- The document's device of layer sector: plain data, and the contract of its Get. -/
import Derived.Test.YtpkkejdjhnmjiaaSec1
import Derived.Test.YtpkkejdjhnmjiaaHold
namespace Go.Proofs.Ytpkkejdjhnmjiaa
set_option linter.unusedSimpArgs false
open Go.RowKit Bm

/-- A device: its registers, its buffer, the place in it, the disk's sectors. -/
structure DvM where
  first : BitVec 32
  many : BitVec 32
  err : BitVec 32
  line : BitVec 32
  buf : List (BitVec 32)
  place : Nat
  disk : List V4
  deriving DecidableEq, Inhabited
structure DvOk (d : DvM) : Prop where
  b : d.buf.length = 16
  p : d.place < 16
  few : d.disk.length ≤ 1000
def dvC (sl : Value) (d : DvM) : List Value := [.int .u32 (U d.first), .int .u32 (U d.many), .int .u32 (U d.err), .int .u32 (U d.line)] ++ (Us d.buf ++ [.int .i64 d.place, sl])
theorem dv_len {sl : Value} {d : DvM} (h : DvOk d) : (dvC sl d).length = 22 := by
  unfold dvC
  rw [List.length_append, List.length_append, Us_length, h.b]
  rfl
theorem dv_one {A : Option Addr} {n c : Nat} (d : DvM) : ∀ u ∈ dvC (.slice A n c) d, u.oneCell' = true := by
  intro u hu
  simp only [dvC, List.mem_append, List.mem_cons, List.not_mem_nil, or_false] at hu
  rcases hu with (rfl | rfl | rfl | rfl) | hu | rfl | rfl
  · rfl
  · rfl
  · rfl
  · rfl
  · exact Us_one _ u hu
  · rfl
  · rfl
def dvZ : List Value := [.int .u32 0, .int .u32 0, .int .u32 0, .int .u32 0] ++ (List.replicate 16 (.int .u32 0) ++ [.int .i64 0, .slice none 0 0])
theorem dvZ_len : dvZ.length = 22 := rfl
theorem dv_size : (Try.prog.info? 34).map (·.size) = some 22 := by kernel_rfl
theorem dv_infoZ : (Try.prog.info? 34).map (fun i => (i.zero, i.size)) = some (some (.agg dvZ.toArray), 22) := by kernel_rfl
theorem dv_zero (w : World) : (zeroValue 34).run Try.prog w = .ok (.agg dvZ.toArray) w := (zero_of_info dv_infoZ).1 w
section
variable {W : World} {b : Nat} {sl : Value} {d : DvM}
theorem dv_cells (h : At W b 34 (dvC sl d)) (ok : DvOk d) : W.cell? ⟨b, 0, none⟩ = some (.int .u32 (U d.first)) ∧ W.cell? ⟨b, 1, none⟩ = some (.int .u32 (U d.many)) ∧ W.cell? ⟨b, 2, none⟩ = some (.int .u32 (U d.err)) ∧ W.cell? ⟨b, 3, none⟩ = some (.int .u32 (U d.line)) ∧ W.cell? ⟨b, 20, none⟩ = some (.int .i64 d.place) ∧ W.cell? ⟨b, 21, none⟩ = some sl := by
  refine ⟨h.cell 0, h.cell 1, h.cell 2, h.cell 3, ?_, ?_⟩
  · rw [h.cell 20]
    unfold dvC
    rw [List.getElem?_append_right (by simp), List.getElem?_append_right (by rw [Us_length, ok.b]; simp), Us_length, ok.b]
    rfl
  · rw [h.cell 21]
    unfold dvC
    rw [List.getElem?_append_right (by simp), List.getElem?_append_right (by rw [Us_length, ok.b]; simp), Us_length, ok.b]
    rfl
theorem dv_word (h : At W b 34 (dvC sl d)) (ok : DvOk d) {j : Nat} (hj : j < 16) : W.cell? ⟨b, 4 + j, none⟩ = some (.int .u32 (U (wd d.buf j))) := by
  rw [h.cell (4 + j)]
  unfold dvC
  rw [List.getElem?_append_right (by simp), show 4 + j - [Value.int .u32 (U d.first), .int .u32 (U d.many), .int .u32 (U d.err), .int .u32 (U d.line)].length = j by simp, List.getElem?_append_left (by rw [Us_length, ok.b]; exact hj)]
  exact Us_get _ _ (by rw [ok.b]; exact hj)
end
/-- What a register tells, and what the device is then. -/
def dNext (p : Nat) : Nat := (p + 1) % 16
def dGet (d : DvM) (reg : Int) : DvM × BitVec 32 × Int :=
  if reg = 0 then (d, 0#32, 0) else if reg = 1 then (d, d.first, 0) else if reg = 2 then (d, d.many, 0)
  else if reg = 3 then (if U d.err = 0 then (d, 1#32, 0) else (d, 3#32, 0)) else if reg = 4 then (d, d.err, 0)
  else if reg = 5 then ({ d with place := dNext d.place }, wd d.buf d.place, 0) else if reg = 6 then (d, BitVec.ofNat 32 d.disk.length, 0)
  else if reg = 7 then (d, d.line, 0) else (d, 0#32, 3)

def V2 (w : World) (cs : List Value) : World := (w.alloc (.cells cs.toArray 34)).alloc (.cells dvZ.toArray 34)
theorem V2_a (w : World) (cs : List Value) : At (V2 w cs) w.heap.size 34 cs := (At.news w _ _).alloc _
theorem V2_b (w : World) (cs : List Value) : At (V2 w cs) (w.heap.size + 1) 34 dvZ := At.alloc_new _ _ _ (by rw [World.size_alloc]) rfl
theorem V2_below (w : World) (cs : List Value) : Below w.heap.size w (V2 w cs) := below_two w _ _
theorem V2_size (w : World) (cs : List Value) : (V2 w cs).heap.size = w.heap.size + 2 := by unfold V2; rw [World.size_alloc, World.size_alloc]
theorem res_cell3 {P : Program} {fn : Func} {p q r : Tmp} {T : TypeId} {d : TypeDesc} {n : Nat} (h : fn.results = #[.cell p T, .tmp q, .tmp r]) (tmps : Array Value) {w : World} {g : Nat} {cs : List Value} {v u : Value} (hu : P.underlying T = some d) (hd : d.isRow = true) (hi : (P.info? T).map (·.size) = some n) (hp : tmps.getD p undef = .pointer (some ⟨g, 0, none⟩)) (hq : tmps.getD q undef = v) (hr : tmps.getD r undef = u) (hA : At w g T cs) (hn : cs.length = n) : (results fn tmps).run P w = .ok (.tuple #[.agg cs.toArray, v, u]) w := by
  have hp' : tmps[p]?.getD undef = .pointer (some ⟨g, 0, none⟩) := by simpa using hp
  have hq' : tmps[q]?.getD undef = v := by simpa using hq
  have hr' : tmps[r]?.getD undef = u := by simpa using hr
  simp [results, h, hp', hq', hr', asAddr, run_loadVar_row (P := P) w g T T cs.toArray (0, 0) _ hA hu (by cases d <;> exact hd) (by rw [hi]; simp [hn])]


theorem dv_place {sl : Value} {d : DvM} (ok : DvOk d) : (dvC sl d).set 20 (.int .i64 (((d.place : Int) + 1) % 16)) = dvC sl { d with place := dNext d.place } := by
  have hp : ((dNext d.place : Nat) : Int) = ((d.place : Int) + 1) % 16 := by unfold dNext; omega
  unfold dvC
  rw [List.set_append_right _ _ (by simp), List.set_append_right _ _ (by rw [Us_length, ok.b]; simp), Us_length, ok.b, hp]
  rfl
theorem dv_ok5 {d : DvM} (ok : DvOk d) : DvOk { d with place := dNext d.place } := ⟨ok.b, by simp only [dNext]; omega, ok.few⟩
theorem wrap_small {n : Nat} (h : n ≤ 1000) : IntKind.u32.wrap (n : Int) = (n : Int) := by
  show (n : Int) % 4294967296 = n
  omega
theorem U_small {n : Nat} (h : n ≤ 1000) : U (BitVec.ofNat 32 n) = (n : Int) := by
  unfold U
  rw [BitVec.toNat_ofNat, Nat.mod_eq_of_lt (by omega)]

set_option maxRecDepth 100000 in
set_option maxHeartbeats 4000000 in
theorem rget10_any (A : Option Addr) (c : Nat) (d : DvM) (ok : DvOk d) (reg : Int) (w : World) :
    Calls Try.prog 16 #[.agg (dvC (.slice A d.disk.length c) d).toArray, .int .i64 reg] w fun e w' => e = .returned (.tuple #[.agg (dvC (.slice A d.disk.length c) (dGet d reg).1).toArray, .int .u32 (U (dGet d reg).2.1), .int .i64 (dGet d reg).2.2]) ∧ Below w.heap.size w w' := by
  obtain ⟨W0, hW0⟩ : ∃ W0, W0 = V2 w (dvC (.slice A d.disk.length c) d) := ⟨_, rfl⟩
  have hz := dv_zero
  have a0 := V2_a w (dvC (.slice A d.disk.length c) d)
  have a1 := V2_b w (dvC (.slice A d.disk.length c) d)
  have b0 := V2_below w (dvC (.slice A d.disk.length c) d)
  have s0 := V2_size w (dvC (.slice A d.disk.length c) d)
  have hW1 := hW0
  unfold V2 at hW1
  rw [← hW0] at a0 a1 b0 s0
  obtain ⟨c0, c1, c2, c3, c20, c21⟩ := dv_cells a0 ok
  have HA0 := Lib.hid a0
  have HA1 := Lib.hid a1
  have HB0 := Lib.hid b0
  have HS0 := Lib.hid s0
  have HOK := Lib.hid ok
  have hl := dv_len (sl := .slice A d.disk.length c) ok
  have HL := Lib.hid hl
  have fin : ∀ V, Turned (Just (w.heap.size + 1)) W0 V → Below w.heap.size w V := fun V h => b0.trans (below_just h (by omega) (by omega))
  have HFIN := Lib.hid fin
  clear a0 a1 b0 s0 hW0 hl fin
  go_enter Try.func16, Try.ntmps16
  go_upto_region 1 with (fail)
  change Code.wp _ _ _ _ ((w.alloc (.cells (dvC (.slice A d.disk.length c) d).toArray 34)).alloc (.cells dvZ.toArray 34))
  rw [← hW1]
  clear hW1
  by_cases r0 : reg = 0
  · have HG : Hid (dGet d reg = (d, 0#32, 0)) := Lib.hid (by unfold dGet; rw [if_pos r0])
    have e0 : (reg == 0) = true := by rw [beq_iff_eq]; exact r0
    clear r0
    go_wp2_with (first
          | (refine wpList_ldr (xs := dvC (.slice A d.disk.length c) d) _ rfl rfl rfl Try.underlying34 rfl dv_size HL.out HA0.out.rng0 ?_)
          | (refine wpList_stm (pre := []) (post := []) (xs := dvZ) (ys := dvC (.slice A d.disk.length c) d) _ _ rfl rfl rfl rfl dv_size dvZ_len HL.out (dv_one _) rfl (by simp) HA1.out ?_; intro V A9 T9; rw [List.nil_append, List.append_nil] at A9; have HA9 := Lib.hid A9; have HT9 := Lib.hid T9; clear A9 T9))
    refine bodyPost_ret (res_cell3 Try.results16 _ Try.underlying34 rfl dv_size rfl rfl rfl HA9.out HL.out) rfl ?_
    rw [HG.out]
    exact ⟨rfl, HFIN.out _ HT9.out⟩
  have e0 : (reg == 0) = false := by rw [beq_eq_false_iff_ne]; exact r0
  by_cases r1 : reg = 1
  · have HG : Hid (dGet d reg = (d, d.first, 0)) := Lib.hid (by unfold dGet; rw [if_neg r0, if_pos r1])
    have e1 : (reg == 1) = true := by rw [beq_iff_eq]; exact r1
    clear r0 r1
    go_upto_region 5 with (fail)
    have e9 : ∀ W, Turned (Just (w.heap.size + 1)) W0 W → At W w.heap.size 34 (dvC (.slice A d.disk.length c) d) := fun W h => HA0.out.kept h (by unfold Just; omega)
    have SD : Turned (Just (w.heap.size + 1)) W0 W0.drew := (Turned.refl _ _).drew
    refine wp_region_held_drew (S := fun W => Turned (Just (w.heap.size + 1)) W0 W) (by kernel_rfl) SD ?_
    intro S0
    replace S0 : Turned (Just (w.heap.size + 1)) W0 W0.drew := SD
    refine aT 0 (.agg (dvC (.slice A d.disk.length c) d).toArray) rfl ?_ (h2 := fun W hS => (load_is _ _ _ _ _ _ _ _ W).trans (load_at Try.underlying34 rfl dv_size (e9 W hS).rng0 HL.out)); simp only [see1, see2, see3, Act.put, see4, see5, see6]
    refine aT 1 (.pointer (some ⟨w.heap.size, 0, none⟩)) rfl ?_; simp only [see1, see2, see3, Act.put, see4, see5, see6]
    refine aT 2 (.int .u32 (U d.first)) rfl ?_ (h2 := fun W hS => by have c0 := (fun W hS => (dv_cells (e9 W hS) HOK.out).1) W hS; go_simp; done); simp only [see1, see2, see3, Act.put, see4, see5, see6]
    refine aS 3 (pre := []) (post := []) (xs := dvZ) (ys := dvC (.slice A d.disk.length c) d) _ _ rfl rfl rfl rfl dv_size dvZ_len HL.out (dv_one _) rfl (by simp) (HA1.out.drew) ?_
    intro V A9 T9
    rw [List.nil_append, List.append_nil] at A9
    have HA9 := Lib.hid A9
    have T8 : Turned (Just (w.heap.size + 1)) W0 V := S0.trans T9
    have HT9 := Lib.hid T8
    clear A9 T9
    refine ⟨T8, ?_⟩
    simp only [see1, see2, see3, Act.put, see4, see5, see6]
    refine aT 4 (.int .u32 (U d.first)) rfl ?_; simp only [see1, see2, see3, Act.put, see4, see5, see6]
    refine aT 5 (.int .i64 0) rfl ?_; simp only [see1, see2, see3, Act.put, see4, see5, see6]
    refine wpAnyH_done (by kernel_rfl) ?_ _
    go_wp2_with (fail)
    refine bodyPost_ret (res_cell3 Try.results16 _ Try.underlying34 rfl dv_size rfl rfl rfl HA9.out HL.out) rfl ?_
    rw [HG.out]
    exact ⟨rfl, HFIN.out _ HT9.out⟩
  have e1 : (reg == 1) = false := by rw [beq_eq_false_iff_ne]; exact r1
  by_cases r2 : reg = 2
  · have HG : Hid (dGet d reg = (d, d.many, 0)) := Lib.hid (by unfold dGet; rw [if_neg r0, if_neg r1, if_pos r2])
    have e2 : (reg == 2) = true := by rw [beq_iff_eq]; exact r2
    clear r0 r1 r2
    go_upto_region 7 with (fail)
    have e9 : ∀ W, Turned (Just (w.heap.size + 1)) W0 W → At W w.heap.size 34 (dvC (.slice A d.disk.length c) d) := fun W h => HA0.out.kept h (by unfold Just; omega)
    have SD : Turned (Just (w.heap.size + 1)) W0 W0.drew := (Turned.refl _ _).drew
    refine wp_region_held_drew (S := fun W => Turned (Just (w.heap.size + 1)) W0 W) (by kernel_rfl) SD ?_
    intro S0
    replace S0 : Turned (Just (w.heap.size + 1)) W0 W0.drew := SD
    refine aT 0 (.agg (dvC (.slice A d.disk.length c) d).toArray) rfl ?_ (h2 := fun W hS => (load_is _ _ _ _ _ _ _ _ W).trans (load_at Try.underlying34 rfl dv_size (e9 W hS).rng0 HL.out)); simp only [see1, see2, see3, Act.put, see4, see5, see6]
    refine aT 1 (.pointer (some ⟨w.heap.size, 1, none⟩)) rfl ?_; simp only [see1, see2, see3, Act.put, see4, see5, see6]
    refine aT 2 (.int .u32 (U d.many)) rfl ?_ (h2 := fun W hS => by have c0 := (fun W hS => (dv_cells (e9 W hS) HOK.out).2.1) W hS; go_simp; done); simp only [see1, see2, see3, Act.put, see4, see5, see6]
    refine aS 3 (pre := []) (post := []) (xs := dvZ) (ys := dvC (.slice A d.disk.length c) d) _ _ rfl rfl rfl rfl dv_size dvZ_len HL.out (dv_one _) rfl (by simp) (HA1.out.drew) ?_
    intro V A9 T9
    rw [List.nil_append, List.append_nil] at A9
    have HA9 := Lib.hid A9
    have T8 : Turned (Just (w.heap.size + 1)) W0 V := S0.trans T9
    have HT9 := Lib.hid T8
    clear A9 T9
    refine ⟨T8, ?_⟩
    simp only [see1, see2, see3, Act.put, see4, see5, see6]
    refine aT 4 (.int .u32 (U d.many)) rfl ?_; simp only [see1, see2, see3, Act.put, see4, see5, see6]
    refine aT 5 (.int .i64 0) rfl ?_; simp only [see1, see2, see3, Act.put, see4, see5, see6]
    refine wpAnyH_done (by kernel_rfl) ?_ _
    go_wp2_with (fail)
    refine bodyPost_ret (res_cell3 Try.results16 _ Try.underlying34 rfl dv_size rfl rfl rfl HA9.out HL.out) rfl ?_
    rw [HG.out]
    exact ⟨rfl, HFIN.out _ HT9.out⟩
  have e2 : (reg == 2) = false := by rw [beq_eq_false_iff_ne]; exact r2
  by_cases r3 : reg = 3
  · have e3 : (reg == 3) = true := by rw [beq_iff_eq]; exact r3
    by_cases er : U d.err = 0
    · have HG : Hid (dGet d reg = (d, 1#32, 0)) := Lib.hid (by unfold dGet; rw [if_neg r0, if_neg r1, if_neg r2, if_pos r3, if_pos er])
      have ee : (U d.err == 0) = true := by rw [beq_iff_eq]; exact er
      clear r0 r1 r2 r3 er
      go_wp2_with (first
            | (refine wpList_ldr (xs := dvC (.slice A d.disk.length c) d) _ rfl rfl rfl Try.underlying34 rfl dv_size HL.out HA0.out.rng0 ?_)
            | (refine wpList_stm (pre := []) (post := []) (xs := dvZ) (ys := dvC (.slice A d.disk.length c) d) _ _ rfl rfl rfl rfl dv_size dvZ_len HL.out (dv_one _) rfl (by simp) HA1.out ?_; intro V A9 T9; rw [List.nil_append, List.append_nil] at A9; have HA9 := Lib.hid A9; have HT9 := Lib.hid T9; clear A9 T9))
      refine bodyPost_ret (res_cell3 Try.results16 _ Try.underlying34 rfl dv_size rfl rfl rfl HA9.out HL.out) rfl ?_
      rw [HG.out]
      exact ⟨rfl, HFIN.out _ HT9.out⟩
    · have HG : Hid (dGet d reg = (d, 3#32, 0)) := Lib.hid (by unfold dGet; rw [if_neg r0, if_neg r1, if_neg r2, if_pos r3, if_neg er])
      have ee : (U d.err == 0) = false := by rw [beq_eq_false_iff_ne]; exact er
      clear r0 r1 r2 r3 er
      go_wp2_with (first
            | (refine wpList_ldr (xs := dvC (.slice A d.disk.length c) d) _ rfl rfl rfl Try.underlying34 rfl dv_size HL.out HA0.out.rng0 ?_)
            | (refine wpList_stm (pre := []) (post := []) (xs := dvZ) (ys := dvC (.slice A d.disk.length c) d) _ _ rfl rfl rfl rfl dv_size dvZ_len HL.out (dv_one _) rfl (by simp) HA1.out ?_; intro V A9 T9; rw [List.nil_append, List.append_nil] at A9; have HA9 := Lib.hid A9; have HT9 := Lib.hid T9; clear A9 T9))
      refine bodyPost_ret (res_cell3 Try.results16 _ Try.underlying34 rfl dv_size rfl rfl rfl HA9.out HL.out) rfl ?_
      rw [HG.out]
      exact ⟨rfl, HFIN.out _ HT9.out⟩
  have e3 : (reg == 3) = false := by rw [beq_eq_false_iff_ne]; exact r3
  by_cases r4 : reg = 4
  · have HG : Hid (dGet d reg = (d, d.err, 0)) := Lib.hid (by unfold dGet; rw [if_neg r0, if_neg r1, if_neg r2, if_neg r3, if_pos r4])
    have e4 : (reg == 4) = true := by rw [beq_iff_eq]; exact r4
    clear r0 r1 r2 r3 r4
    go_upto_region 13 with (fail)
    have e9 : ∀ W, Turned (Just (w.heap.size + 1)) W0 W → At W w.heap.size 34 (dvC (.slice A d.disk.length c) d) := fun W h => HA0.out.kept h (by unfold Just; omega)
    have SD : Turned (Just (w.heap.size + 1)) W0 W0.drew := (Turned.refl _ _).drew
    refine wp_region_held_drew (S := fun W => Turned (Just (w.heap.size + 1)) W0 W) (by kernel_rfl) SD ?_
    intro S0
    replace S0 : Turned (Just (w.heap.size + 1)) W0 W0.drew := SD
    refine aT 0 (.agg (dvC (.slice A d.disk.length c) d).toArray) rfl ?_ (h2 := fun W hS => (load_is _ _ _ _ _ _ _ _ W).trans (load_at Try.underlying34 rfl dv_size (e9 W hS).rng0 HL.out)); simp only [see1, see2, see3, Act.put, see4, see5, see6]
    refine aT 1 (.pointer (some ⟨w.heap.size, 2, none⟩)) rfl ?_; simp only [see1, see2, see3, Act.put, see4, see5, see6]
    refine aT 2 (.int .u32 (U d.err)) rfl ?_ (h2 := fun W hS => by have c0 := (fun W hS => (dv_cells (e9 W hS) HOK.out).2.2.1) W hS; go_simp; done); simp only [see1, see2, see3, Act.put, see4, see5, see6]
    refine aS 3 (pre := []) (post := []) (xs := dvZ) (ys := dvC (.slice A d.disk.length c) d) _ _ rfl rfl rfl rfl dv_size dvZ_len HL.out (dv_one _) rfl (by simp) (HA1.out.drew) ?_
    intro V A9 T9
    rw [List.nil_append, List.append_nil] at A9
    have HA9 := Lib.hid A9
    have T8 : Turned (Just (w.heap.size + 1)) W0 V := S0.trans T9
    have HT9 := Lib.hid T8
    clear A9 T9
    refine ⟨T8, ?_⟩
    simp only [see1, see2, see3, Act.put, see4, see5, see6]
    refine aT 4 (.int .u32 (U d.err)) rfl ?_; simp only [see1, see2, see3, Act.put, see4, see5, see6]
    refine aT 5 (.int .i64 0) rfl ?_; simp only [see1, see2, see3, Act.put, see4, see5, see6]
    refine wpAnyH_done (by kernel_rfl) ?_ _
    go_wp2_with (fail)
    refine bodyPost_ret (res_cell3 Try.results16 _ Try.underlying34 rfl dv_size rfl rfl rfl HA9.out HL.out) rfl ?_
    rw [HG.out]
    exact ⟨rfl, HFIN.out _ HT9.out⟩
  have e4 : (reg == 4) = false := by rw [beq_eq_false_iff_ne]; exact r4
  by_cases r5 : reg = 5
  · have HG : Hid (dGet d reg = ({ d with place := dNext d.place }, wd d.buf d.place, 0)) := Lib.hid (by unfold dGet; rw [if_neg r0, if_neg r1, if_neg r2, if_neg r3, if_neg r4, if_pos r5])
    have e5 : (reg == 5) = true := by rw [beq_iff_eq]; exact r5
    clear r0 r1 r2 r3 r4 r5
    have cw := dv_word HA0.out HOK.out HOK.out.p
    have p16 := HOK.out.p
    have f20 := HA0.out.frozen 20
    have p16' : (d.place : Int) < 16 := by omega
    have p0 : (0 : Int) ≤ d.place := by omega
    go_upto_region 17 with (fail)
    have A5 : At (W0.setCell ⟨w.heap.size, 20, none⟩ (.int .i64 (((d.place : Int) + 1) % 16))) w.heap.size 34 (dvC (.slice A d.disk.length c) { d with place := dNext d.place }) := (HA0.out.put 20 _).as (dv_place HOK.out)
    have A6 : At (W0.setCell ⟨w.heap.size, 20, none⟩ (.int .i64 (((d.place : Int) + 1) % 16))) (w.heap.size + 1) 34 dvZ := HA1.out.far (by simp) _
    have B6 : Below w.heap.size w (W0.setCell ⟨w.heap.size, 20, none⟩ (.int .i64 (((d.place : Int) + 1) % 16))) := HB0.out.trans (below_set 20 (Nat.le_refl _) (by rw [HS0.out]; omega) _)
    have S6 : (W0.setCell ⟨w.heap.size, 20, none⟩ (.int .i64 (((d.place : Int) + 1) % 16))).heap.size = w.heap.size + 2 := by rw [World.size_setCell]; exact HS0.out
    generalize W0.setCell ⟨w.heap.size, 20, none⟩ (.int .i64 (((d.place : Int) + 1) % 16)) = W1 at A5 A6 B6 S6 ⊢
    have HA5 := Lib.hid A5
    have HA6 := Lib.hid A6
    have HL5 := Lib.hid (dv_len (sl := .slice A d.disk.length c) (dv_ok5 HOK.out))
    have fin5 : ∀ V, Turned (Just (w.heap.size + 1)) W1 V → Below w.heap.size w V := fun V h => B6.trans (below_just h (by omega) (by omega))
    have HF5 := Lib.hid fin5
    clear A5 A6 B6 S6 fin5 cw p16 f20 c0 c1 c2 c3 c20 c21
    go_wp2_with (first
      | (refine wpList_ldr (xs := dvC (.slice A d.disk.length c) { d with place := dNext d.place }) _ rfl rfl rfl Try.underlying34 rfl dv_size HL5.out HA5.out.rng0 ?_)
      | (refine wpList_stm (pre := []) (post := []) (xs := dvZ) (ys := dvC (.slice A d.disk.length c) { d with place := dNext d.place }) _ _ rfl rfl rfl rfl dv_size dvZ_len HL5.out (dv_one _) rfl (by simp) HA6.out ?_; intro V A9 T9; rw [List.nil_append, List.append_nil] at A9; have HA9 := Lib.hid A9; have HT9 := Lib.hid T9; clear A9 T9))
    refine bodyPost_ret (res_cell3 Try.results16 _ Try.underlying34 rfl dv_size rfl rfl rfl HA9.out HL5.out) rfl ?_
    rw [HG.out]
    exact ⟨rfl, HF5.out _ HT9.out⟩
  have e5 : (reg == 5) = false := by rw [beq_eq_false_iff_ne]; exact r5
  by_cases r6 : reg = 6
  · have HG : Hid (dGet d reg = (d, BitVec.ofNat 32 d.disk.length, 0)) := Lib.hid (by unfold dGet; rw [if_neg r0, if_neg r1, if_neg r2, if_neg r3, if_neg r4, if_neg r5, if_pos r6])
    have e6 : (reg == 6) = true := by rw [beq_iff_eq]; exact r6
    clear r0 r1 r2 r3 r4 r5 r6
    go_upto_region 19 with (fail)
    have e9 : ∀ W, Turned (Just (w.heap.size + 1)) W0 W → At W w.heap.size 34 (dvC (.slice A d.disk.length c) d) := fun W h => HA0.out.kept h (by unfold Just; omega)
    have SD : Turned (Just (w.heap.size + 1)) W0 W0.drew := (Turned.refl _ _).drew
    refine wp_region_held_drew (S := fun W => Turned (Just (w.heap.size + 1)) W0 W) (by kernel_rfl) SD ?_
    intro S0
    replace S0 : Turned (Just (w.heap.size + 1)) W0 W0.drew := SD
    refine aT 0 (.agg (dvC (.slice A d.disk.length c) d).toArray) rfl ?_ (h2 := fun W hS => (load_is _ _ _ _ _ _ _ _ W).trans (load_at Try.underlying34 rfl dv_size (e9 W hS).rng0 HL.out)); simp only [see1, see2, see3, Act.put, see4, see5, see6]
    refine aT 1 (.pointer (some ⟨w.heap.size, 21, none⟩)) rfl ?_; simp only [see1, see2, see3, Act.put, see4, see5, see6]
    refine aT 2 (.slice A d.disk.length c) rfl ?_ (h2 := fun W hS => by have c0 := (fun W hS => (dv_cells (e9 W hS) HOK.out).2.2.2.2.2) W hS; go_simp; done); simp only [see1, see2, see3, Act.put, see4, see5, see6]
    refine aT 3 (.int .i64 d.disk.length) rfl ?_; simp only [see1, see2, see3, Act.put, see4, see5, see6]
    refine aT 4 (.int .u32 (U (BitVec.ofNat 32 d.disk.length))) rfl ?_ (h2 := fun W _ => by have hn := HOK.out.few; rw [U_small hn]; have hz := wrap_small hn; go_simp; done); simp only [see1, see2, see3, Act.put, see4, see5, see6]
    refine aS 5 (pre := []) (post := []) (xs := dvZ) (ys := dvC (.slice A d.disk.length c) d) _ _ rfl rfl rfl rfl dv_size dvZ_len HL.out (dv_one _) rfl (by simp) (HA1.out.drew) ?_
    intro V A9 T9
    rw [List.nil_append, List.append_nil] at A9
    have HA9 := Lib.hid A9
    have T8 : Turned (Just (w.heap.size + 1)) W0 V := S0.trans T9
    have HT9 := Lib.hid T8
    clear A9 T9
    refine ⟨T8, ?_⟩
    simp only [see1, see2, see3, Act.put, see4, see5, see6]
    refine aT 6 (.int .u32 (U (BitVec.ofNat 32 d.disk.length))) rfl ?_; simp only [see1, see2, see3, Act.put, see4, see5, see6]
    refine aT 7 (.int .i64 0) rfl ?_; simp only [see1, see2, see3, Act.put, see4, see5, see6]
    refine wpAnyH_done (by kernel_rfl) ?_ _
    go_wp2_with (fail)
    refine bodyPost_ret (res_cell3 Try.results16 _ Try.underlying34 rfl dv_size rfl rfl rfl HA9.out HL.out) rfl ?_
    rw [HG.out]
    exact ⟨rfl, HFIN.out _ HT9.out⟩
  have e6 : (reg == 6) = false := by rw [beq_eq_false_iff_ne]; exact r6
  by_cases r7 : reg = 7
  · have HG : Hid (dGet d reg = (d, d.line, 0)) := Lib.hid (by unfold dGet; rw [if_neg r0, if_neg r1, if_neg r2, if_neg r3, if_neg r4, if_neg r5, if_neg r6, if_pos r7])
    have e7 : (reg == 7) = true := by rw [beq_iff_eq]; exact r7
    clear r0 r1 r2 r3 r4 r5 r6 r7
    go_upto_region 21 with (fail)
    have e9 : ∀ W, Turned (Just (w.heap.size + 1)) W0 W → At W w.heap.size 34 (dvC (.slice A d.disk.length c) d) := fun W h => HA0.out.kept h (by unfold Just; omega)
    have SD : Turned (Just (w.heap.size + 1)) W0 W0.drew := (Turned.refl _ _).drew
    refine wp_region_held_drew (S := fun W => Turned (Just (w.heap.size + 1)) W0 W) (by kernel_rfl) SD ?_
    intro S0
    replace S0 : Turned (Just (w.heap.size + 1)) W0 W0.drew := SD
    refine aT 0 (.agg (dvC (.slice A d.disk.length c) d).toArray) rfl ?_ (h2 := fun W hS => (load_is _ _ _ _ _ _ _ _ W).trans (load_at Try.underlying34 rfl dv_size (e9 W hS).rng0 HL.out)); simp only [see1, see2, see3, Act.put, see4, see5, see6]
    refine aT 1 (.pointer (some ⟨w.heap.size, 3, none⟩)) rfl ?_; simp only [see1, see2, see3, Act.put, see4, see5, see6]
    refine aT 2 (.int .u32 (U d.line)) rfl ?_ (h2 := fun W hS => by have c0 := (fun W hS => (dv_cells (e9 W hS) HOK.out).2.2.2.1) W hS; go_simp; done); simp only [see1, see2, see3, Act.put, see4, see5, see6]
    refine aS 3 (pre := []) (post := []) (xs := dvZ) (ys := dvC (.slice A d.disk.length c) d) _ _ rfl rfl rfl rfl dv_size dvZ_len HL.out (dv_one _) rfl (by simp) (HA1.out.drew) ?_
    intro V A9 T9
    rw [List.nil_append, List.append_nil] at A9
    have HA9 := Lib.hid A9
    have T8 : Turned (Just (w.heap.size + 1)) W0 V := S0.trans T9
    have HT9 := Lib.hid T8
    clear A9 T9
    refine ⟨T8, ?_⟩
    simp only [see1, see2, see3, Act.put, see4, see5, see6]
    refine aT 4 (.int .u32 (U d.line)) rfl ?_; simp only [see1, see2, see3, Act.put, see4, see5, see6]
    refine aT 5 (.int .i64 0) rfl ?_; simp only [see1, see2, see3, Act.put, see4, see5, see6]
    refine wpAnyH_done (by kernel_rfl) ?_ _
    go_wp2_with (fail)
    refine bodyPost_ret (res_cell3 Try.results16 _ Try.underlying34 rfl dv_size rfl rfl rfl HA9.out HL.out) rfl ?_
    rw [HG.out]
    exact ⟨rfl, HFIN.out _ HT9.out⟩
  have e7 : (reg == 7) = false := by rw [beq_eq_false_iff_ne]; exact r7
  have HG : Hid (dGet d reg = (d, 0#32, 3)) := Lib.hid (by unfold dGet; rw [if_neg r0, if_neg r1, if_neg r2, if_neg r3, if_neg r4, if_neg r5, if_neg r6, if_neg r7])
  clear r0 r1 r2 r3 r4 r5 r6 r7
  go_wp2_with (first
        | (refine wpList_ldr (xs := dvC (.slice A d.disk.length c) d) _ rfl rfl rfl Try.underlying34 rfl dv_size HL.out HA0.out.rng0 ?_)
        | (refine wpList_stm (pre := []) (post := []) (xs := dvZ) (ys := dvC (.slice A d.disk.length c) d) _ _ rfl rfl rfl rfl dv_size dvZ_len HL.out (dv_one _) rfl (by simp) HA1.out ?_; intro V A9 T9; rw [List.nil_append, List.append_nil] at A9; have HA9 := Lib.hid A9; have HT9 := Lib.hid T9; clear A9 T9))
  refine bodyPost_ret (res_cell3 Try.results16 _ Try.underlying34 rfl dv_size rfl rfl rfl HA9.out HL.out) rfl ?_
  rw [HG.out]
  exact ⟨rfl, HFIN.out _ HT9.out⟩
end Go.Proofs.Ytpkkejdjhnmjiaa
