/- A store as it lies in memory, and the contracts of its small methods (layer ftl). | Contracts of a store's small methods: what it notes, how many blocks are retired, how many are to stay empty; how many pages of a block are free; what a look at the flash finds. | The contract of a store's look at the flash. | A store looks at the flash, and begins a call. | A store renews a block. | A store renews a block or retires it; it puts a page. -/
import Derived.Test.YtpkkejdjhnmjiaaGreatDrv
import Derived.Test.YtpkkejdjhnmjiaaGreatLatP
import Derived.Deep.DeepCutAuto
namespace Go.Proofs.YtpkkejdjhnmjiaaGreat
open Go.RowKit Bm Go.Shelf
structure StoM where
  bs : List BlkM
  ret : List Bool
  off : Bool
def Bs (l : List Bool) : List Value := l.map fun b => .bool b
def bo (l : List Bool) (i : Nat) : Bool := l.getD i false
theorem Bs_length (l : List Bool) : (Bs l).length = l.length := by simp [Bs]
theorem Bs_get (l : List Bool) (i : Nat) (h : i < l.length) : (Bs l)[i]? = some (.bool (bo l i)) := by simp [Bs, bo, h]
theorem Bs_set (l : List Bool) (i : Nat) (x : Bool) : (Bs l).set i (.bool x) = Bs (l.set i x) := by simp [Bs, List.map_set]
def stoCells (q g : Nat) (x : StoM) : List Value := [.pointer (some ⟨q, 0, none⟩), .slice (some ⟨g, 0, none⟩) x.bs.length x.bs.length] ++ (Bs x.ret ++ [.bool x.off])
structure Sto (B p f q s k g : Nat) (K : Nat → Prop) (d : DrvM) (x : StoM) (w : World) : Prop where
  dv : Dv B p f q k (fun i => K i ∨ i = s ∨ i = g) d w
  own : At w s 83 (stoCells q g x)
  row : At w g 147 (bks x.bs)
  ok : ∀ b ∈ x.bs, BlkOk b
  ret : x.ret.length = 64
  len : x.bs.length = k
  k2 : k ≤ 64
  sB : May B K s
  gB : May B K g
section
variable {B p f q s k g : Nat} {K : Nat → Prop} {d : DrvM} {x : StoM} {w w' : World}
theorem Sto.below (h : Sto B p f q s k g K d x w) (hB : Below w.heap.size w w') : Sto B p f q s k g K d x w' :=
  ⟨h.dv.below hB, h.own.kept (Turned.of_below hB (Nat.le_refl _) NoBlock) (fun h => h), h.row.kept (Turned.of_below hB (Nat.le_refl _) NoBlock) (fun h => h), h.ok, h.ret, h.len, h.k2, h.sB, h.gB⟩
theorem Sto.size (h : Sto B p f q s k g K d x w) : B ≤ w.heap.size := h.dv.size
theorem Sto.c0 (h : Sto B p f q s k g K d x w) : w.cell? ⟨s, 0, none⟩ = some (.pointer (some ⟨q, 0, none⟩)) := h.own.cell 0
theorem Sto.c1 (h : Sto B p f q s k g K d x w) : w.cell? ⟨s, 1, none⟩ = some (.slice (some ⟨g, 0, none⟩) x.bs.length x.bs.length) := h.own.cell 1
theorem Sto.cr (h : Sto B p f q s k g K d x w) (i : Nat) (hi : i < 64) : w.cell? ⟨s, 2 + i, none⟩ = some (.bool (bo x.ret i)) := by
  rw [h.own.cell]
  unfold stoCells
  rw [List.getElem?_append_right (by simp), show 2 + i - [Value.pointer (some ⟨q, 0, none⟩), .slice (some ⟨g, 0, none⟩) x.bs.length x.bs.length].length = i by simp, List.getElem?_append_left (by rw [Bs_length, h.ret]; exact hi)]
  exact Bs_get _ _ (by rw [h.ret]; exact hi)
theorem Sto.c3 (h : Sto B p f q s k g K d x w) : w.cell? ⟨s, 66, none⟩ = some (.bool x.off) := by
  rw [h.own.cell]
  unfold stoCells
  rw [List.getElem?_append_right (by simp), List.getElem?_append_right (by rw [Bs_length, h.ret]; simp)]
  simp [Bs_length, h.ret]
theorem Sto.rets (h : Sto B p f q s k g K d x w) : w.rangeAt s 2 (Bs x.ret) := fun j v hv => by
  have hj := (List.getElem?_eq_some_iff.1 hv).1
  rw [h.own.cell]
  unfold stoCells
  rw [List.getElem?_append_right (by simp), List.getElem?_append_left (by simpa using hj)]
  simpa using hv
theorem Sto.reads (h : Sto B p f q s k g K d x w) : ReadsB w (some ⟨g, 0, none⟩) x.bs.length x.bs.length x.bs :=
  ReadsB.of_at (rest := []) (by rw [List.append_nil]; exact h.row) h.ok (Nat.le_refl _) (by have := h.len; have := h.k2; unfold maxLen; omega)
theorem Sto.ne (h : Sto B p f q s k g K d x w) : s ≠ g := h.own.ne h.row (by decide)
theorem Sto.blk (h : Sto B p f q s k g K d x w) {b : Nat} (hb : b < k) : w.rangeAt g (b * 66) (bkC (bkN x.bs b)) := by
  obtain ⟨g', off, e, _, hr⟩ := h.reads.at_ (j := b) (by rw [h.len]; exact hb)
  injection e with e
  injection e with e1 e2
  subst e1 e2
  rwa [Nat.zero_add] at hr
theorem Sto.bok (h : Sto B p f q s k g K d x w) {b : Nat} (hb : b < k) : BlkOk (bkN x.bs b) := h.reads.okN (by rw [h.len]; exact hb)
theorem Sto.made (h : Sto B p f q s k g K d x w) : Calls Tryz.prog 36 #[.pointer (some ⟨s, 0, none⟩)] w fun e w' => e = .returned (.bool true) ∧ w' = w := by
  have c0 := h.c0
  clear h
  go_enter Tryz.func36, Tryz.ntmps36
  go_wp2
  go_ret
  exact ⟨rfl, rfl⟩
def secs (k : Nat) : Int := ((k : Int) - 3) * 6
theorem Sto.sectors (h : Sto B p f q s k g K d x w) : Calls Tryz.prog 37 #[.pointer (some ⟨s, 0, none⟩)] w fun e w' => e = .returned (.int .i64 (secs k)) ∧ w' = w := by
  have c0 := h.c0
  have M := Lib.hid h.made
  have D := Lib.hid h.dv.blocks0
  have k2 := h.k2
  clear h
  unfold secs
  go_enter Tryz.func37, Tryz.ntmps37
  go_wp2_with (first
    | (go_at_call 36; (with_reducible refine M.out.mono ?_); rintro e w1 ⟨rfl, rfl⟩)
    | (go_at_call 32; (with_reducible refine D.out.mono ?_); rintro e w1 ⟨rfl, rfl⟩))
  go_ret
  exact ⟨rfl, rfl⟩
end
end Go.Proofs.YtpkkejdjhnmjiaaGreat
namespace Go.Proofs.YtpkkejdjhnmjiaaGreat
open Go.RowKit Bm Go.Shelf
section
variable {B p f q s k g : Nat} {K : Nat → Prop} {d d' : DrvM} {x : StoM} {w w' : World}
theorem StK.lones {m : FlashM} (h : StK B p f K m w) (hj : m.job = 0) {S : Nat → Prop} (hb : ∀ i, S i → K i) (t : Turned S w w') : StK B p f K m w' := by
  obtain ⟨⟨h, hp, hf, x, ho⟩, hs, hk⟩ := h
  have far : ∀ i, h.own i → ¬ S i := fun i hi e => (ho i hi).2 (hb i e)
  refine ⟨⟨h, hp, hf, ⟨x.chip.kept t (fun i hi => far i (.inl hi)), x.own.kept t (far _ (.inr (.inl rfl))), x.locks.kept t (far _ (.inr (.inr rfl))), ⟨fun j => ?_, fun j => ?_⟩⟩, ho⟩, Nat.le_trans hs t.size, fun i hi => Nat.lt_of_lt_of_le (hk i hi) t.size⟩
  · exact absurd (hj.symm.trans j) (by decide)
  · exact absurd (hj.symm.trans j) (by decide)
theorem Dv.lones (h : Dv B p f q k K d w) (hj : d.f.job = 0) {S : Nat → Prop} (hb : ∀ i, S i → K i) (t : Turned S w w') : Dv B p f q k K d w' :=
  ⟨h.st.lones hj (fun i e => .inl (hb i e)) t, h.own.kept t (fun e => h.qB.2 (hb _ e)), h.qB⟩
def SG (s g i : Nat) : Prop := i = s ∨ i = g
theorem Sto.turn (h : Sto B p f q s k g K d x w) (hj : d.f.job = 0) {x' : StoM} (t : Turned (SG s g) w w') (own : At w' s 83 (stoCells q g x')) (row : At w' g 147 (bks x'.bs)) (ok : ∀ b ∈ x'.bs, BlkOk b) (hr : x'.ret.length = 64) (hl : x'.bs.length = k) :
    Sto B p f q s k g K d x' w' ∧ Turned (May B K) w w' :=
  ⟨⟨h.dv.lones hj (fun _ e => .inr e) t, own, row, ok, hr, hl, h.k2, h.sB, h.gB⟩, t.mono fun _ _ e => e.elim (fun e => e ▸ h.sB) (fun e => e ▸ h.gB)⟩
theorem sto_setOff (hr : x.ret.length = 64) (v : Bool) : (stoCells q g x).set 66 (.bool v) = stoCells q g { x with off := v } := by
  unfold stoCells
  rw [List.set_append_right _ _ (by simp), List.set_append_right _ _ (by rw [Bs_length, hr]; simp)]
  simp [Bs_length, hr]
theorem sto_setRet (hr : x.ret.length = 64) (i : Nat) (hi : i < 64) (v : Bool) : (stoCells q g x).set (2 + i) (.bool v) = stoCells q g { x with ret := x.ret.set i v } := by
  unfold stoCells
  rw [List.set_append_right _ _ (by simp), List.set_append_left _ _ (by rw [Bs_length, hr]; simp; omega)]
  simp [← Bs_set]
theorem Sto.setOff (h : Sto B p f q s k g K d x w) (hj : d.f.job = 0) (v : Bool) : Sto B p f q s k g K d { x with off := v } (w.setCell ⟨s, 66, none⟩ (.bool v)) ∧ Turned (May B K) w (w.setCell ⟨s, 66, none⟩ (.bool v)) :=
  h.turn hj (((Turned.refl _ w).setCell (p := ⟨s, 66, none⟩) (fun _ => .inl rfl) _)) ((h.own.put 66 _).as (sto_setOff h.ret v)) (h.row.far (p := ⟨s, 66, none⟩) h.ne.symm _) h.ok h.ret h.len
theorem Sto.setRet (h : Sto B p f q s k g K d x w) (hj : d.f.job = 0) (i : Nat) (_hi : i < 64) (v : Bool) : Sto B p f q s k g K d { x with ret := x.ret.set i v } (w.setCell ⟨s, 2 + i, none⟩ (.bool v)) ∧ Turned (May B K) w (w.setCell ⟨s, 2 + i, none⟩ (.bool v)) :=
  h.turn hj (((Turned.refl _ w).setCell (p := ⟨s, 2 + i, none⟩) (fun _ => .inl rfl) _)) ((h.own.put (2 + i) _).as (sto_setRet h.ret i _hi v)) (h.row.far (p := ⟨s, 2 + i, none⟩) h.ne.symm _) h.ok (by simpa using h.ret) h.len
theorem Sto.drv (h : Sto B p f q s k g K d x w) (h' : Dv B p f q k (fun i => K i ∨ i = s ∨ i = g) d' w') (t : Turned (May B (fun i => K i ∨ i = s ∨ i = g)) w w') : Sto B p f q s k g K d' x w' ∧ Turned (May B K) w w' :=
  ⟨⟨h', h.own.kept t (fun e => e.2 (.inr (.inl rfl))), h.row.kept t (fun e => e.2 (.inr (.inr rfl))), h.ok, h.ret, h.len, h.k2, h.sB, h.gB⟩, may_less t fun _ e => .inl e⟩
theorem Sto.note (h : Sto B p f q s k g K d x w) (hj : d.f.job = 0) (e : Int) (_he : 0 ≤ e ∧ e ≤ 100) : Calls Tryz.prog 38 #[.pointer (some ⟨s, 0, none⟩), .int .i64 e] w fun r w' => r = .returned (.int .i64 e) ∧ Sto B p f q s k g K d { x with off := x.off || decide (e = 4) } w' ∧ Turned (May B K) w w' := by
  have c3 := h.c3
  have fz := h.own.frozen 66
  have H := Lib.hid (fun v => h.setOff hj v)
  clear h hj
  cases ho : x.off with
  | true =>
    rw [ho] at c3
    go_enter Tryz.func38, Tryz.ntmps38
    go_wp2
    go_ret
    exact ⟨rfl, H.out _⟩
  | false =>
    rw [ho] at c3
    by_cases h4 : e = 4
    · subst h4
      go_enter Tryz.func38, Tryz.ntmps38
      go_wp2
      go_ret
      exact ⟨rfl, H.out _⟩
    · have hb : (e == 4) = false := by rw [beq_eq_false_iff_ne]; exact h4
      have hd : decide (e = 4) = false := decide_eq_false h4
      go_enter Tryz.func38, Tryz.ntmps38
      go_wp2
      go_ret
      rw [hd]
      exact ⟨rfl, H.out false⟩
def nTrue (l : List Bool) : Nat → Nat
  | 0 => 0
  | n + 1 => nTrue l n + if bo l n then 1 else 0
theorem nTrue_le (l : List Bool) : ∀ n, nTrue l n ≤ n
  | 0 => Nat.le_refl _
  | n + 1 => by have := nTrue_le l n; unfold nTrue; split <;> omega
theorem ret_size : (Tryz.prog.info? 81).map (·.size) = some 64 := by kernel_rfl
theorem part_bool {P : Program} {E : TypeId} (hE : P.underlying E = some .bool) (w : World) (cs : Array Value) (i : Nat) (v : Value) (h : cs[i]? = some v) : (Go.part E cs i).run P w = .ok v w := by
  simp [Go.part, isAgg, run_underlying hE, h]
set_option maxRecDepth 100000 in
theorem run_ix64 (ks : List Bool) (hk : ks.length = 64) (i : Nat) (hi : i < 64) (W : World) : (Instr.index 81 (.agg (Bs ks).toArray) (.int .i64 (i : Int))).run Tryz.prog W = .ok (.bool (bo ks i)) W := by
  have hp := part_bool Tryz.underlying4 W (Bs ks).toArray i (.bool (bo ks i)) (by rw [List.getElem?_toArray]; exact Bs_get ks i (by omega))
  have hs := size_of (P := Tryz.prog) (T := 4) (n := 1) (by kernel_rfl) W
  unfold Instr.index
  simp only [asIntOf, Sem.run_bind, Sem.run_pure, Result.andThen_ok, run_underlying Tryz.underlying81]
  rw [if_pos (by omega)]
  simp only [Sem.run_bind, hs, Result.andThen_ok, Int.toNat_natCast, Nat.mul_one]
  exact hp
set_option maxRecDepth 100000 in
theorem Sto.retired (h : Sto B p f q s k g K d x w) : Calls Tryz.prog 138 #[.pointer (some ⟨s, 0, none⟩)] w fun e w' => e = .returned (.int .i64 (nTrue x.ret 64 : Nat)) ∧ w' = w := by
  have M := Lib.hid h.made
  have R := Lib.hid h.rets
  have L := Lib.hid h.ret
  clear h
  go_enter Tryz.func138, Tryz.ntmps138
  go_wp2_with (first
    | (go_at_call 36; (with_reducible refine M.out.mono ?_); rintro e w1 ⟨rfl, hw⟩; obtain rfl := hw.symm)
    | (refine wpList_ldr _ rfl rfl rfl Tryz.underlying81 rfl ret_size (by rw [Bs_length]; exact L.out) R.out ?_))
  go_loopw [3, 13] (fun m i wr => ∃ j : Nat, j ≤ 64 ∧ i = .int .i64 j ∧ m = .int .i64 (nTrue x.ret j : Nat) ∧ wr = w) (fun _ i _ => 64 - (intOf i).toNat)
  case atStart => exact ⟨0, by omega, rfl, rfl, rfl⟩
  case round =>
    obtain ⟨j, hj, rfl, rfl, rfl⟩ := hrel
    by_cases hlt : j < 64
    · have hi := run_ix64 x.ret L.out j hlt
      have i1 : (j : Int) < 64 := by omega
      have b1 := nTrue_le x.ret j
      have hst : Hid (nTrue x.ret (j + 1) = nTrue x.ret j + if bo x.ret j then 1 else 0) := Lib.hid rfl
      cases hb : bo x.ret j with
      | true =>
        rw [hb] at hi
        have hst2 : Hid (nTrue x.ret (j + 1) = nTrue x.ret j + 1) := Lib.hid (by rw [hst.out, hb]; rfl)
        clear hst hb
        go_wp2
        refine ⟨⟨j + 1, by omega, by go_num, ?_, by first | rfl | trivial⟩, by simp [intOf]; omega⟩
        rw [hst2.out]
        go_num
      | false =>
        rw [hb] at hi
        have hst2 : Hid (nTrue x.ret (j + 1) = nTrue x.ret j) := Lib.hid (by rw [hst.out, hb]; rfl)
        clear hst hb
        go_wp2
        refine ⟨⟨j + 1, by omega, by go_num, ?_, by first | rfl | trivial⟩, by simp [intOf]; omega⟩
        rw [hst2.out]
    · obtain rfl : j = 64 := by omega
      go_wp2
      go_ret
      exact ⟨rfl, rfl⟩
def spareM (ret : List Bool) : Int := if (nTrue ret 64 : Int) ≤ 1 then 2 else 1
theorem Sto.spare (h : Sto B p f q s k g K d x w) : Calls Tryz.prog 155 #[.pointer (some ⟨s, 0, none⟩)] w fun e w' => e = .returned (.int .i64 (spareM x.ret)) ∧ w' = w := by
  have R := Lib.hid h.retired
  clear h
  unfold spareM
  go_enter Tryz.func155, Tryz.ntmps155
  go_wp2_with (go_at_call 138; (with_reducible refine R.out.mono ?_); rintro e w1 ⟨rfl, rfl⟩)
  · rename_i hh
    go_ret
    exact ⟨rfl, rfl⟩
  · rename_i hh
    go_ret
    exact ⟨rfl, rfl⟩
end
def nFree (ks : List Int) : Nat → Nat
  | 0 => 0
  | n + 1 => nFree ks n + if nm ks n = 0 then 1 else 0
theorem nFree_le (ks : List Int) : ∀ n, nFree ks n ≤ n
  | 0 => Nat.le_refl _
  | n + 1 => by have := nFree_le ks n; unfold nFree; split <;> omega
def frIn (b : BlkM) : Nat := if b.head = 1 then nFree b.kinds 8 else 0
set_option maxRecDepth 100000 in
theorem freeIn_any (b : BlkM) (hb : BlkOk b) (w : World) : Calls Tryz.prog 156 #[bkV b] w fun e w' => e = .returned (.int .i64 (frIn b : Nat)) ∧ Below w.heap.size w w' := by
  have HK := Lib.hid hb.k
  have HL := Lib.hid (bk_len hb)
  have A0 : At (w.alloc (.cells (bkC b).toArray 147)) w.heap.size 147 (bkC b) := At.news w _ _
  have HR := Lib.hid (bk_kinds_range A0.rng)
  have HB : Hid (Below w.heap.size w (w.alloc (.cells (bkC b).toArray 147))) := Lib.hid ((Below.refl _ w).alloc (Nat.le_refl _) _)
  have c0 := A0.cell 0
  rw [bk_head] at c0
  clear hb A0
  unfold bkV
  by_cases h1 : b.head = 1
  · have hf : Hid (frIn b = nFree b.kinds 8) := Lib.hid (if_pos h1)
    have e1 : (b.head != 1) = false := by rw [bne_eq_false_iff_eq]; exact h1
    clear h1
    go_enter Tryz.func156, Tryz.ntmps156
    go_wp2_with (refine wpList_ldr _ rfl rfl rfl Tryz.underlying144 rfl k8_size (by rw [Is_length]; exact HK.out) HR.out ?_)
    obtain ⟨W, hW⟩ : ∃ W, W = w.alloc (.cells (bkC b).toArray 147) := ⟨_, rfl⟩
    rw [← hW] at HB ⊢
    clear c0 HR hW
    go_loopw [3, 11] (fun m i wr => ∃ j : Nat, j ≤ 8 ∧ i = .int .i64 j ∧ m = .int .i64 (nFree b.kinds j : Nat) ∧ wr = W) (fun _ i _ => 8 - (intOf i).toNat)
    case atStart => exact ⟨0, by omega, rfl, rfl, rfl⟩
    case round =>
      obtain ⟨j, hj, rfl, rfl, rfl⟩ := hrel
      by_cases hlt : j < 8
      · have hi := run_ix8 b.kinds HK.out j hlt
        have i1 : (j : Int) < 8 := by omega
        have b1 := nFree_le b.kinds j
        by_cases hz : nm b.kinds j = 0
        · have hst : Hid (nFree b.kinds (j + 1) = nFree b.kinds j + 1) := Lib.hid (by rw [nFree, if_pos hz])
          have e2 : (nm b.kinds j == 0) = true := by rw [beq_iff_eq]; exact hz
          clear hz
          go_wp2
          refine ⟨⟨j + 1, by omega, by go_num, ?_, by first | rfl | trivial⟩, by simp [intOf]; omega⟩
          rw [hst.out]
          go_num
        · have hst : Hid (nFree b.kinds (j + 1) = nFree b.kinds j) := Lib.hid (by rw [nFree, if_neg hz]; rfl)
          have e2 : (nm b.kinds j == 0) = false := by rw [beq_eq_false_iff_ne]; exact hz
          clear hz
          go_wp2
          refine ⟨⟨j + 1, by omega, by go_num, ?_, by first | rfl | trivial⟩, by simp [intOf]; omega⟩
          rw [hst.out]
      · obtain rfl : j = 8 := by omega
        go_wp2
        go_ret
        exact ⟨by rw [hf.out]; rfl, HB.out⟩
  · have hf : Hid (frIn b = 0) := Lib.hid (if_neg h1)
    have e1 : (b.head != 1) = true := by rw [bne_iff_ne]; exact h1
    clear h1
    go_enter Tryz.func156, Tryz.ntmps156
    go_wp2
    go_ret
    exact ⟨by rw [hf.out]; rfl, HB.out⟩
end Go.Proofs.YtpkkejdjhnmjiaaGreat
namespace Go.Proofs.YtpkkejdjhnmjiaaGreat
open Go.RowKit Bm Go.Shelf
section
variable {B p f q s k g : Nat} {K : Nat → Prop} {d d' : DrvM} {x : StoM} {w w' : World}
theorem StK.move {m : FlashM} (h : StK B p f K m w) (hj : m.job = 0) {S K' : Nat → Prop} (hb : ∀ i, S i → K i) (t : Turned S w w') (hK : ∀ i, K' i → (K i ∨ w.heap.size ≤ i) ∧ i < w'.heap.size) : StK B p f K' m w' := by
  have h2 := h.lones hj hb t
  obtain ⟨⟨h, hp, hf, x, ho⟩, hs, hk⟩ := h
  obtain ⟨⟨h', hp', hf', x', ho'⟩, hs', hk'⟩ := h2
  have far : ∀ i, h.own i → ¬ S i := fun i hi e => (ho i hi).2 (hb i e)
  refine ⟨⟨h, hp, hf, ⟨x.chip.kept t (fun i hi => far i (.inl hi)), x.own.kept t (far _ (.inr (.inl rfl))), x.locks.kept t (far _ (.inr (.inr rfl))), ⟨fun j => ?_, fun j => ?_⟩⟩, fun i hi => ⟨(ho i hi).1, fun e => ?_⟩⟩, hs', fun i hi => (hK i hi).2⟩
  · exact absurd (hj.symm.trans j) (by decide)
  · exact absurd (hj.symm.trans j) (by decide)
  · rcases (hK i e).1 with h1 | h1
    · exact (ho i hi).2 h1
    · have := x.own_lt hi
      omega
theorem Dv.move (h : Dv B p f q k K d w) (hj : d.f.job = 0) {S K' : Nat → Prop} (hb : ∀ i, S i → K i) (t : Turned S w w') (hK : ∀ i, K' i → (K i ∨ w.heap.size ≤ i) ∧ i < w'.heap.size) : Dv B p f q k K' d w' :=
  ⟨h.st.move hj (fun i e => .inl (hb i e)) t (fun i e => by
    rcases e with e | rfl
    · exact ⟨(hK i e).1.imp (fun e => .inl e) (fun e => e), (hK i e).2⟩
    · exact ⟨.inl (.inr rfl), Nat.lt_of_lt_of_le h.own.lt t.size⟩), h.own.kept t (fun e => h.qB.2 (hb _ e)), ⟨h.qB.1, fun e => by
    rcases (hK q e).1 with h1 | h1
    · exact h.qB.2 h1
    · have := h.own.lt
      omega⟩⟩
theorem Sto.move (h : Sto B p f q s k g K d x w) (hj : d.f.job = 0) {S K' : Nat → Prop} (hb : ∀ i, S i → K i) (t : Turned S w w') (hK : ∀ i, K' i → (K i ∨ w.heap.size ≤ i) ∧ i < w'.heap.size) : Sto B p f q s k g K' d x w' := by
  have hs := h.own.lt
  have hg := h.row.lt
  refine ⟨h.dv.move hj (fun i e => .inl (hb i e)) t (fun i e => ?_), h.own.kept t (fun e => h.sB.2 (hb _ e)), h.row.kept t (fun e => h.gB.2 (hb _ e)), h.ok, h.ret, h.len, h.k2, ⟨h.sB.1, fun e => ?_⟩, ⟨h.gB.1, fun e => ?_⟩⟩
  · rcases e with e | rfl | rfl
    · exact ⟨(hK i e).1.imp (fun e => .inl e) (fun e => e), (hK i e).2⟩
    · exact ⟨.inl (.inr (.inl rfl)), Nat.lt_of_lt_of_le hs t.size⟩
    · exact ⟨.inl (.inr (.inr rfl)), Nat.lt_of_lt_of_le hg t.size⟩
  · rcases (hK s e).1 with h1 | h1
    · exact h.sB.2 h1
    · omega
  · rcases (hK g e).1 with h1 | h1
    · exact h.gB.2 h1
    · omega
theorem Dv.kin (h : Dv B p f q k K d w) (i : Nat) (hi : K i) : i < w.heap.size := h.st.kin i (.inl hi)
theorem Sto.kin (h : Sto B p f q s k g K d x w) (i : Nat) (hi : K i) : i < w.heap.size := h.dv.kin i (.inl hi)
theorem Sto.less (h : Sto B p f q s k g K d x w) {K' : Nat → Prop} (hk : ∀ i, K' i → K i) : Sto B p f q s k g K' d x w :=
  ⟨h.dv.less (fun i e => e.imp (hk i) (fun e => e)), h.own, h.row, h.ok, h.ret, h.len, h.k2, ⟨h.sB.1, fun e => h.sB.2 (hk _ e)⟩, ⟨h.gB.1, fun e => h.gB.2 (hk _ e)⟩⟩
theorem Sto.renew (h : Sto B p f q s k g K d x w) (hj : d.f.job = 0) {K' : Nat → Prop} (hb : Below w.heap.size w w') (hK : ∀ i, K' i → (K i ∨ w.heap.size ≤ i) ∧ i < w'.heap.size) : Sto B p f q s k g K' d x w' :=
  h.move hj (S := NoBlock) (fun _ e => e.elim) (Turned.of_below hb (Nat.le_refl _) _) hK
structure StoL (B p f q s k : Nat) (K : Nat → Prop) (d : DrvM) (v : Value) (ret : List Bool) (off : Bool) (w : World) : Prop where
  dv : Dv B p f q k (fun i => K i ∨ i = s) d w
  own : At w s 83 ([.pointer (some ⟨q, 0, none⟩), v] ++ (Bs ret ++ [.bool off]))
  ret : ret.length = 64
  k2 : k ≤ 64
  sB : May B K s
theorem Sto.toL (h : Sto B p f q s k g K d x w) : StoL B p f q s k (fun i => K i ∨ i = g) d (.slice (some ⟨g, 0, none⟩) x.bs.length x.bs.length) x.ret x.off w :=
  ⟨h.dv.less fun i e => by rcases e with (e | e) | e <;> simp [e], h.own, h.ret, h.k2, ⟨h.sB.1, fun e => e.elim h.sB.2 h.ne⟩⟩
def dLook (d : DrvM) : DrvM := if d.f.chip.up then ⟨{ d.f with mode := 0 }, d.t⟩ else d
def lookE (d : DrvM) : Int := if d.f.chip.up then 0 else 4
theorem look_calm {d : DrvM} (h : DrvOk k d) : DrvOk k (dLook d) := by
  unfold dLook
  split
  · exact ⟨h.ok.calmMode h.calm 0 (.inl rfl), h.calm.modeTo 0⟩
  · exact h
theorem chunk_len (ws : List (BitVec 32)) (j : Nat) (h : 64 * j + 64 ≤ ws.length) : (chunk ws j).length = 64 := by unfold chunk; simp; omega
theorem look_read {d : DrvM} (ok : DrvOk k d) (hu : d.f.chip.up = true) (j : Nat) (hj : j < k) : dRead d ((j : Int) * 64) 64 = (⟨{ d.f with mode := 0 }, d.t⟩, chunk d.f.chip.ws j, 0) := by
  have hl := ok.ok.chip.words
  have hr : fRefuse d.f ((j : Int) * 64) = 0 := by
    unfold fRefuse mRefuse
    rw [if_neg (by rw [hu]; decide), if_neg (by omega)]
  rw [show (64 : Int) = ((64 : Nat) : Int) from rfl, dRead_yes d _ 64 (by omega) (by omega) (by exact_mod_cast hr) (by omega)]
  unfold chunk
  rw [show ((j : Int) * ((64 : Nat) : Int)).toNat = 64 * j by omega]
theorem look_off {d : DrvM} (hu : d.f.chip.up = false) (a : Int) : dRead d a 64 = (d, [], 4) := by
  have hr : fRefuse d.f a = 4 := by
    unfold fRefuse mRefuse
    rw [if_pos hu]
  rw [show (64 : Int) = ((64 : Nat) : Int) from rfl, dRead_far d _ 64 (by omega) (by omega) (by rw [hr]; decide), hr]
theorem take_chunk (ws : List (BitVec 32)) (j : Nat) : ws.take (64 * (j + 1)) = ws.take (64 * j) ++ chunk ws j := by
  unfold chunk
  rw [Nat.mul_add, Nat.mul_one, List.take_add]
theorem look_twice (d : DrvM) (hu : d.f.chip.up = true) : dLook (dLook d) = dLook d := by
  unfold dLook
  rw [if_pos hu, if_pos hu]
theorem own_row_from {W : World} {base n k m : Nat} {t : TypeId} {v : Value} {xs : List Value} (h : W.ownsRow base t m v n xs) (hk : v.ownBlock = some k) : base ≤ k := by
  obtain ⟨_, ⟨rfl, _⟩ | ⟨g, cap, cur, rfl, hb, hg, _⟩⟩ := h
  · cases hk
  · injection hk with hk
    subst hk
    exact hb
set_option maxRecDepth 100000 in
set_option maxHeartbeats 1000000 in
theorem StoL.look {v : Value} {ret : List Bool} {off : Bool} (h : StoL B p f q s k K d v ret off w) (ok : DrvOk k d) (k1 : 1 ≤ k) :
    Calls Tryz.prog 33 #[.pointer (some ⟨s, 0, none⟩)] w fun e w' => e = .returned (.int .i64 (lookE d)) ∧ Turned (May B K) w w' ∧
      (if d.f.chip.up then ∃ g, Sto B p f q s k g K (dLook d) ⟨(scOf d.f.chip.ws).1, ret, off⟩ w' else StoL B p f q s k K (dLook d) v ret off w') := by
  have c0 := h.own.cell 0
  simp only [List.cons_append, List.getElem?_cons_zero] at c0
  have hwl := ok.ok.chip.words
  have kk2 := h.k2
  cases hu : d.f.chip.up with
  | false =>
    have D := Lib.hid h.dv.blocks0
    have R := h.dv.read ok 0 64 (by omega) (by omega) (by omega) (by omega)
    rw [look_off hu] at R
    have R' := Lib.hid R
    have HL := Lib.hid h
    have e1 : lookE d = 4 := by unfold lookE; rw [hu]; rfl
    have e2 : dLook d = d := by unfold dLook; rw [hu]; rfl
    rw [e1, e2]
    clear R h ok hwl e1 e2
    go_enter Tryz.func33, Tryz.ntmps33
    go_wp2_with (first
      | (go_at_call 32; (with_reducible refine D.out.mono ?_); rintro e w1 ⟨rfl, hw⟩; obtain rfl := hw.symm))
    go_loopw [14] (fun i wr => i = .int .i64 0 ∧ wr = w) (fun i _ => 0)
    case atStart => exact ⟨rfl, rfl⟩
    case round =>
      obtain ⟨rfl, rfl⟩ := hrel
      have i1 : (0 : Int) < (k : Int) := by omega
      go_wp2_with (first
        | (go_at_call 48; (with_reducible refine R'.out.mono ?_); rintro e w1 ⟨A, cap, rfl, _, _, s1, t1⟩; have HS1 := Lib.hid s1; have HT1 := Lib.hid t1; clear s1 t1))
      go_ret
      refine ⟨rfl, may_less HT1.out (fun _ e => .inl e), ?_⟩
      exact ⟨HS1.out.less (fun i e => .inl e), HL.out.own.kept HT1.out (fun e => e.2 (.inr rfl)), HL.out.ret, HL.out.k2, HL.out.sB⟩
  | true =>
    have e1 : lookE d = 0 := by unfold lookE; rw [hu]; rfl
    have e2 : dLook d = ⟨{ d.f with mode := 0 }, d.t⟩ := by unfold dLook; rw [hu]; rfl
    have ok2 := look_calm ok
    obtain ⟨dl, hdl⟩ : ∃ dl, dl = dLook d := ⟨_, rfl⟩
    have hul : dl.f.chip.up = true := by rw [hdl, e2]; exact hu
    have hws : dl.f.chip.ws = d.f.chip.ws := by rw [hdl, e2]
    have htw : dLook dl = dl := by rw [hdl]; exact look_twice d hu
    have hjl : dl.f.job = 0 := by rw [hdl]; exact ok2.calm.job
    rw [← hdl] at ok2
    -- each read, in a kept set of one's own
    have RD : ∀ (j : Nat) (K' : Nat → Prop) (dj : DrvM) (W : World), j < k → (dj = d ∨ dj = dl) → Dv B p f q k K' dj W → Calls Tryz.prog 48 #[.pointer (some ⟨q, 0, none⟩), .int .i64 ((j : Int) * 64), .int .i64 64] W (DvRead B p f q k K' (dl, chunk d.f.chip.ws j, 0) W) := fun j K' dj W hj hd hs => by
      rcases hd with rfl | rfl
      · have := hs.read ok ((j : Int) * 64) 64 (by omega) (by omega) (by omega) (by omega)
        rwa [look_read ok hu j hj, ← e2, ← hdl] at this
      · have := hs.read ok2 ((j : Int) * 64) 64 (by omega) (by omega) (by omega) (by omega)
        rw [look_read ok2 hul j hj, hws] at this
        have e3 : (⟨{ dj.f with mode := 0 }, dj.t⟩ : DrvM) = dj := by
          have := htw
          unfold dLook at this
          rwa [if_pos hul] at this
        rwa [e3] at this
    have RD' := Lib.hid RD
    have D := Lib.hid h.dv.blocks0
    have HL := Lib.hid h
    have hn : d.f.chip.ws.length ≤ 4096 := by omega
    obtain ⟨ws, hwsd⟩ : ∃ ws, ws = d.f.chip.ws := ⟨_, rfl⟩
    rw [← hwsd] at hn RD' hwl ⊢
    have SC := fun A c W hr => swords_own A (k * 64) c ws W hr
    have SC' := Lib.hid SC
    have HWL := Lib.hid hwl
    have hsc := scOf_good (ws := ws) (m := k) (by omega) k1 kk2
    obtain ⟨bs, hbs⟩ : ∃ bs, bs = (List.range k).map (fun i => bkOf (chunk ws i)) := ⟨_, rfl⟩
    have HBL : Hid (bs.length = k) := Lib.hid (by rw [hbs]; simp)
    have HBO : Hid (∀ b ∈ bs, BlkOk b) := Lib.hid (by rw [hbs]; intro b hb; obtain ⟨i, _, rfl⟩ := List.mem_map.1 hb; exact bkOf_ok _)
    rw [← hbs] at hsc
    rw [hsc] at SC' ⊢
    clear hsc hbs
    rw [e1]
    have HJ := Lib.hid hjl
    have HJ0 := Lib.hid ok.calm.job
    rw [← hdl]
    have HU := Lib.hid hu
    obtain ⟨i0, hin, hz0, hz1, hz2⟩ := info_parts (show (Tryz.prog.info? 36).map (fun i => (i.zero, i.size, i.bytes)) = some (some (.int .u32 0), 1, 4) by kernel_rfl)
    clear RD SC hwl hjl e1 e2 hul hws htw ok2 h ok hdl hwsd hu
    go_enter Tryz.func33, Tryz.ntmps33
    go_wp2_with (first
      | (go_at_call 32; (with_reducible refine D.out.mono ?_); rintro e w1 ⟨rfl, hw⟩; obtain rfl := hw.symm))
    go_loopw [3, 14] (fun v' i wr => ∃ j : Nat, j ≤ k ∧ i = .int .i64 j ∧ wr.ownsRow w.heap.size 36 1 v' (64 * j) (Us (ws.take (64 * j))) ∧ StoL B p f q s k (fun i => K i ∨ v'.ownBlock = some i) (if j = 0 then d else dl) v ret off wr ∧ Turned (May B K) w wr) (fun _ i _ => k - (intOf i).toNat)
    case atStart => exact ⟨0, by omega, rfl, World.ownsRow_nil _ _ _ _, by
      have h := HL.out
      exact ⟨h.dv.less (fun i e => by rcases e with (e | e) | e <;> first | exact .inl e | exact .inr e | (exact absurd e (by simp [Value.ownBlock]))), h.own, h.ret, h.k2, ⟨h.sB.1, fun e => e.elim h.sB.2 (by simp [Value.ownBlock])⟩⟩, Turned.refl _ _⟩
    case round =>
      obtain ⟨j, hj, rfl, ho, hs, ht⟩ := hrel
      have HO := Lib.hid ho
      have HS := Lib.hid hs
      have HT := Lib.hid ht
      clear ho hs ht
      by_cases hlt : j < k
      · have i1 : (j : Int) < (k : Int) := by omega
        have c1 := HS.out.own.cell 0
        simp only [List.cons_append, List.getElem?_cons_zero] at c1
        obtain ⟨dj, hdj⟩ : ∃ dj, dj = (if j = 0 then d else dl) := ⟨_, rfl⟩
        have hdd : dj = d ∨ dj = dl := by rw [hdj]; split; exact .inl rfl; exact .inr rfl
        rw [← hdj] at HS
        have R := RD'.out j _ dj wr hlt hdd HS.out.dv
        have HR := Lib.hid R
        have HJJ : Hid (dj.f.job = 0) := Lib.hid (by rcases hdd with rfl | rfl; exact HJ0.out; exact HJ.out)
        clear R hdd hdj
        go_wp2_with (first
          | (go_at_call 48; (with_reducible refine HR.out.mono ?_); rintro e w1 ⟨A, cap, rfl, r1, _, s1, t1⟩; have HR1 := Lib.hid r1; have HS1 := Lib.hid s1; have HT1 := Lib.hid t1; clear r1 s1 t1)
          | (at_builtin; refine halt_here ?_))
        refine Lib.hid ?_
        have cl : (chunk ws j).length = 64 := chunk_len ws j (by have := HWL.out; omega)
        obtain ⟨ad, rfl, hlt2, hcc⟩ := HR1.out.cell (by rw [cl]; omega)
        have own1 := Theirs.own_turned HO.out HT1.out (fun i e h => h.2 (.inl (.inr e)))
        refine wpList_append_lies _ rfl _ _ _ rfl w.heap.size 36 i0 _ 1 4 Tryz.underlying89 hin hz0 hz1 hz2 rfl (by omega) u3 (64 * j) (Us (ws.take (64 * j))) rfl own1 ad 64 cap (Us (chunk ws j)) (by simp only [cl]; rfl) (by rw [Us_length, cl]) hcc (Us_one _) (by omega) (by unfold maxLen; omega) (by omega) (by have := HT.out.size; have := HT1.out.size; omega) _ rfl ?_
        intro g2 cap2 w2 ho2 hg2 hgg hgl
        rw [← Us_append, ← take_chunk] at ho2
        have HO2 := Lib.hid ho2
        have HT2 : Hid (Turned (fun i => u3.ownBlock = some i) w1 w2) := Lib.hid ((Turned.refl _ w1).grown hg2 (fun k e _ => e))
        have HGG := Lib.hid hgg
        have HGL := Lib.hid hgl
        have tt : Turned (May B K) w w2 := HT.out.trans (by
          refine (may_less HT1.out (fun _ e => .inl (.inl e))).after HT2.out (fun i hi e => ?_)
          have h1 := own_row_from HO.out e
          exact ⟨Nat.le_trans HL.out.dv.size h1, fun hk => by have := HL.out.dv.kin i (.inl hk); omega⟩)
        have ss : StoL B p f q s k (fun i => K i ∨ (Value.slice (some ⟨g2, 0, none⟩) (64 * j + 64) cap2).ownBlock = some i) dl v ret off w2 := by
          have hs1 := HL.out.own.lt
          have hbig : ∀ i, u3.ownBlock = some i → w.heap.size ≤ i := fun i e => own_row_from HO.out e
          have hw1 := Nat.le_trans HT.out.size HT1.out.size
          have hg2 : w.heap.size ≤ g2 := by rcases HGG.out with e | e; exact hbig _ e; omega
          refine ⟨HS1.out.move HJ.out (fun i e => .inl (.inl (.inr e))) HT2.out (fun i e => ?_), ?_, HS.out.ret, HS.out.k2, ⟨HL.out.sB.1, fun e => ?_⟩⟩
          · rcases e with (e | e) | rfl
            · exact ⟨.inl (.inl (.inl (.inl e))), by have := HL.out.dv.kin i (.inl e); have := HT2.out.size; omega⟩
            · have e' : g2 = i := by simpa [Value.ownBlock] using e
              subst e'
              refine ⟨?_, HGL.out⟩
              rcases HGG.out with e | e
              · exact .inl (.inl (.inl (.inr e)))
              · exact .inr (by omega)
            · exact ⟨.inl (.inl (.inr rfl)), by have := HT2.out.size; omega⟩
          · exact (HS.out.own.kept HT1.out (fun e => e.2 (.inr rfl))).kept HT2.out (fun e => by have := hbig _ e; omega)
          · rcases e with e | e
            · exact HL.out.sB.2 e
            · have e' : g2 = s := by simpa [Value.ownBlock] using e
              omega
        have HTT := Lib.hid tt
        have HSS := Lib.hid ss
        clear tt ss ho2 hg2 hgg hgl own1 hcc hlt2 cl
        go_wp2
        refine ⟨⟨j + 1, by omega, by go_num, by rw [Nat.mul_add]; exact HO2.out, by rw [if_neg (by omega)]; exact HSS.out, HTT.out⟩, by simp [intOf]; omega⟩
      · obtain rfl : j = k := by omega
        have c1 := HS.out.own.cell 0
        have f1 := HS.out.own.frozen 1
        simp only [List.cons_append, List.getElem?_cons_zero] at c1
        obtain ⟨g2, cap2, rfl, hr2, hg2⟩ : ∃ g2 cap2, u3 = .slice (some ⟨g2, 0, none⟩) (j * 64) cap2 ∧ ReadsU wr (some ⟨g2, 0, none⟩) (j * 64) cap2 ws ∧ w.heap.size ≤ g2 := by
          have ho := HO.out
          rw [List.take_of_length_le (by rw [HWL.out]; omega)] at ho
          obtain ⟨hl, h | ⟨g', cap', cur, e, hb, hg, hc, hm, hz, ht⟩⟩ := ho
          · omega
          · refine ⟨g', cap', by rw [e, Nat.mul_comm], ⟨by rw [HWL.out], by omega, hm, fun _ => ⟨_, rfl, (Array.getElem?_eq_some_iff.1 hg).1, fun i u hu => ?_⟩⟩, hb⟩
            have hA : At wr g' 36 cur.toList := by unfold At; simpa using hg
            rw [add_zero_block, hA.cell]
            rw [← ht] at hu
            rw [Nat.mul_one] at hu
            rw [List.getElem?_take] at hu
            split at hu
            · exact hu
            · cases hu
        have HR2 := Lib.hid hr2
        have HG2 := Lib.hid hg2
        clear hr2 hg2
        go_wp2_with (first
          | (go_at_call 49; (with_reducible refine (SC'.out _ _ _ HR2.out).mono ?_); rintro e w1 ⟨B', cap', rfl, _, hb, hq⟩; obtain ⟨rfl, rfl, hrow⟩ := hq trivial; have HB := Lib.hid hb; have HROW := Lib.hid hrow; have own1 := HS.out.own.kept (Turned.of_below hb (Nat.le_refl _) NoBlock) (fun h => h); have f1 := own1.frozen 1; have c11 := own1.cell 1; simp only [List.cons_append, List.getElem?_cons_zero, List.getElem?_cons_succ, List.nil_append] at c11; have HOWN := Lib.hid own1; clear hb hq hrow own1))
        go_ret
        have hsw := HL.out.own.lt
        have hszs := HT.out.size
        have hbs := HB.out.size
        have hjd : (if j = 0 then d else dl) = dl := if_neg (by omega)
        have hdv := HS.out.dv
        rw [hjd] at hdv
        have tS : Turned (Just s) w1 (w1.setCell ⟨s, 1, none⟩ (.slice (some ⟨wr.heap.size, 0, none⟩) bs.length bs.length)) := (Turned.refl (Just s) w1).setCell (p := ⟨s, 1, none⟩) (fun _ => rfl) _
        have hne : wr.heap.size ≠ s := by omega
        have fin : Sto B p f q s j wr.heap.size K dl ⟨bs, ret, off⟩ (w1.setCell ⟨s, 1, none⟩ (.slice (some ⟨wr.heap.size, 0, none⟩) bs.length bs.length)) := by
          have hkk : ∀ i, K i → i < w.heap.size := fun i e => HL.out.dv.kin i (.inl e)
          refine ⟨hdv.move HJ.out (S := Just s) (fun i e => .inr e) ((Turned.of_below HB.out (Nat.le_refl _) _).trans tS) (fun i e => ?_), (HOWN.out.put 1 _).as (by simp [stoCells]), HROW.out.far (p := ⟨s, 1, none⟩) hne _, HBO.out, HL.out.ret, HBL.out, kk2, HL.out.sB, ⟨by have := HL.out.dv.size; omega, fun e => by have := HL.out.dv.kin _ (.inl e); omega⟩⟩
          rcases e with e | rfl | rfl
          · exact ⟨.inl (.inl (.inl e)), by have := hkk i e; have := tS.size; omega⟩
          · exact ⟨.inl (.inr rfl), by have := tS.size; omega⟩
          · exact ⟨.inr (Nat.le_refl _), by have := HROW.out.lt; have := tS.size; omega⟩
        have tfin : Turned (May B K) w (w1.setCell ⟨s, 1, none⟩ (.slice (some ⟨wr.heap.size, 0, none⟩) bs.length bs.length)) :=
          HT.out.trans ((Turned.of_below HB.out (Nat.le_refl _) _).trans (tS.mono fun i _ e => by unfold Just at e; rw [e]; exact HL.out.sB))
        exact ⟨rfl, tfin, wr.heap.size, fin⟩
end
end Go.Proofs.YtpkkejdjhnmjiaaGreat
namespace Go.Proofs.YtpkkejdjhnmjiaaGreat
open Go.RowKit Bm Go.Shelf
def StoOut (B p f q s k : Nat) (K : Nat → Prop) (r : DrvM × StoM × Int) (w : World) (e : Ending) (w' : World) : Prop :=
  e = .returned (.int .i64 r.2.2) ∧ (∃ g, Sto B p f q s k g K r.1 r.2.1 w') ∧ Turned (May B K) w w'
def xLook (d : DrvM) (x : StoM) : StoM := if d.f.chip.up then { x with bs := (scOf d.f.chip.ws).1 } else x
def mLook (d : DrvM) (x : StoM) : DrvM × StoM × Int := (dLook d, xLook d x, lookE d)
def mNote (r : DrvM × StoM × Int) : DrvM × StoM × Int := (r.1, { r.2.1 with off := r.2.1.off || decide (r.2.2 = 4) }, r.2.2)
def mBegin (k : Nat) (d : DrvM) (x : StoM) (sector : Int) : DrvM × StoM × Int :=
  if sector < 0 ∨ secs k ≤ sector then (d, x, 10) else if x.off then (d, x, 4) else mNote (mLook d x)
section
variable {B p f q s k g : Nat} {K : Nat → Prop} {d d' : DrvM} {x : StoM} {w w' : World}
theorem Sto.look (h : Sto B p f q s k g K d x w) (ok : DrvOk k d) (k1 : 1 ≤ k) :
    Calls Tryz.prog 33 #[.pointer (some ⟨s, 0, none⟩)] w (StoOut B p f q s k K (mLook d x) w) := by
  refine (h.toL.look ok k1).mono ?_
  rintro e w' ⟨rfl, t, hs⟩
  refine ⟨rfl, ?_, may_less t fun _ e => .inl e⟩
  unfold mLook xLook
  cases hu : d.f.chip.up with
  | true =>
    rw [hu, if_pos rfl] at hs
    obtain ⟨g', hs⟩ := hs
    exact ⟨g', hs.less fun _ e => .inl e⟩
  | false =>
    rw [hu] at hs
    simp only [Bool.false_eq_true, if_false] at hs ⊢
    have hg := h.row.lt
    exact ⟨g, ⟨hs.dv.less fun i e => by rcases e with e | e | e <;> simp [e], hs.own, h.row.kept t (fun e => e.2 (.inr rfl)), h.ok, h.ret, h.len, h.k2, h.sB, h.gB⟩⟩
set_option maxRecDepth 100000 in
theorem Sto.begin (h : Sto B p f q s k g K d x w) (ok : DrvOk k d) (k1 : 3 ≤ k) (a : Int) (a0 : -9223372036854775808 ≤ a) (a1 : a ≤ 9223372036854775807) :
    Calls Tryz.prog 20 #[.pointer (some ⟨s, 0, none⟩), .int .i64 a] w (StoOut B p f q s k K (mBegin k d x a) w) := by
  have M := Lib.hid h.made
  have S := Lib.hid h.sectors
  have L := Lib.hid (h.look ok (by omega))
  have c3 := h.c3
  have kk2 := h.k2
  have HH := Lib.hid h
  have s0 : 0 ≤ secs k := by unfold secs; omega
  have s1 : secs k ≤ 1000 := by unfold secs; omega
  obtain ⟨n, hn⟩ : ∃ n, n = secs k := ⟨_, rfl⟩
  have HN : Hid (mBegin k d x a = if a < 0 ∨ n ≤ a then (d, x, 10) else if x.off then (d, x, 4) else mNote (mLook d x)) := Lib.hid (by rw [hn]; rfl)
  rw [← hn] at S s0 s1
  rw [HN.out]
  have HJ := Lib.hid (look_calm ok).calm.job
  clear h hn ok
  by_cases h0 : a < 0
  · rw [if_pos (.inl h0)]
    go_enter Tryz.func20, Tryz.ntmps20
    go_wp2_with (first
      | (go_at_call 36; (with_reducible refine M.out.mono ?_); rintro e w1 ⟨rfl, hw⟩; obtain rfl := hw.symm))
    go_ret
    exact ⟨rfl, ⟨g, HH.out⟩, Turned.refl _ _⟩
  · by_cases h1 : n ≤ a
    · rw [if_pos (.inr h1)]
      go_enter Tryz.func20, Tryz.ntmps20
      go_wp2_with (first
        | (go_at_call 36; (with_reducible refine M.out.mono ?_); rintro e w1 ⟨rfl, hw⟩; obtain rfl := hw.symm)
        | (go_at_call 37; (with_reducible refine S.out.mono ?_); rintro e w1 ⟨rfl, hw⟩; obtain rfl := hw.symm))
      go_ret
      exact ⟨rfl, ⟨g, HH.out⟩, Turned.refl _ _⟩
    · rw [if_neg (by omega)]
      cases ho : x.off with
      | true =>
        rw [ho] at c3
        rw [if_pos rfl]
        clear HN
        go_enter Tryz.func20, Tryz.ntmps20
        go_wp2_with (first
          | (go_at_call 36; (with_reducible refine M.out.mono ?_); rintro e w1 ⟨rfl, hw⟩; obtain rfl := hw.symm)
          | (go_at_call 37; (with_reducible refine S.out.mono ?_); rintro e w1 ⟨rfl, hw⟩; obtain rfl := hw.symm))
        go_ret
        exact ⟨rfl, ⟨g, HH.out⟩, Turned.refl _ _⟩
      | false =>
        rw [ho] at c3
        rw [if_neg (by simp)]
        have le : lookE d = 0 ∨ lookE d = 4 := by unfold lookE; split <;> simp
        have LE := Lib.hid le
        clear HN ho le
        obtain ⟨r, hr⟩ : ∃ r, r = mLook d x := ⟨_, rfl⟩
        have hr2 : r.2.2 = 0 ∨ r.2.2 = 4 := by rw [hr]; exact LE.out
        have hrj : r.1.f.job = 0 := by rw [hr]; exact HJ.out
        rw [← hr] at L ⊢
        have HR2 := Lib.hid hr2
        have HRJ := Lib.hid hrj
        clear hr hr2 hrj
        go_enter Tryz.func20, Tryz.ntmps20
        go_wp2_with (first
          | (go_at_call 36; (with_reducible refine M.out.mono ?_); rintro e w1 ⟨rfl, hw⟩; obtain rfl := hw.symm)
          | (go_at_call 37; (with_reducible refine S.out.mono ?_); rintro e w1 ⟨rfl, hw⟩; obtain rfl := hw.symm)
          | (go_at_call 33; (with_reducible refine L.out.mono ?_); rintro e w1 ⟨rfl, ⟨g1, hs1⟩, t1⟩; have HS1 := Lib.hid hs1; have HT1 := Lib.hid t1; clear hs1 t1)
          | (go_at_call 38; (with_reducible refine (HS1.out.note HRJ.out _ (by rcases HR2.out with h | h <;> rw [h] <;> decide)).mono ?_); rintro e w2 ⟨rfl, hs2, t2⟩; have HS2 := Lib.hid hs2; have HT2 := Lib.hid t2; clear hs2 t2))
        go_ret
        exact ⟨rfl, ⟨g1, HS2.out⟩, HT1.out.trans HT2.out⟩
end
end Go.Proofs.YtpkkejdjhnmjiaaGreat
namespace Go.Proofs.YtpkkejdjhnmjiaaGreat
open Go.RowKit Bm Go.Shelf
theorem bks_cut (bs : List BlkM) (b : Nat) (h : b < bs.length) : bks bs = bks (bs.take b) ++ (bkC (bkN bs b) ++ bks (bs.drop (b + 1))) := by
  have e : bs = bs.take b ++ (bkN bs b :: bs.drop (b + 1)) := by
    have h1 : bkN bs b :: bs.drop (b + 1) = bs.drop b := by
      rw [List.drop_eq_getElem_cons h]
      unfold bkN
      rw [List.getD_eq_getElem?_getD, List.getElem?_eq_getElem h]
      rfl
    rw [h1, List.take_append_drop]
  conv => lhs; rw [e]
  unfold bks
  rw [List.flatMap_append, List.flatMap_cons]
theorem bks_put (bs : List BlkM) (b : Nat) (x : BlkM) (h : b < bs.length) : bks (bs.set b x) = bks (bs.take b) ++ (bkC x ++ bks (bs.drop (b + 1))) := by
  have e : bs.set b x = bs.take b ++ (x :: bs.drop (b + 1)) := by rw [List.set_eq_take_append_cons_drop, if_pos h]
  rw [e]
  unfold bks
  rw [List.flatMap_append, List.flatMap_cons]
theorem bks_pre {bs : List BlkM} (hb : ∀ b ∈ bs, BlkOk b) (b : Nat) (h : b ≤ bs.length) : (bks (bs.take b)).length = b * 66 := by
  rw [bks_len (fun c hc => hb c (List.mem_of_mem_take hc)), List.length_take]
  omega
theorem blks_set {bs : List BlkM} (hb : ∀ b ∈ bs, BlkOk b) (b : Nat) {x : BlkM} (hx : BlkOk x) : ∀ c ∈ bs.set b x, BlkOk c := fun c hc => by
  rcases List.mem_or_eq_of_mem_set hc with h | rfl
  · exact hb c h
  · exact hx
def blkT : BlkM := ⟨2, 0#32, List.replicate 8 0, List.replicate 8 pg0⟩
def blkG (c : BitVec 32) : BlkM := ⟨1, c, List.replicate 8 0, List.replicate 8 pg0⟩
theorem blkT_ok : BlkOk blkT := ⟨rfl, rfl⟩
theorem blkG_ok (c : BitVec 32) : BlkOk (blkG c) := ⟨rfl, rfl⟩
set_option maxRecDepth 100000 in
theorem run_blkT (w : World) : (Instr.build 147 #[(0, .int .i64 2)]).run Tryz.prog w = .ok (.agg (bkC blkT).toArray) w := by kernel_rfl
set_option maxRecDepth 100000 in
theorem run_blkG (c : BitVec 32) (w : World) : (Instr.build 147 #[(0, .int .i64 1), (1, .int .u32 (U c))]).run Tryz.prog w = .ok (.agg (bkC (blkG c)).toArray) w := by
  unfold blkG bkC
  simp only
  generalize U c = c
  kernel_rfl
section
variable {ops : Array Oper} {rest : List Oper} {o : Oper} {a : Go.Act} {w : World} {Q : Exit → Go.Act → World → Prop}
theorem wpList_blkT (hgd : o.guard = none) (ho : o.op = .build 147 #[(0, .const (.int .i64 2))])
    (hK : wpList Tryz.prog ops Q rest (a.put o.dst (.agg (bkC blkT).toArray)) w) : wpList Tryz.prog ops Q (o :: rest) a w :=
  wpList_plain hgd fun K hK' => by
    unfold Oper.wp execOp
    simp only [ho, List.map_toArray, List.map_cons, List.map_nil, Act.eval, Sem.run_bind, run_blkT, Result.andThen_ok]
    exact hK' _ _ hK
theorem wpList_blkG {c : BitVec 32} (y : Operand) (hgd : o.guard = none) (ho : o.op = .build 147 #[(0, .const (.int .i64 1)), (1, y)]) (hy : a.eval y = .int .u32 (U c))
    (hK : wpList Tryz.prog ops Q rest (a.put o.dst (.agg (bkC (blkG c)).toArray)) w) : wpList Tryz.prog ops Q (o :: rest) a w :=
  wpList_plain hgd fun K hK' => by
    unfold Oper.wp execOp
    have hc : a.eval (.const (.int .i64 1)) = .int .i64 1 := rfl
    simp only [ho, List.map_toArray, List.map_cons, List.map_nil, hy, hc, Sem.run_bind, run_blkG, Result.andThen_ok]
    exact hK' _ _ hK
end
def ncM (bs : List BlkM) (b : Nat) : BitVec 32 :=
  if (bkN bs b).head = 1 then (if U ((bkN bs b).count + 1#32) ≤ 2147483648 then (bkN bs b).count + 1#32 else 2147483648#32) else (if U (bkCounts bs) < 1 then 1#32 else bkCounts bs)
def mRemake (d : DrvM) (x : StoM) (b : Nat) : DrvM × StoM × Int :=
  let r1 := dProgram d ((b : Int) * 64 + 3) [0#32]
  if r1.2 ≠ 0 then (r1.1, x, r1.2) else
  let r2 := dErase r1.1 b
  if r2.2 ≠ 0 then (r2.1, { x with bs := x.bs.set b blkT }, r2.2) else
  let r3 := dProgram r2.1 ((b : Int) * 64) (hdWs (ncM x.bs b))
  if r3.2 ≠ 0 then (r3.1, { x with bs := x.bs.set b blkT }, r3.2) else (r3.1, { x with bs := x.bs.set b (blkG (ncM x.bs b)) }, 0)
def mRenew (d : DrvM) (x : StoM) (b : Nat) : DrvM × StoM × Int :=
  let r := mRemake d x b
  if r.2.2 = 5 then (r.1, { r.2.1 with ret := r.2.1.ret.set b true }, 0) else r
section
variable {B p f q s k g : Nat} {K : Nat → Prop} {d d' : DrvM} {x : StoM} {w w' : World}
theorem Sto.setBlk (h : Sto B p f q s k g K d x w) (hj : d.f.job = 0) {b : Nat} {c : BlkM} (hb : b < k) (hc : BlkOk c) (hA : At w' g 147 (bks (x.bs.take b) ++ (bkC c ++ bks (x.bs.drop (b + 1))))) (t : Turned (Just g) w w') :
    Sto B p f q s k g K d { x with bs := x.bs.set b c } w' ∧ Turned (May B K) w w' :=
  h.turn hj (t.mono fun _ _ e => .inr e) ((h.own.kept t (fun e => h.ne e)).as (by simp [stoCells])) (hA.as (bks_put x.bs b c (by rw [h.len]; exact hb)).symm) (blks_set h.ok b hc) h.ret (by simpa using h.len)
theorem Sto.progOut (h : Sto B p f q s k g K d x w) (ok : DrvOk k d) (hb : Below w.heap.size w w') (a : Int) {A : Option Addr} {cp : Nat} {xs : List (BitVec 32)} (hr : ReadsU w' A xs.length cp xs) (hn : xs.length ≤ 1000)
    (hg : 0 < xs.length → ∃ g rest, A = some ⟨g, 0, none⟩ ∧ At w' g 36 (Us xs ++ rest) ∧ (Us xs ++ rest).length = cp ∧ w.heap.size ≤ g)
    (a0 : -1125899906842624 ≤ a) (a1 : a ≤ 1125899906842624) (t0 : 0 ≤ d.t) (t1 : d.t ≤ 100000000000000) :
    Calls Tryz.prog 70 #[.pointer (some ⟨q, 0, none⟩), .int .i64 a, .slice A xs.length cp] w' fun e w2 => e = .returned (.int .i64 (dProgram d a xs).2) ∧ Sto B p f q s k g K (dProgram d a xs).1 x w2 ∧ Turned (May B K) w w2 := by
  by_cases hl : 0 < xs.length
  · obtain ⟨ga, rest, rfl, hA, _, hgl⟩ := hg hl
    have h2 := h.renew ok.calm.job (K' := fun i => K i ∨ i = ga) hb (fun i e => by
      rcases e with e | rfl
      · exact ⟨.inl e, Nat.lt_of_lt_of_le (h.kin i e) hb.size⟩
      · exact ⟨.inr hgl, hA.lt⟩)
    refine (h2.dv.program ok a _ _ cp xs hr hn a0 a1 t0 t1 (fun _ g' e => ?_)).mono ?_
    · injection e with e
      rw [← e]
      exact fun h => h.2 (.inl (.inr rfl))
    · rintro e w2 ⟨rfl, s2, t2⟩
      obtain ⟨s3, t3⟩ := h2.drv s2 t2
      exact ⟨rfl, s3.less fun _ e => .inl e, (Turned.of_below hb (Nat.le_refl _) _).trans (may_less t3 fun _ e => .inl e)⟩
  · refine ((h.below hb).dv.program ok a _ _ cp xs hr hn a0 a1 t0 t1 (fun h0 => absurd h0 hl)).mono ?_
    rintro e w2 ⟨rfl, s2, t2⟩
    obtain ⟨s3, t3⟩ := (h.below hb).drv s2 t2
    exact ⟨rfl, s3, (Turned.of_below hb (Nat.le_refl _) _).trans t3⟩
set_option maxRecDepth 100000 in
theorem Sto.nextCount (h : Sto B p f q s k g K d x w) (b : Nat) (hb : b < k) : Calls Tryz.prog 69 #[.pointer (some ⟨s, 0, none⟩), .int .i64 b] w fun e w' => e = .returned (.int .u32 (U (ncM x.bs b))) ∧ Below w.heap.size w w' := by
  have hz := bk_zero
  have c1 := h.c1
  have HR := Lib.hid (h.blk hb)
  have HO := Lib.hid (h.bok hb)
  have HLN := Lib.hid h.len
  have SC := Lib.hid (fun W (hB : Below w.heap.size w W) => scounts_any _ _ _ x.bs W (h.below hB).reads (by have := h.len; have := h.k2; omega))
  have C1 := Lib.hid (fun W (hB : Below w.heap.size w W) => (h.below hB).c1)
  have i1 : (b : Int) < (x.bs.length : Int) := by rw [h.len]; omega
  have hk2 := h.k2
  have i2 : b < x.bs.length := by rw [h.len]; exact hb
  obtain ⟨y, hy⟩ : ∃ y, y = bkN x.bs b := ⟨_, rfl⟩
  have HN : Hid (ncM x.bs b = if y.head = 1 then (if U (y.count + 1#32) ≤ 2147483648 then y.count + 1#32 else 2147483648#32) else (if U (bkCounts x.bs) < 1 then 1#32 else bkCounts x.bs)) := Lib.hid (by rw [hy]; rfl)
  rw [← hy] at HR HO
  clear h hy
  by_cases h1 : y.head = 1
  · go_enter Tryz.func69, Tryz.ntmps69
    go_wp2_with (first
      | (refine wpList_ldr _ rfl rfl rfl Tryz.underlying147 rfl bk_size (bk_len HO.out) HR.out ?_)
      | (refine wpList_stm (pre := []) (post := []) (xs := bkC bk0) _ _ rfl rfl rfl rfl bk_size (by rfl) (bk_len HO.out) (bk_one _) rfl (by simp) (At.news w _ (bkC bk0)) ?_; intro w2 A2 T2; have c0 := A2.cell 0; have c1' := A2.cell 1; simp only [List.nil_append, List.append_nil, bk_head, bk_count] at c0 c1'; have T2' := Lib.hid T2; clear A2 T2))
    all_goals have hbb : Below w.heap.size w w2 := ((Below.refl _ w).alloc (Nat.le_refl _) _).trans (T2'.out.below (fun i hi => by unfold Just at hi; omega) (by simp))
    all_goals go_ret
    all_goals refine ⟨?_, hbb⟩
    all_goals rw [HN.out, if_pos h1]
    all_goals have hU : U (y.count + 1#32) = (U y.count + 1) % 4294967296 := (U_add y.count 1#32).symm
    · rw [if_neg (by rw [hU]; omega)]
      rfl
    · rw [if_pos (by rw [hU]; omega), hU]
      rfl
  · have HH1 : Hid (ncM x.bs b = if U (bkCounts x.bs) < 1 then 1#32 else bkCounts x.bs) := Lib.hid (by rw [HN.out, if_neg h1])
    go_enter Tryz.func69, Tryz.ntmps69
    go_wp2_with (first
      | (refine wpList_ldr _ rfl rfl rfl Tryz.underlying147 rfl bk_size (bk_len HO.out) HR.out ?_)
      | (refine wpList_stm (pre := []) (post := []) (xs := bkC bk0) _ _ rfl rfl rfl rfl bk_size (by rfl) (bk_len HO.out) (bk_one _) rfl (by simp) (At.news w _ (bkC bk0)) ?_; intro w2 A2 T2; have c0 := A2.cell 0; have c1' := A2.cell 1; simp only [List.nil_append, List.append_nil, bk_head, bk_count] at c0 c1'; have hbb : Below w.heap.size w w2 := ((Below.refl _ w).alloc (Nat.le_refl _) _).trans (T2.below (fun i hi => by unfold Just at hi; omega) (by simp)); have HBB := Lib.hid hbb; have cc1 := C1.out _ hbb; clear A2 T2 hbb)
      | (go_at_call 85; (with_reducible refine (SC.out _ HBB.out).mono ?_); rintro e w3 ⟨rfl, hb3⟩; have HB3 := Lib.hid (HBB.out.trans (hb3.mono HBB.out.size)); clear hb3))
    all_goals go_ret
    all_goals refine ⟨?_, HB3.out⟩
    all_goals rw [HH1.out]
    · rw [if_pos (by assumption)]
      rfl
    · rw [if_neg (by omega)]
      rfl
set_option maxRecDepth 100000 in
set_option maxHeartbeats 1000000 in
theorem Sto.remake (h : Sto B p f q s k g K d x w) (ok : DrvOk k d) (b : Nat) (hb : b < k) (t0 : 0 ≤ d.t) (t1 : d.t ≤ 90000000000000) :
    Calls Tryz.prog 50 #[.pointer (some ⟨s, 0, none⟩), .int .i64 b] w (StoOut B p f q s k K (mRemake d x b) w) := by
  have hk2 := h.k2
  have NC := Lib.hid (h.nextCount b hb)
  have ok1 := program_calm [0#32] ((b : Int) * 64 + 3) ok
  have tt1 := program_ticks [0#32] d ((b : Int) * 64 + 3)
  have ok2 := erase_calm ok1 b
  have tt2 := erase_ticks (dProgram d ((b : Int) * 64 + 3) [0#32]).1 b
  have hh := hdWs_len (ncM x.bs b)
  simp only [List.length_cons, List.length_nil] at tt1
  have HM : Hid (∀ r1 r2 r3 c, r1 = dProgram d ((b : Int) * 64 + 3) [0#32] → r2 = dErase r1.1 b → c = ncM x.bs b → r3 = dProgram r2.1 ((b : Int) * 64) (hdWs c) → mRemake d x b = if r1.2 ≠ 0 then (r1.1, x, r1.2) else if r2.2 ≠ 0 then (r2.1, { x with bs := x.bs.set b blkT }, r2.2) else if r3.2 ≠ 0 then (r3.1, { x with bs := x.bs.set b blkT }, r3.2) else (r3.1, { x with bs := x.bs.set b (blkG c) }, 0)) := Lib.hid (by
    rintro r1 r2 r3 c rfl rfl rfl rfl
    rfl)
  obtain ⟨r1, hr1⟩ : ∃ r1, r1 = dProgram d ((b : Int) * 64 + 3) [0#32] := ⟨_, rfl⟩
  rw [← hr1] at ok1 tt1 ok2 tt2
  obtain ⟨r2, hr2⟩ : ∃ r2, r2 = dErase r1.1 b := ⟨_, rfl⟩
  rw [← hr2] at ok2 tt2
  obtain ⟨c, hc⟩ : ∃ c, c = ncM x.bs b := ⟨_, rfl⟩
  rw [← hc] at NC hh
  obtain ⟨r3, hr3⟩ : ∃ r3, r3 = dProgram r2.1 ((b : Int) * 64) (hdWs c) := ⟨_, rfl⟩
  have HMM := Lib.hid (HM.out r1 r2 r3 c hr1 hr2 hc hr3)
  have P1 : Hid (∀ W, Below w.heap.size w W → Calls Tryz.prog 70 #[.pointer (some ⟨q, 0, none⟩), .int .i64 ((b : Int) * 64 + 4 - 1), .slice (some ⟨W.heap.size, 0, none⟩) 1 1] (W.alloc (.cells #[.int .u32 0] 36)) (DvOut B p f q k (fun i => K i ∨ i = s ∨ i = g) r1.1 (.int .i64 r1.2) W)) := Lib.hid (fun W hW => by
    have := (h.below hW).dv.programNew ok ((b : Int) * 64 + 3) [0#32] (by simp) (by omega) (by omega) t0 (by omega)
    rw [← hr1] at this
    rw [show (b : Int) * 64 + 4 - 1 = (b : Int) * 64 + 3 by omega]
    exact this)
  have HH := Lib.hid h
  have OK1 := Lib.hid ok1
  have OK2 := Lib.hid ok2
  have T1 : Hid (0 ≤ r1.1.t ∧ r1.1.t ≤ 90000000000010) := Lib.hid ⟨by omega, by omega⟩
  have T2 : Hid (0 ≤ r2.1.t ∧ r2.1.t ≤ 90000000000100) := Lib.hid ⟨by omega, by omega⟩
  have E2 : Hid (∀ W K, Dv B p f q k K r1.1 W → Calls Tryz.prog 71 #[.pointer (some ⟨q, 0, none⟩), .int .i64 b] W (DvOut B p f q k K r2.1 (.int .i64 r2.2) W)) := Lib.hid (fun W K hW => by
    have := hW.erase ok1 b (by omega) (by omega) (by omega) (by omega)
    rw [← hr2] at this
    exact this)
  have P3 : Hid (∀ V W x' A cp, Sto B p f q s k g K r2.1 x' V → Below V.heap.size V W → ReadsU W A (hdWs c).length cp (hdWs c) → (0 < (hdWs c).length → ∃ g rest, A = some ⟨g, 0, none⟩ ∧ At W g 36 (Us (hdWs c) ++ rest) ∧ (Us (hdWs c) ++ rest).length = cp ∧ V.heap.size ≤ g) → Calls Tryz.prog 70 #[.pointer (some ⟨q, 0, none⟩), .int .i64 ((b : Int) * 64), .slice A (hdWs c).length cp] W fun e w2 => e = .returned (.int .i64 r3.2) ∧ Sto B p f q s k g K r3.1 x' w2 ∧ Turned (May B K) V w2) := Lib.hid (fun V W x' A cp hV hb hA hn => by
    have := hV.progOut ok2 hb ((b : Int) * 64) hA (by omega) hn (by omega) (by omega) (by omega) (by omega)
    rw [← hr3] at this
    exact this)
  have PH := Lib.hid (fun W => pheader_any c W)
  have J1 := Lib.hid ok1.calm.job
  have J2 := Lib.hid ok2.calm.job
  have J3 : Hid (r3.1.f.job = 0) := Lib.hid (by rw [hr3]; exact (program_calm _ _ ok2).calm.job)
  have I1 : Hid (b < x.bs.length) := Lib.hid (by rw [h.len]; exact hb)
  have HLN := Lib.hid h.len
  have i1 : (b : Int) < (x.bs.length : Int) := by rw [h.len]; omega
  have c0 := h.c0
  have hok := Lib.hid h.ok
  rw [HMM.out]
  clear HM hr1 hr2 hr3 hc ok1 ok2 tt1 tt2 hh ok t0 t1 h
  have hbN := Lib.hid hb
  by_cases e1 : r1.2 = 0
  · have b1 : (r1.2 != 0) = false := by rw [bne_eq_false_iff_eq]; exact e1
    rw [if_neg (show ¬ r1.2 ≠ 0 from fun h => h e1)]
    clear e1
    by_cases e2 : r2.2 = 0
    · have b2 : (r2.2 != 0) = false := by rw [bne_eq_false_iff_eq]; exact e2
      rw [if_neg (show ¬ r2.2 ≠ 0 from fun h => h e2)]
      clear e2
      obtain ⟨R, hR⟩ : ∃ R : DrvM × StoM × Int, R = (if r3.2 ≠ 0 then (r3.1, { x with bs := x.bs.set b blkT }, r3.2) else (r3.1, { x with bs := x.bs.set b (blkG c) }, 0)) := ⟨_, rfl⟩
      rw [← hR]
      have HRR := Lib.hid hR
      clear hR
      go_enter Tryz.func50, Tryz.ntmps50
      go_upto_region 9 with (first
      | (go_at_call 69; (with_reducible refine NC.out.mono ?_); rintro e w1 ⟨rfl, hb1⟩; have HB1 := Lib.hid hb1; have c01 := (HH.out.below hb1).c0; clear hb1)
      | (go_at_call 70; (with_reducible refine (P1.out _ HB1.out).mono ?_); rintro e w2 ⟨rfl, s2, t2⟩; have HS2 := Lib.hid ((HH.out.below HB1.out).drv s2 t2).1; have HT2 := Lib.hid ((Turned.of_below HB1.out (Nat.le_refl _) _).trans ((HH.out.below HB1.out).drv s2 t2).2); have c02 := HS2.out.c0; have c12 := HS2.out.c1; clear s2 t2)
      | (refine wpList_blkT rfl rfl ?_)
      | (refine wpList_stm (pre := bks (x.bs.take b)) (post := bks (x.bs.drop (b + 1))) (xs := bkC (bkN x.bs b)) (ys := bkC blkT) _ _ rfl rfl rfl rfl bk_size (bk_len (hok.out _ (List.mem_of_getElem? (bkN_get I1.out)))) (bk_len blkT_ok) (bk_one _) (bks_pre hok.out b (Nat.le_of_lt I1.out)) (bks_cut x.bs b I1.out) HS2.out.row ?_; intro w3 A3 T3; have HS3 := Lib.hid (HS2.out.setBlk J1.out hb blkT_ok A3 T3).1; have HT3 := Lib.hid (HT2.out.trans (HS2.out.setBlk J1.out hb blkT_ok A3 T3).2); have c03 := HS3.out.c0; clear A3 T3)
      | (go_at_call 71; (with_reducible refine (E2.out _ _ HS3.out.dv).mono ?_); rintro e w4 ⟨rfl, s4, t4⟩; have HS4 := Lib.hid (HS3.out.drv s4 t4).1; have HT4 := Lib.hid (HT3.out.trans (HS3.out.drv s4 t4).2); have c04 := HS4.out.c0; clear s4 t4))
      go_region_held3 (fun W => W.cell? ⟨s, 0, none⟩ = some (.pointer (some ⟨q, 0, none⟩))) (first | assumption | exact HS6.out.c0 | exact (HS4.out.below (by assumption)).c0 | exact (HS4.out.below (Below.refl _ w4).drew).c0) (first
        | (go_at_call 72; (with_reducible refine (PH.out _).mono ?_); rintro e w5 ⟨A5, cp5, rfl, r5, n5, hb5⟩; have HR5 := Lib.hid r5; have n5' : 0 < (hdWs c).length → ∃ g rest, A5 = some ⟨g, 0, none⟩ ∧ At w5 g 36 (Us (hdWs c) ++ rest) ∧ (Us (hdWs c) ++ rest).length = cp5 ∧ w4.heap.size ≤ g := n5; have HN5 := Lib.hid n5'; have hb5' : Below w4.heap.size w4 w5 := (Below.refl _ w4).drew.trans hb5; clear r5 n5 n5' hb5)
        | (go_at_call 70; (with_reducible refine (P3.out _ _ _ _ _ HS4.out (by assumption) HR5.out HN5.out).mono ?_); rintro e w6 ⟨rfl, s6, t6⟩; have HS6 := Lib.hid s6; have HT6 := Lib.hid (HT4.out.trans t6); clear s6 t6))
      have c06 := HS6.out.c0
      have c16 := HS6.out.c1
      simp only [List.length_set] at c16
      by_cases e3 : r3.2 = 0
      · have b3 : (r3.2 != 0) = false := by rw [bne_eq_false_iff_eq]; exact e3
        have HRN : Hid (R = (r3.1, { x with bs := x.bs.set b (blkG c) }, 0)) := Lib.hid (by rw [HRR.out, if_neg (show ¬ r3.2 ≠ 0 from fun h => h e3)])
        clear e3
        go_wp2_with (first
        | (refine wpList_blkG _ rfl rfl rfl ?_)
        | (refine wpList_stm (pre := bks (x.bs.take b)) (post := bks (x.bs.drop (b + 1))) (xs := bkC blkT) (ys := bkC (blkG c)) _ _ rfl rfl rfl rfl bk_size (bk_len blkT_ok) (bk_len (blkG_ok c)) (bk_one _) (bks_pre hok.out b (Nat.le_of_lt I1.out)) (bks_put x.bs b blkT I1.out) HS6.out.row ?_; intro w7 A7 T7; have HA7 := Lib.hid A7; have HT7 := Lib.hid T7; clear A7 T7))
        go_ret
        have hfin := HS6.out.setBlk J3.out hbN.out (blkG_ok c) (by
          refine HA7.out.as ?_
          have e1 : (x.bs.set b blkT).take b = x.bs.take b := by rw [List.take_set_of_le (Nat.le_refl _)]
          have e2 : (x.bs.set b blkT).drop (b + 1) = x.bs.drop (b + 1) := by rw [List.drop_set_of_lt (by omega)]
          rw [e1, e2]) HT7.out
        rw [show ({ x with bs := x.bs.set b blkT } : StoM).bs.set b (blkG c) = x.bs.set b (blkG c) by simp] at hfin
        rw [HRN.out]
        exact ⟨rfl, ⟨g, hfin.1⟩, HT6.out.trans hfin.2⟩
      · have b3 : (r3.2 != 0) = true := by rw [bne_iff_ne]; exact e3
        have HRN : Hid (R = (r3.1, { x with bs := x.bs.set b blkT }, r3.2)) := Lib.hid (by rw [HRR.out, if_pos e3])
        clear e3
        go_wp2
        go_ret
        rw [HRN.out]
        exact ⟨rfl, ⟨g, HS6.out⟩, HT6.out⟩
    · have b2 : (r2.2 != 0) = true := by rw [bne_iff_ne]; exact e2
      rw [if_pos e2]
      clear e2
      go_enter Tryz.func50, Tryz.ntmps50
      go_wp2_with (first
      | (go_at_call 69; (with_reducible refine NC.out.mono ?_); rintro e w1 ⟨rfl, hb1⟩; have HB1 := Lib.hid hb1; have c01 := (HH.out.below hb1).c0; clear hb1)
      | (go_at_call 70; (with_reducible refine (P1.out _ HB1.out).mono ?_); rintro e w2 ⟨rfl, s2, t2⟩; have HS2 := Lib.hid ((HH.out.below HB1.out).drv s2 t2).1; have HT2 := Lib.hid ((Turned.of_below HB1.out (Nat.le_refl _) _).trans ((HH.out.below HB1.out).drv s2 t2).2); have c02 := HS2.out.c0; have c12 := HS2.out.c1; clear s2 t2)
      | (refine wpList_blkT rfl rfl ?_)
      | (refine wpList_stm (pre := bks (x.bs.take b)) (post := bks (x.bs.drop (b + 1))) (xs := bkC (bkN x.bs b)) (ys := bkC blkT) _ _ rfl rfl rfl rfl bk_size (bk_len (hok.out _ (List.mem_of_getElem? (bkN_get I1.out)))) (bk_len blkT_ok) (bk_one _) (bks_pre hok.out b (Nat.le_of_lt I1.out)) (bks_cut x.bs b I1.out) HS2.out.row ?_; intro w3 A3 T3; have HS3 := Lib.hid (HS2.out.setBlk J1.out hb blkT_ok A3 T3).1; have HT3 := Lib.hid (HT2.out.trans (HS2.out.setBlk J1.out hb blkT_ok A3 T3).2); have c03 := HS3.out.c0; clear A3 T3)
      | (go_at_call 71; (with_reducible refine (E2.out _ _ HS3.out.dv).mono ?_); rintro e w4 ⟨rfl, s4, t4⟩; have HS4 := Lib.hid (HS3.out.drv s4 t4).1; have HT4 := Lib.hid (HT3.out.trans (HS3.out.drv s4 t4).2); have c04 := HS4.out.c0; clear s4 t4))
      go_ret
      exact ⟨rfl, ⟨g, HS4.out⟩, HT4.out⟩
  · have b1 : (r1.2 != 0) = true := by rw [bne_iff_ne]; exact e1
    rw [if_pos e1]
    clear e1
    go_enter Tryz.func50, Tryz.ntmps50
    go_wp2_with (first
      | (go_at_call 69; (with_reducible refine NC.out.mono ?_); rintro e w1 ⟨rfl, hb1⟩; have HB1 := Lib.hid hb1; have c01 := (HH.out.below hb1).c0; clear hb1)
      | (go_at_call 70; (with_reducible refine (P1.out _ HB1.out).mono ?_); rintro e w2 ⟨rfl, s2, t2⟩; have HS2 := Lib.hid ((HH.out.below HB1.out).drv s2 t2).1; have HT2 := Lib.hid ((Turned.of_below HB1.out (Nat.le_refl _) _).trans ((HH.out.below HB1.out).drv s2 t2).2); have c02 := HS2.out.c0; have c12 := HS2.out.c1; clear s2 t2))
    go_ret
    exact ⟨rfl, ⟨g, HS2.out⟩, HT2.out⟩
end
end Go.Proofs.YtpkkejdjhnmjiaaGreat
namespace Go.Proofs.YtpkkejdjhnmjiaaGreat
open Go.RowKit Bm Go.Shelf
section
variable {B p f q s k g : Nat} {K : Nat → Prop} {d d' : DrvM} {x : StoM} {w w' : World}
theorem remake_calm (ok : DrvOk k d) (x : StoM) (b : Nat) : DrvOk k (mRemake d x b).1 := by
  unfold mRemake
  simp only
  split
  · exact program_calm _ _ ok
  · split
    · exact erase_calm (program_calm _ _ ok) _
    · split
      · exact program_calm _ _ (erase_calm (program_calm _ _ ok) _)
      · exact program_calm _ _ (erase_calm (program_calm _ _ ok) _)
theorem renew_calm (ok : DrvOk k d) (x : StoM) (b : Nat) : DrvOk k (mRenew d x b).1 := by
  unfold mRenew
  simp only
  split <;> exact remake_calm ok x b
theorem Sto.renews (h : Sto B p f q s k g K d x w) (ok : DrvOk k d) (b : Nat) (hb : b < k) (t0 : 0 ≤ d.t) (t1 : d.t ≤ 90000000000000) :
    Calls Tryz.prog 34 #[.pointer (some ⟨s, 0, none⟩), .int .i64 b] w (StoOut B p f q s k K (mRenew d x b) w) := by
  have hk2 := h.k2
  have R := Lib.hid (h.remake ok b hb t0 t1)
  have J := Lib.hid (remake_calm ok x b).calm.job
  obtain ⟨r, hr⟩ : ∃ r, r = mRemake d x b := ⟨_, rfl⟩
  rw [← hr] at R J
  have HM : Hid (mRenew d x b = if r.2.2 = 5 then (r.1, { r.2.1 with ret := r.2.1.ret.set b true }, 0) else r) := Lib.hid (by rw [hr]; rfl)
  rw [HM.out]
  have b64 : Hid (b < 64) := Lib.hid (by omega)
  have b0 : (0 : Int) ≤ (b : Int) := by omega
  have b1 : (b : Int) < 64 := by omega
  clear h ok hr HM
  by_cases h5 : r.2.2 = 5
  · rw [if_pos h5]
    have e5 : (r.2.2 == 5) = true := by rw [beq_iff_eq]; exact h5
    clear h5
    go_enter Tryz.func34, Tryz.ntmps34
    go_wp2_with (first
      | (go_at_call 50; (with_reducible refine R.out.mono ?_); rintro e w1 ⟨rfl, ⟨g1, s1⟩, t1'⟩; have HS1 := Lib.hid s1; have HT1 := Lib.hid t1'; have cr := s1.cr b b64.out; have fr := s1.own.frozen (2 + b); clear s1 t1'))
    go_ret
    have hf := HS1.out.setRet J.out b b64.out true
    exact ⟨rfl, ⟨g1, hf.1⟩, HT1.out.trans hf.2⟩
  · rw [if_neg h5]
    have e5 : (r.2.2 == 5) = false := by rw [beq_eq_false_iff_ne]; exact h5
    clear h5
    go_enter Tryz.func34, Tryz.ntmps34
    go_wp2_with (first
      | (go_at_call 50; (with_reducible refine R.out.mono ?_); rintro e w1 ⟨rfl, ⟨g1, s1⟩, t1'⟩; have HS1 := Lib.hid s1; have HT1 := Lib.hid t1'; clear s1 t1'))
    go_ret
    exact ⟨rfl, ⟨g1, HS1.out⟩, HT1.out⟩
def mPut (d : DrvM) (x : StoM) (b i : Nat) (pg : PageM) : DrvM × StoM × Int :=
  let r := dProgram d (pgAt b i) (pgWs pg)
  if r.2 ≠ 0 then (r.1, x, r.2) else (r.1, { x with bs := x.bs.set b { bkN x.bs b with kinds := (bkN x.bs b).kinds.set i 1, pages := (bkN x.bs b).pages.set i pg } }, 0)
structure PutS (s q N b i : Nat) (pg : PageM) (W : World) : Prop where
  c0 : W.cell? ⟨s, 0, none⟩ = some (.pointer (some ⟨q, 0, none⟩))
  aA : At W N 212 [.int .i64 b, .int .i64 i]
  pA : At W (N + 1) 73 (pgC pg)
theorem PutS.below {N b i : Nat} {pg : PageM} {W W' : World} (h : PutS s q N b i pg W) (hs : s < W.heap.size) (hb : Below W.heap.size W W') : PutS s q N b i pg W' :=
  ⟨(hb.cell (p := ⟨s, 0, none⟩) hs).trans h.c0, h.aA.kept (Turned.of_below hb (Nat.le_refl _) NoBlock) (fun h => h), h.pA.kept (Turned.of_below hb (Nat.le_refl _) NoBlock) (fun h => h)⟩
set_option maxRecDepth 100000 in
set_option maxHeartbeats 1000000 in
theorem Sto.put (h : Sto B p f q s k g K d x w) (ok : DrvOk k d) (b i : Nat) (hb : b < k) (hi : i < 8) (pg : PageM) (t0 : 0 ≤ d.t) (t1 : d.t ≤ 90000000000000) :
    Calls Tryz.prog 148 #[.pointer (some ⟨s, 0, none⟩), .agg #[.int .i64 b, .int .i64 i], pgV pg] w (StoOut B p f q s k K (mPut d x b i pg) w) := by
  have hk2 := h.k2
  obtain ⟨w0, hw0⟩ : ∃ w0, w0 = (w.alloc (.cells #[.int .i64 b, .int .i64 i] 212)).alloc (.cells (pgC pg).toArray 73) := ⟨_, rfl⟩
  have hb0 : Below w.heap.size w w0 := by rw [hw0]; exact below_two w _ _
  have hz0 : w0.heap.size = w.heap.size + 2 := by rw [hw0]; simp
  have hss := h.own.lt
  have ps0 : PutS s q w.heap.size b i pg w0 := ⟨(h.below hb0).c0, by rw [hw0]; exact (At.news w _ _).alloc _, by rw [hw0]; exact At.alloc_new _ _ _ (by simp) rfl⟩
  have h0 := h.renew ok.calm.job (K' := fun j => K j ∨ j = w.heap.size ∨ j = w.heap.size + 1) hb0 (fun j e => by
    rcases e with e | rfl | rfl
    · exact ⟨.inl e, by have := h.kin j e; omega⟩
    · exact ⟨.inr (Nat.le_refl _), by omega⟩
    · exact ⟨.inr (by omega), by omega⟩)
  obtain ⟨r, hr⟩ : ∃ r, r = dProgram d (pgAt b i) (pgWs pg) := ⟨_, rfl⟩
  have hpa : pgAt (b : Int) (i : Int) = (b : Int) * 64 + 4 + (i : Int) * 7 := by unfold pgAt; rw [if_pos ⟨by omega, by omega, by omega, by omega⟩]
  have hpl : (pgWs pg).length ≤ 1000 := by have := pgWs_len pg; omega
  have PA := Lib.hid (fun W => pat_any (b : Int) (i : Int) W (by omega) (by omega) (by omega) (by omega))
  have PW : Hid (∀ W, Calls Tryz.prog 101 #[.agg #[.int .u32 (U pg.s), .int .u32 (U pg.q), .bool pg.g, .int .u32 (U pg.d0), .int .u32 (U pg.d1), .int .u32 (U pg.d2), .int .u32 (U pg.d3)]] W (OutW W (pgWs pg))) := Lib.hid (fun W => pwords_any pg W)
  have P3 : Hid (∀ W A cp, Below w0.heap.size w0 W → ReadsU W A (pgWs pg).length cp (pgWs pg) → (0 < (pgWs pg).length → ∃ g rest, A = some ⟨g, 0, none⟩ ∧ At W g 36 (Us (pgWs pg) ++ rest) ∧ (Us (pgWs pg) ++ rest).length = cp ∧ w0.heap.size ≤ g) → Calls Tryz.prog 70 #[.pointer (some ⟨q, 0, none⟩), .int .i64 (pgAt b i), .slice A (pgWs pg).length cp] W fun e w2 => e = .returned (.int .i64 r.2) ∧ Sto B p f q s k g (fun j => K j ∨ j = w.heap.size ∨ j = w.heap.size + 1) r.1 x w2 ∧ Turned (May B (fun j => K j ∨ j = w.heap.size ∨ j = w.heap.size + 1)) w0 w2) := Lib.hid (fun W A cp hb hA hn => by
    have := h0.progOut ok hb (pgAt b i) hA hpl hn (by omega) (by omega) (by omega) (by omega)
    rw [← hr] at this
    exact this)
  have HM : Hid (mPut d x b i pg = if r.2 ≠ 0 then (r.1, x, r.2) else (r.1, { x with bs := x.bs.set b { bkN x.bs b with kinds := (bkN x.bs b).kinds.set i 1, pages := (bkN x.bs b).pages.set i pg } }, 0)) := Lib.hid (by rw [hr]; rfl)
  have HBL : Hid (∀ W, Below w0.heap.size w0 W → PutS s q w.heap.size b i pg W) := Lib.hid (fun W hW => ps0.below (Nat.lt_of_lt_of_le hss hb0.size) hW)
  have PSK : Hid (∀ W, Turned (May B (fun j => K j ∨ j = w.heap.size ∨ j = w.heap.size + 1)) w0 W → Sto B p f q s k g (fun j => K j ∨ j = w.heap.size ∨ j = w.heap.size + 1) r.1 x W → PutS s q w.heap.size b i pg W) := Lib.hid (fun W hT hS => ⟨hS.c0, ps0.aA.kept hT (fun e => e.2 (.inr (.inl rfl))), ps0.pA.kept hT (fun e => e.2 (.inr (.inr rfl)))⟩)
  have HB0 := Lib.hid hb0
  have J1 : Hid (r.1.f.job = 0) := Lib.hid (by rw [hr]; exact (program_calm _ _ ok).calm.job)
  have I1 : Hid (b < x.bs.length) := Lib.hid (by rw [h.len]; exact hb)
  have BOK := Lib.hid (h.bok hb)
  have HBK := Lib.hid hb
  have i1 : (b : Int) < (x.bs.length : Int) := by rw [h.len]; omega
  have i2 : (i : Int) < 8 := by omega
  have HI := Lib.hid hi
  have l0 : ∀ W, PutS s q w.heap.size b i pg W → W.cell? ⟨s, 0, none⟩ = some (.pointer (some ⟨q, 0, none⟩)) := fun W h => h.c0
  have l1 : ∀ W, PutS s q w.heap.size b i pg W → W.cell? ⟨w.heap.size, 0, none⟩ = some (.int .i64 b) := fun W h => h.aA.cell 0
  have l2 : ∀ W, PutS s q w.heap.size b i pg W → W.cell? ⟨w.heap.size, 1, none⟩ = some (.int .i64 i) := fun W h => h.aA.cell 1
  have p0 : ∀ W, PutS s q w.heap.size b i pg W → W.cell? ⟨w.heap.size + 1, 0, none⟩ = some (.int .u32 (U pg.s)) := fun W h => h.pA.cell 0
  have p1 : ∀ W, PutS s q w.heap.size b i pg W → W.cell? ⟨w.heap.size + 1, 1, none⟩ = some (.int .u32 (U pg.q)) := fun W h => h.pA.cell 1
  have p2 : ∀ W, PutS s q w.heap.size b i pg W → W.cell? ⟨w.heap.size + 1, 2, none⟩ = some (.bool pg.g) := fun W h => h.pA.cell 2
  have p3 : ∀ W, PutS s q w.heap.size b i pg W → W.cell? ⟨w.heap.size + 1, 3, none⟩ = some (.int .u32 (U pg.d0)) := fun W h => h.pA.cell 3
  have p4 : ∀ W, PutS s q w.heap.size b i pg W → W.cell? ⟨w.heap.size + 1, 4, none⟩ = some (.int .u32 (U pg.d1)) := fun W h => h.pA.cell 4
  have p5 : ∀ W, PutS s q w.heap.size b i pg W → W.cell? ⟨w.heap.size + 1, 5, none⟩ = some (.int .u32 (U pg.d2)) := fun W h => h.pA.cell 5
  have p6 : ∀ W, PutS s q w.heap.size b i pg W → W.cell? ⟨w.heap.size + 1, 6, none⟩ = some (.int .u32 (U pg.d3)) := fun W h => h.pA.cell 6
  have HW0 := Lib.hid hw0
  rw [HM.out]
  obtain ⟨R, hR⟩ : ∃ R : DrvM × StoM × Int, R = if r.2 ≠ 0 then (r.1, x, r.2) else (r.1, { x with bs := x.bs.set b { bkN x.bs b with kinds := (bkN x.bs b).kinds.set i 1, pages := (bkN x.bs b).pages.set i pg } }, 0) := ⟨_, rfl⟩
  rw [← hR]
  have HRR := Lib.hid hR
  have HZ0 := Lib.hid hz0
  clear HM hR hw0 hz0 hb0 ps0 h0 h ok hr hpa hpl t0 t1 hb hi hss
  unfold pgV
  go_enter Tryz.func148, Tryz.ntmps148
  go_upto_region 1 with fail
  rw [← HW0.out]
  go_region_held3 (fun W => PutS s q w.heap.size b i pg W) (first | assumption | exact HBL.out _ (by assumption) | exact HBL.out _ (Below.refl _ w0).drew | exact PSK.out _ HT6.out HS6.out) (first
    | (go_at_call 100; (with_reducible refine (PA.out _).mono ?_); rintro e v1 ⟨rfl, rfl⟩)
    | (go_at_call 101; (with_reducible refine (PW.out _).mono ?_); rintro e w5 ⟨A5, cp5, rfl, r5, n5, hb5⟩; have HR5 := Lib.hid r5; have n5' : 0 < (pgWs pg).length → ∃ g rest, A5 = some ⟨g, 0, none⟩ ∧ At w5 g 36 (Us (pgWs pg) ++ rest) ∧ (Us (pgWs pg) ++ rest).length = cp5 ∧ w0.heap.size ≤ g := n5; have HN5 := Lib.hid n5'; have hb5' : Below w0.heap.size w0 w5 := (Below.refl _ w0).drew.trans hb5; clear r5 n5 n5' hb5)
    | (go_at_call 70; (with_reducible refine (P3.out _ _ _ (by assumption) HR5.out HN5.out).mono ?_); rintro e w6 ⟨rfl, s6, t6⟩; have HS6 := Lib.hid s6; have HT6 := Lib.hid t6; clear s6 t6))
  have hps := PSK.out _ HT6.out HS6.out
  have HPS := Lib.hid hps
  have a1 := hps.aA.cell 0
  have a2 := hps.aA.cell 1
  simp only [List.getElem?_cons_zero, List.getElem?_cons_succ] at a1 a2
  have c16 := HS6.out.c1
  have FT : Hid (Turned (May B K) w w6) := Lib.hid ((Turned.of_below HB0.out (Nat.le_refl _) _).trans (may_less HT6.out fun _ e => .inl e))
  clear l0 l1 l2 p0 p1 p2 p3 p4 p5 p6 hps
  by_cases e3 : r.2 = 0
  · have b3 : (r.2 != 0) = false := by rw [bne_eq_false_iff_eq]; exact e3
    have HRN : Hid (R = (r.1, { x with bs := x.bs.set b { bkN x.bs b with kinds := (bkN x.bs b).kinds.set i 1, pages := (bkN x.bs b).pages.set i pg } }, 0)) := Lib.hid (by rw [HRR.out, if_neg (show ¬ r.2 ≠ 0 from fun h => h e3)])
    clear e3
    go_wp2
    go_quiet (fail)
    go_upto_region 5 with fail
    have q0 : w6.cell? ⟨w.heap.size + 1, 0, none⟩ = some (.int .u32 (U pg.s)) := HPS.out.pA.cell 0
    have q1 : w6.cell? ⟨w.heap.size + 1, 1, none⟩ = some (.int .u32 (U pg.q)) := HPS.out.pA.cell 1
    have q2 : w6.cell? ⟨w.heap.size + 1, 2, none⟩ = some (.bool pg.g) := HPS.out.pA.cell 2
    have q3 : w6.cell? ⟨w.heap.size + 1, 3, none⟩ = some (.int .u32 (U pg.d0)) := HPS.out.pA.cell 3
    have q4 : w6.cell? ⟨w.heap.size + 1, 4, none⟩ = some (.int .u32 (U pg.d1)) := HPS.out.pA.cell 4
    have q5 : w6.cell? ⟨w.heap.size + 1, 5, none⟩ = some (.int .u32 (U pg.d2)) := HPS.out.pA.cell 5
    have q6 : w6.cell? ⟨w.heap.size + 1, 6, none⟩ = some (.int .u32 (U pg.d3)) := HPS.out.pA.cell 6
    have n0 : w.heap.size ≠ g := HPS.out.aA.ne HS6.out.row (by decide)
    have n1 : w.heap.size + 1 ≠ g := HPS.out.pA.ne HS6.out.row (by decide)
    have n0' : g ≠ w.heap.size := n0.symm
    have n1' : g ≠ w.heap.size + 1 := n1.symm
    have hbr := HS6.out.blk HBK.out
    have t2 : w6.cell? ⟨g, b * 66 + 2 + i, none⟩ = some (.int .i64 (nm (bkN x.bs b).kinds i)) := by
      have := hbr (2 + i) _ (bk_kind BOK.out i HI.out)
      rwa [← Nat.add_assoc] at this
    obtain ⟨pre, post, hpre, hcut, _⟩ := bk_page BOK.out i HI.out
    have hpc : ∀ j v, (pgC (pgN (bkN x.bs b).pages i))[j]? = some v → w6.cell? ⟨g, b * 66 + 10 + i * 7 + j, none⟩ = some v := fun j v hv => by
      have := hbr (pre.length + j) v (by rw [hcut, List.getElem?_append_right (by omega), Nat.add_sub_cancel_left, List.getElem?_append_left (List.getElem?_eq_some_iff.1 hv).1]; exact hv)
      rw [hpre] at this
      rwa [show b * 66 + 10 + i * 7 + j = b * 66 + (10 + 7 * i + j) by omega]
    have u0 := hpc 0 _ rfl
    have u1 := hpc 1 _ rfl
    have u2 := hpc 2 _ rfl
    have u3 := hpc 3 _ rfl
    have u4 := hpc 4 _ rfl
    have u5 := hpc 5 _ rfl
    have u6 := hpc 6 _ rfl
    rw [Nat.add_zero] at u0
    have HPC := Lib.hid hpc
    have HBR := Lib.hid hbr
    clear hpre hcut hpc hbr
    have fz : ∀ j, w6.frozen? ⟨g, j, none⟩ = false := HS6.out.row.frozen
    go_region_held3 (fun W => W.cell? ⟨w.heap.size, 1, none⟩ = some (.int .i64 i) ∧ W.cell? ⟨w.heap.size + 1, 0, none⟩ = some (.int .u32 (U pg.s)) ∧ W.cell? ⟨w.heap.size + 1, 1, none⟩ = some (.int .u32 (U pg.q)) ∧ W.cell? ⟨w.heap.size + 1, 2, none⟩ = some (.bool pg.g) ∧ W.cell? ⟨w.heap.size + 1, 3, none⟩ = some (.int .u32 (U pg.d0)) ∧ W.cell? ⟨w.heap.size + 1, 4, none⟩ = some (.int .u32 (U pg.d1)) ∧ W.cell? ⟨w.heap.size + 1, 5, none⟩ = some (.int .u32 (U pg.d2)) ∧ W.cell? ⟨w.heap.size + 1, 6, none⟩ = some (.int .u32 (U pg.d3))) (go_keep) (fail)
    have A9 : At (((w6.drewN (nq + 1)).setCell ⟨g, b * 66 + 2 + i, none⟩ (.int .i64 1)).setCells g (b * 66 + 10 + i * 7) (pgC pg)) g 147 (bks (x.bs.take b) ++ (bkC { bkN x.bs b with kinds := (bkN x.bs b).kinds.set i 1, pages := (bkN x.bs b).pages.set i pg } ++ bks (x.bs.drop (b + 1)))) := by
      have h1 := (HS6.out.row.drewN (nq + 1)).put (b * 66 + 2 + i) (.int .i64 1)
      have hp := bks_pre HS6.out.ok b (Nat.le_of_lt I1.out)
      rw [bks_cut x.bs b I1.out, List.set_append_right _ _ (by omega), show b * 66 + 2 + i - (bks (x.bs.take b)).length = 2 + i by omega, List.set_append_left _ _ (by rw [bk_len BOK.out]; have := HI.out; omega), bk_setKind BOK.out i HI.out] at h1
      obtain ⟨pre, post, h2, h3, h4⟩ := bk_page (b := { bkN x.bs b with kinds := (bkN x.bs b).kinds.set i 1 }) ⟨by simpa using BOK.out.k, BOK.out.p⟩ i HI.out
      rw [h3] at h1
      have h5 := At.setCells (pgC pg) (bks (x.bs.take b) ++ pre) (pgC (pgN (bkN x.bs b).pages i)) (post := post ++ bks (x.bs.drop (b + 1))) (by simpa only [List.append_assoc] using h1) (by rw [pgC_len, pgC_len])
      rw [List.length_append, hp, h2, show b * 66 + (10 + 7 * i) = b * 66 + 10 + i * 7 by omega] at h5
      have h6 := h4 pg
      simp only at h6
      rw [h6]
      simpa only [List.append_assoc] using h5
    have T9 : Turned (Just g) w6 (((w6.drewN (nq + 1)).setCell ⟨g, b * 66 + 2 + i, none⟩ (.int .i64 1)).setCells g (b * 66 + 10 + i * 7) (pgC pg)) :=
      ((((Turned.refl (Just g) w6).drewN (nq + 1)).setCell (p := ⟨g, b * 66 + 2 + i, none⟩) (fun _ => rfl) (.int .i64 1))).trans (turned_setCells g _ _ _)
    obtain ⟨W9, hW9⟩ : ∃ W9, W9 = (((w6.drewN (nq + 1)).setCell ⟨g, b * 66 + 2 + i, none⟩ (.int .i64 1)).setCells g (b * 66 + 10 + i * 7) (pgC pg)) := ⟨_, rfl⟩
    have hbig : (((((((((w6.drewN (nq + 1)).setCell ⟨g, b * 66 + 2 + i, none⟩ (.int .i64 1)).setCell ⟨g, b * 66 + 10 + i * 7, none⟩ (.int .u32 (U pg.s))).setCell ⟨g, b * 66 + 10 + i * 7 + 1, none⟩ (.int .u32 (U pg.q))).setCell ⟨g, b * 66 + 10 + i * 7 + 2, none⟩ (.bool pg.g)).setCell ⟨g, b * 66 + 10 + i * 7 + 3, none⟩ (.int .u32 (U pg.d0))).setCell ⟨g, b * 66 + 10 + i * 7 + 4, none⟩ (.int .u32 (U pg.d1))).setCell ⟨g, b * 66 + 10 + i * 7 + 5, none⟩ (.int .u32 (U pg.d2))).setCell ⟨g, b * 66 + 10 + i * 7 + 6, none⟩ (.int .u32 (U pg.d3))) = W9 := by
      rw [hW9]
      rfl
    rw [← hW9] at A9 T9
    rw [hbig]
    have HA9 := Lib.hid A9
    have HT9 := Lib.hid T9
    clear hbig hW9 A9 T9 q0 q1 q2 q3 q4 q5 q6 u0 u1 u2 u3 u4 u5 u6 t2
    go_wp2
    go_ret
    rw [HRN.out]
    have hf := HS6.out.setBlk (c := { bkN x.bs b with kinds := (bkN x.bs b).kinds.set i 1, pages := (bkN x.bs b).pages.set i pg }) J1.out HBK.out ⟨by simpa using BOK.out.k, by simpa using BOK.out.p⟩ HA9.out HT9.out
    exact ⟨rfl, ⟨g, hf.1.less fun _ e => .inl e⟩, FT.out.trans (may_less hf.2 fun _ e => .inl e)⟩
  · have b3 : (r.2 != 0) = true := by rw [bne_iff_ne]; exact e3
    have HRN : Hid (R = (r.1, x, r.2)) := Lib.hid (by rw [HRR.out, if_pos e3])
    clear e3
    go_wp2
    go_ret
    rw [HRN.out]
    exact ⟨rfl, ⟨g, HS6.out.less fun _ e => .inl e⟩, FT.out⟩
end
end Go.Proofs.YtpkkejdjhnmjiaaGreat
