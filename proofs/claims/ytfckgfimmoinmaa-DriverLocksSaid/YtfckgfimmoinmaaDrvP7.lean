/- Contracts of package driver: fetch and the step that it makes; Read. -/
import Derived.Test.YtfckgfimmoinmaaDrvP3
import Derived.Test.YtfckgfimmoinmaaNorSame
import Derived.Test.YtfckgfimmoinmaaWordsEq
import Derived.Deep.QuietTactic
namespace Go.Proofs.Ytfckgfimmoinmaa
open Go.RowKit Bm

theorem made_zw (n : Nat) : madeCells #[.int .u32 0] n = (Us (List.replicate n 0#32)).toArray := by
  apply Array.ext'
  simp [madeCells, Us]
  apply List.ext_getElem
  · simp
  · intro i h1 h2
    simp [Nat.mod_one, U]

section
variable {B p f q k n : Nat} {K : Nat → Prop} {m : FlashM} {d : DrvM} {w w' : World}
/-- A flash without a job keeps all that is not its own. -/
theorem StK.lone (s : StK B p f K m w) (hj : m.job = 0) {b : Nat} (hb : K b) (t : Turned (Just b) w w') : StK B p f K m w' := by
  obtain ⟨⟨h, hp, hf, x, ho⟩, hs, hk⟩ := s
  have far : ∀ i, h.own i → ¬ Just b i := fun i hi e => (ho i hi).2 (by unfold Just at e; rw [e]; exact hb)
  refine ⟨⟨h, hp, hf, ⟨x.chip.kept t (fun i hi => far i (.inl hi)), x.own.kept t (far _ (.inr (.inl rfl))), x.locks.kept t (far _ (.inr (.inr rfl))), ⟨fun j => ?_, fun j => ?_⟩⟩, ho⟩, Nat.le_trans hs t.size, fun i hi => Nat.lt_of_lt_of_le (hk i hi) t.size⟩
  · exact absurd (hj.symm.trans j) (by decide)
  · exact absurd (hj.symm.trans j) (by decide)
theorem Dv.lone (s : Dv B p f q k K d w) (hj : d.f.job = 0) {b : Nat} (hb : K b) (t : Turned (Just b) w w') : Dv B p f q k K d w' :=
  ⟨s.st.lone hj (.inl hb) t, s.own.kept t (fun e => s.qB.2 (by unfold Just at e; rw [e]; exact hb)), s.qB⟩

/-- The three variables of a step that fetches. -/
def ftW (w : World) (v : Value) (a : Int) (sl : Value) : World := ((w.alloc (.cells #[v] 29)).alloc (.cells #[.int .i64 a] 3)).alloc (.cells #[sl] 31)
def ftA (n : Nat) : Array Value := #[.pointer (some ⟨n + 2, 0, none⟩), .pointer (some ⟨n, 0, none⟩), .pointer (some ⟨n + 1, 0, none⟩)]
theorem ftW_size (w : World) (v : Value) (a : Int) (sl : Value) : (ftW w v a sl).heap.size = w.heap.size + 3 := by simp [ftW]
theorem ftW_below (w : World) (v : Value) (a : Int) (sl : Value) : Below w.heap.size w (ftW w v a sl) := by
  have b1 := (Below.refl w.heap.size w).alloc (Nat.le_refl _) (.cells #[v] 29)
  have b2 := b1.alloc b1.size (.cells #[.int .i64 a] 3)
  exact b2.alloc b2.size _
structure FtAt (w : World) (q n : Nat) (a : Int) (sl : Value) : Prop where
  d : At w n 29 [.pointer (some ⟨q, 0, none⟩)]
  a : At w (n + 1) 3 [.int .i64 a]
  x : At w (n + 2) 31 [sl]
theorem FtAt.kept {a : Int} {sl : Value} {S : Nat → Prop} (h : FtAt w q n a sl) (t : Turned S w w') (h0 : ¬ S n) (h1 : ¬ S (n + 1)) (h2 : ¬ S (n + 2)) : FtAt w' q n a sl :=
  ⟨h.d.kept t h0, h.a.kept t h1, h.x.kept t h2⟩
theorem FtAt.below {a : Int} {sl : Value} (h : FtAt w q n a sl) (b : Below w.heap.size w w') : FtAt w' q n a sl :=
  h.kept (Turned.of_below b (Nat.le_refl _) NoBlock) (fun h => h) (fun h => h) (fun h => h)
theorem ftW_at (w : World) (a : Int) (sl : Value) : FtAt (ftW w (.pointer (some ⟨q, 0, none⟩)) a sl) q w.heap.size a sl :=
  ⟨((At.news w 29 [.pointer (some ⟨q, 0, none⟩)]).alloc _).alloc _,
   (At.alloc_new _ _ _ (by rw [World.size_alloc]) rfl).alloc _,
   At.alloc_new _ _ _ (by rw [World.size_alloc, World.size_alloc]) rfl⟩
theorem dfetch_any (v : Value) (a : Int) (A : Option Addr) (c : Nat) (w : World) (hv : ∃ g, v = .pointer (some ⟨g, 0, none⟩)) : Calls Try.prog 46 #[v, .int .i64 a, .slice A n c] w fun e w' => e = .returned (.func (.func 61) #[] (ftA w.heap.size)) ∧ w' = ftW w v a (.slice A n c) := by
  obtain ⟨g, rfl⟩ := hv
  go_enter Try.func46, Try.ntmps46
  go_wp2
  go_ret
  exact ⟨rfl, rfl⟩

/-- What the words are that are fetched, so far. -/
def Got (ws ys : List (BitVec 32)) (i n j : Nat) : Prop := ys.length = n ∧ i + j ≤ ws.length ∧ ∀ x, x < j → wd ys x = wd ws (i + x)
/-- A step that fetches is done. -/
def FtEnd (B p f q k : Nat) (K : Nat → Prop) (d : DrvM) (g i n : Nat) (w : World) (e : Ending) (w' : World) : Prop :=
  ∃ ys c, e = .returned (.int .i64 c) ∧ Dv B p f q k K d w' ∧ At w' g 33 (Us ys) ∧ Turned (Just g) w w' ∧ ((c = 0 ∧ Got d.f.chip.ws ys i n n) ∨ (c = 3 ∧ d.f.chip.ws.length < i + n))

set_option maxRecDepth 100000 in
set_option maxHeartbeats 4000000 in
theorem Dv.fstep (s : Dv B p f q k K d w) (ok : FlashOk k d.f) (hj : d.f.job = 0) (hm : d.f.mode = 0) (hu : d.f.chip.up = true) (h i g cnt : Nat) (zs : List (BitVec 32)) (hi : i ≤ d.f.chip.ws.length) (hc : cnt ≤ 64)
    (hF : FtAt w q h (i : Int) (.slice (some ⟨g, 0, none⟩) cnt cnt)) (hZ : At w g 33 (Us zs)) (hl : zs.length = cnt) (hK : K g) :
    Calls Try.prog 61 (ftA h) w (FtEnd B p f q k K d g i cnt w) := by
  obtain ⟨ws, hws⟩ : ∃ ws, ws = d.f.chip.ws := ⟨_, rfl⟩
  have wl : ws.length ≤ 4096 := by rw [hws]; exact ok.len
  have rd : ∀ j : Nat, ((i + j < ws.length → fRead d.f ((i : Int) + (j : Int)) = (wd ws (i + j), 0)) ∧ (¬ i + j < ws.length → fRead d.f ((i : Int) + (j : Int)) = (0#32, 3))) := by
    intro j
    have := read_word (m := d.f) hu ((i : Int) + (j : Int)) (by omega)
    have e : ({ d.f with mode := 0 } : FlashM) = d.f := by rw [← hm]
    rw [e, ← hws] at this
    rw [this]
    refine ⟨fun h => ?_, fun h => ?_⟩
    · rw [if_pos (by omega), show ((i : Int) + (j : Int)).toNat = i + j by omega]
    · rw [if_neg (by omega)]
  have RD := Lib.hid rd
  unfold FtEnd
  rw [← hws] at hi ⊢
  have S0 := Lib.hid s
  have F0 := Lib.hid hF
  have Z0 := Lib.hid hZ
  have Z0' := Lib.hid hZ
  have HJ := Lib.hid hj
  have HK := Lib.hid hK
  have OK := Lib.hid ok
  have HL := Lib.hid hl
  have HI := Lib.hid hi
  have c0 := hF.x.cell 0
  simp only [List.getElem?_cons_zero] at c0
  clear s hF hZ hj hm hu hK ok hl hws rd hi
  change Calls _ _ #[.pointer (some ⟨h + 2, 0, none⟩), .pointer (some ⟨h, 0, none⟩), .pointer (some ⟨h + 1, 0, none⟩)] _ _
  go_enter Try.func61, Try.ntmps61
  go_wp2_with fail
  go_loopw [9] (fun v wr => ∃ (j : Nat) (ys : List (BitVec 32)), j ≤ cnt ∧ v = .int .i64 j ∧ Dv B p f q k K d wr ∧ At wr g 33 (Us ys) ∧ Turned (Just g) w wr ∧ Got ws ys i cnt j) (fun v _ => cnt - (intOf v).toNat)
  case atStart => exact ⟨0, zs, by omega, rfl, S0.out, Z0.out, Turned.refl _ _, HL.out, HI.out, fun x hx => absurd hx (by omega)⟩
  case round =>
    clear S0 Z0 HL HI c0
    obtain ⟨j, ys, hj, rfl, s, hy, tw, hg⟩ := hrel
    have hF := F0.out.kept tw (fun e => F0.out.d.ne Z0'.out (by decide) e) (fun e => F0.out.a.ne Z0'.out (by decide) e) (fun e => F0.out.x.ne Z0'.out (by decide) e)
    by_cases hlt : j < cnt
    · have i0 : (0 : Int) ≤ (j : Int) := by omega
      have i1 : (j : Int) < (cnt : Int) := by omega
      have c0 := hF.x.cell 0
      have c1 := hF.d.cell 0
      have c2 := hF.a.cell 0
      have q0 := s.own.cell 0
      simp only [drvCells, List.getElem?_cons_zero] at c0 c1 c2 q0
      have ih : (i : Int) ≤ 4096 := by have := hg.2.1; omega
      have wr1 : IntKind.i64.wrap ((i : Int) + (j : Int)) = (i : Int) + (j : Int) := by rw [IntKind.wrap_i64]; omega
      have S := Lib.hid s
      have HY := Lib.hid hy
      have TW := Lib.hid tw
      have HG := Lib.hid hg
      have rdd := fun N => (S.out.below (below_drewN wr.heap.size wr N)).st.read OK.out ((i : Int) + (j : Int))
      have zl : ys.length = cnt := hg.1
      have fz := hy.frozen j
      have cz := hy.cell j
      rw [Us_get ys j (by omega)] at cz
      have ZL := Lib.hid zl
      clear s hy tw hg hF zl
      by_cases hr : i + j < ws.length
      · have E := (RD.out j).1 hr
        rw [E] at rdd
        have RR := Lib.hid rdd
        have HR := Lib.hid hr
        clear E rdd hr
        go_wp2
        go_quiet ((go_at_call 62; exact Calls.quiet_of (RR.out _)))
        go_wp2
        have aY := (HY.out.drewN nq).put j (.int .u32 (U (wd ws (i + j))))
        rw [Us_set] at aY
        have SS := S.out.below (below_drewN wr.heap.size wr nq)
        have tt : Turned (Just g) (wr.drewN nq) ((wr.drewN nq).setCell ⟨g, j, none⟩ (.int .u32 (U (wd ws (i + j))))) := (Turned.refl (Just g) _).setCell (p := ⟨g, j, none⟩) (fun _ => rfl) _
        have AY := Lib.hid aY
        have S3 := Lib.hid (SS.lone HJ.out HK.out tt)
        have T3 := Lib.hid ((TW.out.trans (Turned.of_below (below_drewN wr.heap.size wr nq) (Nat.le_refl _) _)).trans tt)
        have G3 : Hid (Got ws (ys.set j (wd ws (i + j))) i cnt (j + 1)) := Lib.hid ⟨by rw [List.length_set]; exact ZL.out, by have := HR.out; omega, fun x hx => by
          by_cases e : x = j
          · subst e
            unfold wd
            rw [List.getD_eq_getElem?_getD, List.getElem?_set_self (by rw [ZL.out]; exact hlt)]
            rfl
          · have := HG.out.2.2 x (by omega)
            unfold wd at this ⊢
            rw [List.getD_eq_getElem?_getD, List.getElem?_set_ne (fun h => e h.symm), ← List.getD_eq_getElem?_getD]
            exact this⟩
        clear aY SS tt
        go_roundw
        case rel => exact ⟨j + 1, _, by omega, by go_num, S3.out, AY.out, T3.out, G3.out⟩
        case measure => simp [intOf]; omega
      · have E := (RD.out j).2 hr
        rw [E] at rdd
        have RR := Lib.hid rdd
        have HR := Lib.hid hr
        clear E rdd hr
        go_wp2
        go_quiet ((go_at_call 62; exact Calls.quiet_of (RR.out _)))
        go_wp2
        go_ret
        exact ⟨ys, 3, rfl, S.out.below (below_drewN wr.heap.size wr nq), HY.out.drewN nq, TW.out.trans (Turned.of_below (below_drewN wr.heap.size wr nq) (Nat.le_refl _) _), .inr ⟨rfl, by have := HR.out; omega⟩⟩
    · obtain rfl : j = cnt := by omega
      have S := Lib.hid s
      have HY := Lib.hid hy
      have TW := Lib.hid tw
      have HG := Lib.hid hg
      clear s hy tw hg hF
      go_wp2
      go_ret
      exact ⟨ys, 0, rfl, S.out, HY.out, TW.out, .inl ⟨rfl, HG.out⟩⟩
end
end Go.Proofs.Ytfckgfimmoinmaa
