/- Contracts of package driver: New, Ticks, Blocks; and every call of a driver that New did not create. | Contracts of package driver: fetch and the step that it makes; Read. | Contract of package driver's Read. | The program's contracts of package driver, as the layer's walks ask for them. -/
import Derived.Test.YtpkkejdjhnmjiaaGreatDrvPA
import Derived.Test.YtpkkejdjhnmjiaaGreatNorLawM
import Derived.Test.YtpkkejdjhnmjiaaGreatWordsEq
import Derived.Deep.QuietTactic
import Derived.Test.YtpkkejdjhnmjiaaGreatNorBR
import Derived.Test.YtpkkejdjhnmjiaaGreatCfiFacts
namespace Go.Proofs.YtpkkejdjhnmjiaaGreat
open Go.RowKit Bm
section
variable {B p f q k : Nat} {K : Nat → Prop} {d : DrvM} {w w' : World}
set_option maxRecDepth 100000 in
theorem dnew_any (B p f k : Nat) (m : FlashM) (w : World) (s : St B p f m w) (ok : FlashOk k m) : Calls Tryz.prog 15 #[.pointer (some ⟨f, 0, none⟩), .int .i64 k] w fun e w' => ∃ q, e = .returned (.pointer (some ⟨q, 0, none⟩)) ∧ Dv B p f q k NoBlock ⟨m, 0⟩ w' ∧ Below w.heap.size w w' := by
  have k1 := ok.chip.k1
  have k2 := ok.chip.k2
  have hs := s.size
  have b := (Below.refl w.heap.size w).alloc (Nat.le_refl _) (.cells (drvCells f k 0).toArray 100)
  have sK := (s.toK.more b w.heap.size (Nat.le_refl _) (by rw [World.size_alloc]; omega))
  have SK := Lib.hid sK
  have HB := Lib.hid b
  clear s ok sK b
  go_enter Tryz.func15, Tryz.ntmps15
  go_wp2
  go_ret
  exact ⟨w.heap.size, rfl, ⟨SK.out, At.alloc_new _ _ _ rfl rfl, ⟨hs, fun h => h⟩⟩, HB.out⟩
theorem Dv.blocks0 (s : Dv B p f q k K d w) : Calls Tryz.prog 32 #[.pointer (some ⟨q, 0, none⟩)] w fun e w' => e = .returned (.int .i64 k) ∧ w' = w := by
  have g := s.own.cell 1
  simp only [drvCells, List.getElem?_cons_zero, List.getElem?_cons_succ] at g
  have M := Lib.hid s.made
  clear s
  go_enter Tryz.func32, Tryz.ntmps32
  go_wp2_with (go_at_call 47; (with_reducible refine M.out.mono ?_); rintro e w1 ⟨rfl, rfl⟩)
  go_ret
  exact ⟨rfl, rfl⟩
end
end Go.Proofs.YtpkkejdjhnmjiaaGreat
namespace Go.Proofs.YtpkkejdjhnmjiaaGreat
open Go.RowKit Bm
theorem made_zw (n : Nat) : madeCells #[.int .u32 0] n = (Us (List.replicate n 0#32)).toArray := by
  apply Array.ext'
  simp [madeCells, Us]
  apply List.ext_getElem
  · simp
  · intro i h1 h2
    simp [Nat.mod_one, U]
section
variable {B p f q k n : Nat} {K : Nat → Prop} {m : FlashM} {d : DrvM} {w w' : World}
theorem StK.lone (s : StK B p f K m w) (hj : m.job = 0) {b : Nat} (hb : K b) (t : Turned (Just b) w w') : StK B p f K m w' := by
  obtain ⟨⟨h, hp, hf, x, ho⟩, hs, hk⟩ := s
  have far : ∀ i, h.own i → ¬ Just b i := fun i hi e => (ho i hi).2 (by unfold Just at e; rw [e]; exact hb)
  refine ⟨⟨h, hp, hf, ⟨x.chip.kept t (fun i hi => far i (.inl hi)), x.own.kept t (far _ (.inr (.inl rfl))), x.locks.kept t (far _ (.inr (.inr rfl))), ⟨fun j => ?_, fun j => ?_⟩⟩, ho⟩, Nat.le_trans hs t.size, fun i hi => Nat.lt_of_lt_of_le (hk i hi) t.size⟩
  · exact absurd (hj.symm.trans j) (by decide)
  · exact absurd (hj.symm.trans j) (by decide)
theorem Dv.lone (s : Dv B p f q k K d w) (hj : d.f.job = 0) {b : Nat} (hb : K b) (t : Turned (Just b) w w') : Dv B p f q k K d w' :=
  ⟨s.st.lone hj (.inl hb) t, s.own.kept t (fun e => s.qB.2 (by unfold Just at e; rw [e]; exact hb)), s.qB⟩
def ftW (w : World) (v : Value) (a : Int) (sl : Value) : World := ((w.alloc (.cells #[v] 25)).alloc (.cells #[.int .i64 a] 3)).alloc (.cells #[sl] 89)
def ftA (n : Nat) : Array Value := #[.pointer (some ⟨n + 2, 0, none⟩), .pointer (some ⟨n, 0, none⟩), .pointer (some ⟨n + 1, 0, none⟩)]
theorem ftW_size (w : World) (v : Value) (a : Int) (sl : Value) : (ftW w v a sl).heap.size = w.heap.size + 3 := by simp [ftW]
theorem ftW_below (w : World) (v : Value) (a : Int) (sl : Value) : Below w.heap.size w (ftW w v a sl) := by
  have b1 := (Below.refl w.heap.size w).alloc (Nat.le_refl _) (.cells #[v] 25)
  have b2 := b1.alloc b1.size (.cells #[.int .i64 a] 3)
  exact b2.alloc b2.size _
structure FtAt (w : World) (q n : Nat) (a : Int) (sl : Value) : Prop where
  d : At w n 25 [.pointer (some ⟨q, 0, none⟩)]
  a : At w (n + 1) 3 [.int .i64 a]
  x : At w (n + 2) 89 [sl]
theorem FtAt.kept {a : Int} {sl : Value} {S : Nat → Prop} (h : FtAt w q n a sl) (t : Turned S w w') (h0 : ¬ S n) (h1 : ¬ S (n + 1)) (h2 : ¬ S (n + 2)) : FtAt w' q n a sl :=
  ⟨h.d.kept t h0, h.a.kept t h1, h.x.kept t h2⟩
theorem FtAt.below {a : Int} {sl : Value} (h : FtAt w q n a sl) (b : Below w.heap.size w w') : FtAt w' q n a sl :=
  h.kept (Turned.of_below b (Nat.le_refl _) NoBlock) (fun h => h) (fun h => h) (fun h => h)
theorem ftW_at (w : World) (a : Int) (sl : Value) : FtAt (ftW w (.pointer (some ⟨q, 0, none⟩)) a sl) q w.heap.size a sl :=
  ⟨((At.news w 25 [.pointer (some ⟨q, 0, none⟩)]).alloc _).alloc _,
   (At.alloc_new _ _ _ (by rw [World.size_alloc]) rfl).alloc _,
   At.alloc_new _ _ _ (by rw [World.size_alloc, World.size_alloc]) rfl⟩
theorem dfetch_any (v : Value) (a : Int) (A : Option Addr) (c : Nat) (w : World) (hv : ∃ g, v = .pointer (some ⟨g, 0, none⟩)) : Calls Tryz.prog 66 #[v, .int .i64 a, .slice A n c] w fun e w' => e = .returned (.func (.func 79) #[] (ftA w.heap.size)) ∧ w' = ftW w v a (.slice A n c) := by
  obtain ⟨g, rfl⟩ := hv
  go_enter Tryz.func66, Tryz.ntmps66
  go_wp2
  go_ret
  exact ⟨rfl, rfl⟩
def Got (ws ys : List (BitVec 32)) (i n j : Nat) : Prop := ys.length = n ∧ i + j ≤ ws.length ∧ ∀ x, x < j → wd ys x = wd ws (i + x)
def FtEnd (B p f q k : Nat) (K : Nat → Prop) (d : DrvM) (g i n : Nat) (w : World) (e : Ending) (w' : World) : Prop :=
  ∃ ys c, e = .returned (.int .i64 c) ∧ Dv B p f q k K d w' ∧ At w' g 36 (Us ys) ∧ Turned (Just g) w w' ∧ ((c = 0 ∧ Got d.f.chip.ws ys i n n) ∨ (c = 3 ∧ d.f.chip.ws.length < i + n))
set_option maxRecDepth 100000 in
set_option maxHeartbeats 4000000 in
theorem Dv.fstep (s : Dv B p f q k K d w) (ok : FlashOk k d.f) (hj : d.f.job = 0) (hm : d.f.mode = 0) (hu : d.f.chip.up = true) (h i g cnt : Nat) (zs : List (BitVec 32)) (hi : i ≤ d.f.chip.ws.length) (hc : cnt ≤ 64)
    (hF : FtAt w q h (i : Int) (.slice (some ⟨g, 0, none⟩) cnt cnt)) (hZ : At w g 36 (Us zs)) (hl : zs.length = cnt) (hK : K g) :
    Calls Tryz.prog 79 (ftA h) w (FtEnd B p f q k K d g i cnt w) := by
  obtain ⟨ws, hws⟩ : ∃ ws, ws = d.f.chip.ws := ⟨_, rfl⟩
  have wl : ws.length ≤ 4096 := by rw [hws]; exact ok.len
  have rd : ∀ j : Nat, ((i + j < ws.length → fRead d.f ((i : Int) + (j : Int)) = (wd ws (i + j), 0)) ∧ (¬ i + j < ws.length → fRead d.f ((i : Int) + (j : Int)) = (0#32, 3))) := by
    intro j
    have := read_word (m := d.f) hu ((i : Int) + (j : Int)) (by omega)
    have e : ({ d.f with mode := 0 } : FlashM) = d.f := by rw [← hm]
    rw [e, ← hws] at this
    rw [this]
    refine ⟨fun h => ?_, fun h => ?_⟩
    · rw [if_pos (by omega), show ((i : Int) + (j : Int)).toNat = i + j by omega]
    · rw [if_neg (by omega)]
  have RD := Lib.hid rd
  unfold FtEnd
  rw [← hws] at hi ⊢
  have S0 := Lib.hid s
  have F0 := Lib.hid hF
  have Z0 := Lib.hid hZ
  have Z0' := Lib.hid hZ
  have HJ := Lib.hid hj
  have HK := Lib.hid hK
  have OK := Lib.hid ok
  have HL := Lib.hid hl
  have HI := Lib.hid hi
  have c0 := hF.x.cell 0
  simp only [List.getElem?_cons_zero] at c0
  clear s hF hZ hj hm hu hK ok hl hws rd hi
  change Calls _ _ #[.pointer (some ⟨h + 2, 0, none⟩), .pointer (some ⟨h, 0, none⟩), .pointer (some ⟨h + 1, 0, none⟩)] _ _
  go_enter Tryz.func79, Tryz.ntmps79
  go_wp2_with fail
  go_loopw [9] (fun v wr => ∃ (j : Nat) (ys : List (BitVec 32)), j ≤ cnt ∧ v = .int .i64 j ∧ Dv B p f q k K d wr ∧ At wr g 36 (Us ys) ∧ Turned (Just g) w wr ∧ Got ws ys i cnt j) (fun v _ => cnt - (intOf v).toNat)
  case atStart => exact ⟨0, zs, by omega, rfl, S0.out, Z0.out, Turned.refl _ _, HL.out, HI.out, fun x hx => absurd hx (by omega)⟩
  case round =>
    clear S0 Z0 HL HI c0
    obtain ⟨j, ys, hj, rfl, s, hy, tw, hg⟩ := hrel
    have hF := F0.out.kept tw (fun e => F0.out.d.ne Z0'.out (by decide) e) (fun e => F0.out.a.ne Z0'.out (by decide) e) (fun e => F0.out.x.ne Z0'.out (by decide) e)
    by_cases hlt : j < cnt
    · have i0 : (0 : Int) ≤ (j : Int) := by omega
      have i1 : (j : Int) < (cnt : Int) := by omega
      have c0 := hF.x.cell 0
      have c1 := hF.d.cell 0
      have c2 := hF.a.cell 0
      have q0 := s.own.cell 0
      simp only [drvCells, List.getElem?_cons_zero] at c0 c1 c2 q0
      have ih : (i : Int) ≤ 4096 := by have := hg.2.1; omega
      have wr1 : IntKind.i64.wrap ((i : Int) + (j : Int)) = (i : Int) + (j : Int) := by rw [IntKind.wrap_i64]; omega
      have S := Lib.hid s
      have HY := Lib.hid hy
      have TW := Lib.hid tw
      have HG := Lib.hid hg
      have rdd := fun N => (S.out.below (below_drewN wr.heap.size wr N)).st.read OK.out ((i : Int) + (j : Int))
      have zl : ys.length = cnt := hg.1
      have fz := hy.frozen j
      have cz := hy.cell j
      rw [Us_get ys j (by omega)] at cz
      have ZL := Lib.hid zl
      clear s hy tw hg hF zl
      by_cases hr : i + j < ws.length
      · have E := (RD.out j).1 hr
        rw [E] at rdd
        have RR := Lib.hid rdd
        have HR := Lib.hid hr
        clear E rdd hr
        go_wp2
        go_quiet ((go_at_call 80; exact Calls.quiet_of (RR.out _)))
        go_wp2
        have aY := (HY.out.drewN nq).put j (.int .u32 (U (wd ws (i + j))))
        rw [Us_set] at aY
        have SS := S.out.below (below_drewN wr.heap.size wr nq)
        have tt : Turned (Just g) (wr.drewN nq) ((wr.drewN nq).setCell ⟨g, j, none⟩ (.int .u32 (U (wd ws (i + j))))) := (Turned.refl (Just g) _).setCell (p := ⟨g, j, none⟩) (fun _ => rfl) _
        have AY := Lib.hid aY
        have S3 := Lib.hid (SS.lone HJ.out HK.out tt)
        have T3 := Lib.hid ((TW.out.trans (Turned.of_below (below_drewN wr.heap.size wr nq) (Nat.le_refl _) _)).trans tt)
        have G3 : Hid (Got ws (ys.set j (wd ws (i + j))) i cnt (j + 1)) := Lib.hid ⟨by rw [List.length_set]; exact ZL.out, by have := HR.out; omega, fun x hx => by
          by_cases e : x = j
          · subst e
            unfold wd
            rw [List.getD_eq_getElem?_getD, List.getElem?_set_self (by rw [ZL.out]; exact hlt)]
            rfl
          · have := HG.out.2.2 x (by omega)
            unfold wd at this ⊢
            rw [List.getD_eq_getElem?_getD, List.getElem?_set_ne (fun h => e h.symm), ← List.getD_eq_getElem?_getD]
            exact this⟩
        clear aY SS tt
        go_roundw
        case rel => exact ⟨j + 1, _, by omega, by go_num, S3.out, AY.out, T3.out, G3.out⟩
        case measure => simp [intOf]; omega
      · have E := (RD.out j).2 hr
        rw [E] at rdd
        have RR := Lib.hid rdd
        have HR := Lib.hid hr
        clear E rdd hr
        go_wp2
        go_quiet ((go_at_call 80; exact Calls.quiet_of (RR.out _)))
        go_wp2
        go_ret
        exact ⟨ys, 3, rfl, S.out.below (below_drewN wr.heap.size wr nq), HY.out.drewN nq, TW.out.trans (Turned.of_below (below_drewN wr.heap.size wr nq) (Nat.le_refl _) _), .inr ⟨rfl, by have := HR.out; omega⟩⟩
    · obtain rfl : j = cnt := by omega
      have S := Lib.hid s
      have HY := Lib.hid hy
      have TW := Lib.hid tw
      have HG := Lib.hid hg
      clear s hy tw hg hF
      go_wp2
      go_ret
      exact ⟨ys, 0, rfl, S.out, HY.out, TW.out, .inl ⟨rfl, HG.out⟩⟩
end
end Go.Proofs.YtpkkejdjhnmjiaaGreat
namespace Go.Proofs.YtpkkejdjhnmjiaaGreat
open Go.RowKit Bm
def KR (K : Nat → Prop) (N : Nat) (i : Nat) : Prop := K i ∨ (N ≤ i ∧ i < N + 8)
structure MidR (B p f q k : Nat) (K : Nat → Prop) (N : Nat) (w0 : World) (cs : List Value) (a : Int) (zs : List (BitVec 32)) (cnt : Nat) (d : DrvM) (w : World) : Prop where
  dv : Dv B p f q k (KR K N) d w
  row : At w (N + 7) 138 cs
  words : At w N 36 (Us zs)
  one : WrAt w q (N + 1) a 255
  two : FtAt w q (N + 4) a (.slice (some ⟨N, 0, none⟩) cnt cnt)
  t : Turned (May B K) w0 w
  hN : B ≤ N
  hn : w0.heap.size ≤ N
section
variable {B p f q k N cnt : Nat} {K : Nat → Prop} {d d' : DrvM} {w0 w w' : World} {cs : List Value} {a : Int} {zs : List (BitVec 32)}
theorem kr_not {i : Nat} (h1 : N ≤ i) (h2 : i < N + 8) : ¬ May B (KR K N) i := fun e => e.2 (.inr ⟨h1, h2⟩)
theorem MidR.next (s : MidR B p f q k K N w0 cs a zs cnt d w) (s' : Dv B p f q k (KR K N) d' w') (t : Turned (May B (KR K N)) w w') : MidR B p f q k K N w0 cs a zs cnt d' w' :=
  ⟨s', s.row.kept t (kr_not (by omega) (by omega)), s.words.kept t (kr_not (by omega) (by omega)), s.one.kept t (kr_not (by omega) (by omega)) (kr_not (by omega) (by omega)) (kr_not (by omega) (by omega)),
   s.two.kept t (kr_not (by omega) (by omega)) (kr_not (by omega) (by omega)) (kr_not (by omega) (by omega)), s.t.trans (may_less t (fun i h => .inl h)), s.hN, s.hn⟩
theorem MidR.start (s : Dv B p f q k K d w) (cs : List Value) (a : Int) (zs : List (BitVec 32)) (cnt : Nat) :
    MidR B p f q k K w.heap.size w cs a zs cnt d ((ftW (wrW (w.alloc (.cells (Us zs).toArray 36)) (.pointer (some ⟨q, 0, none⟩)) a 255) (.pointer (some ⟨q, 0, none⟩)) a (.slice (some ⟨w.heap.size, 0, none⟩) cnt cnt)).alloc (.cells cs.toArray 138)) := by
  have b0 := (Below.refl w.heap.size w).alloc (Nat.le_refl _) (.cells (Us zs).toArray 36)
  have a0 := At.news w 36 (Us zs)
  have z0 : (w.alloc (.cells (Us zs).toArray 36)).heap.size = w.heap.size + 1 := World.size_alloc _ _
  obtain ⟨v, hv⟩ : ∃ v, v = w.alloc (.cells (Us zs).toArray 36) := ⟨_, rfl⟩
  rw [← hv] at b0 a0 z0 ⊢
  have b1 := wrW_below v (.pointer (some ⟨q, 0, none⟩)) a 255
  have z1 := wrW_size v (.pointer (some ⟨q, 0, none⟩)) a 255
  have a1 := wrW_at (q := q) v a 255
  obtain ⟨w1, h1⟩ : ∃ w1, w1 = wrW v (.pointer (some ⟨q, 0, none⟩)) a 255 := ⟨_, rfl⟩
  rw [← h1] at b1 z1 a1 ⊢
  have b2 := ftW_below w1 (.pointer (some ⟨q, 0, none⟩)) a (.slice (some ⟨w.heap.size, 0, none⟩) cnt cnt)
  have z2 := ftW_size w1 (.pointer (some ⟨q, 0, none⟩)) a (.slice (some ⟨w.heap.size, 0, none⟩) cnt cnt)
  have a2 := ftW_at (q := q) w1 a (.slice (some ⟨w.heap.size, 0, none⟩) cnt cnt)
  obtain ⟨w2, h2⟩ : ∃ w2, w2 = ftW w1 (.pointer (some ⟨q, 0, none⟩)) a (.slice (some ⟨w.heap.size, 0, none⟩) cnt cnt) := ⟨_, rfl⟩
  rw [← h2] at b2 z2 a2 ⊢
  have b3 := (Below.refl w2.heap.size w2).alloc (Nat.le_refl _) (.cells cs.toArray 138)
  have b12 : Below v.heap.size v w2 := b1.trans (b2.mono b1.size)
  have b13 : Below v.heap.size v (w2.alloc (.cells cs.toArray 138)) := b12.trans (b3.mono b12.size)
  have bb : Below w.heap.size w (w2.alloc (.cells cs.toArray 138)) := b0.trans (b13.mono b0.size)
  rw [z0] at a1
  rw [z1, z0] at a2
  refine ⟨s.renew bb ?_, ?_, a0.kept (Turned.of_below b13 (Nat.le_refl _) NoBlock) (fun h => h), (a1.below b2).below b3, a2.below b3, Turned.of_below bb (Nat.le_refl _) _, s.size, Nat.le_refl _⟩
  · rintro i (e | ⟨e1, e2⟩)
    · exact ⟨.inl e, by have := s.st.kin i (.inl e); have := bb.size; omega⟩
    · exact ⟨.inr e1, by rw [World.size_alloc]; omega⟩
  · exact At.alloc_new _ _ _ (by omega) rfl
def csR (n1 n2 : Nat) : List Value := [.func (.func 77) #[] (wrA n1), .func (.func 79) #[] (ftA n2)]
def spR (n1 n2 : Nat) : List Sp := [⟨77, wrA n1⟩, ⟨79, ftA n2⟩]
theorem two_lt {j : Nat} {α : Type} {s : α} {a b : α} (h : [a, b][j]? = some s) : (j = 0 ∧ s = a) ∨ (j = 1 ∧ s = b) := by
  match j with
  | 0 => simp at h; exact .inl ⟨rfl, h.symm⟩
  | 1 => simp at h; exact .inr ⟨rfl, h.symm⟩
  | n + 2 => simp at h
theorem spR_is {n1 n2 : Nat} (i : Nat) (s : Sp) (h : (spR n1 n2)[i]? = some s) : ∃ v, (csR n1 n2)[i]? = some v ∧ s.IsV v := by
  rcases two_lt h with ⟨rfl, rfl⟩ | ⟨rfl, rfl⟩
  · exact ⟨_, rfl, .inl ⟨.inl rfl, rfl⟩⟩
  · exact ⟨_, rfl, .inl ⟨.inr rfl, rfl⟩⟩
def EndR (B p f q k : Nat) (K : Nat → Prop) (N : Nat) (w0 : World) (r : DrvM × List (BitVec 32) × Int) (cnt : Nat) (n : Int) (w : World) : Prop :=
  r.2.2 = n ∧ Dv B p f q k (KR K N) r.1 w ∧ Turned (May B K) w0 w ∧ (n = 0 → At w N 36 (Us r.2.1) ∧ r.2.1.length = cnt)
theorem got_eq {ws ys : List (BitVec 32)} {i n : Nat} (h : Got ws ys i n n) : ys = (ws.drop i).take n := by
  obtain ⟨h1, h2, h3⟩ := h
  have hl : ((ws.drop i).take n).length = n := by rw [List.length_take, List.length_drop]; omega
  refine ext_wd (by rw [h1, hl]) (fun x hx => ?_)
  rw [h3 x (by omega)]
  unfold wd
  rw [List.getD_eq_getElem?_getD, List.getD_eq_getElem?_getD, List.getElem?_take_of_lt (by omega), List.getElem?_drop]
theorem dRead_far (d : DrvM) (a : Int) (cnt : Nat) (h1 : 1 ≤ cnt) (h2 : cnt ≤ 64) (hr : fRefuse d.f a ≠ 0) : dRead d a cnt = (d, [], fRefuse d.f a) := by
  unfold dRead
  rw [if_neg (by omega), if_neg (by omega), if_neg hr]
theorem dRead_yes (d : DrvM) (a : Int) (cnt : Nat) (h1 : 1 ≤ cnt) (h2 : cnt ≤ 64) (hr : fRefuse d.f a = 0) (h : a + cnt ≤ d.f.chip.ws.length) : dRead d a cnt = (⟨{ d.f with mode := 0 }, d.t⟩, (d.f.chip.ws.drop a.toNat).take cnt, 0) := by
  unfold dRead
  rw [if_neg (by omega), if_neg (by omega), if_pos hr, if_pos h, show (cnt : Int).toNat = cnt by omega]
theorem dRead_out (d : DrvM) (a : Int) (cnt : Nat) (h1 : 1 ≤ cnt) (h2 : cnt ≤ 64) (hr : fRefuse d.f a = 0) (h : ¬ a + cnt ≤ d.f.chip.ws.length) : dRead d a cnt = (⟨{ d.f with mode := 0 }, d.t⟩, [], 3) := by
  unfold dRead
  rw [if_neg (by omega), if_neg (by omega), if_pos hr, if_neg h]
theorem MidR.first (s : MidR B p f q k K N w0 cs a zs cnt d w) (ok : DrvOk k d) (h1 : 1 ≤ cnt) (h2 : cnt ≤ 64) :
    Calls Tryz.prog 77 (wrA (N + 1)) w (Ends (fun w' => fRefuse d.f a = 0 ∧ MidR B p f q k K N w0 cs a zs cnt ⟨{ d.f with mode := 0 }, d.t⟩ w') (EndR B p f q k K N w0 (dRead d a cnt) cnt)) := by
  refine (s.dv.wstep ok.ok (N + 1) a 255 255#32 rfl s.one).mono ?_
  rintro e w' ⟨rfl, s', t⟩
  have n := s.next s' t
  by_cases hr : fRefuse d.f a = 0
  · have e1 := (calm_first ok.calm a hr).2.2.2
    rw [e1] at n ⊢
    exact ⟨_, rfl, fun _ => ⟨hr, n⟩, fun h => absurd rfl h⟩
  · have e1 := calm_far a 255#32 hr
    rw [e1] at n ⊢
    rw [dRead_far d a cnt h1 h2 hr]
    exact ⟨_, rfl, fun h0 => absurd h0 hr, fun h0 => ⟨rfl, n.dv, n.t, fun h => absurd h h0⟩⟩
theorem MidR.second (s : MidR B p f q k K N w0 cs a zs cnt ⟨{ d.f with mode := 0 }, d.t⟩ w) (hr : fRefuse d.f a = 0) (ok : DrvOk k d) (h1 : 1 ≤ cnt) (h2 : cnt ≤ 64) (hl : zs.length = cnt) :
    Calls Tryz.prog 79 (ftA (N + 4)) w (Ends (EndR B p f q k K N w0 (dRead d a cnt) cnt 0) (EndR B p f q k K N w0 (dRead d a cnt) cnt)) := by
  obtain ⟨hu, a0, a1⟩ := fRefuse_zero hr
  obtain ⟨i, rfl⟩ := Int.eq_ofNat_of_zero_le a0
  refine (s.dv.fstep (ok.ok.calmMode ok.calm 0 (by simp)) ok.calm.job rfl hu (N + 4) i N cnt zs (by show i ≤ d.f.chip.ws.length; omega) h2 s.two s.words hl (.inr ⟨by omega, by omega⟩)).mono ?_
  rintro e w' ⟨ys, c, rfl, s', hy, t, hc⟩
  have tt : Turned (May B K) w0 w' := s.t.after t (fun i hi e => by unfold Just at e; have := s.hn; omega)
  rcases hc with ⟨rfl, hg⟩ | ⟨rfl, hg⟩
  · have e1 := got_eq hg
    have hb : i + cnt ≤ d.f.chip.ws.length := hg.2.1
    rw [dRead_yes d i cnt h1 h2 hr (by show (i : Int) + cnt ≤ d.f.chip.ws.length; omega), show ((i : Int)).toNat = i by omega]
    refine ⟨_, rfl, fun _ => ⟨rfl, s', tt, fun _ => ?_⟩, fun h => absurd rfl h⟩
    dsimp only at e1 ⊢
    rw [← e1]
    exact ⟨hy, hg.1⟩
  · rw [dRead_out d i cnt h1 h2 hr (by dsimp only at hg; omega)]
    exact ⟨_, rfl, fun h => absurd h (by decide), fun _ => ⟨rfl, s', tt, fun h => absurd h (by decide)⟩⟩
theorem Dv.two (s : Dv B p f q k K d w) (ok : DrvOk k d) (h1 : 1 ≤ cnt) (h2 : cnt ≤ 64) :
    Calls Tryz.prog 64 #[.slice (some ⟨(ftW (wrW (w.alloc (.cells (Us (List.replicate cnt 0#32)).toArray 36)) (.pointer (some ⟨q, 0, none⟩)) a 255) (.pointer (some ⟨q, 0, none⟩)) a (.slice (some ⟨w.heap.size, 0, none⟩) cnt cnt)).heap.size, 0, none⟩) 2 2]
      ((ftW (wrW (w.alloc (.cells (Us (List.replicate cnt 0#32)).toArray 36)) (.pointer (some ⟨q, 0, none⟩)) a 255) (.pointer (some ⟨q, 0, none⟩)) a (.slice (some ⟨w.heap.size, 0, none⟩) cnt cnt)).alloc (.cells (csR (w.heap.size + 1) (wrW (w.alloc (.cells (Us (List.replicate cnt 0#32)).toArray 36)) (.pointer (some ⟨q, 0, none⟩)) a 255).heap.size).toArray 138))
      fun e w' => ∃ n, e = .returned (.int .i64 n) ∧ EndR B p f q k K w.heap.size w (dRead d a cnt) cnt n w' := by
  have m0 := MidR.start s (csR (w.heap.size + 1) (wrW (w.alloc (.cells (Us (List.replicate cnt 0#32)).toArray 36)) (.pointer (some ⟨q, 0, none⟩)) a 255).heap.size) a (List.replicate cnt 0#32) cnt
  rw [ftW_size, wrW_size, World.size_alloc]
  rw [wrW_size, World.size_alloc] at m0
  exact inOrder_any (w.heap.size + 1 + 3 + 3) (spR (w.heap.size + 1) (w.heap.size + 1 + 3)) (csR (w.heap.size + 1) (w.heap.size + 1 + 3))
    (fun i w' => match i with
      | 0 => MidR B p f q k K w.heap.size w (csR (w.heap.size + 1) (w.heap.size + 1 + 3)) a (List.replicate cnt 0#32) cnt d w'
      | 1 => fRefuse d.f a = 0 ∧ MidR B p f q k K w.heap.size w (csR (w.heap.size + 1) (w.heap.size + 1 + 3)) a (List.replicate cnt 0#32) cnt ⟨{ d.f with mode := 0 }, d.t⟩ w'
      | 2 => EndR B p f q k K w.heap.size w (dRead d a cnt) cnt 0 w'
      | _ => False)
    (EndR B p f q k K w.heap.size w (dRead d a cnt) cnt) _ (by show 2 ≤ 4; omega) spR_is (fun i w' hi h => by
      match i, h with
      | 0, h => exact h.row
      | 1, h => exact h.2.row
      | n + 2, _ => exact absurd hi (by simp [spR])) (fun i sp w' hsp hs => by
      rcases two_lt hsp with ⟨rfl, rfl⟩ | ⟨rfl, rfl⟩
      · exact MidR.first hs ok h1 h2
      · exact MidR.second hs.2 hs.1 ok h1 h2 (List.length_replicate ..)) (fun w h => h) m0
def DvReadN (B p f q k : Nat) (K : Nat → Prop) (x : DrvM × List (BitVec 32) × Int) (w : World) (e : Ending) (w' : World) : Prop :=
  ∃ A cap, e = .returned (.tuple #[.slice A x.2.1.length cap, .int .i64 x.2.2]) ∧ ReadsU w' A x.2.1.length cap x.2.1 ∧ (A = none → cap = 0) ∧ Dv B p f q k (KA K A) x.1 w' ∧ Turned (May B K) w w' ∧ (∀ a, A = some a → w.heap.size ≤ a.block)
theorem dread_no {x : DrvM × List (BitVec 32) × Int} {n : Int} (e1 : x.2.1 = []) (e2 : x.2.2 = n) (s : Dv B p f q k K x.1 w') (t : Turned (May B K) w w') : DvReadN B p f q k K x w (.returned (.tuple #[.slice none 0 0, .int .i64 n])) w' := by
  obtain ⟨x1, x2, x3⟩ := x
  dsimp only at e1 e2 s
  subst e1 e2
  exact ⟨none, 0, rfl, ⟨rfl, Nat.le_refl _, Nat.zero_le _, fun h => absurd h (Nat.lt_irrefl _)⟩, fun _ => rfl, s.less (fun i e => by
    rcases e with e | ⟨a, e, _⟩
    · exact e
    · cases e), t, fun a e => by cases e⟩
theorem EndR.no {n : Int} (h : EndR B p f q k K N w0 (dRead d a cnt) cnt n w) (hn : n ≠ 0) : DvReadN B p f q k K (dRead d a cnt) w0 (.returned (.tuple #[.slice none 0 0, .int .i64 n])) w := by
  obtain ⟨h1, h2, h3, _⟩ := h
  refine dread_no ?_ h1 (h2.less (fun i e => .inl e)) h3
  rw [← h1] at hn
  unfold dRead at hn ⊢
  repeat' split
  all_goals first
    | rfl
    | (exfalso; apply hn; simp_all; done)
theorem EndR.yes (h : EndR B p f q k K N w0 (dRead d a cnt) cnt 0 w) (hc : cnt ≤ 64) (hN : w0.heap.size ≤ N) : DvReadN B p f q k K (dRead d a cnt) w0 (.returned (.tuple #[.slice (some ⟨N, 0, none⟩) cnt cnt, .int .i64 0])) w := by
  obtain ⟨h1, h2, h3, h4⟩ := h
  obtain ⟨h5, h6⟩ := h4 rfl
  refine ⟨some ⟨N, 0, none⟩, cnt, by rw [h6, h1], ?_, fun e => (by cases e), h2.less (fun i e => ?_), h3, fun x e => by
    injection e with e
    rw [← e]
    exact hN⟩
  · rw [h6]
    have := ReadsU.of_at (w := w) (g := N) (cap := cnt) (xs := (dRead d a cnt).2.1) (rest := []) (by simpa using h5) (by simp [Us_length, h6]) (by unfold maxLen; omega)
    rw [h6] at this
    exact this
  · rcases e with e | ⟨x, e, rfl⟩
    · exact .inl e
    · injection e with e
      rw [← e]
      exact .inr ⟨Nat.le_refl _, by show N < N + 8; omega⟩
set_option maxRecDepth 100000 in
set_option maxHeartbeats 2000000 in
theorem Dv.readN (s : Dv B p f q k K d w) (ok : DrvOk k d) (a many : Int) (_a0 : -1125899906842624 ≤ a) (_a1 : a ≤ 1125899906842624) (m0 : -9223372036854775808 ≤ many) (m1 : many ≤ 9223372036854775807) :
    Calls Tryz.prog 48 #[.pointer (some ⟨q, 0, none⟩), .int .i64 a, .int .i64 many] w (DvReadN B p f q k K (dRead d a many) w) := by
  have M := Lib.hid s.made
  have S := Lib.hid s
  by_cases h1 : many < 0
  · have E : Hid (dRead d a many = (d, [], 2)) := Lib.hid (by unfold dRead; rw [if_pos (.inl h1)])
    clear s ok
    go_enter Tryz.func48, Tryz.ntmps48
    go_wp2_with (go_at_call 47; (with_reducible refine M.out.mono ?_); rintro e w1 ⟨rfl, rfl⟩)
    go_ret2
    rw [E.out]
    exact dread_no rfl rfl S.out (Turned.refl _ _)
  by_cases h2 : 64 < many
  · have E : Hid (dRead d a many = (d, [], 2)) := Lib.hid (by unfold dRead; rw [if_pos (.inr h2)])
    clear s ok
    go_enter Tryz.func48, Tryz.ntmps48
    go_wp2_with (go_at_call 47; (with_reducible refine M.out.mono ?_); rintro e w1 ⟨rfl, rfl⟩)
    go_ret2
    rw [E.out]
    exact dread_no rfl rfl S.out (Turned.refl _ _)
  by_cases h3 : many = 0
  · have E : Hid (dRead d a many = (d, [], 0)) := Lib.hid (by unfold dRead; rw [if_neg (by omega), if_pos h3])
    clear s ok
    go_enter Tryz.func48, Tryz.ntmps48
    go_wp2_with (go_at_call 47; (with_reducible refine M.out.mono ?_); rintro e w1 ⟨rfl, rfl⟩)
    go_ret2
    rw [E.out]
    exact dread_no rfl rfl S.out (Turned.refl _ _)
  obtain ⟨n, rfl⟩ := Int.eq_ofNat_of_zero_le (show 0 ≤ many by omega)
  have n1 : 1 ≤ n := by omega
  have n2 : n ≤ 64 := by omega
  obtain ⟨i0, hi, hz0, hz1, hz2⟩ := info_parts infoU
  have hmk := fun W => run_make (P := Tryz.prog) W 89 36 i0 (.int .u32 0) Tryz.underlying89 hi hz0 .i64 .i64 (n : Int) (n : Int) (by omega) (by omega) (by rw [hz2]; omega) (by omega)
  rw [show ((n : Int).toNat) = n by omega, hz1, Nat.mul_one, show (Value.int .u32 0).cells = #[.int .u32 0] from rfl, made_zw] at hmk
  have TW := Lib.hid (s.two ok n1 n2 (a := a))
  unfold csR at TW
  clear s ok hi hz0 hz1 hz2
  go_enter Tryz.func48, Tryz.ntmps48
  go_wp2_with (first
    | (go_at_call 47; (with_reducible refine M.out.mono ?_); rintro e w1 ⟨rfl, rfl⟩)
    | (go_at_call 65; (with_reducible refine (dwrite_any _ _ _ _ ⟨_, rfl⟩).mono ?_); rintro e w1 ⟨rfl, rfl⟩)
    | (go_at_call 66; (with_reducible refine (dfetch_any _ _ _ _ _ ⟨_, rfl⟩).mono ?_); rintro e w1 ⟨rfl, rfl⟩)
    | (go_at_call 64; go_loud (refine TW.out.mono ?_; rintro e w2 ⟨c, rfl, hE⟩; have HE := Lib.hid hE; clear hE)))
  · rename_i hb
    have hc : c ≠ 0 := by simpa using hb
    go_ret2
    exact HE.out.no hc
  · rename_i hb
    have hc : c = 0 := by simpa using hb
    subst hc
    go_ret2
    exact HE.out.yes n2 (Nat.le_refl _)
theorem Dv.read (s : Dv B p f q k K d w) (ok : DrvOk k d) (a many : Int) (a0 : -1125899906842624 ≤ a) (a1 : a ≤ 1125899906842624) (m0 : -9223372036854775808 ≤ many) (m1 : many ≤ 9223372036854775807) :
    Calls Tryz.prog 48 #[.pointer (some ⟨q, 0, none⟩), .int .i64 a, .int .i64 many] w (DvRead B p f q k K (dRead d a many) w) :=
  (s.readN ok a many a0 a1 m0 m1).mono fun _ _ ⟨A, cap, h1, h2, h3, h4, h5, _⟩ => ⟨A, cap, h1, h2, h3, h4, h5⟩
end
end Go.Proofs.YtpkkejdjhnmjiaaGreat
namespace Go.Proofs.YtpkkejdjhnmjiaaGreat
open Go.RowKit Bm
section
variable {B p f q k : Nat} {K : Nat → Prop} {d : DrvM} {w w' : World}
theorem Dv.programNew (s : Dv B p f q k K d w) (ok : DrvOk k d) (a : Int) (xs : List (BitVec 32)) (hn : xs.length ≤ 1000) (a0 : -1125899906842624 ≤ a) (a1 : a ≤ 1125899906842624) (t0 : 0 ≤ d.t) (t1 : d.t ≤ 100000000000000) :
    Calls Tryz.prog 70 #[.pointer (some ⟨q, 0, none⟩), .int .i64 a, .slice (some ⟨w.heap.size, 0, none⟩) xs.length xs.length] (w.alloc (.cells (Us xs).toArray 36)) (DvOut B p f q k K (dProgram d a xs).1 (.int .i64 (dProgram d a xs).2) w) := by
  have hb : Below w.heap.size w (w.alloc (.cells (Us xs).toArray 36)) := (Below.refl _ w).alloc (Nat.le_refl _) _
  have s' := s.more hb w.heap.size (Nat.le_refl _) (by simp)
  have hr : ReadsU (w.alloc (.cells (Us xs).toArray 36)) (some ⟨w.heap.size, 0, none⟩) xs.length xs.length xs := ReadsU.of_at (rest := []) (by simpa using At.news w 36 (Us xs)) (by simp [Us_length]) (by unfold maxLen; omega)
  refine (s'.program ok a _ _ _ xs hr hn a0 a1 t0 t1 (fun _ g e => ?_)).mono ?_
  · injection e with e
    rw [← e]
    exact fun h => h.2 (.inr rfl)
  · rintro e w' ⟨rfl, s2, t⟩
    exact ⟨rfl, s2.less (fun i h => .inl h), (Turned.of_below hb (Nat.le_refl _) _).trans (may_less t (fun i h => .inl h))⟩
end
end Go.Proofs.YtpkkejdjhnmjiaaGreat
