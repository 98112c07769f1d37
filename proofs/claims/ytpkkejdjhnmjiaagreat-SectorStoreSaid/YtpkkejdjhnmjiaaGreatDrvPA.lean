/- Contracts of package driver's helpers: made, write and the step that it makes, wait, check. | Contracts of package driver's helpers: wait, check, inOrder. | Contract of package driver's inOrder: steps up to the first error. | Contracts of package driver: the steps of Program, Erase, Lock in their order. | Contracts of package driver: Erase, Lock, Program. -/
import Derived.Test.YtpkkejdjhnmjiaaGreatDrvM
import Derived.Deep.LoopGhost
import Derived.Deep.Light
import Derived.Laws.EntriesVeiled
namespace Go.Proofs.YtpkkejdjhnmjiaaGreat
open Go.RowKit Bm
theorem U_and50 (x : BitVec 32) : bits .and .u32 (U x) 50 = U (x &&& 50#32) := U_and x 50#32
theorem U_and2 (x : BitVec 32) : bits .and .u32 (U x) 2 = U (x &&& 2#32) := U_and x 2#32
theorem U_and48 (x : BitVec 32) : bits .and .u32 (U x) 48 = U (x &&& 48#32) := U_and x 48#32
attribute [local go_sem] U_and50 U_and2 U_and48 U_and128
section
variable {B p f q k : Nat} {K : Nat → Prop} {d : DrvM} {w w' : World}
theorem Dv.made (s : Dv B p f q k K d w) : Calls Tryz.prog 47 #[.pointer (some ⟨q, 0, none⟩)] w fun e w' => e = .returned (.bool true) ∧ w' = w := by
  have g := s.own.cell 0
  simp only [drvCells, List.getElem?_cons_zero] at g
  clear s
  go_enter Tryz.func47, Tryz.ntmps47
  go_wp2
  go_ret
  exact ⟨rfl, rfl⟩
def wrW (w : World) (v : Value) (a x : Int) : World := ((w.alloc (.cells #[v] 25)).alloc (.cells #[.int .i64 a] 3)).alloc (.cells #[.int .u32 x] 36)
def wrA (n : Nat) : Array Value := #[.pointer (some ⟨n, 0, none⟩), .pointer (some ⟨n + 1, 0, none⟩), .pointer (some ⟨n + 2, 0, none⟩)]
theorem wrW_size (w : World) (v : Value) (a x : Int) : (wrW w v a x).heap.size = w.heap.size + 3 := by simp [wrW]
theorem wrW_below (w : World) (v : Value) (a x : Int) : Below w.heap.size w (wrW w v a x) := by
  have b1 := (Below.refl w.heap.size w).alloc (Nat.le_refl _) (.cells #[v] 25)
  have b2 := b1.alloc b1.size (.cells #[.int .i64 a] 3)
  exact b2.alloc b2.size _
structure WrAt (w : World) (q n : Nat) (a x : Int) : Prop where
  d : At w n 25 [.pointer (some ⟨q, 0, none⟩)]
  a : At w (n + 1) 3 [.int .i64 a]
  x : At w (n + 2) 36 [.int .u32 x]
theorem WrAt.below {n : Nat} {a x : Int} (h : WrAt w q n a x) (b : Below w.heap.size w w') : WrAt w' q n a x :=
  ⟨h.d.kept (Turned.of_below b (Nat.le_refl _) NoBlock) (fun h => h), h.a.kept (Turned.of_below b (Nat.le_refl _) NoBlock) (fun h => h), h.x.kept (Turned.of_below b (Nat.le_refl _) NoBlock) (fun h => h)⟩
theorem WrAt.kept {n : Nat} {a x : Int} {S : Nat → Prop} (h : WrAt w q n a x) (t : Turned S w w') (h0 : ¬ S n) (h1 : ¬ S (n + 1)) (h2 : ¬ S (n + 2)) : WrAt w' q n a x :=
  ⟨h.d.kept t h0, h.a.kept t h1, h.x.kept t h2⟩
theorem wrW_at (w : World) (a x : Int) : WrAt (wrW w (.pointer (some ⟨q, 0, none⟩)) a x) q w.heap.size a x :=
  ⟨((At.news w 25 [.pointer (some ⟨q, 0, none⟩)]).alloc _).alloc _,
   (At.alloc_new _ _ _ (by rw [World.size_alloc]) rfl).alloc _,
   At.alloc_new _ _ _ (by rw [World.size_alloc, World.size_alloc]) rfl⟩
theorem dwrite_any (v : Value) (a x : Int) (w : World) (hv : ∃ g, v = .pointer (some ⟨g, 0, none⟩)) : Calls Tryz.prog 65 #[v, .int .i64 a, .int .u32 x] w fun e w' => e = .returned (.func (.func 77) #[] (wrA w.heap.size)) ∧ w' = wrW w v a x := by
  obtain ⟨g, rfl⟩ := hv
  go_enter Tryz.func65, Tryz.ntmps65
  go_wp2
  go_ret
  exact ⟨rfl, rfl⟩
set_option maxRecDepth 100000 in
set_option maxHeartbeats 1000000 in
theorem Dv.wstep (s : Dv B p f q k K d w) (ok : FlashOk k d.f) (n : Nat) (a xi : Int) (x : BitVec 32) (hx : U x = xi) (h : WrAt w q n a xi) :
    Calls Tryz.prog 77 (wrA n) w (DvOut B p f q k K ⟨(fWrite d.f a x).1, d.t⟩ (.int .i64 (fWrite d.f a x).2) w) := by
  have g0 := s.own.cell 0
  have c0 := h.d.cell 0
  have c1 := h.a.cell 0
  have c2 := h.x.cell 0
  simp only [drvCells, List.getElem?_cons_zero] at g0 c0 c1 c2
  have SD : Hid (Dv B p f q k K d w.drew) := Lib.hid (s.below (below_drewN w.heap.size w 1))
  have hp := SD.out.st.write ok a x
  rw [hx] at hp
  have HP := Lib.hid hp
  have S := Lib.hid s
  clear hp h s hx ok
  change Calls _ _ #[.pointer (some ⟨n, 0, none⟩), .pointer (some ⟨n + 1, 0, none⟩), .pointer (some ⟨n + 2, 0, none⟩)] _ _
  go_enter Tryz.func77, Tryz.ntmps77
  go_wp2
  refine wp_region_still_tail 6 (by kernel_rfl) (by kernel_rfl) ?_
  simp only [List.take_succ_cons, List.take_zero, List.drop_succ_cons, List.drop_zero]
  change wpStill _ _ (World.drew _) _ _ _
  repeat still_step
  refine wpStill_nil ?_
  change wpList _ _ _ _ _ (World.drew _)
  go_wp2_with (go_at_call 78; (with_reducible refine HP.out.mono ?_); rintro e w1 ⟨rfl, s1, t1⟩)
  go_ret
  have o1 := SD.out.own.kept t1 (fun e => e.2 (.inr rfl))
  exact ⟨rfl, ⟨s1, o1, S.out.qB⟩, (Turned.of_below (below_drewN w.heap.size w 1) (Nat.le_refl _) _).trans (may_less t1 (fun i h => .inl h))⟩
end
end Go.Proofs.YtpkkejdjhnmjiaaGreat
namespace Go.Proofs.YtpkkejdjhnmjiaaGreat
open Go.RowKit Bm
attribute [local go_sem] U_and50 U_and2 U_and48 U_and128
theorem alienDv : Alien 100 := ⟨by decide, by decide, by decide, by decide, by decide⟩
theorem chk_none {m : FlashM} (he : m.errors = 0#32) : dCheck m = (m, 0) := if_pos he
theorem chk_some {m : FlashM} (he : m.errors ≠ 0#32) : dCheck m = ({ m with mode := 1, errors := 0#32 }, dCode m.errors) := if_neg he
theorem WaitOk.clear {k : Nat} {m : FlashM} (ok : WaitOk k m) (hj : m.job = 0) : fWrite m 0 80#32 = ({ m with mode := 1, errors := 0#32 }, 0) :=
  Idle.write ⟨ok.up, ok.wait, hj⟩ 0 (by omega) (by have := ok.len; omega) 80#32 80#32 rfl
theorem WaitOk.ready {k : Nat} {m : FlashM} (ok : WaitOk k m) (hj : m.job = 0) : fStatus m = m.errors ||| 128#32 ∧ Bits m.errors := ⟨if_pos hj, ok.idle hj⟩
section
variable {B p f q k : Nat} {K : Nat → Prop} {d : DrvM} {w w' : World}
theorem Dv.putT (s : Dv B p f q k K d w) (t : Int) : Dv B p f q k K ⟨d.f, t⟩ (w.setCell ⟨q, 2, none⟩ (.int .i64 t)) :=
  ⟨s.st.other s.own alienDv ((Turned.refl (Just q) w).setCell (p := ⟨q, 2, none⟩) (fun _ => rfl) _), (s.own.put 2 _).as rfl, s.qB⟩
theorem turned_q (hq : May B K q) {w1 : World} (t : Turned (May B K) w w1) (v : Value) (j : Nat) : Turned (May B K) w (w1.setCell ⟨q, j, none⟩ v) :=
  t.setCell (p := ⟨q, j, none⟩) (fun _ => hq) v
def WaitEnd (B p f q k : Nat) (K : Nat → Prop) (r : DrvM × Int) (w : World) (e : Ending) (w' : World) : Prop :=
  ∃ d' n, e = .returned (.int .i64 n) ∧ Dv B p f q k K d' w' ∧ Turned (May B K) w w' ∧ (n = 0 → WaitOk k d'.f ∧ d'.f.job = 0 ∧ r = (⟨(dCheck d'.f).1, d'.t⟩, (dCheck d'.f).2)) ∧ (n ≠ 0 → r = (d', n))
set_option maxRecDepth 100000 in
set_option maxHeartbeats 4000000 in
theorem Dv.wait (s : Dv B p f q k K d w) (ok : WaitOk k d.f) (t0 : 0 ≤ d.t) (t1 : d.t + d.f.left ≤ 1000000000000000) :
    Calls Tryz.prog 86 #[.pointer (some ⟨q, 0, none⟩)] w (WaitEnd B p f q k K (dWait d) w) := by
  have g0 : 0 ≤ d.f.left := by
    by_cases hj : d.f.job = 0
    · have := (ok.ok.idle hj).2.2; omega
    · have := ok.ok.busy hj; omega
  have S0 := Lib.hid s
  have OK0 := Lib.hid ok
  clear s ok
  go_enter Tryz.func86, Tryz.ntmps86
  go_wp2_with fail
  go_loopg [] d.f.left.toNat (fun g wr => ∃ (m : FlashM) (t : Int), (g : Int) = m.left ∧ Dv B p f q k K ⟨m, t⟩ wr ∧ Turned (May B K) w wr ∧ WaitOk k m ∧ dWait d = dWait ⟨m, t⟩ ∧ 0 ≤ t ∧ t + m.left ≤ 1000000000000000)
  case atStart => exact ⟨d.f, d.t, by omega, S0.out, Turned.refl _ _, OK0.out, rfl, t0, t1⟩
  case round =>
    clear S0 OK0 g0 t0 t1
    obtain ⟨m, t, hg, s, tw, ok, hd, t0, t1⟩ := hrel
    have q0 := s.own.cell 0
    have q2 := s.own.cell 2
    have y2 := s.own.frozen 2
    simp only [drvCells, List.getElem?_cons_zero, List.getElem?_cons_succ] at q0 q2
    have ST := Lib.hid (s.st.st.status ok.ok)
    have S := Lib.hid s
    have TW := Lib.hid tw
    have OK := Lib.hid ok
    have HD := Lib.hid hd
    clear s tw ok hd
    by_cases hj : m.job = 0
    · obtain ⟨hs, hb⟩ := OK.out.ready hj
      have hu : (U (fStatus m &&& 128#32) == 0) = false := by
        rw [hs]
        rcases hb with e | e | e | e <;> rw [e] <;> decide
      have E := Lib.hid (HD.out.trans (wait_still hj t))
      have HJ := Lib.hid hj
      clear hs hb hj hg
      go_wp2_with (go_at_call 96; (with_reducible refine ST.out.mono ?_); rintro e w2 ⟨rfl, rfl⟩)
      go_ret
      exact ⟨⟨m, t⟩, 0, rfl, S.out, TW.out, fun _ => ⟨OK.out, HJ.out, E.out⟩, fun h => absurd rfl h⟩
    · have hu : (U (fStatus m &&& 128#32) == 0) = true := by
        rw [show fStatus m = 0#32 by unfold fStatus; rw [if_neg hj]; exact OK.out.busy hj]
        decide
      have hl := (OK.out.ok.busy hj).2.2.1
      have S2 := Lib.hid (S.out.putT (t + 1))
      have T2 := Lib.hid (turned_q S.out.qB TW.out (.int .i64 (t + 1)) 2)
      have o2 : (w.heap.size : Nat) = w.heap.size := rfl
      obtain ⟨V, hV⟩ : ∃ V, V = wr.setCell ⟨q, 2, none⟩ (.int .i64 (t + 1)) := ⟨_, rfl⟩
      rw [← hV] at S2 T2
      have v0 := S2.out.own.cell 0
      simp only [drvCells, List.getElem?_cons_zero] at v0
      have zz := OK.out.tick hj t
      have tk := S2.out.st.tick OK.out.ok 1 (by omega) (by omega)
      obtain ⟨x, hx⟩ : ∃ x, x = fTick m 1 := ⟨_, rfl⟩
      rw [← hx] at zz tk
      have TK := Lib.hid tk
      have Z := Lib.hid zz
      have HV := Lib.hid hV
      clear hj tk zz hx o2 hV
      by_cases hx0 : x.2 = 0
      · have hx1 : (x.2 != 0) = false := by rw [hx0]; rfl
        go_wp2_with (first
          | (go_at_call 96; (with_reducible refine ST.out.mono ?_); rintro e w2 ⟨rfl, rfl⟩)
          | (go_at_call 102; rw [← HV.out]; (with_reducible refine TK.out.mono ?_); rintro e w3 ⟨rfl, s3, t3⟩; have S3 := Lib.hid (s3 : StK _ _ _ _ _ _); have T3 := Lib.hid t3; clear s3 t3))
        obtain ⟨z1, z2, z3⟩ := Z.out.1 hx0
        have o3 := S2.out.own.kept T3.out (fun e => e.2 (.inr rfl))
        have Z3 : Hid (x.1.left = m.left - 1) := Lib.hid z3
        have DV : Hid (Dv B p f q k K ⟨x.1, t + 1⟩ w3) := Lib.hid ⟨S3.out, o3, S2.out.qB⟩
        have TT := Lib.hid (T2.out.trans (may_less T3.out (fun i h => .inl h)))
        have ZW := Lib.hid z1
        have ZD := Lib.hid (HD.out.trans z2)
        clear z1 z2 z3 o3
        go_roundg (gk - 1)
        case measure => go_light; omega
        case rel => go_light; exact ⟨x.1, t + 1, by rw [Z3.out]; omega, DV.out, TT.out, ZW.out, ZD.out, by omega, by rw [Z3.out]; omega⟩
      · have hx1 : (x.2 != 0) = true := by simpa using hx0
        go_wp2_with (first
          | (go_at_call 96; (with_reducible refine ST.out.mono ?_); rintro e w2 ⟨rfl, rfl⟩)
          | (go_at_call 102; rw [← HV.out]; (with_reducible refine TK.out.mono ?_); rintro e w3 ⟨rfl, s3, t3⟩; have S3 := Lib.hid (s3 : StK _ _ _ _ _ _); have T3 := Lib.hid t3; clear s3 t3))
        go_ret
        have o3 := S2.out.own.kept T3.out (fun e => e.2 (.inr rfl))
        exact ⟨⟨x.1, t + 1⟩, x.2, rfl, ⟨S3.out, o3, S2.out.qB⟩, T2.out.trans (may_less T3.out (fun i h => .inl h)), fun h => absurd h hx0, fun _ => HD.out.trans (Z.out.2 hx0)⟩
set_option maxRecDepth 100000 in
set_option maxHeartbeats 4000000 in
theorem Dv.check (s : Dv B p f q k K d w) (ok : WaitOk k d.f) (hj : d.f.job = 0) :
    Calls Tryz.prog 87 #[.pointer (some ⟨q, 0, none⟩)] w (DvOut B p f q k K ⟨(dCheck d.f).1, d.t⟩ (.int .i64 (dCheck d.f).2) w) := by
  obtain ⟨m, t⟩ := d
  have q0 := s.own.cell 0
  simp only [drvCells, List.getElem?_cons_zero] at q0
  have ST := Lib.hid (s.st.st.status ok.ok)
  obtain ⟨hs, hb⟩ := ok.ready hj
  have S := Lib.hid s
  have cw := s.st.write ok.ok 0 80#32
  rw [ok.clear hj, show U 80#32 = 80 from rfl] at cw
  have CW := Lib.hid cw
  clear cw s ok hj
  obtain ⟨x, hx⟩ : ∃ x, x = fStatus m := ⟨_, rfl⟩
  rw [← hx] at ST hs
  clear hx
  by_cases he : m.errors = 0#32
  · rw [chk_none he]
    rw [he] at hs
    have u1 : (U (x &&& 50#32) == 0) = true := by rw [hs]; decide
    clear hb he hs
    go_enter Tryz.func87, Tryz.ntmps87
    go_wp2_with (go_at_call 96; (with_reducible refine ST.out.mono ?_); rintro e w2 ⟨rfl, rfl⟩)
    go_ret
    exact ⟨rfl, S.out, Turned.refl _ _⟩
  · rw [chk_some he]
    obtain ⟨m2, hm2⟩ : ∃ m2, m2 = ({ m with mode := 1, errors := 0#32 } : FlashM) := ⟨_, rfl⟩
    dsimp only at CW ⊢
    rw [← hm2] at CW ⊢
    have fin : ∀ n w1, StK B p f (fun i => K i ∨ i = q) m2 w1 → Turned (May B (fun i => K i ∨ i = q)) w w1 → DvOut B p f q k K ⟨m2, t⟩ (.int .i64 n) w (.returned (.int .i64 n)) w1 := fun n w1 s1 t1 =>
      ⟨rfl, ⟨s1, S.out.own.kept t1 (fun e => e.2 (.inr rfl)), S.out.qB⟩, may_less t1 (fun i h => .inl h)⟩
    have FIN := Lib.hid fin
    clear hm2 fin
    rcases hb with e | e | e | e
    · exact absurd e he
    all_goals
      rw [e] at hs ⊢
      clear he e
      have u1 : (U (x &&& 50#32) == 0) = false := by rw [hs]; decide
    · have u2 : (U (x &&& 2#32) != 0) = true := by rw [hs]; decide
      clear hs
      go_enter Tryz.func87, Tryz.ntmps87
      go_wp2_with (first
        | (go_at_call 96; (with_reducible refine ST.out.mono ?_); rintro e w2 ⟨rfl, rfl⟩)
        | (go_at_call 78; (with_reducible refine CW.out.mono ?_); rintro e w3 ⟨rfl, s3, t3⟩))
      go_ret
      exact FIN.out 6 _ s3 t3
    · have u2 : (U (x &&& 2#32) != 0) = true := by rw [hs]; decide
      clear hs
      go_enter Tryz.func87, Tryz.ntmps87
      go_wp2_with (first
        | (go_at_call 96; (with_reducible refine ST.out.mono ?_); rintro e w2 ⟨rfl, rfl⟩)
        | (go_at_call 78; (with_reducible refine CW.out.mono ?_); rintro e w3 ⟨rfl, s3, t3⟩))
      go_ret
      exact FIN.out 6 _ s3 t3
    · have u2 : (U (x &&& 2#32) != 0) = false := by rw [hs]; decide
      have u3 : (U (x &&& 48#32) == 48) = false := by rw [hs]; decide
      clear hs
      go_enter Tryz.func87, Tryz.ntmps87
      go_wp2_with (first
        | (go_at_call 96; (with_reducible refine ST.out.mono ?_); rintro e w2 ⟨rfl, rfl⟩)
        | (go_at_call 78; (with_reducible refine CW.out.mono ?_); rintro e w3 ⟨rfl, s3, t3⟩))
      go_ret
      exact FIN.out 5 _ s3 t3
end
end Go.Proofs.YtpkkejdjhnmjiaaGreat
namespace Go.Proofs.YtpkkejdjhnmjiaaGreat
open Go.RowKit Bm
structure Sp where
  f : Nat
  vs : Array Value
def Sp.clo (s : Sp) : Prop := s.f = 77 ∨ s.f = 79
def Sp.met (s : Sp) : Prop := s.f = 86 ∨ s.f = 87
def Sp.IsV (s : Sp) (v : Value) : Prop := (s.clo ∧ v = .func (.func s.f) #[] s.vs) ∨ (s.met ∧ v = .func (.func s.f) s.vs #[])
def Ends (S : World → Prop) (Q : Int → World → Prop) (e : Ending) (w' : World) : Prop := ∃ n, e = .returned (.int .i64 n) ∧ (n = 0 → S w') ∧ (n ≠ 0 → Q n w')
set_option maxRecDepth 100000 in
set_option maxHeartbeats 4000000 in
theorem inOrder_any (g : Nat) (l : List Sp) (cs : List Value) (S : Nat → World → Prop) (Q : Int → World → Prop) (w : World) (hl : l.length ≤ 4)
    (hv : ∀ (i : Nat) (sp : Sp), l[i]? = some sp → ∃ v, cs[i]? = some v ∧ sp.IsV v) (hcell : ∀ (i : Nat) (w : World), i < l.length → S i w → At w g 138 cs)
    (hstep : ∀ (i : Nat) (sp : Sp) (w : World), l[i]? = some sp → S i w → Calls Tryz.prog sp.f sp.vs w (Ends (S (i + 1)) Q)) (hend : ∀ w, S l.length w → Q 0 w) (h0 : S 0 w) :
    Calls Tryz.prog 64 #[.slice (some ⟨g, 0, none⟩) l.length l.length] w fun e w' => ∃ n, e = .returned (.int .i64 n) ∧ Q n w' := by
  obtain ⟨N, hN⟩ : ∃ N, N = l.length := ⟨_, rfl⟩
  rw [← hN] at hl hend ⊢
  have HV := Lib.hid hv
  have HC := Lib.hid hcell
  have HS := Lib.hid hstep
  have HE := Lib.hid hend
  have HN := Lib.hid hN
  clear hv hcell hstep hend hN
  go_enter Tryz.func64, Tryz.ntmps64
  go_wp2_with fail
  go_loopw [8] (fun i wr => ∃ j : Nat, j ≤ N ∧ i = .int .i64 j ∧ S j wr) (fun i _ => N - (intOf i).toNat)
  case atStart => exact ⟨0, by omega, rfl, h0⟩
  case round =>
    clear h0
    obtain ⟨j, hj, rfl, hs⟩ := hrel
    by_cases hlt : j < N
    · have i0 : (0 : Int) ≤ (j : Int) := by omega
      have i1 : (j : Int) < (N : Int) := by omega
      obtain ⟨sp, hsp⟩ : ∃ sp, l[j]? = some sp := ⟨_, List.getElem?_eq_getElem (by rw [← HN.out]; exact hlt)⟩
      obtain ⟨v, hv1, hv2⟩ := HV.out j sp hsp
      have c0 := (HC.out j wr (by rw [← HN.out]; exact hlt) hs).cell j
      rw [hv1] at c0
      have CL := Lib.hid (HS.out j sp wr hsp hs)
      obtain ⟨fn, vs⟩ := sp
      clear hsp hv1 hs
      rcases hv2 with ⟨h1 | h1, rfl⟩ | ⟨h1 | h1, rfl⟩
      all_goals
        dsimp only at h1 c0 CL
        subst h1
        go_wp2_with fail
        refine CL.out.mono ?_
        rintro e w1 ⟨n, rfl, k0, k1⟩
        have K0 := Lib.hid k0
        have K1 := Lib.hid k1
        clear k0 k1
        by_cases hn : n = 0
        · have q : (n != 0) = false := by rw [hn]; rfl
          have Z := Lib.hid (K0.out hn)
          clear hn
          go_wp2
          go_roundw
          case rel => exact ⟨j + 1, by omega, by go_num, Z.out⟩
          case measure => simp [intOf]; omega
        · have q : (n != 0) = true := by simpa using hn
          have Z := Lib.hid (K1.out hn)
          clear hn
          go_wp2
          go_ret
          exact ⟨n, rfl, Z.out⟩
    · obtain rfl : j = N := by omega
      have Z := Lib.hid (HE.out wr hs)
      clear hs
      go_wp2
      go_ret
      exact ⟨0, rfl, Z.out⟩
end Go.Proofs.YtpkkejdjhnmjiaaGreat
namespace Go.Proofs.YtpkkejdjhnmjiaaGreat
open Go.RowKit Bm
def KN (K : Nat → Prop) (N : Nat) (i : Nat) : Prop := K i ∨ (N ≤ i ∧ i < N + 7)
structure Mid (B p f q k : Nat) (K : Nat → Prop) (N : Nat) (w0 : World) (cs : List Value) (a x1 x2 : Int) (d : DrvM) (w : World) : Prop where
  dv : Dv B p f q k (KN K N) d w
  row : At w (N + 6) 138 cs
  one : WrAt w q N a x1
  two : WrAt w q (N + 3) a x2
  t : Turned (May B K) w0 w
  hN : B ≤ N
section
variable {B p f q k N : Nat} {K : Nat → Prop} {d d' : DrvM} {w0 w w' : World} {cs : List Value} {a x1 x2 : Int}
theorem kn_not {i : Nat} (h1 : N ≤ i) (h2 : i < N + 7) : ¬ May B (KN K N) i := fun e => e.2 (.inr ⟨h1, h2⟩)
theorem Mid.next (s : Mid B p f q k K N w0 cs a x1 x2 d w) (s' : Dv B p f q k (KN K N) d' w') (t : Turned (May B (KN K N)) w w') : Mid B p f q k K N w0 cs a x1 x2 d' w' :=
  ⟨s', s.row.kept t (kn_not (by omega) (by omega)), s.one.kept t (kn_not (by omega) (by omega)) (kn_not (by omega) (by omega)) (kn_not (by omega) (by omega)),
   s.two.kept t (kn_not (by omega) (by omega)) (kn_not (by omega) (by omega)) (kn_not (by omega) (by omega)), s.t.trans (may_less t (fun i h => .inl h)), s.hN⟩
theorem Mid.start (s : Dv B p f q k K d w) (cs : List Value) (a x1 x2 : Int) :
    Mid B p f q k K w.heap.size w cs a x1 x2 d ((wrW (wrW w (.pointer (some ⟨q, 0, none⟩)) a x1) (.pointer (some ⟨q, 0, none⟩)) a x2).alloc (.cells cs.toArray 138)) := by
  have b1 := wrW_below w (.pointer (some ⟨q, 0, none⟩)) a x1
  have z1 := wrW_size w (.pointer (some ⟨q, 0, none⟩)) a x1
  have a1 := wrW_at (q := q) w a x1
  obtain ⟨w1, h1⟩ : ∃ w1, w1 = wrW w (.pointer (some ⟨q, 0, none⟩)) a x1 := ⟨_, rfl⟩
  rw [← h1] at b1 z1 a1 ⊢
  have b2 := wrW_below w1 (.pointer (some ⟨q, 0, none⟩)) a x2
  have z2 := wrW_size w1 (.pointer (some ⟨q, 0, none⟩)) a x2
  have a2 := wrW_at (q := q) w1 a x2
  obtain ⟨w2, h2⟩ : ∃ w2, w2 = wrW w1 (.pointer (some ⟨q, 0, none⟩)) a x2 := ⟨_, rfl⟩
  rw [← h2] at b2 z2 a2 ⊢
  have b3 := (Below.refl w2.heap.size w2).alloc (Nat.le_refl _) (.cells cs.toArray 138)
  have bb : Below w.heap.size w (w2.alloc (.cells cs.toArray 138)) := (b1.trans (b2.mono b1.size)).trans (b3.mono (by omega))
  rw [z1] at a2
  refine ⟨s.renew bb ?_, ?_, (a1.below b2).below b3, a2.below b3, Turned.of_below bb (Nat.le_refl _) _, s.size⟩
  · rintro i (e | ⟨e1, e2⟩)
    · exact ⟨.inl e, by have := s.st.kin i (.inl e); have := bb.size; omega⟩
    · exact ⟨.inr e1, by rw [World.size_alloc]; omega⟩
  · exact At.alloc_new _ _ _ (by omega) rfl
structure Puts (k : Nat) (d : DrvM) (a : Int) (c1 c2 : BitVec 32) (r : DrvM × Int) (H : FlashM → Prop) : Prop where
  ok : FlashOk k d.f
  r1 : (fWrite d.f a c1).2 ≠ 0 → r = (⟨(fWrite d.f a c1).1, d.t⟩, (fWrite d.f a c1).2)
  r2 : (fWrite d.f a c1).2 = 0 → (fWrite (fWrite d.f a c1).1 a c2).2 ≠ 0 → r = (⟨(fWrite (fWrite d.f a c1).1 a c2).1, d.t⟩, (fWrite (fWrite d.f a c1).1 a c2).2)
  r3 : (fWrite d.f a c1).2 = 0 → (fWrite (fWrite d.f a c1).1 a c2).2 = 0 → H (fWrite (fWrite d.f a c1).1 a c2).1
def HWait (k : Nat) (t : Int) (r : DrvM × Int) (m : FlashM) : Prop := WaitOk k m ∧ 0 ≤ t ∧ t + m.left ≤ 1000000000000000 ∧ r = dWait ⟨m, t⟩
def HCheck (k : Nat) (t : Int) (r : DrvM × Int) (m : FlashM) : Prop := WaitOk k m ∧ m.job = 0 ∧ r = (⟨(dCheck m).1, t⟩, (dCheck m).2)
def MidEnd (B p f q k : Nat) (K : Nat → Prop) (N : Nat) (w0 : World) (r : DrvM × Int) (n : Int) (w : World) : Prop := r.2 = n ∧ Dv B p f q k (KN K N) r.1 w ∧ Turned (May B K) w0 w
theorem MidEnd.out {r : DrvM × Int} {n : Int} (h : MidEnd B p f q k K N w0 r n w) : DvOut B p f q k K r.1 (.int .i64 r.2) w0 (.returned (.int .i64 n)) w :=
  ⟨by rw [h.1], h.2.1.less (fun i e => .inl e), h.2.2⟩
section
variable {c1 c2 : BitVec 32} {r : DrvM × Int} {H : FlashM → Prop}
theorem Mid.first (s : Mid B p f q k K N w0 cs a x1 x2 d w) (h : Puts k d a c1 c2 r H) (e1 : U c1 = x1) :
    Calls Tryz.prog 77 (wrA N) w (Ends (fun w' => (fWrite d.f a c1).2 = 0 ∧ Mid B p f q k K N w0 cs a x1 x2 ⟨(fWrite d.f a c1).1, d.t⟩ w') (MidEnd B p f q k K N w0 r)) := by
  refine (s.dv.wstep h.ok N a x1 c1 e1 s.one).mono ?_
  rintro e w' ⟨rfl, s', t⟩
  have n := s.next s' t
  exact ⟨_, rfl, fun h0 => ⟨h0, n⟩, fun h0 => by rw [h.r1 h0]; exact ⟨rfl, n.dv, n.t⟩⟩
theorem Mid.second (s : Mid B p f q k K N w0 cs a x1 x2 ⟨(fWrite d.f a c1).1, d.t⟩ w) (z : (fWrite d.f a c1).2 = 0) (h : Puts k d a c1 c2 r H) (e2 : U c2 = x2) :
    Calls Tryz.prog 77 (wrA (N + 3)) w (Ends (fun w' => ∃ m, H m ∧ Mid B p f q k K N w0 cs a x1 x2 ⟨m, d.t⟩ w') (MidEnd B p f q k K N w0 r)) := by
  refine (s.dv.wstep (h.ok.write a c1) (N + 3) a x2 c2 e2 s.two).mono ?_
  rintro e w' ⟨rfl, s', t⟩
  have n := s.next s' t
  exact ⟨_, rfl, fun h0 => ⟨_, h.r3 z h0, n⟩, fun h0 => by rw [h.r2 z h0]; exact ⟨rfl, n.dv, n.t⟩⟩
theorem Mid.wait {m : FlashM} {t : Int} (s : Mid B p f q k K N w0 cs a x1 x2 ⟨m, t⟩ w) (h : HWait k t r m) :
    Calls Tryz.prog 86 #[.pointer (some ⟨q, 0, none⟩)] w (Ends (fun w' => ∃ m t', HCheck k t' r m ∧ Mid B p f q k K N w0 cs a x1 x2 ⟨m, t'⟩ w') (MidEnd B p f q k K N w0 r)) := by
  obtain ⟨h1, h2, h3, h4⟩ := h
  refine (s.dv.wait h1 h2 h3).mono ?_
  rintro e w' ⟨d', n, rfl, s', tt, k0, k1⟩
  have n := s.next s' tt
  refine ⟨_, rfl, fun h0 => ?_, fun h0 => ?_⟩
  · obtain ⟨g1, g2, g3⟩ := k0 h0
    exact ⟨d'.f, d'.t, ⟨g1, g2, h4.trans g3⟩, n⟩
  · rw [h4, k1 h0]
    exact ⟨rfl, n.dv, n.t⟩
theorem Mid.check {m : FlashM} {t : Int} (s : Mid B p f q k K N w0 cs a x1 x2 ⟨m, t⟩ w) (h : HCheck k t r m) :
    Calls Tryz.prog 87 #[.pointer (some ⟨q, 0, none⟩)] w (Ends (MidEnd B p f q k K N w0 r 0) (MidEnd B p f q k K N w0 r)) := by
  obtain ⟨h1, h2, h3⟩ := h
  refine (s.dv.check h1 h2).mono ?_
  rintro e w' ⟨rfl, s', tt⟩
  have n := s.next s' tt
  rw [h3]
  exact ⟨_, rfl, fun h0 => ⟨h0, n.dv, n.t⟩, fun h0 => ⟨rfl, n.dv, n.t⟩⟩
end
def cs4 (n1 n2 q : Nat) : List Value := [.func (.func 77) #[] (wrA n1), .func (.func 77) #[] (wrA n2), .func (.func 86) #[.pointer (some ⟨q, 0, none⟩)] #[], .func (.func 87) #[.pointer (some ⟨q, 0, none⟩)] #[]]
def sp4 (n1 n2 q : Nat) : List Sp := [⟨77, wrA n1⟩, ⟨77, wrA n2⟩, ⟨86, #[.pointer (some ⟨q, 0, none⟩)]⟩, ⟨87, #[.pointer (some ⟨q, 0, none⟩)]⟩]
theorem four_lt {j : Nat} {α : Type} {s : α} {a b c d : α} (h : [a, b, c, d][j]? = some s) : (j = 0 ∧ s = a) ∨ (j = 1 ∧ s = b) ∨ (j = 2 ∧ s = c) ∨ (j = 3 ∧ s = d) := by
  match j with
  | 0 => simp at h; exact .inl ⟨rfl, h.symm⟩
  | 1 => simp at h; exact .inr (.inl ⟨rfl, h.symm⟩)
  | 2 => simp at h; exact .inr (.inr (.inl ⟨rfl, h.symm⟩))
  | 3 => simp at h; exact .inr (.inr (.inr ⟨rfl, h.symm⟩))
  | n + 4 => simp at h
theorem sp4_is {n1 n2 q : Nat} (i : Nat) (s : Sp) (h : (sp4 n1 n2 q)[i]? = some s) : ∃ v, (cs4 n1 n2 q)[i]? = some v ∧ s.IsV v := by
  rcases four_lt h with ⟨rfl, rfl⟩ | ⟨rfl, rfl⟩ | ⟨rfl, rfl⟩ | ⟨rfl, rfl⟩
  · exact ⟨_, rfl, .inl ⟨.inl rfl, rfl⟩⟩
  · exact ⟨_, rfl, .inl ⟨.inl rfl, rfl⟩⟩
  · exact ⟨_, rfl, .inr ⟨.inl rfl, rfl⟩⟩
  · exact ⟨_, rfl, .inr ⟨.inr rfl, rfl⟩⟩
theorem Dv.four (s : Dv B p f q k K d w) {c1 c2 : BitVec 32} {r : DrvM × Int} (h : Puts k d a c1 c2 r (HWait k d.t r)) (e1 : U c1 = x1) (e2 : U c2 = x2) :
    Calls Tryz.prog 64 #[.slice (some ⟨(wrW (wrW w (.pointer (some ⟨q, 0, none⟩)) a x1) (.pointer (some ⟨q, 0, none⟩)) a x2).heap.size, 0, none⟩) 4 4]
      ((wrW (wrW w (.pointer (some ⟨q, 0, none⟩)) a x1) (.pointer (some ⟨q, 0, none⟩)) a x2).alloc (.cells (cs4 w.heap.size (wrW w (.pointer (some ⟨q, 0, none⟩)) a x1).heap.size q).toArray 138)) (DvOut B p f q k K r.1 (.int .i64 r.2) w) := by
  have m0 := Mid.start s (cs4 w.heap.size (wrW w (.pointer (some ⟨q, 0, none⟩)) a x1).heap.size q) a x1 x2
  rw [wrW_size, wrW_size]
  rw [wrW_size] at m0
  refine (inOrder_any (w.heap.size + 3 + 3) (sp4 w.heap.size (w.heap.size + 3) q) (cs4 w.heap.size (w.heap.size + 3) q)
    (fun i w' => match i with
      | 0 => Mid B p f q k K w.heap.size w (cs4 w.heap.size (w.heap.size + 3) q) a x1 x2 d w'
      | 1 => (fWrite d.f a c1).2 = 0 ∧ Mid B p f q k K w.heap.size w (cs4 w.heap.size (w.heap.size + 3) q) a x1 x2 ⟨(fWrite d.f a c1).1, d.t⟩ w'
      | 2 => ∃ m, HWait k d.t r m ∧ Mid B p f q k K w.heap.size w (cs4 w.heap.size (w.heap.size + 3) q) a x1 x2 ⟨m, d.t⟩ w'
      | 3 => ∃ m t', HCheck k t' r m ∧ Mid B p f q k K w.heap.size w (cs4 w.heap.size (w.heap.size + 3) q) a x1 x2 ⟨m, t'⟩ w'
      | 4 => MidEnd B p f q k K w.heap.size w r 0 w'
      | _ => False)
    (MidEnd B p f q k K w.heap.size w r) _ (Nat.le_refl 4) sp4_is ?_ ?_ (fun w h => h) m0).mono ?_
  · intro i w' hi h
    match i, h with
    | 0, h => exact h.row
    | 1, h => exact h.2.row
    | 2, ⟨m, _, h⟩ => exact h.row
    | 3, ⟨m, t, _, h⟩ => exact h.row
    | n + 4, _ => exact absurd hi (by simp [sp4])
  · intro i sp w' hsp hs
    rcases four_lt hsp with ⟨rfl, rfl⟩ | ⟨rfl, rfl⟩ | ⟨rfl, rfl⟩ | ⟨rfl, rfl⟩
    · exact hs.first h e1
    · exact hs.2.second hs.1 h e2
    · obtain ⟨m, h1, h2⟩ := hs
      exact h2.wait h1
    · obtain ⟨m, t', h1, h2⟩ := hs
      exact h2.check h1
  · rintro e w' ⟨n, rfl, h⟩
    exact h.out
end
end Go.Proofs.YtpkkejdjhnmjiaaGreat
namespace Go.Proofs.YtpkkejdjhnmjiaaGreat
open Go.RowKit Bm
section
variable {k : Nat} {m : FlashM}
theorem puts_put (h : FlashOk k m) (c : Calm m) (t a : Int) (v : BitVec 32) (t0 : 0 ≤ t) (t1 : t ≤ 900000000000000) : Puts k ⟨m, t⟩ a 64#32 v (dPut ⟨m, t⟩ a v) (HWait k t (dPut ⟨m, t⟩ a v)) := by
  by_cases hr : fRefuse m a = 0
  · have e1 := (calm_first c a hr).1
    have e2 : fWrite (waitsM m 64) a v = (putM m a v, 0) := prog_second c a v hr
    have l := put_left h c a v
    refine ⟨h, fun e => ?_, fun _ e => ?_, fun _ _ => ?_⟩
    · exact absurd (by dsimp only; rw [e1]) e
    · exact absurd (by dsimp only; rw [e1]; dsimp only; rw [e2]) e
    · dsimp only
      rw [e1]
      dsimp only
      rw [e2]
      exact ⟨put_ok h c a v hr, t0, by dsimp only; omega, (put_waits h c t a v hr).symm⟩
  · have e1 := calm_far a 64#32 hr
    have e3 : dPut ⟨m, t⟩ a v = (⟨m, t⟩, fRefuse m a) := by unfold dPut; exact if_neg hr
    refine ⟨h, fun e => ?_, fun e => ?_, fun e => ?_⟩
    · dsimp only; rw [e1, e3]
    · exact absurd (by dsimp only at e; rw [e1] at e; exact e) hr
    · exact absurd (by dsimp only at e; rw [e1] at e; exact e) hr
theorem puts_erase (h : FlashOk k m) (c : Calm m) (t b : Int) (t0 : 0 ≤ t) (t1 : t ≤ 900000000000000) : Puts k ⟨m, t⟩ (b * 64) 32#32 208#32 (dErase ⟨m, t⟩ b) (HWait k t (dErase ⟨m, t⟩ b)) := by
  by_cases hr : fRefuse m (b * 64) = 0
  · have e1 := (calm_first c (b * 64) hr).2.1
    have e2 : fWrite (waitsM m 32) (b * 64) 208#32 = (erM0 m b, 0) := by
      have := erase_second c (b * 64) hr
      rw [block_of] at this
      exact this
    have l := erase_left h c b
    refine ⟨h, fun e => ?_, fun _ e => ?_, fun _ _ => ?_⟩
    · exact absurd (by dsimp only; rw [e1]) e
    · exact absurd (by dsimp only; rw [e1]; dsimp only; rw [e2]) e
    · dsimp only
      rw [e1]
      dsimp only
      rw [e2]
      exact ⟨erase_ok h c b hr, t0, by dsimp only; omega, (erase_waits h c t b hr).symm⟩
  · have e1 := calm_far (b * 64) 32#32 hr
    have e3 : dErase ⟨m, t⟩ b = (⟨m, t⟩, fRefuse m (b * 64)) := by unfold dErase; exact if_neg hr
    refine ⟨h, fun e => ?_, fun e => ?_, fun e => ?_⟩
    · dsimp only; rw [e1, e3]
    · exact absurd (by dsimp only at e; rw [e1] at e; exact e) hr
    · exact absurd (by dsimp only at e; rw [e1] at e; exact e) hr
end
section
variable {B p f q k : Nat} {K : Nat → Prop} {d : DrvM} {w w' : World}
set_option maxRecDepth 100000 in
set_option maxHeartbeats 1000000 in
theorem Dv.erase (s : Dv B p f q k K d w) (ok : DrvOk k d) (b : Int) (a0 : -1125899906842624 ≤ b) (a1 : b ≤ 1125899906842624) (t0 : 0 ≤ d.t) (t1 : d.t ≤ 100000000000000) :
    Calls Tryz.prog 71 #[.pointer (some ⟨q, 0, none⟩), .int .i64 b] w (DvOut B p f q k K (dErase d b).1 (.int .i64 (dErase d b).2) w) := by
  have P := puts_erase ok.ok ok.calm d.t b t0 (by omega)
  have F := Lib.hid (s.four P (x1 := 32) (x2 := 208) rfl rfl)
  have M := Lib.hid s.made
  have wr : IntKind.i64.wrap (b * 64) = b * 64 := by rw [IntKind.wrap_i64]; omega
  clear P s ok t0 t1
  unfold cs4 at F
  go_enter Tryz.func71, Tryz.ntmps71
  go_wp2_with (first
    | (go_at_call 47; (with_reducible refine M.out.mono ?_); rintro e w1 ⟨rfl, rfl⟩)
    | (go_at_call 65; (with_reducible refine (dwrite_any _ _ _ _ ⟨_, rfl⟩).mono ?_); rintro e w1 ⟨rfl, rfl⟩)
    | (go_at_call 64; go_loud (refine F.out.mono ?_; rintro e w2 ⟨rfl, s2, t2⟩)))
  go_ret
  exact ⟨rfl, s2, t2⟩
set_option maxRecDepth 100000 in
set_option maxHeartbeats 4000000 in
theorem Dv.program (s : Dv B p f q k K d w) (ok : DrvOk k d) (a : Int) (A : Option Addr) (n c : Nat) (xs : List (BitVec 32)) (hr : ReadsU w A n c xs) (hn : n ≤ 1000) (a0 : -1125899906842624 ≤ a) (a1 : a ≤ 1125899906842624) (t0 : 0 ≤ d.t) (t1 : d.t ≤ 100000000000000) (hA : 0 < n → ∀ g, A = some g → ¬ May B K g.block) :
    Calls Tryz.prog 70 #[.pointer (some ⟨q, 0, none⟩), .int .i64 a, .slice A n c] w (DvOut B p f q k K (dProgram d a xs).1 (.int .i64 (dProgram d a xs).2) w) := by
  have S0 := Lib.hid s
  have OK0 := Lib.hid ok
  have HR := Lib.hid hr
  have HA := Lib.hid hA
  have LX := Lib.hid hr.len
  have hle := hr.le
  have hmx := hr.max
  unfold maxLen at hmx
  clear s ok hr hA
  go_enter Tryz.func70, Tryz.ntmps70
  go_wp2_with (go_at_call 47; (with_reducible refine S0.out.made.mono ?_); rintro e w1 ⟨rfl, rfl⟩)
  go_loopw [16] (fun i wr => ∃ (j : Nat) (m : FlashM) (t : Int), j ≤ n ∧ i = .int .i64 j ∧ Dv B p f q k K ⟨m, t⟩ wr ∧ Turned (May B K) w1 wr ∧ DrvOk k ⟨m, t⟩ ∧ dProgram d a xs = dProgram ⟨m, t⟩ (a + j) (xs.drop j) ∧ 0 ≤ t ∧ t ≤ 100000000000000 + 3 * (j : Int)) (fun i _ => n - (intOf i).toNat)
  case atStart => exact ⟨0, d.f, d.t, by omega, rfl, S0.out, Turned.refl _ _, OK0.out, by simp, t0, by simpa using t1⟩
  case round =>
    clear S0 OK0 t0 t1
    obtain ⟨j, m, t, hj, rfl, s, tw, ok, hd, t0, t1⟩ := hrel
    have S := Lib.hid s
    have TW := Lib.hid tw
    have HD := Lib.hid hd
    have OK := Lib.hid ok
    clear s tw hd ok
    by_cases hlt : j < n
    · have hrw := HR.out.act TW.out (HA.out (by omega))
      obtain ⟨ad, rfl, hx⟩ := hrw.at_ hlt
      clear hrw
      have i0 : (0 : Int) ≤ (j : Int) := by omega
      have i1 : (j : Int) < (n : Int) := by omega
      have wr1 : IntKind.i64.wrap (a + (j : Int)) = a + j := by rw [IntKind.wrap_i64]; omega
      have ed : xs.drop j = wd xs j :: xs.drop (j + 1) := by
        have hl : j < xs.length := by rw [LX.out]; exact hlt
        rw [List.drop_eq_getElem_cons hl]
        unfold wd
        rw [List.getD_eq_getElem?_getD, List.getElem?_eq_getElem hl]
        rfl
      have P := puts_put OK.out.ok OK.out.calm t (a + j) (wd xs j) t0 (by omega)
      have F := Lib.hid (S.out.four P (x1 := 64) (x2 := U (wd xs j)) rfl rfl)
      unfold cs4 at F
      have HD2 := HD.out
      rw [ed, dProgram] at HD2
      have TP := put_ticks ⟨m, t⟩ (a + j) (wd xs j)
      have OKP := Lib.hid (put_calm OK.out (a + j) (wd xs j))
      obtain ⟨x, hx⟩ : ∃ x, x = dPut ⟨m, t⟩ (a + j) (wd xs j) := ⟨_, rfl⟩
      rw [← hx] at HD2 F TP OKP
      have M := Lib.hid S.out.made
      have HD3 := Lib.hid HD2
      have TP3 := Lib.hid TP
      clear P ed HD2 TP hx
      by_cases hx0 : x.2 = 0
      · have hx1 : (x.2 != 0) = false := by rw [hx0]; rfl
        have HD4 := HD3.out
        rw [if_pos hx0] at HD4
        have HD5 := Lib.hid HD4
        clear HD4
        go_wp2_with (first
          | (go_at_call 65; (with_reducible refine (dwrite_any _ _ _ _ ⟨_, rfl⟩).mono ?_); rintro e w1 ⟨rfl, rfl⟩)
          | (go_at_call 64; go_loud (refine F.out.mono ?_; rintro e w2 ⟨rfl, s2, t2⟩; have S2 := Lib.hid s2; have T2 := Lib.hid t2; clear s2 t2)))
        have TT := Lib.hid (TW.out.trans T2.out)
        have t3 := TP3.out.1
        have t4 := TP3.out.2
        have T3 : 0 ≤ x.1.t ∧ x.1.t ≤ 100000000000000 + 3 * ((j : Int) + 1) := ⟨by omega, by omega⟩
        clear t3 t4
        go_roundw
        case rel => exact ⟨j + 1, x.1.f, x.1.t, by omega, by go_num, S2.out, TT.out, OKP.out, by rw [HD5.out, show a + (j : Int) + 1 = a + ((j + 1 : Nat) : Int) by omega], T3.1, by have := T3.2; omega⟩
        case measure => simp [intOf]; omega
      · have hx1 : (x.2 != 0) = true := by simpa using hx0
        have HD4 := HD3.out
        rw [if_neg hx0] at HD4
        have HD5 := Lib.hid HD4
        clear HD4
        go_wp2_with (first
          | (go_at_call 65; (with_reducible refine (dwrite_any _ _ _ _ ⟨_, rfl⟩).mono ?_); rintro e w1 ⟨rfl, rfl⟩)
          | (go_at_call 64; go_loud (refine F.out.mono ?_; rintro e w2 ⟨rfl, s2, t2⟩; have S2 := Lib.hid s2; have T2 := Lib.hid t2; clear s2 t2)))
        go_ret
        rw [HD5.out]
        exact ⟨rfl, S2.out, TW.out.trans T2.out⟩
    · obtain rfl : j = n := by omega
      have ez : xs.drop j = [] := List.drop_eq_nil_of_le (by rw [LX.out]; omega)
      have HZ := HD.out
      rw [ez, dProgram] at HZ
      have HZ2 := Lib.hid HZ
      clear HZ ez
      go_wp2
      go_ret
      rw [HZ2.out]
      exact ⟨rfl, S.out, TW.out⟩
end
end Go.Proofs.YtpkkejdjhnmjiaaGreat
