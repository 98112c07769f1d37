/- Two drivers side by side, the program's and the document's: how a walk has them (for DriverActs). -/
import Derived.Test.YtfckgfimmoinmaaDrvAlive
import Derived.Test.YtfckgfimmoinmaaDrvRC
import Derived.Test.YtfckgfimmoinmaaDrvHeavy
namespace Go.Proofs.Ytfckgfimmoinmaa
open Go.RowKit Bm

/-- The blocks that the document's driver is made of. -/
def KX (M : Nat) (r : Rh) (i : Nat) : Prop := i = M ∨ i = r.gw ∨ i = r.ge

section
variable {B p f q k : Nat} {K : Nat → Prop} {d : DrvM} {w w' : World}
/-- A block of a type that no flash and no driver has was written. -/
theorem Dv.other (s : Dv B p f q k K d w) {b : Nat} {T : TypeId} {cs : List Value} (hA : At w b T cs) (hT : Alien T) (hD : T ≠ 73) (t : Turned (Just b) w w') : Dv B p f q k K d w' :=
  ⟨s.st.other hA hT t, s.own.kept t (fun e => hA.ne s.own hD e.symm), s.qB⟩
end

/-- Behind an act: both drivers are the same plain one. -/
structure ActedD (B p f q M : Nat) (w0 w : World) (r : Rh) (d : DrvM) (T : Int) : Prop where
  dv : Dv B p f q 3 (KX M r) d w
  own : At w M 41 (rdCells r d.f d.t)
  chip : RefAt w r d.f.chip
  ok : DrvOk 3 d
  t0 : 0 ≤ d.t
  t1 : d.t ≤ T
  below : Below B w0 w
  hM : B ≤ M
theorem alienTD : Alien 41 := ⟨by decide, by decide, by decide, by decide, by decide⟩
/-- The document's driver has answered (w3 to w4), and was stored (w4 to w5). -/
theorem ActedD.mk1 {B p f q M P : Nat} {w0 w3 w4 w5 : World} {r r' : Rh} {d' : DrvM} {cs : List Value} {T : Int} (s : Dv B p f q 3 (fun i => KX M r i ∨ i = P) d' w3) (hb : Below w3.heap.size w3 w4) (hn : RefNew w3 r r') (hc : RefAt w4 r' d'.f.chip)
    (hM : At w4 M 41 cs) (hM5 : At w5 M 41 (rdCells r' d'.f d'.t)) (t : Turned (Just M) w4 w5) (ok : DrvOk 3 d') (t0 : 0 ≤ d'.t) (t1 : d'.t ≤ T) (h0 : Below B w0 w3) (hMB : B ≤ M) : ActedD B p f q M w0 w5 r' d' T := by
  have s4 : Dv B p f q 3 (KX M r') d' w4 := s.renew hb (by
    rintro i (e | e | e)
    · rw [e]; exact ⟨.inl (.inl (.inl rfl)), hM.lt⟩
    · rw [e]
      refine ⟨?_, hc.words.lt⟩
      rcases hn.1 with h | h
      · exact .inr h
      · rw [h]; exact .inl (.inl (.inr (.inl rfl)))
    · rw [e]
      refine ⟨?_, hc.wear.lt⟩
      rcases hn.2 with h | h
      · exact .inr h
      · rw [h]; exact .inl (.inl (.inr (.inr rfl))))
  exact ⟨s4.other hM alienTD (by decide) t, hM5, hc.otherT hM (by decide) (by decide) t, ok, t0, t1, h0.trans ((hb.mono s.size).trans (t.below (fun i hi => by unfold Just at hi; omega) (by have := s.size; have := hb.size; omega))), hMB⟩
/-- Only new memory. -/
theorem ActedD.on {B p f q M : Nat} {w0 w w' : World} {r : Rh} {d : DrvM} {T : Int} (Z : ActedD B p f q M w0 w r d T) (hb : Below w.heap.size w w') : ActedD B p f q M w0 w' r d T :=
  ⟨Z.dv.below hb, Z.own.kept (Turned.of_below hb (Nat.le_refl _) NoBlock) (fun h => h), Z.chip.below hb, Z.ok, Z.t0, Z.t1, Z.below.trans (hb.mono Z.dv.size), Z.hM⟩
/-- The rows of the document's driver stand while the program's works. -/
theorem ActedD.act {B p f q M P : Nat} {w0 w w' : World} {r : Rh} {d : DrvM} {T : Int} (Z : ActedD B p f q M w0 w r d T) (t : Turned (May B (fun i => KX M r i ∨ i = P)) w w') : At w' M 41 (rdCells r d.f d.t) ∧ RefAt w' r d.f.chip :=
  ⟨Z.own.kept t (fun e => e.2 (.inl (.inl rfl))), Z.chip.kept t (fun e => e.2 (.inl (.inr (.inl rfl)))) (fun e => e.2 (.inl (.inr (.inr rfl))))⟩
end Go.Proofs.Ytfckgfimmoinmaa
