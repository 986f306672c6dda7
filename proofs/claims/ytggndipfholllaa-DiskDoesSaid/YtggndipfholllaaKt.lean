import Derived.Test.YtggndipfholllaaKs
namespace Go.Proofs.Ytggndipfholllaa
open Go.RowKit
open PlainDisk (File Disk Left)
set_option linter.unusedVariables false

/-! ### the program's disk and the reference's, side by side; K: blocks that are held besides -/
theorem Cx.less {w wi : World} {b : Nat} {D : Disk} {H H' : Nat → Prop} (h : Cx w wi b D H) (hH : ∀ k, H' k → H k) : Cx w wi b D H' := by
  obtain ⟨⟨S, h1, h2⟩, h3, h4, h5⟩ := h
  exact ⟨⟨S, h1, fun k hk => ⟨(h2 k hk).1, (h2 k hk).2.1, fun q => (h2 k hk).2.2 (hH k q)⟩⟩, h3, h4, fun k hk => h5 k (hH k hk)⟩
def Duo (w wi : World) (b1 : Nat) (D1 : Disk) (b2 : Nat) (D2 : Disk) (K : Nat → Prop) : Prop :=
  ∃ S2, Cx w wi b1 D1 (fun k => S2 k ∨ K k) ∧ RefIs wi b2 D2 S2 ∧ (∀ k, S2 k → w.heap.size ≤ k ∧ ¬ K k) ∧ Fine D2
section
variable {w wi : World} {b1 b2 : Nat} {D1 D2 : Disk} {K : Nat → Prop}
theorem Duo.ch (h : Duo w wi b1 D1 b2 D2 K) : Ch w wi b1 D1 := by obtain ⟨S2, h1, _⟩ := h; exact h1.ch
theorem Duo.below (h : Duo w wi b1 D1 b2 D2 K) : Below w.heap.size w wi := h.ch.below
theorem Duo.ref (h : Duo w wi b1 D1 b2 D2 K) : ∃ S2, RefIs wi b2 D2 S2 := by obtain ⟨S2, _, h2, _⟩ := h; exact ⟨S2, h2⟩
theorem Duo.fine (h : Duo w wi b1 D1 b2 D2 K) : Fine D2 := by obtain ⟨S2, _, _, _, h4⟩ := h; exact h4
theorem Duo.next {w' : World} (h : Duo w wi b1 D1 b2 D2 K) (hb : Below wi.heap.size wi w') : Duo w w' b1 D1 b2 D2 K := by
  obtain ⟨S2, h1, h2, h3, h4⟩ := h
  exact ⟨S2, h1.next hb, h2.at0 hb, h3, h4⟩
theorem Duo.hold {w' : World} (h : Duo w wi b1 D1 b2 D2 K) (hb : Below wi.heap.size wi w') : Duo w w' b1 D1 b2 D2 (fun k => K k ∨ (wi.heap.size ≤ k ∧ k < w'.heap.size)) := by
  obtain ⟨S2, h1, h2, h3, h4⟩ := h
  refine ⟨S2, (h1.hold hb).less fun k hk => ?_, h2.at0 hb, fun k hk => ⟨(h3 k hk).1, fun q => ?_⟩, h4⟩
  · rcases hk with q | q | q
    · exact .inl (.inl q)
    · exact .inl (.inr q)
    · exact .inr q
  · rcases q with q | q
    · exact (h3 k hk).2 q
    · have := h1.lt k (.inl hk); omega
theorem Duo.free (h : Duo w wi b1 D1 b2 D2 K) : Duo w wi b1 D1 b2 D2 (fun _ => False) := by
  obtain ⟨S2, h1, h2, h3, h4⟩ := h
  exact ⟨S2, h1.less fun k hk => hk.elim .inl (fun q => q.elim), h2, fun k hk => ⟨(h3 k hk).1, fun q => q⟩, h4⟩
theorem Duo.real {f : Nat} {args : Array Value} {v : Value} {D1' : Disk} (h : Duo w wi b1 D1 b2 D2 K) (hc : ∀ H, Cx w wi b1 D1 H → Calls Try.prog f args wi fun e w' => e = .returned v ∧ Cx w w' b1 D1' H ∧ Kp H wi w') :
    Calls Try.prog f args wi fun e w' => e = .returned v ∧ Duo w w' b1 D1' b2 D2 K ∧ Kp K wi w' := by
  obtain ⟨S2, h1, h2, h3, h4⟩ := h
  refine (hc _ h1).mono ?_
  rintro e w' ⟨rfl, q1, q2⟩
  exact ⟨rfl, ⟨S2, q1, h2.frame fun k x hx hS => (q2 k (.inl hS)).trans hx, h3, h4⟩, fun k hk => q2 k (.inr hk)⟩
theorem Duo.plain {f : Nat} {args : Array Value} {v : Value} {D2' : Disk} (h : Duo w wi b1 D1 b2 D2 K) (hF : Fine D2') (hc : ∀ S2, RefIs wi b2 D2 S2 → (∀ k, S2 k → w.heap.size ≤ k ∧ k < wi.heap.size) → Calls Try.prog f args wi fun e w' => e = .returned v ∧ RefTo wi w' b2 D2' S2) :
    Calls Try.prog f args wi fun e w' => e = .returned v ∧ Duo w w' b1 D1 b2 D2' K ∧ Kp K wi w' := by
  obtain ⟨S2, h1, h2, h3, h4⟩ := h
  refine (hc S2 h2 fun k hk => ⟨(h3 k hk).1, h1.lt k (.inl hk)⟩).mono ?_
  rintro e w' ⟨rfl, S3, q1, q2, q3⟩
  have hk : Kp K wi w' := fun k hk => q3.block k (h1.lt k (.inr hk)) fun q => (h3 k q).2 hk
  obtain ⟨⟨S1, p1, p2⟩, p3, p4, p5⟩ := h1
  refine ⟨rfl, ⟨S3, ⟨⟨S1, p1.frame fun k x hx hS => ?_, fun k hS => ⟨(p2 k hS).1, Nat.lt_of_lt_of_le (p2 k hS).2.1 q3.size, fun q => ?_⟩⟩, p3.trans (q3.below p3.size fun k hS => (h3 k hS).1), p4, fun k hk => ?_⟩, q1, fun k hS => ?_, hF⟩, hk⟩
  · exact (q3.block k (p2 k hS).2.1 fun q => (p2 k hS).2.2 (.inl q)).trans hx
  · rcases q with q | q
    · rcases q2 k q with q | q
      · exact (p2 k hS).2.2 (.inl q)
      · have := (p2 k hS).2.1; omega
    · exact (p2 k hS).2.2 (.inr q)
  · rcases hk with q | q
    · rcases q2 k q with q | q
      · exact Nat.lt_of_lt_of_le (p5 k (.inl q)) q3.size
      · exact q.2
    · exact Nat.lt_of_lt_of_le (p5 k (.inr q)) q3.size
  · rcases q2 k hS with q | q
    · exact h3 k q
    · exact ⟨Nat.le_trans p3.size q.1, fun r => by have := p5 k (.inr r); omega⟩
theorem Duo.start {w' : World} {D : Disk} (h : Ch w wi b1 D1) (h2 : RefIs w' wi.heap.size D (fun k => k = wi.heap.size)) (hF : Fine D) (hb : Below wi.heap.size wi w') (hlt : wi.heap.size < w'.heap.size) : Duo w w' b1 D1 wi.heap.size D (fun _ => False) := by
  obtain ⟨⟨S1, q1, q2⟩, q3, q4⟩ := h
  refine ⟨_, ⟨⟨S1, q1.at0 hb, fun k hk => ⟨(q2 k hk).1, Nat.lt_of_lt_of_le (q2 k hk).2 hb.size, fun q => ?_⟩⟩, q3.trans (hb.mono q3.size), q4, fun k hk => ?_⟩, h2, fun k hk => ⟨by rw [hk]; exact q3.size, fun q => q⟩, hF⟩
  · rcases q with q | q
    · have := (q2 k hk).2; omega
    · exact q
  · rcases hk with q | q
    · omega
    · exact q.elim
end

/-! ### what the reference tells -/
theorem refread_all {w : World} {b : Nat} {D : Disk} {S : Nat → Prop} (h : RefIs w b D S) (hF : Fine D) (nm : List UInt8) :
    Calls Try.prog 16 #[.pointer (some ⟨b, 0, none⟩), .string (str nm)] w fun e w' => ∃ A c, e = .returned (.tuple #[.slice A (rdB D nm).length c, .int .i64 (rdE D nm)]) ∧ OwnB w' w.heap.size (.slice A (rdB D nm).length c) (rdB D nm) ∧ Below w.heap.size w w' := by
  obtain ⟨Lv, ps, hb, hS, hfs, hr⟩ := h
  have hu : ∀ p ∈ ps, p.1.bytes.length ≤ 1048576 := fun p hp => by
    have hm : p.1 ∈ D.fs := by rw [hfs]; exact List.mem_map_of_mem hp
    have q1 := PlainDisk.used_drop hF.inv.sorted (PlainDisk.find_of_mem hF.inv.sorted hm)
    have q2 := hF.inv.room
    have q3 := hF.room
    omega
  refine (refRead_any b nm Lv ps _ _ _ S w hb hr hu).mono ?_
  rintro e w' ⟨hbl, hc⟩
  rcases place_find (nm := nm) (ps := ps) with ⟨h1, h2⟩ | ⟨i, p, h1, h2, h3, h4⟩
  · rw [← hfs] at h2
    obtain ⟨q1, q2⟩ := rd_none h2
    rw [q1, q2]
    rcases hc with ⟨_, rfl⟩ | ⟨i, p, v, e1, _⟩
    · exact ⟨none, 0, rfl, ⟨rfl, .inl ⟨rfl, rfl⟩⟩, hbl⟩
    · rw [h1] at e1; omega
  · rw [← hfs] at h4
    obtain ⟨q1, q2⟩ := rd_some h4
    rw [q1, q2]
    rcases hc with ⟨e1, _⟩ | ⟨i', p', v, e1, e2, rfl, ho⟩
    · rw [h1] at e1; omega
    · rw [h1] at e1
      have : i = i' := by omega
      subst this
      rw [h2] at e2
      cases e2
      obtain ⟨A, c, rfl, _⟩ := ho.slice
      exact ⟨A, c, rfl, ho, hbl⟩
theorem refsure_is {w : World} {b : Nat} {D : Disk} {S : Nat → Prop} (h : RefIs w b D S) (nm : List UInt8) :
    Calls Try.prog 18 #[.pointer (some ⟨b, 0, none⟩), .string (str nm)] w fun e w' => e = .returned (.int .i64 (sureOf D nm : Nat)) ∧ w = w' := refSure_any b nm D S w h
theorem refused_is {w : World} {b : Nat} {D : Disk} {S : Nat → Prop} (h : RefIs w b D S) (hF : Fine D) :
    Calls Try.prog 44 #[.pointer (some ⟨b, 0, none⟩)] w fun e w' => e = .returned (.int .i64 (PlainDisk.used D.fs : Nat)) ∧ w = w' := by
  obtain ⟨Lv, ps, hb, hS, hfs, hr⟩ := h
  have q2 := hF.inv.room
  have q3 := hF.room
  rw [hfs] at q2 ⊢
  exact refUsed_any b Lv ps _ _ _ S w hb hr (by omega)
theorem RefIs.cell2 {w : World} {b : Nat} {D : Disk} {S : Nat → Prop} (h : RefIs w b D S) : w.cell? ⟨b, 2, none⟩ = some (.bool D.gone) ∧ b < w.heap.size := by
  obtain ⟨Lv, ps, hb, hS, hfs, hr⟩ := h
  exact ⟨by rw [Lib.cell_of_heap hb]; rfl, (Array.getElem?_eq_some_iff.1 hb).1⟩
/-- `string(x)` of bytes that lie somewhere -/
theorem plain_cx {w wi : World} {b1 b2 : Nat} {D1 D2 : Disk} {K : Nat → Prop} (h : Duo w wi b1 D1 b2 D2 K) (x : PlainDisk.Act) (vb vl : Value) (hx : Okay x) (hvb : Src wi vb x.b b2) (hvl : LAt wi vl x.l (fun k => k < w.heap.size)) :
    Calls Try.prog 14 #[.pointer (some ⟨b2, 0, none⟩), actV x vb vl] wi fun e w' => e = .returned (.int .i64 (PlainDisk.step may D2 x).2) ∧ Duo w w' b1 D1 b2 (PlainDisk.step may D2 x).1 K ∧ Kp K wi w' :=
  h.plain (fine_step h.fine hx.n1) fun S2 hS hlt => plain_act b2 x vb vl _ D2 S2 wi hS h.fine hx hvb hvl (fun k hk => ⟨Nat.lt_of_lt_of_le hk h.below.size, fun q => by have := (hlt k q).1; omega⟩) fun k hk => (hlt k hk).2
theorem real_cx {w wi : World} {b1 b2 : Nat} {D1 D2 : Disk} {K : Nat → Prop} (h : Duo w wi b1 D1 b2 D2 K) (x : PlainDisk.Act) (vb vl : Value) (hx : Okay x) (hvb : Src wi vb x.b b1) (hvl : LAt wi vl x.l (fun k => k < w.heap.size)) :
    Calls Try.prog 13 #[.pointer (some ⟨b1, 0, none⟩), actV x vb vl] wi fun e w' => e = .returned (.int .i64 (PlainDisk.step may D1 x).2) ∧ Duo w w' b1 (PlainDisk.step may D1 x).1 b2 D2 K ∧ Kp K wi w' :=
  h.real fun H hH => act_cx hH x vb vl _ hx hvb hvl fun k hk => hk
end Go.Proofs.Ytggndipfholllaa
