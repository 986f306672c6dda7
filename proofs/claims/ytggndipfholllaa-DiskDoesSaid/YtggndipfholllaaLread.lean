import Derived.Test.YtggndipfholllaaKn
namespace Go.Proofs.Ytggndipfholllaa
open Go.RowKit
open PlainDisk (File Disk)
set_option linter.unusedVariables false

/-- what Read answers -/
def rdB (D : Disk) (nm : List UInt8) : List UInt8 := ((PlainDisk.find D.fs nm).map (·.bytes)).getD []
def rdE (D : Disk) (nm : List UInt8) : Int := if PlainDisk.find D.fs nm = none then 10 else 0
theorem rd_some {D : Disk} {nm : List UInt8} {f : File} (h : PlainDisk.find D.fs nm = some f) : rdB D nm = f.bytes ∧ rdE D nm = 0 := by
  unfold rdB rdE; rw [h]; exact ⟨rfl, rfl⟩
theorem rd_none {D : Disk} {nm : List UInt8} (h : PlainDisk.find D.fs nm = none) : rdB D nm = [] ∧ rdE D nm = 10 := by
  unfold rdB rdE; rw [h]; exact ⟨rfl, rfl⟩
theorem OwnB.belows {w w' : World} {base : Nat} {v : Value} {l : List UInt8} (h : OwnB w base v l) (hb : Below w.heap.size w w') : OwnB w' base v l :=
  h.keep fun k hk => hb.block k (h.lt k hk).2
theorem read_all {w wi : World} {b : Nat} {D : Disk} (h : Ch w wi b D) (nm : List UInt8) (hnm : nm.length ≤ 281474976710656) :
    Calls Try.prog 15 #[.pointer (some ⟨b, 0, none⟩), .string (str nm)] wi fun e w' => ∃ A c, e = .returned (.tuple #[.slice A (rdB D nm).length c, .int .i64 (rdE D nm)]) ∧ OwnB w' wi.heap.size (.slice A (rdB D nm).length c) (rdB D nm) ∧ Below wi.heap.size wi w' := by
  refine (read_ch h nm hnm).mono ?_
  rintro e w' ⟨hb, hc⟩
  rcases hc with ⟨e1, rfl⟩ | ⟨g, v, e1, rfl, ho⟩
  · obtain ⟨q1, q2⟩ := rd_none e1
    rw [q1, q2]
    exact ⟨none, 0, rfl, ⟨rfl, .inl ⟨rfl, rfl⟩⟩, hb⟩
  · obtain ⟨q1, q2⟩ := rd_some e1
    rw [q1, q2]
    obtain ⟨A, c, rfl, _⟩ := ho.slice
    exact ⟨A, c, rfl, ho, hb⟩
/-- moving, when no write fails -/
theorem move_free {D : Disk} (h : D.gone = false ∧ D.good = -1) (a b : List UInt8) :
    (PlainDisk.move may D a b = (D, 5) ∧ (may a = false ∨ may b = false)) ∨ (PlainDisk.move may D a b = (D, 10) ∧ PlainDisk.find D.fs a = none ∧ may a = true ∧ may b = true) ∨
      ∃ f, PlainDisk.find D.fs a = some f ∧ may a = true ∧ may b = true ∧ PlainDisk.move may D a b = ({ D with fs := PlainDisk.moved D.fs f a b }, 0) := by
  unfold PlainDisk.move
  rw [h.1]
  simp only [Bool.false_eq_true, if_false]
  by_cases hm : may a = false ∨ may b = false
  · rw [if_pos hm]; exact .inl ⟨rfl, hm⟩
  · rw [if_neg hm]
    have h1 : may a = true := by cases q : may a with
      | true => rfl
      | false => exact absurd (.inl q) hm
    have h2 : may b = true := by cases q : may b with
      | true => rfl
      | false => exact absurd (.inr q) hm
    cases hf : PlainDisk.find D.fs a with
    | none => exact .inr (.inl ⟨rfl, rfl, h1, h2⟩)
    | some f => exact .inr (.inr ⟨f, rfl, h1, h2, by dsimp only; rw [PlainDisk.free_write h]; rw [h.1]⟩)

/-! ### a disk that leaves the blocks of H alone -/
def Kp (H : Nat → Prop) (w w' : World) : Prop := ∀ k, H k → w'.heap[k]? = w.heap[k]?
structure Cx (w wi : World) (b : Nat) (D : Disk) (H : Nat → Prop) : Prop where
  is : ∃ S, DiskIs wi b D S ∧ ∀ k, S k → w.heap.size ≤ k ∧ k < wi.heap.size ∧ ¬ H k
  below : Below w.heap.size w wi
  fine : Fine D
  lt : ∀ k, H k → k < wi.heap.size
section
variable {w wi : World} {b : Nat} {D : Disk} {H : Nat → Prop}
theorem Cx.ch (h : Cx w wi b D H) : Ch w wi b D := by
  obtain ⟨⟨S, h1, h2⟩, h3, h4, _⟩ := h
  exact ⟨⟨S, h1, fun k hk => ⟨(h2 k hk).1, (h2 k hk).2.1⟩⟩, h3, h4⟩
/-- what is new since it was last looked at can be held -/
theorem Ch.hold {w' : World} (h : Ch w wi b D) (hb : Below wi.heap.size wi w') : Cx w w' b D (fun k => wi.heap.size ≤ k ∧ k < w'.heap.size) := by
  obtain ⟨⟨S, h1, h2⟩, h3, h4⟩ := h
  refine ⟨⟨S, h1.at0 hb, fun k hk => ⟨(h2 k hk).1, Nat.lt_of_lt_of_le (h2 k hk).2 hb.size, fun q => ?_⟩⟩, h3.trans (hb.mono h3.size), h4, fun k hk => hk.2⟩
  have := h2 k hk
  omega
theorem Cx.hold {w' : World} (h : Cx w wi b D H) (hb : Below wi.heap.size wi w') : Cx w w' b D (fun k => H k ∨ (wi.heap.size ≤ k ∧ k < w'.heap.size)) := by
  obtain ⟨⟨S, h1, h2⟩, h3, h4, h5⟩ := h
  refine ⟨⟨S, h1.at0 hb, fun k hk => ⟨(h2 k hk).1, Nat.lt_of_lt_of_le (h2 k hk).2.1 hb.size, fun q => ?_⟩⟩, h3.trans (hb.mono h3.size), h4, fun k hk => ?_⟩
  · have := h2 k hk
    rcases q with q | q
    · exact this.2.2 q
    · omega
  · rcases hk with hk | hk
    · exact Nat.lt_of_lt_of_le (h5 k hk) hb.size
    · exact hk.2
theorem Cx.next {w' : World} (h : Cx w wi b D H) (hb : Below wi.heap.size wi w') : Cx w w' b D H := by
  obtain ⟨⟨S, h1, h2⟩, h3, h4, h5⟩ := h
  exact ⟨⟨S, h1.at0 hb, fun k hk => ⟨(h2 k hk).1, Nat.lt_of_lt_of_le (h2 k hk).2.1 hb.size, (h2 k hk).2.2⟩⟩, h3.trans (hb.mono h3.size), h4, fun k hk => Nat.lt_of_lt_of_le (h5 k hk) hb.size⟩
theorem Cx.to {w' : World} {D' : Disk} (h : Cx w wi b D H) {S : Nat → Prop} (hS : ∀ k, S k → w.heap.size ≤ k ∧ k < wi.heap.size ∧ ¬ H k) (ht : DiskTo wi w' b D' S) (hF : Fine D') : Cx w w' b D' H ∧ Kp H wi w' := by
  obtain ⟨S', q1, q2, q3⟩ := ht
  refine ⟨⟨⟨S', q1, fun k hk => ?_⟩, h.below.trans (q3.below (Nat.le_trans h.below.size (Nat.le_refl _)) (fun k hk => (hS k hk).1)), hF, fun k hk => Nat.lt_of_lt_of_le (h.lt k hk) q3.size⟩, fun k hk => q3.block k (h.lt k hk) fun q => (hS k q).2.2 hk⟩
  rcases q2 k hk with q | q
  · exact ⟨(hS k q).1, Nat.lt_of_lt_of_le (hS k q).2.1 q3.size, (hS k q).2.2⟩
  · exact ⟨Nat.le_trans h.below.size q.1, q.2, fun r => by have := h.lt k r; omega⟩
theorem act_cx (h : Cx w wi b D H) (x : PlainDisk.Act) (vb vl : Value) (F : Nat → Prop) (hx : Okay x) (hvb : Src wi vb x.b b) (hvl : LAt wi vl x.l F) (hFS : ∀ k, F k → k < w.heap.size) :
    Calls Try.prog 13 #[.pointer (some ⟨b, 0, none⟩), actV x vb vl] wi fun e w' => e = .returned (.int .i64 (PlainDisk.step may D x).2) ∧ Cx w w' b (PlainDisk.step may D x).1 H ∧ Kp H wi w' := by
  obtain ⟨S, h1, h2⟩ := h.is
  refine (real_act b x vb vl F D S wi h1 h.fine hx hvb hvl fun k hk => ⟨Nat.lt_of_lt_of_le (hFS k hk) h.below.size, fun q => by have := (h2 k q).1; have := hFS k hk; omega⟩).mono ?_
  rintro e w' ⟨rfl, ht⟩
  exact ⟨rfl, h.to h2 ht (fine_step h.fine hx.n1)⟩
theorem move_cx (h : Cx w wi b D H) (nm to : List UInt8) (hnm : nm.length ≤ 281474976710656) (hto : to.length ≤ 281474976710656) :
    Calls Try.prog 29 #[.pointer (some ⟨b, 0, none⟩), .string (str nm), .string (str to)] wi fun e w' => e = .returned (.int .i64 (PlainDisk.move may D nm to).2) ∧ Cx w w' b (PlainDisk.move may D nm to).1 H ∧ Kp H wi w' := by
  obtain ⟨S, h1, h2⟩ := h.is
  refine (move_act b nm to D S wi h1 h.fine hnm hto).mono ?_
  rintro e w' ⟨rfl, ht⟩
  have hf := fine_step h.fine (x := ⟨3, nm, to, [], 0, []⟩) (show (0 : Int) ≤ 9223372036854775807 by decide)
  exact ⟨rfl, h.to h2 ht hf⟩
theorem arm_cx (h : Cx w wi b D H) (n : Int) (n0 : -9223372036854775808 ≤ n) (n1 : n ≤ 9223372036854775807) :
    Calls Try.prog 24 #[.pointer (some ⟨b, 0, none⟩), .int .i64 n] wi fun e w' => e = .returned (.tuple #[]) ∧ Cx w w' b (PlainDisk.arm D n) H ∧ Kp H wi w' := by
  obtain ⟨S, h1, h2⟩ := h.is
  refine (arm_any b n D S wi h1 n0 n1).mono ?_
  rintro e w' ⟨rfl, ht⟩
  have hf := fine_step h.fine (x := ⟨5, [], [], [], n, []⟩) n1
  exact ⟨rfl, h.to h2 ht hf⟩
theorem crash_cx (h : Cx w wi b D H) (l : List PlainDisk.Left) (vl : Value) (F : Nat → Prop) (hvl : LAt wi vl l F) (hF : ∀ k, F k → k < w.heap.size) :
    Calls Try.prog 30 #[.pointer (some ⟨b, 0, none⟩), vl] wi fun e w2 => e = .returned (.tuple #[]) ∧ Cx w w2 b (PlainDisk.crash D l) H ∧ Kp H wi w2 := by
  obtain ⟨S, h1, h2⟩ := h.is
  refine (crash_act b l vl F D S wi h1 h.fine hvl fun k hk => ⟨Nat.lt_of_lt_of_le (hF k hk) h.below.size, fun q => by have := (h2 k q).1; have := hF k hk; omega⟩).mono ?_
  rintro e w2 ⟨rfl, ht⟩
  have hf := fine_step h.fine (x := ⟨6, [], [], [], 0, l⟩) (show (0 : Int) ≤ 9223372036854775807 by decide)
  exact ⟨rfl, h.to h2 ht hf⟩
theorem One.actx {A : Option Addr} {i : Nat} {x : PlainDisk.Act} {k off : Nat} {Ab : Option Addr} {cb : Nat} {Al : Option Addr} {cl : Nat} (o : One w wi A i x k off Ab cb Al cl) (h : Cx w wi b D H) :
    Calls Try.prog 13 #[.pointer (some ⟨b, 0, none⟩), .agg #[.int .i64 x.kind, .string (str x.a), .string (str x.to), .slice Ab x.b.length cb, .int .i64 x.n, .slice Al x.l.length cl]] wi fun e w' => e = .returned (.int .i64 (PlainDisk.step may D x).2) ∧ Cx w w' b (PlainDisk.step may D x).1 H ∧ Kp H wi w' :=
  act_cx h x _ _ _ o.ok (o.b.src h.ch.ge) o.l (fun k hk => hk)
end
theorem One.next {W w w' : World} {A : Option Addr} {i : Nat} {x : PlainDisk.Act} {k off : Nat} {Ab : Option Addr} {cb : Nat} {Al : Option Addr} {cl : Nat} (o : One W w A i x k off Ab cb Al cl) (hW : W.heap.size ≤ w.heap.size) (hb : Below w.heap.size w w') : One W w' A i x k off Ab cb Al cl := by
  obtain ⟨h1, h2, h3, h4, h5, h6, h7, h8, h9, h10, h11⟩ := o
  have q : ∀ o v, w.cell? ⟨k, o, none⟩ = some v → w'.cell? ⟨k, o, none⟩ = some v := fun o v e => (World.cell?_of_block (w := w) (hb.block k (by omega))).trans e
  exact ⟨h1, h2, q _ _ h3, q _ _ h4, q _ _ h5, q _ _ h6, q _ _ h7, q _ _ h8, h9, h10.keep fun j hj => hb.block j (by omega), h11.keep fun j hj => hb.block j (by omega)⟩
theorem One.up {W w w' : World} {A : Option Addr} {i : Nat} {x : PlainDisk.Act} {k off : Nat} {Ab : Option Addr} {cb : Nat} {Al : Option Addr} {cl : Nat} (o : One W w A i x k off Ab cb Al cl) (h1 : Below W.heap.size W w) (h2 : Below W.heap.size W w') : One W w' A i x k off Ab cb Al cl := by
  have hb : ∀ j, j < W.heap.size → w'.heap[j]? = w.heap[j]? := fun j hj => (h2.block j hj).trans (h1.block j hj).symm
  obtain ⟨h1, h2, h3, h4, h5, h6, h7, h8, h9, h10, h11⟩ := o
  have q : ∀ o v, w.cell? ⟨k, o, none⟩ = some v → w'.cell? ⟨k, o, none⟩ = some v := fun o v e => (World.cell?_of_block (w := w) (hb k h2)).trans e
  exact ⟨h1, h2, q _ _ h3, q _ _ h4, q _ _ h5, q _ _ h6, q _ _ h7, q _ _ h8, h9, h10.keep hb, h11.keep hb⟩
theorem below_alloc (w : World) (o : Obj) : Below w.heap.size w (w.alloc o) := (Below.refl _ _).alloc (Nat.le_refl _) _
/-- bytes that are held -/
def HeldB (H : Nat → Prop) (w : World) (v : Value) (l : List UInt8) : Prop := OwnB w 0 v l ∧ ∀ k, v.ownBlock = some k → H k
theorem HeldB.same {H : Nat → Prop} {w w' : World} {v : Value} {l : List UInt8} (h : HeldB H w v l) (hk : Kp H w w') : HeldB H w' v l :=
  ⟨h.1.keep fun g hg => hk g (h.2 g hg), h.2⟩
theorem HeldB.belows {H : Nat → Prop} {w w' : World} {v : Value} {l : List UInt8} (h : HeldB H w v l) (hb : Below w.heap.size w w') : HeldB H w' v l :=
  ⟨h.1.belows hb, h.2⟩
theorem HeldB.conv {H : Nat → Prop} {w : World} {v : Value} {l : List UInt8} (h : HeldB H w v l) : (convert 28 9 v).run Try.prog w = .ok (.string (str l)) w := conv_own h.1
theorem OwnB.held {H : Nat → Prop} {w : World} {base : Nat} {v : Value} {l : List UInt8} (h : OwnB w base v l) (hH : ∀ k, base ≤ k → k < w.heap.size → H k) : HeldB H w v l :=
  ⟨h.zero, fun k hk => hH k (h.lt k hk).1 (h.lt k hk).2⟩

theorem append_gone {D : Disk} (h : D.gone = true) (a b : List UInt8) : PlainDisk.append may D a b = (D, 41) := by unfold PlainDisk.append; rw [if_pos h]
theorem sync_gone {D : Disk} (h : D.gone = true) (a : List UInt8) : PlainDisk.sync may D a = (D, 41) := by unfold PlainDisk.sync; rw [if_pos h]
theorem drop_gone {D : Disk} (h : D.gone = true) (a : List UInt8) : PlainDisk.dropA may D a = (D, 41) := by unfold PlainDisk.dropA; rw [if_pos h]
theorem Ch.lt {w wi : World} {b : Nat} {D : Disk} (h : Ch w wi b D) : b < wi.heap.size := by
  obtain ⟨⟨S, h1, h2⟩, _, _⟩ := h
  exact (h2 b h1.mine).2
/-! ### two disks side by side -/
def Two (w wi : World) (b1 : Nat) (D1 : Disk) (b2 : Nat) (D2 : Disk) : Prop :=
  ∃ S2, Cx w wi b1 D1 S2 ∧ DiskIs wi b2 D2 S2 ∧ (∀ k, S2 k → w.heap.size ≤ k) ∧ Fine D2
section
variable {w wi : World} {b1 b2 : Nat} {D1 D2 : Disk}
theorem Two.ch (h : Two w wi b1 D1 b2 D2) : Ch w wi b1 D1 := by obtain ⟨S2, h1, _⟩ := h; exact h1.ch
theorem Two.swap (h : Two w wi b1 D1 b2 D2) : Two w wi b2 D2 b1 D1 := by
  obtain ⟨S2, ⟨⟨S1, q1, q2⟩, q3, q4, q5⟩, h2, h3, h4⟩ := h
  exact ⟨S1, ⟨⟨S2, h2, fun k hk => ⟨h3 k hk, q5 k hk, fun q => (q2 k q).2.2 hk⟩⟩, q3, h4, fun k hk => (q2 k hk).2.1⟩, q1, fun k hk => (q2 k hk).1, q4⟩
theorem Two.below (h : Two w wi b1 D1 b2 D2) : Below w.heap.size w wi := h.ch.below
theorem Two.next {w' : World} (h : Two w wi b1 D1 b2 D2) (hb : Below wi.heap.size wi w') : Two w w' b1 D1 b2 D2 := by
  obtain ⟨S2, h1, h2, h3, h4⟩ := h
  exact ⟨S2, h1.next hb, h2.at0 hb, h3, h4⟩
theorem Two.mk {w' : World} (h1 : Ch w wi b1 D1) (h2 : Ch wi w' b2 D2) : Two w w' b1 D1 b2 D2 := by
  obtain ⟨⟨S1, q1, q2⟩, q3, q4⟩ := h1
  obtain ⟨⟨S2, p1, p2⟩, p3, p4⟩ := h2
  have z := q3.size
  exact ⟨S2, ⟨⟨S1, q1.at0 p3, fun k hk => ⟨(q2 k hk).1, Nat.lt_of_lt_of_le (q2 k hk).2 p3.size, fun q => by have := q2 k hk; have := p2 k q; omega⟩⟩, q3.trans (p3.mono z), q4, fun k hk => (p2 k hk).2⟩, p1, fun k hk => Nat.le_trans z (p2 k hk).1, p4⟩
/-- what is done to the first leaves the second -/
theorem Two.to {f : Nat} {args : Array Value} {D1' : Disk} {v : Value} (h : Two w wi b1 D1 b2 D2) (hc : ∀ H, Cx w wi b1 D1 H → Calls Try.prog f args wi fun e w' => e = .returned v ∧ Cx w w' b1 D1' H ∧ Kp H wi w') :
    Calls Try.prog f args wi fun e w' => e = .returned v ∧ Two w w' b1 D1' b2 D2 := by
  obtain ⟨S2, h1, h2, h3, h4⟩ := h
  refine (hc S2 h1).mono ?_
  rintro e w' ⟨rfl, q1, q2⟩
  exact ⟨rfl, S2, q1, h2.frame fun k x hx hS => (q2 k hS).trans hx, h3, h4⟩
end
end Go.Proofs.Ytggndipfholllaa
