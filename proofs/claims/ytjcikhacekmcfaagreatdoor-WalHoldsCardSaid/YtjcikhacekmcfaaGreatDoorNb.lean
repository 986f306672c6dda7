import Derived.Test.YtjcikhacekmcfaaGreatDoorNc
import Derived.Deep.RegionHeld3
import Derived.Lib.SlBytesConst
import Derived.ProofKit
import Derived.ChangeOld
import Derived.Deep.Slices
import Derived.OpenShut
import Derived.SizedLaws
import Derived.LoopTactic
namespace Go.Proofs.YtjcikhacekmcfaaGreatDoor
set_option maxRecDepth 20000
open Go.RowKit
open PlainDisk (File Disk)
set_option linter.unusedVariables false

def RetBelow (v : Value) (w : World) (e : Ending) (w' : World) : Prop := e = .returned v ∧ Below w.heap.size w w'
/-- bytes that the call has built in a block of their own -/
theorem src_new (w : World) (bs : List UInt8) (cs : Array Value) (fz : Nat × Nat) (b : Nat) (hcs : cs = (vB bs).toArray) (hb : b < w.heap.size) (hl : bs.length ≤ 1000) : Src (w.alloc (.cells cs 5 fz)) (.slice (some ⟨w.heap.size, 0, none⟩) bs.length bs.length) bs b := by
  refine ⟨_, _, rfl, Nat.le_refl _, by omega, fun q => (by cases q), fun _ => ⟨w.heap.size, 0, rfl, by omega, fun j u hu => ?_⟩⟩
  rw [Lib.cell_of_heap (heap_alloc_new w _), hcs, Nat.zero_add]
  simp [vB, hu]
/-- bytes that stand in memory, made a text -/
theorem conv_lies {w : World} {A : Option Addr} {c : Nat} {bs : List UInt8} (h : Lies w A c bs) : (convert 60 9 (.slice A bs.length c)).run Tryz.prog w = .ok (.string (str bs)) w := by
  cases A with
  | none =>
    have : bs = [] := by
      cases bs with
      | nil => rfl
      | cons x r => obtain ⟨b, off, h1, _⟩ := h.2 (by simp); cases h1
    subst this
    show (convert 60 9 (.slice none 0 c)).run Tryz.prog w = _
    rw [run_convert_bytes_string w 60 9 5 none 0 c Tryz.underlying60 Tryz.underlying5 Tryz.underlying9]
    simp [Conv.bytesToString]
    rfl
  | some ad =>
    refine run_convert_bytes_back w 60 9 5 ad c bs Tryz.underlying60 Tryz.underlying5 Tryz.underlying9 fun j hj => ?_
    obtain ⟨b, off, h1, h3⟩ := h.2 (fun e => by rw [e] at hj; simp at hj)
    injection h1 with h1
    subst h1
    have := h3 j _ (List.getElem?_eq_getElem hj)
    unfold Addr.add
    split
    · subst j; simpa using this
    · exact this
theorem conv_own {w : World} {base : Nat} {v : Value} {l : List UInt8} (h : OwnB w base v l) : (convert 60 9 v).run Tryz.prog w = .ok (.string (str l)) w := by
  obtain ⟨A, c, rfl, _, _, hL⟩ := h.slice
  exact conv_lies hL

/-! ### the calls whose answers the document fixes -/
section
variable {w W : World} {b : Nat} {vb : Value}
end
end Go.Proofs.YtjcikhacekmcfaaGreatDoor
namespace Go.Proofs.YtjcikhacekmcfaaGreatDoor
set_option maxRecDepth 20000
open Go.ChangeShapes Go.WideShapes Go.ChangeAt Go.RowKit Go.Deep
set_option linter.unusedVariables false

theorem cells62 : Tryz.prog.cellsOf 65 = 2 := by kernel_rfl
theorem cells3 : Tryz.prog.cellsOf 3 = 1 := by kernel_rfl
theorem cells4 : Tryz.prog.cellsOf 4 = 1 := by kernel_rfl
theorem cells5 : Tryz.prog.cellsOf 5 = 1 := by kernel_rfl
theorem cells9 : Tryz.prog.cellsOf 9 = 1 := by kernel_rfl
theorem cells28 : Tryz.prog.cellsOf 60 = 1 := by kernel_rfl
theorem cells29 : Tryz.prog.cellsOf 38 = 1 := by kernel_rfl
theorem wf64 {n : Int} (h : (Lit.int .i64 n).wf = true) : -9223372036854775808 ≤ n ∧ n ≤ 9223372036854775807 := by
  simp only [Lit.wf, Bool.and_eq_true, decide_eq_true_eq] at h
  have e1 : IntKind.i64.min = -9223372036854775808 := by decide
  have e2 : IntKind.i64.max = 9223372036854775807 := by decide
  rw [e1, e2] at h
  exact h
theorem wf8 {n : Int} (h : (Lit.int .u8 n).wf = true) : 0 ≤ n ∧ n ≤ 255 := by
  simp only [Lit.wf, Bool.and_eq_true, decide_eq_true_eq] at h
  have e1 : IntKind.u8.min = 0 := by decide
  have e2 : IntKind.u8.max = 255 := by decide
  rw [e1, e2] at h
  exact h
/-- bytes that came in, in blocks below B -/
def ByteV (w : World) (v : Value) (bs : List UInt8) (B : Nat) : Prop :=
  ∃ A c, v = .slice A bs.length c ∧ bs.length ≤ c ∧ c ≤ 9223372036854775807 ∧ (A = none → c = 0) ∧
    (bs ≠ [] → ∃ k off, A = some ⟨k, off, none⟩ ∧ k < B ∧ ∀ j u, bs[j]? = some u → w.cell? ⟨k, off + j, none⟩ = some (.int .u8 (u.toNat : Int)))
theorem ByteV.src {w : World} {v : Value} {bs : List UInt8} {B b : Nat} (h : ByteV w v bs B) (hb : B ≤ b) : Src w v bs b := by
  obtain ⟨A, c, h1, h2, h3, h4, h5⟩ := h
  refine ⟨A, c, h1, h2, h3, h4, fun hne => ?_⟩
  obtain ⟨k, off, e1, e2, e3⟩ := h5 hne
  exact ⟨k, off, e1, by omega, e3⟩
theorem ByteV.keep {w w' : World} {v : Value} {bs : List UInt8} {B : Nat} (h : ByteV w v bs B) (hk : ∀ k, k < B → w'.heap[k]? = w.heap[k]?) : ByteV w' v bs B := by
  obtain ⟨A, c, h1, h2, h3, h4, h5⟩ := h
  refine ⟨A, c, h1, h2, h3, h4, fun hne => ?_⟩
  obtain ⟨k, off, e1, e2, e3⟩ := h5 hne
  exact ⟨k, off, e1, e2, fun j u hu => (World.cell?_of_block (w := w) (hk k e2)).trans (e3 j u hu)⟩
section
variable {H : Type} {enc : TypeId × Value → H} {W : World}
theorem addr_add (b off q : Nat) : (⟨b, off, none⟩ : Addr).add q = ⟨b, off + q, none⟩ := by
  unfold Addr.add
  split
  · subst q; rfl
  · rfl
/-- a slice of bytes -/
theorem open_bytes {fuel : Nat} {v : Value} {y : DataW H × List MemPlace} (h : DataW.trod enc Tryz.prog W 0 (fun _ => true) true fuel 60 [v] = some y) : ∃ bs, ByteV W v bs W.heap.size := by
  rcases open_ints Tryz.underlying60 Tryz.underlying5 cells5 h with ⟨hcs, hx⟩ | ⟨a, len, cap, zs, hcs, _, hl, hm, hz, hx, hcell, hwz⟩
  · simp only [List.cons.injEq, and_true] at hcs
    exact ⟨[], none, 0, hcs, by simp, by omega, fun _ => rfl, fun q => absurd rfl q⟩
  · simp only [List.cons.injEq, and_true] at hcs
    simp only [if_true] at hz
    have hlen : ((zs.take len).map fun z => UInt8.ofNat z.toNat).length = len := by rw [List.length_map, List.length_take]; omega
    refine ⟨(zs.take len).map fun z => UInt8.ofNat z.toNat, some a, cap, by rw [hlen]; exact hcs, by rw [hlen]; exact hl, by simp only [maxLen] at hm; omega, fun q => (by cases q), fun hne => ?_⟩
    have hl0 : 0 < len := by
      rcases Nat.eq_zero_or_pos len with q | q
      · subst q; simp at hne
      · exact q
    have c0 := hcell 0 (by omega)
    obtain ⟨b, off, spot⟩ := a
    have hspot : spot = none := by simpa [Addr.add] using World.cell?_spot c0
    subst hspot
    refine ⟨b, off, rfl, by have := World.block_lt_of_cell? W _ c0; rw [addr_add] at this; exact this, fun j u hu => ?_⟩
    simp only [List.getElem?_map, List.getElem?_take, Option.map_eq_some_iff] at hu
    obtain ⟨z, hz1, rfl⟩ := hu
    split at hz1
    · have hj : j < zs.length := (List.getElem?_eq_some_iff.1 hz1).1
      have hc := hcell j hj
      rw [List.getD_eq_getElem?_getD, hz1, Option.getD_some, addr_add] at hc
      have hw := wf8 (hwz z (List.mem_of_getElem? hz1))
      have hzz : ((UInt8.ofNat z.toNat).toNat : Int) = z := by
        rw [UInt8.toNat_ofNat', Nat.mod_eq_of_lt (by omega)]; omega
      rw [hzz]
      exact hc
    · cases hz1
theorem pick (f : Nat → Prop) {α : Type} (n : Nat) (p : Nat → α → Prop) (h : ∀ i, i < n → ∃ a, p i a) : ∃ l : List α, l.length = n ∧ ∀ (i : Nat) (a : α), l[i]? = some a → p i a := by
  induction n with
  | zero => exact ⟨[], rfl, fun i a q => by simp at q⟩
  | succ n ih =>
    obtain ⟨l, h1, h2⟩ := ih fun i hi => h i (by omega)
    obtain ⟨a, ha⟩ := h n (by omega)
    refine ⟨l ++ [a], by simp [h1], fun i x hx => ?_⟩
    by_cases hi : i < l.length
    · rw [List.getElem?_append_left hi] at hx
      exact h2 i x hx
    · rw [List.getElem?_append_right (by omega)] at hx
      have : i - l.length = 0 := by
        have := (List.getElem?_eq_some_iff.1 hx).1
        simp at this; omega
      rw [this] at hx
      have e : i = n := by omega
      have hx : a = x := by simpa using hx
      rw [e, ← hx]; exact ha
set_option maxRecDepth 100000 in
/-- a slice of what a crash leaves -/
theorem open_lefts {fuel : Nat} {v : Value} {y : DataW H × List MemPlace} (h : DataW.trod enc Tryz.prog W 0 (fun _ => true) true fuel 38 [v] = some y) : ∃ l, LAt W v l (fun k => k < W.heap.size) := by
  rcases open_slice Tryz.underlying38 h with ⟨hcs, hx⟩ | ⟨a, len, cap, m, n, D, Pl, hcs, _, hl, hm, hmm, hx, hi⟩
  · simp only [List.cons.injEq, and_true] at hcs
    exact ⟨[], none, 0, hcs, by simp, by omega, fun x hx => (by cases hx), fun q => absurd rfl q⟩
  · simp only [List.cons.injEq, and_true] at hcs
    simp only [if_true] at hmm
    subst hmm
    rw [cells62] at hi
    have each : ∀ i, i < len → ∃ x : PlainDisk.Left, -9223372036854775808 ≤ x.keep ∧ x.keep ≤ 9223372036854775807 ∧ W.cell? (a.add (i * 2)) = some (.int .i64 x.keep) ∧ W.cell? ((a.add (i * 2)).add 1) = some (.bool x.zero) := by
      intro i hil
      obtain ⟨cs', hc, ht⟩ := hi i (by omega)
      obtain ⟨_, hcl, hat⟩ := World.cells?_some hc
      obtain ⟨xs, n', rfl, _, hlen, hxl, hf⟩ := DataW.trod_struct Tryz.underlying65 ht
      rw [cells62] at hlen
      match cs', hlen with
      | [u0, u1], _ =>
        match xs, hxl with
        | [y0, y1], _ =>
          have g0 : DataW.trod enc Tryz.prog W 0 (fun _ => true) true n' 3 [u0] = some y0 := by have h0 : DataW.trod enc Tryz.prog W 0 (fun _ => true) true n' 3 (([u0, u1].drop 0).take (Tryz.prog.cellsOf 3)) = some y0 := hf 0 _ rfl; rw [cells3] at h0; exact h0
          have g1 : DataW.trod enc Tryz.prog W 0 (fun _ => true) true n' 4 [u1] = some y1 := by have h1 : DataW.trod enc Tryz.prog W 0 (fun _ => true) true n' 4 (([u0, u1].drop 1).take (Tryz.prog.cellsOf 4)) = some y1 := hf 1 _ rfl; rw [cells4] at h1; exact h1
          obtain ⟨k, e0, _, w0⟩ := DataW.trod_int Tryz.underlying3 g0
          obtain ⟨z, e1, _⟩ := DataW.trod_bool Tryz.underlying4 g1
          simp only [List.cons.injEq, and_true] at e0 e1
          subst e0 e1
          have c0 := hat 0 (by omega)
          have c1 := hat 1 (by omega)
          exact ⟨⟨k, z⟩, (wf64 w0).1, (wf64 w0).2, by simpa [Addr.add] using c0, by simpa using c1⟩
    obtain ⟨l, hll, hla⟩ := pick (fun _ => True) len _ each
    refine ⟨l, some a, m, by rw [hll]; exact hcs, by omega, by simp only [maxLen] at hm; omega, fun x hx => ?_, fun hne => ?_⟩
    · obtain ⟨i, hi'⟩ := List.getElem?_of_mem hx
      obtain ⟨q1, q2, _⟩ := hla i x hi'
      exact ⟨q1, q2⟩
    · obtain ⟨x0, hx0⟩ : ∃ x, l[0]? = some x := by
        cases l with
        | nil => exact absurd rfl hne
        | cons x r => exact ⟨x, rfl⟩
      have c0 := (hla 0 x0 hx0).2.2.1
      obtain ⟨b, off, spot⟩ := a
      have hspot : spot = none := by simpa [Addr.add] using World.cell?_spot c0
      subst hspot
      refine ⟨b, off, rfl, by have := World.block_lt_of_cell? W _ c0; rw [addr_add] at this; exact this, fun i x hx => ?_⟩
      obtain ⟨_, _, q3, q4⟩ := hla i x hx
      rw [addr_add] at q3 q4
      rw [addr_add] at q4
      exact ⟨q3, q4⟩
end
end Go.Proofs.YtjcikhacekmcfaaGreatDoor
namespace Go.Proofs.YtjcikhacekmcfaaGreatDoor
set_option maxRecDepth 20000
open Go.ChangeShapes Go.WideShapes Go.ChangeAt Go.RowKit Go.Deep
set_option linter.unusedVariables false
section
variable {H : Type} {enc : TypeId × Value → H} {W : World}
theorem weights_all {P : Program} {e : TypeId} {ds : List (DataW H)} {d : DataW H} (h : d ∈ ds) : ∀ n ∈ d.weights P e, n ∈ DataW.weightsAll P e ds := by
  induction ds with
  | nil => cases h
  | cons x r ih =>
    intro n hn
    rw [DataW.weightsAll, List.mem_append]
    rcases List.mem_cons.1 h with rfl | h
    · exact .inl hn
    · exact .inr (ih h n hn)
end
end Go.Proofs.YtjcikhacekmcfaaGreatDoor
namespace Go.Proofs.YtjcikhacekmcfaaGreatDoor
set_option maxRecDepth 20000
open Go.RowKit
open PlainDisk (File Disk)
set_option linter.unusedVariables false

/-- a name is short -/
theorem runes_four (n : Nat) : ∀ l : List UInt8, l.length ≤ n → l.length ≤ 4 * (Pl.runes l).length := by
  induction n with
  | zero => intro l h; omega
  | succ n ih =>
    intro l h
    by_cases hl : l = []
    · subst hl; simp
    · have hb := Pl.rune_bd l hl
      rw [Pl.runes_cons hl, List.length_cons]
      have := ih (l.drop (Pl.rune l).2.1) (by rw [List.length_drop]; omega)
      rw [List.length_drop] at this
      omega
theorem may_short {l : List UInt8} (h : may l = true) : l.length ≤ 96 := by
  have h1 := (may_iff l).1 h
  have h2 := runes_four l.length l (Nat.le_refl _)
  omega
theorem Ch.short {w wi : World} {b : Nat} {D : Disk} (h : Ch w wi b D) {f : File} (hf : f ∈ D.fs) : f.name.length ≤ 281474976710656 := by
  have := may_short (h.fine.inv.names f hf)
  omega
/-- what is known of a disk's files, at a name -/
theorem Ch.find {w wi : World} {b : Nat} {D : Disk} (h : Ch w wi b D) {f : File} (hf : f ∈ D.fs) : PlainDisk.find D.fs f.name = some f := PlainDisk.find_of_mem h.sorted hf
theorem sureOf_at {D : Disk} {nm : List UInt8} {f : File} (h : PlainDisk.find D.fs nm = some f) : sureOf D nm = f.sure := by unfold sureOf; rw [h]; rfl
theorem sureOf_none {D : Disk} {nm : List UInt8} (h : PlainDisk.find D.fs nm = none) : sureOf D nm = 0 := by unfold sureOf; rw [h]; rfl
end Go.Proofs.YtjcikhacekmcfaaGreatDoor
namespace Go.Proofs.YtjcikhacekmcfaaGreatDoor
set_option maxRecDepth 20000
open Go.RowKit
open PlainDisk (File Disk)
set_option linter.unusedVariables false

/-- what Read answers -/
def rdB (D : Disk) (nm : List UInt8) : List UInt8 := ((PlainDisk.find D.fs nm).map (·.bytes)).getD []
def rdE (D : Disk) (nm : List UInt8) : Int := if PlainDisk.find D.fs nm = none then 10 else 0
theorem rd_some {D : Disk} {nm : List UInt8} {f : File} (h : PlainDisk.find D.fs nm = some f) : rdB D nm = f.bytes ∧ rdE D nm = 0 := by
  unfold rdB rdE; rw [h]; exact ⟨rfl, rfl⟩
theorem rd_none {D : Disk} {nm : List UInt8} (h : PlainDisk.find D.fs nm = none) : rdB D nm = [] ∧ rdE D nm = 10 := by
  unfold rdB rdE; rw [h]; exact ⟨rfl, rfl⟩
theorem OwnB.belows {w w' : World} {base : Nat} {v : Value} {l : List UInt8} (h : OwnB w base v l) (hb : Below w.heap.size w w') : OwnB w' base v l :=
  h.keep fun k hk => hb.block k (h.lt k hk).2
theorem read_all {w wi : World} {b : Nat} {D : Disk} (h : Ch w wi b D) (nm : List UInt8) (hnm : nm.length ≤ 281474976710656) :
    Calls Tryz.prog 55 #[.pointer (some ⟨b, 0, none⟩), .string (str nm)] wi fun e w' => ∃ A c, e = .returned (.tuple #[.slice A (rdB D nm).length c, .int .i64 (rdE D nm)]) ∧ OwnB w' wi.heap.size (.slice A (rdB D nm).length c) (rdB D nm) ∧ Below wi.heap.size wi w' := by
  refine (read_ch h nm hnm).mono ?_
  rintro e w' ⟨hb, hc⟩
  rcases hc with ⟨e1, rfl⟩ | ⟨g, v, e1, rfl, ho⟩
  · obtain ⟨q1, q2⟩ := rd_none e1
    rw [q1, q2]
    exact ⟨none, 0, rfl, ⟨rfl, .inl ⟨rfl, rfl⟩⟩, hb⟩
  · obtain ⟨q1, q2⟩ := rd_some e1
    rw [q1, q2]
    obtain ⟨A, c, rfl, _⟩ := ho.slice
    exact ⟨A, c, rfl, ho, hb⟩
/-- moving, when no write fails -/
theorem move_free {D : Disk} (h : D.gone = false ∧ D.good = -1) (a b : List UInt8) :
    (PlainDisk.move may D a b = (D, 5) ∧ (may a = false ∨ may b = false)) ∨ (PlainDisk.move may D a b = (D, 10) ∧ PlainDisk.find D.fs a = none ∧ may a = true ∧ may b = true) ∨
      ∃ f, PlainDisk.find D.fs a = some f ∧ may a = true ∧ may b = true ∧ PlainDisk.move may D a b = ({ D with fs := PlainDisk.moved D.fs f a b }, 0) := by
  unfold PlainDisk.move
  rw [h.1]
  simp only [Bool.false_eq_true, if_false]
  by_cases hm : may a = false ∨ may b = false
  · rw [if_pos hm]; exact .inl ⟨rfl, hm⟩
  · rw [if_neg hm]
    have h1 : may a = true := by cases q : may a with
      | true => rfl
      | false => exact absurd (.inl q) hm
    have h2 : may b = true := by cases q : may b with
      | true => rfl
      | false => exact absurd (.inr q) hm
    cases hf : PlainDisk.find D.fs a with
    | none => exact .inr (.inl ⟨rfl, rfl, h1, h2⟩)
    | some f => exact .inr (.inr ⟨f, rfl, h1, h2, by dsimp only; rw [PlainDisk.free_write h]; rw [h.1]⟩)

/-! ### a disk that leaves the blocks of H alone -/
def Kp (H : Nat → Prop) (w w' : World) : Prop := ∀ k, H k → w'.heap[k]? = w.heap[k]?
structure Cx (w wi : World) (b : Nat) (D : Disk) (H : Nat → Prop) : Prop where
  is : ∃ S, DiskIs wi b D S ∧ ∀ k, S k → w.heap.size ≤ k ∧ k < wi.heap.size ∧ ¬ H k
  below : Below w.heap.size w wi
  fine : Fine D
  lt : ∀ k, H k → k < wi.heap.size
section
variable {w wi : World} {b : Nat} {D : Disk} {H : Nat → Prop}
theorem Cx.ch (h : Cx w wi b D H) : Ch w wi b D := by
  obtain ⟨⟨S, h1, h2⟩, h3, h4, _⟩ := h
  exact ⟨⟨S, h1, fun k hk => ⟨(h2 k hk).1, (h2 k hk).2.1⟩⟩, h3, h4⟩
/-- what is new since it was last looked at can be held -/
theorem Ch.hold {w' : World} (h : Ch w wi b D) (hb : Below wi.heap.size wi w') : Cx w w' b D (fun k => wi.heap.size ≤ k ∧ k < w'.heap.size) := by
  obtain ⟨⟨S, h1, h2⟩, h3, h4⟩ := h
  refine ⟨⟨S, h1.at0 hb, fun k hk => ⟨(h2 k hk).1, Nat.lt_of_lt_of_le (h2 k hk).2 hb.size, fun q => ?_⟩⟩, h3.trans (hb.mono h3.size), h4, fun k hk => hk.2⟩
  have := h2 k hk
  omega
theorem Cx.hold {w' : World} (h : Cx w wi b D H) (hb : Below wi.heap.size wi w') : Cx w w' b D (fun k => H k ∨ (wi.heap.size ≤ k ∧ k < w'.heap.size)) := by
  obtain ⟨⟨S, h1, h2⟩, h3, h4, h5⟩ := h
  refine ⟨⟨S, h1.at0 hb, fun k hk => ⟨(h2 k hk).1, Nat.lt_of_lt_of_le (h2 k hk).2.1 hb.size, fun q => ?_⟩⟩, h3.trans (hb.mono h3.size), h4, fun k hk => ?_⟩
  · have := h2 k hk
    rcases q with q | q
    · exact this.2.2 q
    · omega
  · rcases hk with hk | hk
    · exact Nat.lt_of_lt_of_le (h5 k hk) hb.size
    · exact hk.2
theorem Cx.next {w' : World} (h : Cx w wi b D H) (hb : Below wi.heap.size wi w') : Cx w w' b D H := by
  obtain ⟨⟨S, h1, h2⟩, h3, h4, h5⟩ := h
  exact ⟨⟨S, h1.at0 hb, fun k hk => ⟨(h2 k hk).1, Nat.lt_of_lt_of_le (h2 k hk).2.1 hb.size, (h2 k hk).2.2⟩⟩, h3.trans (hb.mono h3.size), h4, fun k hk => Nat.lt_of_lt_of_le (h5 k hk) hb.size⟩
theorem Cx.to {w' : World} {D' : Disk} (h : Cx w wi b D H) {S : Nat → Prop} (hS : ∀ k, S k → w.heap.size ≤ k ∧ k < wi.heap.size ∧ ¬ H k) (ht : DiskTo wi w' b D' S) (hF : Fine D') : Cx w w' b D' H ∧ Kp H wi w' := by
  obtain ⟨S', q1, q2, q3⟩ := ht
  refine ⟨⟨⟨S', q1, fun k hk => ?_⟩, h.below.trans (q3.below (Nat.le_trans h.below.size (Nat.le_refl _)) (fun k hk => (hS k hk).1)), hF, fun k hk => Nat.lt_of_lt_of_le (h.lt k hk) q3.size⟩, fun k hk => q3.block k (h.lt k hk) fun q => (hS k q).2.2 hk⟩
  rcases q2 k hk with q | q
  · exact ⟨(hS k q).1, Nat.lt_of_lt_of_le (hS k q).2.1 q3.size, (hS k q).2.2⟩
  · exact ⟨Nat.le_trans h.below.size q.1, q.2, fun r => by have := h.lt k r; omega⟩
theorem move_cx (h : Cx w wi b D H) (nm to : List UInt8) (hnm : nm.length ≤ 281474976710656) (hto : to.length ≤ 281474976710656) :
    Calls Tryz.prog 163 #[.pointer (some ⟨b, 0, none⟩), .string (str nm), .string (str to)] wi fun e w' => e = .returned (.int .i64 (PlainDisk.move may D nm to).2) ∧ Cx w w' b (PlainDisk.move may D nm to).1 H ∧ Kp H wi w' := by
  obtain ⟨S, h1, h2⟩ := h.is
  refine (move_act b nm to D S wi h1 h.fine hnm hto).mono ?_
  rintro e w' ⟨rfl, ht⟩
  have hf := fine_step h.fine (x := ⟨3, nm, to, [], 0, []⟩) (show (0 : Int) ≤ 9223372036854775807 by decide)
  exact ⟨rfl, h.to h2 ht hf⟩
theorem arm_cx (h : Cx w wi b D H) (n : Int) (n0 : -9223372036854775808 ≤ n) (n1 : n ≤ 9223372036854775807) :
    Calls Tryz.prog 18 #[.pointer (some ⟨b, 0, none⟩), .int .i64 n] wi fun e w' => e = .returned (.tuple #[]) ∧ Cx w w' b (PlainDisk.arm D n) H ∧ Kp H wi w' := by
  obtain ⟨S, h1, h2⟩ := h.is
  refine (arm_any b n D S wi h1 n0 n1).mono ?_
  rintro e w' ⟨rfl, ht⟩
  have hf := fine_step h.fine (x := ⟨5, [], [], [], n, []⟩) n1
  exact ⟨rfl, h.to h2 ht hf⟩
theorem crash_cx (h : Cx w wi b D H) (l : List PlainDisk.Left) (vl : Value) (F : Nat → Prop) (hvl : LAt wi vl l F) (hF : ∀ k, F k → k < w.heap.size) :
    Calls Tryz.prog 15 #[.pointer (some ⟨b, 0, none⟩), vl] wi fun e w2 => e = .returned (.tuple #[]) ∧ Cx w w2 b (PlainDisk.crash D l) H ∧ Kp H wi w2 := by
  obtain ⟨S, h1, h2⟩ := h.is
  refine (crash_act b l vl F D S wi h1 h.fine hvl fun k hk => ⟨Nat.lt_of_lt_of_le (hF k hk) h.below.size, fun q => by have := (h2 k q).1; have := hF k hk; omega⟩).mono ?_
  rintro e w2 ⟨rfl, ht⟩
  have hf := fine_step h.fine (x := ⟨6, [], [], [], 0, l⟩) (show (0 : Int) ≤ 9223372036854775807 by decide)
  exact ⟨rfl, h.to h2 ht hf⟩
end
theorem below_alloc (w : World) (o : Obj) : Below w.heap.size w (w.alloc o) := (Below.refl _ _).alloc (Nat.le_refl _) _
/-- bytes that are held -/
def HeldB (H : Nat → Prop) (w : World) (v : Value) (l : List UInt8) : Prop := OwnB w 0 v l ∧ ∀ k, v.ownBlock = some k → H k
theorem HeldB.same {H : Nat → Prop} {w w' : World} {v : Value} {l : List UInt8} (h : HeldB H w v l) (hk : Kp H w w') : HeldB H w' v l :=
  ⟨h.1.keep fun g hg => hk g (h.2 g hg), h.2⟩
theorem HeldB.belows {H : Nat → Prop} {w w' : World} {v : Value} {l : List UInt8} (h : HeldB H w v l) (hb : Below w.heap.size w w') : HeldB H w' v l :=
  ⟨h.1.belows hb, h.2⟩
theorem HeldB.conv {H : Nat → Prop} {w : World} {v : Value} {l : List UInt8} (h : HeldB H w v l) : (convert 60 9 v).run Tryz.prog w = .ok (.string (str l)) w := conv_own h.1
theorem OwnB.held {H : Nat → Prop} {w : World} {base : Nat} {v : Value} {l : List UInt8} (h : OwnB w base v l) (hH : ∀ k, base ≤ k → k < w.heap.size → H k) : HeldB H w v l :=
  ⟨h.zero, fun k hk => hH k (h.lt k hk).1 (h.lt k hk).2⟩

theorem append_gone {D : Disk} (h : D.gone = true) (a b : List UInt8) : PlainDisk.append may D a b = (D, 41) := by unfold PlainDisk.append; rw [if_pos h]
theorem sync_gone {D : Disk} (h : D.gone = true) (a : List UInt8) : PlainDisk.sync may D a = (D, 41) := by unfold PlainDisk.sync; rw [if_pos h]
theorem drop_gone {D : Disk} (h : D.gone = true) (a : List UInt8) : PlainDisk.dropA may D a = (D, 41) := by unfold PlainDisk.dropA; rw [if_pos h]
theorem Ch.lt {w wi : World} {b : Nat} {D : Disk} (h : Ch w wi b D) : b < wi.heap.size := by
  obtain ⟨⟨S, h1, h2⟩, _, _⟩ := h
  exact (h2 b h1.mine).2
/-! ### two disks side by side -/
def Two (w wi : World) (b1 : Nat) (D1 : Disk) (b2 : Nat) (D2 : Disk) : Prop :=
  ∃ S2, Cx w wi b1 D1 S2 ∧ DiskIs wi b2 D2 S2 ∧ (∀ k, S2 k → w.heap.size ≤ k) ∧ Fine D2
section
variable {w wi : World} {b1 b2 : Nat} {D1 D2 : Disk}
theorem Two.ch (h : Two w wi b1 D1 b2 D2) : Ch w wi b1 D1 := by obtain ⟨S2, h1, _⟩ := h; exact h1.ch
theorem Two.swap (h : Two w wi b1 D1 b2 D2) : Two w wi b2 D2 b1 D1 := by
  obtain ⟨S2, ⟨⟨S1, q1, q2⟩, q3, q4, q5⟩, h2, h3, h4⟩ := h
  exact ⟨S1, ⟨⟨S2, h2, fun k hk => ⟨h3 k hk, q5 k hk, fun q => (q2 k q).2.2 hk⟩⟩, q3, h4, fun k hk => (q2 k hk).2.1⟩, q1, fun k hk => (q2 k hk).1, q4⟩
theorem Two.below (h : Two w wi b1 D1 b2 D2) : Below w.heap.size w wi := h.ch.below
theorem Two.next {w' : World} (h : Two w wi b1 D1 b2 D2) (hb : Below wi.heap.size wi w') : Two w w' b1 D1 b2 D2 := by
  obtain ⟨S2, h1, h2, h3, h4⟩ := h
  exact ⟨S2, h1.next hb, h2.at0 hb, h3, h4⟩
theorem Two.mk {w' : World} (h1 : Ch w wi b1 D1) (h2 : Ch wi w' b2 D2) : Two w w' b1 D1 b2 D2 := by
  obtain ⟨⟨S1, q1, q2⟩, q3, q4⟩ := h1
  obtain ⟨⟨S2, p1, p2⟩, p3, p4⟩ := h2
  have z := q3.size
  exact ⟨S2, ⟨⟨S1, q1.at0 p3, fun k hk => ⟨(q2 k hk).1, Nat.lt_of_lt_of_le (q2 k hk).2 p3.size, fun q => by have := q2 k hk; have := p2 k q; omega⟩⟩, q3.trans (p3.mono z), q4, fun k hk => (p2 k hk).2⟩, p1, fun k hk => Nat.le_trans z (p2 k hk).1, p4⟩
/-- what is done to the first leaves the second -/
theorem Two.to {f : Nat} {args : Array Value} {D1' : Disk} {v : Value} (h : Two w wi b1 D1 b2 D2) (hc : ∀ H, Cx w wi b1 D1 H → Calls Tryz.prog f args wi fun e w' => e = .returned v ∧ Cx w w' b1 D1' H ∧ Kp H wi w') :
    Calls Tryz.prog f args wi fun e w' => e = .returned v ∧ Two w w' b1 D1' b2 D2 := by
  obtain ⟨S2, h1, h2, h3, h4⟩ := h
  refine (hc S2 h1).mono ?_
  rintro e w' ⟨rfl, q1, q2⟩
  exact ⟨rfl, S2, q1, h2.frame fun k x hx hS => (q2 k hS).trans hx, h3, h4⟩
end
end Go.Proofs.YtjcikhacekmcfaaGreatDoor
