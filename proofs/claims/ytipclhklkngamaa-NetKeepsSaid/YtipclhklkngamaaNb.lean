import Derived.Test.YtipclhklkngamaaNa
import Derived.Laws.CopyOwn
namespace Go.Proofs.Ytipclhklkngamaa
open Go.RowKit
set_option linter.unusedVariables false

/-! ### copy of elements of any size -/
theorem run_copy_size {P : Program} (w : World) (dT sT ty elem : TypeId) (sz g o dLen dCap : Nat) (a : Addr) (sLen sCap : Nat) (cur : Array Value) (t : TypeId) (cs : List Value)
    (hu : P.underlying dT = some (.slice elem)) (hs : (P.info? elem).map (·.size) = some sz)
    (hg : w.heap[g]? = some (.cells cur t (0, 0))) (hn : cs.length = Nat.min sLen dLen * sz)
    (hsrc : ∀ j v, cs[j]? = some v → w.cell? (a.add j) = some v) (hfit : o + cs.length ≤ cur.size) (h1 : ∀ v ∈ cs, v.oneCell' = true) :
    (Builtin.copy_ #[dT, sT] ty #[.slice (some ⟨g, o, none⟩) dLen dCap, .slice (some a) sLen sCap]).run P w =
      .ok (goInt (Nat.min sLen dLen)) (w.setRow g (cur.toList.take o ++ cs ++ cur.toList.drop (o + cs.length)).toArray) := by
  have hl := run_loadCells_list (P := P) w a cs hsrc
  have hst := run_storeCells_at P g o t cs 0 cur w hg (by simpa using hfit) h1
  cases hq : P.info? elem with
  | none => simp [hq] at hs
  | some i =>
    have hi : i.size = sz := by simpa [hq] using hs
    simp [Builtin.copy_, run_underlying hu, Builtin.lenOf, Builtin.firstCells, sizeOf, typeInfo, hq, hi, ← hn, hl, hst]
theorem run_copy_zero {P : Program} (w : World) (dT sT ty elem : TypeId) (sz : Nat) (d a : Option Addr) (dLen dCap sLen sCap : Nat) (hu : P.underlying dT = some (.slice elem)) (hs : (P.info? elem).map (·.size) = some sz) (hn : Nat.min sLen dLen = 0) :
    (Builtin.copy_ #[dT, sT] ty #[.slice d dLen dCap, .slice a sLen sCap]).run P w = .ok (goInt 0) w := by
  cases hq : P.info? elem with
  | none => simp [hq] at hs
  | some i =>
    have hl : ∀ (x : Addr), (loadCells x 0).run P w = .ok #[] w := fun x => by simpa using run_loadCells_list (P := P) w x [] (by simp)
    cases d <;> cases a <;> simp [Builtin.copy_, run_underlying hu, Builtin.lenOf, Builtin.firstCells, sizeOf, typeInfo, hq, hn, storeCells, hl]

/-! ### a frame: but for the blocks of S, and new ones, all is as it was -/
structure Fr (S : Nat → Prop) (w w' : World) : Prop where
  os : w'.os = w.os
  tape : w'.tape = w.tape
  output : w'.output = w.output
  size : w.heap.size ≤ w'.heap.size
  block : ∀ k, k < w.heap.size → ¬ S k → w'.heap[k]? = w.heap[k]?
theorem Fr.refl (S : Nat → Prop) (w : World) : Fr S w w := ⟨rfl, rfl, rfl, Nat.le_refl _, fun _ _ _ => rfl⟩
theorem Fr.trans {S S' : Nat → Prop} {a b c : World} (h : Fr S a b) (k : Fr S' b c) (hS : ∀ i, S' i → S i ∨ a.heap.size ≤ i) : Fr S a c :=
  ⟨k.os.trans h.os, k.tape.trans h.tape, k.output.trans h.output, Nat.le_trans h.size k.size, fun i hi hn =>
    (k.block i (Nat.lt_of_lt_of_le hi h.size) (fun q => (hS i q).elim hn (fun q => by omega))).trans (h.block i hi hn)⟩
theorem Fr.drew {S : Nat → Prop} {a w : World} (h : Fr S a w) : Fr S a w.drew := ⟨h.os, h.tape, h.output, h.size, h.block⟩
theorem Fr.drewN {S : Nat → Prop} {a w : World} (h : Fr S a w) (n : Nat) : Fr S a (w.drewN n) := ⟨h.os, h.tape, h.output, h.size, h.block⟩
theorem Fr.alloc {S : Nat → Prop} {a w : World} (h : Fr S a w) (o : Obj) : Fr S a (w.alloc o) :=
  ⟨h.os, h.tape, h.output, by simp; have := h.size; omega, fun k hk hn => (Below.heap_alloc w o k (by have := h.size; omega)).trans (h.block k hk hn)⟩
theorem Fr.setCell {S : Nat → Prop} {a w : World} (h : Fr S a w) {p : Addr} (hp : S p.block ∨ a.heap.size ≤ p.block) (u : Value) : Fr S a (w.setCell p u) :=
  ⟨h.os, h.tape, h.output, by simp [World.setCell]; exact h.size, fun k hk hn => (Below.heap_setCell w p u k (by rintro rfl; exact hp.elim hn (fun q => by omega))).trans (h.block k hk hn)⟩
theorem Fr.setRow {S : Nat → Prop} {a w : World} (h : Fr S a w) {g : Nat} (hp : S g ∨ a.heap.size ≤ g) (cs : Array Value) : Fr S a (w.setRow g cs) :=
  ⟨h.os, h.tape, h.output, by simp [World.setRow]; exact h.size, fun k hk hn => (setRow_other w g k cs (by rintro rfl; exact hp.elim hn (fun q => by omega))).trans (h.block k hk hn)⟩
theorem Fr.grown {S : Nat → Prop} {a w w' : World} {row : Option Nat} (h : Fr S a w) (hg : w.grownBy w' row) (hr : ∀ k, row = some k → S k ∨ a.heap.size ≤ k) : Fr S a w' :=
  ⟨hg.os.trans h.os, hg.tape.trans h.tape, hg.output.trans h.output, Nat.le_trans h.size hg.size, fun k hk hn =>
    (hg.block k (Nat.lt_of_lt_of_le hk h.size) (fun e => (hr k e.symm).elim hn (fun q => by omega))).trans (h.block k hk hn)⟩
theorem Fr.of_below {S : Nat → Prop} {a b : World} (h : Below a.heap.size a b) : Fr S a b := ⟨h.os, h.tape, h.output, h.size, fun k hk _ => h.block k hk⟩
theorem Fr.below {S : Nat → Prop} {a b : World} (h : Fr S a b) {B : Nat} (hB : B ≤ a.heap.size) (hS : ∀ k, S k → B ≤ k) : Below B a b :=
  ⟨h.os, h.tape, h.output, h.size, fun k hk => h.block k (by omega) (fun q => by have := hS k q; omega)⟩

/-! ### a net in memory -/
def netCells (v : Value) (s : List Int) : Array Value := (v :: s.map fun x => .int .i64 x).toArray
structure NetAt (w : World) (B b : Nat) (N : Net) (v : Value) : Prop where
  box : w.heap[b]? = some (.cells (netCells v N.s) 49 (0, 0))
  row : OwnL w B v N.q
  ok : N.Ok
  low : B ≤ b
/-- the net has become N', and but for its blocks and new ones nothing is touched -/
def To (w w' : World) (B b : Nat) (v : Value) (N' : Net) : Prop :=
  ∃ v', NetAt w' B b N' v' ∧ (∀ g, v'.ownBlock = some g → v.ownBlock = some g ∨ w.heap.size ≤ g) ∧ Fr (fun i => i = b ∨ v.ownBlock = some i) w w'
theorem NetAt.lt {w : World} {B b : Nat} {N : Net} {v : Value} (h : NetAt w B b N v) : b < w.heap.size := (Array.getElem?_eq_some_iff.1 h.box).1
theorem NetAt.apart {w : World} {B b : Nat} {N : Net} {v : Value} (h : NetAt w B b N v) : v.ownBlock ≠ some b := fun e => by
  obtain ⟨cs, hc⟩ := h.row.block b e
  rw [h.box] at hc
  injection hc with hc
  injection hc with _ ht
  exact absurd ht (by decide)
theorem NetAt.queue {w : World} {B b : Nat} {N : Net} {v : Value} (h : NetAt w B b N v) : w.cell? ⟨b, 0, none⟩ = some v := by
  rw [Lib.cell_of_heap h.box]; simp [netCells]
theorem NetAt.side {w : World} {B b : Nat} {N : Net} {v : Value} (h : NetAt w B b N v) {i : Nat} (hi : i < 32) : w.cell? ⟨b, 1 + i, none⟩ = some (.int .i64 (N.side i)) := by
  rw [Lib.cell_of_heap h.box]
  have hs := h.ok.sides
  simp only [netCells, List.getElem?_toArray, Nat.add_comm 1 i, List.getElem?_cons_succ, List.getElem?_map, Net.side, Int.toNat_natCast]
  rw [List.getElem?_eq_getElem (by omega), List.getD_eq_getElem?_getD, List.getElem?_eq_getElem (by omega)]
  rfl
theorem NetAt.unfrozen {w : World} {B b : Nat} {N : Net} {v : Value} (h : NetAt w B b N v) (i : Nat) : w.frozen? ⟨b, i, none⟩ = false := Lib.frozen_of_heap h.box i
theorem NetAt.keep {w w' : World} {B b : Nat} {N : Net} {v : Value} (h : NetAt w B b N v) (hb : w'.heap[b]? = w.heap[b]?) (hg : ∀ g, v.ownBlock = some g → w'.heap[g]? = w.heap[g]?) : NetAt w' B b N v :=
  ⟨hb.trans h.box, h.row.keep hg, h.ok, h.low⟩
theorem NetAt.stays {w : World} {B b : Nat} {N : Net} {v : Value} (h : NetAt w B b N v) : To w w B b v N := ⟨v, h, fun g hg => .inl hg, Fr.refl _ w⟩
/-- the queue is set -/
theorem NetAt.setQ {w w1 : World} {B b : Nat} {N : Net} {v v' : Value} {q : List Let} (h : NetAt w B b N v) (hb : w1.heap[b]? = w.heap[b]?) (ho : OwnL w1 B v' q) (hq : (⟨q, N.s⟩ : Net).Ok) : NetAt (w1.setCell ⟨b, 0, none⟩ v') B b ⟨q, N.s⟩ v' := by
  have hbox := hb.trans h.box
  have hne : v'.ownBlock ≠ some b := fun e => by
    obtain ⟨cs, hc⟩ := ho.block b e
    rw [hbox] at hc
    injection hc with hc
    injection hc with _ ht
    exact absurd ht (by decide)
  refine ⟨?_, ho.keep fun g hg => Below.heap_setCell w1 _ v' g (by rintro rfl; exact hne hg), hq, h.low⟩
  rw [heap_setCell_same w1 b 0 _ 49 v' hbox]
  simp [netCells]

/-- a net among the blocks that a call laid, which leaves the blocks of H alone -/
structure NC (W w : World) (b : Nat) (N : Net) (H : Nat → Prop) : Prop where
  net : ∃ v, NetAt w W.heap.size b N v ∧ ∀ g, v.ownBlock = some g → ¬ H g
  self : ¬ H b
  old : ∀ k, H k → k < w.heap.size
  below : Below W.heap.size W w
def Keep (H : Nat → Prop) (w w' : World) : Prop := w.heap.size ≤ w'.heap.size ∧ ∀ k, H k → w'.heap[k]? = w.heap[k]?
theorem NC.ok {W w : World} {b : Nat} {N : Net} {H : Nat → Prop} (h : NC W w b N H) : N.Ok := by
  obtain ⟨v, hv, _⟩ := h.net
  exact hv.ok
/-- a call of the net's -/
theorem NC.go {W w w' : World} {b : Nat} {N N' : Net} {H : Nat → Prop} {v : Value} (h : NC W w b N H) (hv : NetAt w W.heap.size b N v) (hH : ∀ g, v.ownBlock = some g → ¬ H g) (ht : To w w' W.heap.size b v N') : NC W w' b N' H ∧ Keep H w w' := by
  obtain ⟨v', h1, h2, h3⟩ := ht
  refine ⟨⟨⟨v', h1, fun g hg hh => ?_⟩, h.self, fun k hk => Nat.lt_of_lt_of_le (h.old k hk) h3.size, h.below.trans (h3.below h.below.size fun k hk => ?_)⟩, h3.size, fun k hk => h3.block k (h.old k hk) ?_⟩
  · rcases h2 g hg with q | q
    · exact hH g q hh
    · have := h.old g hh; omega
  · rcases hk with rfl | hk
    · exact hv.low
    · exact (hv.row.lt k hk).1
  · rintro (rfl | q)
    · exact h.self hk
    · exact hH k q hk
/-- what others do, who leave the net's blocks alone; what is held may be told anew -/
theorem NC.next {W w w' : World} {b : Nat} {N : Net} {H H' : Nat → Prop} (h : NC W w b N H) (hf : Fr H w w') (hb : ∀ k, H k → W.heap.size ≤ k) (hH : ∀ k, H' k → H k ∨ w.heap.size ≤ k) (hl : ∀ k, H' k → k < w'.heap.size) : NC W w' b N H' := by
  obtain ⟨v, hv, hg⟩ := h.net
  have hs : ∀ k, k < w.heap.size → ¬ H k → ¬ H' k := fun k hk hn hh => by
    rcases hH k hh with q | q
    · exact hn q
    · omega
  exact ⟨⟨v, hv.keep (hf.block b hv.lt h.self) fun g e => hf.block g (hv.row.lt g e).2 (hg g e), fun g e => hs g (hv.row.lt g e).2 (hg g e)⟩, hs b hv.lt h.self, hl, h.below.trans (hf.below h.below.size hb)⟩
theorem NC.after {W w w' : World} {b : Nat} {N : Net} {H : Nat → Prop} (h : NC W w b N H) (hb : Below w.heap.size w w') : NC W w' b N H := by
  obtain ⟨v, hv, hg⟩ := h.net
  exact ⟨⟨v, hv.keep (hb.block b hv.lt) fun g e => hb.block g (hv.row.lt g e).2, hg⟩, h.self, fun k hk => Nat.lt_of_lt_of_le (h.old k hk) hb.size, h.below.trans (hb.mono h.below.size)⟩
end Go.Proofs.Ytipclhklkngamaa
