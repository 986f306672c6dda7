import Derived.Test.YtipclhklkngamaaNp
namespace Go.Proofs.Ytipclhklkngamaa
open Go.RowKit
set_option linter.unusedVariables false

/-! ### the reference's net in memory (by program, out of the net's own) -/
def refCells (v : Value) (s : List Int) : Array Value := (v :: s.map fun x => .bool (decide (x = 1))).toArray
structure RefAt (w : World) (B b : Nat) (N : Net) (v : Value) : Prop where
  box : w.heap[b]? = some (.cells (refCells v N.s) 30 (0, 0))
  row : OwnL w B v N.q
  ok : N.Ok
  low : B ≤ b
/-- the net has become N', and but for its blocks and new ones nothing is touched -/
def RTo (w w' : World) (B b : Nat) (v : Value) (N' : Net) : Prop :=
  ∃ v', RefAt w' B b N' v' ∧ (∀ g, v'.ownBlock = some g → v.ownBlock = some g ∨ w.heap.size ≤ g) ∧ Fr (fun i => i = b ∨ v.ownBlock = some i) w w'
theorem RefAt.lt {w : World} {B b : Nat} {N : Net} {v : Value} (h : RefAt w B b N v) : b < w.heap.size := (Array.getElem?_eq_some_iff.1 h.box).1
theorem RefAt.apart {w : World} {B b : Nat} {N : Net} {v : Value} (h : RefAt w B b N v) : v.ownBlock ≠ some b := fun e => by
  obtain ⟨cs, hc⟩ := h.row.block b e
  rw [h.box] at hc
  injection hc with hc
  injection hc with _ ht
  exact absurd ht (by decide)
theorem RefAt.queue {w : World} {B b : Nat} {N : Net} {v : Value} (h : RefAt w B b N v) : w.cell? ⟨b, 0, none⟩ = some v := by
  rw [Lib.cell_of_heap h.box]; simp [refCells]
theorem RefAt.side {w : World} {B b : Nat} {N : Net} {v : Value} (h : RefAt w B b N v) {i : Nat} (hi : i < 32) : w.cell? ⟨b, 1 + i, none⟩ = some (.bool (decide (N.side i = 1))) := by
  rw [Lib.cell_of_heap h.box]
  have hs := h.ok.sides
  have e : N.side (i : Nat) = N.s[i]'(by omega) := by
    unfold Net.side
    rw [Int.toNat_natCast, List.getD_eq_getElem?_getD, List.getElem?_eq_getElem (by omega)]
    rfl
  simp only [refCells, List.getElem?_toArray, Nat.add_comm 1 i, List.getElem?_cons_succ, List.getElem?_map]
  rw [List.getElem?_eq_getElem (by omega)]
  simp [e]
theorem RefAt.unfrozen {w : World} {B b : Nat} {N : Net} {v : Value} (h : RefAt w B b N v) (i : Nat) : w.frozen? ⟨b, i, none⟩ = false := Lib.frozen_of_heap h.box i
theorem RefAt.keep {w w' : World} {B b : Nat} {N : Net} {v : Value} (h : RefAt w B b N v) (hb : w'.heap[b]? = w.heap[b]?) (hg : ∀ g, v.ownBlock = some g → w'.heap[g]? = w.heap[g]?) : RefAt w' B b N v :=
  ⟨hb.trans h.box, h.row.keep hg, h.ok, h.low⟩
theorem RefAt.stays {w : World} {B b : Nat} {N : Net} {v : Value} (h : RefAt w B b N v) : RTo w w B b v N := ⟨v, h, fun g hg => .inl hg, Fr.refl _ w⟩
/-- the queue is set -/
theorem RefAt.setQ {w w1 : World} {B b : Nat} {N : Net} {v v' : Value} {q : List Let} (h : RefAt w B b N v) (hb : w1.heap[b]? = w.heap[b]?) (ho : OwnL w1 B v' q) (hq : (⟨q, N.s⟩ : Net).Ok) : RefAt (w1.setCell ⟨b, 0, none⟩ v') B b ⟨q, N.s⟩ v' := by
  have hbox := hb.trans h.box
  have hne : v'.ownBlock ≠ some b := fun e => by
    obtain ⟨cs, hc⟩ := ho.block b e
    rw [hbox] at hc
    injection hc with hc
    injection hc with _ ht
    exact absurd ht (by decide)
  refine ⟨?_, ho.keep fun g hg => Below.heap_setCell w1 _ v' g (by rintro rfl; exact hne hg), hq, h.low⟩
  rw [heap_setCell_same w1 b 0 _ 30 v' hbox]
  simp [refCells]

/-- a net among the blocks that a call laid, which leaves the blocks of H alone -/
structure RC (W w : World) (b : Nat) (N : Net) (H : Nat → Prop) : Prop where
  net : ∃ v, RefAt w W.heap.size b N v ∧ ∀ g, v.ownBlock = some g → ¬ H g
  self : ¬ H b
  old : ∀ k, H k → k < w.heap.size
  below : Below W.heap.size W w
theorem RC.ok {W w : World} {b : Nat} {N : Net} {H : Nat → Prop} (h : RC W w b N H) : N.Ok := by
  obtain ⟨v, hv, _⟩ := h.net
  exact hv.ok
/-- a call of the net's -/
theorem RC.go {W w w' : World} {b : Nat} {N N' : Net} {H : Nat → Prop} {v : Value} (h : RC W w b N H) (hv : RefAt w W.heap.size b N v) (hH : ∀ g, v.ownBlock = some g → ¬ H g) (ht : RTo w w' W.heap.size b v N') : RC W w' b N' H ∧ Keep H w w' := by
  obtain ⟨v', h1, h2, h3⟩ := ht
  refine ⟨⟨⟨v', h1, fun g hg hh => ?_⟩, h.self, fun k hk => Nat.lt_of_lt_of_le (h.old k hk) h3.size, h.below.trans (h3.below h.below.size fun k hk => ?_)⟩, h3.size, fun k hk => h3.block k (h.old k hk) ?_⟩
  · rcases h2 g hg with q | q
    · exact hH g q hh
    · have := h.old g hh; omega
  · rcases hk with rfl | hk
    · exact hv.low
    · exact (hv.row.lt k hk).1
  · rintro (rfl | q)
    · exact h.self hk
    · exact hH k q hk
/-- what others do, who leave the net's blocks alone; what is held may be told anew -/
theorem RC.next {W w w' : World} {b : Nat} {N : Net} {H H' : Nat → Prop} (h : RC W w b N H) (hf : Fr H w w') (hb : ∀ k, H k → W.heap.size ≤ k) (hH : ∀ k, H' k → H k ∨ w.heap.size ≤ k) (hl : ∀ k, H' k → k < w'.heap.size) : RC W w' b N H' := by
  obtain ⟨v, hv, hg⟩ := h.net
  have hs : ∀ k, k < w.heap.size → ¬ H k → ¬ H' k := fun k hk hn hh => by
    rcases hH k hh with q | q
    · exact hn q
    · omega
  exact ⟨⟨v, hv.keep (hf.block b hv.lt h.self) fun g e => hf.block g (hv.row.lt g e).2 (hg g e), fun g e => hs g (hv.row.lt g e).2 (hg g e)⟩, hs b hv.lt h.self, hl, h.below.trans (hf.below h.below.size hb)⟩
theorem RC.after {W w w' : World} {b : Nat} {N : Net} {H : Nat → Prop} (h : RC W w b N H) (hb : Below w.heap.size w w') : RC W w' b N H := by
  obtain ⟨v, hv, hg⟩ := h.net
  exact ⟨⟨v, hv.keep (hb.block b hv.lt) fun g e => hb.block g (hv.row.lt g e).2, hg⟩, h.self, fun k hk => Nat.lt_of_lt_of_le (h.old k hk) hb.size, h.below.trans (hb.mono h.below.size)⟩
theorem RefAt.below {w W : World} {B b : Nat} {N : Net} {v : Value} (h : RefAt w B b N v) (hb : Below w.heap.size w W) : RefAt W B b N v := h.keep (hb.block b h.lt) fun g hg => hb.block g (h.row.lt g hg).2
theorem RTo.from {w W w' : World} {B b : Nat} {v : Value} {N' : Net} (hb : Below w.heap.size w W) (h : RTo W w' B b v N') : RTo w w' B b v N' := by
  obtain ⟨v', h1, h2, h3⟩ := h
  exact ⟨v', h1, fun g hg => (h2 g hg).imp id fun q => by have := hb.size; omega, (Fr.of_below hb).trans h3 fun i hi => .inl hi⟩
/-- the k-th letter -/
theorem RefAt.letter {w : World} {B b : Nat} {N : Net} {v : Value} (h : RefAt w B b N v) {k : Int} {l : Let} (hk : N.at' k = some l) : ∃ n : Nat, k = (n : Int) ∧ n < N.q.length ∧ N.q[n]? = some l ∧ ∃ g cap, v = .slice (some ⟨g, 0, none⟩) N.q.length cap ∧ N.q.length ≤ cap ∧
    w.cell? ⟨g, n * 3, none⟩ = some (.int .i64 l.f) ∧ w.cell? ⟨g, n * 3 + 1, none⟩ = some (.int .i64 l.t) ∧ w.cell? ⟨g, n * 3 + 2, none⟩ = some (.string l.b) := by
  unfold Net.at' at hk
  split at hk
  · refine ⟨k.toNat, by omega, (List.getElem?_eq_some_iff.1 hk).1, hk, ?_⟩
    rcases h.row.2 with ⟨_, hn⟩ | ⟨g, cap, cur, rfl, _, hg, hc, _, _, ht⟩
    · have := (List.getElem?_eq_some_iff.1 hk).1; omega
    · obtain ⟨a0, a1, a2⟩ := flat_at hk
      have q : ∀ j u, (flat N.q)[j]? = some u → w.cell? ⟨g, j, none⟩ = some u := fun j u hu => by
        rw [cell_of_row w g j cur 32 (0, 0) hg]
        rw [← ht, List.getElem?_take] at hu
        split at hu
        · simpa using hu
        · cases hu
      exact ⟨g, cap, rfl, hc, by rw [Nat.mul_comm]; exact q _ _ a0, by rw [Nat.mul_comm]; exact q _ _ a1, by rw [Nat.mul_comm]; exact q _ _ a2⟩
  · cases hk
theorem RefAt.drewN {w : World} {B b : Nat} {N : Net} {v : Value} (h : RefAt w B b N v) (n : Nat) : RefAt (w.drewN n) B b N v := ⟨h.box, h.row, h.ok, h.low⟩
theorem RTo.drewN {w w' : World} {B b : Nat} {v : Value} {N' : Net} (h : RTo w w' B b v N') (n : Nat) : RTo w (w'.drewN n) B b v N' := by
  obtain ⟨v', h1, h2, h3⟩ := h
  exact ⟨v', h1.drewN n, h2, h3.drewN n⟩
theorem RTo.fill {w W2 w3 : World} {B b : Nat} {v : Value} {N' : Net} (hb : Below w.heap.size w W2) (ht : RTo W2 w3 B b v N') (hbl : b < w.heap.size) (hlt : ∀ g, v.ownBlock = some g → g < w.heap.size) (p : Nat) (hp : w.heap.size ≤ p) (hp2 : p < W2.heap.size) (u0 u1 u2 : Value) :
    RTo w (((w3.setCell ⟨p, 0, none⟩ u0).setCell ⟨p, 1, none⟩ u1).setCell ⟨p, 2, none⟩ u2) B b v N' := by
  obtain ⟨v', h1, h2, h3⟩ := RTo.from hb ht
  obtain ⟨v'', k1, k2, k3⟩ := ht
  have q : ∀ i, i ≠ p → (((w3.setCell ⟨p, 0, none⟩ u0).setCell ⟨p, 1, none⟩ u1).setCell ⟨p, 2, none⟩ u2).heap[i]? = w3.heap[i]? := fun i hi => by
    rw [Below.heap_setCell _ _ _ i (by exact hi), Below.heap_setCell _ _ _ i (by exact hi), Below.heap_setCell _ _ _ i (by exact hi)]
  refine ⟨v'', k1.keep (q b (by omega)) fun g hg => q g ?_, fun g hg => (k2 g hg).imp id fun q => by have := hb.size; omega, ((h3.setCell (p := ⟨p, 0, none⟩) (.inr hp) u0).setCell (p := ⟨p, 1, none⟩) (.inr hp) u1).setCell (p := ⟨p, 2, none⟩) (.inr hp) u2⟩
  rcases k2 g hg with e | e
  · have := hlt g e; omega
  · omega
/-- what is new is held -/
theorem RC.hold {W w : World} {b : Nat} {N : Net} {H : Nat → Prop} (h : RC W w b N H) {w' : World} (hb : Below w.heap.size w w') : RC W w' b N (fun k => H k ∨ (w.heap.size ≤ k ∧ k < w'.heap.size)) := by
  have h1 := h.after hb
  obtain ⟨v, hv, hg⟩ := h.net
  refine ⟨⟨v, hv.below hb, fun g e => ?_⟩, ?_, fun k hk => ?_, h1.below⟩
  · rintro (q | ⟨q, _⟩)
    · exact hg g e q
    · have := (hv.row.lt g e).2; omega
  · rintro (q | ⟨q, _⟩)
    · exact h.self q
    · have := hv.lt; omega
  · rcases hk with q | q
    · exact h1.old k q
    · exact q.2
theorem RC.fewer {W w : World} {b : Nat} {N : Net} {H H' : Nat → Prop} (h : RC W w b N H) (hs : ∀ k, H' k → H k) : RC W w b N H' := by
  obtain ⟨v, hv, hg⟩ := h.net
  exact ⟨⟨v, hv, fun g e q => hg g e (hs g q)⟩, fun q => h.self (hs b q), fun k q => h.old k (hs k q), h.below⟩
end Go.Proofs.Ytipclhklkngamaa
