import Derived.Test.YtebacdegjmcnlaaGreatXr
import Derived.WalkKit
import Derived.ProofKit
import Derived.WalkLawsBesides
import Derived.Outline
import Derived.Deep.QuietTactic
import Derived.BigQuiet
import Derived.Lib.Hide
import Derived.LoopTactic
import Derived.LoopN
import Derived.Laws.Small
import Derived.Laws.Pointers
import Derived.Laws.StructEq
import Derived.Laws.Tables
import Derived.Laws.Cover2
import Derived.Deep.RegionHeld3
import Derived.Deep.RegionWith
import Derived.StillTailTactics
import Derived.Laws.AppendOwnNone
import Derived.Maps.AppendAt
import Derived.Laws.CopyRow
namespace Go.Proofs.YtebacdegjmcnlaaGreat
set_option maxRecDepth 20000
open Go.RowKit
set_option linter.unusedVariables false
theorem bcell {W w1 : World} (hb : Below W.heap.size W w1) : (∀ b o, b < W.heap.size → w1.cell? ⟨b, o, none⟩ = W.cell? ⟨b, o, none⟩) ∧ (∀ b o, b < W.heap.size → w1.frozen? ⟨b, o, none⟩ = W.frozen? ⟨b, o, none⟩) :=
  ⟨fun b o h => hb.cell (p := ⟨b, o, none⟩) h, fun b o h => hb.frozen (p := ⟨b, o, none⟩) h⟩
theorem lt_of_cell {w : World} {b o : Nat} {v : Value} (h : w.cell? ⟨b, o, none⟩ = some v) : b < w.heap.size := by
  rw [← Nat.not_le]
  intro hn
  rw [World.cell?, Array.getElem?_eq_none hn] at h
  cases h
theorem cellB {w X : World} {B b o : Nat} {v : Value} (h : w.cell? ⟨b, o, none⟩ = some v) (hb : Below B w X) (hl : b < B) : X.cell? ⟨b, o, none⟩ = some v := by rw [← h]; exact hb.cell (p := ⟨b, o, none⟩) hl
structure Fr (S : Nat → Prop) (w w' : World) : Prop where
  os : w'.os = w.os
  tape : w'.tape = w.tape
  output : w'.output = w.output
  size : w.heap.size ≤ w'.heap.size
  block : ∀ k, k < w.heap.size → ¬ S k → w'.heap[k]? = w.heap[k]?
theorem Fr.refl (S : Nat → Prop) (w : World) : Fr S w w := ⟨rfl, rfl, rfl, Nat.le_refl _, fun _ _ _ => rfl⟩
theorem Fr.trans {S S' : Nat → Prop} {a b c : World} (h : Fr S a b) (k : Fr S' b c) (hS : ∀ i, S' i → S i ∨ a.heap.size ≤ i) : Fr S a c :=
  ⟨k.os.trans h.os, k.tape.trans h.tape, k.output.trans h.output, Nat.le_trans h.size k.size, fun i hi hn =>
    (k.block i (Nat.lt_of_lt_of_le hi h.size) (fun q => (hS i q).elim hn (fun q => by omega))).trans (h.block i hi hn)⟩
theorem Fr.drew {S : Nat → Prop} {a w : World} (h : Fr S a w) : Fr S a w.drew := ⟨h.os, h.tape, h.output, h.size, h.block⟩
theorem Fr.alloc {S : Nat → Prop} {a w : World} (h : Fr S a w) (o : Obj) : Fr S a (w.alloc o) :=
  ⟨h.os, h.tape, h.output, by simp; have := h.size; omega, fun k hk hn => (Below.heap_alloc w o k (by have := h.size; omega)).trans (h.block k hk hn)⟩
theorem Fr.setCell {S : Nat → Prop} {a w : World} (h : Fr S a w) {p : Addr} (hp : S p.block ∨ a.heap.size ≤ p.block) (u : Value) : Fr S a (w.setCell p u) :=
  ⟨h.os, h.tape, h.output, by simp [World.setCell]; exact h.size, fun k hk hn => (Below.heap_setCell w p u k (by rintro rfl; exact hp.elim hn (fun q => by omega))).trans (h.block k hk hn)⟩
theorem Fr.grown {S : Nat → Prop} {a w w' : World} {row : Option Nat} (h : Fr S a w) (hg : w.grownBy w' row) (hr : ∀ k, row = some k → S k ∨ a.heap.size ≤ k) : Fr S a w' :=
  ⟨hg.os.trans h.os, hg.tape.trans h.tape, hg.output.trans h.output, Nat.le_trans h.size hg.size, fun k hk hn =>
    (hg.block k (Nat.lt_of_lt_of_le hk h.size) (fun e => (hr k e.symm).elim hn (fun q => by omega))).trans (h.block k hk hn)⟩
theorem Fr.of_below {S : Nat → Prop} {a b : World} (h : Below a.heap.size a b) : Fr S a b := ⟨h.os, h.tape, h.output, h.size, fun k hk _ => h.block k hk⟩
theorem Fr.below {S : Nat → Prop} {a b : World} (h : Fr S a b) {B : Nat} (hB : B ≤ a.heap.size) (hS : ∀ k, S k → B ≤ k) : Below B a b :=
  ⟨h.os, h.tape, h.output, h.size, fun k hk => h.block k (by omega) (fun q => by have := hS k q; omega)⟩
theorem Fr.mono {S S' : Nat → Prop} {a b : World} (h : Fr S a b) (hS : ∀ k, S k → S' k) : Fr S' a b := ⟨h.os, h.tape, h.output, h.size, fun k hk hn => h.block k hk (fun q => hn (hS k q))⟩
/-! ### rows of structs: own ones, and such as are read -/
/-- how a thing lies in cells: its cells, how many; its type, its slice's type -/
structure CT (α : Type) where
  C : α → List Value
  m : Nat
  e : TypeId
  t : TypeId
  z : Value
  by_ : Nat
  len : ∀ x, (C x).length = m
  one : ∀ x, ∀ u ∈ C x, u.oneCell' = true
  pos : 0 < m
  small : m ≤ 20
  zs : z.cells.size = m
  bsmall : by_ ≤ 200
  info : (Tryz.prog.info? e).map (fun i => (i.zero, i.size, i.bytes)) = some (some z, m, by_)
  und : Tryz.prog.underlying t = some (.slice e)
def flat {α : Type} (D : CT α) : List α → List Value
  | [] => []
  | x :: r => D.C x ++ flat D r
theorem flat_length {α : Type} (D : CT α) : ∀ L : List α, (flat D L).length = L.length * D.m
  | [] => by simp [flat]
  | x :: r => by rw [flat, List.length_append, flat_length D r, List.length_cons, D.len, Nat.succ_mul, Nat.add_comm]
theorem flat_append {α : Type} (D : CT α) : ∀ a b : List α, flat D (a ++ b) = flat D a ++ flat D b
  | [], b => rfl
  | x :: r, b => by rw [List.cons_append, flat, flat, flat_append D r b, List.append_assoc]
theorem flat_one {α : Type} (D : CT α) : ∀ L : List α, ∀ u ∈ flat D L, u.oneCell' = true
  | [], u, h => by cases h
  | x :: r, u, h => by
    rw [flat, List.mem_append] at h
    rcases h with h | h
    · exact D.one x u h
    · exact flat_one D r u h
theorem flat_at {α : Type} (D : CT α) : ∀ (L : List α) (j : Nat) (u : Value), (flat D L)[j]? = some u → ∃ i q x, L[i]? = some x ∧ q < D.m ∧ j = i * D.m + q ∧ (D.C x)[q]? = some u
  | [], j, u, h => by simp [flat] at h
  | x :: r, j, u, h => by
    rw [flat, List.getElem?_append] at h
    split at h
    · rename_i hj
      rw [D.len] at hj
      exact ⟨0, j, x, rfl, hj, by omega, h⟩
    · rename_i hj
      rw [D.len] at h hj
      obtain ⟨i, q, y, h1, h2, h3, h4⟩ := flat_at D r _ u h
      exact ⟨i + 1, q, y, h1, h2, by rw [Nat.succ_mul]; omega, h4⟩
theorem flat_get {α : Type} (D : CT α) : ∀ (L : List α) (i : Nat) (x : α), L[i]? = some x → ∀ q u, (D.C x)[q]? = some u → (flat D L)[i * D.m + q]? = some u
  | [], i, x, h => by simp at h
  | y :: r, 0, x, h => by
    intro q u hu
    obtain rfl : y = x := by simpa using h
    have hq : q < (D.C y).length := (List.getElem?_eq_some_iff.1 hu).1
    rw [flat, Nat.zero_mul, Nat.zero_add, List.getElem?_append_left hq]
    exact hu
  | y :: r, i + 1, x, h => by
    intro q u hu
    rw [flat, List.getElem?_append_right (by rw [D.len, Nat.succ_mul]; omega), D.len, show (i + 1) * D.m + q - D.m = i * D.m + q by rw [Nat.succ_mul]; omega]
    exact flat_get D r i x (by simpa using h) q u hu
theorem Fr.wide {S S' : Nat → Prop} {a b : World} (h : Fr S a b) (hS : ∀ k, k < a.heap.size → S k → S' k) : Fr S' a b := ⟨h.os, h.tape, h.output, h.size, fun k hk hn => h.block k hk (fun q => hn (hS k hk q))⟩
def Up (S : Nat → Prop) (w w' : World) (k : Nat) : Prop := S k ∨ (w.heap.size ≤ k ∧ k < w'.heap.size)
/-- a slice that reads as a list, in blocks of H -/
def Rd {α : Type} (D : CT α) (w : World) (H : Nat → Prop) (A : Option Addr) (L : List α) : Prop :=
  L ≠ [] → ∃ b off, A = some ⟨b, off, none⟩ ∧ H b ∧ b < w.heap.size ∧ ∀ (i : Nat) (x : α), L[i]? = some x → ∀ q u, (D.C x)[q]? = some u → w.cell? ⟨b, off + i * D.m + q, none⟩ = some u
section
variable {α : Type} {D : CT α}
theorem Rd.nil (D : CT α) (w : World) (H : Nat → Prop) (A : Option Addr) : Rd D w H A [] := fun h => absurd rfl h
theorem Rd.mono {w : World} {H H' : Nat → Prop} {A : Option Addr} {L : List α} (h : Rd D w H A L) (hH : ∀ k, k < w.heap.size → H k → H' k) : Rd D w H' A L := fun hne => by
  obtain ⟨b, off, h1, h2, h3, h4⟩ := h hne
  exact ⟨b, off, h1, hH b h3 h2, h3, h4⟩
theorem Rd.keep {w w' : World} {H : Nat → Prop} {A : Option Addr} {L : List α} (h : Rd D w H A L) (hs : w.heap.size ≤ w'.heap.size) (hk : ∀ k, k < w.heap.size → H k → w'.heap[k]? = w.heap[k]?) : Rd D w' H A L := fun hne => by
  obtain ⟨b, off, h1, h2, h3, h4⟩ := h hne
  exact ⟨b, off, h1, h2, by omega, fun i x hx q u hu => (World.cell?_of_block (w := w) (hk b h3 h2)).trans (h4 i x hx q u hu)⟩
theorem Rd.fr {w w' : World} {S H : Nat → Prop} {A : Option Addr} {L : List α} (h : Rd D w H A L) (hf : Fr S w w') (hd : ∀ k, H k → ¬ S k) : Rd D w' H A L :=
  h.keep hf.size fun k hk q => hf.block k hk (hd k q)
theorem Rd.below {w w' : World} {H : Nat → Prop} {A : Option Addr} {L : List α} (h : Rd D w H A L) (hb : Below w.heap.size w w') : Rd D w' H A L :=
  h.keep hb.size fun k hk _ => hb.block k hk
theorem Rd.at_ {w : World} {H : Nat → Prop} {A : Option Addr} {L : List α} (h : Rd D w H A L) {i : Nat} {x : α} (hx : L[i]? = some x) :
    ∃ b off, A = some ⟨b, off, none⟩ ∧ H b ∧ b < w.heap.size ∧ ∀ q u, (D.C x)[q]? = some u → w.cell? ⟨b, off + i * D.m + q, none⟩ = some u := by
  obtain ⟨b, off, h1, h2, h3, h4⟩ := h (fun e => by rw [e] at hx; simp at hx)
  exact ⟨b, off, h1, h2, h3, h4 i x hx⟩
/-- a part of it -/
theorem Rd.part {w : World} {H : Nat → Prop} {b off : Nat} {L : List α} (h : Rd D w H (some ⟨b, off, none⟩) L) (k n : Nat) : Rd D w H (some ⟨b, off + k * D.m, none⟩) ((L.drop k).take n) := fun hne => by
  have hL : L ≠ [] := fun e => by rw [e] at hne; simp at hne
  obtain ⟨b', off', h1, h2, h3, h4⟩ := h hL
  injection h1 with h1
  injection h1 with e1 e2
  subst e1 e2
  refine ⟨b, _, rfl, h2, h3, fun i x hx q u hu => ?_⟩
  rw [List.getElem?_take] at hx
  split at hx
  · rw [List.getElem?_drop] at hx
    have := h4 (k + i) x hx q u hu
    rw [show off + k * D.m + i * D.m + q = off + (k + i) * D.m + q by rw [Nat.add_mul]; omega]
    exact this
  · cases hx
theorem flat_take (D : CT α) (L : List α) (k : Nat) : flat D (L.take k) = (flat D L).take (k * D.m) := by
  have e := flat_append D (L.take k) (L.drop k)
  rw [List.take_append_drop] at e
  rcases Nat.lt_or_ge L.length k with h | h
  · rw [List.take_of_length_le (Nat.le_of_lt h), List.take_of_length_le]
    rw [flat_length]
    exact Nat.mul_le_mul_right _ (Nat.le_of_lt h)
  · have hl : (flat D (L.take k)).length = k * D.m := by rw [flat_length, List.length_take, Nat.min_eq_left h]
    rw [e, ← hl, List.take_left]
theorem flat_drop (D : CT α) (L : List α) (k : Nat) : flat D (L.drop k) = (flat D L).drop (k * D.m) := by
  have e := flat_append D (L.take k) (L.drop k)
  rw [List.take_append_drop] at e
  rcases Nat.lt_or_ge L.length k with h | h
  · rw [List.drop_eq_nil_of_le (Nat.le_of_lt h), List.drop_eq_nil_of_le]
    · rfl
    · rw [flat_length]
      exact Nat.mul_le_mul_right _ (Nat.le_of_lt h)
  · have hl : (flat D (L.take k)).length = k * D.m := by rw [flat_length, List.length_take, Nat.min_eq_left h]
    rw [e, ← hl, List.drop_left]
/-- a slice of one's own, wherever in its row it begins -/
def OwnS (D : CT α) (w : World) (S : Nat → Prop) (v : Value) (L : List α) : Prop :=
  (v = .slice none 0 0 ∧ L = []) ∨ ∃ g off cap cur, v = .slice (some ⟨g, off, none⟩) L.length cap ∧ S g ∧ w.heap[g]? = some (.cells cur D.e (0, 0)) ∧ L.length ≤ cap ∧ cap ≤ maxLen ∧ off + cap * D.m ≤ cur.size ∧ (cur.toList.drop off).take (L.length * D.m) = flat D L
theorem OwnS.nil (D : CT α) (w : World) (S : Nat → Prop) : OwnS D w S (.slice none 0 0) [] := .inl ⟨rfl, rfl⟩
theorem OwnS.mono {w : World} {S S' : Nat → Prop} {v : Value} {L : List α} (h : OwnS D w S v L) (hS : ∀ k, k < w.heap.size → S k → S' k) : OwnS D w S' v L := by
  rcases h with h | ⟨g, off, cap, cur, rfl, hs, hg, r⟩
  · exact .inl h
  · exact .inr ⟨g, off, cap, cur, rfl, hS g (Array.getElem?_eq_some_iff.1 hg).1 hs, hg, r⟩
theorem OwnS.keep {w w' : World} {S : Nat → Prop} {v : Value} {L : List α} (h : OwnS D w S v L) (hk : ∀ k, k < w.heap.size → S k → w'.heap[k]? = w.heap[k]?) : OwnS D w' S v L := by
  rcases h with h | ⟨g, off, cap, cur, rfl, hs, hg, r⟩
  · exact .inl h
  · exact .inr ⟨g, off, cap, cur, rfl, hs, (hk g (Array.getElem?_eq_some_iff.1 hg).1 hs).trans hg, r⟩
theorem OwnS.below {w w' : World} {S : Nat → Prop} {v : Value} {L : List α} (h : OwnS D w S v L) (hb : Below w.heap.size w w') : OwnS D w' S v L :=
  h.keep fun k hk _ => hb.block k hk
theorem OwnS.fr {w w' : World} {S S2 : Nat → Prop} {v : Value} {L : List α} (h : OwnS D w S v L) (hf : Fr S2 w w') (hd : ∀ k, S k → ¬ S2 k) : OwnS D w' S v L :=
  h.keep fun k hk q => hf.block k hk (hd k q)
theorem row_cells {cur : Array Value} {off : Nat} {L : List α} (h : (cur.toList.drop off).take (L.length * D.m) = flat D L) : ∀ (j : Nat) (u : Value), (flat D L)[j]? = some u → cur[off + j]? = some u := by
  intro j u hu
  rw [← h, List.getElem?_take] at hu
  split at hu
  · rw [List.getElem?_drop] at hu
    simpa using hu
  · cases hu
theorem OwnS.form {w : World} {S : Nat → Prop} {v : Value} {L : List α} (h : OwnS D w S v L) : ∃ A cap, v = .slice A L.length cap ∧ Rd D w S A L ∧ L.length ≤ cap ∧ cap ≤ 9223372036854775807 ∧ (A = none → cap = 0 ∧ L = []) := by
  rcases h with ⟨rfl, rfl⟩ | ⟨g, off, cap, cur, rfl, hs, hg, hc, hm, hz, ht⟩
  · exact ⟨none, 0, rfl, Rd.nil D w S _, Nat.le_refl _, by omega, fun _ => ⟨rfl, rfl⟩⟩
  · refine ⟨some ⟨g, off, none⟩, cap, rfl, fun hne => ⟨g, off, rfl, hs, (Array.getElem?_eq_some_iff.1 hg).1, fun i x hx q u hu => ?_⟩, hc, by simp only [maxLen] at hm; omega, fun h => by cases h⟩
    rw [cell_of_row w g _ cur D.e _ hg, Nat.add_assoc]
    exact row_cells ht _ u (flat_get D L i x hx q u hu)
/-- a row just made -/
theorem OwnS.made {w : World} {S : Nat → Prop} {xs : List Value} {L : List α} {cap : Nat} {cur : Array Value} {g : Nat} (hg : w.heap[g]? = some (.cells cur D.e (0, 0))) (hs : S g) (hc : L.length ≤ cap) (hm : cap ≤ maxLen) (hz : cap * D.m ≤ cur.size) (ht : cur.toList.take (L.length * D.m) = flat D L) : OwnS D w S (.slice (some ⟨g, 0, none⟩) L.length cap) L :=
  .inr ⟨g, 0, cap, cur, rfl, hs, hg, hc, hm, by omega, by rw [List.drop_zero]; exact ht⟩
/-- its first ones -/
theorem OwnS.take {w : World} {S : Nat → Prop} {g off n cap : Nat} {L : List α} (h : OwnS D w S (.slice (some ⟨g, off, none⟩) n cap) L) {k : Nat} (hk : k ≤ L.length) : OwnS D w S (.slice (some ⟨g, off, none⟩) k cap) (L.take k) := by
  rcases h with ⟨e, _⟩ | ⟨g', off', cap', cur, e, hs, hg, hc, hm, hz, ht⟩
  · cases e
  · injection e with e1 e2 e3
    injection e1 with e1
    injection e1 with e0 e1
    subst e0 e1 e3
    have hl : (L.take k).length = k := by rw [List.length_take]; omega
    refine .inr ⟨g, off, cap, cur, by rw [hl], hs, hg, by omega, hm, hz, ?_⟩
    rw [hl, flat_take, ← ht, List.take_take]
    congr 1
    exact (Nat.min_eq_left (Nat.mul_le_mul_right _ hk)).symm
/-- its last ones -/
theorem OwnS.drop {w : World} {S : Nat → Prop} {g off n cap : Nat} {L : List α} (h : OwnS D w S (.slice (some ⟨g, off, none⟩) n cap) L) {k : Nat} (hk : k ≤ L.length) : OwnS D w S (.slice (some (if cap = k then ⟨g, off, none⟩ else ⟨g, off + k * D.m, none⟩)) (L.length - k) (cap - k)) (L.drop k) := by
  rcases h with ⟨e, _⟩ | ⟨g', off', cap', cur, e, hs, hg, hc, hm, hz, ht⟩
  · cases e
  · injection e with e1 e2 e3
    injection e1 with e1
    injection e1 with e0 e1
    subst e0 e1 e3
    have hl : (L.drop k).length = L.length - k := by rw [List.length_drop]
    split
    · have hL : L.length = k := by omega
      refine .inr ⟨g, off, cap - k, cur, by rw [hl], hs, hg, by rw [hl]; omega, by omega, ?_, ?_⟩
      · have : (cap - k) * D.m ≤ cap * D.m := Nat.mul_le_mul_right _ (by omega)
        omega
      · rw [hl, hL, Nat.sub_self, Nat.zero_mul, List.take_zero, List.drop_eq_nil_of_le (by omega)]
        rfl
    · refine .inr ⟨g, off + k * D.m, cap - k, cur, by rw [hl], hs, hg, by rw [hl]; omega, by omega, ?_, ?_⟩
      · have : k * D.m + (cap - k) * D.m = cap * D.m := by rw [← Nat.add_mul]; congr 1; omega
        omega
      · rw [hl, flat_drop, ← ht, ← List.drop_drop, List.drop_take, ← Nat.sub_mul]
/-- room ahead of it, or behind it, that is overwritten, is none of it -/
theorem OwnS.put_off {w : World} {S : Nat → Prop} {g off n cap : Nat} {L : List α} (h : OwnS D w S (.slice (some ⟨g, off, none⟩) n cap) L) : ∃ cur, w.heap[g]? = some (.cells cur D.e (0, 0)) ∧ n = L.length ∧ S g ∧ L.length ≤ cap ∧ cap ≤ maxLen ∧ off + cap * D.m ≤ cur.size ∧ (cur.toList.drop off).take (L.length * D.m) = flat D L := by
  rcases h with ⟨e, _⟩ | ⟨g', off', cap', cur, e, hs, hg, hc, hm, hz, ht⟩
  · cases e
  · injection e with e1 e2 e3
    injection e1 with e1
    injection e1 with e0 e1
    subst e0 e1 e3
    exact ⟨cur, hg, e2, hs, hc, hm, hz, ht⟩
theorem Fr.row {S : Nat → Prop} {w : World} {g : Nat} (hg : S g) (cs : Array Value) : Fr S w (w.setRow g cs) :=
  ⟨rfl, rfl, rfl, by simp, fun k hk hn => setRow_other w g k _ (fun e => hn (e ▸ hg))⟩
theorem take_app_drop {l : List Value} {a b : Nat} (vs : List Value) (h : a + b ≤ l.length) (hv : vs.length = b) : ((l.take a ++ vs ++ l.drop (a + b)).take a = l.take a) ∧ (l.take a ++ vs ++ l.drop (a + b)).drop (a + b) = l.drop (a + b) ∧ (l.take a ++ vs ++ l.drop (a + b)).length = l.length := by
  have ha : (l.take a).length = a := by rw [List.length_take]; omega
  refine ⟨?_, ?_, ?_⟩
  · rw [List.append_assoc]
    exact List.take_left' ha
  · exact List.drop_left' (by rw [List.length_append, ha, hv])
  · simp only [List.length_append, List.length_take, List.length_drop, hv]
    omega
/-- a part is cleared -/
theorem run_clear {w : World} {g off n c : Nat} {cur : Array Value} (hg : w.heap[g]? = some (.cells cur D.e (0, 0))) (hz : off + n * D.m ≤ cur.size) (hzv : ∀ w : World, (zeroValue D.e).run Tryz.prog w = .ok D.z w) (hz1 : ∀ i : Nat, i < D.m → (D.z.cells[i]!).oneCell' = true) :
    ∃ vs : List Value, vs.length = n * D.m ∧ ∀ ty, (Builtin.clear_ #[D.t] ty #[.slice (some ⟨g, off, none⟩) n c]).run Tryz.prog w = .ok (.tuple #[]) (w.setRow g (cur.toList.take off ++ vs ++ cur.toList.drop (off + n * D.m)).toArray) := by
  by_cases h0 : n = 0
  · subst h0
    refine ⟨[], by simp, fun ty => ?_⟩
    rw [Nat.zero_mul, Nat.add_zero, List.append_nil, List.take_append_drop, Array.toArray_toList, setRow_self w g cur D.e (0, 0) hg]
    simp [Builtin.clear_, run_underlying D.und]
  · obtain ⟨vs, hvs⟩ : ∃ vs, vs = (Builtin.zeroCells D.z.cells n).toList := ⟨_, rfl⟩
    have hvl : vs.length = n * D.m := by
      rw [hvs]
      simp [Builtin.zeroCells, D.zs]
    have hv1 : ∀ v ∈ vs, v.oneCell' = true := by
      intro v hv
      rw [hvs] at hv
      simp only [Builtin.zeroCells, Array.mem_toList_iff] at hv
      obtain ⟨j, _, rfl⟩ := Array.mem_map.1 hv
      have hj : j % D.z.cells.size < D.m := by rw [D.zs]; exact Nat.mod_lt _ D.pos
      exact hz1 _ hj
    refine ⟨vs, hvl, fun ty => ?_⟩
    have hst := run_storeCells_at (P := Tryz.prog) g off D.e vs 0 cur w hg (by omega) hv1
    obtain ⟨m, rfl⟩ : ∃ m, n = m + 1 := ⟨n - 1, by omega⟩
    have hg1 : (Builtin.clear_ #[D.t] ty #[.slice (some ⟨g, off, none⟩) (m + 1) c]).run Tryz.prog w = ((storeCells ⟨g, off, none⟩ (Builtin.zeroCells D.z.cells (m + 1)).toList).run Tryz.prog w).andThen fun _ w' => .ok (.tuple #[]) w' := by
      simp [Builtin.clear_, run_underlying D.und, hzv]
    rw [hg1, ← hvs, hst, hvl]
    simp only [Nat.add_zero]
    rfl
/-- append of things that stand in memory, or of none -/
theorem append_O {w : World} {s : Nat} {S H : Nat → Prop} {v : Value} {l : List α} (hown : OwnS D w S v l) {A : Option Addr} {n c : Nat} {bs : List α} (hA : A = none → c = 0) (hb : Rd D w H A bs) (hn : bs.length = n) (hnc : n ≤ c) (hlen : l.length + n ≤ 1000000) :
    ∃ v' w', (Builtin.append_ #[D.t, D.t] s #[v, .slice A n c]).run Tryz.prog w = .ok v' w' ∧ OwnS D w' (Up S w w') v' (l ++ bs) ∧ Fr S w w' ∧ (v' = .slice none 0 0 → v = .slice none 0 0) := by
  obtain ⟨i5, hi5, hz0, hz1, hz2⟩ := info_parts D.info
  have hsm := D.small
  have hbs2 := D.bsmall
  have hpos := D.pos
  cases A with
  | none =>
    have hc0 := hA rfl
    subst hc0
    obtain rfl : n = 0 := by omega
    have hbs : bs = [] := List.eq_nil_of_length_eq_zero hn
    subst hbs
    refine ⟨v, w, ?_, by rw [List.append_nil]; exact hown.mono fun k _ q => .inl q, Fr.refl S w, fun h => h⟩
    rcases hown with ⟨rfl, rfl⟩ | ⟨g, off, cap, cur, rfl, hs, hg, hc, hm, hz, ht⟩
    · simp [Builtin.append_, run_underlying D.und, sizeOf, typeInfo, hi5, Builtin.lenOf, Builtin.firstCells]
    · simp [Builtin.append_, run_underlying D.und, sizeOf, typeInfo, hi5, Builtin.lenOf, Builtin.firstCells, loadCells, hc, storeCells]
  | some ad =>
    have hlf : (flat D bs).length = n * i5.size := by rw [flat_length, hn, hz1]
    have hnews : ∀ j u, (flat D bs)[j]? = some u → w.cell? (ad.add j) = some u := by
      intro j u hu
      have hne : bs ≠ [] := fun e => by rw [e] at hu; simp [flat] at hu
      obtain ⟨b, off, h1, _, _, h3⟩ := hb hne
      injection h1 with h1
      subst h1
      obtain ⟨i, q, y, hy, hq, rfl, hu2⟩ := flat_at D bs j u hu
      rw [Addr.add_lit, ← Nat.add_assoc]
      exact h3 i y hy q u hu2
    have hby : (l.length + n) * i5.bytes ≤ 140737488355328 := by
      rw [hz2]
      have h1 : (l.length + n) * D.by_ ≤ 1000000 * 200 := Nat.mul_le_mul hlen hbs2
      omega
    have hcml : ∀ old, grownCap w (l.length + n) old D.e ≤ maxLen := fun old => grownCap_le_maxLen w (l.length + n) old D.e (by simp only [maxLen]; omega)
    have grown : ∀ (old : Nat), old < l.length + n → ∀ xs : List Value, xs = flat D l → OwnS D (w.drew.alloc (.cells (xs.toArray ++ (flat D bs).toArray ++ Builtin.zeroCells D.z.cells (grownCap w (l.length + n) old D.e - (l.length + n))) D.e)) (Up S w (w.drew.alloc (.cells (xs.toArray ++ (flat D bs).toArray ++ Builtin.zeroCells D.z.cells (grownCap w (l.length + n) old D.e - (l.length + n))) D.e)))
        (.slice (some ⟨w.heap.size, 0, none⟩) (l.length + n) (grownCap w (l.length + n) old D.e)) (l ++ bs) ∧ Fr S w (w.drew.alloc (.cells (xs.toArray ++ (flat D bs).toArray ++ Builtin.zeroCells D.z.cells (grownCap w (l.length + n) old D.e - (l.length + n))) D.e)) := by
      intro old ho xs hxs
      have hge := grownCap_ge w (l.length + n) old D.e
      have hcm := hcml old
      subst hxs
      refine ⟨?_, (Fr.refl S w).drew.alloc _⟩
      have hL : (l ++ bs).length = l.length + n := by rw [List.length_append, hn]
      have hfl : (flat D l ++ flat D bs).length = (l.length + n) * D.m := by rw [List.length_append, flat_length, flat_length, hn, Nat.add_mul]
      rw [← hL] at hge hcm ⊢
      refine OwnS.made (xs := []) (heap_alloc_new w.drew _) (.inr ⟨Nat.le_refl _, by simp⟩) hge hcm ?_ ?_
      · simp only [Array.size_append, List.size_toArray, size_zeroCells, D.zs, flat_length, hn, ← Nat.add_mul, List.length_append]
        refine Nat.mul_le_mul_right _ ?_
        rw [List.length_append, hn] at hge
        omega
      · simp only [Array.toList_append, List.append_assoc]
        rw [← List.append_assoc, hL, ← hfl, flat_append]
        exact List.take_left
    rcases hown with ⟨rfl, rfl⟩ | ⟨g, off, cap, cur, rfl, hs, hg, hc, hm, hz, ht⟩
    · by_cases hm : n = 0
      · subst hm
        have hbn : bs = [] := List.eq_nil_of_length_eq_zero hn
        subst hbn
        refine ⟨.slice none 0 0, w, ?_, OwnS.nil D w _, Fr.refl S w, fun h => h⟩
        simp [Builtin.append_, run_underlying D.und, sizeOf, typeInfo, hi5, Builtin.lenOf, Builtin.firstCells, loadCells, loadCellsFrom]
      · have hr := run_append_nil (P := Tryz.prog) w D.t s D.e i5 D.z D.und hi5 hz0 ad n c (flat D bs) hlf hnews (by omega) (by omega) (by have hb := hby; simp only [List.length_nil, Nat.zero_add] at hb; omega)
        have hgr := grown 0 (by simp; omega) [] rfl
        simp only [List.length_nil, Nat.zero_add, Array.empty_append, List.nil_append] at hgr ⊢
        exact ⟨_, _, hr, hgr.1, hgr.2, fun h => by cases h⟩
    · by_cases hroom : l.length + n ≤ cap
      · have hfit : off + l.length * D.m + (flat D bs).length ≤ cur.size := by
          have : (l.length + n) * D.m ≤ cap * D.m := Nat.mul_le_mul_right _ hroom
          rw [flat_length, hn]
          rw [Nat.add_mul] at this
          omega
        have hf := run_firstCells_some (P := Tryz.prog) w i5.size n ad n c (flat D bs) hlf hnews
        have hst := run_storeCells_at (P := Tryz.prog) g (off + l.length * i5.size) D.e (flat D bs) 0 cur w hg (by rw [hz1]; omega) (flat_one D bs)
        simp only [Nat.add_zero] at hst
        refine ⟨.slice (some ⟨g, off, none⟩) (l.length + n) cap, w.setRow g (cur.toList.take (off + l.length * i5.size) ++ flat D bs ++ cur.toList.drop (off + l.length * i5.size + (flat D bs).length)).toArray, ?_, ?_, Fr.row hs _, fun h => by cases h⟩
        · simp [Builtin.append_, run_underlying D.und, sizeOf, typeInfo, hi5, Builtin.lenOf, hroom, hf, Addr.add_lit, hst]
        · have hL : (l ++ bs).length = l.length + n := by rw [List.length_append, hn]
          rw [hz1]
          have hcl : cur.toList.length = cur.size := Array.length_toList
          refine .inr ⟨g, off, cap, _, by rw [hL], .inl hs, setRow_heap w g cur _ D.e _ hg, by omega, hm, ?_, ?_⟩
          · have := (take_app_drop (l := cur.toList) (a := off + l.length * D.m) (b := (flat D bs).length) (flat D bs) (by rw [hcl]; omega) rfl).2.2
            simp only [List.size_toArray]
            rw [this, hcl]
            exact hz
          · show List.take _ (List.drop off (cur.toList.take (off + l.length * D.m) ++ flat D bs ++ cur.toList.drop (off + l.length * D.m + (flat D bs).length))) = _
            rw [List.append_assoc, List.drop_append_of_le_length (by rw [List.length_take, hcl]; omega), List.drop_take, show off + l.length * D.m - off = l.length * D.m by omega, ht, ← List.append_assoc, ← flat_append]
            refine List.take_left' ?_
            rw [flat_length]
      · have holds : ∀ j u, (flat D l)[j]? = some u → w.cell? ((⟨g, off, none⟩ : Addr).add j) = some u := fun j u hu => by
          rw [Addr.add_lit, cell_of_row w g _ cur D.e _ hg]
          exact row_cells ht j u hu
        have hr := run_append_grow (P := Tryz.prog) w D.t s D.e i5 D.z D.und hi5 hz0 ⟨g, off, none⟩ l.length cap (flat D l) (by rw [flat_length, hz1]) holds ad n c (flat D bs) hlf hnews (by omega) (by omega) (growslice_fits (by omega) hby)
        have hgr := grown cap (by omega) _ rfl
        exact ⟨_, _, hr, hgr.1, hgr.2, fun h => by cases h⟩
end
/-- append, for the walk -/
theorem wp_appO {α : Type} (D : CT α) {ops : Array Oper} {rest : List Oper} {o : Oper} {a : Act} {Q : Exit → Act → World → Prop} {w : World} (hgd : o.guard = none) (s x : Operand)
    (ho : o.op = .call { callee := .builtin .append, args := #[s, x], argTypes := #[D.t, D.t] })
    (S H : Nat → Prop) (v : Value) (l : List α) (hs : a.eval s = v) (hown : OwnS D w S v l) (A : Option Addr) (n c : Nat) (bs : List α) (hx : a.eval x = .slice A n c) (hA : A = none → c = 0) (hb : Rd D w H A bs) (hn : bs.length = n) (hnc : n ≤ c)
    (hlen : l.length + n ≤ 1000000)
    (h : ∀ v' w', OwnS D w' (Up S w w') v' (l ++ bs) → Fr S w w' → (v' = .slice none 0 0 → v = .slice none 0 0) → wpList Tryz.prog ops Q rest (a.put o.dst v') w') : wpList Tryz.prog ops Q (o :: rest) a w := by
  obtain ⟨v', w', hr, h1, h2, h3⟩ := append_O (s := o.type) hown hA hb hn hnc hlen
  refine wpList_plain hgd fun K hK => ?_
  unfold Oper.wp
  simp [execOp, ho, resolve, invoke, builtin, hs, hx, hr, Result.andThen]
  exact hK _ _ (h v' w' h1 h2 h3)
end Go.Proofs.YtebacdegjmcnlaaGreat
