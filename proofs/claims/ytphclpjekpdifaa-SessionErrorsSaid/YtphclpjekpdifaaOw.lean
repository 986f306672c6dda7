import Derived.Test.YtphclpjekpdifaaMa
import Derived.Test.YtphclpjekpdifaaNb
import Derived.Laws.AppendOwnNone
import Derived.Maps.AppendAt
import Derived.LoopTactic
import Derived.Deep.RegionHeld3
import Derived.Deep.RegionWith
namespace Go.Proofs.Ytphclpjekpdifaa
set_option maxRecDepth 20000
open Go.RowKit
set_option linter.unusedVariables false
theorem bcell {W w1 : World} (hb : Below W.heap.size W w1) : (∀ b o, b < W.heap.size → w1.cell? ⟨b, o, none⟩ = W.cell? ⟨b, o, none⟩) ∧ (∀ b o, b < W.heap.size → w1.frozen? ⟨b, o, none⟩ = W.frozen? ⟨b, o, none⟩) :=
  ⟨fun b o h => hb.cell (p := ⟨b, o, none⟩) h, fun b o h => hb.frozen (p := ⟨b, o, none⟩) h⟩
theorem lt_of_cell {w : World} {b o : Nat} {v : Value} (h : w.cell? ⟨b, o, none⟩ = some v) : b < w.heap.size := by
  rw [← Nat.not_le]
  intro hn
  rw [World.cell?, Array.getElem?_eq_none hn] at h
  cases h
theorem cellB {w X : World} {B b o : Nat} {v : Value} (h : w.cell? ⟨b, o, none⟩ = some v) (hb : Below B w X) (hl : b < B) : X.cell? ⟨b, o, none⟩ = some v := by rw [← h]; exact hb.cell (p := ⟨b, o, none⟩) hl

theorem rowc7 {w : World} {b : Nat} {a0 a1 a2 a3 a4 a5 a6 : Value} {t : TypeId} (h : w.heap[b]? = some (.cells #[a0, a1, a2, a3, a4, a5, a6] t (0, 0))) :
    w.cell? ⟨b, 0, none⟩ = some a0 ∧ w.cell? ⟨b, 1, none⟩ = some a1 ∧ w.cell? ⟨b, 2, none⟩ = some a2 ∧ w.cell? ⟨b, 3, none⟩ = some a3 ∧ w.cell? ⟨b, 4, none⟩ = some a4 ∧ w.cell? ⟨b, 5, none⟩ = some a5 ∧ w.cell? ⟨b, 6, none⟩ = some a6 ∧ w.frozen? ⟨b, 0, none⟩ = false ∧ w.frozen? ⟨b, 1, none⟩ = false ∧ w.frozen? ⟨b, 2, none⟩ = false ∧ w.frozen? ⟨b, 3, none⟩ = false ∧ w.frozen? ⟨b, 4, none⟩ = false ∧ w.frozen? ⟨b, 5, none⟩ = false ∧ w.frozen? ⟨b, 6, none⟩ = false := by
  refine ⟨?_, ?_, ?_, ?_, ?_, ?_, ?_, ?_, ?_, ?_, ?_, ?_, ?_, ?_⟩
  all_goals first | exact Lib.frozen_of_heap h _ | (rw [Lib.cell_of_heap h]; rfl)
theorem rowc8 {w : World} {b : Nat} {a0 a1 a2 a3 a4 a5 a6 a7 : Value} {t : TypeId} (h : w.heap[b]? = some (.cells #[a0, a1, a2, a3, a4, a5, a6, a7] t (0, 0))) :
    w.cell? ⟨b, 0, none⟩ = some a0 ∧ w.cell? ⟨b, 1, none⟩ = some a1 ∧ w.cell? ⟨b, 2, none⟩ = some a2 ∧ w.cell? ⟨b, 3, none⟩ = some a3 ∧ w.cell? ⟨b, 4, none⟩ = some a4 ∧ w.cell? ⟨b, 5, none⟩ = some a5 ∧ w.cell? ⟨b, 6, none⟩ = some a6 ∧ w.cell? ⟨b, 7, none⟩ = some a7 ∧ w.frozen? ⟨b, 0, none⟩ = false ∧ w.frozen? ⟨b, 1, none⟩ = false ∧ w.frozen? ⟨b, 2, none⟩ = false ∧ w.frozen? ⟨b, 3, none⟩ = false ∧ w.frozen? ⟨b, 4, none⟩ = false ∧ w.frozen? ⟨b, 5, none⟩ = false ∧ w.frozen? ⟨b, 6, none⟩ = false ∧ w.frozen? ⟨b, 7, none⟩ = false := by
  refine ⟨?_, ?_, ?_, ?_, ?_, ?_, ?_, ?_, ?_, ?_, ?_, ?_, ?_, ?_, ?_, ?_⟩
  all_goals first | exact Lib.frozen_of_heap h _ | (rw [Lib.cell_of_heap h]; rfl)
theorem rowc9 {w : World} {b : Nat} {a0 a1 a2 a3 a4 a5 a6 a7 a8 : Value} {t : TypeId} (h : w.heap[b]? = some (.cells #[a0, a1, a2, a3, a4, a5, a6, a7, a8] t (0, 0))) :
    w.cell? ⟨b, 0, none⟩ = some a0 ∧ w.cell? ⟨b, 1, none⟩ = some a1 ∧ w.cell? ⟨b, 2, none⟩ = some a2 ∧ w.cell? ⟨b, 3, none⟩ = some a3 ∧ w.cell? ⟨b, 4, none⟩ = some a4 ∧ w.cell? ⟨b, 5, none⟩ = some a5 ∧ w.cell? ⟨b, 6, none⟩ = some a6 ∧ w.cell? ⟨b, 7, none⟩ = some a7 ∧ w.cell? ⟨b, 8, none⟩ = some a8 ∧ w.frozen? ⟨b, 0, none⟩ = false ∧ w.frozen? ⟨b, 1, none⟩ = false ∧ w.frozen? ⟨b, 2, none⟩ = false ∧ w.frozen? ⟨b, 3, none⟩ = false ∧ w.frozen? ⟨b, 4, none⟩ = false ∧ w.frozen? ⟨b, 5, none⟩ = false ∧ w.frozen? ⟨b, 6, none⟩ = false ∧ w.frozen? ⟨b, 7, none⟩ = false ∧ w.frozen? ⟨b, 8, none⟩ = false := by
  refine ⟨?_, ?_, ?_, ?_, ?_, ?_, ?_, ?_, ?_, ?_, ?_, ?_, ?_, ?_, ?_, ?_, ?_, ?_⟩
  all_goals first | exact Lib.frozen_of_heap h _ | (rw [Lib.cell_of_heap h]; rfl)
structure Fr (S : Nat → Prop) (w w' : World) : Prop where
  os : w'.os = w.os
  tape : w'.tape = w.tape
  output : w'.output = w.output
  size : w.heap.size ≤ w'.heap.size
  block : ∀ k, k < w.heap.size → ¬ S k → w'.heap[k]? = w.heap[k]?
theorem Fr.refl (S : Nat → Prop) (w : World) : Fr S w w := ⟨rfl, rfl, rfl, Nat.le_refl _, fun _ _ _ => rfl⟩
theorem Fr.trans {S S' : Nat → Prop} {a b c : World} (h : Fr S a b) (k : Fr S' b c) (hS : ∀ i, S' i → S i ∨ a.heap.size ≤ i) : Fr S a c :=
  ⟨k.os.trans h.os, k.tape.trans h.tape, k.output.trans h.output, Nat.le_trans h.size k.size, fun i hi hn =>
    (k.block i (Nat.lt_of_lt_of_le hi h.size) (fun q => (hS i q).elim hn (fun q => by omega))).trans (h.block i hi hn)⟩
theorem Fr.drew {S : Nat → Prop} {a w : World} (h : Fr S a w) : Fr S a w.drew := ⟨h.os, h.tape, h.output, h.size, h.block⟩
theorem Fr.alloc {S : Nat → Prop} {a w : World} (h : Fr S a w) (o : Obj) : Fr S a (w.alloc o) :=
  ⟨h.os, h.tape, h.output, by simp; have := h.size; omega, fun k hk hn => (Below.heap_alloc w o k (by have := h.size; omega)).trans (h.block k hk hn)⟩
theorem Fr.setCell {S : Nat → Prop} {a w : World} (h : Fr S a w) {p : Addr} (hp : S p.block ∨ a.heap.size ≤ p.block) (u : Value) : Fr S a (w.setCell p u) :=
  ⟨h.os, h.tape, h.output, by simp [World.setCell]; exact h.size, fun k hk hn => (Below.heap_setCell w p u k (by rintro rfl; exact hp.elim hn (fun q => by omega))).trans (h.block k hk hn)⟩
theorem Fr.grown {S : Nat → Prop} {a w w' : World} {row : Option Nat} (h : Fr S a w) (hg : w.grownBy w' row) (hr : ∀ k, row = some k → S k ∨ a.heap.size ≤ k) : Fr S a w' :=
  ⟨hg.os.trans h.os, hg.tape.trans h.tape, hg.output.trans h.output, Nat.le_trans h.size hg.size, fun k hk hn =>
    (hg.block k (Nat.lt_of_lt_of_le hk h.size) (fun e => (hr k e.symm).elim hn (fun q => by omega))).trans (h.block k hk hn)⟩
theorem Fr.of_below {S : Nat → Prop} {a b : World} (h : Below a.heap.size a b) : Fr S a b := ⟨h.os, h.tape, h.output, h.size, fun k hk _ => h.block k hk⟩
theorem Fr.below {S : Nat → Prop} {a b : World} (h : Fr S a b) {B : Nat} (hB : B ≤ a.heap.size) (hS : ∀ k, S k → B ≤ k) : Below B a b :=
  ⟨h.os, h.tape, h.output, h.size, fun k hk => h.block k (by omega) (fun q => by have := hS k q; omega)⟩
theorem Fr.mono {S S' : Nat → Prop} {a b : World} (h : Fr S a b) (hS : ∀ k, S k → S' k) : Fr S' a b := ⟨h.os, h.tape, h.output, h.size, fun k hk hn => h.block k hk (fun q => hn (hS k q))⟩

/-! ### rows of structs: own ones, and such as are read -/
/-- how a thing lies in cells: its cells, how many; its type, its slice's type -/
structure CT (α : Type) where
  C : α → List Value
  m : Nat
  e : TypeId
  t : TypeId
  z : Value
  by_ : Nat
  len : ∀ x, (C x).length = m
  one : ∀ x, ∀ u ∈ C x, u.oneCell' = true
  pos : 0 < m
  small : m ≤ 20
  zs : z.cells.size = m
  bsmall : by_ ≤ 200
  info : (Try.prog.info? e).map (fun i => (i.zero, i.size, i.bytes)) = some (some z, m, by_)
  und : Try.prog.underlying t = some (.slice e)
def flat {α : Type} (D : CT α) : List α → List Value
  | [] => []
  | x :: r => D.C x ++ flat D r
theorem flat_length {α : Type} (D : CT α) : ∀ L : List α, (flat D L).length = L.length * D.m
  | [] => by simp [flat]
  | x :: r => by rw [flat, List.length_append, flat_length D r, List.length_cons, D.len, Nat.succ_mul, Nat.add_comm]
theorem flat_append {α : Type} (D : CT α) : ∀ a b : List α, flat D (a ++ b) = flat D a ++ flat D b
  | [], b => rfl
  | x :: r, b => by rw [List.cons_append, flat, flat, flat_append D r b, List.append_assoc]
theorem flat_one {α : Type} (D : CT α) : ∀ L : List α, ∀ u ∈ flat D L, u.oneCell' = true
  | [], u, h => by cases h
  | x :: r, u, h => by
    rw [flat, List.mem_append] at h
    rcases h with h | h
    · exact D.one x u h
    · exact flat_one D r u h
theorem flat_at {α : Type} (D : CT α) : ∀ (L : List α) (j : Nat) (u : Value), (flat D L)[j]? = some u → ∃ i q x, L[i]? = some x ∧ q < D.m ∧ j = i * D.m + q ∧ (D.C x)[q]? = some u
  | [], j, u, h => by simp [flat] at h
  | x :: r, j, u, h => by
    rw [flat, List.getElem?_append] at h
    split at h
    · rename_i hj
      rw [D.len] at hj
      exact ⟨0, j, x, rfl, hj, by omega, h⟩
    · rename_i hj
      rw [D.len] at h hj
      obtain ⟨i, q, y, h1, h2, h3, h4⟩ := flat_at D r _ u h
      exact ⟨i + 1, q, y, h1, h2, by rw [Nat.succ_mul]; omega, h4⟩
theorem flat_get {α : Type} (D : CT α) : ∀ (L : List α) (i : Nat) (x : α), L[i]? = some x → ∀ q u, (D.C x)[q]? = some u → (flat D L)[i * D.m + q]? = some u
  | [], i, x, h => by simp at h
  | y :: r, 0, x, h => by
    intro q u hu
    obtain rfl : y = x := by simpa using h
    have hq : q < (D.C y).length := (List.getElem?_eq_some_iff.1 hu).1
    rw [flat, Nat.zero_mul, Nat.zero_add, List.getElem?_append_left hq]
    exact hu
  | y :: r, i + 1, x, h => by
    intro q u hu
    rw [flat, List.getElem?_append_right (by rw [D.len, Nat.succ_mul]; omega), D.len, show (i + 1) * D.m + q - D.m = i * D.m + q by rw [Nat.succ_mul]; omega]
    exact flat_get D r i x (by simpa using h) q u hu
/-- a slice that reads as a list -/
def Rws {α : Type} (D : CT α) (w : World) (B : Nat) (A : Option Addr) (L : List α) : Prop :=
  L ≠ [] → ∃ b off, A = some ⟨b, off, none⟩ ∧ b < B ∧ ∀ (i : Nat) (x : α), L[i]? = some x → ∀ q u, (D.C x)[q]? = some u → w.cell? ⟨b, off + i * D.m + q, none⟩ = some u
theorem Rws.on {α : Type} {D : CT α} {w w' : World} {B : Nat} {A : Option Addr} {L : List α} (h : Rws D w B A L) (hb : Below B w w') : Rws D w' B A L := fun hne => by
  obtain ⟨b, off, h1, h2, h3⟩ := h hne
  exact ⟨b, off, h1, h2, fun i x hx q u hu => (hb.cell (p := ⟨b, off + i * D.m + q, none⟩) h2).trans (h3 i x hx q u hu)⟩
theorem Rws.mono {α : Type} {D : CT α} {w : World} {B B' : Nat} {A : Option Addr} {L : List α} (h : Rws D w B A L) (hB : B ≤ B') : Rws D w B' A L := fun hne => by
  obtain ⟨b, off, h1, h2, h3⟩ := h hne
  exact ⟨b, off, h1, by omega, h3⟩
theorem Rws.nil {α : Type} (D : CT α) (w : World) (B : Nat) (A : Option Addr) : Rws D w B A [] := fun h => absurd rfl h
theorem Rws.at_ {α : Type} {D : CT α} {w : World} {B : Nat} {A : Option Addr} {L : List α} (h : Rws D w B A L) {i : Nat} {x : α} (hx : L[i]? = some x) :
    ∃ b off, A = some ⟨b, off, none⟩ ∧ b < B ∧ ∀ q u, (D.C x)[q]? = some u → w.cell? ⟨b, off + i * D.m + q, none⟩ = some u := by
  obtain ⟨b, off, h1, h2, h3⟩ := h (fun e => by rw [e] at hx; simp at hx)
  exact ⟨b, off, h1, h2, h3 i x hx⟩
/-- a slice of one's own -/
def Own {α : Type} (D : CT α) (w : World) (base : Nat) (v : Value) (L : List α) : Prop := w.ownsRow base D.e D.m v L.length (flat D L)
theorem Own.nil {α : Type} (D : CT α) (w : World) (base : Nat) : Own D w base (.slice none 0 0) [] := World.ownsRow_nil _ _ _ _
theorem Own.mono {α : Type} {D : CT α} {w : World} {base base' : Nat} {v : Value} {L : List α} (h : Own D w base v L) (hb : base' ≤ base) : Own D w base' v L := by
  refine ⟨h.1, ?_⟩
  rcases h.2 with hn | ⟨g, cap, cur, rfl, hg, r⟩
  · exact .inl hn
  · exact .inr ⟨g, cap, cur, rfl, by omega, r⟩
theorem Own.keep {α : Type} {D : CT α} {w w' : World} {base : Nat} {v : Value} {L : List α} (h : Own D w base v L) (hk : ∀ g, v.ownBlock = some g → w'.heap[g]? = w.heap[g]?) : Own D w' base v L := by
  refine ⟨h.1, ?_⟩
  rcases h.2 with hn | ⟨g, cap, cur, rfl, hg, hgg, r⟩
  · exact .inl hn
  · exact .inr ⟨g, cap, cur, rfl, hg, (hk g rfl).trans hgg, r⟩
theorem Own.lt {α : Type} {D : CT α} {w : World} {base : Nat} {v : Value} {L : List α} (h : Own D w base v L) {g : Nat} (hg : v.ownBlock = some g) : base ≤ g ∧ g < w.heap.size := by
  rcases h.2 with ⟨rfl, hn⟩ | ⟨g', cap, cur, rfl, hg', hgg, r⟩
  · cases hg
  · obtain rfl : g' = g := by simpa [Value.ownBlock] using hg
    exact ⟨hg', (Array.getElem?_eq_some_iff.1 hgg).1⟩
theorem Own.below {α : Type} {D : CT α} {w w' : World} {base : Nat} {v : Value} {L : List α} (h : Own D w base v L) (hb : Below w.heap.size w w') : Own D w' base v L :=
  h.keep fun g hg => hb.block g (h.lt hg).2
theorem Own.form {α : Type} {D : CT α} {w : World} {base : Nat} {v : Value} {L : List α} (h : Own D w base v L) : ∃ A cap, v = .slice A L.length cap ∧ Rws D w w.heap.size A L ∧ L.length ≤ cap ∧ cap ≤ 9223372036854775807 ∧ (A = none → cap = 0) := by
  have h0 := h
  rcases h.2 with ⟨rfl, hn⟩ | ⟨g, cap, cur, rfl, hb, hh, hc, hm, _⟩
  · have : L = [] := List.eq_nil_of_length_eq_zero hn
    subst this
    exact ⟨none, 0, rfl, fun h => absurd rfl h, by simp, by omega, fun _ => rfl⟩
  · refine ⟨some ⟨g, 0, none⟩, cap, rfl, fun hne => ⟨g, 0, rfl, (Array.getElem?_eq_some_iff.1 hh).1, fun j n hn q u hu => ?_⟩, hc, by simp only [maxLen] at hm; omega, fun h => by cases h⟩
    have := h0.cells (g := g) rfl (j * D.m + q) u (flat_get D L j n hn q u hu)
    unfold Addr.add at this
    split at this
    · rename_i e
      rw [Nat.zero_add, e]
      exact this
    · rw [Nat.zero_add]
      simpa using this
/-- where the cells lie in a block that is known -/
theorem Own.row {α : Type} {D : CT α} {w : World} {base : Nat} {v : Value} {L : List α} (h : Own D w base v L) (hne : L ≠ []) : ∃ g cap, v = .slice (some ⟨g, 0, none⟩) L.length cap ∧ base ≤ g ∧ g < w.heap.size ∧ v.ownBlock = some g := by
  rcases h.2 with ⟨rfl, hn⟩ | ⟨g, cap, cur, rfl, hb, hh, hc, hm, _⟩
  · exact absurd (List.eq_nil_of_length_eq_zero hn) hne
  · exact ⟨g, cap, rfl, hb, (Array.getElem?_eq_some_iff.1 hh).1, rfl⟩
theorem append_rows {α : Type} {D : CT α} {w : World} {s : Nat} {base : Nat} {v : Value} {l : List α} (hown : Own D w base v l) {A : Option Addr} {n c B : Nat} {bs : List α} (hA : A = none → c = 0) (hb : Rws D w B A bs) (hn : bs.length = n) (hnc : n ≤ c) (hlen : l.length + n ≤ 1000000) (hbase : base ≤ w.heap.size) :
    ∃ v' w', (Builtin.append_ #[D.t, D.t] s #[v, .slice A n c]).run Try.prog w = .ok v' w' ∧ Own D w' base v' (l ++ bs) ∧ w.grownBy w' v.ownBlock ∧ (v'.ownBlock = v.ownBlock ∨ v'.ownBlock = some w.heap.size) := by
  obtain ⟨i5, hi5, hz0, hz1, hz2⟩ := info_parts D.info
  have hsm := D.small
  have hbs2 := D.bsmall
  cases A with
  | none =>
    have hc0 := hA rfl
    subst hc0
    obtain rfl : n = 0 := by omega
    have hbs : bs = [] := List.eq_nil_of_length_eq_zero hn
    subst hbs
    refine ⟨v, w, ?_, by rw [List.append_nil]; exact hown, ⟨rfl, rfl, rfl, Nat.le_refl _, fun _ _ _ => rfl⟩, .inl rfl⟩
    rcases hown.2 with ⟨rfl, hn⟩ | ⟨g, cap, cur, rfl, hbg, hg, hnc, hcm, _⟩
    · simp [Builtin.append_, run_underlying D.und, sizeOf, typeInfo, hi5, Builtin.lenOf, Builtin.firstCells]
    · simp [Builtin.append_, run_underlying D.und, sizeOf, typeInfo, hi5, Builtin.lenOf, Builtin.firstCells, loadCells, hnc, storeCells]
  | some ad =>
    obtain ⟨v', w', hr, k2, k3, k4⟩ := run_append_own_at (P := Try.prog) w base D.t s D.e i5 _ D.m D.by_ D.und hi5 hz0 hz1 hz2 D.zs D.pos v l.length (flat D l) hown ad n c (flat D bs) (by rw [flat_length, hn]) (by
      intro j u hu
      have hne : bs ≠ [] := fun e => by rw [e] at hu; simp [flat] at hu
      obtain ⟨b, off, h1, _, h3⟩ := hb hne
      injection h1 with h1
      subst h1
      obtain ⟨i, q, y, hy, hq, rfl, hu2⟩ := flat_at D bs j u hu
      have := h3 i y hy q u hu2
      unfold Addr.add
      split
      · rename_i e
        rw [show off + i * D.m + q = off by omega] at this
        exact this
      · rw [Nat.add_assoc] at this
        exact this) (flat_one D _) (by simp only [maxLen]; omega) (by
        have h1 : (l.length + n) * D.by_ ≤ 1000000 * 200 := Nat.mul_le_mul hlen hbs2
        omega) hbase
    refine ⟨v', w', hr, ?_, k3, k4.2⟩
    unfold Own
    rw [flat_append, List.length_append, hn]
    exact k2
/-- append of things that stand in memory, or of none -/
theorem wp_appX {α : Type} (D : CT α) {ops : Array Oper} {rest : List Oper} {o : Oper} {a : Act} {Q : Exit → Act → World → Prop} {w : World} (hgd : o.guard = none) (s x : Operand)
    (ho : o.op = .call { callee := .builtin .append, args := #[s, x], argTypes := #[D.t, D.t] })
    (base : Nat) (v : Value) (l : List α) (hs : a.eval s = v) (hown : Own D w base v l) (A : Option Addr) (n c B : Nat) (bs : List α) (hx : a.eval x = .slice A n c) (hA : A = none → c = 0) (hb : Rws D w B A bs) (hn : bs.length = n) (hnc : n ≤ c)
    (hlen : l.length + n ≤ 1000000) (hbase : base ≤ w.heap.size)
    (h : ∀ v' w', Own D w' base v' (l ++ bs) → w.grownBy w' v.ownBlock → (v'.ownBlock = v.ownBlock ∨ v'.ownBlock = some w.heap.size) → wpList Try.prog ops Q rest (a.put o.dst v') w') : wpList Try.prog ops Q (o :: rest) a w := by
  obtain ⟨v', w', hr, h1, h2, h3⟩ := append_rows (s := o.type) hown hA hb hn hnc hlen hbase
  refine wpList_plain hgd fun K hK => ?_
  unfold Oper.wp
  simp [execOp, ho, resolve, invoke, builtin, hs, hx, hr, Result.andThen]
  exact hK _ _ (h v' w' h1 h2 h3)
/-- the same as a step of a region that draws -/
theorem step_appX {α : Type} (D : CT α) {ops : Array Oper} {o : Oper} {a : Act} {K : Act → World → Prop} {Q : Exit → Act → World → Prop} {E : Prop} {w : World} (hgd : o.guard = none) (s x : Operand)
    (ho : o.op = .call { callee := .builtin .append, args := #[s, x], argTypes := #[D.t, D.t] })
    (base : Nat) (v : Value) (l : List α) (hs : a.eval s = v) (hown : Own D w base v l) (A : Option Addr) (n c B : Nat) (bs : List α) (hx : a.eval x = .slice A n c) (hA : A = none → c = 0) (hb : Rws D w B A bs) (hn : bs.length = n) (hnc : n ≤ c)
    (hlen : l.length + n ≤ 1000000) (hbase : base ≤ w.heap.size)
    (h : ∀ v' w', Hid (Own D w' base v' (l ++ bs)) → Hid (w.grownBy w' v.ownBlock) → Hid (v'.ownBlock = v.ownBlock ∨ v'.ownBlock = some w.heap.size) → K (a.put o.dst v') w') : if Region.wanted o (yielded ops a.tmps) = true then Oper.wp Try.prog o a w K Q else E := by
  have hw : Region.wanted o (yielded ops a.tmps) = true := by simp [Region.wanted, hgd]
  rw [if_pos hw]
  obtain ⟨v', w', hr, h1, h2, h3⟩ := append_rows (s := o.type) hown hA hb hn hnc hlen hbase
  unfold Oper.wp execOp
  simp only [ho, resolve, invoke, builtin, Sem.run_bind, Sem.run_pure, Result.andThen_ok, List.map_toArray, List.map_cons, List.map_nil, hs, hx, hr]
  exact h v' w' (Lib.hid h1) (Lib.hid h2) (Lib.hid h3)
/-- one thing in a block of its own -/
theorem Rws.box {α : Type} {D : CT α} {w : World} {g : Nat} {x : α} {fz : Nat × Nat} (hg : w.heap[g]? = some (.cells (D.C x).toArray D.e fz)) : Rws D w w.heap.size (some ⟨g, 0, none⟩) [x] := fun _ => by
  refine ⟨g, 0, rfl, (Array.getElem?_eq_some_iff.1 hg).1, fun i y hy q u hu => ?_⟩
  match i, hy with
  | 0, hy =>
    obtain rfl : x = y := by simpa using hy
    rw [Nat.zero_mul, Nat.zero_add]
    simp only [World.cell?, hg]
    simpa using hu
  | i + 1, hy => simp at hy
end Go.Proofs.Ytphclpjekpdifaa
