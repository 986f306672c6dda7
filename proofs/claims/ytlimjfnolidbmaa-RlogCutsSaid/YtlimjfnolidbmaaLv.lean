import Derived.Test.YtlimjfnolidbmaaKn
namespace Go.Proofs.Ytlimjfnolidbmaa
set_option maxRecDepth 20000
open Go.RowKit RL
set_option linter.unusedVariables false
/-! ### a log that is new since a world, and blocks that are held beside it -/
structure Lv (w0 w : World) (b : Nat) (T : Lg) (S H : Nat → Prop) : Prop where
  log : Log w b T S
  low : ∀ k, S k → w0.heap.size ≤ k
  bel : Below w0.heap.size w0 w
  inv : Inv T
  hd : ∀ k, H k → k < w.heap.size ∧ ¬ S k
theorem new_yes {w : World} {H : Nat → Prop} {A : Option Addr} {n c : Nat} {L : List En} {i t : Int} (hr : Rd DE w H A L) (hn : L.length = n) (hc : n ≤ c) (hA : A = none → c = 0) (hl : n ≤ 1000000) (h : 0 ≤ i ∧ 0 ≤ t ∧ i ≤ 4611686018427387904 - (L.length : Int)) : Calls Try.prog 10 #[.int .i64 i, .int .i64 t, .slice A n c] w fun e w' => ∃ b, e = .returned (.pointer (some ⟨b, 0, none⟩)) ∧ Log w' b ⟨i, t, L⟩ (fun k => w.heap.size ≤ k ∧ k < w'.heap.size) ∧ Below w.heap.size w w' :=
  (new_any i t hr hn hc hA hl).mono fun e w' ⟨hb, hx⟩ => by
    rcases hx with ⟨_, b, h1, h2⟩ | ⟨hno, _⟩
    · exact ⟨b, h1, h2, hb⟩
    · exact absurd h hno
theorem new_no {w : World} {H : Nat → Prop} {A : Option Addr} {n c : Nat} {L : List En} {i t : Int} (hr : Rd DE w H A L) (hn : L.length = n) (hc : n ≤ c) (hA : A = none → c = 0) (hl : n ≤ 1000000) (h : ¬ (0 ≤ i ∧ 0 ≤ t ∧ i ≤ 4611686018427387904 - (L.length : Int))) : Calls Try.prog 10 #[.int .i64 i, .int .i64 t, .slice A n c] w (RetBelow (.pointer none) w) :=
  (new_any i t hr hn hc hA hl).mono fun e w' ⟨hb, hx⟩ => by
    rcases hx with ⟨hy, _⟩ | ⟨_, h1⟩
    · exact absurd hy h
    · exact ⟨h1, hb⟩
theorem Rd.lit {α : Type} {D : CT α} {w : World} {H : Nat → Prop} {g : Nat} {L : List α} {t : TypeId} {fz : Nat × Nat} (hg : w.heap[g]? = some (.cells (flat D L).toArray t fz)) (hH : H g) : Rd D w H (some ⟨g, 0, none⟩) L := fun _ =>
  ⟨g, 0, rfl, hH, (Array.getElem?_eq_some_iff.1 hg).1, fun i x hx q u hu => by
    rw [cell_of_row w g _ _ _ _ hg, Nat.zero_add]
    simpa using flat_get D L i x hx q u hu⟩
section
variable {w0 w w' : World} {b : Nat} {T T' : Lg} {S H : Nat → Prop}
theorem Lv.begin {wA : World} (hb : Below w0.heap.size w0 wA) (hb2 : Below wA.heap.size wA w) (h : Log w b T (fun k => wA.heap.size ≤ k ∧ k < w.heap.size)) (hI : Inv T) (hH : ∀ k, H k → k < wA.heap.size) : Lv w0 w b T (fun k => wA.heap.size ≤ k ∧ k < w.heap.size) H :=
  ⟨h, fun k q => Nat.le_trans hb.size q.1, hb.trans (hb2.mono hb.size), hI, fun k q => ⟨Nat.lt_of_lt_of_le (hH k q) hb2.size, fun q2 => by have := hH k q; have := q2.1; omega⟩⟩
theorem Lv.step (h : Lv w0 w b T S H) (hb : Below w.heap.size w w') : Lv w0 w' b T S H :=
  ⟨h.log.below hb, h.low, h.bel.trans (hb.mono h.bel.size), h.inv, fun k q => ⟨Nat.lt_of_lt_of_le (h.hd k q).1 hb.size, (h.hd k q).2⟩⟩
theorem Lv.hold (h : Lv w0 w b T S H) (hb : Below w.heap.size w w') : Lv w0 w' b T S (fun k => H k ∨ (w.heap.size ≤ k ∧ k < w'.heap.size)) :=
  ⟨h.log.below hb, h.low, h.bel.trans (hb.mono h.bel.size), h.inv, fun k q => by
    rcases q with q | q
    · exact ⟨Nat.lt_of_lt_of_le (h.hd k q).1 hb.size, (h.hd k q).2⟩
    · exact ⟨q.2, fun q2 => by have := h.log.lt k q2; omega⟩⟩
theorem Lv.to (h : Lv w0 w b T S H) (hl : LogTo w w' b T' S) (hI : Inv T') : ∃ S', Lv w0 w' b T' S' H ∧ Fr S w w' := by
  obtain ⟨S', h1, h2, h3⟩ := hl
  refine ⟨S', ⟨h1, fun k q => ?_, h.bel.trans (h3.below h.bel.size h.low), hI, fun k q => ⟨Nat.lt_of_lt_of_le (h.hd k q).1 h3.size, fun q2 => ?_⟩⟩, h3⟩
  · rcases h2 k q with q | q
    · exact h.low k q
    · exact Nat.le_trans h.bel.size q.1
  · rcases h2 k q2 with q2 | q2
    · exact (h.hd k q).2 q2
    · have := (h.hd k q).1; have := q2.1; omega
theorem Lv.rd {α : Type} {D : CT α} {A : Option Addr} {L : List α} (h : Lv w0 w b T S H) (hf : Fr S w w') (hr : Rd D w H A L) : Rd D w' H A L := hr.fr hf fun k q => (h.hd k q).2
end
theorem inv_move {T : Lg} (h : Inv T) {k t : Int} (hk : T.i ≤ k) (hM : k ≤ 4611686018427387904) (ht : I64 t) : Inv (T.move k t) := by
  unfold Lg.move
  refine ⟨by have := h.i0; show 0 ≤ k; omega, ?_, ht, fun x hx => h.all x (List.mem_of_mem_drop hx), ?_⟩
  · simp only [List.length_drop]
    have := h.iM
    omega
  · simp only [List.length_drop]
    have := h.len
    omega
theorem inv_cut {T : Lg} (h : Inv T) (k : Int) : Inv (T.cut k).1 := by
  unfold Lg.cut
  cases ht : T.term k with
  | none => exact h
  | some t =>
    obtain ⟨h1, h2⟩ := term_known.1 ⟨t, ht⟩
    refine inv_move h h1 ?_ (term_ok h ht)
    have := h.iM
    unfold Lg.last at h2
    omega
theorem inv_reset {T : Lg} (h : Inv T) (k : Int) {t : Int} (ht : I64 t) : Inv (T.reset k t).1 := by
  unfold Lg.reset
  split
  · exact h
  · rename_i q
    split
    · exact inv_move h (by omega) (by omega) ht
    · exact inv_move (inv_empty h) (by show T.i ≤ k; omega) (by omega) ht
section
variable {w0 w : World} {b : Nat} {T : Lg} {S H : Nat → Prop}
theorem put_lv (h : Lv w0 w b T S H) {A : Option Addr} {n c : Nat} {l : List En} (hr : Rd DE w H A l) (hn : l.length = n) (hc : n ≤ c) (hc2 : c ≤ 9223372036854775807) (hl : T.L.length + n ≤ 400000) {p t : Int} (hp : I64 p) (ho : ∀ x ∈ l, I64 x.t) : Calls Try.prog 13 #[.pointer (some ⟨b, 0, none⟩), .int .i64 p, .int .i64 t, .slice A n c] w fun e w' => e = .returned (.tuple #[.int .i64 (T.put p t l).2.1, .int .i64 (T.put p t l).2.2]) ∧ ∃ S', Lv w0 w' b (T.put p t l).1 S' H ∧ Fr S w w' :=
  (put_any h.log h.inv hr hn hc hc2 (by omega) hp fun k q => (h.hd k q).2).mono fun e w' ⟨h1, h2⟩ => ⟨h1, h.to h2 (inv_put2 h.inv ho (by omega))⟩
theorem cut_lv (h : Lv w0 w b T S H) {k : Int} (hk : I64 k) : Calls Try.prog 15 #[.pointer (some ⟨b, 0, none⟩), .int .i64 k] w fun e w' => e = .returned (.int .i64 (T.cut k).2) ∧ ∃ S', Lv w0 w' b (T.cut k).1 S' H ∧ Fr S w w' :=
  (cut_any h.log h.inv hk).mono fun e w' ⟨h1, h2⟩ => ⟨h1, h.to h2 (inv_cut h.inv k)⟩
theorem reset_lv (h : Lv w0 w b T S H) {k t : Int} (hk : I64 k) (ht : I64 t) : Calls Try.prog 17 #[.pointer (some ⟨b, 0, none⟩), .int .i64 k, .int .i64 t] w fun e w' => e = .returned (.bool (T.reset k t).2) ∧ ∃ S', Lv w0 w' b (T.reset k t).1 S' H ∧ Fr S w w' :=
  (reset_any h.log h.inv hk).mono fun e w' ⟨h1, h2⟩ => ⟨h1, h.to h2 (inv_reset h.inv k ht)⟩
/-- what is told of a log: a slice that is held from then on -/
theorem from_lv (h : Lv w0 w b T S H) {k n : Int} (hk : I64 k) (hn : I64 n) : Calls Try.prog 24 #[.pointer (some ⟨b, 0, none⟩), .int .i64 k, .int .i64 n] w fun e w' => ∃ A cap, e = .returned (.slice A (T.from_ k n).length cap) ∧ (T.from_ k n).length ≤ cap ∧ cap ≤ 9223372036854775807 ∧ (A = none → cap = 0) ∧ (A = none ∨ ∃ q o, A = some ⟨q, o, none⟩) ∧ Rd DE w' (fun k => H k ∨ (w.heap.size ≤ k ∧ k < w'.heap.size)) A (T.from_ k n) ∧ Lv w0 w' b T S (fun k => H k ∨ (w.heap.size ≤ k ∧ k < w'.heap.size)) ∧ Below w.heap.size w w' :=
  (from_any h.log h.inv hk hn).mono fun e w' ⟨A, cap, h1, h2, h3⟩ => by
    have h2' : OwnS DE w' (fun k => w.heap.size ≤ k) (.slice A (T.from_ k n).length cap) (T.from_ k n) := h2
    obtain ⟨A2, c2, he, hr, h4, h5, h6⟩ := h2.form
    injection he with e1 e2 e3
    subst e1 e3
    refine ⟨A, cap, h1, h4, h5, fun q => (h6 q).1, ?_, hr.mono fun k hk q => .inr ⟨q, hk⟩, h.hold h3, h3⟩
    rcases h2' with ⟨e, _⟩ | ⟨g, off, cap', cur, e, _⟩
    · injection e with e1; exact .inl e1
    · injection e with e1; exact .inr ⟨g, off, e1⟩
end
end Go.Proofs.Ytlimjfnolidbmaa
