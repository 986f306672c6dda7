import Derived.Test.YtkhhmpcpcdadaaaFq
namespace Go.Proofs.Ytkhhmpcpcdadaaa
open Go.RowKit
set_option linter.unusedVariables false

theorem info_parts3 {P : Program} {t : TypeId} {z : Value} {n m : Nat} (h : (P.info? t).map (fun i => (i.zero, i.size, i.bytes)) = some (some z, n, m)) : ∃ i, P.info? t = some i ∧ i.zero = some z ∧ i.size = n ∧ i.bytes = m := by
  obtain ⟨i, hi, e⟩ := Option.map_eq_some_iff.1 h
  simp only [Prod.mk.injEq] at e
  exact ⟨i, hi, e.1, e.2.1, e.2.2⟩
theorem OwnB.new (w : World) : OwnB (w.alloc (.cells #[] 5)) w.heap.size (.slice (some ⟨w.heap.size, 0, none⟩) 0 0) [] := World.ownsRow_made w #[] 0 (Nat.le_refl _) (by simp [maxLen]) (by simp)
theorem OwnB.lt {w : World} {base : Nat} {v : Value} {l : List UInt8} (h : OwnB w base v l) : ∀ k, v.ownBlock = some k → base ≤ k ∧ k < w.heap.size := World.ownsRow.lt h
theorem OwnB.keep {w w' : World} {base : Nat} {v : Value} {l : List UInt8} (h : OwnB w base v l) (hk : ∀ g, v.ownBlock = some g → w'.heap[g]? = w.heap[g]?) : OwnB w' base v l := by
  refine ⟨h.1, ?_⟩
  rcases h.2 with q | ⟨g, cap, cur, e, hb, hh, r⟩
  · exact .inl q
  · exact .inr ⟨g, cap, cur, e, hb, (hk g (by rw [e]; rfl)).trans hh, r⟩
theorem info22 : (Try.prog.info? 22).map (fun i => (i.zero, i.size, i.bytes)) = some (some (.slice none 0 0), 1, 24) := by kernel_rfl
/-- a row of slices that the call has built -/
def OwnV (w : World) (base : Nat) (v : Value) (vs : List Value) : Prop := w.ownsRow base 22 1 v vs.length vs
theorem own_kp {w w' : World} {base e size n : Nat} {v : Value} {xs : List Value} (h : w.ownsRow base e size v n xs) (hk : ∀ k, base ≤ k → k < w.heap.size → w'.heap[k]? = w.heap[k]?) : w'.ownsRow base e size v n xs := by
  refine ⟨h.1, ?_⟩
  rcases h.2 with q | ⟨g, cap, cur, q1, hb, hh, r⟩
  · exact .inl q
  · exact .inr ⟨g, cap, cur, q1, hb, (hk g hb (Array.getElem?_eq_some_iff.1 hh).1).trans hh, r⟩
theorem OwnV.at {w : World} {base : Nat} {A : Option Addr} {n c : Nat} {vs : List Value} (h : OwnV w base (.slice A n c) vs) {i : Nat} {v : Value} (hi : vs[i]? = some v) : ∃ g, A = some ⟨g, 0, none⟩ ∧ w.cell? ⟨g, i, none⟩ = some v := by
  rcases h.2 with ⟨_, q⟩ | ⟨g, cap, cur, e, hb, hh, h1, h2, h3, h4⟩
  · have : vs = [] := List.eq_nil_of_length_eq_zero q
    subst this; simp at hi
  · injection e with e1
    refine ⟨g, e1, ?_⟩
    rw [Lib.cell_of_heap hh]
    show cur[i]? = some v
    rw [← Array.getElem?_toList]
    have hl := (List.getElem?_eq_some_iff.1 hi).1
    rw [← h4, List.getElem?_take] at hi
    split at hi
    · exact hi
    · omega
theorem OwnV.form {w : World} {base : Nat} {v : Value} {vs : List Value} (h : OwnV w base v vs) : ∃ A c, v = .slice A vs.length c ∧ vs.length ≤ c ∧ c ≤ 9223372036854775807 := by
  rcases h.2 with ⟨e, q⟩ | ⟨g, cap, cur, e, hb, hh, h1, h2, h3, h4⟩
  · exact ⟨none, 0, by rw [e, q], by omega, by omega⟩
  · exact ⟨_, cap, e, h1, by simp only [maxLen] at h2; omega⟩
theorem OwnV.lt {w : World} {base : Nat} {v : Value} {vs : List Value} (h : OwnV w base v vs) : ∀ k, v.ownBlock = some k → base ≤ k ∧ k < w.heap.size := World.ownsRow.lt h
theorem wp_appV {ops : Array Oper} {rest : List Oper} {o : Oper} {a : Act} {Q : Exit → Act → World → Prop} {w : World} (hgd : o.guard = none) (s x : Operand)
    (ho : o.op = .call { callee := .builtin .append, args := #[s, x], argTypes := #[28, 28] })
    (base : Nat) (v : Value) (vs : List Value) (hs : a.eval s = v) (hown : OwnV w base v vs) (k : Nat) (u : Value) (hu0 : ∃ A n c, u = .slice A n c) (hx : a.eval x = .slice (some ⟨k, 0, none⟩) 1 1)
    (hk : w.heap[k]? = some (.cells #[u] 22 (0, 0)))
    (hlen : vs.length ≤ 1000000) (hbase : base ≤ w.heap.size)
    (h : ∀ v' w', OwnV w' base v' (vs ++ [u]) → w.grownBy w' v.ownBlock → wpList Try.prog ops Q rest (a.put o.dst v') w') : wpList Try.prog ops Q (o :: rest) a w := by
  obtain ⟨i, hi, hz, hz1, hz2⟩ := info_parts3 info22
  refine wpList_append_own w hgd s x 28 ho base 22 i _ 1 24 Try.underlying28 hi hz hz1 hz2 rfl (by omega) v vs.length vs hs hown ⟨k, 0, none⟩ 1 1 [u] hx rfl ?_ ?_ (by simp only [maxLen]; omega) (by omega) hbase ?_
  · intro j y hy
    unfold Addr.add
    have hc : w.cell? ⟨k, j, none⟩ = some y := by
      rw [Lib.cell_of_heap hk]
      rw [← hy]
      show (#[u] : Array Value)[j]? = _
      simp
    split
    · subst j; exact hc
    · simpa using hc
  · intro y hy
    rw [List.mem_singleton] at hy
    subst hy
    obtain ⟨A, n, c, rfl⟩ := hu0
    rfl
  · intro v' w' h2 h3 _
    refine h v' w' ?_ h3
    unfold OwnV
    rw [List.length_append]
    exact h2
theorem OwnB.take {w : World} {base : Nat} {A : Option Addr} {c k : Nat} {l : List UInt8} (h : OwnB w base (.slice A l.length c) l) (hk : k ≤ l.length) : OwnB w base (.slice A k c) (l.take k) := by
  have hl : (l.take k).length = k := by rw [List.length_take]; omega
  unfold OwnB
  rw [hl]
  refine ⟨by simp [vB]; omega, ?_⟩
  rcases h.2 with ⟨e, hn⟩ | ⟨g, cap, cur, e, hb, hh, h1, h2, h3, h4⟩
  · injection e with e1 e2 e3
    subst e1 e3
    have : k = 0 := by omega
    subst this
    exact .inl ⟨rfl, rfl⟩
  · injection e with e1 e2 e3
    subst e1 e3
    refine .inr ⟨g, c, cur, rfl, hb, hh, by omega, h2, h3, ?_⟩
    have e : vB (l.take k) = (vB l).take k := by simp [vB, List.map_take]
    rw [e, ← h4, List.take_take]
    congr 1
    omega
theorem own_mono {w : World} {base base' e size n : Nat} {v : Value} {xs : List Value} (h : w.ownsRow base e size v n xs) (hb : base' ≤ base) : w.ownsRow base' e size v n xs := by
  refine ⟨h.1, ?_⟩
  rcases h.2 with q | ⟨g, cap, cur, e, hg, r⟩
  · exact .inl q
  · exact .inr ⟨g, cap, cur, e, Nat.le_trans hb hg, r⟩
theorem OwnB.mono {w : World} {base base' : Nat} {v : Value} {l : List UInt8} (h : OwnB w base v l) (hb : base' ≤ base) : OwnB w base' v l := own_mono h hb
/-- slices of bytes, one for each of ls -/
def Was (w : World) (base : Nat) (ls : List (List UInt8)) (vs : List Value) : Prop :=
  ls.length = vs.length ∧ ∀ (i : Nat) (l : List UInt8), ls[i]? = some l → ∃ A c, vs[i]? = some (.slice A l.length c) ∧ OwnB w base (.slice A l.length c) l
theorem Was.add {w : World} {base : Nat} {ls : List (List UInt8)} {vs : List Value} (h : Was w base ls vs) {A : Option Addr} {c : Nat} {l : List UInt8} (hl : OwnB w base (.slice A l.length c) l) : Was w base (ls ++ [l]) (vs ++ [.slice A l.length c]) := by
  refine ⟨by simp [h.1], fun i x hx => ?_⟩
  by_cases hi : i < ls.length
  · rw [List.getElem?_append_left hi] at hx
    obtain ⟨A2, c2, q1, q2⟩ := h.2 i x hx
    exact ⟨A2, c2, by rw [List.getElem?_append_left (by rw [← h.1]; exact hi)]; exact q1, q2⟩
  · rw [List.getElem?_append_right (by omega)] at hx
    have e : i - ls.length = 0 := by
      have := (List.getElem?_eq_some_iff.1 hx).1
      simp at this; omega
    rw [e] at hx
    have hx : l = x := by simpa using hx
    subst hx
    have h1 := h.1
    exact ⟨A, c, by rw [List.getElem?_append_right (by omega)]; rw [show i - vs.length = 0 by omega]; rfl, hl⟩
theorem Was.kp {w w' : World} {base : Nat} {ls : List (List UInt8)} {vs : List Value} (h : Was w base ls vs) (hk : ∀ k, base ≤ k → k < w.heap.size → w'.heap[k]? = w.heap[k]?) : Was w' base ls vs :=
  ⟨h.1, fun i l hl => by obtain ⟨A, c, q1, q2⟩ := h.2 i l hl; exact ⟨A, c, q1, own_kp q2 hk⟩⟩
theorem Was.belows {w w' : World} {base : Nat} {ls : List (List UInt8)} {vs : List Value} (h : Was w base ls vs) (hb : Below w.heap.size w w') : Was w' base ls vs := h.kp fun k _ h2 => hb.block k h2
theorem OwnV.belows {w w' : World} {base : Nat} {v : Value} {vs : List Value} (h : OwnV w base v vs) (hb : Below w.heap.size w w') : OwnV w' base v vs := own_kp h fun k _ h2 => hb.block k h2
/-- the row grows: what isn't the row stays -/
theorem OwnB.grown {w w' : World} {base b2 : Nat} {v rv : Value} {l : List UInt8} {vs : List Value} (h : OwnB w base v l) (hr : OwnV w b2 rv vs) (hg : w.grownBy w' rv.ownBlock) : OwnB w' base v l := by
  refine h.keep fun g hg2 => ?_
  refine hg.block g (h.lt g hg2).2 fun e => ?_
  rcases hr.2 with ⟨q, _⟩ | ⟨g3, cap, cur, q, _, hh, _⟩
  · rw [q] at e; cases e
  · rw [q] at e
    injection e with e
    have e : g = g3 := e
    subst e
    rcases h.2 with ⟨q2, _⟩ | ⟨g4, cap4, cur4, q2, _, hh2, _⟩
    · rw [q2] at hg2; cases hg2
    · rw [q2] at hg2
      injection hg2 with hg2
      have e : g4 = g := hg2
      subst e
      rw [hh] at hh2
      injection hh2 with hh2
      injection hh2 with _ e1 _
      cases e1
theorem Was.grown {w w' : World} {base b2 : Nat} {rv : Value} {ls : List (List UInt8)} {vs vs2 : List Value} (h : Was w base ls vs) (hr : OwnV w b2 rv vs2) (hg : w.grownBy w' rv.ownBlock) : Was w' base ls vs :=
  ⟨h.1, fun i l hl => by obtain ⟨A, c, q1, q2⟩ := h.2 i l hl; exact ⟨A, c, q1, q2.grown hr hg⟩⟩

theorem OwnV.none (w : World) (base : Nat) : OwnV w base (.slice none 0 0) [] := ⟨rfl, .inl ⟨rfl, rfl⟩⟩
theorem OwnV.new (w : World) : OwnV (w.alloc (.cells #[] 22)) w.heap.size (.slice (some ⟨w.heap.size, 0, Option.none⟩) 0 0) [] := World.ownsRow_made w #[] 0 (Nat.le_refl _) (by simp [maxLen]) (by simp)
/-! ### rows of bytes that are read -/
def SlAt (w : World) (B : Nat) (v : Value) (l : List UInt8) : Prop := ∃ A c, v = .slice A l.length c ∧ l.length ≤ c ∧ c ≤ 9223372036854775807 ∧ (A = Option.none → c = 0) ∧ BytesAt w B A l
theorem SlAt.keep {w w' : World} {B : Nat} {v : Value} {l : List UInt8} (h : SlAt w B v l) (hk : ∀ q, q < B → w'.heap[q]? = w.heap[q]?) : SlAt w' B v l := by
  obtain ⟨A, c, h1, h2, h3, h4, h5⟩ := h
  exact ⟨A, c, h1, h2, h3, h4, h5.keep hk⟩
theorem SlAt.mono {w : World} {B B' : Nat} {v : Value} {l : List UInt8} (h : SlAt w B v l) (hB : B ≤ B') : SlAt w B' v l := by
  obtain ⟨A, c, h1, h2, h3, h4, h5⟩ := h
  exact ⟨A, c, h1, h2, h3, h4, h5.mono hB⟩
def Rows (w : World) (B : Nat) (ls : List (List UInt8)) (vs : List Value) : Prop := ls.length = vs.length ∧ ∀ (i : Nat) (l : List UInt8), ls[i]? = some l → ∃ v, vs[i]? = some v ∧ SlAt w B v l
theorem Rows.nil (w : World) (B : Nat) : Rows w B [] [] := ⟨rfl, fun i l h => by simp at h⟩
theorem Rows.add {w : World} {B : Nat} {ls : List (List UInt8)} {vs : List Value} (h : Rows w B ls vs) {v : Value} {l : List UInt8} (hl : SlAt w B v l) : Rows w B (ls ++ [l]) (vs ++ [v]) := by
  refine ⟨by simp [h.1], fun i x hx => ?_⟩
  have h1 := h.1
  by_cases hi : i < ls.length
  · rw [List.getElem?_append_left hi] at hx
    obtain ⟨u, q1, q2⟩ := h.2 i x hx
    exact ⟨u, by rw [List.getElem?_append_left (by omega)]; exact q1, q2⟩
  · rw [List.getElem?_append_right (by omega)] at hx
    have e : i - ls.length = 0 := by
      have := (List.getElem?_eq_some_iff.1 hx).1
      simp at this; omega
    rw [e] at hx
    have hx : l = x := by simpa using hx
    subst hx
    exact ⟨v, by rw [List.getElem?_append_right (by omega), show i - vs.length = 0 by omega]; rfl, hl⟩
theorem Rows.keep {w w' : World} {B : Nat} {ls : List (List UInt8)} {vs : List Value} (h : Rows w B ls vs) (hk : ∀ q, q < B → w'.heap[q]? = w.heap[q]?) : Rows w' B ls vs :=
  ⟨h.1, fun i l hl => by obtain ⟨v, q1, q2⟩ := h.2 i l hl; exact ⟨v, q1, q2.keep hk⟩⟩
theorem Rows.mono {w : World} {B B' : Nat} {ls : List (List UInt8)} {vs : List Value} (h : Rows w B ls vs) (hB : B ≤ B') : Rows w B' ls vs :=
  ⟨h.1, fun i l hl => by obtain ⟨v, q1, q2⟩ := h.2 i l hl; exact ⟨v, q1, q2.mono hB⟩⟩
theorem OwnB.slAt {w : World} {base : Nat} {v : Value} {l : List UInt8} (h : OwnB w base v l) : SlAt w w.heap.size v l := by
  obtain ⟨A, c, h1, h2, h3, h4⟩ := h.form
  refine ⟨A, c, h1, h3, h4, fun e => ?_, h2⟩
  subst e
  rcases h.2 with ⟨e, _⟩ | ⟨g, cap, cur, e, _⟩
  · rw [h1] at e; injection e
  · rw [h1] at e; injection e with e; cases e
theorem Was.rows {w : World} {base : Nat} {ls : List (List UInt8)} {vs : List Value} (h : Was w base ls vs) : Rows w w.heap.size ls vs :=
  ⟨h.1, fun i l hl => by obtain ⟨A, c, q1, q2⟩ := h.2 i l hl; exact ⟨_, q1, q2.slAt⟩⟩
/-- a slice of slices of bytes, that is read -/
def RowsAt (w : World) (B : Nat) (A : Option Addr) (ls : List (List UInt8)) : Prop :=
  ls ≠ [] → ∃ b off, A = some ⟨b, off, Option.none⟩ ∧ b < B ∧ ∀ i l, ls[i]? = some l → ∃ v, w.cell? ⟨b, off + i, Option.none⟩ = some v ∧ SlAt w B v l
theorem RowsAt.keep {w w' : World} {B : Nat} {A : Option Addr} {ls : List (List UInt8)} (h : RowsAt w B A ls) (hk : ∀ q, q < B → w'.heap[q]? = w.heap[q]?) : RowsAt w' B A ls := fun hne => by
  obtain ⟨b, off, h1, h2, h3⟩ := h hne
  refine ⟨b, off, h1, h2, fun i l hl => ?_⟩
  obtain ⟨v, q1, q2⟩ := h3 i l hl
  exact ⟨v, (World.cell?_of_block (w := w) (hk b h2)).trans q1, q2.keep hk⟩
theorem RowsAt.mono {w : World} {B B' : Nat} {A : Option Addr} {ls : List (List UInt8)} (h : RowsAt w B A ls) (hB : B ≤ B') : RowsAt w B' A ls := fun hne => by
  obtain ⟨b, off, h1, h2, h3⟩ := h hne
  refine ⟨b, off, h1, by omega, fun i l hl => ?_⟩
  obtain ⟨v, q1, q2⟩ := h3 i l hl
  exact ⟨v, q1, q2.mono hB⟩
theorem RowsAt.take {w : World} {B : Nat} {A : Option Addr} {ls : List (List UInt8)} (h : RowsAt w B A ls) (n : Nat) : RowsAt w B A (ls.take n) := fun hne => by
  obtain ⟨b, off, h1, h2, h3⟩ := h (fun e => hne (by rw [e]; simp))
  refine ⟨b, off, h1, h2, fun j u hu => h3 j u ?_⟩
  rw [List.getElem?_take] at hu
  split at hu
  · exact hu
  · cases hu
theorem OwnV.rowsAt {w : World} {base : Nat} {A : Option Addr} {n c : Nat} {vs : List Value} {ls : List (List UInt8)} (h : OwnV w base (.slice A n c) vs) (hr : Rows w w.heap.size ls vs) : RowsAt w w.heap.size A ls := fun hne => by
  rcases h.2 with ⟨_, q⟩ | ⟨g, cap, cur, e, hb, hh, h1, h2, h3, h4⟩
  · have h1 := hr.1
    exact absurd (List.eq_nil_of_length_eq_zero (by omega)) hne
  · injection e with e1
    refine ⟨g, 0, e1, (Array.getElem?_eq_some_iff.1 hh).1, fun i l hl => ?_⟩
    obtain ⟨v, q1, q2⟩ := hr.2 i l hl
    obtain ⟨g2, e2, e3⟩ := h.at q1
    rw [e1] at e2
    injection e2 with e2
    injection e2 with e2
    subst e2
    exact ⟨v, by rw [Nat.zero_add]; exact e3, q2⟩
end Go.Proofs.Ytkhhmpcpcdadaaa
