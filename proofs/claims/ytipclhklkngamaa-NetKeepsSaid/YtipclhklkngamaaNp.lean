import Derived.Test.YtipclhklkngamaaNo
namespace Go.Proofs.Ytipclhklkngamaa
open Go.RowKit
set_option linter.unusedVariables false

/-- append of letters, as a step of a region that draws its order: the row is newer than B -/
theorem step_appL {ops : Array Oper} {o : Oper} {a : Act} {K : Act → World → Prop} {Q : Exit → Act → World → Prop} {E : Prop} {w : World} (hgd : o.guard = none) (s x : Operand)
    (ho : o.op = .call { callee := .builtin .append, args := #[s, x], argTypes := #[27, 27] })
    (B : Nat) (w0 : World) (v : Value) (l : List Let) (hs : a.eval s = v) (hown : OwnL w B v l) (V : Value) (q : List Let) (P : Nat → Prop) (hx : a.eval x = V) (hq : LsAt w V q P)
    (hlen : l.length + q.length ≤ 1000000) (hb : Below B w0 w) (hB : B ≤ w.heap.size)
    (h : ∀ v' w', Hid (OwnL w' B v' (l ++ q)) → Hid (Below B w0 w') → Hid (w.grownBy w' v.ownBlock) → K (a.put o.dst v') w') : if Region.wanted o (yielded ops a.tmps) = true then Oper.wp Try.prog o a w K Q else E := by
  have hw : Region.wanted o (yielded ops a.tmps) = true := by simp [Region.wanted, hgd]
  rw [if_pos hw]
  obtain ⟨i, hi, hz, hz1, hz2⟩ := info_parts3 info32
  have fin : ∃ v' w', (Builtin.append_ #[27, 27] o.type #[v, V]).run Try.prog w = .ok v' w' ∧ OwnL w' B v' (l ++ q) ∧ w.grownBy w' v.ownBlock := by
    obtain ⟨A, c, rfl, h2, h3, h4, h5⟩ := hq
    cases A with
    | none =>
      have hc0 := h4 rfl
      subst hc0
      obtain rfl : q = [] := List.eq_nil_of_length_eq_zero (by omega)
      refine ⟨v, w, ?_, by rw [List.append_nil]; exact hown, ⟨rfl, rfl, rfl, Nat.le_refl _, fun _ _ _ => rfl⟩⟩
      rcases hown.2 with ⟨rfl, hn⟩ | ⟨g, cap, cur, rfl, hbg, hg, hnc, hcm, _⟩
      · simp [Builtin.append_, run_underlying Try.underlying27, sizeOf, typeInfo, hi, Builtin.lenOf, Builtin.firstCells]
      · simp [Builtin.append_, run_underlying Try.underlying27, sizeOf, typeInfo, hi, Builtin.lenOf, Builtin.firstCells, loadCells, hnc, storeCells]
    | some ad =>
      obtain ⟨v', w', hr, k2, k3, _⟩ := run_append_own (P := Try.prog) w B 27 o.type 32 i _ 3 32 Try.underlying27 hi hz hz1 hz2 rfl (by omega) v l.length (flat l) hown ad q.length c (flat q) (flat_len q) (by
        intro j u hu
        have hne : q ≠ [] := fun e => by rw [e] at hu; simp [flat] at hu
        obtain ⟨g, off, cs, fz, e1, _, e3, e4⟩ := h5 hne
        injection e1 with e1
        subst e1
        have := e4 j u hu
        rw [← cell_of_row w g (off + j) cs 32 fz e3] at this
        unfold Addr.add
        split
        · subst j; simpa using this
        · exact this) (flat_cell q) (by simp only [maxLen]; omega) (by omega) hB
      refine ⟨v', w', hr, ?_, k3⟩
      unfold OwnL
      rw [flat_app, List.length_append]
      exact k2
  obtain ⟨v', w', hr, k1, k2⟩ := fin
  unfold Oper.wp execOp
  simp only [ho, resolve, invoke, builtin, Sem.run_bind, Sem.run_pure, Result.andThen_ok, List.map_toArray, List.map_cons, List.map_nil, hs, hx, hr]
  exact h v' w' (Lib.hid k1) (Lib.hid (hb.grown k2 hB fun k hk => (hown.lt k hk).1)) (Lib.hid k2)
theorem bel_alloc {a w : World} (h : Below a.heap.size a w) (o : Obj) : Below a.heap.size a (w.alloc o) := h.alloc h.size o
theorem hp_new {w : World} {o : Obj} {k : Nat} (h : k = w.heap.size) : (w.alloc o).heap[k]? = some o := by subst h; exact heap_alloc_new w o
theorem hp_old {w : World} {o x : Obj} {k : Nat} (h : w.heap[k]? = some x) : (w.alloc o).heap[k]? = some x := (Lib.alloc_old w o k (Array.getElem?_eq_some_iff.1 h).1).trans h
theorem OwnL.fresh {w : World} {B k : Nat} (hk : w.heap[k]? = some (.cells #[] 32 (0, 0))) (hB : B ≤ k) : OwnL w B (.slice (some ⟨k, 0, none⟩) 0 0) [] :=
  ⟨rfl, .inr ⟨k, 0, #[], rfl, hB, hk, Nat.le_refl _, by decide, rfl, rfl⟩⟩
theorem LsAt.box1 {w : World} {k : Nat} {l : Let} (hk : w.heap[k]? = some (boxL l)) : LsAt w (.slice (some ⟨k, 0, none⟩) 1 1) [l] (fun i => i = k) :=
  ⟨some ⟨k, 0, none⟩, 1, rfl, by simp, by omega, fun q => (by cases q), fun _ => ⟨k, 0, _, (0, 0), rfl, rfl, hk, fun j u hu => by rw [Nat.zero_add]; simpa [flat, cells1] using hu⟩⟩
theorem OwnL.upto {w : World} {B g n c k : Nat} {q : List Let} (h : OwnL w B (.slice (some ⟨g, 0, none⟩) n c) q) (hk : k ≤ q.length) : LsAt w (.slice (some ⟨g, 0, none⟩) k c) (q.take k) (fun i => i = g) := by
  rcases h.2 with ⟨e, _⟩ | ⟨g', cap, cur, e, _, hg, hc, hm, _, ht⟩
  · cases e
  · injection e with e1 e2 e3
    injection e1 with e1
    injection e1 with e1
    subst e1 e3
    simp only [maxLen] at hm
    have hl : (q.take k).length = k := by rw [List.length_take]; omega
    refine ⟨some ⟨g, 0, none⟩, c, by rw [hl], by omega, by omega, fun q => (by cases q), fun _ => ⟨g, 0, cur, (0, 0), rfl, rfl, hg, fun j u hu => ?_⟩⟩
    rw [flat_take, List.getElem?_take] at hu
    split at hu
    · rw [← ht, List.getElem?_take] at hu
      split at hu
      · simpa using hu
      · cases hu
    · cases hu
theorem OwnL.from {w : World} {B g n c k : Nat} {q : List Let} (h : OwnL w B (.slice (some ⟨g, 0, none⟩) n c) q) (hk : k ≤ q.length) (A : Option Addr) (hA : (if c = k then some (⟨g, 0, none⟩ : Addr) else some ⟨g, k * 3, none⟩) = A) : LsAt w (.slice A (q.length - k) (c - k)) (q.drop k) (fun i => i = g) := by
  rcases h.2 with ⟨e, _⟩ | ⟨g', cap, cur, e, _, hg, hc, hm, _, ht⟩
  · cases e
  · injection e with e1 e2 e3
    injection e1 with e1
    injection e1 with e1
    subst e1 e3
    simp only [maxLen] at hm
    have hl : (q.drop k).length = q.length - k := by rw [List.length_drop]
    refine ⟨A, c - k, by rw [hl], by omega, by omega, fun q => ?_, fun hne => ?_⟩
    · rw [← hA] at q; split at q <;> cases q
    · have : k < q.length := by
        by_cases h : k < q.length
        · exact h
        · exact absurd (List.drop_eq_nil_of_le (by omega)) hne
      rw [if_neg (by omega)] at hA
      refine ⟨g, k * 3, cur, (0, 0), hA.symm, rfl, hg, fun j u hu => ?_⟩
      rw [flat_drop, List.getElem?_drop, ← ht, List.getElem?_take] at hu
      split at hu
      · simpa using hu
      · cases hu
theorem same_yes {w : World} {va vb : Value} {q : List Let} {Pa Pb : Nat → Prop} (ha : LsAt w va q Pa) (hb : LsAt w vb q Pb) :
    Calls Try.prog 21 #[va, vb] w fun e w' => e = .returned (.bool true) ∧ Below w.heap.size w w' := by
  have C := same_any ha hb
  rw [show decide (q = q) = true from by simp] at C
  exact C
theorem nc_ways {W w : World} {b : Nat} {N : Net} {H : Nat → Prop} (h : NC W w b N H) :
    Calls Try.prog 20 #[.pointer (some ⟨b, 0, none⟩)] w fun e w' => ∃ A m c, e = .returned (.slice A m c) ∧ OwnL w' w.heap.size (.slice A m c) N.q ∧ Below w.heap.size w w' ∧ NC W w' b N H :=
  (nc_way h).mono fun e w' ⟨A, c, q1, q2, q3, q4⟩ => ⟨A, _, c, q1, q2, q3, q4⟩
end Go.Proofs.Ytipclhklkngamaa
