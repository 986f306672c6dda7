import Derived.Test.YtipclhklkngamaaNr
namespace Go.Proofs.Ytipclhklkngamaa
open Go.RowKit
set_option linter.unusedVariables false

theorem lits_int {d : Nat} {u : Value} {ls : List Lit} (h : Try.prog.keyLits (d + 1) 3 [u] = some ls) : ∃ n, u = .int .i64 n ∧ (Lit.int .i64 n).wf = true := by
  unfold Program.keyLits at h
  rw [Try.underlying3] at h
  cases u <;> simp at h
  rename_i q n
  exact ⟨n, by rw [h.1.1], h.1.2⟩
theorem lits_str {d : Nat} {u : Value} {ls : List Lit} (h : Try.prog.keyLits (d + 1) 9 [u] = some ls) : ∃ s, u = .string s ∧ s.size ≤ maxLen := by
  unfold Program.keyLits at h
  rw [Try.underlying9] at h
  cases u <;> simp at h
  exact ⟨_, rfl, h.1⟩
theorem key_inv {x : Value} {k : Lit} (h : keyOf Try.prog 32 x = some k) : ∃ l, x = letV l ∧ Good l := by
  have h32 : 32 < Try.prog.types.size := of_decide_eq_true (by kernel_rfl)
  obtain ⟨d, hd⟩ : ∃ d, Try.prog.types.size = d + 1 := ⟨_, (Nat.succ_pred_eq_of_pos (by omega)).symm⟩
  unfold keyOf at h
  rw [Try.underlying32, hd] at h
  dsimp only at h
  split at h
  · rename_i hc
    rw [Bool.and_eq_true] at hc
    obtain ⟨_, hf⟩ := hc
    have hf2 : ∃ cs : Array Value, x = .agg cs ∧ cs.size = 3 := by
      unfold Value.formed at hf
      rw [Try.underlying32, cells32] at hf
      cases x <;> simp at hf
      exact ⟨_, rfl, hf⟩
    obtain ⟨cs, rfl, hs⟩ := hf2
    obtain ⟨cs⟩ := cs
    match cs, hs with
    | [u0, u1, u2], _ =>
      rw [Option.map_eq_some_iff] at h
      obtain ⟨ls, h1, _⟩ := h
      have h1 : Try.prog.keyLits (d + 1 + 1) 32 [u0, u1, u2] = some ls := h1
      unfold Program.keyLits at h1
      rw [Try.underlying32] at h1
      simp [cells32, cells3, cells9] at h1
      cases e0 : Try.prog.keyLits (d + 1) 3 [u0] with
      | none => rw [e0] at h1; cases h1
      | some a0 =>
        cases e1 : Try.prog.keyLits (d + 1) 3 [u1] with
        | none => rw [e0, e1] at h1; simp at h1
        | some a1 =>
          cases e2 : Try.prog.keyLits (d + 1) 9 [u2] with
          | none => rw [e0, e1, e2] at h1; simp at h1
          | some a2 =>
            obtain ⟨f, rfl, w0⟩ := lits_int e0
            obtain ⟨t, rfl, w1⟩ := lits_int e1
            obtain ⟨b, rfl, w2⟩ := lits_str e2
            exact ⟨⟨f, t, b⟩, rfl, ⟨(wf64 w0).1, (wf64 w0).2, (wf64 w1).1, (wf64 w1).2⟩, w2⟩
  · cases h
abbrev Rng (w : World) (m r k : Nat) (D : DataW Value) (left : Lit → Bool) (cnt : Nat) : Prop := w.ranges Try.prog 32 RI m r k D left cnt
/-- a step of the range over a map in which every number is 0 -/
theorem wp_next_zero {ops : Array Oper} {rest : List Oper} {o : Oper} {a : Act} {Q : Exit → Act → World → Prop} {w : World} (hg : o.guard = none) (it : Operand) (hop : o.op = Op.next it false) (m r k : Nat) (D : DataW Value) (left : Lit → Bool) (cnt : Nat)
    (hit : a.eval it = .pointer (some ⟨r, 0, none⟩)) (h : Rng w m r k D left cnt) (hz : ∀ x, Good x → D.atKey (kl x) (.lit (.int .i64 0)) = .lit (.int .i64 0))
    (hDone : wpList Try.prog ops Q rest (a.put o.dst (.tuple #[.bool false])) w)
    (hMore : ∀ (l : Let) (w' : World) (left' : Lit → Bool) (cnt' : Nat), Rng w' m r k D left' cnt' → cnt' < cnt → w.grownBy w' (some r) → w'.heap.size = w.heap.size →
      (Instr.entry (.pointer (some ⟨r, 0, none⟩))).run Try.prog w' = .ok (.tuple #[.agg #[.int .i64 l.f, .int .i64 l.t, .string l.b], .int .i64 0]) w' →
      wpList Try.prog ops Q rest (a.put o.dst (.tuple #[.bool true, .agg #[.int .i64 l.f, .int .i64 l.t, .string l.b], .int .i64 0])) w') :
    wpList Try.prog ops Q (o :: rest) a w := by
  refine wpList_next_ranges (α := Let) (β := Int) w hg it hop 32 law32 RI letV (fun z => .int .i64 z) (fun key k hk => by obtain ⟨l, hl, _⟩ := key_inv hk; exact ⟨l, hl⟩) (fun v y hv => by obtain ⟨z, e, _⟩ := plainElem_int_inv Try.underlying3 hv; exact ⟨z, e⟩) m r k D left cnt hit h (fun _ _ => hDone) ?_
  intro x v k' y w' cnt' hkey hlk hv hat hrg hlt hgr hsz hen
  obtain ⟨l, hl, hgl⟩ := key_inv hkey
  have hxl : x = l := by
    obtain ⟨f, t, b⟩ := x
    obtain ⟨f', t', b'⟩ := l
    unfold letV at hl
    simpa using hl
  subst hxl
  have hk := key_is hgl
  rw [hkey] at hk
  injection hk with hk
  have e1 := hz x hgl
  rw [← hk, hat] at e1
  obtain ⟨z, e2, e3, _⟩ := plainElem_int_inv Try.underlying3 hv
  injection e2 with _ e2
  rw [e3] at e1
  injection e1 with e1
  injection e1 with _ e1
  rw [← e2] at e1
  subst e1
  exact hMore x w' _ cnt' hrg hlt hgr hsz hen
end Go.Proofs.Ytipclhklkngamaa
