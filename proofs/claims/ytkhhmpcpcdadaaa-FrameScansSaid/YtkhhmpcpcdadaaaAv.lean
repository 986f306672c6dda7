import Derived.Test.YtkhhmpcpcdadaaaCom
namespace Go.Proofs.Ytkhhmpcpcdadaaa
open Go.RowKit
set_option linter.unusedVariables false

theorem pickList {α : Type} (n : Nat) (p : Nat → α → Prop) (h : ∀ i, i < n → ∃ a, p i a) : ∃ l : List α, l.length = n ∧ ∀ (i : Nat) (a : α), l[i]? = some a → p i a := by
  induction n with
  | zero => exact ⟨[], rfl, fun i a q => by simp at q⟩
  | succ n ih =>
    obtain ⟨l, h1, h2⟩ := ih fun i hi => h i (by omega)
    obtain ⟨a, ha⟩ := h n (by omega)
    refine ⟨l ++ [a], by simp [h1], fun i x hx => ?_⟩
    by_cases hi : i < l.length
    · rw [List.getElem?_append_left hi] at hx
      exact h2 i x hx
    · rw [List.getElem?_append_right (by omega)] at hx
      have : i - l.length = 0 := by
        have := (List.getElem?_eq_some_iff.1 hx).1
        simp at this; omega
      rw [this] at hx
      have e : i = n := by omega
      have hx : a = x := by simpa using hx
      rw [e, ← hx]; exact ha
/-- the values that stand there -/
def ValsAt (w : World) (A : Option Addr) (vs : List Value) : Prop := vs ≠ [] → ∃ b off, A = some ⟨b, off, none⟩ ∧ b < w.heap.size ∧ ∀ (i : Nat) v, vs[i]? = some v → w.cell? ⟨b, off + i, none⟩ = some v
theorem ValsAt.below {w W : World} {A : Option Addr} {vs : List Value} (h : ValsAt w A vs) (hb : Below w.heap.size w W) : ValsAt W A vs := fun hne => by
  obtain ⟨b, off, h1, h2, h3⟩ := h hne
  exact ⟨b, off, h1, Nat.lt_of_lt_of_le h2 hb.size, fun i v hv => (hb.cell (p := ⟨b, off + i, none⟩) h2).trans (h3 i v hv)⟩
theorem RowsAt.vals {w : World} {B : Nat} {A : Option Addr} {ls : List (List UInt8)} (h : RowsAt w B A ls) (hB : B ≤ w.heap.size) : ∃ vs, Rows w B ls vs ∧ ValsAt w A vs := by
  by_cases hne : ls = []
  · subst hne; exact ⟨[], Rows.nil _ _, fun q => absurd rfl q⟩
  obtain ⟨b, off, h1, h2, h3⟩ := h hne
  obtain ⟨vs, q1, q2⟩ := pickList (α := Value) ls.length (fun i v => ∀ l, ls[i]? = some l → w.cell? ⟨b, off + i, none⟩ = some v ∧ SlAt w B v l) (fun i hi => by
    obtain ⟨v, x1, x2⟩ := h3 i _ (List.getElem?_eq_getElem hi)
    exact ⟨v, fun l hl => by rw [List.getElem?_eq_getElem hi] at hl; injection hl with hl; subst hl; exact ⟨x1, x2⟩⟩)
  refine ⟨vs, ⟨q1.symm, fun i l hl => ?_⟩, fun _ => ⟨b, off, h1, by omega, fun i v hv => ?_⟩⟩
  · have hi : i < vs.length := by rw [q1]; exact (List.getElem?_eq_some_iff.1 hl).1
    exact ⟨_, List.getElem?_eq_getElem hi, (q2 i _ (List.getElem?_eq_getElem hi) l hl).2⟩
  · have hi : i < ls.length := by rw [← q1]; exact (List.getElem?_eq_some_iff.1 hv).1
    exact (q2 i v hv _ (List.getElem?_eq_getElem hi)).1
theorem Rows.one {w : World} {B : Nat} {ls : List (List UInt8)} {vs : List Value} (h : Rows w B ls vs) : ∀ v ∈ vs, v.oneCell' = true := fun v hv => by
  obtain ⟨i, hi⟩ := List.getElem?_of_mem hv
  have hl : i < ls.length := by rw [h.1]; exact (List.getElem?_eq_some_iff.1 hi).1
  obtain ⟨u, q1, A, c, rfl, _⟩ := h.2 i _ (List.getElem?_eq_getElem hl)
  rw [hi] at q1
  injection q1 with q1
  subst q1
  rfl
theorem Rows.append {w : World} {B : Nat} {ls ms : List (List UInt8)} {vs us : List Value} (h : Rows w B ls vs) (k : Rows w B ms us) : Rows w B (ls ++ ms) (vs ++ us) := by
  have h1 := h.1
  refine ⟨by simp [h.1, k.1], fun i x hx => ?_⟩
  by_cases hi : i < ls.length
  · rw [List.getElem?_append_left hi] at hx
    rw [List.getElem?_append_left (by omega)]
    exact h.2 i x hx
  · rw [List.getElem?_append_right (by omega)] at hx
    rw [List.getElem?_append_right (by omega), ← h.1]
    exact k.2 _ x hx
/-- slices of bytes that stand in memory are appended to a row of one's own -/
theorem wp_appVs {ops : Array Oper} {rest : List Oper} {o : Oper} {a : Act} {Q : Exit → Act → World → Prop} {w : World} (hgd : o.guard = none) (s x : Operand)
    (ho : o.op = .call { callee := .builtin .append, args := #[s, x], argTypes := #[28, 28] })
    (base : Nat) (v : Value) (vs : List Value) (hs : a.eval s = v) (hown : OwnV w base v vs) (A : Option Addr) (n c : Nat) (us : List Value) (hx : a.eval x = .slice A n c) (hA : A = none → c = 0) (hb : ValsAt w A us) (hone : ∀ u ∈ us, u.oneCell' = true) (hn : us.length = n) (hnc : n ≤ c)
    (hlen : vs.length + n ≤ 1000000) (hbase : base ≤ w.heap.size)
    (h : ∀ v' w', OwnV w' base v' (vs ++ us) → Below base w w' → wpList Try.prog ops Q rest (a.put o.dst v') w') : wpList Try.prog ops Q (o :: rest) a w := by
  obtain ⟨i, hi, hz, hz1, hz2⟩ := info_parts3 info22
  cases A with
  | none =>
    have hc0 := hA rfl
    subst hc0
    obtain rfl : n = 0 := by omega
    have hbs : us = [] := List.eq_nil_of_length_eq_zero hn
    subst hbs
    refine wpList_append_own_none hgd s x 28 ho base 22 i 1 Try.underlying28 hi v vs.length vs hs hown hx (h v w ?_ (Below.refl _ _))
    rw [List.append_nil]; exact hown
  | some ad =>
    refine wpList_append_own w hgd s x 28 ho base 22 i _ 1 24 Try.underlying28 hi hz hz1 hz2 rfl (by omega) v vs.length vs hs hown ad n c us hx (by omega) ?_ hone (by simp only [maxLen]; omega) (by omega) hbase ?_
    · intro j u hu
      have hne : us ≠ [] := fun e => by rw [e] at hu; simp at hu
      obtain ⟨b, off, h1, _, h3⟩ := hb hne
      injection h1 with h1
      subst h1
      have := h3 j u hu
      unfold Addr.add
      split
      · subst j; simpa using this
      · exact this
    · intro v' w' h2 h3 _
      refine h v' w' ?_ ((Below.refl _ _).grown h3 hbase fun k hk => (hown.lt k hk).1)
      unfold OwnV
      rw [List.length_append, hn]
      exact h2
end Go.Proofs.Ytkhhmpcpcdadaaa
