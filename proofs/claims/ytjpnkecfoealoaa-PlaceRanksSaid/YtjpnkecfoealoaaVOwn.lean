import Derived.Test.YtjpnkecfoealoaaVAwake
import Derived.Lib.AppendStr
import Derived.Laws.AppendOwnNone
import Derived.Deep.CutRange
namespace Go.Proofs.Ytjpnkecfoealoaa.Vc
set_option maxRecDepth 20000
open Go.RowKit
set_option linter.unusedVariables false
/-- Vecs as cells -/
def vC : List V3 → List Value
  | [] => []
  | v :: L => .int .i64 v.x :: .int .i64 v.y :: .int .i64 v.z :: vC L
theorem vC_length : ∀ L : List V3, (vC L).length = L.length * 3
  | [] => rfl
  | v :: L => by simp [vC, vC_length L]; omega
theorem vC_append : ∀ a b : List V3, vC (a ++ b) = vC a ++ vC b
  | [], b => rfl
  | v :: a, b => by simp [vC, vC_append a b]
theorem vC_oneCell : ∀ L : List V3, ∀ u ∈ vC L, u.oneCell' = true
  | [], u, h => by cases h
  | v :: L, u, h => by
    simp only [vC, List.mem_cons] at h
    rcases h with rfl | rfl | rfl | h
    · rfl
    · rfl
    · rfl
    · exact vC_oneCell L u h
theorem vC_at : ∀ (L : List V3) (j : Nat) (u : Value), (vC L)[j]? = some u → ∃ i v, L[i]? = some v ∧ ((j = i * 3 ∧ u = .int .i64 v.x) ∨ (j = i * 3 + 1 ∧ u = .int .i64 v.y) ∨ (j = i * 3 + 2 ∧ u = .int .i64 v.z))
  | [], j, u, h => by simp [vC] at h
  | v :: L, 0, u, h => by simp [vC] at h; exact ⟨0, v, rfl, .inl ⟨rfl, h.symm⟩⟩
  | v :: L, 1, u, h => by simp [vC] at h; exact ⟨0, v, rfl, .inr (.inl ⟨rfl, h.symm⟩)⟩
  | v :: L, 2, u, h => by simp [vC] at h; exact ⟨0, v, rfl, .inr (.inr ⟨rfl, h.symm⟩)⟩
  | v :: L, j + 3, u, h => by
    simp only [vC, List.getElem?_cons_succ] at h
    obtain ⟨i, v', h1, h2⟩ := vC_at L j u h
    refine ⟨i + 1, v', by simpa using h1, ?_⟩
    rcases h2 with ⟨h2, h3⟩ | ⟨h2, h3⟩ | ⟨h2, h3⟩
    · exact .inl ⟨by omega, h3⟩
    · exact .inr (.inl ⟨by omega, h3⟩)
    · exact .inr (.inr ⟨by omega, h3⟩)
theorem vC_get : ∀ (L : List V3) (i : Nat) (v : V3), L[i]? = some v → (vC L)[i * 3]? = some (.int .i64 v.x) ∧ (vC L)[i * 3 + 1]? = some (.int .i64 v.y) ∧ (vC L)[i * 3 + 2]? = some (.int .i64 v.z)
  | [], i, v, h => by simp at h
  | v :: L, 0, v', h => by simp at h; subst h; simp [vC]
  | v :: L, i + 1, v', h => by
    simp only [List.getElem?_cons_succ] at h
    obtain ⟨h1, h2, h3⟩ := vC_get L i v' h
    rw [show (i + 1) * 3 = i * 3 + 3 from by omega]
    simp only [vC]
    exact ⟨by simpa using h1, by simpa using h2, by simpa using h3⟩
theorem info23 : (Try.prog.info? 24).map (fun i => (i.zero, i.size, i.bytes)) = some (some (.agg #[.int .i64 0, .int .i64 0, .int .i64 0]), 3, 24) := by kernel_rfl
def OwnV (w : World) (base : Nat) (v : Value) (L : List V3) : Prop := w.ownsRow base 24 3 v L.length (vC L)
theorem OwnV.new (w : World) : OwnV (w.alloc (.cells #[] 24)) w.heap.size (.slice (some ⟨w.heap.size, 0, none⟩) 0 0) [] := World.ownsRow_made w #[] 0 (Nat.le_refl _) (by simp [maxLen]) (by simp)
theorem OwnV.below {w w' : World} {base : Nat} {v : Value} {L : List V3} (h : OwnV w base v L) (hb : Below w.heap.size w w') : OwnV w' base v L := by
  refine ⟨h.1, ?_⟩
  rcases h.2 with hn | ⟨g, cap, cur, rfl, hg, hgg, r⟩
  · exact .inl hn
  · exact .inr ⟨g, cap, cur, rfl, hg, by rw [hb.block g (Array.getElem?_eq_some_iff.1 hgg).1]; exact hgg, r⟩
theorem OwnV.form {w : World} {base : Nat} {v : Value} {L : List V3} (h : OwnV w base v L) : ∃ A cap, v = .slice A L.length cap ∧ VecsAt w w.heap.size A L ∧ L.length ≤ cap ∧ cap ≤ 9223372036854775807 := by
  have h0 := h
  rcases h.2 with ⟨rfl, hn⟩ | ⟨g, cap, cur, rfl, hb, hh, hc, hm, _⟩
  · have : L = [] := List.eq_nil_of_length_eq_zero hn
    subst this
    exact ⟨none, 0, rfl, fun h => absurd rfl h, by simp, by omega⟩
  · refine ⟨some ⟨g, 0, none⟩, cap, rfl, fun hne => ⟨g, 0, rfl, (Array.getElem?_eq_some_iff.1 hh).1, fun j u hu => ?_⟩, hc, by simp only [maxLen] at hm; omega⟩
    obtain ⟨e1, e2, e3⟩ := vC_get L j u hu
    have cell : ∀ k x, (vC L)[k]? = some x → w.cell? ⟨g, 0 + k, none⟩ = some x := fun k x hx => by
      have := h0.cells (g := g) rfl k x hx
      unfold Addr.add at this
      split at this
      · subst k; simpa using this
      · simpa using this
    exact ⟨cell _ _ e1, by have := cell _ _ e2; rwa [← Nat.add_assoc] at this, by have := cell _ _ e3; rwa [← Nat.add_assoc] at this⟩
/-- append of Vecs that stand in memory, or of none -/
theorem wp_appV {ops : Array Oper} {rest : List Oper} {o : Oper} {a : Act} {Q : Exit → Act → World → Prop} {w : World} (hgd : o.guard = none) (s x : Operand)
    (ho : o.op = .call { callee := .builtin .append, args := #[s, x], argTypes := #[67, 67] })
    (base : Nat) (v : Value) (L : List V3) (hs : a.eval s = v) (hown : OwnV w base v L) (A : Option Addr) (n c B : Nat) (bs : List V3) (hx : a.eval x = .slice A n c) (hA : A = none → c = 0) (hb : VecsAt w B A bs) (hn : bs.length = n) (hnc : n ≤ c)
    (hlen : L.length + n ≤ 1000000) (hbase : base ≤ w.heap.size)
    (h : ∀ v' w', OwnV w' base v' (L ++ bs) → Below base w w' → wpList Try.prog ops Q rest (a.put o.dst v') w') : wpList Try.prog ops Q (o :: rest) a w := by
  obtain ⟨i5, hi5, hz0, hz1, hz2⟩ := info_parts info23
  cases A with
  | none =>
    have hc0 := hA rfl
    subst hc0
    obtain rfl : n = 0 := by omega
    have hbs : bs = [] := List.eq_nil_of_length_eq_zero hn
    subst hbs
    refine wpList_append_own_none hgd s x 67 ho base 24 i5 3 Try.underlying67 hi5 v L.length (vC L) hs hown hx (h v w ?_ (Below.refl _ _))
    rw [List.append_nil]; exact hown
  | some ad =>
    refine wpList_append_own w hgd s x 67 ho base 24 i5 _ 3 24 Try.underlying67 hi5 hz0 hz1 hz2 rfl (by omega) v L.length (vC L) hs hown ad n c (vC bs) hx (by rw [vC_length, hn]) ?_ (vC_oneCell _) (by simp only [maxLen]; omega) (by omega) hbase ?_
    · intro j u hu
      have hne : bs ≠ [] := fun e => by rw [e] at hu; simp [vC] at hu
      obtain ⟨b, off, h1, _, h3⟩ := hb hne
      injection h1 with h1
      subst h1
      obtain ⟨i, y, hy, hcase⟩ := vC_at bs j u hu
      obtain ⟨e1, e2, e3⟩ := h3 i y hy
      have ea : ∀ q, (Addr.mk b off none).add q = ⟨b, off + q, none⟩ := fun q => by
        unfold Addr.add
        split
        · subst q; rfl
        · rfl
      rw [ea]
      rcases hcase with ⟨rfl, rfl⟩ | ⟨rfl, rfl⟩ | ⟨rfl, rfl⟩
      · exact e1
      · exact e2
      · exact e3
    · intro v' w' h2 h3 _
      refine h v' w' ?_ ((Below.refl _ _).grown h3 hbase fun k hk => (hown.lt k hk).1)
      unfold OwnV
      rw [vC_append, List.length_append, hn]
      exact h2
theorem VecsAt.take {w : World} {B : Nat} {A : Option Addr} {L : List V3} (h : VecsAt w B A L) (n : Nat) : VecsAt w B A (L.take n) := fun hne => by
  obtain ⟨b, off, h1, h2, h3⟩ := h (fun e => hne (by rw [e]; simp))
  refine ⟨b, off, h1, h2, fun j u hu => h3 j u ?_⟩
  rw [List.getElem?_take] at hu
  split at hu
  · exact hu
  · cases hu
theorem VecsAt.drop' {w : World} {B : Nat} {A : Option Addr} {L : List V3} (h : VecsAt w B A L) (n : Nat) : VecsAt w B (A.map (·.add (n * 3))) (L.drop n) := fun hne => by
  obtain ⟨b, off, rfl, h2, h3⟩ := h (fun e => hne (by rw [e]; simp))
  refine ⟨b, off + n * 3, ?_, h2, fun j u hu => ?_⟩
  · simp only [Option.map_some, Addr.add]
    split
    · rename_i e; rw [e]; rfl
    · rfl
  · rw [List.getElem?_drop] at hu
    have := h3 (n + j) u hu
    rwa [Nat.add_mul, ← Nat.add_assoc] at this
end Go.Proofs.Ytjpnkecfoealoaa.Vc
