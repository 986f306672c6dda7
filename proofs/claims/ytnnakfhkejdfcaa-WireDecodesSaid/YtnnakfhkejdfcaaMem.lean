import Derived.Test.YtnnakfhkejdfcaaWeigh
namespace Go.Proofs.Ytnnakfhkejdfcaa
open Go.RowKit Pl
set_option linter.unusedVariables false

def InR (n : Int) : Prop := -9223372036854775808 ≤ n ∧ n ≤ 9223372036854775807

mutual
/-- the value v of type Item stands for the tree; what it leads to lies in blocks of S -/
def IsIt (w : World) (S : Nat → Prop) : It → Value → Prop
  | .mk k n s l, v => ∃ a c, v = .agg #[.int .i64 k, .int .i64 n, .string s, .slice a l.length c] ∧ InR k ∧ InR n ∧ s.size ≤ maxLen ∧ l.length ≤ maxLen ∧ AreIts w S l a 0
/-- the cells from place i on stand for the trees -/
def AreIts (w : World) (S : Nat → Prop) : List It → Option Addr → Nat → Prop
  | [], _, _ => True
  | x :: r, a, i => (∃ b off u0 u1 u2 u3, a = some ⟨b, off, none⟩ ∧ S b ∧ w.cell? ⟨b, off + i * 4, none⟩ = some u0 ∧ w.cell? ⟨b, off + i * 4 + 1, none⟩ = some u1 ∧
      w.cell? ⟨b, off + i * 4 + 2, none⟩ = some u2 ∧ w.cell? ⟨b, off + i * 4 + 3, none⟩ = some u3 ∧ IsIt w S x (.agg #[u0, u1, u2, u3])) ∧ AreIts w S r a (i + 1)
end

theorem AreIts.at_ {w : World} {S : Nat → Prop} {a : Option Addr} : ∀ {l : List It} {i : Nat}, AreIts w S l a i → ∀ {k : Nat} {x : It}, l[k]? = some x →
    ∃ b off u0 u1 u2 u3, a = some ⟨b, off, none⟩ ∧ S b ∧ w.cell? ⟨b, off + (i + k) * 4, none⟩ = some u0 ∧ w.cell? ⟨b, off + (i + k) * 4 + 1, none⟩ = some u1 ∧
      w.cell? ⟨b, off + (i + k) * 4 + 2, none⟩ = some u2 ∧ w.cell? ⟨b, off + (i + k) * 4 + 3, none⟩ = some u3 ∧ IsIt w S x (.agg #[u0, u1, u2, u3])
  | [], _, _, k, x, hx => by simp at hx
  | y :: r, i, h, 0, x, hx => by
    simp only [List.getElem?_cons_zero, Option.some.injEq] at hx
    subst hx
    rw [AreIts] at h
    exact h.1
  | y :: r, i, h, k + 1, x, hx => by
    rw [AreIts] at h
    have := AreIts.at_ h.2 (k := k) (x := x) (by simpa using hx)
    rwa [show i + 1 + k = i + (k + 1) from by omega] at this

theorem cell_eq {w w' : World} {S : Nat → Prop} (hk : ∀ k, S k → w'.heap[k]? = w.heap[k]?) {b o : Nat} (h : S b) : w'.cell? ⟨b, o, none⟩ = w.cell? ⟨b, o, none⟩ :=
  World.cell?_of_block (w := w) (hk b h)

mutual
theorem IsIt.keep {w w' : World} {S : Nat → Prop} (hk : ∀ k, S k → w'.heap[k]? = w.heap[k]?) : ∀ (t : It) {v : Value}, IsIt w S t v → IsIt w' S t v
  | .mk k n s l, v, h => by
    rw [IsIt] at h ⊢
    obtain ⟨a, c, h1, h2, h3, h4, h5, h6⟩ := h
    exact ⟨a, c, h1, h2, h3, h4, h5, AreIts.keep hk l h6⟩
theorem AreIts.keep {w w' : World} {S : Nat → Prop} (hk : ∀ k, S k → w'.heap[k]? = w.heap[k]?) : ∀ (l : List It) {a : Option Addr} {i : Nat}, AreIts w S l a i → AreIts w' S l a i
  | [], _, _, h => by rw [AreIts]; trivial
  | x :: r, a, i, h => by
    rw [AreIts] at h ⊢
    obtain ⟨⟨b, off, u0, u1, u2, u3, h1, h2, h3, h4, h5, h6, h7⟩, h8⟩ := h
    exact ⟨⟨b, off, u0, u1, u2, u3, h1, h2, (cell_eq hk h2).trans h3, (cell_eq hk h2).trans h4, (cell_eq hk h2).trans h5, (cell_eq hk h2).trans h6, IsIt.keep hk x h7⟩, AreIts.keep hk r h8⟩
end
mutual
theorem IsIt.mono {w : World} {S S' : Nat → Prop} (hk : ∀ k, S k → S' k) : ∀ (t : It) {v : Value}, IsIt w S t v → IsIt w S' t v
  | .mk k n s l, v, h => by
    rw [IsIt] at h ⊢
    obtain ⟨a, c, h1, h2, h3, h4, h5, h6⟩ := h
    exact ⟨a, c, h1, h2, h3, h4, h5, AreIts.mono hk l h6⟩
theorem AreIts.mono {w : World} {S S' : Nat → Prop} (hk : ∀ k, S k → S' k) : ∀ (l : List It) {a : Option Addr} {i : Nat}, AreIts w S l a i → AreIts w S' l a i
  | [], _, _, h => by rw [AreIts]; trivial
  | x :: r, a, i, h => by
    rw [AreIts] at h ⊢
    obtain ⟨⟨b, off, u0, u1, u2, u3, h1, h2, h3, h4, h5, h6, h7⟩, h8⟩ := h
    exact ⟨⟨b, off, u0, u1, u2, u3, h1, hk _ h2, h3, h4, h5, h6, IsIt.mono hk x h7⟩, AreIts.mono hk r h8⟩
end
theorem IsIt.below {w w' : World} {B : Nat} {t : It} {v : Value} (h : IsIt w (· < B) t v) (hb : Below B w w') : IsIt w' (· < B) t v := IsIt.keep (fun k hk => hb.block k hk) t h

theorem IsIt.parts {w : World} {S : Nat → Prop} {x : It} {u0 u1 u2 u3 : Value} (h : IsIt w S x (.agg #[u0, u1, u2, u3])) :
    ∃ k n s a m c, u0 = .int .i64 k ∧ u1 = .int .i64 n ∧ u2 = .string s ∧ u3 = .slice a m c := by
  cases x with
  | mk k n s l =>
    rw [IsIt] at h
    obtain ⟨a, c, he, _⟩ := h
    simp only [Value.agg.injEq, Array.mk.injEq, List.cons.injEq, and_true] at he
    exact ⟨k, n, s, a, l.length, c, he.1, he.2.1, he.2.2.1, he.2.2.2⟩

/-- weigh, whatever the item's meaning is -/
def WeighAny (g : Nat) (i b : Int) (d : Bool) (k n : Int) (s : ByteArray) (m : Nat) (w : World) (e : Ending) (w' : World) : Prop :=
  e = .returned (.tuple #[]) ∧ w.grownBy w' (some g) ∧ ∃ b', Tal w' g i b' (d || !form k n s m) ∧ b ≤ b' ∧ b' ≤ b + 4200 ∧ (form k n s m = true → b' = b + own k n s m)

theorem weigh_any (g : Nat) (i b : Int) (d : Bool) (k n : Int) (s : ByteArray) (a : Option Addr) (m c : Nat) (w : World) (ht : Tal w g i b d) (hb : 0 ≤ b ∧ b ≤ 1099511627776) (hn : InR n)
    (hm : m ≤ 9223372036854775807) (hl : k = 2 → s.size ≤ 4096) : Calls Try.prog 39 #[.pointer (some ⟨g, 0, none⟩), mean k n s m (.slice a m c)] w (WeighAny g i b d k n s m w) := by
  have hd1 := dgs_le (foldN n)
  have hd2 := dgs_le s.size
  have hd3 := dgs_le m
  unfold mean
  by_cases h1 : k = 1 ∧ s.size = 0 ∧ m = 0
  · rw [if_pos h1]
    have hf : form k n s m = true := by simp [form, h1]
    have ho : own k n s m = 2 + dgs (foldN n) := by simp [own, h1.1]
    refine (weigh_num g i b d n w ht hb hn.1 hn.2).mono fun e w' h => ⟨h.1, h.2.2, _, by simpa [hf] using h.2.1, by omega, by omega, fun _ => by rw [ho]; omega⟩
  rw [if_neg h1]
  by_cases h2 : k = 2 ∧ n = 0 ∧ m = 0
  · rw [if_pos h2]
    have hf : form k n s m = true := by simp [form, h2]
    have ho : own k n s m = 2 + dgs s.size + s.size := by simp [own, h2.1]
    have hl' := hl h2.1
    refine (weigh_text g i b d s w ht hb (by omega)).mono fun e w' h => ⟨h.1, h.2.2, _, by simpa [hf] using h.2.1, by omega, by omega, fun _ => by rw [ho]; omega⟩
  rw [if_neg h2]
  by_cases h3 : k = 3 ∧ n = 0 ∧ s.size = 0
  · rw [if_pos h3]
    have hf : form k n s m = true := by simp [form, h3]
    have ho : own k n s m = 2 + dgs m := by simp [own, h3.1]
    refine (weigh_list g i b d a m c w ht hb hm).mono fun e w' h => ⟨h.1, h.2.2, _, by simpa [hf] using h.2.1, by omega, by omega, fun _ => by rw [ho]; omega⟩
  rw [if_neg h3]
  have hf : form k n s m = false := by
    rw [Bool.eq_false_iff]; intro hc
    simp only [form, Bool.or_eq_true, Bool.and_eq_true, beq_iff_eq] at hc
    rcases hc with (⟨⟨a1, a2⟩, a3⟩ | ⟨⟨a1, a2⟩, a3⟩) | ⟨⟨a1, a2⟩, a3⟩
    · exact h1 ⟨a1, a2, a3⟩
    · exact h2 ⟨a1, a2, a3⟩
    · exact h3 ⟨a1, a2, a3⟩
  refine (weigh_none g i b d w ht).mono fun e w' h => ⟨h.1, h.2.2, b, by simpa [hf] using h.2.1, by omega, by omega, fun hc => by rw [hf] at hc; cases hc⟩
end Go.Proofs.Ytnnakfhkejdfcaa
