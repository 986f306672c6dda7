import Derived.Test.YtebacdegjmcnlaaGreatMd
import Derived.Test.YtebacdegjmcnlaaGreatXg
namespace Go.Proofs.YtebacdegjmcnlaaGreat
open Go.RowKit Pl
set_option maxRecDepth 20000
set_option linter.unusedVariables false
/-! ### own rows of items, whatever they lead to -/
def Ran (B : Nat) (w : World) (q : Nat) : Prop := B ≤ q ∧ q < w.heap.size
theorem AreIts.far {B : Nat} {w w' : World} {ts : List It} {A : Option Addr} {i : Nat} (h : AreIts w (Ran B w) ts A i) (hb : Below w.heap.size w w') : AreIts w' (Ran B w') ts A i :=
  AreIts.mono (fun q hq => ⟨hq.1, Nat.lt_of_lt_of_le hq.2 hb.size⟩) ts (AreIts.keep (fun q hq => hb.block q hq.2) ts h)
theorem IsIt.far {B : Nat} {w w' : World} {t : It} {v : Value} (h : IsIt w (Ran B w) t v) (hb : Below w.heap.size w w') : IsIt w' (Ran B w') t v :=
  IsIt.mono (fun q hq => ⟨hq.1, Nat.lt_of_lt_of_le hq.2 hb.size⟩) t (IsIt.keep (fun q hq => hb.block q hq.2) t h)
def ItRow (B : Nat) (w : World) (v : Value) (ts : List It) : Prop := ∃ xs, w.ownsRow B 50 4 v ts.length xs ∧ ItsIn w (fun q => Ran B w q ∧ v.ownBlock ≠ some q) ts xs
theorem ItRow.nil (B : Nat) (w : World) : ItRow B w (.slice none 0 0) [] := ⟨[], World.ownsRow_nil _ _ _ _, rfl⟩
theorem ItRow.below {B : Nat} {w w' : World} {v : Value} {ts : List It} (h : ItRow B w v ts) (hb : Below w.heap.size w w') : ItRow B w' v ts := by
  obtain ⟨xs, h1, h2⟩ := h
  exact ⟨xs, ownsRow_keep h1 fun q hq => hb.block q (own_lt h1 q hq).2, ItsIn.keep (fun q hq => hb.block q hq.1.2) (fun q hq => ⟨⟨hq.1.1, Nat.lt_of_lt_of_le hq.1.2 hb.size⟩, hq.2⟩) h2⟩
theorem ItRow.form {B : Nat} {w : World} {v : Value} {ts : List It} (h : ItRow B w v ts) : ∃ A c, v = .slice A ts.length c ∧ AreIts w (Ran B w) ts A 0 := by
  obtain ⟨xs, h1, h2⟩ := h
  rcases h1.2 with ⟨rfl, hn⟩ | ⟨g, cap, cur, rfl, hg, hh, hc, hm, _⟩
  · have : ts = [] := List.eq_nil_of_length_eq_zero hn
    subst this
    exact ⟨none, 0, rfl, by rw [AreIts]; trivial⟩
  · refine ⟨some ⟨g, 0, none⟩, cap, rfl, ItsIn.are (b := g) (w := w) ⟨hg, (Array.getElem?_eq_some_iff.1 hh).1⟩ (ItsIn.keep (fun _ _ => rfl) (fun q hq => hq.1) h2) fun j u hu => ?_⟩
    have := h1.cells (g := g) rfl j u hu
    rw [show ((⟨g, 0, none⟩ : Addr).add j) = ⟨g, j, none⟩ from by unfold Addr.add; split <;> simp_all] at this
    rw [Nat.zero_mul, Nat.zero_add]
    exact this
theorem ItRow.snoc {B : Nat} {w w3 : World} {v v' : Value} {ts : List It} {x : It} {u0 u1 u2 u3 : Value} {xs : List Value} (hown : w.ownsRow B 50 4 v ts.length xs) (hI : ItsIn w (fun q => Ran B w q ∧ v.ownBlock ≠ some q) ts xs)
    (hx : IsIt w (fun q => Ran B w q ∧ v.ownBlock ≠ some q) x (.agg #[u0, u1, u2, u3])) (hB : B ≤ w.heap.size)
    (ho : w3.ownsRow B 50 4 v' (ts.length + 1) (xs ++ [u0, u1, u2, u3])) (hg : w.grownBy w3 v.ownBlock) (hv : v'.ownBlock = v.ownBlock ∨ v'.ownBlock = some w.heap.size) : ItRow B w3 v' (ts ++ [x]) := by
  have hk : ∀ q, Ran B w q ∧ v.ownBlock ≠ some q → w3.heap[q]? = w.heap[q]? := fun q hq => hg.block q hq.1.2 (fun e => hq.2 e.symm)
  have hm : ∀ q, Ran B w q ∧ v.ownBlock ≠ some q → Ran B w3 q ∧ v'.ownBlock ≠ some q := fun q hq => by
    refine ⟨⟨hq.1.1, Nat.lt_of_lt_of_le hq.1.2 hg.size⟩, ?_⟩
    rcases hv with e | e
    · rw [e]; exact hq.2
    · rw [e]
      intro e2
      injection e2 with e2
      have := hq.1.2
      omega
  exact ⟨_, by simpa using ho, ItsIn.snoc (IsIt.mono hm x (IsIt.keep hk x hx)) (ItsIn.keep hk hm hI)⟩
theorem are3 {w : World} {S : Nat → Prop} {b : Nat} {t0 t1 t2 : It} {a0 a1 a2 a3 b0 b1 b2 b3 c0 c1 c2 c3 : Value} {t : TypeId} {fz : Nat × Nat} (hb : S b) (h : w.heap[b]? = some (.cells #[a0, a1, a2, a3, b0, b1, b2, b3, c0, c1, c2, c3] t fz))
    (h0 : IsIt w S t0 (.agg #[a0, a1, a2, a3])) (h1 : IsIt w S t1 (.agg #[b0, b1, b2, b3])) (h2 : IsIt w S t2 (.agg #[c0, c1, c2, c3])) : AreIts w S [t0, t1, t2] (some ⟨b, 0, none⟩) 0 := by
  refine ItsIn.are (us := [a0, a1, a2, a3, b0, b1, b2, b3, c0, c1, c2, c3]) hb ⟨_, _, _, _, _, rfl, h0, _, _, _, _, _, rfl, h1, _, _, _, _, _, rfl, h2, rfl⟩ fun j u hu => ?_
  rw [Nat.zero_mul, Nat.zero_add]
  simp only [World.cell?, h]
  simpa using hu
theorem are2 {w : World} {S : Nat → Prop} {b : Nat} {t0 t1 : It} {a0 a1 a2 a3 b0 b1 b2 b3 : Value} {t : TypeId} {fz : Nat × Nat} (hb : S b) (h : w.heap[b]? = some (.cells #[a0, a1, a2, a3, b0, b1, b2, b3] t fz))
    (h0 : IsIt w S t0 (.agg #[a0, a1, a2, a3])) (h1 : IsIt w S t1 (.agg #[b0, b1, b2, b3])) : AreIts w S [t0, t1] (some ⟨b, 0, none⟩) 0 := by
  refine ItsIn.are (us := [a0, a1, a2, a3, b0, b1, b2, b3]) hb ⟨_, _, _, _, _, rfl, h0, _, _, _, _, _, rfl, h1, rfl⟩ fun j u hu => ?_
  rw [Nat.zero_mul, Nat.zero_add]
  simp only [World.cell?, h]
  simpa using hu
theorem are5 {w : World} {S : Nat → Prop} {b : Nat} {t0 t1 t2 t3 t4 : It} {a0 a1 a2 a3 b0 b1 b2 b3 c0 c1 c2 c3 d0 d1 d2 d3 e0 e1 e2 e3 : Value} {t : TypeId} {fz : Nat × Nat} (hb : S b) (h : w.heap[b]? = some (.cells #[a0, a1, a2, a3, b0, b1, b2, b3, c0, c1, c2, c3, d0, d1, d2, d3, e0, e1, e2, e3] t fz))
    (h0 : IsIt w S t0 (.agg #[a0, a1, a2, a3])) (h1 : IsIt w S t1 (.agg #[b0, b1, b2, b3])) (h2 : IsIt w S t2 (.agg #[c0, c1, c2, c3])) (h3 : IsIt w S t3 (.agg #[d0, d1, d2, d3])) (h4 : IsIt w S t4 (.agg #[e0, e1, e2, e3])) : AreIts w S [t0, t1, t2, t3, t4] (some ⟨b, 0, none⟩) 0 := by
  refine ItsIn.are (us := [a0, a1, a2, a3, b0, b1, b2, b3, c0, c1, c2, c3, d0, d1, d2, d3, e0, e1, e2, e3]) hb ⟨_, _, _, _, _, rfl, h0, _, _, _, _, _, rfl, h1, _, _, _, _, _, rfl, h2, _, _, _, _, _, rfl, h3, _, _, _, _, _, rfl, h4, rfl⟩ fun j u hu => ?_
  rw [Nat.zero_mul, Nat.zero_add]
  simp only [World.cell?, h]
  simpa using hu
end Go.Proofs.YtebacdegjmcnlaaGreat
