import Derived.Test.YtnnakfhkejdfcaaTexts
import Derived.ProofKit
import Derived.ChangeOld
import Derived.Deep.Slices
namespace Go.Proofs.Ytnnakfhkejdfcaa
open Go.RowKit Pl
set_option linter.unusedVariables false

theorem cells26 : Try.prog.cellsOf 26 = 4 := by kernel_rfl
theorem cells3 : Try.prog.cellsOf 3 = 1 := by kernel_rfl
theorem cells2 : Try.prog.cellsOf 2 = 1 := by kernel_rfl
theorem cells9 : Try.prog.cellsOf 9 = 1 := by kernel_rfl
theorem cells24 : Try.prog.cellsOf 24 = 1 := by kernel_rfl

theorem inR_of_wf {n : Int} (h : (Lit.int .i64 n).wf = true) : InR n := by
  simp only [Lit.wf, Bool.and_eq_true, decide_eq_true_eq] at h
  have e1 : IntKind.i64.min = -9223372036854775808 := by decide
  have e2 : IntKind.i64.max = 9223372036854775807 := by decide
  rw [e1, e2] at h
  exact h

section
variable {H : Type} {enc : TypeId × Value → H} {w : World} {base : Nat} {spare : Nat → Bool} {held : Bool}

/-- a slice of items, each of which reads as a tree -/
theorem open_items_of {n : Nat} {u3 : Value} {y3 : DataW H × List MemPlace} (ih : ∀ m, m < n → ∀ (cs : List Value) (x : DataW H × List MemPlace), DataW.trod enc Try.prog w base spare held m 26 cs = some x →
      ∃ t u0 u1 u2 u3, cs = [u0, u1, u2, u3] ∧ IsIt w (· < w.heap.size) t (.agg #[u0, u1, u2, u3]))
    (g3 : DataW.trod enc Try.prog w base spare held n 24 [u3] = some y3) : ∃ (a : Option Addr) (l : List It) (c : Nat), u3 = .slice a l.length c ∧ l.length ≤ maxLen ∧ AreIts w (· < w.heap.size) l a 0 := by
  rcases DataW.trod_slice Try.underlying24 g3 with ⟨e3, _⟩ | ⟨a, len, cap, elems, rest, n', hn', e3, _, _, hlc, hcm, hel, hget, _, _⟩
  · simp only [List.cons.injEq, and_true] at e3
    subst e3
    exact ⟨none, [], 0, rfl, Nat.zero_le _, by rw [AreIts]; trivial⟩
  · simp only [List.cons.injEq, and_true] at e3
    subst e3
    have key : ∀ (j i : Nat), i + j = len → ∃ l : List It, l.length = j ∧ AreIts w (· < w.heap.size) l (some a) i := by
      intro j
      induction j with
      | zero => intro i _; exact ⟨[], rfl, by rw [AreIts]; trivial⟩
      | succ j ihj =>
        intro i hij
        obtain ⟨l, hl, hal⟩ := ihj (i + 1) (by omega)
        have hi := hget i (by omega)
        rw [List.getElem?_eq_getElem (by omega), Option.bind_eq_some_iff] at hi
        obtain ⟨cs', hcs, htr⟩ := hi
        obtain ⟨t, v0, v1, v2, v3, rfl, hit⟩ := ih n' (by omega) cs' _ htr
        rw [cells26] at hcs
        obtain ⟨_, _, hc⟩ := World.cells?_some hcs
        have c0 := hc 0 (by omega)
        have c1 := hc 1 (by omega)
        have c2 := hc 2 (by omega)
        have c3 := hc 3 (by omega)
        rw [Go.Deep.add_add] at c0 c1 c2 c3
        simp only [List.getElem?_cons_zero, List.getElem?_cons_succ] at c0 c1 c2 c3
        have hsp : a.spot = none := by
          have h00 := hget 0 (by omega)
          rw [List.getElem?_eq_getElem (by omega), Option.bind_eq_some_iff] at h00
          obtain ⟨cs0, hcs0, _⟩ := h00
          rw [cells26] at hcs0
          obtain ⟨_, hl0, hc0⟩ := World.cells?_some hcs0
          have := hc0 0 (by omega)
          rw [Go.Deep.add_add, List.getElem?_eq_getElem (by omega)] at this
          simpa [Addr.add] using World.cell?_spot this
        obtain ⟨b, off, sp⟩ := a
        simp only at hsp
        subst hsp
        have ad : ∀ q, (⟨b, off, none⟩ : Addr).add q = ⟨b, off + q, none⟩ := by
          intro q; unfold Addr.add; split
          · subst q; rfl
          · rfl
        rw [ad] at c0 c1 c2 c3
        refine ⟨t :: l, by simp [hl], ?_⟩
        rw [AreIts]
        exact ⟨⟨b, off, v0, v1, v2, v3, rfl, World.block_lt_of_cell? w _ c0, by simpa [Nat.add_assoc] using c0, by simpa [Nat.add_assoc] using c1, by simpa [Nat.add_assoc] using c2, by simpa [Nat.add_assoc] using c3, hit⟩, hal⟩
    obtain ⟨l, hl, hal⟩ := key len 0 (by omega)
    exact ⟨some a, l, cap, by rw [hl], by omega, hal⟩

/-- an argument of type Item reads as a tree -/
theorem open_item : ∀ (fuel : Nat) (cs : List Value) (x : DataW H × List MemPlace), DataW.trod enc Try.prog w base spare held fuel 26 cs = some x →
    ∃ t u0 u1 u2 u3, cs = [u0, u1, u2, u3] ∧ IsIt w (· < w.heap.size) t (.agg #[u0, u1, u2, u3]) := by
  intro fuel
  induction fuel using Nat.strongRecOn with
  | _ fuel ih =>
    intro cs x h
    obtain ⟨xs, n, rfl, rfl, hlen, hxl, hf⟩ := DataW.trod_struct Try.underlying26 h
    rw [cells26] at hlen
    match cs, hlen with
    | [u0, u1, u2, u3], _ =>
      match xs, hxl with
      | [y0, y1, y2, y3], _ =>
        have g0 : DataW.trod enc Try.prog w base spare held n 3 [u0] = some y0 := by have h0 : DataW.trod enc Try.prog w base spare held n 3 (([u0, u1, u2, u3].drop 0).take (Try.prog.cellsOf 3)) = some y0 := hf 0 _ rfl; rw [cells3] at h0; exact h0
        have g1 : DataW.trod enc Try.prog w base spare held n 2 [u1] = some y1 := by have h1 : DataW.trod enc Try.prog w base spare held n 2 (([u0, u1, u2, u3].drop 1).take (Try.prog.cellsOf 2)) = some y1 := hf 1 _ rfl; rw [cells2] at h1; exact h1
        have g2 : DataW.trod enc Try.prog w base spare held n 9 [u2] = some y2 := by have h2 : DataW.trod enc Try.prog w base spare held n 9 (([u0, u1, u2, u3].drop 2).take (Try.prog.cellsOf 9)) = some y2 := hf 2 _ rfl; rw [cells9] at h2; exact h2
        have g3 : DataW.trod enc Try.prog w base spare held n 24 [u3] = some y3 := by have h3 : DataW.trod enc Try.prog w base spare held n 24 (([u0, u1, u2, u3].drop 3).take (Try.prog.cellsOf 24)) = some y3 := hf 3 _ rfl; rw [cells24] at h3; exact h3
        obtain ⟨k, e0, _, w0⟩ := DataW.trod_int Try.underlying3 g0
        obtain ⟨m, e1, _, w1⟩ := DataW.trod_int Try.underlying2 g1
        obtain ⟨s, e2, _, w2⟩ := DataW.trod_string Try.underlying9 g2
        simp only [List.cons.injEq, and_true] at e0 e1 e2
        subst e0 e1 e2
        obtain ⟨a, l, c, rfl, hl, hal⟩ := open_items_of (fun m hm => ih m (by omega)) g3
        refine ⟨.mk k m s l, _, _, _, _, rfl, ?_⟩
        rw [IsIt]
        exact ⟨a, c, rfl, inR_of_wf w0, inR_of_wf w1, w2, hl, hal⟩

/-- an argument of type []Item reads as trees -/
theorem open_items {fuel : Nat} {u : Value} {y : DataW H × List MemPlace} (h : DataW.trod enc Try.prog w base spare held fuel 24 [u] = some y) :
    ∃ (a : Option Addr) (l : List It) (c : Nat), u = .slice a l.length c ∧ l.length ≤ maxLen ∧ AreIts w (· < w.heap.size) l a 0 := open_items_of (fun m _ => open_item m) h
end
end Go.Proofs.Ytnnakfhkejdfcaa
