/- Texts put together. -/
import Derived.Test.YtebacdegjmcnlaaGreatMq
import Derived.Recover
namespace Go.Proofs.YtebacdegjmcnlaaGreat
open Go.RowKit Pl
set_option linter.unusedVariables false
set_option maxRecDepth 20000
theorem four {w : World} {S : Nat → Prop} {i0 i1 i2 i3 : It} {A : Option Addr} (h : AreIts w S [i0, i1, i2, i3] A 0) :
    ∃ b off A0 A1 A2 A3 c0 c1 c2 c3, A = some ⟨b, off, none⟩ ∧ S b ∧ (w.cell? ⟨b, off, none⟩ = some (.int .i64 (knd i0)) ∧ w.cell? ⟨b, off + 1, none⟩ = some (.int .i64 (num i0)) ∧ w.cell? ⟨b, off + 2, none⟩ = some (.string (tx i0)) ∧ w.cell? ⟨b, off + 3, none⟩ = some (.slice A0 (els i0).length c0) ∧ w.cell? ⟨b, off + 4, none⟩ = some (.int .i64 (knd i1)) ∧ w.cell? ⟨b, off + 4 + 1, none⟩ = some (.int .i64 (num i1)) ∧ w.cell? ⟨b, off + 4 + 2, none⟩ = some (.string (tx i1)) ∧ w.cell? ⟨b, off + 4 + 3, none⟩ = some (.slice A1 (els i1).length c1) ∧ w.cell? ⟨b, off + 8, none⟩ = some (.int .i64 (knd i2)) ∧ w.cell? ⟨b, off + 8 + 1, none⟩ = some (.int .i64 (num i2)) ∧ w.cell? ⟨b, off + 8 + 2, none⟩ = some (.string (tx i2)) ∧ w.cell? ⟨b, off + 8 + 3, none⟩ = some (.slice A2 (els i2).length c2) ∧ w.cell? ⟨b, off + 12, none⟩ = some (.int .i64 (knd i3)) ∧ w.cell? ⟨b, off + 12 + 1, none⟩ = some (.int .i64 (num i3)) ∧ w.cell? ⟨b, off + 12 + 2, none⟩ = some (.string (tx i3)) ∧ w.cell? ⟨b, off + 12 + 3, none⟩ = some (.slice A3 (els i3).length c3)) ∧ IsIt w S i2 (.agg #[.int .i64 (knd i2), .int .i64 (num i2), .string (tx i2), .slice A2 (els i2).length c2]) := by
  obtain ⟨b, off, A0, c0, rfl, hb, C0, _⟩ := cel_of h (k := 0) rfl
  obtain ⟨b1, off1, A1, c1, e1, _, C1, _⟩ := cel_of h (k := 1) rfl
  obtain ⟨b2, off2, A2, c2, e2, _, C2, I2⟩ := cel_of h (k := 2) rfl
  obtain ⟨b3, off3, A3, c3, e3, _, C3, _⟩ := cel_of h (k := 3) rfl
  simp only [Option.some.injEq, Addr.mk.injEq, and_true] at e1 e2 e3
  obtain ⟨rfl, rfl⟩ := e1
  obtain ⟨rfl, rfl⟩ := e2
  obtain ⟨rfl, rfl⟩ := e3
  rw [Nat.zero_mul, Nat.add_zero] at C0
  exact ⟨b, off, A0, A1, A2, A3, c0, c1, c2, c3, rfl, hb, ⟨C0.c0, C0.c1, C0.c2, C0.c3, C1.c0, C1.c1, C1.c2, C1.c3, C2.c0, C2.c1, C2.c2, C2.c3, C3.c0, C3.c1, C3.c2, C3.c3⟩, I2⟩
theorem four_keep {w w' : World} {i0 i1 i2 i3 : It} {A0 A1 A2 A3 : Option Addr} {c0 c1 c2 c3 b off : Nat} (h : w.cell? ⟨b, off, none⟩ = some (.int .i64 (knd i0)) ∧ w.cell? ⟨b, off + 1, none⟩ = some (.int .i64 (num i0)) ∧ w.cell? ⟨b, off + 2, none⟩ = some (.string (tx i0)) ∧ w.cell? ⟨b, off + 3, none⟩ = some (.slice A0 (els i0).length c0) ∧ w.cell? ⟨b, off + 4, none⟩ = some (.int .i64 (knd i1)) ∧ w.cell? ⟨b, off + 4 + 1, none⟩ = some (.int .i64 (num i1)) ∧ w.cell? ⟨b, off + 4 + 2, none⟩ = some (.string (tx i1)) ∧ w.cell? ⟨b, off + 4 + 3, none⟩ = some (.slice A1 (els i1).length c1) ∧ w.cell? ⟨b, off + 8, none⟩ = some (.int .i64 (knd i2)) ∧ w.cell? ⟨b, off + 8 + 1, none⟩ = some (.int .i64 (num i2)) ∧ w.cell? ⟨b, off + 8 + 2, none⟩ = some (.string (tx i2)) ∧ w.cell? ⟨b, off + 8 + 3, none⟩ = some (.slice A2 (els i2).length c2) ∧ w.cell? ⟨b, off + 12, none⟩ = some (.int .i64 (knd i3)) ∧ w.cell? ⟨b, off + 12 + 1, none⟩ = some (.int .i64 (num i3)) ∧ w.cell? ⟨b, off + 12 + 2, none⟩ = some (.string (tx i3)) ∧ w.cell? ⟨b, off + 12 + 3, none⟩ = some (.slice A3 (els i3).length c3)) (hk : w'.heap[b]? = w.heap[b]?) : w'.cell? ⟨b, off, none⟩ = some (.int .i64 (knd i0)) ∧ w'.cell? ⟨b, off + 1, none⟩ = some (.int .i64 (num i0)) ∧ w'.cell? ⟨b, off + 2, none⟩ = some (.string (tx i0)) ∧ w'.cell? ⟨b, off + 3, none⟩ = some (.slice A0 (els i0).length c0) ∧ w'.cell? ⟨b, off + 4, none⟩ = some (.int .i64 (knd i1)) ∧ w'.cell? ⟨b, off + 4 + 1, none⟩ = some (.int .i64 (num i1)) ∧ w'.cell? ⟨b, off + 4 + 2, none⟩ = some (.string (tx i1)) ∧ w'.cell? ⟨b, off + 4 + 3, none⟩ = some (.slice A1 (els i1).length c1) ∧ w'.cell? ⟨b, off + 8, none⟩ = some (.int .i64 (knd i2)) ∧ w'.cell? ⟨b, off + 8 + 1, none⟩ = some (.int .i64 (num i2)) ∧ w'.cell? ⟨b, off + 8 + 2, none⟩ = some (.string (tx i2)) ∧ w'.cell? ⟨b, off + 8 + 3, none⟩ = some (.slice A2 (els i2).length c2) ∧ w'.cell? ⟨b, off + 12, none⟩ = some (.int .i64 (knd i3)) ∧ w'.cell? ⟨b, off + 12 + 1, none⟩ = some (.int .i64 (num i3)) ∧ w'.cell? ⟨b, off + 12 + 2, none⟩ = some (.string (tx i3)) ∧ w'.cell? ⟨b, off + 12 + 3, none⟩ = some (.slice A3 (els i3).length c3) := by
  have e : ∀ o, w'.cell? ⟨b, o, none⟩ = w.cell? ⟨b, o, none⟩ := fun o => World.cell?_of_block (w := w) hk
  rw [e, e, e, e, e, e, e, e, e, e, e, e, e, e, e, e]
  exact h
def four4 (i0 i1 i2 i3 : It) : Bool := knd i0 == 1 && (knd i1 == 2 && (isV i2 && knd i3 == 1))
def w6 (w : World) (R : Nat) (a b c d e f : Value) : World := ((((((w.setCell ⟨R, 0, none⟩ a).setCell ⟨R, 1, none⟩ b).setCell ⟨R, 2, none⟩ c).setCell ⟨R, 3, none⟩ d).setCell ⟨R, 4, none⟩ e).setCell ⟨R, 5, none⟩ f)
theorem w6_row (w : World) (R : Nat) (a b c d e f : Value) (z0 z1 z2 z3 z4 z5 : Value) (t : TypeId) (h : w.heap[R]? = some (.cells #[z0, z1, z2, z3, z4, z5] t (0, 0))) : (w6 w R a b c d e f).heap[R]? = some (.cells #[a, b, c, d, e, f] t (0, 0)) := by
  have s1 := heap_set w R 0 a _ _ h
  simp only [List.setIfInBounds_toArray, List.set_cons_zero] at s1
  have s2 := heap_set _ R 1 b _ _ s1
  simp only [List.setIfInBounds_toArray, List.set_cons_zero, List.set_cons_succ] at s2
  have s3 := heap_set _ R 2 c _ _ s2
  simp only [List.setIfInBounds_toArray, List.set_cons_zero, List.set_cons_succ] at s3
  have s4 := heap_set _ R 3 d _ _ s3
  simp only [List.setIfInBounds_toArray, List.set_cons_zero, List.set_cons_succ] at s4
  have s5 := heap_set _ R 4 e _ _ s4
  simp only [List.setIfInBounds_toArray, List.set_cons_zero, List.set_cons_succ] at s5
  have s6 := heap_set _ R 5 f _ _ s5
  simp only [List.setIfInBounds_toArray, List.set_cons_zero, List.set_cons_succ] at s6
  exact s6
theorem w6_far (w : World) (R : Nat) (a b c d e f : Value) (q : Nat) (h : q ≠ R) : (w6 w R a b c d e f).heap[q]? = w.heap[q]? := by
  unfold w6
  rw [Below.heap_setCell _ _ _ q h, Below.heap_setCell _ _ _ q h, Below.heap_setCell _ _ _ q h, Below.heap_setCell _ _ _ q h, Below.heap_setCell _ _ _ q h, Below.heap_setCell _ _ _ q h]
theorem w6_below {w0 w : World} {B : Nat} (hb : Below B w0 w) (R : Nat) (a b c d e f : Value) (h : B ≤ R) : Below B w0 (w6 w R a b c d e f) :=
  ((((((hb.setCell (p := ⟨R, 0, none⟩) h a).setCell (p := ⟨R, 1, none⟩) h b).setCell (p := ⟨R, 2, none⟩) h c).setCell (p := ⟨R, 3, none⟩) h d).setCell (p := ⟨R, 4, none⟩) h e).setCell (p := ⟨R, 5, none⟩) h f)
theorem row6f {w : World} {b : Nat} {cs : Array Value} {t : TypeId} (h : w.heap[b]? = some (.cells cs t (0, 0))) :
    w.frozen? ⟨b, 0, none⟩ = false ∧ w.frozen? ⟨b, 1, none⟩ = false ∧ w.frozen? ⟨b, 2, none⟩ = false ∧ w.frozen? ⟨b, 3, none⟩ = false ∧ w.frozen? ⟨b, 4, none⟩ = false ∧ w.frozen? ⟨b, 5, none⟩ = false := by
  refine ⟨?_, ?_, ?_, ?_, ?_, ?_⟩ <;> simp [World.frozen?, h]
theorem nest6_row (w : World) (R : Nat) (a b c d e f : Value) (z0 z1 z2 z3 z4 z5 : Value) (t : TypeId) (h : w.heap[R]? = some (.cells #[z0, z1, z2, z3, z4, z5] t (0, 0))) : ((((((w.setCell ⟨R, 0, none⟩ a).setCell ⟨R, 1, none⟩ b).setCell ⟨R, 2, none⟩ c).setCell ⟨R, 3, none⟩ d).setCell ⟨R, 4, none⟩ e).setCell ⟨R, 5, none⟩ f).heap[R]? = some (.cells #[a, b, c, d, e, f] t (0, 0)) := w6_row w R a b c d e f z0 z1 z2 z3 z4 z5 t h
theorem nest6_below {w0 w : World} {B : Nat} (hb : Below B w0 w) (R : Nat) (a b c d e f : Value) (h : B ≤ R) : Below B w0 ((((((w.setCell ⟨R, 0, none⟩ a).setCell ⟨R, 1, none⟩ b).setCell ⟨R, 2, none⟩ c).setCell ⟨R, 3, none⟩ d).setCell ⟨R, 4, none⟩ e).setCell ⟨R, 5, none⟩ f) := w6_below hb R a b c d e f h
theorem four_set {w : World} {i0 i1 i2 i3 : It} {A0 A1 A2 A3 : Option Addr} {c0 c1 c2 c3 b off P : Nat} (a c d e f g : Value) (H : w.cell? ⟨b, off, none⟩ = some (.int .i64 (knd i0)) ∧ w.cell? ⟨b, off + 1, none⟩ = some (.int .i64 (num i0)) ∧ w.cell? ⟨b, off + 2, none⟩ = some (.string (tx i0)) ∧ w.cell? ⟨b, off + 3, none⟩ = some (.slice A0 (els i0).length c0) ∧ w.cell? ⟨b, off + 4, none⟩ = some (.int .i64 (knd i1)) ∧ w.cell? ⟨b, off + 4 + 1, none⟩ = some (.int .i64 (num i1)) ∧ w.cell? ⟨b, off + 4 + 2, none⟩ = some (.string (tx i1)) ∧ w.cell? ⟨b, off + 4 + 3, none⟩ = some (.slice A1 (els i1).length c1) ∧ w.cell? ⟨b, off + 8, none⟩ = some (.int .i64 (knd i2)) ∧ w.cell? ⟨b, off + 8 + 1, none⟩ = some (.int .i64 (num i2)) ∧ w.cell? ⟨b, off + 8 + 2, none⟩ = some (.string (tx i2)) ∧ w.cell? ⟨b, off + 8 + 3, none⟩ = some (.slice A2 (els i2).length c2) ∧ w.cell? ⟨b, off + 12, none⟩ = some (.int .i64 (knd i3)) ∧ w.cell? ⟨b, off + 12 + 1, none⟩ = some (.int .i64 (num i3)) ∧ w.cell? ⟨b, off + 12 + 2, none⟩ = some (.string (tx i3)) ∧ w.cell? ⟨b, off + 12 + 3, none⟩ = some (.slice A3 (els i3).length c3)) (hne : b ≠ P) : ((((((w.setCell ⟨P, 0, none⟩ a).setCell ⟨P, 1, none⟩ c).setCell ⟨P, 2, none⟩ d).setCell ⟨P, 3, none⟩ e).setCell ⟨P, 4, none⟩ f).setCell ⟨P, 5, none⟩ g).cell? ⟨b, off, none⟩ = some (.int .i64 (knd i0)) ∧ ((((((w.setCell ⟨P, 0, none⟩ a).setCell ⟨P, 1, none⟩ c).setCell ⟨P, 2, none⟩ d).setCell ⟨P, 3, none⟩ e).setCell ⟨P, 4, none⟩ f).setCell ⟨P, 5, none⟩ g).cell? ⟨b, off + 1, none⟩ = some (.int .i64 (num i0)) ∧ ((((((w.setCell ⟨P, 0, none⟩ a).setCell ⟨P, 1, none⟩ c).setCell ⟨P, 2, none⟩ d).setCell ⟨P, 3, none⟩ e).setCell ⟨P, 4, none⟩ f).setCell ⟨P, 5, none⟩ g).cell? ⟨b, off + 2, none⟩ = some (.string (tx i0)) ∧ ((((((w.setCell ⟨P, 0, none⟩ a).setCell ⟨P, 1, none⟩ c).setCell ⟨P, 2, none⟩ d).setCell ⟨P, 3, none⟩ e).setCell ⟨P, 4, none⟩ f).setCell ⟨P, 5, none⟩ g).cell? ⟨b, off + 3, none⟩ = some (.slice A0 (els i0).length c0) ∧ ((((((w.setCell ⟨P, 0, none⟩ a).setCell ⟨P, 1, none⟩ c).setCell ⟨P, 2, none⟩ d).setCell ⟨P, 3, none⟩ e).setCell ⟨P, 4, none⟩ f).setCell ⟨P, 5, none⟩ g).cell? ⟨b, off + 4, none⟩ = some (.int .i64 (knd i1)) ∧ ((((((w.setCell ⟨P, 0, none⟩ a).setCell ⟨P, 1, none⟩ c).setCell ⟨P, 2, none⟩ d).setCell ⟨P, 3, none⟩ e).setCell ⟨P, 4, none⟩ f).setCell ⟨P, 5, none⟩ g).cell? ⟨b, off + 4 + 1, none⟩ = some (.int .i64 (num i1)) ∧ ((((((w.setCell ⟨P, 0, none⟩ a).setCell ⟨P, 1, none⟩ c).setCell ⟨P, 2, none⟩ d).setCell ⟨P, 3, none⟩ e).setCell ⟨P, 4, none⟩ f).setCell ⟨P, 5, none⟩ g).cell? ⟨b, off + 4 + 2, none⟩ = some (.string (tx i1)) ∧ ((((((w.setCell ⟨P, 0, none⟩ a).setCell ⟨P, 1, none⟩ c).setCell ⟨P, 2, none⟩ d).setCell ⟨P, 3, none⟩ e).setCell ⟨P, 4, none⟩ f).setCell ⟨P, 5, none⟩ g).cell? ⟨b, off + 4 + 3, none⟩ = some (.slice A1 (els i1).length c1) ∧ ((((((w.setCell ⟨P, 0, none⟩ a).setCell ⟨P, 1, none⟩ c).setCell ⟨P, 2, none⟩ d).setCell ⟨P, 3, none⟩ e).setCell ⟨P, 4, none⟩ f).setCell ⟨P, 5, none⟩ g).cell? ⟨b, off + 8, none⟩ = some (.int .i64 (knd i2)) ∧ ((((((w.setCell ⟨P, 0, none⟩ a).setCell ⟨P, 1, none⟩ c).setCell ⟨P, 2, none⟩ d).setCell ⟨P, 3, none⟩ e).setCell ⟨P, 4, none⟩ f).setCell ⟨P, 5, none⟩ g).cell? ⟨b, off + 8 + 1, none⟩ = some (.int .i64 (num i2)) ∧ ((((((w.setCell ⟨P, 0, none⟩ a).setCell ⟨P, 1, none⟩ c).setCell ⟨P, 2, none⟩ d).setCell ⟨P, 3, none⟩ e).setCell ⟨P, 4, none⟩ f).setCell ⟨P, 5, none⟩ g).cell? ⟨b, off + 8 + 2, none⟩ = some (.string (tx i2)) ∧ ((((((w.setCell ⟨P, 0, none⟩ a).setCell ⟨P, 1, none⟩ c).setCell ⟨P, 2, none⟩ d).setCell ⟨P, 3, none⟩ e).setCell ⟨P, 4, none⟩ f).setCell ⟨P, 5, none⟩ g).cell? ⟨b, off + 8 + 3, none⟩ = some (.slice A2 (els i2).length c2) ∧ ((((((w.setCell ⟨P, 0, none⟩ a).setCell ⟨P, 1, none⟩ c).setCell ⟨P, 2, none⟩ d).setCell ⟨P, 3, none⟩ e).setCell ⟨P, 4, none⟩ f).setCell ⟨P, 5, none⟩ g).cell? ⟨b, off + 12, none⟩ = some (.int .i64 (knd i3)) ∧ ((((((w.setCell ⟨P, 0, none⟩ a).setCell ⟨P, 1, none⟩ c).setCell ⟨P, 2, none⟩ d).setCell ⟨P, 3, none⟩ e).setCell ⟨P, 4, none⟩ f).setCell ⟨P, 5, none⟩ g).cell? ⟨b, off + 12 + 1, none⟩ = some (.int .i64 (num i3)) ∧ ((((((w.setCell ⟨P, 0, none⟩ a).setCell ⟨P, 1, none⟩ c).setCell ⟨P, 2, none⟩ d).setCell ⟨P, 3, none⟩ e).setCell ⟨P, 4, none⟩ f).setCell ⟨P, 5, none⟩ g).cell? ⟨b, off + 12 + 2, none⟩ = some (.string (tx i3)) ∧ ((((((w.setCell ⟨P, 0, none⟩ a).setCell ⟨P, 1, none⟩ c).setCell ⟨P, 2, none⟩ d).setCell ⟨P, 3, none⟩ e).setCell ⟨P, 4, none⟩ f).setCell ⟨P, 5, none⟩ g).cell? ⟨b, off + 12 + 3, none⟩ = some (.slice A3 (els i3).length c3) :=
  four_keep H (w6_far w P a c d e f g b hne)
end Go.Proofs.YtebacdegjmcnlaaGreat
namespace Go.Proofs.YtebacdegjmcnlaaGreat
open Go.RowKit Pl
set_option linter.unusedVariables false
theorem ok_num {x : It} (h : x.ok = true) (hk : knd x = 1) : x = nIt (num x) ∧ InR (num x) := by
  obtain ⟨k, n, s, l⟩ := x
  simp only [knd] at hk
  subst hk
  simp only [It.ok, Bool.and_eq_true, decide_eq_true_eq] at h
  obtain ⟨⟨⟨⟨h1, h2⟩, _⟩, _⟩, _⟩ := h
  simp [form] at h1
  obtain ⟨hs, hl⟩ := h1
  refine ⟨?_, h2 trivial⟩
  simp only [nIt, num, It.mk.injEq, true_and]
  exact ⟨size_zero (by simpa using hs), by simpa using hl⟩
theorem ok_txt {x : It} (h : x.ok = true) (hk : knd x = 2) : x = sIt (tx x) ∧ (tx x).size ≤ 4096 := by
  obtain ⟨k, n, s, l⟩ := x
  simp only [knd] at hk
  subst hk
  simp only [It.ok, Bool.and_eq_true, decide_eq_true_eq] at h
  obtain ⟨⟨⟨⟨h1, _⟩, h3⟩, _⟩, _⟩ := h
  simp [form] at h1
  obtain ⟨hs, hl⟩ := h1
  refine ⟨?_, h3 trivial⟩
  simp only [sIt, tx, It.mk.injEq, true_and]
  exact ⟨by simpa using hs, by simpa using hl⟩
theorem ok_row {n : Int} {s : ByteArray} {l : List It} (h : (It.mk 3 n s l).ok = true) : n = 0 ∧ s = ⟨#[]⟩ ∧ oks l = true := by
  simp only [It.ok, Bool.and_eq_true, decide_eq_true_eq] at h
  obtain ⟨⟨⟨⟨h1, _⟩, _⟩, _⟩, h5⟩ := h
  simp [form] at h1
  exact ⟨by simpa using h1.1, size_zero (by simpa using h1.2), h5⟩
theorem ok_vec {x : It} (h : x.ok = true) (hk : isV x = true) : x = vIt (vA x) (vB3 x) (vC x) ∧ InR (vA x) ∧ InR (vB3 x) ∧ InR (vC x) := by
  obtain ⟨k, n, s, l⟩ := x
  simp only [isV, knd, els, Bool.and_eq_true, beq_iff_eq] at hk
  obtain ⟨rfl, hk⟩ := hk
  obtain ⟨rfl, rfl, h5⟩ := ok_row h
  split at hk
  · rename_i x y z
    simp only [Bool.and_eq_true, beq_iff_eq] at hk
    simp only [oks, Bool.and_eq_true] at h5
    obtain ⟨e1, r1⟩ := ok_num h5.1 hk.1
    obtain ⟨e2, r2⟩ := ok_num h5.2.1 hk.2.1
    obtain ⟨e3, r3⟩ := ok_num h5.2.2.1 hk.2.2
    refine ⟨?_, r1, r2, r3⟩
    simp only [vIt, vA, vB3, vC, els]
    rw [← e1, ← e2, ← e3]
  · cases hk
abbrev T7 := Int × ByteArray × ByteArray × Int × Int × Int × Int
abbrev T6 := Int × ByteArray × Int × Int × Int × Int
/-- the command of an item -/
def asC (t : It) : Option T7 := match els t with
  | [i0, i1, i2, i3, i4] => if (knd t == 3 && (five5 i0 i1 i2 i3 i4 && mayC (num i0) (tx i1) (tx i2) (vA i3) (vB3 i3) (vC i3) (num i4))) = true then some (num i0, tx i1, tx i2, vA i3, vB3 i3, vC i3, num i4) else none
  | _ => none
def asR (t : It) : Option T6 := match els t with
  | [i0, i1, i2, i3] => if (knd t == 3 && (four4 i0 i1 i2 i3 && mayR (num i0) (tx i1))) = true then some (num i0, tx i1, vA i2, vB3 i2, vC i2, num i3) else none
  | _ => none
def resC (l : List UInt8) : Option T7 := (dec l).bind asC
def resR (l : List UInt8) : Option T6 := (dec l).bind asR
theorem isV_vIt (a b c : Int) : isV (vIt a b c) = true := by simp [isV, vIt, knd, els, nIt]
theorem asC_cIt (o : Int) (s t : ByteArray) (a b c n : Int) (h : mayC o s t a b c n = true) : asC (cIt o s t a b c n) = some (o, s, t, a, b, c, n) := by
  have h5 : five5 (nIt o) (sIt s) (sIt t) (vIt a b c) (nIt n) = true := by unfold five5; rw [isV_vIt]; rfl
  show (if ((3 : Int) == 3 && (five5 (nIt o) (sIt s) (sIt t) (vIt a b c) (nIt n) && mayC o s t a b c n)) = true then some (o, s, t, a, b, c, n) else none) = _
  rw [h5, h]; rfl
theorem asR_rIt (o : Int) (s : ByteArray) (a b c n : Int) (h : mayR o s = true) : asR (rIt o s a b c n) = some (o, s, a, b, c, n) := by
  have h5 : four4 (nIt o) (sIt s) (vIt a b c) (nIt n) = true := by unfold four4; rw [isV_vIt]; rfl
  show (if ((3 : Int) == 3 && (four4 (nIt o) (sIt s) (vIt a b c) (nIt n) && mayR o s)) = true then some (o, s, a, b, c, n) else none) = _
  rw [h5, h]; rfl
theorem cIt_dec (o : Int) (s t : ByteArray) (a b c n : Int) (ho : InR o) (ha : InR a) (hb : InR b) (hc : InR c) (hn : InR n) (hs : s.size ≤ 4096) (ht : t.size ≤ 4096) : dec (cIt o s t a b c n).enc = some (cIt o s t a b c n) := by
  rw [dec_iff]
  refine ⟨?_, ?_, ?_, rfl⟩
  · obtain ⟨o1, o2⟩ := ho
    obtain ⟨a1, a2⟩ := ha
    obtain ⟨b1, b2⟩ := hb
    obtain ⟨c1, c2⟩ := hc
    obtain ⟨n1, n2⟩ := hn
    simp [cIt, vIt, nIt, sIt, It.ok, oks, form, zero_size, *]
  · simp [cIt, vIt, nIt, sIt, It.dep, deps]
  · simp [cIt, vIt, nIt, sIt, It.cnt, cnts]
theorem rIt_dec (o : Int) (s : ByteArray) (a b c n : Int) (ho : InR o) (ha : InR a) (hb : InR b) (hc : InR c) (hn : InR n) (hs : s.size ≤ 4096) : dec (rIt o s a b c n).enc = some (rIt o s a b c n) := by
  rw [dec_iff]
  refine ⟨?_, ?_, ?_, rfl⟩
  · obtain ⟨o1, o2⟩ := ho
    obtain ⟨a1, a2⟩ := ha
    obtain ⟨b1, b2⟩ := hb
    obtain ⟨c1, c2⟩ := hc
    obtain ⟨n1, n2⟩ := hn
    simp [rIt, vIt, nIt, sIt, It.ok, oks, form, zero_size, *]
  · simp [rIt, vIt, nIt, sIt, It.dep, deps]
  · simp [rIt, vIt, nIt, sIt, It.cnt, cnts]
theorem asC_is {x : It} (hx : x.ok = true) {o : Int} {s t : ByteArray} {a b c n : Int} (h : asC x = some (o, s, t, a, b, c, n)) : x = cIt o s t a b c n ∧ mayC o s t a b c n = true ∧ InR o ∧ InR a ∧ InR b ∧ InR c ∧ InR n := by
  obtain ⟨k, m, z, l⟩ := x
  unfold asC at h
  split at h
  · rename_i i0 i1 i2 i3 i4 he
    simp only [els] at he
    subst he
    split at h
    · rename_i hb
      · simp only [Bool.and_eq_true, five5, beq_iff_eq, knd] at hb
        obtain ⟨rfl, ⟨q0, q1, q2, q3, q4⟩, hm⟩ := hb
        obtain ⟨rfl, rfl, h5⟩ := ok_row hx
        simp only [Option.some.injEq, Prod.mk.injEq] at h
        obtain ⟨rfl, rfl, rfl, rfl, rfl, rfl, rfl⟩ := h
        simp only [oks, Bool.and_eq_true] at h5
        obtain ⟨e0, r0⟩ := ok_num h5.1 q0
        obtain ⟨e1, _⟩ := ok_txt h5.2.1 q1
        obtain ⟨e2, _⟩ := ok_txt h5.2.2.1 q2
        obtain ⟨e3, r3, r4, r5⟩ := ok_vec h5.2.2.2.1 q3
        obtain ⟨e4, r6⟩ := ok_num h5.2.2.2.2.1 q4
        refine ⟨?_, hm, r0, r3, r4, r5, r6⟩
        unfold cIt
        rw [← e0, ← e1, ← e2, ← e3, ← e4]
    · cases h
  · cases h
theorem asR_is {x : It} (hx : x.ok = true) {o : Int} {s : ByteArray} {a b c n : Int} (h : asR x = some (o, s, a, b, c, n)) : x = rIt o s a b c n ∧ mayR o s = true ∧ InR o ∧ InR a ∧ InR b ∧ InR c ∧ InR n := by
  obtain ⟨k, m, z, l⟩ := x
  unfold asR at h
  split at h
  · rename_i i0 i1 i2 i3 he
    simp only [els] at he
    subst he
    split at h
    · rename_i hb
      · simp only [Bool.and_eq_true, four4, beq_iff_eq, knd] at hb
        obtain ⟨rfl, ⟨q0, q1, q2, q3⟩, hm⟩ := hb
        obtain ⟨rfl, rfl, h5⟩ := ok_row hx
        simp only [Option.some.injEq, Prod.mk.injEq] at h
        obtain ⟨rfl, rfl, rfl, rfl, rfl, rfl⟩ := h
        simp only [oks, Bool.and_eq_true] at h5
        obtain ⟨e0, r0⟩ := ok_num h5.1 q0
        obtain ⟨e1, _⟩ := ok_txt h5.2.1 q1
        obtain ⟨e2, r3, r4, r5⟩ := ok_vec h5.2.2.1 q2
        obtain ⟨e3, r6⟩ := ok_num h5.2.2.2.1 q3
        refine ⟨?_, hm, r0, r3, r4, r5, r6⟩
        unfold rIt
        rw [← e0, ← e1, ← e2, ← e3]
    · cases h
  · cases h
theorem resC_iff (l : List UInt8) (o : Int) (s t : ByteArray) (a b c n : Int) : resC l = some (o, s, t, a, b, c, n) ↔ (mayC o s t a b c n = true ∧ InR o ∧ InR a ∧ InR b ∧ InR c ∧ InR n ∧ l = (cIt o s t a b c n).enc) := by
  constructor
  · intro h
    unfold resC at h
    cases hd : dec l with
    | none => rw [hd] at h; cases h
    | some x =>
      rw [hd] at h
      obtain ⟨hx, _, _, hl⟩ := (dec_iff l x).1 hd
      obtain ⟨rfl, hm, r1, r2, r3, r4, r5⟩ := asC_is hx h
      exact ⟨hm, r1, r2, r3, r4, r5, hl⟩
  · rintro ⟨hm, r1, r2, r3, r4, r5, rfl⟩
    obtain ⟨s1, s2⟩ := mayC_name hm
    unfold resC
    rw [cIt_dec o s t a b c n r1 r2 r3 r4 r5 s1 s2]
    exact asC_cIt o s t a b c n hm
theorem resR_iff (l : List UInt8) (o : Int) (s : ByteArray) (a b c n : Int) : resR l = some (o, s, a, b, c, n) ↔ (mayR o s = true ∧ InR o ∧ InR a ∧ InR b ∧ InR c ∧ InR n ∧ l = (rIt o s a b c n).enc) := by
  constructor
  · intro h
    unfold resR at h
    cases hd : dec l with
    | none => rw [hd] at h; cases h
    | some x =>
      rw [hd] at h
      obtain ⟨hx, _, _, hl⟩ := (dec_iff l x).1 hd
      obtain ⟨rfl, hm, r1, r2, r3, r4, r5⟩ := asR_is hx h
      exact ⟨hm, r1, r2, r3, r4, r5, hl⟩
  · rintro ⟨hm, r1, r2, r3, r4, r5, rfl⟩
    obtain ⟨_, _, s1⟩ := mayR_size hm
    unfold resR
    rw [rIt_dec o s a b c n r1 r2 r3 r4 r5 (by omega)]
    exact asR_rIt o s a b c n hm
end Go.Proofs.YtebacdegjmcnlaaGreat
namespace Go.Proofs.YtebacdegjmcnlaaGreat
open Go.RowKit Pl
set_option linter.unusedVariables false
set_option maxRecDepth 20000
def zc : Array Value := #[.int .i64 0, .string ⟨#[]⟩, .string ⟨#[]⟩, .int .i64 0, .int .i64 0, .int .i64 0, .int .i64 0]
def CaughtC (B p q : Nat) (older : List PanicEntry) (w : World) (e : Ending) (u' : FrameMode) (w' : World) : Prop :=
  e = .returned (.tuple #[]) ∧ u' = .panicking ({ v := .iface 26 (.int .i64 4), recovered := true } :: older) ∧ w'.heap[p]? = some (.cells zc 32 (0, 0)) ∧ w'.heap[q]? = some (.cells #[.int .i64 4] 26 (0, 0)) ∧ Below B w w'
theorem catchC_panicking (B p q : Nat) (a0 a1 a2 a3 a4 a5 a6 b0 : Value) (older : List PanicEntry) (w : World) (hp : w.heap[p]? = some (.cells #[a0, a1, a2, a3, a4, a5, a6] 32 (0, 0))) (hq : w.heap[q]? = some (.cells #[b0] 26 (0, 0))) (hBp : B ≤ p) (hBq : B ≤ q) (hne : p ≠ q) (hB : B ≤ w.heap.size) :
    CallsD Tryz.prog 61 #[.pointer (some ⟨p, 0, none⟩), .pointer (some ⟨q, 0, none⟩)] (.panicking ({ v := .iface 26 (.int .i64 4), recovered := false } :: older)) w (CaughtC B p q older w) := by
  have hz0 : (Instr.build 32 #[]).run Tryz.prog w = .ok (.agg #[.int .i64 0, .string ⟨#[]⟩, .string ⟨#[]⟩, .int .i64 0, .int .i64 0, .int .i64 0, .int .i64 0]) w := run_build w 32 _ _ (by kernel_rfl)
  refine callsD_of_wpS Tryz.func61 rfl fun c₀ cs hu => ?_
  apply wpS_seq
  apply wpS_region
  simp [wpOpsS, go_sem, recoverD, hu, Tryz.ntmps61, Exit.thenS]
  refine wpS_of_wp ?_
  rw [show (#[Value.pointer (some ⟨p, 0, none⟩), Value.pointer (some ⟨q, 0, none⟩)] ++ ((Array.replicate 3 undef).setIfInBounds 0 (Value.iface 26 (Value.int IntKind.i64 4))).setIfInBounds 1 (Value.bool true)) =
    #[Value.pointer (some ⟨p, 0, none⟩), Value.pointer (some ⟨q, 0, none⟩), Value.iface 26 (Value.int IntKind.i64 4), Value.bool true, undef] from rfl]
  obtain ⟨x0, x1, x2, x3, x4, x5, x6⟩ := row7 hp
  obtain ⟨f0, f1, f2, f3, f4, f5, f6⟩ := row7f hp
  have s0 : w.cell? ⟨q, 0, none⟩ = some b0 := cell_of_row w q 0 _ _ _ hq
  have y0 : w.frozen? ⟨q, 0, none⟩ = false := by simp [World.frozen?, hq]
  have HP := Lib.hid hp
  have HQ := Lib.hid hq
  clear hp hq hu
  go_wp2_with fail
  have R1 := w7_row w p (.int .i64 0) (.string ⟨#[]⟩) (.string ⟨#[]⟩) (.int .i64 0) (.int .i64 0) (.int .i64 0) (.int .i64 0) _ _ _ _ _ _ _ 32 HP.out
  have F1 := w7_far w p (.int .i64 0) (.string ⟨#[]⟩) (.string ⟨#[]⟩) (.int .i64 0) (.int .i64 0) (.int .i64 0) (.int .i64 0) q (Ne.symm hne)
  have B1 := w7_below (Below.refl B w) p (.int .i64 0) (.string ⟨#[]⟩) (.string ⟨#[]⟩) (.int .i64 0) (.int .i64 0) (.int .i64 0) (.int .i64 0) hBp
  refine ⟨rfl, _, rfl, .tuple #[], by simp [results, Tryz.results61], rfl, rfl, ?_, ?_, ?_⟩
  · exact (Below.heap_setCell _ _ _ _ hne).trans R1
  · exact heap_set _ q 0 (.int .i64 4) _ _ (F1.trans HQ.out)
  · exact B1.setCell hBq _
theorem catchC_idle (p q : Value) (w : World) : CallsD Tryz.prog 61 #[p, q] .returning w fun e u' w' => e = .returned (.tuple #[]) ∧ u' = .returning ∧ w = w' := by
  refine callsD_of_wpS Tryz.func61 rfl fun c₀ cs hu => ?_
  apply wpS_seq
  apply wpS_region
  simp [wpOpsS, go_sem, recoverD, hu, Tryz.ntmps61, Exit.thenS]
  refine wpS_of_wp ?_
  rw [show (#[p, q] ++ ((Array.replicate 3 undef).setIfInBounds 0 Value.nilIface).setIfInBounds 1 (Value.bool false)) = #[p, q, Value.nilIface, Value.bool false, undef] from rfl]
  go_wp2_with fail
  cases c₀
  simp_all [bodyPostS, results, Tryz.results61]
def zr : Array Value := #[.int .i64 0, .string ⟨#[]⟩, .int .i64 0, .int .i64 0, .int .i64 0, .int .i64 0]
end Go.Proofs.YtebacdegjmcnlaaGreat
namespace Go.Proofs.YtebacdegjmcnlaaGreat
open Go.RowKit Pl
set_option linter.unusedVariables false
set_option maxRecDepth 20000
def vC7 (x : T7) : Value := .agg #[.int .i64 x.1, .string x.2.1, .string x.2.2.1, .int .i64 x.2.2.2.1, .int .i64 x.2.2.2.2.1, .int .i64 x.2.2.2.2.2.1, .int .i64 x.2.2.2.2.2.2]
def vR6 (x : T6) : Value := .agg #[.int .i64 x.1, .string x.2.1, .int .i64 x.2.2.1, .int .i64 x.2.2.2.1, .int .i64 x.2.2.2.2.1, .int .i64 x.2.2.2.2.2]
def OptP (r : Option Value) (w : World) (e : Ending) (w' : World) : Prop := (e = match r with | some v => .returned v | none => .panicked CP) ∧ Below w.heap.size w w'
theorem ok_size {x : It} (h : x.ok = true) : (tx x).size ≤ 281474976710656 := by
  obtain ⟨k, n, s, l⟩ := x
  simp only [It.ok, Bool.and_eq_true, decide_eq_true_eq] at h
  obtain ⟨⟨⟨⟨h1, _⟩, h3⟩, _⟩, _⟩ := h
  simp only [tx]
  unfold form at h1
  simp only [Bool.or_eq_true, Bool.and_eq_true, beq_iff_eq] at h1
  rcases h1 with (h1 | h1) | h1
  · omega
  · have := h3 h1.1.1; omega
  · omega
theorem orOpt {b : Bool} {v : Value} {w w' : World} {e : Ending} (h : OrP b v w e w') : OptP (if b = true then some v else none) w e w' := by
  refine ⟨?_, h.2⟩
  rw [h.1]
  cases b <;> rfl
theorem commandOf_any (l : List UInt8) (w : World) (hs : l.length ≤ 281474976710656) : Calls Tryz.prog 62 #[.string (Nm.str l)] w (OptP ((resC l).map vC7) w) := by
  have HB0 := Lib.hid ((Below.refl w.heap.size w).alloc (Nat.le_refl _) (.cells #[.int .i64 0, .string ⟨#[]⟩, .string ⟨#[]⟩, .int .i64 0, .int .i64 0, .int .i64 0, .int .i64 0] 32))
  cases hd : dec l with
  | none =>
    have HS := Lib.hid hs
    have HD := Lib.hid hd
    clear hs hd
    go_enter Tryz.func62, Tryz.ntmps62
    go_wp2_with (go_at_call 89; (with_reducible refine (itemOf_any l _ HS.out).mono ?_); rintro e w1 ⟨hb1, _, hno⟩; obtain rfl := hno HD.out)
    exact ⟨rfl, by rw [resC, HD.out]; rfl, HB0.out.trans (hb1.mono HB0.out.size)⟩
  | some t =>
    obtain ⟨k, m, z, q⟩ := t
    by_cases h3 : k = 3 ∧ q.length = 5
    · obtain ⟨rfl, hl⟩ := h3
      match q, hl with
      | [i0, i1, i2, i3, i4], _ =>
        obtain ⟨hok, _, _, _⟩ := (dec_iff l _).1 hd
        obtain ⟨rfl, rfl, h5⟩ := ok_row hok
        simp only [oks, Bool.and_eq_true] at h5
        refine (cmd_five l 0 ⟨#[]⟩ i0 i1 i2 i3 i4 hd w hs (ok_size h5.2.1) (ok_size h5.2.2.1)).mono fun e w' h => ?_
        have h6 := orOpt h
        rw [resC, hd]
        change OptP (Option.map vC7 (asC (.mk 3 0 ⟨#[]⟩ [i0, i1, i2, i3, i4]))) w e w'
        rw [show asC (.mk 3 0 ⟨#[]⟩ [i0, i1, i2, i3, i4]) = (if (five5 i0 i1 i2 i3 i4 && mayC (num i0) (tx i1) (tx i2) (vA i3) (vB3 i3) (vC i3) (num i4)) = true then some (num i0, tx i1, tx i2, vA i3, vB3 i3, vC i3, num i4) else none) from rfl]
        revert h6
        generalize (five5 i0 i1 i2 i3 i4 && mayC (num i0) (tx i1) (tx i2) (vA i3) (vB3 i3) (vC i3) (num i4)) = Q
        cases Q
        · exact fun h6 => h6
        · exact fun h6 => h6
    · have hk : k ≠ 3 ∨ (q.length : Int) ≠ 5 := by
        by_cases e : k = 3
        · right; intro h; exact h3 ⟨e, by omega⟩
        · exact .inl e
      have hr : (resC l).map vC7 = none := by
        rw [resC, hd]
        show Option.map vC7 (asC (.mk k m z q)) = none
        unfold asC
        simp only [els, knd]
        split
        · rcases hk with hk | hk
          · simp [hk]
          · simp at hk
        · rfl
      have HS := Lib.hid hs
      have HD := Lib.hid hd
      have HK := Lib.hid hk
      have HR := Lib.hid hr
      clear hs hd h3 hk hr
      go_enter Tryz.func62, Tryz.ntmps62
      go_wp2_with (first
        | (go_at_call 88; (with_reducible refine (els_no _ _ _ _ _ _ _ HK.out _).mono ?_); rintro e w2 ⟨rfl, hb2⟩)
        | (go_at_call 89; (with_reducible refine (itemOf_any l _ HS.out).mono ?_); rintro e w1 ⟨hb1, hyes, hnn⟩; clear hnn; obtain ⟨v, rfl, hv⟩ := hyes _ HD.out; rw [IsIt] at hv; obtain ⟨A, cc, rfl, hv1, hv2, hv3, hv4, hal⟩ := hv; clear hv1 hv2 hv3 hv4; have B1 := Lib.hid hb1; clear hal hb1 hyes))
      exact ⟨rfl, by rw [HR.out], HB0.out.trans ((B1.out.trans (hb2.mono B1.out.size)).mono HB0.out.size)⟩
end Go.Proofs.YtebacdegjmcnlaaGreat
namespace Go.Proofs.YtebacdegjmcnlaaGreat
open Go.RowKit Pl
set_option linter.unusedVariables false
set_option maxRecDepth 20000
/-- what Decode, Unpack answer -/
def DecP (r : Option Value) (z : Array Value) (w : World) (e : Ending) (w' : World) : Prop := (e = match r with | some v => .returned (.tuple #[v, .int .i64 0]) | none => .returned (.tuple #[.agg z, .int .i64 4])) ∧ Below w.heap.size w w'
theorem decodeC_any (l : List UInt8) (w : World) (hs : l.length ≤ 281474976710656) : Calls Tryz.prog 35 #[.string (Nm.str l)] w (DecP ((resC l).map vC7) zc w) := by
  have hmf : ∀ (fn : Fn) (first cap : Array Value) (w : World), (Instr.makeFunc fn first cap).run Tryz.prog w = .ok (.func fn first cap) w := fun _ _ _ _ => rfl
  have HS := Lib.hid hs
  clear hs
  have hpW : ((w.alloc (.cells zc 32)).alloc (.cells #[.int .i64 0] 26)).heap[w.heap.size]? = some (.cells zc 32 (0, 0)) := (Below.heap_alloc _ _ _ (by simp)).trans (heap_alloc_new _ _)
  have hqW : ((w.alloc (.cells zc 32)).alloc (.cells #[.int .i64 0] 26)).heap[w.heap.size + 1]? = some (.cells #[.int .i64 0] 26 (0, 0)) := by
    rw [show w.heap.size + 1 = (w.alloc (.cells zc 32)).heap.size from by simp]; exact heap_alloc_new _ _
  have hbW : Below w.heap.size w ((w.alloc (.cells zc 32)).alloc (.cells #[.int .i64 0] 26)) := ((Below.refl _ _).alloc (Nat.le_refl _) _).alloc (by simp) _
  have hsW : ((w.alloc (.cells zc 32)).alloc (.cells #[.int .i64 0] 26)).heap.size = w.heap.size + 2 := by simp
  obtain ⟨W, hW⟩ : ∃ W, W = ((w.alloc (.cells zc 32)).alloc (.cells #[.int .i64 0] 26)) := ⟨_, rfl⟩
  rw [← hW] at hpW hqW hbW hsW
  have HW := Lib.hid hW
  have HP := Lib.hid hpW
  have HQ := Lib.hid hqW
  have HB := Lib.hid hbW
  have HZ := Lib.hid hsW
  clear hW hpW hqW hbW hsW
  cases hr : resC l with
  | none =>
    have HR := Lib.hid hr
    clear hr
    go_enter_defers Tryz.func35, Tryz.ntmps35
    go_wp2_with fail
    change Calls Tryz.prog 62 _ ((w.alloc (.cells zc 32)).alloc (.cells #[.int .i64 0] 26)) _
    rw [← HW.out]
    refine (commandOf_any l W HS.out).mono ?_
    rintro e w1 ⟨he, hb1⟩
    rw [HR.out] at he
    simp only [Option.map_none] at he
    subst he
    have hz := HZ.out
    have hp1 := (hb1.block w.heap.size (by omega)).trans HP.out
    have hq1 := (hb1.block (w.heap.size + 1) (by omega)).trans HQ.out
    have hbb : Below w.heap.size w w1 := HB.out.trans (hb1.mono HB.out.size)
    refine leaves_cons (f := 61) (args := #[.pointer (some ⟨w.heap.size, 0, none⟩), .pointer (some ⟨w.heap.size + 1, 0, none⟩)]) (by simp) (by simp [go_sem]) ?_
    refine (catchC_panicking w.heap.size w.heap.size (w.heap.size + 1) _ _ _ _ _ _ _ _ [] w1 hp1 hq1 (Nat.le_refl _) (by omega) (by omega) hbb.size).mono ?_
    rintro e u' w3 ⟨rfl, rfl, hp3, hq3, hb3⟩
    unfold zc at hp3
    obtain ⟨m0, m1, m2, m3, m4, m5, m6⟩ := row7 hp3
    have s0 : w3.cell? ⟨w.heap.size + 1, 0, none⟩ = some (.int .i64 4) := cell_of_row w3 _ 0 _ _ _ hq3
    refine ⟨.tuple #[.agg zc, .int .i64 4], ?_, by rfl, hbb.trans hb3⟩
    simp [results, Tryz.results35, go_sem, m0, m1, m2, m3, m4, m5, m6, s0, zc]
  | some x =>
    obtain ⟨x0, x1, x2, x3, x4, x5, x6⟩ := x
    have HR := Lib.hid hr
    clear hr
    go_enter_defers Tryz.func35, Tryz.ntmps35
    go_wp2_with fail
    change Calls Tryz.prog 62 _ ((w.alloc (.cells zc 32)).alloc (.cells #[.int .i64 0] 26)) _
    rw [← HW.out]
    refine (commandOf_any l W HS.out).mono ?_
    rintro e w1 ⟨he, hb1⟩
    rw [HR.out] at he
    simp only [Option.map_some, vC7] at he
    subst he
    have hz := HZ.out
    have hp1 := (hb1.block w.heap.size (by omega)).trans HP.out
    have hq1 := (hb1.block (w.heap.size + 1) (by omega)).trans HQ.out
    have hbb : Below w.heap.size w w1 := HB.out.trans (hb1.mono HB.out.size)
    unfold zc at hp1
    obtain ⟨r0, r1, r2, r3, r4, r5, r6⟩ := row7 hp1
    obtain ⟨f0, f1, f2, f3, f4, f5, f6⟩ := row7f hp1
    have s0 : w1.cell? ⟨w.heap.size + 1, 0, none⟩ = some (.int .i64 0) := cell_of_row w1 _ 0 _ _ _ hq1
    have y0 : w1.frozen? ⟨w.heap.size + 1, 0, none⟩ = false := by simp [World.frozen?, hq1]
    have HP1 := Lib.hid hp1
    have HQ1 := Lib.hid hq1
    have HB1 := Lib.hid hbb
    clear hp1 hq1 hbb hb1 hz
    go_wp2_with fail
    have R1 := nest_row w1 w.heap.size (.int .i64 x0) (.string x1) (.string x2) (.int .i64 x3) (.int .i64 x4) (.int .i64 x5) (.int .i64 x6) _ _ _ _ _ _ _ 32 HP1.out
    have F1 := w7_far w1 w.heap.size (.int .i64 x0) (.string x1) (.string x2) (.int .i64 x3) (.int .i64 x4) (.int .i64 x5) (.int .i64 x6) (w.heap.size + 1) (by omega)
    have B1 := nest_below HB1.out w.heap.size (.int .i64 x0) (.string x1) (.string x2) (.int .i64 x3) (.int .i64 x4) (.int .i64 x5) (.int .i64 x6) (Nat.le_refl _)
    change _ = _ at F1
    have Q1 := heap_set _ (w.heap.size + 1) 0 (.int .i64 0) _ _ (F1.trans HQ1.out)
    have R2 := (Below.heap_setCell (w7 w1 w.heap.size (.int .i64 x0) (.string x1) (.string x2) (.int .i64 x3) (.int .i64 x4) (.int .i64 x5) (.int .i64 x6)) ⟨w.heap.size + 1, 0, none⟩ (.int .i64 0) w.heap.size (by simp)).trans R1
    have B2 := B1.setCell (p := ⟨w.heap.size + 1, 0, none⟩) (by simp) (.int .i64 0)
    change bodyPostD _ _ _ _ _ ((w7 w1 w.heap.size (.int .i64 x0) (.string x1) (.string x2) (.int .i64 x3) (.int .i64 x4) (.int .i64 x5) (.int .i64 x6)).setCell ⟨w.heap.size + 1, 0, none⟩ (.int .i64 0))
    change Below w.heap.size w ((w7 w1 w.heap.size (.int .i64 x0) (.string x1) (.string x2) (.int .i64 x3) (.int .i64 x4) (.int .i64 x5) (.int .i64 x6)).setCell ⟨w.heap.size + 1, 0, none⟩ (.int .i64 0)) at B2
    generalize (w7 w1 w.heap.size (.int .i64 x0) (.string x1) (.string x2) (.int .i64 x3) (.int .i64 x4) (.int .i64 x5) (.int .i64 x6)).setCell ⟨w.heap.size + 1, 0, none⟩ (.int .i64 0) = V at *
    refine leaves_cons (f := 61) (args := #[.pointer (some ⟨w.heap.size, 0, none⟩), .pointer (some ⟨w.heap.size + 1, 0, none⟩)]) (by simp) (by simp [go_sem]) ?_
    refine (catchC_idle _ _ V).mono ?_
    rintro e u' w6 ⟨rfl, rfl, rfl⟩
    obtain ⟨m0, m1, m2, m3, m4, m5, m6⟩ := row7 R2
    have s1 := cell_of_row V _ 0 _ _ _ Q1
    refine ⟨.tuple #[.agg #[.int .i64 x0, .string x1, .string x2, .int .i64 x3, .int .i64 x4, .int .i64 x5, .int .i64 x6], .int .i64 0], ?_, by rfl, B2⟩
    simp [results, Tryz.results35, go_sem, m0, m1, m2, m3, m4, m5, m6, s1]
end Go.Proofs.YtebacdegjmcnlaaGreat
