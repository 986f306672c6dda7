import Derived.Test.YtebacdegjmcnlaaGreatXn
import Derived.Deep.RegionHeld2
namespace Go.Proofs.YtebacdegjmcnlaaGreat
open Go.RowKit Pl
set_option linter.unusedVariables false
set_option maxRecDepth 20000
theorem five {w : World} {S : Nat → Prop} {i0 i1 i2 i3 i4 : It} {A : Option Addr} (h : AreIts w S [i0, i1, i2, i3, i4] A 0) :
    ∃ b off A0 A1 A2 A3 A4 c0 c1 c2 c3 c4, A = some ⟨b, off, none⟩ ∧ S b ∧ (w.cell? ⟨b, off, none⟩ = some (.int .i64 (knd i0)) ∧ w.cell? ⟨b, off + 1, none⟩ = some (.int .i64 (num i0)) ∧ w.cell? ⟨b, off + 2, none⟩ = some (.string (tx i0)) ∧ w.cell? ⟨b, off + 3, none⟩ = some (.slice A0 (els i0).length c0) ∧ w.cell? ⟨b, off + 4, none⟩ = some (.int .i64 (knd i1)) ∧ w.cell? ⟨b, off + 4 + 1, none⟩ = some (.int .i64 (num i1)) ∧ w.cell? ⟨b, off + 4 + 2, none⟩ = some (.string (tx i1)) ∧ w.cell? ⟨b, off + 4 + 3, none⟩ = some (.slice A1 (els i1).length c1) ∧ w.cell? ⟨b, off + 8, none⟩ = some (.int .i64 (knd i2)) ∧ w.cell? ⟨b, off + 8 + 1, none⟩ = some (.int .i64 (num i2)) ∧ w.cell? ⟨b, off + 8 + 2, none⟩ = some (.string (tx i2)) ∧ w.cell? ⟨b, off + 8 + 3, none⟩ = some (.slice A2 (els i2).length c2) ∧ w.cell? ⟨b, off + 12, none⟩ = some (.int .i64 (knd i3)) ∧ w.cell? ⟨b, off + 12 + 1, none⟩ = some (.int .i64 (num i3)) ∧ w.cell? ⟨b, off + 12 + 2, none⟩ = some (.string (tx i3)) ∧ w.cell? ⟨b, off + 12 + 3, none⟩ = some (.slice A3 (els i3).length c3) ∧ w.cell? ⟨b, off + 16, none⟩ = some (.int .i64 (knd i4)) ∧ w.cell? ⟨b, off + 16 + 1, none⟩ = some (.int .i64 (num i4)) ∧ w.cell? ⟨b, off + 16 + 2, none⟩ = some (.string (tx i4)) ∧ w.cell? ⟨b, off + 16 + 3, none⟩ = some (.slice A4 (els i4).length c4)) ∧ IsIt w S i3 (.agg #[.int .i64 (knd i3), .int .i64 (num i3), .string (tx i3), .slice A3 (els i3).length c3]) := by
  obtain ⟨b, off, A0, c0, rfl, hb, C0, _⟩ := cel_of h (k := 0) rfl
  obtain ⟨b1, off1, A1, c1, e1, _, C1, _⟩ := cel_of h (k := 1) rfl
  obtain ⟨b2, off2, A2, c2, e2, _, C2, _⟩ := cel_of h (k := 2) rfl
  obtain ⟨b3, off3, A3, c3, e3, _, C3, I3⟩ := cel_of h (k := 3) rfl
  obtain ⟨b4, off4, A4, c4, e4, _, C4, _⟩ := cel_of h (k := 4) rfl
  simp only [Option.some.injEq, Addr.mk.injEq, and_true] at e1 e2 e3 e4
  obtain ⟨rfl, rfl⟩ := e1
  obtain ⟨rfl, rfl⟩ := e2
  obtain ⟨rfl, rfl⟩ := e3
  obtain ⟨rfl, rfl⟩ := e4
  rw [Nat.zero_mul, Nat.add_zero] at C0
  exact ⟨b, off, A0, A1, A2, A3, A4, c0, c1, c2, c3, c4, rfl, hb, ⟨C0.c0, C0.c1, C0.c2, C0.c3, C1.c0, C1.c1, C1.c2, C1.c3, C2.c0, C2.c1, C2.c2, C2.c3, C3.c0, C3.c1, C3.c2, C3.c3, C4.c0, C4.c1, C4.c2, C4.c3⟩, I3⟩
theorem five_keep {w w' : World} {i0 i1 i2 i3 i4 : It} {A0 A1 A2 A3 A4 : Option Addr} {c0 c1 c2 c3 c4 b off : Nat} (h : w.cell? ⟨b, off, none⟩ = some (.int .i64 (knd i0)) ∧ w.cell? ⟨b, off + 1, none⟩ = some (.int .i64 (num i0)) ∧ w.cell? ⟨b, off + 2, none⟩ = some (.string (tx i0)) ∧ w.cell? ⟨b, off + 3, none⟩ = some (.slice A0 (els i0).length c0) ∧ w.cell? ⟨b, off + 4, none⟩ = some (.int .i64 (knd i1)) ∧ w.cell? ⟨b, off + 4 + 1, none⟩ = some (.int .i64 (num i1)) ∧ w.cell? ⟨b, off + 4 + 2, none⟩ = some (.string (tx i1)) ∧ w.cell? ⟨b, off + 4 + 3, none⟩ = some (.slice A1 (els i1).length c1) ∧ w.cell? ⟨b, off + 8, none⟩ = some (.int .i64 (knd i2)) ∧ w.cell? ⟨b, off + 8 + 1, none⟩ = some (.int .i64 (num i2)) ∧ w.cell? ⟨b, off + 8 + 2, none⟩ = some (.string (tx i2)) ∧ w.cell? ⟨b, off + 8 + 3, none⟩ = some (.slice A2 (els i2).length c2) ∧ w.cell? ⟨b, off + 12, none⟩ = some (.int .i64 (knd i3)) ∧ w.cell? ⟨b, off + 12 + 1, none⟩ = some (.int .i64 (num i3)) ∧ w.cell? ⟨b, off + 12 + 2, none⟩ = some (.string (tx i3)) ∧ w.cell? ⟨b, off + 12 + 3, none⟩ = some (.slice A3 (els i3).length c3) ∧ w.cell? ⟨b, off + 16, none⟩ = some (.int .i64 (knd i4)) ∧ w.cell? ⟨b, off + 16 + 1, none⟩ = some (.int .i64 (num i4)) ∧ w.cell? ⟨b, off + 16 + 2, none⟩ = some (.string (tx i4)) ∧ w.cell? ⟨b, off + 16 + 3, none⟩ = some (.slice A4 (els i4).length c4)) (hk : w'.heap[b]? = w.heap[b]?) : w'.cell? ⟨b, off, none⟩ = some (.int .i64 (knd i0)) ∧ w'.cell? ⟨b, off + 1, none⟩ = some (.int .i64 (num i0)) ∧ w'.cell? ⟨b, off + 2, none⟩ = some (.string (tx i0)) ∧ w'.cell? ⟨b, off + 3, none⟩ = some (.slice A0 (els i0).length c0) ∧ w'.cell? ⟨b, off + 4, none⟩ = some (.int .i64 (knd i1)) ∧ w'.cell? ⟨b, off + 4 + 1, none⟩ = some (.int .i64 (num i1)) ∧ w'.cell? ⟨b, off + 4 + 2, none⟩ = some (.string (tx i1)) ∧ w'.cell? ⟨b, off + 4 + 3, none⟩ = some (.slice A1 (els i1).length c1) ∧ w'.cell? ⟨b, off + 8, none⟩ = some (.int .i64 (knd i2)) ∧ w'.cell? ⟨b, off + 8 + 1, none⟩ = some (.int .i64 (num i2)) ∧ w'.cell? ⟨b, off + 8 + 2, none⟩ = some (.string (tx i2)) ∧ w'.cell? ⟨b, off + 8 + 3, none⟩ = some (.slice A2 (els i2).length c2) ∧ w'.cell? ⟨b, off + 12, none⟩ = some (.int .i64 (knd i3)) ∧ w'.cell? ⟨b, off + 12 + 1, none⟩ = some (.int .i64 (num i3)) ∧ w'.cell? ⟨b, off + 12 + 2, none⟩ = some (.string (tx i3)) ∧ w'.cell? ⟨b, off + 12 + 3, none⟩ = some (.slice A3 (els i3).length c3) ∧ w'.cell? ⟨b, off + 16, none⟩ = some (.int .i64 (knd i4)) ∧ w'.cell? ⟨b, off + 16 + 1, none⟩ = some (.int .i64 (num i4)) ∧ w'.cell? ⟨b, off + 16 + 2, none⟩ = some (.string (tx i4)) ∧ w'.cell? ⟨b, off + 16 + 3, none⟩ = some (.slice A4 (els i4).length c4) := by
  have e : ∀ o, w'.cell? ⟨b, o, none⟩ = w.cell? ⟨b, o, none⟩ := fun o => World.cell?_of_block (w := w) hk
  rw [e, e, e, e, e, e, e, e, e, e, e, e, e, e, e, e, e, e, e, e]
  exact h
theorem number_any (k n : Int) (s : ByteArray) (A : Option Addr) (m c : Nat) (w : World) : Calls Tryz.prog 93 #[.agg #[.int .i64 k, .int .i64 n, .string s, .slice A m c]] w (OrP (k == 1) (.int .i64 n) w) := by
  by_cases h : k = 1
  · subst h; exact (number_yes n s A m c w).mono fun e w' h => by rw [h.1]; exact orYes rfl h.2
  · exact (number_no k n h s A m c w).mono fun e w' q => by rw [q.1]; exact orNo (by simpa using h) q.2
theorem int_any (k n : Int) (s : ByteArray) (A : Option Addr) (m c : Nat) (w : World) : Calls Tryz.prog 90 #[.agg #[.int .i64 k, .int .i64 n, .string s, .slice A m c]] w (OrP (k == 1) (.int .i64 n) w) := by
  by_cases h : k = 1
  · subst h; exact (int_yes n s A m c w).mono fun e w' h => by rw [h.1]; exact orYes rfl h.2
  · exact (int_no k n h s A m c w).mono fun e w' q => by rw [q.1]; exact orNo (by simpa using h) q.2
theorem textOf_any (k n : Int) (s : ByteArray) (A : Option Addr) (m c : Nat) (w : World) : Calls Tryz.prog 91 #[.agg #[.int .i64 k, .int .i64 n, .string s, .slice A m c]] w (OrP (k == 2) (.string s) w) := by
  by_cases h : k = 2
  · subst h; exact (textOf_yes n s A m c w).mono fun e w' h => by rw [h.1]; exact orYes rfl h.2
  · exact (textOf_no k n h s A m c w).mono fun e w' q => by rw [q.1]; exact orNo (by simpa using h) q.2
def five5 (i0 i1 i2 i3 i4 : It) : Bool := knd i0 == 1 && (knd i1 == 2 && (knd i2 == 2 && (isV i3 && knd i4 == 1)))
/-- a struct of seven cells written whole -/
def w7 (w : World) (R : Nat) (a b c d e f g : Value) : World := ((((((w.setCell ⟨R, 0, none⟩ a).setCell ⟨R, 1, none⟩ b).setCell ⟨R, 2, none⟩ c).setCell ⟨R, 3, none⟩ d).setCell ⟨R, 4, none⟩ e).setCell ⟨R, 5, none⟩ f).setCell ⟨R, 6, none⟩ g
theorem w7_row (w : World) (R : Nat) (a b c d e f g : Value) (z0 z1 z2 z3 z4 z5 z6 : Value) (t : TypeId) (h : w.heap[R]? = some (.cells #[z0, z1, z2, z3, z4, z5, z6] t (0, 0))) : (w7 w R a b c d e f g).heap[R]? = some (.cells #[a, b, c, d, e, f, g] t (0, 0)) := by
  have s1 := heap_set w R 0 a _ _ h
  simp only [List.setIfInBounds_toArray, List.set_cons_zero] at s1
  have s2 := heap_set _ R 1 b _ _ s1
  simp only [List.setIfInBounds_toArray, List.set_cons_zero, List.set_cons_succ] at s2
  have s3 := heap_set _ R 2 c _ _ s2
  simp only [List.setIfInBounds_toArray, List.set_cons_zero, List.set_cons_succ] at s3
  have s4 := heap_set _ R 3 d _ _ s3
  simp only [List.setIfInBounds_toArray, List.set_cons_zero, List.set_cons_succ] at s4
  have s5 := heap_set _ R 4 e _ _ s4
  simp only [List.setIfInBounds_toArray, List.set_cons_zero, List.set_cons_succ] at s5
  have s6 := heap_set _ R 5 f _ _ s5
  simp only [List.setIfInBounds_toArray, List.set_cons_zero, List.set_cons_succ] at s6
  have s7 := heap_set _ R 6 g _ _ s6
  simp only [List.setIfInBounds_toArray, List.set_cons_zero, List.set_cons_succ] at s7
  exact s7
theorem w7_far (w : World) (R : Nat) (a b c d e f g : Value) (q : Nat) (h : q ≠ R) : (w7 w R a b c d e f g).heap[q]? = w.heap[q]? := by
  unfold w7
  rw [Below.heap_setCell _ _ _ q h, Below.heap_setCell _ _ _ q h, Below.heap_setCell _ _ _ q h, Below.heap_setCell _ _ _ q h, Below.heap_setCell _ _ _ q h, Below.heap_setCell _ _ _ q h, Below.heap_setCell _ _ _ q h]
theorem w7_size (w : World) (R : Nat) (a b c d e f g : Value) : (w7 w R a b c d e f g).heap.size = w.heap.size := by simp [w7, World.setCell]
theorem w7_below {w0 w : World} {B : Nat} (hb : Below B w0 w) (R : Nat) (a b c d e f g : Value) (h : B ≤ R) : Below B w0 (w7 w R a b c d e f g) :=
  (((((((hb.setCell (p := ⟨R, 0, none⟩) h a).setCell (p := ⟨R, 1, none⟩) h b).setCell (p := ⟨R, 2, none⟩) h c).setCell (p := ⟨R, 3, none⟩) h d).setCell (p := ⟨R, 4, none⟩) h e).setCell (p := ⟨R, 5, none⟩) h f).setCell (p := ⟨R, 6, none⟩) h g)
theorem alloc_row {W V : World} {o : Obj} (h : Below (W.alloc o).heap.size (W.alloc o) V) : V.heap[W.heap.size]? = some o := (h.block _ (by simp)).trans (heap_alloc_new _ _)
theorem alloc_row_drew {W V : World} {o : Obj} (h : Below (W.alloc o).drew.heap.size (W.alloc o).drew V) : V.heap[W.heap.size]? = some o := (h.block _ (by simp)).trans (heap_alloc_new W o)
theorem row7f {w : World} {b : Nat} {cs : Array Value} {t : TypeId} (h : w.heap[b]? = some (.cells cs t (0, 0))) :
    w.frozen? ⟨b, 0, none⟩ = false ∧ w.frozen? ⟨b, 1, none⟩ = false ∧ w.frozen? ⟨b, 2, none⟩ = false ∧ w.frozen? ⟨b, 3, none⟩ = false ∧ w.frozen? ⟨b, 4, none⟩ = false ∧ w.frozen? ⟨b, 5, none⟩ = false ∧ w.frozen? ⟨b, 6, none⟩ = false := by
  refine ⟨?_, ?_, ?_, ?_, ?_, ?_, ?_⟩ <;> simp [World.frozen?, h]
theorem nest_row (w : World) (R : Nat) (a b c d e f g : Value) (z0 z1 z2 z3 z4 z5 z6 : Value) (t : TypeId) (h : w.heap[R]? = some (.cells #[z0, z1, z2, z3, z4, z5, z6] t (0, 0))) : (((((((w.setCell ⟨R, 0, none⟩ a).setCell ⟨R, 1, none⟩ b).setCell ⟨R, 2, none⟩ c).setCell ⟨R, 3, none⟩ d).setCell ⟨R, 4, none⟩ e).setCell ⟨R, 5, none⟩ f).setCell ⟨R, 6, none⟩ g).heap[R]? = some (.cells #[a, b, c, d, e, f, g] t (0, 0)) := w7_row w R a b c d e f g z0 z1 z2 z3 z4 z5 z6 t h
theorem nest_below {w0 w : World} {B : Nat} (hb : Below B w0 w) (R : Nat) (a b c d e f g : Value) (h : B ≤ R) : Below B w0 (((((((w.setCell ⟨R, 0, none⟩ a).setCell ⟨R, 1, none⟩ b).setCell ⟨R, 2, none⟩ c).setCell ⟨R, 3, none⟩ d).setCell ⟨R, 4, none⟩ e).setCell ⟨R, 5, none⟩ f).setCell ⟨R, 6, none⟩ g) := w7_below hb R a b c d e f g h
theorem five_set {w : World} {i0 i1 i2 i3 i4 : It} {A0 A1 A2 A3 A4 : Option Addr} {c0 c1 c2 c3 c4 b off P : Nat} (a c d e f g h : Value) (H : w.cell? ⟨b, off, none⟩ = some (.int .i64 (knd i0)) ∧ w.cell? ⟨b, off + 1, none⟩ = some (.int .i64 (num i0)) ∧ w.cell? ⟨b, off + 2, none⟩ = some (.string (tx i0)) ∧ w.cell? ⟨b, off + 3, none⟩ = some (.slice A0 (els i0).length c0) ∧ w.cell? ⟨b, off + 4, none⟩ = some (.int .i64 (knd i1)) ∧ w.cell? ⟨b, off + 4 + 1, none⟩ = some (.int .i64 (num i1)) ∧ w.cell? ⟨b, off + 4 + 2, none⟩ = some (.string (tx i1)) ∧ w.cell? ⟨b, off + 4 + 3, none⟩ = some (.slice A1 (els i1).length c1) ∧ w.cell? ⟨b, off + 8, none⟩ = some (.int .i64 (knd i2)) ∧ w.cell? ⟨b, off + 8 + 1, none⟩ = some (.int .i64 (num i2)) ∧ w.cell? ⟨b, off + 8 + 2, none⟩ = some (.string (tx i2)) ∧ w.cell? ⟨b, off + 8 + 3, none⟩ = some (.slice A2 (els i2).length c2) ∧ w.cell? ⟨b, off + 12, none⟩ = some (.int .i64 (knd i3)) ∧ w.cell? ⟨b, off + 12 + 1, none⟩ = some (.int .i64 (num i3)) ∧ w.cell? ⟨b, off + 12 + 2, none⟩ = some (.string (tx i3)) ∧ w.cell? ⟨b, off + 12 + 3, none⟩ = some (.slice A3 (els i3).length c3) ∧ w.cell? ⟨b, off + 16, none⟩ = some (.int .i64 (knd i4)) ∧ w.cell? ⟨b, off + 16 + 1, none⟩ = some (.int .i64 (num i4)) ∧ w.cell? ⟨b, off + 16 + 2, none⟩ = some (.string (tx i4)) ∧ w.cell? ⟨b, off + 16 + 3, none⟩ = some (.slice A4 (els i4).length c4)) (hne : b ≠ P) : (((((((w.setCell ⟨P, 0, none⟩ a).setCell ⟨P, 1, none⟩ c).setCell ⟨P, 2, none⟩ d).setCell ⟨P, 3, none⟩ e).setCell ⟨P, 4, none⟩ f).setCell ⟨P, 5, none⟩ g).setCell ⟨P, 6, none⟩ h).cell? ⟨b, off, none⟩ = some (.int .i64 (knd i0)) ∧ (((((((w.setCell ⟨P, 0, none⟩ a).setCell ⟨P, 1, none⟩ c).setCell ⟨P, 2, none⟩ d).setCell ⟨P, 3, none⟩ e).setCell ⟨P, 4, none⟩ f).setCell ⟨P, 5, none⟩ g).setCell ⟨P, 6, none⟩ h).cell? ⟨b, off + 1, none⟩ = some (.int .i64 (num i0)) ∧ (((((((w.setCell ⟨P, 0, none⟩ a).setCell ⟨P, 1, none⟩ c).setCell ⟨P, 2, none⟩ d).setCell ⟨P, 3, none⟩ e).setCell ⟨P, 4, none⟩ f).setCell ⟨P, 5, none⟩ g).setCell ⟨P, 6, none⟩ h).cell? ⟨b, off + 2, none⟩ = some (.string (tx i0)) ∧ (((((((w.setCell ⟨P, 0, none⟩ a).setCell ⟨P, 1, none⟩ c).setCell ⟨P, 2, none⟩ d).setCell ⟨P, 3, none⟩ e).setCell ⟨P, 4, none⟩ f).setCell ⟨P, 5, none⟩ g).setCell ⟨P, 6, none⟩ h).cell? ⟨b, off + 3, none⟩ = some (.slice A0 (els i0).length c0) ∧ (((((((w.setCell ⟨P, 0, none⟩ a).setCell ⟨P, 1, none⟩ c).setCell ⟨P, 2, none⟩ d).setCell ⟨P, 3, none⟩ e).setCell ⟨P, 4, none⟩ f).setCell ⟨P, 5, none⟩ g).setCell ⟨P, 6, none⟩ h).cell? ⟨b, off + 4, none⟩ = some (.int .i64 (knd i1)) ∧ (((((((w.setCell ⟨P, 0, none⟩ a).setCell ⟨P, 1, none⟩ c).setCell ⟨P, 2, none⟩ d).setCell ⟨P, 3, none⟩ e).setCell ⟨P, 4, none⟩ f).setCell ⟨P, 5, none⟩ g).setCell ⟨P, 6, none⟩ h).cell? ⟨b, off + 4 + 1, none⟩ = some (.int .i64 (num i1)) ∧ (((((((w.setCell ⟨P, 0, none⟩ a).setCell ⟨P, 1, none⟩ c).setCell ⟨P, 2, none⟩ d).setCell ⟨P, 3, none⟩ e).setCell ⟨P, 4, none⟩ f).setCell ⟨P, 5, none⟩ g).setCell ⟨P, 6, none⟩ h).cell? ⟨b, off + 4 + 2, none⟩ = some (.string (tx i1)) ∧ (((((((w.setCell ⟨P, 0, none⟩ a).setCell ⟨P, 1, none⟩ c).setCell ⟨P, 2, none⟩ d).setCell ⟨P, 3, none⟩ e).setCell ⟨P, 4, none⟩ f).setCell ⟨P, 5, none⟩ g).setCell ⟨P, 6, none⟩ h).cell? ⟨b, off + 4 + 3, none⟩ = some (.slice A1 (els i1).length c1) ∧ (((((((w.setCell ⟨P, 0, none⟩ a).setCell ⟨P, 1, none⟩ c).setCell ⟨P, 2, none⟩ d).setCell ⟨P, 3, none⟩ e).setCell ⟨P, 4, none⟩ f).setCell ⟨P, 5, none⟩ g).setCell ⟨P, 6, none⟩ h).cell? ⟨b, off + 8, none⟩ = some (.int .i64 (knd i2)) ∧ (((((((w.setCell ⟨P, 0, none⟩ a).setCell ⟨P, 1, none⟩ c).setCell ⟨P, 2, none⟩ d).setCell ⟨P, 3, none⟩ e).setCell ⟨P, 4, none⟩ f).setCell ⟨P, 5, none⟩ g).setCell ⟨P, 6, none⟩ h).cell? ⟨b, off + 8 + 1, none⟩ = some (.int .i64 (num i2)) ∧ (((((((w.setCell ⟨P, 0, none⟩ a).setCell ⟨P, 1, none⟩ c).setCell ⟨P, 2, none⟩ d).setCell ⟨P, 3, none⟩ e).setCell ⟨P, 4, none⟩ f).setCell ⟨P, 5, none⟩ g).setCell ⟨P, 6, none⟩ h).cell? ⟨b, off + 8 + 2, none⟩ = some (.string (tx i2)) ∧ (((((((w.setCell ⟨P, 0, none⟩ a).setCell ⟨P, 1, none⟩ c).setCell ⟨P, 2, none⟩ d).setCell ⟨P, 3, none⟩ e).setCell ⟨P, 4, none⟩ f).setCell ⟨P, 5, none⟩ g).setCell ⟨P, 6, none⟩ h).cell? ⟨b, off + 8 + 3, none⟩ = some (.slice A2 (els i2).length c2) ∧ (((((((w.setCell ⟨P, 0, none⟩ a).setCell ⟨P, 1, none⟩ c).setCell ⟨P, 2, none⟩ d).setCell ⟨P, 3, none⟩ e).setCell ⟨P, 4, none⟩ f).setCell ⟨P, 5, none⟩ g).setCell ⟨P, 6, none⟩ h).cell? ⟨b, off + 12, none⟩ = some (.int .i64 (knd i3)) ∧ (((((((w.setCell ⟨P, 0, none⟩ a).setCell ⟨P, 1, none⟩ c).setCell ⟨P, 2, none⟩ d).setCell ⟨P, 3, none⟩ e).setCell ⟨P, 4, none⟩ f).setCell ⟨P, 5, none⟩ g).setCell ⟨P, 6, none⟩ h).cell? ⟨b, off + 12 + 1, none⟩ = some (.int .i64 (num i3)) ∧ (((((((w.setCell ⟨P, 0, none⟩ a).setCell ⟨P, 1, none⟩ c).setCell ⟨P, 2, none⟩ d).setCell ⟨P, 3, none⟩ e).setCell ⟨P, 4, none⟩ f).setCell ⟨P, 5, none⟩ g).setCell ⟨P, 6, none⟩ h).cell? ⟨b, off + 12 + 2, none⟩ = some (.string (tx i3)) ∧ (((((((w.setCell ⟨P, 0, none⟩ a).setCell ⟨P, 1, none⟩ c).setCell ⟨P, 2, none⟩ d).setCell ⟨P, 3, none⟩ e).setCell ⟨P, 4, none⟩ f).setCell ⟨P, 5, none⟩ g).setCell ⟨P, 6, none⟩ h).cell? ⟨b, off + 12 + 3, none⟩ = some (.slice A3 (els i3).length c3) ∧ (((((((w.setCell ⟨P, 0, none⟩ a).setCell ⟨P, 1, none⟩ c).setCell ⟨P, 2, none⟩ d).setCell ⟨P, 3, none⟩ e).setCell ⟨P, 4, none⟩ f).setCell ⟨P, 5, none⟩ g).setCell ⟨P, 6, none⟩ h).cell? ⟨b, off + 16, none⟩ = some (.int .i64 (knd i4)) ∧ (((((((w.setCell ⟨P, 0, none⟩ a).setCell ⟨P, 1, none⟩ c).setCell ⟨P, 2, none⟩ d).setCell ⟨P, 3, none⟩ e).setCell ⟨P, 4, none⟩ f).setCell ⟨P, 5, none⟩ g).setCell ⟨P, 6, none⟩ h).cell? ⟨b, off + 16 + 1, none⟩ = some (.int .i64 (num i4)) ∧ (((((((w.setCell ⟨P, 0, none⟩ a).setCell ⟨P, 1, none⟩ c).setCell ⟨P, 2, none⟩ d).setCell ⟨P, 3, none⟩ e).setCell ⟨P, 4, none⟩ f).setCell ⟨P, 5, none⟩ g).setCell ⟨P, 6, none⟩ h).cell? ⟨b, off + 16 + 2, none⟩ = some (.string (tx i4)) ∧ (((((((w.setCell ⟨P, 0, none⟩ a).setCell ⟨P, 1, none⟩ c).setCell ⟨P, 2, none⟩ d).setCell ⟨P, 3, none⟩ e).setCell ⟨P, 4, none⟩ f).setCell ⟨P, 5, none⟩ g).setCell ⟨P, 6, none⟩ h).cell? ⟨b, off + 16 + 3, none⟩ = some (.slice A4 (els i4).length c4) :=
  five_keep H (w7_far w P a c d e f g h b hne)
set_option maxHeartbeats 4000000 in
theorem cmd_five (l : List UInt8) (n : Int) (s : ByteArray) (i0 i1 i2 i3 i4 : It) (hd : dec l = some (.mk 3 n s [i0, i1, i2, i3, i4])) (w : World) (hs : l.length ≤ 281474976710656) (ht1 : (tx i1).size ≤ 281474976710656) (ht2 : (tx i2).size ≤ 281474976710656) :
    Calls Tryz.prog 62 #[.string (Nm.str l)] w (OrP (five5 i0 i1 i2 i3 i4 && mayC (num i0) (tx i1) (tx i2) (vA i3) (vB3 i3) (vC i3) (num i4)) (.agg #[.int .i64 (num i0), .string (tx i1), .string (tx i2), .int .i64 (vA i3), .int .i64 (vB3 i3), .int .i64 (vC i3), .int .i64 (num i4)]) w) := by
  have HS := Lib.hid hs
  have HD := Lib.hid hd
  have HB0 := Lib.hid ((Below.refl w.heap.size w).alloc (Nat.le_refl _) (.cells #[.int .i64 0, .string ⟨#[]⟩, .string ⟨#[]⟩, .int .i64 0, .int .i64 0, .int .i64 0, .int .i64 0] 32))
  have HR0 := Lib.hid (heap_alloc_new w (.cells #[.int .i64 0, .string ⟨#[]⟩, .string ⟨#[]⟩, .int .i64 0, .int .i64 0, .int .i64 0, .int .i64 0] 32))
  have HM := Lib.hid (fun W => may_any (num i0) (tx i1) (tx i2) (vA i3) (vB3 i3) (vC i3) (num i4) W ht1 ht2)
  clear hs hd ht1 ht2
  go_enter Tryz.func62, Tryz.ntmps62
  go_wp2_with (first
    | (go_at_call 88; (with_reducible refine (els5 _ _ _ _ _).mono ?_); rintro e w2 ⟨rfl, hb2⟩; have B2 := Lib.hid hb2; clear hb2)
    | (go_at_call 89; (with_reducible refine (itemOf_any l _ HS.out).mono ?_); rintro e w1 ⟨hb1, hyes, hnn⟩; clear hnn; obtain ⟨v, rfl, hv⟩ := hyes _ HD.out; rw [IsIt] at hv; obtain ⟨A, cc, rfl, hv1, hv2, hv3, hv4, hal⟩ := hv; clear hv1 hv2 hv3 hv4; have B1 := Lib.hid hb1; have HAL := Lib.hid hal; clear hal hb1 hyes))
  obtain ⟨b, off, A0, A1, A2, A3, A4, c0, c1, c2, c3, c4, rfl, hb, F, I3⟩ := five HAL.out
  have HW1 : Hid (w.heap.size + 1 ≤ w1.heap.size) := Lib.hid (by have := B1.out.size; simpa using this)
  have hbl : b < w2.heap.size := by have := hb.2; have := B2.out.size; omega
  have F2 := five_keep F (B2.out.block b hb.2)
  have HBL := Lib.hid hbl
  have HF := Lib.hid (fun V (h : Below w2.heap.size w2 V) => five_keep F2 (h.block b HBL.out))
  have HI := Lib.hid (fun V (h : Below w2.heap.size w2 V) => (IsIt.mono (fun q (hq : NewB (w.alloc (.cells #[.int .i64 0, .string ⟨#[]⟩, .string ⟨#[]⟩, .int .i64 0, .int .i64 0, .int .i64 0, .int .i64 0] 32)) w1 q) => Nat.lt_of_lt_of_le hq.2 (Nat.le_trans B2.out.size h.size)) i3 (IsIt.keep (fun q (hq : NewB (w.alloc (.cells #[.int .i64 0, .string ⟨#[]⟩, .string ⟨#[]⟩, .int .i64 0, .int .i64 0, .int .i64 0, .int .i64 0] 32)) w1 q) => (h.block q (Nat.lt_of_lt_of_le hq.2 B2.out.size)).trans (B2.out.block q hq.2)) i3 I3) : IsIt V (· < V.heap.size) i3 (.agg #[.int .i64 (knd i3), .int .i64 (num i3), .string (tx i3), .slice A3 (els i3).length c3])))
  clear F F2 I3 hbl hb
  have BW : Hid (Below w.heap.size w w2) := Lib.hid (HB0.out.trans ((B1.out.trans (B2.out.mono B1.out.size)).mono HB0.out.size))
  have E0 : Hid (Below w2.heap.size w2 w2.drew) := Lib.hid (Below.refl _ w2).drew
  have HR2 : Hid (w2.heap[w.heap.size]? = some (.cells #[.int .i64 0, .string ⟨#[]⟩, .string ⟨#[]⟩, .int .i64 0, .int .i64 0, .int .i64 0, .int .i64 0] 32 (0, 0))) := Lib.hid ((B2.out.block _ (by have := HW1.out; omega)).trans ((B1.out.block _ (by simp)).trans HR0.out))
  have HW2 : Hid (w.heap.size + 1 ≤ w2.heap.size) := Lib.hid (Nat.le_trans HW1.out B2.out.size)
  obtain ⟨x0a, x0b, x0c, x0d, x1a, x1b, x1c, x1d, x2a, x2b, x2c, x2d, x3a, x3b, x3c, x3d, x4a, x4b, x4c, x4d⟩ := HF.out _ E0.out
  rename_i K hK
  have HK : ∀ (V : World) (P : Nat) (z0 z1 z3 z5 z6 z7 z8 z9 z10 z11 z12 z13 z14 z15 z16 z17 z18 z19 z20 z21 z22 z23 z24 z25 z26 z27 z28 z29 z30 z31 z32 : Value), five5 i0 i1 i2 i3 i4 = true → Below w2.heap.size w2 V → w2.heap.size ≤ P → V.heap[P]? = some (.cells #[.int .i64 (num i0), .string (tx i1), .string (tx i2), .int .i64 (vA i3), .int .i64 (vB3 i3), .int .i64 (vC i3), .int .i64 (num i4)] 32 (0, 0)) → K { tmps := #[z0, z1, .pointer (some ⟨w.heap.size, 0, none⟩), z3, .pointer (some ⟨P, 0, none⟩), z5, z6, z7, z8, z9, z10, z11, z12, z13, z14, z15, z16, z17, z18, z19, z20, z21, z22, z23, z24, z25, z26, z27, z28, z29, z30, z31, z32], defers := [] } V := by
    intro V P z0 z1 z3 z5 z6 z7 z8 z9 z10 z11 z12 z13 z14 z15 z16 z17 z18 z19 z20 z21 z22 z23 z24 z25 z26 z27 z28 z29 z30 z31 z32 h5 hbV hP hrow
    apply hK
    have HV := Lib.hid hbV
    have HRo := Lib.hid hrow
    have H5 := Lib.hid h5
    have HPl := Lib.hid (Array.getElem?_eq_some_iff.1 hrow).1
    obtain ⟨x0, x1, x2, x3, x4, x5, x6⟩ := row7 hrow
    clear hbV hrow h5 hP
    cases hm : mayC (num i0) (tx i1) (tx i2) (vA i3) (vB3 i3) (vC i3) (num i4)
    · go_wp2_with (first
        | (go_at_call 94; (with_reducible refine (must_no _).mono ?_); rintro e w4 ⟨rfl, rfl⟩)
        | (go_at_call 28; (with_reducible refine (HM.out _).mono ?_); rintro e w3 ⟨rfl, hb3⟩; rw [hm]; have B3 := Lib.hid hb3; clear hb3))
      exact ⟨rfl, orNo (by simp) (BW.out.trans ((HV.out.trans (B3.out.mono HV.out.size)).mono BW.out.size))⟩
    · go_wp2_with (first
        | (go_at_call 94; (with_reducible refine (must_yes _).mono ?_); rintro e w4 ⟨rfl, rfl⟩)
        | (go_at_call 28; (with_reducible refine (HM.out _).mono ?_); rintro e w3 ⟨rfl, hb3⟩; rw [hm]; have B3 := Lib.hid hb3; obtain ⟨y0, y1, y2, y3, y4, y5, y6⟩ := row7 ((hb3.block _ HPl.out).trans HRo.out); have R3 := (hb3.block _ (Nat.lt_of_lt_of_le HW2.out HV.out.size)).trans ((HV.out.block _ HW2.out).trans HR2.out); obtain ⟨u0, u1, u2, u3, u4, u5, u6⟩ := row7 R3; obtain ⟨f0, f1, f2, f3, f4, f5, f6⟩ := row7f R3; have R3 := Lib.hid R3; clear hb3))
      have RW := w7_row w3 w.heap.size (.int .i64 (num i0)) (.string (tx i1)) (.string (tx i2)) (.int .i64 (vA i3)) (.int .i64 (vB3 i3)) (.int .i64 (vC i3)) (.int .i64 (num i4)) _ _ _ _ _ _ _ 32 R3.out
      have RB := w7_below (BW.out.trans ((HV.out.trans (B3.out.mono HV.out.size)).mono BW.out.size)) w.heap.size (.int .i64 (num i0)) (.string (tx i1)) (.string (tx i2)) (.int .i64 (vA i3)) (.int .i64 (vB3 i3)) (.int .i64 (vC i3)) (.int .i64 (num i4)) (Nat.le_refl _)
      change bodyPost Tryz.prog Tryz.f62 _ Exit.ret _ (w7 w3 w.heap.size (.int .i64 (num i0)) (.string (tx i1)) (.string (tx i2)) (.int .i64 (vA i3)) (.int .i64 (vB3 i3)) (.int .i64 (vC i3)) (.int .i64 (num i4)))
      generalize (w7 w3 w.heap.size (.int .i64 (num i0)) (.string (tx i1)) (.string (tx i2)) (.int .i64 (vA i3)) (.int .i64 (vB3 i3)) (.int .i64 (vC i3)) (.int .i64 (num i4))) = V' at *
      obtain ⟨m0, m1, m2, m3, m4, m5, m6⟩ := row7 RW
      refine bodyPost_ret (v := (.agg #[.int .i64 (num i0), .string (tx i1), .string (tx i2), .int .i64 (vA i3), .int .i64 (vB3 i3), .int .i64 (vC i3), .int .i64 (num i4)])) (by simp [results, Tryz.results62, go_sem, m0, m1, m2, m3, m4, m5, m6]) rfl (orYes (by rw [H5.out]; rfl) RB)
  have HK := Lib.hid HK
  clear hK
  have BN := E0
  have EA : Hid (Below w2.heap.size w2 (w2.alloc (.cells #[.int .i64 0, .string ⟨#[]⟩, .string ⟨#[]⟩, .int .i64 0, .int .i64 0, .int .i64 0, .int .i64 0] 32)).drew) := Lib.hid ((Below.refl _ w2).alloc (Nat.le_refl _) _).drew
  go_region_held2 (fun V => V.cell? ⟨b, off, none⟩ = some (.int .i64 (knd i0)) ∧ V.cell? ⟨b, off + 1, none⟩ = some (.int .i64 (num i0)) ∧ V.cell? ⟨b, off + 2, none⟩ = some (.string (tx i0)) ∧ V.cell? ⟨b, off + 3, none⟩ = some (.slice A0 (els i0).length c0) ∧ V.cell? ⟨b, off + 4, none⟩ = some (.int .i64 (knd i1)) ∧ V.cell? ⟨b, off + 4 + 1, none⟩ = some (.int .i64 (num i1)) ∧ V.cell? ⟨b, off + 4 + 2, none⟩ = some (.string (tx i1)) ∧ V.cell? ⟨b, off + 4 + 3, none⟩ = some (.slice A1 (els i1).length c1) ∧ V.cell? ⟨b, off + 8, none⟩ = some (.int .i64 (knd i2)) ∧ V.cell? ⟨b, off + 8 + 1, none⟩ = some (.int .i64 (num i2)) ∧ V.cell? ⟨b, off + 8 + 2, none⟩ = some (.string (tx i2)) ∧ V.cell? ⟨b, off + 8 + 3, none⟩ = some (.slice A2 (els i2).length c2) ∧ V.cell? ⟨b, off + 12, none⟩ = some (.int .i64 (knd i3)) ∧ V.cell? ⟨b, off + 12 + 1, none⟩ = some (.int .i64 (num i3)) ∧ V.cell? ⟨b, off + 12 + 2, none⟩ = some (.string (tx i3)) ∧ V.cell? ⟨b, off + 12 + 3, none⟩ = some (.slice A3 (els i3).length c3) ∧ V.cell? ⟨b, off + 16, none⟩ = some (.int .i64 (knd i4)) ∧ V.cell? ⟨b, off + 16 + 1, none⟩ = some (.int .i64 (num i4)) ∧ V.cell? ⟨b, off + 16 + 2, none⟩ = some (.string (tx i4)) ∧ V.cell? ⟨b, off + 16 + 3, none⟩ = some (.slice A4 (els i4).length c4))
    (first | with_reducible exact HF.out _ BN.out | with_reducible exact HF.out _ (BN.out.alloc BN.out.size _) | with_reducible exact HF.out _ EA.out | with_reducible exact five_set _ _ _ _ _ _ _ (HF.out _ BN.out) (Nat.ne_of_lt (Nat.lt_of_lt_of_le HBL.out PL.out)))
    (first
      | (go_at_call 93; (with_reducible refine (number_any _ _ _ _ _ _ _).mono ?_); rintro e wE ⟨he, b2⟩
         have BE : Hid (Below w2.heap.size w2 wE) := Lib.hid (by first | with_reducible exact BN.out.trans (b2.mono BN.out.size) | with_reducible exact (BN.out.alloc BN.out.size _).trans (b2.mono (Nat.le_trans BN.out.size (by simp))) | exact EA.out.trans (b2.mono EA.out.size))
         first
           | (with_reducible have PM := Lib.hid (alloc_row b2); have PL := Lib.hid BN.out.size)
           | (with_reducible have PM := Lib.hid (alloc_row_drew b2); have PL := Lib.hid (Nat.le_refl w2.heap.size))
           | (replace PM := Lib.hid ((b2.block _ (Array.getElem?_eq_some_iff.1 PM.out).1).trans PM.out))
           | (fail_if_success (have PZ := PM.out); skip)
         clear b2
         have BN := BE
         cases hq4 : (knd i4 == 1)
         (rw [hq4, if_neg (by decide)] at he; subst he; exact ⟨rfl, orNo (by simp [five5, hq4]) (BW.out.trans (BE.out.mono BW.out.size))⟩)
         (rw [hq4, if_pos rfl] at he; subst he; have Q4 := Lib.hid hq4; clear hq4)
         (try (have PR := PM.out; obtain ⟨p0, p1, p2, p3, p4, p5, p6⟩ := row7 PR; obtain ⟨o0, o1, o2, o3, o4, o5, o6⟩ := row7f PR; clear PR)))
      | (go_at_call 92; (with_reducible refine (vecOf_any i3 A3 c3 _ (HI.out _ (by first | with_reducible exact BN.out | with_reducible exact BN.out.alloc BN.out.size _))).mono ?_); rintro e wD ⟨he, b2⟩
         have BD : Hid (Below w2.heap.size w2 wD) := Lib.hid (by first | with_reducible exact BN.out.trans (b2.mono BN.out.size) | with_reducible exact (BN.out.alloc BN.out.size _).trans (b2.mono (Nat.le_trans BN.out.size (by simp))) | exact EA.out.trans (b2.mono EA.out.size))
         first
           | (with_reducible have PM := Lib.hid (alloc_row b2); have PL := Lib.hid BN.out.size)
           | (with_reducible have PM := Lib.hid (alloc_row_drew b2); have PL := Lib.hid (Nat.le_refl w2.heap.size))
           | (replace PM := Lib.hid ((b2.block _ (Array.getElem?_eq_some_iff.1 PM.out).1).trans PM.out))
           | (fail_if_success (have PZ := PM.out); skip)
         clear b2
         have BN := BD
         cases hq3 : (isV i3)
         (rw [hq3, if_neg (by decide)] at he; subst he; exact ⟨rfl, orNo (by simp [five5, hq3]) (BW.out.trans (BD.out.mono BW.out.size))⟩)
         (rw [hq3, if_pos rfl] at he; subst he; have Q3 := Lib.hid hq3; clear hq3))
      | (go_at_call 91; (with_reducible refine (textOf_any _ _ _ _ _ _ _).mono ?_); rintro e wC ⟨he, b2⟩
         have BC : Hid (Below w2.heap.size w2 wC) := Lib.hid (by first | with_reducible exact BN.out.trans (b2.mono BN.out.size) | with_reducible exact (BN.out.alloc BN.out.size _).trans (b2.mono (Nat.le_trans BN.out.size (by simp))) | exact EA.out.trans (b2.mono EA.out.size))
         first
           | (with_reducible have PM := Lib.hid (alloc_row b2); have PL := Lib.hid BN.out.size)
           | (with_reducible have PM := Lib.hid (alloc_row_drew b2); have PL := Lib.hid (Nat.le_refl w2.heap.size))
           | (replace PM := Lib.hid ((b2.block _ (Array.getElem?_eq_some_iff.1 PM.out).1).trans PM.out))
           | (fail_if_success (have PZ := PM.out); skip)
         clear b2
         have BN := BC
         cases hq2 : (knd i2 == 2)
         (rw [hq2, if_neg (by decide)] at he; subst he; exact ⟨rfl, orNo (by simp [five5, hq2]) (BW.out.trans (BC.out.mono BW.out.size))⟩)
         (rw [hq2, if_pos rfl] at he; subst he; have Q2 := Lib.hid hq2; clear hq2))
      | (go_at_call 91; (with_reducible refine (textOf_any _ _ _ _ _ _ _).mono ?_); rintro e wB ⟨he, b2⟩
         have BB : Hid (Below w2.heap.size w2 wB) := Lib.hid (by first | with_reducible exact BN.out.trans (b2.mono BN.out.size) | with_reducible exact (BN.out.alloc BN.out.size _).trans (b2.mono (Nat.le_trans BN.out.size (by simp))) | exact EA.out.trans (b2.mono EA.out.size))
         first
           | (with_reducible have PM := Lib.hid (alloc_row b2); have PL := Lib.hid BN.out.size)
           | (with_reducible have PM := Lib.hid (alloc_row_drew b2); have PL := Lib.hid (Nat.le_refl w2.heap.size))
           | (replace PM := Lib.hid ((b2.block _ (Array.getElem?_eq_some_iff.1 PM.out).1).trans PM.out))
           | (fail_if_success (have PZ := PM.out); skip)
         clear b2
         have BN := BB
         cases hq1 : (knd i1 == 2)
         (rw [hq1, if_neg (by decide)] at he; subst he; exact ⟨rfl, orNo (by simp [five5, hq1]) (BW.out.trans (BB.out.mono BW.out.size))⟩)
         (rw [hq1, if_pos rfl] at he; subst he; have Q1 := Lib.hid hq1; clear hq1))
      | (go_at_call 90; (with_reducible refine (int_any _ _ _ _ _ _ _).mono ?_); rintro e wA ⟨he, b2⟩
         have BA : Hid (Below w2.heap.size w2 wA) := Lib.hid (by first | with_reducible exact BN.out.trans (b2.mono BN.out.size) | with_reducible exact (BN.out.alloc BN.out.size _).trans (b2.mono (Nat.le_trans BN.out.size (by simp))) | exact EA.out.trans (b2.mono EA.out.size))
         first
           | (with_reducible have PM := Lib.hid (alloc_row b2); have PL := Lib.hid BN.out.size)
           | (with_reducible have PM := Lib.hid (alloc_row_drew b2); have PL := Lib.hid (Nat.le_refl w2.heap.size))
           | (replace PM := Lib.hid ((b2.block _ (Array.getElem?_eq_some_iff.1 PM.out).1).trans PM.out))
           | (fail_if_success (have PZ := PM.out); skip)
         clear b2
         have BN := BA
         cases hq0 : (knd i0 == 1)
         (rw [hq0, if_neg (by decide)] at he; subst he; exact ⟨rfl, orNo (by simp [five5, hq0]) (BW.out.trans (BA.out.mono BW.out.size))⟩)
         (rw [hq0, if_pos rfl] at he; subst he; have Q0 := Lib.hid hq0; clear hq0)))
  all_goals
    change K _ _
    first
      | with_reducible exact HK.out _ _ _ _ _ _ _ _ _ _ _ _ _ _ _ _ _ _ _ _ _ _ _ _ _ _ _ _ _ _ _ _ _ (by simp [five5, Q0.out, Q1.out, Q2.out, Q3.out, Q4.out]) (BN.out.alloc BN.out.size _) BN.out.size (heap_alloc_new _ _)
      | with_reducible exact HK.out _ _ _ _ _ _ _ _ _ _ _ _ _ _ _ _ _ _ _ _ _ _ _ _ _ _ _ _ _ _ _ _ _ (by simp [five5, Q0.out, Q1.out, Q2.out, Q3.out, Q4.out]) (nest_below BN.out _ _ _ _ _ _ _ _ PL.out) PL.out (nest_row _ _ _ _ _ _ _ _ _ _ _ _ _ _ _ _ _ PM.out)
end Go.Proofs.YtebacdegjmcnlaaGreat
