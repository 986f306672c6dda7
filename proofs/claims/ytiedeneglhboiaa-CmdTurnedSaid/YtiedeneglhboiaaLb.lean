import Derived.Test.YtiedeneglhboiaaMy
import Derived.Test.YtiedeneglhboiaaUg
namespace Go.Proofs.Ytiedeneglhboiaa
open Go.RowKit Pl
set_option linter.unusedVariables false
set_option maxRecDepth 20000
theorem eqC_self (o : Int) (s t : ByteArray) (a b c n : Int) : eqC o s t a b c n o s t a b c n = true := eqC_iff.2 ⟨rfl, rfl, rfl, ⟨rfl, rfl, rfl⟩, rfl⟩
theorem eqR_self (o : Int) (s : ByteArray) (a b c n : Int) : eqR o s a b c n o s a b c n = true := eqR_iff.2 ⟨rfl, rfl, ⟨rfl, rfl, rfl⟩, rfl⟩
theorem row6c {w : World} {b : Nat} {a0 a1 a2 a3 a4 a5 : Value} {t : TypeId} (h : w.heap[b]? = some (.cells #[a0, a1, a2, a3, a4, a5] t (0, 0))) :
    w.cell? ⟨b, 0, none⟩ = some a0 ∧ w.cell? ⟨b, 1, none⟩ = some a1 ∧ w.cell? ⟨b, 2, none⟩ = some a2 ∧ w.cell? ⟨b, 3, none⟩ = some a3 ∧ w.cell? ⟨b, 4, none⟩ = some a4 ∧ w.cell? ⟨b, 5, none⟩ = some a5 :=
  ⟨cell_of_row w b 0 _ _ _ h, cell_of_row w b 1 _ _ _ h, cell_of_row w b 2 _ _ _ h, cell_of_row w b 3 _ _ _ h, cell_of_row w b 4 _ _ _ h, cell_of_row w b 5 _ _ _ h⟩
theorem keepRow {W V : World} {q : Nat} {o : Obj} {B : Nat} (h : W.heap[q]? = some o) (hb : Below B W V) (hB : W.heap.size ≤ B) : V.heap[q]? = some o :=
  (hb.block q (Nat.lt_of_lt_of_le (Array.getElem?_eq_some_iff.1 h).1 hB)).trans h
theorem keepAlloc {W : World} {q : Nat} {o : Obj} (p : Obj) (h : W.heap[q]? = some o) : (W.alloc p).heap[q]? = some o :=
  (Below.heap_alloc _ _ q (Array.getElem?_eq_some_iff.1 h).1).trans h
set_option maxHeartbeats 1000000 in
theorem dec_core (S : ByteArray) (o : Int) (s t : ByteArray) (a b c n e : Int) (o' : Int) (s' : ByteArray) (a' b' c' n' e' : Int) (w : World)
    (h17 : ∀ W, Calls Try.prog 17 #[.string S] W (RetBelow (.tuple #[.agg #[.int .i64 o, .string s, .string t, .int .i64 a, .int .i64 b, .int .i64 c, .int .i64 n], .int .i64 e]) W))
    (h18 : ∀ W, Calls Try.prog 18 #[.string S] W (RetBelow (.tuple #[.agg #[.int .i64 o, .string s, .string t, .int .i64 a, .int .i64 b, .int .i64 c, .int .i64 n], .int .i64 e]) W))
    (h19 : ∀ W, Calls Try.prog 19 #[.string S] W (RetBelow (.tuple #[.agg #[.int .i64 o', .string s', .int .i64 a', .int .i64 b', .int .i64 c', .int .i64 n'], .int .i64 e']) W))
    (h20 : ∀ W, Calls Try.prog 20 #[.string S] W (RetBelow (.tuple #[.agg #[.int .i64 o', .string s', .int .i64 a', .int .i64 b', .int .i64 c', .int .i64 n'], .int .i64 e']) W)) :
    Calls Try.prog 4 #[.string S] w (RetBelow (.bool true) w) := by
  have H17 := Lib.hid h17
  have H18 := Lib.hid h18
  have H19 := Lib.hid h19
  have H20 := Lib.hid h20
  have HAW := Lib.hid awakeC_any
  clear h17 h18 h19 h20
  have q1 : ∀ V : World, (binOp .eql 25 (.agg #[.int .i64 o, .string s, .string t, .int .i64 a, .int .i64 b, .int .i64 c, .int .i64 n]) (.agg #[.int .i64 o, .string s, .string t, .int .i64 a, .int .i64 b, .int .i64 c, .int .i64 n])).run Try.prog V = .ok (.bool true) V := fun V => by rw [eq25v, eqC_self]
  have q2 : ∀ V : World, (binOp .eql 34 (.agg #[.int .i64 o', .string s', .int .i64 a', .int .i64 b', .int .i64 c', .int .i64 n']) (.agg #[.int .i64 o', .string s', .int .i64 a', .int .i64 b', .int .i64 c', .int .i64 n'])).run Try.prog V = .ok (.bool true) V := fun V => by rw [eq34v, eqR_self]
  go_enter Try.func4, Try.ntmps4
  go_wp2_with (first
    | (go_at_call 20; (with_reducible refine (H20.out _).mono ?_); rintro e w5 ⟨rfl, h⟩; have B5 : Hid (Below w.heap.size w w5) := Lib.hid ((B4.out.alloc B4.out.size _).trans (h.mono (by have := B4.out.size; simp; omega))); have T3 := alloc_row h; have T2 := keepRow (keepAlloc (rRowV o' s' a' b' c' n') R2.out) h (Nat.le_refl _); have T1 := keepRow (keepAlloc (rRowV o' s' a' b' c' n') R1.out) h (Nat.le_refl _); clear h; obtain ⟨x0, x1, x2, x3, x4, x5, x6⟩ := row7 (keepAlloc (rRowV o' s' a' b' c' n') T1); obtain ⟨y0, y1, y2, y3, y4, y5, y6⟩ := row7 (keepAlloc (rRowV o' s' a' b' c' n') T2); obtain ⟨z0, z1, z2, z3, z4, z5⟩ := row6c (keepAlloc (rRowV o' s' a' b' c' n') T3); have l1 := (Array.getElem?_eq_some_iff.1 T1).1; have l2 := (Array.getElem?_eq_some_iff.1 T2).1; have l3 := (Array.getElem?_eq_some_iff.1 T3).1; clear T1 T2 T3; unfold rRowV at x0 x1 x2 x3 x4 x5 x6 y0 y1 y2 y3 y4 y5 y6 z0 z1 z2 z3 z4 z5)
    | (go_at_call 19; (with_reducible refine (H19.out _).mono ?_); rintro e w4 ⟨rfl, h⟩; have B4 : Hid (Below w.heap.size w w4) := Lib.hid ((B3.out.alloc B3.out.size _).trans (h.mono (by have := B3.out.size; simp; omega))); have R2 := Lib.hid (alloc_row h); have R1 := Lib.hid (keepRow (keepAlloc (cRowV o s t a b c n) R0.out) h (Nat.le_refl _)); clear h)
    | (go_at_call 18; (with_reducible refine (H18.out _).mono ?_); rintro e w3 ⟨rfl, h⟩; have B3 : Hid (Below w.heap.size w w3) := Lib.hid ((B2.out.alloc B2.out.size _).trans (h.mono (by have := B2.out.size; simp; omega))); have R0 := Lib.hid (alloc_row h); clear h)
    | (go_at_call 17; (with_reducible refine (H17.out _).mono ?_); rintro e w2 ⟨rfl, h⟩; have B2 : Hid (Below w.heap.size w w2) := Lib.hid (B1.out.trans (h.mono B1.out.size)); clear h)
    | (go_at_call 10; (with_reducible refine (HAW.out _).mono ?_); rintro e w1 ⟨rfl, h⟩; have B1 : Hid (Below w.heap.size w w1) := Lib.hid h; clear h))
  go_ret
  exact ⟨rfl, B5.out.alloc B5.out.size _⟩
theorem law_decodes (l : List UInt8) (w : World) (hl : l.length ≤ 140737488351232) : Calls Try.prog 4 #[.string (Nm.str l)] w (RetBelow (.bool true) w) := by
  have c1 := fun W => decodeC_any l W (by omega)
  have c2 := fun W => refDecC_any l W (by omega)
  have r1 := fun W => unpackR_any l W (by omega)
  have r2 := fun W => refDecR_any l W (by omega)
  unfold DecP at c1 c2 r1 r2
  cases hc : resC l with
  | none =>
    rw [hc] at c1 c2
    cases hr : resR l with
    | none =>
      rw [hr] at r1 r2
      exact dec_core _ _ _ _ _ _ _ _ _ _ _ _ _ _ _ _ w c1 c2 r1 r2
    | some y =>
      rw [hr] at r1 r2
      exact dec_core _ _ _ _ _ _ _ _ _ _ _ _ _ _ _ _ w c1 c2 r1 r2
  | some x =>
    rw [hc] at c1 c2
    cases hr : resR l with
    | none =>
      rw [hr] at r1 r2
      exact dec_core _ _ _ _ _ _ _ _ _ _ _ _ _ _ _ _ w c1 c2 r1 r2
    | some y =>
      rw [hr] at r1 r2
      exact dec_core _ _ _ _ _ _ _ _ _ _ _ _ _ _ _ _ w c1 c2 r1 r2
end Go.Proofs.Ytiedeneglhboiaa
