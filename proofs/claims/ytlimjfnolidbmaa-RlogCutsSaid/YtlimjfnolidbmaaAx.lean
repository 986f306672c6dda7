import Derived.Test.YtlimjfnolidbmaaAr
import Derived.Test.YtlimjfnolidbmaaFx
import Derived.Test.YtlimjfnolidbmaaPp
namespace Go.Proofs.Ytlimjfnolidbmaa
set_option maxRecDepth 20000
open Go.ChangeShapes Go.WideShapes Go.ChangeAt Go.RowKit Go.Deep RL
set_option linter.unusedVariables false
/-! ### acts that came in -/
structure Ac where
  k : Int
  a : Int
  b : Int
  A : Option Addr
  n : Nat
  c : Nat
  L : List En
def DC : CT Ac := ⟨fun x => [.int .i64 x.k, .int .i64 x.a, .int .i64 x.b, .slice x.A x.n x.c], 4, 34, 23, .agg #[.int .i64 0, .int .i64 0, .int .i64 0, .slice none 0 0], 48, fun _ => rfl, fun x u h => by simp only [List.mem_cons, List.not_mem_nil, or_false] at h; rcases h with rfl | rfl | rfl | rfl <;> rfl, by omega, by omega, by rfl, by omega, by kernel_rfl, Try.underlying23⟩
structure AcOk (W : World) (x : Ac) : Prop where
  k : I64 x.k
  a : I64 x.a
  b : I64 x.b
  l : SlA DE W EnOk x.A x.n x.c x.L
section
variable {H : Type} {enc : TypeId × Value → H} {W : World} {base : Nat}
theorem open_act (fuel : Nat) (cs : List Value) (y : DataW H × List MemPlace) (h : DataW.trod enc Try.prog W 0 (fun _ => true) true fuel 34 cs = some y) : ∃ x : Ac, cs = DC.C x ∧ AcOk W x := by
  obtain ⟨xs, n, rfl, hy, hlen, hxl, hf⟩ := DataW.trod_struct Try.underlying34 h
  rw [cells34] at hlen
  match cs, hlen with
  | [u0, u1, u2, u3], _ =>
    match xs, hxl with
    | [y0, y1, y2, y3], _ =>
      have g0 : DataW.trod enc Try.prog W 0 (fun _ => true) true n 3 [u0] = some y0 := by have q : DataW.trod enc Try.prog W 0 (fun _ => true) true n 3 (([u0, u1, u2, u3].drop 0).take (Try.prog.cellsOf 3)) = some y0 := hf 0 _ rfl; rw [cells3] at q; exact q
      have g1 : DataW.trod enc Try.prog W 0 (fun _ => true) true n 2 [u1] = some y1 := by have q : DataW.trod enc Try.prog W 0 (fun _ => true) true n 2 (([u0, u1, u2, u3].drop 1).take (Try.prog.cellsOf 2)) = some y1 := hf 1 _ rfl; rw [cells2] at q; exact q
      have g2 : DataW.trod enc Try.prog W 0 (fun _ => true) true n 2 [u2] = some y2 := by have q : DataW.trod enc Try.prog W 0 (fun _ => true) true n 2 (([u0, u1, u2, u3].drop 2).take (Try.prog.cellsOf 2)) = some y2 := hf 2 _ rfl; rw [cells2] at q; exact q
      have g3 : DataW.trod enc Try.prog W 0 (fun _ => true) true n 22 [u3] = some y3 := by have q : DataW.trod enc Try.prog W 0 (fun _ => true) true n 22 (([u0, u1, u2, u3].drop 3).take (Try.prog.cellsOf 22)) = some y3 := hf 3 _ rfl; rw [cells22] at q; exact q
      obtain ⟨k0, e0, _, w0⟩ := DataW.trod_int Try.underlying3 g0
      obtain ⟨k1, e1, _, w1⟩ := DataW.trod_int Try.underlying2 g1
      obtain ⟨k2, e2, _, w2⟩ := DataW.trod_int Try.underlying2 g2
      obtain ⟨A, m, c, L, e3, hl⟩ := ents_of g3
      simp only [List.cons.injEq, and_true] at e0 e1 e2
      subst e0 e1 e2 e3
      exact ⟨⟨k0, k1, k2, A, m, c, L⟩, rfl, ⟨wf_of w0, wf_of w1, wf_of w2, hl⟩⟩
/-- an argument that is an act -/
theorem act_arg {v : Value} {d : DataW H} {p : List MemPlace} (hv : Value.okWide Try.prog W .any base 34 v) (h : DataW.Trod enc Try.prog W 0 (fun _ => true) true 34 v d p) : ∃ x : Ac, v = .agg #[.int .i64 x.k, .int .i64 x.a, .int .i64 x.b, .slice x.A x.n x.c] ∧ AcOk W x := by
  simp only [Value.okWide, Try.underlying34] at hv
  obtain ⟨cs, rfl, _, _⟩ := hv
  obtain ⟨fuel, hf⟩ := h
  obtain ⟨l⟩ := cs
  obtain ⟨x, e, hx⟩ := open_act fuel l _ hf
  exact ⟨x, by rw [e]; rfl, hx⟩
/-- an argument that is a slice of acts -/
theorem acts_arg {v : Value} {d : DataW H} {p : List MemPlace} (hv : Value.okWide Try.prog W .any base 23 v) (h : DataW.Trod enc Try.prog W 0 (fun _ => true) true 23 v d p) : ∃ (A : Option Addr) (n c : Nat) (L : List Ac), v = .slice A n c ∧ SlA DC W (AcOk W) A n c L := by
  obtain ⟨A, n, c, rfl⟩ := okWide_slice Try.underlying23 hv
  obtain ⟨fuel, hf⟩ := h
  exact open_rows DC (AcOk W) cells34 open_act hf
end
theorem acells {w : World} {b : Nat} {a0 a1 a2 a3 : Value} {t : TypeId} (h : w.heap[b]? = some (.cells #[a0, a1, a2, a3] t (0, 0))) : w.cell? ⟨b, 0, none⟩ = some a0 ∧ w.cell? ⟨b, 1, none⟩ = some a1 ∧ w.cell? ⟨b, 2, none⟩ = some a2 ∧ w.cell? ⟨b, 3, none⟩ = some a3 :=
  ⟨cell_of_row w b 0 _ _ _ h, cell_of_row w b 1 _ _ _ h, cell_of_row w b 2 _ _ _ h, cell_of_row w b 3 _ _ _ h⟩
end Go.Proofs.Ytlimjfnolidbmaa
