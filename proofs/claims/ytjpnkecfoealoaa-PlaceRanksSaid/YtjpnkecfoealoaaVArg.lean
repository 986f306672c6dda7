import Derived.Test.YtjpnkecfoealoaaVSum
import Derived.OpenShut
import Derived.ShutString
import Derived.Deep.Slices
import Derived.Deep.Fields
import Derived.ChangeSame
import Derived.Laws.IdiomArrays
namespace Go.Proofs.Ytjpnkecfoealoaa.Vc
set_option maxRecDepth 20000
open Go.ChangeShapes Go.WideShapes Go.ChangeAt Go.RowKit Go.Deep
set_option linter.unusedVariables false
section
variable {H : Type} {enc : TypeId × Value → H} {W : World} {base : Nat}
theorem cells2 : Try.prog.cellsOf 2 = 1 := by kernel_rfl
theorem cells23 : Try.prog.cellsOf 24 = 3 := by kernel_rfl
theorem wf_of {z : Int} (h : (Lit.int .i64 z).wf = true) : I64 z := by
  simp only [Lit.wf, Bool.and_eq_true, decide_eq_true_eq] at h
  have e1 : IntKind.i64.min = -9223372036854775808 := by decide
  have e2 : IntKind.i64.max = 9223372036854775807 := by decide
  rw [e1, e2] at h
  exact h
theorem of_wf {z : Int} (h : I64 z) : (Lit.int .i64 z).wf = true := by
  simp only [Lit.wf, Bool.and_eq_true, decide_eq_true_eq]
  have e1 : IntKind.i64.min = -9223372036854775808 := by decide
  have e2 : IntKind.i64.max = 9223372036854775807 := by decide
  rw [e1, e2]
  exact h
/-- the three cells of a Vec -/
theorem vec_cells {held : Bool} {sp : Nat → Bool} {b0 fuel : Nat} {cs : List Value} {y : DataW H × List MemPlace} (hl : cs.length = 3) (h : DataW.trod enc Try.prog W b0 sp held fuel 24 cs = some y) :
    ∃ x1 x2 x3 : Int, cs = [.int .i64 x1, .int .i64 x2, .int .i64 x3] ∧ y = (.agg [.lit (.int .i64 x1), .lit (.int .i64 x2), .lit (.int .i64 x3)], []) ∧ I64 x1 ∧ I64 x2 ∧ I64 x3 := by
  match cs, hl with
  | [c0, c1, c2], _ =>
    obtain ⟨y0, y1, y2, m, rfl, hy0, hy1, hy2⟩ := trod_array3 Try.underlying24 cells2 h
    obtain ⟨k0, e0, rfl, hw0⟩ := DataW.trod_int Try.underlying2 hy0
    obtain ⟨k1, e1, rfl, hw1⟩ := DataW.trod_int Try.underlying2 hy1
    obtain ⟨k2, e2, rfl, hw2⟩ := DataW.trod_int Try.underlying2 hy2
    simp at e0 e1 e2
    subst e0 e1 e2
    exact ⟨k0, k1, k2, rfl, rfl, wf_of hw0, wf_of hw1, wf_of hw2⟩
/-- an argument that is a Vec -/
theorem vec_arg {v : Value} {d : DataW H} {p : List MemPlace} (hv : Value.okWide Try.prog W .any base 24 v) (h : DataW.Trod enc Try.prog W 0 (fun _ => true) true 24 v d p) :
    ∃ x1 x2 x3 : Int, v = .agg #[.int .i64 x1, .int .i64 x2, .int .i64 x3] ∧ d = .agg [.lit (.int .i64 x1), .lit (.int .i64 x2), .lit (.int .i64 x3)] ∧ p = [] ∧ I64 x1 ∧ I64 x2 ∧ I64 x3 := by
  simp only [Value.okWide, Try.underlying24] at hv
  obtain ⟨cs, rfl, hsz, _⟩ := hv
  obtain ⟨fuel, hf⟩ := h
  obtain ⟨l⟩ := cs
  have hl : l.length = 3 := hsz.trans cells23
  obtain ⟨x1, x2, x3, rfl, hy, a, b, c⟩ := vec_cells hl hf
  simp only [Prod.mk.injEq] at hy
  exact ⟨x1, x2, x3, rfl, hy.1, hy.2, a, b, c⟩
theorem vec_shut {w : World} {sp : Nat → Bool} {x1 x2 x3 : Int} (a : I64 x1) (b : I64 x2) (c : I64 x3) :
    DataW.Trod enc Try.prog w 0 sp true 24 (.agg #[.int .i64 x1, .int .i64 x2, .int .i64 x3]) (.agg [.lit (.int .i64 x1), .lit (.int .i64 x2), .lit (.int .i64 x3)]) [] :=
  ⟨2, by simp [DataW.trod, Value.cells, Try.underlying24, Try.underlying2, cells23, cells2, of_wf a, of_wf b, of_wf c, show List.range 3 = [0, 1, 2] from rfl]⟩
/-- an argument that is a slice of Vecs -/
theorem vecs_arg {v : Value} {d : DataW H} {p : List MemPlace} (hv : Value.okWide Try.prog W .any base 67 v) (h : DataW.Trod enc Try.prog W 0 (fun _ => true) true 67 v d p) :
    ∃ L A n cap, v = .slice A n cap ∧ VecsAt W W.heap.size A L ∧ L.length = n ∧ (∀ v ∈ L, Vok v) ∧ n ≤ cap ∧ cap ≤ 9223372036854775807 ∧ (A = none → cap = 0) := by
  obtain ⟨a0, len, cap, rfl⟩ := okWide_slice Try.underlying67 hv
  have lt0 : ∀ x ∈ p, x.block < W.heap.size := by obtain ⟨m, hm⟩ := h; exact DataW.trod_lt m _ _ _ hm
  obtain ⟨fuel, hf⟩ := h
  rcases open_slice Try.underlying67 hf with ⟨hcs, hx⟩ | ⟨a, len', cap', m, n, D, Pl, hcs, _, hl, hm, hmm, hx, hi⟩
  · simp [Value.cells] at hcs
    obtain ⟨rfl, rfl, rfl⟩ := hcs
    exact ⟨[], none, 0, 0, rfl, fun h => absurd rfl h, rfl, by simp, by omega, by omega, fun _ => rfl⟩
  · simp [Value.cells] at hcs
    obtain ⟨rfl, rfl, rfl⟩ := hcs
    simp only [Prod.mk.injEq] at hx
    obtain ⟨rfl, rfl⟩ := hx
    simp only [if_true] at hmm
    subst hmm
    rw [cells23] at hi
    have each : ∀ i, i < len → ∃ u : V3, Vok u ∧ W.cell? (a.add (i * 3)) = some (.int .i64 u.x) ∧ W.cell? ((a.add (i * 3)).add 1) = some (.int .i64 u.y) ∧ W.cell? ((a.add (i * 3)).add 2) = some (.int .i64 u.z) := by
      intro i hil
      obtain ⟨cs', hc, ht⟩ := hi i (by omega)
      obtain ⟨_, hcl, hat⟩ := World.cells?_some hc
      obtain ⟨x1, x2, x3, rfl, _, b1, b2, b3⟩ := vec_cells hcl ht
      have g0 := hat 0 (by omega)
      have g1 := hat 1 (by omega)
      have g2 := hat 2 (by omega)
      exact ⟨⟨x1, x2, x3⟩, ⟨b1, b2, b3⟩, by simpa [Addr.add] using g0, by simpa using g1, by simpa using g2⟩
    let f : Nat → V3 := fun i => if hil : i < len then Classical.choose (each i hil) else ⟨0, 0, 0⟩
    have fs : ∀ i, i < len → Vok (f i) ∧ W.cell? (a.add (i * 3)) = some (.int .i64 (f i).x) ∧ W.cell? ((a.add (i * 3)).add 1) = some (.int .i64 (f i).y) ∧ W.cell? ((a.add (i * 3)).add 2) = some (.int .i64 (f i).z) := by
      intro i hil
      have := Classical.choose_spec (each i hil)
      simp only [f, dif_pos hil]
      exact this
    refine ⟨(List.range len).map f, some a, len, m, rfl, ?_, by simp, ?_, hl, by simp only [maxLen] at hm; omega, fun h => by cases h⟩
    · intro hne
      have hl0 : 0 < len := by
        rcases Nat.eq_zero_or_pos len with h | h
        · subst h; simp at hne
        · exact h
      obtain ⟨b, off, spot⟩ := a
      have hspot : spot = none := by simpa [Addr.add] using World.cell?_spot (fs 0 hl0).2.1
      subst hspot
      refine ⟨b, off, rfl, lt0 (.cell b off) (List.mem_append.2 (.inl (MemPlace.mem_row.2 ⟨0, by rw [cells23]; omega, by simp⟩))), fun j u hu => ?_⟩
      simp only [List.getElem?_map, Option.map_eq_some_iff] at hu
      obtain ⟨k, hk, rfl⟩ := hu
      obtain ⟨hkl, hk⟩ := List.getElem?_eq_some_iff.1 hk
      rw [List.length_range] at hkl
      rw [List.getElem_range] at hk
      subst hk
      obtain ⟨_, c0, c1, c2⟩ := fs j hkl
      have ea : ∀ q, (Addr.mk b off none).add q = ⟨b, off + q, none⟩ := fun q => by
        unfold Addr.add
        split
        · subst q; rfl
        · rfl
      have eb : ∀ q o, (Addr.mk b o none).add q = ⟨b, o + q, none⟩ := fun q o => by
        unfold Addr.add
        split
        · subst q; rfl
        · rfl
      rw [ea] at c0 c1 c2
      rw [eb] at c1 c2
      exact ⟨c0, c1, c2⟩
    · intro u hu
      obtain ⟨k, hk, rfl⟩ := List.mem_map.1 hu
      exact (fs k (List.mem_range.1 hk)).1
end
end Go.Proofs.Ytjpnkecfoealoaa.Vc
