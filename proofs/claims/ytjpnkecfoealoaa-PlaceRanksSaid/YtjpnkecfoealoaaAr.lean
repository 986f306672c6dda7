import Derived.Test.YtjpnkecfoealoaaQg
import Derived.Test.YtjpnkecfoealoaaVArg
import Derived.ProofKit
import Derived.ChangeOld
import Derived.OpenShut
import Derived.SizedLaws
namespace Go.Proofs.Ytjpnkecfoealoaa
open Go.ChangeShapes Go.WideShapes Go.ChangeAt Go.RowKit Go.Deep
open Go.Proofs.Ytjpnkecfoealoaa.Vc (I64)
set_option linter.unusedVariables false
theorem cells22 : Try.prog.cellsOf 33 = 8 := by kernel_rfl
theorem cells9 : Try.prog.cellsOf 9 = 1 := by kernel_rfl
theorem cells4 : Try.prog.cellsOf 4 = 1 := by kernel_rfl
section
variable {H : Type} {enc : TypeId × Value → H} {W : World} {base : Nat}
theorem pick (f : Nat → Prop) {α : Type} (n : Nat) (p : Nat → α → Prop) (h : ∀ i, i < n → ∃ a, p i a) : ∃ l : List α, l.length = n ∧ ∀ (i : Nat) (a : α), l[i]? = some a → p i a := by
  induction n with
  | zero => exact ⟨[], rfl, fun i a q => by simp at q⟩
  | succ n ih =>
    obtain ⟨l, h1, h2⟩ := ih fun i hi => h i (by omega)
    obtain ⟨a, ha⟩ := h n (by omega)
    refine ⟨l ++ [a], by simp [h1], fun i x hx => ?_⟩
    by_cases hi : i < l.length
    · rw [List.getElem?_append_left hi] at hx
      exact h2 i x hx
    · rw [List.getElem?_append_right (by omega)] at hx
      have : i - l.length = 0 := by
        have := (List.getElem?_eq_some_iff.1 hx).1
        simp at this; omega
      rw [this] at hx
      have e : i = n := by omega
      have hx : a = x := by simpa using hx
      rw [e, ← hx]; exact ha
theorem weights_all {P : Program} {e : TypeId} {ds : List (DataW H)} {d : DataW H} (h : d ∈ ds) : ∀ n ∈ d.weights P e, n ∈ DataW.weightsAll P e ds := by
  induction ds with
  | nil => cases h
  | cons x r ih =>
    intro n hn
    rw [DataW.weightsAll, List.mem_append]
    rcases List.mem_cons.1 h with rfl | h
    · exact .inl hn
    · exact .inr (ih h n hn)
set_option maxRecDepth 100000 in
set_option maxHeartbeats 1000000 in
/-- a node that came in -/
theorem open_node {fuel : Nat} {cs : List Value} {y : DataW H × List MemPlace} (h : DataW.trod enc Try.prog W 0 (fun _ => true) true fuel 33 cs = some y) (hw : ∀ z ∈ y.1.weights Try.prog 33, z ≤ 140737488351232) :
    ∃ x : Nd, cs = nodeC x ∧ Nok x := by
  obtain ⟨xs, n, rfl, hy, hlen, hxl, hf⟩ := DataW.trod_struct Try.underlying33 h
  rw [cells22] at hlen
  match cs, hlen with
  | [u0, u1, u2, u3, u4, u5, u6, u7], _ =>
    match xs, hxl with
    | [y0, y1, y2, y3], _ =>
      have g0 : DataW.trod enc Try.prog W 0 (fun _ => true) true n 9 [u0] = some y0 := by have q : DataW.trod enc Try.prog W 0 (fun _ => true) true n 9 (([u0, u1, u2, u3, u4, u5, u6, u7].drop 0).take (Try.prog.cellsOf 9)) = some y0 := hf 0 _ rfl; rw [cells9] at q; exact q
      have g1 : DataW.trod enc Try.prog W 0 (fun _ => true) true n 24 [u1, u2, u3] = some y1 := by have q : DataW.trod enc Try.prog W 0 (fun _ => true) true n 24 (([u0, u1, u2, u3, u4, u5, u6, u7].drop 1).take (Try.prog.cellsOf 24)) = some y1 := hf 1 _ rfl; rw [Vc.cells23] at q; exact q
      have g2 : DataW.trod enc Try.prog W 0 (fun _ => true) true n 24 [u4, u5, u6] = some y2 := by have q : DataW.trod enc Try.prog W 0 (fun _ => true) true n 24 (([u0, u1, u2, u3, u4, u5, u6, u7].drop 4).take (Try.prog.cellsOf 24)) = some y2 := hf 2 _ rfl; rw [Vc.cells23] at q; exact q
      have g3 : DataW.trod enc Try.prog W 0 (fun _ => true) true n 4 [u7] = some y3 := by have q : DataW.trod enc Try.prog W 0 (fun _ => true) true n 4 (([u0, u1, u2, u3, u4, u5, u6, u7].drop 7).take (Try.prog.cellsOf 4)) = some y3 := hf 3 _ rfl; rw [cells4] at q; exact q
      obtain ⟨k0, e0, d0, _⟩ := DataW.trod_string Try.underlying9 g0
      obtain ⟨a, b, c, e1, _, a0, b0, c0⟩ := Vc.vec_cells rfl g1
      obtain ⟨x, y, z, e2, _, x0, y0', z0⟩ := Vc.vec_cells rfl g2
      obtain ⟨d, e3, _⟩ := DataW.trod_bool Try.underlying4 g3
      simp only [List.cons.injEq, and_true] at e0 e1 e2 e3
      obtain ⟨e1a, e1b, e1c⟩ := e1
      obtain ⟨e2a, e2b, e2c⟩ := e2
      subst e0 e1a e1b e1c e2a e2b e2c e3
      have hwt : ∀ z ∈ DataW.weightsEach Try.prog [9, 24, 24, 4] [y0.1, y1.1, y2.1, y3.1], z ≤ 140737488351232 := by
        intro z hz
        refine hw z ?_
        rw [hy]
        show z ∈ DataW.weights Try.prog 33 (.agg _)
        rw [DataW.weights, Try.underlying33]
        exact hz
      have b1 := hwt k0.data.toList.length (DataW.weights_mem_each (j := 0) (t := 9) (d := y0.1) rfl rfl _ (by rw [d0]; simp [DataW.weights]))
      exact ⟨⟨k0.data.toList, a, b, c, x, y, z, d⟩, by unfold nodeC; rw [Nm.str_list], ⟨by show k0.data.toList.length ≤ _; omega, a0, b0, c0, x0, y0', z0⟩⟩
set_option maxRecDepth 100000 in
/-- an argument that is a node -/
theorem node_arg {v : Value} {d : DataW H} {p : List MemPlace} (hv : Value.okWide Try.prog W .any base 33 v) (h : DataW.Trod enc Try.prog W 0 (fun _ => true) true 33 v d p) (hw : ∀ z ∈ d.weights Try.prog 33, z ≤ 140737488351232) :
    ∃ x : Nd, v = nodeV x ∧ Nok x := by
  obtain ⟨cs, rfl, hsz⟩ := okWide_struct Try.underlying33 hv
  obtain ⟨fuel, hf⟩ := h
  obtain ⟨l⟩ := cs
  obtain ⟨x, hx, hfx⟩ := open_node (cs := l) hf hw
  subst hx
  exact ⟨x, rfl, hfx⟩
theorem addr_add (b o i : Nat) : (⟨b, o, none⟩ : Addr).add i = ⟨b, o + i, none⟩ := by
  unfold Addr.add
  split
  · subst i; rfl
  · rfl
theorem addr_add' (a : Addr) (i j : Nat) (h : a.spot = none) : (a.add i).add j = ⟨a.block, a.off + i + j, none⟩ := by
  obtain ⟨b, o, s⟩ := a
  subst h
  rw [addr_add, addr_add]
set_option maxRecDepth 100000 in
/-- an argument that is a slice of nodes -/
theorem nodes_arg {v : Value} {d : DataW H} {p : List MemPlace} (hv : Value.okWide Try.prog W .any base 22 v) (h0 : DataW.Trod enc Try.prog W 0 (fun _ => true) true 22 v d p) (hw : ∀ z ∈ d.weights Try.prog 22, z ≤ 140737488351232) :
    ∃ (A : Option Addr) (L : List Nd) (N c : Nat), v = .slice A N c ∧ L.length = N ∧ N ≤ c ∧ c ≤ 9223372036854775807 ∧ NodesAt W W.heap.size A L ∧ (∀ n ∈ L, Nok n) ∧ (A = none → c = 0) := by
  obtain ⟨A, N, c, rfl⟩ := okWide_slice Try.underlying22 hv
  obtain ⟨fuel, h⟩ := h0
  have h : DataW.trod enc Try.prog W 0 (fun _ => true) true fuel 22 [.slice A N c] = some (d, p) := h
  rcases open_slice Try.underlying22 h with ⟨hcs, hx⟩ | ⟨a, len, cap, m, n, D, Pl, hcs, _, hl, hm, hmm, hx, hi⟩
  · simp only [List.cons.injEq, and_true, Value.slice.injEq] at hcs
    obtain ⟨rfl, rfl, rfl⟩ := hcs
    exact ⟨none, [], 0, 0, rfl, rfl, by omega, by omega, fun q => absurd rfl q, fun n hn => (by cases hn), fun _ => rfl⟩
  · simp only [List.cons.injEq, and_true, Value.slice.injEq] at hcs
    simp only [if_true] at hmm
    subst hmm
    rw [cells22] at hi
    have each : ∀ i, i < len → ∃ x : Nd, Nok x ∧ W.cell? ((a.add (i * 8)).add 0) = some (.string (Nm.str x.s)) ∧ W.cell? ((a.add (i * 8)).add 1) = some (.int .i64 x.a) ∧ W.cell? ((a.add (i * 8)).add 2) = some (.int .i64 x.b) ∧
        W.cell? ((a.add (i * 8)).add 3) = some (.int .i64 x.c) ∧ W.cell? ((a.add (i * 8)).add 4) = some (.int .i64 x.x) ∧ W.cell? ((a.add (i * 8)).add 5) = some (.int .i64 x.y) ∧ W.cell? ((a.add (i * 8)).add 6) = some (.int .i64 x.z) ∧ W.cell? ((a.add (i * 8)).add 7) = some (.bool x.d) := by
      intro i hil
      obtain ⟨cs', hc, ht⟩ := hi i (by omega)
      obtain ⟨_, hcl, hat⟩ := World.cells?_some hc
      obtain ⟨x, rfl, hok⟩ := open_node ht (fun z hz => hw z (by
        simp only [Prod.mk.injEq] at hx
        rw [hx.1]
        show z ∈ DataW.weights Try.prog 22 (.slice _ _)
        rw [DataW.weights, Try.underlying22]
        refine List.mem_cons_of_mem _ (List.mem_append_left _ (weights_all (d := D i) ?_ z hz))
        exact List.mem_map.2 ⟨i, List.mem_range.2 hil, rfl⟩))
      have c0 := hat 0 (by omega)
      have c1 := hat 1 (by omega)
      have c2 := hat 2 (by omega)
      have c3 := hat 3 (by omega)
      have c4 := hat 4 (by omega)
      have c5 := hat 5 (by omega)
      have c6 := hat 6 (by omega)
      have c7 := hat 7 (by omega)
      exact ⟨x, hok, c0, c1, c2, c3, c4, c5, c6, c7⟩
    obtain ⟨l, hll, hla⟩ := pick (fun _ => True) len _ each
    obtain ⟨rfl, rfl, rfl⟩ := hcs
    refine ⟨some a, l, _, _, rfl, hll, by omega, by simp only [maxLen] at hm; omega, fun hne => ?_, fun n hn => ?_, fun q => by cases q⟩
    · obtain ⟨x0, hx0⟩ : ∃ x, l[0]? = some x := by
        cases l with
        | nil => exact absurd rfl hne
        | cons x r => exact ⟨x, rfl⟩
      obtain ⟨_, c0, _⟩ := hla 0 x0 hx0
      obtain ⟨b, off, spot⟩ := a
      have hspot : spot = none := by simpa [Addr.add] using World.cell?_spot c0
      subst hspot
      refine ⟨b, off, rfl, by have := World.block_lt_of_cell? W _ c0; rw [addr_add, addr_add] at this; exact this, fun i x hx => ?_⟩
      obtain ⟨hok, d0, d1, d2, d3, d4, d5, d6, d7⟩ := hla i x hx
      rw [addr_add, addr_add] at d0 d1 d2 d3 d4 d5 d6 d7
      exact ⟨d0, d1, d2, d3, d4, d5, d6, d7⟩
    · obtain ⟨i, hi', rfl⟩ := List.getElem_of_mem hn
      exact (hla i _ (List.getElem?_eq_getElem hi')).1
end
end Go.Proofs.Ytjpnkecfoealoaa
