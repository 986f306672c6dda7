import Derived.Test.YtipclhklkngamaaNk
import Derived.ProofKit
import Derived.ChangeOld
import Derived.Deep.Slices
import Derived.OpenShut
import Derived.SizedLaws
namespace Go.Proofs.Ytipclhklkngamaa
open Go.ChangeShapes Go.WideShapes Go.ChangeAt Go.RowKit Go.Deep
set_option linter.unusedVariables false

structure NAct where
  kind : Int
  n : Int
  l : Let
structure Okay (x : NAct) : Prop where
  k0 : -9223372036854775808 ≤ x.kind
  k1 : x.kind ≤ 9223372036854775807
  n0 : -9223372036854775808 ≤ x.n
  n1 : x.n ≤ 9223372036854775807
  l : Fit x.l
  b : x.l.b.data.toList.length ≤ 140737488351232
/-- an act's five cells -/
def ActAt (w : World) (k off : Nat) (x : NAct) : Prop :=
  w.cell? ⟨k, off, none⟩ = some (.int .i64 x.kind) ∧ w.cell? ⟨k, off + 1, none⟩ = some (.int .i64 x.n) ∧ w.cell? ⟨k, off + 2, none⟩ = some (.int .i64 x.l.f) ∧ w.cell? ⟨k, off + 3, none⟩ = some (.int .i64 x.l.t) ∧ w.cell? ⟨k, off + 4, none⟩ = some (.string x.l.b) ∧ Okay x
def ActsAt (w : World) (v : Value) (xs : List NAct) (B : Nat) : Prop :=
  ∃ A c, v = .slice A xs.length c ∧ xs.length ≤ c ∧ c ≤ 9223372036854775807 ∧ (xs ≠ [] → ∃ k off, A = some ⟨k, off, none⟩ ∧ k < B ∧ ∀ i x, xs[i]? = some x → ActAt w k (off + i * 5) x)
/-- letters that came in -/
def LetsAt (w : World) (v : Value) (xs : List Let) (B : Nat) : Prop :=
  ∃ A c, v = .slice A xs.length c ∧ xs.length ≤ c ∧ c ≤ 9223372036854775807 ∧ (xs ≠ [] → ∃ k off, A = some ⟨k, off, none⟩ ∧ k < B ∧ ∀ i x, xs[i]? = some x → (w.cell? ⟨k, off + i * 3, none⟩ = some (.int .i64 x.f) ∧ w.cell? ⟨k, off + i * 3 + 1, none⟩ = some (.int .i64 x.t) ∧ w.cell? ⟨k, off + i * 3 + 2, none⟩ = some (.string x.b)) ∧ Fit x)
theorem ActsAt.form {w : World} {v : Value} {xs : List NAct} {B : Nat} (h : ActsAt w v xs B) : ∃ A c, v = .slice A xs.length c ∧ xs.length ≤ c ∧ c ≤ 9223372036854775807 := by
  obtain ⟨A, c, h1, h2, h3, _⟩ := h
  exact ⟨A, c, h1, h2, h3⟩
theorem LetsAt.form {w : World} {v : Value} {xs : List Let} {B : Nat} (h : LetsAt w v xs B) : ∃ A c, v = .slice A xs.length c ∧ xs.length ≤ c ∧ c ≤ 9223372036854775807 := by
  obtain ⟨A, c, h1, h2, h3, _⟩ := h
  exact ⟨A, c, h1, h2, h3⟩
/-- one act, in whatever world is above -/
theorem ActsAt.one {W w : World} {A : Option Addr} {c n : Nat} {xs : List NAct} (h : ActsAt W (.slice A n c) xs W.heap.size) (hb : Below W.heap.size W w) {i : Nat} {x : NAct} (hx : xs[i]? = some x) : ∃ k off, A = some ⟨k, off, none⟩ ∧ k < W.heap.size ∧
    w.cell? ⟨k, off + i * 5, none⟩ = some (.int .i64 x.kind) ∧ w.cell? ⟨k, off + i * 5 + 1, none⟩ = some (.int .i64 x.n) ∧ w.cell? ⟨k, off + i * 5 + 2, none⟩ = some (.int .i64 x.l.f) ∧ w.cell? ⟨k, off + i * 5 + 3, none⟩ = some (.int .i64 x.l.t) ∧ w.cell? ⟨k, off + i * 5 + 4, none⟩ = some (.string x.l.b) ∧ Okay x := by
  obtain ⟨A', c', e, _, _, h4⟩ := h
  obtain ⟨k, off, e1, e2, e3⟩ := h4 (fun q => by rw [q] at hx; simp at hx)
  obtain ⟨h0, h1, h2, h3, h5, h6⟩ := e3 i x hx
  have eA : A = A' := by injection e
  have q : ∀ o v, W.cell? ⟨k, o, none⟩ = some v → w.cell? ⟨k, o, none⟩ = some v := fun o v e => (World.cell?_of_block (w := W) (hb.block k e2)).trans e
  exact ⟨k, off, eA.trans e1, e2, q _ _ h0, q _ _ h1, q _ _ h2, q _ _ h3, q _ _ h5, h6⟩
theorem LetsAt.one {W w : World} {A : Option Addr} {c n : Nat} {xs : List Let} (h : LetsAt W (.slice A n c) xs W.heap.size) (hb : Below W.heap.size W w) {i : Nat} {x : Let} (hx : xs[i]? = some x) : ∃ k off, A = some ⟨k, off, none⟩ ∧ k < W.heap.size ∧
    w.cell? ⟨k, off + i * 3, none⟩ = some (.int .i64 x.f) ∧ w.cell? ⟨k, off + i * 3 + 1, none⟩ = some (.int .i64 x.t) ∧ w.cell? ⟨k, off + i * 3 + 2, none⟩ = some (.string x.b) ∧ Fit x := by
  obtain ⟨A', c', e, _, _, h4⟩ := h
  obtain ⟨k, off, e1, e2, e3⟩ := h4 (fun q => by rw [q] at hx; simp at hx)
  obtain ⟨⟨h0, h1, h2⟩, h6⟩ := e3 i x hx
  have eA : A = A' := by injection e
  have q : ∀ o v, W.cell? ⟨k, o, none⟩ = some v → w.cell? ⟨k, o, none⟩ = some v := fun o v e => (World.cell?_of_block (w := W) (hb.block k e2)).trans e
  exact ⟨k, off, eA.trans e1, e2, q _ _ h0, q _ _ h1, q _ _ h2, h6⟩

theorem cells34 : Try.prog.cellsOf 34 = 5 := by kernel_rfl
theorem cells32 : Try.prog.cellsOf 32 = 3 := by kernel_rfl
theorem cells3 : Try.prog.cellsOf 3 = 1 := by kernel_rfl
theorem cells9 : Try.prog.cellsOf 9 = 1 := by kernel_rfl
theorem wf64 {n : Int} (h : (Lit.int .i64 n).wf = true) : -9223372036854775808 ≤ n ∧ n ≤ 9223372036854775807 := by
  simp only [Lit.wf, Bool.and_eq_true, decide_eq_true_eq] at h
  have e1 : IntKind.i64.min = -9223372036854775808 := by decide
  have e2 : IntKind.i64.max = 9223372036854775807 := by decide
  rw [e1, e2] at h
  exact h
section
variable {H : Type} {enc : TypeId × Value → H} {W : World}
theorem pick (f : Nat → Prop) {α : Type} (n : Nat) (p : Nat → α → Prop) (h : ∀ i, i < n → ∃ a, p i a) : ∃ l : List α, l.length = n ∧ ∀ (i : Nat) (a : α), l[i]? = some a → p i a := by
  induction n with
  | zero => exact ⟨[], rfl, fun i a q => by simp at q⟩
  | succ n ih =>
    obtain ⟨l, h1, h2⟩ := ih fun i hi => h i (by omega)
    obtain ⟨a, ha⟩ := h n (by omega)
    refine ⟨l ++ [a], by simp [h1], fun i x hx => ?_⟩
    by_cases hi : i < l.length
    · rw [List.getElem?_append_left hi] at hx
      exact h2 i x hx
    · rw [List.getElem?_append_right (by omega)] at hx
      have : i - l.length = 0 := by
        have := (List.getElem?_eq_some_iff.1 hx).1
        simp at this; omega
      rw [this] at hx
      have e : i = n := by omega
      have hx : a = x := by simpa using hx
      rw [e, ← hx]; exact ha
theorem weights_all {P : Program} {e : TypeId} {ds : List (DataW H)} {d : DataW H} (h : d ∈ ds) : ∀ n ∈ d.weights P e, n ∈ DataW.weightsAll P e ds := by
  induction ds with
  | nil => cases h
  | cons x r ih =>
    intro n hn
    rw [DataW.weightsAll, List.mem_append]
    rcases List.mem_cons.1 h with rfl | h
    · exact .inl hn
    · exact .inr (ih h n hn)
set_option maxRecDepth 100000 in
set_option maxHeartbeats 1000000 in
/-- a letter that came in -/
theorem open_let {fuel : Nat} {cs : List Value} {y : DataW H × List MemPlace} (h : DataW.trod enc Try.prog W 0 (fun _ => true) true fuel 32 cs = some y) (hw : ∀ z ∈ y.1.weights Try.prog 32, z ≤ 140737488351232) :
    ∃ x : Let, cs = [.int .i64 x.f, .int .i64 x.t, .string x.b] ∧ Fit x ∧ x.b.data.toList.length ≤ 140737488351232 := by
  obtain ⟨xs, n, rfl, hy, hlen, hxl, hf⟩ := DataW.trod_struct Try.underlying32 h
  rw [cells32] at hlen
  match cs, hlen with
  | [u0, u1, u2], _ =>
    match xs, hxl with
    | [y0, y1, y2], _ =>
      have g0 : DataW.trod enc Try.prog W 0 (fun _ => true) true n 3 [u0] = some y0 := by have h0 : DataW.trod enc Try.prog W 0 (fun _ => true) true n 3 (([u0, u1, u2].drop 0).take (Try.prog.cellsOf 3)) = some y0 := hf 0 _ rfl; rw [cells3] at h0; exact h0
      have g1 : DataW.trod enc Try.prog W 0 (fun _ => true) true n 3 [u1] = some y1 := by have h1 : DataW.trod enc Try.prog W 0 (fun _ => true) true n 3 (([u0, u1, u2].drop 1).take (Try.prog.cellsOf 3)) = some y1 := hf 1 _ rfl; rw [cells3] at h1; exact h1
      have g2 : DataW.trod enc Try.prog W 0 (fun _ => true) true n 9 [u2] = some y2 := by have h2 : DataW.trod enc Try.prog W 0 (fun _ => true) true n 9 (([u0, u1, u2].drop 2).take (Try.prog.cellsOf 9)) = some y2 := hf 2 _ rfl; rw [cells9] at h2; exact h2
      obtain ⟨k, e0, _, w0⟩ := DataW.trod_int Try.underlying3 g0
      obtain ⟨m, e1, _, w1⟩ := DataW.trod_int Try.underlying3 g1
      obtain ⟨s, e2, d2, _⟩ := DataW.trod_string Try.underlying9 g2
      simp only [List.cons.injEq, and_true] at e0 e1 e2
      subst e0 e1 e2
      have hwt : ∀ z ∈ DataW.weightsEach Try.prog [3, 3, 9] [y0.1, y1.1, y2.1], z ≤ 140737488351232 := by
        intro z hz
        refine hw z ?_
        rw [hy]
        show z ∈ DataW.weights Try.prog 32 (.agg _)
        rw [DataW.weights, Try.underlying32]
        exact hz
      have b2 := hwt s.data.toList.length (DataW.weights_mem_each (j := 2) (t := 9) (d := y2.1) rfl rfl _ (by rw [d2]; simp [DataW.weights]))
      exact ⟨⟨k, m, s⟩, rfl, ⟨(wf64 w0).1, (wf64 w0).2, (wf64 w1).1, (wf64 w1).2⟩, b2⟩
set_option maxRecDepth 100000 in
set_option maxHeartbeats 1000000 in
/-- an act that came in -/
theorem open_act {fuel : Nat} {cs : List Value} {y : DataW H × List MemPlace} (h : DataW.trod enc Try.prog W 0 (fun _ => true) true fuel 34 cs = some y) (hw : ∀ z ∈ y.1.weights Try.prog 34, z ≤ 140737488351232) :
    ∃ x : NAct, cs = [.int .i64 x.kind, .int .i64 x.n, .int .i64 x.l.f, .int .i64 x.l.t, .string x.l.b] ∧ Okay x := by
  obtain ⟨xs, n, rfl, hy, hlen, hxl, hf⟩ := DataW.trod_struct Try.underlying34 h
  rw [cells34] at hlen
  match cs, hlen with
  | [u0, u1, u2, u3, u4], _ =>
    match xs, hxl with
    | [y0, y1, y2], _ =>
      have g0 : DataW.trod enc Try.prog W 0 (fun _ => true) true n 3 [u0] = some y0 := by have h0 : DataW.trod enc Try.prog W 0 (fun _ => true) true n 3 (([u0, u1, u2, u3, u4].drop 0).take (Try.prog.cellsOf 3)) = some y0 := hf 0 _ rfl; rw [cells3] at h0; exact h0
      have g1 : DataW.trod enc Try.prog W 0 (fun _ => true) true n 3 [u1] = some y1 := by have h1 : DataW.trod enc Try.prog W 0 (fun _ => true) true n 3 (([u0, u1, u2, u3, u4].drop 1).take (Try.prog.cellsOf 3)) = some y1 := hf 1 _ rfl; rw [cells3] at h1; exact h1
      have g2 : DataW.trod enc Try.prog W 0 (fun _ => true) true n 32 [u2, u3, u4] = some y2 := by have h2 : DataW.trod enc Try.prog W 0 (fun _ => true) true n 32 (([u0, u1, u2, u3, u4].drop 2).take (Try.prog.cellsOf 32)) = some y2 := hf 2 _ rfl; rw [cells32] at h2; exact h2
      have hwt : ∀ z ∈ DataW.weightsEach Try.prog [3, 3, 32] [y0.1, y1.1, y2.1], z ≤ 140737488351232 := by
        intro z hz
        refine hw z ?_
        rw [hy]
        show z ∈ DataW.weights Try.prog 34 (.agg _)
        rw [DataW.weights, Try.underlying34]
        exact hz
      obtain ⟨k, e0, _, w0⟩ := DataW.trod_int Try.underlying3 g0
      obtain ⟨m, e1, _, w1⟩ := DataW.trod_int Try.underlying3 g1
      obtain ⟨x, e2, hfx, hbx⟩ := open_let g2 (fun z hz => hwt z (DataW.weights_mem_each (j := 2) (t := 32) (d := y2.1) rfl rfl _ hz))
      simp only [List.cons.injEq, and_true] at e0 e1 e2
      obtain ⟨e2, e3, e4⟩ := e2
      subst e0 e1 e2 e3 e4
      exact ⟨⟨k, m, x⟩, rfl, ⟨(wf64 w0).1, (wf64 w0).2, (wf64 w1).1, (wf64 w1).2, hfx, hbx⟩⟩
theorem addr_add' (a : Addr) (i j : Nat) (h : a.spot = none) : (a.add i).add j = ⟨a.block, a.off + i + j, none⟩ := by
  obtain ⟨b, o, s⟩ := a
  subst h
  rw [addr_add, addr_add]
set_option maxRecDepth 100000 in
/-- a slice of acts that came in -/
theorem open_acts {fuel : Nat} {v : Value} {y : DataW H × List MemPlace} (h : DataW.trod enc Try.prog W 0 (fun _ => true) true fuel 22 [v] = some y) (hw : ∀ z ∈ y.1.weights Try.prog 22, z ≤ 140737488351232) : ∃ xs, ActsAt W v xs W.heap.size := by
  rcases open_slice Try.underlying22 h with ⟨hcs, hx⟩ | ⟨a, len, cap, m, n, D, Pl, hcs, _, hl, hm, hmm, hx, hi⟩
  · simp only [List.cons.injEq, and_true] at hcs
    exact ⟨[], none, 0, hcs, by simp, by omega, fun q => absurd rfl q⟩
  · simp only [List.cons.injEq, and_true] at hcs
    simp only [if_true] at hmm
    subst hmm
    rw [cells34] at hi
    have each : ∀ i, i < len → ∃ x : NAct, Okay x ∧ W.cell? ((a.add (i * 5)).add 0) = some (.int .i64 x.kind) ∧ W.cell? ((a.add (i * 5)).add 1) = some (.int .i64 x.n) ∧ W.cell? ((a.add (i * 5)).add 2) = some (.int .i64 x.l.f) ∧
        W.cell? ((a.add (i * 5)).add 3) = some (.int .i64 x.l.t) ∧ W.cell? ((a.add (i * 5)).add 4) = some (.string x.l.b) := by
      intro i hil
      obtain ⟨cs', hc, ht⟩ := hi i (by omega)
      obtain ⟨_, hcl, hat⟩ := World.cells?_some hc
      obtain ⟨x, rfl, hok⟩ := open_act ht (fun z hz => hw z (by
        rw [hx]
        show z ∈ DataW.weights Try.prog 22 (.slice _ _)
        rw [DataW.weights, Try.underlying22]
        refine List.mem_cons_of_mem _ (List.mem_append_left _ (weights_all (d := D i) ?_ z hz))
        exact List.mem_map.2 ⟨i, List.mem_range.2 hil, rfl⟩))
      have c0 := hat 0 (by omega)
      have c1 := hat 1 (by omega)
      have c2 := hat 2 (by omega)
      have c3 := hat 3 (by omega)
      have c4 := hat 4 (by omega)
      exact ⟨x, hok, by simpa using c0, by simpa using c1, by simpa using c2, by simpa using c3, by simpa using c4⟩
    obtain ⟨l, hll, hla⟩ := pick (fun _ => True) len _ each
    refine ⟨l, some a, m, by rw [hll]; exact hcs, by omega, by simp only [maxLen] at hm; omega, fun hne => ?_⟩
    obtain ⟨x0, hx0⟩ : ∃ x, l[0]? = some x := by
      cases l with
      | nil => exact absurd rfl hne
      | cons x r => exact ⟨x, rfl⟩
    obtain ⟨_, c0, _⟩ := hla 0 x0 hx0
    obtain ⟨b, off, spot⟩ := a
    have hspot : spot = none := by simpa [Addr.add] using World.cell?_spot c0
    subst hspot
    refine ⟨b, off, rfl, by have := World.block_lt_of_cell? W _ c0; rw [addr_add, addr_add] at this; exact this, fun i x hx => ?_⟩
    obtain ⟨hok, d0, d1, d2, d3, d4⟩ := hla i x hx
    rw [addr_add, addr_add] at d0 d1 d2 d3 d4
    exact ⟨d0, d1, d2, d3, d4, hok⟩
set_option maxRecDepth 100000 in
/-- a slice of letters that came in -/
theorem open_lets {fuel : Nat} {v : Value} {y : DataW H × List MemPlace} (h : DataW.trod enc Try.prog W 0 (fun _ => true) true fuel 27 [v] = some y) (hw : ∀ z ∈ y.1.weights Try.prog 27, z ≤ 140737488351232) : ∃ xs, LetsAt W v xs W.heap.size := by
  rcases open_slice Try.underlying27 h with ⟨hcs, hx⟩ | ⟨a, len, cap, m, n, D, Pl, hcs, _, hl, hm, hmm, hx, hi⟩
  · simp only [List.cons.injEq, and_true] at hcs
    exact ⟨[], none, 0, hcs, by simp, by omega, fun q => absurd rfl q⟩
  · simp only [List.cons.injEq, and_true] at hcs
    simp only [if_true] at hmm
    subst hmm
    rw [cells32] at hi
    have each : ∀ i, i < len → ∃ x : Let, Fit x ∧ W.cell? ((a.add (i * 3)).add 0) = some (.int .i64 x.f) ∧ W.cell? ((a.add (i * 3)).add 1) = some (.int .i64 x.t) ∧ W.cell? ((a.add (i * 3)).add 2) = some (.string x.b) := by
      intro i hil
      obtain ⟨cs', hc, ht⟩ := hi i (by omega)
      obtain ⟨_, hcl, hat⟩ := World.cells?_some hc
      obtain ⟨x, rfl, hok, _⟩ := open_let ht (fun z hz => hw z (by
        rw [hx]
        show z ∈ DataW.weights Try.prog 27 (.slice _ _)
        rw [DataW.weights, Try.underlying27]
        refine List.mem_cons_of_mem _ (List.mem_append_left _ (weights_all (d := D i) ?_ z hz))
        exact List.mem_map.2 ⟨i, List.mem_range.2 hil, rfl⟩))
      have c0 := hat 0 (by omega)
      have c1 := hat 1 (by omega)
      have c2 := hat 2 (by omega)
      exact ⟨x, hok, by simpa using c0, by simpa using c1, by simpa using c2⟩
    obtain ⟨l, hll, hla⟩ := pick (fun _ => True) len _ each
    refine ⟨l, some a, m, by rw [hll]; exact hcs, by omega, by simp only [maxLen] at hm; omega, fun hne => ?_⟩
    obtain ⟨x0, hx0⟩ : ∃ x, l[0]? = some x := by
      cases l with
      | nil => exact absurd rfl hne
      | cons x r => exact ⟨x, rfl⟩
    obtain ⟨_, c0, _⟩ := hla 0 x0 hx0
    obtain ⟨b, off, spot⟩ := a
    have hspot : spot = none := by simpa [Addr.add] using World.cell?_spot c0
    subst hspot
    refine ⟨b, off, rfl, by have := World.block_lt_of_cell? W _ c0; rw [addr_add, addr_add] at this; exact this, fun i x hx => ?_⟩
    obtain ⟨hok, d0, d1, d2⟩ := hla i x hx
    rw [addr_add, addr_add] at d0 d1 d2
    exact ⟨⟨d0, d1, d2⟩, hok⟩
end
end Go.Proofs.Ytipclhklkngamaa
