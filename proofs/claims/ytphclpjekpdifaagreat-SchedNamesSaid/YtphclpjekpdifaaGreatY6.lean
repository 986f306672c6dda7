import Derived.Test.YtphclpjekpdifaaGreatY5
import Derived.ProofKit
import Derived.ChangeOld
import Derived.OpenShut
import Derived.ShutString
import Derived.SizedLaws
import Derived.Deep.Slices
import Derived.Deep.Fields
import Derived.ChangeSame
import Derived.Laws.IdiomArrays
namespace Go.Proofs.YtphclpjekpdifaaGreat
set_option maxRecDepth 20000
open Go.RowKit
open PS (Tx putM dropM setM findM Nod Ten Jb kOf St Cm Rp byName row)
open Go.Proofs.YtphclpjekpdifaaGreat.Nm (str)
open Go.Proofs.YtphclpjekpdifaaGreat.Vc (RetBelow fitB I64)
set_option linter.unusedVariables false
def cmC (c : Cm) : List Value := [.int .i64 c.o, .string (str c.s), .string (str c.t), .int .i64 c.a, .int .i64 c.b, .int .i64 c.c, .int .i64 c.n]
def DC : CT Cm := ⟨cmC, 7, 33, 22, .agg #[.int .i64 0, .string ⟨#[]⟩, .string ⟨#[]⟩, .int .i64 0, .int .i64 0, .int .i64 0, .int .i64 0], 72, fun _ => rfl, fun x u h => by simp only [cmC, List.mem_cons, List.not_mem_nil, or_false] at h; rcases h with rfl | rfl | rfl | rfl | rfl | rfl | rfl <;> rfl, by omega, by omega, by rfl, by omega, by kernel_rfl, Tryz.underlying22⟩
structure CmX (c : Cm) : Prop where
  s : c.s.length ≤ 140737488351232
  t : c.t.length ≤ 140737488351232
  a : I64 c.a
  b : I64 c.b
  k : I64 c.c
  n : I64 c.n
theorem CmX.ok {c : Cm} (h : CmX c) : CmOk c := ⟨by have := h.s; omega, by have := h.t; omega, h.a, h.b, h.k⟩
theorem CmX.i {c : Cm} (h : CmX c) : CmI c := ⟨h.a, h.b, h.n, h.k⟩
theorem cm_at {w : World} {A : Option Addr} {L : List Cm} (h : Rws DC w w.heap.size A L) {j : Nat} {c : Cm} (hx : L[j]? = some c) : ∃ b off, A = some ⟨b, off, none⟩ ∧ ∀ X, Below w.heap.size w X → X.cell? ⟨b, off + j * 7, none⟩ = some (.int .i64 c.o) ∧ X.cell? ⟨b, off + j * 7 + 1, none⟩ = some (.string (str c.s)) ∧ X.cell? ⟨b, off + j * 7 + 2, none⟩ = some (.string (str c.t)) ∧
    X.cell? ⟨b, off + j * 7 + 3, none⟩ = some (.int .i64 c.a) ∧ X.cell? ⟨b, off + j * 7 + 4, none⟩ = some (.int .i64 c.b) ∧ X.cell? ⟨b, off + j * 7 + 5, none⟩ = some (.int .i64 c.c) ∧ X.cell? ⟨b, off + j * 7 + 6, none⟩ = some (.int .i64 c.n) := by
  obtain ⟨b, off, h1, h2, h3⟩ := h.at_ hx
  refine ⟨b, off, h1, fun X hX => ?_⟩
  have hh := fun q u hu => cellB (h3 q u hu) hX h2
  exact ⟨hh 0 _ rfl, hh 1 _ rfl, hh 2 _ rfl, hh 3 _ rfl, hh 4 _ rfl, hh 5 _ rfl, hh 6 _ rfl⟩
theorem eqR_self (o : Int) (s : ByteArray) (a b c n : Int) : Wi.eqR o s a b c n o s a b c n = true := Wi.eqR_iff.2 ⟨rfl, rfl, ⟨rfl, rfl, rfl⟩, rfl⟩
theorem eq35i (o : Int) (s : ByteArray) (a b c n : Int) (w : World) : (Op.equalIn 10000 30 (.agg #[.int .i64 o, .string s, .int .i64 a, .int .i64 b, .int .i64 c, .int .i64 n]) (.agg #[.int .i64 o, .string s, .int .i64 a, .int .i64 b, .int .i64 c, .int .i64 n])).run Tryz.prog w = .ok true w := by
  have := Wi.eq34 o s a b c n o s a b c n w
  unfold Wi.rV at this
  rw [this, eqR_self]
end Go.Proofs.YtphclpjekpdifaaGreat
namespace Go.Proofs.YtphclpjekpdifaaGreat
set_option maxRecDepth 20000
open Go.ChangeShapes Go.WideShapes Go.ChangeAt Go.RowKit Go.Deep
open Go.Proofs.YtphclpjekpdifaaGreat.Vc (I64)
open PS (Cm)
open Go.Proofs.YtphclpjekpdifaaGreat.Nm (str)
set_option linter.unusedVariables false
theorem cells2 : Tryz.prog.cellsOf 2 = 1 := by kernel_rfl
theorem cells3 : Tryz.prog.cellsOf 3 = 1 := by kernel_rfl
theorem cells9 : Tryz.prog.cellsOf 9 = 1 := by kernel_rfl
theorem cells33 : Tryz.prog.cellsOf 28 = 3 := by kernel_rfl
theorem cells38 : Tryz.prog.cellsOf 33 = 7 := by kernel_rfl
section
variable {H : Type} {enc : TypeId × Value → H} {W : World} {base : Nat}
theorem wf_of {z : Int} (h : (Lit.int .i64 z).wf = true) : I64 z := by
  simp only [Lit.wf, Bool.and_eq_true, decide_eq_true_eq] at h
  have e1 : IntKind.i64.min = -9223372036854775808 := by decide
  have e2 : IntKind.i64.max = 9223372036854775807 := by decide
  rw [e1, e2] at h
  exact h
theorem vec_cells {held : Bool} {sp : Nat → Bool} {b0 fuel : Nat} {cs : List Value} {y : DataW H × List MemPlace} (hl : cs.length = 3) (h : DataW.trod enc Tryz.prog W b0 sp held fuel 28 cs = some y) :
    ∃ x1 x2 x3 : Int, cs = [.int .i64 x1, .int .i64 x2, .int .i64 x3] ∧ y = (.agg [.lit (.int .i64 x1), .lit (.int .i64 x2), .lit (.int .i64 x3)], []) ∧ I64 x1 ∧ I64 x2 ∧ I64 x3 := by
  match cs, hl with
  | [c0, c1, c2], _ =>
    obtain ⟨y0, y1, y2, m, rfl, hy0, hy1, hy2⟩ := trod_array3 Tryz.underlying28 cells2 h
    obtain ⟨k0, e0, rfl, hw0⟩ := DataW.trod_int Tryz.underlying2 hy0
    obtain ⟨k1, e1, rfl, hw1⟩ := DataW.trod_int Tryz.underlying2 hy1
    obtain ⟨k2, e2, rfl, hw2⟩ := DataW.trod_int Tryz.underlying2 hy2
    simp at e0 e1 e2
    subst e0 e1 e2
    exact ⟨k0, k1, k2, rfl, rfl, wf_of hw0, wf_of hw1, wf_of hw2⟩
theorem pick (f : Nat → Prop) {α : Type} (n : Nat) (p : Nat → α → Prop) (h : ∀ i, i < n → ∃ a, p i a) : ∃ l : List α, l.length = n ∧ ∀ (i : Nat) (a : α), l[i]? = some a → p i a := by
  induction n with
  | zero => exact ⟨[], rfl, fun i a q => by simp at q⟩
  | succ n ih =>
    obtain ⟨l, h1, h2⟩ := ih fun i hi => h i (by omega)
    obtain ⟨a, ha⟩ := h n (by omega)
    refine ⟨l ++ [a], by simp [h1], fun i x hx => ?_⟩
    by_cases hi : i < l.length
    · rw [List.getElem?_append_left hi] at hx
      exact h2 i x hx
    · rw [List.getElem?_append_right (by omega)] at hx
      have : i - l.length = 0 := by
        have := (List.getElem?_eq_some_iff.1 hx).1
        simp at this; omega
      rw [this] at hx
      have e : i = n := by omega
      have hx : a = x := by simpa using hx
      rw [e, ← hx]; exact ha
theorem weights_all {P : Program} {e : TypeId} {ds : List (DataW H)} {d : DataW H} (h : d ∈ ds) : ∀ n ∈ d.weights P e, n ∈ DataW.weightsAll P e ds := by
  induction ds with
  | nil => cases h
  | cons x r ih =>
    intro n hn
    rw [DataW.weightsAll, List.mem_append]
    rcases List.mem_cons.1 h with rfl | h
    · exact .inl hn
    · exact .inr (ih h n hn)
set_option maxRecDepth 100000 in
set_option maxHeartbeats 1000000 in
theorem open_cmd {fuel : Nat} {cs : List Value} {y : DataW H × List MemPlace} (h : DataW.trod enc Tryz.prog W 0 (fun _ => true) true fuel 33 cs = some y) (hw : ∀ z ∈ y.1.weights Tryz.prog 33, z ≤ 140737488351232) :
    ∃ x : Cm, cs = cmC x ∧ CmX x := by
  obtain ⟨xs, n, rfl, hy, hlen, hxl, hf⟩ := DataW.trod_struct Tryz.underlying33 h
  rw [cells38] at hlen
  match cs, hlen with
  | [u0, u1, u2, u3, u4, u5, u6], _ =>
    match xs, hxl with
    | [y0, y1, y2, y3, y4], _ =>
      have g0 : DataW.trod enc Tryz.prog W 0 (fun _ => true) true n 3 [u0] = some y0 := by have q : DataW.trod enc Tryz.prog W 0 (fun _ => true) true n 3 (([u0, u1, u2, u3, u4, u5, u6].drop 0).take (Tryz.prog.cellsOf 3)) = some y0 := hf 0 _ rfl; rw [cells3] at q; exact q
      obtain ⟨k0, e0, _, w0⟩ := DataW.trod_int Tryz.underlying3 g0
      have g1 : DataW.trod enc Tryz.prog W 0 (fun _ => true) true n 9 [u1] = some y1 := by have q : DataW.trod enc Tryz.prog W 0 (fun _ => true) true n 9 (([u0, u1, u2, u3, u4, u5, u6].drop 1).take (Tryz.prog.cellsOf 9)) = some y1 := hf 1 _ rfl; rw [cells9] at q; exact q
      obtain ⟨k1, e1, d1, _⟩ := DataW.trod_string Tryz.underlying9 g1
      have g2 : DataW.trod enc Tryz.prog W 0 (fun _ => true) true n 9 [u2] = some y2 := by have q : DataW.trod enc Tryz.prog W 0 (fun _ => true) true n 9 (([u0, u1, u2, u3, u4, u5, u6].drop 2).take (Tryz.prog.cellsOf 9)) = some y2 := hf 2 _ rfl; rw [cells9] at q; exact q
      obtain ⟨k2, e2, d2, _⟩ := DataW.trod_string Tryz.underlying9 g2
      have g3 : DataW.trod enc Tryz.prog W 0 (fun _ => true) true n 28 [u3, u4, u5] = some y3 := by have q : DataW.trod enc Tryz.prog W 0 (fun _ => true) true n 28 (([u0, u1, u2, u3, u4, u5, u6].drop 3).take (Tryz.prog.cellsOf 28)) = some y3 := hf 3 _ rfl; rw [cells33] at q; exact q
      obtain ⟨x1, x2, x3, e3, _, v1, v2, v3⟩ := vec_cells rfl g3
      have g4 : DataW.trod enc Tryz.prog W 0 (fun _ => true) true n 2 [u6] = some y4 := by have q : DataW.trod enc Tryz.prog W 0 (fun _ => true) true n 2 (([u0, u1, u2, u3, u4, u5, u6].drop 6).take (Tryz.prog.cellsOf 2)) = some y4 := hf 4 _ rfl; rw [cells2] at q; exact q
      obtain ⟨k4, e4, _, w4⟩ := DataW.trod_int Tryz.underlying2 g4
      simp only [List.cons.injEq, and_true] at e0 e1 e2 e3 e4
      obtain ⟨e3a, e3b, e3c⟩ := e3
      subst e0 e1 e2 e3a e3b e3c e4
      have hwt : ∀ z ∈ DataW.weightsEach Tryz.prog [3, 9, 9, 28, 2] [y0.1, y1.1, y2.1, y3.1, y4.1], z ≤ 140737488351232 := by
        intro z hz
        refine hw z ?_
        rw [hy]
        show z ∈ DataW.weights Tryz.prog 33 (.agg _)
        rw [DataW.weights, Tryz.underlying33]
        exact hz
      have b1 := hwt k1.data.toList.length (DataW.weights_mem_each (j := 1) (t := 9) (d := y1.1) rfl rfl _ (by rw [d1]; simp [DataW.weights]))
      have b2 := hwt k2.data.toList.length (DataW.weights_mem_each (j := 2) (t := 9) (d := y2.1) rfl rfl _ (by rw [d2]; simp [DataW.weights]))
      exact ⟨⟨k0, k1.data.toList, k2.data.toList, x1, x2, x3, k4⟩, by unfold cmC; rw [Nm.str_list, Nm.str_list], ⟨b1, b2, v1, v2, v3, wf_of w4⟩⟩
theorem addr_add (b o i : Nat) : (⟨b, o, none⟩ : Addr).add i = ⟨b, o + i, none⟩ := by
  unfold Addr.add
  split
  · subst i; rfl
  · rfl
set_option maxRecDepth 100000 in
theorem cmds_arg {v : Value} {d : DataW H} {p : List MemPlace} (hv : Value.okWide Tryz.prog W .any base 22 v) (h0 : DataW.Trod enc Tryz.prog W 0 (fun _ => true) true 22 v d p) (hw : ∀ z ∈ d.weights Tryz.prog 22, z ≤ 140737488351232) :
    ∃ (A : Option Addr) (L : List Cm) (N c : Nat), v = .slice A N c ∧ L.length = N ∧ Rws DC W W.heap.size A L ∧ (∀ n ∈ L, CmX n) := by
  obtain ⟨A, N, c, rfl⟩ := okWide_slice Tryz.underlying22 hv
  obtain ⟨fuel, h⟩ := h0
  have h : DataW.trod enc Tryz.prog W 0 (fun _ => true) true fuel 22 [.slice A N c] = some (d, p) := h
  rcases open_slice Tryz.underlying22 h with ⟨hcs, hx⟩ | ⟨a, len, cap, m, n, D, Pl, hcs, _, hl, hm, hmm, hx, hi⟩
  · simp only [List.cons.injEq, and_true, Value.slice.injEq] at hcs
    obtain ⟨rfl, rfl, rfl⟩ := hcs
    exact ⟨none, [], 0, 0, rfl, rfl, fun q => absurd rfl q, fun n hn => (by cases hn)⟩
  · simp only [List.cons.injEq, and_true, Value.slice.injEq] at hcs
    simp only [if_true] at hmm
    subst hmm
    rw [cells38] at hi
    have each : ∀ i, i < len → ∃ x : Cm, CmX x ∧ ∀ q u, (cmC x)[q]? = some u → W.cell? ((a.add (i * 7)).add q) = some u := by
      intro i hil
      obtain ⟨cs', hc, ht⟩ := hi i (by omega)
      obtain ⟨_, hcl, hat⟩ := World.cells?_some hc
      obtain ⟨x, rfl, hok⟩ := open_cmd ht (fun z hz => hw z (by
        simp only [Prod.mk.injEq] at hx
        rw [hx.1]
        show z ∈ DataW.weights Tryz.prog 22 (.slice _ _)
        rw [DataW.weights, Tryz.underlying22]
        refine List.mem_cons_of_mem _ (List.mem_append_left _ (weights_all (d := D i) ?_ z hz))
        exact List.mem_map.2 ⟨i, List.mem_range.2 hil, rfl⟩))
      have c0 := hat 0 (by omega)
      have c1 := hat 1 (by omega)
      have c2 := hat 2 (by omega)
      have c3 := hat 3 (by omega)
      have c4 := hat 4 (by omega)
      have c5 := hat 5 (by omega)
      have c6 := hat 6 (by omega)
      refine ⟨x, hok, fun q u hu => ?_⟩
      match q, hu with
      | 0, hu => exact c0.trans hu
      | 1, hu => exact c1.trans hu
      | 2, hu => exact c2.trans hu
      | 3, hu => exact c3.trans hu
      | 4, hu => exact c4.trans hu
      | 5, hu => exact c5.trans hu
      | 6, hu => exact c6.trans hu
      | q + 7, hu => simp [cmC] at hu
    obtain ⟨l, hll, hla⟩ := pick (fun _ => True) len _ each
    obtain ⟨rfl, rfl, rfl⟩ := hcs
    refine ⟨some a, l, _, _, rfl, hll, fun hne => ?_, fun n hn => ?_⟩
    · obtain ⟨x0, hx0⟩ : ∃ x, l[0]? = some x := by
        cases l with
        | nil => exact absurd rfl hne
        | cons x r => exact ⟨x, rfl⟩
      obtain ⟨_, hc0⟩ := hla 0 x0 hx0
      have c0 := hc0 0 _ rfl
      obtain ⟨b, off, spot⟩ := a
      have hspot : spot = none := by simpa [Addr.add] using World.cell?_spot c0
      subst hspot
      refine ⟨b, off, rfl, by have := World.block_lt_of_cell? W _ c0; rw [addr_add, addr_add] at this; exact this, fun i x hx q u hu => ?_⟩
      obtain ⟨hok, hd⟩ := hla i x hx
      have := hd q u hu
      rw [addr_add, addr_add] at this
      exact this
    · obtain ⟨i, hi', rfl⟩ := List.getElem_of_mem hn
      exact (hla i _ (List.getElem?_eq_getElem hi')).1
end
end Go.Proofs.YtphclpjekpdifaaGreat
