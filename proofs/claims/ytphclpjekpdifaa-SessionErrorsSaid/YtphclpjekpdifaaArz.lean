import Derived.Test.YtphclpjekpdifaaAw
import Derived.ProofKit
import Derived.ChangeOld
import Derived.OpenShut
import Derived.ShutString
import Derived.SizedLaws
import Derived.Deep.Slices
import Derived.Deep.Fields
import Derived.ChangeSame
import Derived.Laws.IdiomArrays
namespace Go.Proofs.Ytphclpjekpdifaa
set_option maxRecDepth 20000
open Go.ChangeShapes Go.WideShapes Go.ChangeAt Go.RowKit Go.Deep
open SP (I64 Rp RpI)
set_option linter.unusedVariables false
/-! ### arguments that came in -/
def actC (x : SP.Act) : List Value := [.int .i64 x.k, .int .i64 x.id, .int .i64 x.q, .int .i64 x.n, .int .i64 x.r.e, .string x.r.s, .int .i64 x.r.a, .int .i64 x.r.b, .int .i64 x.r.c, .int .i64 x.r.n]
def DA : CT SP.Act := ⟨actC, 10, 33, 22, .agg #[.int .i64 0, .int .i64 0, .int .i64 0, .int .i64 0, .int .i64 0, .string ⟨#[]⟩, .int .i64 0, .int .i64 0, .int .i64 0, .int .i64 0], 88, fun _ => rfl, fun x u h => by simp only [actC, List.mem_cons, List.not_mem_nil, or_false] at h; rcases h with rfl | rfl | rfl | rfl | rfl | rfl | rfl | rfl | rfl | rfl <;> rfl, by omega, by omega, by rfl, by omega, by kernel_rfl, Try.underlying22⟩
structure ActX (x : SP.Act) : Prop where
  r : RpI x.r
  e : I64 x.r.e
theorem act_at {w : World} {A : Option Addr} {L : List SP.Act} (h : Rws DA w w.heap.size A L) {j : Nat} {x : SP.Act} (hx : L[j]? = some x) : ∃ b off, A = some ⟨b, off, none⟩ ∧ ∀ X, Below w.heap.size w X → X.cell? ⟨b, off + j * 10, none⟩ = some (.int .i64 x.k) ∧ X.cell? ⟨b, off + j * 10 + 1, none⟩ = some (.int .i64 x.id) ∧ X.cell? ⟨b, off + j * 10 + 2, none⟩ = some (.int .i64 x.q) ∧ X.cell? ⟨b, off + j * 10 + 3, none⟩ = some (.int .i64 x.n) ∧
    X.cell? ⟨b, off + j * 10 + 4, none⟩ = some (.int .i64 x.r.e) ∧ X.cell? ⟨b, off + j * 10 + 5, none⟩ = some (.string x.r.s) ∧ X.cell? ⟨b, off + j * 10 + 6, none⟩ = some (.int .i64 x.r.a) ∧ X.cell? ⟨b, off + j * 10 + 7, none⟩ = some (.int .i64 x.r.b) ∧ X.cell? ⟨b, off + j * 10 + 8, none⟩ = some (.int .i64 x.r.c) ∧ X.cell? ⟨b, off + j * 10 + 9, none⟩ = some (.int .i64 x.r.n) := by
  obtain ⟨b, off, h1, h2, h3⟩ := h.at_ hx
  refine ⟨b, off, h1, fun X hX => ?_⟩
  have hh := fun q u hu => cellB (h3 q u hu) hX h2
  exact ⟨hh 0 _ rfl, hh 1 _ rfl, hh 2 _ rfl, hh 3 _ rfl, hh 4 _ rfl, hh 5 _ rfl, hh 6 _ rfl, hh 7 _ rfl, hh 8 _ rfl, hh 9 _ rfl⟩
theorem cells2 : Try.prog.cellsOf 2 = 1 := by kernel_rfl
theorem cells3 : Try.prog.cellsOf 3 = 1 := by kernel_rfl
theorem cells5 : Try.prog.cellsOf 5 = 1 := by kernel_rfl
theorem cells9 : Try.prog.cellsOf 9 = 1 := by kernel_rfl
theorem cells30 : Try.prog.cellsOf 23 = 1 := by kernel_rfl
theorem cells36 : Try.prog.cellsOf 25 = 3 := by kernel_rfl
theorem cells38 : Try.prog.cellsOf 27 = 6 := by kernel_rfl
theorem cells40 : Try.prog.cellsOf 33 = 10 := by kernel_rfl
section
variable {H : Type} {enc : TypeId × Value → H} {W : World} {base : Nat}
theorem wf_of {z : Int} (h : (Lit.int .i64 z).wf = true) : I64 z := by
  simp only [Lit.wf, Bool.and_eq_true, decide_eq_true_eq] at h
  have e1 : IntKind.i64.min = -9223372036854775808 := by decide
  have e2 : IntKind.i64.max = 9223372036854775807 := by decide
  rw [e1, e2] at h
  exact h
/-- the three cells of a Vec -/
theorem vec_cells {held : Bool} {sp : Nat → Bool} {b0 fuel : Nat} {cs : List Value} {y : DataW H × List MemPlace} (hl : cs.length = 3) (h : DataW.trod enc Try.prog W b0 sp held fuel 25 cs = some y) :
    ∃ x1 x2 x3 : Int, cs = [.int .i64 x1, .int .i64 x2, .int .i64 x3] ∧ I64 x1 ∧ I64 x2 ∧ I64 x3 := by
  match cs, hl with
  | [c0, c1, c2], _ =>
    obtain ⟨y0, y1, y2, m, rfl, hy0, hy1, hy2⟩ := trod_array3 Try.underlying25 cells2 h
    obtain ⟨k0, e0, rfl, hw0⟩ := DataW.trod_int Try.underlying2 hy0
    obtain ⟨k1, e1, rfl, hw1⟩ := DataW.trod_int Try.underlying2 hy1
    obtain ⟨k2, e2, rfl, hw2⟩ := DataW.trod_int Try.underlying2 hy2
    simp at e0 e1 e2
    subst e0 e1 e2
    exact ⟨k0, k1, k2, rfl, wf_of hw0, wf_of hw1, wf_of hw2⟩
def rpC (r : Rp) : List Value := [.int .i64 r.e, .string r.s, .int .i64 r.a, .int .i64 r.b, .int .i64 r.c, .int .i64 r.n]
set_option maxRecDepth 100000 in
set_option maxHeartbeats 1000000 in
/-- a reply that came in -/
theorem open_rep {fuel : Nat} {cs : List Value} {y : DataW H × List MemPlace} (h : DataW.trod enc Try.prog W 0 (fun _ => true) true fuel 27 cs = some y) : ∃ r : Rp, cs = rpC r ∧ RpI r ∧ I64 r.e := by
  obtain ⟨xs, n, rfl, hy, hlen, hxl, hf⟩ := DataW.trod_struct Try.underlying27 h
  rw [cells38] at hlen
  match cs, hlen with
  | [u0, u1, u2, u3, u4, u5], _ =>
    match xs, hxl with
    | [y0, y1, y2, y3], _ =>
      have g0 : DataW.trod enc Try.prog W 0 (fun _ => true) true n 23 [u0] = some y0 := by have q : DataW.trod enc Try.prog W 0 (fun _ => true) true n 23 (([u0, u1, u2, u3, u4, u5].drop 0).take (Try.prog.cellsOf 23)) = some y0 := hf 0 _ rfl; rw [cells30] at q; exact q
      obtain ⟨k0, e0, _, w0⟩ := DataW.trod_int Try.underlying23 g0
      have g1 : DataW.trod enc Try.prog W 0 (fun _ => true) true n 9 [u1] = some y1 := by have q : DataW.trod enc Try.prog W 0 (fun _ => true) true n 9 (([u0, u1, u2, u3, u4, u5].drop 1).take (Try.prog.cellsOf 9)) = some y1 := hf 1 _ rfl; rw [cells9] at q; exact q
      obtain ⟨k1, e1, d1, _⟩ := DataW.trod_string Try.underlying9 g1
      have g2 : DataW.trod enc Try.prog W 0 (fun _ => true) true n 25 [u2, u3, u4] = some y2 := by have q : DataW.trod enc Try.prog W 0 (fun _ => true) true n 25 (([u0, u1, u2, u3, u4, u5].drop 2).take (Try.prog.cellsOf 25)) = some y2 := hf 2 _ rfl; rw [cells36] at q; exact q
      obtain ⟨x1, x2, x3, e2, v1, v2, v3⟩ := vec_cells rfl g2
      have g3 : DataW.trod enc Try.prog W 0 (fun _ => true) true n 2 [u5] = some y3 := by have q : DataW.trod enc Try.prog W 0 (fun _ => true) true n 2 (([u0, u1, u2, u3, u4, u5].drop 5).take (Try.prog.cellsOf 2)) = some y3 := hf 3 _ rfl; rw [cells2] at q; exact q
      obtain ⟨k3, e3, _, w3⟩ := DataW.trod_int Try.underlying2 g3
      simp only [List.cons.injEq, and_true] at e0 e1 e2 e3
      obtain ⟨e2a, e2b, e2c⟩ := e2
      subst e0 e1 e2a e2b e2c e3
      exact ⟨⟨k0, k1, x1, x2, x3, k3⟩, rfl, ⟨v1, v2, v3, wf_of w3⟩, wf_of w0⟩
/-- an argument that is a reply -/
theorem rep_arg {v : Value} {d : DataW H} {p : List MemPlace} (hv : Value.okWide Try.prog W .any base 27 v) (h : DataW.Trod enc Try.prog W 0 (fun _ => true) true 27 v d p) : ∃ r : Rp, v = rpV r ∧ RpI r ∧ I64 r.e := by
  obtain ⟨cs, rfl, hsz⟩ := okWide_struct Try.underlying27 hv
  obtain ⟨fuel, hf⟩ := h
  obtain ⟨l⟩ := cs
  obtain ⟨r, hr, h1, h2⟩ := open_rep (cs := l) hf
  exact ⟨r, by rw [hr]; rfl, h1, h2⟩
theorem pick (f : Nat → Prop) {α : Type} (n : Nat) (p : Nat → α → Prop) (h : ∀ i, i < n → ∃ a, p i a) : ∃ l : List α, l.length = n ∧ ∀ (i : Nat) (a : α), l[i]? = some a → p i a := by
  induction n with
  | zero => exact ⟨[], rfl, fun i a q => by simp at q⟩
  | succ n ih =>
    obtain ⟨l, h1, h2⟩ := ih fun i hi => h i (by omega)
    obtain ⟨a, ha⟩ := h n (by omega)
    refine ⟨l ++ [a], by simp [h1], fun i x hx => ?_⟩
    by_cases hi : i < l.length
    · rw [List.getElem?_append_left hi] at hx
      exact h2 i x hx
    · rw [List.getElem?_append_right (by omega)] at hx
      have : i - l.length = 0 := by
        have := (List.getElem?_eq_some_iff.1 hx).1
        simp at this; omega
      rw [this] at hx
      have e : i = n := by omega
      have hx : a = x := by simpa using hx
      rw [e, ← hx]; exact ha
set_option maxRecDepth 100000 in
set_option maxHeartbeats 1000000 in
/-- an act that came in -/
theorem open_act {fuel : Nat} {cs : List Value} {y : DataW H × List MemPlace} (h : DataW.trod enc Try.prog W 0 (fun _ => true) true fuel 33 cs = some y) : ∃ x : SP.Act, cs = actC x ∧ ActX x := by
  obtain ⟨xs, n, rfl, hy, hlen, hxl, hf⟩ := DataW.trod_struct Try.underlying33 h
  rw [cells40] at hlen
  match cs, hlen with
  | [u0, u1, u2, u3, u4, u5, u6, u7, u8, u9], _ =>
    match xs, hxl with
    | [y0, y1, y2, y3, y4], _ =>
      have g0 : DataW.trod enc Try.prog W 0 (fun _ => true) true n 3 [u0] = some y0 := by have q : DataW.trod enc Try.prog W 0 (fun _ => true) true n 3 (([u0, u1, u2, u3, u4, u5, u6, u7, u8, u9].drop 0).take (Try.prog.cellsOf 3)) = some y0 := hf 0 _ rfl; rw [cells3] at q; exact q
      obtain ⟨k0, e0, _, w0⟩ := DataW.trod_int Try.underlying3 g0
      have g1 : DataW.trod enc Try.prog W 0 (fun _ => true) true n 2 [u1] = some y1 := by have q : DataW.trod enc Try.prog W 0 (fun _ => true) true n 2 (([u0, u1, u2, u3, u4, u5, u6, u7, u8, u9].drop 1).take (Try.prog.cellsOf 2)) = some y1 := hf 1 _ rfl; rw [cells2] at q; exact q
      obtain ⟨k1, e1, _, w1⟩ := DataW.trod_int Try.underlying2 g1
      have g2 : DataW.trod enc Try.prog W 0 (fun _ => true) true n 2 [u2] = some y2 := by have q : DataW.trod enc Try.prog W 0 (fun _ => true) true n 2 (([u0, u1, u2, u3, u4, u5, u6, u7, u8, u9].drop 2).take (Try.prog.cellsOf 2)) = some y2 := hf 2 _ rfl; rw [cells2] at q; exact q
      obtain ⟨k2, e2, _, w2⟩ := DataW.trod_int Try.underlying2 g2
      have g3 : DataW.trod enc Try.prog W 0 (fun _ => true) true n 2 [u3] = some y3 := by have q : DataW.trod enc Try.prog W 0 (fun _ => true) true n 2 (([u0, u1, u2, u3, u4, u5, u6, u7, u8, u9].drop 3).take (Try.prog.cellsOf 2)) = some y3 := hf 3 _ rfl; rw [cells2] at q; exact q
      obtain ⟨k3, e3, _, w3⟩ := DataW.trod_int Try.underlying2 g3
      have g4 : DataW.trod enc Try.prog W 0 (fun _ => true) true n 27 [u4, u5, u6, u7, u8, u9] = some y4 := by have q : DataW.trod enc Try.prog W 0 (fun _ => true) true n 27 (([u0, u1, u2, u3, u4, u5, u6, u7, u8, u9].drop 4).take (Try.prog.cellsOf 27)) = some y4 := hf 4 _ rfl; rw [cells38] at q; exact q
      obtain ⟨r, e4, r1, r2⟩ := open_rep g4
      simp only [List.cons.injEq, and_true] at e0 e1 e2 e3
      unfold rpC at e4
      simp only [List.cons.injEq, and_true] at e4
      obtain ⟨f0, f1, f2, f3, f4, f5⟩ := e4
      subst e0 e1 e2 e3 f0 f1 f2 f3 f4 f5
      exact ⟨⟨k0, k1, k2, k3, r⟩, rfl, ⟨r1, r2⟩⟩
theorem addr_add (b o i : Nat) : (⟨b, o, none⟩ : Addr).add i = ⟨b, o + i, none⟩ := by
  unfold Addr.add
  split
  · subst i; rfl
  · rfl
set_option maxRecDepth 100000 in
/-- an argument that is a slice of acts -/
theorem acts_arg {v : Value} {d : DataW H} {p : List MemPlace} (hv : Value.okWide Try.prog W .any base 22 v) (h0 : DataW.Trod enc Try.prog W 0 (fun _ => true) true 22 v d p) :
    ∃ (A : Option Addr) (L : List SP.Act) (N c : Nat), v = .slice A N c ∧ L.length = N ∧ Rws DA W W.heap.size A L ∧ (∀ x ∈ L, ActX x) := by
  obtain ⟨A, N, c, rfl⟩ := okWide_slice Try.underlying22 hv
  obtain ⟨fuel, h⟩ := h0
  have h : DataW.trod enc Try.prog W 0 (fun _ => true) true fuel 22 [.slice A N c] = some (d, p) := h
  rcases open_slice Try.underlying22 h with ⟨hcs, hx⟩ | ⟨a, len, cap, m, n, D, Pl, hcs, _, hl, hm, hmm, hx, hi⟩
  · simp only [List.cons.injEq, and_true, Value.slice.injEq] at hcs
    obtain ⟨rfl, rfl, rfl⟩ := hcs
    exact ⟨none, [], 0, 0, rfl, rfl, fun q => absurd rfl q, fun n hn => (by cases hn)⟩
  · simp only [List.cons.injEq, and_true, Value.slice.injEq] at hcs
    simp only [if_true] at hmm
    subst hmm
    rw [cells40] at hi
    have each : ∀ i, i < len → ∃ x : SP.Act, ActX x ∧ ∀ q u, (actC x)[q]? = some u → W.cell? ((a.add (i * 10)).add q) = some u := by
      intro i hil
      obtain ⟨cs', hc, ht⟩ := hi i (by omega)
      obtain ⟨_, hcl, hat⟩ := World.cells?_some hc
      obtain ⟨x, rfl, hok⟩ := open_act ht
      have c0 := hat 0 (by omega)
      have c1 := hat 1 (by omega)
      have c2 := hat 2 (by omega)
      have c3 := hat 3 (by omega)
      have c4 := hat 4 (by omega)
      have c5 := hat 5 (by omega)
      have c6 := hat 6 (by omega)
      have c7 := hat 7 (by omega)
      have c8 := hat 8 (by omega)
      have c9 := hat 9 (by omega)
      refine ⟨x, hok, fun q u hu => ?_⟩
      match q, hu with
      | 0, hu => exact c0.trans hu
      | 1, hu => exact c1.trans hu
      | 2, hu => exact c2.trans hu
      | 3, hu => exact c3.trans hu
      | 4, hu => exact c4.trans hu
      | 5, hu => exact c5.trans hu
      | 6, hu => exact c6.trans hu
      | 7, hu => exact c7.trans hu
      | 8, hu => exact c8.trans hu
      | 9, hu => exact c9.trans hu
      | q + 10, hu => simp [actC] at hu
    obtain ⟨l, hll, hla⟩ := pick (fun _ => True) len _ each
    obtain ⟨rfl, rfl, rfl⟩ := hcs
    refine ⟨some a, l, _, _, rfl, hll, fun hne => ?_, fun n hn => ?_⟩
    · obtain ⟨x0, hx0⟩ : ∃ x, l[0]? = some x := by
        cases l with
        | nil => exact absurd rfl hne
        | cons x r => exact ⟨x, rfl⟩
      obtain ⟨_, hc0⟩ := hla 0 x0 hx0
      have c0 := hc0 0 _ rfl
      obtain ⟨b, off, spot⟩ := a
      have hspot : spot = none := by simpa [Addr.add] using World.cell?_spot c0
      subst hspot
      refine ⟨b, off, rfl, by have := World.block_lt_of_cell? W _ c0; rw [addr_add, addr_add] at this; exact this, fun i x hx q u hu => ?_⟩
      obtain ⟨hok, hd⟩ := hla i x hx
      have := hd q u hu
      rw [addr_add, addr_add] at this
      exact this
    · obtain ⟨i, hi', rfl⟩ := List.getElem_of_mem hn
      exact (hla i _ (List.getElem?_eq_getElem hi')).1
end
end Go.Proofs.Ytphclpjekpdifaa
namespace Go.Proofs.Ytphclpjekpdifaa
open Go.ChangeShapes Go.WideShapes Go.ChangeAt Go.RowKit Go.Deep
open SP
set_option linter.unusedVariables false
section
variable {H : Type} {enc : TypeId × Value → H} {W : World} {base : Nat}
theorem zcells2 : Try.prog.cellsOf 2 = 1 := by kernel_rfl
theorem zcells9 : Try.prog.cellsOf 9 = 1 := by kernel_rfl
theorem zcells23 : Try.prog.cellsOf 23 = 1 := by kernel_rfl
theorem zcells25 : Try.prog.cellsOf 25 = 3 := by kernel_rfl
theorem zcells27 : Try.prog.cellsOf 27 = 6 := by kernel_rfl
set_option maxRecDepth 100000 in
set_option maxHeartbeats 1000000 in
theorem rep_argz {v : Value} {d : DataW H} {p : List MemPlace} (hv : Value.okWide Try.prog W .any base 27 v) (h0 : DataW.Trod enc Try.prog W 0 (fun _ => true) true 27 v d p) (hw : ∀ z ∈ d.weights Try.prog 27, z ≤ 140737488351232) :
    ∃ r : Rp, v = rpV r ∧ RpI r ∧ I64 r.e ∧ r.s.size ≤ 281474976710656 := by
  obtain ⟨cs, rfl, hsz⟩ := okWide_struct Try.underlying27 hv
  obtain ⟨fuel, h⟩ := h0
  obtain ⟨l⟩ := cs
  obtain ⟨xs, n, hq, hy, hlen, hxl, hf⟩ := DataW.trod_struct Try.underlying27 h
  simp only [Value.cells, Prod.mk.injEq] at hq hy hlen hf
  rw [zcells27] at hlen
  match l, hlen with
  | [u0, u1, u2, u3, u4, u5], _ =>
    match xs, hxl with
    | [y0, y1, y2, y3], _ =>
      have g0 : DataW.trod enc Try.prog W 0 (fun _ => true) true n 23 [u0] = some y0 := by have q : DataW.trod enc Try.prog W 0 (fun _ => true) true n 23 (([u0, u1, u2, u3, u4, u5].drop 0).take (Try.prog.cellsOf 23)) = some y0 := hf 0 _ rfl; rw [zcells23] at q; exact q
      obtain ⟨k0, e0, _, w0⟩ := DataW.trod_int Try.underlying23 g0
      have g1 : DataW.trod enc Try.prog W 0 (fun _ => true) true n 9 [u1] = some y1 := by have q : DataW.trod enc Try.prog W 0 (fun _ => true) true n 9 (([u0, u1, u2, u3, u4, u5].drop 1).take (Try.prog.cellsOf 9)) = some y1 := hf 1 _ rfl; rw [zcells9] at q; exact q
      obtain ⟨k1, e1, d1, _⟩ := DataW.trod_string Try.underlying9 g1
      have g2 : DataW.trod enc Try.prog W 0 (fun _ => true) true n 25 [u2, u3, u4] = some y2 := by have q : DataW.trod enc Try.prog W 0 (fun _ => true) true n 25 (([u0, u1, u2, u3, u4, u5].drop 2).take (Try.prog.cellsOf 25)) = some y2 := hf 2 _ rfl; rw [zcells25] at q; exact q
      obtain ⟨x1, x2, x3, e2, v1, v2, v3⟩ := vec_cells rfl g2
      have g3 : DataW.trod enc Try.prog W 0 (fun _ => true) true n 2 [u5] = some y3 := by have q : DataW.trod enc Try.prog W 0 (fun _ => true) true n 2 (([u0, u1, u2, u3, u4, u5].drop 5).take (Try.prog.cellsOf 2)) = some y3 := hf 3 _ rfl; rw [zcells2] at q; exact q
      obtain ⟨k3, e3, _, w3⟩ := DataW.trod_int Try.underlying2 g3
      simp only [List.cons.injEq, and_true] at e0 e1 e2 e3
      obtain ⟨e2a, e2b, e2c⟩ := e2
      subst e0 e1 e2a e2b e2c e3
      have hwt : ∀ z ∈ DataW.weightsEach Try.prog [23, 9, 25, 2] [y0.1, y1.1, y2.1, y3.1], z ≤ 140737488351232 := by
        intro z hz
        refine hw z ?_
        rw [hy.1]
        show z ∈ DataW.weights Try.prog 27 (.agg _)
        rw [DataW.weights, Try.underlying27]
        exact hz
      have b1 := hwt k1.data.toList.length (DataW.weights_mem_each (j := 1) (t := 9) (d := y1.1) rfl rfl _ (by rw [d1]; simp [DataW.weights]))
      rw [Wi.Pl.size_data] at b1
      exact ⟨⟨k0, k1, x1, x2, x3, k3⟩, rfl, ⟨v1, v2, v3, wf_of w3⟩, wf_of w0, by show k1.size ≤ _; omega⟩
end
end Go.Proofs.Ytphclpjekpdifaa
