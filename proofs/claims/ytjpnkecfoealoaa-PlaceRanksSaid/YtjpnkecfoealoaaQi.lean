import Derived.Test.YtjpnkecfoealoaaQh
import Derived.Laws.AppendOwnNone
namespace Go.Proofs.Ytjpnkecfoealoaa
set_option maxRecDepth 20000
open Go.RowKit
set_option linter.unusedVariables false
/-- nodes as cells -/
def nC : List Nd → List Value
  | [] => []
  | n :: r => nodeC n ++ nC r
theorem nC_length : ∀ L : List Nd, (nC L).length = L.length * 8
  | [] => rfl
  | n :: r => by rw [nC, List.length_append, nC_length r, List.length_cons]; show 8 + _ = _; omega
theorem nC_append : ∀ a b : List Nd, nC (a ++ b) = nC a ++ nC b
  | [], b => rfl
  | n :: r, b => by rw [List.cons_append, nC, nC, nC_append r b, List.append_assoc]
theorem nodeC_one (n : Nd) : ∀ u ∈ nodeC n, u.oneCell' = true := by
  intro u hu
  simp only [nodeC, List.mem_cons, List.not_mem_nil, or_false] at hu
  rcases hu with rfl | rfl | rfl | rfl | rfl | rfl | rfl | rfl <;> rfl
theorem nC_oneCell : ∀ L : List Nd, ∀ u ∈ nC L, u.oneCell' = true
  | [], u, h => by cases h
  | n :: r, u, h => by
    rw [nC, List.mem_append] at h
    rcases h with h | h
    · exact nodeC_one n u h
    · exact nC_oneCell r u h
theorem nC_at : ∀ (L : List Nd) (j : Nat) (u : Value), (nC L)[j]? = some u → ∃ i q n, L[i]? = some n ∧ q < 8 ∧ j = i * 8 + q ∧ (nodeC n)[q]? = some u
  | [], j, u, h => by simp [nC] at h
  | n :: r, j, u, h => by
    rw [nC, List.getElem?_append] at h
    split at h
    · rename_i hj
      exact ⟨0, j, n, rfl, hj, by omega, h⟩
    · rename_i hj
      have h8 : (nodeC n).length = 8 := rfl
      rw [h8] at h hj
      obtain ⟨i, q, m, h1, h2, h3, h4⟩ := nC_at r _ u h
      exact ⟨i + 1, q, m, h1, h2, by omega, h4⟩
theorem nC_get : ∀ (L : List Nd) (i : Nat) (n : Nd), L[i]? = some n → ∀ q u, (nodeC n)[q]? = some u → (nC L)[i * 8 + q]? = some u
  | [], i, n, h => by simp at h
  | m :: r, 0, n, h => by
    intro q u hu
    obtain rfl : m = n := by simpa using h
    have hq : q < (nodeC m).length := (List.getElem?_eq_some_iff.1 hu).1
    rw [nC, Nat.zero_mul, Nat.zero_add, List.getElem?_append_left hq]
    exact hu
  | m :: r, i + 1, n, h => by
    intro q u hu
    have h8 : (nodeC m).length = 8 := rfl
    rw [nC, List.getElem?_append_right (by rw [h8]; omega), h8, show (i + 1) * 8 + q - 8 = i * 8 + q by omega]
    exact nC_get r i n (by simpa using h) q u hu
theorem NCo.of {W : World} {g o : Nat} {n : Nd} (h : ∀ q u, (nodeC n)[q]? = some u → W.cell? ⟨g, o + q, none⟩ = some u) : NCo W g o n :=
  ⟨by have := h 0 _ rfl; rwa [Nat.add_zero] at this, h 1 _ rfl, h 2 _ rfl, h 3 _ rfl, h 4 _ rfl, h 5 _ rfl, h 6 _ rfl, h 7 _ rfl⟩
theorem NCo.get {W : World} {g o : Nat} {n : Nd} (h : NCo W g o n) {q : Nat} {u : Value} (hu : (nodeC n)[q]? = some u) : W.cell? ⟨g, o + q, none⟩ = some u := by
  match q, hu with
  | 0, hu => rw [Nat.add_zero]; rw [h.c0]; exact hu
  | 1, hu => rw [h.c1]; exact hu
  | 2, hu => rw [h.c2]; exact hu
  | 3, hu => rw [h.c3]; exact hu
  | 4, hu => rw [h.c4]; exact hu
  | 5, hu => rw [h.c5]; exact hu
  | 6, hu => rw [h.c6]; exact hu
  | 7, hu => rw [h.c7]; exact hu
  | k + 8, hu => simp [nodeC] at hu
theorem info33 : (Try.prog.info? 33).map (fun i => (i.zero, i.size, i.bytes)) = some (some (.agg #[.string ⟨#[]⟩, .int .i64 0, .int .i64 0, .int .i64 0, .int .i64 0, .int .i64 0, .int .i64 0, .bool false]), 8, 72) := by kernel_rfl
def OwnN (w : World) (base : Nat) (v : Value) (L : List Nd) : Prop := w.ownsRow base 33 8 v L.length (nC L)
theorem OwnN.new (w : World) : OwnN (w.alloc (.cells #[] 33)) w.heap.size (.slice (some ⟨w.heap.size, 0, none⟩) 0 0) [] := World.ownsRow_made w #[] 0 (Nat.le_refl _) (by simp [maxLen]) (by simp)
theorem OwnN.mono {w : World} {base base' : Nat} {v : Value} {L : List Nd} (h : OwnN w base v L) (hb : base' ≤ base) : OwnN w base' v L := by
  refine ⟨h.1, ?_⟩
  rcases h.2 with hn | ⟨g, cap, cur, rfl, hg, r⟩
  · exact .inl hn
  · exact .inr ⟨g, cap, cur, rfl, by omega, r⟩
/-- a row of just one node -/
theorem OwnN.one (w : World) (n : Nd) : OwnN (w.alloc (.cells (nodeC n).toArray 33)) w.heap.size (.slice (some ⟨w.heap.size, 0, none⟩) 1 1) [n] := by
  unfold OwnN
  refine ⟨by simp [nC, nodeC], .inr ⟨w.heap.size, 1, _, rfl, Nat.le_refl _, heap_alloc_new w _, Nat.le_refl _, by simp [maxLen], by simp [nodeC], ?_⟩⟩
  simp [nC, nodeC]
theorem OwnN.below {w w' : World} {base : Nat} {v : Value} {L : List Nd} (h : OwnN w base v L) (hb : Below w.heap.size w w') : OwnN w' base v L := by
  refine ⟨h.1, ?_⟩
  rcases h.2 with hn | ⟨g, cap, cur, rfl, hg, hgg, r⟩
  · exact .inl hn
  · exact .inr ⟨g, cap, cur, rfl, hg, by rw [hb.block g (Array.getElem?_eq_some_iff.1 hgg).1]; exact hgg, r⟩
theorem OwnN.form {w : World} {base : Nat} {v : Value} {L : List Nd} (h : OwnN w base v L) : ∃ A cap, v = .slice A L.length cap ∧ NodesAt w w.heap.size A L ∧ L.length ≤ cap ∧ cap ≤ 9223372036854775807 ∧ (A = none → cap = 0) := by
  have h0 := h
  rcases h.2 with ⟨rfl, hn⟩ | ⟨g, cap, cur, rfl, hb, hh, hc, hm, _⟩
  · have : L = [] := List.eq_nil_of_length_eq_zero hn
    subst this
    exact ⟨none, 0, rfl, fun h => absurd rfl h, by simp, by omega, fun _ => rfl⟩
  · refine ⟨some ⟨g, 0, none⟩, cap, rfl, fun hne => ⟨g, 0, rfl, (Array.getElem?_eq_some_iff.1 hh).1, fun j n hn => NCo.of fun q u hu => ?_⟩, hc, by simp only [maxLen] at hm; omega, fun h => by cases h⟩
    have := h0.cells (g := g) rfl (j * 8 + q) u (nC_get L j n hn q u hu)
    unfold Addr.add at this
    split at this
    · rename_i e
      rw [Nat.zero_add, e]
      exact this
    · rw [Nat.zero_add]
      simpa using this
theorem append_nodes {w : World} {s : Nat} {base : Nat} {v : Value} {l : List Nd} (hown : OwnN w base v l) {A : Option Addr} {n c B : Nat} {bs : List Nd} (hA : A = none → c = 0) (hb : NodesAt w B A bs) (hn : bs.length = n) (hnc : n ≤ c) (hlen : l.length + n ≤ 1000000) (hbase : base ≤ w.heap.size) :
    ∃ v' w', (Builtin.append_ #[22, 22] s #[v, .slice A n c]).run Try.prog w = .ok v' w' ∧ OwnN w' base v' (l ++ bs) ∧ w.grownBy w' v.ownBlock := by
  obtain ⟨i5, hi5, hz0, hz1, hz2⟩ := info_parts info33
  cases A with
  | none =>
    have hc0 := hA rfl
    subst hc0
    obtain rfl : n = 0 := by omega
    have hbs : bs = [] := List.eq_nil_of_length_eq_zero hn
    subst hbs
    refine ⟨v, w, ?_, by rw [List.append_nil]; exact hown, ⟨rfl, rfl, rfl, Nat.le_refl _, fun _ _ _ => rfl⟩⟩
    rcases hown.2 with ⟨rfl, hn⟩ | ⟨g, cap, cur, rfl, hbg, hg, hnc, hcm, _⟩
    · simp [Builtin.append_, run_underlying Try.underlying22, sizeOf, typeInfo, hi5, Builtin.lenOf, Builtin.firstCells]
    · simp [Builtin.append_, run_underlying Try.underlying22, sizeOf, typeInfo, hi5, Builtin.lenOf, Builtin.firstCells, loadCells, hnc, storeCells]
  | some ad =>
    obtain ⟨v', w', hr, k2, k3, _⟩ := run_append_own (P := Try.prog) w base 22 s 33 i5 _ 8 72 Try.underlying22 hi5 hz0 hz1 hz2 rfl (by omega) v l.length (nC l) hown ad n c (nC bs) (by rw [nC_length, hn]) (by
      intro j u hu
      have hne : bs ≠ [] := fun e => by rw [e] at hu; simp [nC] at hu
      obtain ⟨b, off, h1, _, h3⟩ := hb hne
      injection h1 with h1
      subst h1
      obtain ⟨i, q, y, hy, hq, rfl, hu2⟩ := nC_at bs j u hu
      have := (h3 i y hy).get hu2
      unfold Addr.add
      split
      · rename_i e
        rw [show off + i * 8 + q = off by omega] at this
        exact this
      · rw [Nat.add_assoc] at this
        exact this) (nC_oneCell _) (by simp only [maxLen]; omega) (by omega) hbase
    refine ⟨v', w', hr, ?_, k3⟩
    unfold OwnN
    rw [nC_append, List.length_append, hn]
    exact k2
/-- append of nodes that stand in memory, or of none -/
theorem wp_appN {ops : Array Oper} {rest : List Oper} {o : Oper} {a : Act} {Q : Exit → Act → World → Prop} {w : World} (hgd : o.guard = none) (s x : Operand)
    (ho : o.op = .call { callee := .builtin .append, args := #[s, x], argTypes := #[22, 22] })
    (base : Nat) (v : Value) (l : List Nd) (hs : a.eval s = v) (hown : OwnN w base v l) (A : Option Addr) (n c B : Nat) (bs : List Nd) (hx : a.eval x = .slice A n c) (hA : A = none → c = 0) (hb : NodesAt w B A bs) (hn : bs.length = n) (hnc : n ≤ c)
    (hlen : l.length + n ≤ 1000000) (hbase : base ≤ w.heap.size)
    (h : ∀ v' w', OwnN w' base v' (l ++ bs) → Below base w w' → wpList Try.prog ops Q rest (a.put o.dst v') w') : wpList Try.prog ops Q (o :: rest) a w := by
  obtain ⟨v', w', hr, h1, h2⟩ := append_nodes (s := o.type) hown hA hb hn hnc hlen hbase
  refine wpList_plain hgd fun K hK => ?_
  unfold Oper.wp
  simp [execOp, ho, resolve, invoke, builtin, hs, hx, hr, Result.andThen]
  exact hK _ _ (h v' w' h1 ((Below.refl _ _).grown h2 hbase fun k hk => (hown.lt k hk).1))
/-- the same as a step of a region that draws -/
theorem step_appN {ops : Array Oper} {o : Oper} {a : Act} {K : Act → World → Prop} {Q : Exit → Act → World → Prop} {E : Prop} {w : World} (hgd : o.guard = none) (s x : Operand)
    (ho : o.op = .call { callee := .builtin .append, args := #[s, x], argTypes := #[22, 22] })
    (base : Nat) (w0 : World) (v : Value) (l : List Nd) (hs : a.eval s = v) (hown : OwnN w base v l) (A : Option Addr) (n c B : Nat) (bs : List Nd) (hx : a.eval x = .slice A n c) (hA : A = none → c = 0) (hb : NodesAt w B A bs) (hn : bs.length = n) (hnc : n ≤ c)
    (hlen : l.length + n ≤ 1000000) (hb0 : Below base w0 w) (hbase : base ≤ w.heap.size)
    (h : ∀ v' w', Hid (OwnN w' base v' (l ++ bs)) → Hid (Below base w0 w') → Hid (w.grownBy w' v.ownBlock) → K (a.put o.dst v') w') : if Region.wanted o (yielded ops a.tmps) = true then Oper.wp Try.prog o a w K Q else E := by
  have hw : Region.wanted o (yielded ops a.tmps) = true := by simp [Region.wanted, hgd]
  rw [if_pos hw]
  obtain ⟨v', w', hr, h1, h2⟩ := append_nodes (s := o.type) hown hA hb hn hnc hlen hbase
  unfold Oper.wp execOp
  simp only [ho, resolve, invoke, builtin, Sem.run_bind, Sem.run_pure, Result.andThen_ok, List.map_toArray, List.map_cons, List.map_nil, hs, hx, hr]
  exact h v' w' h1 (hb0.grown h2 hbase fun k hk => (hown.lt k hk).1) h2
theorem bel_alloc {a w : World} (h : Below a.heap.size a w) (o : Obj) : Below a.heap.size a (w.alloc o) := h.alloc h.size o
theorem hp_new {w : World} {o : Obj} {k : Nat} (h : k = w.heap.size) : (w.alloc o).heap[k]? = some o := by subst h; exact heap_alloc_new w o
theorem hp_old {w : World} {o x : Obj} {k : Nat} (h : w.heap[k]? = some x) : (w.alloc o).heap[k]? = some x := (Below.heap_alloc w o k (Array.getElem?_eq_some_iff.1 h).1).trans h
theorem OwnN.fresh {w : World} {B k : Nat} (hk : w.heap[k]? = some (.cells #[] 33 (0, 0))) (hB : B ≤ k) : OwnN w B (.slice (some ⟨k, 0, none⟩) 0 0) [] :=
  ⟨rfl, .inr ⟨k, 0, #[], rfl, hB, hk, Nat.le_refl _, by decide, rfl, rfl⟩⟩
theorem OwnN.belows {w w' : World} {base B : Nat} {v : Value} {L : List Nd} (h : OwnN w base v L) (hb : Below B w w') (hB : w.heap.size ≤ B) : OwnN w' base v L := h.below (hb.mono hB)
theorem nodes_box {w : World} {k : Nat} {n : Nd} (hk : w.heap[k]? = some (.cells (nodeC n).toArray 33 (0, 0))) : NodesAt w w.heap.size (some ⟨k, 0, none⟩) [n] := fun _ => by
  refine ⟨k, 0, rfl, (Array.getElem?_eq_some_iff.1 hk).1, fun j m hm => ?_⟩
  match j, hm with
  | 0, hm =>
    obtain rfl : n = m := by simpa using hm
    unfold nodeC at hk
    constructor <;> simp [World.cell?, hk]
  | j + 1, hm => simp at hm
end Go.Proofs.Ytjpnkecfoealoaa
