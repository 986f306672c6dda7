import Derived.Test.YtggndipfholllaaKm
import Derived.ProofKit
import Derived.ChangeOld
import Derived.Deep.Slices
import Derived.OpenShut
import Derived.SizedLaws
import Derived.LoopTactic
namespace Go.Proofs.Ytggndipfholllaa
open Go.ChangeShapes Go.WideShapes Go.ChangeAt Go.RowKit Go.Deep
set_option linter.unusedVariables false

theorem cells31 : Try.prog.cellsOf 31 = 6 := by kernel_rfl
theorem cells62 : Try.prog.cellsOf 62 = 2 := by kernel_rfl
theorem cells3 : Try.prog.cellsOf 3 = 1 := by kernel_rfl
theorem cells4 : Try.prog.cellsOf 4 = 1 := by kernel_rfl
theorem cells5 : Try.prog.cellsOf 5 = 1 := by kernel_rfl
theorem cells9 : Try.prog.cellsOf 9 = 1 := by kernel_rfl
theorem cells28 : Try.prog.cellsOf 28 = 1 := by kernel_rfl
theorem cells29 : Try.prog.cellsOf 29 = 1 := by kernel_rfl
theorem wf64 {n : Int} (h : (Lit.int .i64 n).wf = true) : -9223372036854775808 ≤ n ∧ n ≤ 9223372036854775807 := by
  simp only [Lit.wf, Bool.and_eq_true, decide_eq_true_eq] at h
  have e1 : IntKind.i64.min = -9223372036854775808 := by decide
  have e2 : IntKind.i64.max = 9223372036854775807 := by decide
  rw [e1, e2] at h
  exact h
theorem wf8 {n : Int} (h : (Lit.int .u8 n).wf = true) : 0 ≤ n ∧ n ≤ 255 := by
  simp only [Lit.wf, Bool.and_eq_true, decide_eq_true_eq] at h
  have e1 : IntKind.u8.min = 0 := by decide
  have e2 : IntKind.u8.max = 255 := by decide
  rw [e1, e2] at h
  exact h
/-- bytes that came in, in blocks below B -/
def ByteV (w : World) (v : Value) (bs : List UInt8) (B : Nat) : Prop :=
  ∃ A c, v = .slice A bs.length c ∧ bs.length ≤ c ∧ c ≤ 9223372036854775807 ∧ (A = none → c = 0) ∧
    (bs ≠ [] → ∃ k off, A = some ⟨k, off, none⟩ ∧ k < B ∧ ∀ j u, bs[j]? = some u → w.cell? ⟨k, off + j, none⟩ = some (.int .u8 (u.toNat : Int)))
theorem ByteV.src {w : World} {v : Value} {bs : List UInt8} {B b : Nat} (h : ByteV w v bs B) (hb : B ≤ b) : Src w v bs b := by
  obtain ⟨A, c, h1, h2, h3, h4, h5⟩ := h
  refine ⟨A, c, h1, h2, h3, h4, fun hne => ?_⟩
  obtain ⟨k, off, e1, e2, e3⟩ := h5 hne
  exact ⟨k, off, e1, by omega, e3⟩
theorem ByteV.keep {w w' : World} {v : Value} {bs : List UInt8} {B : Nat} (h : ByteV w v bs B) (hk : ∀ k, k < B → w'.heap[k]? = w.heap[k]?) : ByteV w' v bs B := by
  obtain ⟨A, c, h1, h2, h3, h4, h5⟩ := h
  refine ⟨A, c, h1, h2, h3, h4, fun hne => ?_⟩
  obtain ⟨k, off, e1, e2, e3⟩ := h5 hne
  exact ⟨k, off, e1, e2, fun j u hu => (World.cell?_of_block (w := w) (hk k e2)).trans (e3 j u hu)⟩
/-- an act's six cells -/
def ActAt (w : World) (k off : Nat) (x : PlainDisk.Act) (vb vl : Value) (B : Nat) : Prop :=
  w.cell? ⟨k, off, none⟩ = some (.int .i64 x.kind) ∧ w.cell? ⟨k, off + 1, none⟩ = some (.string (str x.a)) ∧ w.cell? ⟨k, off + 2, none⟩ = some (.string (str x.to)) ∧ w.cell? ⟨k, off + 3, none⟩ = some vb ∧
    w.cell? ⟨k, off + 4, none⟩ = some (.int .i64 x.n) ∧ w.cell? ⟨k, off + 5, none⟩ = some vl ∧ Okay x ∧ ByteV w vb x.b B ∧ LAt w vl x.l (fun k => k < B)
def ActsAt (w : World) (v : Value) (xs : List PlainDisk.Act) (B : Nat) : Prop :=
  ∃ A c, v = .slice A xs.length c ∧ xs.length ≤ c ∧ c ≤ 9223372036854775807 ∧ (xs ≠ [] → ∃ k off, A = some ⟨k, off, none⟩ ∧ k < B ∧ ∀ i x, xs[i]? = some x → ∃ vb vl, ActAt w k (off + i * 6) x vb vl B)
theorem ActAt.keep {w w' : World} {k off : Nat} {x : PlainDisk.Act} {vb vl : Value} {B : Nat} (h : ActAt w k off x vb vl B) (hB : k < B) (hk : ∀ k, k < B → w'.heap[k]? = w.heap[k]?) : ActAt w' k off x vb vl B := by
  obtain ⟨h0, h1, h2, h3, h4, h5, h6, h7, h8⟩ := h
  have q : ∀ o v, w.cell? ⟨k, o, none⟩ = some v → w'.cell? ⟨k, o, none⟩ = some v := fun o v e => (World.cell?_of_block (w := w) (hk k hB)).trans e
  exact ⟨q _ _ h0, q _ _ h1, q _ _ h2, q _ _ h3, q _ _ h4, q _ _ h5, h6, h7.keep hk, h8.keep hk⟩
theorem ActsAt.keep {w w' : World} {v : Value} {xs : List PlainDisk.Act} {B : Nat} (h : ActsAt w v xs B) (hk : ∀ k, k < B → w'.heap[k]? = w.heap[k]?) : ActsAt w' v xs B := by
  obtain ⟨A, c, h1, h2, h3, h4⟩ := h
  refine ⟨A, c, h1, h2, h3, fun hne => ?_⟩
  obtain ⟨k, off, e1, e2, e3⟩ := h4 hne
  refine ⟨k, off, e1, e2, fun i x hx => ?_⟩
  obtain ⟨vb, vl, q⟩ := e3 i x hx
  exact ⟨vb, vl, q.keep e2 hk⟩
section
variable {H : Type} {enc : TypeId × Value → H} {W : World}
theorem addr_add (b off q : Nat) : (⟨b, off, none⟩ : Addr).add q = ⟨b, off + q, none⟩ := by
  unfold Addr.add
  split
  · subst q; rfl
  · rfl
/-- a slice of bytes -/
theorem open_bytes {fuel : Nat} {v : Value} {y : DataW H × List MemPlace} (h : DataW.trod enc Try.prog W 0 (fun _ => true) true fuel 28 [v] = some y) : ∃ bs, ByteV W v bs W.heap.size := by
  rcases open_ints Try.underlying28 Try.underlying5 cells5 h with ⟨hcs, hx⟩ | ⟨a, len, cap, zs, hcs, _, hl, hm, hz, hx, hcell, hwz⟩
  · simp only [List.cons.injEq, and_true] at hcs
    exact ⟨[], none, 0, hcs, by simp, by omega, fun _ => rfl, fun q => absurd rfl q⟩
  · simp only [List.cons.injEq, and_true] at hcs
    simp only [if_true] at hz
    have hlen : ((zs.take len).map fun z => UInt8.ofNat z.toNat).length = len := by rw [List.length_map, List.length_take]; omega
    refine ⟨(zs.take len).map fun z => UInt8.ofNat z.toNat, some a, cap, by rw [hlen]; exact hcs, by rw [hlen]; exact hl, by simp only [maxLen] at hm; omega, fun q => (by cases q), fun hne => ?_⟩
    have hl0 : 0 < len := by
      rcases Nat.eq_zero_or_pos len with q | q
      · subst q; simp at hne
      · exact q
    have c0 := hcell 0 (by omega)
    obtain ⟨b, off, spot⟩ := a
    have hspot : spot = none := by simpa [Addr.add] using World.cell?_spot c0
    subst hspot
    refine ⟨b, off, rfl, by have := World.block_lt_of_cell? W _ c0; rw [addr_add] at this; exact this, fun j u hu => ?_⟩
    simp only [List.getElem?_map, List.getElem?_take, Option.map_eq_some_iff] at hu
    obtain ⟨z, hz1, rfl⟩ := hu
    split at hz1
    · have hj : j < zs.length := (List.getElem?_eq_some_iff.1 hz1).1
      have hc := hcell j hj
      rw [List.getD_eq_getElem?_getD, hz1, Option.getD_some, addr_add] at hc
      have hw := wf8 (hwz z (List.mem_of_getElem? hz1))
      have hzz : ((UInt8.ofNat z.toNat).toNat : Int) = z := by
        rw [UInt8.toNat_ofNat', Nat.mod_eq_of_lt (by omega)]; omega
      rw [hzz]
      exact hc
    · cases hz1
theorem pick (f : Nat → Prop) {α : Type} (n : Nat) (p : Nat → α → Prop) (h : ∀ i, i < n → ∃ a, p i a) : ∃ l : List α, l.length = n ∧ ∀ (i : Nat) (a : α), l[i]? = some a → p i a := by
  induction n with
  | zero => exact ⟨[], rfl, fun i a q => by simp at q⟩
  | succ n ih =>
    obtain ⟨l, h1, h2⟩ := ih fun i hi => h i (by omega)
    obtain ⟨a, ha⟩ := h n (by omega)
    refine ⟨l ++ [a], by simp [h1], fun i x hx => ?_⟩
    by_cases hi : i < l.length
    · rw [List.getElem?_append_left hi] at hx
      exact h2 i x hx
    · rw [List.getElem?_append_right (by omega)] at hx
      have : i - l.length = 0 := by
        have := (List.getElem?_eq_some_iff.1 hx).1
        simp at this; omega
      rw [this] at hx
      have e : i = n := by omega
      have hx : a = x := by simpa using hx
      rw [e, ← hx]; exact ha
set_option maxRecDepth 100000 in
/-- a slice of what a crash leaves -/
theorem open_lefts {fuel : Nat} {v : Value} {y : DataW H × List MemPlace} (h : DataW.trod enc Try.prog W 0 (fun _ => true) true fuel 29 [v] = some y) : ∃ l, LAt W v l (fun k => k < W.heap.size) := by
  rcases open_slice Try.underlying29 h with ⟨hcs, hx⟩ | ⟨a, len, cap, m, n, D, Pl, hcs, _, hl, hm, hmm, hx, hi⟩
  · simp only [List.cons.injEq, and_true] at hcs
    exact ⟨[], none, 0, hcs, by simp, by omega, fun x hx => (by cases hx), fun q => absurd rfl q⟩
  · simp only [List.cons.injEq, and_true] at hcs
    simp only [if_true] at hmm
    subst hmm
    rw [cells62] at hi
    have each : ∀ i, i < len → ∃ x : PlainDisk.Left, -9223372036854775808 ≤ x.keep ∧ x.keep ≤ 9223372036854775807 ∧ W.cell? (a.add (i * 2)) = some (.int .i64 x.keep) ∧ W.cell? ((a.add (i * 2)).add 1) = some (.bool x.zero) := by
      intro i hil
      obtain ⟨cs', hc, ht⟩ := hi i (by omega)
      obtain ⟨_, hcl, hat⟩ := World.cells?_some hc
      obtain ⟨xs, n', rfl, _, hlen, hxl, hf⟩ := DataW.trod_struct Try.underlying62 ht
      rw [cells62] at hlen
      match cs', hlen with
      | [u0, u1], _ =>
        match xs, hxl with
        | [y0, y1], _ =>
          have g0 : DataW.trod enc Try.prog W 0 (fun _ => true) true n' 3 [u0] = some y0 := by have h0 : DataW.trod enc Try.prog W 0 (fun _ => true) true n' 3 (([u0, u1].drop 0).take (Try.prog.cellsOf 3)) = some y0 := hf 0 _ rfl; rw [cells3] at h0; exact h0
          have g1 : DataW.trod enc Try.prog W 0 (fun _ => true) true n' 4 [u1] = some y1 := by have h1 : DataW.trod enc Try.prog W 0 (fun _ => true) true n' 4 (([u0, u1].drop 1).take (Try.prog.cellsOf 4)) = some y1 := hf 1 _ rfl; rw [cells4] at h1; exact h1
          obtain ⟨k, e0, _, w0⟩ := DataW.trod_int Try.underlying3 g0
          obtain ⟨z, e1, _⟩ := DataW.trod_bool Try.underlying4 g1
          simp only [List.cons.injEq, and_true] at e0 e1
          subst e0 e1
          have c0 := hat 0 (by omega)
          have c1 := hat 1 (by omega)
          exact ⟨⟨k, z⟩, (wf64 w0).1, (wf64 w0).2, by simpa [Addr.add] using c0, by simpa using c1⟩
    obtain ⟨l, hll, hla⟩ := pick (fun _ => True) len _ each
    refine ⟨l, some a, m, by rw [hll]; exact hcs, by omega, by simp only [maxLen] at hm; omega, fun x hx => ?_, fun hne => ?_⟩
    · obtain ⟨i, hi'⟩ := List.getElem?_of_mem hx
      obtain ⟨q1, q2, _⟩ := hla i x hi'
      exact ⟨q1, q2⟩
    · obtain ⟨x0, hx0⟩ : ∃ x, l[0]? = some x := by
        cases l with
        | nil => exact absurd rfl hne
        | cons x r => exact ⟨x, rfl⟩
      have c0 := (hla 0 x0 hx0).2.2.1
      obtain ⟨b, off, spot⟩ := a
      have hspot : spot = none := by simpa [Addr.add] using World.cell?_spot c0
      subst hspot
      refine ⟨b, off, rfl, by have := World.block_lt_of_cell? W _ c0; rw [addr_add] at this; exact this, fun i x hx => ?_⟩
      obtain ⟨_, _, q3, q4⟩ := hla i x hx
      rw [addr_add] at q3 q4
      rw [addr_add] at q4
      exact ⟨q3, q4⟩
end
end Go.Proofs.Ytggndipfholllaa
namespace Go.Proofs.Ytggndipfholllaa
open Go.ChangeShapes Go.WideShapes Go.ChangeAt Go.RowKit Go.Deep
set_option linter.unusedVariables false
section
variable {H : Type} {enc : TypeId × Value → H} {W : World}
theorem weights_all {P : Program} {e : TypeId} {ds : List (DataW H)} {d : DataW H} (h : d ∈ ds) : ∀ n ∈ d.weights P e, n ∈ DataW.weightsAll P e ds := by
  induction ds with
  | nil => cases h
  | cons x r ih =>
    intro n hn
    rw [DataW.weightsAll, List.mem_append]
    rcases List.mem_cons.1 h with rfl | h
    · exact .inl hn
    · exact .inr (ih h n hn)
set_option maxRecDepth 100000 in
set_option maxHeartbeats 1000000 in
/-- an act that came in -/
theorem open_act {fuel : Nat} {cs : List Value} {y : DataW H × List MemPlace} (h : DataW.trod enc Try.prog W 0 (fun _ => true) true fuel 31 cs = some y) (hw : ∀ z ∈ y.1.weights Try.prog 31, z ≤ 140737488351232) :
    ∃ (x : PlainDisk.Act) (vb vl : Value), cs = [.int .i64 x.kind, .string (str x.a), .string (str x.to), vb, .int .i64 x.n, vl] ∧ Okay x ∧ ByteV W vb x.b W.heap.size ∧ LAt W vl x.l (fun k => k < W.heap.size) := by
  obtain ⟨xs, n, rfl, hy, hlen, hxl, hf⟩ := DataW.trod_struct Try.underlying31 h
  rw [cells31] at hlen
  match cs, hlen with
  | [u0, u1, u2, u3, u4, u5], _ =>
    match xs, hxl with
    | [y0, y1, y2, y3, y4, y5], _ =>
      have g0 : DataW.trod enc Try.prog W 0 (fun _ => true) true n 3 [u0] = some y0 := by have h0 : DataW.trod enc Try.prog W 0 (fun _ => true) true n 3 (([u0, u1, u2, u3, u4, u5].drop 0).take (Try.prog.cellsOf 3)) = some y0 := hf 0 _ rfl; rw [cells3] at h0; exact h0
      have g1 : DataW.trod enc Try.prog W 0 (fun _ => true) true n 9 [u1] = some y1 := by have h1 : DataW.trod enc Try.prog W 0 (fun _ => true) true n 9 (([u0, u1, u2, u3, u4, u5].drop 1).take (Try.prog.cellsOf 9)) = some y1 := hf 1 _ rfl; rw [cells9] at h1; exact h1
      have g2 : DataW.trod enc Try.prog W 0 (fun _ => true) true n 9 [u2] = some y2 := by have h2 : DataW.trod enc Try.prog W 0 (fun _ => true) true n 9 (([u0, u1, u2, u3, u4, u5].drop 2).take (Try.prog.cellsOf 9)) = some y2 := hf 2 _ rfl; rw [cells9] at h2; exact h2
      have g3 : DataW.trod enc Try.prog W 0 (fun _ => true) true n 28 [u3] = some y3 := by have h3 : DataW.trod enc Try.prog W 0 (fun _ => true) true n 28 (([u0, u1, u2, u3, u4, u5].drop 3).take (Try.prog.cellsOf 28)) = some y3 := hf 3 _ rfl; rw [cells28] at h3; exact h3
      have g4 : DataW.trod enc Try.prog W 0 (fun _ => true) true n 3 [u4] = some y4 := by have h4 : DataW.trod enc Try.prog W 0 (fun _ => true) true n 3 (([u0, u1, u2, u3, u4, u5].drop 4).take (Try.prog.cellsOf 3)) = some y4 := hf 4 _ rfl; rw [cells3] at h4; exact h4
      have g5 : DataW.trod enc Try.prog W 0 (fun _ => true) true n 29 [u5] = some y5 := by have h5 : DataW.trod enc Try.prog W 0 (fun _ => true) true n 29 (([u0, u1, u2, u3, u4, u5].drop 5).take (Try.prog.cellsOf 29)) = some y5 := hf 5 _ rfl; rw [cells29] at h5; exact h5
      obtain ⟨k, e0, _, w0⟩ := DataW.trod_int Try.underlying3 g0
      obtain ⟨s1, e1, d1, _⟩ := DataW.trod_string Try.underlying9 g1
      obtain ⟨s2, e2, d2, _⟩ := DataW.trod_string Try.underlying9 g2
      obtain ⟨bs, hb⟩ := open_bytes g3
      obtain ⟨m, e4, _, w4⟩ := DataW.trod_int Try.underlying3 g4
      obtain ⟨l, hl⟩ := open_lefts g5
      simp only [List.cons.injEq, and_true] at e0 e1 e2 e4
      subst e0 e1 e2 e4
      have hwt : ∀ z ∈ DataW.weightsEach Try.prog [3, 9, 9, 28, 3, 29] [y0.1, y1.1, y2.1, y3.1, y4.1, y5.1], z ≤ 140737488351232 := by
        intro z hz
        refine hw z ?_
        rw [hy]
        show z ∈ DataW.weights Try.prog 31 (.agg _)
        rw [DataW.weights, Try.underlying31]
        exact hz
      have b1 := hwt s1.data.toList.length (DataW.weights_mem_each (j := 1) (t := 9) (d := y1.1) rfl rfl _ (by rw [d1]; simp [DataW.weights]))
      have b2 := hwt s2.data.toList.length (DataW.weights_mem_each (j := 2) (t := 9) (d := y2.1) rfl rfl _ (by rw [d2]; simp [DataW.weights]))
      refine ⟨⟨k, s1.data.toList, s2.data.toList, bs, m, l⟩, u3, u5, by rw [str_list, str_list], ⟨(wf64 w0).1, (wf64 w0).2, (wf64 w4).1, (wf64 w4).2, ?_, ?_⟩, hb, hl⟩
      · show s1.data.toList.length ≤ _; omega
      · show s2.data.toList.length ≤ _; omega
set_option maxRecDepth 100000 in
/-- a slice of acts that came in -/
theorem open_acts {fuel : Nat} {v : Value} {y : DataW H × List MemPlace} (h : DataW.trod enc Try.prog W 0 (fun _ => true) true fuel 22 [v] = some y) (hw : ∀ z ∈ y.1.weights Try.prog 22, z ≤ 140737488351232) : ∃ xs, ActsAt W v xs W.heap.size := by
  rcases open_slice Try.underlying22 h with ⟨hcs, hx⟩ | ⟨a, len, cap, m, n, D, Pl, hcs, _, hl, hm, hmm, hx, hi⟩
  · simp only [List.cons.injEq, and_true] at hcs
    exact ⟨[], none, 0, hcs, by simp, by omega, fun q => absurd rfl q⟩
  · simp only [List.cons.injEq, and_true] at hcs
    simp only [if_true] at hmm
    subst hmm
    rw [cells31] at hi
    have each : ∀ i, i < len → ∃ x : PlainDisk.Act, ∃ vb vl, Okay x ∧ ByteV W vb x.b W.heap.size ∧ LAt W vl x.l (fun k => k < W.heap.size) ∧ W.cell? ((a.add (i * 6)).add 0) = some (.int .i64 x.kind) ∧ W.cell? ((a.add (i * 6)).add 1) = some (.string (str x.a)) ∧ W.cell? ((a.add (i * 6)).add 2) = some (.string (str x.to)) ∧
        W.cell? ((a.add (i * 6)).add 3) = some vb ∧ W.cell? ((a.add (i * 6)).add 4) = some (.int .i64 x.n) ∧ W.cell? ((a.add (i * 6)).add 5) = some vl := by
      intro i hil
      obtain ⟨cs', hc, ht⟩ := hi i (by omega)
      obtain ⟨_, hcl, hat⟩ := World.cells?_some hc
      obtain ⟨x, vb, vl, rfl, hok, hb, hlt⟩ := open_act ht (fun z hz => hw z (by
        rw [hx]
        show z ∈ DataW.weights Try.prog 22 (.slice _ _)
        rw [DataW.weights, Try.underlying22]
        refine List.mem_cons_of_mem _ (List.mem_append_left _ (weights_all (d := D i) ?_ z hz))
        exact List.mem_map.2 ⟨i, List.mem_range.2 hil, rfl⟩))
      have c0 := hat 0 (by omega)
      have c1 := hat 1 (by omega)
      have c2 := hat 2 (by omega)
      have c3 := hat 3 (by omega)
      have c4 := hat 4 (by omega)
      have c5 := hat 5 (by omega)
      exact ⟨x, vb, vl, hok, hb, hlt, by simpa using c0, by simpa using c1, by simpa using c2, by simpa using c3, by simpa using c4, by simpa using c5⟩
    obtain ⟨l, hll, hla⟩ := pick (fun _ => True) len _ each
    refine ⟨l, some a, m, by rw [hll]; exact hcs, by omega, by simp only [maxLen] at hm; omega, fun hne => ?_⟩
    obtain ⟨x0, hx0⟩ : ∃ x, l[0]? = some x := by
      cases l with
      | nil => exact absurd rfl hne
      | cons x r => exact ⟨x, rfl⟩
    obtain ⟨_, _, _, _, _, c0, _⟩ := hla 0 x0 hx0
    obtain ⟨b, off, spot⟩ := a
    have hspot : spot = none := by simpa [Addr.add] using World.cell?_spot c0
    subst hspot
    refine ⟨b, off, rfl, by have := World.block_lt_of_cell? W _ c0; rw [addr_add, addr_add] at this; exact this, fun i x hx => ?_⟩
    obtain ⟨vb, vl, hok, hb, hlt, d0, d1, d2, d3, d4, d5⟩ := hla i x hx
    rw [addr_add, addr_add] at d0 d1 d2 d3 d4 d5
    exact ⟨vb, vl, d0, d1, d2, d3, d4, d5, hok, hb, hlt⟩
end
end Go.Proofs.Ytggndipfholllaa
namespace Go.Proofs.Ytggndipfholllaa
open Go.RowKit
open PlainDisk (File Disk)
set_option linter.unusedVariables false

/-- a name is short -/
theorem runes_four (n : Nat) : ∀ l : List UInt8, l.length ≤ n → l.length ≤ 4 * (Pl.runes l).length := by
  induction n with
  | zero => intro l h; omega
  | succ n ih =>
    intro l h
    by_cases hl : l = []
    · subst hl; simp
    · have hb := Pl.rune_bd l hl
      rw [Pl.runes_cons hl, List.length_cons]
      have := ih (l.drop (Pl.rune l).2.1) (by rw [List.length_drop]; omega)
      rw [List.length_drop] at this
      omega
theorem may_short {l : List UInt8} (h : may l = true) : l.length ≤ 96 := by
  have h1 := (may_iff l).1 h
  have h2 := runes_four l.length l (Nat.le_refl _)
  omega
theorem Ch.short {w wi : World} {b : Nat} {D : Disk} (h : Ch w wi b D) {f : File} (hf : f ∈ D.fs) : f.name.length ≤ 281474976710656 := by
  have := may_short (h.fine.inv.names f hf)
  omega
/-- what is known of a disk's files, at a name -/
theorem Ch.find {w wi : World} {b : Nat} {D : Disk} (h : Ch w wi b D) {f : File} (hf : f ∈ D.fs) : PlainDisk.find D.fs f.name = some f := PlainDisk.find_of_mem h.sorted hf
theorem sureOf_at {D : Disk} {nm : List UInt8} {f : File} (h : PlainDisk.find D.fs nm = some f) : sureOf D nm = f.sure := by unfold sureOf; rw [h]; rfl
theorem sureOf_none {D : Disk} {nm : List UInt8} (h : PlainDisk.find D.fs nm = none) : sureOf D nm = 0 := by unfold sureOf; rw [h]; rfl
/-- the acts of a row -/
theorem ActsAt.form {w : World} {v : Value} {xs : List PlainDisk.Act} {B : Nat} (h : ActsAt w v xs B) : ∃ A c, v = .slice A xs.length c ∧ xs.length ≤ c ∧ c ≤ 9223372036854775807 := by
  obtain ⟨A, c, h1, h2, h3, _⟩ := h
  exact ⟨A, c, h1, h2, h3⟩
/-- one act, cell by cell, in whatever world is above w -/
structure One (W w : World) (A : Option Addr) (i : Nat) (x : PlainDisk.Act) (k off : Nat) (Ab : Option Addr) (cb : Nat) (Al : Option Addr) (cl : Nat) : Prop where
  a : A = some ⟨k, off, none⟩
  lt : k < W.heap.size
  c0 : w.cell? ⟨k, off + i * 6, none⟩ = some (.int .i64 x.kind)
  c1 : w.cell? ⟨k, off + i * 6 + 1, none⟩ = some (.string (str x.a))
  c2 : w.cell? ⟨k, off + i * 6 + 2, none⟩ = some (.string (str x.to))
  c3 : w.cell? ⟨k, off + i * 6 + 3, none⟩ = some (.slice Ab x.b.length cb)
  c4 : w.cell? ⟨k, off + i * 6 + 4, none⟩ = some (.int .i64 x.n)
  c5 : w.cell? ⟨k, off + i * 6 + 5, none⟩ = some (.slice Al x.l.length cl)
  ok : Okay x
  b : ByteV w (.slice Ab x.b.length cb) x.b W.heap.size
  l : LAt w (.slice Al x.l.length cl) x.l (fun k => k < W.heap.size)
theorem ActsAt.one {W w : World} {A : Option Addr} {c n : Nat} {xs : List PlainDisk.Act} (h : ActsAt W (.slice A n c) xs W.heap.size) (hb : Below W.heap.size W w) {i : Nat} {x : PlainDisk.Act} (hx : xs[i]? = some x) : ∃ k off Ab cb Al cl, One W w A i x k off Ab cb Al cl := by
  obtain ⟨A', c', e, _, _, h4⟩ := h.keep (w' := w) fun k hk => hb.block k hk
  obtain ⟨k, off, e1, e2, e3⟩ := h4 (fun q => by rw [q] at hx; simp at hx)
  obtain ⟨vb, vl, h0, h1, h2, h3, h5, h6, h7, h8, h9⟩ := e3 i x hx
  have eA : A = A' := by injection e
  obtain ⟨Ab, cb, rfl, b1, b2, b3, b4⟩ := id h8
  obtain ⟨Al, cl, rfl, l1, l2, l3, l4⟩ := id h9
  exact ⟨k, off, Ab, cb, Al, cl, eA.trans e1, e2, h0, h1, h2, h3, h5, h6, h7, h8, h9⟩
/-- the act is done -/
theorem One.act {W w : World} {b : Nat} {D : Disk} {A : Option Addr} {i : Nat} {x : PlainDisk.Act} {k off : Nat} {Ab : Option Addr} {cb : Nat} {Al : Option Addr} {cl : Nat} (o : One W w A i x k off Ab cb Al cl) (h : Ch W w b D) :
    Calls Try.prog 13 #[.pointer (some ⟨b, 0, none⟩), .agg #[.int .i64 x.kind, .string (str x.a), .string (str x.to), .slice Ab x.b.length cb, .int .i64 x.n, .slice Al x.l.length cl]] w fun e w' => e = .returned (.int .i64 (PlainDisk.step may D x).2) ∧ Ch W w' b (PlainDisk.step may D x).1 :=
  act_ch h x _ _ _ o.ok (o.b.src h.ge) o.l (fun k hk => hk)
end Go.Proofs.Ytggndipfholllaa
