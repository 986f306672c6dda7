import Derived.Test.YtjcikhacekmcfaaGreatDoorOc
import Derived.Test.YtjcikhacekmcfaaGreatDoorNb
/- A law's arguments opened: entries, a snapshot, acts. -/
namespace Go.Proofs.YtjcikhacekmcfaaGreatDoor
open Go.ChangeShapes Go.WideShapes Go.ChangeAt Go.RowKit Go.Deep
open PWal (Ent)
set_option linter.unusedVariables false
set_option maxRecDepth 100000
theorem cellsT40 : Tryz.prog.cellsOf 40 = 9 := by kernel_rfl
theorem cellsT37 : Tryz.prog.cellsOf 37 = 3 := by kernel_rfl
theorem cellsT75 : Tryz.prog.cellsOf 75 = 2 := by kernel_rfl
theorem cellsT35 : Tryz.prog.cellsOf 35 = 1 := by kernel_rfl
theorem cellsT2 : Tryz.prog.cellsOf 2 = 1 := by kernel_rfl
section
variable {H : Type} {enc : TypeId × Value → H} {W : World}
theorem weights_allZ {P : Program} {e : TypeId} {ds : List (DataW H)} {d : DataW H} (h : d ∈ ds) : ∀ n ∈ d.weights P e, n ∈ DataW.weightsAll P e ds := by
  induction ds with
  | nil => cases h
  | cons x r ih =>
    intro n hn
    rw [DataW.weightsAll, List.mem_append]
    rcases List.mem_cons.1 h with rfl | h
    · exact .inl hn
    · exact .inr (ih h n hn)
theorem str_back (s : ByteArray) : str s.data.toList = s := rfl
theorem open_ent {fuel : Nat} {cs : List Value} {y : DataW H × List MemPlace} (h : DataW.trod enc Tryz.prog W 0 (fun _ => true) true fuel 75 cs = some y) (hw : ∀ z ∈ y.1.weights Tryz.prog 75, z ≤ 140737488351232) :
    ∃ x : Ent, cs = [.int .i64 x.term, .string (str x.data)] ∧ x.data.length ≤ 140737488351232 := by
  obtain ⟨xs, n, rfl, hy, hlen, hxl, hf⟩ := DataW.trod_struct Tryz.underlying75 h
  rw [cellsT75] at hlen
  match cs, hlen with
  | [u0, u1], _ =>
    match xs, hxl with
    | [y0, y1], _ =>
      have g0 : DataW.trod enc Tryz.prog W 0 (fun _ => true) true n 2 [u0] = some y0 := by have h0 : DataW.trod enc Tryz.prog W 0 (fun _ => true) true n 2 (([u0, u1].drop 0).take (Tryz.prog.cellsOf 2)) = some y0 := hf 0 _ rfl; rw [cellsT2] at h0; exact h0
      have g1 : DataW.trod enc Tryz.prog W 0 (fun _ => true) true n 9 [u1] = some y1 := by have h1 : DataW.trod enc Tryz.prog W 0 (fun _ => true) true n 9 (([u0, u1].drop 1).take (Tryz.prog.cellsOf 9)) = some y1 := hf 1 _ rfl; rw [cells9] at h1; exact h1
      obtain ⟨k, e0, _, w0⟩ := DataW.trod_int Tryz.underlying2 g0
      obtain ⟨s, e1, d1, _⟩ := DataW.trod_string Tryz.underlying9 g1
      simp only [List.cons.injEq, and_true] at e0 e1
      subst e0 e1
      have hwt : ∀ z ∈ DataW.weightsEach Tryz.prog [2, 9] [y0.1, y1.1], z ≤ 140737488351232 := by
        intro z hz
        refine hw z ?_
        rw [hy]
        show z ∈ DataW.weights Tryz.prog 75 (.agg _)
        rw [DataW.weights, Tryz.underlying75]
        exact hz
      have b1 := hwt s.data.toList.length (DataW.weights_mem_each (j := 1) (t := 9) (d := y1.1) rfl rfl _ (by rw [d1]; simp [DataW.weights]))
      exact ⟨⟨k, s.data.toList⟩, rfl, b1⟩
theorem ent_cells {w : World} {g off : Nat} {l : List Ent} (h : ∀ i x, l[i]? = some x → w.cell? ⟨g, off + i * 2, none⟩ = some (.int .i64 x.term) ∧ w.cell? ⟨g, off + i * 2 + 1, none⟩ = some (.string (str x.data))) : ∀ j u, (entC l)[j]? = some u → w.cell? ⟨g, off + j, none⟩ = some u := by
  intro j u hu
  have hj : j < l.length * 2 := by rw [← entC_len]; exact (List.getElem?_eq_some_iff.1 hu).1
  have hi : j / 2 < l.length := by omega
  obtain ⟨x, hx⟩ : ∃ x, l[j / 2]? = some x := ⟨_, List.getElem?_eq_getElem hi⟩
  obtain ⟨a0, a1⟩ := entC_at hx
  obtain ⟨b0, b1⟩ := h _ x hx
  rcases Nat.mod_two_eq_zero_or_one j with q | q
  · have e : j / 2 * 2 = j := by omega
    rw [e] at a0 b0
    rw [b0, ← hu, a0]
  · have e : j / 2 * 2 + 1 = j := by omega
    rw [Nat.add_assoc, e] at b1
    rw [e] at a1
    rw [b1, ← hu, a1]
theorem open_ents {fuel : Nat} {v : Value} {y : DataW H × List MemPlace} (h : DataW.trod enc Tryz.prog W 0 (fun _ => true) true fuel 35 [v] = some y) (hw : ∀ z ∈ y.1.weights Tryz.prog 35, z ≤ 140737488351232) :
    ∃ (l : List Ent) (A : Option Addr) (c : Nat), v = .slice A l.length c ∧ EntAt W A c l ∧ (∀ g off, l ≠ [] → A = some ⟨g, off, none⟩ → g < W.heap.size) ∧ ∀ x ∈ l, x.data.length ≤ 281474976710656 := by
  rcases open_slice Tryz.underlying35 h with ⟨hcs, hx⟩ | ⟨a, len, cap, m, n, D, Pl, hcs, _, hl, hm, hmm, hx, hi⟩
  · simp only [List.cons.injEq, and_true] at hcs
    exact ⟨[], none, 0, hcs, ⟨Nat.le_refl _, by omega, fun _ => rfl, fun q => absurd rfl q⟩, fun g off q => absurd rfl q, fun x hx => (by cases hx)⟩
  · simp only [List.cons.injEq, and_true] at hcs
    simp only [if_true] at hmm
    subst hmm
    rw [cellsT75] at hi
    have each : ∀ i, i < len → ∃ x : Ent, x.data.length ≤ 140737488351232 ∧ W.cell? ((a.add (i * 2)).add 0) = some (.int .i64 x.term) ∧ W.cell? ((a.add (i * 2)).add 1) = some (.string (str x.data)) := by
      intro i hil
      obtain ⟨cs', hc, ht⟩ := hi i (by omega)
      obtain ⟨_, hcl, hat⟩ := World.cells?_some hc
      obtain ⟨x, rfl, hok⟩ := open_ent ht (fun z hz => hw z (by
        rw [hx]
        show z ∈ DataW.weights Tryz.prog 35 (.slice _ _)
        rw [DataW.weights, Tryz.underlying35]
        refine List.mem_cons_of_mem _ (List.mem_append_left _ (weights_allZ (d := D i) ?_ z hz))
        exact List.mem_map.2 ⟨i, List.mem_range.2 hil, rfl⟩))
      have c0 := hat 0 (by omega)
      have c1 := hat 1 (by omega)
      exact ⟨x, hok, by simpa using c0, by simpa using c1⟩
    obtain ⟨l, hll, hla⟩ := pick (fun _ => True) len _ each
    have hd : ∀ x ∈ l, x.data.length ≤ 281474976710656 := fun x hx => by
      obtain ⟨i, hi'⟩ := List.getElem?_of_mem hx
      have := (hla i x hi').1
      omega
    refine ⟨l, some a, m, by rw [hll]; exact hcs, ⟨by omega, by simp only [maxLen] at hm; omega, fun q => (by cases q), fun hne => ?_⟩, fun g off hne e => ?_, hd⟩
    all_goals
      obtain ⟨x0, hx0⟩ : ∃ x, l[0]? = some x := by
        cases l with
        | nil => exact absurd rfl hne
        | cons x r => exact ⟨x, rfl⟩
      obtain ⟨_, c0, _⟩ := hla 0 x0 hx0
    · obtain ⟨b, off, spot⟩ := a
      have hspot : spot = none := by simpa [Addr.add] using World.cell?_spot c0
      subst hspot
      refine ⟨b, off, rfl, ent_cells fun i x hx => ?_⟩
      obtain ⟨_, d0, d1⟩ := hla i x hx
      rw [addr_add, addr_add] at d0 d1
      exact ⟨d0, d1⟩
    · injection e with e
      subst e
      have := World.block_lt_of_cell? W _ c0
      rw [addr_add, addr_add] at this
      exact this
theorem open_snap {fuel : Nat} {cs : List Value} {y : DataW H × List MemPlace} (h : DataW.trod enc Tryz.prog W 0 (fun _ => true) true fuel 37 cs = some y) (hw : ∀ z ∈ y.1.weights Tryz.prog 37, z ≤ 140737488351232) :
    ∃ (i t : Int) (d : List UInt8), cs = [.int .i64 i, .int .i64 t, .string (str d)] ∧ Wr.InR i ∧ Wr.InR t ∧ d.length ≤ 140737488351232 := by
  obtain ⟨xs, n, rfl, hy, hlen, hxl, hf⟩ := DataW.trod_struct Tryz.underlying37 h
  rw [cellsT37] at hlen
  match cs, hlen with
  | [u0, u1, u2], _ =>
    match xs, hxl with
    | [y0, y1, y2], _ =>
      have g0 : DataW.trod enc Tryz.prog W 0 (fun _ => true) true n 2 [u0] = some y0 := by have h0 : DataW.trod enc Tryz.prog W 0 (fun _ => true) true n 2 (([u0, u1, u2].drop 0).take (Tryz.prog.cellsOf 2)) = some y0 := hf 0 _ rfl; rw [cellsT2] at h0; exact h0
      have g1 : DataW.trod enc Tryz.prog W 0 (fun _ => true) true n 2 [u1] = some y1 := by have h1 : DataW.trod enc Tryz.prog W 0 (fun _ => true) true n 2 (([u0, u1, u2].drop 1).take (Tryz.prog.cellsOf 2)) = some y1 := hf 1 _ rfl; rw [cellsT2] at h1; exact h1
      have g2 : DataW.trod enc Tryz.prog W 0 (fun _ => true) true n 9 [u2] = some y2 := by have h2 : DataW.trod enc Tryz.prog W 0 (fun _ => true) true n 9 (([u0, u1, u2].drop 2).take (Tryz.prog.cellsOf 9)) = some y2 := hf 2 _ rfl; rw [cells9] at h2; exact h2
      obtain ⟨k, e0, _, w0⟩ := DataW.trod_int Tryz.underlying2 g0
      obtain ⟨m, e1, _, w1⟩ := DataW.trod_int Tryz.underlying2 g1
      obtain ⟨s, e2, d2, _⟩ := DataW.trod_string Tryz.underlying9 g2
      simp only [List.cons.injEq, and_true] at e0 e1 e2
      subst e0 e1 e2
      have hwt : ∀ z ∈ DataW.weightsEach Tryz.prog [2, 2, 9] [y0.1, y1.1, y2.1], z ≤ 140737488351232 := by
        intro z hz
        refine hw z ?_
        rw [hy]
        show z ∈ DataW.weights Tryz.prog 37 (.agg _)
        rw [DataW.weights, Tryz.underlying37]
        exact hz
      have b2 := hwt s.data.toList.length (DataW.weights_mem_each (j := 2) (t := 9) (d := y2.1) rfl rfl _ (by rw [d2]; simp [DataW.weights]))
      exact ⟨k, m, s.data.toList, rfl, wf64 w0, wf64 w1, b2⟩
/-- an act's nine cells -/
theorem open_wact {fuel : Nat} {cs : List Value} {y : DataW H × List MemPlace} (h : DataW.trod enc Tryz.prog W 0 (fun _ => true) true fuel 40 cs = some y) (hw : ∀ z ∈ y.1.weights Tryz.prog 40, z ≤ 140737488351232) :
    ∃ (k t n f : Int) (l : List Ent) (A : Option Addr) (c : Nat) (si st : Int) (sd : List UInt8) (B : Option Addr) (nb cb : Nat),
      cs = [.int .i64 k, .int .i64 t, .int .i64 n, .int .i64 f, .slice A l.length c, .int .i64 si, .int .i64 st, .string (str sd), .slice B nb cb] ∧ EntAt W A c l ∧ (∀ g off, l ≠ [] → A = some ⟨g, off, none⟩ → g < W.heap.size) ∧
      Wr.InR k ∧ Wr.InR t ∧ Wr.InR n ∧ Wr.InR f ∧ Wr.InR si ∧ Wr.InR st ∧ (∀ x ∈ l, x.data.length ≤ 281474976710656) ∧ sd.length ≤ 281474976710656 := by
  obtain ⟨xs, n, rfl, hy, hlen, hxl, hf⟩ := DataW.trod_struct Tryz.underlying40 h
  rw [cellsT40] at hlen
  match cs, hlen with
  | [u0, u1, u2, u3, u4, u5, u6, u7, u8], _ =>
    match xs, hxl with
    | [y0, y1, y2, y3, y4, y5, y6], _ =>
      have g0 : DataW.trod enc Tryz.prog W 0 (fun _ => true) true n 3 [u0] = some y0 := by have h0 : DataW.trod enc Tryz.prog W 0 (fun _ => true) true n 3 (([u0, u1, u2, u3, u4, u5, u6, u7, u8].drop 0).take (Tryz.prog.cellsOf 3)) = some y0 := hf 0 _ rfl; rw [cells3] at h0; exact h0
      have g1 : DataW.trod enc Tryz.prog W 0 (fun _ => true) true n 2 [u1] = some y1 := by have h1 : DataW.trod enc Tryz.prog W 0 (fun _ => true) true n 2 (([u0, u1, u2, u3, u4, u5, u6, u7, u8].drop 1).take (Tryz.prog.cellsOf 2)) = some y1 := hf 1 _ rfl; rw [cellsT2] at h1; exact h1
      have g2 : DataW.trod enc Tryz.prog W 0 (fun _ => true) true n 3 [u2] = some y2 := by have h2 : DataW.trod enc Tryz.prog W 0 (fun _ => true) true n 3 (([u0, u1, u2, u3, u4, u5, u6, u7, u8].drop 2).take (Tryz.prog.cellsOf 3)) = some y2 := hf 2 _ rfl; rw [cells3] at h2; exact h2
      have g3 : DataW.trod enc Tryz.prog W 0 (fun _ => true) true n 2 [u3] = some y3 := by have h3 : DataW.trod enc Tryz.prog W 0 (fun _ => true) true n 2 (([u0, u1, u2, u3, u4, u5, u6, u7, u8].drop 3).take (Tryz.prog.cellsOf 2)) = some y3 := hf 3 _ rfl; rw [cellsT2] at h3; exact h3
      have g4 : DataW.trod enc Tryz.prog W 0 (fun _ => true) true n 35 [u4] = some y4 := by have h4 : DataW.trod enc Tryz.prog W 0 (fun _ => true) true n 35 (([u0, u1, u2, u3, u4, u5, u6, u7, u8].drop 4).take (Tryz.prog.cellsOf 35)) = some y4 := hf 4 _ rfl; rw [cellsT35] at h4; exact h4
      have g5 : DataW.trod enc Tryz.prog W 0 (fun _ => true) true n 37 [u5, u6, u7] = some y5 := by have h5 : DataW.trod enc Tryz.prog W 0 (fun _ => true) true n 37 (([u0, u1, u2, u3, u4, u5, u6, u7, u8].drop 5).take (Tryz.prog.cellsOf 37)) = some y5 := hf 5 _ rfl; rw [cellsT37] at h5; exact h5
      have g6 : DataW.trod enc Tryz.prog W 0 (fun _ => true) true n 38 [u8] = some y6 := by have h6 : DataW.trod enc Tryz.prog W 0 (fun _ => true) true n 38 (([u0, u1, u2, u3, u4, u5, u6, u7, u8].drop 8).take (Tryz.prog.cellsOf 38)) = some y6 := hf 6 _ rfl; rw [cells29] at h6; exact h6
      have hwt : ∀ z ∈ DataW.weightsEach Tryz.prog [3, 2, 3, 2, 35, 37, 38] [y0.1, y1.1, y2.1, y3.1, y4.1, y5.1, y6.1], z ≤ 140737488351232 := by
        intro z hz
        refine hw z ?_
        rw [hy]
        show z ∈ DataW.weights Tryz.prog 40 (.agg _)
        rw [DataW.weights, Tryz.underlying40]
        exact hz
      obtain ⟨k, e0, _, w0⟩ := DataW.trod_int Tryz.underlying3 g0
      obtain ⟨t, e1, _, w1⟩ := DataW.trod_int Tryz.underlying2 g1
      obtain ⟨nn, e2, _, w2⟩ := DataW.trod_int Tryz.underlying3 g2
      obtain ⟨f, e3, _, w3⟩ := DataW.trod_int Tryz.underlying2 g3
      obtain ⟨l, A, c, e4, l1, l2, l3⟩ := open_ents g4 (fun z hz => hwt z (DataW.weights_mem_each (j := 4) (t := 35) (d := y4.1) rfl rfl _ hz))
      obtain ⟨si, st, sd, e5, s1, s2, s3⟩ := open_snap g5 (fun z hz => hwt z (DataW.weights_mem_each (j := 5) (t := 37) (d := y5.1) rfl rfl _ hz))
      obtain ⟨ll, B, cb, e6, _⟩ := open_lefts g6
      simp only [List.cons.injEq, and_true] at e0 e1 e2 e3 e5
      obtain ⟨e5, e7, e8⟩ := e5
      subst e0 e1 e2 e3 e4 e5 e6 e7 e8
      exact ⟨k, t, nn, f, l, A, c, si, st, sd, B, ll.length, cb, rfl, l1, l2, wf64 w0, wf64 w1, wf64 w2, wf64 w3, s1, s2, l3, by omega⟩
theorem addr_addZ (a : Addr) (i j : Nat) (h : a.spot = none) : (a.add i).add j = ⟨a.block, a.off + i + j, none⟩ := by
  obtain ⟨b, o, s⟩ := a
  subst h
  rw [addr_add, addr_add]
end
end Go.Proofs.YtjcikhacekmcfaaGreatDoor
