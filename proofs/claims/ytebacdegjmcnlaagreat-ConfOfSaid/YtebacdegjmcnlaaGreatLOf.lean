/-
  Arguments that came in, opened. No condition.
-/
import Derived.Test.YtebacdegjmcnlaaGreatQDd
import Derived.ProofKit
import Derived.ChangeOld
import Derived.OpenShut
import Derived.ShutString
import Derived.SizedLaws
import Derived.Deep.Slices
import Derived.Deep.Fields
import Derived.ChangeSame
import Derived.Laws.IdiomArrays
namespace Go.Proofs.YtebacdegjmcnlaaGreat
set_option maxRecDepth 20000
open Go.ChangeShapes Go.WideShapes Go.ChangeAt Go.RowKit Go.Deep
set_option linter.unusedVariables false
/-! ### arguments that came in -/
section
variable {H : Type} {enc : TypeId × Value → H} {W : World} {base : Nat}
theorem wf_of {z : Int} (h : (Lit.int .i64 z).wf = true) : InR z := by
  simp only [Lit.wf, Bool.and_eq_true, decide_eq_true_eq] at h
  have e1 : IntKind.i64.min = -9223372036854775808 := by decide
  have e2 : IntKind.i64.max = 9223372036854775807 := by decide
  rw [e1, e2] at h
  exact h
theorem wf_u8 {z : Int} (h : (Lit.int .u8 z).wf = true) : 0 ≤ z ∧ z ≤ 255 := by
  simp only [Lit.wf, Bool.and_eq_true, decide_eq_true_eq] at h
  have e1 : IntKind.u8.min = 0 := by decide
  have e2 : IntKind.u8.max = 255 := by decide
  rw [e1, e2] at h
  exact h
theorem pick {α : Type} (n : Nat) (p : Nat → α → Prop) (h : ∀ i, i < n → ∃ a, p i a) : ∃ l : List α, l.length = n ∧ ∀ (i : Nat) (a : α), l[i]? = some a → p i a := by
  induction n with
  | zero => exact ⟨[], rfl, fun i a q => by simp at q⟩
  | succ n ih =>
    obtain ⟨l, h1, h2⟩ := ih fun i hi => h i (by omega)
    obtain ⟨a, ha⟩ := h n (by omega)
    refine ⟨l ++ [a], by simp [h1], fun i x hx => ?_⟩
    by_cases hi : i < l.length
    · rw [List.getElem?_append_left hi] at hx
      exact h2 i x hx
    · rw [List.getElem?_append_right (by omega)] at hx
      have : i - l.length = 0 := by
        have := (List.getElem?_eq_some_iff.1 hx).1
        simp at this; omega
      rw [this] at hx
      have e : i = n := by omega
      have hx : a = x := by simpa using hx
      rw [e, ← hx]; exact ha
theorem weights_all {P : Program} {e : TypeId} {ds : List (DataW H)} {d : DataW H} (h : d ∈ ds) : ∀ n ∈ d.weights P e, n ∈ DataW.weightsAll P e ds := by
  induction ds with
  | nil => cases h
  | cons x r ih =>
    intro n hn
    rw [DataW.weightsAll, List.mem_append]
    rcases List.mem_cons.1 h with rfl | h
    · exact .inl hn
    · exact .inr (ih h n hn)
theorem addr_add (b o i : Nat) : (⟨b, o, none⟩ : Addr).add i = ⟨b, o + i, none⟩ := by
  unfold Addr.add
  split
  · subst i; rfl
  · rfl
/-- what is known of a slice that came in -/
structure SlA {α : Type} (D : CT α) (W : World) (P : α → Prop) (A : Option Addr) (n c : Nat) (L : List α) : Prop where
  rd : Rd D W (fun k => k < W.heap.size) A L
  ln : L.length = n
  le : n ≤ c
  cm : c ≤ 9223372036854775807
  nn : A = none → c = 0
  all : ∀ x ∈ L, P x
theorem open_rowsW {α : Type} (D : CT α) (P : α → Prop) {fuel : Nat} {v : Value} {y : DataW H × List MemPlace} (hm0 : Tryz.prog.cellsOf D.e = D.m) (hwt : ∀ z ∈ y.1.weights Tryz.prog D.t, z ≤ 140737488351232)
    (one : ∀ (fuel : Nat) (cs : List Value) (y : DataW H × List MemPlace), DataW.trod enc Tryz.prog W 0 (fun _ => true) true fuel D.e cs = some y → (∀ z ∈ y.1.weights Tryz.prog D.e, z ≤ 140737488351232) → ∃ x, cs = D.C x ∧ P x)
    (h : DataW.trod enc Tryz.prog W 0 (fun _ => true) true fuel D.t [v] = some y) : ∃ (A : Option Addr) (n c : Nat) (L : List α), v = .slice A n c ∧ SlA D W P A n c L := by
  rcases open_slice D.und h with ⟨hcs, hx⟩ | ⟨a, len, cap, m, n, DD, Pl, hcs, _, hl, hm, hmm, hx, hi⟩
  · simp only [List.cons.injEq, and_true] at hcs
    exact ⟨none, 0, 0, [], hcs, Rd.nil _ _ _ _, rfl, Nat.le_refl _, by omega, fun _ => rfl, fun x hx => by cases hx⟩
  · simp only [List.cons.injEq, and_true] at hcs
    simp only [if_true] at hmm
    subst hmm
    rw [hm0] at hi
    have each : ∀ i, i < len → ∃ x : α, P x ∧ ∀ q u, (D.C x)[q]? = some u → W.cell? ((a.add (i * D.m)).add q) = some u := by
      intro i hil
      obtain ⟨cs', hc, ht⟩ := hi i (by omega)
      obtain ⟨_, hcl, hat⟩ := World.cells?_some hc
      obtain ⟨x, rfl, hok⟩ := one _ _ _ ht (fun z hz => hwt z (by
        rw [hx]
        show z ∈ DataW.weights Tryz.prog D.t (.slice _ _)
        rw [DataW.weights, D.und]
        refine List.mem_cons_of_mem _ (List.mem_append_left _ (weights_all ?_ z hz))
        exact List.mem_map.2 ⟨i, List.mem_range.2 (by omega), rfl⟩))
      refine ⟨x, hok, fun q u hu => ?_⟩
      have hq : q < D.m := by rw [← D.len x]; exact (List.getElem?_eq_some_iff.1 hu).1
      exact (hat q hq).trans hu
    obtain ⟨l, hll, hla⟩ := pick len _ each
    refine ⟨some a, len, m, l, hcs, fun hne => ?_, hll, hl, by simp only [maxLen] at hm; omega, fun h => (by cases h), fun n hn => ?_⟩
    · obtain ⟨x0, hx0⟩ : ∃ x, l[0]? = some x := by
        cases l with
        | nil => exact absurd rfl hne
        | cons x r => exact ⟨x, rfl⟩
      obtain ⟨_, hc0⟩ := hla 0 x0 hx0
      have h0 : 0 < (D.C x0).length := by rw [D.len]; exact D.pos
      have c0 := hc0 0 _ (List.getElem?_eq_getElem h0)
      obtain ⟨b, off, spot⟩ := a
      have hspot : spot = none := by simpa [Addr.add] using World.cell?_spot c0
      subst hspot
      have hlt := World.block_lt_of_cell? W _ c0
      rw [addr_add, addr_add] at hlt
      refine ⟨b, off, rfl, hlt, hlt, fun i x hx q u hu => ?_⟩
      obtain ⟨hok, hd⟩ := hla i x hx
      have := hd q u hu
      rw [addr_add, addr_add] at this
      exact this
    · obtain ⟨i, hi', rfl⟩ := List.getElem_of_mem hn
      exact (hla i _ (List.getElem?_eq_getElem hi')).1
theorem cells2 : Tryz.prog.cellsOf 2 = 1 := by kernel_rfl
theorem cells9 : Tryz.prog.cellsOf 9 = 1 := by kernel_rfl
theorem cells42 : Tryz.prog.cellsOf 42 = 2 := by kernel_rfl
def EnOk (x : En) : Prop := x.d.size ≤ 281474976710656
theorem open_en (fuel : Nat) (cs : List Value) (y : DataW H × List MemPlace) (h : DataW.trod enc Tryz.prog W 0 (fun _ => true) true fuel 42 cs = some y) (hw : ∀ z ∈ y.1.weights Tryz.prog 42, z ≤ 140737488351232) : ∃ x : En, cs = DE.C x ∧ EnOk x := by
  obtain ⟨xs, n, rfl, hy, hlen, hxl, hf⟩ := DataW.trod_struct Tryz.underlying42 h
  rw [cells42] at hlen
  match cs, hlen with
  | [u0, u1], _ =>
    match xs, hxl with
    | [y0, y1], _ =>
      have g0 : DataW.trod enc Tryz.prog W 0 (fun _ => true) true n 2 [u0] = some y0 := by have q : DataW.trod enc Tryz.prog W 0 (fun _ => true) true n 2 (([u0, u1].drop 0).take (Tryz.prog.cellsOf 2)) = some y0 := hf 0 _ rfl; rw [cells2] at q; exact q
      have g1 : DataW.trod enc Tryz.prog W 0 (fun _ => true) true n 9 [u1] = some y1 := by have q : DataW.trod enc Tryz.prog W 0 (fun _ => true) true n 9 (([u0, u1].drop 1).take (Tryz.prog.cellsOf 9)) = some y1 := hf 1 _ rfl; rw [cells9] at q; exact q
      obtain ⟨k0, e0, _, w0⟩ := DataW.trod_int Tryz.underlying2 g0
      obtain ⟨k1, e1, d1, _⟩ := DataW.trod_string Tryz.underlying9 g1
      simp only [List.cons.injEq, and_true] at e0 e1
      subst e0 e1
      have hwt : ∀ z ∈ DataW.weightsEach Tryz.prog [2, 9] [y0.1, y1.1], z ≤ 140737488351232 := by
        intro z hz
        refine hw z ?_
        rw [hy]
        show z ∈ DataW.weights Tryz.prog 42 (.agg _)
        rw [DataW.weights, Tryz.underlying42]
        exact hz
      have b1 := hwt k1.data.toList.length (DataW.weights_mem_each (j := 1) (t := 9) (d := y1.1) rfl rfl _ (by rw [d1]; simp [DataW.weights]))
      refine ⟨⟨k0, k1⟩, rfl, ?_⟩
      unfold EnOk
      rw [show k1.data.toList.length = k1.size by simp only [Array.length_toList]; rfl] at b1
      show k1.size ≤ _
      omega
/-- an argument that is a slice of entries -/
theorem entsW_arg {v : Value} {d : DataW H} {p : List MemPlace} (hv : Value.okWide Tryz.prog W .any base 22 v) (h : DataW.Trod enc Tryz.prog W 0 (fun _ => true) true 22 v d p) (hw : ∀ z ∈ d.weights Tryz.prog 22, z ≤ 140737488351232) : ∃ (A : Option Addr) (n c : Nat) (L : List En), v = .slice A n c ∧ SlA DE W EnOk A n c L := by
  obtain ⟨A, n, c, rfl⟩ := okWide_slice Tryz.underlying22 hv
  obtain ⟨fuel, hf⟩ := h
  exact open_rowsW (y := (d, p)) DE EnOk cells42 hw open_en hf
end
set_option maxHeartbeats 1000000 in
theorem law_of (m : Int) (A : Option Addr) (n c : Nat) (L : List En) (w : World) (_ : -9223372036854775808 ≤ m) (_ : m ≤ 9223372036854775807) (hs : SlA DE w EnOk A n c L) :
    Calls Tryz.prog 3 #[.int .i64 m, .slice A n c] w (RetBelow (.bool true) w) := by
  have HK := Lib.hid awake_any
  have B : Hid (Below w.heap.size w w) := Lib.hid (Below.refl _ _)
  by_cases h200 : (200 : Int) < n
  · have g0 : decide ((200 : Int) < n) = true := decide_eq_true h200
    clear hs
    go_enter Tryz.func3, Tryz.ntmps3
    go_wp2_with (go_at_call 4; (with_reducible refine (HK.out _).mono ?_); rintro e w1 ⟨rfl, hb⟩; have B := Lib.hid (B.out.trans (hb.mono B.out.size)); clear hb)
    refine bodyPost_ret (results_tmp (fn := Tryz.f3) (t := 4) rfl _ _ _) rfl ?_
    exact ⟨rfl, B.out⟩
  have g0 : decide ((200 : Int) < n) = false := decide_eq_false h200
  have HA : Hid (∀ X, Below w.heap.size w X → Calls Tryz.prog 5 #[.int .i64 m, .slice A n c] X (RetBelow (.int .i64 (confOf m L)) X)) := Lib.hid fun X hX => confOf_any (c := c) m (hs.rd.below hX) hs.ln (by omega) hs.all
  have HB : Hid (∀ X, Below w.heap.size w X → Calls Tryz.prog 6 #[.int .i64 m, .slice A n c] X (RetBelow (.int .i64 (confOf m L)) X)) := Lib.hid fun X hX => rOf_any (c := c) m (hs.rd.below hX) hs.ln (by omega) hs.all
  generalize confOf m L = x at *
  clear hs
  go_enter Tryz.func3, Tryz.ntmps3
  go_wp2_with (first
    | (go_at_call 6; (with_reducible refine (HB.out _ B.out).mono ?_); rintro e w1 ⟨rfl, hb⟩; have B := Lib.hid (B.out.trans (hb.mono B.out.size)); clear hb)
    | (go_at_call 5; (with_reducible refine (HA.out _ B.out).mono ?_); rintro e w1 ⟨rfl, hb⟩; have B := Lib.hid (B.out.trans (hb.mono B.out.size)); clear hb)
    | (go_at_call 4; (with_reducible refine (HK.out _).mono ?_); rintro e w1 ⟨rfl, hb⟩; have B := Lib.hid (B.out.trans (hb.mono B.out.size)); clear hb))
  refine bodyPost_ret (results_tmp (fn := Tryz.f3) (t := 4) rfl _ _ _) rfl ?_
  exact ⟨rfl, B.out⟩
end Go.Proofs.YtebacdegjmcnlaaGreat
