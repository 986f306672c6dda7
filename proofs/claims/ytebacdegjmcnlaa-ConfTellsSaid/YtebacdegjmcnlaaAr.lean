/-
  Arguments that came in, opened. No condition.
-/
import Derived.Test.YtebacdegjmcnlaaLRe
import Derived.ProofKit
import Derived.ChangeOld
import Derived.OpenShut
import Derived.ShutString
import Derived.SizedLaws
import Derived.Deep.Slices
import Derived.Deep.Fields
import Derived.ChangeSame
import Derived.Laws.IdiomArrays
namespace Go.Proofs.Ytebacdegjmcnlaa
set_option maxRecDepth 20000
open Go.ChangeShapes Go.WideShapes Go.ChangeAt Go.RowKit Go.Deep
set_option linter.unusedVariables false
/-! ### arguments that came in -/
section
variable {H : Type} {enc : TypeId × Value → H} {W : World} {base : Nat}
theorem wf_of {z : Int} (h : (Lit.int .i64 z).wf = true) : InR z := by
  simp only [Lit.wf, Bool.and_eq_true, decide_eq_true_eq] at h
  have e1 : IntKind.i64.min = -9223372036854775808 := by decide
  have e2 : IntKind.i64.max = 9223372036854775807 := by decide
  rw [e1, e2] at h
  exact h
theorem wf_u8 {z : Int} (h : (Lit.int .u8 z).wf = true) : 0 ≤ z ∧ z ≤ 255 := by
  simp only [Lit.wf, Bool.and_eq_true, decide_eq_true_eq] at h
  have e1 : IntKind.u8.min = 0 := by decide
  have e2 : IntKind.u8.max = 255 := by decide
  rw [e1, e2] at h
  exact h
theorem pick {α : Type} (n : Nat) (p : Nat → α → Prop) (h : ∀ i, i < n → ∃ a, p i a) : ∃ l : List α, l.length = n ∧ ∀ (i : Nat) (a : α), l[i]? = some a → p i a := by
  induction n with
  | zero => exact ⟨[], rfl, fun i a q => by simp at q⟩
  | succ n ih =>
    obtain ⟨l, h1, h2⟩ := ih fun i hi => h i (by omega)
    obtain ⟨a, ha⟩ := h n (by omega)
    refine ⟨l ++ [a], by simp [h1], fun i x hx => ?_⟩
    by_cases hi : i < l.length
    · rw [List.getElem?_append_left hi] at hx
      exact h2 i x hx
    · rw [List.getElem?_append_right (by omega)] at hx
      have : i - l.length = 0 := by
        have := (List.getElem?_eq_some_iff.1 hx).1
        simp at this; omega
      rw [this] at hx
      have e : i = n := by omega
      have hx : a = x := by simpa using hx
      rw [e, ← hx]; exact ha
theorem weights_all {P : Program} {e : TypeId} {ds : List (DataW H)} {d : DataW H} (h : d ∈ ds) : ∀ n ∈ d.weights P e, n ∈ DataW.weightsAll P e ds := by
  induction ds with
  | nil => cases h
  | cons x r ih =>
    intro n hn
    rw [DataW.weightsAll, List.mem_append]
    rcases List.mem_cons.1 h with rfl | h
    · exact .inl hn
    · exact .inr (ih h n hn)
theorem addr_add (b o i : Nat) : (⟨b, o, none⟩ : Addr).add i = ⟨b, o + i, none⟩ := by
  unfold Addr.add
  split
  · subst i; rfl
  · rfl
/-- what is known of a slice that came in -/
structure SlA {α : Type} (D : CT α) (W : World) (P : α → Prop) (A : Option Addr) (n c : Nat) (L : List α) : Prop where
  rd : Rd D W (fun k => k < W.heap.size) A L
  ln : L.length = n
  le : n ≤ c
  cm : c ≤ 9223372036854775807
  nn : A = none → c = 0
  all : ∀ x ∈ L, P x
theorem open_rows {α : Type} (D : CT α) (P : α → Prop) {fuel : Nat} {v : Value} {y : DataW H × List MemPlace} (hm0 : Try.prog.cellsOf D.e = D.m)
    (one : ∀ (fuel : Nat) (cs : List Value) (y : DataW H × List MemPlace), DataW.trod enc Try.prog W 0 (fun _ => true) true fuel D.e cs = some y → ∃ x, cs = D.C x ∧ P x)
    (h : DataW.trod enc Try.prog W 0 (fun _ => true) true fuel D.t [v] = some y) : ∃ (A : Option Addr) (n c : Nat) (L : List α), v = .slice A n c ∧ SlA D W P A n c L := by
  rcases open_slice D.und h with ⟨hcs, hx⟩ | ⟨a, len, cap, m, n, DD, Pl, hcs, _, hl, hm, hmm, hx, hi⟩
  · simp only [List.cons.injEq, and_true] at hcs
    exact ⟨none, 0, 0, [], hcs, Rd.nil _ _ _ _, rfl, Nat.le_refl _, by omega, fun _ => rfl, fun x hx => by cases hx⟩
  · simp only [List.cons.injEq, and_true] at hcs
    simp only [if_true] at hmm
    subst hmm
    rw [hm0] at hi
    have each : ∀ i, i < len → ∃ x : α, P x ∧ ∀ q u, (D.C x)[q]? = some u → W.cell? ((a.add (i * D.m)).add q) = some u := by
      intro i hil
      obtain ⟨cs', hc, ht⟩ := hi i (by omega)
      obtain ⟨_, hcl, hat⟩ := World.cells?_some hc
      obtain ⟨x, rfl, hok⟩ := one _ _ _ ht
      refine ⟨x, hok, fun q u hu => ?_⟩
      have hq : q < D.m := by rw [← D.len x]; exact (List.getElem?_eq_some_iff.1 hu).1
      exact (hat q hq).trans hu
    obtain ⟨l, hll, hla⟩ := pick len _ each
    refine ⟨some a, len, m, l, hcs, fun hne => ?_, hll, hl, by simp only [maxLen] at hm; omega, fun h => (by cases h), fun n hn => ?_⟩
    · obtain ⟨x0, hx0⟩ : ∃ x, l[0]? = some x := by
        cases l with
        | nil => exact absurd rfl hne
        | cons x r => exact ⟨x, rfl⟩
      obtain ⟨_, hc0⟩ := hla 0 x0 hx0
      have h0 : 0 < (D.C x0).length := by rw [D.len]; exact D.pos
      have c0 := hc0 0 _ (List.getElem?_eq_getElem h0)
      obtain ⟨b, off, spot⟩ := a
      have hspot : spot = none := by simpa [Addr.add] using World.cell?_spot c0
      subst hspot
      have hlt := World.block_lt_of_cell? W _ c0
      rw [addr_add, addr_add] at hlt
      refine ⟨b, off, rfl, hlt, hlt, fun i x hx q u hu => ?_⟩
      obtain ⟨hok, hd⟩ := hla i x hx
      have := hd q u hu
      rw [addr_add, addr_add] at this
      exact this
    · obtain ⟨i, hi', rfl⟩ := List.getElem_of_mem hn
      exact (hla i _ (List.getElem?_eq_getElem hi')).1
theorem cells2 : Try.prog.cellsOf 2 = 1 := by kernel_rfl
theorem open_i64 (fuel : Nat) (cs : List Value) (y : DataW H × List MemPlace) (h : DataW.trod enc Try.prog W 0 (fun _ => true) true fuel 2 cs = some y) : ∃ x : Int, cs = DL.C x ∧ InR x := by
  obtain ⟨k0, e0, _, w0⟩ := DataW.trod_int Try.underlying2 h
  exact ⟨k0, e0, wf_of w0⟩
/-- an argument that is a slice of numbers -/
theorem i64s_arg {v : Value} {d : DataW H} {p : List MemPlace} (hv : Value.okWide Try.prog W .any base 22 v) (h : DataW.Trod enc Try.prog W 0 (fun _ => true) true 22 v d p) : ∃ (A : Option Addr) (n c : Nat) (L : List Int), v = .slice A n c ∧ SlA DL W InR A n c L := by
  obtain ⟨A, n, c, rfl⟩ := okWide_slice Try.underlying22 hv
  obtain ⟨fuel, hf⟩ := h
  exact open_rows DL InR cells2 open_i64 hf
end
theorem law_reached2 (m : Int) (A : Option Addr) (n c : Nat) (L : List Int) (who more : Int) (w : World) (h1 : -9223372036854775808 ≤ m) (h2 : m ≤ 9223372036854775807) (hs : SlA DL w InR A n c L) (h3 : 0 ≤ who) (h4 : who ≤ 255) (h5 : 0 ≤ more) (h6 : more ≤ 65535) :
    Calls Try.prog 5 #[.int .i64 m, .slice A n c, .int .u8 who, .int .u16 more] w (RetBelow (.bool true) w) := law_reached m who more w h1 h2 hs.rd hs.ln h3 h4 h5 h6
end Go.Proofs.Ytebacdegjmcnlaa
