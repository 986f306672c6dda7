import Derived.Test.YtlimjfnolidbmaaEc
import Derived.ProofKit
import Derived.ChangeOld
import Derived.OpenShut
import Derived.ShutString
import Derived.SizedLaws
import Derived.Deep.Slices
import Derived.Deep.Fields
import Derived.ChangeSame
import Derived.Laws.IdiomArrays
namespace Go.Proofs.Ytlimjfnolidbmaa
set_option maxRecDepth 20000
open Go.ChangeShapes Go.WideShapes Go.ChangeAt Go.RowKit Go.Deep RL
set_option linter.unusedVariables false
/-! ### arguments that came in -/
theorem cells2 : Try.prog.cellsOf 2 = 1 := by kernel_rfl
theorem cells3 : Try.prog.cellsOf 3 = 1 := by kernel_rfl
theorem cells5 : Try.prog.cellsOf 5 = 1 := by kernel_rfl
theorem cells9 : Try.prog.cellsOf 9 = 1 := by kernel_rfl
theorem cells22 : Try.prog.cellsOf 22 = 1 := by kernel_rfl
theorem cells32 : Try.prog.cellsOf 32 = 2 := by kernel_rfl
theorem cells34 : Try.prog.cellsOf 34 = 4 := by kernel_rfl
theorem cells60 : Try.prog.cellsOf 60 = 3 := by kernel_rfl
theorem cells66 : Try.prog.cellsOf 66 = 2 := by kernel_rfl
section
variable {H : Type} {enc : TypeId × Value → H} {W : World} {base : Nat}
theorem wf_of {z : Int} (h : (Lit.int .i64 z).wf = true) : I64 z := by
  simp only [Lit.wf, Bool.and_eq_true, decide_eq_true_eq] at h
  have e1 : IntKind.i64.min = -9223372036854775808 := by decide
  have e2 : IntKind.i64.max = 9223372036854775807 := by decide
  rw [e1, e2] at h
  exact h
theorem wf_u8 {z : Int} (h : (Lit.int .u8 z).wf = true) : 0 ≤ z ∧ z ≤ 255 := by
  simp only [Lit.wf, Bool.and_eq_true, decide_eq_true_eq] at h
  have e1 : IntKind.u8.min = 0 := by decide
  have e2 : IntKind.u8.max = 255 := by decide
  rw [e1, e2] at h
  exact h
theorem trod_array2 {held : Bool} {sp : Nat → Bool} {b0 : Nat} {t e : TypeId} {fuel : Nat} {c0 c1 : Value} {x : DataW H × List MemPlace} (ht : Try.prog.underlying t = some (.array 2 e)) (hce : Try.prog.cellsOf e = 1)
    (h : DataW.trod enc Try.prog W b0 sp held fuel t [c0, c1] = some x) :
    ∃ y0 y1 n, x = (.agg [y0.1, y1.1], y0.2 ++ y1.2) ∧ DataW.trod enc Try.prog W b0 sp held n e [c0] = some y0 ∧ DataW.trod enc Try.prog W b0 sp held n e [c1] = some y1 := by
  cases fuel with
  | zero => simp [DataW.trod] at h
  | succ n =>
    unfold DataW.trod at h
    rw [ht] at h
    have r3 : List.range 2 = [0, 1] := rfl
    simp [r3, hce] at h
    obtain ⟨_, h⟩ := h
    cases h0 : DataW.trod enc Try.prog W b0 sp held n e [c0] with
    | none => simp [h0] at h
    | some y0 =>
      cases h1 : DataW.trod enc Try.prog W b0 sp held n e [c1] with
      | none => simp [h0, h1] at h
      | some y1 =>
        simp [h0, h1] at h
        exact ⟨y0, y1, n, h.symm, h0, h1⟩
/-- an argument that is an array of two numbers -/
theorem ar2_arg {v : Value} {d : DataW H} {p : List MemPlace} (hv : Value.okWide Try.prog W .any base 66 v) (h : DataW.Trod enc Try.prog W 0 (fun _ => true) true 66 v d p) :
    ∃ x : Int × Int, v = .agg #[.int .i64 x.1, .int .i64 x.2] ∧ I64 x.1 ∧ I64 x.2 := by
  simp only [Value.okWide, Try.underlying66] at hv
  obtain ⟨cs, rfl, hsz, _⟩ := hv
  obtain ⟨fuel, hf⟩ := h
  obtain ⟨l⟩ := cs
  have hl : l.length = 2 := hsz.trans cells66
  match l, hl with
  | [c0, c1], _ =>
    obtain ⟨y0, y1, m, _, hy0, hy1⟩ := trod_array2 Try.underlying66 cells2 hf
    obtain ⟨k0, e0, _, hw0⟩ := DataW.trod_int Try.underlying2 hy0
    obtain ⟨k1, e1, _, hw1⟩ := DataW.trod_int Try.underlying2 hy1
    simp at e0 e1
    subst e0 e1
    exact ⟨(k0, k1), rfl, wf_of hw0, wf_of hw1⟩
theorem pick {α : Type} (n : Nat) (p : Nat → α → Prop) (h : ∀ i, i < n → ∃ a, p i a) : ∃ l : List α, l.length = n ∧ ∀ (i : Nat) (a : α), l[i]? = some a → p i a := by
  induction n with
  | zero => exact ⟨[], rfl, fun i a q => by simp at q⟩
  | succ n ih =>
    obtain ⟨l, h1, h2⟩ := ih fun i hi => h i (by omega)
    obtain ⟨a, ha⟩ := h n (by omega)
    refine ⟨l ++ [a], by simp [h1], fun i x hx => ?_⟩
    by_cases hi : i < l.length
    · rw [List.getElem?_append_left hi] at hx
      exact h2 i x hx
    · rw [List.getElem?_append_right (by omega)] at hx
      have : i - l.length = 0 := by
        have := (List.getElem?_eq_some_iff.1 hx).1
        simp at this; omega
      rw [this] at hx
      have e : i = n := by omega
      have hx : a = x := by simpa using hx
      rw [e, ← hx]; exact ha
theorem weights_all {P : Program} {e : TypeId} {ds : List (DataW H)} {d : DataW H} (h : d ∈ ds) : ∀ n ∈ d.weights P e, n ∈ DataW.weightsAll P e ds := by
  induction ds with
  | nil => cases h
  | cons x r ih =>
    intro n hn
    rw [DataW.weightsAll, List.mem_append]
    rcases List.mem_cons.1 h with rfl | h
    · exact .inl hn
    · exact .inr (ih h n hn)
theorem addr_add (b o i : Nat) : (⟨b, o, none⟩ : Addr).add i = ⟨b, o + i, none⟩ := by
  unfold Addr.add
  split
  · subst i; rfl
  · rfl
/-- what is known of a slice that came in -/
structure SlA {α : Type} (D : CT α) (W : World) (P : α → Prop) (A : Option Addr) (n c : Nat) (L : List α) : Prop where
  rd : Rd D W (fun k => k < W.heap.size) A L
  ln : L.length = n
  le : n ≤ c
  cm : c ≤ 9223372036854775807
  nn : A = none → c = 0
  all : ∀ x ∈ L, P x
theorem open_rows {α : Type} (D : CT α) (P : α → Prop) {fuel : Nat} {v : Value} {y : DataW H × List MemPlace} (hm0 : Try.prog.cellsOf D.e = D.m)
    (one : ∀ (fuel : Nat) (cs : List Value) (y : DataW H × List MemPlace), DataW.trod enc Try.prog W 0 (fun _ => true) true fuel D.e cs = some y → ∃ x, cs = D.C x ∧ P x)
    (h : DataW.trod enc Try.prog W 0 (fun _ => true) true fuel D.t [v] = some y) : ∃ (A : Option Addr) (n c : Nat) (L : List α), v = .slice A n c ∧ SlA D W P A n c L := by
  rcases open_slice D.und h with ⟨hcs, hx⟩ | ⟨a, len, cap, m, n, DD, Pl, hcs, _, hl, hm, hmm, hx, hi⟩
  · simp only [List.cons.injEq, and_true] at hcs
    exact ⟨none, 0, 0, [], hcs, Rd.nil _ _ _ _, rfl, Nat.le_refl _, by omega, fun _ => rfl, fun x hx => by cases hx⟩
  · simp only [List.cons.injEq, and_true] at hcs
    simp only [if_true] at hmm
    subst hmm
    rw [hm0] at hi
    have each : ∀ i, i < len → ∃ x : α, P x ∧ ∀ q u, (D.C x)[q]? = some u → W.cell? ((a.add (i * D.m)).add q) = some u := by
      intro i hil
      obtain ⟨cs', hc, ht⟩ := hi i (by omega)
      obtain ⟨_, hcl, hat⟩ := World.cells?_some hc
      obtain ⟨x, rfl, hok⟩ := one _ _ _ ht
      refine ⟨x, hok, fun q u hu => ?_⟩
      have hq : q < D.m := by rw [← D.len x]; exact (List.getElem?_eq_some_iff.1 hu).1
      exact (hat q hq).trans hu
    obtain ⟨l, hll, hla⟩ := pick len _ each
    refine ⟨some a, len, m, l, hcs, fun hne => ?_, hll, hl, by simp only [maxLen] at hm; omega, fun h => (by cases h), fun n hn => ?_⟩
    · obtain ⟨x0, hx0⟩ : ∃ x, l[0]? = some x := by
        cases l with
        | nil => exact absurd rfl hne
        | cons x r => exact ⟨x, rfl⟩
      obtain ⟨_, hc0⟩ := hla 0 x0 hx0
      have h0 : 0 < (D.C x0).length := by rw [D.len]; exact D.pos
      have c0 := hc0 0 _ (List.getElem?_eq_getElem h0)
      obtain ⟨b, off, spot⟩ := a
      have hspot : spot = none := by simpa [Addr.add] using World.cell?_spot c0
      subst hspot
      have hlt := World.block_lt_of_cell? W _ c0
      rw [addr_add, addr_add] at hlt
      refine ⟨b, off, rfl, hlt, hlt, fun i x hx q u hu => ?_⟩
      obtain ⟨hok, hd⟩ := hla i x hx
      have := hd q u hu
      rw [addr_add, addr_add] at this
      exact this
    · obtain ⟨i, hi', rfl⟩ := List.getElem_of_mem hn
      exact (hla i _ (List.getElem?_eq_getElem hi')).1
def EnOk (x : En) : Prop := I64 x.t
theorem open_en (fuel : Nat) (cs : List Value) (y : DataW H × List MemPlace) (h : DataW.trod enc Try.prog W 0 (fun _ => true) true fuel 32 cs = some y) : ∃ x : En, cs = DE.C x ∧ EnOk x := by
  obtain ⟨xs, n, rfl, hy, hlen, hxl, hf⟩ := DataW.trod_struct Try.underlying32 h
  rw [cells32] at hlen
  match cs, hlen with
  | [u0, u1], _ =>
    match xs, hxl with
    | [y0, y1], _ =>
      have g0 : DataW.trod enc Try.prog W 0 (fun _ => true) true n 2 [u0] = some y0 := by have q : DataW.trod enc Try.prog W 0 (fun _ => true) true n 2 (([u0, u1].drop 0).take (Try.prog.cellsOf 2)) = some y0 := hf 0 _ rfl; rw [cells2] at q; exact q
      have g1 : DataW.trod enc Try.prog W 0 (fun _ => true) true n 9 [u1] = some y1 := by have q : DataW.trod enc Try.prog W 0 (fun _ => true) true n 9 (([u0, u1].drop 1).take (Try.prog.cellsOf 9)) = some y1 := hf 1 _ rfl; rw [cells9] at q; exact q
      obtain ⟨k0, e0, _, w0⟩ := DataW.trod_int Try.underlying2 g0
      obtain ⟨k1, e1, _⟩ := DataW.trod_string Try.underlying9 g1
      simp only [List.cons.injEq, and_true] at e0 e1
      subst e0 e1
      exact ⟨⟨k0, k1⟩, rfl, wf_of w0⟩
theorem ents_of {fuel : Nat} {v : Value} {y : DataW H × List MemPlace} (h : DataW.trod enc Try.prog W 0 (fun _ => true) true fuel 22 [v] = some y) : ∃ (A : Option Addr) (n c : Nat) (L : List En), v = .slice A n c ∧ SlA DE W EnOk A n c L :=
  open_rows DE EnOk cells32 open_en h
/-- an argument that is a slice of entries -/
theorem ents_arg {v : Value} {d : DataW H} {p : List MemPlace} (hv : Value.okWide Try.prog W .any base 22 v) (h : DataW.Trod enc Try.prog W 0 (fun _ => true) true 22 v d p) : ∃ (A : Option Addr) (n c : Nat) (L : List En), v = .slice A n c ∧ SlA DE W EnOk A n c L := by
  obtain ⟨A, n, c, rfl⟩ := okWide_slice Try.underlying22 hv
  obtain ⟨fuel, hf⟩ := h
  exact ents_of hf
end
end Go.Proofs.Ytlimjfnolidbmaa
