import Derived.Test.YtipclhklkngamaaNp
import Derived.Carry
import Derived.Maps.RangeWalk
import Derived.Maps.OwnOps
import Derived.WideKeyEntry
import Derived.DeepKeys4
namespace Go.Proofs.Ytipclhklkngamaa
open Go.RowKit
open Go.Maps (Keyed)
set_option linter.unusedVariables false

/-! ### a map of letters to numbers -/
theorem laidOut0 : laidOutB Try.prog = true := by kernel_rfl
theorem klaw32 : WideMaps.KeyLaw Try.prog 32 := deep_law_laid laidOut0 (m := 3) (by omega) (of_decide_eq_true (by kernel_rfl)) (by kernel_rfl) (by kernel_rfl)
theorem law32 : Keyed Try.prog 32 := Keyed.of_law klaw32
def Good (l : Let) : Prop := Fit l ∧ l.b.size ≤ maxLen
theorem wf_i64 {n : Int} (h0 : -9223372036854775808 ≤ n) (h1 : n ≤ 9223372036854775807) : (Lit.int .i64 n).wf = true := by
  simp only [Lit.wf, Bool.and_eq_true, decide_eq_true_eq]
  have e1 : IntKind.i64.min = -9223372036854775808 := by decide
  have e2 : IntKind.i64.max = 9223372036854775807 := by decide
  rw [e1, e2]
  exact ⟨h0, h1⟩
theorem key_some {l : Let} (h : Good l) : ∃ kl, keyOf Try.prog 32 (letV l) = some kl := by
  obtain ⟨hf, hb⟩ := h
  have h32 : 32 < Try.prog.types.size := of_decide_eq_true (by kernel_rfl)
  obtain ⟨d, hd⟩ : ∃ d, Try.prog.types.size = d + 1 := ⟨_, (Nat.succ_pred_eq_of_pos (by omega)).symm⟩
  have w1 := wf_i64 hf.f0 hf.f1
  have w2 := wf_i64 hf.t0 hf.t1
  have hk : Try.prog.keyType 32 = true := by kernel_rfl
  have c32 : Try.prog.cellsOf 32 = 3 := by kernel_rfl
  have c3 : Try.prog.cellsOf 3 = 1 := by kernel_rfl
  have c9 : Try.prog.cellsOf 9 = 1 := by kernel_rfl
  obtain ⟨f, t, b⟩ := l
  dsimp only at *
  unfold keyOf letV
  rw [hd]
  simp [Try.underlying32, hk, Value.formed, c32, Value.cells, Program.keyLits, c3, c9, Try.underlying3, Try.underlying9, w1, w2, hb]
noncomputable def kl (l : Let) : Lit := (keyOf Try.prog 32 (letV l)).getD (.bool false)
theorem key_is {l : Let} (h : Good l) : keyOf Try.prog 32 (letV l) = some (kl l) := by
  obtain ⟨k, hk⟩ := key_some h
  unfold kl
  rw [hk]; rfl
theorem kl_inj {a b : Let} (ha : Good a) (hb : Good b) (h : kl a = kl b) : a = b := by
  have := law32.inj (key_is ha) (h ▸ key_is hb)
  obtain ⟨f, t, x⟩ := a
  obtain ⟨f', t', x'⟩ := b
  unfold letV at this
  simpa using this
noncomputable abbrev RI : Value → Option (DataW Value × List MemPlace) := plainElem Try.prog 3
theorem zero3 (w : World) : (zeroValue 3).run Try.prog w = .ok (.int .i64 0) w := by kernel_rfl
theorem ri_int {a : Int} (h0 : -9223372036854775808 ≤ a) (h1 : a ≤ 9223372036854775807) : RI (.int .i64 a) = some (.lit (.int .i64 a), []) := plainElem_int Try.underlying3 (wf_i64 h0 h1)
abbrev Has (w : World) (b n : Nat) (D : DataW Value) : Prop := w.ownsMap Try.prog 32 RI b n D
theorem Has.keep {w w' : World} {b n : Nat} {D : DataW Value} (h : Has w b n D) (hk : w'.heap[b]? = w.heap[b]?) : Has w' b n D := by
  obtain ⟨es, clock, h1, h2⟩ := h
  exact ⟨es, clock, hk.trans h1, h2⟩
/-- the map's entry of a key, made if it isn't there: what is looked up stays; and a store into it -/
theorem Has.entry {w : World} {b n : Nat} {D : DataW Value} (h : Has w b n D) (hn : n < maxLen) {l : Let} (hl : Good l) :
    ∃ (v0 : Value) (st : Nat) (o1 : Obj) (D1 : DataW Value), (Instr.mapEntry 44 (.map (some b)) (letV l)).run Try.prog w = .ok (.tuple #[v0, .int .i64 (st : Nat)]) (ChangeMaps.setBlock w b o1) ∧ (ChangeMaps.setBlock w b o1).heap[b]? = some o1 ∧ (∀ i, i ≠ b → (ChangeMaps.setBlock w b o1).heap[i]? = w.heap[i]?) ∧
      Has (ChangeMaps.setBlock w b o1) b (n + 1) D1 ∧ (∀ x, Good x → D1.atKey (kl x) (.lit (.int .i64 0)) = D.atKey (kl x) (.lit (.int .i64 0))) ∧
      ∀ (w2 : World) (a : Int), -9223372036854775808 ≤ a → a ≤ 9223372036854775807 → w2.heap[b]? = some o1 → ∃ o2, (Instr.entryStore 44 (.map (some b)) (.int .i64 (st : Nat)) (.int .i64 a)).run Try.prog w2 = .ok () (ChangeMaps.setBlock w2 b o2) ∧
        Has (ChangeMaps.setBlock w2 b o2) b (n + 1) (D.put (kl l) (.lit (.int .i64 a))) ∧ ∀ i, i ≠ b → (ChangeMaps.setBlock w2 b o2).heap[i]? = w2.heap[i]? := by
  have h0 := h
  obtain ⟨es, clock, hb, F, hsz, hD⟩ := h
  obtain ⟨v0, st, es1, clock1, hrun, hv0, hst⟩ := WideElems.entry_then_store (t := 44) (e := 3) klaw32 Try.underlying44 (z := .int .i64 0) zero3 hb F (key_is hl)
  have hsame := ChangeMaps.heap_setBlock_same hb (.map es1 clock1)
  refine ⟨v0, st, .map es1 clock1, ?_⟩
  have hstore : ∀ (w2 : World) (a : Int), -9223372036854775808 ≤ a → a ≤ 9223372036854775807 → w2.heap[b]? = some (.map es1 clock1) → ∃ o2, (Instr.entryStore 44 (.map (some b)) (.int .i64 (st : Nat)) (.int .i64 a)).run Try.prog w2 = .ok () (ChangeMaps.setBlock w2 b o2) ∧
      Has (ChangeMaps.setBlock w2 b o2) b (n + 1) (D.put (kl l) (.lit (.int .i64 a))) ∧ ∀ i, i ≠ b → (ChangeMaps.setBlock w2 b o2).heap[i]? = w2.heap[i]? := by
    intro w2 a a0 a1 hw2
    obtain ⟨es', clock', r1, r2⟩ := hst w2 (.int .i64 a) hw2
    obtain ⟨w', u1, u2, _⟩ := World.ownsMap.update (t := 44) (e := 3) h0 law32 Try.underlying44 hn (key_is hl) (ri_int a0 a1)
    rw [r2] at u1
    injection u1 with _ u1
    subst u1
    have q1 := ChangeMaps.heap_setBlock_same hb (.map es' clock')
    have q2 := ChangeMaps.heap_setBlock_same hw2 (.map es' clock')
    exact ⟨_, r1, Has.keep u2 (q2.trans q1.symm), fun i hi => ChangeMaps.heap_setBlock_other hw2 _ hi⟩
  rcases law32.find w (key_is hl) es.toList F.keys with ⟨f1, f2⟩ | ⟨j, e0, f1, f2, f3⟩
  · -- no entry yet: one is made, and holds 0
    have e1 : (Instr.mapEntry 44 (.map (some b)) (letV l)).run Try.prog w = .ok (.tuple #[.int .i64 0, goInt clock]) (ChangeMaps.setBlock w b (.map (es.push ⟨letV l, .int .i64 0, clock⟩) (clock + 1))) := by
      simp [Instr.mapEntry, run_underlying Try.underlying44, MapKept.run_getObj_map hb, law32.check w false (key_is hl), f1, MapKept.run_setObj_map _ hb, Result.andThen, ChangeMaps.setBlock]
    have e2 : (Instr.mapUpdate 44 (.map (some b)) (letV l) (.int .i64 0)).run Try.prog w = .ok () (ChangeMaps.setBlock w b (.map (es.push ⟨letV l, .int .i64 0, clock⟩) (clock + 1))) := by
      simp [Instr.mapUpdate, run_underlying Try.underlying44, MapKept.run_getObj_map hb, law32.check w false (key_is hl), f1, MapKept.run_setObj_map _ hb, Result.andThen, ChangeMaps.setBlock]
    rw [hrun] at e1
    injection e1 with _ e1
    obtain ⟨w', u1, u2, _⟩ := World.ownsMap.update (t := 44) (e := 3) h0 law32 Try.underlying44 hn (key_is hl) (ri_int (a := 0) (by decide) (by decide))
    rw [e2] at u1
    injection u1 with _ u1
    rw [← e1] at u1
    subst u1
    refine ⟨_, hrun, hsame, fun i hi => ChangeMaps.heap_setBlock_other hb _ hi, u2, fun x hx => ?_, hstore⟩
    by_cases hxl : kl x = kl l
    · rw [hxl, Go.Maps.atKey_put_same h0.isMap (law32.key (key_is hl))]
      obtain ⟨cc, q1, q2, _⟩ := World.ownsMap.lookup_int (t := 44) (e := 3) h0 law32 Try.underlying44 Try.underlying3 (zero3 w) (key_is hl)
      have e3 : (Instr.lookup 44 (.map (some b)) (letV l) false).run Try.prog w = .ok (.int .i64 0) w := by
        simp [Instr.lookup, run_underlying Try.underlying44, MapKept.run_getObj_map hb, law32.check w es.isEmpty (key_is hl), f1, Result.andThen]
      rw [e3] at q1
      injection q1 with q1 _
      injection q1 with _ q1
      rw [q2, ← q1]
    · exact Go.Maps.atKey_put_other hxl _ _
  · -- the entry is there
    have hj : es[j]? = some e0 := by simpa using f2
    have hmod : es.modify j (fun e => { e with key := letV l }) = es := by
      apply Array.ext_getElem?
      intro i
      rw [Array.getElem?_modify]
      split
      · rename_i hij
        subst hij
        rw [hj]
        show some ({ e0 with key := letV l } : MapEntry) = some e0
        rw [← f3]
      · rfl
    have e1 : (Instr.mapEntry 44 (.map (some b)) (letV l)).run Try.prog w = .ok (.tuple #[e0.val, goInt e0.born]) (ChangeMaps.setBlock w b (.map es clock)) := by
      simp [Instr.mapEntry, run_underlying Try.underlying44, MapKept.run_getObj_map hb, law32.check w false (key_is hl), f1, hj, f3, law32.stays w (key_is hl), hmod, MapKept.run_setObj_map _ hb, Result.andThen, ChangeMaps.setBlock]
    rw [hrun] at e1
    injection e1 with _ e1
    have hsm := ChangeMaps.heap_setBlock_same hb (.map es clock)
    rw [← e1, hsame] at hsm
    refine ⟨D, hrun, hsame, fun i hi => ChangeMaps.heap_setBlock_other hb _ hi, (Has.keep h0 ?_).mono (by omega), fun x hx => rfl, hstore⟩
    rw [hsame, hsm, hb]
end Go.Proofs.Ytipclhklkngamaa
