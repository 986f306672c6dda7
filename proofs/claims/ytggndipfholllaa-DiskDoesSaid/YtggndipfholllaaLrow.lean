import Derived.Test.YtggndipfholllaaLread
import Derived.Test.YtggndipfholllaaLroom
namespace Go.Proofs.Ytggndipfholllaa
open Go.RowKit
open PlainDisk (File Disk)
set_option linter.unusedVariables false

theorem info28 : (Try.prog.info? 28).map (fun i => (i.zero, i.size, i.bytes)) = some (some (.slice none 0 0), 1, 24) := by kernel_rfl
/-- a row of slices that the call has built -/
def OwnV (w : World) (base : Nat) (v : Value) (vs : List Value) : Prop := w.ownsRow base 28 1 v vs.length vs
theorem own_kp {w w' : World} {base e size n : Nat} {v : Value} {xs : List Value} (h : w.ownsRow base e size v n xs) (hk : ∀ k, base ≤ k → k < w.heap.size → w'.heap[k]? = w.heap[k]?) : w'.ownsRow base e size v n xs := by
  refine ⟨h.1, ?_⟩
  rcases h.2 with q | ⟨g, cap, cur, q1, hb, hh, r⟩
  · exact .inl q
  · exact .inr ⟨g, cap, cur, q1, hb, (hk g hb (Array.getElem?_eq_some_iff.1 hh).1).trans hh, r⟩
theorem OwnV.at {w : World} {base : Nat} {A : Option Addr} {n c : Nat} {vs : List Value} (h : OwnV w base (.slice A n c) vs) {i : Nat} {v : Value} (hi : vs[i]? = some v) : ∃ g, A = some ⟨g, 0, none⟩ ∧ w.cell? ⟨g, i, none⟩ = some v := by
  rcases h.2 with ⟨_, q⟩ | ⟨g, cap, cur, e, hb, hh, h1, h2, h3, h4⟩
  · have : vs = [] := List.eq_nil_of_length_eq_zero q
    subst this; simp at hi
  · injection e with e1
    refine ⟨g, e1, ?_⟩
    rw [Lib.cell_of_heap hh]
    show cur[i]? = some v
    rw [← Array.getElem?_toList]
    have hl := (List.getElem?_eq_some_iff.1 hi).1
    rw [← h4, List.getElem?_take] at hi
    split at hi
    · exact hi
    · omega
theorem OwnV.form {w : World} {base : Nat} {v : Value} {vs : List Value} (h : OwnV w base v vs) : ∃ A c, v = .slice A vs.length c ∧ vs.length ≤ c ∧ c ≤ 9223372036854775807 := by
  rcases h.2 with ⟨e, q⟩ | ⟨g, cap, cur, e, hb, hh, h1, h2, h3, h4⟩
  · exact ⟨none, 0, by rw [e, q], by omega, by omega⟩
  · exact ⟨_, cap, e, h1, by simp only [maxLen] at h2; omega⟩
theorem OwnV.lt {w : World} {base : Nat} {v : Value} {vs : List Value} (h : OwnV w base v vs) : ∀ k, v.ownBlock = some k → base ≤ k ∧ k < w.heap.size := World.ownsRow.lt h
theorem wp_appV {ops : Array Oper} {rest : List Oper} {o : Oper} {a : Act} {Q : Exit → Act → World → Prop} {w : World} (hgd : o.guard = none) (s x : Operand)
    (ho : o.op = .call { callee := .builtin .append, args := #[s, x], argTypes := #[45, 45] })
    (base : Nat) (v : Value) (vs : List Value) (hs : a.eval s = v) (hown : OwnV w base v vs) (k : Nat) (u : Value) (hu0 : ∃ A n c, u = .slice A n c) (hx : a.eval x = .slice (some ⟨k, 0, none⟩) 1 1)
    (hk : w.heap[k]? = some (.cells #[u] 28 (0, 0)))
    (hlen : vs.length ≤ 1000) (hbase : base ≤ w.heap.size)
    (h : ∀ v' w', OwnV w' base v' (vs ++ [u]) → w.grownBy w' v.ownBlock → wpList Try.prog ops Q rest (a.put o.dst v') w') : wpList Try.prog ops Q (o :: rest) a w := by
  obtain ⟨i, hi, hz, hz1, hz2⟩ := info_parts3 info28
  refine wpList_append_own w hgd s x 45 ho base 28 i _ 1 24 Try.underlying45 hi hz hz1 hz2 rfl (by omega) v vs.length vs hs hown ⟨k, 0, none⟩ 1 1 [u] hx rfl ?_ ?_ (by simp only [maxLen]; omega) (by omega) hbase ?_
  · intro j y hy
    unfold Addr.add
    have hc : w.cell? ⟨k, j, none⟩ = some y := by
      rw [Lib.cell_of_heap hk]
      rw [← hy]
      show (#[u] : Array Value)[j]? = _
      simp
    split
    · subst j; exact hc
    · simpa using hc
  · intro y hy
    rw [List.mem_singleton] at hy
    subst hy
    obtain ⟨A, n, c, rfl⟩ := hu0
    rfl
  · intro v' w' h2 h3 _
    refine h v' w' ?_ h3
    unfold OwnV
    rw [List.length_append]
    exact h2
theorem OwnB.take {w : World} {base : Nat} {A : Option Addr} {c k : Nat} {l : List UInt8} (h : OwnB w base (.slice A l.length c) l) (hk : k ≤ l.length) : OwnB w base (.slice A k c) (l.take k) := by
  have hl : (l.take k).length = k := by rw [List.length_take]; omega
  unfold OwnB
  rw [hl]
  refine ⟨by simp [vB]; omega, ?_⟩
  rcases h.2 with ⟨e, hn⟩ | ⟨g, cap, cur, e, hb, hh, h1, h2, h3, h4⟩
  · injection e with e1 e2 e3
    subst e1 e3
    have : k = 0 := by omega
    subst this
    exact .inl ⟨rfl, rfl⟩
  · injection e with e1 e2 e3
    subst e1 e3
    refine .inr ⟨g, c, cur, rfl, hb, hh, by omega, h2, h3, ?_⟩
    have e : vB (l.take k) = (vB l).take k := by simp [vB, List.map_take]
    rw [e, ← h4, List.take_take]
    congr 1
    omega
theorem own_mono {w : World} {base base' e size n : Nat} {v : Value} {xs : List Value} (h : w.ownsRow base e size v n xs) (hb : base' ≤ base) : w.ownsRow base' e size v n xs := by
  refine ⟨h.1, ?_⟩
  rcases h.2 with q | ⟨g, cap, cur, e, hg, r⟩
  · exact .inl q
  · exact .inr ⟨g, cap, cur, e, Nat.le_trans hb hg, r⟩
theorem OwnB.mono {w : World} {base base' : Nat} {v : Value} {l : List UInt8} (h : OwnB w base v l) (hb : base' ≤ base) : OwnB w base' v l := own_mono h hb
/-- slices of bytes, one for each of ls -/
def Was (w : World) (base : Nat) (ls : List (List UInt8)) (vs : List Value) : Prop :=
  ls.length = vs.length ∧ ∀ (i : Nat) (l : List UInt8), ls[i]? = some l → ∃ A c, vs[i]? = some (.slice A l.length c) ∧ OwnB w base (.slice A l.length c) l
theorem Was.add {w : World} {base : Nat} {ls : List (List UInt8)} {vs : List Value} (h : Was w base ls vs) {A : Option Addr} {c : Nat} {l : List UInt8} (hl : OwnB w base (.slice A l.length c) l) : Was w base (ls ++ [l]) (vs ++ [.slice A l.length c]) := by
  refine ⟨by simp [h.1], fun i x hx => ?_⟩
  by_cases hi : i < ls.length
  · rw [List.getElem?_append_left hi] at hx
    obtain ⟨A2, c2, q1, q2⟩ := h.2 i x hx
    exact ⟨A2, c2, by rw [List.getElem?_append_left (by rw [← h.1]; exact hi)]; exact q1, q2⟩
  · rw [List.getElem?_append_right (by omega)] at hx
    have e : i - ls.length = 0 := by
      have := (List.getElem?_eq_some_iff.1 hx).1
      simp at this; omega
    rw [e] at hx
    have hx : l = x := by simpa using hx
    subst hx
    have h1 := h.1
    exact ⟨A, c, by rw [List.getElem?_append_right (by omega)]; rw [show i - vs.length = 0 by omega]; rfl, hl⟩
theorem Was.kp {w w' : World} {base : Nat} {ls : List (List UInt8)} {vs : List Value} (h : Was w base ls vs) (hk : ∀ k, base ≤ k → k < w.heap.size → w'.heap[k]? = w.heap[k]?) : Was w' base ls vs :=
  ⟨h.1, fun i l hl => by obtain ⟨A, c, q1, q2⟩ := h.2 i l hl; exact ⟨A, c, q1, own_kp q2 hk⟩⟩
theorem Was.belows {w w' : World} {base : Nat} {ls : List (List UInt8)} {vs : List Value} (h : Was w base ls vs) (hb : Below w.heap.size w w') : Was w' base ls vs := h.kp fun k _ h2 => hb.block k h2
theorem OwnV.belows {w w' : World} {base : Nat} {v : Value} {vs : List Value} (h : OwnV w base v vs) (hb : Below w.heap.size w w') : OwnV w' base v vs := own_kp h fun k _ h2 => hb.block k h2
/-- the row grows: what isn't the row stays -/
theorem OwnB.grown {w w' : World} {base b2 : Nat} {v rv : Value} {l : List UInt8} {vs : List Value} (h : OwnB w base v l) (hr : OwnV w b2 rv vs) (hg : w.grownBy w' rv.ownBlock) : OwnB w' base v l := by
  refine h.keep fun g hg2 => ?_
  refine hg.block g (h.lt g hg2).2 fun e => ?_
  rcases hr.2 with ⟨q, _⟩ | ⟨g3, cap, cur, q, _, hh, _⟩
  · rw [q] at e; cases e
  · rw [q] at e
    injection e with e
    have e : g = g3 := e
    subst e
    rcases h.2 with ⟨q2, _⟩ | ⟨g4, cap4, cur4, q2, _, hh2, _⟩
    · rw [q2] at hg2; cases hg2
    · rw [q2] at hg2
      injection hg2 with hg2
      have e : g4 = g := hg2
      subst e
      rw [hh] at hh2
      injection hh2 with hh2
      injection hh2 with _ e1 _
      cases e1
theorem Was.grown {w w' : World} {base b2 : Nat} {rv : Value} {ls : List (List UInt8)} {vs vs2 : List Value} (h : Was w base ls vs) (hr : OwnV w b2 rv vs2) (hg : w.grownBy w' rv.ownBlock) : Was w' base ls vs :=
  ⟨h.1, fun i l hl => by obtain ⟨A, c, q1, q2⟩ := h.2 i l hl; exact ⟨A, c, q1, q2.grown hr hg⟩⟩
theorem Kp.trans {H : Nat → Prop} {a b c : World} (h : Kp H a b) (k : Kp H b c) : Kp H a c := fun i hi => (k i hi).trans (h i hi)
theorem Cx.kp {w wi w' : World} {b : Nat} {D : Disk} {H : Nat → Prop} (h : Cx w wi b D H) (hb : Below wi.heap.size wi w') : Kp H wi w' := fun k hk => hb.block k (h.lt k hk)
theorem Has_self {D : Disk} (hi : PlainDisk.Inv may D) {f : File} (hf : f ∈ D.fs) : PlainDisk.Has D f.name (f.bytes.take f.sure) := by
  have h := hi.sure f hf
  refine ⟨f, PlainDisk.find_of_mem hi.sorted hf, by rw [List.length_take]; omega, ?_⟩
  rw [List.length_take, Nat.min_eq_left h]
theorem take_sure {D : Disk} (hi : PlainDisk.Inv may D) {f : File} (hf : f ∈ D.fs) : (f.bytes.take f.sure).length = f.sure := by
  have h := hi.sure f hf
  rw [List.length_take, Nat.min_eq_left h]
end Go.Proofs.Ytggndipfholllaa
