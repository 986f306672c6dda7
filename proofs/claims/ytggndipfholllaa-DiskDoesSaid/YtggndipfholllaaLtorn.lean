import Derived.Test.YtggndipfholllaaLrow
namespace Go.Proofs.Ytggndipfholllaa
open Go.RowKit
open PlainDisk (File Disk)
set_option linter.unusedVariables false

/-- what a crash leaves, as the law looks at it: up to m it is what was there, behind it bytes 0; either nothing stands behind m, or it is as long as it was -/
structure Torn (b was : List UInt8) (sure m : Nat) : Prop where
  len : b.length ≤ was.length
  sure : sure ≤ m
  le : m ≤ b.length
  same : ∀ i, i < m → b[i]? = was[i]?
  zero : ∀ i, m ≤ i → i < b.length → b[i]? = some 0
  whole : m < b.length → b.length = was.length
theorem torn_left (x : PlainDisk.Left) (f : File) (h : f.sure ≤ f.bytes.length) : ∃ m, Torn (PlainDisk.left x f) f.bytes f.sure m := by
  obtain ⟨m, z, e, h1, h2, h3⟩ := PlainDisk.left_form x f h
  have hl : (PlainDisk.left x f).length = m + z := by rw [e, List.length_append, List.length_take, List.length_replicate]; omega
  refine ⟨m, ?_, h1, by omega, fun i hi => ?_, fun i hi hi2 => ?_, fun hm => ?_⟩
  · rcases h3 with h3 | h3 <;> omega
  · rw [e, List.getElem?_append_left (by rw [List.length_take]; omega), List.getElem?_take, if_pos hi]
  · rw [e, List.getElem?_append_right (by rw [List.length_take]; omega), List.length_take, List.getElem?_replicate, if_pos (by omega)]
  · rcases h3 with h3 | h3 <;> omega
/-- the loop that counts what is the same: it can't stop before m -/
theorem Torn.count {b was : List UInt8} {sure m k : Nat} (h : Torn b was sure m) (hk : k ≤ b.length) (hstop : k = b.length ∨ b[k]? ≠ was[k]?) : m ≤ k := by
  rcases hstop with q | q
  · have := h.le; omega
  · by_cases hm : m ≤ k
    · exact hm
    · exact absurd (h.same k (by omega)) q
/-- file by file -/
theorem crash_at {fs : List File} (hs : PlainDisk.Sorted fs) (l : List PlainDisk.Left) {j : Nat} {f : File} (hf : fs[j]? = some f) : PlainDisk.find (PlainDisk.crashL fs l) f.name = some (PlainDisk.crashF (l[j]?.getD dark) f) := by
  have h1 := crashI_step hs hf l
  have h2 : PlainDisk.Sorted (crashI (j + 1) fs l) := crashI_sorted hs (j + 1) l
  have hlt := (List.getElem?_eq_some_iff.1 hf).1
  have key : ∀ (fs : List File) (l : List PlainDisk.Left) (j : Nat) (f : File), fs[j]? = some f → (PlainDisk.crashL fs l)[j]? = some (PlainDisk.crashF (l[j]?.getD dark) f) := by
    intro fs
    induction fs with
    | nil => intro l j f h; simp at h
    | cons g r ih =>
      intro l j f h
      cases j with
      | zero =>
        have h : g = f := by simpa using h
        subst h
        cases l <;> simp [PlainDisk.crashL, dark]
      | succ j =>
        have h : r[j]? = some f := by simpa using h
        have := ih l.tail j f h
        simp only [PlainDisk.crashL, List.getElem?_cons_succ]
        rw [this]
        cases l <;> simp
  have h3 := List.mem_of_getElem? (key fs l j f hf)
  have h4 : PlainDisk.Sorted (PlainDisk.crashL fs l) := PlainDisk.sorted_names (PlainDisk.crashL_names fs l).symm hs
  have h5 := PlainDisk.find_of_mem h4 h3
  exact h5
theorem crash_nil {D : Disk} (l : List PlainDisk.Left) : (PlainDisk.crash (PlainDisk.crash D l) []).fs = (PlainDisk.crash D l).fs :=
  PlainDisk.crash_again (PlainDisk.crashed_sure D.fs l) []

theorem info3 : (Try.prog.info? 3).map (fun i => (i.zero, i.size, i.bytes)) = some (some (.int .i64 0), 1, 8) := by kernel_rfl
/-- a row of numbers that the call has built -/
def iV (l : List Nat) : List Value := l.map fun n => .int .i64 (n : Nat)
def OwnI (w : World) (base : Nat) (v : Value) (l : List Nat) : Prop := w.ownsRow base 3 1 v l.length (iV l)
theorem OwnI.at {w : World} {base : Nat} {A : Option Addr} {n c : Nat} {l : List Nat} (h : OwnI w base (.slice A n c) l) {i x : Nat} (hi : l[i]? = some x) : ∃ g, A = some ⟨g, 0, none⟩ ∧ w.cell? ⟨g, i, none⟩ = some (.int .i64 (x : Nat)) := by
  rcases h.2 with ⟨_, q⟩ | ⟨g, cap, cur, e, hb, hh, h1, h2, h3, h4⟩
  · have : l = [] := List.eq_nil_of_length_eq_zero q
    subst this; simp at hi
  · injection e with e1
    refine ⟨g, e1, ?_⟩
    rw [Lib.cell_of_heap hh]
    show cur[i]? = some _
    rw [← Array.getElem?_toList]
    have hl := (List.getElem?_eq_some_iff.1 hi).1
    have hv : (iV l)[i]? = some (.int .i64 (x : Nat)) := by simp [iV, hi]
    rw [← h4, List.getElem?_take] at hv
    split at hv
    · exact hv
    · omega
theorem OwnI.form {w : World} {base : Nat} {v : Value} {l : List Nat} (h : OwnI w base v l) : ∃ A c, v = .slice A l.length c ∧ l.length ≤ c ∧ c ≤ 9223372036854775807 := by
  rcases h.2 with ⟨e, q⟩ | ⟨g, cap, cur, e, hb, hh, h1, h2, h3, h4⟩
  · exact ⟨none, 0, by rw [e, q], by omega, by omega⟩
  · exact ⟨_, cap, e, h1, by simp only [maxLen] at h2; omega⟩
theorem OwnI.lt {w : World} {base : Nat} {v : Value} {l : List Nat} (h : OwnI w base v l) : ∀ k, v.ownBlock = some k → base ≤ k ∧ k < w.heap.size := World.ownsRow.lt h
theorem wp_appI {ops : Array Oper} {rest : List Oper} {o : Oper} {a : Act} {Q : Exit → Act → World → Prop} {w : World} (hgd : o.guard = none) (s x : Operand)
    (ho : o.op = .call { callee := .builtin .append, args := #[s, x], argTypes := #[57, 57] })
    (base : Nat) (v : Value) (l : List Nat) (hs : a.eval s = v) (hown : OwnI w base v l) (k n : Nat) (hx : a.eval x = .slice (some ⟨k, 0, none⟩) 1 1)
    (hk : w.heap[k]? = some (.cells #[.int .i64 (n : Nat)] 3 (0, 0)))
    (hlen : l.length ≤ 1000) (hbase : base ≤ w.heap.size)
    (h : ∀ v' w', OwnI w' base v' (l ++ [n]) → w.grownBy w' v.ownBlock → wpList Try.prog ops Q rest (a.put o.dst v') w') : wpList Try.prog ops Q (o :: rest) a w := by
  obtain ⟨i, hi, hz, hz1, hz2⟩ := info_parts3 info3
  refine wpList_append_own w hgd s x 57 ho base 3 i _ 1 8 Try.underlying57 hi hz hz1 hz2 rfl (by omega) v l.length (iV l) hs hown ⟨k, 0, none⟩ 1 1 [.int .i64 (n : Nat)] hx rfl ?_ ?_ (by simp only [maxLen]; omega) (by omega) hbase ?_
  · intro j y hy
    unfold Addr.add
    have hc : w.cell? ⟨k, j, none⟩ = some y := by
      rw [Lib.cell_of_heap hk]
      rw [← hy]
      show (#[Value.int .i64 (n : Nat)] : Array Value)[j]? = _
      simp
    split
    · subst j; exact hc
    · simpa using hc
  · intro y hy
    rw [List.mem_singleton] at hy
    subst hy
    rfl
  · intro v' w' h2 h3 _
    refine h v' w' ?_ h3
    unfold OwnI
    rw [show iV (l ++ [n]) = iV l ++ [.int .i64 (n : Nat)] by simp [iV], List.length_append]
    exact h2
/-- a row grows: a row of another kind stays -/
theorem own_grown {w w' : World} {base b2 e e2 size size2 n n2 : Nat} {v rv : Value} {xs xs2 : List Value} (h : w.ownsRow base e size v n xs) (hr : w.ownsRow b2 e2 size2 rv n2 xs2) (he : e ≠ e2) (hg : w.grownBy w' rv.ownBlock) : w'.ownsRow base e size v n xs := by
  refine ⟨h.1, ?_⟩
  rcases h.2 with q | ⟨g, cap, cur, q1, hb, hh, r⟩
  · exact .inl q
  · refine .inr ⟨g, cap, cur, q1, hb, (hg.block g (Array.getElem?_eq_some_iff.1 hh).1 fun q => ?_).trans hh, r⟩
    rcases hr.2 with ⟨q2, _⟩ | ⟨g3, cap3, cur3, q2, _, hh2, _⟩
    · rw [q2] at q; cases q
    · rw [q2] at q
      injection q with q
      have q : g = g3 := q
      subst q
      rw [hh] at hh2
      injection hh2 with hh2
      injection hh2 with _ e1 _
      exact he e1
theorem Was.otherGrown {w w' : World} {base b2 e2 size2 n2 : Nat} {rv : Value} {ls : List (List UInt8)} {vs xs2 : List Value} (h : Was w base ls vs) (hr : w.ownsRow b2 e2 size2 rv n2 xs2) (he : 5 ≠ e2) (hg : w.grownBy w' rv.ownBlock) : Was w' base ls vs :=
  ⟨h.1, fun i l hl => by obtain ⟨A, c, q1, q2⟩ := h.2 i l hl; exact ⟨A, c, q1, own_grown q2 hr he hg⟩⟩
end Go.Proofs.Ytggndipfholllaa
