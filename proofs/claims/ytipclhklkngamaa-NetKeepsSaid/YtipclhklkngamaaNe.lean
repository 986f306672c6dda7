import Derived.Test.YtipclhklkngamaaNd
namespace Go.Proofs.Ytipclhklkngamaa
open Go.RowKit
set_option linter.unusedVariables false

theorem addr_add (b off q : Nat) : (⟨b, off, none⟩ : Addr).add q = ⟨b, off + q, none⟩ := by
  unfold Addr.add
  split
  · subst q; rfl
  · rfl
theorem slice_from (g n cap k : Nat) (hk : k ≤ n) (hc : n ≤ cap) (hm : cap ≤ 9223372036854775807) (W : World) :
    (Instr.slice 27 (.slice (some ⟨g, 0, none⟩) n cap) (some (.int .i64 (k : Nat))) none none).run Try.prog W = .ok (.slice (if cap = k then some ⟨g, 0, none⟩ else some ⟨g, k * 3, none⟩) (n - k) (cap - k)) W := by
  have h1 : (k : Int) ≤ (n : Int) := by omega
  have h0 : (0 : Int) ≤ (k : Int) := by omega
  have he : (⟨g, 0, none⟩ : Addr).add (k * 3) = ⟨g, k * 3, none⟩ := by rw [addr_add, Nat.zero_add]
  go_simp
theorem slice_upto (A : Option Addr) (n cap k : Nat) (hk : k ≤ n) (hc : n ≤ cap) (hm : cap ≤ 9223372036854775807) (W : World) :
    (Instr.slice 27 (.slice A n cap) none (some (.int .i64 (k : Nat))) none).run Try.prog W = .ok (.slice A k cap) W := by
  have h1 : (k : Int) ≤ (cap : Int) := by omega
  have h0 : (0 : Int) ≤ (k : Int) := by omega
  go_simp
def mv (cur : Array Value) (k : Nat) (q : List Let) : Array Value := (cur.toList.take (k * 3) ++ flat (q.drop (k + 1)) ++ cur.toList.drop (k * 3 + (flat (q.drop (k + 1))).length)).toArray
theorem copy_run {w : World} {g cap k : Nat} {cur : Array Value} {q : List Let} (hg : w.heap[g]? = some (.cells cur 32 (0, 0))) (hk : k < q.length) (ht : cur.toList.take (q.length * 3) = flat q) (hs : cur.size = cap * 3) (hc : q.length ≤ cap)
    {A2 : Option Addr} (hA : k + 1 < q.length → A2 = some ⟨g, (k + 1) * 3, none⟩) (ty : TypeId) :
    (Builtin.copy_ #[27, 27] ty #[.slice (some ⟨g, k * 3, none⟩) (q.length - k) (cap - k), .slice A2 (q.length - (k + 1)) (cap - (k + 1))]).run Try.prog w = .ok (.int .i64 (q.length - (k + 1) : Nat)) (w.setRow g (mv cur k q)) := by
  have h32 : (Try.prog.info? 32).map (·.size) = some 3 := by kernel_rfl
  have hmin : Nat.min (q.length - (k + 1)) (q.length - k) = q.length - (k + 1) := Nat.min_eq_left (by omega)
  have hfl : (flat (q.drop (k + 1))).length = (q.length - (k + 1)) * 3 := by rw [flat_len, List.length_drop]
  by_cases hl : k + 1 < q.length
  · obtain rfl := hA hl
    have := run_copy_size (P := Try.prog) w 27 27 ty 32 3 g (k * 3) (q.length - k) (cap - k) ⟨g, (k + 1) * 3, none⟩ (q.length - (k + 1)) (cap - (k + 1)) cur 32 (flat (q.drop (k + 1))) Try.underlying27 h32 hg (by rw [hfl, hmin]) ?_ (by rw [hfl, hs]; omega) (flat_cell _)
    · rw [hmin] at this
      exact this
    · intro j v hj
      rw [addr_add, cell_of_row w g _ cur 32 (0, 0) hg]
      rw [flat_drop, List.getElem?_drop, ← ht, List.getElem?_take] at hj
      split at hj
      · simpa using hj
      · cases hj
  · have hn : q.length - (k + 1) = 0 := by omega
    have hnil : q.drop (k + 1) = [] := List.drop_eq_nil_of_le (by omega)
    rw [run_copy_zero (P := Try.prog) w 27 27 ty 32 3 _ _ _ _ _ _ Try.underlying27 h32 (by rw [hmin, hn])]
    rw [hn, mv, hnil, show flat [] = ([] : List Value) from rfl, List.append_nil, List.length_nil, Nat.add_zero, List.take_append_drop, Array.toArray_toList, setRow_self w g cur 32 (0, 0) hg]
    rfl
theorem mv_size {cur : Array Value} {k cap : Nat} {q : List Let} (hk : k < q.length) (hs : cur.size = cap * 3) (hc : q.length ≤ cap) : (mv cur k q).size = cap * 3 := by
  have hfl : (flat (q.drop (k + 1))).length = (q.length - (k + 1)) * 3 := by rw [flat_len, List.length_drop]
  have hsl : cur.toList.length = cap * 3 := by rw [Array.length_toList]; exact hs
  unfold mv
  rw [List.size_toArray, List.length_append, List.length_append, List.length_take, List.length_drop, hfl, hsl]
  omega
theorem mv_take {cur : Array Value} {k cap : Nat} {q : List Let} (hk : k < q.length) (hs : cur.size = cap * 3) (hc : q.length ≤ cap) (ht : cur.toList.take (q.length * 3) = flat q) : (mv cur k q).toList.take ((q.length - 1) * 3) = flat (q.eraseIdx k) := by
  have hfl : (flat (q.drop (k + 1))).length = (q.length - (k + 1)) * 3 := by rw [flat_len, List.length_drop]
  have hsl : cur.toList.length = cap * 3 := by rw [Array.length_toList]; exact hs
  have h1 : cur.toList.take (k * 3) = flat (q.take k) := by
    rw [flat_take, ← ht, List.take_take]
    congr 1
    omega
  unfold mv
  rw [h1, List.eraseIdx_eq_take_drop_succ, flat_app]
  show List.take _ (flat (q.take k) ++ flat (q.drop (k + 1)) ++ _) = _
  rw [List.take_append_of_le_length (by rw [List.length_append, hfl, flat_len, List.length_take]; omega), List.take_of_length_le]
  rw [List.length_append, hfl, flat_len, List.length_take]
  omega
/-- 'copy' as a step of a region that draws its order, where its run is known -/
theorem step_copy_run {ops : Array Oper} {o : Oper} {a : Act} {w : World} {K : Act → World → Prop} {Q : Exit → Act → World → Prop} {E : Prop}
    (hg : o.guard = none) (d x : Operand) (dT sT : TypeId) (hop : o.op = Op.call { callee := Callee.builtin Builtin.copy, args := #[d, x], argTypes := #[dT, sT] })
    (v u : Value) (hd : a.eval d = v) (hx : a.eval x = u) {v' : Value} {w' : World} (hr : (Builtin.copy_ #[dT, sT] o.type #[v, u]).run Try.prog w = .ok v' w') (hK : K (a.put o.dst v') w') :
    if Region.wanted o (yielded ops a.tmps) = true then Oper.wp Try.prog o a w K Q else E := by
  have hw : Region.wanted o (yielded ops a.tmps) = true := by simp [Region.wanted, hg]
  rw [if_pos hw]
  unfold Oper.wp
  simp [execOp, hop, resolve, invoke, builtin, hd, hx, hr, Result.andThen]
  exact hK
end Go.Proofs.Ytipclhklkngamaa
