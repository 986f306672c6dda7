import Derived.Test.YtlimjfnolidbmaaEc
namespace Go.Proofs.Ytlimjfnolidbmaa
set_option maxRecDepth 20000
open Go.RowKit RL
set_option linter.unusedVariables false
/-! ### what is told of a log, in two parts and whole; held -/
theorem from_len (T : Lg) {k n : Int} (hn : 0 ≤ n) : ((T.from_ k n).length : Int) ≤ n := by
  unfold Lg.from_
  split
  · simpa using hn
  · rw [List.length_take]; omega
theorem from_le (T : Lg) (k n : Int) : (T.from_ k n).length ≤ T.L.length := by
  unfold Lg.from_
  split
  · simp
  · rw [List.length_take, List.length_drop]; omega
theorem from_mem {T : Lg} {k n : Int} {x : En} (h : x ∈ T.from_ k n) : x ∈ T.L := by
  unfold Lg.from_ at h
  split at h
  · cases h
  · exact List.mem_of_mem_drop (List.mem_of_mem_take h)
theorem from_two (T : Lg) {k n m : Int} (hn : 0 < n) (hm : 0 ≤ m) (h : ((T.from_ k n).length : Int) = n) : T.from_ k n ++ T.from_ (k + n) m = T.from_ k (n + m) := by
  have hk : ¬ (k ≤ T.i ∨ k > T.last ∨ n ≤ 0) := fun q => by
    unfold Lg.from_ at h
    rw [if_pos q] at h
    simp at h
    omega
  have e1 : T.from_ k n = (T.L.drop (k - T.i - 1).toNat).take n.toNat := by unfold Lg.from_; rw [if_neg hk]
  have e2 : T.from_ k (n + m) = (T.L.drop (k - T.i - 1).toNat).take (n + m).toNat := by unfold Lg.from_; rw [if_neg (by omega)]
  rw [e1] at h
  rw [e1, e2, show (n + m).toNat = n.toNat + m.toNat by omega, List.take_add]
  congr 1
  rw [List.length_take, List.length_drop] at h
  unfold Lg.from_ Lg.last
  unfold Lg.last at hk
  split
  · rename_i q
    rcases q with q | q | q
    · omega
    · rw [List.drop_drop, List.drop_eq_nil_of_le (by omega), List.take_nil]
    · rw [show m.toNat = 0 by omega, List.take_zero]
  · rw [List.drop_drop]
    congr 2
    omega
theorem from_short (T : Lg) {k n m : Int} (hm : 0 ≤ m) (h : ((T.from_ k n).length : Int) < n) : T.from_ k n = T.from_ k (n + m) := by
  by_cases hk : k ≤ T.i ∨ k > T.last ∨ n ≤ 0
  · have e1 : T.from_ k n = [] := by unfold Lg.from_; rw [if_pos hk]
    rw [e1] at h ⊢
    simp at h
    unfold Lg.from_
    rw [if_pos (by omega)]
  · have e1 : T.from_ k n = (T.L.drop (k - T.i - 1).toNat).take n.toNat := by unfold Lg.from_; rw [if_neg hk]
    have e2 : T.from_ k (n + m) = (T.L.drop (k - T.i - 1).toNat).take (n + m).toNat := by unfold Lg.from_; rw [if_neg (by omega)]
    rw [e1] at h
    rw [List.length_take, List.length_drop] at h
    rw [e1, e2, List.take_of_length_le (by rw [List.length_drop]; omega), List.take_of_length_le (by rw [List.length_drop]; omega)]
/-- all of it -/
theorem from_all (T : Lg) {n : Int} (h : (T.L.length : Int) ≤ n) : T.from_ (T.i + 1) n = T.L := by
  unfold Lg.from_ Lg.last
  split
  · rename_i q
    have : T.L.length = 0 := by omega
    exact (List.eq_nil_of_length_eq_zero this).symm
  · rw [show (T.i + 1 - T.i - 1).toNat = 0 by omega, List.drop_zero, List.take_of_length_le (by omega)]
def FromP (w0 X : World) (b : Nat) (T : Lg) (S H : Nat → Prop) (L : List En) (m : Nat) (e : Ending) (w' : World) : Prop := ∃ A cap, e = .returned (.slice A m cap) ∧ m ≤ cap ∧ cap ≤ 9223372036854775807 ∧ (A = none → cap = 0) ∧ Rd DE w' (fun k => H k ∨ (X.heap.size ≤ k ∧ k < w'.heap.size)) A L ∧ Lv w0 w' b T S (fun k => H k ∨ (X.heap.size ≤ k ∧ k < w'.heap.size)) ∧ Below X.heap.size X w'
theorem from_lx {w0 w : World} {b : Nat} {T : Lg} {S H : Nat → Prop} (h : Lv w0 w b T S H) {k n : Int} {L : List En} {m : Nat} (hk : I64 k) (hn : I64 n) (hL : T.from_ k n = L) (hm : L.length = m) : Calls Try.prog 24 #[.pointer (some ⟨b, 0, none⟩), .int .i64 k, .int .i64 n] w (FromP w0 w b T S H L m) :=
  (from_lv h hk hn).mono fun e w' ⟨A, cap, h1, h2, h3, h4, h5, h6, h7, h8⟩ => by
    rw [hL] at h1 h2 h6
    rw [hm] at h1 h2
    exact ⟨A, cap, h1, h2, h3, h4, h6, h7, h8⟩
/-- append, for the walk, of an operation whose guard says yes -/
theorem wp_appW {α : Type} (D : CT α) {ops : Array Oper} {rest : List Oper} {o : Oper} {a : Act} {Q : Exit → Act → World → Prop} {w : World} (hw : Region.wanted o (yielded ops a.tmps) = true) (s x : Operand)
    (ho : o.op = .call { callee := .builtin .append, args := #[s, x], argTypes := #[D.t, D.t] })
    (S H : Nat → Prop) (v : Value) (l : List α) (hs : a.eval s = v) (hown : OwnS D w S v l) (A : Option Addr) (n c : Nat) (bs : List α) (hx : a.eval x = .slice A n c) (hA : A = none → c = 0) (hb : Rd D w H A bs) (hn : bs.length = n) (hnc : n ≤ c)
    (hlen : l.length + n ≤ 1000000)
    (h : ∀ v' w', OwnS D w' (Up S w w') v' (l ++ bs) → Fr S w w' → wpList Try.prog ops Q rest (a.put o.dst v') w') : wpList Try.prog ops Q (o :: rest) a w := by
  obtain ⟨v', w', hr, h1, h2, h3⟩ := append_O (s := o.type) hown hA hb hn hnc hlen
  refine BigFrame.wpList_want hw fun K hK => ?_
  unfold Oper.wp
  simp [execOp, ho, resolve, invoke, builtin, hs, hx, hr, Result.andThen]
  exact hK _ _ (h v' w' h1 h2)
theorem entries_same {w : World} {H1 H2 : Nat → Prop} {A1 A2 : Option Addr} {n1 n2 c1 c2 : Nat} {L : List En} (r1 : Rd DE w H1 A1 L) (r2 : Rd DE w H2 A2 L) (e1 : L.length = n1) (e2 : L.length = n2) (hl : n1 ≤ 1000000) (hl2 : n2 ≤ 1000000) : Calls Try.prog 23 #[.slice A1 n1 c1, .slice A2 n2 c2] w (RetBelow (.bool true) w) := by
  have := entries_any (c1 := c1) (c2 := c2) r1 r2 e1 e2 hl hl2
  rw [show decide (L = L) = true from by simp] at this
  exact this
theorem own_new (w : World) : OwnS DE (w.alloc (.cells #[] 32)) (fun k => k = w.heap.size) (.slice (some ⟨w.heap.size, 0, none⟩) 0 0) [] :=
  OwnS.made (D := DE) (L := []) (xs := []) (cap := 0) (cur := #[]) (heap_alloc_new w _) rfl (Nat.le_refl _) (by decide) (by simp) (by simp [flat])
theorem bel_new (w : World) : Below w.heap.size w (w.alloc (.cells #[] 32)) := (Below.refl _ w).alloc (Nat.le_refl _) _
end Go.Proofs.Ytlimjfnolidbmaa
