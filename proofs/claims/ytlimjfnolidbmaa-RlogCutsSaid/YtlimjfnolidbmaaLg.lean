import Derived.Test.YtlimjfnolidbmaaSl
import Derived.Test.YtlimjfnolidbmaaPl
namespace Go.Proofs.Ytlimjfnolidbmaa
set_option maxRecDepth 20000
open Go.RowKit RL
set_option linter.unusedVariables false
/-! ### a log in memory -/
def DE : CT En := ⟨fun x => [.int .i64 x.t, .string x.d], 2, 32, 22, .agg #[.int .i64 0, .string ⟨#[]⟩], 24, fun _ => rfl, fun x u h => by simp only [List.mem_cons, List.not_mem_nil, or_false] at h; rcases h with rfl | rfl <;> rfl, by omega, by omega, by rfl, by omega, by kernel_rfl, Try.underlying22⟩
structure LgAt (w : World) (b : Nat) (T : Lg) (v : Value) (S : Nat → Prop) : Prop where
  box : w.heap[b]? = some (.cells #[.int .i64 T.i, .int .i64 T.t, v] 74 (0, 0))
  row : OwnS DE w (fun k => S k ∧ k ≠ b) v T.L
  own : S b
  lt : ∀ k, S k → k < w.heap.size
def Log (w : World) (b : Nat) (T : Lg) (S : Nat → Prop) : Prop := ∃ v, LgAt w b T v S
/-- it has become T', and nothing else was touched -/
def LogTo (w w' : World) (b : Nat) (T' : Lg) (S : Nat → Prop) : Prop := ∃ S', Log w' b T' S' ∧ (∀ k, S' k → Up S w w' k) ∧ Fr S w w'
theorem LgAt.keep {w w' : World} {b : Nat} {T : Lg} {v : Value} {S : Nat → Prop} (h : LgAt w b T v S) (hs : w.heap.size ≤ w'.heap.size) (hk : ∀ k, S k → w'.heap[k]? = w.heap[k]?) : LgAt w' b T v S :=
  ⟨(hk b h.own).trans h.box, h.row.keep fun g _ q => hk g q.1, h.own, fun k q => Nat.lt_of_lt_of_le (h.lt k q) hs⟩
theorem LgAt.below {w w' : World} {b : Nat} {T : Lg} {v : Value} {S : Nat → Prop} (h : LgAt w b T v S) (hb : Below w.heap.size w w') : LgAt w' b T v S :=
  h.keep hb.size fun k q => hb.block k (h.lt k q)
theorem Log.below {w w' : World} {b : Nat} {T : Lg} {S : Nat → Prop} (h : Log w b T S) (hb : Below w.heap.size w w') : Log w' b T S := by
  obtain ⟨v, h⟩ := h
  exact ⟨v, h.below hb⟩
theorem Log.fr {w w' : World} {b : Nat} {T : Lg} {S S2 : Nat → Prop} (h : Log w b T S) (hf : Fr S2 w w') (hd : ∀ k, S k → ¬ S2 k) : Log w' b T S := by
  obtain ⟨v, h⟩ := h
  exact ⟨v, h.keep hf.size fun k q => hf.block k (h.lt k q) (hd k q)⟩
theorem Log.lt {w : World} {b : Nat} {T : Lg} {S : Nat → Prop} (h : Log w b T S) : ∀ k, S k → k < w.heap.size := by
  obtain ⟨v, h⟩ := h
  exact h.lt
theorem Log.to {w w' : World} {b : Nat} {T : Lg} {S : Nat → Prop} (h : Log w b T S) (hb : Below w.heap.size w w') : LogTo w w' b T S := ⟨S, h.below hb, fun k hk => .inl hk, Fr.of_below hb⟩
theorem LogTo.from_ {w w2 w3 : World} {b : Nat} {T' : Lg} {S : Nat → Prop} (hb : Below w.heap.size w w2) (h : LogTo w2 w3 b T' S) : LogTo w w3 b T' S := by
  obtain ⟨S', h1, h2, h3⟩ := h
  refine ⟨S', h1, fun k hk => ?_, (Fr.of_below hb).trans h3 fun i q => .inl q⟩
  rcases h2 k hk with q | q
  · exact .inl q
  · exact .inr ⟨Nat.le_trans hb.size q.1, q.2⟩
theorem LogTo.go {w w1 w2 : World} {b : Nat} {T' : Lg} {S S1 : Nat → Prop} (hu : ∀ k, S1 k → Up S w w1 k) (hf : Fr S w w1) (h : LogTo w1 w2 b T' S1) : LogTo w w2 b T' S := by
  obtain ⟨S2, h1, h2, h3⟩ := h
  refine ⟨S2, h1, fun k hk => ?_, hf.trans h3 fun i hi => (hu i hi).elim .inl fun q => .inr q.1⟩
  rcases h2 k hk with q | q
  · rcases hu k q with q | q
    · exact .inl q
    · exact .inr ⟨q.1, by have := h3.size; omega⟩
  · exact .inr ⟨by have := hf.size; omega, q.2⟩
theorem LogTo.after {w w1 w2 : World} {b : Nat} {T' : Lg} {S : Nat → Prop} (h : LogTo w w1 b T' S) (hb : Below w1.heap.size w1 w2) : LogTo w w2 b T' S := by
  obtain ⟨S1, h1, h2, h3⟩ := h
  exact LogTo.go h2 h3 (h1.to hb)
theorem LogTo.below {w w' : World} {b : Nat} {T : Lg} {S : Nat → Prop} {B : Nat} (h : LogTo w w' b T S) (hB : ∀ k, S k → B ≤ k) (hs : B ≤ w.heap.size) : Below B w w' := by
  obtain ⟨_, _, _, h3⟩ := h
  exact h3.below hs hB
theorem lcells {w : World} {b : Nat} {a0 a1 a2 : Value} {t : TypeId} (h : w.heap[b]? = some (.cells #[a0, a1, a2] t (0, 0))) : w.cell? ⟨b, 0, none⟩ = some a0 ∧ w.cell? ⟨b, 1, none⟩ = some a1 ∧ w.cell? ⟨b, 2, none⟩ = some a2 ∧ w.frozen? ⟨b, 0, none⟩ = false ∧ w.frozen? ⟨b, 1, none⟩ = false ∧ w.frozen? ⟨b, 2, none⟩ = false := by
  refine ⟨?_, ?_, ?_, ?_, ?_, ?_⟩
  all_goals first | exact Lib.frozen_of_heap h _ | (rw [Lib.cell_of_heap h]; rfl)
def RetBelow (v : Value) (w : World) (e : Ending) (w' : World) : Prop := e = .returned v ∧ Below w.heap.size w w'
def RetSame (v : Value) (w : World) (e : Ending) (w' : World) : Prop := e = .returned v ∧ w' = w
theorem within_any (a : Int) (n : Nat) (h : n ≤ 140737488355328) (w : World) : Calls Try.prog 32 #[.int .i64 a, .int .i64 (n : Int)] w (RetSame (.bool (decide (a ≤ 4611686018427387904 - (n : Int)))) w) := by
  go_enter Try.func32, Try.ntmps32
  go_wp2_with fail
  go_ret
  exact ⟨rfl, rfl⟩
/-- where an index lies -/
theorem at_any {w : World} {b : Nat} {i : Int} (k : Int) (h : w.cell? ⟨b, 0, none⟩ = some (.int .i64 i)) (h0 : 0 ≤ i) (h1 : i < k) (h2 : k ≤ 9223372036854775807) : Calls Try.prog 38 #[.pointer (some ⟨b, 0, none⟩), .int .i64 k] w (RetSame (.int .i64 (k - i - 1)) w) := by
  go_enter Try.func38, Try.ntmps38
  go_wp2_with fail
  go_ret
  exact ⟨rfl, rfl⟩
theorem base_any {w : World} {b : Nat} {T : Lg} {S : Nat → Prop} (h : Log w b T S) : Calls Try.prog 31 #[.pointer (some ⟨b, 0, none⟩)] w (RetBelow (.tuple #[.int .i64 T.i, .int .i64 T.t]) w) := by
  obtain ⟨v, h⟩ := h
  obtain ⟨c0, c1, c2, f0, f1, f2⟩ := lcells h.box
  have HB := Lib.hid (Below.refl w.heap.size w).drew
  clear h
  go_enter Try.func31, Try.ntmps31
  go_wp2_with fail
  go_region
  all_goals go_wp2_with fail
  all_goals refine bodyPost_ret (v := .tuple #[.int .i64 T.i, .int .i64 T.t]) (by simp [results, Try.results31, go_sem]) rfl ⟨rfl, HB.out⟩
end Go.Proofs.Ytlimjfnolidbmaa
