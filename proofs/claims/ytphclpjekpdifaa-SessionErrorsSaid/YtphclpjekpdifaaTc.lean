import Derived.Test.YtphclpjekpdifaaPt
import Derived.Test.YtphclpjekpdifaaPb
namespace Go.Proofs.Ytphclpjekpdifaa
set_option maxRecDepth 20000
open Go.RowKit
open SP
open Go.Proofs.Ytphclpjekpdifaa.Nm (str)
open Wi (RetBelow)
set_option linter.unusedVariables false
/-! ### a table in memory -/
def rpV (r : Rp) : Value := .agg #[.int .i64 r.e, .string r.s, .int .i64 r.a, .int .i64 r.b, .int .i64 r.c, .int .i64 r.n]
def sesC (s : Ses) : List Value := [.int .i64 s.id, .int .i64 s.seq, .int .i64 s.r.e, .string s.r.s, .int .i64 s.r.a, .int .i64 s.r.b, .int .i64 s.r.c, .int .i64 s.r.n, .int .i64 s.u]
def sesV (s : Ses) : Value := .agg #[.int .i64 s.id, .int .i64 s.seq, .int .i64 s.r.e, .string s.r.s, .int .i64 s.r.a, .int .i64 s.r.b, .int .i64 s.r.c, .int .i64 s.r.n, .int .i64 s.u]
def DS : CT Ses := ⟨sesC, 9, 52, 47, .agg #[.int .i64 0, .int .i64 0, .int .i64 0, .string ⟨#[]⟩, .int .i64 0, .int .i64 0, .int .i64 0, .int .i64 0, .int .i64 0], 80, fun _ => rfl, fun x u h => by simp only [sesC, List.mem_cons, List.not_mem_nil, or_false] at h; rcases h with rfl | rfl | rfl | rfl | rfl | rfl | rfl | rfl | rfl <;> rfl, by omega, by omega, by rfl, by omega, by kernel_rfl, Try.underlying47⟩
structure TAt (w : World) (b : Nat) (T : Tb) (v : Value) (S : Nat → Prop) : Prop where
  box : w.heap[b]? = some (.cells #[.int .i64 T.clk, .int .i64 T.lst, v] 49 (0, 0))
  row : Own DS w 0 v T.L
  own : S b
  ov : ∀ k, v.ownBlock = some k → S k
  lt : ∀ k, S k → k < w.heap.size
  ne : ∀ k, v.ownBlock = some k → k ≠ b
def Tab (w : World) (b : Nat) (T : Tb) (S : Nat → Prop) : Prop := ∃ v, TAt w b T v S
def Up (S : Nat → Prop) (w w' : World) (k : Nat) : Prop := S k ∨ (w.heap.size ≤ k ∧ k < w'.heap.size)
/-- it has become T', and nothing else was touched -/
def TabTo (w w' : World) (b : Nat) (T' : Tb) (S : Nat → Prop) : Prop := ∃ S', Tab w' b T' S' ∧ (∀ k, S' k → Up S w w' k) ∧ Fr S w w'
theorem TAt.keep {w w' : World} {b : Nat} {T : Tb} {v : Value} {S : Nat → Prop} (h : TAt w b T v S) (hs : w.heap.size ≤ w'.heap.size) (hk : ∀ k, S k → w'.heap[k]? = w.heap[k]?) : TAt w' b T v S :=
  ⟨(hk b h.own).trans h.box, h.row.keep fun g hg => hk g (h.ov g hg), h.own, h.ov, fun k q => Nat.lt_of_lt_of_le (h.lt k q) hs, h.ne⟩
theorem TAt.below {w w' : World} {b : Nat} {T : Tb} {v : Value} {S : Nat → Prop} (h : TAt w b T v S) (hb : Below w.heap.size w w') : TAt w' b T v S :=
  h.keep hb.size fun k q => hb.block k (h.lt k q)
theorem Tab.below {w w' : World} {b : Nat} {T : Tb} {S : Nat → Prop} (h : Tab w b T S) (hb : Below w.heap.size w w') : Tab w' b T S := by
  obtain ⟨v, h⟩ := h
  exact ⟨v, h.below hb⟩
theorem Tab.fr {w w' : World} {b : Nat} {T : Tb} {S S2 : Nat → Prop} (h : Tab w b T S) (hf : Fr S2 w w') (hd : ∀ k, S k → ¬ S2 k) : Tab w' b T S := by
  obtain ⟨v, h⟩ := h
  exact ⟨v, h.keep hf.size fun k q => hf.block k (h.lt k q) (hd k q)⟩
theorem Tab.lt {w : World} {b : Nat} {T : Tb} {S : Nat → Prop} (h : Tab w b T S) : ∀ k, S k → k < w.heap.size := by
  obtain ⟨v, h⟩ := h
  exact h.lt
theorem Tab.to {w w' : World} {b : Nat} {T : Tb} {S : Nat → Prop} (h : Tab w b T S) (hb : Below w.heap.size w w') : TabTo w w' b T S := ⟨S, h.below hb, fun k hk => .inl hk, Fr.of_below hb⟩
theorem TabTo.from_ {w w2 w3 : World} {b : Nat} {T' : Tb} {S : Nat → Prop} (hb : Below w.heap.size w w2) (h : TabTo w2 w3 b T' S) : TabTo w w3 b T' S := by
  obtain ⟨S', h1, h2, h3⟩ := h
  refine ⟨S', h1, fun k hk => ?_, (Fr.of_below hb).trans h3 fun i q => .inl q⟩
  rcases h2 k hk with q | q
  · exact .inl q
  · exact .inr ⟨Nat.le_trans hb.size q.1, q.2⟩
theorem TabTo.go {w w1 w2 : World} {b : Nat} {T' : Tb} {S S1 : Nat → Prop} (hu : ∀ k, S1 k → Up S w w1 k) (hf : Fr S w w1) (h : TabTo w1 w2 b T' S1) : TabTo w w2 b T' S := by
  obtain ⟨S2, h1, h2, h3⟩ := h
  refine ⟨S2, h1, fun k hk => ?_, hf.trans h3 fun i hi => (hu i hi).elim .inl fun q => .inr q.1⟩
  rcases h2 k hk with q | q
  · rcases hu k q with q | q
    · exact .inl q
    · exact .inr ⟨q.1, by have := h3.size; omega⟩
  · exact .inr ⟨by have := hf.size; omega, q.2⟩
theorem TabTo.after {w w1 w2 : World} {b : Nat} {T' : Tb} {S : Nat → Prop} (h : TabTo w w1 b T' S) (hb : Below w1.heap.size w1 w2) : TabTo w w2 b T' S := by
  obtain ⟨S1, h1, h2, h3⟩ := h
  exact TabTo.go h2 h3 (h1.to hb)
theorem TabTo.below {w w' : World} {b : Nat} {T : Tb} {S : Nat → Prop} {B : Nat} (h : TabTo w w' b T S) (hB : ∀ k, S k → B ≤ k) (hs : B ≤ w.heap.size) : Below B w w' := by
  obtain ⟨_, _, _, h3⟩ := h
  exact h3.below hs hB
theorem tcells {w : World} {b : Nat} {a0 a1 a2 : Value} {t : TypeId} (h : w.heap[b]? = some (.cells #[a0, a1, a2] t (0, 0))) : w.cell? ⟨b, 0, none⟩ = some a0 ∧ w.cell? ⟨b, 1, none⟩ = some a1 ∧ w.cell? ⟨b, 2, none⟩ = some a2 ∧ w.frozen? ⟨b, 0, none⟩ = false ∧ w.frozen? ⟨b, 1, none⟩ = false ∧ w.frozen? ⟨b, 2, none⟩ = false := by
  refine ⟨?_, ?_, ?_, ?_, ?_, ?_⟩
  all_goals first | exact Lib.frozen_of_heap h _ | (rw [Lib.cell_of_heap h]; rfl)
theorem heap_set3 (w : World) (b k : Nat) (u : Value) (a0 a1 a2 : Value) (t : TypeId) (h : w.heap[b]? = some (.cells #[a0, a1, a2] t (0, 0))) : (w.setCell ⟨b, k, none⟩ u).heap[b]? = some (.cells ((#[a0, a1, a2] : Array Value).setIfInBounds k u) t (0, 0)) := Wi.heap_set w b k u _ _ h
/-- a new one -/
theorem empty_any (w : World) : Calls Try.prog 5 #[] w fun e w' => ∃ b, e = .returned (.pointer (some ⟨b, 0, none⟩)) ∧ w.heap.size ≤ b ∧ Tab w' b t0 (· = b) ∧ Below w.heap.size w w' := by
  have hbd : ∀ W : World, (Instr.build 49 #[]).run Try.prog W = .ok (.agg #[.int .i64 0, .int .i64 0, .slice none 0 0]) W := fun W => run_build W 49 _ _ (by kernel_rfl)
  go_enter Try.func5, Try.ntmps5
  go_wp2_with fail
  go_ret
  refine ⟨_, rfl, Nat.le_refl _, ⟨.slice none 0 0, heap_alloc_new w _, Own.nil DS _ _, rfl, fun k h => (by cases h), fun k h => (by rw [h]; simp), fun k h => (by cases h)⟩, (Below.refl _ w).alloc (Nat.le_refl _) _⟩
/-- the clock -/
theorem tick_any {w : World} {b : Nat} {T : Tb} {S : Nat → Prop} (h : Tab w b T S) (hI : Inv T) : Calls Try.prog 13 #[.pointer (some ⟨b, 0, none⟩)] w fun e w' => e = .returned (.tuple #[]) ∧ TabTo w w' b (tick T) S := by
  have HT := Lib.hid h
  obtain ⟨v, h⟩ := h
  obtain ⟨c0, c1, c2, f0, f1, f2⟩ := tcells h.box
  have H := Lib.hid h
  have h1 := hI.c1
  have h2 := hI.c2
  have HC : Hid (T.clk ≤ M) := Lib.hid h2
  unfold M at h2
  clear h
  by_cases hc : T.clk < M
  · have g1 : decide (T.clk < 4611686018427387904) = true := by simpa [M] using hc
    have HL := Lib.hid hc
    go_enter Try.func13, Try.ntmps13
    go_wp2_with fail
    go_end0
    refine ⟨rfl, S, ⟨v, ?_, ?_, H.out.own, H.out.ov, ?_, H.out.ne⟩, fun k hk => .inl hk, (Fr.refl S w).setCell (.inl H.out.own) _⟩
    · rw [heap_set3 w b 0 _ _ _ _ _ H.out.box]
      unfold tick
      rw [if_pos HL.out]
      rfl
    · unfold tick
      rw [if_pos HL.out]
      exact H.out.row.keep fun g hg => Below.heap_setCell _ _ _ g (H.out.ne g hg)
    · intro k hk
      have := H.out.lt k hk
      simpa [World.setCell] using this
  · have g1 : decide (T.clk < 4611686018427387904) = false := by simpa [M] using hc
    have HL := Lib.hid hc
    go_enter Try.func13, Try.ntmps13
    go_wp2_with fail
    go_end0
    refine ⟨rfl, ?_⟩
    unfold tick
    rw [if_neg (by have := HL.out; omega)]
    exact HT.out.to (Below.refl _ _)
end Go.Proofs.Ytphclpjekpdifaa
