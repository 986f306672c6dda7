/-
  Orders: which one any data tells. Condition: the data has at most 2^48 bytes.
-/
import Derived.Test.YtebacdegjmcnlaaOe
namespace Go.Proofs.Ytebacdegjmcnlaa
set_option maxRecDepth 20000
open Go.RowKit Pl
set_option linter.unusedVariables false
/-- the item that bytes are, or the zero one -/
def ItemZ (l : List UInt8) (w : World) (e : Ending) (w' : World) : Prop := Below w.heap.size w w' ∧ ∃ v, e = .returned v ∧ IsIt w' (NewB w w') ((dec l).getD zI) v
set_option maxHeartbeats 1000000 in
theorem itemZ_any (l : List UInt8) (w : World) (hs : l.length ≤ 281474976710656) : Calls Try.prog 54 #[.string (Nm.str l)] w (ItemZ l w) := by
  have hsz : (Nm.str l).size = l.length := Nm.str_size l
  have hcv : ∀ W : World, (convert 9 67 (.string (Nm.str l))).run Try.prog W = .ok (.slice (some ⟨W.heap.size, 0, none⟩) l.length (grownCap W (Nm.str l).size 0 5)) (W.drew.alloc (.cells (bytesRow (Nm.str l) (grownCap W (Nm.str l).size 0 5)) 5 ((bytesRow (Nm.str l) (grownCap W (Nm.str l).size 0 5)).size, (bytesRow (Nm.str l) (grownCap W (Nm.str l).size 0 5)).size + 1))) := fun W => by
    have := run_bytes_of_string (P := Try.prog) W 9 67 5 (Nm.str l) Try.underlying9 Try.underlying67 Try.underlying5
    rw [hsz] at this
    rw [hsz]
    exact this
  obtain ⟨C, hC⟩ : ∃ C, C = grownCap (w.alloc (.cells zeroItem 56)) (Nm.str l).size 0 5 := ⟨_, rfl⟩
  have h7 := hcv (w.alloc (.cells zeroItem 56))
  rw [← hC] at h7
  have hg := RowAt.new (w.alloc (.cells zeroItem 56)) l C
  have hCge : l.length ≤ C := by rw [hC, ← hsz]; exact grownCap_ge _ _ _ _
  have hCle : C ≤ 9223372036854775807 := by have := grownCap_le_maxLen (w.alloc (.cells zeroItem 56)) (Nm.str l).size 0 5 (by rw [hsz]; simp only [maxLen]; omega); rw [hC]; simpa [maxLen] using this
  obtain ⟨W, hW⟩ : ∃ W, W = (w.alloc (.cells zeroItem 56)).drew.alloc (.cells (bytesRow (Nm.str l) C) 5 ((bytesRow (Nm.str l) C).size, (bytesRow (Nm.str l) C).size + 1)) := ⟨_, rfl⟩
  rw [← hW] at h7 hg
  have hB0 : Below w.heap.size w (w.alloc (.cells zeroItem 56)) := (Below.refl _ _).alloc (Nat.le_refl _) _
  have hB : Below w.heap.size w W := by rw [hW]; exact hB0.drew.alloc (by simp) _
  have hR : W.heap[w.heap.size]? = some (.cells zeroItem 56 (0, 0)) := by rw [hW]; exact (Below.heap_alloc _ _ _ (by simp)).trans (heap_alloc_new w _)
  have hsW : W.heap.size = w.heap.size + 2 := by rw [hW]; simp
  have h0s : (w.alloc (.cells zeroItem 56)).heap.size = w.heap.size + 1 := by simp
  rw [h0s] at h7 hg
  have HG := Lib.hid hg
  have HB := Lib.hid hB
  have HR := Lib.hid hR
  have HS := Lib.hid hsW
  have HL := Lib.hid hCge
  have HM := Lib.hid hCle
  clear hcv hC hg hCge hCle hW hB0 hB hR hsW h0s
  unfold zeroItem at h7
  generalize hn : l.length = n at *
  have HN := Lib.hid hn
  clear hn hs hsz
  obtain ⟨T, hT⟩ : ∃ T, T = (dec l).getD zI := ⟨_, rfl⟩
  have HD : Hid (Calls Try.prog 69 #[.slice (some ⟨w.heap.size + 1, 0, none⟩) n C] W fun e w' => Below W.heap.size W w' ∧ ∃ (k m : Int) (s : ByteArray) (A : Option Addr) (tl : List It) (c : Nat) (en : Int), e = .returned (.tuple #[.agg #[.int .i64 k, .int .i64 m, .string s, .slice A tl.length c], .int .i64 en]) ∧ IsIt w' (NewB W w') T (.agg #[.int .i64 k, .int .i64 m, .string s, .slice A tl.length c])) := Lib.hid ((decode_any l _ n C W (HG.out.bytes (by have := HS.out; omega)) HN.out HL.out HM.out).mono (by
    rintro e w1 ⟨hb1, hyes, hno⟩
    refine ⟨hb1, ?_⟩
    cases hd : dec l with
    | none =>
      rw [hd] at hT
      obtain rfl := hno hd
      exact ⟨0, 0, ⟨#[]⟩, none, [], 0, 4, rfl, by rw [hT]; exact isIt_zero w1 _⟩
    | some t =>
      rw [hd] at hT
      obtain ⟨v, rfl, hv⟩ := hyes t hd
      obtain ⟨k, m, s, tl⟩ := t
      have hv2 := hv
      rw [IsIt] at hv
      obtain ⟨A, c, rfl, _⟩ := hv
      exact ⟨k, m, s, A, tl, c, 0, rfl, by rw [hT]; exact hv2⟩))
  have HT : Hid (T = (dec l).getD zI) := Lib.hid hT
  clear hT
  go_enter Try.func54, Try.ntmps54
  go_wp2_with (go_at_call 69; (with_reducible refine HD.out.mono ?_); rintro e w1 ⟨hb1, k, m, s, A, tl, c, en, rfl, hv⟩; have B1 := Lib.hid hb1; have HV := Lib.hid hv; have R1 := Lib.hid ((hb1.block w.heap.size (by have := HS.out; omega)).trans HR.out); clear hb1 hv; have hq := row4 (w := (w1.alloc (.cells #[.int .i64 k, .int .i64 m, .string s, .slice A tl.length c] 56))) (b := w.heap.size) (a0 := .int .i64 0) (a1 := .int .i64 0) (a2 := .string ⟨#[]⟩) (a3 := .slice none 0 0) (t := 56) ((Below.heap_alloc _ _ _ (Nat.lt_of_lt_of_le (by have := HS.out; omega) B1.out.size)).trans R1.out); obtain ⟨j0, j1, j2, j3, k0, k1, k2, k3⟩ := hq)
  all_goals
    have hs := HS.out
    have h1 := B1.out.size
    have RA : (w1.alloc (.cells #[.int .i64 k, .int .i64 m, .string s, .slice A tl.length c] 56)).heap[w.heap.size]? = some (.cells #[.int .i64 0, .int .i64 0, .string ⟨#[]⟩, .slice none 0 0] 56 (0, 0)) := (Below.heap_alloc _ _ _ (by omega)).trans R1.out
    have W4 := w4_row _ w.heap.size (.int .i64 k) (.int .i64 m) (.string s) (.slice A tl.length c) _ _ _ _ 56 RA
    have WF := w4_far (w1.alloc (.cells #[.int .i64 k, .int .i64 m, .string s, .slice A tl.length c] 56)) w.heap.size (.int .i64 k) (.int .i64 m) (.string s) (.slice A tl.length c)
    have WS := w4_size (w1.alloc (.cells #[.int .i64 k, .int .i64 m, .string s, .slice A tl.length c] 56)) w.heap.size (.int .i64 k) (.int .i64 m) (.string s) (.slice A tl.length c)
    have WB := w4_below (w1.alloc (.cells #[.int .i64 k, .int .i64 m, .string s, .slice A tl.length c] 56)) w.heap.size w.heap.size (.int .i64 k) (.int .i64 m) (.string s) (.slice A tl.length c) (Nat.le_refl _)
    change bodyPost Try.prog Try.f54 (ItemZ l w) Exit.ret _ (w4 (w1.alloc (.cells #[.int .i64 k, .int .i64 m, .string s, .slice A tl.length c] 56)) w.heap.size (.int .i64 k) (.int .i64 m) (.string s) (.slice A tl.length c))
    generalize w4 (w1.alloc (.cells #[.int .i64 k, .int .i64 m, .string s, .slice A tl.length c] 56)) w.heap.size (.int .i64 k) (.int .i64 m) (.string s) (.slice A tl.length c) = V at *
    obtain ⟨m0, m1, m2, m3, _⟩ := row4 W4
    have hbV : Below w.heap.size w V := (HB.out.trans ((B1.out.alloc h1 _).mono (by omega))).trans WB
    rw [World.size_alloc] at WS
    refine bodyPost_ret (v := .agg #[.int .i64 k, .int .i64 m, .string s, .slice A tl.length c]) (by simp [results, Try.results54, go_sem, m0, m1, m2, m3]) rfl ⟨hbV, _, rfl, ?_⟩
    rw [← HT.out]
    refine IsIt.mono (fun q hq => ?_) _ (IsIt.keep (fun q hq => ?_) _ HV.out)
    · have a1 := hq.1
      have a2 := hq.2
      exact ⟨by omega, by omega⟩
    · have a1 := hq.1
      have a2 := hq.2
      exact (WF q (by omega)).trans (Below.heap_alloc _ _ q a2)
end Go.Proofs.Ytebacdegjmcnlaa
