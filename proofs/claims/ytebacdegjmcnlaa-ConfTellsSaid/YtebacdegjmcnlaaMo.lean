import Derived.Test.YtebacdegjmcnlaaMn
import Derived.Laws.IdiomStrings
namespace Go.Proofs.Ytebacdegjmcnlaa
open Go.RowKit Pl
set_option linter.unusedVariables false
set_option maxRecDepth 20000
/-- a row of bytes of the call's own, as the text's bytes were laid there -/
def RowAt (w : World) (g : Nat) (l : List UInt8) : Prop := ∃ cs fz, w.heap[g]? = some (.cells cs 5 (fz, fz + 1)) ∧ l.length ≤ fz ∧ fz ≤ cs.size ∧ ∀ j, j < l.length → cs[j]? = (vB l)[j]?

theorem vB_at {l : List UInt8} {j : Nat} {x : UInt8} (h : l[j]? = some x) : (vB l)[j]? = some (.int .u8 (x.toNat : Int)) := by simp [vB, h]
theorem RowAt.cell {w : World} {g : Nat} {l : List UInt8} (h : RowAt w g l) {j : Nat} {x : UInt8} (hx : l[j]? = some x) : w.cell? ⟨g, j, none⟩ = some (.int .u8 (x.toNat : Int)) ∧ w.frozen? ⟨g, j, none⟩ = false := by
  obtain ⟨cs, fz, hb, hl, hz, hc⟩ := h
  have hj : j < l.length := (List.getElem?_eq_some_iff.1 hx).1
  refine ⟨by rw [Lib.cell_of_heap hb, hc j hj, vB_at hx], ?_⟩
  unfold World.frozen?
  rw [hb]
  simp
  omega
theorem RowAt.set {w : World} {g : Nat} {l : List UInt8} (h : RowAt w g l) {j : Nat} (hj : j < l.length) (y : UInt8) : RowAt (w.setCell ⟨g, j, none⟩ (.int .u8 (y.toNat : Int))) g (l.set j y) := by
  obtain ⟨cs, fz, hb, hl, hz, hc⟩ := h
  refine ⟨cs.setIfInBounds j (.int .u8 (y.toNat : Int)), fz, by simp [World.setCell, Array.getElem?_modify, hb], by simpa using hl, by simpa using hz, fun k hk => ?_⟩
  rw [List.length_set] at hk
  rw [Array.getElem?_setIfInBounds]
  by_cases e : j = k
  · subst e
    rw [if_pos rfl, if_pos (by omega)]
    symm
    apply vB_at
    rw [List.getElem?_set_self hk]
  · rw [if_neg e, hc k hk]
    simp [vB, List.getElem?_set_ne e]
theorem RowAt.keep {w w' : World} {g : Nat} {l : List UInt8} (h : RowAt w g l) (hb : w'.heap[g]? = w.heap[g]?) : RowAt w' g l := by
  obtain ⟨cs, fz, h1, h2⟩ := h
  exact ⟨cs, fz, hb.trans h1, h2⟩
theorem RowAt.lt {w : World} {g : Nat} {l : List UInt8} (h : RowAt w g l) : g < w.heap.size := by
  obtain ⟨cs, fz, h1, h2⟩ := h
  exact (Array.getElem?_eq_some_iff.1 h1).1
theorem RowAt.new (w : World) (l : List UInt8) (cap : Nat) : RowAt (w.drew.alloc (.cells (bytesRow (Nm.str l) cap) 5 ((bytesRow (Nm.str l) cap).size, (bytesRow (Nm.str l) cap).size + 1))) w.heap.size l := by
  refine ⟨_, _, heap_alloc_new w.drew _, by simp [bytesRow, Nm.str], Nat.le_refl _, fun j hj => ?_⟩
  have h1 : j < (Nm.str l).data.size := by simp [Nm.str]; exact hj
  rw [bytesRow_at _ _ j h1]
  symm
  apply vB_at
  simp [Nm.str, hj]
theorem RowAt.text {w : World} {g : Nat} {l : List UInt8} (h : RowAt w g l) (n cap : Nat) (hn : n = l.length) : (convert 67 9 (.slice (some ⟨g, 0, none⟩) n cap)).run Try.prog w = .ok (.string (Nm.str l)) w := by
  subst hn
  refine run_convert_bytes_back w 67 9 5 ⟨g, 0, none⟩ cap l Try.underlying67 Try.underlying5 Try.underlying9 fun j hj => ?_
  have := (h.cell (List.getElem?_eq_getElem hj)).1
  unfold Addr.add
  split
  · subst j; exact this
  · simpa using this
theorem RowAt.bytes {w : World} {g B : Nat} {l : List UInt8} (h : RowAt w g l) (hB : g < B) : BytesAt w B (some ⟨g, 0, none⟩) l := fun _ => ⟨g, 0, rfl, hB, fun j u hu => by rw [Nat.zero_add]; exact (h.cell hu).1⟩
/-- the item whose bytes these are, or the panic -/
def ItemP (l : List UInt8) (w : World) (e : Ending) (w' : World) : Prop :=
  Below w.heap.size w w' ∧ (∀ t, dec l = some t → ∃ v, e = .returned v ∧ IsIt w' (NewB w w') t v) ∧ (dec l = none → e = .panicked CP)
theorem itemOf_any (l : List UInt8) (w : World) (hs : l.length ≤ 281474976710656) : Calls Try.prog 82 #[.string (Nm.str l)] w (ItemP l w) := by
  have hsz : (Nm.str l).size = l.length := Nm.str_size l
  have hcv : ∀ W : World, (convert 9 67 (.string (Nm.str l))).run Try.prog W = .ok (.slice (some ⟨W.heap.size, 0, none⟩) l.length (grownCap W (Nm.str l).size 0 5)) (W.drew.alloc (.cells (bytesRow (Nm.str l) (grownCap W (Nm.str l).size 0 5)) 5 ((bytesRow (Nm.str l) (grownCap W (Nm.str l).size 0 5)).size, (bytesRow (Nm.str l) (grownCap W (Nm.str l).size 0 5)).size + 1))) := fun W => by
    have := run_bytes_of_string (P := Try.prog) W 9 67 5 (Nm.str l) Try.underlying9 Try.underlying67 Try.underlying5
    rw [hsz] at this
    rw [hsz]
    exact this
  obtain ⟨C, hC⟩ : ∃ C, C = grownCap (w.alloc (.cells zeroItem 56)) (Nm.str l).size 0 5 := ⟨_, rfl⟩
  have h7 := hcv (w.alloc (.cells zeroItem 56))
  rw [← hC] at h7
  have hg := RowAt.new (w.alloc (.cells zeroItem 56)) l C
  have hCge : l.length ≤ C := by rw [hC, ← hsz]; exact grownCap_ge _ _ _ _
  have hCle : C ≤ 9223372036854775807 := by have := grownCap_le_maxLen (w.alloc (.cells zeroItem 56)) (Nm.str l).size 0 5 (by rw [hsz]; simp only [maxLen]; omega); rw [hC]; simpa [maxLen] using this
  obtain ⟨W, hW⟩ : ∃ W, W = (w.alloc (.cells zeroItem 56)).drew.alloc (.cells (bytesRow (Nm.str l) C) 5 ((bytesRow (Nm.str l) C).size, (bytesRow (Nm.str l) C).size + 1)) := ⟨_, rfl⟩
  rw [← hW] at h7 hg
  have hB0 : Below w.heap.size w (w.alloc (.cells zeroItem 56)) := (Below.refl _ _).alloc (Nat.le_refl _) _
  have hB : Below w.heap.size w W := by rw [hW]; exact hB0.drew.alloc (by simp) _
  have hR : W.heap[w.heap.size]? = some (.cells zeroItem 56 (0, 0)) := by rw [hW]; exact (Below.heap_alloc _ _ _ (by simp)).trans (heap_alloc_new w _)
  have hsW : W.heap.size = w.heap.size + 2 := by rw [hW]; simp
  have h0s : (w.alloc (.cells zeroItem 56)).heap.size = w.heap.size + 1 := by simp
  rw [h0s] at h7 hg
  have HG := Lib.hid hg
  have HB := Lib.hid hB
  have HR := Lib.hid hR
  have HS := Lib.hid hsW
  have HL := Lib.hid hCge
  have HM := Lib.hid hCle
  clear hcv hC hg hCge hCle hW hB0 hB hR hsW h0s
  unfold zeroItem at h7
  generalize hn : l.length = n at *
  have HN := Lib.hid hn
  clear hn hs hsz
  cases hd : dec l with
  | none =>
    go_enter Try.func82, Try.ntmps82
    go_wp2_with (first
      | (go_at_call 69; (with_reducible refine (decode_any l _ n C W (HG.out.bytes (by have := HS.out; omega)) HN.out HL.out HM.out).mono ?_); rintro e w1 ⟨hb1, _, hno⟩; obtain rfl := hno hd; have B1 := Lib.hid hb1; clear hb1 hno; unfold zeroItem)
      | (go_at_call 87; (with_reducible refine (must_no _).mono ?_); rintro e w2 ⟨rfl, rfl⟩))
    refine ⟨rfl, ?_, fun t ht => (by rw [hd] at ht; cases ht), fun _ => rfl⟩
    have := HS.out
    have h1 := B1.out.size
    exact HB.out.trans ((B1.out.alloc h1 _).mono (by omega))
  | some t =>
    go_enter Try.func82, Try.ntmps82
    go_wp2_with (first
      | (go_at_call 69; (with_reducible refine (decode_any l _ n C W (HG.out.bytes (by have := HS.out; omega)) HN.out HL.out HM.out).mono ?_); rintro e w1 ⟨hb1, hyes, _⟩; obtain ⟨v, rfl, hv⟩ := hyes t hd; obtain ⟨k, m, s, tl⟩ := t; rw [IsIt] at hv; obtain ⟨A, c, rfl, v1, v2, v3, v4, hal⟩ := hv; have B1 := Lib.hid hb1; have HV : Hid (IsIt w1 (NewB W w1) (.mk k m s tl) (.agg #[.int .i64 k, .int .i64 m, .string s, .slice A tl.length c])) := Lib.hid (by rw [IsIt]; exact ⟨A, c, rfl, v1, v2, v3, v4, hal⟩); have R1 := Lib.hid ((hb1.block w.heap.size (by have := HS.out; omega)).trans HR.out); clear hb1 hyes v1 v2 v3 v4 hal)
      | (go_at_call 87; (with_reducible refine (must_yes _).mono ?_); rintro e w2 ⟨rfl, rfl⟩; have hq := row4 (w := (w1.alloc (.cells #[.int .i64 k, .int .i64 m, .string s, .slice A tl.length c] 56))) (b := w.heap.size) (a0 := .int .i64 0) (a1 := .int .i64 0) (a2 := .string ⟨#[]⟩) (a3 := .slice none 0 0) (t := 56) ((Below.heap_alloc _ _ _ (Nat.lt_of_lt_of_le (by have := HS.out; omega) B1.out.size)).trans R1.out); obtain ⟨j0, j1, j2, j3, k0, k1, k2, k3⟩ := hq))
    have hs := HS.out
    have h1 := B1.out.size
    have RA : (w1.alloc (.cells #[.int .i64 k, .int .i64 m, .string s, .slice A tl.length c] 56)).heap[w.heap.size]? = some (.cells #[.int .i64 0, .int .i64 0, .string ⟨#[]⟩, .slice none 0 0] 56 (0, 0)) := (Below.heap_alloc _ _ _ (by omega)).trans R1.out
    have W4 := w4_row _ w.heap.size (.int .i64 k) (.int .i64 m) (.string s) (.slice A tl.length c) _ _ _ _ 56 RA
    have WF := w4_far (w1.alloc (.cells #[.int .i64 k, .int .i64 m, .string s, .slice A tl.length c] 56)) w.heap.size (.int .i64 k) (.int .i64 m) (.string s) (.slice A tl.length c)
    have WS := w4_size (w1.alloc (.cells #[.int .i64 k, .int .i64 m, .string s, .slice A tl.length c] 56)) w.heap.size (.int .i64 k) (.int .i64 m) (.string s) (.slice A tl.length c)
    have WB := w4_below (w1.alloc (.cells #[.int .i64 k, .int .i64 m, .string s, .slice A tl.length c] 56)) w.heap.size w.heap.size (.int .i64 k) (.int .i64 m) (.string s) (.slice A tl.length c) (Nat.le_refl _)
    change bodyPost Try.prog Try.f82 (ItemP l w) Exit.ret _ (w4 (w1.alloc (.cells #[.int .i64 k, .int .i64 m, .string s, .slice A tl.length c] 56)) w.heap.size (.int .i64 k) (.int .i64 m) (.string s) (.slice A tl.length c))
    generalize w4 (w1.alloc (.cells #[.int .i64 k, .int .i64 m, .string s, .slice A tl.length c] 56)) w.heap.size (.int .i64 k) (.int .i64 m) (.string s) (.slice A tl.length c) = V at *
    obtain ⟨m0, m1, m2, m3, _⟩ := row4 W4
    have hbV : Below w.heap.size w V := (HB.out.trans ((B1.out.alloc h1 _).mono (by omega))).trans WB
    rw [World.size_alloc] at WS
    refine bodyPost_ret (v := .agg #[.int .i64 k, .int .i64 m, .string s, .slice A tl.length c]) (by simp [results, Try.results82, go_sem, m0, m1, m2, m3]) rfl ⟨hbV, fun t ht => ?_, fun h => (by rw [hd] at h; cases h)⟩
    rw [hd] at ht
    obtain rfl := Option.some.inj ht
    refine ⟨_, rfl, IsIt.mono (fun q hq => ?_) _ (IsIt.keep (fun q hq => ?_) _ HV.out)⟩
    · have a1 := hq.1
      have a2 := hq.2
      exact ⟨by omega, by omega⟩
    · have a1 := hq.1
      have a2 := hq.2
      exact (WF q (by omega)).trans (Below.heap_alloc _ _ q a2)
end Go.Proofs.Ytebacdegjmcnlaa
