import Derived.Test.YtebacdegjmcnlaaGreatMb
import Derived.Deep.RegionHeld3
namespace Go.Proofs.YtebacdegjmcnlaaGreat
open Go.RowKit Pl
set_option linter.unusedVariables false
set_option maxRecDepth 20000
theorem are_row {w : World} {S : Nat → Prop} {b : Nat} {ts : List It} {us : List Value} {t : TypeId} (hb : S b) (hI : ItsIn w S ts us) (h : w.heap[b]? = some (.cells us.toArray t (0, 0))) : AreIts w S ts (some ⟨b, 0, none⟩) 0 :=
  ItsIn.are hb hI fun j u hu => by rw [Nat.zero_mul, Nat.zero_add]; exact cell_of_row _ _ j _ _ _ h |>.trans (by simpa using hu)
theorem isIt_nIt (w : World) (S : Nat → Prop) (n : Int) (h : InR n) : IsIt w S (nIt n) (.agg #[.int .i64 1, .int .i64 n, .string ⟨#[]⟩, .slice none 0 0]) := isIt_num w S 1 n ⟨by omega, by omega⟩ h
theorem isIt_sIt (w : World) (S : Nat → Prop) (s : ByteArray) (h : s.size ≤ maxLen) : IsIt w S (sIt s) (.agg #[.int .i64 2, .int .i64 0, .string s, .slice none 0 0]) := isIt_str w S s h
theorem isIt_row (w : World) (S : Nat → Prop) (ts : List It) (A : Option Addr) (c : Nat) (hl : ts.length ≤ maxLen) (h : AreIts w S ts A 0) : IsIt w S (.mk 3 0 ⟨#[]⟩ ts) (.agg #[.int .i64 3, .int .i64 0, .string ⟨#[]⟩, .slice A ts.length c]) := by
  rw [IsIt]
  exact ⟨A, c, rfl, ⟨by omega, by omega⟩, ⟨by omega, by omega⟩, by simp [zero_size], hl, h⟩
theorem w4_cell (w : World) (R : Nat) (a b c d : Value) (q k : Nat) (h : q ≠ R) : ((((w.setCell ⟨R, 0, none⟩ a).setCell ⟨R, 1, none⟩ b).setCell ⟨R, 2, none⟩ c).setCell ⟨R, 3, none⟩ d).cell? ⟨q, k, none⟩ = w.cell? ⟨q, k, none⟩ :=
  World.cell?_of_block (w := w) (w4_far w R a b c d q h)
theorem w4_three {w : World} {p R : Nat} {x y z : Value} (a b c d : Value) (h : w.cell? ⟨p, 0, none⟩ = some x ∧ w.cell? ⟨p, 1, none⟩ = some y ∧ w.cell? ⟨p, 2, none⟩ = some z) (hne : p ≠ R) :
    ((((w.setCell ⟨R, 0, none⟩ a).setCell ⟨R, 1, none⟩ b).setCell ⟨R, 2, none⟩ c).setCell ⟨R, 3, none⟩ d).cell? ⟨p, 0, none⟩ = some x ∧
    ((((w.setCell ⟨R, 0, none⟩ a).setCell ⟨R, 1, none⟩ b).setCell ⟨R, 2, none⟩ c).setCell ⟨R, 3, none⟩ d).cell? ⟨p, 1, none⟩ = some y ∧
    ((((w.setCell ⟨R, 0, none⟩ a).setCell ⟨R, 1, none⟩ b).setCell ⟨R, 2, none⟩ c).setCell ⟨R, 3, none⟩ d).cell? ⟨p, 2, none⟩ = some z :=
  ⟨(w4_cell w R a b c d p 0 hne).trans h.1, (w4_cell w R a b c d p 1 hne).trans h.2.1, (w4_cell w R a b c d p 2 hne).trans h.2.2⟩
/-- the end of a call whose result is a list of items, put into the block R -/
theorem row_post {w wc w5 : World} {R c : Nat} {us : List Value} {ts : List It} {z0 z1 z2 z3 : Value} (hR : w.heap.size ≤ R) (hc : Below w.heap.size w wc) (h5 : Below (wc.heap.size + 1) (wc.alloc (.cells us.toArray 50)) w5)
    (hR5 : w5.heap[R]? = some (.cells #[z0, z1, z2, z3] 50 (0, 0))) (hne : R < wc.heap.size) (hl : ts.length ≤ maxLen)
    (hI : ItsIn (w4 w5 R (.int .i64 3) (.int .i64 0) (.string ⟨#[]⟩) (.slice (some ⟨wc.heap.size, 0, none⟩) ts.length c)) (NewB w (w4 w5 R (.int .i64 3) (.int .i64 0) (.string ⟨#[]⟩) (.slice (some ⟨wc.heap.size, 0, none⟩) ts.length c))) ts us) :
    ItPost (.mk 3 0 ⟨#[]⟩ ts) w (.returned (.agg #[.int .i64 3, .int .i64 0, .string ⟨#[]⟩, .slice (some ⟨wc.heap.size, 0, none⟩) ts.length c])) (w4 w5 R (.int .i64 3) (.int .i64 0) (.string ⟨#[]⟩) (.slice (some ⟨wc.heap.size, 0, none⟩) ts.length c)) := by
  have WF := w4_far w5 R (.int .i64 3) (.int .i64 0) (.string ⟨#[]⟩) (.slice (some ⟨wc.heap.size, 0, none⟩) ts.length c)
  have WS := w4_size w5 R (.int .i64 3) (.int .i64 0) (.string ⟨#[]⟩) (.slice (some ⟨wc.heap.size, 0, none⟩) ts.length c)
  have WB := w4_below w5 w.heap.size R (.int .i64 3) (.int .i64 0) (.string ⟨#[]⟩) (.slice (some ⟨wc.heap.size, 0, none⟩) ts.length c) hR
  generalize w4 w5 R (.int .i64 3) (.int .i64 0) (.string ⟨#[]⟩) (.slice (some ⟨wc.heap.size, 0, none⟩) ts.length c) = W at *
  have hs5 := h5.size
  have hsc := hc.size
  have hsA : (wc.alloc (.cells us.toArray 50)).heap.size = wc.heap.size + 1 := by simp
  refine ⟨_, rfl, ((hc.alloc hsc _).trans (h5.mono (by omega))).trans WB, isIt_row W _ ts _ c hl (are_row (t := 50) ⟨by omega, by omega⟩ hI ?_)⟩
  exact (WF _ (by omega)).trans ((h5.block _ (by omega)).trans (heap_alloc_new _ _))
theorem vector_any (a b c : Int) (w : World) (ha : InR a) (hb : InR b) (hc : InR c) : Calls Tryz.prog 97 #[.agg #[.int .i64 a, .int .i64 b, .int .i64 c]] w (ItPost (vIt a b c) w) := by
  have Ha := Lib.hid ha
  have Hb := Lib.hid hb
  have Hc := Lib.hid hc
  clear ha hb hc
  have BW := Lib.hid (((Below.refl w.heap.size w).alloc (Nat.le_refl _) (.cells #[.int .i64 a, .int .i64 b, .int .i64 c] 30)).alloc (by simp) (.cells zeroItem 50))
  have R0 : ((w.alloc (.cells #[.int .i64 a, .int .i64 b, .int .i64 c] 30)).alloc (.cells zeroItem 50)).heap[w.heap.size]? = some (.cells #[.int .i64 a, .int .i64 b, .int .i64 c] 30 (0, 0)) := (Below.heap_alloc _ _ _ (by simp)).trans (heap_alloc_new _ _)
  have R1 : ((w.alloc (.cells #[.int .i64 a, .int .i64 b, .int .i64 c] 30)).alloc (.cells zeroItem 50)).heap[w.heap.size + 1]? = some (.cells zeroItem 50 (0, 0)) := by
    rw [show w.heap.size + 1 = (w.alloc (.cells #[.int .i64 a, .int .i64 b, .int .i64 c] 30)).heap.size from by simp]; exact heap_alloc_new _ _
  have SW : ((w.alloc (.cells #[.int .i64 a, .int .i64 b, .int .i64 c] 30)).alloc (.cells zeroItem 50)).heap.size = w.heap.size + 2 := by simp
  go_enter Tryz.func97, Tryz.ntmps97
  go_wp2_with fail
  change Code.wp Tryz.prog _ _ _ ((w.alloc (.cells #[.int .i64 a, .int .i64 b, .int .i64 c] 30)).alloc (.cells zeroItem 50))
  generalize (w.alloc (.cells #[.int .i64 a, .int .i64 b, .int .i64 c] 30)).alloc (.cells zeroItem 50) = W at *
  have HR := Lib.hid (fun V (h : Below W.heap.size W V) => (⟨(h.block _ (by omega)).trans R0, (h.block _ (by omega)).trans R1⟩ : V.heap[w.heap.size]? = some (.cells #[.int .i64 a, .int .i64 b, .int .i64 c] 30 (0, 0)) ∧ V.heap[w.heap.size + 1]? = some (.cells zeroItem 50 (0, 0))))
  have HS := Lib.hid SW
  clear R0 R1 SW
  have HA3 := Lib.hid (fun V (h : Below W.heap.size W V) => (⟨cell_of_row V _ 0 _ _ _ (HR.out V h).1, cell_of_row V _ 1 _ _ _ (HR.out V h).1, cell_of_row V _ 2 _ _ _ (HR.out V h).1⟩ : V.cell? ⟨w.heap.size, 0, none⟩ = some (.int .i64 a) ∧ V.cell? ⟨w.heap.size, 1, none⟩ = some (.int .i64 b) ∧ V.cell? ⟨w.heap.size, 2, none⟩ = some (.int .i64 c)))
  have HNE : Hid (w.heap.size ≠ w.heap.size + 1) := Lib.hid (by omega)
  have E0 : Hid (Below W.heap.size W W.drew) := Lib.hid (Below.refl _ W).drew
  obtain ⟨e1, e2, e3⟩ := HA3.out _ E0.out
  go_region_held3 (fun V => V.cell? ⟨w.heap.size, 0, none⟩ = some (.int .i64 a) ∧ V.cell? ⟨w.heap.size, 1, none⟩ = some (.int .i64 b) ∧ V.cell? ⟨w.heap.size, 2, none⟩ = some (.int .i64 c))
    (first | with_reducible exact w4_three _ _ _ _ AT5.out HNE.out | exact HA3.out _ BD.out | exact HA3.out _ (BC.out.alloc BC.out.size _) | exact HA3.out _ BC.out | exact HA3.out _ BB.out | exact HA3.out _ BA.out | exact HA3.out _ E0.out)
    (first
      | (go_at_call 42; (refine (row_any _ _ _ _).mono ?_); rintro e w5 ⟨rfl, h4⟩; have BD : Hid (Below W.heap.size W w5) := Lib.hid ((BC.out.alloc BC.out.size _).trans (h4.mono (by have := BC.out.size; simp; omega))); have AT5 := Lib.hid (HA3.out w5 BD.out); have H4 := Lib.hid h4; clear h4; obtain ⟨j0, j1, j2, j3, k0, k1, k2, k3⟩ := row4 (a0 := .int .i64 0) (a1 := .int .i64 0) (a2 := .string ⟨#[]⟩) (a3 := .slice none 0 0) (HR.out w5 BD.out).2)
      | (go_at_call 43; (with_reducible refine (num_any _ _).mono ?_); rintro e wc ⟨rfl, b2⟩; have BC : Hid (Below W.heap.size W wc) := Lib.hid (BB.out.trans (b2.mono BB.out.size)); clear b2; obtain ⟨i1, i2, i3⟩ := HA3.out wc BC.out)
      | (go_at_call 43; (with_reducible refine (num_any _ _).mono ?_); rintro e wb ⟨rfl, b2⟩; have BB : Hid (Below W.heap.size W wb) := Lib.hid (BA.out.trans (b2.mono BA.out.size)); clear b2; obtain ⟨g1, g2, g3⟩ := HA3.out wb BB.out)
      | (go_at_call 43; (with_reducible refine (num_any _ _).mono ?_); rintro e wa ⟨rfl, b2⟩; have BA : Hid (Below W.heap.size W wa) := Lib.hid (E0.out.trans b2); clear b2; obtain ⟨f1, f2, f3⟩ := HA3.out wa BA.out))
  all_goals
    have hsc := BC.out.size
    have hs := HS.out
    have R5 := (HR.out w5 BD.out).2
    have hP := row_post (w := w) (wc := wc) (w5 := w5) (R := w.heap.size + 1) (c := 3) (us := mk1 a ++ (mk1 b ++ mk1 c)) (ts := [nIt a, nIt b, nIt c]) (by omega) (BW.out.trans (BC.out.mono (by omega))) (by have := H4.out; simpa [mk1] using this) R5 (by omega) (by simp [maxLen])
      ⟨_, _, _, _, _, rfl, isIt_nIt _ _ a Ha.out, _, _, _, _, _, rfl, isIt_nIt _ _ b Hb.out, _, _, _, _, _, rfl, isIt_nIt _ _ c Hc.out, rfl⟩
    have WF := w4_row w5 (w.heap.size + 1) (.int .i64 3) (.int .i64 0) (.string ⟨#[]⟩) (.slice (some ⟨wc.heap.size, 0, none⟩) 3 3) _ _ _ _ _ R5
    change Exit.then _ _ _ _ (w4 w5 (w.heap.size + 1) (.int .i64 3) (.int .i64 0) (.string ⟨#[]⟩) (.slice (some ⟨wc.heap.size, 0, none⟩) 3 3))
    replace hP := Lib.hid hP
    simp only [List.length_cons, List.length_nil] at hP
    generalize w4 w5 (w.heap.size + 1) (.int .i64 3) (.int .i64 0) (.string ⟨#[]⟩) (.slice (some ⟨wc.heap.size, 0, none⟩) 3 3) = V at *
    obtain ⟨m0, m1, m2, m3, _⟩ := row4 WF
    go_wp2_with fail
    refine bodyPost_ret (v := .agg #[.int .i64 3, .int .i64 0, .string ⟨#[]⟩, .slice (some ⟨wc.heap.size, 0, none⟩) 3 3]) (by simp [results, Tryz.results97, go_sem, m0, m1, m2, m3]) rfl hP.out
end Go.Proofs.YtebacdegjmcnlaaGreat
