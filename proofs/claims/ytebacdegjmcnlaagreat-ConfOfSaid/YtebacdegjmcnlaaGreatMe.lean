import Derived.Test.YtebacdegjmcnlaaGreatMd
namespace Go.Proofs.YtebacdegjmcnlaaGreat
open Go.RowKit Pl
set_option linter.unusedVariables false
set_option maxRecDepth 20000
def mk3 (A : Option Addr) (n c : Nat) : List Value := [.int .i64 3, .int .i64 0, .string ⟨#[]⟩, .slice A n c]
theorem item_any (o : Int) (s t : ByteArray) (a b c n : Int) (w : World) (ho : InR o) (hs : s.size ≤ maxLen) (ht : t.size ≤ maxLen) (ha : InR a) (hb : InR b) (hc : InR c) (hn : InR n) :
    Calls Tryz.prog 66 #[.int .i64 o, .string s, .string t, .agg #[.int .i64 a, .int .i64 b, .int .i64 c], .int .i64 n] w (ItPost (cIt o s t a b c n) w) := by
  have Ho := Lib.hid ho
  have Hs := Lib.hid hs
  have Ht := Lib.hid ht
  have Hn := Lib.hid hn
  have HV := Lib.hid (fun W => vector_any a b c W ha hb hc)
  clear ho hs ht ha hb hc hn
  have BW := Lib.hid (((Below.refl w.heap.size w).alloc (Nat.le_refl _) (.cells #[.int .i64 a, .int .i64 b, .int .i64 c] 30)).alloc (by simp) (.cells zeroItem 50))
  have R0 : ((w.alloc (.cells #[.int .i64 a, .int .i64 b, .int .i64 c] 30)).alloc (.cells zeroItem 50)).heap[w.heap.size]? = some (.cells #[.int .i64 a, .int .i64 b, .int .i64 c] 30 (0, 0)) := (Below.heap_alloc _ _ _ (by simp)).trans (heap_alloc_new _ _)
  have R1 : ((w.alloc (.cells #[.int .i64 a, .int .i64 b, .int .i64 c] 30)).alloc (.cells zeroItem 50)).heap[w.heap.size + 1]? = some (.cells zeroItem 50 (0, 0)) := by
    rw [show w.heap.size + 1 = (w.alloc (.cells #[.int .i64 a, .int .i64 b, .int .i64 c] 30)).heap.size from by simp]; exact heap_alloc_new _ _
  have SW : ((w.alloc (.cells #[.int .i64 a, .int .i64 b, .int .i64 c] 30)).alloc (.cells zeroItem 50)).heap.size = w.heap.size + 2 := by simp
  go_enter Tryz.func66, Tryz.ntmps66
  go_wp2_with fail
  change Code.wp Tryz.prog _ _ _ ((w.alloc (.cells #[.int .i64 a, .int .i64 b, .int .i64 c] 30)).alloc (.cells zeroItem 50))
  generalize (w.alloc (.cells #[.int .i64 a, .int .i64 b, .int .i64 c] 30)).alloc (.cells zeroItem 50) = W at *
  have HR := Lib.hid (fun V (h : Below W.heap.size W V) => (⟨(h.block _ (by omega)).trans R0, (h.block _ (by omega)).trans R1⟩ : V.heap[w.heap.size]? = some (.cells #[.int .i64 a, .int .i64 b, .int .i64 c] 30 (0, 0)) ∧ V.heap[w.heap.size + 1]? = some (.cells zeroItem 50 (0, 0))))
  have HS := Lib.hid SW
  clear R0 R1 SW
  have HA3 := Lib.hid (fun V (h : Below W.heap.size W V) => (⟨cell_of_row V _ 0 _ _ _ (HR.out V h).1, cell_of_row V _ 1 _ _ _ (HR.out V h).1, cell_of_row V _ 2 _ _ _ (HR.out V h).1⟩ : V.cell? ⟨w.heap.size, 0, none⟩ = some (.int .i64 a) ∧ V.cell? ⟨w.heap.size, 1, none⟩ = some (.int .i64 b) ∧ V.cell? ⟨w.heap.size, 2, none⟩ = some (.int .i64 c)))
  have HNE : Hid (w.heap.size ≠ w.heap.size + 1) := Lib.hid (by omega)
  have E0 : Hid (Below W.heap.size W W.drew) := Lib.hid (Below.refl _ W).drew
  obtain ⟨e1, e2, e3⟩ := HA3.out _ E0.out
  go_region_held3 (fun V => V.cell? ⟨w.heap.size, 0, none⟩ = some (.int .i64 a) ∧ V.cell? ⟨w.heap.size, 1, none⟩ = some (.int .i64 b) ∧ V.cell? ⟨w.heap.size, 2, none⟩ = some (.int .i64 c))
    (first | with_reducible exact w4_three _ _ _ _ AT5.out HNE.out | exact HA3.out _ BX.out | exact HA3.out _ (BE.out.alloc BE.out.size _) | exact HA3.out _ BE.out | exact HA3.out _ BD.out | exact HA3.out _ BC.out | exact HA3.out _ BB.out | exact HA3.out _ BA.out | exact HA3.out _ E0.out)
    (first
      | (go_at_call 42; (refine (row_any _ _ _ _).mono ?_); rintro e w5 ⟨rfl, h4⟩; have BX : Hid (Below W.heap.size W w5) := Lib.hid ((BE.out.alloc BE.out.size _).trans (h4.mono (by have := BE.out.size; simp; omega))); have AT5 := Lib.hid (HA3.out w5 BX.out); have H4 := Lib.hid h4; clear h4; obtain ⟨j0, j1, j2, j3, k0, k1, k2, k3⟩ := row4 (a0 := .int .i64 0) (a1 := .int .i64 0) (a2 := .string ⟨#[]⟩) (a3 := .slice none 0 0) (HR.out w5 BX.out).2)
      | (go_at_call 43; (with_reducible refine (num_any _ _).mono ?_); rintro e wE ⟨rfl, b2⟩; have BE : Hid (Below W.heap.size W wE) := Lib.hid (BD.out.trans (b2.mono BD.out.size)); have KE := Lib.hid b2; clear b2; obtain ⟨fE1, fE2, fE3⟩ := HA3.out wE BE.out)
      | (go_at_call 97; (with_reducible refine (HV.out _).mono ?_); rintro e wD ⟨v, rfl, b2, hv⟩; have BD : Hid (Below W.heap.size W wD) := Lib.hid (BC.out.trans (b2.mono BC.out.size)); have KD := Lib.hid b2; clear b2; rw [vIt, IsIt] at hv; obtain ⟨vA, vc, rfl, _, _, _, _, hal⟩ := hv; have HAL := Lib.hid hal; clear hal; obtain ⟨fD1, fD2, fD3⟩ := HA3.out wD BD.out)
      | (go_at_call 44; (with_reducible refine (str_any _ _).mono ?_); rintro e wC ⟨rfl, b2⟩; have BC : Hid (Below W.heap.size W wC) := Lib.hid (BB.out.trans (b2.mono BB.out.size)); clear b2; obtain ⟨fC1, fC2, fC3⟩ := HA3.out wC BC.out)
      | (go_at_call 44; (with_reducible refine (str_any _ _).mono ?_); rintro e wB ⟨rfl, b2⟩; have BB : Hid (Below W.heap.size W wB) := Lib.hid (BA.out.trans (b2.mono BA.out.size)); clear b2; obtain ⟨fB1, fB2, fB3⟩ := HA3.out wB BB.out)
      | (go_at_call 43; (with_reducible refine (num_any _ _).mono ?_); rintro e wA ⟨rfl, b2⟩; have BA : Hid (Below W.heap.size W wA) := Lib.hid (E0.out.trans b2); clear b2; obtain ⟨fA1, fA2, fA3⟩ := HA3.out wA BA.out))
  all_goals
    have hsc := BE.out.size
    have hs := HS.out
    have hC := BC.out.size
    have hD := KD.out.size
    have hE := KE.out.size
    have R5 := (HR.out w5 BX.out).2
    have h4 : Below (wE.heap.size + 1) (wE.alloc (.cells (mk1 o ++ (mk2 s ++ (mk2 t ++ (mk3 vA 3 vc ++ mk1 n)))).toArray 50)) w5 := by have := H4.out; simpa [mk1, mk2, mk3] using this
    have hsA : (wE.alloc (.cells (mk1 o ++ (mk2 s ++ (mk2 t ++ (mk3 vA 3 vc ++ mk1 n)))).toArray 50)).heap.size = wE.heap.size + 1 := by simp
    have h5s := h4.size
    have WB := w4_size w5 (w.heap.size + 1) (.int .i64 3) (.int .i64 0) (.string ⟨#[]⟩) (.slice (some ⟨wE.heap.size, 0, none⟩) 5 5)
    have hk : ∀ q, NewB wC wD q → (w4 w5 (w.heap.size + 1) (.int .i64 3) (.int .i64 0) (.string ⟨#[]⟩) (.slice (some ⟨wE.heap.size, 0, none⟩) 5 5)).heap[q]? = wD.heap[q]? := fun q hq => by
      have h1 := hq.1
      have h2 := hq.2
      exact (w4_far _ _ _ _ _ _ q (by omega)).trans ((h4.block q (by omega)).trans ((Below.heap_alloc _ _ q (by omega)).trans (KE.out.block q h2)))
    have hm : ∀ q, NewB wC wD q → NewB w (w4 w5 (w.heap.size + 1) (.int .i64 3) (.int .i64 0) (.string ⟨#[]⟩) (.slice (some ⟨wE.heap.size, 0, none⟩) 5 5)) q := fun q hq => by
      have h1 := hq.1
      have h2 := hq.2
      exact ⟨by omega, by omega⟩
    have hP := row_post (w := w) (wc := wE) (w5 := w5) (R := w.heap.size + 1) (c := 5) (us := mk1 o ++ (mk2 s ++ (mk2 t ++ (mk3 vA 3 vc ++ mk1 n)))) (ts := [nIt o, sIt s, sIt t, vIt a b c, nIt n]) (by omega) (BW.out.trans (BE.out.mono (by omega))) h4 R5 (by omega) (by simp [maxLen])
      ⟨_, _, _, _, _, rfl, isIt_nIt _ _ o Ho.out, _, _, _, _, _, rfl, isIt_sIt _ _ s Hs.out, _, _, _, _, _, rfl, isIt_sIt _ _ t Ht.out, _, _, _, _, _, rfl, isIt_row _ _ [nIt a, nIt b, nIt c] vA vc (by simp [maxLen]) (AreIts.mono hm _ (AreIts.keep hk _ HAL.out)), _, _, _, _, _, rfl, isIt_nIt _ _ n Hn.out, rfl⟩
    have WF := w4_row w5 (w.heap.size + 1) (.int .i64 3) (.int .i64 0) (.string ⟨#[]⟩) (.slice (some ⟨wE.heap.size, 0, none⟩) 5 5) _ _ _ _ _ R5
    change Exit.then _ _ _ _ (w4 w5 (w.heap.size + 1) (.int .i64 3) (.int .i64 0) (.string ⟨#[]⟩) (.slice (some ⟨wE.heap.size, 0, none⟩) 5 5))
    replace hP := Lib.hid hP
    simp only [List.length_cons, List.length_nil] at hP
    clear hk hm WB h5s hsA h4
    generalize w4 w5 (w.heap.size + 1) (.int .i64 3) (.int .i64 0) (.string ⟨#[]⟩) (.slice (some ⟨wE.heap.size, 0, none⟩) 5 5) = V at *
    obtain ⟨m0, m1, m2, m3, _⟩ := row4 WF
    go_wp2_with fail
    exact bodyPost_ret (v := .agg #[.int .i64 3, .int .i64 0, .string ⟨#[]⟩, .slice (some ⟨wE.heap.size, 0, none⟩) 5 5]) (by simp [results, Tryz.results66, go_sem, m0, m1, m2, m3]) rfl hP.out
end Go.Proofs.YtebacdegjmcnlaaGreat
