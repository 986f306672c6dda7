import Derived.Test.YtphclpjekpdifaaTd
import Derived.Test.YtphclpjekpdifaaMv
import Derived.Deep.RegionHeld2
namespace Go.Proofs.Ytphclpjekpdifaa
set_option maxRecDepth 20000
open Go.RowKit
open SP
open Go.Proofs.Ytphclpjekpdifaa.Nm (str)
open Wi (RetBelow)
set_option linter.unusedVariables false
/-! ### a verdict, a check -/
theorem verdict_any (g o : Nat) (seq q : Int) (w : World) (h : w.cell? ⟨g, o + 1, none⟩ = some (.int .i64 seq)) (h0 : 0 ≤ seq) (hM : seq ≤ M) : Calls Try.prog 22 #[.pointer (some ⟨g, o, none⟩), .int .i64 q] w fun e w' => e = .returned (.int .i64 (verd seq q)) ∧ w = w' := by
  unfold M at hM
  have HV : Hid (verd seq q = if q > 4611686018427387904 then 4 else if q > 0 ∧ q = seq then 2 else if q = seq + 1 then 1 else 4) := Lib.hid rfl
  by_cases c1 : 4611686018427387904 < q
  · have g1 : decide (4611686018427387904 < q) = true := by simpa using c1
    rw [if_pos c1] at HV
    go_enter Try.func22, Try.ntmps22
    go_wp2_with fail
    go_ret
    exact ⟨by rw [HV.out]; rfl, rfl⟩
  · have g1 : decide (4611686018427387904 < q) = false := by simpa using c1
    rw [if_neg c1] at HV
    by_cases c2 : 0 < q
    · have g2 : decide (0 < q) = true := by simpa using c2
      by_cases c3 : q = seq
      · have g3 : (q == seq) = true := by simpa using c3
        rw [if_pos ⟨c2, c3⟩] at HV
        subst c3
        go_enter Try.func22, Try.ntmps22
        go_wp2_with fail
        go_ret
        exact ⟨by rw [HV.out]; rfl, rfl⟩
      · have g3 : (q == seq) = false := by simpa using c3
        rw [if_neg (fun h => c3 h.2)] at HV
        by_cases c4 : q = seq + 1
        · have g4 : (q == seq + 1) = true := by simpa using c4
          rw [if_pos c4] at HV
          subst c4
          go_enter Try.func22, Try.ntmps22
          go_wp2_with fail
          go_ret
          exact ⟨by rw [HV.out]; rfl, rfl⟩
        · have g4 : (q == seq + 1) = false := by simpa using c4
          rw [if_neg c4] at HV
          go_enter Try.func22, Try.ntmps22
          go_wp2_with fail
          go_ret
          exact ⟨by rw [HV.out]; rfl, rfl⟩
    · have g2 : decide (0 < q) = false := by simpa using c2
      rw [if_neg (fun h => c2 h.1)] at HV
      have c4 : ¬ q = seq + 1 := by omega
      have g4 : (q == seq + 1) = false := by simpa using c4
      rw [if_neg c4] at HV
      go_enter Try.func22, Try.ntmps22
      go_wp2_with fail
      go_ret
      exact ⟨by rw [HV.out]; rfl, rfl⟩
def CheckP (w : World) (T : Tb) (id q : Int) (e : Ending) (w' : World) : Prop := e = .returned (.tuple #[.int .i64 (check T id q).1, rpV (check T id q).2]) ∧ Below w.heap.size w w'
theorem row6 {w : World} {b : Nat} {a0 a1 a2 a3 a4 a5 : Value} {t : TypeId} (h : w.heap[b]? = some (.cells #[a0, a1, a2, a3, a4, a5] t (0, 0))) :
    w.cell? ⟨b, 0, none⟩ = some a0 ∧ w.cell? ⟨b, 1, none⟩ = some a1 ∧ w.cell? ⟨b, 2, none⟩ = some a2 ∧ w.cell? ⟨b, 3, none⟩ = some a3 ∧ w.cell? ⟨b, 4, none⟩ = some a4 ∧ w.cell? ⟨b, 5, none⟩ = some a5 ∧
    w.frozen? ⟨b, 0, none⟩ = false ∧ w.frozen? ⟨b, 1, none⟩ = false ∧ w.frozen? ⟨b, 2, none⟩ = false ∧ w.frozen? ⟨b, 3, none⟩ = false ∧ w.frozen? ⟨b, 4, none⟩ = false ∧ w.frozen? ⟨b, 5, none⟩ = false := by
  refine ⟨?_, ?_, ?_, ?_, ?_, ?_, ?_, ?_, ?_, ?_, ?_, ?_⟩
  all_goals first | exact Lib.frozen_of_heap h _ | (rw [Lib.cell_of_heap h]; rfl)
theorem heap_drew (X : World) (R : Nat) (o : Obj) (h : X.heap[R]? = some o) : X.drew.heap[R]? = some o := h
theorem nest6_rowd (w : World) (R : Nat) (a b c d e f : Value) (z0 z1 z2 z3 z4 z5 : Value) (t : TypeId) (h : w.heap[R]? = some (.cells #[z0, z1, z2, z3, z4, z5] t (0, 0))) : ((((((w.setCell ⟨R, 0, none⟩ a).setCell ⟨R, 1, none⟩ b).setCell ⟨R, 2, none⟩ c).setCell ⟨R, 3, none⟩ d).setCell ⟨R, 4, none⟩ e).setCell ⟨R, 5, none⟩ f).drew.heap[R]? = some (.cells #[a, b, c, d, e, f] t (0, 0)) := heap_drew _ R _ (Wi.nest6_row w R a b c d e f z0 z1 z2 z3 z4 z5 t h)
set_option maxHeartbeats 1000000 in
theorem check_at {w : World} {b : Nat} {T : Tb} {v : Value} {S : Nat → Prop} (h : TAt w b T v S) (hI : Inv T) (id q : Int) : Calls Try.prog 8 #[.pointer (some ⟨b, 0, none⟩), .int .i64 id, .int .i64 q] w (CheckP w T id q) := by
  have HF : Hid (∀ X, Below w.heap.size w X → Calls Try.prog 21 #[.pointer (some ⟨b, 0, none⟩), .int .i64 id] X (FindP X T id v)) := Lib.hid fun X hX => find_at (h.below hX) hI id
  have HB0 := Lib.hid ((Below.refl w.heap.size w).alloc (Nat.le_refl _) (.cells #[.int .i64 0, .string ⟨#[]⟩, .int .i64 0, .int .i64 0, .int .i64 0, .int .i64 0] 27))
  have HR0 := Lib.hid (heap_alloc_new w (.cells #[.int .i64 0, .string ⟨#[]⟩, .int .i64 0, .int .i64 0, .int .i64 0, .int .i64 0] 27))
  have HT := Lib.hid h
  have HI := Lib.hid hI
  have hb20 : ∀ W : World, (Instr.build 27 #[(0, .int .i64 20)]).run Try.prog W = .ok (.agg #[.int .i64 20, .string ⟨#[]⟩, .int .i64 0, .int .i64 0, .int .i64 0, .int .i64 0]) W := fun W => run_build W 27 _ _ (by kernel_rfl)
  have hb21 : ∀ W : World, (Instr.build 27 #[(0, .int .i64 21)]).run Try.prog W = .ok (.agg #[.int .i64 21, .string ⟨#[]⟩, .int .i64 0, .int .i64 0, .int .i64 0, .int .i64 0]) W := fun W => run_build W 27 _ _ (by kernel_rfl)
  have hb0 : ∀ W : World, (Instr.build 27 #[]).run Try.prog W = .ok (.agg #[.int .i64 0, .string ⟨#[]⟩, .int .i64 0, .int .i64 0, .int .i64 0, .int .i64 0]) W := fun W => run_build W 27 _ _ (by kernel_rfl)
  clear h hI
  go_enter Try.func8, Try.ntmps8
  go_wp2_with fail
  (with_reducible refine (HF.out _ HB0.out).mono ?_)
  rintro e w1 ⟨hb1, hf⟩
  have HBB := Lib.hid (HB0.out.trans (hb1.mono HB0.out.size))
  have HR1 := Lib.hid ((hb1.block w.heap.size (by simp)).trans HR0.out)
  obtain ⟨_, _, _, _, _, _, f0, f1, f2, f3, f4, f5⟩ := row6 HR1.out
  clear hb1
  rcases hf with ⟨hn, rfl⟩ | ⟨g, k, cap, s, hs, hk, hv, rfl⟩
  · have HN := Lib.hid (check_none q hn)
    clear hn
    go_wp2_with fail
    have B6 := Wi.nest6_below HBB.out w.heap.size (.int .i64 20) (.string ⟨#[]⟩) (.int .i64 0) (.int .i64 0) (.int .i64 0) (.int .i64 0) (Nat.le_refl _)
    have R6 := Wi.nest6_row w1 w.heap.size (.int .i64 20) (.string ⟨#[]⟩) (.int .i64 0) (.int .i64 0) (.int .i64 0) (.int .i64 0) _ _ _ _ _ _ 27 HR1.out
    obtain ⟨m0, m1, m2, m3, m4, m5, _⟩ := row6 R6
    refine bodyPost_ret (v := .tuple #[.int .i64 3, .agg #[.int .i64 20, .string ⟨#[]⟩, .int .i64 0, .int .i64 0, .int .i64 0, .int .i64 0]]) (by simp [results, Try.results8, go_sem, m0, m1, m2, m3, m4, m5]) rfl ⟨?_, B6⟩
    rw [HN.out]; rfl
  · obtain ⟨g', cap', hv', ho, hgl, hcl⟩ := HT.out.cells hk
    obtain rfl : g = g' := by rw [hv] at hv'; injection hv' with e1; injection e1 with e1; injection e1
    have HC := Lib.hid (fun p u hu => cellB (hcl p u hu).1 HBB.out hgl)
    have hsm := (HI.out.all s (List.mem_of_getElem? hk))
    have c1 := HC.out 1 _ rfl
    have HVD := Lib.hid (fun X (hX : X.cell? ⟨g, k * 9 + 1, none⟩ = some (.int .i64 s.seq)) => verdict_any g (k * 9) s.seq q X hX hsm.sq1 hsm.sq2)
    have HCK := Lib.hid (check_some q hs)
    have c2 := HC.out 2 _ rfl
    have c3 := HC.out 3 _ rfl
    have c4 := HC.out 4 _ rfl
    have c5 := HC.out 5 _ rfl
    have c6 := HC.out 6 _ rfl
    have c7 := HC.out 7 _ rfl
    clear hs hk hv hv' ho hcl hsm
    have HCV := verd_or s.seq q
    generalize verd s.seq q = V at *
    rcases HCV with rfl | rfl | rfl
    · rw [if_pos rfl] at HCK
      go_wp2_with (go_at_call 22; (with_reducible refine (HVD.out _ c1).mono ?_); rintro e w2 ⟨rfl, rfl⟩)
      have B6 := Wi.nest6_below HBB.out w.heap.size (.int .i64 0) (.string ⟨#[]⟩) (.int .i64 0) (.int .i64 0) (.int .i64 0) (.int .i64 0) (Nat.le_refl _)
      have R6 := Wi.nest6_row w1 w.heap.size (.int .i64 0) (.string ⟨#[]⟩) (.int .i64 0) (.int .i64 0) (.int .i64 0) (.int .i64 0) _ _ _ _ _ _ 27 HR1.out
      obtain ⟨m0, m1, m2, m3, m4, m5, _⟩ := row6 R6
      refine bodyPost_ret (v := .tuple #[.int .i64 1, .agg #[.int .i64 0, .string ⟨#[]⟩, .int .i64 0, .int .i64 0, .int .i64 0, .int .i64 0]]) (by simp [results, Try.results8, go_sem, m0, m1, m2, m3, m4, m5]) rfl ⟨?_, B6⟩
      rw [HCK.out]; rfl
    · rw [if_neg (by decide), if_pos rfl] at HCK
      go_wp2_with (go_at_call 22; (with_reducible refine (HVD.out _ c1).mono ?_); rintro e w2 ⟨rfl, rfl⟩)
      go_region
      all_goals go_wp2_with fail
      all_goals
        have B6 := Wi.nest6_below HBB.out w.heap.size (.int .i64 s.r.e) (.string s.r.s) (.int .i64 s.r.a) (.int .i64 s.r.b) (.int .i64 s.r.c) (.int .i64 s.r.n) (Nat.le_refl _)
        have R6 := nest6_rowd w1 w.heap.size (.int .i64 s.r.e) (.string s.r.s) (.int .i64 s.r.a) (.int .i64 s.r.b) (.int .i64 s.r.c) (.int .i64 s.r.n) _ _ _ _ _ _ 27 HR1.out
        obtain ⟨m0, m1, m2, m3, m4, m5, _⟩ := row6 R6
        refine bodyPost_ret (v := .tuple #[.int .i64 2, .agg #[.int .i64 s.r.e, .string s.r.s, .int .i64 s.r.a, .int .i64 s.r.b, .int .i64 s.r.c, .int .i64 s.r.n]]) (by simp [results, Try.results8, go_sem, m0, m1, m2, m3, m4, m5]) rfl ⟨?_, B6.drew⟩
        rw [HCK.out]; rfl
    · rw [if_neg (by decide), if_neg (by decide)] at HCK
      go_wp2_with (go_at_call 22; (with_reducible refine (HVD.out _ c1).mono ?_); rintro e w2 ⟨rfl, rfl⟩)
      have B6 := Wi.nest6_below HBB.out w.heap.size (.int .i64 21) (.string ⟨#[]⟩) (.int .i64 0) (.int .i64 0) (.int .i64 0) (.int .i64 0) (Nat.le_refl _)
      have R6 := Wi.nest6_row w1 w.heap.size (.int .i64 21) (.string ⟨#[]⟩) (.int .i64 0) (.int .i64 0) (.int .i64 0) (.int .i64 0) _ _ _ _ _ _ 27 HR1.out
      obtain ⟨m0, m1, m2, m3, m4, m5, _⟩ := row6 R6
      refine bodyPost_ret (v := .tuple #[.int .i64 4, .agg #[.int .i64 21, .string ⟨#[]⟩, .int .i64 0, .int .i64 0, .int .i64 0, .int .i64 0]]) (by simp [results, Try.results8, go_sem, m0, m1, m2, m3, m4, m5]) rfl ⟨?_, B6⟩
      rw [HCK.out]; rfl
end Go.Proofs.Ytphclpjekpdifaa
