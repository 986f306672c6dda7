import Derived.Test.YtjpnkecfoealoaaVRs
namespace Go.Proofs.Ytjpnkecfoealoaa.Vc
set_option maxRecDepth 20000
open Go.RowKit
set_option linter.unusedVariables false
theorem refMay_any (a b c : Int) (w : World) : Calls Try.prog 23 #[.agg #[.int .i64 a, .int .i64 b, .int .i64 c]] w (RetBelow (.bool (fitB 0 0 0 a b c)) w) := by
  have cs : (decide (0 ≤ a) = false ∧ fitB 0 0 0 a b c = false) ∨ (decide (0 ≤ a) = true ∧ decide (0 ≤ b) = false ∧ fitB 0 0 0 a b c = false) ∨ (decide (0 ≤ a) = true ∧ decide (0 ≤ b) = true ∧ fitB 0 0 0 a b c = decide (0 ≤ c)) := by
    unfold fitB
    cases decide (0 ≤ a) <;> cases decide (0 ≤ b) <;> simp
  have B := Lib.hid ((Below.refl _ w).alloc (Nat.le_refl _) (.cells #[.int .i64 a, .int .i64 b, .int .i64 c] 24))
  rcases cs with ⟨h1, h⟩ | ⟨h1, h2, h⟩ | ⟨h1, h2, h⟩
  · have H := Lib.hid h
    clear h
    go_enter Try.func23, Try.ntmps23
    go_wp2_with fail
    go_ret
    exact ⟨by rw [H.out]; rfl, B.out⟩
  · have H := Lib.hid h
    clear h
    go_enter Try.func23, Try.ntmps23
    go_wp2_with fail
    go_ret
    exact ⟨by rw [H.out]; rfl, B.out⟩
  · have H := Lib.hid h
    clear h
    go_enter Try.func23, Try.ntmps23
    go_wp2_with fail
    go_ret
    exact ⟨by rw [H.out]; rfl, B.out⟩
theorem refFits_any (a b c x y z : Int) (w : World) : Calls Try.prog 30 #[.agg #[.int .i64 a, .int .i64 b, .int .i64 c], .agg #[.int .i64 x, .int .i64 y, .int .i64 z]] w (RetBelow (.bool (fitB a b c x y z)) w) := by
  have cs : (decide (a ≤ x) = false ∧ fitB a b c x y z = false) ∨ (decide (a ≤ x) = true ∧ decide (b ≤ y) = false ∧ fitB a b c x y z = false) ∨ (decide (a ≤ x) = true ∧ decide (b ≤ y) = true ∧ fitB a b c x y z = decide (c ≤ z)) := by
    unfold fitB
    cases decide (a ≤ x) <;> cases decide (b ≤ y) <;> simp
  have B := Lib.hid (((Below.refl _ w).alloc (Nat.le_refl _) (.cells #[.int .i64 a, .int .i64 b, .int .i64 c] 24)).alloc (by simp) (.cells #[.int .i64 x, .int .i64 y, .int .i64 z] 24))
  rcases cs with ⟨h1, h⟩ | ⟨h1, h2, h⟩ | ⟨h1, h2, h⟩
  · have H := Lib.hid h
    clear h
    go_enter Try.func30, Try.ntmps30
    go_wp2_with fail
    go_ret
    exact ⟨by rw [H.out]; rfl, B.out⟩
  · have H := Lib.hid h
    clear h
    go_enter Try.func30, Try.ntmps30
    go_wp2_with fail
    go_ret
    exact ⟨by rw [H.out]; rfl, B.out⟩
  · have H := Lib.hid h
    clear h
    go_enter Try.func30, Try.ntmps30
    go_wp2_with fail
    go_ret
    exact ⟨by rw [H.out]; rfl, B.out⟩
theorem refSum2 (a b c x y z : Int) (w : World) (ba : I64 a) (bb : I64 b) (bc : I64 c) (bx : I64 x) (by' : I64 y) (bz : I64 z) : Calls Try.prog 45 #[.slice (some ⟨w.heap.size, 0, none⟩) 2 2] (w.alloc (.cells #[.int .i64 a, .int .i64 b, .int .i64 c, .int .i64 x, .int .i64 y, .int .i64 z] 24))
    (RetBelow (outV (a + x) (b + y) (c + z)) (w.alloc (.cells #[.int .i64 a, .int .i64 b, .int .i64 c, .int .i64 x, .int .i64 y, .int .i64 z] 24))) := by
  have := refSum_any _ _ 2 2 _ (vecs_2 w a b c x y z) rfl (by intro v hv; simp at hv; rcases hv with rfl | rfl; exact ⟨ba, bb, bc⟩; exact ⟨bx, by', bz⟩) (by omega)
  simpa [sX, sY, sZ, sumI] using this
theorem refAdd_ret (a b c x y z : Int) (w : World) (ba : I64 a) (bb : I64 b) (bc : I64 c) (bx : I64 x) (by' : I64 y) (bz : I64 z) :
    Calls Try.prog 33 #[.agg #[.int .i64 a, .int .i64 b, .int .i64 c], .agg #[.int .i64 x, .int .i64 y, .int .i64 z]] w (RetBelow (outV (a + x) (b + y) (c + z)) w) := by
  have cs := Lib.hid fun W : World => refSum2 a b c x y z W ba bb bc bx by' bz
  obtain ⟨p, q, r, e, he⟩ := outV_form (a + x) (b + y) (c + z)
  rw [he] at cs ⊢
  clear he ba bb bc bx by' bz
  go_enter Try.func33, Try.ntmps33
  go_wp2_with fail
  have K2 := (BK.new ((w.alloc (.cells #[.int .i64 a, .int .i64 b, .int .i64 c] 24)).alloc (.cells #[.int .i64 x, .int .i64 y, .int .i64 z] 24)) 0 0 0).alloc (.cells #[.int .i64 a, .int .i64 b, .int .i64 c, .int .i64 x, .int .i64 y, .int .i64 z] 24)
  have B0 : Below w.heap.size w ((((w.alloc (.cells #[.int .i64 a, .int .i64 b, .int .i64 c] 24)).alloc (.cells #[.int .i64 x, .int .i64 y, .int .i64 z] 24)).alloc (.cells #[.int .i64 0, .int .i64 0, .int .i64 0] 24)).alloc (.cells #[.int .i64 a, .int .i64 b, .int .i64 c, .int .i64 x, .int .i64 y, .int .i64 z] 24)) := ((((Below.refl _ _).alloc (Nat.le_refl _) _).alloc (by simp) _).alloc (by simp; omega) _).alloc (by simp; omega) _
  have C0 := cs.out (((w.alloc (.cells #[.int .i64 a, .int .i64 b, .int .i64 c] 24)).alloc (.cells #[.int .i64 x, .int .i64 y, .int .i64 z] 24)).alloc (.cells #[.int .i64 0, .int .i64 0, .int .i64 0] 24))
  simp only [World.size_alloc] at K2 C0
  refine C0.mono ?_
  rintro _ w3 ⟨rfl, hb⟩
  have H3 : Hid (Below w.heap.size w w3) := Lib.hid (B0.trans (hb.mono B0.size))
  have P2 : BK w3 (w.heap.size + 1 + 1) 0 0 0 := K2.on hb K2.lt
  obtain ⟨d0, d1, d2⟩ := P2.c3
  have f0 := P2.f0 0
  have f1 := P2.f0 1
  have f2 := P2.f0 2
  clear P2 K2 hb B0 C0
  go_wp2_with fail
  exact bodyPost_ret (v := .tuple #[.agg #[.int .i64 p, .int .i64 q, .int .i64 r], .int .i64 e]) (by simp [results, Try.results33, go_sem, d0, d1, d2]) rfl
    ⟨rfl, ((H3.out.setCell (by show _ ≤ w.heap.size + 1 + 1; omega) _).setCell (by show _ ≤ w.heap.size + 1 + 1; omega) _).setCell (by show _ ≤ w.heap.size + 1 + 1; omega) _⟩
end Go.Proofs.Ytjpnkecfoealoaa.Vc
