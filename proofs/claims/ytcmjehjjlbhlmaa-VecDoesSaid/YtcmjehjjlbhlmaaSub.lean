import Derived.Test.YtcmjehjjlbhlmaaVc
namespace Go.Proofs.Ytcmjehjjlbhlmaa
open Go.RowKit
set_option linter.unusedVariables false
/-- the world has grown; of what was there the block g alone may have changed -/
theorem TotAt.zero (w : World) : TotAt (w.alloc (.cells #[.int .i64 0, .int .i64 0, .int .i64 0, .int .i64 0, .int .i64 0, .int .i64 0] 38)) w.heap.size 0 0 0 := by
  have e1 : hi 0 = 0 := by decide
  have e2 : lo 0 = 0 := by decide
  constructor
  all_goals first | (rw [e1]; simp [go_sem]) | (rw [e2]; simp [go_sem]) | simp [go_sem]
theorem big0 : Big 0 := by unfold Big; omega
theorem big_of (x : Int) (h : I64 x) : Big (0 + x) := by unfold I64 at h; unfold Big; omega
/-- a Vec in block b -/
def BK (W : World) (b : Nat) (x y z : Int) : Prop := W.heap[b]? = some (.cells #[.int .i64 x, .int .i64 y, .int .i64 z] 23 (0, 0))
theorem BK.c3 {W : World} {b : Nat} {x y z : Int} (h : BK W b x y z) : C3 W b x y z := by
  unfold BK at h
  refine ⟨?_, ?_, ?_⟩ <;> (rw [cell_of_row _ _ _ _ _ _ h]; rfl)
theorem BK.new (w : World) (x y z : Int) : BK (w.alloc (.cells #[.int .i64 x, .int .i64 y, .int .i64 z] 23)) w.heap.size x y z := heap_alloc_new w _
theorem BK.f0 {W : World} {b : Nat} {x y z : Int} (h : BK W b x y z) (k : Nat) : W.frozen? ⟨b, k, none⟩ = false := by
  unfold BK at h
  simp [World.frozen?, h]
theorem BK.lt {W : World} {b : Nat} {x y z : Int} (h : BK W b x y z) : b < W.heap.size := by
  unfold BK at h
  rcases Nat.lt_or_ge b W.heap.size with hh | hh
  · exact hh
  · rw [Array.getElem?_eq_none hh] at h; cases h
theorem BK.on {W W' : World} {b n : Nat} {x y z : Int} (h : BK W b x y z) (hb : Below n W W') (hl : b < n) : BK W' b x y z := (hb.block b hl).trans h
theorem BK.grown {W W' : World} {b g : Nat} {x y z : Int} (h : BK W b x y z) (hb : W.grownBy W' (some g)) (hl : b ≠ g) : BK W' b x y z := (hb.block b h.lt (by simpa using hl)).trans h
theorem BK.alloc {W : World} {b : Nat} {x y z : Int} (h : BK W b x y z) (o : Obj) : BK (W.alloc o) b x y z := h.on ((Below.refl _ W).alloc (Nat.le_refl _) o) h.lt
theorem outV_form (X Y Z : Int) : ∃ p q r e, outV X Y Z = .tuple #[.agg #[.int .i64 p, .int .i64 q, .int .i64 r], .int .i64 e] := by
  unfold outV
  split
  · exact ⟨_, _, _, _, rfl⟩
  · exact ⟨_, _, _, _, rfl⟩
theorem sub_any (a b c x y z : Int) (w : World) (ba : I64 a) (bb : I64 b) (bc : I64 c) (bx : I64 x) (by' : I64 y) (bz : I64 z) :
    Calls Try.prog 13 #[.agg #[.int .i64 a, .int .i64 b, .int .i64 c], .agg #[.int .i64 x, .int .i64 y, .int .i64 z]] w (RetBelow (outV (0 + a - x) (0 + b - y) (0 + c - z)) w) := by
  have c1 := Lib.hid fun (W : World) (g : Nat) (T : TotAt W g 0 0 0) => add_any g 0 0 0 a b c W T big0 big0 big0 ba bb bc
  have c2 := Lib.hid fun (W : World) (g : Nat) (T : TotAt W g (0 + a) (0 + b) (0 + c)) => take_any g (0 + a) (0 + b) (0 + c) x y z W T (big_of a ba) (big_of b bb) (big_of c bc) bx by' bz
  clear ba bb bc bx by' bz
  generalize 0 + a - x = X at *
  generalize 0 + b - y = Y at *
  generalize 0 + c - z = Z at *
  generalize 0 + a = A at *
  generalize 0 + b = B at *
  generalize 0 + c = C at *
  have c3 := Lib.hid fun (W : World) (g : Nat) (T : TotAt W g X Y Z) => vec_any g X Y Z W T
  obtain ⟨p, q, r, e, he⟩ := outV_form X Y Z
  rw [he] at c3 ⊢
  clear he
  go_enter Try.func13, Try.ntmps13
  go_wp2_with fail
  have T0 := TotAt.zero (((w.alloc (.cells #[.int .i64 a, .int .i64 b, .int .i64 c] 23)).alloc (.cells #[.int .i64 x, .int .i64 y, .int .i64 z] 23)).alloc (.cells #[.int .i64 0, .int .i64 0, .int .i64 0] 23))
  have K1 := ((BK.new (w.alloc (.cells #[.int .i64 a, .int .i64 b, .int .i64 c] 23)) x y z).alloc (.cells #[.int .i64 0, .int .i64 0, .int .i64 0] 23)).alloc (.cells #[.int .i64 0, .int .i64 0, .int .i64 0, .int .i64 0, .int .i64 0, .int .i64 0] 38)
  have K2 := (BK.new ((w.alloc (.cells #[.int .i64 a, .int .i64 b, .int .i64 c] 23)).alloc (.cells #[.int .i64 x, .int .i64 y, .int .i64 z] 23)) 0 0 0).alloc (.cells #[.int .i64 0, .int .i64 0, .int .i64 0, .int .i64 0, .int .i64 0, .int .i64 0] 38)
  have B0 : Below w.heap.size w ((((w.alloc (.cells #[.int .i64 a, .int .i64 b, .int .i64 c] 23)).alloc (.cells #[.int .i64 x, .int .i64 y, .int .i64 z] 23)).alloc (.cells #[.int .i64 0, .int .i64 0, .int .i64 0] 23)).alloc (.cells #[.int .i64 0, .int .i64 0, .int .i64 0, .int .i64 0, .int .i64 0, .int .i64 0] 38)) := ((((Below.refl _ _).alloc (Nat.le_refl _) _).alloc (by simp) _).alloc (by simp; omega) _).alloc (by simp; omega) _
  simp only [World.size_alloc] at T0 K1 K2
  generalize ((((w.alloc (.cells #[.int .i64 a, .int .i64 b, .int .i64 c] 23)).alloc (.cells #[.int .i64 x, .int .i64 y, .int .i64 z] 23)).alloc (.cells #[.int .i64 0, .int .i64 0, .int .i64 0] 23)).alloc (.cells #[.int .i64 0, .int .i64 0, .int .i64 0, .int .i64 0, .int .i64 0, .int .i64 0] 38)) = W0 at *
  have H0 := Lib.hid B0
  have L1 := Lib.hid K1
  have L2 := Lib.hid K2
  clear B0 K1 K2
  refine (c1.out _ _ T0).mono ?_
  rintro _ w1 ⟨rfl, g1, T1⟩
  have H1 : Hid (Below w.heap.size w w1) := Lib.hid (H0.out.grown g1 H0.out.size (by intro k hk; cases hk; omega))
  have M1 : Hid (BK w1 (w.heap.size + 1) x y z) := Lib.hid (L1.out.grown g1 (by omega))
  have M2 : Hid (BK w1 (w.heap.size + 1 + 1) 0 0 0) := Lib.hid (L2.out.grown g1 (by omega))
  obtain ⟨d0, d1, d2⟩ := M1.out.c3
  have HT := Lib.hid T1
  clear L1 L2 g1 T1 T0
  go_wp2_with fail
  refine (c2.out _ _ HT.out).mono ?_
  rintro _ w2 ⟨rfl, g2, T2⟩
  have H2 : Hid (Below w.heap.size w w2) := Lib.hid (H1.out.grown g2 H1.out.size (by intro k hk; cases hk; omega))
  have N2 : Hid (BK w2 (w.heap.size + 1 + 1) 0 0 0) := Lib.hid (M2.out.grown g2 (by omega))
  have HT2 := Lib.hid T2
  clear M1 M2 d0 d1 d2 HT g2 T2
  go_wp2_with fail
  refine (c3.out _ _ HT2.out).mono ?_
  rintro _ w3 ⟨rfl, hb⟩
  have H3 : Hid (Below w.heap.size w w3) := Lib.hid (H2.out.trans (hb.mono H2.out.size))
  have P2 : BK w3 (w.heap.size + 1 + 1) 0 0 0 := N2.out.on hb N2.out.lt
  obtain ⟨d0, d1, d2⟩ := P2.c3
  have f0 := P2.f0 0
  have f1 := P2.f0 1
  have f2 := P2.f0 2
  clear P2 N2 HT2 hb
  go_wp2_with fail
  exact bodyPost_ret (v := .tuple #[.agg #[.int .i64 p, .int .i64 q, .int .i64 r], .int .i64 e]) (by simp [results, Try.results13, go_sem, d0, d1, d2]) rfl
    ⟨rfl, ((H3.out.setCell (by show _ ≤ w.heap.size + 1 + 1; omega) _).setCell (by show _ ≤ w.heap.size + 1 + 1; omega) _).setCell (by show _ ≤ w.heap.size + 1 + 1; omega) _⟩
theorem sub_ret (a b c x y z : Int) (w : World) (ba : I64 a) (bb : I64 b) (bc : I64 c) (bx : I64 x) (by' : I64 y) (bz : I64 z) :
    Calls Try.prog 13 #[.agg #[.int .i64 a, .int .i64 b, .int .i64 c], .agg #[.int .i64 x, .int .i64 y, .int .i64 z]] w (RetBelow (outV (a - x) (b - y) (c - z)) w) := by
  have := sub_any a b c x y z w ba bb bc bx by' bz
  simpa only [Int.zero_add] using this
end Go.Proofs.Ytcmjehjjlbhlmaa
