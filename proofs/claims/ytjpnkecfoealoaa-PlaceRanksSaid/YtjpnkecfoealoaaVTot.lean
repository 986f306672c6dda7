import Derived.Test.YtjpnkecfoealoaaVCy
namespace Go.Proofs.Ytjpnkecfoealoaa.Vc
set_option maxRecDepth 20000
open Go.RowKit
set_option linter.unusedVariables false
/-- a total in block g, a Vec in block b -/
structure TS (W0 W : World) (g b : Nat) (h0 h1 h2 l0 l1 l2 x y z : Int) : Prop where
  c0 : W.cell? ⟨g, 0, none⟩ = some (.int .i64 h0)
  c1 : W.cell? ⟨g, 1, none⟩ = some (.int .i64 h1)
  c2 : W.cell? ⟨g, 2, none⟩ = some (.int .i64 h2)
  c3 : W.cell? ⟨g, 3, none⟩ = some (.int .i64 l0)
  c4 : W.cell? ⟨g, 4, none⟩ = some (.int .i64 l1)
  c5 : W.cell? ⟨g, 5, none⟩ = some (.int .i64 l2)
  f0 : W.frozen? ⟨g, 0, none⟩ = false
  f1 : W.frozen? ⟨g, 1, none⟩ = false
  f2 : W.frozen? ⟨g, 2, none⟩ = false
  f3 : W.frozen? ⟨g, 3, none⟩ = false
  f4 : W.frozen? ⟨g, 4, none⟩ = false
  f5 : W.frozen? ⟨g, 5, none⟩ = false
  d0 : W.cell? ⟨b, 0, none⟩ = some (.int .i64 x)
  d1 : W.cell? ⟨b, 1, none⟩ = some (.int .i64 y)
  d2 : W.cell? ⟨b, 2, none⟩ = some (.int .i64 z)
  gb : W0.grownBy W (some g)
  ne : g < b
theorem rounds_forget {P : Program} {c : Code} {Q : Exit → Act → World → Prop} {n : Nat} {a : Act} {W : World} (p : World → Prop) (h : p W) (k : ∀ W', p W' → Code.rounds P c Q n a W') : Code.rounds P c Q n a W := k W h
theorem grownBy_set' {W0 W : World} {g : Nat} (h : W0.grownBy W (some g)) (k : Nat) (v : Value) : W0.grownBy (W.setCell ⟨g, k, none⟩ v) (some g) :=
  ⟨h.os, h.tape, h.output, by simpa [World.setCell] using h.size, fun j hj hne => (Below.heap_setCell W _ v j (fun e => hne (by rw [e]))).trans (h.block j hj hne)⟩
theorem grownBy_drewN {w w' : World} {row : Option Nat} (h : w.grownBy w' row) (n : Nat) : w.grownBy (w'.drewN n) row := ⟨h.os, h.tape, h.output, h.size, h.block⟩
theorem grownBy_drew' {w w' : World} {row : Option Nat} (h : w.grownBy w' row) : w.grownBy w'.drew row := ⟨h.os, h.tape, h.output, h.size, h.block⟩
theorem TS.next0 {W0 W : World} {g b : Nat} {h0 h1 h2 l0 l1 l2 x y z : Int} (h : TS W0 W g b h0 h1 h2 l0 l1 l2 x y z) (n : Nat) (l' h' : Int) :
    TS W0 (((W.drewN n).setCell ⟨g, 3, none⟩ (.int .i64 l')).setCell ⟨g, 0, none⟩ (.int .i64 h')).drew g b h' h1 h2 l' l1 l2 x y z := by
  obtain ⟨c0, c1, c2, c3, c4, c5, f0, f1, f2, f3, f4, f5, d0, d1, d2, gb, ne⟩ := h
  have nb : b ≠ g := by omega
  have nb' : g ≠ b := by omega
  refine ⟨?_, ?_, ?_, ?_, ?_, ?_, ?_, ?_, ?_, ?_, ?_, ?_, ?_, ?_, ?_, ?_, ne⟩
  case refine_16 => exact grownBy_drew' (grownBy_set' (grownBy_set' (grownBy_drewN gb _) _ _) _ _)
  all_goals go_simp
theorem TS.next1 {W0 W : World} {g b : Nat} {h0 h1 h2 l0 l1 l2 x y z : Int} (h : TS W0 W g b h0 h1 h2 l0 l1 l2 x y z) (n : Nat) (l' h' : Int) :
    TS W0 (((W.drewN n).setCell ⟨g, 4, none⟩ (.int .i64 l')).setCell ⟨g, 1, none⟩ (.int .i64 h')).drew g b h0 h' h2 l0 l' l2 x y z := by
  obtain ⟨c0, c1, c2, c3, c4, c5, f0, f1, f2, f3, f4, f5, d0, d1, d2, gb, ne⟩ := h
  have nb : b ≠ g := by omega
  have nb' : g ≠ b := by omega
  refine ⟨?_, ?_, ?_, ?_, ?_, ?_, ?_, ?_, ?_, ?_, ?_, ?_, ?_, ?_, ?_, ?_, ne⟩
  case refine_16 => exact grownBy_drew' (grownBy_set' (grownBy_set' (grownBy_drewN gb _) _ _) _ _)
  all_goals go_simp
theorem TS.next2 {W0 W : World} {g b : Nat} {h0 h1 h2 l0 l1 l2 x y z : Int} (h : TS W0 W g b h0 h1 h2 l0 l1 l2 x y z) (n : Nat) (l' h' : Int) :
    TS W0 (((W.drewN n).setCell ⟨g, 5, none⟩ (.int .i64 l')).setCell ⟨g, 2, none⟩ (.int .i64 h')).drew g b h0 h1 h' l0 l1 l' x y z := by
  obtain ⟨c0, c1, c2, c3, c4, c5, f0, f1, f2, f3, f4, f5, d0, d1, d2, gb, ne⟩ := h
  have nb : b ≠ g := by omega
  have nb' : g ≠ b := by omega
  refine ⟨?_, ?_, ?_, ?_, ?_, ?_, ?_, ?_, ?_, ?_, ?_, ?_, ?_, ?_, ?_, ?_, ne⟩
  case refine_16 => exact grownBy_drew' (grownBy_set' (grownBy_set' (grownBy_drewN gb _) _ _) _ _)
  all_goals go_simp
/-- a total of X, Y, Z in block g -/
structure TotAt (W : World) (g : Nat) (X Y Z : Int) : Prop where
  c0 : W.cell? ⟨g, 0, none⟩ = some (.int .i64 (hi X))
  c1 : W.cell? ⟨g, 1, none⟩ = some (.int .i64 (hi Y))
  c2 : W.cell? ⟨g, 2, none⟩ = some (.int .i64 (hi Z))
  c3 : W.cell? ⟨g, 3, none⟩ = some (.int .i64 (lo X))
  c4 : W.cell? ⟨g, 4, none⟩ = some (.int .i64 (lo Y))
  c5 : W.cell? ⟨g, 5, none⟩ = some (.int .i64 (lo Z))
  f0 : W.frozen? ⟨g, 0, none⟩ = false
  f1 : W.frozen? ⟨g, 1, none⟩ = false
  f2 : W.frozen? ⟨g, 2, none⟩ = false
  f3 : W.frozen? ⟨g, 3, none⟩ = false
  f4 : W.frozen? ⟨g, 4, none⟩ = false
  f5 : W.frozen? ⟨g, 5, none⟩ = false
  lt : g < W.heap.size
def AddPost (w : World) (g : Nat) (X Y Z : Int) (e : Ending) (w' : World) : Prop := e = .returned (.tuple #[]) ∧ w.grownBy w' (some g) ∧ TotAt w' g X Y Z
theorem TotAt.on {W W' : World} {g : Nat} {X Y Z : Int} (h : TotAt W g X Y Z) (hb : W'.heap[g]? = W.heap[g]?) : TotAt W' g X Y Z := by
  have hl : g < W'.heap.size := by
    have := h.lt
    rcases Nat.lt_or_ge g W'.heap.size with hh | hh
    · exact hh
    · rw [Array.getElem?_eq_none hh, Array.getElem?_eq_getElem this] at hb; cases hb
  have c : ∀ k, W'.cell? ⟨g, k, none⟩ = W.cell? ⟨g, k, none⟩ := fun k => World.cell?_of_block (w := W) hb
  have f : ∀ k, W'.frozen? ⟨g, k, none⟩ = W.frozen? ⟨g, k, none⟩ := fun k => by simp [World.frozen?, hb]
  obtain ⟨c0, c1, c2, c3, c4, c5, f0, f1, f2, f3, f4, f5, lt⟩ := h
  exact ⟨(c 0).trans c0, (c 1).trans c1, (c 2).trans c2, (c 3).trans c3, (c 4).trans c4, (c 5).trans c5, (f 0).trans f0, (f 1).trans f1, (f 2).trans f2, (f 3).trans f3, (f 4).trans f4, (f 5).trans f5, hl⟩
theorem TotAt.box {W : World} {g : Nat} {X Y Z x y z : Int} (h : TotAt W g X Y Z) : TS W (W.alloc (.cells #[.int .i64 x, .int .i64 y, .int .i64 z] 24)) g W.heap.size (hi X) (hi Y) (hi Z) (lo X) (lo Y) (lo Z) x y z := by
  have hb : (W.alloc (.cells #[.int .i64 x, .int .i64 y, .int .i64 z] 24)).heap[g]? = W.heap[g]? := ((Below.refl W.heap.size W).alloc (Nat.le_refl _) _).block g h.lt
  have h' := h.on hb
  have lt := h.lt
  obtain ⟨c0, c1, c2, c3, c4, c5, f0, f1, f2, f3, f4, f5, _⟩ := h'
  refine ⟨c0, c1, c2, c3, c4, c5, f0, f1, f2, f3, f4, f5, ?_, ?_, ?_, World.grownBy_alloc _ _ _, lt⟩ <;> simp [go_sem]
set_option maxHeartbeats 1000000 in
theorem add_raw (g : Nat) (h0 h1 h2 l0 l1 l2 x y z h0' h1' h2' l0' l1' l2' s0 s1 s2 k0 k1 k2 g0 g1 g2 : Int) (w : World)
    (T : TS w (w.alloc (.cells #[.int .i64 x, .int .i64 y, .int .i64 z] 24)) g w.heap.size h0 h1 h2 l0 l1 l2 x y z)
    (u0 : Up l0 x h0 l0' h0' s0 k0 g0) (u1 : Up l1 y h1 l1' h1' s1 k1 g1) (u2 : Up l2 z h2 l2' h2' s2 k2 g2) :
    Calls Try.prog 49 #[.pointer (some ⟨g, 0, none⟩), .agg #[.int .i64 x, .int .i64 y, .int .i64 z]] w fun e w' => e = .returned (.tuple #[]) ∧ TS w w' g w.heap.size h0' h1' h2' l0' l1' l2' x y z := by
  have sc0 := Lib.hid (fun W : World => (sign_any x W u0.b0 u0.b1).mono fun _ _ h => (⟨h.1, h.2.symm⟩ : _ ∧ _))
  have sc1 := Lib.hid (fun W : World => (sign_any y W u1.b0 u1.b1).mono fun _ _ h => (⟨h.1, h.2.symm⟩ : _ ∧ _))
  have sc2 := Lib.hid (fun W : World => (sign_any z W u2.b0 u2.b1).mono fun _ _ h => (⟨h.1, h.2.symm⟩ : _ ∧ _))
  obtain ⟨a1, a2, a3, a4, a5, a6, a7⟩ := u0
  obtain ⟨b1, b2, b3, b4, b5, b6, b7⟩ := u1
  obtain ⟨e1, e2, e3, e4, e5, e6, e7⟩ := u2
  generalize sg x = x' at *
  generalize sg y = y' at *
  generalize sg z = z' at *
  have TT := Lib.hid T
  clear T
  go_enter Try.func49, Try.ntmps49
  go_wp2_with fail
  refine wp_loop_rounds 4 ?_
  refine rounds_forget (fun W => TS w W g w.heap.size h0 h1 h2 l0 l1 l2 x y z) TT.out ?_
  clear TT
  intro W T
  rw [rounds_succ]
  obtain ⟨c0, c1, c2, c3, c4, c5, f0, f1, f2, f3, f4, f5, d0, d1, d2, gb, ne⟩ := T
  have T := Lib.hid (TS.mk c0 c1 c2 c3 c4 c5 f0 f1 f2 f3 f4 f5 d0 d1 d2 gb ne)
  clear gb ne
  go_wp2_with fail
  go_quiet (fail)
  go_wp2_with fail
  refine wp_region_still_tail 17 (by kernel_rfl) (by kernel_rfl) ?_
  simp only [List.take_succ_cons, List.take_zero, List.drop_succ_cons, List.drop_zero]
  change wpStill _ _ (World.drew _) _ _ _
  repeat still_step
  still_call (sc0.out _)
  repeat still_step
  refine wpStill_nil ?_
  change wpList _ _ _ _ _ (World.drew _)
  go_wp2_with fail
  clear c0 c1 c2 c3 c4 c5 f0 f1 f2 f3 f4 f5 d0 d1 d2
  refine rounds_forget (fun W => TS w W g w.heap.size h0' h1 h2 l0' l1 l2 x y z) (T.out.next0 nq _ _) ?_
  clear T
  intro W T
  rw [rounds_succ]
  obtain ⟨c0, c1, c2, c3, c4, c5, f0, f1, f2, f3, f4, f5, d0, d1, d2, gb, ne⟩ := T
  have T := Lib.hid (TS.mk c0 c1 c2 c3 c4 c5 f0 f1 f2 f3 f4 f5 d0 d1 d2 gb ne)
  clear gb ne
  go_wp2_with fail
  go_quiet (fail)
  go_wp2_with fail
  refine wp_region_still_tail 17 (by kernel_rfl) (by kernel_rfl) ?_
  simp only [List.take_succ_cons, List.take_zero, List.drop_succ_cons, List.drop_zero]
  change wpStill _ _ (World.drew _) _ _ _
  repeat still_step
  still_call (sc1.out _)
  repeat still_step
  refine wpStill_nil ?_
  change wpList _ _ _ _ _ (World.drew _)
  go_wp2_with fail
  clear c0 c1 c2 c3 c4 c5 f0 f1 f2 f3 f4 f5 d0 d1 d2
  refine rounds_forget (fun W => TS w W g w.heap.size h0' h1' h2 l0' l1' l2 x y z) (T.out.next1 nq _ _) ?_
  clear T
  intro W T
  rw [rounds_succ]
  obtain ⟨c0, c1, c2, c3, c4, c5, f0, f1, f2, f3, f4, f5, d0, d1, d2, gb, ne⟩ := T
  have T := Lib.hid (TS.mk c0 c1 c2 c3 c4 c5 f0 f1 f2 f3 f4 f5 d0 d1 d2 gb ne)
  clear gb ne
  go_wp2_with fail
  go_quiet (fail)
  go_wp2_with fail
  refine wp_region_still_tail 17 (by kernel_rfl) (by kernel_rfl) ?_
  simp only [List.take_succ_cons, List.take_zero, List.drop_succ_cons, List.drop_zero]
  change wpStill _ _ (World.drew _) _ _ _
  repeat still_step
  still_call (sc2.out _)
  repeat still_step
  refine wpStill_nil ?_
  change wpList _ _ _ _ _ (World.drew _)
  go_wp2_with fail
  clear c0 c1 c2 c3 c4 c5 f0 f1 f2 f3 f4 f5 d0 d1 d2
  refine rounds_forget (fun W => TS w W g w.heap.size h0' h1' h2' l0' l1' l2' x y z) (T.out.next2 nq _ _) ?_
  clear T
  intro W T
  rw [rounds_succ]
  go_wp2_with fail
  go_end0
  exact ⟨rfl, T⟩
theorem TS.tot {W0 W : World} {g b : Nat} {X Y Z x y z : Int} (h : TS W0 W g b (hi X) (hi Y) (hi Z) (lo X) (lo Y) (lo Z) x y z) (hl : g < W0.heap.size) : TotAt W g X Y Z := by
  obtain ⟨c0, c1, c2, c3, c4, c5, f0, f1, f2, f3, f4, f5, d0, d1, d2, gb, ne⟩ := h
  exact ⟨c0, c1, c2, c3, c4, c5, f0, f1, f2, f3, f4, f5, Nat.lt_of_lt_of_le hl gb.size⟩
theorem add_any (g : Nat) (X Y Z x y z : Int) (w : World) (T : TotAt w g X Y Z) (bX : Big X) (bY : Big Y) (bZ : Big Z) (bx : I64 x) (by' : I64 y) (bz : I64 z) :
    Calls Try.prog 49 #[.pointer (some ⟨g, 0, none⟩), .agg #[.int .i64 x, .int .i64 y, .int .i64 z]] w (AddPost w g (X + x) (Y + y) (Z + z)) :=
  (add_raw g _ _ _ _ _ _ x y z _ _ _ _ _ _ _ _ _ _ _ _ _ _ _ w T.box (up_of X x bX bx) (up_of Y y bY by') (up_of Z z bZ bz)).mono fun _ _ h => ⟨h.1, h.2.gb, h.2.tot T.lt⟩
end Go.Proofs.Ytjpnkecfoealoaa.Vc
