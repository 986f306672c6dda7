import Derived.Test.YtphclpjekpdifaaGreatYD
import Derived.Test.YtphclpjekpdifaaGreatYL
import Derived.Deep.RegionWith
import Derived.Test.YtphclpjekpdifaaGreatYI
import Derived.Test.YtphclpjekpdifaaGreatYP
namespace Go.Proofs.YtphclpjekpdifaaGreat.Vc
set_option maxRecDepth 20000
open Go.RowKit
set_option linter.unusedVariables false
theorem sub64 (x y : Int) (hx : 0 ≤ x) (hy : 0 ≤ y) (hy' : y < 18446744073709551616) (w : World) : (callFunc 195 #[.int .u64 x, .int .u64 y, .int .u64 0]).run Tryz.prog w = .ok (.value (.tuple #[.int .u64 (dS x y), .int .u64 (dB x y)])) w := by
  obtain ⟨x, rfl⟩ := Int.eq_ofNat_of_zero_le hx
  obtain ⟨y, rfl⟩ := Int.eq_ofNat_of_zero_le hy
  have e := run_sub64 (P := Tryz.prog) x y 0 (by omega) w
  rw [run_callFunc_extern Tryz.func195 (by kernel_rfl) (by kernel_rfl) (by kernel_rfl) (e := sub64Entry) (by kernel_rfl)]
  have e0 : (sub64Entry #[.int .u64 (x : Int), .int .u64 (y : Int), .int .u64 0]).run Tryz.prog w = _ := e
  rw [e0]
  have e1 : (((x + 18446744073709551616 - y - 0) % 18446744073709551616 : Nat) : Int) = dS x y := by unfold dS; omega
  have e2 : ((if x < y + 0 then 1 else 0 : Nat) : Int) = dB x y := by unfold dB; split <;> split <;> omega
  rw [e1, e2]
  rfl
structure Dn (l x h l' h' : Int) (s c gc : Int) : Prop where
  call : ∀ W : World, (callFunc 195 #[.int .u64 (IntKind.u64.wrap l), .int .u64 (IntKind.u64.wrap x), .int .u64 0]).run Tryz.prog W = .ok (.value (.tuple #[.int .u64 s, .int .u64 c])) W
  wl : IntKind.i64.wrap s = l'
  wc : IntKind.i64.wrap c = c
  wg : IntKind.i64.wrap (sg x + c) = gc
  wh : IntKind.i64.wrap (h - gc) = h'
  b0 : -9223372036854775808 ≤ x
  b1 : x ≤ 9223372036854775807
theorem dn_of (T x : Int) (hT : Big T) (hx : I64 x) : Dn (lo T) x (hi T) (lo (T - x)) (hi (T - x)) (dS (IntKind.u64.wrap (lo T)) (IntKind.u64.wrap x)) (dB (IntKind.u64.wrap (lo T)) (IntKind.u64.wrap x)) (sg x + dB (IntKind.u64.wrap (lo T)) (IntKind.u64.wrap x)) := by
  have hh := hi_down T x hx
  have hb := hi_bd (T - x) (by unfold Big at hT; unfold I64 at hx; omega)
  obtain ⟨t0, t1⟩ := hT
  obtain ⟨x0, x1⟩ := hx
  have ec : dB (IntKind.u64.wrap (lo T)) (IntKind.u64.wrap x) = dB (T % 18446744073709551616) (x % 18446744073709551616) := by
    rw [IntKind.wrap_u64, IntKind.wrap_u64, lo_mod]
  have es : dS (IntKind.u64.wrap (lo T)) (IntKind.u64.wrap x) = (T % 18446744073709551616 - x % 18446744073709551616) % 18446744073709551616 := by
    rw [IntKind.wrap_u64, IntKind.wrap_u64, lo_mod]; rfl
  have bc : 0 ≤ dB (T % 18446744073709551616) (x % 18446744073709551616) ∧ dB (T % 18446744073709551616) (x % 18446744073709551616) ≤ 1 := by unfold dB; split <;> omega
  constructor
  · intro W
    exact sub64 _ _ (by rw [IntKind.wrap_u64]; omega) (by rw [IntKind.wrap_u64]; omega) (by rw [IntKind.wrap_u64]; omega) W
  · rw [es]; unfold lo; rw [IntKind.wrap_i64]; omega
  · rw [ec, IntKind.wrap_i64]; omega
  · rw [ec, IntKind.wrap_i64]; unfold sg; omega
  · rw [ec, hh, IntKind.wrap_i64]; omega
  · exact x0
  · exact x1
set_option maxHeartbeats 1000000 in
theorem take_raw (g : Nat) (h0 h1 h2 l0 l1 l2 x y z h0' h1' h2' l0' l1' l2' s0 s1 s2 k0 k1 k2 g0 g1 g2 : Int) (w : World)
    (T : TS w (w.alloc (.cells #[.int .i64 x, .int .i64 y, .int .i64 z] 28)) g w.heap.size h0 h1 h2 l0 l1 l2 x y z)
    (u0 : Dn l0 x h0 l0' h0' s0 k0 g0) (u1 : Dn l1 y h1 l1' h1' s1 k1 g1) (u2 : Dn l2 z h2 l2' h2' s2 k2 g2) :
    Calls Tryz.prog 157 #[.pointer (some ⟨g, 0, none⟩), .agg #[.int .i64 x, .int .i64 y, .int .i64 z]] w fun e w' => e = .returned (.tuple #[]) ∧ TS w w' g w.heap.size h0' h1' h2' l0' l1' l2' x y z := by
  have sc0 := Lib.hid (fun W : World => (sign_any x W u0.b0 u0.b1).mono fun _ _ h => (⟨h.1, h.2.symm⟩ : _ ∧ _))
  have sc1 := Lib.hid (fun W : World => (sign_any y W u1.b0 u1.b1).mono fun _ _ h => (⟨h.1, h.2.symm⟩ : _ ∧ _))
  have sc2 := Lib.hid (fun W : World => (sign_any z W u2.b0 u2.b1).mono fun _ _ h => (⟨h.1, h.2.symm⟩ : _ ∧ _))
  obtain ⟨a1, a2, a3, a4, a5, a6, a7⟩ := u0
  obtain ⟨b1, b2, b3, b4, b5, b6, b7⟩ := u1
  obtain ⟨e1, e2, e3, e4, e5, e6, e7⟩ := u2
  generalize sg x = x' at *
  generalize sg y = y' at *
  generalize sg z = z' at *
  have TT := Lib.hid T
  clear T
  go_enter Tryz.func157, Tryz.ntmps157
  go_wp2_with fail
  refine wp_loop_rounds 4 ?_
  refine rounds_forget (fun W => TS w W g w.heap.size h0 h1 h2 l0 l1 l2 x y z) TT.out ?_
  clear TT
  intro W T
  rw [rounds_succ]
  obtain ⟨c0, c1, c2, c3, c4, c5, f0, f1, f2, f3, f4, f5, d0, d1, d2, gb, ne⟩ := T
  have T := Lib.hid (TS.mk c0 c1 c2 c3 c4 c5 f0 f1 f2 f3 f4 f5 d0 d1 d2 gb ne)
  clear gb ne
  go_wp2_with fail
  go_quiet (fail)
  go_wp2_with fail
  refine wp_region_still_tail 17 (by kernel_rfl) (by kernel_rfl) ?_
  simp only [List.take_succ_cons, List.take_zero, List.drop_succ_cons, List.drop_zero]
  change wpStill _ _ (World.drew _) _ _ _
  repeat still_step
  still_call (sc0.out _)
  repeat still_step
  refine wpStill_nil ?_
  change wpList _ _ _ _ _ (World.drew _)
  go_wp2_with fail
  clear c0 c1 c2 c3 c4 c5 f0 f1 f2 f3 f4 f5 d0 d1 d2
  refine rounds_forget (fun W => TS w W g w.heap.size h0' h1 h2 l0' l1 l2 x y z) (T.out.next0 nq _ _) ?_
  clear T
  intro W T
  rw [rounds_succ]
  obtain ⟨c0, c1, c2, c3, c4, c5, f0, f1, f2, f3, f4, f5, d0, d1, d2, gb, ne⟩ := T
  have T := Lib.hid (TS.mk c0 c1 c2 c3 c4 c5 f0 f1 f2 f3 f4 f5 d0 d1 d2 gb ne)
  clear gb ne
  go_wp2_with fail
  go_quiet (fail)
  go_wp2_with fail
  refine wp_region_still_tail 17 (by kernel_rfl) (by kernel_rfl) ?_
  simp only [List.take_succ_cons, List.take_zero, List.drop_succ_cons, List.drop_zero]
  change wpStill _ _ (World.drew _) _ _ _
  repeat still_step
  still_call (sc1.out _)
  repeat still_step
  refine wpStill_nil ?_
  change wpList _ _ _ _ _ (World.drew _)
  go_wp2_with fail
  clear c0 c1 c2 c3 c4 c5 f0 f1 f2 f3 f4 f5 d0 d1 d2
  refine rounds_forget (fun W => TS w W g w.heap.size h0' h1' h2 l0' l1' l2 x y z) (T.out.next1 nq _ _) ?_
  clear T
  intro W T
  rw [rounds_succ]
  obtain ⟨c0, c1, c2, c3, c4, c5, f0, f1, f2, f3, f4, f5, d0, d1, d2, gb, ne⟩ := T
  have T := Lib.hid (TS.mk c0 c1 c2 c3 c4 c5 f0 f1 f2 f3 f4 f5 d0 d1 d2 gb ne)
  clear gb ne
  go_wp2_with fail
  go_quiet (fail)
  go_wp2_with fail
  refine wp_region_still_tail 17 (by kernel_rfl) (by kernel_rfl) ?_
  simp only [List.take_succ_cons, List.take_zero, List.drop_succ_cons, List.drop_zero]
  change wpStill _ _ (World.drew _) _ _ _
  repeat still_step
  still_call (sc2.out _)
  repeat still_step
  refine wpStill_nil ?_
  change wpList _ _ _ _ _ (World.drew _)
  go_wp2_with fail
  clear c0 c1 c2 c3 c4 c5 f0 f1 f2 f3 f4 f5 d0 d1 d2
  refine rounds_forget (fun W => TS w W g w.heap.size h0' h1' h2' l0' l1' l2' x y z) (T.out.next2 nq _ _) ?_
  clear T
  intro W T
  rw [rounds_succ]
  go_wp2_with fail
  go_end0
  exact ⟨rfl, T⟩
theorem take_any (g : Nat) (X Y Z x y z : Int) (w : World) (T : TotAt w g X Y Z) (bX : Big X) (bY : Big Y) (bZ : Big Z) (bx : I64 x) (by' : I64 y) (bz : I64 z) :
    Calls Tryz.prog 157 #[.pointer (some ⟨g, 0, none⟩), .agg #[.int .i64 x, .int .i64 y, .int .i64 z]] w (AddPost w g (X - x) (Y - y) (Z - z)) :=
  (take_raw g _ _ _ _ _ _ x y z _ _ _ _ _ _ _ _ _ _ _ _ _ _ _ w T.box (dn_of X x bX bx) (dn_of Y y bY by') (dn_of Z z bZ bz)).mono fun _ _ h => ⟨h.1, h.2.gb, h.2.tot T.lt⟩
theorem sub_any (a b c x y z : Int) (w : World) (ba : I64 a) (bb : I64 b) (bc : I64 c) (bx : I64 x) (by' : I64 y) (bz : I64 z) :
    Calls Tryz.prog 124 #[.agg #[.int .i64 a, .int .i64 b, .int .i64 c], .agg #[.int .i64 x, .int .i64 y, .int .i64 z]] w (RetBelow (outV (0 + a - x) (0 + b - y) (0 + c - z)) w) := by
  have c1 := Lib.hid fun (W : World) (g : Nat) (T : TotAt W g 0 0 0) => add_any g 0 0 0 a b c W T big0 big0 big0 ba bb bc
  have c2 := Lib.hid fun (W : World) (g : Nat) (T : TotAt W g (0 + a) (0 + b) (0 + c)) => take_any g (0 + a) (0 + b) (0 + c) x y z W T (big_of a ba) (big_of b bb) (big_of c bc) bx by' bz
  clear ba bb bc bx by' bz
  generalize 0 + a - x = X at *
  generalize 0 + b - y = Y at *
  generalize 0 + c - z = Z at *
  generalize 0 + a = A at *
  generalize 0 + b = B at *
  generalize 0 + c = C at *
  have c3 := Lib.hid fun (W : World) (g : Nat) (T : TotAt W g X Y Z) => vec_any g X Y Z W T
  obtain ⟨p, q, r, e, he⟩ := outV_form X Y Z
  rw [he] at c3 ⊢
  clear he
  go_enter Tryz.func124, Tryz.ntmps124
  go_wp2_with fail
  have T0 := TotAt.zero (((w.alloc (.cells #[.int .i64 a, .int .i64 b, .int .i64 c] 28)).alloc (.cells #[.int .i64 x, .int .i64 y, .int .i64 z] 28)).alloc (.cells #[.int .i64 0, .int .i64 0, .int .i64 0] 28))
  have K1 := ((BK.new (w.alloc (.cells #[.int .i64 a, .int .i64 b, .int .i64 c] 28)) x y z).alloc (.cells #[.int .i64 0, .int .i64 0, .int .i64 0] 28)).alloc (.cells #[.int .i64 0, .int .i64 0, .int .i64 0, .int .i64 0, .int .i64 0, .int .i64 0] 234)
  have K2 := (BK.new ((w.alloc (.cells #[.int .i64 a, .int .i64 b, .int .i64 c] 28)).alloc (.cells #[.int .i64 x, .int .i64 y, .int .i64 z] 28)) 0 0 0).alloc (.cells #[.int .i64 0, .int .i64 0, .int .i64 0, .int .i64 0, .int .i64 0, .int .i64 0] 234)
  have B0 : Below w.heap.size w ((((w.alloc (.cells #[.int .i64 a, .int .i64 b, .int .i64 c] 28)).alloc (.cells #[.int .i64 x, .int .i64 y, .int .i64 z] 28)).alloc (.cells #[.int .i64 0, .int .i64 0, .int .i64 0] 28)).alloc (.cells #[.int .i64 0, .int .i64 0, .int .i64 0, .int .i64 0, .int .i64 0, .int .i64 0] 234)) := ((((Below.refl _ _).alloc (Nat.le_refl _) _).alloc (by simp) _).alloc (by simp; omega) _).alloc (by simp; omega) _
  simp only [World.size_alloc] at T0 K1 K2
  generalize ((((w.alloc (.cells #[.int .i64 a, .int .i64 b, .int .i64 c] 28)).alloc (.cells #[.int .i64 x, .int .i64 y, .int .i64 z] 28)).alloc (.cells #[.int .i64 0, .int .i64 0, .int .i64 0] 28)).alloc (.cells #[.int .i64 0, .int .i64 0, .int .i64 0, .int .i64 0, .int .i64 0, .int .i64 0] 234)) = W0 at *
  have H0 := Lib.hid B0
  have L1 := Lib.hid K1
  have L2 := Lib.hid K2
  clear B0 K1 K2
  refine (c1.out _ _ T0).mono ?_
  rintro _ w1 ⟨rfl, g1, T1⟩
  have H1 : Hid (Below w.heap.size w w1) := Lib.hid (H0.out.grown g1 H0.out.size (by intro k hk; cases hk; omega))
  have M1 : Hid (BK w1 (w.heap.size + 1) x y z) := Lib.hid (L1.out.grown g1 (by omega))
  have M2 : Hid (BK w1 (w.heap.size + 1 + 1) 0 0 0) := Lib.hid (L2.out.grown g1 (by omega))
  obtain ⟨d0, d1, d2⟩ := M1.out.c3
  have HT := Lib.hid T1
  clear L1 L2 g1 T1 T0
  go_wp2_with fail
  refine (c2.out _ _ HT.out).mono ?_
  rintro _ w2 ⟨rfl, g2, T2⟩
  have H2 : Hid (Below w.heap.size w w2) := Lib.hid (H1.out.grown g2 H1.out.size (by intro k hk; cases hk; omega))
  have N2 : Hid (BK w2 (w.heap.size + 1 + 1) 0 0 0) := Lib.hid (M2.out.grown g2 (by omega))
  have HT2 := Lib.hid T2
  clear M1 M2 d0 d1 d2 HT g2 T2
  go_wp2_with fail
  refine (c3.out _ _ HT2.out).mono ?_
  rintro _ w3 ⟨rfl, hb⟩
  have H3 : Hid (Below w.heap.size w w3) := Lib.hid (H2.out.trans (hb.mono H2.out.size))
  have P2 : BK w3 (w.heap.size + 1 + 1) 0 0 0 := N2.out.on hb N2.out.lt
  obtain ⟨d0, d1, d2⟩ := P2.c3
  have f0 := P2.f0 0
  have f1 := P2.f0 1
  have f2 := P2.f0 2
  clear P2 N2 HT2 hb
  go_wp2_with fail
  exact bodyPost_ret (v := .tuple #[.agg #[.int .i64 p, .int .i64 q, .int .i64 r], .int .i64 e]) (by simp [results, Tryz.results124, go_sem, d0, d1, d2]) rfl
    ⟨rfl, ((H3.out.setCell (by show _ ≤ w.heap.size + 1 + 1; omega) _).setCell (by show _ ≤ w.heap.size + 1 + 1; omega) _).setCell (by show _ ≤ w.heap.size + 1 + 1; omega) _⟩
theorem sub_ret (a b c x y z : Int) (w : World) (ba : I64 a) (bb : I64 b) (bc : I64 c) (bx : I64 x) (by' : I64 y) (bz : I64 z) :
    Calls Tryz.prog 124 #[.agg #[.int .i64 a, .int .i64 b, .int .i64 c], .agg #[.int .i64 x, .int .i64 y, .int .i64 z]] w (RetBelow (outV (a - x) (b - y) (c - z)) w) := by
  have := sub_any a b c x y z w ba bb bc bx by' bz
  simpa only [Int.zero_add] using this
end Go.Proofs.YtphclpjekpdifaaGreat.Vc
namespace Go.Proofs.YtphclpjekpdifaaGreat
set_option maxRecDepth 20000
open Go.RowKit
open PS (in3 o1 o2 o3)
open Go.Proofs.YtphclpjekpdifaaGreat.Vc (RetBelow fitB I64 outV)
set_option linter.unusedVariables false
theorem rowc3 {w : World} {b : Nat} {a0 a1 a2 : Value} {t : TypeId} (h : w.heap[b]? = some (.cells #[a0, a1, a2] t (0, 0))) : w.cell? ⟨b, 0, none⟩ = some a0 ∧ w.cell? ⟨b, 1, none⟩ = some a1 ∧ w.cell? ⟨b, 2, none⟩ = some a2 := by
  refine ⟨?_, ?_, ?_⟩
  all_goals (rw [Lib.cell_of_heap h]; rfl)
theorem outV_is (X Y Z : Int) : outV X Y Z = .tuple #[.agg #[.int .i64 (o1 X Y Z), .int .i64 (o2 X Y Z), .int .i64 (o3 X Y Z)], .int .i64 (if in3 X Y Z = true then 0 else 6)] := by
  unfold outV o1 o2 o3
  by_cases h : I64 X ∧ I64 Y ∧ I64 Z
  · have : in3 X Y Z = true := by simp [in3, h]
    rw [if_pos h, if_pos this, if_pos this, if_pos this, if_pos this]; rfl
  · have : ¬ in3 X Y Z = true := by simpa [in3] using h
    rw [if_neg h, if_neg this, if_neg this, if_neg this, if_neg this]; rfl
structure RmC (w : World) (g : Nat) (a b c x y z n : Int) : Prop where
  c1 : w.cell? ⟨g, 1, none⟩ = some (.int .i64 a)
  c2 : w.cell? ⟨g, 2, none⟩ = some (.int .i64 b)
  c3 : w.cell? ⟨g, 3, none⟩ = some (.int .i64 c)
  c4 : w.cell? ⟨g, 4, none⟩ = some (.int .i64 x)
  c5 : w.cell? ⟨g, 5, none⟩ = some (.int .i64 y)
  c6 : w.cell? ⟨g, 6, none⟩ = some (.int .i64 z)
  c7 : w.cell? ⟨g, 7, none⟩ = some (.int .i64 n)
  f : ∀ o, w.frozen? ⟨g, o, none⟩ = false
theorem RmC.on {w w' : World} {g B : Nat} {a b c x y z n : Int} (h : RmC w g a b c x y z n) (hb : Below B w w') (hg : g < B) : RmC w' g a b c x y z n :=
  ⟨cellB h.c1 hb hg, cellB h.c2 hb hg, cellB h.c3 hb hg, cellB h.c4 hb hg, cellB h.c5 hb hg, cellB h.c6 hb hg, cellB h.c7 hb hg, fun o => (hb.frozen (p := ⟨g, o, none⟩) hg).trans (h.f o)⟩
theorem RmC.lt {w : World} {g : Nat} {a b c x y z n : Int} (h : RmC w g a b c x y z n) : g < w.heap.size := lt_of_cell h.c1
def setMost (w : World) (g : Nat) (p q r : Int) : World := ((w.setCell ⟨g, 1, none⟩ (.int .i64 p)).setCell ⟨g, 2, none⟩ (.int .i64 q)).setCell ⟨g, 3, none⟩ (.int .i64 r)
def setUsed (w : World) (g : Nat) (x y z n : Int) : World := (((w.setCell ⟨g, 4, none⟩ (.int .i64 x)).setCell ⟨g, 5, none⟩ (.int .i64 y)).setCell ⟨g, 6, none⟩ (.int .i64 z)).setCell ⟨g, 7, none⟩ (.int .i64 n)
set_option maxHeartbeats 1000000 in
theorem resize_no (g : Nat) (a b c x y z n p q r : Int) (w : World) (hr : RmC w g a b c x y z n) (hf : fitB x y z p q r = false) :
    Calls Tryz.prog 80 #[.pointer (some ⟨g, 1, none⟩), .agg #[.int .i64 p, .int .i64 q, .int .i64 r]] w fun e w' => e = .returned (.bool false) ∧ Below w.heap.size w w' := by
  have HF := Lib.hid fun X => (hf ▸ Vc.fits_any x y z p q r X : Calls Tryz.prog 119 _ X (RetBelow (.bool false) X))
  obtain ⟨_, _, _, c4, c5, c6, _, _⟩ := hr
  have hlt := lt_of_cell c4
  have HB := Lib.hid ((Below.refl w.heap.size w).alloc (Nat.le_refl _) (.cells #[.int .i64 p, .int .i64 q, .int .i64 r] 28))
  clear hf
  go_enter Tryz.func80, Tryz.ntmps80
  go_wp2_with fail
  go_region_with (first | (go_at_call 119; (with_reducible refine (HF.out _).mono ?_); rintro e w1 ⟨rfl, hb⟩; have hb2 := Lib.hid (HB.out.drew.trans (hb.mono (by simp))); clear hb))
  all_goals go_wp2_with fail
  all_goals go_ret
  all_goals exact ⟨rfl, hb2.out⟩
set_option maxHeartbeats 1000000 in
theorem resize_yes (g : Nat) (a b c x y z n p q r : Int) (w : World) (hr : RmC w g a b c x y z n) (hf : fitB x y z p q r = true) :
    Calls Tryz.prog 80 #[.pointer (some ⟨g, 1, none⟩), .agg #[.int .i64 p, .int .i64 q, .int .i64 r]] w fun e w' => e = .returned (.bool true) ∧ ∃ w1, Below w.heap.size w w1 ∧ w' = setMost w1 g p q r := by
  have HF := Lib.hid fun X => (hf ▸ Vc.fits_any x y z p q r X : Calls Tryz.prog 119 _ X (RetBelow (.bool true) X))
  have HR := Lib.hid hr
  obtain ⟨_, _, _, c4, c5, c6, _, _⟩ := hr
  have hlt := lt_of_cell c4
  have HB := Lib.hid ((Below.refl w.heap.size w).alloc (Nat.le_refl _) (.cells #[.int .i64 p, .int .i64 q, .int .i64 r] 28))
  have HX := Lib.hid (show ∀ X, Below (w.alloc (.cells #[.int .i64 p, .int .i64 q, .int .i64 r] 28)).heap.size (w.alloc (.cells #[.int .i64 p, .int .i64 q, .int .i64 r] 28)) X → X.heap[w.heap.size]? = some (.cells #[.int .i64 p, .int .i64 q, .int .i64 r] 28 (0, 0)) from fun X h => (h.block _ (by simp)).trans (heap_alloc_new w _))
  clear hf
  go_enter Tryz.func80, Tryz.ntmps80
  go_wp2_with fail
  go_region_with (first | (go_at_call 119; (with_reducible refine (HF.out _).mono ?_); rintro e w1 ⟨rfl, hb⟩; have hb2 := Lib.hid (HB.out.drew.trans (hb.mono (by simp))); obtain ⟨k1, k2, k3, _, _, _, _, kf⟩ := HR.out.on hb2.out HR.out.lt; have f1 := kf 1; have f2 := kf 2; have f3 := kf 3; obtain ⟨x0, x1, x2⟩ := rowc3 (HX.out w1 ((Below.refl _ _).drew.trans hb)); clear hb kf))
  all_goals go_wp2_with fail
  all_goals go_ret
  all_goals exact ⟨rfl, w1, hb2.out, rfl⟩
set_option maxHeartbeats 1000000 in
theorem take_core (g : Nat) (a b c x y z n p q r X Y Z E N : Int) (w : World) (hr : RmC w g a b c x y z n) (hN : IntKind.i64.wrap (n + 1) = N)
    (HF : Hid (∀ W, Calls Tryz.prog 154 #[.agg #[.int .i64 x, .int .i64 y, .int .i64 z], .agg #[.int .i64 p, .int .i64 q, .int .i64 r]] W (RetBelow (.tuple #[.agg #[.int .i64 X, .int .i64 Y, .int .i64 Z], .int .i64 E]) W))) :
    Calls Tryz.prog 123 #[.pointer (some ⟨g, 1, none⟩), .agg #[.int .i64 p, .int .i64 q, .int .i64 r]] w fun e w' => e = .returned (.tuple #[]) ∧ ∃ w1, Below w.heap.size w w1 ∧ w' = setUsed w1 g X Y Z N := by
  have HR := Lib.hid hr
  obtain ⟨_, _, _, c4, c5, c6, _, _⟩ := hr
  have hlt := lt_of_cell c4
  have HB := Lib.hid ((Below.refl w.heap.size w).alloc (Nat.le_refl _) (.cells #[.int .i64 p, .int .i64 q, .int .i64 r] 28))
  go_enter Tryz.func123, Tryz.ntmps123
  go_wp2_with fail
  go_region_with (first | (go_at_call 154; (with_reducible refine (HF.out _).mono ?_); rintro e w1 ⟨rfl, hb⟩; have hb2 := Lib.hid (HB.out.drew.trans (hb.mono (by simp))); obtain ⟨_, _, _, k4, k5, k6, k7, kf⟩ := HR.out.on hb2.out HR.out.lt; have f4 := kf 4; have f5 := kf 5; have f6 := kf 6; have f7 := kf 7; clear hb kf))
  all_goals go_wp2_with fail
  all_goals go_end0
  all_goals exact ⟨rfl, w1, hb2.out, rfl⟩
theorem take_any (g : Nat) (a b c x y z n p q r : Int) (w : World) (hr : RmC w g a b c x y z n) (bx : I64 x) (by' : I64 y) (bz : I64 z) (bp : I64 p) (bq : I64 q) (br : I64 r) :
    Calls Tryz.prog 123 #[.pointer (some ⟨g, 1, none⟩), .agg #[.int .i64 p, .int .i64 q, .int .i64 r]] w fun e w' => e = .returned (.tuple #[]) ∧ ∃ w1, Below w.heap.size w w1 ∧ w' = setUsed w1 g (o1 (x + p) (y + q) (z + r)) (o2 (x + p) (y + q) (z + r)) (o3 (x + p) (y + q) (z + r)) (IntKind.i64.wrap (n + 1)) :=
  take_core g a b c x y z n p q r _ _ _ _ _ w hr rfl (Lib.hid fun W => outV_is (x + p) (y + q) (z + r) ▸ Vc.add_ret x y z p q r W bx by' bz bp bq br)
set_option maxHeartbeats 1000000 in
theorem free_core (g : Nat) (a b c x y z n p q r X Y Z E N : Int) (w : World) (hr : RmC w g a b c x y z n) (hN : IntKind.i64.wrap (n - 1) = N)
    (HF : Hid (∀ W, Calls Tryz.prog 124 #[.agg #[.int .i64 x, .int .i64 y, .int .i64 z], .agg #[.int .i64 p, .int .i64 q, .int .i64 r]] W (RetBelow (.tuple #[.agg #[.int .i64 X, .int .i64 Y, .int .i64 Z], .int .i64 E]) W))) :
    Calls Tryz.prog 88 #[.pointer (some ⟨g, 1, none⟩), .agg #[.int .i64 p, .int .i64 q, .int .i64 r]] w fun e w' => e = .returned (.tuple #[]) ∧ ∃ w1, Below w.heap.size w w1 ∧ w' = setUsed w1 g X Y Z N := by
  have HR := Lib.hid hr
  obtain ⟨_, _, _, c4, c5, c6, _, _⟩ := hr
  have hlt := lt_of_cell c4
  have HB := Lib.hid ((Below.refl w.heap.size w).alloc (Nat.le_refl _) (.cells #[.int .i64 p, .int .i64 q, .int .i64 r] 28))
  go_enter Tryz.func88, Tryz.ntmps88
  go_wp2_with fail
  go_region_with (first | (go_at_call 124; (with_reducible refine (HF.out _).mono ?_); rintro e w1 ⟨rfl, hb⟩; have hb2 := Lib.hid (HB.out.drew.trans (hb.mono (by simp))); obtain ⟨_, _, _, k4, k5, k6, k7, kf⟩ := HR.out.on hb2.out HR.out.lt; have f4 := kf 4; have f5 := kf 5; have f6 := kf 6; have f7 := kf 7; clear hb kf))
  all_goals go_wp2_with fail
  all_goals go_end0
  all_goals exact ⟨rfl, w1, hb2.out, rfl⟩
theorem free_any (g : Nat) (a b c x y z n p q r : Int) (w : World) (hr : RmC w g a b c x y z n) (bx : I64 x) (by' : I64 y) (bz : I64 z) (bp : I64 p) (bq : I64 q) (br : I64 r) :
    Calls Tryz.prog 88 #[.pointer (some ⟨g, 1, none⟩), .agg #[.int .i64 p, .int .i64 q, .int .i64 r]] w fun e w' => e = .returned (.tuple #[]) ∧ ∃ w1, Below w.heap.size w w1 ∧ w' = setUsed w1 g (o1 (x - p) (y - q) (z - r)) (o2 (x - p) (y - q) (z - r)) (o3 (x - p) (y - q) (z - r)) (IntKind.i64.wrap (n - 1)) :=
  free_core g a b c x y z n p q r _ _ _ _ _ w hr rfl (Lib.hid fun W => outV_is (x - p) (y - q) (z - r) ▸ Vc.sub_ret x y z p q r W bx by' bz bp bq br)
end Go.Proofs.YtphclpjekpdifaaGreat
namespace Go.Proofs.YtphclpjekpdifaaGreat
set_option maxRecDepth 20000
open Go.RowKit
open PS (in3 o1 o2 o3 Nod Ten Jb)
open Go.Proofs.YtphclpjekpdifaaGreat.Nm (str)
open Go.Proofs.YtphclpjekpdifaaGreat.Vc (RetBelow fitB I64 outV)
set_option linter.unusedVariables false
theorem below_2 (w : World) (o1 o2 : Obj) : Below w.heap.size w ((w.alloc o1).alloc o2) := ((Below.refl _ w).alloc (Nat.le_refl _) o1).alloc (by simp) o2
set_option maxHeartbeats 1000000 in
theorem nrow_core (S : ByteArray) (a b c x y z n : Int) (d : Bool) (w : World) :
    Calls Tryz.prog 46 #[.agg #[.string S, .int .i64 a, .int .i64 b, .int .i64 c, .int .i64 x, .int .i64 y, .int .i64 z, .int .i64 n, .bool d]] w (RetBelow (.agg #[.string S, .int .i64 a, .int .i64 b, .int .i64 c, .int .i64 x, .int .i64 y, .int .i64 z, .bool d]) w) := by
  have hbd : ∀ W : World, (Instr.build 43 #[(0, .string S), (1, .agg #[.int .i64 a, .int .i64 b, .int .i64 c]), (2, .agg #[.int .i64 x, .int .i64 y, .int .i64 z]), (3, .bool d)]).run Tryz.prog W = .ok (.agg #[.string S, .int .i64 a, .int .i64 b, .int .i64 c, .int .i64 x, .int .i64 y, .int .i64 z, .bool d]) W := fun W => run_build W 43 _ _ (by kernel_rfl)
  go_enter Tryz.func46, Tryz.ntmps46
  go_wp2_with fail
  refine bodyPost_ret (v := .agg #[.string S, .int .i64 a, .int .i64 b, .int .i64 c, .int .i64 x, .int .i64 y, .int .i64 z, .bool d]) (by simp [results, Tryz.results46, go_sem]) rfl ⟨rfl, below_2 w _ _⟩
set_option maxHeartbeats 1000000 in
theorem trow_core (S : ByteArray) (a b c x y z n : Int) (w : World) :
    Calls Tryz.prog 48 #[.agg #[.string S, .int .i64 a, .int .i64 b, .int .i64 c, .int .i64 x, .int .i64 y, .int .i64 z, .int .i64 n]] w (RetBelow (.agg #[.string S, .int .i64 a, .int .i64 b, .int .i64 c, .int .i64 x, .int .i64 y, .int .i64 z]) w) := by
  have hbd : ∀ W : World, (Instr.build 48 #[(0, .string S), (1, .agg #[.int .i64 a, .int .i64 b, .int .i64 c]), (2, .agg #[.int .i64 x, .int .i64 y, .int .i64 z])]).run Tryz.prog W = .ok (.agg #[.string S, .int .i64 a, .int .i64 b, .int .i64 c, .int .i64 x, .int .i64 y, .int .i64 z]) W := fun W => run_build W 48 _ _ (by kernel_rfl)
  go_enter Tryz.func48, Tryz.ntmps48
  go_wp2_with fail
  refine bodyPost_ret (v := .agg #[.string S, .int .i64 a, .int .i64 b, .int .i64 c, .int .i64 x, .int .i64 y, .int .i64 z]) (by simp [results, Tryz.results48, go_sem]) rfl ⟨rfl, below_2 w _ _⟩
set_option maxHeartbeats 2000000 in
theorem refT_core (S : ByteArray) (a b c x y z n p q r X Y Z E F : Int) (fb : Bool) (w : World) (hE : E = 0 ∧ F = (if fb = true then 0 else 13) ∨ E = 6 ∧ F = 6)
    (HA : Hid (∀ W, Calls Tryz.prog 154 #[.agg #[.int .i64 x, .int .i64 y, .int .i64 z], .agg #[.int .i64 p, .int .i64 q, .int .i64 r]] W (RetBelow (.tuple #[.agg #[.int .i64 X, .int .i64 Y, .int .i64 Z], .int .i64 E]) W)))
    (HF : Hid (∀ W, Calls Tryz.prog 119 #[.agg #[.int .i64 X, .int .i64 Y, .int .i64 Z], .agg #[.int .i64 a, .int .i64 b, .int .i64 c]] W (RetBelow (.bool fb) W))) :
    Calls Tryz.prog 121 #[.agg #[.string S, .int .i64 a, .int .i64 b, .int .i64 c, .int .i64 x, .int .i64 y, .int .i64 z, .int .i64 n], .agg #[.int .i64 p, .int .i64 q, .int .i64 r]] w (RetBelow (.int .i64 F) w) := by
  have HB := Lib.hid (below_2 w (.cells #[.string S, .int .i64 a, .int .i64 b, .int .i64 c, .int .i64 x, .int .i64 y, .int .i64 z, .int .i64 n] 104) (.cells #[.int .i64 p, .int .i64 q, .int .i64 r] 28))
  have HX := Lib.hid (show ∀ X, Below ((w.alloc (.cells #[.string S, .int .i64 a, .int .i64 b, .int .i64 c, .int .i64 x, .int .i64 y, .int .i64 z, .int .i64 n] 104)).alloc (.cells #[.int .i64 p, .int .i64 q, .int .i64 r] 28)).heap.size ((w.alloc (.cells #[.string S, .int .i64 a, .int .i64 b, .int .i64 c, .int .i64 x, .int .i64 y, .int .i64 z, .int .i64 n] 104)).alloc (.cells #[.int .i64 p, .int .i64 q, .int .i64 r] 28)) X → X.heap[w.heap.size]? = some (.cells #[.string S, .int .i64 a, .int .i64 b, .int .i64 c, .int .i64 x, .int .i64 y, .int .i64 z, .int .i64 n] 104 (0, 0)) from fun X h => ((h.block _ (by simp; omega)).trans (Below.heap_alloc _ _ _ (by simp))).trans (heap_alloc_new w _))
  have hq : ∀ k : Nat, (w.heap.size : Nat) < w.heap.size + k + 1 := fun k => by omega
  rcases hE with ⟨rfl, rfl⟩ | ⟨rfl, rfl⟩
  · cases fb with
    | true =>
      go_enter Tryz.func121, Tryz.ntmps121
      go_wp2_with (first | (go_at_call 154; (with_reducible refine (HA.out _).mono ?_); rintro e w1 ⟨rfl, hb⟩; have hb2 := Lib.hid (HB.out.trans (hb.mono (by simp; omega))); obtain ⟨x0, x1, x2, x3, x4, x5, x6, x7, _⟩ := rowc8 (HX.out w1 hb); have hlt := (Array.getElem?_eq_some_iff.1 (HX.out w1 hb)).1; clear hb) | (go_at_call 119; (with_reducible refine (HF.out _).mono ?_); rintro e w2 ⟨rfl, hb⟩; have hb3 := Lib.hid ((hb2.out.alloc hb2.out.size _).trans (hb.mono (by have := hb2.out.size; simp; omega))); clear hb))
      go_ret
      exact ⟨rfl, hb3.out⟩
    | false =>
      go_enter Tryz.func121, Tryz.ntmps121
      go_wp2_with (first | (go_at_call 154; (with_reducible refine (HA.out _).mono ?_); rintro e w1 ⟨rfl, hb⟩; have hb2 := Lib.hid (HB.out.trans (hb.mono (by simp; omega))); obtain ⟨x0, x1, x2, x3, x4, x5, x6, x7, _⟩ := rowc8 (HX.out w1 hb); have hlt := (Array.getElem?_eq_some_iff.1 (HX.out w1 hb)).1; clear hb) | (go_at_call 119; (with_reducible refine (HF.out _).mono ?_); rintro e w2 ⟨rfl, hb⟩; have hb3 := Lib.hid ((hb2.out.alloc hb2.out.size _).trans (hb.mono (by have := hb2.out.size; simp; omega))); clear hb))
      go_ret
      exact ⟨rfl, hb3.out⟩
  · go_enter Tryz.func121, Tryz.ntmps121
    go_wp2_with (first | (go_at_call 154; (with_reducible refine (HA.out _).mono ?_); rintro e w1 ⟨rfl, hb⟩; have hb2 := Lib.hid (HB.out.trans (hb.mono (by simp; omega))); clear hb))
    go_ret
    exact ⟨rfl, hb2.out.alloc hb2.out.size _⟩
theorem refT_any (t : Ten) (p q r : Int) (w : World) (bx : I64 t.x) (by' : I64 t.y) (bz : I64 t.z) (bp : I64 p) (bq : I64 q) (br : I64 r) :
    Calls Tryz.prog 121 #[tenV t, .agg #[.int .i64 p, .int .i64 q, .int .i64 r]] w (RetBelow (.int .i64 (PS.refuseT t p q r)) w) := by
  by_cases h : in3 (t.x + p) (t.y + q) (t.z + r) = true
  · refine refT_core _ _ _ _ _ _ _ _ p q r (t.x + p) (t.y + q) (t.z + r) 0 _ (fitB (t.x + p) (t.y + q) (t.z + r) t.a t.b t.c) w (.inl ⟨rfl, by unfold PS.refuseT; rw [if_pos h]⟩) (Lib.hid fun W => ?_) (Lib.hid fun W => Vc.fits_any _ _ _ _ _ _ W)
    have := Vc.add_ret t.x t.y t.z p q r W bx by' bz bp bq br
    rw [outV_is, if_pos h] at this
    unfold o1 o2 o3 at this
    rwa [if_pos h, if_pos h, if_pos h] at this
  · refine refT_core _ _ _ _ _ _ _ _ p q r 0 0 0 6 _ (fitB 0 0 0 t.a t.b t.c) w (.inr ⟨rfl, by unfold PS.refuseT; rw [if_neg h]⟩) (Lib.hid fun W => ?_) (Lib.hid fun W => Vc.fits_any _ _ _ _ _ _ W)
    have := Vc.add_ret t.x t.y t.z p q r W bx by' bz bp bq br
    rw [outV_is, if_neg h] at this
    unfold o1 o2 o3 at this
    rwa [if_neg h, if_neg h, if_neg h] at this
end Go.Proofs.YtphclpjekpdifaaGreat
namespace Go.Proofs.YtphclpjekpdifaaGreat
set_option maxRecDepth 20000
open Go.RowKit
open PS (Tx putM dropM setM findM Nod Ten Jb kOf St)
open Go.Proofs.YtphclpjekpdifaaGreat.Nm (str)
open Go.Proofs.YtphclpjekpdifaaGreat.Vc (RetBelow fitB I64)
set_option linter.unusedVariables false
theorem setMost_row9 {w : World} {g : Nat} {a0 a1 a2 a3 a4 a5 a6 a7 a8 : Value} {t : TypeId} (p q r : Int) (h : w.heap[g]? = some (.cells #[a0, a1, a2, a3, a4, a5, a6, a7, a8] t (0, 0))) : (setMost w g p q r).heap[g]? = some (.cells #[a0, .int .i64 p, .int .i64 q, .int .i64 r, a4, a5, a6, a7, a8] t (0, 0)) := by
  have h0 := Wi.heap_set w g 1 (.int .i64 p) _ _ h
  have h1 := Wi.heap_set _ g 2 (.int .i64 q) _ _ h0
  have h2 := Wi.heap_set _ g 3 (.int .i64 r) _ _ h1
  unfold setMost
  simpa only [List.setIfInBounds_toArray, List.set_cons_zero, List.set_cons_succ] using h2
theorem setMost_below {w0 w : World} {B g : Nat} (p q r : Int) (h : Below B w0 w) (hg : B ≤ g) : Below B w0 (setMost w g p q r) := by
  have h0 := h.setCell (p := ⟨g, 1, none⟩) hg (.int .i64 p)
  have h1 := h0.setCell (p := ⟨g, 2, none⟩) hg (.int .i64 q)
  have h2 := h1.setCell (p := ⟨g, 3, none⟩) hg (.int .i64 r)
  exact h2
theorem setMost_row8 {w : World} {g : Nat} {a0 a1 a2 a3 a4 a5 a6 a7 : Value} {t : TypeId} (p q r : Int) (h : w.heap[g]? = some (.cells #[a0, a1, a2, a3, a4, a5, a6, a7] t (0, 0))) : (setMost w g p q r).heap[g]? = some (.cells #[a0, .int .i64 p, .int .i64 q, .int .i64 r, a4, a5, a6, a7] t (0, 0)) := by
  have h0 := Wi.heap_set w g 1 (.int .i64 p) _ _ h
  have h1 := Wi.heap_set _ g 2 (.int .i64 q) _ _ h0
  have h2 := Wi.heap_set _ g 3 (.int .i64 r) _ _ h1
  unfold setMost
  simpa only [List.setIfInBounds_toArray, List.set_cons_zero, List.set_cons_succ] using h2
end Go.Proofs.YtphclpjekpdifaaGreat
