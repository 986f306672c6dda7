import Derived.Test.YtcmjehjjlbhlmaaRf
import Derived.Deep.RegionHeld3
namespace Go.Proofs.Ytcmjehjjlbhlmaa
open Go.RowKit
set_option linter.unusedVariables false
theorem worth_not (bl : Bool) (D : List Nat) : worth (!bl) D = - worth bl D := by cases bl <;> simp [worth]
theorem sub_worth {x y : Int} {bl4 bl5 : Bool} {D4 D5 : List Nat} {bl7 : Bool} {D7 : List Nat} (h4 : x = if bl4 then -(Pd.val D4 : Int) else (Pd.val D4 : Int)) (h5 : y = if bl5 then -(Pd.val D5 : Int) else (Pd.val D5 : Int)) (h7 : worth bl4 D4 + worth (!bl5) D5 = if bl7 then -(Pd.val D7 : Int) else (Pd.val D7 : Int)) : worth bl7 D7 = x - y := by
  have e4 : x = worth bl4 D4 := h4
  have e5 : y = worth bl5 D5 := h5
  have e7 : worth bl4 D4 + worth (!bl5) D5 = worth bl7 D7 := h7
  rw [worth_not] at e7
  omega
set_option maxHeartbeats 4000000 in
theorem refSub_any (a b c x y z : Int) (w : World) (ba : I64 a) (bb : I64 b) (bc : I64 c) (bx : I64 x) (by' : I64 y) (bz : I64 z) :
    Calls Try.prog 14 #[.agg #[.int .i64 a, .int .i64 b, .int .i64 c], .agg #[.int .i64 x, .int .i64 y, .int .i64 z]] w (RetBelow (outV (a - x) (b - y) (c - z)) w) := by
  have hz := build23_0
  have K1 := (((BK.new w a b c).alloc (.cells #[.int .i64 x, .int .i64 y, .int .i64 z] 23)).alloc (.cells #[.int .i64 0, .int .i64 0, .int .i64 0] 23)).alloc (.cells #[.int .i64 0, .int .i64 0, .int .i64 0] 23)
  have L1 := ((BK.new (w.alloc (.cells #[.int .i64 a, .int .i64 b, .int .i64 c] 23)) x y z).alloc (.cells #[.int .i64 0, .int .i64 0, .int .i64 0] 23)).alloc (.cells #[.int .i64 0, .int .i64 0, .int .i64 0] 23)
  have R1 := (BK.new ((w.alloc (.cells #[.int .i64 a, .int .i64 b, .int .i64 c] 23)).alloc (.cells #[.int .i64 x, .int .i64 y, .int .i64 z] 23)) 0 0 0).alloc (.cells #[.int .i64 0, .int .i64 0, .int .i64 0] 23)
  have O1 := BK.new (((w.alloc (.cells #[.int .i64 a, .int .i64 b, .int .i64 c] 23)).alloc (.cells #[.int .i64 x, .int .i64 y, .int .i64 z] 23)).alloc (.cells #[.int .i64 0, .int .i64 0, .int .i64 0] 23)) 0 0 0
  have B1 : Below w.heap.size w ((((w.alloc (.cells #[.int .i64 a, .int .i64 b, .int .i64 c] 23)).alloc (.cells #[.int .i64 x, .int .i64 y, .int .i64 z] 23)).alloc (.cells #[.int .i64 0, .int .i64 0, .int .i64 0] 23)).alloc (.cells #[.int .i64 0, .int .i64 0, .int .i64 0] 23)) := below_box (below_box (below_box (below_box (Below.refl _ _) _) _) _) _
  simp only [World.size_alloc] at K1 L1 R1 O1
  go_enter Try.func14, Try.ntmps14
  go_wp2_with fail
  refine wp_loop_rounds 4 ?_
  refine rounds_forget (fun W => BK W w.heap.size a b c ∧ BK W (w.heap.size + 1) x y z ∧ BK W (w.heap.size + 1 + 1) 0 0 0 ∧ BK W (w.heap.size + 1 + 1 + 1) 0 0 0 ∧ Below w.heap.size w W) ⟨K1, L1, R1, O1, B1⟩ ?_
  clear K1 L1 R1 O1 B1
  rintro W ⟨K, L, R, O, B⟩
  have K := Lib.hid K
  have L := Lib.hid L
  have R := Lib.hid R
  have O := Lib.hid O
  have B := Lib.hid B
  rw [rounds_succ]
  have CX := Lib.hid fun W' : World => of_any a W' ba
  have CY := Lib.hid fun W' : World => of_any x W' bx
  have h20 : 20 ≤ 99999 := by omega
  by_cases hI : I64 (a - x)
  · have HV := Lib.hid (show numV (a - x) = .tuple #[.int .i64 (a - x), .bool true] from by unfold numV; rw [if_pos hI])
    have HI0 := Lib.hid hI
    clear hI
    have CN := Lib.hid fun (W' : World) (bl : Bool) (D : List Nat) (A : Option Addr) (n cap : Nat) (rr : Row W' A n cap D) (hh : worth bl D = a - x) => (show Calls Try.prog 26 #[.agg #[.bool bl, .slice A n cap]] W' fun e w' => e = .returned (.tuple #[.int .i64 (a - x), .bool true]) ∧ Below W'.heap.size W' w' from by
      have h9 := num_any bl D A n cap W' rr
      rw [hh, HV.out] at h9
      exact h9)
    go_wp2_with fail
    have c0 : W.drew.cell? ⟨w.heap.size, 0, none⟩ = some (.int .i64 a) := K.out.c3.1
    have d0 : W.drew.cell? ⟨w.heap.size + 1, 0, none⟩ = some (.int .i64 x) := L.out.c3.1
    have D0 : Hid (Below W.heap.size W W.drew) := Lib.hid (Below.refl _ W).drew
    go_region_held3 (fun W' => W'.cell? ⟨w.heap.size, 0, none⟩ = some (.int .i64 a) ∧ W'.cell? ⟨w.heap.size + 1, 0, none⟩ = some (.int .i64 x)) (first | exact ⟨c0, d0⟩ | exact ⟨ca4, da4⟩ | exact ⟨ca5, da5⟩ | exact ⟨ca6, da6⟩ | exact ⟨ca7, da7⟩ | exact ⟨ca8, da8⟩)
      (first
      | (go_at_call 28; (with_reducible refine (CX.out _).mono ?_); rintro e w4 ⟨bl4, A4, n4, c4, D4, rfl, row4, hx4, hn4, hb4⟩; have b4 : Hid (Below W.heap.size W w4) := Lib.hid (D0.out.trans hb4); have ca4 := (K.out.on b4.out K.out.lt).c3.1; have da4 := (L.out.on b4.out L.out.lt).c3.1; have R4 := Lib.hid row4; have X4 := Lib.hid hx4; clear hb4 row4 hx4)
      | (go_at_call 28; (with_reducible refine (CY.out _).mono ?_); rintro e w5 ⟨bl5, A5, n5, c5, D5, rfl, row5, hx5, hn5, hb5⟩; have b5 : Hid (Below W.heap.size W w5) := Lib.hid (b4.out.trans (hb5.mono b4.out.size)); have ca5 := (K.out.on b5.out K.out.lt).c3.1; have da5 := (L.out.on b5.out L.out.lt).c3.1; have R5 := Lib.hid row5; have Q5 := Lib.hid (R4.out.on hb5); have X5 := Lib.hid hx5; clear hb5 row5 hx5)
      | (go_at_call 29; (with_reducible refine (turned_any bl5 A5 n5 c5 _).mono ?_); rintro e w6 ⟨rfl, hb6⟩; have b6 : Hid (Below W.heap.size W w6) := Lib.hid (b5.out.trans (hb6.mono b5.out.size)); have ca6 := (K.out.on b6.out K.out.lt).c3.1; have da6 := (L.out.on b6.out L.out.lt).c3.1; have R6 := Lib.hid (R5.out.on hb6); have Q6 := Lib.hid (Q5.out.on hb6); clear hb6)
      | (go_at_call 27; (with_reducible refine (add_big bl4 (!bl5) D4 D5 A4 A5 n4 c4 n5 c5 20 _ Q6.out R6.out hn4 hn5 h20).mono ?_); rintro e w7 ⟨bl7, A7, n7, c7, D7, rfl, row7, hw7, hn7, hb7⟩; have b7 : Hid (Below W.heap.size W w7) := Lib.hid (b6.out.trans (hb7.mono b6.out.size)); have ca7 := (K.out.on b7.out K.out.lt).c3.1; have da7 := (L.out.on b7.out L.out.lt).c3.1; have R7 := Lib.hid row7; have X7 := Lib.hid (sub_worth X4.out X5.out hw7); clear hb7 row7 hw7)
      | (go_at_call 26; (with_reducible refine (CN.out _ bl7 D7 A7 n7 c7 R7.out X7.out).mono ?_); rintro e w8 ⟨rfl, hb8⟩; have b8 : Hid (Below W.heap.size W w8) := Lib.hid (b7.out.trans (hb8.mono b7.out.size)); have ca8 := (K.out.on b8.out K.out.lt).c3.1; have da8 := (L.out.on b8.out L.out.lt).c3.1; clear hb8))
    have K8 := Lib.hid (K.out.on b8.out K.out.lt)
    have L8 := Lib.hid (L.out.on b8.out L.out.lt)
    have R8 := Lib.hid (R.out.on b8.out R.out.lt)
    have O8 := Lib.hid (O.out.on b8.out O.out.lt)
    have B8 := Lib.hid (below_step B.out b8.out)
    obtain ⟨o0, o1, o2⟩ := O8.out.c3
    have of' := O8.out.f0 0
    go_wp2_with fail
    refine rounds_forget (fun W => BK W w.heap.size a b c ∧ BK W (w.heap.size + 1) x y z ∧ BK W (w.heap.size + 1 + 1) 0 0 0 ∧ BK W (w.heap.size + 1 + 1 + 1) (a - x) 0 0 ∧ Below w.heap.size w W) ⟨K8.out.other (by omega) _, L8.out.other (by omega) _, R8.out.other (by omega) _, O8.out.set0 _, B8.out.setCell (p := ⟨w.heap.size + 1 + 1 + 1, 0, none⟩) (by show w.heap.size ≤ w.heap.size + 1 + 1 + 1; omega) _⟩ ?_
    clear CN CX CY c0 d0 D0 ca4 da4 ca5 da5 ca6 da6 ca7 da7 ca8 da8 K8 L8 R8 O8 B8 o0 o1 o2 of' b4 b5 b6 b7 b8 K L R O B
    rintro W ⟨K, L, R, O, B⟩
    have K := Lib.hid K
    have L := Lib.hid L
    have R := Lib.hid R
    have O := Lib.hid O
    have B := Lib.hid B
    rw [rounds_succ]
    have CX := Lib.hid fun W' : World => of_any b W' bb
    have CY := Lib.hid fun W' : World => of_any y W' by'
    have h20 : 20 ≤ 99999 := by omega
    by_cases hI : I64 (b - y)
    · have HV := Lib.hid (show numV (b - y) = .tuple #[.int .i64 (b - y), .bool true] from by unfold numV; rw [if_pos hI])
      have HI1 := Lib.hid hI
      clear hI
      have CN := Lib.hid fun (W' : World) (bl : Bool) (D : List Nat) (A : Option Addr) (n cap : Nat) (rr : Row W' A n cap D) (hh : worth bl D = b - y) => (show Calls Try.prog 26 #[.agg #[.bool bl, .slice A n cap]] W' fun e w' => e = .returned (.tuple #[.int .i64 (b - y), .bool true]) ∧ Below W'.heap.size W' w' from by
        have h9 := num_any bl D A n cap W' rr
        rw [hh, HV.out] at h9
        exact h9)
      go_wp2_with fail
      have c0 : W.drew.cell? ⟨w.heap.size, 1, none⟩ = some (.int .i64 b) := K.out.c3.2.1
      have d0 : W.drew.cell? ⟨w.heap.size + 1, 1, none⟩ = some (.int .i64 y) := L.out.c3.2.1
      have D0 : Hid (Below W.heap.size W W.drew) := Lib.hid (Below.refl _ W).drew
      go_region_held3 (fun W' => W'.cell? ⟨w.heap.size, 1, none⟩ = some (.int .i64 b) ∧ W'.cell? ⟨w.heap.size + 1, 1, none⟩ = some (.int .i64 y)) (first | exact ⟨c0, d0⟩ | exact ⟨ca4, da4⟩ | exact ⟨ca5, da5⟩ | exact ⟨ca6, da6⟩ | exact ⟨ca7, da7⟩ | exact ⟨ca8, da8⟩)
        (first
        | (go_at_call 28; (with_reducible refine (CX.out _).mono ?_); rintro e w4 ⟨bl4, A4, n4, c4, D4, rfl, row4, hx4, hn4, hb4⟩; have b4 : Hid (Below W.heap.size W w4) := Lib.hid (D0.out.trans hb4); have ca4 := (K.out.on b4.out K.out.lt).c3.2.1; have da4 := (L.out.on b4.out L.out.lt).c3.2.1; have R4 := Lib.hid row4; have X4 := Lib.hid hx4; clear hb4 row4 hx4)
        | (go_at_call 28; (with_reducible refine (CY.out _).mono ?_); rintro e w5 ⟨bl5, A5, n5, c5, D5, rfl, row5, hx5, hn5, hb5⟩; have b5 : Hid (Below W.heap.size W w5) := Lib.hid (b4.out.trans (hb5.mono b4.out.size)); have ca5 := (K.out.on b5.out K.out.lt).c3.2.1; have da5 := (L.out.on b5.out L.out.lt).c3.2.1; have R5 := Lib.hid row5; have Q5 := Lib.hid (R4.out.on hb5); have X5 := Lib.hid hx5; clear hb5 row5 hx5)
        | (go_at_call 29; (with_reducible refine (turned_any bl5 A5 n5 c5 _).mono ?_); rintro e w6 ⟨rfl, hb6⟩; have b6 : Hid (Below W.heap.size W w6) := Lib.hid (b5.out.trans (hb6.mono b5.out.size)); have ca6 := (K.out.on b6.out K.out.lt).c3.2.1; have da6 := (L.out.on b6.out L.out.lt).c3.2.1; have R6 := Lib.hid (R5.out.on hb6); have Q6 := Lib.hid (Q5.out.on hb6); clear hb6)
        | (go_at_call 27; (with_reducible refine (add_big bl4 (!bl5) D4 D5 A4 A5 n4 c4 n5 c5 20 _ Q6.out R6.out hn4 hn5 h20).mono ?_); rintro e w7 ⟨bl7, A7, n7, c7, D7, rfl, row7, hw7, hn7, hb7⟩; have b7 : Hid (Below W.heap.size W w7) := Lib.hid (b6.out.trans (hb7.mono b6.out.size)); have ca7 := (K.out.on b7.out K.out.lt).c3.2.1; have da7 := (L.out.on b7.out L.out.lt).c3.2.1; have R7 := Lib.hid row7; have X7 := Lib.hid (sub_worth X4.out X5.out hw7); clear hb7 row7 hw7)
        | (go_at_call 26; (with_reducible refine (CN.out _ bl7 D7 A7 n7 c7 R7.out X7.out).mono ?_); rintro e w8 ⟨rfl, hb8⟩; have b8 : Hid (Below W.heap.size W w8) := Lib.hid (b7.out.trans (hb8.mono b7.out.size)); have ca8 := (K.out.on b8.out K.out.lt).c3.2.1; have da8 := (L.out.on b8.out L.out.lt).c3.2.1; clear hb8))
      have K8 := Lib.hid (K.out.on b8.out K.out.lt)
      have L8 := Lib.hid (L.out.on b8.out L.out.lt)
      have R8 := Lib.hid (R.out.on b8.out R.out.lt)
      have O8 := Lib.hid (O.out.on b8.out O.out.lt)
      have B8 := Lib.hid (below_step B.out b8.out)
      obtain ⟨o0, o1, o2⟩ := O8.out.c3
      have of' := O8.out.f0 1
      go_wp2_with fail
      refine rounds_forget (fun W => BK W w.heap.size a b c ∧ BK W (w.heap.size + 1) x y z ∧ BK W (w.heap.size + 1 + 1) 0 0 0 ∧ BK W (w.heap.size + 1 + 1 + 1) (a - x) (b - y) 0 ∧ Below w.heap.size w W) ⟨K8.out.other (by omega) _, L8.out.other (by omega) _, R8.out.other (by omega) _, O8.out.set1 _, B8.out.setCell (p := ⟨w.heap.size + 1 + 1 + 1, 1, none⟩) (by show w.heap.size ≤ w.heap.size + 1 + 1 + 1; omega) _⟩ ?_
      clear CN CX CY c0 d0 D0 ca4 da4 ca5 da5 ca6 da6 ca7 da7 ca8 da8 K8 L8 R8 O8 B8 o0 o1 o2 of' b4 b5 b6 b7 b8 K L R O B
      rintro W ⟨K, L, R, O, B⟩
      have K := Lib.hid K
      have L := Lib.hid L
      have R := Lib.hid R
      have O := Lib.hid O
      have B := Lib.hid B
      rw [rounds_succ]
      have CX := Lib.hid fun W' : World => of_any c W' bc
      have CY := Lib.hid fun W' : World => of_any z W' bz
      have h20 : 20 ≤ 99999 := by omega
      by_cases hI : I64 (c - z)
      · have HV := Lib.hid (show numV (c - z) = .tuple #[.int .i64 (c - z), .bool true] from by unfold numV; rw [if_pos hI])
        have HI2 := Lib.hid hI
        clear hI
        have CN := Lib.hid fun (W' : World) (bl : Bool) (D : List Nat) (A : Option Addr) (n cap : Nat) (rr : Row W' A n cap D) (hh : worth bl D = c - z) => (show Calls Try.prog 26 #[.agg #[.bool bl, .slice A n cap]] W' fun e w' => e = .returned (.tuple #[.int .i64 (c - z), .bool true]) ∧ Below W'.heap.size W' w' from by
          have h9 := num_any bl D A n cap W' rr
          rw [hh, HV.out] at h9
          exact h9)
        go_wp2_with fail
        have c0 : W.drew.cell? ⟨w.heap.size, 2, none⟩ = some (.int .i64 c) := K.out.c3.2.2
        have d0 : W.drew.cell? ⟨w.heap.size + 1, 2, none⟩ = some (.int .i64 z) := L.out.c3.2.2
        have D0 : Hid (Below W.heap.size W W.drew) := Lib.hid (Below.refl _ W).drew
        go_region_held3 (fun W' => W'.cell? ⟨w.heap.size, 2, none⟩ = some (.int .i64 c) ∧ W'.cell? ⟨w.heap.size + 1, 2, none⟩ = some (.int .i64 z)) (first | exact ⟨c0, d0⟩ | exact ⟨ca4, da4⟩ | exact ⟨ca5, da5⟩ | exact ⟨ca6, da6⟩ | exact ⟨ca7, da7⟩ | exact ⟨ca8, da8⟩)
          (first
          | (go_at_call 28; (with_reducible refine (CX.out _).mono ?_); rintro e w4 ⟨bl4, A4, n4, c4, D4, rfl, row4, hx4, hn4, hb4⟩; have b4 : Hid (Below W.heap.size W w4) := Lib.hid (D0.out.trans hb4); have ca4 := (K.out.on b4.out K.out.lt).c3.2.2; have da4 := (L.out.on b4.out L.out.lt).c3.2.2; have R4 := Lib.hid row4; have X4 := Lib.hid hx4; clear hb4 row4 hx4)
          | (go_at_call 28; (with_reducible refine (CY.out _).mono ?_); rintro e w5 ⟨bl5, A5, n5, c5, D5, rfl, row5, hx5, hn5, hb5⟩; have b5 : Hid (Below W.heap.size W w5) := Lib.hid (b4.out.trans (hb5.mono b4.out.size)); have ca5 := (K.out.on b5.out K.out.lt).c3.2.2; have da5 := (L.out.on b5.out L.out.lt).c3.2.2; have R5 := Lib.hid row5; have Q5 := Lib.hid (R4.out.on hb5); have X5 := Lib.hid hx5; clear hb5 row5 hx5)
          | (go_at_call 29; (with_reducible refine (turned_any bl5 A5 n5 c5 _).mono ?_); rintro e w6 ⟨rfl, hb6⟩; have b6 : Hid (Below W.heap.size W w6) := Lib.hid (b5.out.trans (hb6.mono b5.out.size)); have ca6 := (K.out.on b6.out K.out.lt).c3.2.2; have da6 := (L.out.on b6.out L.out.lt).c3.2.2; have R6 := Lib.hid (R5.out.on hb6); have Q6 := Lib.hid (Q5.out.on hb6); clear hb6)
          | (go_at_call 27; (with_reducible refine (add_big bl4 (!bl5) D4 D5 A4 A5 n4 c4 n5 c5 20 _ Q6.out R6.out hn4 hn5 h20).mono ?_); rintro e w7 ⟨bl7, A7, n7, c7, D7, rfl, row7, hw7, hn7, hb7⟩; have b7 : Hid (Below W.heap.size W w7) := Lib.hid (b6.out.trans (hb7.mono b6.out.size)); have ca7 := (K.out.on b7.out K.out.lt).c3.2.2; have da7 := (L.out.on b7.out L.out.lt).c3.2.2; have R7 := Lib.hid row7; have X7 := Lib.hid (sub_worth X4.out X5.out hw7); clear hb7 row7 hw7)
          | (go_at_call 26; (with_reducible refine (CN.out _ bl7 D7 A7 n7 c7 R7.out X7.out).mono ?_); rintro e w8 ⟨rfl, hb8⟩; have b8 : Hid (Below W.heap.size W w8) := Lib.hid (b7.out.trans (hb8.mono b7.out.size)); have ca8 := (K.out.on b8.out K.out.lt).c3.2.2; have da8 := (L.out.on b8.out L.out.lt).c3.2.2; clear hb8))
        have K8 := Lib.hid (K.out.on b8.out K.out.lt)
        have L8 := Lib.hid (L.out.on b8.out L.out.lt)
        have R8 := Lib.hid (R.out.on b8.out R.out.lt)
        have O8 := Lib.hid (O.out.on b8.out O.out.lt)
        have B8 := Lib.hid (below_step B.out b8.out)
        obtain ⟨o0, o1, o2⟩ := O8.out.c3
        have of' := O8.out.f0 2
        go_wp2_with fail
        refine rounds_forget (fun W => BK W w.heap.size a b c ∧ BK W (w.heap.size + 1) x y z ∧ BK W (w.heap.size + 1 + 1) 0 0 0 ∧ BK W (w.heap.size + 1 + 1 + 1) (a - x) (b - y) (c - z) ∧ Below w.heap.size w W) ⟨K8.out.other (by omega) _, L8.out.other (by omega) _, R8.out.other (by omega) _, O8.out.set2 _, B8.out.setCell (p := ⟨w.heap.size + 1 + 1 + 1, 2, none⟩) (by show w.heap.size ≤ w.heap.size + 1 + 1 + 1; omega) _⟩ ?_
        clear CN CX CY c0 d0 D0 ca4 da4 ca5 da5 ca6 da6 ca7 da7 ca8 da8 K8 L8 R8 O8 B8 o0 o1 o2 of' b4 b5 b6 b7 b8 K L R O B
        rintro W ⟨K, L, R, O, B⟩
        have K := Lib.hid K
        have L := Lib.hid L
        have R := Lib.hid R
        have O := Lib.hid O
        have B := Lib.hid B
        rw [rounds_succ]
        have OK := Lib.hid (outV_ok ⟨HI0.out, HI1.out, HI2.out⟩)
        obtain ⟨u0, u1, u2⟩ := O.out.c3
        obtain ⟨r0, r1, r2⟩ := R.out.c3
        have uf0 := R.out.f0 0
        have uf1 := R.out.f0 1
        have uf2 := R.out.f0 2
        go_wp2_with fail
        exact bodyPost_ret (v := .tuple #[.agg #[.int .i64 (a - x), .int .i64 (b - y), .int .i64 (c - z)], .int .i64 0]) (by simp [results, Try.results14, go_sem, r0, r1, r2]) rfl
          ⟨by rw [OK.out], ((B.out.setCell (p := ⟨w.heap.size + 1 + 1, 0, none⟩) (by show w.heap.size ≤ w.heap.size + 1 + 1; omega) _).setCell (p := ⟨w.heap.size + 1 + 1, 1, none⟩) (by show w.heap.size ≤ w.heap.size + 1 + 1; omega) _).setCell (p := ⟨w.heap.size + 1 + 1, 2, none⟩) (by show w.heap.size ≤ w.heap.size + 1 + 1; omega) _⟩
      · have HV := Lib.hid (show numV (c - z) = .tuple #[.int .i64 0, .bool false] from by unfold numV; rw [if_neg hI])
        have ON := Lib.hid (outV_no (X := a - x) (Y := b - y) (Z := c - z) (fun h => hI h.2.2))
        clear hI
        have CN := Lib.hid fun (W' : World) (bl : Bool) (D : List Nat) (A : Option Addr) (n cap : Nat) (rr : Row W' A n cap D) (hh : worth bl D = c - z) => (show Calls Try.prog 26 #[.agg #[.bool bl, .slice A n cap]] W' fun e w' => e = .returned (.tuple #[.int .i64 0, .bool false]) ∧ Below W'.heap.size W' w' from by
          have h9 := num_any bl D A n cap W' rr
          rw [hh, HV.out] at h9
          exact h9)
        go_wp2_with fail
        have c0 : W.drew.cell? ⟨w.heap.size, 2, none⟩ = some (.int .i64 c) := K.out.c3.2.2
        have d0 : W.drew.cell? ⟨w.heap.size + 1, 2, none⟩ = some (.int .i64 z) := L.out.c3.2.2
        have D0 : Hid (Below W.heap.size W W.drew) := Lib.hid (Below.refl _ W).drew
        go_region_held3 (fun W' => W'.cell? ⟨w.heap.size, 2, none⟩ = some (.int .i64 c) ∧ W'.cell? ⟨w.heap.size + 1, 2, none⟩ = some (.int .i64 z)) (first | exact ⟨c0, d0⟩ | exact ⟨ca4, da4⟩ | exact ⟨ca5, da5⟩ | exact ⟨ca6, da6⟩ | exact ⟨ca7, da7⟩ | exact ⟨ca8, da8⟩)
          (first
          | (go_at_call 28; (with_reducible refine (CX.out _).mono ?_); rintro e w4 ⟨bl4, A4, n4, c4, D4, rfl, row4, hx4, hn4, hb4⟩; have b4 : Hid (Below W.heap.size W w4) := Lib.hid (D0.out.trans hb4); have ca4 := (K.out.on b4.out K.out.lt).c3.2.2; have da4 := (L.out.on b4.out L.out.lt).c3.2.2; have R4 := Lib.hid row4; have X4 := Lib.hid hx4; clear hb4 row4 hx4)
          | (go_at_call 28; (with_reducible refine (CY.out _).mono ?_); rintro e w5 ⟨bl5, A5, n5, c5, D5, rfl, row5, hx5, hn5, hb5⟩; have b5 : Hid (Below W.heap.size W w5) := Lib.hid (b4.out.trans (hb5.mono b4.out.size)); have ca5 := (K.out.on b5.out K.out.lt).c3.2.2; have da5 := (L.out.on b5.out L.out.lt).c3.2.2; have R5 := Lib.hid row5; have Q5 := Lib.hid (R4.out.on hb5); have X5 := Lib.hid hx5; clear hb5 row5 hx5)
          | (go_at_call 29; (with_reducible refine (turned_any bl5 A5 n5 c5 _).mono ?_); rintro e w6 ⟨rfl, hb6⟩; have b6 : Hid (Below W.heap.size W w6) := Lib.hid (b5.out.trans (hb6.mono b5.out.size)); have ca6 := (K.out.on b6.out K.out.lt).c3.2.2; have da6 := (L.out.on b6.out L.out.lt).c3.2.2; have R6 := Lib.hid (R5.out.on hb6); have Q6 := Lib.hid (Q5.out.on hb6); clear hb6)
          | (go_at_call 27; (with_reducible refine (add_big bl4 (!bl5) D4 D5 A4 A5 n4 c4 n5 c5 20 _ Q6.out R6.out hn4 hn5 h20).mono ?_); rintro e w7 ⟨bl7, A7, n7, c7, D7, rfl, row7, hw7, hn7, hb7⟩; have b7 : Hid (Below W.heap.size W w7) := Lib.hid (b6.out.trans (hb7.mono b6.out.size)); have ca7 := (K.out.on b7.out K.out.lt).c3.2.2; have da7 := (L.out.on b7.out L.out.lt).c3.2.2; have R7 := Lib.hid row7; have X7 := Lib.hid (sub_worth X4.out X5.out hw7); clear hb7 row7 hw7)
          | (go_at_call 26; (with_reducible refine (CN.out _ bl7 D7 A7 n7 c7 R7.out X7.out).mono ?_); rintro e w8 ⟨rfl, hb8⟩; have b8 : Hid (Below W.heap.size W w8) := Lib.hid (b7.out.trans (hb8.mono b7.out.size)); have ca8 := (K.out.on b8.out K.out.lt).c3.2.2; have da8 := (L.out.on b8.out L.out.lt).c3.2.2; clear hb8))
        have R8 := Lib.hid (R.out.on b8.out R.out.lt)
        have B8 := Lib.hid (below_step B.out b8.out)
        obtain ⟨o0, o1, o2⟩ := R8.out.c3
        have uf0 := R8.out.f0 0
        have uf1 := R8.out.f0 1
        have uf2 := R8.out.f0 2
        go_wp2_with fail
        exact bodyPost_ret (v := .tuple #[.agg #[.int .i64 0, .int .i64 0, .int .i64 0], .int .i64 6]) (by simp [results, Try.results14, go_sem, o0, o1, o2]) rfl
          ⟨by rw [ON.out], ((B8.out.setCell (p := ⟨w.heap.size + 1 + 1, 0, none⟩) (by show w.heap.size ≤ w.heap.size + 1 + 1; omega) _).setCell (p := ⟨w.heap.size + 1 + 1, 1, none⟩) (by show w.heap.size ≤ w.heap.size + 1 + 1; omega) _).setCell (p := ⟨w.heap.size + 1 + 1, 2, none⟩) (by show w.heap.size ≤ w.heap.size + 1 + 1; omega) _⟩
    · have HV := Lib.hid (show numV (b - y) = .tuple #[.int .i64 0, .bool false] from by unfold numV; rw [if_neg hI])
      have ON := Lib.hid (outV_no (X := a - x) (Y := b - y) (Z := c - z) (fun h => hI h.2.1))
      clear hI
      have CN := Lib.hid fun (W' : World) (bl : Bool) (D : List Nat) (A : Option Addr) (n cap : Nat) (rr : Row W' A n cap D) (hh : worth bl D = b - y) => (show Calls Try.prog 26 #[.agg #[.bool bl, .slice A n cap]] W' fun e w' => e = .returned (.tuple #[.int .i64 0, .bool false]) ∧ Below W'.heap.size W' w' from by
        have h9 := num_any bl D A n cap W' rr
        rw [hh, HV.out] at h9
        exact h9)
      go_wp2_with fail
      have c0 : W.drew.cell? ⟨w.heap.size, 1, none⟩ = some (.int .i64 b) := K.out.c3.2.1
      have d0 : W.drew.cell? ⟨w.heap.size + 1, 1, none⟩ = some (.int .i64 y) := L.out.c3.2.1
      have D0 : Hid (Below W.heap.size W W.drew) := Lib.hid (Below.refl _ W).drew
      go_region_held3 (fun W' => W'.cell? ⟨w.heap.size, 1, none⟩ = some (.int .i64 b) ∧ W'.cell? ⟨w.heap.size + 1, 1, none⟩ = some (.int .i64 y)) (first | exact ⟨c0, d0⟩ | exact ⟨ca4, da4⟩ | exact ⟨ca5, da5⟩ | exact ⟨ca6, da6⟩ | exact ⟨ca7, da7⟩ | exact ⟨ca8, da8⟩)
        (first
        | (go_at_call 28; (with_reducible refine (CX.out _).mono ?_); rintro e w4 ⟨bl4, A4, n4, c4, D4, rfl, row4, hx4, hn4, hb4⟩; have b4 : Hid (Below W.heap.size W w4) := Lib.hid (D0.out.trans hb4); have ca4 := (K.out.on b4.out K.out.lt).c3.2.1; have da4 := (L.out.on b4.out L.out.lt).c3.2.1; have R4 := Lib.hid row4; have X4 := Lib.hid hx4; clear hb4 row4 hx4)
        | (go_at_call 28; (with_reducible refine (CY.out _).mono ?_); rintro e w5 ⟨bl5, A5, n5, c5, D5, rfl, row5, hx5, hn5, hb5⟩; have b5 : Hid (Below W.heap.size W w5) := Lib.hid (b4.out.trans (hb5.mono b4.out.size)); have ca5 := (K.out.on b5.out K.out.lt).c3.2.1; have da5 := (L.out.on b5.out L.out.lt).c3.2.1; have R5 := Lib.hid row5; have Q5 := Lib.hid (R4.out.on hb5); have X5 := Lib.hid hx5; clear hb5 row5 hx5)
        | (go_at_call 29; (with_reducible refine (turned_any bl5 A5 n5 c5 _).mono ?_); rintro e w6 ⟨rfl, hb6⟩; have b6 : Hid (Below W.heap.size W w6) := Lib.hid (b5.out.trans (hb6.mono b5.out.size)); have ca6 := (K.out.on b6.out K.out.lt).c3.2.1; have da6 := (L.out.on b6.out L.out.lt).c3.2.1; have R6 := Lib.hid (R5.out.on hb6); have Q6 := Lib.hid (Q5.out.on hb6); clear hb6)
        | (go_at_call 27; (with_reducible refine (add_big bl4 (!bl5) D4 D5 A4 A5 n4 c4 n5 c5 20 _ Q6.out R6.out hn4 hn5 h20).mono ?_); rintro e w7 ⟨bl7, A7, n7, c7, D7, rfl, row7, hw7, hn7, hb7⟩; have b7 : Hid (Below W.heap.size W w7) := Lib.hid (b6.out.trans (hb7.mono b6.out.size)); have ca7 := (K.out.on b7.out K.out.lt).c3.2.1; have da7 := (L.out.on b7.out L.out.lt).c3.2.1; have R7 := Lib.hid row7; have X7 := Lib.hid (sub_worth X4.out X5.out hw7); clear hb7 row7 hw7)
        | (go_at_call 26; (with_reducible refine (CN.out _ bl7 D7 A7 n7 c7 R7.out X7.out).mono ?_); rintro e w8 ⟨rfl, hb8⟩; have b8 : Hid (Below W.heap.size W w8) := Lib.hid (b7.out.trans (hb8.mono b7.out.size)); have ca8 := (K.out.on b8.out K.out.lt).c3.2.1; have da8 := (L.out.on b8.out L.out.lt).c3.2.1; clear hb8))
      have R8 := Lib.hid (R.out.on b8.out R.out.lt)
      have B8 := Lib.hid (below_step B.out b8.out)
      obtain ⟨o0, o1, o2⟩ := R8.out.c3
      have uf0 := R8.out.f0 0
      have uf1 := R8.out.f0 1
      have uf2 := R8.out.f0 2
      go_wp2_with fail
      exact bodyPost_ret (v := .tuple #[.agg #[.int .i64 0, .int .i64 0, .int .i64 0], .int .i64 6]) (by simp [results, Try.results14, go_sem, o0, o1, o2]) rfl
        ⟨by rw [ON.out], ((B8.out.setCell (p := ⟨w.heap.size + 1 + 1, 0, none⟩) (by show w.heap.size ≤ w.heap.size + 1 + 1; omega) _).setCell (p := ⟨w.heap.size + 1 + 1, 1, none⟩) (by show w.heap.size ≤ w.heap.size + 1 + 1; omega) _).setCell (p := ⟨w.heap.size + 1 + 1, 2, none⟩) (by show w.heap.size ≤ w.heap.size + 1 + 1; omega) _⟩
  · have HV := Lib.hid (show numV (a - x) = .tuple #[.int .i64 0, .bool false] from by unfold numV; rw [if_neg hI])
    have ON := Lib.hid (outV_no (X := a - x) (Y := b - y) (Z := c - z) (fun h => hI h.1))
    clear hI
    have CN := Lib.hid fun (W' : World) (bl : Bool) (D : List Nat) (A : Option Addr) (n cap : Nat) (rr : Row W' A n cap D) (hh : worth bl D = a - x) => (show Calls Try.prog 26 #[.agg #[.bool bl, .slice A n cap]] W' fun e w' => e = .returned (.tuple #[.int .i64 0, .bool false]) ∧ Below W'.heap.size W' w' from by
      have h9 := num_any bl D A n cap W' rr
      rw [hh, HV.out] at h9
      exact h9)
    go_wp2_with fail
    have c0 : W.drew.cell? ⟨w.heap.size, 0, none⟩ = some (.int .i64 a) := K.out.c3.1
    have d0 : W.drew.cell? ⟨w.heap.size + 1, 0, none⟩ = some (.int .i64 x) := L.out.c3.1
    have D0 : Hid (Below W.heap.size W W.drew) := Lib.hid (Below.refl _ W).drew
    go_region_held3 (fun W' => W'.cell? ⟨w.heap.size, 0, none⟩ = some (.int .i64 a) ∧ W'.cell? ⟨w.heap.size + 1, 0, none⟩ = some (.int .i64 x)) (first | exact ⟨c0, d0⟩ | exact ⟨ca4, da4⟩ | exact ⟨ca5, da5⟩ | exact ⟨ca6, da6⟩ | exact ⟨ca7, da7⟩ | exact ⟨ca8, da8⟩)
      (first
      | (go_at_call 28; (with_reducible refine (CX.out _).mono ?_); rintro e w4 ⟨bl4, A4, n4, c4, D4, rfl, row4, hx4, hn4, hb4⟩; have b4 : Hid (Below W.heap.size W w4) := Lib.hid (D0.out.trans hb4); have ca4 := (K.out.on b4.out K.out.lt).c3.1; have da4 := (L.out.on b4.out L.out.lt).c3.1; have R4 := Lib.hid row4; have X4 := Lib.hid hx4; clear hb4 row4 hx4)
      | (go_at_call 28; (with_reducible refine (CY.out _).mono ?_); rintro e w5 ⟨bl5, A5, n5, c5, D5, rfl, row5, hx5, hn5, hb5⟩; have b5 : Hid (Below W.heap.size W w5) := Lib.hid (b4.out.trans (hb5.mono b4.out.size)); have ca5 := (K.out.on b5.out K.out.lt).c3.1; have da5 := (L.out.on b5.out L.out.lt).c3.1; have R5 := Lib.hid row5; have Q5 := Lib.hid (R4.out.on hb5); have X5 := Lib.hid hx5; clear hb5 row5 hx5)
      | (go_at_call 29; (with_reducible refine (turned_any bl5 A5 n5 c5 _).mono ?_); rintro e w6 ⟨rfl, hb6⟩; have b6 : Hid (Below W.heap.size W w6) := Lib.hid (b5.out.trans (hb6.mono b5.out.size)); have ca6 := (K.out.on b6.out K.out.lt).c3.1; have da6 := (L.out.on b6.out L.out.lt).c3.1; have R6 := Lib.hid (R5.out.on hb6); have Q6 := Lib.hid (Q5.out.on hb6); clear hb6)
      | (go_at_call 27; (with_reducible refine (add_big bl4 (!bl5) D4 D5 A4 A5 n4 c4 n5 c5 20 _ Q6.out R6.out hn4 hn5 h20).mono ?_); rintro e w7 ⟨bl7, A7, n7, c7, D7, rfl, row7, hw7, hn7, hb7⟩; have b7 : Hid (Below W.heap.size W w7) := Lib.hid (b6.out.trans (hb7.mono b6.out.size)); have ca7 := (K.out.on b7.out K.out.lt).c3.1; have da7 := (L.out.on b7.out L.out.lt).c3.1; have R7 := Lib.hid row7; have X7 := Lib.hid (sub_worth X4.out X5.out hw7); clear hb7 row7 hw7)
      | (go_at_call 26; (with_reducible refine (CN.out _ bl7 D7 A7 n7 c7 R7.out X7.out).mono ?_); rintro e w8 ⟨rfl, hb8⟩; have b8 : Hid (Below W.heap.size W w8) := Lib.hid (b7.out.trans (hb8.mono b7.out.size)); have ca8 := (K.out.on b8.out K.out.lt).c3.1; have da8 := (L.out.on b8.out L.out.lt).c3.1; clear hb8))
    have R8 := Lib.hid (R.out.on b8.out R.out.lt)
    have B8 := Lib.hid (below_step B.out b8.out)
    obtain ⟨o0, o1, o2⟩ := R8.out.c3
    have uf0 := R8.out.f0 0
    have uf1 := R8.out.f0 1
    have uf2 := R8.out.f0 2
    go_wp2_with fail
    exact bodyPost_ret (v := .tuple #[.agg #[.int .i64 0, .int .i64 0, .int .i64 0], .int .i64 6]) (by simp [results, Try.results14, go_sem, o0, o1, o2]) rfl
      ⟨by rw [ON.out], ((B8.out.setCell (p := ⟨w.heap.size + 1 + 1, 0, none⟩) (by show w.heap.size ≤ w.heap.size + 1 + 1; omega) _).setCell (p := ⟨w.heap.size + 1 + 1, 1, none⟩) (by show w.heap.size ≤ w.heap.size + 1 + 1; omega) _).setCell (p := ⟨w.heap.size + 1 + 1, 2, none⟩) (by show w.heap.size ≤ w.heap.size + 1 + 1; omega) _⟩
end Go.Proofs.Ytcmjehjjlbhlmaa
