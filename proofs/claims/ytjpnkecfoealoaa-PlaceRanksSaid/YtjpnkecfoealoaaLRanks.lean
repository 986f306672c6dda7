import Derived.Test.YtjpnkecfoealoaaMo
import Derived.Test.YtjpnkecfoealoaaRe
import Derived.Test.YtjpnkecfoealoaaQi
import Derived.Test.YtjpnkecfoealoaaQj
import Derived.Test.YtjpnkecfoealoaaLFits
namespace Go.Proofs.Ytjpnkecfoealoaa
set_option maxRecDepth 20000
open Go.RowKit
open Go.Proofs.Ytjpnkecfoealoaa.Vc (I64 fitB RetBelow DigsAt)
set_option linter.unusedVariables false
attribute [local irreducible] wpQuiet
theorem len15 {x : List Value} (h : x.length = 15) : ∃ z0 z1 z2 z3 z4 z5 z6 z7 z8 z9 z10 z11 z12 z13 z14, x = [z0, z1, z2, z3, z4, z5, z6, z7, z8, z9, z10, z11, z12, z13, z14] := by
  obtain ⟨z0, x0, e0, h0⟩ := cons_of h
  obtain ⟨z1, x1, e1, h1⟩ := cons_of h0
  obtain ⟨z2, x2, e2, h2⟩ := cons_of h1
  obtain ⟨z3, x3, e3, h3⟩ := cons_of h2
  obtain ⟨z4, x4, e4, h4⟩ := cons_of h3
  obtain ⟨z5, x5, e5, h5⟩ := cons_of h4
  obtain ⟨z6, x6, e6, h6⟩ := cons_of h5
  obtain ⟨z7, x7, e7, h7⟩ := cons_of h6
  obtain ⟨z8, x8, e8, h8⟩ := cons_of h7
  obtain ⟨z9, x9, e9, h9⟩ := cons_of h8
  obtain ⟨z10, x10, e10, h10⟩ := cons_of h9
  obtain ⟨z11, x11, e11, h11⟩ := cons_of h10
  obtain ⟨z12, x12, e12, h12⟩ := cons_of h11
  obtain ⟨z13, x13, e13, h13⟩ := cons_of h12
  obtain ⟨z14, x14, e14, h14⟩ := cons_of h13
  exact ⟨z0, z1, z2, z3, z4, z5, z6, z7, z8, z9, z10, z11, z12, z13, z14, by rw [e0, e1, e2, e3, e4, e5, e6, e7, e8, e9, e10, e11, e12, e13, e14, nil_of h14]⟩
theorem len50 {x : List Value} (h : x.length = 50) : ∃ z0 z1 z2 z3 z4 z5 z6 z7 z8 z9 z10 z11 z12 z13 z14 z15 z16 z17 z18 z19 z20 z21 z22 z23 z24 z25 z26 z27 z28 z29 z30 z31 z32 z33 z34 z35 z36 z37 z38 z39 z40 z41 z42 z43 z44 z45 z46 z47 z48 z49, x = [z0, z1, z2, z3, z4, z5, z6, z7, z8, z9, z10, z11, z12, z13, z14, z15, z16, z17, z18, z19, z20, z21, z22, z23, z24, z25, z26, z27, z28, z29, z30, z31, z32, z33, z34, z35, z36, z37, z38, z39, z40, z41, z42, z43, z44, z45, z46, z47, z48, z49] := by
  obtain ⟨z0, x0, e0, h0⟩ := cons_of h
  obtain ⟨z1, x1, e1, h1⟩ := cons_of h0
  obtain ⟨z2, x2, e2, h2⟩ := cons_of h1
  obtain ⟨z3, x3, e3, h3⟩ := cons_of h2
  obtain ⟨z4, x4, e4, h4⟩ := cons_of h3
  obtain ⟨z5, x5, e5, h5⟩ := cons_of h4
  obtain ⟨z6, x6, e6, h6⟩ := cons_of h5
  obtain ⟨z7, x7, e7, h7⟩ := cons_of h6
  obtain ⟨z8, x8, e8, h8⟩ := cons_of h7
  obtain ⟨z9, x9, e9, h9⟩ := cons_of h8
  obtain ⟨z10, x10, e10, h10⟩ := cons_of h9
  obtain ⟨z11, x11, e11, h11⟩ := cons_of h10
  obtain ⟨z12, x12, e12, h12⟩ := cons_of h11
  obtain ⟨z13, x13, e13, h13⟩ := cons_of h12
  obtain ⟨z14, x14, e14, h14⟩ := cons_of h13
  obtain ⟨z15, x15, e15, h15⟩ := cons_of h14
  obtain ⟨z16, x16, e16, h16⟩ := cons_of h15
  obtain ⟨z17, x17, e17, h17⟩ := cons_of h16
  obtain ⟨z18, x18, e18, h18⟩ := cons_of h17
  obtain ⟨z19, x19, e19, h19⟩ := cons_of h18
  obtain ⟨z20, x20, e20, h20⟩ := cons_of h19
  obtain ⟨z21, x21, e21, h21⟩ := cons_of h20
  obtain ⟨z22, x22, e22, h22⟩ := cons_of h21
  obtain ⟨z23, x23, e23, h23⟩ := cons_of h22
  obtain ⟨z24, x24, e24, h24⟩ := cons_of h23
  obtain ⟨z25, x25, e25, h25⟩ := cons_of h24
  obtain ⟨z26, x26, e26, h26⟩ := cons_of h25
  obtain ⟨z27, x27, e27, h27⟩ := cons_of h26
  obtain ⟨z28, x28, e28, h28⟩ := cons_of h27
  obtain ⟨z29, x29, e29, h29⟩ := cons_of h28
  obtain ⟨z30, x30, e30, h30⟩ := cons_of h29
  obtain ⟨z31, x31, e31, h31⟩ := cons_of h30
  obtain ⟨z32, x32, e32, h32⟩ := cons_of h31
  obtain ⟨z33, x33, e33, h33⟩ := cons_of h32
  obtain ⟨z34, x34, e34, h34⟩ := cons_of h33
  obtain ⟨z35, x35, e35, h35⟩ := cons_of h34
  obtain ⟨z36, x36, e36, h36⟩ := cons_of h35
  obtain ⟨z37, x37, e37, h37⟩ := cons_of h36
  obtain ⟨z38, x38, e38, h38⟩ := cons_of h37
  obtain ⟨z39, x39, e39, h39⟩ := cons_of h38
  obtain ⟨z40, x40, e40, h40⟩ := cons_of h39
  obtain ⟨z41, x41, e41, h41⟩ := cons_of h40
  obtain ⟨z42, x42, e42, h42⟩ := cons_of h41
  obtain ⟨z43, x43, e43, h43⟩ := cons_of h42
  obtain ⟨z44, x44, e44, h44⟩ := cons_of h43
  obtain ⟨z45, x45, e45, h45⟩ := cons_of h44
  obtain ⟨z46, x46, e46, h46⟩ := cons_of h45
  obtain ⟨z47, x47, e47, h47⟩ := cons_of h46
  obtain ⟨z48, x48, e48, h48⟩ := cons_of h47
  obtain ⟨z49, x49, e49, h49⟩ := cons_of h48
  exact ⟨z0, z1, z2, z3, z4, z5, z6, z7, z8, z9, z10, z11, z12, z13, z14, z15, z16, z17, z18, z19, z20, z21, z22, z23, z24, z25, z26, z27, z28, z29, z30, z31, z32, z33, z34, z35, z36, z37, z38, z39, z40, z41, z42, z43, z44, z45, z46, z47, z48, z49, by rw [e0, e1, e2, e3, e4, e5, e6, e7, e8, e9, e10, e11, e12, e13, e14, e15, e16, e17, e18, e19, e20, e21, e22, e23, e24, e25, e26, e27, e28, e29, e30, e31, e32, e33, e34, e35, e36, e37, e38, e39, e40, e41, e42, e43, e44, e45, e46, e47, e48, e49, nil_of h49]⟩
theorem get15 {x : List Value} (h : x.length = 15) : x = [x.getD 0 undef, x.getD 1 undef, x.getD 2 undef, x.getD 3 undef, x.getD 4 undef, x.getD 5 undef, x.getD 6 undef, x.getD 7 undef, x.getD 8 undef, x.getD 9 undef, x.getD 10 undef, x.getD 11 undef, x.getD 12 undef, x.getD 13 undef, x.getD 14 undef] := by
  obtain ⟨z0, z1, z2, z3, z4, z5, z6, z7, z8, z9, z10, z11, z12, z13, z14, rfl⟩ := len15 h
  rfl
theorem get50 {x : List Value} (h : x.length = 50) : x = [x.getD 0 undef, x.getD 1 undef, x.getD 2 undef, x.getD 3 undef, x.getD 4 undef, x.getD 5 undef, x.getD 6 undef, x.getD 7 undef, x.getD 8 undef, x.getD 9 undef, x.getD 10 undef, x.getD 11 undef, x.getD 12 undef, x.getD 13 undef, x.getD 14 undef, x.getD 15 undef, x.getD 16 undef, x.getD 17 undef, x.getD 18 undef, x.getD 19 undef, x.getD 20 undef, x.getD 21 undef, x.getD 22 undef, x.getD 23 undef, x.getD 24 undef, x.getD 25 undef, x.getD 26 undef, x.getD 27 undef, x.getD 28 undef, x.getD 29 undef, x.getD 30 undef, x.getD 31 undef, x.getD 32 undef, x.getD 33 undef, x.getD 34 undef, x.getD 35 undef, x.getD 36 undef, x.getD 37 undef, x.getD 38 undef, x.getD 39 undef, x.getD 40 undef, x.getD 41 undef, x.getD 42 undef, x.getD 43 undef, x.getD 44 undef, x.getD 45 undef, x.getD 46 undef, x.getD 47 undef, x.getD 48 undef, x.getD 49 undef] := by
  obtain ⟨z0, z1, z2, z3, z4, z5, z6, z7, z8, z9, z10, z11, z12, z13, z14, z15, z16, z17, z18, z19, z20, z21, z22, z23, z24, z25, z26, z27, z28, z29, z30, z31, z32, z33, z34, z35, z36, z37, z38, z39, z40, z41, z42, z43, z44, z45, z46, z47, z48, z49, rfl⟩ := len50 h
  rfl
theorem eqVd (d : Nat) (a b c : Int) (w : World) : (Op.equalIn (d + 2) 24 (.agg #[.int .i64 a, .int .i64 b, .int .i64 c]) (.agg #[.int .i64 a, .int .i64 b, .int .i64 c])).run Try.prog w = .ok true w := by
  have u3 := Try.underlying2
  have a3 := Try.isAgg2
  have z3 := Try.sizeOf2
  rw [Op.equalIn]
  simp only [Sem.run_bind, run_underlying Try.underlying24, Result.andThen_ok]
  simp only [Std.Legacy.Range.forIn_eq_forIn_range', Std.Legacy.Range.size, Nat.sub_zero, Nat.add_sub_cancel, Nat.div_one, List.range'_succ, List.range'_zero, List.forIn_cons, List.forIn_nil]
  go_simp
theorem eq33i (s : ByteArray) (a b c x y z : Int) (e : Bool) (w : World) : (Op.equalIn 10000 33 (.agg #[.string s, .int .i64 a, .int .i64 b, .int .i64 c, .int .i64 x, .int .i64 y, .int .i64 z, .bool e]) (.agg #[.string s, .int .i64 a, .int .i64 b, .int .i64 c, .int .i64 x, .int .i64 y, .int .i64 z, .bool e])).run Try.prog w = .ok true w := by
  have u9 := Try.underlying9
  have a9 := Try.isAgg9
  have z9 := Try.sizeOf9
  have u4 := Try.underlying4
  have a4 := Try.isAgg4
  have z4 := Try.sizeOf4
  have a23 := Try.isAgg24
  have z23 := Try.sizeOf24
  have e1 := eqVd 9997 a b c w
  have e2 := eqVd 9997 x y z w
  have hu : Try.prog.underlying 33 = some (.struct (Try.prog.fieldsOf 33)) := by kernel_rfl
  rw [show (10000 : Nat) = 9999 + 1 from rfl, run_equalIn_struct w 9999 33 _ _ hu (by kernel_rfl)]
  simp only [Program.fieldsOf, Try.underlying33]
  clear hu
  go_simp
theorem NCo.cells {X : World} {g o : Nat} {n : Nd} (h : NCo X g o n) : X.cell? ⟨g, o, none⟩ = some (.string (Nm.str n.s)) ∧ X.cell? ⟨g, o + 1, none⟩ = some (.int .i64 n.a) ∧ X.cell? ⟨g, o + 2, none⟩ = some (.int .i64 n.b) ∧ X.cell? ⟨g, o + 3, none⟩ = some (.int .i64 n.c) ∧ X.cell? ⟨g, o + 4, none⟩ = some (.int .i64 n.x) ∧ X.cell? ⟨g, o + 5, none⟩ = some (.int .i64 n.y) ∧ X.cell? ⟨g, o + 6, none⟩ = some (.int .i64 n.z) ∧ X.cell? ⟨g, o + 7, none⟩ = some (.bool n.d) := by
  exact ⟨h.c0, h.c1, h.c2, h.c3, h.c4, h.c5, h.c6, h.c7⟩
def RS (w : World) (A A3 : Option Addr) (L : List Nd) (p q r : Int) (W : World) : Prop := LA w W A L p q r ∧ NodesAt W W.heap.size A3 L
theorem RS.a {w X : World} {A A3 : Option Addr} {L : List Nd} {p q r : Int} (h : RS w A A3 L p q r X) : LA w X A L p q r := And.left h
theorem RS.n {w X : World} {A A3 : Option Addr} {L : List Nd} {p q r : Int} (h : RS w A A3 L p q r X) : NodesAt X X.heap.size A3 L := And.right h
theorem RS.on {w X Y : World} {A A3 : Option Addr} {L : List Nd} {p q r : Int} (h : RS w A A3 L p q r X) (hb : Below X.heap.size X Y) : RS w A A3 L p q r Y := ⟨h.1.on hb, (h.2.on hb).mono hb.size⟩
set_option maxHeartbeats 64000000 in
theorem law_ranks (L : List Nd) (A : Option Addr) (N c : Nat) (p q r : Int) (w : World) (hA : NodesAt w w.heap.size A L) (hN : L.length = N) (hNc : N ≤ c) (hc : c ≤ 9223372036854775807) (hok : ∀ n ∈ L, Nok n) (hno : A = none → c = 0) (bp : I64 p) (bq : I64 q) (br : I64 r) :
    Calls Try.prog 3 #[.slice A N c, .agg #[.int .i64 p, .int .i64 q, .int .i64 r]] w (RetBelow (.bool true) w) := by
  have k0 := Lib.hid awake_any
  have X0 := Lib.hid (LA.new w A L p q r)
  by_cases h40 : N ≤ 40
  · have KC := Lib.hid fun (A' : Option Addr) (c' : Nat) (X : World) (h : NodesAt X X.heap.size A' L) => choose_any L A' N c' p q r X h hN (by omega) hok bp bq br
    have KD := Lib.hid fun (A' : Option Addr) (c' : Nat) (X : World) (h : NodesAt X X.heap.size A' L) => refChoose_any L A' N c' p q r X h hN (by omega) hok bp bq br
    have KR := Lib.hid fun (A' : Option Addr) (c' : Nat) (X : World) (h : NodesAt X X.heap.size A' L) => rank_any L A' N c' p q r X h hN (by omega) hok bp bq br
    have KQ := Lib.hid fun (A' : Option Addr) (c' : Nat) (X : World) (h : NodesAt X X.heap.size A' L) => refRank_any L A' N c' p q r X h hN (by omega) hok bp bq br
    have HA := Lib.hid hA
    have HN := Lib.hid hN
    have HNC := Lib.hid hNc
    have HNO := Lib.hid hno
    have h41 : decide (40 < N) = false := by simpa using h40
    have h42 : decide ((40 : Int) < N) = false := by simp; omega
    have H40 := Lib.hid h40
    have HL := Lib.hid (show ([] : List Nd).length + N ≤ 1000000 by simp; omega)
    have HOK := Lib.hid hok
    have BP := Lib.hid bp
    have BQ := Lib.hid bq
    have BR := Lib.hid br
    clear hA hN hNc hc hok hno bp bq br h40
    go_enter Try.func3, Try.ntmps3
    go_wp2_with (first | (go_at_call 9; (with_reducible refine (k0.out _).mono ?_); rintro e w1 ⟨rfl, hb⟩; have X1 := Lib.hid (X0.out.on hb); have HS1 := Lib.hid (show w.heap.size + 1 ≤ w1.heap.size by have := hb.size; simp at this; omega); have O2 := Lib.hid (OwnN.new w1); have A2 := Lib.hid (HA.out.on (X1.out.b.trans ((Below.refl _ w1).alloc X1.out.b.size (.cells #[] 33)))); clear hb) | (at_builtin; (refine wp_appN rfl (.tmp 16) (.tmp 17) rfl w1.heap.size _ [] rfl O2.out A N c w.heap.size L rfl HNO.out A2.out HN.out HNC.out HL.out (by simp) ?_); intro v3 w3 own3 hb3; rw [List.nil_append] at own3; obtain ⟨A3, cap3, rfl, hn3, _⟩ := own3.form; rw [HN.out]; have N3 := Lib.hid hn3; have X3 := Lib.hid (X1.out.onB (((Below.refl w1.heap.size w1).alloc (Nat.le_refl _) (.cells #[] 33)).trans hb3) HS1.out); obtain ⟨v0, v1, v2⟩ := X3.out.v.c3; clear own3 hb3 hn3) | (go_at_call 10; (with_reducible refine (KC.out _ _ _ N3.out).mono ?_); rintro e w4 ⟨ix, er, rfl, hch, hb⟩; have CH := Lib.hid hch; have X4 := Lib.hid (X3.out.on hb); have N4 := Lib.hid ((N3.out.on hb).mono hb.size); obtain ⟨v0, v1, v2⟩ := X4.out.v.c3; clear hch hb) | (go_at_call 11; (with_reducible refine (KD.out _ _ _ ((HA.out.on X4.out.b).mono X4.out.b.size)).mono ?_); rintro e w5 ⟨i', er', rfl, hch, hb⟩; obtain ⟨hi, he⟩ := chosen_one CH.out hch; subst hi he; have X5 := Lib.hid (X4.out.on hb); have N5 := Lib.hid ((N4.out.on hb).mono hb.size); obtain ⟨v0, v1, v2⟩ := X5.out.v.c3; clear hch hb))
    have HC0 : Hid (RS w A A3 L p q r w5.drew) := Lib.hid (RS.on ⟨X5.out, N5.out⟩ (Below.refl _ _).drew)
    clear v0 v1 v2
    have n1 : ((ix : Int) != (ix : Int)) = false := by simp
    have n2 : ((er : Int) != (er : Int)) = false := by simp
    refine wp_region_mono 15 [31, 32, 33, 34, 35, 36, 37, 38, 39, 40, 41, 42, 43, 44, 45] (fun i v Y0 => match i with | 0 => v = .int .i64 (ix : Int) | 1 => v = .int .i64 (ix : Int) | 2 => v = .bool false | 3 => v = .bool false | 4 => v = .int .i64 (er : Int) | 5 => v = .int .i64 (er : Int) | 6 => v = .bool false | 7 => v = .bool false | 8 => v = .bool false | 9 => v = .slice A3 N cap3 | 10 => v = .agg #[.int .i64 p, .int .i64 q, .int .i64 r] | 11 => ∃ (A9 : Option Addr) (c9 : Nat) (R9 : List Nat), v = .slice A9 R9.length c9 ∧ RankOf L p q r R9 ∧ DigsAt Y0 Y0.heap.size A9 R9 | 12 => v = .slice A N c | 13 => v = .agg #[.int .i64 p, .int .i64 q, .int .i64 r] | 14 => ∃ (A9 : Option Addr) (c9 : Nat) (R9 : List Nat), v = .slice A9 R9.length c9 ∧ RankOf L p q r R9 ∧ DigsAt Y0 Y0.heap.size A9 R9 | _ => True) (fun Y0 => RS w A A3 L p q r Y0) [undef, undef, undef, undef, undef, undef, undef, undef, undef, undef, undef, undef, undef, undef, undef] (by kernel_rfl) (by kernel_rfl) (by kernel_rfl) rfl HC0.out ?hzV ?hzS ?hzT
    case hzV =>
      intro i v Y0 Y1 hC h hB
      exact match i, h with
      | 0, h => h
      | 1, h => h
      | 2, h => h
      | 3, h => h
      | 4, h => h
      | 5, h => h
      | 6, h => h
      | 7, h => h
      | 8, h => h
      | 9, h => h
      | 10, h => h
      | 11, h => (let ⟨A9, c9, R9, h1, h2, h3⟩ := h; ⟨A9, c9, R9, h1, h2, (h3.on hB)⟩)
      | 12, h => h
      | 13, h => h
      | 14, h => (let ⟨A9, c9, R9, h1, h2, h3⟩ := h; ⟨A9, c9, R9, h1, h2, (h3.on hB)⟩)
      | i + 15, h => trivial
    case hzS =>
      refine steps_cons (fun K' x hx Y0 hC hd hK => ?_) ?_
      · obtain ⟨z0, z1, z2, z3, z4, z5, z6, z7, z8, z9, z10, z11, z12, z13, z14, rfl⟩ := len15 hx
        clear hd hx
        simp only [putAll, Act.put, List.setIfInBounds_toArray, List.set_cons_zero, List.set_cons_succ] at hK ⊢
        go_simp
        exact hK _ _ rfl hC (Below.refl _ _)
      refine steps_cons (fun K' x hx Y0 hC hd hK => ?_) ?_
      · obtain ⟨z0, z1, z2, z3, z4, z5, z6, z7, z8, z9, z10, z11, z12, z13, z14, rfl⟩ := len15 hx
        clear hd hx
        simp only [putAll, Act.put, List.setIfInBounds_toArray, List.set_cons_zero, List.set_cons_succ] at hK ⊢
        go_simp
        exact hK _ _ rfl hC (Below.refl _ _)
      refine steps_cons (fun K' x hx Y0 hC hd hK => ?_) ?_
      · obtain ⟨z0, z1, z2, z3, z4, z5, z6, z7, z8, z9, z10, z11, z12, z13, z14, rfl⟩ := len15 hx
        obtain rfl : z0 = _ := hd 0 (by kernel_rfl)
        obtain rfl : z1 = _ := hd 1 (by kernel_rfl)
        clear hd hx
        simp only [putAll, Act.put, List.setIfInBounds_toArray, List.set_cons_zero, List.set_cons_succ] at hK ⊢
        go_simp
        exact hK _ _ rfl hC (Below.refl _ _)
      refine steps_cons (fun K' x hx Y0 hC hd hK => ?_) ?_
      · obtain ⟨z0, z1, z2, z3, z4, z5, z6, z7, z8, z9, z10, z11, z12, z13, z14, rfl⟩ := len15 hx
        obtain rfl : z2 = _ := hd 2 (by kernel_rfl)
        clear hd hx
        simp only [putAll, Act.put, List.setIfInBounds_toArray, List.set_cons_zero, List.set_cons_succ] at hK ⊢
        go_simp
        exact hK _ _ rfl hC (Below.refl _ _)
      refine steps_cons (fun K' x hx Y0 hC hd hK => ?_) ?_
      · obtain ⟨z0, z1, z2, z3, z4, z5, z6, z7, z8, z9, z10, z11, z12, z13, z14, rfl⟩ := len15 hx
        obtain rfl : z3 = _ := hd 3 (by kernel_rfl)
        clear hd hx
        simp only [putAll, Act.put, List.setIfInBounds_toArray, List.set_cons_zero, List.set_cons_succ] at hK ⊢
        go_simp
        exact hK _ _ rfl hC (Below.refl _ _)
      refine steps_cons (fun K' x hx Y0 hC hd hK => ?_) ?_
      · obtain ⟨z0, z1, z2, z3, z4, z5, z6, z7, z8, z9, z10, z11, z12, z13, z14, rfl⟩ := len15 hx
        obtain rfl : z3 = _ := hd 3 (by kernel_rfl)
        clear hd hx
        simp only [putAll, Act.put, List.setIfInBounds_toArray, List.set_cons_zero, List.set_cons_succ] at hK ⊢
        go_simp
        exact hK _ _ rfl hC (Below.refl _ _)
      refine steps_cons (fun K' x hx Y0 hC hd hK => ?_) ?_
      · obtain ⟨z0, z1, z2, z3, z4, z5, z6, z7, z8, z9, z10, z11, z12, z13, z14, rfl⟩ := len15 hx
        obtain rfl : z3 = _ := hd 3 (by kernel_rfl)
        obtain rfl : z4 = _ := hd 4 (by kernel_rfl)
        obtain rfl : z5 = _ := hd 5 (by kernel_rfl)
        clear hd hx
        simp only [putAll, Act.put, List.setIfInBounds_toArray, List.set_cons_zero, List.set_cons_succ] at hK ⊢
        go_simp
        exact hK _ _ rfl hC (Below.refl _ _)
      refine steps_cons (fun K' x hx Y0 hC hd hK => ?_) ?_
      · obtain ⟨z0, z1, z2, z3, z4, z5, z6, z7, z8, z9, z10, z11, z12, z13, z14, rfl⟩ := len15 hx
        obtain rfl : z3 = _ := hd 3 (by kernel_rfl)
        obtain rfl : z6 = _ := hd 6 (by kernel_rfl)
        clear hd hx
        simp only [putAll, Act.put, List.setIfInBounds_toArray, List.set_cons_zero, List.set_cons_succ] at hK ⊢
        go_simp
        exact hK _ _ rfl hC (Below.refl _ _)
      refine steps_cons (fun K' x hx Y0 hC hd hK => ?_) ?_
      · obtain ⟨z0, z1, z2, z3, z4, z5, z6, z7, z8, z9, z10, z11, z12, z13, z14, rfl⟩ := len15 hx
        obtain rfl : z3 = _ := hd 3 (by kernel_rfl)
        obtain rfl : z7 = _ := hd 7 (by kernel_rfl)
        clear hd hx
        simp only [putAll, Act.put, List.setIfInBounds_toArray, List.set_cons_zero, List.set_cons_succ] at hK ⊢
        go_simp
        exact hK _ _ rfl hC (Below.refl _ _)
      refine steps_cons (fun K' x hx Y0 hC hd hK => ?_) ?_
      · obtain ⟨z0, z1, z2, z3, z4, z5, z6, z7, z8, z9, z10, z11, z12, z13, z14, rfl⟩ := len15 hx
        obtain rfl : z8 = _ := hd 8 (by kernel_rfl)
        clear hd hx
        simp only [putAll, Act.put, List.setIfInBounds_toArray, List.set_cons_zero, List.set_cons_succ] at hK ⊢
        go_simp
        exact hK _ _ rfl hC (Below.refl _ _)
      refine steps_cons (fun K' x hx Y0 hC hd hK => ?_) ?_
      · obtain ⟨z0, z1, z2, z3, z4, z5, z6, z7, z8, z9, z10, z11, z12, z13, z14, rfl⟩ := len15 hx
        obtain rfl : z8 = _ := hd 8 (by kernel_rfl)
        clear hd hx
        simp only [putAll, Act.put, List.setIfInBounds_toArray, List.set_cons_zero, List.set_cons_succ] at hK ⊢
        obtain ⟨v0, v1, v2⟩ := hC.a.v.c3
        go_simp
        exact hK _ _ rfl hC (Below.refl _ _)
      refine steps_cons (fun K' x hx Y0 hC hd hK => ?_) ?_
      · obtain ⟨z0, z1, z2, z3, z4, z5, z6, z7, z8, z9, z10, z11, z12, z13, z14, rfl⟩ := len15 hx
        obtain rfl : z8 = _ := hd 8 (by kernel_rfl)
        obtain rfl : z9 = _ := hd 9 (by kernel_rfl)
        obtain rfl : z10 = _ := hd 10 (by kernel_rfl)
        clear hd hx
        simp only [putAll, Act.put, List.setIfInBounds_toArray, List.set_cons_zero, List.set_cons_succ] at hK ⊢
        go_simp
        (go_at_call 13; (with_reducible refine (KR.out _ _ _ hC.n).mono ?_); rintro e w1 ⟨A9, c9, R9, rfl, h1, h2, hb⟩; exact hK _ _ ⟨A9, c9, R9, rfl, h1, h2⟩ (hC.on hb) hb)
      refine steps_cons (fun K' x hx Y0 hC hd hK => ?_) ?_
      · obtain ⟨z0, z1, z2, z3, z4, z5, z6, z7, z8, z9, z10, z11, z12, z13, z14, rfl⟩ := len15 hx
        obtain rfl : z8 = _ := hd 8 (by kernel_rfl)
        clear hd hx
        simp only [putAll, Act.put, List.setIfInBounds_toArray, List.set_cons_zero, List.set_cons_succ] at hK ⊢
        go_simp
        exact hK _ _ rfl hC (Below.refl _ _)
      refine steps_cons (fun K' x hx Y0 hC hd hK => ?_) ?_
      · obtain ⟨z0, z1, z2, z3, z4, z5, z6, z7, z8, z9, z10, z11, z12, z13, z14, rfl⟩ := len15 hx
        obtain rfl : z8 = _ := hd 8 (by kernel_rfl)
        clear hd hx
        simp only [putAll, Act.put, List.setIfInBounds_toArray, List.set_cons_zero, List.set_cons_succ] at hK ⊢
        obtain ⟨v0, v1, v2⟩ := hC.a.v.c3
        go_simp
        exact hK _ _ rfl hC (Below.refl _ _)
      refine steps_cons (fun K' x hx Y0 hC hd hK => ?_) ?_
      · obtain ⟨z0, z1, z2, z3, z4, z5, z6, z7, z8, z9, z10, z11, z12, z13, z14, rfl⟩ := len15 hx
        obtain rfl : z8 = _ := hd 8 (by kernel_rfl)
        obtain rfl : z12 = _ := hd 12 (by kernel_rfl)
        obtain rfl : z13 = _ := hd 13 (by kernel_rfl)
        clear hd hx
        simp only [putAll, Act.put, List.setIfInBounds_toArray, List.set_cons_zero, List.set_cons_succ] at hK ⊢
        go_simp
        (go_at_call 14; (with_reducible refine (KQ.out _ _ _ ((HA.out.on hC.a.b).mono hC.a.b.size)).mono ?_); rintro e w1 ⟨A9, c9, R9, rfl, h1, h2, hb⟩; exact hK _ _ ⟨A9, c9, R9, rfl, h1, h2⟩ (hC.on hb) hb)
      exact trivial
    case hzT =>
      intro x hx Y0 hC hd
      obtain ⟨A9, c9, R9, e11, r1, d1⟩ := hd 11 (by omega)
      obtain ⟨A8, c8, R8, e14, r2, d2⟩ := hd 14 (by omega)
      change x.getD 11 undef = _ at e11
      change x.getD 14 undef = _ at e14
      obtain rfl := rank_one r1 r2
      have q0 : x.getD 0 undef = _ := hd 0 (by omega)
      have q1 : x.getD 1 undef = _ := hd 1 (by omega)
      have q2 : x.getD 2 undef = _ := hd 2 (by omega)
      have q3 : x.getD 3 undef = _ := hd 3 (by omega)
      have q4 : x.getD 4 undef = _ := hd 4 (by omega)
      have q5 : x.getD 5 undef = _ := hd 5 (by omega)
      have q6 : x.getD 6 undef = _ := hd 6 (by omega)
      have q7 : x.getD 7 undef = _ := hd 7 (by omega)
      have q8 : x.getD 8 undef = _ := hd 8 (by omega)
      have q9 : x.getD 9 undef = _ := hd 9 (by omega)
      have q10 : x.getD 10 undef = _ := hd 10 (by omega)
      have q12 : x.getD 12 undef = _ := hd 12 (by omega)
      have q13 : x.getD 13 undef = _ := hd 13 (by omega)
      rw [get15 hx, q0, q1, q2, q3, q4, q5, q6, q7, q8, q9, q10, e11, q12, q13, e14]
      simp only [putAll, Act.put, List.setIfInBounds_toArray, List.set_cons_zero, List.set_cons_succ]
      have HC := Lib.hid hC
      have HSM := Lib.hid (same_any R9 A9 A8 c9 c8 _ Y0 d1 d2 rfl (by rw [r1.1.length_eq]; unfold cand; exact Nat.le_trans (List.length_filter_le _ _) (by simp; have := HN.out; have := H40.out; omega)))
      clear hd hC r1 r2 d1 d2 e11 e14 q0 q1 q2 q3 q4 q5 q6 q7 q8 q9 q10 q12 q13
      generalize R9.length = nR at *
      show wpList Try.prog _ _ (_ :: _ :: _ :: []) _ _
      go_wp2_with (go_at_call 12; (with_reducible refine HSM.out.mono ?_); rintro e w7 ⟨rfl, hb⟩; have HC7 := Lib.hid (HC.out.on hb); clear hb)
      go_loopw [10, 51] (fun _ iV wr => ∃ (k : Nat), iV = .int .i64 (k : Int) ∧ k ≤ N ∧ RS w A A3 L p q r wr) (fun _ iV _ => N - (intOf iV).toNat)
      case atStart => exact ⟨0, rfl, Nat.zero_le _, HC7.out⟩
      case round =>
        obtain ⟨k, rfl, hk, hi⟩ := hrel
        have HI := Lib.hid hi
        clear hi
        by_cases hkn : k < N
        case neg =>
          have g1 : decide ((k : Int) < (N : Int)) = false := by simp; omega
          have g2 : decide (k < N) = false := by simp; omega
          go_wp2_with fail
          go_ret
          exact ⟨rfl, HI.out.a.b⟩
        case pos =>
          have HLT := Lib.hid hkn
          obtain ⟨n, hn⟩ : ∃ n, L[k]? = some n := ⟨_, List.getElem?_eq_getElem (by have := HN.out; omega)⟩
          have hne : L ≠ [] := fun e => by rw [e] at hn; simp at hn
          have ok := HOK.out n (List.mem_of_getElem? hn)
          obtain ⟨g3, o3, hA3, _, _⟩ := HI.out.n hne
          obtain ⟨g0, o0, hA0, _, _⟩ := HA.out hne
          subst hA3 hA0
          have HC3 : Hid (∀ Z, RS w (some ⟨g0, o0, none⟩) (some ⟨g3, o3, none⟩) L p q r Z → Z.cell? ⟨g3, o3 + k * 8, none⟩ = some (.string (Nm.str n.s)) ∧ Z.cell? ⟨g3, o3 + k * 8 + 1, none⟩ = some (.int .i64 n.a) ∧ Z.cell? ⟨g3, o3 + k * 8 + 2, none⟩ = some (.int .i64 n.b) ∧ Z.cell? ⟨g3, o3 + k * 8 + 3, none⟩ = some (.int .i64 n.c) ∧ Z.cell? ⟨g3, o3 + k * 8 + 4, none⟩ = some (.int .i64 n.x) ∧ Z.cell? ⟨g3, o3 + k * 8 + 5, none⟩ = some (.int .i64 n.y) ∧ Z.cell? ⟨g3, o3 + k * 8 + 6, none⟩ = some (.int .i64 n.z) ∧ Z.cell? ⟨g3, o3 + k * 8 + 7, none⟩ = some (.bool n.d)) := Lib.hid fun Z h => (h.n.at (Below.refl _ _) hn).cells
          have HCA : Hid (∀ Z, RS w (some ⟨g0, o0, none⟩) (some ⟨g3, o3, none⟩) L p q r Z → Z.cell? ⟨g0, o0 + k * 8, none⟩ = some (.string (Nm.str n.s)) ∧ Z.cell? ⟨g0, o0 + k * 8 + 1, none⟩ = some (.int .i64 n.a) ∧ Z.cell? ⟨g0, o0 + k * 8 + 2, none⟩ = some (.int .i64 n.b) ∧ Z.cell? ⟨g0, o0 + k * 8 + 3, none⟩ = some (.int .i64 n.c) ∧ Z.cell? ⟨g0, o0 + k * 8 + 4, none⟩ = some (.int .i64 n.x) ∧ Z.cell? ⟨g0, o0 + k * 8 + 5, none⟩ = some (.int .i64 n.y) ∧ Z.cell? ⟨g0, o0 + k * 8 + 6, none⟩ = some (.int .i64 n.z) ∧ Z.cell? ⟨g0, o0 + k * 8 + 7, none⟩ = some (.bool n.d)) := Lib.hid fun Z h => (HA.out.at h.a.b hn).cells
          have HMY : Hid (∀ W, Calls Try.prog 15 #[.agg #[.string (Nm.str n.s), .int .i64 n.a, .int .i64 n.b, .int .i64 n.c, .int .i64 n.x, .int .i64 n.y, .int .i64 n.z, .bool n.d]] W (RetBelow (.bool (nmay n)) W)) := Lib.hid fun W => pmay_any n W ok.s
          have HMR : Hid (∀ W, Calls Try.prog 16 #[.agg #[.string (Nm.str n.s), .int .i64 n.a, .int .i64 n.b, .int .i64 n.c, .int .i64 n.x, .int .i64 n.y, .int .i64 n.z, .bool n.d]] W (RetBelow (.bool (nmay n)) W)) := Lib.hid fun W => refPMay_any n W ok.s
          have HSC : Hid (∀ W, Calls Try.prog 17 #[.agg #[.string (Nm.str n.s), .int .i64 n.a, .int .i64 n.b, .int .i64 n.c, .int .i64 n.x, .int .i64 n.y, .int .i64 n.z, .bool n.d], .agg #[.int .i64 p, .int .i64 q, .int .i64 r]] W (RetBelow (.int .i64 (nscore n p q r)) W)) := Lib.hid fun W => score_any n p q r W ok BP.out BQ.out BR.out
          have HSR : Hid (∀ W, Calls Try.prog 18 #[.agg #[.string (Nm.str n.s), .int .i64 n.a, .int .i64 n.b, .int .i64 n.c, .int .i64 n.x, .int .i64 n.y, .int .i64 n.z, .bool n.d], .agg #[.int .i64 p, .int .i64 q, .int .i64 r]] W (RetBelow (.int .i64 (nscore n p q r)) W)) := Lib.hid fun W => refScore_any n p q r W ok BP.out BQ.out BR.out
          have HTK : Hid (∀ W, Calls Try.prog 19 #[.agg #[.string (Nm.str n.s), .int .i64 n.a, .int .i64 n.b, .int .i64 n.c, .int .i64 n.x, .int .i64 n.y, .int .i64 n.z, .bool n.d], .agg #[.int .i64 p, .int .i64 q, .int .i64 r]] W (RetBelow (.bool (ntakes n p q r)) W)) := Lib.hid fun W => takes_any n p q r W ok BP.out BQ.out BR.out
          have t1 : decide (0 ≤ nscore n p q r) = ntakes n p q r := by
            unfold nscore
            cases ht : ntakes n p q r
            · simp
            · simp [shV_pos]
          have q33 := fun W => eq33i (Nm.str n.s) n.a n.b n.c n.x n.y n.z n.d W
          have g1 : decide ((k : Int) < (N : Int)) = true := by simp; omega
          have g2 : decide (k < N) = true := by simp; omega
          have i1 : (k : Int) < (N : Int) := by omega
          have hk40 : k < 40 := Nat.lt_of_lt_of_le hkn H40.out
          have HC1 : Hid (RS w (some ⟨g0, o0, none⟩) (some ⟨g3, o3, none⟩) L p q r wr.drew) := Lib.hid (HI.out.on (Below.refl _ _).drew)
          clear hn hne ok hk
          obtain ⟨s, a, b, c1, x, y, z, d⟩ := n
          dsimp only at *
          generalize nmay ⟨s, a, b, c1, x, y, z, d⟩ = MY at *
          generalize nscore ⟨s, a, b, c1, x, y, z, d⟩ p q r = SC at *
          generalize ntakes ⟨s, a, b, c1, x, y, z, d⟩ p q r = TK at *
          generalize Nm.str s = sx at *
          have m1 : (MY != MY) = false := by simp
          have m2 : (SC != SC) = false := by simp
          have m3 : (TK != TK) = false := by simp
          go_wp2_with fail
          refine wp_region_mono 50 [54, 55, 56, 57, 58, 59, 60, 61, 62, 63, 64, 65, 66, 67, 68, 69, 70, 71, 72, 73, 74, 75, 76, 77, 78, 79, 80, 81, 82, 83, 84, 85, 86, 87, 88, 89, 90, 91, 92, 93, 94, 95, 96, 97, 98, 99, 100, 101, 102, 103] (fun i v Y0 => match i with | 0 => v = .slice (some ⟨g3, o3, none⟩) N cap3 | 1 => v = .int .i64 (k : Int) | 2 => v = .pointer (some ⟨g3, o3 + k * 8, none⟩) | 3 => v = .agg #[.string sx, .int .i64 a, .int .i64 b, .int .i64 c1, .int .i64 x, .int .i64 y, .int .i64 z, .bool d] | 4 => v = .slice (some ⟨g0, o0, none⟩) N c | 5 => v = .int .i64 (k : Int) | 6 => v = .pointer (some ⟨g0, o0 + k * 8, none⟩) | 7 => v = .agg #[.string sx, .int .i64 a, .int .i64 b, .int .i64 c1, .int .i64 x, .int .i64 y, .int .i64 z, .bool d] | 8 => v = .bool false | 9 => v = .bool false | 10 => v = .slice (some ⟨g0, o0, none⟩) N c | 11 => v = .int .i64 (k : Int) | 12 => v = .pointer (some ⟨g0, o0 + k * 8, none⟩) | 13 => v = .agg #[.string sx, .int .i64 a, .int .i64 b, .int .i64 c1, .int .i64 x, .int .i64 y, .int .i64 z, .bool d] | 14 => v = .bool MY | 15 => v = .slice (some ⟨g0, o0, none⟩) N c | 16 => v = .int .i64 (k : Int) | 17 => v = .pointer (some ⟨g0, o0 + k * 8, none⟩) | 18 => v = .agg #[.string sx, .int .i64 a, .int .i64 b, .int .i64 c1, .int .i64 x, .int .i64 y, .int .i64 z, .bool d] | 19 => v = .bool MY | 20 => v = .bool false | 21 => v = .bool false | 22 => v = .bool false | 23 => v = .slice (some ⟨g0, o0, none⟩) N c | 24 => v = .int .i64 (k : Int) | 25 => v = .pointer (some ⟨g0, o0 + k * 8, none⟩) | 26 => v = .agg #[.string sx, .int .i64 a, .int .i64 b, .int .i64 c1, .int .i64 x, .int .i64 y, .int .i64 z, .bool d] | 27 => v = .agg #[.int .i64 p, .int .i64 q, .int .i64 r] | 28 => v = .int .i64 SC | 29 => v = .slice (some ⟨g0, o0, none⟩) N c | 30 => v = .int .i64 (k : Int) | 31 => v = .pointer (some ⟨g0, o0 + k * 8, none⟩) | 32 => v = .agg #[.string sx, .int .i64 a, .int .i64 b, .int .i64 c1, .int .i64 x, .int .i64 y, .int .i64 z, .bool d] | 33 => v = .agg #[.int .i64 p, .int .i64 q, .int .i64 r] | 34 => v = .int .i64 SC | 35 => v = .bool false | 36 => v = .bool false | 37 => v = .bool false | 38 => v = .slice (some ⟨g0, o0, none⟩) N c | 39 => v = .int .i64 (k : Int) | 40 => v = .pointer (some ⟨g0, o0 + k * 8, none⟩) | 41 => v = .agg #[.string sx, .int .i64 a, .int .i64 b, .int .i64 c1, .int .i64 x, .int .i64 y, .int .i64 z, .bool d] | 42 => v = .agg #[.int .i64 p, .int .i64 q, .int .i64 r] | 43 => v = .bool TK | 44 => v = .slice (some ⟨g0, o0, none⟩) N c | 45 => v = .int .i64 (k : Int) | 46 => v = .pointer (some ⟨g0, o0 + k * 8, none⟩) | 47 => v = .agg #[.string sx, .int .i64 a, .int .i64 b, .int .i64 c1, .int .i64 x, .int .i64 y, .int .i64 z, .bool d] | 48 => v = .agg #[.int .i64 p, .int .i64 q, .int .i64 r] | 49 => v = .int .i64 SC | _ => True) (fun Y0 => RS w (some ⟨g0, o0, none⟩) (some ⟨g3, o3, none⟩) L p q r Y0) [u54, u55, u56, u57, u58, u59, u60, u61, u62, u63, u64, u65, u66, u67, u68, u69, u70, u71, u72, u73, u74, u75, u76, u77, u78, u79, u80, u81, u82, u83, u84, u85, u86, u87, u88, u89, u90, u91, u92, u93, u94, u95, u96, u97, u98, u99, u100, u101, u102, u103] (by kernel_rfl) (by kernel_rfl) (by kernel_rfl) rfl HC1.out ?hzV ?hzS ?hzT
          case hzV =>
            intro i v Y0 Y1 hC h hB
            exact match i, h with
            | 0, h => h
            | 1, h => h
            | 2, h => h
            | 3, h => h
            | 4, h => h
            | 5, h => h
            | 6, h => h
            | 7, h => h
            | 8, h => h
            | 9, h => h
            | 10, h => h
            | 11, h => h
            | 12, h => h
            | 13, h => h
            | 14, h => h
            | 15, h => h
            | 16, h => h
            | 17, h => h
            | 18, h => h
            | 19, h => h
            | 20, h => h
            | 21, h => h
            | 22, h => h
            | 23, h => h
            | 24, h => h
            | 25, h => h
            | 26, h => h
            | 27, h => h
            | 28, h => h
            | 29, h => h
            | 30, h => h
            | 31, h => h
            | 32, h => h
            | 33, h => h
            | 34, h => h
            | 35, h => h
            | 36, h => h
            | 37, h => h
            | 38, h => h
            | 39, h => h
            | 40, h => h
            | 41, h => h
            | 42, h => h
            | 43, h => h
            | 44, h => h
            | 45, h => h
            | 46, h => h
            | 47, h => h
            | 48, h => h
            | 49, h => h
            | i + 50, h => trivial
          case hzS =>
            refine steps_cons (fun K' x hx Y0 hC hd hK => ?_) ?_
            · obtain ⟨z0, z1, z2, z3, z4, z5, z6, z7, z8, z9, z10, z11, z12, z13, z14, z15, z16, z17, z18, z19, z20, z21, z22, z23, z24, z25, z26, z27, z28, z29, z30, z31, z32, z33, z34, z35, z36, z37, z38, z39, z40, z41, z42, z43, z44, z45, z46, z47, z48, z49, rfl⟩ := len50 hx
              clear hd hx
              simp only [putAll, Act.put, List.setIfInBounds_toArray, List.set_cons_zero, List.set_cons_succ] at hK ⊢
              go_simp
              exact hK _ _ rfl hC (Below.refl _ _)
            refine steps_cons (fun K' x hx Y0 hC hd hK => ?_) ?_
            · obtain ⟨z0, z1, z2, z3, z4, z5, z6, z7, z8, z9, z10, z11, z12, z13, z14, z15, z16, z17, z18, z19, z20, z21, z22, z23, z24, z25, z26, z27, z28, z29, z30, z31, z32, z33, z34, z35, z36, z37, z38, z39, z40, z41, z42, z43, z44, z45, z46, z47, z48, z49, rfl⟩ := len50 hx
              clear hd hx
              simp only [putAll, Act.put, List.setIfInBounds_toArray, List.set_cons_zero, List.set_cons_succ] at hK ⊢
              go_simp
              exact hK _ _ rfl hC (Below.refl _ _)
            refine steps_cons (fun K' x hx Y0 hC hd hK => ?_) ?_
            · obtain ⟨z0, z1, z2, z3, z4, z5, z6, z7, z8, z9, z10, z11, z12, z13, z14, z15, z16, z17, z18, z19, z20, z21, z22, z23, z24, z25, z26, z27, z28, z29, z30, z31, z32, z33, z34, z35, z36, z37, z38, z39, z40, z41, z42, z43, z44, z45, z46, z47, z48, z49, rfl⟩ := len50 hx
              obtain rfl : z0 = _ := hd 0 (by kernel_rfl)
              obtain rfl : z1 = _ := hd 1 (by kernel_rfl)
              clear hd hx
              simp only [putAll, Act.put, List.setIfInBounds_toArray, List.set_cons_zero, List.set_cons_succ] at hK ⊢
              go_simp
              exact hK _ _ rfl hC (Below.refl _ _)
            refine steps_cons (fun K' x hx Y0 hC hd hK => ?_) ?_
            · obtain ⟨z0, z1, z2, z3, z4, z5, z6, z7, z8, z9, z10, z11, z12, z13, z14, z15, z16, z17, z18, z19, z20, z21, z22, z23, z24, z25, z26, z27, z28, z29, z30, z31, z32, z33, z34, z35, z36, z37, z38, z39, z40, z41, z42, z43, z44, z45, z46, z47, z48, z49, rfl⟩ := len50 hx
              obtain rfl : z2 = _ := hd 2 (by kernel_rfl)
              clear hd hx
              simp only [putAll, Act.put, List.setIfInBounds_toArray, List.set_cons_zero, List.set_cons_succ] at hK ⊢
              obtain ⟨d0, d1, d2, d3, d4, d5, d6, d7⟩ := HC3.out _ hC
              go_simp
              exact hK _ _ rfl hC (Below.refl _ _)
            refine steps_cons (fun K' x hx Y0 hC hd hK => ?_) ?_
            · obtain ⟨z0, z1, z2, z3, z4, z5, z6, z7, z8, z9, z10, z11, z12, z13, z14, z15, z16, z17, z18, z19, z20, z21, z22, z23, z24, z25, z26, z27, z28, z29, z30, z31, z32, z33, z34, z35, z36, z37, z38, z39, z40, z41, z42, z43, z44, z45, z46, z47, z48, z49, rfl⟩ := len50 hx
              clear hd hx
              simp only [putAll, Act.put, List.setIfInBounds_toArray, List.set_cons_zero, List.set_cons_succ] at hK ⊢
              go_simp
              exact hK _ _ rfl hC (Below.refl _ _)
            refine steps_cons (fun K' x hx Y0 hC hd hK => ?_) ?_
            · obtain ⟨z0, z1, z2, z3, z4, z5, z6, z7, z8, z9, z10, z11, z12, z13, z14, z15, z16, z17, z18, z19, z20, z21, z22, z23, z24, z25, z26, z27, z28, z29, z30, z31, z32, z33, z34, z35, z36, z37, z38, z39, z40, z41, z42, z43, z44, z45, z46, z47, z48, z49, rfl⟩ := len50 hx
              clear hd hx
              simp only [putAll, Act.put, List.setIfInBounds_toArray, List.set_cons_zero, List.set_cons_succ] at hK ⊢
              go_simp
              exact hK _ _ rfl hC (Below.refl _ _)
            refine steps_cons (fun K' x hx Y0 hC hd hK => ?_) ?_
            · obtain ⟨z0, z1, z2, z3, z4, z5, z6, z7, z8, z9, z10, z11, z12, z13, z14, z15, z16, z17, z18, z19, z20, z21, z22, z23, z24, z25, z26, z27, z28, z29, z30, z31, z32, z33, z34, z35, z36, z37, z38, z39, z40, z41, z42, z43, z44, z45, z46, z47, z48, z49, rfl⟩ := len50 hx
              obtain rfl : z4 = _ := hd 4 (by kernel_rfl)
              obtain rfl : z5 = _ := hd 5 (by kernel_rfl)
              clear hd hx
              simp only [putAll, Act.put, List.setIfInBounds_toArray, List.set_cons_zero, List.set_cons_succ] at hK ⊢
              go_simp
              exact hK _ _ rfl hC (Below.refl _ _)
            refine steps_cons (fun K' x hx Y0 hC hd hK => ?_) ?_
            · obtain ⟨z0, z1, z2, z3, z4, z5, z6, z7, z8, z9, z10, z11, z12, z13, z14, z15, z16, z17, z18, z19, z20, z21, z22, z23, z24, z25, z26, z27, z28, z29, z30, z31, z32, z33, z34, z35, z36, z37, z38, z39, z40, z41, z42, z43, z44, z45, z46, z47, z48, z49, rfl⟩ := len50 hx
              obtain rfl : z6 = _ := hd 6 (by kernel_rfl)
              clear hd hx
              simp only [putAll, Act.put, List.setIfInBounds_toArray, List.set_cons_zero, List.set_cons_succ] at hK ⊢
              obtain ⟨d0, d1, d2, d3, d4, d5, d6, d7⟩ := HCA.out _ hC
              go_simp
              exact hK _ _ rfl hC (Below.refl _ _)
            refine steps_cons (fun K' x hx Y0 hC hd hK => ?_) ?_
            · obtain ⟨z0, z1, z2, z3, z4, z5, z6, z7, z8, z9, z10, z11, z12, z13, z14, z15, z16, z17, z18, z19, z20, z21, z22, z23, z24, z25, z26, z27, z28, z29, z30, z31, z32, z33, z34, z35, z36, z37, z38, z39, z40, z41, z42, z43, z44, z45, z46, z47, z48, z49, rfl⟩ := len50 hx
              obtain rfl : z3 = _ := hd 3 (by kernel_rfl)
              obtain rfl : z7 = _ := hd 7 (by kernel_rfl)
              clear hd hx
              simp only [putAll, Act.put, List.setIfInBounds_toArray, List.set_cons_zero, List.set_cons_succ] at hK ⊢
              go_simp
              exact hK _ _ rfl hC (Below.refl _ _)
            refine steps_cons (fun K' x hx Y0 hC hd hK => ?_) ?_
            · obtain ⟨z0, z1, z2, z3, z4, z5, z6, z7, z8, z9, z10, z11, z12, z13, z14, z15, z16, z17, z18, z19, z20, z21, z22, z23, z24, z25, z26, z27, z28, z29, z30, z31, z32, z33, z34, z35, z36, z37, z38, z39, z40, z41, z42, z43, z44, z45, z46, z47, z48, z49, rfl⟩ := len50 hx
              obtain rfl : z8 = _ := hd 8 (by kernel_rfl)
              clear hd hx
              simp only [putAll, Act.put, List.setIfInBounds_toArray, List.set_cons_zero, List.set_cons_succ] at hK ⊢
              go_simp
              exact hK _ _ rfl hC (Below.refl _ _)
            refine steps_cons (fun K' x hx Y0 hC hd hK => ?_) ?_
            · obtain ⟨z0, z1, z2, z3, z4, z5, z6, z7, z8, z9, z10, z11, z12, z13, z14, z15, z16, z17, z18, z19, z20, z21, z22, z23, z24, z25, z26, z27, z28, z29, z30, z31, z32, z33, z34, z35, z36, z37, z38, z39, z40, z41, z42, z43, z44, z45, z46, z47, z48, z49, rfl⟩ := len50 hx
              obtain rfl : z9 = _ := hd 9 (by kernel_rfl)
              clear hd hx
              simp only [putAll, Act.put, List.setIfInBounds_toArray, List.set_cons_zero, List.set_cons_succ] at hK ⊢
              go_simp
              exact hK _ _ rfl hC (Below.refl _ _)
            refine steps_cons (fun K' x hx Y0 hC hd hK => ?_) ?_
            · obtain ⟨z0, z1, z2, z3, z4, z5, z6, z7, z8, z9, z10, z11, z12, z13, z14, z15, z16, z17, z18, z19, z20, z21, z22, z23, z24, z25, z26, z27, z28, z29, z30, z31, z32, z33, z34, z35, z36, z37, z38, z39, z40, z41, z42, z43, z44, z45, z46, z47, z48, z49, rfl⟩ := len50 hx
              obtain rfl : z9 = _ := hd 9 (by kernel_rfl)
              clear hd hx
              simp only [putAll, Act.put, List.setIfInBounds_toArray, List.set_cons_zero, List.set_cons_succ] at hK ⊢
              go_simp
              exact hK _ _ rfl hC (Below.refl _ _)
            refine steps_cons (fun K' x hx Y0 hC hd hK => ?_) ?_
            · obtain ⟨z0, z1, z2, z3, z4, z5, z6, z7, z8, z9, z10, z11, z12, z13, z14, z15, z16, z17, z18, z19, z20, z21, z22, z23, z24, z25, z26, z27, z28, z29, z30, z31, z32, z33, z34, z35, z36, z37, z38, z39, z40, z41, z42, z43, z44, z45, z46, z47, z48, z49, rfl⟩ := len50 hx
              obtain rfl : z9 = _ := hd 9 (by kernel_rfl)
              obtain rfl : z10 = _ := hd 10 (by kernel_rfl)
              obtain rfl : z11 = _ := hd 11 (by kernel_rfl)
              clear hd hx
              simp only [putAll, Act.put, List.setIfInBounds_toArray, List.set_cons_zero, List.set_cons_succ] at hK ⊢
              go_simp
              exact hK _ _ rfl hC (Below.refl _ _)
            refine steps_cons (fun K' x hx Y0 hC hd hK => ?_) ?_
            · obtain ⟨z0, z1, z2, z3, z4, z5, z6, z7, z8, z9, z10, z11, z12, z13, z14, z15, z16, z17, z18, z19, z20, z21, z22, z23, z24, z25, z26, z27, z28, z29, z30, z31, z32, z33, z34, z35, z36, z37, z38, z39, z40, z41, z42, z43, z44, z45, z46, z47, z48, z49, rfl⟩ := len50 hx
              obtain rfl : z9 = _ := hd 9 (by kernel_rfl)
              obtain rfl : z12 = _ := hd 12 (by kernel_rfl)
              clear hd hx
              simp only [putAll, Act.put, List.setIfInBounds_toArray, List.set_cons_zero, List.set_cons_succ] at hK ⊢
              obtain ⟨d0, d1, d2, d3, d4, d5, d6, d7⟩ := HCA.out _ hC
              go_simp
              exact hK _ _ rfl hC (Below.refl _ _)
            refine steps_cons (fun K' x hx Y0 hC hd hK => ?_) ?_
            · obtain ⟨z0, z1, z2, z3, z4, z5, z6, z7, z8, z9, z10, z11, z12, z13, z14, z15, z16, z17, z18, z19, z20, z21, z22, z23, z24, z25, z26, z27, z28, z29, z30, z31, z32, z33, z34, z35, z36, z37, z38, z39, z40, z41, z42, z43, z44, z45, z46, z47, z48, z49, rfl⟩ := len50 hx
              obtain rfl : z9 = _ := hd 9 (by kernel_rfl)
              obtain rfl : z13 = _ := hd 13 (by kernel_rfl)
              clear hd hx
              simp only [putAll, Act.put, List.setIfInBounds_toArray, List.set_cons_zero, List.set_cons_succ] at hK ⊢
              go_simp
              (go_at_call 15; (with_reducible refine (HMY.out _).mono ?_); rintro e w1 ⟨rfl, hb⟩; exact hK _ _ rfl (hC.on hb) hb)
            refine steps_cons (fun K' x hx Y0 hC hd hK => ?_) ?_
            · obtain ⟨z0, z1, z2, z3, z4, z5, z6, z7, z8, z9, z10, z11, z12, z13, z14, z15, z16, z17, z18, z19, z20, z21, z22, z23, z24, z25, z26, z27, z28, z29, z30, z31, z32, z33, z34, z35, z36, z37, z38, z39, z40, z41, z42, z43, z44, z45, z46, z47, z48, z49, rfl⟩ := len50 hx
              obtain rfl : z9 = _ := hd 9 (by kernel_rfl)
              clear hd hx
              simp only [putAll, Act.put, List.setIfInBounds_toArray, List.set_cons_zero, List.set_cons_succ] at hK ⊢
              go_simp
              exact hK _ _ rfl hC (Below.refl _ _)
            refine steps_cons (fun K' x hx Y0 hC hd hK => ?_) ?_
            · obtain ⟨z0, z1, z2, z3, z4, z5, z6, z7, z8, z9, z10, z11, z12, z13, z14, z15, z16, z17, z18, z19, z20, z21, z22, z23, z24, z25, z26, z27, z28, z29, z30, z31, z32, z33, z34, z35, z36, z37, z38, z39, z40, z41, z42, z43, z44, z45, z46, z47, z48, z49, rfl⟩ := len50 hx
              obtain rfl : z9 = _ := hd 9 (by kernel_rfl)
              clear hd hx
              simp only [putAll, Act.put, List.setIfInBounds_toArray, List.set_cons_zero, List.set_cons_succ] at hK ⊢
              go_simp
              exact hK _ _ rfl hC (Below.refl _ _)
            refine steps_cons (fun K' x hx Y0 hC hd hK => ?_) ?_
            · obtain ⟨z0, z1, z2, z3, z4, z5, z6, z7, z8, z9, z10, z11, z12, z13, z14, z15, z16, z17, z18, z19, z20, z21, z22, z23, z24, z25, z26, z27, z28, z29, z30, z31, z32, z33, z34, z35, z36, z37, z38, z39, z40, z41, z42, z43, z44, z45, z46, z47, z48, z49, rfl⟩ := len50 hx
              obtain rfl : z9 = _ := hd 9 (by kernel_rfl)
              obtain rfl : z15 = _ := hd 15 (by kernel_rfl)
              obtain rfl : z16 = _ := hd 16 (by kernel_rfl)
              clear hd hx
              simp only [putAll, Act.put, List.setIfInBounds_toArray, List.set_cons_zero, List.set_cons_succ] at hK ⊢
              go_simp
              exact hK _ _ rfl hC (Below.refl _ _)
            refine steps_cons (fun K' x hx Y0 hC hd hK => ?_) ?_
            · obtain ⟨z0, z1, z2, z3, z4, z5, z6, z7, z8, z9, z10, z11, z12, z13, z14, z15, z16, z17, z18, z19, z20, z21, z22, z23, z24, z25, z26, z27, z28, z29, z30, z31, z32, z33, z34, z35, z36, z37, z38, z39, z40, z41, z42, z43, z44, z45, z46, z47, z48, z49, rfl⟩ := len50 hx
              obtain rfl : z9 = _ := hd 9 (by kernel_rfl)
              obtain rfl : z17 = _ := hd 17 (by kernel_rfl)
              clear hd hx
              simp only [putAll, Act.put, List.setIfInBounds_toArray, List.set_cons_zero, List.set_cons_succ] at hK ⊢
              obtain ⟨d0, d1, d2, d3, d4, d5, d6, d7⟩ := HCA.out _ hC
              go_simp
              exact hK _ _ rfl hC (Below.refl _ _)
            refine steps_cons (fun K' x hx Y0 hC hd hK => ?_) ?_
            · obtain ⟨z0, z1, z2, z3, z4, z5, z6, z7, z8, z9, z10, z11, z12, z13, z14, z15, z16, z17, z18, z19, z20, z21, z22, z23, z24, z25, z26, z27, z28, z29, z30, z31, z32, z33, z34, z35, z36, z37, z38, z39, z40, z41, z42, z43, z44, z45, z46, z47, z48, z49, rfl⟩ := len50 hx
              obtain rfl : z9 = _ := hd 9 (by kernel_rfl)
              obtain rfl : z14 = _ := hd 14 (by kernel_rfl)
              obtain rfl : z18 = _ := hd 18 (by kernel_rfl)
              clear hd hx
              simp only [putAll, Act.put, List.setIfInBounds_toArray, List.set_cons_zero, List.set_cons_succ] at hK ⊢
              go_simp
              (go_at_call 16; (with_reducible refine (HMR.out _).mono ?_); rintro e w1 ⟨rfl, hb⟩; exact hK _ _ rfl (hC.on hb) hb)
            refine steps_cons (fun K' x hx Y0 hC hd hK => ?_) ?_
            · obtain ⟨z0, z1, z2, z3, z4, z5, z6, z7, z8, z9, z10, z11, z12, z13, z14, z15, z16, z17, z18, z19, z20, z21, z22, z23, z24, z25, z26, z27, z28, z29, z30, z31, z32, z33, z34, z35, z36, z37, z38, z39, z40, z41, z42, z43, z44, z45, z46, z47, z48, z49, rfl⟩ := len50 hx
              obtain rfl : z9 = _ := hd 9 (by kernel_rfl)
              obtain rfl : z14 = _ := hd 14 (by kernel_rfl)
              obtain rfl : z19 = _ := hd 19 (by kernel_rfl)
              clear hd hx
              simp only [putAll, Act.put, List.setIfInBounds_toArray, List.set_cons_zero, List.set_cons_succ] at hK ⊢
              go_simp
              exact hK _ _ rfl hC (Below.refl _ _)
            refine steps_cons (fun K' x hx Y0 hC hd hK => ?_) ?_
            · obtain ⟨z0, z1, z2, z3, z4, z5, z6, z7, z8, z9, z10, z11, z12, z13, z14, z15, z16, z17, z18, z19, z20, z21, z22, z23, z24, z25, z26, z27, z28, z29, z30, z31, z32, z33, z34, z35, z36, z37, z38, z39, z40, z41, z42, z43, z44, z45, z46, z47, z48, z49, rfl⟩ := len50 hx
              obtain rfl : z9 = _ := hd 9 (by kernel_rfl)
              obtain rfl : z20 = _ := hd 20 (by kernel_rfl)
              clear hd hx
              simp only [putAll, Act.put, List.setIfInBounds_toArray, List.set_cons_zero, List.set_cons_succ] at hK ⊢
              go_simp
              exact hK _ _ rfl hC (Below.refl _ _)
            refine steps_cons (fun K' x hx Y0 hC hd hK => ?_) ?_
            · obtain ⟨z0, z1, z2, z3, z4, z5, z6, z7, z8, z9, z10, z11, z12, z13, z14, z15, z16, z17, z18, z19, z20, z21, z22, z23, z24, z25, z26, z27, z28, z29, z30, z31, z32, z33, z34, z35, z36, z37, z38, z39, z40, z41, z42, z43, z44, z45, z46, z47, z48, z49, rfl⟩ := len50 hx
              obtain rfl : z19 = _ := hd 19 (by kernel_rfl)
              obtain rfl : z21 = _ := hd 21 (by kernel_rfl)
              clear hd hx
              simp only [putAll, Act.put, List.setIfInBounds_toArray, List.set_cons_zero, List.set_cons_succ] at hK ⊢
              go_simp
              exact hK _ _ rfl hC (Below.refl _ _)
            refine steps_cons (fun K' x hx Y0 hC hd hK => ?_) ?_
            · obtain ⟨z0, z1, z2, z3, z4, z5, z6, z7, z8, z9, z10, z11, z12, z13, z14, z15, z16, z17, z18, z19, z20, z21, z22, z23, z24, z25, z26, z27, z28, z29, z30, z31, z32, z33, z34, z35, z36, z37, z38, z39, z40, z41, z42, z43, z44, z45, z46, z47, z48, z49, rfl⟩ := len50 hx
              obtain rfl : z22 = _ := hd 22 (by kernel_rfl)
              clear hd hx
              simp only [putAll, Act.put, List.setIfInBounds_toArray, List.set_cons_zero, List.set_cons_succ] at hK ⊢
              go_simp
              exact hK _ _ rfl hC (Below.refl _ _)
            refine steps_cons (fun K' x hx Y0 hC hd hK => ?_) ?_
            · obtain ⟨z0, z1, z2, z3, z4, z5, z6, z7, z8, z9, z10, z11, z12, z13, z14, z15, z16, z17, z18, z19, z20, z21, z22, z23, z24, z25, z26, z27, z28, z29, z30, z31, z32, z33, z34, z35, z36, z37, z38, z39, z40, z41, z42, z43, z44, z45, z46, z47, z48, z49, rfl⟩ := len50 hx
              obtain rfl : z22 = _ := hd 22 (by kernel_rfl)
              clear hd hx
              simp only [putAll, Act.put, List.setIfInBounds_toArray, List.set_cons_zero, List.set_cons_succ] at hK ⊢
              go_simp
              exact hK _ _ rfl hC (Below.refl _ _)
            refine steps_cons (fun K' x hx Y0 hC hd hK => ?_) ?_
            · obtain ⟨z0, z1, z2, z3, z4, z5, z6, z7, z8, z9, z10, z11, z12, z13, z14, z15, z16, z17, z18, z19, z20, z21, z22, z23, z24, z25, z26, z27, z28, z29, z30, z31, z32, z33, z34, z35, z36, z37, z38, z39, z40, z41, z42, z43, z44, z45, z46, z47, z48, z49, rfl⟩ := len50 hx
              obtain rfl : z22 = _ := hd 22 (by kernel_rfl)
              obtain rfl : z23 = _ := hd 23 (by kernel_rfl)
              obtain rfl : z24 = _ := hd 24 (by kernel_rfl)
              clear hd hx
              simp only [putAll, Act.put, List.setIfInBounds_toArray, List.set_cons_zero, List.set_cons_succ] at hK ⊢
              go_simp
              exact hK _ _ rfl hC (Below.refl _ _)
            refine steps_cons (fun K' x hx Y0 hC hd hK => ?_) ?_
            · obtain ⟨z0, z1, z2, z3, z4, z5, z6, z7, z8, z9, z10, z11, z12, z13, z14, z15, z16, z17, z18, z19, z20, z21, z22, z23, z24, z25, z26, z27, z28, z29, z30, z31, z32, z33, z34, z35, z36, z37, z38, z39, z40, z41, z42, z43, z44, z45, z46, z47, z48, z49, rfl⟩ := len50 hx
              obtain rfl : z22 = _ := hd 22 (by kernel_rfl)
              obtain rfl : z25 = _ := hd 25 (by kernel_rfl)
              clear hd hx
              simp only [putAll, Act.put, List.setIfInBounds_toArray, List.set_cons_zero, List.set_cons_succ] at hK ⊢
              obtain ⟨d0, d1, d2, d3, d4, d5, d6, d7⟩ := HCA.out _ hC
              go_simp
              exact hK _ _ rfl hC (Below.refl _ _)
            refine steps_cons (fun K' x hx Y0 hC hd hK => ?_) ?_
            · obtain ⟨z0, z1, z2, z3, z4, z5, z6, z7, z8, z9, z10, z11, z12, z13, z14, z15, z16, z17, z18, z19, z20, z21, z22, z23, z24, z25, z26, z27, z28, z29, z30, z31, z32, z33, z34, z35, z36, z37, z38, z39, z40, z41, z42, z43, z44, z45, z46, z47, z48, z49, rfl⟩ := len50 hx
              obtain rfl : z22 = _ := hd 22 (by kernel_rfl)
              clear hd hx
              simp only [putAll, Act.put, List.setIfInBounds_toArray, List.set_cons_zero, List.set_cons_succ] at hK ⊢
              obtain ⟨v0, v1, v2⟩ := hC.a.v.c3
              go_simp
              exact hK _ _ rfl hC (Below.refl _ _)
            refine steps_cons (fun K' x hx Y0 hC hd hK => ?_) ?_
            · obtain ⟨z0, z1, z2, z3, z4, z5, z6, z7, z8, z9, z10, z11, z12, z13, z14, z15, z16, z17, z18, z19, z20, z21, z22, z23, z24, z25, z26, z27, z28, z29, z30, z31, z32, z33, z34, z35, z36, z37, z38, z39, z40, z41, z42, z43, z44, z45, z46, z47, z48, z49, rfl⟩ := len50 hx
              obtain rfl : z22 = _ := hd 22 (by kernel_rfl)
              obtain rfl : z26 = _ := hd 26 (by kernel_rfl)
              obtain rfl : z27 = _ := hd 27 (by kernel_rfl)
              clear hd hx
              simp only [putAll, Act.put, List.setIfInBounds_toArray, List.set_cons_zero, List.set_cons_succ] at hK ⊢
              go_simp
              (go_at_call 17; (with_reducible refine (HSC.out _).mono ?_); rintro e w1 ⟨rfl, hb⟩; exact hK _ _ rfl (hC.on hb) hb)
            refine steps_cons (fun K' x hx Y0 hC hd hK => ?_) ?_
            · obtain ⟨z0, z1, z2, z3, z4, z5, z6, z7, z8, z9, z10, z11, z12, z13, z14, z15, z16, z17, z18, z19, z20, z21, z22, z23, z24, z25, z26, z27, z28, z29, z30, z31, z32, z33, z34, z35, z36, z37, z38, z39, z40, z41, z42, z43, z44, z45, z46, z47, z48, z49, rfl⟩ := len50 hx
              obtain rfl : z22 = _ := hd 22 (by kernel_rfl)
              clear hd hx
              simp only [putAll, Act.put, List.setIfInBounds_toArray, List.set_cons_zero, List.set_cons_succ] at hK ⊢
              go_simp
              exact hK _ _ rfl hC (Below.refl _ _)
            refine steps_cons (fun K' x hx Y0 hC hd hK => ?_) ?_
            · obtain ⟨z0, z1, z2, z3, z4, z5, z6, z7, z8, z9, z10, z11, z12, z13, z14, z15, z16, z17, z18, z19, z20, z21, z22, z23, z24, z25, z26, z27, z28, z29, z30, z31, z32, z33, z34, z35, z36, z37, z38, z39, z40, z41, z42, z43, z44, z45, z46, z47, z48, z49, rfl⟩ := len50 hx
              obtain rfl : z22 = _ := hd 22 (by kernel_rfl)
              clear hd hx
              simp only [putAll, Act.put, List.setIfInBounds_toArray, List.set_cons_zero, List.set_cons_succ] at hK ⊢
              go_simp
              exact hK _ _ rfl hC (Below.refl _ _)
            refine steps_cons (fun K' x hx Y0 hC hd hK => ?_) ?_
            · obtain ⟨z0, z1, z2, z3, z4, z5, z6, z7, z8, z9, z10, z11, z12, z13, z14, z15, z16, z17, z18, z19, z20, z21, z22, z23, z24, z25, z26, z27, z28, z29, z30, z31, z32, z33, z34, z35, z36, z37, z38, z39, z40, z41, z42, z43, z44, z45, z46, z47, z48, z49, rfl⟩ := len50 hx
              obtain rfl : z22 = _ := hd 22 (by kernel_rfl)
              obtain rfl : z29 = _ := hd 29 (by kernel_rfl)
              obtain rfl : z30 = _ := hd 30 (by kernel_rfl)
              clear hd hx
              simp only [putAll, Act.put, List.setIfInBounds_toArray, List.set_cons_zero, List.set_cons_succ] at hK ⊢
              go_simp
              exact hK _ _ rfl hC (Below.refl _ _)
            refine steps_cons (fun K' x hx Y0 hC hd hK => ?_) ?_
            · obtain ⟨z0, z1, z2, z3, z4, z5, z6, z7, z8, z9, z10, z11, z12, z13, z14, z15, z16, z17, z18, z19, z20, z21, z22, z23, z24, z25, z26, z27, z28, z29, z30, z31, z32, z33, z34, z35, z36, z37, z38, z39, z40, z41, z42, z43, z44, z45, z46, z47, z48, z49, rfl⟩ := len50 hx
              obtain rfl : z22 = _ := hd 22 (by kernel_rfl)
              obtain rfl : z31 = _ := hd 31 (by kernel_rfl)
              clear hd hx
              simp only [putAll, Act.put, List.setIfInBounds_toArray, List.set_cons_zero, List.set_cons_succ] at hK ⊢
              obtain ⟨d0, d1, d2, d3, d4, d5, d6, d7⟩ := HCA.out _ hC
              go_simp
              exact hK _ _ rfl hC (Below.refl _ _)
            refine steps_cons (fun K' x hx Y0 hC hd hK => ?_) ?_
            · obtain ⟨z0, z1, z2, z3, z4, z5, z6, z7, z8, z9, z10, z11, z12, z13, z14, z15, z16, z17, z18, z19, z20, z21, z22, z23, z24, z25, z26, z27, z28, z29, z30, z31, z32, z33, z34, z35, z36, z37, z38, z39, z40, z41, z42, z43, z44, z45, z46, z47, z48, z49, rfl⟩ := len50 hx
              obtain rfl : z22 = _ := hd 22 (by kernel_rfl)
              clear hd hx
              simp only [putAll, Act.put, List.setIfInBounds_toArray, List.set_cons_zero, List.set_cons_succ] at hK ⊢
              obtain ⟨v0, v1, v2⟩ := hC.a.v.c3
              go_simp
              exact hK _ _ rfl hC (Below.refl _ _)
            refine steps_cons (fun K' x hx Y0 hC hd hK => ?_) ?_
            · obtain ⟨z0, z1, z2, z3, z4, z5, z6, z7, z8, z9, z10, z11, z12, z13, z14, z15, z16, z17, z18, z19, z20, z21, z22, z23, z24, z25, z26, z27, z28, z29, z30, z31, z32, z33, z34, z35, z36, z37, z38, z39, z40, z41, z42, z43, z44, z45, z46, z47, z48, z49, rfl⟩ := len50 hx
              obtain rfl : z22 = _ := hd 22 (by kernel_rfl)
              obtain rfl : z28 = _ := hd 28 (by kernel_rfl)
              obtain rfl : z32 = _ := hd 32 (by kernel_rfl)
              obtain rfl : z33 = _ := hd 33 (by kernel_rfl)
              clear hd hx
              simp only [putAll, Act.put, List.setIfInBounds_toArray, List.set_cons_zero, List.set_cons_succ] at hK ⊢
              go_simp
              (go_at_call 18; (with_reducible refine (HSR.out _).mono ?_); rintro e w1 ⟨rfl, hb⟩; exact hK _ _ rfl (hC.on hb) hb)
            refine steps_cons (fun K' x hx Y0 hC hd hK => ?_) ?_
            · obtain ⟨z0, z1, z2, z3, z4, z5, z6, z7, z8, z9, z10, z11, z12, z13, z14, z15, z16, z17, z18, z19, z20, z21, z22, z23, z24, z25, z26, z27, z28, z29, z30, z31, z32, z33, z34, z35, z36, z37, z38, z39, z40, z41, z42, z43, z44, z45, z46, z47, z48, z49, rfl⟩ := len50 hx
              obtain rfl : z22 = _ := hd 22 (by kernel_rfl)
              obtain rfl : z28 = _ := hd 28 (by kernel_rfl)
              obtain rfl : z34 = _ := hd 34 (by kernel_rfl)
              clear hd hx
              simp only [putAll, Act.put, List.setIfInBounds_toArray, List.set_cons_zero, List.set_cons_succ] at hK ⊢
              go_simp
              exact hK _ _ rfl hC (Below.refl _ _)
            refine steps_cons (fun K' x hx Y0 hC hd hK => ?_) ?_
            · obtain ⟨z0, z1, z2, z3, z4, z5, z6, z7, z8, z9, z10, z11, z12, z13, z14, z15, z16, z17, z18, z19, z20, z21, z22, z23, z24, z25, z26, z27, z28, z29, z30, z31, z32, z33, z34, z35, z36, z37, z38, z39, z40, z41, z42, z43, z44, z45, z46, z47, z48, z49, rfl⟩ := len50 hx
              obtain rfl : z22 = _ := hd 22 (by kernel_rfl)
              obtain rfl : z35 = _ := hd 35 (by kernel_rfl)
              clear hd hx
              simp only [putAll, Act.put, List.setIfInBounds_toArray, List.set_cons_zero, List.set_cons_succ] at hK ⊢
              go_simp
              exact hK _ _ rfl hC (Below.refl _ _)
            refine steps_cons (fun K' x hx Y0 hC hd hK => ?_) ?_
            · obtain ⟨z0, z1, z2, z3, z4, z5, z6, z7, z8, z9, z10, z11, z12, z13, z14, z15, z16, z17, z18, z19, z20, z21, z22, z23, z24, z25, z26, z27, z28, z29, z30, z31, z32, z33, z34, z35, z36, z37, z38, z39, z40, z41, z42, z43, z44, z45, z46, z47, z48, z49, rfl⟩ := len50 hx
              obtain rfl : z34 = _ := hd 34 (by kernel_rfl)
              obtain rfl : z36 = _ := hd 36 (by kernel_rfl)
              clear hd hx
              simp only [putAll, Act.put, List.setIfInBounds_toArray, List.set_cons_zero, List.set_cons_succ] at hK ⊢
              go_simp
              exact hK _ _ rfl hC (Below.refl _ _)
            refine steps_cons (fun K' x hx Y0 hC hd hK => ?_) ?_
            · obtain ⟨z0, z1, z2, z3, z4, z5, z6, z7, z8, z9, z10, z11, z12, z13, z14, z15, z16, z17, z18, z19, z20, z21, z22, z23, z24, z25, z26, z27, z28, z29, z30, z31, z32, z33, z34, z35, z36, z37, z38, z39, z40, z41, z42, z43, z44, z45, z46, z47, z48, z49, rfl⟩ := len50 hx
              obtain rfl : z37 = _ := hd 37 (by kernel_rfl)
              clear hd hx
              simp only [putAll, Act.put, List.setIfInBounds_toArray, List.set_cons_zero, List.set_cons_succ] at hK ⊢
              go_simp
              exact hK _ _ rfl hC (Below.refl _ _)
            refine steps_cons (fun K' x hx Y0 hC hd hK => ?_) ?_
            · obtain ⟨z0, z1, z2, z3, z4, z5, z6, z7, z8, z9, z10, z11, z12, z13, z14, z15, z16, z17, z18, z19, z20, z21, z22, z23, z24, z25, z26, z27, z28, z29, z30, z31, z32, z33, z34, z35, z36, z37, z38, z39, z40, z41, z42, z43, z44, z45, z46, z47, z48, z49, rfl⟩ := len50 hx
              obtain rfl : z37 = _ := hd 37 (by kernel_rfl)
              clear hd hx
              simp only [putAll, Act.put, List.setIfInBounds_toArray, List.set_cons_zero, List.set_cons_succ] at hK ⊢
              go_simp
              exact hK _ _ rfl hC (Below.refl _ _)
            refine steps_cons (fun K' x hx Y0 hC hd hK => ?_) ?_
            · obtain ⟨z0, z1, z2, z3, z4, z5, z6, z7, z8, z9, z10, z11, z12, z13, z14, z15, z16, z17, z18, z19, z20, z21, z22, z23, z24, z25, z26, z27, z28, z29, z30, z31, z32, z33, z34, z35, z36, z37, z38, z39, z40, z41, z42, z43, z44, z45, z46, z47, z48, z49, rfl⟩ := len50 hx
              obtain rfl : z37 = _ := hd 37 (by kernel_rfl)
              obtain rfl : z38 = _ := hd 38 (by kernel_rfl)
              obtain rfl : z39 = _ := hd 39 (by kernel_rfl)
              clear hd hx
              simp only [putAll, Act.put, List.setIfInBounds_toArray, List.set_cons_zero, List.set_cons_succ] at hK ⊢
              go_simp
              exact hK _ _ rfl hC (Below.refl _ _)
            refine steps_cons (fun K' x hx Y0 hC hd hK => ?_) ?_
            · obtain ⟨z0, z1, z2, z3, z4, z5, z6, z7, z8, z9, z10, z11, z12, z13, z14, z15, z16, z17, z18, z19, z20, z21, z22, z23, z24, z25, z26, z27, z28, z29, z30, z31, z32, z33, z34, z35, z36, z37, z38, z39, z40, z41, z42, z43, z44, z45, z46, z47, z48, z49, rfl⟩ := len50 hx
              obtain rfl : z37 = _ := hd 37 (by kernel_rfl)
              obtain rfl : z40 = _ := hd 40 (by kernel_rfl)
              clear hd hx
              simp only [putAll, Act.put, List.setIfInBounds_toArray, List.set_cons_zero, List.set_cons_succ] at hK ⊢
              obtain ⟨d0, d1, d2, d3, d4, d5, d6, d7⟩ := HCA.out _ hC
              go_simp
              exact hK _ _ rfl hC (Below.refl _ _)
            refine steps_cons (fun K' x hx Y0 hC hd hK => ?_) ?_
            · obtain ⟨z0, z1, z2, z3, z4, z5, z6, z7, z8, z9, z10, z11, z12, z13, z14, z15, z16, z17, z18, z19, z20, z21, z22, z23, z24, z25, z26, z27, z28, z29, z30, z31, z32, z33, z34, z35, z36, z37, z38, z39, z40, z41, z42, z43, z44, z45, z46, z47, z48, z49, rfl⟩ := len50 hx
              obtain rfl : z37 = _ := hd 37 (by kernel_rfl)
              clear hd hx
              simp only [putAll, Act.put, List.setIfInBounds_toArray, List.set_cons_zero, List.set_cons_succ] at hK ⊢
              obtain ⟨v0, v1, v2⟩ := hC.a.v.c3
              go_simp
              exact hK _ _ rfl hC (Below.refl _ _)
            refine steps_cons (fun K' x hx Y0 hC hd hK => ?_) ?_
            · obtain ⟨z0, z1, z2, z3, z4, z5, z6, z7, z8, z9, z10, z11, z12, z13, z14, z15, z16, z17, z18, z19, z20, z21, z22, z23, z24, z25, z26, z27, z28, z29, z30, z31, z32, z33, z34, z35, z36, z37, z38, z39, z40, z41, z42, z43, z44, z45, z46, z47, z48, z49, rfl⟩ := len50 hx
              obtain rfl : z37 = _ := hd 37 (by kernel_rfl)
              obtain rfl : z41 = _ := hd 41 (by kernel_rfl)
              obtain rfl : z42 = _ := hd 42 (by kernel_rfl)
              clear hd hx
              simp only [putAll, Act.put, List.setIfInBounds_toArray, List.set_cons_zero, List.set_cons_succ] at hK ⊢
              go_simp
              (go_at_call 19; (with_reducible refine (HTK.out _).mono ?_); rintro e w1 ⟨rfl, hb⟩; exact hK _ _ rfl (hC.on hb) hb)
            refine steps_cons (fun K' x hx Y0 hC hd hK => ?_) ?_
            · obtain ⟨z0, z1, z2, z3, z4, z5, z6, z7, z8, z9, z10, z11, z12, z13, z14, z15, z16, z17, z18, z19, z20, z21, z22, z23, z24, z25, z26, z27, z28, z29, z30, z31, z32, z33, z34, z35, z36, z37, z38, z39, z40, z41, z42, z43, z44, z45, z46, z47, z48, z49, rfl⟩ := len50 hx
              obtain rfl : z37 = _ := hd 37 (by kernel_rfl)
              clear hd hx
              simp only [putAll, Act.put, List.setIfInBounds_toArray, List.set_cons_zero, List.set_cons_succ] at hK ⊢
              go_simp
              exact hK _ _ rfl hC (Below.refl _ _)
            refine steps_cons (fun K' x hx Y0 hC hd hK => ?_) ?_
            · obtain ⟨z0, z1, z2, z3, z4, z5, z6, z7, z8, z9, z10, z11, z12, z13, z14, z15, z16, z17, z18, z19, z20, z21, z22, z23, z24, z25, z26, z27, z28, z29, z30, z31, z32, z33, z34, z35, z36, z37, z38, z39, z40, z41, z42, z43, z44, z45, z46, z47, z48, z49, rfl⟩ := len50 hx
              obtain rfl : z37 = _ := hd 37 (by kernel_rfl)
              clear hd hx
              simp only [putAll, Act.put, List.setIfInBounds_toArray, List.set_cons_zero, List.set_cons_succ] at hK ⊢
              go_simp
              exact hK _ _ rfl hC (Below.refl _ _)
            refine steps_cons (fun K' x hx Y0 hC hd hK => ?_) ?_
            · obtain ⟨z0, z1, z2, z3, z4, z5, z6, z7, z8, z9, z10, z11, z12, z13, z14, z15, z16, z17, z18, z19, z20, z21, z22, z23, z24, z25, z26, z27, z28, z29, z30, z31, z32, z33, z34, z35, z36, z37, z38, z39, z40, z41, z42, z43, z44, z45, z46, z47, z48, z49, rfl⟩ := len50 hx
              obtain rfl : z37 = _ := hd 37 (by kernel_rfl)
              obtain rfl : z44 = _ := hd 44 (by kernel_rfl)
              obtain rfl : z45 = _ := hd 45 (by kernel_rfl)
              clear hd hx
              simp only [putAll, Act.put, List.setIfInBounds_toArray, List.set_cons_zero, List.set_cons_succ] at hK ⊢
              go_simp
              exact hK _ _ rfl hC (Below.refl _ _)
            refine steps_cons (fun K' x hx Y0 hC hd hK => ?_) ?_
            · obtain ⟨z0, z1, z2, z3, z4, z5, z6, z7, z8, z9, z10, z11, z12, z13, z14, z15, z16, z17, z18, z19, z20, z21, z22, z23, z24, z25, z26, z27, z28, z29, z30, z31, z32, z33, z34, z35, z36, z37, z38, z39, z40, z41, z42, z43, z44, z45, z46, z47, z48, z49, rfl⟩ := len50 hx
              obtain rfl : z37 = _ := hd 37 (by kernel_rfl)
              obtain rfl : z46 = _ := hd 46 (by kernel_rfl)
              clear hd hx
              simp only [putAll, Act.put, List.setIfInBounds_toArray, List.set_cons_zero, List.set_cons_succ] at hK ⊢
              obtain ⟨d0, d1, d2, d3, d4, d5, d6, d7⟩ := HCA.out _ hC
              go_simp
              exact hK _ _ rfl hC (Below.refl _ _)
            refine steps_cons (fun K' x hx Y0 hC hd hK => ?_) ?_
            · obtain ⟨z0, z1, z2, z3, z4, z5, z6, z7, z8, z9, z10, z11, z12, z13, z14, z15, z16, z17, z18, z19, z20, z21, z22, z23, z24, z25, z26, z27, z28, z29, z30, z31, z32, z33, z34, z35, z36, z37, z38, z39, z40, z41, z42, z43, z44, z45, z46, z47, z48, z49, rfl⟩ := len50 hx
              obtain rfl : z37 = _ := hd 37 (by kernel_rfl)
              clear hd hx
              simp only [putAll, Act.put, List.setIfInBounds_toArray, List.set_cons_zero, List.set_cons_succ] at hK ⊢
              obtain ⟨v0, v1, v2⟩ := hC.a.v.c3
              go_simp
              exact hK _ _ rfl hC (Below.refl _ _)
            refine steps_cons (fun K' x hx Y0 hC hd hK => ?_) ?_
            · obtain ⟨z0, z1, z2, z3, z4, z5, z6, z7, z8, z9, z10, z11, z12, z13, z14, z15, z16, z17, z18, z19, z20, z21, z22, z23, z24, z25, z26, z27, z28, z29, z30, z31, z32, z33, z34, z35, z36, z37, z38, z39, z40, z41, z42, z43, z44, z45, z46, z47, z48, z49, rfl⟩ := len50 hx
              obtain rfl : z37 = _ := hd 37 (by kernel_rfl)
              obtain rfl : z43 = _ := hd 43 (by kernel_rfl)
              obtain rfl : z47 = _ := hd 47 (by kernel_rfl)
              obtain rfl : z48 = _ := hd 48 (by kernel_rfl)
              clear hd hx
              simp only [putAll, Act.put, List.setIfInBounds_toArray, List.set_cons_zero, List.set_cons_succ] at hK ⊢
              go_simp
              (go_at_call 18; (with_reducible refine (HSR.out _).mono ?_); rintro e w1 ⟨rfl, hb⟩; exact hK _ _ rfl (hC.on hb) hb)
            exact trivial
          case hzT =>
            intro x hx Y0 hC hd
            have q0 : x.getD 0 undef = _ := hd 0 (by omega)
            have q1 : x.getD 1 undef = _ := hd 1 (by omega)
            have q2 : x.getD 2 undef = _ := hd 2 (by omega)
            have q3 : x.getD 3 undef = _ := hd 3 (by omega)
            have q4 : x.getD 4 undef = _ := hd 4 (by omega)
            have q5 : x.getD 5 undef = _ := hd 5 (by omega)
            have q6 : x.getD 6 undef = _ := hd 6 (by omega)
            have q7 : x.getD 7 undef = _ := hd 7 (by omega)
            have q8 : x.getD 8 undef = _ := hd 8 (by omega)
            have q9 : x.getD 9 undef = _ := hd 9 (by omega)
            have q10 : x.getD 10 undef = _ := hd 10 (by omega)
            have q11 : x.getD 11 undef = _ := hd 11 (by omega)
            have q12 : x.getD 12 undef = _ := hd 12 (by omega)
            have q13 : x.getD 13 undef = _ := hd 13 (by omega)
            have q14 : x.getD 14 undef = _ := hd 14 (by omega)
            have q15 : x.getD 15 undef = _ := hd 15 (by omega)
            have q16 : x.getD 16 undef = _ := hd 16 (by omega)
            have q17 : x.getD 17 undef = _ := hd 17 (by omega)
            have q18 : x.getD 18 undef = _ := hd 18 (by omega)
            have q19 : x.getD 19 undef = _ := hd 19 (by omega)
            have q20 : x.getD 20 undef = _ := hd 20 (by omega)
            have q21 : x.getD 21 undef = _ := hd 21 (by omega)
            have q22 : x.getD 22 undef = _ := hd 22 (by omega)
            have q23 : x.getD 23 undef = _ := hd 23 (by omega)
            have q24 : x.getD 24 undef = _ := hd 24 (by omega)
            have q25 : x.getD 25 undef = _ := hd 25 (by omega)
            have q26 : x.getD 26 undef = _ := hd 26 (by omega)
            have q27 : x.getD 27 undef = _ := hd 27 (by omega)
            have q28 : x.getD 28 undef = _ := hd 28 (by omega)
            have q29 : x.getD 29 undef = _ := hd 29 (by omega)
            have q30 : x.getD 30 undef = _ := hd 30 (by omega)
            have q31 : x.getD 31 undef = _ := hd 31 (by omega)
            have q32 : x.getD 32 undef = _ := hd 32 (by omega)
            have q33 : x.getD 33 undef = _ := hd 33 (by omega)
            have q34 : x.getD 34 undef = _ := hd 34 (by omega)
            have q35 : x.getD 35 undef = _ := hd 35 (by omega)
            have q36 : x.getD 36 undef = _ := hd 36 (by omega)
            have q37 : x.getD 37 undef = _ := hd 37 (by omega)
            have q38 : x.getD 38 undef = _ := hd 38 (by omega)
            have q39 : x.getD 39 undef = _ := hd 39 (by omega)
            have q40 : x.getD 40 undef = _ := hd 40 (by omega)
            have q41 : x.getD 41 undef = _ := hd 41 (by omega)
            have q42 : x.getD 42 undef = _ := hd 42 (by omega)
            have q43 : x.getD 43 undef = _ := hd 43 (by omega)
            have q44 : x.getD 44 undef = _ := hd 44 (by omega)
            have q45 : x.getD 45 undef = _ := hd 45 (by omega)
            have q46 : x.getD 46 undef = _ := hd 46 (by omega)
            have q47 : x.getD 47 undef = _ := hd 47 (by omega)
            have q48 : x.getD 48 undef = _ := hd 48 (by omega)
            have q49 : x.getD 49 undef = _ := hd 49 (by omega)
            rw [get50 hx, q0, q1, q2, q3, q4, q5, q6, q7, q8, q9, q10, q11, q12, q13, q14, q15, q16, q17, q18, q19, q20, q21, q22, q23, q24, q25, q26, q27, q28, q29, q30, q31, q32, q33, q34, q35, q36, q37, q38, q39, q40, q41, q42, q43, q44, q45, q46, q47, q48, q49]
            simp only [putAll, Act.put, List.setIfInBounds_toArray, List.set_cons_zero, List.set_cons_succ]
            have HC := Lib.hid hC
            clear hd hC q0 q1 q2 q3 q4 q5 q6 q7 q8 q9 q10 q11 q12 q13 q14 q15 q16 q17 q18 q19 q20 q21 q22 q23 q24 q25 q26 q27 q28 q29 q30 q31 q32 q33 q34 q35 q36 q37 q38 q39 q40 q41 q42 q43 q44 q45 q46 q47 q48 q49
            show wpList Try.prog _ _ (_ :: _ :: _ :: []) _ _
            go_wp2_with fail
            go_wp2_with fail
            go_roundw
            case rel => exact ⟨k + 1, by go_num, Nat.succ_le_of_lt HLT.out, HC.out⟩
            case measure => have := HLT.out; simp [intOf]; omega
  · have h41 : decide (40 < N) = true := by simp; omega
    have h42 : decide ((40 : Int) < N) = true := by simp; omega
    have B0 := Lib.hid X0.out.b
    clear hA hN hNc hc hok hno bp bq br h40
    go_enter Try.func3, Try.ntmps3
    go_wp2_with (first | (go_at_call 9; (with_reducible refine (k0.out _).mono ?_); rintro e w1 ⟨rfl, hb⟩; have B1 := Lib.hid (B0.out.trans (hb.mono B0.out.size)); clear hb))
    go_ret
    exact ⟨rfl, B1.out⟩
end Go.Proofs.Ytjpnkecfoealoaa
