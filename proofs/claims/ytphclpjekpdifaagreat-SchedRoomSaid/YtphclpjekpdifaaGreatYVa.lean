import Derived.Test.YtphclpjekpdifaaGreatYE
namespace Go.Proofs.YtphclpjekpdifaaGreat.Vc
set_option maxRecDepth 20000
open Go.RowKit
set_option linter.unusedVariables false
theorem outV_ok {X Y Z : Int} (h : I64 X ∧ I64 Y ∧ I64 Z) : outV X Y Z = .tuple #[.agg #[.int .i64 X, .int .i64 Y, .int .i64 Z], .int .i64 0] := by unfold outV; rw [if_pos h]; rfl
theorem below_step {w w1 w2 : World} (hB : Below w.heap.size w w1) (hb : Below w1.heap.size w1 w2) : Below w.heap.size w w2 := hB.trans (hb.mono hB.size)
theorem below_box {w w1 : World} (hB : Below w.heap.size w w1) (o : Obj) : Below w.heap.size w (w1.alloc o) := hB.alloc hB.size o
structure Row (w : World) (A : Option Addr) (n cap : Nat) (D : List Nat) : Prop where
  at' : DigsAt w w.heap.size A D
  len : D.length = n
  le : n ≤ cap
  cap' : cap ≤ 9223372036854775807
  none' : A = none → cap = 0
  dig : Pd.Dig D
  small : n ≤ 100000
theorem Row.on {w w' : World} {A : Option Addr} {n cap : Nat} {D : List Nat} (h : Row w A n cap D) (hb : Below w.heap.size w w') : Row w' A n cap D := ⟨h.at'.on hb, h.len, h.le, h.cap', h.none', h.dig, h.small⟩
theorem Row.digit {w : World} {A : Option Addr} {n cap : Nat} {D : List Nat} (h : Row w A n cap D) (i : Nat) (hi : i ≤ 1000000) :
    Calls Tryz.prog 173 #[.slice A n cap, .int .i64 (i : Int)] w fun e w' => e = .returned (.int .i64 (Pd.dg D i : Nat)) ∧ w = w' := digit_any D A n cap i w h.at' h.len (by have := h.small; omega) hi
def LessRel (a b : List Nat) (N : Nat) (i : Value) : Prop := ∃ k : Nat, k ≤ N ∧ i = .int .i64 ((k : Int) - 1) ∧ ∀ j, k ≤ j → j < N → Pd.dg a j = Pd.dg b j
def lessB (a b : List Nat) : Bool := decide (Pd.val a < Pd.val b)
theorem less_any (a b : List Nat) (A A' : Option Addr) (n cap n' cap' : Nat) (w : World) (ra : Row w A n cap a) (rb : Row w A' n' cap' b) :
    Calls Tryz.prog 130 #[.slice A n cap, .slice A' n' cap'] w fun e w' => e = .returned (.bool (lessB a b)) ∧ w = w' := by
  have RA := Lib.hid ra
  have RB := Lib.hid rb
  have hs := ra.small
  have hs' := rb.small
  have ha := Lib.hid (show a.length ≤ max n n' by rw [ra.len]; omega)
  have hb := Lib.hid (show b.length ≤ max n n' by rw [rb.len]; omega)
  clear ra rb
  have key : ∀ N : Nat, N ≤ 100000 → max n n' = N → (N = n ∨ N = n') := by omega
  have cs : (n' ≤ n ∧ max n n' = n) ∨ (n < n' ∧ max n n' = n') := by omega
  clear key
  have CS := Lib.hid cs
  clear cs
  rcases CS.out with ⟨hc, hm⟩ | ⟨hc, hm⟩
  all_goals
    clear CS
    rw [hm] at ha hb
    clear hm
    first
      | have hd : decide (n < n') = false := by simp; omega
      | have hd : decide (n < n') = true := by simpa using hc
    go_enter Tryz.func130, Tryz.ntmps130
    go_wp2_with fail
  · go_loop [6] (LessRel a b n) (fun i => (intOf i + 1).toNat)
    case atStart => exact ⟨n, Nat.le_refl _, rfl, fun j h1 h2 => by omega⟩
    case round =>
      obtain ⟨k, hk, rfl, he⟩ := hrel
      have HE := Lib.hid he
      clear he
      cases k with
      | zero =>
        have e1 := Pd.less_same ha.out hb.out fun j hj => HE.out j (by omega) hj
        have E := Lib.hid (show lessB a b = false by unfold lessB; rw [e1]; simp)
        rw [show ((0 : Nat) : Int) - 1 = -1 from by omega]
        clear e1
        go_wp2_with fail
        go_ret
        exact ⟨by rw [E.out]; rfl, rfl⟩
      | succ j =>
        rw [show ((j + 1 : Nat) : Int) - 1 = (j : Int) from by omega]
        have D1 := Lib.hid (RA.out.digit j (by omega))
        have D2 := Lib.hid (RB.out.digit j (by omega))
        have XY := Lib.hid (show Pd.dg a j < Pd.dg b j → lessB a b = true from fun h => by
          unfold lessB; simpa using Pd.less_yes ha.out hb.out RA.out.dig RB.out.dig (show j < n by omega) (fun i h1 h2 => HE.out i (by omega) h2) h)
        have YX := Lib.hid (show Pd.dg b j < Pd.dg a j → lessB a b = false from fun h => by
          have := Pd.less_yes hb.out ha.out RB.out.dig RA.out.dig (show j < n by omega) (fun i h1 h2 => (HE.out i (by omega) h2).symm) h
          unfold lessB; simp; omega)
        have EQ := Lib.hid (show Pd.dg a j = Pd.dg b j → LessRel a b n (.int .i64 ((j : Int) - 1)) from fun h => ⟨j, by omega, rfl, fun i h1 h2 => by
          rcases Nat.eq_or_lt_of_le h1 with h3 | h3
          · rw [← h3]; exact h
          · exact HE.out i h3 h2⟩)
        generalize Pd.dg a j = x at *
        generalize Pd.dg b j = y at *
        rcases Nat.lt_trichotomy x y with h | h | h
        · have E := Lib.hid (XY.out h)
          have g1 : ((x : Int) == (y : Int)) = false := by rw [beq_eq_false_iff_ne]; omega
          have g2 : (x == y) = false := by rw [beq_eq_false_iff_ne]; omega
          have g3 : decide (x < y) = true := by simpa using h
          clear XY YX EQ h
          go_wp2_with (first | (go_at_call 173; (with_reducible refine D1.out.mono ?_); rintro e w' ⟨rfl, rfl⟩) | (go_at_call 173; (with_reducible refine D2.out.mono ?_); rintro e w' ⟨rfl, rfl⟩))
          go_ret
          exact ⟨by rw [E.out]; rfl, rfl⟩
        · have E := Lib.hid (EQ.out h)
          subst h
          clear XY YX EQ
          go_wp2_with (first | (go_at_call 173; (with_reducible refine D1.out.mono ?_); rintro e w' ⟨rfl, rfl⟩) | (go_at_call 173; (with_reducible refine D2.out.mono ?_); rintro e w' ⟨rfl, rfl⟩))
          go_round
          case rel => exact E.out
          case measure => simp [intOf] <;> omega
        · have E := Lib.hid (YX.out h)
          have g1 : ((x : Int) == (y : Int)) = false := by rw [beq_eq_false_iff_ne]; omega
          have g2 : (x == y) = false := by rw [beq_eq_false_iff_ne]; omega
          have g3 : decide (x < y) = false := by simp; omega
          clear XY YX EQ h
          go_wp2_with (first | (go_at_call 173; (with_reducible refine D1.out.mono ?_); rintro e w' ⟨rfl, rfl⟩) | (go_at_call 173; (with_reducible refine D2.out.mono ?_); rintro e w' ⟨rfl, rfl⟩))
          go_ret
          exact ⟨by rw [E.out]; rfl, rfl⟩
  · go_loop [6] (LessRel a b n') (fun i => (intOf i + 1).toNat)
    case atStart => exact ⟨n', Nat.le_refl _, rfl, fun j h1 h2 => by omega⟩
    case round =>
      obtain ⟨k, hk, rfl, he⟩ := hrel
      have HE := Lib.hid he
      clear he
      cases k with
      | zero =>
        have e1 := Pd.less_same ha.out hb.out fun j hj => HE.out j (by omega) hj
        have E := Lib.hid (show lessB a b = false by unfold lessB; rw [e1]; simp)
        rw [show ((0 : Nat) : Int) - 1 = -1 from by omega]
        clear e1
        go_wp2_with fail
        go_ret
        exact ⟨by rw [E.out]; rfl, rfl⟩
      | succ j =>
        rw [show ((j + 1 : Nat) : Int) - 1 = (j : Int) from by omega]
        have D1 := Lib.hid (RA.out.digit j (by omega))
        have D2 := Lib.hid (RB.out.digit j (by omega))
        have XY := Lib.hid (show Pd.dg a j < Pd.dg b j → lessB a b = true from fun h => by
          unfold lessB; simpa using Pd.less_yes ha.out hb.out RA.out.dig RB.out.dig (show j < n' by omega) (fun i h1 h2 => HE.out i (by omega) h2) h)
        have YX := Lib.hid (show Pd.dg b j < Pd.dg a j → lessB a b = false from fun h => by
          have := Pd.less_yes hb.out ha.out RB.out.dig RA.out.dig (show j < n' by omega) (fun i h1 h2 => (HE.out i (by omega) h2).symm) h
          unfold lessB; simp; omega)
        have EQ := Lib.hid (show Pd.dg a j = Pd.dg b j → LessRel a b n' (.int .i64 ((j : Int) - 1)) from fun h => ⟨j, by omega, rfl, fun i h1 h2 => by
          rcases Nat.eq_or_lt_of_le h1 with h3 | h3
          · rw [← h3]; exact h
          · exact HE.out i h3 h2⟩)
        generalize Pd.dg a j = x at *
        generalize Pd.dg b j = y at *
        rcases Nat.lt_trichotomy x y with h | h | h
        · have E := Lib.hid (XY.out h)
          have g1 : ((x : Int) == (y : Int)) = false := by rw [beq_eq_false_iff_ne]; omega
          have g2 : (x == y) = false := by rw [beq_eq_false_iff_ne]; omega
          have g3 : decide (x < y) = true := by simpa using h
          clear XY YX EQ h
          go_wp2_with (first | (go_at_call 173; (with_reducible refine D1.out.mono ?_); rintro e w' ⟨rfl, rfl⟩) | (go_at_call 173; (with_reducible refine D2.out.mono ?_); rintro e w' ⟨rfl, rfl⟩))
          go_ret
          exact ⟨by rw [E.out]; rfl, rfl⟩
        · have E := Lib.hid (EQ.out h)
          subst h
          clear XY YX EQ
          go_wp2_with (first | (go_at_call 173; (with_reducible refine D1.out.mono ?_); rintro e w' ⟨rfl, rfl⟩) | (go_at_call 173; (with_reducible refine D2.out.mono ?_); rintro e w' ⟨rfl, rfl⟩))
          go_round
          case rel => exact E.out
          case measure => simp [intOf] <;> omega
        · have E := Lib.hid (YX.out h)
          have g1 : ((x : Int) == (y : Int)) = false := by rw [beq_eq_false_iff_ne]; omega
          have g2 : (x == y) = false := by rw [beq_eq_false_iff_ne]; omega
          have g3 : decide (x < y) = false := by simp; omega
          clear XY YX EQ h
          go_wp2_with (first | (go_at_call 173; (with_reducible refine D1.out.mono ?_); rintro e w' ⟨rfl, rfl⟩) | (go_at_call 173; (with_reducible refine D2.out.mono ?_); rintro e w' ⟨rfl, rfl⟩))
          go_ret
          exact ⟨by rw [E.out]; rfl, rfl⟩
def plusV (minus : Bool) (a b : List Nat) : Nat := if minus then Pd.val a - Pd.val b else Pd.val a + Pd.val b
def RowPost (v N : Nat) (w : World) (e : Ending) (w' : World) : Prop := ∃ A n cap D, e = .returned (.slice A n cap) ∧ Row w' A n cap D ∧ Pd.val D = v ∧ n ≤ N + 1 ∧ Below w.heap.size w w'
def PlusRel (w : World) (b0 : Nat) (minus : Bool) (a b : List Nat) (N : Nat) (out c i : Value) (wr : World) : Prop :=
  ∃ (k cc : Nat) (O : List Nat), k ≤ N + 1 ∧ i = .int .i64 (k : Int) ∧ c = .int .i64 (cc : Int) ∧ OwnD wr b0 out O ∧ Pd.Pinv minus a b O cc k ∧ Below w.heap.size w wr ∧ b0 ≤ wr.heap.size
def CutRel (A : Option Addr) (cap : Nat) (O : List Nat) (out : Value) : Prop := ∃ m : Nat, m ≤ O.length ∧ out = .slice A m cap ∧ Pd.val (O.take m) = Pd.val O
def sliceLen : Value → Nat
  | .slice _ n _ => n
  | _ => 0
set_option maxHeartbeats 1000000 in
theorem plus_add_n (a b : List Nat) (A A' : Option Addr) (n cap n' cap' : Nat) (w : World) (ra : Row w A n cap a) (rb : Row w A' n' cap' b) (hc : n' ≤ n) (hN : n ≤ 99999) :
    Calls Tryz.prog 129 #[.slice A n cap, .slice A' n' cap', .bool false] w (RowPost (plusV false a b) n w) := by
  have RA := Lib.hid ra
  have RB := Lib.hid rb
  have ha := Lib.hid (show a.length ≤ n by rw [ra.len]; omega)
  have hb := Lib.hid (show b.length ≤ n by rw [rb.len]; omega)
  have hs1 := ra.small
  have hs2 := rb.small
  clear ra rb
  have hd : decide (n < n') = false := by simp; omega
  have OO := Lib.hid (OwnD.new w)
  have B0 := Lib.hid ((Below.refl _ w).alloc (Nat.le_refl _) (.cells #[] 3))
  go_enter Tryz.func129, Tryz.ntmps129
  go_wp2_with fail
  go_loopw [8, 9, 10] (PlusRel w w.heap.size false a b n) (fun _ _ i _ => n + 1 - (intOf i).toNat)
  case atStart => exact ⟨0, 0, [], by omega, rfl, rfl, OO.out, Pd.Pinv.zero _ _ _, B0.out, by simp⟩
  case round =>
    obtain ⟨k, cc, O, hk, rfl, rfl, own, hinv, bel, hbase⟩ := hrel
    have BE := Lib.hid bel
    have BA := Lib.hid hbase
    clear bel hbase
    by_cases hlt : k ≤ n
    · have hlt' : (k : Int) ≤ n := by omega
      have hdk : decide (k ≤ n) = true := by simpa using hlt
      have D1 := Lib.hid ((RA.out.on BE.out).digit k (by omega))
      have D2 := Lib.hid ((RB.out.on BE.out).digit k (by omega))
      have hx := Pd.dg_lt RA.out.dig k
      have hy := Pd.dg_lt RB.out.dig k
      have hcc := hinv.2.2.1
      have OL := Lib.hid (show O.length + 1 ≤ 1000000 by rw [hinv.1]; omega)
      generalize hX : Pd.dg a k = x at *
      generalize hY : Pd.dg b k = y at *
      have hX' := Lib.hid hX
      have hY' := Lib.hid hY
      by_cases hs : 10 ≤ (x : Int) + y + cc
      · obtain ⟨u, hu⟩ : ∃ u : Nat, (x : Int) + y + cc - 10 = u := ⟨((x : Int) + y + cc - 10).toNat, by omega⟩
        have V1 := Lib.hid (digs_new wr [u])
        have OW := Lib.hid (own.below ((Below.refl _ wr).alloc (Nat.le_refl _) (.cells (dC [u]).toArray 3)))
        have P1 := Lib.hid (hinv.plus u 1 (by omega) (by omega) (by rw [hX, hY]; omega))
        clear own hinv hX hY
        go_wp2_with (first | (go_at_call 173; (with_reducible refine D1.out.mono ?_); rintro e w' ⟨rfl, rfl⟩) | (go_at_call 173; (with_reducible refine D2.out.mono ?_); rintro e w' ⟨rfl, rfl⟩) | (at_builtin; (refine wp_appD rfl (.tmp 53) (.tmp 55) rfl w.heap.size _ O rfl OW.out (some ⟨wr.heap.size, 0, none⟩) 1 1 _ [u] rfl (fun h => by cases h) V1.out rfl (by omega) OL.out (by have := BA.out; simp; omega) ?_); intro v3 w3 own3 hb3; have O3 := Lib.hid own3; have B3 := Lib.hid hb3; clear own3 hb3))
        go_roundw
        case rel => exact ⟨k + 1, 1, O ++ [u], by omega, by go_num, rfl, O3.out, P1.out, (below_box BE.out _).trans B3.out, by have h8 := B3.out.size; rw [World.size_alloc] at h8; have := BA.out; omega⟩
        case measure => simp [intOf] <;> omega
      · obtain ⟨u, hu⟩ : ∃ u : Nat, (x : Int) + y + cc = u := ⟨((x : Int) + y + cc).toNat, by omega⟩
        have V1 := Lib.hid (digs_new wr [u])
        have OW := Lib.hid (own.below ((Below.refl _ wr).alloc (Nat.le_refl _) (.cells (dC [u]).toArray 3)))
        have P1 := Lib.hid (hinv.plus u 0 (by omega) (by omega) (by rw [hX, hY]; omega))
        clear own hinv hX hY
        have hu2 : (u : Int) < 10 := by omega
        have h11 : u < 10 := by omega
        go_wp2_with (first | (go_at_call 173; (with_reducible refine D1.out.mono ?_); rintro e w' ⟨rfl, rfl⟩) | (go_at_call 173; (with_reducible refine D2.out.mono ?_); rintro e w' ⟨rfl, rfl⟩) | (at_builtin; (refine wp_appD rfl (.tmp 53) (.tmp 55) rfl w.heap.size _ O rfl OW.out (some ⟨wr.heap.size, 0, none⟩) 1 1 _ [u] rfl (fun h => by cases h) V1.out rfl (by omega) OL.out (by have := BA.out; simp; omega) ?_); intro v3 w3 own3 hb3; have O3 := Lib.hid own3; have B3 := Lib.hid hb3; clear own3 hb3))
        go_roundw
        case rel => exact ⟨k + 1, 0, O ++ [u], by omega, by go_num, rfl, O3.out, P1.out, (below_box BE.out _).trans B3.out, by have h8 := B3.out.size; rw [World.size_alloc] at h8; have := BA.out; omega⟩
        case measure => simp [intOf] <;> omega
    · obtain rfl : k = n + 1 := by omega
      have hv := Lib.hid (hinv.end_plus ha.out hb.out RA.out.dig RB.out.dig)
      have hd9 : decide (n + 1 ≤ n) = false := by simp
      have hd8 : decide (((n + 1 : Nat) : Int) ≤ n) = false := by simp; omega
      have hlen := hinv.1
      have hdig := Lib.hid hinv.2.1
      obtain ⟨A2, cap2, rfl, hds, hcp, hcm, hnn⟩ := own.form
      rw [hlen]
      have HD := Lib.hid hds
      have HL := Lib.hid hlen
      have HC := Lib.hid hcp
      have HNN := Lib.hid hnn
      clear own hinv hds hlen hnn
      go_wp2_with fail
      go_loop [8] (CutRel A2 cap2 O) (fun v => sliceLen v)
      case atStart => exact ⟨n + 1, by rw [HL.out]; exact Nat.le_refl _, rfl, by rw [List.take_of_length_le (by rw [HL.out]; exact Nat.le_refl _)]⟩
      case round =>
        obtain ⟨m, hm, rfl, hval⟩ := hrel
        have HV := Lib.hid hval
        have hm2 : m ≤ n + 1 := by rw [← HL.out]; exact hm
        have hmc : m ≤ cap2 := by have h9 := HC.out; rw [HL.out] at h9; omega
        have HR := Lib.hid (show RowPost (plusV false a b) n w (.returned (.slice A2 m cap2)) wr from
          ⟨A2, m, cap2, O.take m, rfl, ⟨HD.out.take m, by rw [List.length_take]; omega, hmc, hcm, HNN.out, Pd.Dig_take hdig.out m, by omega⟩, by rw [hval, hv.out]; rfl, hm2, BE.out⟩)
        clear hval
        cases m with
        | zero =>
          go_wp2_with fail
          go_ret
          exact HR.out
        | succ j =>
          have hjl : j < O.length := by omega
          obtain ⟨b, off, rfl, hb1, hb2⟩ := HD.out (fun e => by rw [e] at hjl; simp at hjl)
          have hcell := hb2 j O[j] (List.getElem?_eq_getElem hjl)
          have hcut := Lib.hid (show O[j] = 0 → CutRel (some ⟨b, off, none⟩) cap2 O (.slice (some ⟨b, off, none⟩) j cap2) from fun h => ⟨j, by omega, rfl, by
            have h1 := Pd.val_cut (D := O.take (j + 1)) (k := j) (by rw [List.length_take]; omega) (by rw [Pd.dg_at (by rw [List.length_take]; omega), List.getElem_take]; exact h)
            rw [List.take_take, Nat.min_eq_left (by omega)] at h1
            rw [h1, HV.out]⟩)
          generalize O[j] = u at *
          have hj1 : (j : Int) < cap2 := by omega
          clear hb2
          by_cases hu : u = 0
          · have E := Lib.hid (hcut.out hu)
            subst hu
            clear hcut
            go_wp2_with fail
            go_round
            case rel => exact E.out
            case measure => simp [sliceLen]
          · have hu1 : ((u : Int) == 0) = false := by rw [beq_eq_false_iff_ne]; omega
            have hu2 : (u == 0) = false := by rw [beq_eq_false_iff_ne]; exact hu
            clear hcut hu
            go_wp2_with fail
            go_ret
            exact HR.out
set_option maxHeartbeats 1000000 in
theorem plus_add_m (a b : List Nat) (A A' : Option Addr) (n cap n' cap' : Nat) (w : World) (ra : Row w A n cap a) (rb : Row w A' n' cap' b) (hc : n < n') (hN : n' ≤ 99999) :
    Calls Tryz.prog 129 #[.slice A n cap, .slice A' n' cap', .bool false] w (RowPost (plusV false a b) n' w) := by
  have RA := Lib.hid ra
  have RB := Lib.hid rb
  have ha := Lib.hid (show a.length ≤ n' by rw [ra.len]; omega)
  have hb := Lib.hid (show b.length ≤ n' by rw [rb.len]; omega)
  have hs1 := ra.small
  have hs2 := rb.small
  clear ra rb
  have hd : decide (n < n') = true := by simp; omega
  have OO := Lib.hid (OwnD.new w)
  have B0 := Lib.hid ((Below.refl _ w).alloc (Nat.le_refl _) (.cells #[] 3))
  go_enter Tryz.func129, Tryz.ntmps129
  go_wp2_with fail
  go_loopw [8, 9, 10] (PlusRel w w.heap.size false a b n') (fun _ _ i _ => n' + 1 - (intOf i).toNat)
  case atStart => exact ⟨0, 0, [], by omega, rfl, rfl, OO.out, Pd.Pinv.zero _ _ _, B0.out, by simp⟩
  case round =>
    obtain ⟨k, cc, O, hk, rfl, rfl, own, hinv, bel, hbase⟩ := hrel
    have BE := Lib.hid bel
    have BA := Lib.hid hbase
    clear bel hbase
    by_cases hlt : k ≤ n'
    · have hlt' : (k : Int) ≤ n' := by omega
      have hdk : decide (k ≤ n') = true := by simpa using hlt
      have D1 := Lib.hid ((RA.out.on BE.out).digit k (by omega))
      have D2 := Lib.hid ((RB.out.on BE.out).digit k (by omega))
      have hx := Pd.dg_lt RA.out.dig k
      have hy := Pd.dg_lt RB.out.dig k
      have hcc := hinv.2.2.1
      have OL := Lib.hid (show O.length + 1 ≤ 1000000 by rw [hinv.1]; omega)
      generalize hX : Pd.dg a k = x at *
      generalize hY : Pd.dg b k = y at *
      have hX' := Lib.hid hX
      have hY' := Lib.hid hY
      by_cases hs : 10 ≤ (x : Int) + y + cc
      · obtain ⟨u, hu⟩ : ∃ u : Nat, (x : Int) + y + cc - 10 = u := ⟨((x : Int) + y + cc - 10).toNat, by omega⟩
        have V1 := Lib.hid (digs_new wr [u])
        have OW := Lib.hid (own.below ((Below.refl _ wr).alloc (Nat.le_refl _) (.cells (dC [u]).toArray 3)))
        have P1 := Lib.hid (hinv.plus u 1 (by omega) (by omega) (by rw [hX, hY]; omega))
        clear own hinv hX hY
        go_wp2_with (first | (go_at_call 173; (with_reducible refine D1.out.mono ?_); rintro e w' ⟨rfl, rfl⟩) | (go_at_call 173; (with_reducible refine D2.out.mono ?_); rintro e w' ⟨rfl, rfl⟩) | (at_builtin; (refine wp_appD rfl (.tmp 53) (.tmp 55) rfl w.heap.size _ O rfl OW.out (some ⟨wr.heap.size, 0, none⟩) 1 1 _ [u] rfl (fun h => by cases h) V1.out rfl (by omega) OL.out (by have := BA.out; simp; omega) ?_); intro v3 w3 own3 hb3; have O3 := Lib.hid own3; have B3 := Lib.hid hb3; clear own3 hb3))
        go_roundw
        case rel => exact ⟨k + 1, 1, O ++ [u], by omega, by go_num, rfl, O3.out, P1.out, (below_box BE.out _).trans B3.out, by have h8 := B3.out.size; rw [World.size_alloc] at h8; have := BA.out; omega⟩
        case measure => simp [intOf] <;> omega
      · obtain ⟨u, hu⟩ : ∃ u : Nat, (x : Int) + y + cc = u := ⟨((x : Int) + y + cc).toNat, by omega⟩
        have V1 := Lib.hid (digs_new wr [u])
        have OW := Lib.hid (own.below ((Below.refl _ wr).alloc (Nat.le_refl _) (.cells (dC [u]).toArray 3)))
        have P1 := Lib.hid (hinv.plus u 0 (by omega) (by omega) (by rw [hX, hY]; omega))
        clear own hinv hX hY
        have hu2 : (u : Int) < 10 := by omega
        have h11 : u < 10 := by omega
        go_wp2_with (first | (go_at_call 173; (with_reducible refine D1.out.mono ?_); rintro e w' ⟨rfl, rfl⟩) | (go_at_call 173; (with_reducible refine D2.out.mono ?_); rintro e w' ⟨rfl, rfl⟩) | (at_builtin; (refine wp_appD rfl (.tmp 53) (.tmp 55) rfl w.heap.size _ O rfl OW.out (some ⟨wr.heap.size, 0, none⟩) 1 1 _ [u] rfl (fun h => by cases h) V1.out rfl (by omega) OL.out (by have := BA.out; simp; omega) ?_); intro v3 w3 own3 hb3; have O3 := Lib.hid own3; have B3 := Lib.hid hb3; clear own3 hb3))
        go_roundw
        case rel => exact ⟨k + 1, 0, O ++ [u], by omega, by go_num, rfl, O3.out, P1.out, (below_box BE.out _).trans B3.out, by have h8 := B3.out.size; rw [World.size_alloc] at h8; have := BA.out; omega⟩
        case measure => simp [intOf] <;> omega
    · obtain rfl : k = n' + 1 := by omega
      have hv := Lib.hid (hinv.end_plus ha.out hb.out RA.out.dig RB.out.dig)
      have hd9 : decide (n' + 1 ≤ n') = false := by simp
      have hd8 : decide (((n' + 1 : Nat) : Int) ≤ n') = false := by simp; omega
      have hlen := hinv.1
      have hdig := Lib.hid hinv.2.1
      obtain ⟨A2, cap2, rfl, hds, hcp, hcm, hnn⟩ := own.form
      rw [hlen]
      have HD := Lib.hid hds
      have HL := Lib.hid hlen
      have HC := Lib.hid hcp
      have HNN := Lib.hid hnn
      clear own hinv hds hlen hnn
      go_wp2_with fail
      go_loop [8] (CutRel A2 cap2 O) (fun v => sliceLen v)
      case atStart => exact ⟨n' + 1, by rw [HL.out]; exact Nat.le_refl _, rfl, by rw [List.take_of_length_le (by rw [HL.out]; exact Nat.le_refl _)]⟩
      case round =>
        obtain ⟨m, hm, rfl, hval⟩ := hrel
        have HV := Lib.hid hval
        have hm2 : m ≤ n' + 1 := by rw [← HL.out]; exact hm
        have hmc : m ≤ cap2 := by have h9 := HC.out; rw [HL.out] at h9; omega
        have HR := Lib.hid (show RowPost (plusV false a b) n' w (.returned (.slice A2 m cap2)) wr from
          ⟨A2, m, cap2, O.take m, rfl, ⟨HD.out.take m, by rw [List.length_take]; omega, hmc, hcm, HNN.out, Pd.Dig_take hdig.out m, by omega⟩, by rw [hval, hv.out]; rfl, hm2, BE.out⟩)
        clear hval
        cases m with
        | zero =>
          go_wp2_with fail
          go_ret
          exact HR.out
        | succ j =>
          have hjl : j < O.length := by omega
          obtain ⟨b, off, rfl, hb1, hb2⟩ := HD.out (fun e => by rw [e] at hjl; simp at hjl)
          have hcell := hb2 j O[j] (List.getElem?_eq_getElem hjl)
          have hcut := Lib.hid (show O[j] = 0 → CutRel (some ⟨b, off, none⟩) cap2 O (.slice (some ⟨b, off, none⟩) j cap2) from fun h => ⟨j, by omega, rfl, by
            have h1 := Pd.val_cut (D := O.take (j + 1)) (k := j) (by rw [List.length_take]; omega) (by rw [Pd.dg_at (by rw [List.length_take]; omega), List.getElem_take]; exact h)
            rw [List.take_take, Nat.min_eq_left (by omega)] at h1
            rw [h1, HV.out]⟩)
          generalize O[j] = u at *
          have hj1 : (j : Int) < cap2 := by omega
          clear hb2
          by_cases hu : u = 0
          · have E := Lib.hid (hcut.out hu)
            subst hu
            clear hcut
            go_wp2_with fail
            go_round
            case rel => exact E.out
            case measure => simp [sliceLen]
          · have hu1 : ((u : Int) == 0) = false := by rw [beq_eq_false_iff_ne]; omega
            have hu2 : (u == 0) = false := by rw [beq_eq_false_iff_ne]; exact hu
            clear hcut hu
            go_wp2_with fail
            go_ret
            exact HR.out
set_option maxHeartbeats 1000000 in
theorem plus_sub_n (a b : List Nat) (A A' : Option Addr) (n cap n' cap' : Nat) (w : World) (ra : Row w A n cap a) (rb : Row w A' n' cap' b) (hc : n' ≤ n) (hN : n ≤ 99999) (hle : Pd.val b ≤ Pd.val a) :
    Calls Tryz.prog 129 #[.slice A n cap, .slice A' n' cap', .bool true] w (RowPost (plusV true a b) n w) := by
  have RA := Lib.hid ra
  have RB := Lib.hid rb
  have ha := Lib.hid (show a.length ≤ n by rw [ra.len]; omega)
  have hb := Lib.hid (show b.length ≤ n by rw [rb.len]; omega)
  have hs1 := ra.small
  have hs2 := rb.small
  clear ra rb
  have hd : decide (n < n') = false := by simp; omega
  have OO := Lib.hid (OwnD.new w)
  have B0 := Lib.hid ((Below.refl _ w).alloc (Nat.le_refl _) (.cells #[] 3))
  go_enter Tryz.func129, Tryz.ntmps129
  go_wp2_with fail
  go_loopw [8, 9, 10] (PlusRel w w.heap.size true a b n) (fun _ _ i _ => n + 1 - (intOf i).toNat)
  case atStart => exact ⟨0, 0, [], by omega, rfl, rfl, OO.out, Pd.Pinv.zero _ _ _, B0.out, by simp⟩
  case round =>
    obtain ⟨k, cc, O, hk, rfl, rfl, own, hinv, bel, hbase⟩ := hrel
    have BE := Lib.hid bel
    have BA := Lib.hid hbase
    clear bel hbase
    by_cases hlt : k ≤ n
    · have hlt' : (k : Int) ≤ n := by omega
      have hdk : decide (k ≤ n) = true := by simpa using hlt
      have D1 := Lib.hid ((RA.out.on BE.out).digit k (by omega))
      have D2 := Lib.hid ((RB.out.on BE.out).digit k (by omega))
      have hx := Pd.dg_lt RA.out.dig k
      have hy := Pd.dg_lt RB.out.dig k
      have hcc := hinv.2.2.1
      have OL := Lib.hid (show O.length + 1 ≤ 1000000 by rw [hinv.1]; omega)
      generalize hX : Pd.dg a k = x at *
      generalize hY : Pd.dg b k = y at *
      have hX' := Lib.hid hX
      have hY' := Lib.hid hY
      by_cases hs : (x : Int) - y - cc < 0
      · obtain ⟨u, hu⟩ : ∃ u : Nat, (x : Int) - y - cc + 10 = u := ⟨((x : Int) - y - cc + 10).toNat, by omega⟩
        have V1 := Lib.hid (digs_new wr [u])
        have OW := Lib.hid (own.below ((Below.refl _ wr).alloc (Nat.le_refl _) (.cells (dC [u]).toArray 3)))
        have P1 := Lib.hid (hinv.minus u 1 (by omega) (by omega) (by rw [hX, hY]; omega))
        clear own hinv hX hY
        have hu2 : (u : Int) < 10 := by omega
        have h10 : decide ((u : Int) < 10) = true := by simpa using hu2
        have h11 : u < 10 := by omega
        go_wp2_with (first | (go_at_call 173; (with_reducible refine D1.out.mono ?_); rintro e w' ⟨rfl, rfl⟩) | (go_at_call 173; (with_reducible refine D2.out.mono ?_); rintro e w' ⟨rfl, rfl⟩) | (at_builtin; (refine wp_appD rfl (.tmp 53) (.tmp 55) rfl w.heap.size _ O rfl OW.out (some ⟨wr.heap.size, 0, none⟩) 1 1 _ [u] rfl (fun h => by cases h) V1.out rfl (by omega) OL.out (by have := BA.out; simp; omega) ?_); intro v3 w3 own3 hb3; have O3 := Lib.hid own3; have B3 := Lib.hid hb3; clear own3 hb3))
        go_roundw
        case rel => exact ⟨k + 1, 1, O ++ [u], by omega, by go_num, rfl, O3.out, P1.out, (below_box BE.out _).trans B3.out, by have h8 := B3.out.size; rw [World.size_alloc] at h8; have := BA.out; omega⟩
        case measure => simp [intOf] <;> omega
      · obtain ⟨u, hu⟩ : ∃ u : Nat, (x : Int) - y - cc = u := ⟨((x : Int) - y - cc).toNat, by omega⟩
        have V1 := Lib.hid (digs_new wr [u])
        have OW := Lib.hid (own.below ((Below.refl _ wr).alloc (Nat.le_refl _) (.cells (dC [u]).toArray 3)))
        have P1 := Lib.hid (hinv.minus u 0 (by omega) (by omega) (by rw [hX, hY]; omega))
        clear own hinv hX hY
        have hu2 : (u : Int) < 10 := by omega
        have h11 : u < 10 := by omega
        go_wp2_with (first | (go_at_call 173; (with_reducible refine D1.out.mono ?_); rintro e w' ⟨rfl, rfl⟩) | (go_at_call 173; (with_reducible refine D2.out.mono ?_); rintro e w' ⟨rfl, rfl⟩) | (at_builtin; (refine wp_appD rfl (.tmp 53) (.tmp 55) rfl w.heap.size _ O rfl OW.out (some ⟨wr.heap.size, 0, none⟩) 1 1 _ [u] rfl (fun h => by cases h) V1.out rfl (by omega) OL.out (by have := BA.out; simp; omega) ?_); intro v3 w3 own3 hb3; have O3 := Lib.hid own3; have B3 := Lib.hid hb3; clear own3 hb3))
        go_roundw
        case rel => exact ⟨k + 1, 0, O ++ [u], by omega, by go_num, rfl, O3.out, P1.out, (below_box BE.out _).trans B3.out, by have h8 := B3.out.size; rw [World.size_alloc] at h8; have := BA.out; omega⟩
        case measure => simp [intOf] <;> omega
    · obtain rfl : k = n + 1 := by omega
      have hv := Lib.hid (hinv.end_minus ha.out hb.out hle)
      have hd9 : decide (n + 1 ≤ n) = false := by simp
      have hd8 : decide (((n + 1 : Nat) : Int) ≤ n) = false := by simp; omega
      have hlen := hinv.1
      have hdig := Lib.hid hinv.2.1
      obtain ⟨A2, cap2, rfl, hds, hcp, hcm, hnn⟩ := own.form
      rw [hlen]
      have HD := Lib.hid hds
      have HL := Lib.hid hlen
      have HC := Lib.hid hcp
      have HNN := Lib.hid hnn
      clear own hinv hds hlen hnn
      go_wp2_with fail
      go_loop [8] (CutRel A2 cap2 O) (fun v => sliceLen v)
      case atStart => exact ⟨n + 1, by rw [HL.out]; exact Nat.le_refl _, rfl, by rw [List.take_of_length_le (by rw [HL.out]; exact Nat.le_refl _)]⟩
      case round =>
        obtain ⟨m, hm, rfl, hval⟩ := hrel
        have HV := Lib.hid hval
        have hm2 : m ≤ n + 1 := by rw [← HL.out]; exact hm
        have hmc : m ≤ cap2 := by have h9 := HC.out; rw [HL.out] at h9; omega
        have HR := Lib.hid (show RowPost (plusV true a b) n w (.returned (.slice A2 m cap2)) wr from
          ⟨A2, m, cap2, O.take m, rfl, ⟨HD.out.take m, by rw [List.length_take]; omega, hmc, hcm, HNN.out, Pd.Dig_take hdig.out m, by omega⟩, by rw [hval, hv.out]; rfl, hm2, BE.out⟩)
        clear hval
        cases m with
        | zero =>
          go_wp2_with fail
          go_ret
          exact HR.out
        | succ j =>
          have hjl : j < O.length := by omega
          obtain ⟨b, off, rfl, hb1, hb2⟩ := HD.out (fun e => by rw [e] at hjl; simp at hjl)
          have hcell := hb2 j O[j] (List.getElem?_eq_getElem hjl)
          have hcut := Lib.hid (show O[j] = 0 → CutRel (some ⟨b, off, none⟩) cap2 O (.slice (some ⟨b, off, none⟩) j cap2) from fun h => ⟨j, by omega, rfl, by
            have h1 := Pd.val_cut (D := O.take (j + 1)) (k := j) (by rw [List.length_take]; omega) (by rw [Pd.dg_at (by rw [List.length_take]; omega), List.getElem_take]; exact h)
            rw [List.take_take, Nat.min_eq_left (by omega)] at h1
            rw [h1, HV.out]⟩)
          generalize O[j] = u at *
          have hj1 : (j : Int) < cap2 := by omega
          clear hb2
          by_cases hu : u = 0
          · have E := Lib.hid (hcut.out hu)
            subst hu
            clear hcut
            go_wp2_with fail
            go_round
            case rel => exact E.out
            case measure => simp [sliceLen]
          · have hu1 : ((u : Int) == 0) = false := by rw [beq_eq_false_iff_ne]; omega
            have hu2 : (u == 0) = false := by rw [beq_eq_false_iff_ne]; exact hu
            clear hcut hu
            go_wp2_with fail
            go_ret
            exact HR.out
set_option maxHeartbeats 1000000 in
theorem plus_sub_m (a b : List Nat) (A A' : Option Addr) (n cap n' cap' : Nat) (w : World) (ra : Row w A n cap a) (rb : Row w A' n' cap' b) (hc : n < n') (hN : n' ≤ 99999) (hle : Pd.val b ≤ Pd.val a) :
    Calls Tryz.prog 129 #[.slice A n cap, .slice A' n' cap', .bool true] w (RowPost (plusV true a b) n' w) := by
  have RA := Lib.hid ra
  have RB := Lib.hid rb
  have ha := Lib.hid (show a.length ≤ n' by rw [ra.len]; omega)
  have hb := Lib.hid (show b.length ≤ n' by rw [rb.len]; omega)
  have hs1 := ra.small
  have hs2 := rb.small
  clear ra rb
  have hd : decide (n < n') = true := by simp; omega
  have OO := Lib.hid (OwnD.new w)
  have B0 := Lib.hid ((Below.refl _ w).alloc (Nat.le_refl _) (.cells #[] 3))
  go_enter Tryz.func129, Tryz.ntmps129
  go_wp2_with fail
  go_loopw [8, 9, 10] (PlusRel w w.heap.size true a b n') (fun _ _ i _ => n' + 1 - (intOf i).toNat)
  case atStart => exact ⟨0, 0, [], by omega, rfl, rfl, OO.out, Pd.Pinv.zero _ _ _, B0.out, by simp⟩
  case round =>
    obtain ⟨k, cc, O, hk, rfl, rfl, own, hinv, bel, hbase⟩ := hrel
    have BE := Lib.hid bel
    have BA := Lib.hid hbase
    clear bel hbase
    by_cases hlt : k ≤ n'
    · have hlt' : (k : Int) ≤ n' := by omega
      have hdk : decide (k ≤ n') = true := by simpa using hlt
      have D1 := Lib.hid ((RA.out.on BE.out).digit k (by omega))
      have D2 := Lib.hid ((RB.out.on BE.out).digit k (by omega))
      have hx := Pd.dg_lt RA.out.dig k
      have hy := Pd.dg_lt RB.out.dig k
      have hcc := hinv.2.2.1
      have OL := Lib.hid (show O.length + 1 ≤ 1000000 by rw [hinv.1]; omega)
      generalize hX : Pd.dg a k = x at *
      generalize hY : Pd.dg b k = y at *
      have hX' := Lib.hid hX
      have hY' := Lib.hid hY
      by_cases hs : (x : Int) - y - cc < 0
      · obtain ⟨u, hu⟩ : ∃ u : Nat, (x : Int) - y - cc + 10 = u := ⟨((x : Int) - y - cc + 10).toNat, by omega⟩
        have V1 := Lib.hid (digs_new wr [u])
        have OW := Lib.hid (own.below ((Below.refl _ wr).alloc (Nat.le_refl _) (.cells (dC [u]).toArray 3)))
        have P1 := Lib.hid (hinv.minus u 1 (by omega) (by omega) (by rw [hX, hY]; omega))
        clear own hinv hX hY
        have hu2 : (u : Int) < 10 := by omega
        have h10 : decide ((u : Int) < 10) = true := by simpa using hu2
        have h11 : u < 10 := by omega
        go_wp2_with (first | (go_at_call 173; (with_reducible refine D1.out.mono ?_); rintro e w' ⟨rfl, rfl⟩) | (go_at_call 173; (with_reducible refine D2.out.mono ?_); rintro e w' ⟨rfl, rfl⟩) | (at_builtin; (refine wp_appD rfl (.tmp 53) (.tmp 55) rfl w.heap.size _ O rfl OW.out (some ⟨wr.heap.size, 0, none⟩) 1 1 _ [u] rfl (fun h => by cases h) V1.out rfl (by omega) OL.out (by have := BA.out; simp; omega) ?_); intro v3 w3 own3 hb3; have O3 := Lib.hid own3; have B3 := Lib.hid hb3; clear own3 hb3))
        go_roundw
        case rel => exact ⟨k + 1, 1, O ++ [u], by omega, by go_num, rfl, O3.out, P1.out, (below_box BE.out _).trans B3.out, by have h8 := B3.out.size; rw [World.size_alloc] at h8; have := BA.out; omega⟩
        case measure => simp [intOf] <;> omega
      · obtain ⟨u, hu⟩ : ∃ u : Nat, (x : Int) - y - cc = u := ⟨((x : Int) - y - cc).toNat, by omega⟩
        have V1 := Lib.hid (digs_new wr [u])
        have OW := Lib.hid (own.below ((Below.refl _ wr).alloc (Nat.le_refl _) (.cells (dC [u]).toArray 3)))
        have P1 := Lib.hid (hinv.minus u 0 (by omega) (by omega) (by rw [hX, hY]; omega))
        clear own hinv hX hY
        have hu2 : (u : Int) < 10 := by omega
        have h11 : u < 10 := by omega
        go_wp2_with (first | (go_at_call 173; (with_reducible refine D1.out.mono ?_); rintro e w' ⟨rfl, rfl⟩) | (go_at_call 173; (with_reducible refine D2.out.mono ?_); rintro e w' ⟨rfl, rfl⟩) | (at_builtin; (refine wp_appD rfl (.tmp 53) (.tmp 55) rfl w.heap.size _ O rfl OW.out (some ⟨wr.heap.size, 0, none⟩) 1 1 _ [u] rfl (fun h => by cases h) V1.out rfl (by omega) OL.out (by have := BA.out; simp; omega) ?_); intro v3 w3 own3 hb3; have O3 := Lib.hid own3; have B3 := Lib.hid hb3; clear own3 hb3))
        go_roundw
        case rel => exact ⟨k + 1, 0, O ++ [u], by omega, by go_num, rfl, O3.out, P1.out, (below_box BE.out _).trans B3.out, by have h8 := B3.out.size; rw [World.size_alloc] at h8; have := BA.out; omega⟩
        case measure => simp [intOf] <;> omega
    · obtain rfl : k = n' + 1 := by omega
      have hv := Lib.hid (hinv.end_minus ha.out hb.out hle)
      have hd9 : decide (n' + 1 ≤ n') = false := by simp
      have hd8 : decide (((n' + 1 : Nat) : Int) ≤ n') = false := by simp; omega
      have hlen := hinv.1
      have hdig := Lib.hid hinv.2.1
      obtain ⟨A2, cap2, rfl, hds, hcp, hcm, hnn⟩ := own.form
      rw [hlen]
      have HD := Lib.hid hds
      have HL := Lib.hid hlen
      have HC := Lib.hid hcp
      have HNN := Lib.hid hnn
      clear own hinv hds hlen hnn
      go_wp2_with fail
      go_loop [8] (CutRel A2 cap2 O) (fun v => sliceLen v)
      case atStart => exact ⟨n' + 1, by rw [HL.out]; exact Nat.le_refl _, rfl, by rw [List.take_of_length_le (by rw [HL.out]; exact Nat.le_refl _)]⟩
      case round =>
        obtain ⟨m, hm, rfl, hval⟩ := hrel
        have HV := Lib.hid hval
        have hm2 : m ≤ n' + 1 := by rw [← HL.out]; exact hm
        have hmc : m ≤ cap2 := by have h9 := HC.out; rw [HL.out] at h9; omega
        have HR := Lib.hid (show RowPost (plusV true a b) n' w (.returned (.slice A2 m cap2)) wr from
          ⟨A2, m, cap2, O.take m, rfl, ⟨HD.out.take m, by rw [List.length_take]; omega, hmc, hcm, HNN.out, Pd.Dig_take hdig.out m, by omega⟩, by rw [hval, hv.out]; rfl, hm2, BE.out⟩)
        clear hval
        cases m with
        | zero =>
          go_wp2_with fail
          go_ret
          exact HR.out
        | succ j =>
          have hjl : j < O.length := by omega
          obtain ⟨b, off, rfl, hb1, hb2⟩ := HD.out (fun e => by rw [e] at hjl; simp at hjl)
          have hcell := hb2 j O[j] (List.getElem?_eq_getElem hjl)
          have hcut := Lib.hid (show O[j] = 0 → CutRel (some ⟨b, off, none⟩) cap2 O (.slice (some ⟨b, off, none⟩) j cap2) from fun h => ⟨j, by omega, rfl, by
            have h1 := Pd.val_cut (D := O.take (j + 1)) (k := j) (by rw [List.length_take]; omega) (by rw [Pd.dg_at (by rw [List.length_take]; omega), List.getElem_take]; exact h)
            rw [List.take_take, Nat.min_eq_left (by omega)] at h1
            rw [h1, HV.out]⟩)
          generalize O[j] = u at *
          have hj1 : (j : Int) < cap2 := by omega
          clear hb2
          by_cases hu : u = 0
          · have E := Lib.hid (hcut.out hu)
            subst hu
            clear hcut
            go_wp2_with fail
            go_round
            case rel => exact E.out
            case measure => simp [sliceLen]
          · have hu1 : ((u : Int) == 0) = false := by rw [beq_eq_false_iff_ne]; omega
            have hu2 : (u == 0) = false := by rw [beq_eq_false_iff_ne]; exact hu
            clear hcut hu
            go_wp2_with fail
            go_ret
            exact HR.out
theorem plus_any (a b : List Nat) (A A' : Option Addr) (n cap n' cap' N : Nat) (w : World) (ra : Row w A n cap a) (rb : Row w A' n' cap' b) (h1 : n ≤ N) (h2 : n' ≤ N) (hN : N ≤ 99999) :
    Calls Tryz.prog 129 #[.slice A n cap, .slice A' n' cap', .bool false] w (RowPost (Pd.val a + Pd.val b) N w) := by
  by_cases hc : n' ≤ n
  · exact (plus_add_n a b A A' n cap n' cap' w ra rb hc (by omega)).mono fun e w' ⟨A2, m, c2, D, e1, e2, e3, e4, e5⟩ => ⟨A2, m, c2, D, e1, e2, e3, by omega, e5⟩
  · exact (plus_add_m a b A A' n cap n' cap' w ra rb (by omega) (by omega)).mono fun e w' ⟨A2, m, c2, D, e1, e2, e3, e4, e5⟩ => ⟨A2, m, c2, D, e1, e2, e3, by omega, e5⟩
theorem minus_any (a b : List Nat) (A A' : Option Addr) (n cap n' cap' N : Nat) (w : World) (ra : Row w A n cap a) (rb : Row w A' n' cap' b) (h1 : n ≤ N) (h2 : n' ≤ N) (hN : N ≤ 99999) (hle : Pd.val b ≤ Pd.val a) :
    Calls Tryz.prog 129 #[.slice A n cap, .slice A' n' cap', .bool true] w (RowPost (Pd.val a - Pd.val b) N w) := by
  by_cases hc : n' ≤ n
  · exact (plus_sub_n a b A A' n cap n' cap' w ra rb hc (by omega) hle).mono fun e w' ⟨A2, m, c2, D, e1, e2, e3, e4, e5⟩ => ⟨A2, m, c2, D, e1, e2, e3, by omega, e5⟩
  · exact (plus_sub_m a b A A' n cap n' cap' w ra rb (by omega) (by omega) hle).mono fun e w' ⟨A2, m, c2, D, e1, e2, e3, e4, e5⟩ => ⟨A2, m, c2, D, e1, e2, e3, by omega, e5⟩
theorem build45_1 (b : Bool) (w : World) : (Instr.build 164 #[(0, .bool b)]).run Tryz.prog w = .ok (.agg #[.bool b, .slice none 0 0]) w := run_build w 164 _ _ (by kernel_rfl)
theorem build45_0 (w : World) : (Instr.build 164 #[]).run Tryz.prog w = .ok (.agg #[.bool false, .slice none 0 0]) w := run_build w 164 _ _ (by kernel_rfl)
theorem build45_2 (b : Bool) (A : Option Addr) (n c : Nat) (w : World) : (Instr.build 164 #[(0, .bool b), (1, .slice A n c)]).run Tryz.prog w = .ok (.agg #[.bool b, .slice A n c]) w := run_build w 164 _ _ (by kernel_rfl)
def GK (W : World) (g : Nat) (bl : Bool) (v : Value) : Prop := W.heap[g]? = some (.cells #[.bool bl, v] 164 (0, 0))
theorem GK.c {W : World} {g : Nat} {bl : Bool} {v : Value} (h : GK W g bl v) : W.cell? ⟨g, 0, none⟩ = some (.bool bl) ∧ W.cell? ⟨g, 1, none⟩ = some v := by
  unfold GK at h
  refine ⟨?_, ?_⟩ <;> (rw [cell_of_row _ _ _ _ _ _ h]; rfl)
theorem GK.f {W : World} {g : Nat} {bl : Bool} {v : Value} (h : GK W g bl v) (k : Nat) : W.frozen? ⟨g, k, none⟩ = false := frozen_of_row _ _ _ _ _ h
theorem GK.lt {W : World} {g : Nat} {bl : Bool} {v : Value} (h : GK W g bl v) : g < W.heap.size := by
  unfold GK at h
  rcases Nat.lt_or_ge g W.heap.size with hh | hh
  · exact hh
  · rw [Array.getElem?_eq_none hh] at h; cases h
theorem GK.new (w : World) (bl : Bool) (v : Value) : GK (w.alloc (.cells #[.bool bl, v] 164)) w.heap.size bl v := heap_alloc_new w _
theorem GK.on {W W' : World} {g n : Nat} {bl : Bool} {v : Value} (h : GK W g bl v) (hb : Below n W W') (hl : g < n) : GK W' g bl v := (hb.block g hl).trans h
theorem GK.alloc {W : World} {g : Nat} {bl : Bool} {v : Value} (h : GK W g bl v) (o : Obj) : GK (W.alloc o) g bl v := h.on ((Below.refl _ W).alloc (Nat.le_refl _) o) h.lt
theorem GK.set {W : World} {g : Nat} {bl : Bool} {v : Value} (h : GK W g bl v) (u : Value) : GK (W.setCell ⟨g, 1, none⟩ u) g bl u := by
  unfold GK at h ⊢
  simp [World.setCell, Array.getElem?_modify, h]
theorem GK.other {W : World} {g b k : Nat} {bl : Bool} {v : Value} (h : GK W g bl v) (hne : g ≠ b) (u : Value) : GK (W.setCell ⟨b, k, none⟩ u) g bl v := (Below.heap_setCell W _ u g hne).trans h
theorem OwnD.other {w : World} {base b k : Nat} {v : Value} {l : List Nat} (h : OwnD w base v l) (hb : b < base) (u : Value) : OwnD (w.setCell ⟨b, k, none⟩ u) base v l := by
  refine ⟨h.1, ?_⟩
  rcases h.2 with hn | ⟨g, cap, cur, rfl, hg, hgg, r⟩
  · exact .inl hn
  · exact .inr ⟨g, cap, cur, rfl, hg, by rw [Below.heap_setCell _ _ _ _ (by show g ≠ b; omega)]; exact hgg, r⟩
def BigPost (x : Int) (N : Nat) (w : World) (e : Ending) (w' : World) : Prop := ∃ bl A n cap D, e = .returned (.agg #[.bool bl, .slice A n cap]) ∧ Row w' A n cap D ∧ x = (if bl then -(Pd.val D : Int) else (Pd.val D : Int)) ∧ n ≤ N ∧ Below w.heap.size w w'
def OfRel (w : World) (bl : Bool) (N : Nat) (v4 : Value) (wr : World) : Prop := ∃ (m : Nat) (D : List Nat) (v : Value), v4 = .int .u64 (m : Int) ∧ m ≤ 9223372036854775808 ∧ GK wr (w.heap.size + 1) bl v ∧ OwnD wr (w.heap.size + 2) v D ∧ Pd.val D + m * 10 ^ D.length = N ∧ Pd.Dig D ∧ D.length ≤ 20 ∧ GK wr w.heap.size false (.slice none 0 0) ∧ Below w.heap.size w wr ∧ w.heap.size + 2 ≤ wr.heap.size
theorem of_core (x : Int) (bl : Bool) (N : Nat) (w : World) (hN : N ≤ 9223372036854775808) (hx : x = if bl then -(N : Int) else N) (hbl : decide (x < 0) = bl) : Calls Tryz.prog 95 #[.int .i64 x] w (BigPost x 20 w) := by
  have b1 := build45_1 bl
  have hw1 : bl = true → IntKind.u64.wrap (-IntKind.u64.wrap x) = (N : Int) := fun h => by
    rw [h] at hx
    simp only [if_true] at hx
    rw [IntKind.wrap_u64, IntKind.wrap_u64]; omega
  have hw2 : bl = false → IntKind.u64.wrap x = (N : Int) := fun h => by
    rw [h] at hx
    simp only [Bool.false_eq_true, if_false] at hx
    rw [IntKind.wrap_u64]; omega
  have HX := Lib.hid hx
  clear hx
  cases bl with
  | true =>
    have hw := hw1 rfl
    clear hw1 hw2
    go_enter Tryz.func95, Tryz.ntmps95
    go_wp2_with fail
    go_loopw [4] (OfRel w true N) (fun m _ => (intOf m).toNat)
    case atStart =>
      have hg := GK.new (w.alloc (.cells #[.bool false, .slice none 0 0] 164)) true (.slice none 0 0)
      simp only [World.size_alloc] at hg
      exact ⟨N, [], .slice none 0 0, rfl, hN, hg, OwnD.nil _ _, by simp [Pd.val, Pd.V], by simp [Pd.Dig], by simp, (GK.new w false (.slice none 0 0)).alloc _, ((Below.refl _ _).alloc (Nat.le_refl _) _).alloc (by simp) _, by simp⟩
    case round =>
      clear hw b1
      obtain ⟨m, D, v, rfl, hm, hg, own, hval, hdig, hlen, hr, bel, hbase⟩ := hrel
      obtain ⟨g0, g1⟩ := hg.c
      have f1 := hg.f 1
      by_cases hm0 : 0 < m
      · have hlt : D.length < 20 := by
          rcases Nat.lt_or_ge D.length 20 with h | h
          · exact h
          · have h1 : 10 ^ 20 ≤ 10 ^ D.length := Nat.pow_le_pow_right (by decide) h
            have h2 : 1 * 10 ^ D.length ≤ m * 10 ^ D.length := Nat.mul_le_mul_right _ hm0
            omega
        have V1 := Lib.hid (digs_new wr [m % 10])
        have OW := Lib.hid (own.below ((Below.refl _ wr).alloc (Nat.le_refl _) (.cells (dC [m % 10]).toArray 3)))
        have HV := Lib.hid (Pd.of_step hval)
        have HD := Lib.hid (Pd.Dig_snoc hdig (show m % 10 < 10 by omega))
        have HG := Lib.hid (hg.alloc (.cells (dC [m % 10]).toArray 3))
        have HR := Lib.hid (hr.alloc (.cells (dC [m % 10]).toArray 3))
        have BE := Lib.hid (below_box bel (.cells (dC [m % 10]).toArray 3))
        have BA := Lib.hid hbase
        have OL := Lib.hid (show D.length + 1 ≤ 1000000 by omega)
        have hmm : ((m % 10 : Nat) : Int) = (m : Int) % 10 := by omega
        have hmd : ((m / 10 : Nat) : Int) = (m : Int) / 10 := by omega
        have q0 : (0 : Int) ≤ m := by omega
        have q1 : (m : Int) ≤ 9223372036854775808 := by omega
        have H0 := Lib.hid hm
        clear own hval hdig hr bel hbase hm
        obtain ⟨g0', g1'⟩ := HG.out.c
        have f1' := HG.out.f 1
        have MM := Lib.hid hmm
        have MD := Lib.hid hmd
        clear hmm hmd
        go_wp2_with ((at_builtin; (refine wp_appD rfl (.tmp 17) (.tmp 21) rfl (w.heap.size + 2) _ D rfl OW.out (some ⟨wr.heap.size, 0, none⟩) 1 1 _ [m % 10] rfl (fun h => by cases h) (by have := V1.out; simpa [dC, MM.out] using this) rfl (by omega) OL.out (by have := BA.out; simp; omega) ?_); intro v3 w3 own3 hb3; obtain ⟨A3, cap3, rfl, _, hc3, hm3, _⟩ := own3.form; have O3 := Lib.hid own3; have B3 := Lib.hid hb3; have G3 := Lib.hid (HG.out.on hb3 (by omega)); have R3 := Lib.hid (HR.out.on hb3 (by omega)); obtain ⟨k0, k1⟩ := G3.out.c; have kf := G3.out.f 1; clear own3 hb3))
        go_roundw
        case rel => exact ⟨m / 10, D ++ [m % 10], _, by rw [MD.out], by have := H0.out; omega, G3.out.set _, by have h7 := O3.out.other (b := w.heap.size + 1) (k := 1) (by omega) (.slice A3 (D.length + 1) cap3); rw [show (D ++ [m % 10]).length = D.length + 1 from by simp] at h7; exact h7, HV.out, HD.out, by simp; omega, R3.out.other (b := w.heap.size + 1) (by omega) _, (BE.out.trans (B3.out.mono (by omega))).setCell (p := ⟨w.heap.size + 1, 1, none⟩) (by show w.heap.size ≤ w.heap.size + 1; omega) _, by have h8 := B3.out.size; rw [World.size_alloc] at h8; have := BA.out; simp [World.setCell]; omega⟩
        case measure => simp [intOf]; omega
      · obtain rfl : m = 0 := by omega
        obtain ⟨A3, cap3, rfl, hda, hc3, hm3, hn3⟩ := own.form
        rw [Nat.zero_mul, Nat.add_zero] at hval
        have HP := Lib.hid (show Row wr A3 D.length cap3 D from ⟨hda, rfl, hc3, hm3, hn3, hdig, by omega⟩)
        have HV := Lib.hid hval
        have BE := Lib.hid bel
        have OO := Lib.hid own
        obtain ⟨r0, r1⟩ := hr.c
        have rf0 := hr.f 0
        have rf1 := hr.f 1
        clear own hval hdig hr bel hda hn3 hg
        go_wp2_with fail
        refine bodyPost_ret (v := .agg #[.bool true, .slice A3 D.length cap3]) (by simp [results, Tryz.results95, go_sem, r0, r1]) rfl ?_
        have b2 := (BE.out.setCell (p := ⟨w.heap.size, 0, none⟩) (Nat.le_refl _) (.bool true)).setCell (p := ⟨w.heap.size, 1, none⟩) (Nat.le_refl _) (.slice A3 D.length cap3)
        have own2 := (OO.out.other (b := w.heap.size) (k := 0) (by omega) (.bool true)).other (b := w.heap.size) (k := 1) (by omega) (.slice A3 D.length cap3)
        obtain ⟨A4, cap4, he4, hda4, _⟩ := own2.form
        simp only [Value.slice.injEq, true_and] at he4
        obtain ⟨rfl, rfl⟩ := he4
        exact ⟨true, A3, D.length, cap3, D, rfl, ⟨hda4, rfl, HP.out.le, HP.out.cap', HP.out.none', HP.out.dig, HP.out.small⟩, by rw [HV.out]; exact HX.out, hlen, b2⟩
  | false =>
    have hw := hw2 rfl
    clear hw1 hw2
    go_enter Tryz.func95, Tryz.ntmps95
    go_wp2_with fail
    go_loopw [4] (OfRel w false N) (fun m _ => (intOf m).toNat)
    case atStart =>
      have hg := GK.new (w.alloc (.cells #[.bool false, .slice none 0 0] 164)) false (.slice none 0 0)
      simp only [World.size_alloc] at hg
      exact ⟨N, [], .slice none 0 0, rfl, hN, hg, OwnD.nil _ _, by simp [Pd.val, Pd.V], by simp [Pd.Dig], by simp, (GK.new w false (.slice none 0 0)).alloc _, ((Below.refl _ _).alloc (Nat.le_refl _) _).alloc (by simp) _, by simp⟩
    case round =>
      clear hw b1
      obtain ⟨m, D, v, rfl, hm, hg, own, hval, hdig, hlen, hr, bel, hbase⟩ := hrel
      obtain ⟨g0, g1⟩ := hg.c
      have f1 := hg.f 1
      by_cases hm0 : 0 < m
      · have hlt : D.length < 20 := by
          rcases Nat.lt_or_ge D.length 20 with h | h
          · exact h
          · have h1 : 10 ^ 20 ≤ 10 ^ D.length := Nat.pow_le_pow_right (by decide) h
            have h2 : 1 * 10 ^ D.length ≤ m * 10 ^ D.length := Nat.mul_le_mul_right _ hm0
            omega
        have V1 := Lib.hid (digs_new wr [m % 10])
        have OW := Lib.hid (own.below ((Below.refl _ wr).alloc (Nat.le_refl _) (.cells (dC [m % 10]).toArray 3)))
        have HV := Lib.hid (Pd.of_step hval)
        have HD := Lib.hid (Pd.Dig_snoc hdig (show m % 10 < 10 by omega))
        have HG := Lib.hid (hg.alloc (.cells (dC [m % 10]).toArray 3))
        have HR := Lib.hid (hr.alloc (.cells (dC [m % 10]).toArray 3))
        have BE := Lib.hid (below_box bel (.cells (dC [m % 10]).toArray 3))
        have BA := Lib.hid hbase
        have OL := Lib.hid (show D.length + 1 ≤ 1000000 by omega)
        have hmm : ((m % 10 : Nat) : Int) = (m : Int) % 10 := by omega
        have hmd : ((m / 10 : Nat) : Int) = (m : Int) / 10 := by omega
        have q0 : (0 : Int) ≤ m := by omega
        have q1 : (m : Int) ≤ 9223372036854775808 := by omega
        have H0 := Lib.hid hm
        clear own hval hdig hr bel hbase hm
        obtain ⟨g0', g1'⟩ := HG.out.c
        have f1' := HG.out.f 1
        have MM := Lib.hid hmm
        have MD := Lib.hid hmd
        clear hmm hmd
        go_wp2_with ((at_builtin; (refine wp_appD rfl (.tmp 17) (.tmp 21) rfl (w.heap.size + 2) _ D rfl OW.out (some ⟨wr.heap.size, 0, none⟩) 1 1 _ [m % 10] rfl (fun h => by cases h) (by have := V1.out; simpa [dC, MM.out] using this) rfl (by omega) OL.out (by have := BA.out; simp; omega) ?_); intro v3 w3 own3 hb3; obtain ⟨A3, cap3, rfl, _, hc3, hm3, _⟩ := own3.form; have O3 := Lib.hid own3; have B3 := Lib.hid hb3; have G3 := Lib.hid (HG.out.on hb3 (by omega)); have R3 := Lib.hid (HR.out.on hb3 (by omega)); obtain ⟨k0, k1⟩ := G3.out.c; have kf := G3.out.f 1; clear own3 hb3))
        go_roundw
        case rel => exact ⟨m / 10, D ++ [m % 10], _, by rw [MD.out], by have := H0.out; omega, G3.out.set _, by have h7 := O3.out.other (b := w.heap.size + 1) (k := 1) (by omega) (.slice A3 (D.length + 1) cap3); rw [show (D ++ [m % 10]).length = D.length + 1 from by simp] at h7; exact h7, HV.out, HD.out, by simp; omega, R3.out.other (b := w.heap.size + 1) (by omega) _, (BE.out.trans (B3.out.mono (by omega))).setCell (p := ⟨w.heap.size + 1, 1, none⟩) (by show w.heap.size ≤ w.heap.size + 1; omega) _, by have h8 := B3.out.size; rw [World.size_alloc] at h8; have := BA.out; simp [World.setCell]; omega⟩
        case measure => simp [intOf]; omega
      · obtain rfl : m = 0 := by omega
        obtain ⟨A3, cap3, rfl, hda, hc3, hm3, hn3⟩ := own.form
        rw [Nat.zero_mul, Nat.add_zero] at hval
        have HP := Lib.hid (show Row wr A3 D.length cap3 D from ⟨hda, rfl, hc3, hm3, hn3, hdig, by omega⟩)
        have HV := Lib.hid hval
        have BE := Lib.hid bel
        have OO := Lib.hid own
        obtain ⟨r0, r1⟩ := hr.c
        have rf0 := hr.f 0
        have rf1 := hr.f 1
        clear own hval hdig hr bel hda hn3 hg
        go_wp2_with fail
        refine bodyPost_ret (v := .agg #[.bool false, .slice A3 D.length cap3]) (by simp [results, Tryz.results95, go_sem, r0, r1]) rfl ?_
        have b2 := (BE.out.setCell (p := ⟨w.heap.size, 0, none⟩) (Nat.le_refl _) (.bool false)).setCell (p := ⟨w.heap.size, 1, none⟩) (Nat.le_refl _) (.slice A3 D.length cap3)
        have own2 := (OO.out.other (b := w.heap.size) (k := 0) (by omega) (.bool false)).other (b := w.heap.size) (k := 1) (by omega) (.slice A3 D.length cap3)
        obtain ⟨A4, cap4, he4, hda4, _⟩ := own2.form
        simp only [Value.slice.injEq, true_and] at he4
        obtain ⟨rfl, rfl⟩ := he4
        exact ⟨false, A3, D.length, cap3, D, rfl, ⟨hda4, rfl, HP.out.le, HP.out.cap', HP.out.none', HP.out.dig, HP.out.small⟩, by rw [HV.out]; exact HX.out, hlen, b2⟩
theorem of_any (x : Int) (w : World) (hx : I64 x) : Calls Tryz.prog 95 #[.int .i64 x] w (BigPost x 20 w) := by
  unfold I64 at hx
  by_cases h : x < 0
  · exact of_core x true x.natAbs w (by omega) (by simp; omega) (by simpa using h)
  · exact of_core x false x.natAbs w (by omega) (by simp; omega) (by simpa using h)
def worth (bl : Bool) (D : List Nat) : Int := if bl then -(Pd.val D : Int) else (Pd.val D : Int)
abbrev C2 (W : World) (g : Nat) (bl : Bool) (v : Value) : Prop := W.cell? ⟨g, 0, none⟩ = some (.bool bl) ∧ W.cell? ⟨g, 1, none⟩ = some v
theorem C2.keep {W W' : World} {g n : Nat} {bl : Bool} {v : Value} (h : C2 W g bl v) (hb : Below n W W') (hp : g < n) : C2 W' g bl v :=
  ⟨(hb.cell (p := ⟨g, 0, none⟩) hp).trans h.1, (hb.cell (p := ⟨g, 1, none⟩) hp).trans h.2⟩
theorem heap_two (W : World) (b : Nat) (x y : Value) (j : Nat) (h : j ≠ b) : ((W.setCell ⟨b, 0, none⟩ x).setCell ⟨b, 1, none⟩ y).heap[j]? = W.heap[j]? :=
  (Below.heap_setCell _ _ _ _ h).trans (Below.heap_setCell _ _ _ _ h)
theorem C2.two {W : World} {g b : Nat} {bl : Bool} {v : Value} (h : C2 W g bl v) (hne : g ≠ b) (x y : Value) : C2 ((W.setCell ⟨b, 0, none⟩ x).setCell ⟨b, 1, none⟩ y) g bl v :=
  ⟨(World.cell?_of_block (w := W) (heap_two W b x y g hne)).trans h.1, (World.cell?_of_block (w := W) (heap_two W b x y g hne)).trans h.2⟩
theorem Row.two {W : World} {A : Option Addr} {n cap b : Nat} {D : List Nat} {bl : Bool} {A1 : Option Addr} {n1 c1 : Nat} (h : Row W A n cap D) (g : GK W b bl (.slice A1 n1 c1)) (x y : Value) : Row ((W.setCell ⟨b, 0, none⟩ x).setCell ⟨b, 1, none⟩ y) A n cap D := by
  refine ⟨fun hne => ?_, h.len, h.le, h.cap', h.none', h.dig, h.small⟩
  obtain ⟨b', off, h1, h2, h3⟩ := h.at' hne
  have hb : b' ≠ b := by
    rintro rfl
    obtain ⟨d, hd⟩ : ∃ d, D[0]? = some d := by
      cases D with
      | nil => exact absurd rfl hne
      | cons d r => exact ⟨d, rfl⟩
    have h4 := h3 0 d hd
    rw [cell_of_row _ _ _ _ _ _ g] at h4
    match off, h4 with
    | 0, h4 => simp at h4
    | 1, h4 => simp at h4
    | k + 2, h4 => simp at h4
  refine ⟨b', off, h1, by simpa [World.setCell] using h2, fun j u hu => ?_⟩
  exact (World.cell?_of_block (w := W) (heap_two W b x y b' hb)).trans (h3 j u hu)
theorem add_same (p : Bool) (a b : List Nat) (A A' : Option Addr) (n cap n' cap' N : Nat) (w : World) (ra : Row w A n cap a) (rb : Row w A' n' cap' b) (h1 : n ≤ N) (h2 : n' ≤ N) (hN : N ≤ 99999) :
    Calls Tryz.prog 94 #[.agg #[.bool p, .slice A n cap], .agg #[.bool p, .slice A' n' cap']] w (BigPost (worth p a + worth p b) (N + 1) w) := by
  have RA := Lib.hid ra
  have RB := Lib.hid rb
  clear ra rb
  have hbld := fun A n c W => build45_2 p A n c W
  have K := ((GK.new w p (.slice A n cap)).alloc (.cells #[.bool p, .slice A' n' cap'] 164)).alloc (.cells #[.bool false, .slice none 0 0] 164)
  have L := (GK.new (w.alloc (.cells #[.bool p, .slice A n cap] 164)) p (.slice A' n' cap')).alloc (.cells #[.bool false, .slice none 0 0] 164)
  have M := GK.new ((w.alloc (.cells #[.bool p, .slice A n cap] 164)).alloc (.cells #[.bool p, .slice A' n' cap'] 164)) false (.slice none 0 0)
  have B : Below w.heap.size w (((w.alloc (.cells #[.bool p, .slice A n cap] 164)).alloc (.cells #[.bool p, .slice A' n' cap'] 164)).alloc (.cells #[.bool false, .slice none 0 0] 164)) := (((Below.refl _ _).alloc (Nat.le_refl _) _).alloc (by simp) _).alloc (by simp; omega) _
  simp only [World.size_alloc] at K L M
  have hpp : (p == p) = true := by simp
  go_enter Tryz.func94, Tryz.ntmps94
  go_wp2_with fail
  generalize (((w.alloc (.cells #[.bool p, .slice A n cap] 164)).alloc (.cells #[.bool p, .slice A' n' cap'] 164)).alloc (.cells #[.bool false, .slice none 0 0] 164)) = W0 at *
  have K0 := Lib.hid K
  have L0 := Lib.hid L
  have M0 := Lib.hid M
  have B0 := Lib.hid B
  have e1 : C2 W0.drew w.heap.size p (.slice A n cap) := K.c
  have e2 : C2 W0.drew (w.heap.size + 1) p (.slice A' n' cap') := L.c
  have D0 : Hid (Below W0.heap.size W0 W0.drew) := Lib.hid (Below.refl _ W0).drew
  have CP := Lib.hid fun (W : World) (h : Below W0.heap.size W0 W) => plus_any a b A A' n cap n' cap' N W ((RA.out.on B0.out).on h) ((RB.out.on B0.out).on h) h1 h2 hN
  clear K L M B
  go_region_held3 (fun W => C2 W w.heap.size p (.slice A n cap) ∧ C2 W (w.heap.size + 1) p (.slice A' n' cap')) (first | exact ⟨e1, e2⟩ | exact ⟨f1, f2⟩ | exact ⟨f1.two (by omega) _ _, f2.two (by omega) _ _⟩)
    ((go_at_call 129; (with_reducible refine (CP.out _ D0.out).mono ?_); rintro e w8 ⟨A2, m, c2, D, rfl, row, hv, hm, hb1⟩; have B1 : Hid (Below W0.heap.size W0 w8) := Lib.hid (D0.out.trans hb1); clear hb1; have f1 := C2.keep K0.out.c B1.out K0.out.lt; have f2 := C2.keep L0.out.c B1.out L0.out.lt; have M1 := Lib.hid (M0.out.on B1.out M0.out.lt); obtain ⟨m0, m1⟩ := M1.out.c; have mf0 := M1.out.f 0; have mf1 := M1.out.f 1; have RW := Lib.hid row; have HV := Lib.hid hv; clear row hv))
  all_goals
    go_wp2_with fail
    refine bodyPost_ret (v := .agg #[.bool p, .slice A2 m c2]) (by simp [results, Tryz.results94, go_sem, m0, m1]) rfl ?_
    exact ⟨p, A2, m, c2, D, rfl, RW.out.two M1.out _ _, by rw [HV.out]; cases p <;> simp [worth] <;> omega, hm, ((below_step B0.out B1.out).setCell (p := ⟨w.heap.size + 1 + 1, 0, none⟩) (by show w.heap.size ≤ w.heap.size + 1 + 1; omega) _).setCell (p := ⟨w.heap.size + 1 + 1, 1, none⟩) (by show w.heap.size ≤ w.heap.size + 1 + 1; omega) _⟩
theorem add_less_tf (a b : List Nat) (A A' : Option Addr) (n cap n' cap' N : Nat) (w : World) (ra : Row w A n cap a) (rb : Row w A' n' cap' b) (h1 : n ≤ N) (h2 : n' ≤ N) (hN : N ≤ 99999) (hlt : Pd.val a < Pd.val b) :
    Calls Tryz.prog 94 #[.agg #[.bool true, .slice A n cap], .agg #[.bool false, .slice A' n' cap']] w (BigPost (worth true a + worth false b) (N + 1) w) := by
  have RA := Lib.hid ra
  have RB := Lib.hid rb
  clear ra rb
  have hbld := fun A n c W => build45_2 false A n c W
  have K := ((GK.new w true (.slice A n cap)).alloc (.cells #[.bool false, .slice A' n' cap'] 164)).alloc (.cells #[.bool false, .slice none 0 0] 164)
  have L := (GK.new (w.alloc (.cells #[.bool true, .slice A n cap] 164)) false (.slice A' n' cap')).alloc (.cells #[.bool false, .slice none 0 0] 164)
  have M := GK.new ((w.alloc (.cells #[.bool true, .slice A n cap] 164)).alloc (.cells #[.bool false, .slice A' n' cap'] 164)) false (.slice none 0 0)
  have B : Below w.heap.size w (((w.alloc (.cells #[.bool true, .slice A n cap] 164)).alloc (.cells #[.bool false, .slice A' n' cap'] 164)).alloc (.cells #[.bool false, .slice none 0 0] 164)) := (((Below.refl _ _).alloc (Nat.le_refl _) _).alloc (by simp) _).alloc (by simp; omega) _
  simp only [World.size_alloc] at K L M
  have CL := Lib.hid fun (W : World) (h : Below w.heap.size w W) => less_any a b A A' n cap n' cap' W (RA.out.on h) (RB.out.on h)
  have hlb : lessB a b = true := by unfold lessB; simp; omega
  go_enter Tryz.func94, Tryz.ntmps94
  go_wp2_with (go_at_call 130; (with_reducible refine (CL.out _ B).mono ?_); rintro e w' ⟨rfl, rfl⟩)
  generalize (((w.alloc (.cells #[.bool true, .slice A n cap] 164)).alloc (.cells #[.bool false, .slice A' n' cap'] 164)).alloc (.cells #[.bool false, .slice none 0 0] 164)) = W0 at *
  have K0 := Lib.hid K
  have L0 := Lib.hid L
  have M0 := Lib.hid M
  have B0 := Lib.hid B
  have e1 : C2 W0.drew w.heap.size true (.slice A n cap) := K.c
  have e2 : C2 W0.drew (w.heap.size + 1) false (.slice A' n' cap') := L.c
  have D0 : Hid (Below W0.heap.size W0 W0.drew) := Lib.hid (Below.refl _ W0).drew
  have CP := Lib.hid fun (W : World) (h : Below W0.heap.size W0 W) => minus_any b a A' A n' cap' n cap N W ((RB.out.on B0.out).on h) ((RA.out.on B0.out).on h) h2 h1 hN (by omega)
  clear K L M B
  go_region_held3 (fun W => C2 W w.heap.size true (.slice A n cap) ∧ C2 W (w.heap.size + 1) false (.slice A' n' cap')) (first | exact ⟨e1, e2⟩ | exact ⟨f1, f2⟩ | exact ⟨f1.two (by omega) _ _, f2.two (by omega) _ _⟩)
    ((go_at_call 129; (with_reducible refine (CP.out _ D0.out).mono ?_); rintro e w8 ⟨A2, m, c2, D, rfl, row, hv, hm, hb1⟩; have B1 : Hid (Below W0.heap.size W0 w8) := Lib.hid (D0.out.trans hb1); clear hb1; have f1 := C2.keep K0.out.c B1.out K0.out.lt; have f2 := C2.keep L0.out.c B1.out L0.out.lt; have M1 := Lib.hid (M0.out.on B1.out M0.out.lt); obtain ⟨m0, m1⟩ := M1.out.c; have mf0 := M1.out.f 0; have mf1 := M1.out.f 1; have RW := Lib.hid row; have HV := Lib.hid hv; clear row hv))
  all_goals
    go_wp2_with fail
    refine bodyPost_ret (v := .agg #[.bool false, .slice A2 m c2]) (by simp [results, Tryz.results94, go_sem, m0, m1]) rfl ?_
    exact ⟨false, A2, m, c2, D, rfl, RW.out.two M1.out _ _, by rw [HV.out]; simp [worth]; omega, hm, ((below_step B0.out B1.out).setCell (p := ⟨w.heap.size + 1 + 1, 0, none⟩) (by show w.heap.size ≤ w.heap.size + 1 + 1; omega) _).setCell (p := ⟨w.heap.size + 1 + 1, 1, none⟩) (by show w.heap.size ≤ w.heap.size + 1 + 1; omega) _⟩
theorem add_more_tf (a b : List Nat) (A A' : Option Addr) (n cap n' cap' N : Nat) (w : World) (ra : Row w A n cap a) (rb : Row w A' n' cap' b) (h1 : n ≤ N) (h2 : n' ≤ N) (hN : N ≤ 99999) (hlt : Pd.val b ≤ Pd.val a) :
    Calls Tryz.prog 94 #[.agg #[.bool true, .slice A n cap], .agg #[.bool false, .slice A' n' cap']] w (BigPost (worth true a + worth false b) (N + 1) w) := by
  have RA := Lib.hid ra
  have RB := Lib.hid rb
  clear ra rb
  have hbld := fun A n c W => build45_2 true A n c W
  have K := ((GK.new w true (.slice A n cap)).alloc (.cells #[.bool false, .slice A' n' cap'] 164)).alloc (.cells #[.bool false, .slice none 0 0] 164)
  have L := (GK.new (w.alloc (.cells #[.bool true, .slice A n cap] 164)) false (.slice A' n' cap')).alloc (.cells #[.bool false, .slice none 0 0] 164)
  have M := GK.new ((w.alloc (.cells #[.bool true, .slice A n cap] 164)).alloc (.cells #[.bool false, .slice A' n' cap'] 164)) false (.slice none 0 0)
  have B : Below w.heap.size w (((w.alloc (.cells #[.bool true, .slice A n cap] 164)).alloc (.cells #[.bool false, .slice A' n' cap'] 164)).alloc (.cells #[.bool false, .slice none 0 0] 164)) := (((Below.refl _ _).alloc (Nat.le_refl _) _).alloc (by simp) _).alloc (by simp; omega) _
  simp only [World.size_alloc] at K L M
  have CL := Lib.hid fun (W : World) (h : Below w.heap.size w W) => less_any a b A A' n cap n' cap' W (RA.out.on h) (RB.out.on h)
  have hlb : lessB a b = false := by unfold lessB; simp; omega
  go_enter Tryz.func94, Tryz.ntmps94
  go_wp2_with (go_at_call 130; (with_reducible refine (CL.out _ B).mono ?_); rintro e w' ⟨rfl, rfl⟩)
  generalize (((w.alloc (.cells #[.bool true, .slice A n cap] 164)).alloc (.cells #[.bool false, .slice A' n' cap'] 164)).alloc (.cells #[.bool false, .slice none 0 0] 164)) = W0 at *
  have K0 := Lib.hid K
  have L0 := Lib.hid L
  have M0 := Lib.hid M
  have B0 := Lib.hid B
  have e1 : C2 W0.drew w.heap.size true (.slice A n cap) := K.c
  have e2 : C2 W0.drew (w.heap.size + 1) false (.slice A' n' cap') := L.c
  have D0 : Hid (Below W0.heap.size W0 W0.drew) := Lib.hid (Below.refl _ W0).drew
  have CP := Lib.hid fun (W : World) (h : Below W0.heap.size W0 W) => minus_any a b A A' n cap n' cap' N W ((RA.out.on B0.out).on h) ((RB.out.on B0.out).on h) h1 h2 hN (by omega)
  clear K L M B
  go_region_held3 (fun W => C2 W w.heap.size true (.slice A n cap) ∧ C2 W (w.heap.size + 1) false (.slice A' n' cap')) (first | exact ⟨e1, e2⟩ | exact ⟨f1, f2⟩ | exact ⟨f1.two (by omega) _ _, f2.two (by omega) _ _⟩)
    ((go_at_call 129; (with_reducible refine (CP.out _ D0.out).mono ?_); rintro e w8 ⟨A2, m, c2, D, rfl, row, hv, hm, hb1⟩; have B1 : Hid (Below W0.heap.size W0 w8) := Lib.hid (D0.out.trans hb1); clear hb1; have f1 := C2.keep K0.out.c B1.out K0.out.lt; have f2 := C2.keep L0.out.c B1.out L0.out.lt; have M1 := Lib.hid (M0.out.on B1.out M0.out.lt); obtain ⟨m0, m1⟩ := M1.out.c; have mf0 := M1.out.f 0; have mf1 := M1.out.f 1; have RW := Lib.hid row; have HV := Lib.hid hv; clear row hv))
  all_goals
    go_wp2_with fail
    refine bodyPost_ret (v := .agg #[.bool true, .slice A2 m c2]) (by simp [results, Tryz.results94, go_sem, m0, m1]) rfl ?_
    exact ⟨true, A2, m, c2, D, rfl, RW.out.two M1.out _ _, by rw [HV.out]; simp [worth]; omega, hm, ((below_step B0.out B1.out).setCell (p := ⟨w.heap.size + 1 + 1, 0, none⟩) (by show w.heap.size ≤ w.heap.size + 1 + 1; omega) _).setCell (p := ⟨w.heap.size + 1 + 1, 1, none⟩) (by show w.heap.size ≤ w.heap.size + 1 + 1; omega) _⟩
theorem add_less_ft (a b : List Nat) (A A' : Option Addr) (n cap n' cap' N : Nat) (w : World) (ra : Row w A n cap a) (rb : Row w A' n' cap' b) (h1 : n ≤ N) (h2 : n' ≤ N) (hN : N ≤ 99999) (hlt : Pd.val a < Pd.val b) :
    Calls Tryz.prog 94 #[.agg #[.bool false, .slice A n cap], .agg #[.bool true, .slice A' n' cap']] w (BigPost (worth false a + worth true b) (N + 1) w) := by
  have RA := Lib.hid ra
  have RB := Lib.hid rb
  clear ra rb
  have hbld := fun A n c W => build45_2 true A n c W
  have K := ((GK.new w false (.slice A n cap)).alloc (.cells #[.bool true, .slice A' n' cap'] 164)).alloc (.cells #[.bool false, .slice none 0 0] 164)
  have L := (GK.new (w.alloc (.cells #[.bool false, .slice A n cap] 164)) true (.slice A' n' cap')).alloc (.cells #[.bool false, .slice none 0 0] 164)
  have M := GK.new ((w.alloc (.cells #[.bool false, .slice A n cap] 164)).alloc (.cells #[.bool true, .slice A' n' cap'] 164)) false (.slice none 0 0)
  have B : Below w.heap.size w (((w.alloc (.cells #[.bool false, .slice A n cap] 164)).alloc (.cells #[.bool true, .slice A' n' cap'] 164)).alloc (.cells #[.bool false, .slice none 0 0] 164)) := (((Below.refl _ _).alloc (Nat.le_refl _) _).alloc (by simp) _).alloc (by simp; omega) _
  simp only [World.size_alloc] at K L M
  have CL := Lib.hid fun (W : World) (h : Below w.heap.size w W) => less_any a b A A' n cap n' cap' W (RA.out.on h) (RB.out.on h)
  have hlb : lessB a b = true := by unfold lessB; simp; omega
  go_enter Tryz.func94, Tryz.ntmps94
  go_wp2_with (go_at_call 130; (with_reducible refine (CL.out _ B).mono ?_); rintro e w' ⟨rfl, rfl⟩)
  generalize (((w.alloc (.cells #[.bool false, .slice A n cap] 164)).alloc (.cells #[.bool true, .slice A' n' cap'] 164)).alloc (.cells #[.bool false, .slice none 0 0] 164)) = W0 at *
  have K0 := Lib.hid K
  have L0 := Lib.hid L
  have M0 := Lib.hid M
  have B0 := Lib.hid B
  have e1 : C2 W0.drew w.heap.size false (.slice A n cap) := K.c
  have e2 : C2 W0.drew (w.heap.size + 1) true (.slice A' n' cap') := L.c
  have D0 : Hid (Below W0.heap.size W0 W0.drew) := Lib.hid (Below.refl _ W0).drew
  have CP := Lib.hid fun (W : World) (h : Below W0.heap.size W0 W) => minus_any b a A' A n' cap' n cap N W ((RB.out.on B0.out).on h) ((RA.out.on B0.out).on h) h2 h1 hN (by omega)
  clear K L M B
  go_region_held3 (fun W => C2 W w.heap.size false (.slice A n cap) ∧ C2 W (w.heap.size + 1) true (.slice A' n' cap')) (first | exact ⟨e1, e2⟩ | exact ⟨f1, f2⟩ | exact ⟨f1.two (by omega) _ _, f2.two (by omega) _ _⟩)
    ((go_at_call 129; (with_reducible refine (CP.out _ D0.out).mono ?_); rintro e w8 ⟨A2, m, c2, D, rfl, row, hv, hm, hb1⟩; have B1 : Hid (Below W0.heap.size W0 w8) := Lib.hid (D0.out.trans hb1); clear hb1; have f1 := C2.keep K0.out.c B1.out K0.out.lt; have f2 := C2.keep L0.out.c B1.out L0.out.lt; have M1 := Lib.hid (M0.out.on B1.out M0.out.lt); obtain ⟨m0, m1⟩ := M1.out.c; have mf0 := M1.out.f 0; have mf1 := M1.out.f 1; have RW := Lib.hid row; have HV := Lib.hid hv; clear row hv))
  all_goals
    go_wp2_with fail
    refine bodyPost_ret (v := .agg #[.bool true, .slice A2 m c2]) (by simp [results, Tryz.results94, go_sem, m0, m1]) rfl ?_
    exact ⟨true, A2, m, c2, D, rfl, RW.out.two M1.out _ _, by rw [HV.out]; simp [worth]; omega, hm, ((below_step B0.out B1.out).setCell (p := ⟨w.heap.size + 1 + 1, 0, none⟩) (by show w.heap.size ≤ w.heap.size + 1 + 1; omega) _).setCell (p := ⟨w.heap.size + 1 + 1, 1, none⟩) (by show w.heap.size ≤ w.heap.size + 1 + 1; omega) _⟩
theorem add_more_ft (a b : List Nat) (A A' : Option Addr) (n cap n' cap' N : Nat) (w : World) (ra : Row w A n cap a) (rb : Row w A' n' cap' b) (h1 : n ≤ N) (h2 : n' ≤ N) (hN : N ≤ 99999) (hlt : Pd.val b ≤ Pd.val a) :
    Calls Tryz.prog 94 #[.agg #[.bool false, .slice A n cap], .agg #[.bool true, .slice A' n' cap']] w (BigPost (worth false a + worth true b) (N + 1) w) := by
  have RA := Lib.hid ra
  have RB := Lib.hid rb
  clear ra rb
  have hbld := fun A n c W => build45_2 false A n c W
  have K := ((GK.new w false (.slice A n cap)).alloc (.cells #[.bool true, .slice A' n' cap'] 164)).alloc (.cells #[.bool false, .slice none 0 0] 164)
  have L := (GK.new (w.alloc (.cells #[.bool false, .slice A n cap] 164)) true (.slice A' n' cap')).alloc (.cells #[.bool false, .slice none 0 0] 164)
  have M := GK.new ((w.alloc (.cells #[.bool false, .slice A n cap] 164)).alloc (.cells #[.bool true, .slice A' n' cap'] 164)) false (.slice none 0 0)
  have B : Below w.heap.size w (((w.alloc (.cells #[.bool false, .slice A n cap] 164)).alloc (.cells #[.bool true, .slice A' n' cap'] 164)).alloc (.cells #[.bool false, .slice none 0 0] 164)) := (((Below.refl _ _).alloc (Nat.le_refl _) _).alloc (by simp) _).alloc (by simp; omega) _
  simp only [World.size_alloc] at K L M
  have CL := Lib.hid fun (W : World) (h : Below w.heap.size w W) => less_any a b A A' n cap n' cap' W (RA.out.on h) (RB.out.on h)
  have hlb : lessB a b = false := by unfold lessB; simp; omega
  go_enter Tryz.func94, Tryz.ntmps94
  go_wp2_with (go_at_call 130; (with_reducible refine (CL.out _ B).mono ?_); rintro e w' ⟨rfl, rfl⟩)
  generalize (((w.alloc (.cells #[.bool false, .slice A n cap] 164)).alloc (.cells #[.bool true, .slice A' n' cap'] 164)).alloc (.cells #[.bool false, .slice none 0 0] 164)) = W0 at *
  have K0 := Lib.hid K
  have L0 := Lib.hid L
  have M0 := Lib.hid M
  have B0 := Lib.hid B
  have e1 : C2 W0.drew w.heap.size false (.slice A n cap) := K.c
  have e2 : C2 W0.drew (w.heap.size + 1) true (.slice A' n' cap') := L.c
  have D0 : Hid (Below W0.heap.size W0 W0.drew) := Lib.hid (Below.refl _ W0).drew
  have CP := Lib.hid fun (W : World) (h : Below W0.heap.size W0 W) => minus_any a b A A' n cap n' cap' N W ((RA.out.on B0.out).on h) ((RB.out.on B0.out).on h) h1 h2 hN (by omega)
  clear K L M B
  go_region_held3 (fun W => C2 W w.heap.size false (.slice A n cap) ∧ C2 W (w.heap.size + 1) true (.slice A' n' cap')) (first | exact ⟨e1, e2⟩ | exact ⟨f1, f2⟩ | exact ⟨f1.two (by omega) _ _, f2.two (by omega) _ _⟩)
    ((go_at_call 129; (with_reducible refine (CP.out _ D0.out).mono ?_); rintro e w8 ⟨A2, m, c2, D, rfl, row, hv, hm, hb1⟩; have B1 : Hid (Below W0.heap.size W0 w8) := Lib.hid (D0.out.trans hb1); clear hb1; have f1 := C2.keep K0.out.c B1.out K0.out.lt; have f2 := C2.keep L0.out.c B1.out L0.out.lt; have M1 := Lib.hid (M0.out.on B1.out M0.out.lt); obtain ⟨m0, m1⟩ := M1.out.c; have mf0 := M1.out.f 0; have mf1 := M1.out.f 1; have RW := Lib.hid row; have HV := Lib.hid hv; clear row hv))
  all_goals
    go_wp2_with fail
    refine bodyPost_ret (v := .agg #[.bool false, .slice A2 m c2]) (by simp [results, Tryz.results94, go_sem, m0, m1]) rfl ?_
    exact ⟨false, A2, m, c2, D, rfl, RW.out.two M1.out _ _, by rw [HV.out]; simp [worth]; omega, hm, ((below_step B0.out B1.out).setCell (p := ⟨w.heap.size + 1 + 1, 0, none⟩) (by show w.heap.size ≤ w.heap.size + 1 + 1; omega) _).setCell (p := ⟨w.heap.size + 1 + 1, 1, none⟩) (by show w.heap.size ≤ w.heap.size + 1 + 1; omega) _⟩
theorem add_big (p q : Bool) (a b : List Nat) (A A' : Option Addr) (n cap n' cap' N : Nat) (w : World) (ra : Row w A n cap a) (rb : Row w A' n' cap' b) (h1 : n ≤ N) (h2 : n' ≤ N) (hN : N ≤ 99999) :
    Calls Tryz.prog 94 #[.agg #[.bool p, .slice A n cap], .agg #[.bool q, .slice A' n' cap']] w (BigPost (worth p a + worth q b) (N + 1) w) := by
  cases p with
  | true =>
    cases q with
    | true => exact add_same true a b A A' n cap n' cap' N w ra rb h1 h2 hN
    | false =>
      by_cases h : Pd.val a < Pd.val b
      · exact add_less_tf a b A A' n cap n' cap' N w ra rb h1 h2 hN h
      · exact add_more_tf a b A A' n cap n' cap' N w ra rb h1 h2 hN (by omega)
  | false =>
    cases q with
    | false => exact add_same false a b A A' n cap n' cap' N w ra rb h1 h2 hN
    | true =>
      by_cases h : Pd.val a < Pd.val b
      · exact add_less_ft a b A A' n cap n' cap' N w ra rb h1 h2 hN h
      · exact add_more_ft a b A A' n cap n' cap' N w ra rb h1 h2 hN (by omega)
theorem field45 (b : Bool) (A : Option Addr) (n c : Nat) (w : World) : (Instr.field 164 (.agg #[.bool b, .slice A n c]) 1).run Tryz.prog w = .ok (.slice A n c) w := by kernel_rfl
def numV (x : Int) : Value := if I64 x then .tuple #[.int .i64 x, .bool true] else .tuple #[.int .i64 0, .bool false]
theorem top_any (w : World) : Calls Tryz.prog 95 #[.int .i64 (-9223372036854775808)] w fun e w' => ∃ bl A n cap D, e = .returned (.agg #[.bool bl, .slice A n cap]) ∧ Row w' A n cap D ∧ Pd.val D = 9223372036854775808 ∧ Below w.heap.size w w' :=
  (of_any (-9223372036854775808) w ⟨by omega, by omega⟩).mono fun e w' ⟨bl, A, n, cap, D, h1, h2, h3, h4, h5⟩ => ⟨bl, A, n, cap, D, h1, h2, by
    cases bl with
    | true => simp at h3; first | done | omega
    | false => simp at h3; first | done | omega, h5⟩
def NumRel (D : List Nat) (n : Nat) (mv i : Value) : Prop := ∃ k m : Nat, k ≤ n ∧ i = .int .i64 ((k : Int) - 1) ∧ mv = .int .u64 (m : Int) ∧ Pd.val D = Pd.V (Pd.dg D) k + m * 10 ^ k
set_option maxHeartbeats 1000000 in
theorem num_over_t (D : List Nat) (A : Option Addr) (n cap : Nat) (w : World) (ra : Row w A n cap D) (hv : 9223372036854775808 < Pd.val D) :
    Calls Tryz.prog 96 #[.agg #[.bool true, .slice A n cap]] w fun e w' => e = .returned (numV (worth true D)) ∧ Below w.heap.size w w' := by
  have RA := Lib.hid ra
  have hsm := ra.small
  clear ra
  have NV := Lib.hid (show numV (worth true D) = .tuple #[.int .i64 0, .bool false] from by unfold numV; rw [if_neg (by simp [worth, I64]; omega)])
  have K := Lib.hid (GK.new w true (.slice A n cap))
  have B0 := Lib.hid ((Below.refl _ w).alloc (Nat.le_refl _) (.cells #[.bool true, .slice A n cap] 164))
  have hfd := fun b A n c W => field45 b A n c W
  go_enter Tryz.func96, Tryz.ntmps96
  go_wp2_with fail
  refine (top_any _).mono ?_
  rintro _ w1 ⟨tb, A2, n2, cap2, T, rfl, row, htop, hb⟩
  have B1 := Lib.hid (below_step B0.out hb)
  have K1 := Lib.hid (K.out.on hb K.out.lt)
  obtain ⟨k0, k1⟩ := K1.out.c
  have C1 := Lib.hid (less_any T D A2 A n2 cap2 n cap w1 row (RA.out.on B1.out))
  have C2 := Lib.hid (less_any D T A A2 n cap n2 cap2 w1 (RA.out.on B1.out) row)
  have hl1 : lessB T D = true := by unfold lessB; simp; omega

  clear hb row htop
  go_wp2_with (first | (go_at_call 130; (with_reducible refine (C1.out).mono ?_); rintro e w' ⟨rfl, rfl⟩) | (go_at_call 130; (with_reducible refine (C2.out).mono ?_); rintro e w' ⟨rfl, rfl⟩))
  go_ret2
  exact ⟨by rw [NV.out]; rfl, B1.out⟩
set_option maxHeartbeats 1000000 in
theorem num_over_f (D : List Nat) (A : Option Addr) (n cap : Nat) (w : World) (ra : Row w A n cap D) (hv : 9223372036854775808 < Pd.val D) :
    Calls Tryz.prog 96 #[.agg #[.bool false, .slice A n cap]] w fun e w' => e = .returned (numV (worth false D)) ∧ Below w.heap.size w w' := by
  have RA := Lib.hid ra
  have hsm := ra.small
  clear ra
  have NV := Lib.hid (show numV (worth false D) = .tuple #[.int .i64 0, .bool false] from by unfold numV; rw [if_neg (by simp [worth, I64]; omega)])
  have K := Lib.hid (GK.new w false (.slice A n cap))
  have B0 := Lib.hid ((Below.refl _ w).alloc (Nat.le_refl _) (.cells #[.bool false, .slice A n cap] 164))
  have hfd := fun b A n c W => field45 b A n c W
  go_enter Tryz.func96, Tryz.ntmps96
  go_wp2_with fail
  refine (top_any _).mono ?_
  rintro _ w1 ⟨tb, A2, n2, cap2, T, rfl, row, htop, hb⟩
  have B1 := Lib.hid (below_step B0.out hb)
  have K1 := Lib.hid (K.out.on hb K.out.lt)
  obtain ⟨k0, k1⟩ := K1.out.c
  have C1 := Lib.hid (less_any T D A2 A n2 cap2 n cap w1 row (RA.out.on B1.out))
  have C2 := Lib.hid (less_any D T A A2 n cap n2 cap2 w1 (RA.out.on B1.out) row)
  have hl1 : lessB T D = true := by unfold lessB; simp; omega

  clear hb row htop
  go_wp2_with (first | (go_at_call 130; (with_reducible refine (C1.out).mono ?_); rintro e w' ⟨rfl, rfl⟩) | (go_at_call 130; (with_reducible refine (C2.out).mono ?_); rintro e w' ⟨rfl, rfl⟩))
  go_ret2
  exact ⟨by rw [NV.out]; rfl, B1.out⟩
set_option maxHeartbeats 1000000 in
theorem num_less_t (D : List Nat) (A : Option Addr) (n cap : Nat) (w : World) (ra : Row w A n cap D) (hv : Pd.val D < 9223372036854775808) :
    Calls Tryz.prog 96 #[.agg #[.bool true, .slice A n cap]] w fun e w' => e = .returned (numV (worth true D)) ∧ Below w.heap.size w w' := by
  have RA := Lib.hid ra
  have hsm := ra.small
  clear ra
  have NV := Lib.hid (show numV (worth true D) = .tuple #[.int .i64 (-(Pd.val D : Int)), .bool true] from by unfold numV; rw [if_pos (by simp [worth, I64]; omega)]; simp [worth])
  have K := Lib.hid (GK.new w true (.slice A n cap))
  have B0 := Lib.hid ((Below.refl _ w).alloc (Nat.le_refl _) (.cells #[.bool true, .slice A n cap] 164))
  have hfd := fun b A n c W => field45 b A n c W
  go_enter Tryz.func96, Tryz.ntmps96
  go_wp2_with fail
  refine (top_any _).mono ?_
  rintro _ w1 ⟨tb, A2, n2, cap2, T, rfl, row, htop, hb⟩
  have B1 := Lib.hid (below_step B0.out hb)
  have K1 := Lib.hid (K.out.on hb K.out.lt)
  obtain ⟨k0, k1⟩ := K1.out.c
  have C1 := Lib.hid (less_any T D A2 A n2 cap2 n cap w1 row (RA.out.on B1.out))
  have C2 := Lib.hid (less_any D T A A2 n cap n2 cap2 w1 (RA.out.on B1.out) row)
  have hl1 : lessB T D = false := by unfold lessB; simp; omega
  have hl2 : lessB D T = true := by unfold lessB; simp; omega
  clear hb row htop
  go_wp2_with (first | (go_at_call 130; (with_reducible refine (C1.out).mono ?_); rintro e w' ⟨rfl, rfl⟩) | (go_at_call 130; (with_reducible refine (C2.out).mono ?_); rintro e w' ⟨rfl, rfl⟩))
  go_loop [5, 6] (NumRel D n) (fun _ i => (intOf i + 1).toNat)
  case atStart => exact ⟨n, 0, Nat.le_refl _, rfl, rfl, by rw [Pd.val_V (by rw [RA.out.len]; exact Nat.le_refl _)]; simp⟩
  case round =>
    obtain ⟨k, m, hk, rfl, rfl, hval⟩ := hrel
    have hml := Pd.horner_le hval
    have HV := Lib.hid hval
    clear hval
    cases k with
    | succ j =>
      rw [show ((j + 1 : Nat) : Int) - 1 = (j : Int) from by omega]
      have hjl : j < D.length := by rw [RA.out.len]; omega
      obtain ⟨b, off, rfl, hb1, hb2⟩ := (RA.out.on B1.out).at' (fun e => by rw [e] at hjl; simp at hjl)
      have hcell := hb2 j D[j] (List.getElem?_eq_getElem hjl)
      have hh := Pd.horner HV.out
      rw [Pd.dg_at hjl] at hh
      have hd := RA.out.dig D[j] (List.getElem_mem hjl)
      have hle : m * 10 + D[j] ≤ Pd.val D := Pd.horner_le hh
      have HH := Lib.hid hh
      generalize D[j] = u at *
      have hle2 : (m : Int) * 10 + u ≤ 9223372036854775808 := by omega
      have hj1 : (j : Int) < n := by omega
      have hu0 : (0 : Int) ≤ u := by omega
      have hu1 : (u : Int) ≤ 9 := by omega
      clear hb2 hh hle
      go_wp2_with fail
      go_round
      case rel => exact ⟨j, m * 10 + u, by omega, rfl, by rw [show ((m * 10 + u : Nat) : Int) = (m : Int) * 10 + u from by omega], HH.out⟩
      case measure => simp [intOf]
    | zero =>
      rw [show ((0 : Nat) : Int) - 1 = -1 from by omega]
      have hm : m = Pd.val D := by have := HV.out; simp [Pd.V] at this; omega
      have HM := Lib.hid hm
      have hmb : (m : Int) ≤ 9223372036854775808 := by omega
      have hm0 : (0 : Int) ≤ m := by omega
      have hw : IntKind.i64.wrap (IntKind.u64.wrap (-(m : Int))) = -(m : Int) := by rw [IntKind.wrap_u64, IntKind.wrap_i64]; omega
      clear hm
      go_wp2_with fail
      go_ret2
      exact ⟨by rw [NV.out, ← HM.out]; first | rfl | (rw [hw]; rfl), B1.out⟩
set_option maxHeartbeats 1000000 in
theorem num_less_f (D : List Nat) (A : Option Addr) (n cap : Nat) (w : World) (ra : Row w A n cap D) (hv : Pd.val D < 9223372036854775808) :
    Calls Tryz.prog 96 #[.agg #[.bool false, .slice A n cap]] w fun e w' => e = .returned (numV (worth false D)) ∧ Below w.heap.size w w' := by
  have RA := Lib.hid ra
  have hsm := ra.small
  clear ra
  have NV := Lib.hid (show numV (worth false D) = .tuple #[.int .i64 ((Pd.val D : Int)), .bool true] from by unfold numV; rw [if_pos (by simp [worth, I64]; omega)]; simp [worth])
  have K := Lib.hid (GK.new w false (.slice A n cap))
  have B0 := Lib.hid ((Below.refl _ w).alloc (Nat.le_refl _) (.cells #[.bool false, .slice A n cap] 164))
  have hfd := fun b A n c W => field45 b A n c W
  go_enter Tryz.func96, Tryz.ntmps96
  go_wp2_with fail
  refine (top_any _).mono ?_
  rintro _ w1 ⟨tb, A2, n2, cap2, T, rfl, row, htop, hb⟩
  have B1 := Lib.hid (below_step B0.out hb)
  have K1 := Lib.hid (K.out.on hb K.out.lt)
  obtain ⟨k0, k1⟩ := K1.out.c
  have C1 := Lib.hid (less_any T D A2 A n2 cap2 n cap w1 row (RA.out.on B1.out))
  have C2 := Lib.hid (less_any D T A A2 n cap n2 cap2 w1 (RA.out.on B1.out) row)
  have hl1 : lessB T D = false := by unfold lessB; simp; omega
  have hl2 : lessB D T = true := by unfold lessB; simp; omega
  clear hb row htop
  go_wp2_with (first | (go_at_call 130; (with_reducible refine (C1.out).mono ?_); rintro e w' ⟨rfl, rfl⟩) | (go_at_call 130; (with_reducible refine (C2.out).mono ?_); rintro e w' ⟨rfl, rfl⟩))
  go_loop [5, 6] (NumRel D n) (fun _ i => (intOf i + 1).toNat)
  case atStart => exact ⟨n, 0, Nat.le_refl _, rfl, rfl, by rw [Pd.val_V (by rw [RA.out.len]; exact Nat.le_refl _)]; simp⟩
  case round =>
    obtain ⟨k, m, hk, rfl, rfl, hval⟩ := hrel
    have hml := Pd.horner_le hval
    have HV := Lib.hid hval
    clear hval
    cases k with
    | succ j =>
      rw [show ((j + 1 : Nat) : Int) - 1 = (j : Int) from by omega]
      have hjl : j < D.length := by rw [RA.out.len]; omega
      obtain ⟨b, off, rfl, hb1, hb2⟩ := (RA.out.on B1.out).at' (fun e => by rw [e] at hjl; simp at hjl)
      have hcell := hb2 j D[j] (List.getElem?_eq_getElem hjl)
      have hh := Pd.horner HV.out
      rw [Pd.dg_at hjl] at hh
      have hd := RA.out.dig D[j] (List.getElem_mem hjl)
      have hle : m * 10 + D[j] ≤ Pd.val D := Pd.horner_le hh
      have HH := Lib.hid hh
      generalize D[j] = u at *
      have hle2 : (m : Int) * 10 + u ≤ 9223372036854775808 := by omega
      have hj1 : (j : Int) < n := by omega
      have hu0 : (0 : Int) ≤ u := by omega
      have hu1 : (u : Int) ≤ 9 := by omega
      clear hb2 hh hle
      go_wp2_with fail
      go_round
      case rel => exact ⟨j, m * 10 + u, by omega, rfl, by rw [show ((m * 10 + u : Nat) : Int) = (m : Int) * 10 + u from by omega], HH.out⟩
      case measure => simp [intOf]
    | zero =>
      rw [show ((0 : Nat) : Int) - 1 = -1 from by omega]
      have hm : m = Pd.val D := by have := HV.out; simp [Pd.V] at this; omega
      have HM := Lib.hid hm
      have hmb : (m : Int) ≤ 9223372036854775807 := by omega
      have hm0 : (0 : Int) ≤ m := by omega
  
      clear hm
      go_wp2_with fail
      go_ret2
      exact ⟨by rw [NV.out, ← HM.out]; first | rfl | (rw [hw]; rfl), B1.out⟩
set_option maxHeartbeats 1000000 in
theorem num_top_t (D : List Nat) (A : Option Addr) (n cap : Nat) (w : World) (ra : Row w A n cap D) (hv : Pd.val D = 9223372036854775808) :
    Calls Tryz.prog 96 #[.agg #[.bool true, .slice A n cap]] w fun e w' => e = .returned (numV (worth true D)) ∧ Below w.heap.size w w' := by
  have RA := Lib.hid ra
  have hsm := ra.small
  clear ra
  have NV := Lib.hid (show numV (worth true D) = .tuple #[.int .i64 (-(Pd.val D : Int)), .bool true] from by unfold numV; rw [if_pos (by simp [worth, I64]; omega)]; simp [worth])
  have K := Lib.hid (GK.new w true (.slice A n cap))
  have B0 := Lib.hid ((Below.refl _ w).alloc (Nat.le_refl _) (.cells #[.bool true, .slice A n cap] 164))
  have hfd := fun b A n c W => field45 b A n c W
  go_enter Tryz.func96, Tryz.ntmps96
  go_wp2_with fail
  refine (top_any _).mono ?_
  rintro _ w1 ⟨tb, A2, n2, cap2, T, rfl, row, htop, hb⟩
  have B1 := Lib.hid (below_step B0.out hb)
  have K1 := Lib.hid (K.out.on hb K.out.lt)
  obtain ⟨k0, k1⟩ := K1.out.c
  have C1 := Lib.hid (less_any T D A2 A n2 cap2 n cap w1 row (RA.out.on B1.out))
  have C2 := Lib.hid (less_any D T A A2 n cap n2 cap2 w1 (RA.out.on B1.out) row)
  have hl1 : lessB T D = false := by unfold lessB; simp; omega
  have hl2 : lessB D T = false := by unfold lessB; simp; omega
  clear hb row htop
  go_wp2_with (first | (go_at_call 130; (with_reducible refine (C1.out).mono ?_); rintro e w' ⟨rfl, rfl⟩) | (go_at_call 130; (with_reducible refine (C2.out).mono ?_); rintro e w' ⟨rfl, rfl⟩))
  go_loop [5, 6] (NumRel D n) (fun _ i => (intOf i + 1).toNat)
  case atStart => exact ⟨n, 0, Nat.le_refl _, rfl, rfl, by rw [Pd.val_V (by rw [RA.out.len]; exact Nat.le_refl _)]; simp⟩
  case round =>
    obtain ⟨k, m, hk, rfl, rfl, hval⟩ := hrel
    have hml := Pd.horner_le hval
    have HV := Lib.hid hval
    clear hval
    cases k with
    | succ j =>
      rw [show ((j + 1 : Nat) : Int) - 1 = (j : Int) from by omega]
      have hjl : j < D.length := by rw [RA.out.len]; omega
      obtain ⟨b, off, rfl, hb1, hb2⟩ := (RA.out.on B1.out).at' (fun e => by rw [e] at hjl; simp at hjl)
      have hcell := hb2 j D[j] (List.getElem?_eq_getElem hjl)
      have hh := Pd.horner HV.out
      rw [Pd.dg_at hjl] at hh
      have hd := RA.out.dig D[j] (List.getElem_mem hjl)
      have hle : m * 10 + D[j] ≤ Pd.val D := Pd.horner_le hh
      have HH := Lib.hid hh
      generalize D[j] = u at *
      have hle2 : (m : Int) * 10 + u ≤ 9223372036854775808 := by omega
      have hj1 : (j : Int) < n := by omega
      have hu0 : (0 : Int) ≤ u := by omega
      have hu1 : (u : Int) ≤ 9 := by omega
      clear hb2 hh hle
      go_wp2_with fail
      go_round
      case rel => exact ⟨j, m * 10 + u, by omega, rfl, by rw [show ((m * 10 + u : Nat) : Int) = (m : Int) * 10 + u from by omega], HH.out⟩
      case measure => simp [intOf]
    | zero =>
      rw [show ((0 : Nat) : Int) - 1 = -1 from by omega]
      have hm : m = Pd.val D := by have := HV.out; simp [Pd.V] at this; omega
      have HM := Lib.hid hm
      have hmb : (m : Int) ≤ 9223372036854775808 := by omega
      have hm0 : (0 : Int) ≤ m := by omega
      have hw : IntKind.i64.wrap (IntKind.u64.wrap (-(m : Int))) = -(m : Int) := by rw [IntKind.wrap_u64, IntKind.wrap_i64]; omega
      clear hm
      go_wp2_with fail
      go_ret2
      exact ⟨by rw [NV.out, ← HM.out]; first | rfl | (rw [hw]; rfl), B1.out⟩
set_option maxHeartbeats 1000000 in
theorem num_top_f (D : List Nat) (A : Option Addr) (n cap : Nat) (w : World) (ra : Row w A n cap D) (hv : Pd.val D = 9223372036854775808) :
    Calls Tryz.prog 96 #[.agg #[.bool false, .slice A n cap]] w fun e w' => e = .returned (numV (worth false D)) ∧ Below w.heap.size w w' := by
  have RA := Lib.hid ra
  have hsm := ra.small
  clear ra
  have NV := Lib.hid (show numV (worth false D) = .tuple #[.int .i64 0, .bool false] from by unfold numV; rw [if_neg (by simp [worth, I64]; omega)])
  have K := Lib.hid (GK.new w false (.slice A n cap))
  have B0 := Lib.hid ((Below.refl _ w).alloc (Nat.le_refl _) (.cells #[.bool false, .slice A n cap] 164))
  have hfd := fun b A n c W => field45 b A n c W
  go_enter Tryz.func96, Tryz.ntmps96
  go_wp2_with fail
  refine (top_any _).mono ?_
  rintro _ w1 ⟨tb, A2, n2, cap2, T, rfl, row, htop, hb⟩
  have B1 := Lib.hid (below_step B0.out hb)
  have K1 := Lib.hid (K.out.on hb K.out.lt)
  obtain ⟨k0, k1⟩ := K1.out.c
  have C1 := Lib.hid (less_any T D A2 A n2 cap2 n cap w1 row (RA.out.on B1.out))
  have C2 := Lib.hid (less_any D T A A2 n cap n2 cap2 w1 (RA.out.on B1.out) row)
  have hl1 : lessB T D = false := by unfold lessB; simp; omega
  have hl2 : lessB D T = false := by unfold lessB; simp; omega
  clear hb row htop
  go_wp2_with (first | (go_at_call 130; (with_reducible refine (C1.out).mono ?_); rintro e w' ⟨rfl, rfl⟩) | (go_at_call 130; (with_reducible refine (C2.out).mono ?_); rintro e w' ⟨rfl, rfl⟩))
  go_ret2
  exact ⟨by rw [NV.out]; rfl, B1.out⟩
theorem num_any (bl : Bool) (D : List Nat) (A : Option Addr) (n cap : Nat) (w : World) (ra : Row w A n cap D) : Calls Tryz.prog 96 #[.agg #[.bool bl, .slice A n cap]] w fun e w' => e = .returned (numV (worth bl D)) ∧ Below w.heap.size w w' := by
  rcases Nat.lt_trichotomy (Pd.val D) 9223372036854775808 with h | h | h
  · cases bl with
    | true => exact num_less_t D A n cap w ra h
    | false => exact num_less_f D A n cap w ra h
  · cases bl with
    | true => exact num_top_t D A n cap w ra h
    | false => exact num_top_f D A n cap w ra h
  · cases bl with
    | true => exact num_over_t D A n cap w ra h
    | false => exact num_over_f D A n cap w ra h
end Go.Proofs.YtphclpjekpdifaaGreat.Vc
