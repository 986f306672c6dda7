import Derived.Test.YtjpnkecfoealoaaVDm
namespace Go.Proofs.Ytjpnkecfoealoaa.Vc
set_option maxRecDepth 20000
open Go.RowKit
set_option linter.unusedVariables false
/-- rows of digits that may be reckoned with -/
structure Row (w : World) (A : Option Addr) (n cap : Nat) (D : List Nat) : Prop where
  at' : DigsAt w w.heap.size A D
  len : D.length = n
  le : n ≤ cap
  cap' : cap ≤ 9223372036854775807
  none' : A = none → cap = 0
  dig : Pd.Dig D
  small : n ≤ 100000
theorem Row.on {w w' : World} {A : Option Addr} {n cap : Nat} {D : List Nat} (h : Row w A n cap D) (hb : Below w.heap.size w w') : Row w' A n cap D := ⟨h.at'.on hb, h.len, h.le, h.cap', h.none', h.dig, h.small⟩
theorem Row.digit {w : World} {A : Option Addr} {n cap : Nat} {D : List Nat} (h : Row w A n cap D) (i : Nat) (hi : i ≤ 1000000) :
    Calls Try.prog 57 #[.slice A n cap, .int .i64 (i : Int)] w fun e w' => e = .returned (.int .i64 (Pd.dg D i : Nat)) ∧ w = w' := digit_any D A n cap i w h.at' h.len (by have := h.small; omega) hi
/-- seen: all places from k on are alike -/
def LessRel (a b : List Nat) (N : Nat) (i : Value) : Prop := ∃ k : Nat, k ≤ N ∧ i = .int .i64 ((k : Int) - 1) ∧ ∀ j, k ≤ j → j < N → Pd.dg a j = Pd.dg b j
def lessB (a b : List Nat) : Bool := decide (Pd.val a < Pd.val b)
theorem less_any (a b : List Nat) (A A' : Option Addr) (n cap n' cap' : Nat) (w : World) (ra : Row w A n cap a) (rb : Row w A' n' cap' b) :
    Calls Try.prog 47 #[.slice A n cap, .slice A' n' cap'] w fun e w' => e = .returned (.bool (lessB a b)) ∧ w = w' := by
  have RA := Lib.hid ra
  have RB := Lib.hid rb
  have hs := ra.small
  have hs' := rb.small
  have ha := Lib.hid (show a.length ≤ max n n' by rw [ra.len]; omega)
  have hb := Lib.hid (show b.length ≤ max n n' by rw [rb.len]; omega)
  clear ra rb
  have key : ∀ N : Nat, N ≤ 100000 → max n n' = N → (N = n ∨ N = n') := by omega
  have cs : (n' ≤ n ∧ max n n' = n) ∨ (n < n' ∧ max n n' = n') := by omega
  clear key
  have CS := Lib.hid cs
  clear cs
  rcases CS.out with ⟨hc, hm⟩ | ⟨hc, hm⟩
  all_goals
    clear CS
    rw [hm] at ha hb
    clear hm
    first
      | have hd : decide (n < n') = false := by simp; omega
      | have hd : decide (n < n') = true := by simpa using hc
    go_enter Try.func47, Try.ntmps47
    go_wp2_with fail
  · go_loop [6] (LessRel a b n) (fun i => (intOf i + 1).toNat)
    case atStart => exact ⟨n, Nat.le_refl _, rfl, fun j h1 h2 => by omega⟩
    case round =>
      obtain ⟨k, hk, rfl, he⟩ := hrel
      have HE := Lib.hid he
      clear he
      cases k with
      | zero =>
        have e1 := Pd.less_same ha.out hb.out fun j hj => HE.out j (by omega) hj
        have E := Lib.hid (show lessB a b = false by unfold lessB; rw [e1]; simp)
        rw [show ((0 : Nat) : Int) - 1 = -1 from by omega]
        clear e1
        go_wp2_with fail
        go_ret
        exact ⟨by rw [E.out]; rfl, rfl⟩
      | succ j =>
        rw [show ((j + 1 : Nat) : Int) - 1 = (j : Int) from by omega]
        have D1 := Lib.hid (RA.out.digit j (by omega))
        have D2 := Lib.hid (RB.out.digit j (by omega))
        have XY := Lib.hid (show Pd.dg a j < Pd.dg b j → lessB a b = true from fun h => by
          unfold lessB; simpa using Pd.less_yes ha.out hb.out RA.out.dig RB.out.dig (show j < n by omega) (fun i h1 h2 => HE.out i (by omega) h2) h)
        have YX := Lib.hid (show Pd.dg b j < Pd.dg a j → lessB a b = false from fun h => by
          have := Pd.less_yes hb.out ha.out RB.out.dig RA.out.dig (show j < n by omega) (fun i h1 h2 => (HE.out i (by omega) h2).symm) h
          unfold lessB; simp; omega)
        have EQ := Lib.hid (show Pd.dg a j = Pd.dg b j → LessRel a b n (.int .i64 ((j : Int) - 1)) from fun h => ⟨j, by omega, rfl, fun i h1 h2 => by
          rcases Nat.eq_or_lt_of_le h1 with h3 | h3
          · rw [← h3]; exact h
          · exact HE.out i h3 h2⟩)
        generalize Pd.dg a j = x at *
        generalize Pd.dg b j = y at *
        rcases Nat.lt_trichotomy x y with h | h | h
        · have E := Lib.hid (XY.out h)
          have g1 : ((x : Int) == (y : Int)) = false := by rw [beq_eq_false_iff_ne]; omega
          have g2 : (x == y) = false := by rw [beq_eq_false_iff_ne]; omega
          have g3 : decide (x < y) = true := by simpa using h
          clear XY YX EQ h
          go_wp2_with (first | (go_at_call 57; (with_reducible refine D1.out.mono ?_); rintro e w' ⟨rfl, rfl⟩) | (go_at_call 57; (with_reducible refine D2.out.mono ?_); rintro e w' ⟨rfl, rfl⟩))
          go_ret
          exact ⟨by rw [E.out]; rfl, rfl⟩
        · have E := Lib.hid (EQ.out h)
          subst h
          clear XY YX EQ
          go_wp2_with (first | (go_at_call 57; (with_reducible refine D1.out.mono ?_); rintro e w' ⟨rfl, rfl⟩) | (go_at_call 57; (with_reducible refine D2.out.mono ?_); rintro e w' ⟨rfl, rfl⟩))
          go_round
          case rel => exact E.out
          case measure => simp [intOf] <;> omega
        · have E := Lib.hid (YX.out h)
          have g1 : ((x : Int) == (y : Int)) = false := by rw [beq_eq_false_iff_ne]; omega
          have g2 : (x == y) = false := by rw [beq_eq_false_iff_ne]; omega
          have g3 : decide (x < y) = false := by simp; omega
          clear XY YX EQ h
          go_wp2_with (first | (go_at_call 57; (with_reducible refine D1.out.mono ?_); rintro e w' ⟨rfl, rfl⟩) | (go_at_call 57; (with_reducible refine D2.out.mono ?_); rintro e w' ⟨rfl, rfl⟩))
          go_ret
          exact ⟨by rw [E.out]; rfl, rfl⟩
  · go_loop [6] (LessRel a b n') (fun i => (intOf i + 1).toNat)
    case atStart => exact ⟨n', Nat.le_refl _, rfl, fun j h1 h2 => by omega⟩
    case round =>
      obtain ⟨k, hk, rfl, he⟩ := hrel
      have HE := Lib.hid he
      clear he
      cases k with
      | zero =>
        have e1 := Pd.less_same ha.out hb.out fun j hj => HE.out j (by omega) hj
        have E := Lib.hid (show lessB a b = false by unfold lessB; rw [e1]; simp)
        rw [show ((0 : Nat) : Int) - 1 = -1 from by omega]
        clear e1
        go_wp2_with fail
        go_ret
        exact ⟨by rw [E.out]; rfl, rfl⟩
      | succ j =>
        rw [show ((j + 1 : Nat) : Int) - 1 = (j : Int) from by omega]
        have D1 := Lib.hid (RA.out.digit j (by omega))
        have D2 := Lib.hid (RB.out.digit j (by omega))
        have XY := Lib.hid (show Pd.dg a j < Pd.dg b j → lessB a b = true from fun h => by
          unfold lessB; simpa using Pd.less_yes ha.out hb.out RA.out.dig RB.out.dig (show j < n' by omega) (fun i h1 h2 => HE.out i (by omega) h2) h)
        have YX := Lib.hid (show Pd.dg b j < Pd.dg a j → lessB a b = false from fun h => by
          have := Pd.less_yes hb.out ha.out RB.out.dig RA.out.dig (show j < n' by omega) (fun i h1 h2 => (HE.out i (by omega) h2).symm) h
          unfold lessB; simp; omega)
        have EQ := Lib.hid (show Pd.dg a j = Pd.dg b j → LessRel a b n' (.int .i64 ((j : Int) - 1)) from fun h => ⟨j, by omega, rfl, fun i h1 h2 => by
          rcases Nat.eq_or_lt_of_le h1 with h3 | h3
          · rw [← h3]; exact h
          · exact HE.out i h3 h2⟩)
        generalize Pd.dg a j = x at *
        generalize Pd.dg b j = y at *
        rcases Nat.lt_trichotomy x y with h | h | h
        · have E := Lib.hid (XY.out h)
          have g1 : ((x : Int) == (y : Int)) = false := by rw [beq_eq_false_iff_ne]; omega
          have g2 : (x == y) = false := by rw [beq_eq_false_iff_ne]; omega
          have g3 : decide (x < y) = true := by simpa using h
          clear XY YX EQ h
          go_wp2_with (first | (go_at_call 57; (with_reducible refine D1.out.mono ?_); rintro e w' ⟨rfl, rfl⟩) | (go_at_call 57; (with_reducible refine D2.out.mono ?_); rintro e w' ⟨rfl, rfl⟩))
          go_ret
          exact ⟨by rw [E.out]; rfl, rfl⟩
        · have E := Lib.hid (EQ.out h)
          subst h
          clear XY YX EQ
          go_wp2_with (first | (go_at_call 57; (with_reducible refine D1.out.mono ?_); rintro e w' ⟨rfl, rfl⟩) | (go_at_call 57; (with_reducible refine D2.out.mono ?_); rintro e w' ⟨rfl, rfl⟩))
          go_round
          case rel => exact E.out
          case measure => simp [intOf] <;> omega
        · have E := Lib.hid (YX.out h)
          have g1 : ((x : Int) == (y : Int)) = false := by rw [beq_eq_false_iff_ne]; omega
          have g2 : (x == y) = false := by rw [beq_eq_false_iff_ne]; omega
          have g3 : decide (x < y) = false := by simp; omega
          clear XY YX EQ h
          go_wp2_with (first | (go_at_call 57; (with_reducible refine D1.out.mono ?_); rintro e w' ⟨rfl, rfl⟩) | (go_at_call 57; (with_reducible refine D2.out.mono ?_); rintro e w' ⟨rfl, rfl⟩))
          go_ret
          exact ⟨by rw [E.out]; rfl, rfl⟩
end Go.Proofs.Ytjpnkecfoealoaa.Vc
