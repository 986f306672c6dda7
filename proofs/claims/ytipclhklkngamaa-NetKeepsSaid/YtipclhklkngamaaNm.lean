import Derived.Test.YtipclhklkngamaaNl
namespace Go.Proofs.Ytipclhklkngamaa
open Go.RowKit
set_option linter.unusedVariables false

theorem first_diff {α : Type} [DecidableEq α] : ∀ (a b : List α), a.length = b.length → a ≠ b → ∃ (i : Nat) (x y : α), a[i]? = some x ∧ b[i]? = some y ∧ x ≠ y ∧ ∀ j : Nat, j < i → a[j]? = b[j]?
  | [], [], _, h => absurd rfl h
  | x :: r, y :: s, hl, h => by
    by_cases hxy : x = y
    · obtain ⟨i, u, v, h1, h2, h3, h4⟩ := first_diff r s (by simpa using hl) (fun e => h (by rw [e, hxy]))
      refine ⟨i + 1, u, v, by simpa using h1, by simpa using h2, h3, fun j hj => ?_⟩
      cases j with
      | zero => simp [hxy]
      | succ j => simpa using h4 j (by omega)
    · exact ⟨0, x, y, rfl, rfl, hxy, fun j hj => by omega⟩
  | [], _ :: _, hl, _ => by simp at hl
  | _ :: _, [], hl, _ => by simp at hl
set_option maxHeartbeats 1000000 in
set_option maxRecDepth 100000 in
theorem same_any {w : World} {va vb : Value} {qa qb : List Let} {Pa Pb : Nat → Prop} (ha : LsAt w va qa Pa) (hb : LsAt w vb qb Pb) :
    Calls Try.prog 21 #[va, vb] w fun e w' => e = .returned (.bool (decide (qa = qb))) ∧ Below w.heap.size w w' := by
  have HA := Lib.hid ha
  have HB := Lib.hid hb
  obtain ⟨A, ca, rfl, a1, a2, _⟩ := ha
  obtain ⟨B, cb, rfl, b1, b2, _⟩ := hb
  by_cases hl : qa.length = qb.length
  · obtain ⟨n, hn⟩ : ∃ n, qb.length = n := ⟨_, rfl⟩
    have hla : qa.length = n := hl.trans hn
    have HLA := Lib.hid hla
    have HLB := Lib.hid hn
    have hnm : (n : Int) ≤ 9223372036854775807 := by omega
    rw [hla] at HA
    rw [hn] at HB
    rw [hla, hn]
    clear hl a1 a2 b1 b2
    by_cases heq : qa = qb
    · subst heq
      have e : decide (qa = qa) = true := by simp
      rw [e]
      clear hn hla
      go_enter Try.func21, Try.ntmps21
      go_wp2_with fail
      go_loopw [5, 13] (fun _ iV wr => ∃ i : Nat, iV = .int .i64 (i : Nat) ∧ i ≤ n ∧ Hid (Below w.heap.size w wr)) (fun _ iV _ => n - (numOf iV).toNat)
      case atStart => exact ⟨0, rfl, by omega, Lib.hid (Below.refl _ w)⟩
      case round =>
        obtain ⟨i, rfl, hi, hbw⟩ := hrel
        by_cases hin : i < n
        · have hin2 : (i : Int) < (n : Int) := by omega
          obtain ⟨x, hx⟩ : ∃ x, qa[i]? = some x := ⟨_, List.getElem?_eq_getElem (by have := HLA.out; omega)⟩
          obtain ⟨ga, oa, c1, e1, _, _, x0, x1, x2⟩ := (HA.out.belows hbw.out).one hx
          obtain ⟨gb, ob, c2, e2, _, _, y0, y1, y2⟩ := (HB.out.belows hbw.out).one hx
          injection e1 with e1
          injection e2 with e2
          subst e1 e2
          have hne := fun W => ne32 x x W
          unfold letV at hne
          rw [show decide (x = x) = true from by simp] at hne
          have HS : Hid (∀ k, Below w.heap.size w (wr.drewN k)) := Lib.hid fun k => below_drewN hbw.out k
          clear hx
          go_wp2_with fail
          go_quiet (fail)
          go_wp2_with fail
          go_roundw
          case rel => exact ⟨i + 1, rfl, by omega, Lib.hid (HS.out _)⟩
          case measure => simp [numOf]; omega
        · have hin2 : (n : Int) ≤ (i : Int) := by omega
          go_wp2_with fail
          go_ret
          exact ⟨rfl, hbw.out⟩
    · have e : decide (qa = qb) = false := by simp [heq]
      rw [e]
      obtain ⟨d, xd, yd, hxd, hyd, hne, hbef⟩ := first_diff qa qb (by rw [hla, hn]) heq
      have hdn : d < n := by have := (List.getElem?_eq_some_iff.1 hxd).1; omega
      have HXD := Lib.hid hxd
      have HYD := Lib.hid hyd
      have HNE := Lib.hid hne
      have HBF := Lib.hid hbef
      clear hn hla hxd hyd hne hbef heq e
      go_enter Try.func21, Try.ntmps21
      go_wp2_with fail
      go_loopw [5, 13] (fun _ iV wr => ∃ i : Nat, iV = .int .i64 (i : Nat) ∧ i ≤ d ∧ Hid (Below w.heap.size w wr)) (fun _ iV _ => n - (numOf iV).toNat)
      case atStart => exact ⟨0, rfl, by omega, Lib.hid (Below.refl _ w)⟩
      case round =>
        obtain ⟨i, rfl, hi, hbw⟩ := hrel
        have hin2 : (i : Int) < (n : Int) := by omega
        have HS : Hid (∀ k, Below w.heap.size w (wr.drewN k)) := Lib.hid fun k => below_drewN hbw.out k
        by_cases hid2 : i = d
        · subst hid2
          obtain ⟨ga, oa, c1, e1, _, _, x0, x1, x2⟩ := (HA.out.belows hbw.out).one HXD.out
          obtain ⟨gb, ob, c2, e2, _, _, y0, y1, y2⟩ := (HB.out.belows hbw.out).one HYD.out
          injection e1 with e1
          injection e2 with e2
          subst e1 e2
          have hne := fun W => ne32 xd yd W
          unfold letV at hne
          rw [show decide (xd = yd) = false from by simp [HNE.out]] at hne
          go_wp2_with fail
          go_quiet (fail)
          go_wp2_with fail
          go_ret
          exact ⟨rfl, HS.out _⟩
        · have hlt : i < d := by omega
          obtain ⟨x, hx⟩ : ∃ x, qa[i]? = some x := ⟨_, List.getElem?_eq_getElem (by have := HLA.out; omega)⟩
          have hy : qb[i]? = some x := (HBF.out i hlt).symm.trans hx
          obtain ⟨ga, oa, c1, e1, _, _, x0, x1, x2⟩ := (HA.out.belows hbw.out).one hx
          obtain ⟨gb, ob, c2, e2, _, _, y0, y1, y2⟩ := (HB.out.belows hbw.out).one hy
          injection e1 with e1
          injection e2 with e2
          subst e1 e2
          have hne := fun W => ne32 x x W
          unfold letV at hne
          rw [show decide (x = x) = true from by simp] at hne
          clear hx hy
          go_wp2_with fail
          go_quiet (fail)
          go_wp2_with fail
          go_roundw
          case rel => exact ⟨i + 1, rfl, by omega, Lib.hid (HS.out _)⟩
          case measure => simp [numOf]; omega
  · have e : decide (qa = qb) = false := decide_eq_false fun q => hl (by rw [q])
    rw [e]
    have hl2 : ¬ ((qa.length : Int) = (qb.length : Int)) := by omega
    clear e HA HB
    generalize qa.length = n at *
    generalize qb.length = m at *
    have hl3 : ((n : Int) == (m : Int)) = false := beq_eq_false_iff_ne.2 hl2
    go_enter Try.func21, Try.ntmps21
    go_wp2_with fail
    go_ret
    exact ⟨rfl, Below.refl _ _⟩
end Go.Proofs.Ytipclhklkngamaa
