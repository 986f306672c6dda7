import Derived.Test.YtlimjfnolidbmaaAw
namespace Go.Proofs.Ytlimjfnolidbmaa
set_option maxRecDepth 20000
open Go.RowKit RL
set_option linter.unusedVariables false
/-! ### entries compared -/
instance : DecidableEq En := fun x y => if h : x.t = y.t ∧ x.d = y.d then isTrue (by obtain ⟨a, b⟩ := x; obtain ⟨c, d⟩ := y; simp only at h; rw [h.1, h.2]) else isFalse (fun e => h (by rw [e]; exact ⟨rfl, rfl⟩))
theorem bytesList_inj (a b : ByteArray) : a.toList = b.toList ↔ a = b := by
  rw [ByteArray.toList_eq, ByteArray.toList_eq]
  obtain ⟨⟨x⟩⟩ := a
  obtain ⟨⟨y⟩⟩ := b
  simp
def enV (x : En) : Value := .agg #[.int .i64 x.t, .string x.d]
theorem ne32 (x y : En) (w : World) : (binOp .neq 32 (enV x) (enV y)).run Try.prog w = .ok (.bool (!decide (x = y))) w := by
  obtain ⟨f1, b1⟩ := x
  obtain ⟨f2, b2⟩ := y
  unfold enV
  have := bytesList_inj b1 b2
  by_cases h1 : f1 = f2
  · by_cases h3 : b1 = b2
    · have h4 := this.2 h3
      go_simp
    · have h4 : ¬ b1.toList = b2.toList := fun e => h3 (this.1 e)
      go_simp
  · go_simp
set_option maxHeartbeats 1000000 in
theorem entries_any {w : World} {H1 H2 : Nat → Prop} {A1 A2 : Option Addr} {n1 n2 c1 c2 : Nat} {L1 L2 : List En} (r1 : Rd DE w H1 A1 L1) (r2 : Rd DE w H2 A2 L2) (e1 : L1.length = n1) (e2 : L2.length = n2) (hl : n1 ≤ 1000000) (hl2 : n2 ≤ 1000000) : Calls Try.prog 23 #[.slice A1 n1 c1, .slice A2 n2 c2] w (RetBelow (.bool (decide (L1 = L2))) w) := by
  have HR1 := Lib.hid r1
  have HR2 := Lib.hid r2
  have HE1 := Lib.hid e1
  have HE2 := Lib.hid e2
  by_cases hn : n1 = n2
  · subst hn
    clear r1 r2 e1 e2
    go_enter Try.func23, Try.ntmps23
    go_wp2_with fail
    go_loopw [13] (fun iV wr => ∃ j : Nat, iV = .int .i64 (j : Int) ∧ j ≤ n1 ∧ Below w.heap.size w wr ∧ ∀ i, i < j → L1[i]? = L2[i]?) (fun iV _ => n1 - (intOf iV).toNat)
    case atStart => exact ⟨0, rfl, Nat.zero_le _, Below.refl _ _, fun i h => absurd h (Nat.not_lt_zero _)⟩
    case round =>
      obtain ⟨j, rfl, hj, hb, ha⟩ := hrel
      have HB := Lib.hid hb
      have HA := Lib.hid ha
      clear hb ha
      by_cases hlt : j < n1
      · have HLT := Lib.hid hlt
        have i1 : (j : Int) < (n1 : Int) := by omega
        obtain ⟨x, hx⟩ : ∃ x, L1[j]? = some x := ⟨_, List.getElem?_eq_getElem (by have := HE1.out; omega)⟩
        obtain ⟨y, hy⟩ : ∃ y, L2[j]? = some y := ⟨_, List.getElem?_eq_getElem (by have := HE2.out; omega)⟩
        have HX := Lib.hid hx
        have HY := Lib.hid hy
        obtain ⟨q1, o1, rfl, _, l1, k1⟩ := (HR1.out.below HB.out).at_ hx
        obtain ⟨q2, o2, rfl, _, l2, k2⟩ := (HR2.out.below HB.out).at_ hy
        have x0 : wr.cell? ⟨q1, o1 + j * 2, none⟩ = some (.int .i64 x.t) := k1 0 _ rfl
        have x1 : wr.cell? ⟨q1, o1 + j * 2 + 1, none⟩ = some (.string x.d) := k1 1 _ rfl
        have y0 : wr.cell? ⟨q2, o2 + j * 2, none⟩ = some (.int .i64 y.t) := k2 0 _ rfl
        have y1 : wr.cell? ⟨q2, o2 + j * 2 + 1, none⟩ = some (.string y.d) := k2 1 _ rfl
        have hne : ∀ W, (binOp .neq 32 (.agg #[.int .i64 x.t, .string x.d]) (.agg #[.int .i64 y.t, .string y.d])).run Try.prog W = .ok (.bool (!decide (x = y))) W := fun W => ne32 x y W
        have HBD := Lib.hid HB.out.drew
        clear k1 k2 hx hy
        by_cases hxy : x = y
        · have hd : decide (x = y) = true := by simpa using hxy
          rw [hd] at hne
          have HXY := Lib.hid hxy
          clear hxy hd
          go_wp2_with fail
          go_region
          all_goals go_wp2_with fail
          all_goals go_roundw
          case rel => exact ⟨j + 1, rfl, by omega, HBD.out, fun i hi => by
            rcases Nat.lt_or_ge i j with q | q
            · exact HA.out i q
            · obtain rfl : i = j := by omega
              rw [HX.out, HY.out, HXY.out]⟩
          case measure => simp [intOf]; omega
        · have hd : decide (x = y) = false := by simpa using hxy
          rw [hd] at hne
          have fin : Hid (decide (L1 = L2) = false) := Lib.hid (by
            simp only [decide_eq_false_iff_not]
            intro e
            have := HX.out
            rw [e, HY.out] at this
            injection this with this
            exact hxy this.symm)
          rw [fin.out]
          clear hxy hd
          go_wp2_with fail
          go_region
          all_goals go_wp2_with fail
          all_goals go_ret
          all_goals exact ⟨rfl, HBD.out⟩
      · have fin : Hid (decide (L1 = L2) = true) := Lib.hid (by
          simp only [decide_eq_true_eq]
          apply List.ext_getElem?
          intro i
          rcases Nat.lt_or_ge i j with q | q
          · exact HA.out i q
          · rw [List.getElem?_eq_none (by have := HE1.out; omega), List.getElem?_eq_none (by have := HE2.out; omega)])
        obtain rfl : n1 = j := by omega
        go_wp2_with fail
        go_ret
        exact ⟨by rw [fin.out]; rfl, HB.out⟩
  · have g1 : ((n1 : Int) == (n2 : Int)) = false := by simp; omega
    have fin : Hid (decide (L1 = L2) = false) := Lib.hid (by
      simp only [decide_eq_false_iff_not]
      intro e
      rw [e] at e1
      omega)
    rw [fin.out]
    clear r1 r2 e1 e2
    go_enter Try.func23, Try.ntmps23
    go_wp2_with fail
    go_ret
    exact ⟨rfl, Below.refl _ _⟩
end Go.Proofs.Ytlimjfnolidbmaa
