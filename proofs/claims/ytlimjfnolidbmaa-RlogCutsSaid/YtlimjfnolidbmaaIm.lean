import Derived.Test.YtlimjfnolidbmaaHm
import Derived.Test.YtlimjfnolidbmaaFm
namespace Go.Proofs.Ytlimjfnolidbmaa
set_option maxRecDepth 20000
open Go.RowKit RL
set_option linter.unusedVariables false
/-! ### a cut, a reset, a new log -/
theorem cut_any {w : World} {b : Nat} {T : Lg} {S : Nat → Prop} (h : Log w b T S) (hI : Inv T) {k : Int} (hk : I64 k) : Calls Try.prog 15 #[.pointer (some ⟨b, 0, none⟩), .int .i64 k] w fun e w' => e = .returned (.int .i64 (T.cut k).2) ∧ LogTo w w' b (T.cut k).1 S := by
  have H := Lib.hid h
  have HM := Lib.hid (fun (t : Int) (X : World) (hX : Below w.heap.size w X) (q : T.i ≤ k) => move_any (h.below hX) hI (k := k) t q hk.2)
  have hkk := (term_known (T := T) (k := k)).1
  cases ht : T.term k with
  | none =>
    have HT := Lib.hid (term_no h hI hk ht)
    have e1 : T.cut k = (T, 2) := by unfold Lg.cut; rw [ht]
    rw [e1]
    clear h hI hkk ht
    go_enter Try.func15, Try.ntmps15
    go_wp2_with (go_at_call 18; (with_reducible refine HT.out.mono ?_); rintro e w1 ⟨rfl, hb⟩)
    go_ret
    exact ⟨rfl, H.out.to hb⟩
  | some t =>
    have HT := Lib.hid (term_is h hI hk ht)
    have e1 : T.cut k = (T.move k t, 0) := by unfold Lg.cut; rw [ht]
    have HQ := Lib.hid (hkk ⟨t, ht⟩).1
    rw [e1]
    clear h hI hkk ht e1
    go_enter Try.func15, Try.ntmps15
    go_wp2_with (first
      | (go_at_call 18; (with_reducible refine HT.out.mono ?_); rintro e w1 ⟨rfl, hb⟩)
      | (go_at_call 37; (with_reducible refine (HM.out _ _ hb HQ.out).mono ?_); rintro e w2 ⟨rfl, hl⟩))
    go_ret
    exact ⟨rfl, LogTo.from_ hb hl⟩
theorem inv_empty {T : Lg} (h : Inv T) : Inv ⟨T.i, T.t, []⟩ := ⟨h.i0, by have := h.iM; simp; omega, h.tt, fun x hx => by simp at hx, by simp⟩
set_option maxHeartbeats 1000000 in
theorem reset_any {w : World} {b : Nat} {T : Lg} {S : Nat → Prop} (h : Log w b T S) (hI : Inv T) {k t : Int} (hk : I64 k) : Calls Try.prog 17 #[.pointer (some ⟨b, 0, none⟩), .int .i64 k, .int .i64 t] w fun e w' => e = .returned (.bool (T.reset k t).2) ∧ LogTo w w' b (T.reset k t).1 S := by
  have H := Lib.hid h
  have HI := Lib.hid hI
  have i0 := hI.i0
  have i1 := hI.i1
  obtain ⟨k1, k2⟩ := hk
  obtain ⟨v, hv⟩ := h
  obtain ⟨c0, c1, c2, f0, f1, f2⟩ := lcells hv.box
  clear hI hv
  by_cases q : k < T.i ∨ t < 0 ∨ 4611686018427387904 < k
  · have e1 : T.reset k t = (T, false) := by unfold Lg.reset; rw [if_pos q]
    rw [e1]
    have HQ := Lib.hid q
    clear q e1
    by_cases q1 : k < T.i
    · have g1 : decide (k < T.i) = true := by simpa using q1
      go_enter Try.func17, Try.ntmps17
      go_wp2_with fail
      go_ret
      exact ⟨rfl, H.out.to (Below.refl _ _)⟩
    · have g1 : decide (k < T.i) = false := by simpa using q1
      by_cases q2 : t < 0
      · have g2 : decide (t < 0) = true := by simpa using q2
        go_enter Try.func17, Try.ntmps17
        go_wp2_with fail
        go_ret
        exact ⟨rfl, H.out.to (Below.refl _ _)⟩
      · have g2 : decide (t < 0) = false := by simpa using q2
        have g3 : decide (4611686018427387904 < k) = true := by have := HQ.out; simp; omega
        go_enter Try.func17, Try.ntmps17
        go_wp2_with fail
        go_ret
        exact ⟨rfl, H.out.to (Below.refl _ _)⟩
  · have g1 : decide (k < T.i) = false := by simp; omega
    have g2 : decide (t < 0) = false := by simp; omega
    have g3 : decide (4611686018427387904 < k) = false := by simp; omega
    have HM : Hid (∀ X T' S', Log X b T' S' → Inv T' → T'.i = T.i → Calls Try.prog 37 #[.pointer (some ⟨b, 0, none⟩), .int .i64 k, .int .i64 t] X fun e w' => e = .returned (.tuple #[]) ∧ LogTo X w' b (T'.move k t) S') := Lib.hid fun X T' S' h1 h2 h3 => move_any h1 h2 t (by omega) k2
    by_cases ht : T.term k = some t
    · have e1 : T.reset k t = (T.move k t, true) := by unfold Lg.reset; rw [if_neg q, if_pos ht]
      have HT := Lib.hid (term_is H.out HI.out ⟨k1, k2⟩ ht)
      rw [e1]
      clear q e1 ht
      go_enter Try.func17, Try.ntmps17
      go_wp2_with (first
        | (go_at_call 18; (with_reducible refine HT.out.mono ?_); rintro e w1 ⟨rfl, hb⟩)
        | (go_at_call 37; (with_reducible refine (HM.out _ _ _ (H.out.below hb) HI.out rfl).mono ?_); rintro e w2 ⟨rfl, hl⟩))
      go_ret
      exact ⟨rfl, LogTo.from_ hb hl⟩
    · have e1 : T.reset k t = (({T with L := []} : Lg).move k t, true) := by unfold Lg.reset; rw [if_neg q, if_neg ht]
      have HTR : Hid (∀ X, Below w.heap.size w X → Calls Try.prog 36 #[.pointer (some ⟨b, 0, none⟩), .int .i64 (T.i + 1)] X fun e w' => e = .returned (.tuple #[]) ∧ LogTo X w' b ⟨T.i, T.t, []⟩ S) := Lib.hid fun X hX => by
        have := trunc_any (H.out.below hX) HI.out (Nat.zero_le T.L.length)
        rw [show T.i + 1 + ((0 : Nat) : Int) = T.i + 1 by omega] at this
        exact this
      have HX : Hid (∀ X, Below w.heap.size w X → X.cell? ⟨b, 0, none⟩ = some (.int .i64 T.i)) := Lib.hid fun X hX => by
        obtain ⟨v, hv⟩ := H.out.below hX
        exact (lcells hv.box).1
      rw [e1]
      have fin : Hid (∀ w1 w2 w3 S2, Below w.heap.size w w1 → Log w2 b ⟨T.i, T.t, []⟩ S2 → (∀ k, S2 k → Up S w1 w2 k) → Fr S w1 w2 → LogTo w2 w3 b (({T with L := []} : Lg).move k t) S2 → LogTo w w3 b (({T with L := []} : Lg).move k t) S) := Lib.hid fun w1 w2 w3 S2 hb h1 h2 h3 h4 => LogTo.from_ hb (LogTo.go h2 h3 h4)
      cases hto : T.term k with
      | none =>
        have HT := Lib.hid (term_no H.out HI.out ⟨k1, k2⟩ hto)
        clear q e1 ht hto
        go_enter Try.func17, Try.ntmps17
        go_wp2_with (first
          | (go_at_call 18; (with_reducible refine HT.out.mono ?_); rintro e w1 ⟨rfl, hb⟩; have d0 := HX.out _ hb)
          | (go_at_call 36; (with_reducible refine (HTR.out _ hb).mono ?_); rintro e w2 ⟨rfl, S2, hl2, hu2, hf2⟩)
          | (go_at_call 37; (with_reducible refine (HM.out _ _ _ hl2 (inv_empty HI.out) rfl).mono ?_); rintro e w3 ⟨rfl, hl⟩))
        go_ret
        exact ⟨rfl, fin.out _ _ _ _ hb hl2 hu2 hf2 hl⟩
      | some u =>
        have HT := Lib.hid (term_is H.out HI.out ⟨k1, k2⟩ hto)
        have g5 : (u == t) = false := by simp; intro e; exact ht (by rw [hto, e])
        clear q e1 ht hto
        go_enter Try.func17, Try.ntmps17
        go_wp2_with (first
          | (go_at_call 18; (with_reducible refine HT.out.mono ?_); rintro e w1 ⟨rfl, hb⟩; have d0 := HX.out _ hb)
          | (go_at_call 36; (with_reducible refine (HTR.out _ hb).mono ?_); rintro e w2 ⟨rfl, S2, hl2, hu2, hf2⟩)
          | (go_at_call 37; (with_reducible refine (HM.out _ _ _ hl2 (inv_empty HI.out) rfl).mono ?_); rintro e w3 ⟨rfl, hl⟩))
        go_ret
        exact ⟨rfl, fin.out _ _ _ _ hb hl2 hu2 hf2 hl⟩
/-- a new log, or none -/
def NewP (w : World) (i t : Int) (L : List En) (e : Ending) (w' : World) : Prop := Below w.heap.size w w' ∧ ((0 ≤ i ∧ 0 ≤ t ∧ i ≤ 4611686018427387904 - (L.length : Int)) ∧ (∃ b, e = .returned (.pointer (some ⟨b, 0, none⟩)) ∧ Log w' b ⟨i, t, L⟩ (fun k => w.heap.size ≤ k ∧ k < w'.heap.size)) ∨ ¬ (0 ≤ i ∧ 0 ≤ t ∧ i ≤ 4611686018427387904 - (L.length : Int)) ∧ e = .returned (.pointer none))
set_option maxHeartbeats 1000000 in
theorem new_any {w : World} {H : Nat → Prop} {A : Option Addr} {n c : Nat} {L : List En} (i t : Int) (hr : Rd DE w H A L) (hn : L.length = n) (hc : n ≤ c) (hA : A = none → c = 0) (hl : n ≤ 1000000) : Calls Try.prog 10 #[.int .i64 i, .int .i64 t, .slice A n c] w (NewP w i t L) := by
  have HC := Lib.hid (clone_any hr hn hc hA hl)
  have HW : Hid (∀ X, Calls Try.prog 32 #[.int .i64 i, .int .i64 (n : Int)] X (RetSame (.bool (decide (i ≤ 4611686018427387904 - (n : Int)))) X)) := Lib.hid fun X => within_any i n (by omega) X
  have hbd : ∀ (W : World) (A : Option Addr) (n c : Nat), (Instr.build 74 #[(0, .int .i64 i), (1, .int .i64 t), (2, .slice A n c)]).run Try.prog W = .ok (.agg #[.int .i64 i, .int .i64 t, .slice A n c]) W := fun W A n c => run_build W 74 _ _ (by kernel_rfl)
  have HN := Lib.hid hn
  clear hr hA hn
  by_cases q1 : i < 0
  · have g1 : decide (i < 0) = true := by simpa using q1
    go_enter Try.func10, Try.ntmps10
    go_wp2_with fail
    go_ret
    exact ⟨Below.refl _ _, .inr ⟨by omega, rfl⟩⟩
  · have g1 : decide (i < 0) = false := by simpa using q1
    by_cases q2 : t < 0
    · have g2 : decide (t < 0) = true := by simpa using q2
      go_enter Try.func10, Try.ntmps10
      go_wp2_with fail
      go_ret
      exact ⟨Below.refl _ _, .inr ⟨by omega, rfl⟩⟩
    · have g2 : decide (t < 0) = false := by simpa using q2
      by_cases q3 : i ≤ 4611686018427387904 - (n : Int)
      · have g3 : decide (i ≤ 4611686018427387904 - (n : Int)) = true := by simpa using q3
        rw [g3] at HW
        go_enter Try.func10, Try.ntmps10
        go_wp2_with (first
          | (go_at_call 32; (with_reducible refine (HW.out _).mono ?_); rintro e w1 ⟨rfl, rfl⟩)
          | (go_at_call 33; (with_reducible refine HC.out.mono ?_); rintro e w2 ⟨A', cap', rfl, ho, hb⟩))
        go_ret
        refine ⟨hb.alloc hb.size _, .inl ⟨⟨by omega, by omega, by rw [HN.out]; exact q3⟩, _, rfl, _, heap_alloc_new _ _, ?_, ⟨hb.size, by simp⟩, fun k hk => hk.2⟩⟩
        rcases ho with ⟨e1, e2⟩ | ⟨g, off, cap, cur, e1, hs, hg, r⟩
        · exact .inl ⟨e1, e2⟩
        · have hgl := (Array.getElem?_eq_some_iff.1 hg).1
          exact .inr ⟨g, off, cap, cur, e1, ⟨⟨hs, by simp; omega⟩, by omega⟩, (heap_alloc_old _ _ hgl).trans hg, r⟩
      · have g3 : decide (i ≤ 4611686018427387904 - (n : Int)) = false := by simpa using q3
        rw [g3] at HW
        go_enter Try.func10, Try.ntmps10
        go_wp2_with (go_at_call 32; (with_reducible refine (HW.out _).mono ?_); rintro e w1 ⟨rfl, rfl⟩)
        go_ret
        exact ⟨Below.refl _ _, .inr ⟨fun h => by have := h.2.2; rw [HN.out] at this; omega, rfl⟩⟩
end Go.Proofs.Ytlimjfnolidbmaa
