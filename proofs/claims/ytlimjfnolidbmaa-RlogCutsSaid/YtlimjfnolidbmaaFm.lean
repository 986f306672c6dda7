import Derived.Test.YtlimjfnolidbmaaTm
import Derived.Deep.RegionWith
import Derived.Lib.SliceRun
namespace Go.Proofs.Ytlimjfnolidbmaa
set_option maxRecDepth 20000
open Go.RowKit RL
set_option linter.unusedVariables false
/-! ### copies, parts, a new log -/
theorem OwnS.shrink {α : Type} {D : CT α} {w : World} {S : Nat → Prop} {g off n cap c : Nat} {L : List α} (h : OwnS D w S (.slice (some ⟨g, off, none⟩) n cap) L) (h1 : n ≤ c) (h2 : c ≤ cap) : OwnS D w S (.slice (some ⟨g, off, none⟩) n c) L := by
  obtain ⟨cur, hg, rfl, hs, hc, hm, hz, ht⟩ := h.put_off
  refine .inr ⟨g, off, c, cur, rfl, hs, hg, h1, by omega, ?_, ht⟩
  have : c * D.m ≤ cap * D.m := Nat.mul_le_mul_right _ h2
  omega
/-- a slice of one's own, with its form -/
def Ans (w w' : World) (B : Nat) (L : List En) (e : Ending) : Prop := ∃ A cap, e = .returned (.slice A L.length cap) ∧ OwnS DE w' (fun k => B ≤ k) (.slice A L.length cap) L ∧ Below B w w'
set_option maxHeartbeats 1000000 in
theorem clone_any {w : World} {H : Nat → Prop} {A : Option Addr} {n c : Nat} {L : List En} (hr : Rd DE w H A L) (hn : L.length = n) (hc : n ≤ c) (hA : A = none → c = 0) (hl : n ≤ 1000000) : Calls Try.prog 33 #[.slice A n c] w fun e w' => Ans w w' w.heap.size L e := by
  have q22 : ∀ (w : World) (a : Option Addr) (n c n' c' : Nat), (binOp .eql 22 (.slice a n c) (.slice none n' c')).run Try.prog w = .ok (.bool a.isNone) w := fun w a n c n' c' => Lib.run_eql_slice_nil w _ _ a n c n' c' Try.underlying22
  cases A with
  | none =>
    have := hA rfl
    subst this
    obtain rfl : n = 0 := by omega
    have : L = [] := List.eq_nil_of_length_eq_zero hn
    subst this
    clear hr hA
    go_enter Try.func33, Try.ntmps33
    go_wp2_with fail
    go_ret
    exact ⟨none, 0, rfl, OwnS.nil _ _ _, Below.refl _ _⟩
  | some a =>
    have HB0 := Lib.hid ((Below.refl w.heap.size w).alloc (Nat.le_refl _) (.cells #[] 32))
    have HR := Lib.hid (hr.below HB0.out)
    have HO : Hid (OwnS DE (w.alloc (.cells #[] 32)) (fun k => w.heap.size ≤ k) (.slice (some ⟨w.heap.size, 0, none⟩) 0 0) []) := Lib.hid (OwnS.made (D := DE) (L := []) (xs := []) (cap := 0) (cur := #[]) (heap_alloc_new w _) (Nat.le_refl _) (Nat.le_refl _) (by decide) (by simp) (by simp [flat]))
    clear hr hA
    go_enter Try.func33, Try.ntmps33
    go_wp2_with (at_builtin; refine wp_appO DE rfl _ _ rfl (fun k => w.heap.size ≤ k) H _ [] rfl HO.out (some a) n c L rfl (fun h => by cases h) HR.out hn hc (by simpa using hl) ?_)
    intro v' w1 ho hf hnl
    go_wp2_with fail
    go_ret
    have ho2 : OwnS DE w1 (fun k => w.heap.size ≤ k) v' L := ho.mono fun k hk q => q.elim id fun q => by have := q.1; simp at this; omega
    obtain ⟨A', cap', rfl, _⟩ := ho2.form
    refine ⟨A', cap', rfl, ho2, HB0.out.trans (hf.below (by simp) fun k hk => hk)⟩
set_option maxHeartbeats 6000000 in
theorem from_any {w : World} {b : Nat} {T : Lg} {S : Nat → Prop} (h : Log w b T S) (hI : Inv T) {k n : Int} (hk : I64 k) (hn : I64 n) : Calls Try.prog 24 #[.pointer (some ⟨b, 0, none⟩), .int .i64 k, .int .i64 n] w fun e w' => Ans w w' w.heap.size (T.from_ k n) e := by
  have H := Lib.hid h
  have HBS : Hid (Calls Try.prog 31 #[.pointer (some ⟨b, 0, none⟩)] w (RetBelow (.tuple #[.int .i64 T.i, .int .i64 T.t]) w)) := Lib.hid (base_any h)
  have HLA : Hid (∀ X, Below w.heap.size w X → Calls Try.prog 29 #[.pointer (some ⟨b, 0, none⟩)] X (RetBelow (.tuple #[.int .i64 T.last, .int .i64 T.lterm]) X)) := Lib.hid fun X hX => last_any (h.below hX) hI
  by_cases q : k ≤ T.i ∨ k > T.last ∨ n ≤ 0
  · have e0 : T.from_ k n = [] := by unfold Lg.from_; rw [if_pos q]
    rw [e0]
    have HQ := Lib.hid q
    clear h hI q
    have fin : Hid (∀ W, Below w.heap.size w W → Ans w W w.heap.size [] (.returned (.slice none 0 0))) := Lib.hid fun W hW => ⟨none, 0, rfl, OwnS.nil _ _ _, hW⟩
    by_cases q1 : k ≤ T.i
    · have g1 : decide (k ≤ T.i) = true := by simpa using q1
      go_enter Try.func24, Try.ntmps24
      go_wp2_with (first
        | (go_at_call 31; (with_reducible refine HBS.out.mono ?_); rintro e w1 ⟨rfl, hb1⟩)
        | (go_at_call 29; (with_reducible refine (HLA.out _ hb1).mono ?_); rintro e w2 ⟨rfl, hb2⟩))
      go_ret
      exact fin.out _ (hb1.trans (hb2.mono hb1.size))
    · have g1 : decide (k ≤ T.i) = false := by simpa using q1
      by_cases q2 : T.last < k
      · have g2 : decide (T.last < k) = true := by simpa using q2
        go_enter Try.func24, Try.ntmps24
        go_wp2_with (first
          | (go_at_call 31; (with_reducible refine HBS.out.mono ?_); rintro e w1 ⟨rfl, hb1⟩)
          | (go_at_call 29; (with_reducible refine (HLA.out _ hb1).mono ?_); rintro e w2 ⟨rfl, hb2⟩))
        go_ret
        exact fin.out _ (hb1.trans (hb2.mono hb1.size))
      · have g2 : decide (T.last < k) = false := by simpa using q2
        have g3 : decide (n ≤ 0) = true := by have := HQ.out; simp; omega
        go_enter Try.func24, Try.ntmps24
        go_wp2_with (first
          | (go_at_call 31; (with_reducible refine HBS.out.mono ?_); rintro e w1 ⟨rfl, hb1⟩)
          | (go_at_call 29; (with_reducible refine (HLA.out _ hb1).mono ?_); rintro e w2 ⟨rfl, hb2⟩))
        go_ret
        exact fin.out _ (hb1.trans (hb2.mono hb1.size))
  · have e0 : T.from_ k n = (T.L.drop (k - T.i - 1).toNat).take n.toNat := by unfold Lg.from_; rw [if_neg q]
    rw [e0]
    have g1 : decide (k ≤ T.i) = false := by simp; omega
    have g2 : decide (T.last < k) = false := by simp; omega
    have g3 : decide (n ≤ 0) = false := by simp; omega
    have i0 := hI.i0
    have iM := hI.iM
    have hlen := hI.len
    obtain ⟨hk1, hk2⟩ := hk
    obtain ⟨hn1, hn2⟩ := hn
    obtain ⟨j, hj⟩ : ∃ j : Nat, (k - T.i - 1).toNat = j := ⟨_, rfl⟩
    obtain ⟨nn, hnn⟩ : ∃ m : Nat, n = (m : Int) := ⟨n.toNat, by omega⟩
    subst hnn
    have hlast : T.last = T.i + T.L.length := rfl
    obtain ⟨v, h⟩ := h
    obtain ⟨A, cap, rfl, hr, hc, hcap, hno⟩ := h.row.form
    have hjl : j < T.L.length := by omega
    obtain ⟨p, off, rfl, hp, hpl, _⟩ := hr.at_ (List.getElem?_eq_getElem hjl)
    obtain ⟨r, hr2⟩ : ∃ r : Nat, T.L.length - j = r := ⟨_, rfl⟩
    have er : T.last - k + 1 = (r : Int) := by omega
    obtain ⟨m, hm⟩ : ∃ m : Nat, min nn r = m := ⟨_, rfl⟩
    have em : (T.L.drop j).take nn = (T.L.drop j).take m := by
      rw [← hm, ← hr2]
      rcases Nat.le_total nn (T.L.length - j) with q | q
      · rw [Nat.min_eq_left q]
      · rw [Nat.min_eq_right q, List.take_of_length_le (by rw [List.length_drop]; exact q), List.take_of_length_le (by rw [List.length_drop]; omega)]
    have hml : ((T.L.drop j).take m).length = m := by rw [List.length_take, List.length_drop]; omega
    rw [hj, Int.toNat_natCast, em]
    have HA := Lib.hid (fun (X : World) (hX : X.cell? ⟨b, 0, none⟩ = some (.int .i64 T.i)) => at_any k hX i0 (by omega) hk2)
    have e1 : k - T.i - 1 = (j : Int) := by omega
    rw [e1] at HA
    have HCL : Hid (∀ X, Below w.heap.size w X → Calls Try.prog 33 #[.slice (some ⟨p, off + j * 2, none⟩) m (cap - j)] X fun e w' => ∃ A' cap', e = .returned (.slice A' m cap') ∧ OwnS DE w' (fun k => X.heap.size ≤ k) (.slice A' m cap') ((T.L.drop j).take m) ∧ Below X.heap.size X w') := Lib.hid fun X hX => (clone_any ((hr.part j m).below hX) hml (by omega) (fun h => by cases h) (by omega)).mono fun e w' ⟨A', c', h1, h2, h3⟩ => ⟨A', c', by rw [hml] at h1; exact h1, by rw [hml] at h2; exact h2, h3⟩
    have hcj : ¬ cap = j := by omega
    have m0 : ¬ m = 0 := by omega
    have hw3 : IntKind.i64.wrap (r : Int) = (r : Int) := by rw [IntKind.wrap_i64]; omega
    have hwr1 : IntKind.i64.wrap (T.last - k) = T.last - k := by rw [IntKind.wrap_i64]; omega
    have hwr2 : IntKind.i64.wrap (T.last - k + 1) = (r : Int) := by rw [IntKind.wrap_i64]; omega
    have z1 : ¬ cap ≤ j := by omega
    have z2 : ¬ cap - j = 0 := by omega
    have z3 : j < cap := by omega
    have lb1 : T.last ≤ 4611686018427387904 := by omega
    have kp : 0 < k := by omega
    have kl : k ≤ T.last := by omega
    have jI : (j : Int) ≤ (T.L.length : Int) := by omega
    have jI0 : 0 ≤ (j : Int) := by omega
    have mI : (m : Int) ≤ ((cap - j : Nat) : Int) := by omega
    have mI0 : 0 ≤ (m : Int) := by omega
    have hmc : m ≤ cap - j := by omega
    have hjn : ∀ X, Below w.heap.size w X → X.cell? ⟨b, 0, none⟩ = some (.int .i64 T.i) ∧ X.cell? ⟨b, 2, none⟩ = some (.slice (some ⟨p, off, none⟩) T.L.length cap) := fun X hX => by
      obtain ⟨c0, _, c2, _⟩ := lcells (h.below hX).box
      exact ⟨c0, c2⟩
    have HX := Lib.hid hjn
    have fin : Hid (∀ (X W : World) A' cap', Below w.heap.size w X → Below X.heap.size X W → OwnS DE W (fun k => X.heap.size ≤ k) (.slice A' m cap') ((T.L.drop j).take m) → ∃ g o, A' = some ⟨g, o, none⟩ ∧ m ≤ cap' ∧ cap' ≤ 9223372036854775807 ∧ Ans w W w.heap.size ((T.L.drop j).take m) (.returned (.slice (some ⟨g, o, none⟩) m m))) := Lib.hid fun X W A' cap' hX hW ho => by
      obtain ⟨A2, cap2, e, hr3, h4, h5, h6⟩ := ho.form
      have hne : (T.L.drop j).take m ≠ [] := fun e => by rw [e] at hml; simp at hml; omega
      obtain ⟨g, o, rfl, _⟩ := hr3 hne
      injection e with ea eb ec
      subst ea ec
      rw [hml] at h4
      refine ⟨g, o, rfl, h4, h5, some ⟨g, o, none⟩, m, by rw [hml], ?_, hX.trans (hW.mono hX.size)⟩
      rw [hml]
      exact (ho.shrink (Nat.le_refl _) h4).mono fun k _ q => Nat.le_trans hX.size q
    by_cases qm : nn ≤ r
    · have hmn : m = nn := by omega
      subst hmn
      have g4 : ¬ ((r : Int) < (m : Int)) := by omega
      have g5 : ¬ (r < m) := by omega
      clear h hI q hr hno hp hpl hjn e0 em hm hr2 hj hml hlast e1 iM
      go_enter Try.func24, Try.ntmps24
      go_wp2_with (first
        | (go_at_call 31; (with_reducible refine HBS.out.mono ?_); rintro e w1 ⟨rfl, hb1⟩)
        | (go_at_call 29; (with_reducible refine (HLA.out _ hb1).mono ?_); rintro e w2 ⟨rfl, hb2⟩))
      have HB2 := Lib.hid (hb1.trans (hb2.mono hb1.size))
      have HB3 := Lib.hid HB2.out.drew
      obtain ⟨c0, c2⟩ := HX.out w2 HB2.out
      clear hb1 hb2
      go_region_with (first
        | (go_at_call 38; (with_reducible refine (HA.out _ ?_).mono ?_); exact c0; rintro e w3 ⟨rfl, rfl⟩)
        | (go_at_call 33; (with_reducible refine (HCL.out _ HB3.out).mono ?_); rintro e w4 ⟨A', cap', rfl, ho, hb4⟩; obtain ⟨g, o, rfl, n1, n2, hans⟩ := fin.out _ _ _ _ HB3.out hb4 ho; have HANS := Lib.hid hans; clear ho hb4 hans))
      all_goals go_wp2_with fail
      all_goals go_ret
      all_goals exact HANS.out
    · have hmn : m = r := by omega
      subst hmn
      have g4 : (m : Int) < (nn : Int) := by omega
      have g5 : m < nn := by omega
      clear h hI q hr hno hp hpl hjn e0 em hm hr2 hj hml hlast e1 iM
      go_enter Try.func24, Try.ntmps24
      go_wp2_with (first
        | (go_at_call 31; (with_reducible refine HBS.out.mono ?_); rintro e w1 ⟨rfl, hb1⟩)
        | (go_at_call 29; (with_reducible refine (HLA.out _ hb1).mono ?_); rintro e w2 ⟨rfl, hb2⟩))
      have HB2 := Lib.hid (hb1.trans (hb2.mono hb1.size))
      have HB3 := Lib.hid HB2.out.drew
      obtain ⟨c0, c2⟩ := HX.out w2 HB2.out
      clear hb1 hb2
      go_region_with (first
        | (go_at_call 38; (with_reducible refine (HA.out _ ?_).mono ?_); exact c0; rintro e w3 ⟨rfl, rfl⟩)
        | (go_at_call 33; (with_reducible refine (HCL.out _ HB3.out).mono ?_); rintro e w4 ⟨A', cap', rfl, ho, hb4⟩; obtain ⟨g, o, rfl, n1, n2, hans⟩ := fin.out _ _ _ _ HB3.out hb4 ho; have HANS := Lib.hid hans; clear ho hb4 hans))
      all_goals go_wp2_with fail
      all_goals go_ret
      all_goals exact HANS.out
end Go.Proofs.Ytlimjfnolidbmaa
