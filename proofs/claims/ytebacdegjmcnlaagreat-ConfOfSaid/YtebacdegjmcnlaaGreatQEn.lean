/-
  The document's own answer on orders' data, walked. Condition: the numbers are of 64 bits, the texts have at most 2^48 bytes.
-/
import Derived.Test.YtebacdegjmcnlaaGreatQMa
import Derived.Test.YtebacdegjmcnlaaGreatOb
namespace Go.Proofs.YtebacdegjmcnlaaGreat
set_option maxRecDepth 20000
open Go.RowKit Pl
set_option linter.unusedVariables false
theorem zC_enc {o : Int} {s t : ByteArray} {a b c m : Int} (h : zC o s t a b c m = true) : encC o s t a b c m = ⟨#[]⟩ := by
  unfold zC at h
  obtain ⟨rfl, rfl, rfl, ⟨rfl, rfl, rfl⟩, rfl⟩ := eqC_iff.1 h
  decide +kernel
theorem plain_text {k i q n o : Int} {s t : ByteArray} {a b c m : Int} (h : mayO k i q n o s t a b c m = true) (h0 : k ≠ 0) (h2 : k ≠ 2) (h5 : k ≠ 5) : encC o s t a b c m = ⟨#[]⟩ := by
  unfold mayO at h
  rw [if_neg h0] at h
  by_cases h1 : k = 1 ∨ k = 3
  · rw [if_pos h1] at h
    simp only [Bool.and_eq_true] at h
    exact zC_enc h.1.2.2
  · rw [if_neg h1, if_neg h2] at h
    by_cases h4 : k = 4
    · rw [if_pos h4] at h
      simp only [Bool.and_eq_true] at h
      exact zC_enc h.1.2.2
    · rw [if_neg h4, if_neg h5] at h
      cases h
set_option maxHeartbeats 4000000 in
theorem rEncodeO_any (k i q n o : Int) (s t : ByteArray) (a b c m : Int) (w : World) (hk : InR k) (hi : InR i) (hq : InR q) (hn : InR n) (ho : InR o) (hs : s.size ≤ 281474976710656) (ht : t.size ≤ 281474976710656) (ha : InR a) (hb : InR b) (hc : InR c) (hm : InR m) :
    Calls Tryz.prog 26 #[oV k i q n o s t a b c m] w (RetBelow (.tuple #[.string (encO k i q n o s t a b c m), .int .i64 (errO k i q n o s t a b c m)]) w) := by
  have HM := Lib.hid (fun W => rMayO_any k i q n o s t a b c m W hs ht)
  have HC := Lib.hid (fun W => refEncode_any o s t a b c m W ho hs ht ha hb hc hm)
  have HB := Lib.hid ((Below.refl w.heap.size w).alloc (Nat.le_refl _) (.cells #[.int .i64 k, .int .i64 i, .int .i64 q, .int .i64 n, .int .i64 o, .string s, .string t, .int .i64 a, .int .i64 b, .int .i64 c, .int .i64 m] 34))
  have HR := Lib.hid (heap_alloc_new w (.cells #[.int .i64 k, .int .i64 i, .int .i64 q, .int .i64 n, .int .i64 o, .string s, .string t, .int .i64 a, .int .i64 b, .int .i64 c, .int .i64 m] 34))
  have HX := encC_small o s t a b c m
  have HI := Lib.hid (And.intro hk (And.intro hi (And.intro hq hn)))
  clear ho hs ht ha hb hc hm hk hi hq hn
  unfold oV at HM ⊢
  cases hm : mayO k i q n o s t a b c m with
  | false =>
    rw [show encO k i q n o s t a b c m = ⟨#[]⟩ by unfold encO; rw [hm]; rfl, show errO k i q n o s t a b c m = 4 by unfold errO; rw [hm]; rfl]
    go_enter Tryz.func26, Tryz.ntmps26
    go_wp2_with (go_at_call 40; (with_reducible refine (HM.out _).mono ?_); rintro e w1 ⟨rfl, hb1⟩; rw [hm]; have B1 := Lib.hid hb1; clear hb1)
    go_ret2
    exact ⟨rfl, HB.out.trans (B1.out.mono HB.out.size)⟩
  | true =>
    rw [show errO k i q n o s t a b c m = 0 by unfold errO; rw [hm]; rfl, show encO k i q n o s t a b c m = if k = 0 then ⟨#[]⟩ else Nm.str (oIt k i q n (encC o s t a b c m)).enc by unfold encO; rw [hm]; rfl]
    by_cases h0 : k = 0
    · have g0 : decide (k = 0) = true := decide_eq_true h0
      rw [if_pos h0]
      subst h0
      go_enter Tryz.func26, Tryz.ntmps26
      go_wp2_with (go_at_call 40; (with_reducible refine (HM.out _).mono ?_); rintro e w1 ⟨rfl, hb1⟩; rw [hm]; have B1 := Lib.hid hb1; obtain ⟨x0, x1, x2, x3, x4, x5, x6, x7, x8, x9, x10⟩ := row11 ((hb1.block w.heap.size (by simp)).trans HR.out); clear hb1)
      go_ret2
      exact ⟨rfl, HB.out.trans (B1.out.mono HB.out.size)⟩
    · have g0 : decide (k = 0) = false := decide_eq_false h0
      rw [if_neg h0]
      have HPL : Hid (k ≠ 2 → k ≠ 5 → encC o s t a b c m = ⟨#[]⟩) := Lib.hid fun h2 h5 => plain_text hm h0 h2 h5
      obtain ⟨x, hx⟩ : ∃ x, x = encC o s t a b c m := ⟨_, rfl⟩
      unfold EncCPost at HC
      rw [← hx] at HC HX HPL
      rw [← hx]
      have HZ : Hid (errOf (oIt k i q n x) = 0) := Lib.hid (errOf_oIt k i q n x (by omega))
      have Hx : Hid (x.size ≤ maxLen) := Lib.hid (by simp only [maxLen]; omega)
      clear hx HX
      generalize errC o s t a b c m = ec at *
      by_cases h25 : k = 2 ∨ k = 5
      · have g2 : (decide (k = 2) || decide (k = 5)) = true := by rcases h25 with h | h <;> simp [h]
        clear HPL
        rcases h25 with rfl | rfl
        · clear g2
          go_enter Tryz.func26, Tryz.ntmps26
          go_wp2_with (first
            | (go_at_call 40; (with_reducible refine (HM.out _).mono ?_); rintro e w1 ⟨rfl, hb1⟩; rw [hm]; have B1 := Lib.hid hb1; have R1 := Lib.hid ((hb1.block w.heap.size (by simp)).trans HR.out); obtain ⟨x0, x1, x2, x3, x4, x5, x6, x7, x8, x9, x10⟩ := row11 R1.out; have S1 := Lib.hid hb1.size; clear hb1)
            | (go_at_call 39; (with_reducible refine (HC.out _).mono ?_); rintro e W ⟨rfl, hb2⟩; have B2 := Lib.hid (B1.out.trans (hb2.mono B1.out.size)); have R2 := Lib.hid ((hb2.block w.heap.size (by have := S1.out; simp at this; omega)).trans R1.out); have S2 := Lib.hid hb2.size; clear hb2))
          all_goals
            have HSW : Hid (w.heap.size < W.heap.size) := Lib.hid (Array.getElem?_eq_some_iff.1 R2.out).1
            have HA7 := Lib.hid (fun V (h : Below W.heap.size W V) => row11 ((h.block w.heap.size HSW.out).trans R2.out))
            have E0 : Hid (Below W.heap.size W W.drew) := Lib.hid (Below.refl _ W).drew
            obtain ⟨e0, e1, e2, e3, _⟩ := HA7.out _ E0.out
            have HA4 : Hid (∀ V, Below W.heap.size W V → V.cell? ⟨w.heap.size, 0, none⟩ = some (.int .i64 2) ∧ V.cell? ⟨w.heap.size, 1, none⟩ = some (.int .i64 i) ∧ V.cell? ⟨w.heap.size, 2, none⟩ = some (.int .i64 q) ∧ V.cell? ⟨w.heap.size, 3, none⟩ = some (.int .i64 n)) := Lib.hid fun V h => ⟨(HA7.out V h).1, (HA7.out V h).2.1, (HA7.out V h).2.2.1, (HA7.out V h).2.2.2.1⟩
            clear HA7
            go_region_held3 (fun V => V.cell? ⟨w.heap.size, 0, none⟩ = some (.int .i64 2) ∧ V.cell? ⟨w.heap.size, 1, none⟩ = some (.int .i64 i) ∧ V.cell? ⟨w.heap.size, 2, none⟩ = some (.int .i64 q) ∧ V.cell? ⟨w.heap.size, 3, none⟩ = some (.int .i64 n))
              (first | exact HA4.out _ BY.out | exact HA4.out _ BX.out | exact HA4.out _ (BE.out.alloc BE.out.size _) | exact HA4.out _ BE.out | exact HA4.out _ BD.out | exact HA4.out _ BC.out | exact HA4.out _ BB.out | exact HA4.out _ BA.out | exact HA4.out _ E0.out)
              (first
                | (go_at_call 41; (with_reducible refine (rencode_of _ _ w5 HI5.out HZ.out).mono ?_); rintro e w6 ⟨v6, rfl, b6, hv6⟩; have BY : Hid (Below W.heap.size W w6) := Lib.hid (BX.out.trans (b6.mono BX.out.size)); have hcv := conv_text hv6; clear b6 hv6)
                | (go_at_call 42; (with_reducible refine (row_any _ _ _ _).mono ?_); rintro e w5 ⟨rfl, b2⟩; have BX : Hid (Below W.heap.size W w5) := Lib.hid ((BE.out.alloc BE.out.size _).trans (b2.mono (Nat.le_trans BE.out.size (by simp)))); have HI5 : Hid (IsIt w5 (· < w5.heap.size) (oIt 2 i q n x) _) := Lib.hid (isIt_of_row (k := 5) (c := 5) b2 (oRow HI.out.1 HI.out.2.1 HI.out.2.2.1 HI.out.2.2.2 Hx.out)); clear b2)
                | (go_at_call 44; (with_reducible refine (str_any _ _).mono ?_); rintro e wE ⟨rfl, b2⟩; have BE : Hid (Below W.heap.size W wE) := Lib.hid (BD.out.trans (b2.mono BD.out.size)); clear b2; obtain ⟨fE0, fE1, fE2, fE3⟩ := HA4.out wE BE.out)
                | (go_at_call 43; (with_reducible refine (num_any _ _).mono ?_); rintro e wD ⟨rfl, b2⟩; have BD : Hid (Below W.heap.size W wD) := Lib.hid (BC.out.trans (b2.mono BC.out.size)); clear b2; obtain ⟨fD0, fD1, fD2, fD3⟩ := HA4.out wD BD.out)
                | (go_at_call 43; (with_reducible refine (num_any _ _).mono ?_); rintro e wC ⟨rfl, b2⟩; have BC : Hid (Below W.heap.size W wC) := Lib.hid (BB.out.trans (b2.mono BB.out.size)); clear b2; obtain ⟨fC0, fC1, fC2, fC3⟩ := HA4.out wC BC.out)
                | (go_at_call 43; (with_reducible refine (num_any _ _).mono ?_); rintro e wB ⟨rfl, b2⟩; have BB : Hid (Below W.heap.size W wB) := Lib.hid (BA.out.trans (b2.mono BA.out.size)); clear b2; obtain ⟨fB0, fB1, fB2, fB3⟩ := HA4.out wB BB.out)
                | (go_at_call 43; (with_reducible refine (num_any _ _).mono ?_); rintro e wA ⟨rfl, b2⟩; have BA : Hid (Below W.heap.size W wA) := Lib.hid (E0.out.trans b2); clear b2; obtain ⟨fA0, fA1, fA2, fA3⟩ := HA4.out wA BA.out))
            all_goals
              go_wp2_with fail
              go_ret2
              exact ⟨rfl, HB.out.trans ((B2.out.trans (BY.out.mono B2.out.size)).mono HB.out.size)⟩
        · clear g2
          go_enter Tryz.func26, Tryz.ntmps26
          go_wp2_with (first
            | (go_at_call 40; (with_reducible refine (HM.out _).mono ?_); rintro e w1 ⟨rfl, hb1⟩; rw [hm]; have B1 := Lib.hid hb1; have R1 := Lib.hid ((hb1.block w.heap.size (by simp)).trans HR.out); obtain ⟨x0, x1, x2, x3, x4, x5, x6, x7, x8, x9, x10⟩ := row11 R1.out; have S1 := Lib.hid hb1.size; clear hb1)
            | (go_at_call 39; (with_reducible refine (HC.out _).mono ?_); rintro e W ⟨rfl, hb2⟩; have B2 := Lib.hid (B1.out.trans (hb2.mono B1.out.size)); have R2 := Lib.hid ((hb2.block w.heap.size (by have := S1.out; simp at this; omega)).trans R1.out); have S2 := Lib.hid hb2.size; clear hb2))
          all_goals
            have HSW : Hid (w.heap.size < W.heap.size) := Lib.hid (Array.getElem?_eq_some_iff.1 R2.out).1
            have HA7 := Lib.hid (fun V (h : Below W.heap.size W V) => row11 ((h.block w.heap.size HSW.out).trans R2.out))
            have E0 : Hid (Below W.heap.size W W.drew) := Lib.hid (Below.refl _ W).drew
            obtain ⟨e0, e1, e2, e3, _⟩ := HA7.out _ E0.out
            have HA4 : Hid (∀ V, Below W.heap.size W V → V.cell? ⟨w.heap.size, 0, none⟩ = some (.int .i64 5) ∧ V.cell? ⟨w.heap.size, 1, none⟩ = some (.int .i64 i) ∧ V.cell? ⟨w.heap.size, 2, none⟩ = some (.int .i64 q) ∧ V.cell? ⟨w.heap.size, 3, none⟩ = some (.int .i64 n)) := Lib.hid fun V h => ⟨(HA7.out V h).1, (HA7.out V h).2.1, (HA7.out V h).2.2.1, (HA7.out V h).2.2.2.1⟩
            clear HA7
            go_region_held3 (fun V => V.cell? ⟨w.heap.size, 0, none⟩ = some (.int .i64 5) ∧ V.cell? ⟨w.heap.size, 1, none⟩ = some (.int .i64 i) ∧ V.cell? ⟨w.heap.size, 2, none⟩ = some (.int .i64 q) ∧ V.cell? ⟨w.heap.size, 3, none⟩ = some (.int .i64 n))
              (first | exact HA4.out _ BY.out | exact HA4.out _ BX.out | exact HA4.out _ (BE.out.alloc BE.out.size _) | exact HA4.out _ BE.out | exact HA4.out _ BD.out | exact HA4.out _ BC.out | exact HA4.out _ BB.out | exact HA4.out _ BA.out | exact HA4.out _ E0.out)
              (first
                | (go_at_call 41; (with_reducible refine (rencode_of _ _ w5 HI5.out HZ.out).mono ?_); rintro e w6 ⟨v6, rfl, b6, hv6⟩; have BY : Hid (Below W.heap.size W w6) := Lib.hid (BX.out.trans (b6.mono BX.out.size)); have hcv := conv_text hv6; clear b6 hv6)
                | (go_at_call 42; (with_reducible refine (row_any _ _ _ _).mono ?_); rintro e w5 ⟨rfl, b2⟩; have BX : Hid (Below W.heap.size W w5) := Lib.hid ((BE.out.alloc BE.out.size _).trans (b2.mono (Nat.le_trans BE.out.size (by simp)))); have HI5 : Hid (IsIt w5 (· < w5.heap.size) (oIt 5 i q n x) _) := Lib.hid (isIt_of_row (k := 5) (c := 5) b2 (oRow HI.out.1 HI.out.2.1 HI.out.2.2.1 HI.out.2.2.2 Hx.out)); clear b2)
                | (go_at_call 44; (with_reducible refine (str_any _ _).mono ?_); rintro e wE ⟨rfl, b2⟩; have BE : Hid (Below W.heap.size W wE) := Lib.hid (BD.out.trans (b2.mono BD.out.size)); clear b2; obtain ⟨fE0, fE1, fE2, fE3⟩ := HA4.out wE BE.out)
                | (go_at_call 43; (with_reducible refine (num_any _ _).mono ?_); rintro e wD ⟨rfl, b2⟩; have BD : Hid (Below W.heap.size W wD) := Lib.hid (BC.out.trans (b2.mono BC.out.size)); clear b2; obtain ⟨fD0, fD1, fD2, fD3⟩ := HA4.out wD BD.out)
                | (go_at_call 43; (with_reducible refine (num_any _ _).mono ?_); rintro e wC ⟨rfl, b2⟩; have BC : Hid (Below W.heap.size W wC) := Lib.hid (BB.out.trans (b2.mono BB.out.size)); clear b2; obtain ⟨fC0, fC1, fC2, fC3⟩ := HA4.out wC BC.out)
                | (go_at_call 43; (with_reducible refine (num_any _ _).mono ?_); rintro e wB ⟨rfl, b2⟩; have BB : Hid (Below W.heap.size W wB) := Lib.hid (BA.out.trans (b2.mono BA.out.size)); clear b2; obtain ⟨fB0, fB1, fB2, fB3⟩ := HA4.out wB BB.out)
                | (go_at_call 43; (with_reducible refine (num_any _ _).mono ?_); rintro e wA ⟨rfl, b2⟩; have BA : Hid (Below W.heap.size W wA) := Lib.hid (E0.out.trans b2); clear b2; obtain ⟨fA0, fA1, fA2, fA3⟩ := HA4.out wA BA.out))
            all_goals
              go_wp2_with fail
              go_ret2
              exact ⟨rfl, HB.out.trans ((B2.out.trans (BY.out.mono B2.out.size)).mono HB.out.size)⟩
      · have h2 : k ≠ 2 := fun h => h25 (.inl h)
        have h5 : k ≠ 5 := fun h => h25 (.inr h)
        have g2 := decide_eq_false h2
        have g5 := decide_eq_false h5
        have gb2 : (k == 2) = false := by simpa using h2
        have gb5 : (k == 5) = false := by simpa using h5
        have ex := HPL.out h2 h5
        subst ex
        clear HPL
        go_enter Tryz.func26, Tryz.ntmps26
        go_wp2_with (go_at_call 40; (with_reducible refine (HM.out _).mono ?_); rintro e W ⟨rfl, hb1⟩; rw [hm]; have B2 := Lib.hid hb1; have R2 := Lib.hid ((hb1.block w.heap.size (by simp)).trans HR.out); obtain ⟨x0, x1, x2, x3, x4, x5, x6, x7, x8, x9, x10⟩ := row11 R2.out; clear hb1)
        have HSW : Hid (w.heap.size < W.heap.size) := Lib.hid (Array.getElem?_eq_some_iff.1 R2.out).1
        have HA7 := Lib.hid (fun V (h : Below W.heap.size W V) => row11 ((h.block w.heap.size HSW.out).trans R2.out))
        have E0 : Hid (Below W.heap.size W W.drew) := Lib.hid (Below.refl _ W).drew
        obtain ⟨e0, e1, e2, e3, _⟩ := HA7.out _ E0.out
        have HA4 : Hid (∀ V, Below W.heap.size W V → V.cell? ⟨w.heap.size, 0, none⟩ = some (.int .i64 k) ∧ V.cell? ⟨w.heap.size, 1, none⟩ = some (.int .i64 i) ∧ V.cell? ⟨w.heap.size, 2, none⟩ = some (.int .i64 q) ∧ V.cell? ⟨w.heap.size, 3, none⟩ = some (.int .i64 n)) := Lib.hid fun V h => ⟨(HA7.out V h).1, (HA7.out V h).2.1, (HA7.out V h).2.2.1, (HA7.out V h).2.2.2.1⟩
        clear HA7
        go_region_held3 (fun V => V.cell? ⟨w.heap.size, 0, none⟩ = some (.int .i64 k) ∧ V.cell? ⟨w.heap.size, 1, none⟩ = some (.int .i64 i) ∧ V.cell? ⟨w.heap.size, 2, none⟩ = some (.int .i64 q) ∧ V.cell? ⟨w.heap.size, 3, none⟩ = some (.int .i64 n))
          (first | exact HA4.out _ BY.out | exact HA4.out _ BX.out | exact HA4.out _ (BE.out.alloc BE.out.size _) | exact HA4.out _ BE.out | exact HA4.out _ BD.out | exact HA4.out _ BC.out | exact HA4.out _ BB.out | exact HA4.out _ BA.out | exact HA4.out _ E0.out)
          (first
            | (go_at_call 41; (with_reducible refine (rencode_of _ _ w5 HI5.out HZ.out).mono ?_); rintro e w6 ⟨v6, rfl, b6, hv6⟩; have BY : Hid (Below W.heap.size W w6) := Lib.hid (BX.out.trans (b6.mono BX.out.size)); have hcv := conv_text hv6; clear b6 hv6)
            | (go_at_call 42; (with_reducible refine (row_any _ _ _ _).mono ?_); rintro e w5 ⟨rfl, b2⟩; have BX : Hid (Below W.heap.size W w5) := Lib.hid ((BE.out.alloc BE.out.size _).trans (b2.mono (Nat.le_trans BE.out.size (by simp)))); have HI5 : Hid (IsIt w5 (· < w5.heap.size) (oIt k i q n ⟨#[]⟩) _) := Lib.hid (isIt_of_row (k := 5) (c := 5) b2 (oRow HI.out.1 HI.out.2.1 HI.out.2.2.1 HI.out.2.2.2 Hx.out)); clear b2)
            | (go_at_call 44; (with_reducible refine (str_any _ _).mono ?_); rintro e wE ⟨rfl, b2⟩; have BE : Hid (Below W.heap.size W wE) := Lib.hid (BD.out.trans (b2.mono BD.out.size)); clear b2; obtain ⟨fE0, fE1, fE2, fE3⟩ := HA4.out wE BE.out)
            | (go_at_call 43; (with_reducible refine (num_any _ _).mono ?_); rintro e wD ⟨rfl, b2⟩; have BD : Hid (Below W.heap.size W wD) := Lib.hid (BC.out.trans (b2.mono BC.out.size)); clear b2; obtain ⟨fD0, fD1, fD2, fD3⟩ := HA4.out wD BD.out)
            | (go_at_call 43; (with_reducible refine (num_any _ _).mono ?_); rintro e wC ⟨rfl, b2⟩; have BC : Hid (Below W.heap.size W wC) := Lib.hid (BB.out.trans (b2.mono BB.out.size)); clear b2; obtain ⟨fC0, fC1, fC2, fC3⟩ := HA4.out wC BC.out)
            | (go_at_call 43; (with_reducible refine (num_any _ _).mono ?_); rintro e wB ⟨rfl, b2⟩; have BB : Hid (Below W.heap.size W wB) := Lib.hid (BA.out.trans (b2.mono BA.out.size)); clear b2; obtain ⟨fB0, fB1, fB2, fB3⟩ := HA4.out wB BB.out)
            | (go_at_call 43; (with_reducible refine (num_any _ _).mono ?_); rintro e wA ⟨rfl, b2⟩; have BA : Hid (Below W.heap.size W wA) := Lib.hid (E0.out.trans b2); clear b2; obtain ⟨fA0, fA1, fA2, fA3⟩ := HA4.out wA BA.out))
        all_goals
          go_wp2_with fail
          go_ret2
          exact ⟨rfl, HB.out.trans ((B2.out.trans (BY.out.mono B2.out.size)).mono HB.out.size)⟩
end Go.Proofs.YtebacdegjmcnlaaGreat
