import Derived.Test.YtiedeneglhboiaaMx
namespace Go.Proofs.Ytiedeneglhboiaa
open Go.RowKit Pl
set_option linter.unusedVariables false
set_option maxRecDepth 20000
/-- a command's cells at a place -/
abbrev CAt (V : World) (p : Nat) (o : Int) (s t : ByteArray) (a b c n : Int) : Prop :=
  V.cell? ⟨p, 0, none⟩ = some (.int .i64 o) ∧ V.cell? ⟨p, 1, none⟩ = some (.string s) ∧ V.cell? ⟨p, 2, none⟩ = some (.string t) ∧ V.cell? ⟨p, 3, none⟩ = some (.int .i64 a) ∧ V.cell? ⟨p, 4, none⟩ = some (.int .i64 b) ∧ V.cell? ⟨p, 5, none⟩ = some (.int .i64 c) ∧ V.cell? ⟨p, 6, none⟩ = some (.int .i64 n)
abbrev RAt (V : World) (p : Nat) (o : Int) (s : ByteArray) (a b c n : Int) : Prop :=
  V.cell? ⟨p, 0, none⟩ = some (.int .i64 o) ∧ V.cell? ⟨p, 1, none⟩ = some (.string s) ∧ V.cell? ⟨p, 2, none⟩ = some (.int .i64 a) ∧ V.cell? ⟨p, 3, none⟩ = some (.int .i64 b) ∧ V.cell? ⟨p, 4, none⟩ = some (.int .i64 c) ∧ V.cell? ⟨p, 5, none⟩ = some (.int .i64 n)
def cRowV (o : Int) (s t : ByteArray) (a b c n : Int) : Obj := .cells #[.int .i64 o, .string s, .string t, .int .i64 a, .int .i64 b, .int .i64 c, .int .i64 n] 25 (0, 0)
def rRowV (o : Int) (s : ByteArray) (a b c n : Int) : Obj := .cells #[.int .i64 o, .string s, .int .i64 a, .int .i64 b, .int .i64 c, .int .i64 n] 34 (0, 0)
theorem cat_of {V W : World} {p B : Nat} {o : Int} {s t : ByteArray} {a b c n : Int} (h : W.heap[p]? = some (cRowV o s t a b c n)) (hp : p < B) (hb : Below B W V) : CAt V p o s t a b c n :=
  row7 ((hb.block p hp).trans h)
theorem rat_of {V W : World} {p B : Nat} {o : Int} {s : ByteArray} {a b c n : Int} (h : W.heap[p]? = some (rRowV o s a b c n)) (hp : p < B) (hb : Below B W V) : RAt V p o s a b c n :=
  row6 ((hb.block p hp).trans h)
theorem encC_yes {o : Int} {s t : ByteArray} {a b c n : Int} (h : mayC o s t a b c n = true) : encC o s t a b c n = Nm.str (cIt o s t a b c n).enc ∧ errC o s t a b c n = 0 := by
  unfold encC errC; rw [if_pos h, if_pos h]; exact ⟨rfl, rfl⟩
theorem encC_no {o : Int} {s t : ByteArray} {a b c n : Int} (h : mayC o s t a b c n = false) : encC o s t a b c n = ⟨#[]⟩ ∧ errC o s t a b c n = 4 := by
  unfold encC errC; rw [if_neg (by rw [h]; decide), if_neg (by rw [h]; decide)]; exact ⟨rfl, rfl⟩
theorem packR_yes {o : Int} {s : ByteArray} {a b c n : Int} (h : mayR o s = true) : packR o s a b c n = Nm.str (rIt o s a b c n).enc ∧ errR o s a b c n = 0 := by
  unfold packR errR; rw [if_pos h, if_pos h]; exact ⟨rfl, rfl⟩
theorem packR_no {o : Int} {s : ByteArray} {a b c n : Int} (h : mayR o s = false) : packR o s a b c n = ⟨#[]⟩ ∧ errR o s a b c n = 4 := by
  unfold packR errR; rw [if_neg (by rw [h]; decide), if_neg (by rw [h]; decide)]; exact ⟨rfl, rfl⟩
theorem str_size0 {l : List UInt8} (h : l ≠ []) : ((Nm.str l).size == 0) = false := by
  rw [beq_eq_false_iff_ne]
  show l.toArray.size ≠ 0
  simpa using h
theorem noEmpty {t : ByteArray} (h : (t.size == 0) = false) : t.toList.isEmpty = false := by
  have := toList0 h
  cases hq : t.toList with
  | nil => rw [hq] at this; cases this
  | cons a r => rfl
theorem eq23v (a b c x y z : Int) (w : World) : (binOp .eql 23 (.agg #[.int .i64 a, .int .i64 b, .int .i64 c]) (.agg #[.int .i64 x, .int .i64 y, .int .i64 z])).run Try.prog w = .ok (.bool (eqV a b c x y z)) w := by
  rw [run_eql_struct, show (10000 : Nat) = 9998 + 2 from rfl, eq23]
  rfl
theorem neq25v (o : Int) (s t : ByteArray) (a b c n : Int) (o' : Int) (s' t' : ByteArray) (a' b' c' n' : Int) (w : World) : (binOp .neq 25 (.agg #[.int .i64 o, .string s, .string t, .int .i64 a, .int .i64 b, .int .i64 c, .int .i64 n]) (.agg #[.int .i64 o', .string s', .string t', .int .i64 a', .int .i64 b', .int .i64 c', .int .i64 n'])).run Try.prog w = .ok (.bool (!eqC o s t a b c n o' s' t' a' b' c' n')) w := by
  rw [run_neq_struct]
  have := eq25 o s t a b c n o' s' t' a' b' c' n' w
  unfold cV at this
  rw [this]
  rfl
theorem eq34v (o : Int) (s : ByteArray) (a b c n : Int) (o' : Int) (s' : ByteArray) (a' b' c' n' : Int) (w : World) : (binOp .eql 34 (.agg #[.int .i64 o, .string s, .int .i64 a, .int .i64 b, .int .i64 c, .int .i64 n]) (.agg #[.int .i64 o', .string s', .int .i64 a', .int .i64 b', .int .i64 c', .int .i64 n'])).run Try.prog w = .ok (.bool (eqR o s a b c n o' s' a' b' c' n')) w := by
  rw [run_eql_struct]
  have := eq34 o s a b c n o' s' a' b' c' n' w
  unfold rV at this
  rw [this]
  rfl
theorem neq34v (o : Int) (s : ByteArray) (a b c n : Int) (o' : Int) (s' : ByteArray) (a' b' c' n' : Int) (w : World) : (binOp .neq 34 (.agg #[.int .i64 o, .string s, .int .i64 a, .int .i64 b, .int .i64 c, .int .i64 n]) (.agg #[.int .i64 o', .string s', .int .i64 a', .int .i64 b', .int .i64 c', .int .i64 n'])).run Try.prog w = .ok (.bool (!eqR o s a b c n o' s' a' b' c' n')) w := by
  rw [run_neq_struct]
  have := eq34 o s a b c n o' s' a' b' c' n' w
  unfold rV at this
  rw [this]
  rfl
theorem enc_ne (k n : Int) (s : ByteArray) (l : List It) (hk : k = 1 ∨ k = 2 ∨ k = 3) : (It.mk k n s l).enc ≠ [] := by
  rcases hk with rfl | rfl | rfl <;> simp [It.enc]
theorem cEnc_ne (o : Int) (s t : ByteArray) (a b c n : Int) : (cIt o s t a b c n).enc ≠ [] := enc_ne _ _ _ _ (by omega)
theorem rEnc_ne (o : Int) (s : ByteArray) (a b c n : Int) : (rIt o s a b c n).enc ≠ [] := enc_ne _ _ _ _ (by omega)
theorem asks_is {o : Int} {s t : ByteArray} {a b c n : Int} (h : asksC o s t a b c n = true) : mayC o s t a b c n = true ∧ t = ⟨#[]⟩ ∧ a = 0 ∧ b = 0 ∧ c = 0 ∧ n = 0 ∧ 8 ≤ o ∧ o ≤ 10 := by
  unfold asksC at h
  rw [Bool.and_eq_true] at h
  obtain ⟨h1, h2⟩ := h
  refine ⟨h2, ?_⟩
  have h3 : 8 ≤ o ∧ o ≤ 10 := by
    simp at h1
    omega
  unfold mayC fitF at h2
  rw [if_neg (by omega), if_neg (by omega), if_pos (by omega)] at h2
  simp only [Bool.and_eq_true, beq_iff_eq, eqV_iff] at h2
  obtain ⟨_, ⟨h4, h5, h6, h7⟩, h8⟩ := h2
  exact ⟨size_zero h4, h5, h6, h7, h8, h3⟩
set_option maxHeartbeats 1000000 in
theorem law_asks (o : Int) (s t : ByteArray) (a b c n : Int) (w : World) (ho : InR o) (hs : s.size ≤ 140737488351232) (ht : t.size ≤ 140737488351232) (ha : InR a) (hb : InR b) (hc : InR c) (hn : InR n) :
    Calls Try.prog 9 #[.agg #[.int .i64 o, .string s, .string t, .int .i64 a, .int .i64 b, .int .i64 c, .int .i64 n]] w (RetBelow (.bool true) w) := by
  have HM := Lib.hid (fun W => may_any o s t a b c n W (by omega) (by omega))
  have HQ := Lib.hid (fun W => asks_any o s t a b c n W (by omega) (by omega))
  have HE := Lib.hid (fun W => encodeC_any o s t a b c n W ho (by omega) (by omega) ha hb hc hn)
  have HAW := Lib.hid awakeC_any
  have HB0 := Lib.hid ((Below.refl w.heap.size w).alloc (Nat.le_refl _) (cRowV o s t a b c n))
  have HR := Lib.hid (heap_alloc_new w (cRowV o s t a b c n))
  obtain ⟨W, hW⟩ : ∃ W, w.alloc (.cells #[.int .i64 o, .string s, .string t, .int .i64 a, .int .i64 b, .int .i64 c, .int .i64 n] 25) = W := ⟨_, rfl⟩
  rw [show w.alloc (cRowV o s t a b c n) = W from hW] at HB0 HR
  have hz : w.heap.size < W.heap.size := by rw [← hW]; simp
  have HK := Lib.hid (fun V (h : Below W.heap.size W V) => cat_of HR.out hz h)
  have HW := Lib.hid hW
  have B0 := Lib.hid (Below.refl W.heap.size W)
  have HZ := Lib.hid hz
  clear ho hs ht ha hb hc hn hW hz
  have q2 := bld23
  cases hm : mayC o s t a b c n
  · have hq : asksC o s t a b c n = false := by unfold asksC; rw [hm]; simp
    obtain ⟨x1, x2⟩ := encC_no hm
    have HX := Lib.hid x1
    have HY := Lib.hid x2
    have Hm := Lib.hid hm
    have Hq := Lib.hid hq
    clear x1 x2 hq hm
    go_enter Try.func9, Try.ntmps9
    go_wp2_with fail
    rw [HW.out]
    go_wp2_with (first
      | (go_at_call 15; (with_reducible refine (HQ.out _).mono ?_); rintro e w4 ⟨rfl, h⟩; rw [Hq.out]; have B4 : Hid (Below W.heap.size W w4) := Lib.hid (B3.out.trans (h.mono B3.out.size)); clear h)
      | (go_at_call 13; (with_reducible refine (HM.out _).mono ?_); rintro e w3 ⟨rfl, h⟩; rw [Hm.out]; have B3 : Hid (Below W.heap.size W w3) := Lib.hid (B2.out.trans (h.mono B2.out.size)); clear h; obtain ⟨f0, f1, f2, f3, f4, f5, f6⟩ := HK.out _ B3.out)
      | (go_at_call 11; (with_reducible refine (HE.out _).mono ?_); rintro e w2 ⟨rfl, h⟩; rw [HX.out, HY.out]; have B2 : Hid (Below W.heap.size W w2) := Lib.hid (B1.out.trans (h.mono B1.out.size)); clear h; obtain ⟨e0, e1, e2, e3, e4, e5, e6⟩ := HK.out _ B2.out)
      | (go_at_call 10; (with_reducible refine (HAW.out _).mono ?_); rintro e w1 ⟨rfl, h⟩; have B1 : Hid (Below W.heap.size W w1) := Lib.hid h; clear h; obtain ⟨d0, d1, d2, d3, d4, d5, d6⟩ := HK.out _ B1.out))
    go_ret
    exact ⟨rfl, HB0.out.trans (B4.out.mono HB0.out.size)⟩
  · obtain ⟨x1, x2⟩ := encC_yes hm
    have x3 := str_size0 (cEnc_ne o s t a b c n)
    rw [← x1] at x3
    obtain ⟨X, hX⟩ : ∃ X, encC o s t a b c n = X := ⟨_, rfl⟩
    rw [hX] at x3
    have x4 := noEmpty x3
    have x5 := toList0 x3
    have HX := Lib.hid hX
    have HY := Lib.hid x2
    have Hm := Lib.hid hm
    cases hq : asksC o s t a b c n
    · have Hq := Lib.hid hq
      clear x1 x2 hq hm hX
      go_enter Try.func9, Try.ntmps9
      go_wp2_with fail
      rw [HW.out]
      go_wp2_with (first
        | (go_at_call 15; (with_reducible refine (HQ.out _).mono ?_); rintro e w4 ⟨rfl, h⟩; rw [Hq.out]; have B4 : Hid (Below W.heap.size W w4) := Lib.hid (B3.out.trans (h.mono B3.out.size)); clear h)
        | (go_at_call 13; (with_reducible refine (HM.out _).mono ?_); rintro e w3 ⟨rfl, h⟩; rw [Hm.out]; have B3 : Hid (Below W.heap.size W w3) := Lib.hid (B2.out.trans (h.mono B2.out.size)); clear h; obtain ⟨f0, f1, f2, f3, f4, f5, f6⟩ := HK.out _ B3.out)
        | (go_at_call 11; (with_reducible refine (HE.out _).mono ?_); rintro e w2 ⟨rfl, h⟩; rw [HX.out, HY.out]; have B2 : Hid (Below W.heap.size W w2) := Lib.hid (B1.out.trans (h.mono B1.out.size)); clear h; obtain ⟨e0, e1, e2, e3, e4, e5, e6⟩ := HK.out _ B2.out)
        | (go_at_call 10; (with_reducible refine (HAW.out _).mono ?_); rintro e w1 ⟨rfl, h⟩; have B1 : Hid (Below W.heap.size W w1) := Lib.hid h; clear h; obtain ⟨d0, d1, d2, d3, d4, d5, d6⟩ := HK.out _ B1.out))
      go_ret
      exact ⟨rfl, HB0.out.trans (B4.out.mono HB0.out.size)⟩
    · have Hq := Lib.hid hq
      obtain ⟨_, h1, h2, h3, h4, h5, h6, h7⟩ := asks_is hq
      clear x1 x2 hq hm hX
      subst h1 h2 h3 h4 h5
      have qe : ∀ V : World, (binOp .eql 23 (.agg #[.int .i64 0, .int .i64 0, .int .i64 0]) (.agg #[.int .i64 0, .int .i64 0, .int .i64 0])).run Try.prog V = .ok (.bool true) V := fun V => eq23v 0 0 0 0 0 0 V
      go_enter Try.func9, Try.ntmps9
      go_wp2_with fail
      rw [HW.out]
      go_wp2_with (first
        | (go_at_call 13; (with_reducible refine (HM.out _).mono ?_); rintro e w5 ⟨rfl, h⟩; rw [Hm.out]; have B5 : Hid (Below W.heap.size W w5) := Lib.hid (B4.out.trans (h.mono B4.out.size)); clear h; obtain ⟨h0, h1, h2, h3, h4, h5, h6⟩ := HK.out _ B5.out)
        | (go_at_call 15; (with_reducible refine (HQ.out _).mono ?_); rintro e w4 ⟨rfl, h⟩; rw [Hq.out]; have B4 : Hid (Below W.heap.size W w4) := Lib.hid (B3.out.trans (h.mono B3.out.size)); clear h; obtain ⟨g0, g1, g2, g3, g4, g5, g6⟩ := HK.out _ B4.out)
        | (go_at_call 13; (with_reducible refine (HM.out _).mono ?_); rintro e w3 ⟨rfl, h⟩; rw [Hm.out]; have B3 : Hid (Below W.heap.size W w3) := Lib.hid (B2.out.trans (h.mono B2.out.size)); clear h; obtain ⟨f0, f1, f2, f3, f4, f5, f6⟩ := HK.out _ B3.out)
        | (go_at_call 11; (with_reducible refine (HE.out _).mono ?_); rintro e w2 ⟨rfl, h⟩; rw [HX.out, HY.out]; have B2 : Hid (Below W.heap.size W w2) := Lib.hid (B1.out.trans (h.mono B1.out.size)); clear h; obtain ⟨e0, e1, e2, e3, e4, e5, e6⟩ := HK.out _ B2.out)
        | (go_at_call 10; (with_reducible refine (HAW.out _).mono ?_); rintro e w1 ⟨rfl, h⟩; have B1 : Hid (Below W.heap.size W w1) := Lib.hid h; clear h; obtain ⟨d0, d1, d2, d3, d4, d5, d6⟩ := HK.out _ B1.out))
      go_ret
      exact ⟨rfl, HB0.out.trans (B5.out.mono HB0.out.size)⟩
end Go.Proofs.Ytiedeneglhboiaa
