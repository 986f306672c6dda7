/-
  Orders: their data. Condition: the numbers are of 64 bits, the texts have at most 2^48 bytes.
-/
import Derived.Test.YtebacdegjmcnlaaOn
import Derived.Deep.RegionHeld3
namespace Go.Proofs.Ytebacdegjmcnlaa
set_option maxRecDepth 20000
open Go.RowKit Pl
set_option linter.unusedVariables false
theorem own_small (k n : Int) (s : ByteArray) (m : Nat) : own k n s m ≤ 10 + s.size := by
  have d8 : ∀ x, dgs x ≤ 8 := by intro x; unfold dgs; repeat' split
                                 all_goals omega
  have h1 := d8 (foldN n)
  have h2 := d8 s.size
  have h3 := d8 m
  unfold own
  split
  · omega
  · split <;> omega
theorem enc_n (n : Int) : (nIt n).enc.length ≤ 10 := by
  unfold nIt
  rw [enc_length (by simp [form, zero_size])]
  have := own_small 1 n ⟨#[]⟩ 0
  simp [zero_size] at this
  simpa [encs] using this
theorem enc_s (s : ByteArray) (h : s.size ≤ 281474976710656) : (sIt s).enc.length ≤ 10 + s.size := by
  unfold sIt
  rw [enc_length (by simp [form])]
  have := own_small 2 0 s 0
  simpa [encs] using this
theorem enc_l (l : List It) : (It.mk 3 0 ⟨#[]⟩ l).enc.length ≤ 10 + (encs l).length := by
  rw [enc_length (by simp [form, zero_size])]
  have := own_small 3 0 ⟨#[]⟩ l.length
  simp [zero_size] at this
  omega
theorem cIt_small {o : Int} {s t : ByteArray} {a b c n : Int} (h : mayC o s t a b c n = true) : (cIt o s t a b c n).enc.length ≤ 300 := by
  have hs : s.size ≤ 96 ∧ t.size ≤ 96 := by
    unfold mayC at h
    simp only [Bool.and_eq_true] at h
    obtain ⟨h1, h2⟩ := h
    have hs := may_len h1
    rw [size_data] at hs
    refine ⟨hs, ?_⟩
    have hz : t.size = 0 ∨ Nm.may t.data.toList = true := by
      unfold fitF at h2
      split at h2
      · simp only [Bool.and_eq_true, beq_iff_eq] at h2; exact .inl h2.1.1
      split at h2
      · simp only [Bool.and_eq_true, beq_iff_eq] at h2; exact .inl h2.1.1
      split at h2
      · simp only [Bool.and_eq_true, beq_iff_eq] at h2; exact .inl h2.1.1
      split at h2
      · simp at h2; exact .inr h2.1.2
      split at h2
      · simp at h2; exact .inr h2.1.2
      · cases h2
    rcases hz with hz | hz
    · omega
    · have := may_len hz
      rw [size_data] at this
      exact this
  have e1 := enc_l [nIt o, sIt s, sIt t, vIt a b c, nIt n]
  have e2 := enc_l [nIt a, nIt b, nIt c]
  have e3 := enc_n o; have e4 := enc_n n; have e5 := enc_n a; have e6 := enc_n b; have e7 := enc_n c
  have e8 := enc_s s (by omega); have e9 := enc_s t (by omega)
  change (vIt a b c).enc.length ≤ _ at e2
  change (cIt o s t a b c n).enc.length ≤ _ at e1
  simp only [encs, List.length_append, List.length_nil] at e1 e2
  omega
theorem str_size (l : List UInt8) : (Nm.str l).size = l.length := by simp [Nm.str, ByteArray.size]
theorem encC_small (o : Int) (s t : ByteArray) (a b c n : Int) : (encC o s t a b c n).size ≤ 300 := by
  unfold encC
  split
  · rename_i h
    rw [str_size]
    exact cIt_small h
  · simp [zero_size]
def oIt (k i q n : Int) (x : ByteArray) : It := .mk 3 0 ⟨#[]⟩ [nIt k, nIt i, nIt q, nIt n, sIt x]
theorem errOf_oIt (k i q n : Int) (x : ByteArray) (h : x.size ≤ 4096) : errOf (oIt k i q n x) = 0 := by
  refine errOf_of ?_ ?_ ?_ ?_
  · simp [oIt, nIt, sIt, It.cnt, cnts]
  · simp [oIt, nIt, sIt, It.dep, deps]
  · simp [oIt, nIt, sIt, It.long, longs]; omega
  · simp [oIt, nIt, sIt, It.good, goods, form, zero_size]
def encO (k i q n o : Int) (s t : ByteArray) (a b c m : Int) : ByteArray := if mayO k i q n o s t a b c m = true then (if k = 0 then ⟨#[]⟩ else Nm.str (oIt k i q n (encC o s t a b c m)).enc) else ⟨#[]⟩
def errO (k i q n o : Int) (s t : ByteArray) (a b c m : Int) : Int := if mayO k i q n o s t a b c m = true then 0 else 4
/-- five items in a new block -/
theorem oRow {w : World} {k i q n : Int} {x : ByteArray} (hk : InR k) (hi : InR i) (hq : InR q) (hn : InR n) (hx : x.size ≤ maxLen) :
    AreIts (w.alloc (.cells #[.int .i64 1, .int .i64 k, .string ⟨#[]⟩, .slice none 0 0, .int .i64 1, .int .i64 i, .string ⟨#[]⟩, .slice none 0 0, .int .i64 1, .int .i64 q, .string ⟨#[]⟩, .slice none 0 0, .int .i64 1, .int .i64 n, .string ⟨#[]⟩, .slice none 0 0, .int .i64 2, .int .i64 0, .string x, .slice none 0 0] 56))
      (· < (w.alloc (.cells #[.int .i64 1, .int .i64 k, .string ⟨#[]⟩, .slice none 0 0, .int .i64 1, .int .i64 i, .string ⟨#[]⟩, .slice none 0 0, .int .i64 1, .int .i64 q, .string ⟨#[]⟩, .slice none 0 0, .int .i64 1, .int .i64 n, .string ⟨#[]⟩, .slice none 0 0, .int .i64 2, .int .i64 0, .string x, .slice none 0 0] 56)).heap.size)
      [nIt k, nIt i, nIt q, nIt n, sIt x] (some ⟨w.heap.size, 0, none⟩) 0 := by
  refine are_row (us := mk1 k ++ (mk1 i ++ (mk1 q ++ (mk1 n ++ mk2 x)))) (t := 56) (by simp) ?_ (heap_alloc_new w _)
  exact ⟨_, _, _, _, _, rfl, isIt_nIt _ _ k hk, _, _, _, _, _, rfl, isIt_nIt _ _ i hi, _, _, _, _, _, rfl, isIt_nIt _ _ q hq, _, _, _, _, _, rfl, isIt_nIt _ _ n hn, _, _, _, _, _, rfl, isIt_sIt _ _ x hx, rfl⟩
set_option maxHeartbeats 2000000 in
theorem encodeO_any (k i q n o : Int) (s t : ByteArray) (a b c m : Int) (w : World) (hk : InR k) (hi : InR i) (hq : InR q) (hn : InR n) (ho : InR o) (hs : s.size ≤ 281474976710656) (ht : t.size ≤ 281474976710656) (ha : InR a) (hb : InR b) (hc : InR c) (hm : InR m) :
    Calls Try.prog 20 #[oV k i q n o s t a b c m] w (RetBelow (.tuple #[.string (encO k i q n o s t a b c m), .int .i64 (errO k i q n o s t a b c m)]) w) := by
  have HM := Lib.hid (fun W => mayO_any k i q n o s t a b c m W hs ht)
  have HC := Lib.hid (fun W => encodeC_any o s t a b c m W ho hs ht ha hb hc hm)
  have HB := Lib.hid ((Below.refl w.heap.size w).alloc (Nat.le_refl _) (.cells #[.int .i64 k, .int .i64 i, .int .i64 q, .int .i64 n, .int .i64 o, .string s, .string t, .int .i64 a, .int .i64 b, .int .i64 c, .int .i64 m] 43))
  have HR := Lib.hid (heap_alloc_new w (.cells #[.int .i64 k, .int .i64 i, .int .i64 q, .int .i64 n, .int .i64 o, .string s, .string t, .int .i64 a, .int .i64 b, .int .i64 c, .int .i64 m] 43))
  have HX := encC_small o s t a b c m
  have HI := Lib.hid (And.intro hk (And.intro hi (And.intro hq hn)))
  clear ho hs ht ha hb hc hm hk hi hq hn
  unfold oV at HM ⊢
  cases hm : mayO k i q n o s t a b c m with
  | false =>
    rw [show encO k i q n o s t a b c m = ⟨#[]⟩ by unfold encO; rw [hm]; rfl, show errO k i q n o s t a b c m = 4 by unfold errO; rw [hm]; rfl]
    go_enter Try.func20, Try.ntmps20
    go_wp2_with (go_at_call 25; (with_reducible refine (HM.out _).mono ?_); rintro e w1 ⟨rfl, hb1⟩; rw [hm]; have B1 := Lib.hid hb1; clear hb1)
    go_ret2
    exact ⟨rfl, HB.out.trans (B1.out.mono HB.out.size)⟩
  | true =>
    rw [show errO k i q n o s t a b c m = 0 by unfold errO; rw [hm]; rfl, show encO k i q n o s t a b c m = if k = 0 then ⟨#[]⟩ else Nm.str (oIt k i q n (encC o s t a b c m)).enc by unfold encO; rw [hm]; rfl]
    by_cases h0 : k = 0
    · have g0 : decide (k = 0) = true := decide_eq_true h0
      rw [if_pos h0]
      subst h0
      go_enter Try.func20, Try.ntmps20
      go_wp2_with (go_at_call 25; (with_reducible refine (HM.out _).mono ?_); rintro e w1 ⟨rfl, hb1⟩; rw [hm]; have B1 := Lib.hid hb1; obtain ⟨x0, x1, x2, x3, x4, x5, x6, x7, x8, x9, x10⟩ := row11 ((hb1.block w.heap.size (by simp)).trans HR.out); clear hb1)
      go_ret2
      exact ⟨rfl, HB.out.trans (B1.out.mono HB.out.size)⟩
    · have g0 : decide (k = 0) = false := decide_eq_false h0
      rw [if_neg h0]
      obtain ⟨x, hx⟩ : ∃ x, x = encC o s t a b c m := ⟨_, rfl⟩
      unfold EncCPost at HC
      rw [← hx] at HC HX
      rw [← hx]
      have HE : Hid (Nm.str (oIt k i q n x).enc = txt (.mk 3 0 ⟨#[]⟩ [nIt k, nIt i, nIt q, nIt n, sIt x]) ∧ (0 : Int) = errOf (.mk 3 0 ⟨#[]⟩ [nIt k, nIt i, nIt q, nIt n, sIt x])) := Lib.hid (by
        have := errOf_oIt k i q n x (by omega)
        change _ = txt (oIt k i q n x) ∧ _ = errOf (oIt k i q n x)
        simp [txt, this])
      have HLL : Hid ([nIt k, nIt i, nIt q, nIt n, sIt x].length ≤ maxLen) := Lib.hid (by simp [maxLen])
      have HL : Hid ((It.mk 3 0 ⟨#[]⟩ [nIt k, nIt i, nIt q, nIt n, sIt x]).enc.length ≤ 1099511627775) := Lib.hid (by change (oIt k i q n x).enc.length ≤ _; have := enc_small (errOf_oIt k i q n x (by omega)); omega)
      have Hx : Hid (x.size ≤ maxLen) := Lib.hid (by simp only [maxLen]; omega)
      clear hx HX
      generalize errC o s t a b c m = ec at *
      rw [HE.out.1]
      generalize hT : txt (.mk 3 0 ⟨#[]⟩ [nIt k, nIt i, nIt q, nIt n, sIt x]) = T at *
      have HT := Lib.hid hT
      clear hT
      go_enter Try.func20, Try.ntmps20
      go_wp2_with (first
        | (go_at_call 25; (with_reducible refine (HM.out _).mono ?_); rintro e w1 ⟨rfl, hb1⟩; rw [hm]; have B1 := Lib.hid hb1; have R1 := Lib.hid ((hb1.block w.heap.size (by simp)).trans HR.out); obtain ⟨x0, x1, x2, x3, x4, x5, x6, x7, x8, x9, x10⟩ := row11 R1.out; have S1 := Lib.hid hb1.size; clear hb1)
        | (go_at_call 26; (with_reducible refine (HC.out _).mono ?_); rintro e W ⟨rfl, hb2⟩; have B2 := Lib.hid (B1.out.trans (hb2.mono B1.out.size)); have R2 := Lib.hid ((hb2.block w.heap.size (by have := S1.out; simp at this; omega)).trans R1.out); have S2 := Lib.hid hb2.size; clear hb2))
      all_goals
        have HSW : Hid (w.heap.size < W.heap.size) := Lib.hid (by have := S1.out; have := S2.out; simp at *; omega)
        have HA7 := Lib.hid (fun V (h : Below W.heap.size W V) => row11 ((h.block w.heap.size HSW.out).trans R2.out))
        have E0 : Hid (Below W.heap.size W W.drew) := Lib.hid (Below.refl _ W).drew
        obtain ⟨e0, e1, e2, e3, _⟩ := HA7.out _ E0.out
        clear x0 x1 x2 x3 x4 x5 x6 x7 x8 x9 x10
        have HA4 : Hid (∀ V, Below W.heap.size W V → V.cell? ⟨w.heap.size, 0, none⟩ = some (.int .i64 k) ∧ V.cell? ⟨w.heap.size, 1, none⟩ = some (.int .i64 i) ∧ V.cell? ⟨w.heap.size, 2, none⟩ = some (.int .i64 q) ∧ V.cell? ⟨w.heap.size, 3, none⟩ = some (.int .i64 n)) := Lib.hid fun V h => ⟨(HA7.out V h).1, (HA7.out V h).2.1, (HA7.out V h).2.2.1, (HA7.out V h).2.2.2.1⟩
        clear HA7
        go_region_held3 (fun V => V.cell? ⟨w.heap.size, 0, none⟩ = some (.int .i64 k) ∧ V.cell? ⟨w.heap.size, 1, none⟩ = some (.int .i64 i) ∧ V.cell? ⟨w.heap.size, 2, none⟩ = some (.int .i64 q) ∧ V.cell? ⟨w.heap.size, 3, none⟩ = some (.int .i64 n))
          (first | exact HA4.out _ BX.out | exact HA4.out _ (BE.out.alloc BE.out.size _) | exact HA4.out _ BE.out | exact HA4.out _ BD.out | exact HA4.out _ BC.out | exact HA4.out _ BB.out | exact HA4.out _ BA.out | exact HA4.out _ E0.out)
          (first
            | (go_at_call 27; (with_reducible refine (encoding_any [nIt k, nIt i, nIt q, nIt n, sIt x] _ _ 5 _ rfl HLL.out (oRow HI.out.1 HI.out.2.1 HI.out.2.2.1 HI.out.2.2.2 Hx.out) HL.out).mono ?_); rintro e w5 ⟨rfl, b2⟩; have BX : Hid (Below W.heap.size W w5) := Lib.hid ((BE.out.alloc BE.out.size _).trans (b2.mono (Nat.le_trans BE.out.size (by simp)))); clear b2)
            | (go_at_call 29; (with_reducible refine (ctxt_any _ _).mono ?_); rintro e wE ⟨rfl, b2⟩; have BE : Hid (Below W.heap.size W wE) := Lib.hid (BD.out.trans (b2.mono BD.out.size)); clear b2; obtain ⟨fE0, fE1, fE2, fE3⟩ := HA4.out wE BE.out)
            | (go_at_call 28; (with_reducible refine (cnum_any _ _).mono ?_); rintro e wD ⟨rfl, b2⟩; have BD : Hid (Below W.heap.size W wD) := Lib.hid (BC.out.trans (b2.mono BC.out.size)); clear b2; obtain ⟨fD0, fD1, fD2, fD3⟩ := HA4.out wD BD.out)
            | (go_at_call 28; (with_reducible refine (cnum_any _ _).mono ?_); rintro e wC ⟨rfl, b2⟩; have BC : Hid (Below W.heap.size W wC) := Lib.hid (BB.out.trans (b2.mono BB.out.size)); clear b2; obtain ⟨fC0, fC1, fC2, fC3⟩ := HA4.out wC BC.out)
            | (go_at_call 28; (with_reducible refine (cnum_any _ _).mono ?_); rintro e wB ⟨rfl, b2⟩; have BB : Hid (Below W.heap.size W wB) := Lib.hid (BA.out.trans (b2.mono BA.out.size)); clear b2; obtain ⟨fB0, fB1, fB2, fB3⟩ := HA4.out wB BB.out)
            | (go_at_call 28; (with_reducible refine (cnum_any _ _).mono ?_); rintro e wA ⟨rfl, b2⟩; have BA : Hid (Below W.heap.size W wA) := Lib.hid (E0.out.trans b2); clear b2; obtain ⟨fA0, fA1, fA2, fA3⟩ := HA4.out wA BA.out))
        all_goals
          go_wp2_with fail
          go_ret2
          exact ⟨by rw [← HE.out.2, HT.out]; rfl, HB.out.trans ((B2.out.trans (BX.out.mono B2.out.size)).mono HB.out.size)⟩
end Go.Proofs.Ytebacdegjmcnlaa
