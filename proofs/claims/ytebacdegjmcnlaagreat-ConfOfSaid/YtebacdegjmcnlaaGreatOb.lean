/-
  Orders: their data. Condition: the numbers are of 64 bits, the texts have at most 2^48 bytes.
-/
import Derived.Test.YtebacdegjmcnlaaGreatOa
import Derived.Deep.RegionHeld3
import Derived.Test.YtebacdegjmcnlaaGreatXg
namespace Go.Proofs.YtebacdegjmcnlaaGreat
set_option maxRecDepth 20000
open Go.RowKit Pl
set_option linter.unusedVariables false
theorem own_small (k n : Int) (s : ByteArray) (m : Nat) : own k n s m ≤ 10 + s.size := by
  have d8 : ∀ x, dgs x ≤ 8 := by intro x; unfold dgs; repeat' split
                                 all_goals omega
  have h1 := d8 (foldN n)
  have h2 := d8 s.size
  have h3 := d8 m
  unfold own
  split
  · omega
  · split <;> omega
theorem enc_n (n : Int) : (nIt n).enc.length ≤ 10 := by
  unfold nIt
  rw [enc_length (by simp [form, zero_size])]
  have := own_small 1 n ⟨#[]⟩ 0
  simp [zero_size] at this
  simpa [encs] using this
theorem enc_s (s : ByteArray) (h : s.size ≤ 281474976710656) : (sIt s).enc.length ≤ 10 + s.size := by
  unfold sIt
  rw [enc_length (by simp [form])]
  have := own_small 2 0 s 0
  simpa [encs] using this
theorem enc_l (l : List It) : (It.mk 3 0 ⟨#[]⟩ l).enc.length ≤ 10 + (encs l).length := by
  rw [enc_length (by simp [form, zero_size])]
  have := own_small 3 0 ⟨#[]⟩ l.length
  simp [zero_size] at this
  omega
theorem cIt_small {o : Int} {s t : ByteArray} {a b c n : Int} (h : mayC o s t a b c n = true) : (cIt o s t a b c n).enc.length ≤ 300 := by
  have hs : s.size ≤ 96 ∧ t.size ≤ 96 := by
    unfold mayC at h
    simp only [Bool.and_eq_true] at h
    obtain ⟨h1, h2⟩ := h
    have hs := may_len h1
    rw [size_data] at hs
    refine ⟨hs, ?_⟩
    have hz : t.size = 0 ∨ Nm.may t.data.toList = true := by
      unfold fitF at h2
      split at h2
      · simp only [Bool.and_eq_true, beq_iff_eq] at h2; exact .inl h2.1.1
      split at h2
      · simp only [Bool.and_eq_true, beq_iff_eq] at h2; exact .inl h2.1.1
      split at h2
      · simp only [Bool.and_eq_true, beq_iff_eq] at h2; exact .inl h2.1.1
      split at h2
      · simp at h2; exact .inr h2.1.2
      split at h2
      · simp at h2; exact .inr h2.1.2
      · cases h2
    rcases hz with hz | hz
    · omega
    · have := may_len hz
      rw [size_data] at this
      exact this
  have e1 := enc_l [nIt o, sIt s, sIt t, vIt a b c, nIt n]
  have e2 := enc_l [nIt a, nIt b, nIt c]
  have e3 := enc_n o; have e4 := enc_n n; have e5 := enc_n a; have e6 := enc_n b; have e7 := enc_n c
  have e8 := enc_s s (by omega); have e9 := enc_s t (by omega)
  change (vIt a b c).enc.length ≤ _ at e2
  change (cIt o s t a b c n).enc.length ≤ _ at e1
  simp only [encs, List.length_append, List.length_nil] at e1 e2
  omega
theorem str_size (l : List UInt8) : (Nm.str l).size = l.length := by simp [Nm.str, ByteArray.size]
theorem encC_small (o : Int) (s t : ByteArray) (a b c n : Int) : (encC o s t a b c n).size ≤ 300 := by
  unfold encC
  split
  · rename_i h
    rw [str_size]
    exact cIt_small h
  · simp [zero_size]
def oIt (k i q n : Int) (x : ByteArray) : It := .mk 3 0 ⟨#[]⟩ [nIt k, nIt i, nIt q, nIt n, sIt x]
theorem errOf_oIt (k i q n : Int) (x : ByteArray) (h : x.size ≤ 4096) : errOf (oIt k i q n x) = 0 := by
  refine errOf_of ?_ ?_ ?_ ?_
  · simp [oIt, nIt, sIt, It.cnt, cnts]
  · simp [oIt, nIt, sIt, It.dep, deps]
  · simp [oIt, nIt, sIt, It.long, longs]; omega
  · simp [oIt, nIt, sIt, It.good, goods, form, zero_size]
def encO (k i q n o : Int) (s t : ByteArray) (a b c m : Int) : ByteArray := if mayO k i q n o s t a b c m = true then (if k = 0 then ⟨#[]⟩ else Nm.str (oIt k i q n (encC o s t a b c m)).enc) else ⟨#[]⟩
def errO (k i q n o : Int) (s t : ByteArray) (a b c m : Int) : Int := if mayO k i q n o s t a b c m = true then 0 else 4
/-- five items in a new block -/
theorem oRow {w : World} {k i q n : Int} {x : ByteArray} (hk : InR k) (hi : InR i) (hq : InR q) (hn : InR n) (hx : x.size ≤ maxLen) :
    AreIts (w.alloc (.cells #[.int .i64 1, .int .i64 k, .string ⟨#[]⟩, .slice none 0 0, .int .i64 1, .int .i64 i, .string ⟨#[]⟩, .slice none 0 0, .int .i64 1, .int .i64 q, .string ⟨#[]⟩, .slice none 0 0, .int .i64 1, .int .i64 n, .string ⟨#[]⟩, .slice none 0 0, .int .i64 2, .int .i64 0, .string x, .slice none 0 0] 50))
      (· < (w.alloc (.cells #[.int .i64 1, .int .i64 k, .string ⟨#[]⟩, .slice none 0 0, .int .i64 1, .int .i64 i, .string ⟨#[]⟩, .slice none 0 0, .int .i64 1, .int .i64 q, .string ⟨#[]⟩, .slice none 0 0, .int .i64 1, .int .i64 n, .string ⟨#[]⟩, .slice none 0 0, .int .i64 2, .int .i64 0, .string x, .slice none 0 0] 50)).heap.size)
      [nIt k, nIt i, nIt q, nIt n, sIt x] (some ⟨w.heap.size, 0, none⟩) 0 := by
  refine are_row (us := mk1 k ++ (mk1 i ++ (mk1 q ++ (mk1 n ++ mk2 x)))) (t := 50) (by simp) ?_ (heap_alloc_new w _)
  exact ⟨_, _, _, _, _, rfl, isIt_nIt _ _ k hk, _, _, _, _, _, rfl, isIt_nIt _ _ i hi, _, _, _, _, _, rfl, isIt_nIt _ _ q hq, _, _, _, _, _, rfl, isIt_nIt _ _ n hn, _, _, _, _, _, rfl, isIt_sIt _ _ x hx, rfl⟩
set_option maxHeartbeats 2000000 in
theorem encodeO_any (k i q n o : Int) (s t : ByteArray) (a b c m : Int) (w : World) (hk : InR k) (hi : InR i) (hq : InR q) (hn : InR n) (ho : InR o) (hs : s.size ≤ 281474976710656) (ht : t.size ≤ 281474976710656) (ha : InR a) (hb : InR b) (hc : InR c) (hm : InR m) :
    Calls Tryz.prog 7 #[oV k i q n o s t a b c m] w (RetBelow (.tuple #[.string (encO k i q n o s t a b c m), .int .i64 (errO k i q n o s t a b c m)]) w) := by
  have HM := Lib.hid (fun W => mayO_any k i q n o s t a b c m W hs ht)
  have HC := Lib.hid (fun W => encodeC_any o s t a b c m W ho hs ht ha hb hc hm)
  have HB := Lib.hid ((Below.refl w.heap.size w).alloc (Nat.le_refl _) (.cells #[.int .i64 k, .int .i64 i, .int .i64 q, .int .i64 n, .int .i64 o, .string s, .string t, .int .i64 a, .int .i64 b, .int .i64 c, .int .i64 m] 34))
  have HR := Lib.hid (heap_alloc_new w (.cells #[.int .i64 k, .int .i64 i, .int .i64 q, .int .i64 n, .int .i64 o, .string s, .string t, .int .i64 a, .int .i64 b, .int .i64 c, .int .i64 m] 34))
  have HX := encC_small o s t a b c m
  have HI := Lib.hid (And.intro hk (And.intro hi (And.intro hq hn)))
  clear ho hs ht ha hb hc hm hk hi hq hn
  unfold oV at HM ⊢
  cases hm : mayO k i q n o s t a b c m with
  | false =>
    rw [show encO k i q n o s t a b c m = ⟨#[]⟩ by unfold encO; rw [hm]; rfl, show errO k i q n o s t a b c m = 4 by unfold errO; rw [hm]; rfl]
    go_enter Tryz.func7, Tryz.ntmps7
    go_wp2_with (go_at_call 15; (with_reducible refine (HM.out _).mono ?_); rintro e w1 ⟨rfl, hb1⟩; rw [hm]; have B1 := Lib.hid hb1; clear hb1)
    go_ret2
    exact ⟨rfl, HB.out.trans (B1.out.mono HB.out.size)⟩
  | true =>
    rw [show errO k i q n o s t a b c m = 0 by unfold errO; rw [hm]; rfl, show encO k i q n o s t a b c m = if k = 0 then ⟨#[]⟩ else Nm.str (oIt k i q n (encC o s t a b c m)).enc by unfold encO; rw [hm]; rfl]
    by_cases h0 : k = 0
    · have g0 : decide (k = 0) = true := decide_eq_true h0
      rw [if_pos h0]
      subst h0
      go_enter Tryz.func7, Tryz.ntmps7
      go_wp2_with (go_at_call 15; (with_reducible refine (HM.out _).mono ?_); rintro e w1 ⟨rfl, hb1⟩; rw [hm]; have B1 := Lib.hid hb1; obtain ⟨x0, x1, x2, x3, x4, x5, x6, x7, x8, x9, x10⟩ := row11 ((hb1.block w.heap.size (by simp)).trans HR.out); clear hb1)
      go_ret2
      exact ⟨rfl, HB.out.trans (B1.out.mono HB.out.size)⟩
    · have g0 : decide (k = 0) = false := decide_eq_false h0
      rw [if_neg h0]
      obtain ⟨x, hx⟩ : ∃ x, x = encC o s t a b c m := ⟨_, rfl⟩
      unfold EncCPost at HC
      rw [← hx] at HC HX
      rw [← hx]
      have HE : Hid (Nm.str (oIt k i q n x).enc = txt (.mk 3 0 ⟨#[]⟩ [nIt k, nIt i, nIt q, nIt n, sIt x]) ∧ (0 : Int) = errOf (.mk 3 0 ⟨#[]⟩ [nIt k, nIt i, nIt q, nIt n, sIt x])) := Lib.hid (by
        have := errOf_oIt k i q n x (by omega)
        change _ = txt (oIt k i q n x) ∧ _ = errOf (oIt k i q n x)
        simp [txt, this])
      have HLL : Hid ([nIt k, nIt i, nIt q, nIt n, sIt x].length ≤ maxLen) := Lib.hid (by simp [maxLen])
      have HL : Hid ((It.mk 3 0 ⟨#[]⟩ [nIt k, nIt i, nIt q, nIt n, sIt x]).enc.length ≤ 1099511627775) := Lib.hid (by change (oIt k i q n x).enc.length ≤ _; have := enc_small (errOf_oIt k i q n x (by omega)); omega)
      have Hx : Hid (x.size ≤ maxLen) := Lib.hid (by simp only [maxLen]; omega)
      clear hx HX
      generalize errC o s t a b c m = ec at *
      rw [HE.out.1]
      generalize hT : txt (.mk 3 0 ⟨#[]⟩ [nIt k, nIt i, nIt q, nIt n, sIt x]) = T at *
      have HT := Lib.hid hT
      clear hT
      go_enter Tryz.func7, Tryz.ntmps7
      go_wp2_with (first
        | (go_at_call 15; (with_reducible refine (HM.out _).mono ?_); rintro e w1 ⟨rfl, hb1⟩; rw [hm]; have B1 := Lib.hid hb1; have R1 := Lib.hid ((hb1.block w.heap.size (by simp)).trans HR.out); obtain ⟨x0, x1, x2, x3, x4, x5, x6, x7, x8, x9, x10⟩ := row11 R1.out; have S1 := Lib.hid hb1.size; clear hb1)
        | (go_at_call 16; (with_reducible refine (HC.out _).mono ?_); rintro e W ⟨rfl, hb2⟩; have B2 := Lib.hid (B1.out.trans (hb2.mono B1.out.size)); have R2 := Lib.hid ((hb2.block w.heap.size (by have := S1.out; simp at this; omega)).trans R1.out); have S2 := Lib.hid hb2.size; clear hb2))
      all_goals
        have HSW : Hid (w.heap.size < W.heap.size) := Lib.hid (by have := S1.out; have := S2.out; simp at *; omega)
        have HA7 := Lib.hid (fun V (h : Below W.heap.size W V) => row11 ((h.block w.heap.size HSW.out).trans R2.out))
        have E0 : Hid (Below W.heap.size W W.drew) := Lib.hid (Below.refl _ W).drew
        obtain ⟨e0, e1, e2, e3, _⟩ := HA7.out _ E0.out
        clear x0 x1 x2 x3 x4 x5 x6 x7 x8 x9 x10
        have HA4 : Hid (∀ V, Below W.heap.size W V → V.cell? ⟨w.heap.size, 0, none⟩ = some (.int .i64 k) ∧ V.cell? ⟨w.heap.size, 1, none⟩ = some (.int .i64 i) ∧ V.cell? ⟨w.heap.size, 2, none⟩ = some (.int .i64 q) ∧ V.cell? ⟨w.heap.size, 3, none⟩ = some (.int .i64 n)) := Lib.hid fun V h => ⟨(HA7.out V h).1, (HA7.out V h).2.1, (HA7.out V h).2.2.1, (HA7.out V h).2.2.2.1⟩
        clear HA7
        go_region_held3 (fun V => V.cell? ⟨w.heap.size, 0, none⟩ = some (.int .i64 k) ∧ V.cell? ⟨w.heap.size, 1, none⟩ = some (.int .i64 i) ∧ V.cell? ⟨w.heap.size, 2, none⟩ = some (.int .i64 q) ∧ V.cell? ⟨w.heap.size, 3, none⟩ = some (.int .i64 n))
          (first | exact HA4.out _ BX.out | exact HA4.out _ (BE.out.alloc BE.out.size _) | exact HA4.out _ BE.out | exact HA4.out _ BD.out | exact HA4.out _ BC.out | exact HA4.out _ BB.out | exact HA4.out _ BA.out | exact HA4.out _ E0.out)
          (first
            | (go_at_call 17; (with_reducible refine (encoding_any [nIt k, nIt i, nIt q, nIt n, sIt x] _ _ 5 _ rfl HLL.out (oRow HI.out.1 HI.out.2.1 HI.out.2.2.1 HI.out.2.2.2 Hx.out) HL.out).mono ?_); rintro e w5 ⟨rfl, b2⟩; have BX : Hid (Below W.heap.size W w5) := Lib.hid ((BE.out.alloc BE.out.size _).trans (b2.mono (Nat.le_trans BE.out.size (by simp)))); clear b2)
            | (go_at_call 19; (with_reducible refine (ctxt_any _ _).mono ?_); rintro e wE ⟨rfl, b2⟩; have BE : Hid (Below W.heap.size W wE) := Lib.hid (BD.out.trans (b2.mono BD.out.size)); clear b2; obtain ⟨fE0, fE1, fE2, fE3⟩ := HA4.out wE BE.out)
            | (go_at_call 18; (with_reducible refine (cnum_any _ _).mono ?_); rintro e wD ⟨rfl, b2⟩; have BD : Hid (Below W.heap.size W wD) := Lib.hid (BC.out.trans (b2.mono BC.out.size)); clear b2; obtain ⟨fD0, fD1, fD2, fD3⟩ := HA4.out wD BD.out)
            | (go_at_call 18; (with_reducible refine (cnum_any _ _).mono ?_); rintro e wC ⟨rfl, b2⟩; have BC : Hid (Below W.heap.size W wC) := Lib.hid (BB.out.trans (b2.mono BB.out.size)); clear b2; obtain ⟨fC0, fC1, fC2, fC3⟩ := HA4.out wC BC.out)
            | (go_at_call 18; (with_reducible refine (cnum_any _ _).mono ?_); rintro e wB ⟨rfl, b2⟩; have BB : Hid (Below W.heap.size W wB) := Lib.hid (BA.out.trans (b2.mono BA.out.size)); clear b2; obtain ⟨fB0, fB1, fB2, fB3⟩ := HA4.out wB BB.out)
            | (go_at_call 18; (with_reducible refine (cnum_any _ _).mono ?_); rintro e wA ⟨rfl, b2⟩; have BA : Hid (Below W.heap.size W wA) := Lib.hid (E0.out.trans b2); clear b2; obtain ⟨fA0, fA1, fA2, fA3⟩ := HA4.out wA BA.out))
        all_goals
          go_wp2_with fail
          go_ret2
          exact ⟨by rw [← HE.out.2, HT.out]; rfl, HB.out.trans ((B2.out.trans (BX.out.mono B2.out.size)).mono HB.out.size)⟩
end Go.Proofs.YtebacdegjmcnlaaGreat
/-
  Orders: which one any data tells. Condition: the data has at most 2^48 bytes.
-/
namespace Go.Proofs.YtebacdegjmcnlaaGreat
set_option maxRecDepth 20000
open Go.RowKit Pl
set_option linter.unusedVariables false
/-- the item that bytes are, or the zero one -/
def ItemZ (l : List UInt8) (w : World) (e : Ending) (w' : World) : Prop := Below w.heap.size w w' ∧ ∃ v, e = .returned v ∧ IsIt w' (NewB w w') ((dec l).getD zI) v
set_option maxHeartbeats 1000000 in
theorem itemZ_any (l : List UInt8) (w : World) (hs : l.length ≤ 281474976710656) : Calls Tryz.prog 34 #[.string (Nm.str l)] w (ItemZ l w) := by
  have hsz : (Nm.str l).size = l.length := Nm.str_size l
  have hcv : ∀ W : World, (convert 9 58 (.string (Nm.str l))).run Tryz.prog W = .ok (.slice (some ⟨W.heap.size, 0, none⟩) l.length (grownCap W (Nm.str l).size 0 5)) (W.drew.alloc (.cells (bytesRow (Nm.str l) (grownCap W (Nm.str l).size 0 5)) 5 ((bytesRow (Nm.str l) (grownCap W (Nm.str l).size 0 5)).size, (bytesRow (Nm.str l) (grownCap W (Nm.str l).size 0 5)).size + 1))) := fun W => by
    have := run_bytes_of_string (P := Tryz.prog) W 9 58 5 (Nm.str l) Tryz.underlying9 Tryz.underlying58 Tryz.underlying5
    rw [hsz] at this
    rw [hsz]
    exact this
  obtain ⟨C, hC⟩ : ∃ C, C = grownCap (w.alloc (.cells zeroItem 50)) (Nm.str l).size 0 5 := ⟨_, rfl⟩
  have h7 := hcv (w.alloc (.cells zeroItem 50))
  rw [← hC] at h7
  have hg := RowAt.new (w.alloc (.cells zeroItem 50)) l C
  have hCge : l.length ≤ C := by rw [hC, ← hsz]; exact grownCap_ge _ _ _ _
  have hCle : C ≤ 9223372036854775807 := by have := grownCap_le_maxLen (w.alloc (.cells zeroItem 50)) (Nm.str l).size 0 5 (by rw [hsz]; simp only [maxLen]; omega); rw [hC]; simpa [maxLen] using this
  obtain ⟨W, hW⟩ : ∃ W, W = (w.alloc (.cells zeroItem 50)).drew.alloc (.cells (bytesRow (Nm.str l) C) 5 ((bytesRow (Nm.str l) C).size, (bytesRow (Nm.str l) C).size + 1)) := ⟨_, rfl⟩
  rw [← hW] at h7 hg
  have hB0 : Below w.heap.size w (w.alloc (.cells zeroItem 50)) := (Below.refl _ _).alloc (Nat.le_refl _) _
  have hB : Below w.heap.size w W := by rw [hW]; exact hB0.drew.alloc (by simp) _
  have hR : W.heap[w.heap.size]? = some (.cells zeroItem 50 (0, 0)) := by rw [hW]; exact (Below.heap_alloc _ _ _ (by simp)).trans (heap_alloc_new w _)
  have hsW : W.heap.size = w.heap.size + 2 := by rw [hW]; simp
  have h0s : (w.alloc (.cells zeroItem 50)).heap.size = w.heap.size + 1 := by simp
  rw [h0s] at h7 hg
  have HG := Lib.hid hg
  have HB := Lib.hid hB
  have HR := Lib.hid hR
  have HS := Lib.hid hsW
  have HL := Lib.hid hCge
  have HM := Lib.hid hCle
  clear hcv hC hg hCge hCle hW hB0 hB hR hsW h0s
  unfold zeroItem at h7
  generalize hn : l.length = n at *
  have HN := Lib.hid hn
  clear hn hs hsz
  obtain ⟨T, hT⟩ : ∃ T, T = (dec l).getD zI := ⟨_, rfl⟩
  have HD : Hid (Calls Tryz.prog 60 #[.slice (some ⟨w.heap.size + 1, 0, none⟩) n C] W fun e w' => Below W.heap.size W w' ∧ ∃ (k m : Int) (s : ByteArray) (A : Option Addr) (tl : List It) (c : Nat) (en : Int), e = .returned (.tuple #[.agg #[.int .i64 k, .int .i64 m, .string s, .slice A tl.length c], .int .i64 en]) ∧ IsIt w' (NewB W w') T (.agg #[.int .i64 k, .int .i64 m, .string s, .slice A tl.length c])) := Lib.hid ((decode_any l _ n C W (HG.out.bytes (by have := HS.out; omega)) HN.out HL.out HM.out).mono (by
    rintro e w1 ⟨hb1, hyes, hno⟩
    refine ⟨hb1, ?_⟩
    cases hd : dec l with
    | none =>
      rw [hd] at hT
      obtain rfl := hno hd
      exact ⟨0, 0, ⟨#[]⟩, none, [], 0, 4, rfl, by rw [hT]; exact isIt_zero w1 _⟩
    | some t =>
      rw [hd] at hT
      obtain ⟨v, rfl, hv⟩ := hyes t hd
      obtain ⟨k, m, s, tl⟩ := t
      have hv2 := hv
      rw [IsIt] at hv
      obtain ⟨A, c, rfl, _⟩ := hv
      exact ⟨k, m, s, A, tl, c, 0, rfl, by rw [hT]; exact hv2⟩))
  have HT : Hid (T = (dec l).getD zI) := Lib.hid hT
  clear hT
  go_enter Tryz.func34, Tryz.ntmps34
  go_wp2_with (go_at_call 60; (with_reducible refine HD.out.mono ?_); rintro e w1 ⟨hb1, k, m, s, A, tl, c, en, rfl, hv⟩; have B1 := Lib.hid hb1; have HV := Lib.hid hv; have R1 := Lib.hid ((hb1.block w.heap.size (by have := HS.out; omega)).trans HR.out); clear hb1 hv; have hq := row4 (w := (w1.alloc (.cells #[.int .i64 k, .int .i64 m, .string s, .slice A tl.length c] 50))) (b := w.heap.size) (a0 := .int .i64 0) (a1 := .int .i64 0) (a2 := .string ⟨#[]⟩) (a3 := .slice none 0 0) (t := 50) ((Below.heap_alloc _ _ _ (Nat.lt_of_lt_of_le (by have := HS.out; omega) B1.out.size)).trans R1.out); obtain ⟨j0, j1, j2, j3, k0, k1, k2, k3⟩ := hq)
  all_goals
    have hs := HS.out
    have h1 := B1.out.size
    have RA : (w1.alloc (.cells #[.int .i64 k, .int .i64 m, .string s, .slice A tl.length c] 50)).heap[w.heap.size]? = some (.cells #[.int .i64 0, .int .i64 0, .string ⟨#[]⟩, .slice none 0 0] 50 (0, 0)) := (Below.heap_alloc _ _ _ (by omega)).trans R1.out
    have W4 := w4_row _ w.heap.size (.int .i64 k) (.int .i64 m) (.string s) (.slice A tl.length c) _ _ _ _ 50 RA
    have WF := w4_far (w1.alloc (.cells #[.int .i64 k, .int .i64 m, .string s, .slice A tl.length c] 50)) w.heap.size (.int .i64 k) (.int .i64 m) (.string s) (.slice A tl.length c)
    have WS := w4_size (w1.alloc (.cells #[.int .i64 k, .int .i64 m, .string s, .slice A tl.length c] 50)) w.heap.size (.int .i64 k) (.int .i64 m) (.string s) (.slice A tl.length c)
    have WB := w4_below (w1.alloc (.cells #[.int .i64 k, .int .i64 m, .string s, .slice A tl.length c] 50)) w.heap.size w.heap.size (.int .i64 k) (.int .i64 m) (.string s) (.slice A tl.length c) (Nat.le_refl _)
    change bodyPost Tryz.prog Tryz.f34 (ItemZ l w) Exit.ret _ (w4 (w1.alloc (.cells #[.int .i64 k, .int .i64 m, .string s, .slice A tl.length c] 50)) w.heap.size (.int .i64 k) (.int .i64 m) (.string s) (.slice A tl.length c))
    generalize w4 (w1.alloc (.cells #[.int .i64 k, .int .i64 m, .string s, .slice A tl.length c] 50)) w.heap.size (.int .i64 k) (.int .i64 m) (.string s) (.slice A tl.length c) = V at *
    obtain ⟨m0, m1, m2, m3, _⟩ := row4 W4
    have hbV : Below w.heap.size w V := (HB.out.trans ((B1.out.alloc h1 _).mono (by omega))).trans WB
    rw [World.size_alloc] at WS
    refine bodyPost_ret (v := .agg #[.int .i64 k, .int .i64 m, .string s, .slice A tl.length c]) (by simp [results, Tryz.results34, go_sem, m0, m1, m2, m3]) rfl ⟨hbV, _, rfl, ?_⟩
    rw [← HT.out]
    refine IsIt.mono (fun q hq => ?_) _ (IsIt.keep (fun q hq => ?_) _ HV.out)
    · have a1 := hq.1
      have a2 := hq.2
      exact ⟨by omega, by omega⟩
    · have a1 := hq.1
      have a2 := hq.2
      exact (WF q (by omega)).trans (Below.heap_alloc _ _ q a2)
end Go.Proofs.YtebacdegjmcnlaaGreat
/-
  Orders: what any data says. Condition: the data has at most 2^48 bytes.
-/
namespace Go.Proofs.YtebacdegjmcnlaaGreat
set_option maxRecDepth 20000
open Go.RowKit Pl
set_option linter.unusedVariables false
def wr11 (w : World) (R : Nat) (a0 a1 a2 a3 a4 a5 a6 a7 a8 a9 a10 : Value) : World := (((((((((((w.setCell ⟨R, 0, none⟩ a0).setCell ⟨R, 1, none⟩ a1).setCell ⟨R, 2, none⟩ a2).setCell ⟨R, 3, none⟩ a3).setCell ⟨R, 4, none⟩ a4).setCell ⟨R, 5, none⟩ a5).setCell ⟨R, 6, none⟩ a6).setCell ⟨R, 7, none⟩ a7).setCell ⟨R, 8, none⟩ a8).setCell ⟨R, 9, none⟩ a9).setCell ⟨R, 10, none⟩ a10)
theorem wr11_row {w : World} {R : Nat} {a0 a1 a2 a3 a4 a5 a6 a7 a8 a9 a10 y0 y1 y2 y3 y4 y5 y6 y7 y8 y9 y10 : Value} {t : TypeId} (h : w.heap[R]? = some (.cells #[y0, y1, y2, y3, y4, y5, y6, y7, y8, y9, y10] t (0, 0))) : (wr11 w R a0 a1 a2 a3 a4 a5 a6 a7 a8 a9 a10).heap[R]? = some (.cells #[a0, a1, a2, a3, a4, a5, a6, a7, a8, a9, a10] t (0, 0)) := by
  have h0 := heap_set _ R 0 a0 _ _ h
  have h1 := heap_set _ R 1 a1 _ _ h0
  have h2 := heap_set _ R 2 a2 _ _ h1
  have h3 := heap_set _ R 3 a3 _ _ h2
  have h4 := heap_set _ R 4 a4 _ _ h3
  have h5 := heap_set _ R 5 a5 _ _ h4
  have h6 := heap_set _ R 6 a6 _ _ h5
  have h7 := heap_set _ R 7 a7 _ _ h6
  have h8 := heap_set _ R 8 a8 _ _ h7
  have h9 := heap_set _ R 9 a9 _ _ h8
  have h10 := heap_set _ R 10 a10 _ _ h9
  unfold wr11
  simpa only [List.setIfInBounds_toArray, List.set_cons_zero, List.set_cons_succ] using h10
theorem wr11_below {w0 w : World} {B R : Nat} {a0 a1 a2 a3 a4 a5 a6 a7 a8 a9 a10 : Value} (h : Below B w0 w) (hR : B ≤ R) : Below B w0 (wr11 w R a0 a1 a2 a3 a4 a5 a6 a7 a8 a9 a10) := by
  have h0 := h.setCell (p := ⟨R, 0, none⟩) hR a0
  have h1 := h0.setCell (p := ⟨R, 1, none⟩) hR a1
  have h2 := h1.setCell (p := ⟨R, 2, none⟩) hR a2
  have h3 := h2.setCell (p := ⟨R, 3, none⟩) hR a3
  have h4 := h3.setCell (p := ⟨R, 4, none⟩) hR a4
  have h5 := h4.setCell (p := ⟨R, 5, none⟩) hR a5
  have h6 := h5.setCell (p := ⟨R, 6, none⟩) hR a6
  have h7 := h6.setCell (p := ⟨R, 7, none⟩) hR a7
  have h8 := h7.setCell (p := ⟨R, 8, none⟩) hR a8
  have h9 := h8.setCell (p := ⟨R, 9, none⟩) hR a9
  have h10 := h9.setCell (p := ⟨R, 10, none⟩) hR a10
  exact h10
theorem row11f {w : World} {b : Nat} {a0 a1 a2 a3 a4 a5 a6 a7 a8 a9 a10 : Value} {t : TypeId} (h : w.heap[b]? = some (.cells #[a0, a1, a2, a3, a4, a5, a6, a7, a8, a9, a10] t (0, 0))) :
    w.cell? ⟨b, 0, none⟩ = some a0 ∧ w.cell? ⟨b, 1, none⟩ = some a1 ∧ w.cell? ⟨b, 2, none⟩ = some a2 ∧ w.cell? ⟨b, 3, none⟩ = some a3 ∧ w.cell? ⟨b, 4, none⟩ = some a4 ∧ w.cell? ⟨b, 5, none⟩ = some a5 ∧ w.cell? ⟨b, 6, none⟩ = some a6 ∧ w.cell? ⟨b, 7, none⟩ = some a7 ∧ w.cell? ⟨b, 8, none⟩ = some a8 ∧ w.cell? ⟨b, 9, none⟩ = some a9 ∧ w.cell? ⟨b, 10, none⟩ = some a10 ∧ w.frozen? ⟨b, 0, none⟩ = false ∧ w.frozen? ⟨b, 1, none⟩ = false ∧ w.frozen? ⟨b, 2, none⟩ = false ∧ w.frozen? ⟨b, 3, none⟩ = false ∧ w.frozen? ⟨b, 4, none⟩ = false ∧ w.frozen? ⟨b, 5, none⟩ = false ∧ w.frozen? ⟨b, 6, none⟩ = false ∧ w.frozen? ⟨b, 7, none⟩ = false ∧ w.frozen? ⟨b, 8, none⟩ = false ∧ w.frozen? ⟨b, 9, none⟩ = false ∧ w.frozen? ⟨b, 10, none⟩ = false := by
  refine ⟨?_, ?_, ?_, ?_, ?_, ?_, ?_, ?_, ?_, ?_, ?_, ?_, ?_, ?_, ?_, ?_, ?_, ?_, ?_, ?_, ?_, ?_⟩
  all_goals first | exact Lib.frozen_of_heap h _ | (rw [Lib.cell_of_heap h]; rfl)
theorem len14 {x : List Value} (h : x.length = 14) : ∃ z0 z1 z2 z3 z4 z5 z6 z7 z8 z9 z10 z11 z12 z13, x = [z0, z1, z2, z3, z4, z5, z6, z7, z8, z9, z10, z11, z12, z13] := by
  obtain ⟨z0, x0, e0, h0⟩ := cons_of h
  obtain ⟨z1, x1, e1, h1⟩ := cons_of h0
  obtain ⟨z2, x2, e2, h2⟩ := cons_of h1
  obtain ⟨z3, x3, e3, h3⟩ := cons_of h2
  obtain ⟨z4, x4, e4, h4⟩ := cons_of h3
  obtain ⟨z5, x5, e5, h5⟩ := cons_of h4
  obtain ⟨z6, x6, e6, h6⟩ := cons_of h5
  obtain ⟨z7, x7, e7, h7⟩ := cons_of h6
  obtain ⟨z8, x8, e8, h8⟩ := cons_of h7
  obtain ⟨z9, x9, e9, h9⟩ := cons_of h8
  obtain ⟨z10, x10, e10, h10⟩ := cons_of h9
  obtain ⟨z11, x11, e11, h11⟩ := cons_of h10
  obtain ⟨z12, x12, e12, h12⟩ := cons_of h11
  obtain ⟨z13, x13, e13, h13⟩ := cons_of h12
  exact ⟨z0, z1, z2, z3, z4, z5, z6, z7, z8, z9, z10, z11, z12, z13, by rw [e0, e1, e2, e3, e4, e5, e6, e7, e8, e9, e10, e11, e12, e13, nil_of h13]⟩
/-- an item and its five parts, for whoever asks -/
def ItQ (w : World) (N0 N1 N2 N3 : Int) (D4 : ByteArray) (e : Ending) (w1 : World) : Prop :=
  Below w.heap.size w w1 ∧ ∃ (kk nn : Int) (ss : ByteArray) (AA : Option Addr) (mm cc : Nat), e = .returned (.agg #[.int .i64 kk, .int .i64 nn, .string ss, .slice AA mm cc]) ∧
    (∃ (k0 : Int) (s0 : ByteArray) (A0 : Option Addr) (m0 c0 : Nat), ∀ X, Below w1.heap.size w1 X → Calls Tryz.prog 36 #[.agg #[.int .i64 kk, .int .i64 nn, .string ss, .slice AA mm cc], .int .i64 0] X (RetBelow (.agg #[.int .i64 k0, .int .i64 N0, .string s0, .slice A0 m0 c0]) X)) ∧
    (∃ (k1 : Int) (s1 : ByteArray) (A1 : Option Addr) (m1 c1 : Nat), ∀ X, Below w1.heap.size w1 X → Calls Tryz.prog 36 #[.agg #[.int .i64 kk, .int .i64 nn, .string ss, .slice AA mm cc], .int .i64 1] X (RetBelow (.agg #[.int .i64 k1, .int .i64 N1, .string s1, .slice A1 m1 c1]) X)) ∧
    (∃ (k2 : Int) (s2 : ByteArray) (A2 : Option Addr) (m2 c2 : Nat), ∀ X, Below w1.heap.size w1 X → Calls Tryz.prog 36 #[.agg #[.int .i64 kk, .int .i64 nn, .string ss, .slice AA mm cc], .int .i64 2] X (RetBelow (.agg #[.int .i64 k2, .int .i64 N2, .string s2, .slice A2 m2 c2]) X)) ∧
    (∃ (k3 : Int) (s3 : ByteArray) (A3 : Option Addr) (m3 c3 : Nat), ∀ X, Below w1.heap.size w1 X → Calls Tryz.prog 36 #[.agg #[.int .i64 kk, .int .i64 nn, .string ss, .slice AA mm cc], .int .i64 3] X (RetBelow (.agg #[.int .i64 k3, .int .i64 N3, .string s3, .slice A3 m3 c3]) X)) ∧
    (∃ (k4 n4 : Int) (A4 : Option Addr) (m4 c4 : Nat), ∀ X, Below w1.heap.size w1 X → Calls Tryz.prog 36 #[.agg #[.int .i64 kk, .int .i64 nn, .string ss, .slice AA mm cc], .int .i64 4] X (RetBelow (.agg #[.int .i64 k4, .int .i64 n4, .string D4, .slice A4 m4 c4]) X))
set_option maxHeartbeats 8000000 in
theorem read_core (D D4 : ByteArray) (N0 N1 N2 N3 : Int) (o : Int) (s t : ByteArray) (a b c m : Int) (en : Int) (w : World)
    (HZ : Hid (∀ X, Calls Tryz.prog 34 #[.string D] X (ItQ X N0 N1 N2 N3 D4)))
    (HUP : Hid (∀ X, Calls Tryz.prog 35 #[.string D4] X fun e Y => e = .returned (.tuple #[.agg #[.int .i64 o, .string s, .string t, .int .i64 a, .int .i64 b, .int .i64 c, .int .i64 m], .int .i64 en]) ∧ Below X.heap.size X Y)) :
    Calls Tryz.prog 22 #[.string D] w (RetBelow (.agg #[.int .i64 N0, .int .i64 N1, .int .i64 N2, .int .i64 N3, .int .i64 o, .string s, .string t, .int .i64 a, .int .i64 b, .int .i64 c, .int .i64 m]) w) := by
  have HBD : Hid (∀ W : World, (Instr.build 34 #[(0, .int .i64 N0), (1, .int .i64 N1), (2, .int .i64 N2), (3, .int .i64 N3), (4, .agg #[.int .i64 o, .string s, .string t, .int .i64 a, .int .i64 b, .int .i64 c, .int .i64 m])]).run Tryz.prog W = .ok (.agg #[.int .i64 N0, .int .i64 N1, .int .i64 N2, .int .i64 N3, .int .i64 o, .string s, .string t, .int .i64 a, .int .i64 b, .int .i64 c, .int .i64 m]) W) := Lib.hid fun W => run_build W 34 _ _ (by kernel_rfl)
  have HB0 := Lib.hid ((Below.refl w.heap.size w).alloc (Nat.le_refl _) (.cells #[.int .i64 0, .int .i64 0, .int .i64 0, .int .i64 0, .int .i64 0, .string ⟨#[]⟩, .string ⟨#[]⟩, .int .i64 0, .int .i64 0, .int .i64 0, .int .i64 0] 34))
  have HR0 := Lib.hid (heap_alloc_new w (.cells #[.int .i64 0, .int .i64 0, .int .i64 0, .int .i64 0, .int .i64 0, .string ⟨#[]⟩, .string ⟨#[]⟩, .int .i64 0, .int .i64 0, .int .i64 0, .int .i64 0] 34))
  have HS0 : Hid ((w.alloc (.cells #[.int .i64 0, .int .i64 0, .int .i64 0, .int .i64 0, .int .i64 0, .string ⟨#[]⟩, .string ⟨#[]⟩, .int .i64 0, .int .i64 0, .int .i64 0, .int .i64 0] 34)).heap.size = w.heap.size + 1) := Lib.hid (by simp)
  have hfd := fld2
  go_enter Tryz.func22, Tryz.ntmps22
  go_wp2_with (first
    | (go_at_call 34; (with_reducible refine (HZ.out _).mono ?_); rintro e w1 ⟨hb1, kk, nn, ss, AA, mm, cc, rfl, ⟨k0, s0, A0, m0, c0, hq0⟩, ⟨k1, s1, A1, m1, c1, hq1⟩, ⟨k2, s2, A2, m2, c2, hq2⟩, ⟨k3, s3, A3, m3, c3, hq3⟩, ⟨k4, n4, A4, m4, c4, hq4⟩⟩
       have HB1 := Lib.hid (HB0.out.trans (hb1.mono HB0.out.size))
       have HR1 := Lib.hid ((hb1.block w.heap.size (by rw [HS0.out]; omega)).trans HR0.out)
       have HI1 := Lib.hid (heap_alloc_new w1 (.cells #[.int .i64 kk, .int .i64 nn, .string ss, .slice AA mm cc] 50))
       have HIB1 := Lib.hid ((Below.refl w1.heap.size w1).alloc (Nat.le_refl _) (.cells #[.int .i64 kk, .int .i64 nn, .string ss, .slice AA mm cc] 50))
       have HQ0 := Lib.hid hq0
       have HQ1 := Lib.hid hq1
       have HQ2 := Lib.hid hq2
       have HQ3 := Lib.hid hq3
       have HQ4 := Lib.hid hq4
       obtain ⟨x0, x1, x2, x3, _⟩ := row4 HI1.out
       clear hb1 hq0 hq1 hq2 hq3 hq4)
    | (go_at_call 36; (with_reducible refine (HQ4.out _ HIB1.out).mono ?_); rintro e w2 ⟨rfl, hb2⟩
       have HIB2 := Lib.hid (HIB1.out.trans (hb2.mono HIB1.out.size))
       have HI2 := Lib.hid ((hb2.block w1.heap.size (by simp)).trans HI1.out)
       clear hb2)
    | (go_at_call 35; (with_reducible refine (HUP.out _).mono ?_); rintro e w3 ⟨rfl, hb3⟩
       have HIB3 := Lib.hid (HIB2.out.trans (hb3.mono HIB2.out.size))
       have HI3 := Lib.hid ((hb3.block w1.heap.size (Array.getElem?_eq_some_iff.1 HI2.out).1).trans HI2.out)
       clear hb3))
  all_goals
    have HIL : Hid (w1.heap.size < (w3.alloc (.cells #[.int .i64 o, .string s, .string t, .int .i64 a, .int .i64 b, .int .i64 c, .int .i64 m] 32)).heap.size) := Lib.hid (by have := (Array.getElem?_eq_some_iff.1 HI3.out).1; simp; omega)
    have HCL : Hid (w3.heap.size < (w3.alloc (.cells #[.int .i64 o, .string s, .string t, .int .i64 a, .int .i64 b, .int .i64 c, .int .i64 m] 32)).heap.size) := Lib.hid (by simp)
    have HCW := Lib.hid (heap_alloc_new w3 (.cells #[.int .i64 o, .string s, .string t, .int .i64 a, .int .i64 b, .int .i64 c, .int .i64 m] 32))
    have HIW := Lib.hid ((Below.heap_alloc w3 (.cells #[.int .i64 o, .string s, .string t, .int .i64 a, .int .i64 b, .int .i64 c, .int .i64 m] 32) w1.heap.size (Array.getElem?_eq_some_iff.1 HI3.out).1).trans HI3.out)
    have HIB := Lib.hid (HIB3.out.alloc HIB3.out.size (.cells #[.int .i64 o, .string s, .string t, .int .i64 a, .int .i64 b, .int .i64 c, .int .i64 m] 32))
    have HRW := Lib.hid ((HIB.out.block w.heap.size (Array.getElem?_eq_some_iff.1 HR1.out).1).trans HR1.out)
    have HRL : Hid (w.heap.size < (w3.alloc (.cells #[.int .i64 o, .string s, .string t, .int .i64 a, .int .i64 b, .int .i64 c, .int .i64 m] 32)).heap.size) := Lib.hid (Array.getElem?_eq_some_iff.1 HRW.out).1
    have HBW := Lib.hid (HB1.out.trans (HIB.out.mono HB1.out.size))
    generalize w3.alloc (.cells #[.int .i64 o, .string s, .string t, .int .i64 a, .int .i64 b, .int .i64 c, .int .i64 m] 32) = W at *
    clear x0 x1 x2 x3 hfd HI3 HIB3 HI2 HIB2 HI1 HIB1
    refine wp_region_mono 14 [15, 16, 17, 18, 19, 20, 21, 22, 23, 24, 25, 26, 27, 28] (fun i u w => match i with | 0 => u = .agg #[.int .i64 kk, .int .i64 nn, .string ss, .slice AA mm cc] | 1 => u = .agg #[.int .i64 k0, .int .i64 N0, .string s0, .slice A0 m0 c0] | 2 => u = .int .i64 N0 | 3 => u = .agg #[.int .i64 kk, .int .i64 nn, .string ss, .slice AA mm cc] | 4 => u = .agg #[.int .i64 k1, .int .i64 N1, .string s1, .slice A1 m1 c1] | 5 => u = .int .i64 N1 | 6 => u = .agg #[.int .i64 kk, .int .i64 nn, .string ss, .slice AA mm cc] | 7 => u = .agg #[.int .i64 k2, .int .i64 N2, .string s2, .slice A2 m2 c2] | 8 => u = .int .i64 N2 | 9 => u = .agg #[.int .i64 kk, .int .i64 nn, .string ss, .slice AA mm cc] | 10 => u = .agg #[.int .i64 k3, .int .i64 N3, .string s3, .slice A3 m3 c3] | 11 => u = .int .i64 N3 | 12 => u = .agg #[.int .i64 o, .string s, .string t, .int .i64 a, .int .i64 b, .int .i64 c, .int .i64 m] | 13 => u = .agg #[.int .i64 N0, .int .i64 N1, .int .i64 N2, .int .i64 N3, .int .i64 o, .string s, .string t, .int .i64 a, .int .i64 b, .int .i64 c, .int .i64 m] | _ => True) (fun w => Below W.heap.size W w) [undef, undef, undef, undef, undef, undef, undef, undef, undef, undef, undef, undef, undef, undef] (by kernel_rfl) (by kernel_rfl) (by kernel_rfl) rfl (Below.refl _ W).drew ?hzV ?hzS ?hzT
    case hzV =>
      intro i v w w' hC h hB
      exact match i, h with
      | 0, h => h
      | 1, h => h
      | 2, h => h
      | 3, h => h
      | 4, h => h
      | 5, h => h
      | 6, h => h
      | 7, h => h
      | 8, h => h
      | 9, h => h
      | 10, h => h
      | 11, h => h
      | 12, h => h
      | 13, h => h
      | i + 14, h => trivial
    case hzS =>
      refine steps_cons (fun K' x hx w hC hd hK => ?_) ?_
      · obtain ⟨z0, z1, z2, z3, z4, z5, z6, z7, z8, z9, z10, z11, z12, z13, rfl⟩ := len14 hx
        clear hd hx
        simp only [putAll, Act.put, List.setIfInBounds_toArray, List.set_cons_zero, List.set_cons_succ] at hK ⊢
        obtain ⟨y0, y1, y2, y3, _⟩ := row4 ((hC.block _ HIL.out).trans HIW.out)
        go_simp
        exact hK _ _ rfl hC (Below.refl _ _)
      refine steps_cons (fun K' x hx w hC hd hK => ?_) ?_
      · obtain ⟨z0, z1, z2, z3, z4, z5, z6, z7, z8, z9, z10, z11, z12, z13, rfl⟩ := len14 hx
        obtain rfl : z0 = _ := hd 0 (by kernel_rfl)
        clear hd hx
        simp only [putAll, Act.put, List.setIfInBounds_toArray, List.set_cons_zero, List.set_cons_succ] at hK ⊢
        go_simp
        (go_at_call 36; (with_reducible refine (HQ0.out _ (HIB.out.trans (hC.mono HIB.out.size))).mono ?_); rintro e w9 ⟨rfl, hb⟩; exact hK _ _ rfl (hC.trans (hb.mono hC.size)) hb)
      refine steps_cons (fun K' x hx w hC hd hK => ?_) ?_
      · obtain ⟨z0, z1, z2, z3, z4, z5, z6, z7, z8, z9, z10, z11, z12, z13, rfl⟩ := len14 hx
        obtain rfl : z1 = _ := hd 1 (by kernel_rfl)
        clear hd hx
        simp only [putAll, Act.put, List.setIfInBounds_toArray, List.set_cons_zero, List.set_cons_succ] at hK ⊢
        have hfd := fld1
        go_simp
        exact hK _ _ rfl hC (Below.refl _ _)
      refine steps_cons (fun K' x hx w hC hd hK => ?_) ?_
      · obtain ⟨z0, z1, z2, z3, z4, z5, z6, z7, z8, z9, z10, z11, z12, z13, rfl⟩ := len14 hx
        clear hd hx
        simp only [putAll, Act.put, List.setIfInBounds_toArray, List.set_cons_zero, List.set_cons_succ] at hK ⊢
        obtain ⟨y0, y1, y2, y3, _⟩ := row4 ((hC.block _ HIL.out).trans HIW.out)
        go_simp
        exact hK _ _ rfl hC (Below.refl _ _)
      refine steps_cons (fun K' x hx w hC hd hK => ?_) ?_
      · obtain ⟨z0, z1, z2, z3, z4, z5, z6, z7, z8, z9, z10, z11, z12, z13, rfl⟩ := len14 hx
        obtain rfl : z3 = _ := hd 3 (by kernel_rfl)
        clear hd hx
        simp only [putAll, Act.put, List.setIfInBounds_toArray, List.set_cons_zero, List.set_cons_succ] at hK ⊢
        go_simp
        (go_at_call 36; (with_reducible refine (HQ1.out _ (HIB.out.trans (hC.mono HIB.out.size))).mono ?_); rintro e w9 ⟨rfl, hb⟩; exact hK _ _ rfl (hC.trans (hb.mono hC.size)) hb)
      refine steps_cons (fun K' x hx w hC hd hK => ?_) ?_
      · obtain ⟨z0, z1, z2, z3, z4, z5, z6, z7, z8, z9, z10, z11, z12, z13, rfl⟩ := len14 hx
        obtain rfl : z4 = _ := hd 4 (by kernel_rfl)
        clear hd hx
        simp only [putAll, Act.put, List.setIfInBounds_toArray, List.set_cons_zero, List.set_cons_succ] at hK ⊢
        have hfd := fld1
        go_simp
        exact hK _ _ rfl hC (Below.refl _ _)
      refine steps_cons (fun K' x hx w hC hd hK => ?_) ?_
      · obtain ⟨z0, z1, z2, z3, z4, z5, z6, z7, z8, z9, z10, z11, z12, z13, rfl⟩ := len14 hx
        clear hd hx
        simp only [putAll, Act.put, List.setIfInBounds_toArray, List.set_cons_zero, List.set_cons_succ] at hK ⊢
        obtain ⟨y0, y1, y2, y3, _⟩ := row4 ((hC.block _ HIL.out).trans HIW.out)
        go_simp
        exact hK _ _ rfl hC (Below.refl _ _)
      refine steps_cons (fun K' x hx w hC hd hK => ?_) ?_
      · obtain ⟨z0, z1, z2, z3, z4, z5, z6, z7, z8, z9, z10, z11, z12, z13, rfl⟩ := len14 hx
        obtain rfl : z6 = _ := hd 6 (by kernel_rfl)
        clear hd hx
        simp only [putAll, Act.put, List.setIfInBounds_toArray, List.set_cons_zero, List.set_cons_succ] at hK ⊢
        go_simp
        (go_at_call 36; (with_reducible refine (HQ2.out _ (HIB.out.trans (hC.mono HIB.out.size))).mono ?_); rintro e w9 ⟨rfl, hb⟩; exact hK _ _ rfl (hC.trans (hb.mono hC.size)) hb)
      refine steps_cons (fun K' x hx w hC hd hK => ?_) ?_
      · obtain ⟨z0, z1, z2, z3, z4, z5, z6, z7, z8, z9, z10, z11, z12, z13, rfl⟩ := len14 hx
        obtain rfl : z7 = _ := hd 7 (by kernel_rfl)
        clear hd hx
        simp only [putAll, Act.put, List.setIfInBounds_toArray, List.set_cons_zero, List.set_cons_succ] at hK ⊢
        have hfd := fld1
        go_simp
        exact hK _ _ rfl hC (Below.refl _ _)
      refine steps_cons (fun K' x hx w hC hd hK => ?_) ?_
      · obtain ⟨z0, z1, z2, z3, z4, z5, z6, z7, z8, z9, z10, z11, z12, z13, rfl⟩ := len14 hx
        clear hd hx
        simp only [putAll, Act.put, List.setIfInBounds_toArray, List.set_cons_zero, List.set_cons_succ] at hK ⊢
        obtain ⟨y0, y1, y2, y3, _⟩ := row4 ((hC.block _ HIL.out).trans HIW.out)
        go_simp
        exact hK _ _ rfl hC (Below.refl _ _)
      refine steps_cons (fun K' x hx w hC hd hK => ?_) ?_
      · obtain ⟨z0, z1, z2, z3, z4, z5, z6, z7, z8, z9, z10, z11, z12, z13, rfl⟩ := len14 hx
        obtain rfl : z9 = _ := hd 9 (by kernel_rfl)
        clear hd hx
        simp only [putAll, Act.put, List.setIfInBounds_toArray, List.set_cons_zero, List.set_cons_succ] at hK ⊢
        go_simp
        (go_at_call 36; (with_reducible refine (HQ3.out _ (HIB.out.trans (hC.mono HIB.out.size))).mono ?_); rintro e w9 ⟨rfl, hb⟩; exact hK _ _ rfl (hC.trans (hb.mono hC.size)) hb)
      refine steps_cons (fun K' x hx w hC hd hK => ?_) ?_
      · obtain ⟨z0, z1, z2, z3, z4, z5, z6, z7, z8, z9, z10, z11, z12, z13, rfl⟩ := len14 hx
        obtain rfl : z10 = _ := hd 10 (by kernel_rfl)
        clear hd hx
        simp only [putAll, Act.put, List.setIfInBounds_toArray, List.set_cons_zero, List.set_cons_succ] at hK ⊢
        have hfd := fld1
        go_simp
        exact hK _ _ rfl hC (Below.refl _ _)
      refine steps_cons (fun K' x hx w hC hd hK => ?_) ?_
      · obtain ⟨z0, z1, z2, z3, z4, z5, z6, z7, z8, z9, z10, z11, z12, z13, rfl⟩ := len14 hx
        clear hd hx
        simp only [putAll, Act.put, List.setIfInBounds_toArray, List.set_cons_zero, List.set_cons_succ] at hK ⊢
        obtain ⟨y0, y1, y2, y3, y4, y5, y6⟩ := row7 ((hC.block _ HCL.out).trans HCW.out)
        go_simp
        exact hK _ _ rfl hC (Below.refl _ _)
      refine steps_cons (fun K' x hx w hC hd hK => ?_) ?_
      · obtain ⟨z0, z1, z2, z3, z4, z5, z6, z7, z8, z9, z10, z11, z12, z13, rfl⟩ := len14 hx
        obtain rfl : z2 = _ := hd 2 (by kernel_rfl)
        obtain rfl : z5 = _ := hd 5 (by kernel_rfl)
        obtain rfl : z8 = _ := hd 8 (by kernel_rfl)
        obtain rfl : z11 = _ := hd 11 (by kernel_rfl)
        obtain rfl : z12 = _ := hd 12 (by kernel_rfl)
        clear hd hx
        simp only [putAll, Act.put, List.setIfInBounds_toArray, List.set_cons_zero, List.set_cons_succ] at hK ⊢
        have hbd := HBD.out
        go_simp
        exact hK _ _ rfl hC (Below.refl _ _)
      exact trivial
    case hzT =>
      intro x hx w hC hd
      obtain ⟨z0, z1, z2, z3, z4, z5, z6, z7, z8, z9, z10, z11, z12, z13, rfl⟩ := len14 hx
      have hz13 : z13 = _ := hd 13 (by omega)
      subst hz13
      clear hd hx
      simp only [putAll, Act.put, List.setIfInBounds_toArray, List.set_cons_zero, List.set_cons_succ]
      have HR2 := Lib.hid ((hC.block _ HRL.out).trans HRW.out)
      have HB9 := Lib.hid (HBW.out.trans (hC.mono HBW.out.size))
      clear hC
      obtain ⟨q0, q1, q2, q3, q4, q5, q6, q7, q8, q9, q10, f0, f1, f2, f3, f4, f5, f6, f7, f8, f9, f10⟩ := row11f HR2.out
      show wpList Tryz.prog _ _ (_ :: []) _ _
      go_wp2_with fail
      have R9 := wr11_row (a0 := .int .i64 N0) (a1 := .int .i64 N1) (a2 := .int .i64 N2) (a3 := .int .i64 N3) (a4 := .int .i64 o) (a5 := .string s) (a6 := .string t) (a7 := .int .i64 a) (a8 := .int .i64 b) (a9 := .int .i64 c) (a10 := .int .i64 m) HR2.out
      have B9 := wr11_below (a0 := .int .i64 N0) (a1 := .int .i64 N1) (a2 := .int .i64 N2) (a3 := .int .i64 N3) (a4 := .int .i64 o) (a5 := .string s) (a6 := .string t) (a7 := .int .i64 a) (a8 := .int .i64 b) (a9 := .int .i64 c) (a10 := .int .i64 m) HB9.out (Nat.le_refl _)
      unfold wr11 at R9 B9
      obtain ⟨m0, m1, m2, m3, m4, m5, m6, m7, m8, m9, m10⟩ := row11 R9
      refine bodyPost_ret (v := .agg #[.int .i64 N0, .int .i64 N1, .int .i64 N2, .int .i64 N3, .int .i64 o, .string s, .string t, .int .i64 a, .int .i64 b, .int .i64 c, .int .i64 m]) (by simp [results, Tryz.results22, go_sem, m0, m1, m2, m3, m4, m5, m6, m7, m8, m9, m10]) rfl ⟨rfl, B9⟩
end Go.Proofs.YtebacdegjmcnlaaGreat
