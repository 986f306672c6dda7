import Derived.Test.YtiedeneglhboiaaLb
namespace Go.Proofs.Ytiedeneglhboiaa
open Go.RowKit Pl
set_option linter.unusedVariables false
set_option maxRecDepth 20000
theorem xor_ne (x : UInt8) (t : Int) (h0 : 0 ≤ t) (h1 : t ≤ 255) (ht : t ≠ 0) : ∃ y : UInt8, bits .xor .u8 (x.toNat : Int) t = (y.toNat : Int) ∧ y ≠ x := by
  obtain ⟨m, rfl⟩ := Int.eq_ofNat_of_zero_le h0
  have hx := x.toNat_lt
  rw [u8_xor_nat _ _ (by omega) (by omega)]
  have hlt : x.toNat ^^^ m < 256 := Nat.xor_lt_two_pow (n := 8) (by omega) (by omega)
  refine ⟨UInt8.ofNat (x.toNat ^^^ m), ?_, fun e => ?_⟩
  · rw [UInt8.toNat_ofNat', Nat.mod_eq_of_lt hlt]
  · have h2 := congrArg UInt8.toNat e
    rw [UInt8.toNat_ofNat', Nat.mod_eq_of_lt hlt] at h2
    have h3 : x.toNat ^^^ (x.toNat ^^^ m) = x.toNat ^^^ x.toNat := by rw [h2]
    rw [← Nat.xor_assoc, Nat.xor_self, Nat.zero_xor] at h3
    omega
set_option maxHeartbeats 2000000 in
theorem law_turned (o : Int) (s t : ByteArray) (a b c n : Int) (at_ turn : Int) (w : World) (ho : InR o) (hs : s.size ≤ 140737488351232) (ht : t.size ≤ 140737488351232) (ha : InR a) (hb : InR b) (hc : InR c) (hn : InR n) (ha0 : 0 ≤ at_) (ha1 : at_ ≤ 65535) (ht0 : 0 ≤ turn) (ht1 : turn ≤ 255) :
    Calls Try.prog 8 #[.agg #[.int .i64 o, .string s, .string t, .int .i64 a, .int .i64 b, .int .i64 c, .int .i64 n], .int .u16 at_, .int .u8 turn] w (RetBelow (.bool true) w) := by
  obtain ⟨m, rfl⟩ := Int.eq_ofNat_of_zero_le ha0
  have HM := Lib.hid (fun W => may_any o s t a b c n W (by omega) (by omega))
  have HE := Lib.hid (fun W => encodeC_any o s t a b c n W ho (by omega) (by omega) ha hb hc hn)
  have HAW := Lib.hid awakeC_any
  have HB0 := Lib.hid ((Below.refl w.heap.size w).alloc (Nat.le_refl _) (cRowV o s t a b c n))
  have HR := Lib.hid (heap_alloc_new w (cRowV o s t a b c n))
  obtain ⟨W, hW⟩ : ∃ W, w.alloc (.cells #[.int .i64 o, .string s, .string t, .int .i64 a, .int .i64 b, .int .i64 c, .int .i64 n] 25) = W := ⟨_, rfl⟩
  rw [show w.alloc (cRowV o s t a b c n) = W from hW] at HB0 HR
  have hz : w.heap.size < W.heap.size := by rw [← hW]; simp
  have HK := Lib.hid (fun V (h : Below W.heap.size W V) => cat_of HR.out hz h)
  have HW := Lib.hid hW
  have HZ := Lib.hid hz
  clear hW hz
  cases hm : mayC o s t a b c n
  · obtain ⟨x1, x2⟩ := encC_no hm
    have HX := Lib.hid x1
    have HY := Lib.hid x2
    have Hm := Lib.hid hm
    clear x1 x2 hm ho hs ht ha hb hc hn
    go_enter Try.func8, Try.ntmps8
    go_wp2_with fail
    rw [HW.out]
    go_wp2_with (first
      | (go_at_call 13; (with_reducible refine (HM.out _).mono ?_); rintro e w3 ⟨rfl, h⟩; rw [Hm.out]; have B3 : Hid (Below W.heap.size W w3) := Lib.hid (B2.out.trans (h.mono B2.out.size)); clear h)
      | (go_at_call 11; (with_reducible refine (HE.out _).mono ?_); rintro e w2 ⟨rfl, h⟩; rw [HX.out, HY.out]; have B2 : Hid (Below W.heap.size W w2) := Lib.hid (B1.out.trans (h.mono B1.out.size)); clear h; obtain ⟨e0, e1, e2, e3, e4, e5, e6⟩ := HK.out _ B2.out)
      | (go_at_call 10; (with_reducible refine (HAW.out _).mono ?_); rintro e w1 ⟨rfl, h⟩; have B1 : Hid (Below W.heap.size W w1) := Lib.hid h; clear h; obtain ⟨d0, d1, d2, d3, d4, d5, d6⟩ := HK.out _ B1.out))
    go_ret
    exact ⟨rfl, HB0.out.trans (B3.out.mono HB0.out.size)⟩
  obtain ⟨x1, x2⟩ := encC_yes hm
  obtain ⟨z1, z2⟩ := mayC_name hm
  have hel := enc_small (errOf_cIt o s t a b c n z1 z2)
  have hne := cEnc_ne o s t a b c n
  have hrl : ∀ o' s' t' a' b' c' n', resC ((cIt o s t a b c n).enc) = some (o', s', t', a', b', c', n') → True := fun _ _ _ _ _ _ _ _ => trivial
  obtain ⟨l, hl⟩ : ∃ l, (cIt o s t a b c n).enc = l := ⟨_, rfl⟩
  rw [hl] at x1 hel hne
  have HX := Lib.hid x1
  have HY := Lib.hid x2
  have Hm := Lib.hid hm
  have HLL := Lib.hid hl
  clear x1 x2 hm ho ha hb hc hn hrl hl z1 z2
  by_cases htz : turn = 0
  · subst htz
    go_enter Try.func8, Try.ntmps8
    go_wp2_with fail
    rw [HW.out]
    go_wp2_with (first
      | (go_at_call 11; (with_reducible refine (HE.out _).mono ?_); rintro e w2 ⟨rfl, h⟩; rw [HX.out, HY.out]; have B2 : Hid (Below W.heap.size W w2) := Lib.hid (B1.out.trans (h.mono B1.out.size)); clear h; obtain ⟨e0, e1, e2, e3, e4, e5, e6⟩ := HK.out _ B2.out)
      | (go_at_call 10; (with_reducible refine (HAW.out _).mono ?_); rintro e w1 ⟨rfl, h⟩; have B1 : Hid (Below W.heap.size W w1) := Lib.hid h; clear h; obtain ⟨d0, d1, d2, d3, d4, d5, d6⟩ := HK.out _ B1.out))
    go_ret
    exact ⟨rfl, HB0.out.trans (B2.out.mono HB0.out.size)⟩
  have htz2 : (turn == 0) = false := by simpa using htz
  have hEl : 0 < l.length := Nat.pos_of_ne_zero fun e => hne (List.eq_nil_of_length_eq_zero e)
  have hil : m % l.length < l.length := Nat.mod_lt _ hEl
  obtain ⟨x, hx⟩ : ∃ x, l[m % l.length]? = some x := ⟨_, List.getElem?_eq_getElem hil⟩
  obtain ⟨y, hxor, hyx⟩ := xor_ne x turn ht0 ht1 htz
  have hyb : (y.toNat : Int) ≤ 255 := by have := y.toNat_lt; omega
  have hxb : (x.toNat : Int) ≤ 255 := by have := x.toNat_lt; omega
  have hsz : (Nm.str l).size = l.length := Nm.str_size l
  have hcv : ∀ W : World, (convert 9 43 (.string (Nm.str l))).run Try.prog W = .ok (.slice (some ⟨W.heap.size, 0, none⟩) l.length (grownCap W (Nm.str l).size 0 5)) (W.drew.alloc (.cells (bytesRow (Nm.str l) (grownCap W (Nm.str l).size 0 5)) 5 ((bytesRow (Nm.str l) (grownCap W (Nm.str l).size 0 5)).size, (bytesRow (Nm.str l) (grownCap W (Nm.str l).size 0 5)).size + 1))) := fun W => by
    have := run_bytes_of_string (P := Try.prog) W 9 43 5 (Nm.str l) Try.underlying9 Try.underlying43 Try.underlying5
    rw [hsz] at this
    rw [hsz]
    exact this
  have HCV := Lib.hid hcv
  have HXX := Lib.hid hx
  have HYX := Lib.hid hyx
  have hdne : ∀ o' s' t' a' b' c' n', resC (l.set (m % l.length) y) = some (o', s', t', a', b', c', n') → eqC o' s' t' a' b' c' n' o s t a b c n = false ∧ mayC o' s' t' a' b' c' n' = true ∧ s'.size ≤ 4096 ∧ t'.size ≤ 4096 := by
    intro o' s' t' a' b' c' n' hr
    obtain ⟨hm', _, _, _, _, _, e⟩ := (resC_iff _ o' s' t' a' b' c' n').1 hr
    obtain ⟨q1, q2⟩ := mayC_name hm'
    refine ⟨?_, hm', q1, q2⟩
    rw [Bool.eq_false_iff]
    intro he
    obtain ⟨rfl, rfl, rfl, ⟨rfl, rfl, rfl⟩, rfl⟩ := eqC_iff.1 he
    rw [HLL.out] at e
    have h3 : (l.set (m % l.length) y)[m % l.length]? = l[m % l.length]? := by rw [e]
    rw [HXX.out, List.getElem?_set_self hil] at h3
    simp only [Option.some.injEq] at h3
    exact HYX.out h3
  have HDN := Lib.hid hdne
  have hlen2 : (l.set (m % l.length) y).length ≤ 281474976710656 := by rw [List.length_set]; omega
  have HDC := Lib.hid (fun V => decodeC_any (l.set (m % l.length) y) V hlen2)
  clear hx hyx hdne hcv hsz hne hlen2 htz hs ht
  cases hr : resC (l.set (m % l.length) y) with
  | none =>
    have HRR := Lib.hid hr
    have q1 : ∀ V : World, (binOp .eql 25 (.agg #[.int .i64 0, .string ⟨#[]⟩, .string ⟨#[]⟩, .int .i64 0, .int .i64 0, .int .i64 0, .int .i64 0]) (.agg #[.int .i64 0, .string ⟨#[]⟩, .string ⟨#[]⟩, .int .i64 0, .int .i64 0, .int .i64 0, .int .i64 0])).run Try.prog V = .ok (.bool true) V := fun V => by rw [eq25v, eqC_self]
    have q2 : ∀ V : World, (Instr.build 25 #[]).run Try.prog V = .ok (.agg #[.int .i64 0, .string ⟨#[]⟩, .string ⟨#[]⟩, .int .i64 0, .int .i64 0, .int .i64 0, .int .i64 0]) V := fun V => run_build V 25 _ _ (by kernel_rfl)
    clear hr
    go_enter Try.func8, Try.ntmps8
    go_wp2_with fail
    rw [HW.out]
    refine (HAW.out _).mono ?_
    rintro e w1 ⟨rfl, h⟩
    have B1 : Hid (Below W.heap.size W w1) := Lib.hid h
    clear h
    obtain ⟨d0, d1, d2, d3, d4, d5, d6⟩ := HK.out _ B1.out
    go_wp2_with fail
    refine (HE.out _).mono ?_
    rintro e w2 ⟨rfl, h⟩
    rw [HX.out, HY.out]
    have B2 : Hid (Below W.heap.size W w2) := Lib.hid (B1.out.trans (h.mono B1.out.size))
    clear h d0 d1 d2 d3 d4 d5 d6
    have h7 := HCV.out w2
    obtain ⟨C, hC⟩ : ∃ C, C = grownCap w2 (Nm.str l).size 0 5 := ⟨_, rfl⟩
    rw [← hC] at h7
    have hg := RowAt.new w2 l C
    obtain ⟨w3, hw3⟩ : ∃ w3, w3 = w2.drew.alloc (.cells (bytesRow (Nm.str l) C) 5 ((bytesRow (Nm.str l) C).size, (bytesRow (Nm.str l) C).size + 1)) := ⟨_, rfl⟩
    rw [← hw3] at h7 hg
    have B3 : Hid (Below W.heap.size W w3) := Lib.hid (by rw [hw3]; exact B2.out.drew.alloc B2.out.size _)
    have HG := Lib.hid hg
    obtain ⟨hcx, hfx⟩ := hg.cell HXX.out
    have hsz3 : w2.heap.size < w3.heap.size := by rw [hw3]; simp
    clear hC hg hw3
    have htx := (HG.out.set hil y).text l.length C (by rw [List.length_set])
    go_wp2_with fail
    have B4 : Hid (Below W.heap.size W (w3.setCell ⟨w2.heap.size, m % l.length, none⟩ (.int .u8 (y.toNat : Int)))) := Lib.hid (B3.out.setCell (p := ⟨w2.heap.size, m % l.length, none⟩) B2.out.size _)
    generalize w3.setCell ⟨w2.heap.size, m % l.length, none⟩ (.int .u8 (y.toNat : Int)) = w4 at *
    refine (HDC.out w4).mono ?_
    rintro e w5 ⟨he, h⟩
    rw [HRR.out] at he
    subst he
    simp only [Option.map_none, zc]
    have B5 : Hid (Below W.heap.size W w5) := Lib.hid (B4.out.trans (h.mono B4.out.size))
    clear h
    go_wp2_with fail
    go_ret
    exact ⟨rfl, HB0.out.trans ((B5.out.alloc B5.out.size _).mono HB0.out.size)⟩
  | some r =>
    obtain ⟨o', s', t', a', b', c', n'⟩ := r
    obtain ⟨f1, f2, f3, f4⟩ := HDN.out _ _ _ _ _ _ _ hr
    have HM2 := Lib.hid (fun V => may_any o' s' t' a' b' c' n' V (by omega) (by omega))
    have HF2 := Lib.hid f2
    have HRR := Lib.hid hr
    have q1 : ∀ V : World, (binOp .neq 25 (.agg #[.int .i64 o', .string s', .string t', .int .i64 a', .int .i64 b', .int .i64 c', .int .i64 n']) (.agg #[.int .i64 o, .string s, .string t, .int .i64 a, .int .i64 b, .int .i64 c, .int .i64 n])).run Try.prog V = .ok (.bool true) V := fun V => by rw [neq25v, f1]; rfl
    clear hr f1 f2 f3 f4
    go_enter Try.func8, Try.ntmps8
    go_wp2_with fail
    rw [HW.out]
    refine (HAW.out _).mono ?_
    rintro e w1 ⟨rfl, h⟩
    have B1 : Hid (Below W.heap.size W w1) := Lib.hid h
    clear h
    obtain ⟨d0, d1, d2, d3, d4, d5, d6⟩ := HK.out _ B1.out
    go_wp2_with fail
    refine (HE.out _).mono ?_
    rintro e w2 ⟨rfl, h⟩
    rw [HX.out, HY.out]
    have B2 : Hid (Below W.heap.size W w2) := Lib.hid (B1.out.trans (h.mono B1.out.size))
    clear h d0 d1 d2 d3 d4 d5 d6
    have h7 := HCV.out w2
    obtain ⟨C, hC⟩ : ∃ C, C = grownCap w2 (Nm.str l).size 0 5 := ⟨_, rfl⟩
    rw [← hC] at h7
    have hg := RowAt.new w2 l C
    obtain ⟨w3, hw3⟩ : ∃ w3, w3 = w2.drew.alloc (.cells (bytesRow (Nm.str l) C) 5 ((bytesRow (Nm.str l) C).size, (bytesRow (Nm.str l) C).size + 1)) := ⟨_, rfl⟩
    rw [← hw3] at h7 hg
    have B3 : Hid (Below W.heap.size W w3) := Lib.hid (by rw [hw3]; exact B2.out.drew.alloc B2.out.size _)
    have HG := Lib.hid hg
    obtain ⟨hcx, hfx⟩ := hg.cell HXX.out
    have hsz3 : w2.heap.size < w3.heap.size := by rw [hw3]; simp
    clear hC hg hw3
    have htx := (HG.out.set hil y).text l.length C (by rw [List.length_set])
    go_wp2_with fail
    have B4 : Hid (Below W.heap.size W (w3.setCell ⟨w2.heap.size, m % l.length, none⟩ (.int .u8 (y.toNat : Int)))) := Lib.hid (B3.out.setCell (p := ⟨w2.heap.size, m % l.length, none⟩) B2.out.size _)
    generalize w3.setCell ⟨w2.heap.size, m % l.length, none⟩ (.int .u8 (y.toNat : Int)) = w4 at *
    refine (HDC.out w4).mono ?_
    rintro e w5 ⟨he, h⟩
    rw [HRR.out] at he
    subst he
    simp only [Option.map_some, vC7]
    have B5 : Hid (Below W.heap.size W w5) := Lib.hid (B4.out.trans (h.mono B4.out.size))
    clear h
    obtain ⟨d0, d1, d2, d3, d4, d5, d6⟩ := HK.out _ B5.out
    have l1 := Nat.lt_of_lt_of_le HZ.out B5.out.size
    go_wp2_with (go_at_call 13; (with_reducible refine (HM2.out _).mono ?_); rintro e w6 ⟨rfl, h⟩; rw [HF2.out]; have B6 : Hid (Below W.heap.size W w6) := Lib.hid ((B5.out.alloc B5.out.size _).trans (h.mono (Nat.le_trans B5.out.size (by simp)))); clear h)
    go_ret
    exact ⟨rfl, HB0.out.trans (B6.out.mono HB0.out.size)⟩
end Go.Proofs.Ytiedeneglhboiaa
