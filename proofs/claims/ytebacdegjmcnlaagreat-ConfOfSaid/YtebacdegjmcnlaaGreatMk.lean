import Derived.Test.YtebacdegjmcnlaaGreatMi
import Derived.Test.YtebacdegjmcnlaaGreatMj
import Derived.Test.YtebacdegjmcnlaaGreatMe
namespace Go.Proofs.YtebacdegjmcnlaaGreat
open Go.RowKit Pl
set_option linter.unusedVariables false
set_option maxRecDepth 20000
theorem mayC_name {o : Int} {s t : ByteArray} {a b c n : Int} (h : mayC o s t a b c n = true) : s.size ≤ 4096 ∧ t.size ≤ 4096 := by
  unfold mayC at h
  simp only [Bool.and_eq_true] at h
  obtain ⟨h1, h2⟩ := h
  have hs := may_len h1
  rw [size_data] at hs
  refine ⟨by omega, ?_⟩
  have hz : t.size = 0 ∨ Nm.may t.data.toList = true := by
    unfold fitF at h2
    split at h2
    · simp only [Bool.and_eq_true, beq_iff_eq] at h2; exact .inl h2.1.1
    split at h2
    · simp only [Bool.and_eq_true, beq_iff_eq] at h2; exact .inl h2.1.1
    split at h2
    · simp only [Bool.and_eq_true, beq_iff_eq] at h2; exact .inl h2.1.1
    split at h2
    · simp at h2; exact .inr h2.1.2
    split at h2
    · simp at h2; exact .inr h2.1.2
    · cases h2
  rcases hz with hz | hz
  · omega
  · have := may_len hz
    rw [size_data] at this
    omega
/-- a command's text, and its error -/
def encC (o : Int) (s t : ByteArray) (a b c n : Int) : ByteArray := if mayC o s t a b c n = true then Nm.str (cIt o s t a b c n).enc else ⟨#[]⟩
def errC (o : Int) (s t : ByteArray) (a b c n : Int) : Int := if mayC o s t a b c n = true then 0 else 4
def EncCPost (o : Int) (s t : ByteArray) (a b c n : Int) (w : World) (e : Ending) (w' : World) : Prop := e = .returned (.tuple #[.string (encC o s t a b c n), .int .i64 (errC o s t a b c n)]) ∧ Below w.heap.size w w'
/-- five items in a new block -/
theorem cRow {o : Int} {s t : ByteArray} {a b c n : Int} {vA : Option Addr} {vc : Nat} {wC wD wE : World} (ho : InR o) (hs : s.size ≤ maxLen) (ht : t.size ≤ maxLen) (hn : InR n) (hal : AreIts wD (NewB wC wD) [nIt a, nIt b, nIt c] vA 0) (hE : Below wD.heap.size wD wE) :
    AreIts (wE.alloc (.cells #[.int .i64 1, .int .i64 o, .string ⟨#[]⟩, .slice none 0 0, .int .i64 2, .int .i64 0, .string s, .slice none 0 0, .int .i64 2, .int .i64 0, .string t, .slice none 0 0, .int .i64 3, .int .i64 0, .string ⟨#[]⟩, .slice vA 3 vc, .int .i64 1, .int .i64 n, .string ⟨#[]⟩, .slice none 0 0] 50))
      (· < (wE.alloc (.cells #[.int .i64 1, .int .i64 o, .string ⟨#[]⟩, .slice none 0 0, .int .i64 2, .int .i64 0, .string s, .slice none 0 0, .int .i64 2, .int .i64 0, .string t, .slice none 0 0, .int .i64 3, .int .i64 0, .string ⟨#[]⟩, .slice vA 3 vc, .int .i64 1, .int .i64 n, .string ⟨#[]⟩, .slice none 0 0] 50)).heap.size)
      [nIt o, sIt s, sIt t, vIt a b c, nIt n] (some ⟨wE.heap.size, 0, none⟩) 0 := by
  have hs1 := hE.size
  refine are_row (us := mk1 o ++ (mk2 s ++ (mk2 t ++ (mk3 vA 3 vc ++ mk1 n)))) (t := 50) (by simp) ?_ (heap_alloc_new wE _)
  refine ⟨_, _, _, _, _, rfl, isIt_nIt _ _ o ho, _, _, _, _, _, rfl, isIt_sIt _ _ s hs, _, _, _, _, _, rfl, isIt_sIt _ _ t ht, _, _, _, _, _, rfl, isIt_row _ _ [nIt a, nIt b, nIt c] vA vc (by simp [maxLen]) (AreIts.mono ?_ _ (AreIts.keep ?_ _ hal)), _, _, _, _, _, rfl, isIt_nIt _ _ n hn, rfl⟩
  · intro q hq
    have := hq.2
    simp; omega
  · intro q hq
    have := hq.2
    exact (Below.heap_alloc _ _ q (by omega)).trans (hE.block q this)
set_option maxHeartbeats 1000000 in
theorem encodeC_any (o : Int) (s t : ByteArray) (a b c n : Int) (w : World) (ho : InR o) (hs : s.size ≤ 281474976710656) (ht : t.size ≤ 281474976710656) (ha : InR a) (hb : InR b) (hc : InR c) (hn : InR n) :
    Calls Tryz.prog 16 #[.agg #[.int .i64 o, .string s, .string t, .int .i64 a, .int .i64 b, .int .i64 c, .int .i64 n]] w (EncCPost o s t a b c n w) := by
  have Ho := Lib.hid ho
  have Hn := Lib.hid hn
  have HM := Lib.hid (fun W => may_any o s t a b c n W hs ht)
  have HV := Lib.hid (fun W => amounts_any a b c W ha hb hc)
  have HB := Lib.hid ((Below.refl w.heap.size w).alloc (Nat.le_refl _) (.cells #[.int .i64 o, .string s, .string t, .int .i64 a, .int .i64 b, .int .i64 c, .int .i64 n] 32))
  have HR := Lib.hid (heap_alloc_new w (.cells #[.int .i64 o, .string s, .string t, .int .i64 a, .int .i64 b, .int .i64 c, .int .i64 n] 32))
  have SH := Lib.hid (hs)
  clear ho hs ht ha hb hc hn
  cases hm : mayC o s t a b c n
  · go_enter Tryz.func16, Tryz.ntmps16
    go_wp2_with (go_at_call 28; (with_reducible refine (HM.out _).mono ?_); rintro e w1 ⟨rfl, hb1⟩; rw [hm]; have B1 := Lib.hid hb1; clear hb1)
    go_ret2
    exact ⟨by simp [encC, errC, hm], HB.out.trans (B1.out.mono HB.out.size)⟩
  obtain ⟨hs4, ht4⟩ := mayC_name hm
  have HE : Hid (encC o s t a b c n = txt (.mk 3 0 ⟨#[]⟩ [nIt o, sIt s, sIt t, vIt a b c, nIt n]) ∧ errC o s t a b c n = errOf (.mk 3 0 ⟨#[]⟩ [nIt o, sIt s, sIt t, vIt a b c, nIt n])) := Lib.hid (by
    have := errOf_cIt o s t a b c n hs4 ht4
    change _ = txt (cIt o s t a b c n) ∧ _ = errOf (cIt o s t a b c n)
    simp [encC, errC, txt, hm, this])
  have HLL : Hid ([nIt o, sIt s, sIt t, vIt a b c, nIt n].length ≤ maxLen) := Lib.hid (by simp [maxLen])
  have HL : Hid ((It.mk 3 0 ⟨#[]⟩ [nIt o, sIt s, sIt t, vIt a b c, nIt n]).enc.length ≤ 1099511627775) := Lib.hid (by change (cIt o s t a b c n).enc.length ≤ _; have := enc_small (errOf_cIt o s t a b c n hs4 ht4); omega)
  have Hs : Hid (s.size ≤ maxLen) := Lib.hid (by simp only [maxLen]; omega)
  have Ht : Hid (t.size ≤ maxLen) := Lib.hid (by simp only [maxLen]; omega)
  clear hs4 ht4
  go_enter Tryz.func16, Tryz.ntmps16
  go_wp2_with (go_at_call 28; (with_reducible refine (HM.out _).mono ?_); rintro e W ⟨rfl, hb1⟩; rw [hm]; have B1 := Lib.hid hb1; have R1 := Lib.hid ((hb1.block w.heap.size (by simp)).trans HR.out); have S1 := Lib.hid hb1.size; clear hb1)
  have HSW : Hid (w.heap.size < W.heap.size) := Lib.hid (by have := S1.out; simp at this; omega)
  have HA7 := Lib.hid (fun V (h : Below W.heap.size W V) => row7 ((h.block w.heap.size HSW.out).trans R1.out))
  have E0 : Hid (Below W.heap.size W W.drew) := Lib.hid (Below.refl _ W).drew
  obtain ⟨e0, e1, e2, e3, e4, e5, e6⟩ := HA7.out _ E0.out
  go_region_held3 (fun V => V.cell? ⟨w.heap.size, 0, none⟩ = some (.int .i64 o) ∧ V.cell? ⟨w.heap.size, 1, none⟩ = some (.string s) ∧ V.cell? ⟨w.heap.size, 2, none⟩ = some (.string t) ∧ V.cell? ⟨w.heap.size, 3, none⟩ = some (.int .i64 a) ∧ V.cell? ⟨w.heap.size, 4, none⟩ = some (.int .i64 b) ∧ V.cell? ⟨w.heap.size, 5, none⟩ = some (.int .i64 c) ∧ V.cell? ⟨w.heap.size, 6, none⟩ = some (.int .i64 n))
    (first | exact HA7.out _ BX.out | exact HA7.out _ (BE.out.alloc BE.out.size _) | exact HA7.out _ BE.out | exact HA7.out _ BD.out | exact HA7.out _ BC.out | exact HA7.out _ BB.out | exact HA7.out _ BA.out | exact HA7.out _ E0.out)
    (first
      | (go_at_call 17; (with_reducible refine (encoding_any [nIt o, sIt s, sIt t, vIt a b c, nIt n] _ _ 5 _ rfl HLL.out (cRow Ho.out Hs.out Ht.out Hn.out HAL.out KE.out) HL.out).mono ?_); rintro e w5 ⟨rfl, b2⟩; have BX : Hid (Below W.heap.size W w5) := Lib.hid ((BE.out.alloc BE.out.size _).trans (b2.mono (Nat.le_trans BE.out.size (by simp)))); clear b2)
      | (go_at_call 18; (with_reducible refine (cnum_any _ _).mono ?_); rintro e wE ⟨rfl, b2⟩; have BE : Hid (Below W.heap.size W wE) := Lib.hid (BD.out.trans (b2.mono BD.out.size)); have KE := Lib.hid b2; clear b2; obtain ⟨fE0, fE1, fE2, fE3, fE4, fE5, fE6⟩ := HA7.out wE BE.out)
      | (go_at_call 29; (with_reducible refine (HV.out _).mono ?_); rintro e wD ⟨v, rfl, b2, hv⟩; have BD : Hid (Below W.heap.size W wD) := Lib.hid (BC.out.trans (b2.mono BC.out.size)); have KD := Lib.hid b2; clear b2; rw [vIt, IsIt] at hv; obtain ⟨vA, vc, rfl, _, _, _, _, hal⟩ := hv; have HAL := Lib.hid hal; clear hal; obtain ⟨fD0, fD1, fD2, fD3, fD4, fD5, fD6⟩ := HA7.out wD BD.out)
      | (go_at_call 19; (with_reducible refine (ctxt_any _ _).mono ?_); rintro e wC ⟨rfl, b2⟩; have BC : Hid (Below W.heap.size W wC) := Lib.hid (BB.out.trans (b2.mono BB.out.size)); clear b2; obtain ⟨fC0, fC1, fC2, fC3, fC4, fC5, fC6⟩ := HA7.out wC BC.out)
      | (go_at_call 19; (with_reducible refine (ctxt_any _ _).mono ?_); rintro e wB ⟨rfl, b2⟩; have BB : Hid (Below W.heap.size W wB) := Lib.hid (BA.out.trans (b2.mono BA.out.size)); clear b2; obtain ⟨fB0, fB1, fB2, fB3, fB4, fB5, fB6⟩ := HA7.out wB BB.out)
      | (go_at_call 18; (with_reducible refine (cnum_any _ _).mono ?_); rintro e wA ⟨rfl, b2⟩; have BA : Hid (Below W.heap.size W wA) := Lib.hid (E0.out.trans b2); clear b2; obtain ⟨fA0, fA1, fA2, fA3, fA4, fA5, fA6⟩ := HA7.out wA BA.out))
  all_goals
    go_wp2_with fail
    go_ret2
    exact ⟨by rw [HE.out.1, HE.out.2]; rfl, HB.out.trans ((B1.out.trans (BX.out.mono B1.out.size)).mono HB.out.size)⟩
end Go.Proofs.YtebacdegjmcnlaaGreat
