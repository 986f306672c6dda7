import Derived.Test.YtphclpjekpdifaaMd
namespace Go.Proofs.Ytphclpjekpdifaa.Wi
open Go.RowKit Pl
set_option maxRecDepth 20000
set_option linter.unusedVariables false

/-- a reply may be packed -/
def mayR (e : Int) (s : ByteArray) : Bool := decide (0 ≤ e) && (decide (e ≤ 255) && decide (s.size ≤ 1000))
theorem mayReply_any (o : Int) (s : ByteArray) (a b c n : Int) (w : World) : Calls Try.prog 28 #[.agg #[.int .i64 o, .string s, .int .i64 a, .int .i64 b, .int .i64 c, .int .i64 n]] w (RetBelow (.bool (mayR o s)) w) := by
  have HB := Lib.hid ((Below.refl w.heap.size w).alloc (Nat.le_refl _) (.cells #[.int .i64 o, .string s, .int .i64 a, .int .i64 b, .int .i64 c, .int .i64 n] 27))
  by_cases h0 : 0 ≤ o
  · by_cases h1 : o ≤ 255
    · go_enter Try.func28, Try.ntmps28
      go_wp2_with fail
      go_ret
      exact ⟨by simp [mayR, h0, h1]; omega, HB.out⟩
    · go_enter Try.func28, Try.ntmps28
      go_wp2_with fail
      go_ret
      exact ⟨by simp [mayR, h0]; omega, HB.out⟩
  · go_enter Try.func28, Try.ntmps28
    go_wp2_with fail
    go_ret
    exact ⟨by simp [mayR]; omega, HB.out⟩
def mk3 (A : Option Addr) (n c : Nat) : List Value := [.int .i64 3, .int .i64 0, .string ⟨#[]⟩, .slice A n c]
theorem row6 {w : World} {b : Nat} {a0 a1 a2 a3 a4 a5 : Value} {t : TypeId} (h : w.heap[b]? = some (.cells #[a0, a1, a2, a3, a4, a5] t (0, 0))) :
    w.cell? ⟨b, 0, none⟩ = some a0 ∧ w.cell? ⟨b, 1, none⟩ = some a1 ∧ w.cell? ⟨b, 2, none⟩ = some a2 ∧ w.cell? ⟨b, 3, none⟩ = some a3 ∧ w.cell? ⟨b, 4, none⟩ = some a4 ∧ w.cell? ⟨b, 5, none⟩ = some a5 :=
  ⟨cell_of_row w b 0 _ _ _ h, cell_of_row w b 1 _ _ _ h, cell_of_row w b 2 _ _ _ h, cell_of_row w b 3 _ _ _ h, cell_of_row w b 4 _ _ _ h, cell_of_row w b 5 _ _ _ h⟩
theorem mayR_size {e : Int} {s : ByteArray} (h : mayR e s = true) : 0 ≤ e ∧ e ≤ 255 ∧ s.size ≤ 1000 := by
  simpa [mayR] using h
/-- a reply's text, and its error -/
def packR (o : Int) (s : ByteArray) (a b c n : Int) : ByteArray := if mayR o s = true then Nm.str (rIt o s a b c n).enc else ⟨#[]⟩
def errR (o : Int) (s : ByteArray) (a b c n : Int) : Int := if mayR o s = true then 0 else 4
def PackPost (o : Int) (s : ByteArray) (a b c n : Int) (w : World) (e : Ending) (w' : World) : Prop := e = .returned (.tuple #[.string (packR o s a b c n), .int .i64 (errR o s a b c n)]) ∧ Below w.heap.size w w'
/-- five items in a new block -/
theorem rRow {o : Int} {s : ByteArray} {a b c n : Int} {vA : Option Addr} {vc : Nat} {wC wD wE : World} (ho : InR o) (hs : s.size ≤ maxLen) (hn : InR n) (hal : AreIts wD (NewB wC wD) [nIt a, nIt b, nIt c] vA 0) (hE : Below wD.heap.size wD wE) :
    AreIts (wE.alloc (.cells #[.int .i64 1, .int .i64 o, .string ⟨#[]⟩, .slice none 0 0, .int .i64 2, .int .i64 0, .string s, .slice none 0 0, .int .i64 3, .int .i64 0, .string ⟨#[]⟩, .slice vA 3 vc, .int .i64 1, .int .i64 n, .string ⟨#[]⟩, .slice none 0 0] 56))
      (· < (wE.alloc (.cells #[.int .i64 1, .int .i64 o, .string ⟨#[]⟩, .slice none 0 0, .int .i64 2, .int .i64 0, .string s, .slice none 0 0, .int .i64 3, .int .i64 0, .string ⟨#[]⟩, .slice vA 3 vc, .int .i64 1, .int .i64 n, .string ⟨#[]⟩, .slice none 0 0] 56)).heap.size)
      [nIt o, sIt s, vIt a b c, nIt n] (some ⟨wE.heap.size, 0, none⟩) 0 := by
  have hs1 := hE.size
  refine are_row (us := mk1 o ++ (mk2 s ++ (mk3 vA 3 vc ++ mk1 n))) (t := 56) (by simp) ?_ (heap_alloc_new wE _)
  refine ⟨_, _, _, _, _, rfl, isIt_nIt _ _ o ho, _, _, _, _, _, rfl, isIt_sIt _ _ s hs, _, _, _, _, _, rfl, isIt_row _ _ [nIt a, nIt b, nIt c] vA vc (by simp [maxLen]) (AreIts.mono ?_ _ (AreIts.keep ?_ _ hal)), _, _, _, _, _, rfl, isIt_nIt _ _ n hn, rfl⟩
  · intro q hq
    have := hq.2
    simp; omega
  · intro q hq
    have := hq.2
    exact (Below.heap_alloc _ _ q (by omega)).trans (hE.block q this)
set_option maxHeartbeats 1000000 in
theorem packR_any (o : Int) (s : ByteArray) (a b c n : Int) (w : World) (ho : InR o) (ha : InR a) (hb : InR b) (hc : InR c) (hn : InR n) :
    Calls Try.prog 16 #[.agg #[.int .i64 o, .string s, .int .i64 a, .int .i64 b, .int .i64 c, .int .i64 n]] w (PackPost o s a b c n w) := by
  have Ho := Lib.hid ho
  have Hn := Lib.hid hn
  have HM := Lib.hid (fun W => mayReply_any o s a b c n W)
  have HV := Lib.hid (fun W => amounts_any a b c W ha hb hc)
  have HB := Lib.hid ((Below.refl w.heap.size w).alloc (Nat.le_refl _) (.cells #[.int .i64 o, .string s, .int .i64 a, .int .i64 b, .int .i64 c, .int .i64 n] 27))
  have HR := Lib.hid (heap_alloc_new w (.cells #[.int .i64 o, .string s, .int .i64 a, .int .i64 b, .int .i64 c, .int .i64 n] 27))
  clear ho ha hb hc hn
  cases hm : mayR o s
  · go_enter Try.func16, Try.ntmps16
    go_wp2_with (go_at_call 28; (with_reducible refine (HM.out _).mono ?_); rintro e w1 ⟨rfl, hb1⟩; rw [hm]; have B1 := Lib.hid hb1; clear hb1)
    go_ret2
    exact ⟨by simp [packR, errR, hm], HB.out.trans (B1.out.mono HB.out.size)⟩
  obtain ⟨hs0, hs1, hs2⟩ := mayR_size hm
  have hs4 : s.size ≤ 4096 := by omega
  have HE : Hid (packR o s a b c n = txt (.mk 3 0 ⟨#[]⟩ [nIt o, sIt s, vIt a b c, nIt n]) ∧ errR o s a b c n = errOf (.mk 3 0 ⟨#[]⟩ [nIt o, sIt s, vIt a b c, nIt n])) := Lib.hid (by
    have := errOf_rIt o s a b c n hs4
    change _ = txt (rIt o s a b c n) ∧ _ = errOf (rIt o s a b c n)
    simp [packR, errR, txt, hm, this])
  have HLL : Hid ([nIt o, sIt s, vIt a b c, nIt n].length ≤ maxLen) := Lib.hid (by simp [maxLen])
  have HL : Hid ((It.mk 3 0 ⟨#[]⟩ [nIt o, sIt s, vIt a b c, nIt n]).enc.length ≤ 1099511627775) := Lib.hid (by change (rIt o s a b c n).enc.length ≤ _; have := enc_small (errOf_rIt o s a b c n hs4); omega)
  have Hs : Hid (s.size ≤ maxLen) := Lib.hid (by simp only [maxLen]; omega)
  clear hs4 hs0 hs1 hs2
  go_enter Try.func16, Try.ntmps16
  go_wp2_with (go_at_call 28; (with_reducible refine (HM.out _).mono ?_); rintro e W ⟨rfl, hb1⟩; rw [hm]; have B1 := Lib.hid hb1; have R1 := Lib.hid ((hb1.block w.heap.size (by simp)).trans HR.out); have S1 := Lib.hid hb1.size; clear hb1)
  have HSW : Hid (w.heap.size < W.heap.size) := Lib.hid (by have := S1.out; simp at this; omega)
  have HA6 := Lib.hid (fun V (h : Below W.heap.size W V) => row6 ((h.block w.heap.size HSW.out).trans R1.out))
  have E0 : Hid (Below W.heap.size W W.drew) := Lib.hid (Below.refl _ W).drew
  obtain ⟨e0, e1, e2, e3, e4, e5⟩ := HA6.out _ E0.out
  go_region_held3 (fun V => V.cell? ⟨w.heap.size, 0, none⟩ = some (.int .i64 o) ∧ V.cell? ⟨w.heap.size, 1, none⟩ = some (.string s) ∧ V.cell? ⟨w.heap.size, 2, none⟩ = some (.int .i64 a) ∧ V.cell? ⟨w.heap.size, 3, none⟩ = some (.int .i64 b) ∧ V.cell? ⟨w.heap.size, 4, none⟩ = some (.int .i64 c) ∧ V.cell? ⟨w.heap.size, 5, none⟩ = some (.int .i64 n))
    (first | exact HA6.out _ BX.out | exact HA6.out _ (BE.out.alloc BE.out.size _) | exact HA6.out _ BE.out | exact HA6.out _ BD.out | exact HA6.out _ BB.out | exact HA6.out _ BA.out | exact HA6.out _ E0.out)
    (first
      | (go_at_call 20; (with_reducible refine (encoding_any [nIt o, sIt s, vIt a b c, nIt n] _ _ 4 _ rfl HLL.out (rRow Ho.out Hs.out Hn.out HAL.out KE.out)).mono ?_); rintro e w5 ⟨rfl, b2⟩; have BX : Hid (Below W.heap.size W w5) := Lib.hid ((BE.out.alloc BE.out.size _).trans (b2.mono (Nat.le_trans BE.out.size (by simp)))); clear b2)
      | (go_at_call 18; (with_reducible refine (cnum_any _ _).mono ?_); rintro e wE ⟨rfl, b2⟩; have BE : Hid (Below W.heap.size W wE) := Lib.hid (BD.out.trans (b2.mono BD.out.size)); have KE := Lib.hid b2; clear b2; obtain ⟨fEa, fEb, fEc, fEd, fEe, fEf⟩ := HA6.out wE BE.out)
      | (go_at_call 29; (with_reducible refine (HV.out _).mono ?_); rintro e wD ⟨v, rfl, b2, hv⟩; have BD : Hid (Below W.heap.size W wD) := Lib.hid (BB.out.trans (b2.mono BB.out.size)); have KD := Lib.hid b2; clear b2; rw [vIt, IsIt] at hv; obtain ⟨vA, vc, rfl, _, _, _, _, hal⟩ := hv; have HAL := Lib.hid hal; clear hal; obtain ⟨fDa, fDb, fDc, fDd, fDe, fDf⟩ := HA6.out wD BD.out)
      | (go_at_call 19; (with_reducible refine (ctxt_any _ _).mono ?_); rintro e wB ⟨rfl, b2⟩; have BB : Hid (Below W.heap.size W wB) := Lib.hid (BA.out.trans (b2.mono BA.out.size)); clear b2; obtain ⟨fBa, fBb, fBc, fBd, fBe, fBf⟩ := HA6.out wB BB.out)
      | (go_at_call 18; (with_reducible refine (cnum_any _ _).mono ?_); rintro e wA ⟨rfl, b2⟩; have BA : Hid (Below W.heap.size W wA) := Lib.hid (E0.out.trans b2); clear b2; obtain ⟨fAa, fAb, fAc, fAd, fAe, fAf⟩ := HA6.out wA BA.out))
  all_goals
    go_wp2_with fail
    go_ret2
    exact ⟨by rw [HE.out.1, HE.out.2]; rfl, HB.out.trans ((B1.out.trans (BX.out.mono B1.out.size)).mono HB.out.size)⟩
end Go.Proofs.Ytphclpjekpdifaa.Wi
