import Derived.Test.YtebacdegjmcnlaaGreatUc
import Derived.Test.YtebacdegjmcnlaaGreatMl
namespace Go.Proofs.YtebacdegjmcnlaaGreat
open Go.RowKit Pl
set_option linter.unusedVariables false
set_option maxRecDepth 20000
theorem rencode_of (t : It) (v : Value) (w : World) (hv : IsIt w (· < w.heap.size) t v) (h : errOf t = 0) : Calls Tryz.prog 41 #[v] w (REncP t w) := by
  obtain ⟨h1, h2⟩ := errOf_zero h
  have h3 := enc_small h
  unfold fits at h1
  simp at h1
  exact rencode_any t v w hv (by omega) (by omega) h1.2 h2 (by omega)
theorem conv_text {w : World} {base : Nat} {v : Value} {l : List UInt8} (h : OwnB w base v l) : (convert 58 9 v).run Tryz.prog w = .ok (.string (Nm.str l)) w := by
  rw [conv_own h]; rfl
theorem isIt_of_row {w w' : World} {ts : List It} {A : Option Addr} {c k : Nat} (hb : Below w.heap.size w w') (h : AreIts w (· < w.heap.size) ts A 0) (hk : ts.length = k := by rfl) (hl : ts.length ≤ maxLen := by simp [maxLen]) :
    IsIt w' (· < w'.heap.size) (.mk 3 0 ⟨#[]⟩ ts) (.agg #[.int .i64 3, .int .i64 0, .string ⟨#[]⟩, .slice A k c]) := by
  subst hk
  refine isIt_row _ _ ts A c hl (AreIts.mono (fun q hq => ?_) _ (AreIts.keep (fun q hq => hb.block q hq) _ h))
  have := hb.size
  omega
set_option maxHeartbeats 1000000 in
theorem refEncode_any (o : Int) (s t : ByteArray) (a b c n : Int) (w : World) (ho : InR o) (hs : s.size ≤ 281474976710656) (ht : t.size ≤ 281474976710656) (ha : InR a) (hb : InR b) (hc : InR c) (hn : InR n) :
    Calls Tryz.prog 39 #[.agg #[.int .i64 o, .string s, .string t, .int .i64 a, .int .i64 b, .int .i64 c, .int .i64 n]] w (EncCPost o s t a b c n w) := by
  have HM := Lib.hid (fun W => refMay_any o s t a b c n W hs ht)
  have HB := Lib.hid ((Below.refl w.heap.size w).alloc (Nat.le_refl _) (.cells #[.int .i64 o, .string s, .string t, .int .i64 a, .int .i64 b, .int .i64 c, .int .i64 n] 32))
  have HR := Lib.hid (heap_alloc_new w (.cells #[.int .i64 o, .string s, .string t, .int .i64 a, .int .i64 b, .int .i64 c, .int .i64 n] 32))
  cases hm : mayC o s t a b c n
  · go_enter Tryz.func39, Tryz.ntmps39
    go_wp2_with (go_at_call 65; (with_reducible refine (HM.out _).mono ?_); rintro e w1 ⟨rfl, hb1⟩; rw [hm]; have B1 := Lib.hid hb1; clear hb1)
    go_ret2
    exact ⟨by simp [encC, errC, hm], HB.out.trans (B1.out.mono HB.out.size)⟩
  obtain ⟨hs4, ht4⟩ := mayC_name hm
  have HV := Lib.hid (fun W => item_any o s t a b c n W ho (by simp only [maxLen]; omega) (by simp only [maxLen]; omega) ha hb hc hn)
  have HZ := Lib.hid (errOf_cIt o s t a b c n hs4 ht4)
  have HQ : Hid (encC o s t a b c n = Nm.str (cIt o s t a b c n).enc ∧ errC o s t a b c n = 0) := Lib.hid (by unfold encC errC; rw [if_pos hm, if_pos hm]; exact ⟨rfl, rfl⟩)
  have Hm := Lib.hid hm
  clear ho hs ht ha hb hc hn hs4 ht4 hm
  go_enter Tryz.func39, Tryz.ntmps39
  go_wp2_with (first
    | (go_at_call 66; (with_reducible refine (HV.out _).mono ?_); rintro e w3 ⟨v, rfl, h, hv⟩; have B3 : Hid (Below w.heap.size w w3) := Lib.hid (B2.out.trans (h.mono B2.out.size)); have HI : Hid (IsIt w3 (· < w3.heap.size) (cIt o s t a b c n) v) := Lib.hid (IsIt.mono (fun q hq => hq.2) _ hv); clear hv h)
    | (go_at_call 65; (with_reducible refine (HM.out _).mono ?_); rintro e w2 ⟨rfl, h⟩; rw [Hm.out]; have B2 : Hid (Below w.heap.size w w2) := Lib.hid (HB.out.trans (h.mono HB.out.size)); obtain ⟨e0, e1, e2, e3, e4, e5, e6⟩ := row7 ((h.block w.heap.size (by simp)).trans HR.out); clear h)
    | (go_at_call 41; (with_reducible refine (rencode_of (cIt o s t a b c n) v w3 HI.out HZ.out).mono ?_); rintro e w4 ⟨v4, rfl, h, hv⟩; have B4 : Hid (Below w.heap.size w w4) := Lib.hid (B3.out.trans (h.mono B3.out.size)); have hcv := conv_text hv; clear hv h))
  go_ret2
  exact ⟨by rw [HQ.out.1, HQ.out.2]; rfl, B4.out⟩
end Go.Proofs.YtebacdegjmcnlaaGreat
