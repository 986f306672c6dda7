import Derived.Test.YtphclpjekpdifaaUv
import Derived.Test.YtphclpjekpdifaaUc
import Derived.Test.YtphclpjekpdifaaMl
namespace Go.Proofs.Ytphclpjekpdifaa.Wi
open Go.RowKit Pl
set_option maxRecDepth 20000
set_option linter.unusedVariables false
set_option maxRecDepth 20000
theorem rencode_of (t : It) (v : Value) (w : World) (hv : IsIt w (· < w.heap.size) t v) (h : errOf t = 0) : Calls Try.prog 33 #[v] w (REncP t w) := by
  obtain ⟨h1, h2⟩ := errOf_zero h
  have h3 := enc_small h
  unfold fits at h1
  simp at h1
  exact rencode_any t v w hv (by omega) (by omega) h1.2 h2 (by omega)
theorem conv_text {w : World} {base : Nat} {v : Value} {l : List UInt8} (h : OwnB w base v l) : (convert 66 9 v).run Try.prog w = .ok (.string (Nm.str l)) w := by
  rw [conv_own h]; rfl
theorem isIt_of_row {w w' : World} {ts : List It} {A : Option Addr} {c k : Nat} (hb : Below w.heap.size w w') (h : AreIts w (· < w.heap.size) ts A 0) (hk : ts.length = k := by rfl) (hl : ts.length ≤ maxLen := by simp [maxLen]) :
    IsIt w' (· < w'.heap.size) (.mk 3 0 ⟨#[]⟩ ts) (.agg #[.int .i64 3, .int .i64 0, .string ⟨#[]⟩, .slice A k c]) := by
  subst hk
  refine isIt_row _ _ ts A c hl (AreIts.mono (fun q hq => ?_) _ (AreIts.keep (fun q hq => hb.block q hq) _ h))
  have := hb.size
  omega
set_option maxHeartbeats 1000000 in
theorem refPack_any (o : Int) (s : ByteArray) (a b c n : Int) (w : World) (hs : s.size ≤ 281474976710656) (ho : InR o) (ha : InR a) (hb : InR b) (hc : InR c) (hn : InR n) :
    Calls Try.prog 23 #[.agg #[.int .i64 o, .string s, .int .i64 a, .int .i64 b, .int .i64 c, .int .i64 n]] w (PackPost o s a b c n w) := by
  have Ho := Lib.hid ho
  have Hn := Lib.hid hn
  have HV := Lib.hid (fun W => vector_any a b c W ha hb hc)
  have HB := Lib.hid ((Below.refl w.heap.size w).alloc (Nat.le_refl _) (.cells #[.int .i64 o, .string s, .int .i64 a, .int .i64 b, .int .i64 c, .int .i64 n] 27))
  have HR := Lib.hid (heap_alloc_new w (.cells #[.int .i64 o, .string s, .int .i64 a, .int .i64 b, .int .i64 c, .int .i64 n] 27))
  obtain ⟨o1, o2⟩ := ho
  clear ha hb hc hn
  cases hm : mayR o s
  · have hq : o < 0 ∨ (0 ≤ o ∧ 255 < o) ∨ (0 ≤ o ∧ o ≤ 255 ∧ (1000 : Int) < s.size) := by
      by_cases h0 : 0 ≤ o
      · by_cases h1 : o ≤ 255
        · right; right
          refine ⟨h0, h1, ?_⟩
          simp [mayR, h0, h1] at hm
          omega
        · right; left; omega
      · left; omega
    have HQ : Hid (packR o s a b c n = ⟨#[]⟩ ∧ errR o s a b c n = 4) := Lib.hid (by simp [packR, errR, hm])
    clear hm
    rcases hq with h | ⟨h, h'⟩ | ⟨h, h', h''⟩
    all_goals
      go_enter Try.func23, Try.ntmps23
      go_wp2_with fail
      go_ret2
      exact ⟨by rw [HQ.out.1, HQ.out.2]; rfl, HB.out⟩
  obtain ⟨hs0, hs1, hs2⟩ := mayR_size hm
  have hs4 : s.size ≤ 4096 := by omega
  have HZ := Lib.hid (errOf_rIt o s a b c n hs4)
  have HE : Hid (packR o s a b c n = Nm.str (rIt o s a b c n).enc ∧ errR o s a b c n = 0) := Lib.hid (by unfold packR errR; rw [if_pos hm, if_pos hm]; exact ⟨rfl, rfl⟩)
  have Hs : Hid (s.size ≤ maxLen) := Lib.hid (by simp only [maxLen]; omega)
  have hs3 : (s.size : Int) ≤ 1000 := by omega
  clear hs4 hm hs2 hs
  obtain ⟨W, hW⟩ : ∃ W, w.alloc (.cells #[.int .i64 o, .string s, .int .i64 a, .int .i64 b, .int .i64 c, .int .i64 n] 27) = W := ⟨_, rfl⟩
  have HSW : Hid (w.heap.size < W.heap.size) := Lib.hid (by rw [← hW]; simp)
  rw [hW] at HB HR
  have HW := Lib.hid hW
  clear hW
  go_enter Try.func23, Try.ntmps23
  go_wp2_with fail
  rw [HW.out]
  go_wp2_with fail
  have HA6 := Lib.hid (fun V (h : Below W.heap.size W V) => row6 ((h.block w.heap.size HSW.out).trans HR.out))
  have E0 : Hid (Below W.heap.size W W.drew) := Lib.hid (Below.refl _ W).drew
  obtain ⟨e0, e1, e2, e3, e4, e5⟩ := HA6.out _ E0.out
  go_region_held3 (fun V => V.cell? ⟨w.heap.size, 0, none⟩ = some (.int .i64 o) ∧ V.cell? ⟨w.heap.size, 1, none⟩ = some (.string s) ∧ V.cell? ⟨w.heap.size, 2, none⟩ = some (.int .i64 a) ∧ V.cell? ⟨w.heap.size, 3, none⟩ = some (.int .i64 b) ∧ V.cell? ⟨w.heap.size, 4, none⟩ = some (.int .i64 c) ∧ V.cell? ⟨w.heap.size, 5, none⟩ = some (.int .i64 n))
    (first | exact HA6.out _ BX.out | exact HA6.out _ BF.out | exact HA6.out _ (BE.out.alloc BE.out.size _) | exact HA6.out _ BE.out | exact HA6.out _ BD.out | exact HA6.out _ BB.out | exact HA6.out _ BA.out | exact HA6.out _ E0.out)
    (first
      | (go_at_call 33; (with_reducible refine (rencode_of (rIt o s a b c n) _ wF HIF.out HZ.out).mono ?_); rintro e w5 ⟨v5, rfl, b2, hv⟩; have BX : Hid (Below W.heap.size W w5) := Lib.hid (BF.out.trans (b2.mono BF.out.size)); have HCV := Lib.hid (conv_text hv); clear b2 hv; obtain ⟨fXa, fXb, fXc, fXd, fXe, fXf⟩ := HA6.out w5 BX.out)
      | (go_at_call 34; (with_reducible refine (row_any _ _ _ _).mono ?_); rintro e wF ⟨rfl, b2⟩; have BF : Hid (Below W.heap.size W wF) := Lib.hid ((BE.out.alloc BE.out.size _).trans (b2.mono (Nat.le_trans BE.out.size (by simp)))); have HIF : Hid (IsIt wF (· < wF.heap.size) (rIt o s a b c n) (.agg #[.int .i64 3, .int .i64 0, .string ⟨#[]⟩, .slice (some ⟨wE.heap.size, 0, none⟩) 4 4])) := Lib.hid (isIt_of_row (ts := [nIt o, sIt s, vIt a b c, nIt n]) (k := 4) (c := 4) b2 (rRow Ho.out Hs.out Hn.out HAL.out KE.out)); clear b2; obtain ⟨fFa, fFb, fFc, fFd, fFe, fFf⟩ := HA6.out wF BF.out)
      | (go_at_call 35; (with_reducible refine (num_any _ _).mono ?_); rintro e wE ⟨rfl, b2⟩; have BE : Hid (Below W.heap.size W wE) := Lib.hid (BD.out.trans (b2.mono BD.out.size)); have KE := Lib.hid b2; clear b2; obtain ⟨fEa, fEb, fEc, fEd, fEe, fEf⟩ := HA6.out wE BE.out)
      | (go_at_call 37; (with_reducible refine (HV.out _).mono ?_); rintro e wD ⟨v, rfl, b2, hv⟩; have BD : Hid (Below W.heap.size W wD) := Lib.hid (BB.out.trans (b2.mono BB.out.size)); have KD := Lib.hid b2; clear b2; rw [vIt, IsIt] at hv; obtain ⟨vA, vc, rfl, _, _, _, _, hal⟩ := hv; have HAL := Lib.hid hal; clear hal; obtain ⟨fDa, fDb, fDc, fDd, fDe, fDf⟩ := HA6.out wD BD.out)
      | (go_at_call 36; (with_reducible refine (str_any _ _).mono ?_); rintro e wB ⟨rfl, b2⟩; have BB : Hid (Below W.heap.size W wB) := Lib.hid (BA.out.trans (b2.mono BA.out.size)); clear b2; obtain ⟨fBa, fBb, fBc, fBd, fBe, fBf⟩ := HA6.out wB BB.out)
      | (go_at_call 35; (with_reducible refine (num_any _ _).mono ?_); rintro e wA ⟨rfl, b2⟩; have BA : Hid (Below W.heap.size W wA) := Lib.hid (E0.out.trans b2); clear b2; obtain ⟨fAa, fAb, fAc, fAd, fAe, fAf⟩ := HA6.out wA BA.out))
  all_goals
    have hcv := HCV.out
    go_wp2_with fail
    go_ret2
    exact ⟨by rw [HE.out.1, HE.out.2]; rfl, HB.out.trans (BX.out.mono HB.out.size)⟩
end Go.Proofs.Ytphclpjekpdifaa.Wi
