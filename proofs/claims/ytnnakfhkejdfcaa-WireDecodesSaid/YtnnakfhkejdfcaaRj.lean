import Derived.Test.YtnnakfhkejdfcaaRi
import Derived.StillTailTactics
import Derived.BigQuiet
namespace Go.Proofs.Ytnnakfhkejdfcaa
open Go.RowKit Pl
set_option linter.unusedVariables false

theorem qit_2 (f left : Nat) (t : List UInt8) : qit (f + 1) (left + 1) (2 :: t) = (ptext t).map fun x => (.mk 2 0 x.1 [], x.2, left) := by
  rw [qit, if_neg (by decide), if_pos rfl, ptext]
  cases pcnt t with
  | none => rfl
  | some x =>
    obtain ⟨n, r⟩ := x
    simp only []
    by_cases h1 : 4096 < n
    · rw [if_pos h1, if_pos h1]; rfl
    rw [if_neg h1, if_neg h1]
    by_cases h2 : r.length < n
    · rw [if_pos h2, if_pos h2]; rfl
    rw [if_neg h2, if_neg h2]
    rfl

theorem below_set4 (w2 : World) (R : Nat) (a b c d : Value) : Below R w2 ((((w2.setCell ⟨R, 0, none⟩ a).setCell ⟨R, 1, none⟩ b).setCell ⟨R, 2, none⟩ c).setCell ⟨R, 3, none⟩ d) :=
  ((((Below.refl R w2).setCell (Nat.le_refl _) a).setCell (Nat.le_refl _) b).setCell (Nat.le_refl _) c).setCell (Nat.le_refl _) d

theorem q_bad_end {f g : Nat} {A : Option Addr} {cap : Nat} {bs : List UInt8} {p left P : Nat} {l' : Int} {bb : Bool} {a b c d : Value} {w w2 : World} (nq : Nat) (hn : qit f left (bs.drop p) = none) (hgg : w.grownBy w2 (some g)) (hq2 : QSt w2 g A cap bs P l' bb) (hlt : g < w.heap.size) (o : Four a b c d := by exact ⟨⟨_, rfl⟩, ⟨_, rfl⟩, ⟨_, rfl⟩, ⟨_, _, _, rfl⟩⟩) :
    QItemAny f g A cap bs p left w (.returned (.agg #[a, b, c, d])) (((((((w2.drewN nq).setCell ⟨g, 3, none⟩ (.bool true)).setCell ⟨w.heap.size, 0, none⟩ a).setCell ⟨w.heap.size, 1, none⟩ b).setCell ⟨w.heap.size, 2, none⟩ c).setCell ⟨w.heap.size, 3, none⟩ d)) :=
  q_none hn (grownBy_belowB (grownBy_trans hgg (grownBy_trans (grownBy_drewN w2 nq) (grownBy_set _ _ _ _))) (below_set4 _ w.heap.size a b c d))
    (((QSt.setb (w := w2.drewN nq) hq2 true)).keep fun q hq => (below_set4 _ w.heap.size a b c d).block q (by omega)) o

theorem q_text_end {f g n I : Nat} {A : Option Addr} {cap : Nat} {bs r : List UInt8} {p left left' P : Nat} {st : ByteArray} {w W : World} (hq : qit f left (bs.drop p) = some (.mk 2 0 st [], r, left')) (hgg : w.grownBy W (some g)) (hQ : QSt W g A cap bs P (left' : Int) false) (hlt : g < w.heap.size) (hI : w.heap.size ≤ I)
    (hPn : P + n ≤ bs.length) (hst : st.size ≤ maxLen) (hr : (bs.drop P).drop n = r) :
    QItemAny f g A cap bs p left w (.returned (.agg #[.int .i64 2, .int .i64 0, .string st, .slice none 0 0]))
      ((((((W.setCell ⟨I, 2, none⟩ (.string st)).setCell ⟨g, 1, none⟩ (.int .i64 ((P : Int) + n))).setCell ⟨w.heap.size, 0, none⟩ (.int .i64 2)).setCell ⟨w.heap.size, 1, none⟩ (.int .i64 0)).setCell ⟨w.heap.size, 2, none⟩ (.string st)).setCell ⟨w.heap.size, 3, none⟩ (.slice none 0 0)).drew := by
  have hb1 : Below w.heap.size W (W.setCell ⟨I, 2, none⟩ (.string st)) := (Below.refl _ _).setCell hI _
  have hb2 := (below_set4 ((W.setCell ⟨I, 2, none⟩ (.string st)).setCell ⟨g, 1, none⟩ (.int .i64 ((P : Int) + n))) w.heap.size (.int .i64 2) (.int .i64 0) (.string st) (.slice none 0 0)).drew
  have hq2 : QSt ((W.setCell ⟨I, 2, none⟩ (.string st)).setCell ⟨g, 1, none⟩ (.int .i64 ((P : Int) + n))) g A cap bs (P + n) (left' : Int) false := by
    have := (hQ.keep fun q hq => hb1.block q (by omega)).setp (P + n) hPn
    rw [show ((P + n : Nat) : Int) = (P : Int) + n from by omega] at this
    exact this
  refine ⟨grownBy_belowB (grownBy_trans (grownBy_belowB hgg hb1) (grownBy_set _ _ _ _)) hb2, _, _, _, _, rfl, ⟨⟨_, rfl⟩, ⟨_, rfl⟩, ⟨_, rfl⟩, ⟨_, _, _, rfl⟩⟩, .inl ⟨_, _, _, P + n, hq, by rw [← List.drop_drop, hr], hq2.keep fun q hq => hb2.block q (by omega), ?_⟩⟩
  rw [IsIt]
  exact ⟨none, 0, rfl, ⟨by omega, by omega⟩, ⟨by omega, by omega⟩, hst, Nat.zero_le _, by rw [AreIts]; trivial⟩

set_option maxHeartbeats 800000 in
set_option maxRecDepth 20000 in
theorem q_text (f g : Nat) (A : Option Addr) (cap : Nat) (bs : List UInt8) (p left : Nat) (dp : Int) (w : World) (h : QSt w g A cap bs p ((left + 1 : Nat) : Int) false) (hl : (left : Int) < 4096) (hd : dp ≤ 12) (hk : bs[p]? = some 2) :
    Calls Try.prog 23 #[.pointer (some ⟨g, 0, none⟩), .int .i64 dp] w (QItemAny (f + 1) g A cap bs p (left + 1) w) := by
  have hlt := h.lt
  obtain ⟨a0, a1, a2, a3, b1, b2, b3⟩ := h.row
  rw [show ((left + 1 : Nat) : Int) = (left : Int) + 1 from by omega] at a2
  have H := Lib.hid h
  have HK := Lib.hid hk
  clear h a0 a1 hk
  go_enter Try.func23, Try.ntmps23
  go_wp2_with fail
  refine (byte_at g A cap bs p left 2 2 _ ((H.out.setl _).keep fun q hq => Below.heap_alloc _ _ q (by simp; omega)) HK.out rfl).mono ?_
  rintro e w1 ⟨rfl, hq1, hg⟩
  have hg1 : w.grownBy w1 (some g) := grownBy_trans (grownBy_set _ _ _ _) (grownBy_trans (World.grownBy_alloc _ _ _) hg)
  have hr : w1.heap[w.heap.size]? = some (.cells #[.int .i64 0, .int .i64 0, .string ⟨#[]⟩, .slice none 0 0] 26 (0, 0)) := (hg.block _ (by simp) (by simp; omega)).trans (by rw [show w.heap.size = (w.setCell ⟨g, 2, none⟩ (.int .i64 (left : Int))).heap.size from by simp]; exact heap_alloc_new _ _)
  have hs1 : w.heap.size < w1.heap.size := (Array.getElem?_eq_some_iff.1 hr).1
  have hlt1 := hq1.lt
  have HQ1 := Lib.hid hq1
  have HG1 := Lib.hid hg1
  have HR := Lib.hid hr
  clear hq1 hg1 hg hr a2 a3 b1 b2 b3
  go_wp2_with fail
  refine (count_q g A cap bs (p + 1) left _ (HQ1.out.keep fun q hq => Below.heap_alloc _ _ q (by omega))).mono ?_
  rintro e w2 ⟨n, hn, rfl, hg2, hor⟩
  obtain ⟨hR, hI⟩ := rows_item hlt (by omega) HR.out hg2
  obtain ⟨r0, r1, r2, r3, q0, q1, q2, q3⟩ := row4 hR
  obtain ⟨i0, i1, i2, i3, p0, p1, p2, p3⟩ := row4 hI
  have hgg : w.grownBy w2 (some g) := grownBy_trans HG1.out (grownBy_trans (World.grownBy_alloc _ _ _) hg2)
  have hs2 := hgg.size
  have hs3 : w1.heap.size < w2.heap.size := (Array.getElem?_eq_some_iff.1 hI).1
  have hne : w.heap.size ≠ w1.heap.size := by omega
  have hnI : (n : Int) ≤ 18446744073709551615 := by omega
  have hgR : g ≠ w.heap.size := by omega
  have hgI : g ≠ w1.heap.size := by omega
  have HGG := Lib.hid hgg
  have HRW := Lib.hid hR
  have HIW := Lib.hid hI
  clear hg2 hR hI hgg
  by_cases h4 : (4096 : Int) < n
  · have hrow : ∃ P bb, QSt w2 g A cap bs P (left : Int) bb := by
      rcases hor with ⟨_, P, _, _, hq⟩ | ⟨_, P, hq⟩
      · exact ⟨_, _, hq⟩
      · exact ⟨_, _, hq⟩
    obtain ⟨P, bb, hq2⟩ := hrow
    obtain ⟨a0, a1, a2, a3, b1, b2, b3⟩ := hq2.row
    have hnone : qit (f + 1) (left + 1) (bs.drop p) = none := by
      rw [drop_at HK.out, qit_2, ptext]
      rcases hor with ⟨_, P, hp, _, _⟩ | ⟨hp, _, _⟩
      · rw [hp]; simp only []; rw [if_pos (by omega)]; rfl
      · rw [hp]; rfl
    have HN := Lib.hid hnone
    have HQ2 := Lib.hid hq2
    clear hor hnone hq2 a0 a1 a2 b1 b2
    go_wp2_with fail
    go_quiet (fail)
    go_wp2_with fail
    refine bodyPost_ret (v := .agg #[.int .i64 2, .int .i64 0, .string ⟨#[]⟩, .slice none 0 0]) (by simp [results, Try.results23, go_sem, r0, r1, r2, r3]) rfl ?_
    exact q_bad_end nq HN.out HGG.out HQ2.out hlt
  have h4' : decide ((n : Int) > 4096) = false := by simp; omega
  have h4'' : decide ((4096 : Int) < n) = false := by simp; omega
  rcases hor with ⟨r, P, hp, hdr, hq2⟩ | ⟨hp, P, hq2⟩
  · obtain ⟨a0, a1, a2, a3, b1, b2, b3⟩ := hq2.row
    have hPle := hq2.2.1
    have hlc := hq2.2.2.1
    have hcm := hq2.2.2.2.1
    have hrl : r.length = bs.length - P := by rw [← hdr, List.length_drop]
    have hPI : (P : Int) ≤ (bs.length : Int) := by omega
    have hLI : (bs.length : Int) ≤ 9223372036854775807 := by omega
    have HQ2 := Lib.hid hq2
    have HP := Lib.hid hp
    have HDR := Lib.hid hdr
    have HRL := Lib.hid hrl
    clear hq2 hp hdr hrl a2
    by_cases h5 : (bs.length : Int) - P < n
    · have hnone : qit (f + 1) (left + 1) (bs.drop p) = none := by
        rw [drop_at HK.out, qit_2, ptext, HP.out]
        simp only []
        have := HRL.out
        rw [if_neg (by omega), if_pos (by omega)]; rfl
      have HN := Lib.hid hnone
      clear hnone
      go_wp2_with fail
      go_quiet (fail)
      go_wp2_with fail
      refine bodyPost_ret (v := .agg #[.int .i64 2, .int .i64 0, .string ⟨#[]⟩, .slice none 0 0]) (by simp [results, Try.results23, go_sem, r0, r1, r2, r3]) rfl ?_
      exact q_bad_end nq HN.out HGG.out HQ2.out hlt
    · have h5' : decide ((bs.length : Int) - P < n) = false := by simp; omega
      go_wp2_with fail
      go_quiet (fail)
      go_wp2_with fail
      generalize hW : w2.drewN nq = W at *
      have hWc : ∀ q : Nat, W.heap[q]? = w2.heap[q]? := fun q => by rw [← hW]; rfl
      have HWC := Lib.hid hWc
      have hWg : w2.grownBy W (some g) := by rw [← hW]; exact grownBy_drewN w2 nq
      have HWG := Lib.hid hWg
      have hqW : QSt W g A cap bs P (left : Int) false := HQ2.out.keep fun q _ => HWC.out q
      obtain ⟨A0, A1, A2, A3, B1, B2, B3⟩ := hqW.row
      obtain ⟨R0, R1, R2, R3, S0, S1, S2, S3⟩ := row4 ((HWC.out _).trans HRW.out)
      obtain ⟨I0, I1, I2, I3, J0, J1, J2, J3⟩ := row4 ((HWC.out _).trans HIW.out)
      have HQW := Lib.hid hqW
      have hsW : W.heap.size = w2.heap.size := by rw [← hW]; rfl
      rw [← hsW] at hs3
      clear hW hWc hWg hqW a0 a1 a3 b1 b2 b3 r0 r1 r2 r3 q0 q1 q2 q3 i0 i1 i2 i3 p0 p1 p2 p3
      have HWN := Lib.hid (IntWalk.i64_in (n : Int) ⟨by omega, by omega⟩)
      have HWP := Lib.hid (IntWalk.i64_in ((P : Int) + n) ⟨by omega, by omega⟩)
      refine wp_region_still_tail 18 (by kernel_rfl) (by kernel_rfl) ?_
      simp only [List.take_succ_cons, List.take_zero, List.drop_succ_cons, List.drop_zero]
      iterate 15 still_step
      have hPn : (P : Int) + n ≤ cap := by omega
      have hPn' : (0 : Int) ≤ (P : Int) + n := by omega
      have hPN : P ≤ ((P : Int) + n).toNat := by omega
      rw [HWN.out, HWP.out]
      still_step
      have hT : ((P : Int) + n).toNat - P = n := by omega
      rw [hT]
      have hbt : BytesAt W g (if cap = P then A else Option.map (fun x => x.add P) A) ((bs.drop P).take n) := by
        by_cases hcp : cap = P
        · rw [List.drop_of_length_le (by omega), List.take_nil]; exact BytesAt.nil _ _ _
        · rw [if_neg hcp]; exact (HQW.out.2.2.2.2.drop' P).take n
      have hcv := conv_str (w := W.drew) hbt n (cap - P) (by rw [List.length_take, List.length_drop]; omega)
      have hpt : qit (f + 1) (left + 1) (bs.drop p) = some (.mk 2 0 ⟨((bs.drop P).take n).toArray⟩ [], (bs.drop P).drop n, left) := by
        have h1 := HRL.out
        rw [drop_at HK.out, qit_2, ptext, HP.out, ← HDR.out]
        simp only []
        rw [if_neg (by omega), if_neg (by rw [HDR.out]; omega)]; rfl
      have HPT := Lib.hid hpt
      have hsl : (⟨((bs.drop P).take n).toArray⟩ : ByteArray).size ≤ maxLen := by
        rw [← size_data]; simp [maxLen]; omega
      have HSL := Lib.hid hsl
      clear hpt hbt hsl
      generalize (if cap = P then A else Option.map (fun x => x.add P) A) = A' at *
      generalize (⟨((bs.drop P).take n).toArray⟩ : ByteArray) = st at *
      iterate 2 still_step
      refine wpStill_nil ?_
      change wpList _ _ _ _ _ W.drew
      go_wp2_with fail
      refine bodyPost_ret (v := .agg #[.int .i64 2, .int .i64 0, .string st, .slice none 0 0]) (by simp [results, Try.results23, go_sem, R0, R1, R2, R3]) rfl ?_
      exact q_text_end HPT.out (grownBy_trans HGG.out HWG.out) HQW.out hlt (by omega) (by omega) HSL.out rfl
  · obtain ⟨a0, a1, a2, a3, b1, b2, b3⟩ := hq2.row
    have hnone : qit (f + 1) (left + 1) (bs.drop p) = none := by
      rw [drop_at HK.out, qit_2, ptext, hp]; rfl
    have HN := Lib.hid hnone
    have HQ2 := Lib.hid hq2
    clear hnone hq2 hp a0 a1 a2 b1 b2
    go_wp2_with fail
    go_quiet (fail)
    go_wp2_with fail
    refine bodyPost_ret (v := .agg #[.int .i64 2, .int .i64 0, .string ⟨#[]⟩, .slice none 0 0]) (by simp [results, Try.results23, go_sem, r0, r1, r2, r3]) rfl ?_
    exact q_bad_end nq HN.out HGG.out HQ2.out hlt
end Go.Proofs.Ytnnakfhkejdfcaa
