import Derived.Test.YtebacdegjmcnlaaGreatWf
import Derived.StillTailTactics
import Derived.BigQuiet
import Derived.Deep.RegionLaw
import Derived.Deep.AppendLies
import Derived.Test.YtebacdegjmcnlaaGreatWd
namespace Go.Proofs.YtebacdegjmcnlaaGreat
open Go.RowKit Pl
set_option linter.unusedVariables false
theorem qit_2 (f left : Nat) (t : List UInt8) : qit (f + 1) (left + 1) (2 :: t) = (ptext t).map fun x => (.mk 2 0 x.1 [], x.2, left) := by
  rw [qit, if_neg (by decide), if_pos rfl, ptext]
  cases pcnt t with
  | none => rfl
  | some x =>
    obtain ⟨n, r⟩ := x
    simp only []
    by_cases h1 : 4096 < n
    · rw [if_pos h1, if_pos h1]; rfl
    rw [if_neg h1, if_neg h1]
    by_cases h2 : r.length < n
    · rw [if_pos h2, if_pos h2]; rfl
    rw [if_neg h2, if_neg h2]
    rfl
theorem below_set4 (w2 : World) (R : Nat) (a b c d : Value) : Below R w2 ((((w2.setCell ⟨R, 0, none⟩ a).setCell ⟨R, 1, none⟩ b).setCell ⟨R, 2, none⟩ c).setCell ⟨R, 3, none⟩ d) :=
  ((((Below.refl R w2).setCell (Nat.le_refl _) a).setCell (Nat.le_refl _) b).setCell (Nat.le_refl _) c).setCell (Nat.le_refl _) d
theorem q_bad_end {f g : Nat} {A : Option Addr} {cap : Nat} {bs : List UInt8} {p left P : Nat} {l' : Int} {bb : Bool} {a b c d : Value} {w w2 : World} (nq : Nat) (hn : qit f left (bs.drop p) = none) (hgg : w.grownBy w2 (some g)) (hq2 : QSt w2 g A cap bs P l' bb) (hlt : g < w.heap.size) (o : Four a b c d := by exact ⟨⟨_, rfl⟩, ⟨_, rfl⟩, ⟨_, rfl⟩, ⟨_, _, _, rfl⟩⟩) :
    QItemAny f g A cap bs p left w (.returned (.agg #[a, b, c, d])) (((((((w2.drewN nq).setCell ⟨g, 3, none⟩ (.bool true)).setCell ⟨w.heap.size, 0, none⟩ a).setCell ⟨w.heap.size, 1, none⟩ b).setCell ⟨w.heap.size, 2, none⟩ c).setCell ⟨w.heap.size, 3, none⟩ d)) :=
  q_none hn (grownBy_belowB (grownBy_trans hgg (grownBy_trans (grownBy_drewN w2 nq) (grownBy_set _ _ _ _))) (below_set4 _ w.heap.size a b c d))
    (((QSt.setb (w := w2.drewN nq) hq2 true)).keep fun q hq => (below_set4 _ w.heap.size a b c d).block q (by omega)) o
theorem q_text_end {f g n I : Nat} {A : Option Addr} {cap : Nat} {bs r : List UInt8} {p left left' P : Nat} {st : ByteArray} {w W : World} (hq : qit f left (bs.drop p) = some (.mk 2 0 st [], r, left')) (hgg : w.grownBy W (some g)) (hQ : QSt W g A cap bs P (left' : Int) false) (hlt : g < w.heap.size) (hI : w.heap.size ≤ I)
    (hPn : P + n ≤ bs.length) (hst : st.size ≤ maxLen) (hr : (bs.drop P).drop n = r) :
    QItemAny f g A cap bs p left w (.returned (.agg #[.int .i64 2, .int .i64 0, .string st, .slice none 0 0]))
      ((((((W.setCell ⟨I, 2, none⟩ (.string st)).setCell ⟨g, 1, none⟩ (.int .i64 ((P : Int) + n))).setCell ⟨w.heap.size, 0, none⟩ (.int .i64 2)).setCell ⟨w.heap.size, 1, none⟩ (.int .i64 0)).setCell ⟨w.heap.size, 2, none⟩ (.string st)).setCell ⟨w.heap.size, 3, none⟩ (.slice none 0 0)).drew := by
  have hb1 : Below w.heap.size W (W.setCell ⟨I, 2, none⟩ (.string st)) := (Below.refl _ _).setCell hI _
  have hb2 := (below_set4 ((W.setCell ⟨I, 2, none⟩ (.string st)).setCell ⟨g, 1, none⟩ (.int .i64 ((P : Int) + n))) w.heap.size (.int .i64 2) (.int .i64 0) (.string st) (.slice none 0 0)).drew
  have hq2 : QSt ((W.setCell ⟨I, 2, none⟩ (.string st)).setCell ⟨g, 1, none⟩ (.int .i64 ((P : Int) + n))) g A cap bs (P + n) (left' : Int) false := by
    have := (hQ.keep fun q hq => hb1.block q (by omega)).setp (P + n) hPn
    rw [show ((P + n : Nat) : Int) = (P : Int) + n from by omega] at this
    exact this
  refine ⟨grownBy_belowB (grownBy_trans (grownBy_belowB hgg hb1) (grownBy_set _ _ _ _)) hb2, _, _, _, _, rfl, ⟨⟨_, rfl⟩, ⟨_, rfl⟩, ⟨_, rfl⟩, ⟨_, _, _, rfl⟩⟩, .inl ⟨_, _, _, P + n, hq, by rw [← List.drop_drop, hr], hq2.keep fun q hq => hb2.block q (by omega), ?_⟩⟩
  rw [IsIt]
  exact ⟨none, 0, rfl, ⟨by omega, by omega⟩, ⟨by omega, by omega⟩, hst, Nat.zero_le _, by rw [AreIts]; trivial⟩
set_option maxHeartbeats 800000 in
set_option maxRecDepth 20000 in
theorem q_text (f g : Nat) (A : Option Addr) (cap : Nat) (bs : List UInt8) (p left : Nat) (dp : Int) (w : World) (h : QSt w g A cap bs p ((left + 1 : Nat) : Int) false) (hl : (left : Int) < 4096) (hd : dp ≤ 12) (hk : bs[p]? = some 2) :
    Calls Tryz.prog 37 #[.pointer (some ⟨g, 0, none⟩), .int .i64 dp] w (QItemAny (f + 1) g A cap bs p (left + 1) w) := by
  have hlt := h.lt
  obtain ⟨a0, a1, a2, a3, b1, b2, b3⟩ := h.row
  rw [show ((left + 1 : Nat) : Int) = (left : Int) + 1 from by omega] at a2
  have H := Lib.hid h
  have HK := Lib.hid hk
  clear h a0 a1 hk
  go_enter Tryz.func37, Tryz.ntmps37
  go_wp2_with fail
  refine (byte_at g A cap bs p left 2 2 _ ((H.out.setl _).keep fun q hq => Below.heap_alloc _ _ q (by simp; omega)) HK.out rfl).mono ?_
  rintro e w1 ⟨rfl, hq1, hg⟩
  have hg1 : w.grownBy w1 (some g) := grownBy_trans (grownBy_set _ _ _ _) (grownBy_trans (World.grownBy_alloc _ _ _) hg)
  have hr : w1.heap[w.heap.size]? = some (.cells #[.int .i64 0, .int .i64 0, .string ⟨#[]⟩, .slice none 0 0] 50 (0, 0)) := (hg.block _ (by simp) (by simp; omega)).trans (by rw [show w.heap.size = (w.setCell ⟨g, 2, none⟩ (.int .i64 (left : Int))).heap.size from by simp]; exact heap_alloc_new _ _)
  have hs1 : w.heap.size < w1.heap.size := (Array.getElem?_eq_some_iff.1 hr).1
  have hlt1 := hq1.lt
  have HQ1 := Lib.hid hq1
  have HG1 := Lib.hid hg1
  have HR := Lib.hid hr
  clear hq1 hg1 hg hr a2 a3 b1 b2 b3
  go_wp2_with fail
  refine (count_q g A cap bs (p + 1) left _ (HQ1.out.keep fun q hq => Below.heap_alloc _ _ q (by omega))).mono ?_
  rintro e w2 ⟨n, hn, rfl, hg2, hor⟩
  obtain ⟨hR, hI⟩ := rows_item hlt (by omega) HR.out hg2
  obtain ⟨r0, r1, r2, r3, q0, q1, q2, q3⟩ := row4 hR
  obtain ⟨i0, i1, i2, i3, p0, p1, p2, p3⟩ := row4 hI
  have hgg : w.grownBy w2 (some g) := grownBy_trans HG1.out (grownBy_trans (World.grownBy_alloc _ _ _) hg2)
  have hs2 := hgg.size
  have hs3 : w1.heap.size < w2.heap.size := (Array.getElem?_eq_some_iff.1 hI).1
  have hne : w.heap.size ≠ w1.heap.size := by omega
  have hnI : (n : Int) ≤ 18446744073709551615 := by omega
  have hgR : g ≠ w.heap.size := by omega
  have hgI : g ≠ w1.heap.size := by omega
  have HGG := Lib.hid hgg
  have HRW := Lib.hid hR
  have HIW := Lib.hid hI
  clear hg2 hR hI hgg
  by_cases h4 : (4096 : Int) < n
  · have hrow : ∃ P bb, QSt w2 g A cap bs P (left : Int) bb := by
      rcases hor with ⟨_, P, _, _, hq⟩ | ⟨_, P, hq⟩
      · exact ⟨_, _, hq⟩
      · exact ⟨_, _, hq⟩
    obtain ⟨P, bb, hq2⟩ := hrow
    obtain ⟨a0, a1, a2, a3, b1, b2, b3⟩ := hq2.row
    have hnone : qit (f + 1) (left + 1) (bs.drop p) = none := by
      rw [drop_at HK.out, qit_2, ptext]
      rcases hor with ⟨_, P, hp, _, _⟩ | ⟨hp, _, _⟩
      · rw [hp]; simp only []; rw [if_pos (by omega)]; rfl
      · rw [hp]; rfl
    have HN := Lib.hid hnone
    have HQ2 := Lib.hid hq2
    clear hor hnone hq2 a0 a1 a2 b1 b2
    go_wp2_with fail
    go_quiet (fail)
    go_wp2_with fail
    refine bodyPost_ret (v := .agg #[.int .i64 2, .int .i64 0, .string ⟨#[]⟩, .slice none 0 0]) (by simp [results, Tryz.results37, go_sem, r0, r1, r2, r3]) rfl ?_
    exact q_bad_end nq HN.out HGG.out HQ2.out hlt
  have h4' : decide ((n : Int) > 4096) = false := by simp; omega
  have h4'' : decide ((4096 : Int) < n) = false := by simp; omega
  rcases hor with ⟨r, P, hp, hdr, hq2⟩ | ⟨hp, P, hq2⟩
  · obtain ⟨a0, a1, a2, a3, b1, b2, b3⟩ := hq2.row
    have hPle := hq2.2.1
    have hlc := hq2.2.2.1
    have hcm := hq2.2.2.2.1
    have hrl : r.length = bs.length - P := by rw [← hdr, List.length_drop]
    have hPI : (P : Int) ≤ (bs.length : Int) := by omega
    have hLI : (bs.length : Int) ≤ 9223372036854775807 := by omega
    have HQ2 := Lib.hid hq2
    have HP := Lib.hid hp
    have HDR := Lib.hid hdr
    have HRL := Lib.hid hrl
    clear hq2 hp hdr hrl a2
    by_cases h5 : (bs.length : Int) - P < n
    · have hnone : qit (f + 1) (left + 1) (bs.drop p) = none := by
        rw [drop_at HK.out, qit_2, ptext, HP.out]
        simp only []
        have := HRL.out
        rw [if_neg (by omega), if_pos (by omega)]; rfl
      have HN := Lib.hid hnone
      clear hnone
      go_wp2_with fail
      go_quiet (fail)
      go_wp2_with fail
      refine bodyPost_ret (v := .agg #[.int .i64 2, .int .i64 0, .string ⟨#[]⟩, .slice none 0 0]) (by simp [results, Tryz.results37, go_sem, r0, r1, r2, r3]) rfl ?_
      exact q_bad_end nq HN.out HGG.out HQ2.out hlt
    · have h5' : decide ((bs.length : Int) - P < n) = false := by simp; omega
      go_wp2_with fail
      go_quiet (fail)
      go_wp2_with fail
      generalize hW : w2.drewN nq = W at *
      have hWc : ∀ q : Nat, W.heap[q]? = w2.heap[q]? := fun q => by rw [← hW]; rfl
      have HWC := Lib.hid hWc
      have hWg : w2.grownBy W (some g) := by rw [← hW]; exact grownBy_drewN w2 nq
      have HWG := Lib.hid hWg
      have hqW : QSt W g A cap bs P (left : Int) false := HQ2.out.keep fun q _ => HWC.out q
      obtain ⟨A0, A1, A2, A3, B1, B2, B3⟩ := hqW.row
      obtain ⟨R0, R1, R2, R3, S0, S1, S2, S3⟩ := row4 ((HWC.out _).trans HRW.out)
      obtain ⟨I0, I1, I2, I3, J0, J1, J2, J3⟩ := row4 ((HWC.out _).trans HIW.out)
      have HQW := Lib.hid hqW
      have hsW : W.heap.size = w2.heap.size := by rw [← hW]; rfl
      rw [← hsW] at hs3
      clear hW hWc hWg hqW a0 a1 a3 b1 b2 b3 r0 r1 r2 r3 q0 q1 q2 q3 i0 i1 i2 i3 p0 p1 p2 p3
      have HWN := Lib.hid (IntWalk.i64_in (n : Int) ⟨by omega, by omega⟩)
      have HWP := Lib.hid (IntWalk.i64_in ((P : Int) + n) ⟨by omega, by omega⟩)
      refine wp_region_still_tail 18 (by kernel_rfl) (by kernel_rfl) ?_
      simp only [List.take_succ_cons, List.take_zero, List.drop_succ_cons, List.drop_zero]
      iterate 15 still_step
      have hPn : (P : Int) + n ≤ cap := by omega
      have hPn' : (0 : Int) ≤ (P : Int) + n := by omega
      have hPN : P ≤ ((P : Int) + n).toNat := by omega
      rw [HWN.out, HWP.out]
      still_step
      have hT : ((P : Int) + n).toNat - P = n := by omega
      rw [hT]
      have hbt : BytesAt W g (if cap = P then A else Option.map (fun x => x.add P) A) ((bs.drop P).take n) := by
        by_cases hcp : cap = P
        · rw [List.drop_of_length_le (by omega), List.take_nil]; exact BytesAt.nil _ _ _
        · rw [if_neg hcp]; exact (HQW.out.2.2.2.2.drop' P).take n
      have hcv := conv_str (w := W.drew) hbt n (cap - P) (by rw [List.length_take, List.length_drop]; omega)
      have hpt : qit (f + 1) (left + 1) (bs.drop p) = some (.mk 2 0 ⟨((bs.drop P).take n).toArray⟩ [], (bs.drop P).drop n, left) := by
        have h1 := HRL.out
        rw [drop_at HK.out, qit_2, ptext, HP.out, ← HDR.out]
        simp only []
        rw [if_neg (by omega), if_neg (by rw [HDR.out]; omega)]; rfl
      have HPT := Lib.hid hpt
      have hsl : (⟨((bs.drop P).take n).toArray⟩ : ByteArray).size ≤ maxLen := by
        rw [← size_data]; simp [maxLen]; omega
      have HSL := Lib.hid hsl
      clear hpt hbt hsl
      generalize (if cap = P then A else Option.map (fun x => x.add P) A) = A' at *
      generalize (⟨((bs.drop P).take n).toArray⟩ : ByteArray) = st at *
      iterate 2 still_step
      refine wpStill_nil ?_
      change wpList _ _ _ _ _ W.drew
      go_wp2_with fail
      refine bodyPost_ret (v := .agg #[.int .i64 2, .int .i64 0, .string st, .slice none 0 0]) (by simp [results, Tryz.results37, go_sem, R0, R1, R2, R3]) rfl ?_
      exact q_text_end HPT.out (grownBy_trans HGG.out HWG.out) HQW.out hlt (by omega) (by omega) HSL.out rfl
  · obtain ⟨a0, a1, a2, a3, b1, b2, b3⟩ := hq2.row
    have hnone : qit (f + 1) (left + 1) (bs.drop p) = none := by
      rw [drop_at HK.out, qit_2, ptext, hp]; rfl
    have HN := Lib.hid hnone
    have HQ2 := Lib.hid hq2
    clear hnone hq2 hp a0 a1 a2 b1 b2
    go_wp2_with fail
    go_quiet (fail)
    go_wp2_with fail
    refine bodyPost_ret (v := .agg #[.int .i64 2, .int .i64 0, .string ⟨#[]⟩, .slice none 0 0]) (by simp [results, Tryz.results37, go_sem, r0, r1, r2, r3]) rfl ?_
    exact q_bad_end nq HN.out HGG.out HQ2.out hlt
end Go.Proofs.YtebacdegjmcnlaaGreat
namespace Go.Proofs.YtebacdegjmcnlaaGreat
open Go.RowKit Pl
set_option linter.unusedVariables false
/-- append of one item that stands in four cells, in a region that draws its order -/
theorem step_app4 {ops : Array Oper} {o : Oper} {a : Act} {K : Act → World → Prop} {Q : Exit → Act → World → Prop} {E : Prop} {w : World} (hgd : o.guard = none) (s x : Operand)
    (ho : o.op = .call { callee := .builtin .append, args := #[s, x], argTypes := #[48, 48] })
    (base : Nat) (v : Value) (n : Nat) (xs : List Value) (hs : a.eval s = v) (hown : w.ownsRow base 50 4 v n xs) (ad : Addr) (c : Nat) (hx : a.eval x = .slice (some ad) 1 c)
    (u0 u1 u2 u3 : Value) (hnews : ∀ j u, [u0, u1, u2, u3][j]? = some u → w.cell? (ad.add j) = some u)
    (o0 : u0.oneCell' = true) (o1 : u1.oneCell' = true) (o2 : u2.oneCell' = true) (o3 : u3.oneCell' = true) (hlen : n ≤ 4096) (hbase : base ≤ w.heap.size) (H : Nat) (hH : w.heap.size = H)
    (h : ∀ gg cap w', w'.ownsRow base 50 4 (.slice (some ⟨gg, 0, none⟩) (n + 1) cap) (n + 1) (xs ++ [u0, u1, u2, u3]) → w.grownBy w' v.ownBlock → (v.ownBlock = some gg ∨ gg = H) → gg < w'.heap.size → K (a.put o.dst (.slice (some ⟨gg, 0, none⟩) (n + 1) cap)) w') :
    if Region.wanted o (yielded ops a.tmps) = true then Oper.wp Tryz.prog o a w K Q else E := by
  obtain ⟨i, hi, hz0, hz1, hz2⟩ := info_parts info26
  exact step_append_lies w hgd s x 48 ho base 50 i _ 4 56 Tryz.underlying48 hi hz0 hz1 hz2 rfl (by omega) v n xs hs hown ad 1 c [u0, u1, u2, u3] hx rfl hnews
    (fun u hu => by
      simp only [List.mem_cons, List.not_mem_nil, or_false] at hu
      rcases hu with rfl | rfl | rfl | rfl <;> assumption)
    (by omega) (by simp only [maxLen]; omega) (by omega) hbase H hH h
def QL (f n g : Nat) (A : Option Addr) (cap : Nat) (bs : List UInt8) (full : Option (List It × List UInt8 × Nat)) (I : Nat) (w : World) (kv : Value) (wr : World) : Prop :=
  ∃ (j : Nat) (u : Value), j ≤ n ∧ kv = .int .u64 j ∧ (∃ ua un uc, u = .slice ua un uc) ∧ w.grownBy wr (some g) ∧
   wr.heap[w.heap.size]? = some (.cells #[.int .i64 0, .int .i64 0, .string ⟨#[]⟩, .slice none 0 0] 50 (0, 0)) ∧
   wr.heap[I]? = some (.cells #[.int .i64 3, .int .i64 0, .string ⟨#[]⟩, u] 50 (0, 0)) ∧
   ((∃ ts p' l' xs, ts.length = j ∧ full = (pmany (qit f) (n - j) l' (bs.drop p')).map (fun x => (ts ++ x.1, x.2)) ∧ QSt wr g A cap bs p' (l' : Int) false ∧ l' ≤ 4096 ∧ wr.ownsRow (I + 1) 50 4 u j xs ∧ ItsIn wr (fun q => (I < q ∧ q < wr.heap.size) ∧ u.ownBlock ≠ some q) ts xs)
    ∨ (full = none ∧ ∃ p' l', QSt wr g A cap bs p' l' true))
theorem ql_no {f n j l' : Nat} {bs : List UInt8} {ts : List It} {full : Option (List It × List UInt8 × Nat)} (hj : j < n) (hf : full = (pmany (qit f) (n - j) l' bs).map (fun x => (ts ++ x.1, x.2))) (hp : qit f l' bs = none) : full = none := by
  rw [hf, show n - j = (n - j - 1) + 1 from by omega, pmany, hp]; rfl
theorem ql_yes {f n j left left' : Nat} {bs r : List UInt8} {t : It} {ts : List It} {full : Option (List It × List UInt8 × Nat)} (hj : j < n) (hf : full = (pmany (qit f) (n - j) left bs).map (fun x => (ts ++ x.1, x.2))) (hp : qit f left bs = some (t, r, left')) :
    full = (pmany (qit f) (n - (j + 1)) left' r).map (fun x => (ts ++ [t] ++ x.1, x.2)) := by
  rw [hf, show n - j = (n - (j + 1)) + 1 from by omega, pmany, hp]
  simp only []
  cases pmany (qit f) (n - (j + 1)) left' r with
  | none => rfl
  | some y => obtain ⟨a, b, c⟩ := y; simp
theorem qit_left {f left left' : Nat} {bs r : List UInt8} {t : It} (h : qit f left bs = some (t, r, left')) : left' ≤ left := by
  obtain ⟨_, _, a, b, _⟩ := of_qit f bs left t r left' h
  omega
theorem ql_step {f n g j I : Nat} {A : Option Addr} {cap : Nat} {bs : List UInt8} {p' l' : Nat} {ts : List It} {xs : List Value} {full : Option (List It × List UInt8 × Nat)} {w wr w4 w6 : World} {u a b c d : Value} {gg cc : Nat} {o : Obj}
    (hj : j < n) (hts : ts.length = j) (hf : full = (pmany (qit f) (n - j) l' (bs.drop p')).map (fun x => (ts ++ x.1, x.2))) (hl : l' ≤ 4096) (hgw : g < w.heap.size) (hI : w.heap.size < I)
    (hgr : w.grownBy wr (some g)) (hR : wr.heap[w.heap.size]? = some (.cells #[.int .i64 0, .int .i64 0, .string ⟨#[]⟩, .slice none 0 0] 50 (0, 0)))
    (hIr : wr.heap[I]? = some (.cells #[.int .i64 3, .int .i64 0, .string ⟨#[]⟩, u] 50 (0, 0)))
    (hown : wr.ownsRow (I + 1) 50 4 u j xs) (hits : ItsIn wr (fun q => (I < q ∧ q < wr.heap.size) ∧ u.ownBlock ≠ some q) ts xs)
    (hg4 : wr.grownBy w4 (some g))
    (hor : (∃ t r l2 p2, qit f l' (bs.drop p') = some (t, r, l2) ∧ bs.drop p2 = r ∧ QSt w4 g A cap bs p2 (l2 : Int) false ∧ IsIt w4 (NewB wr w4) t (.agg #[a, b, c, d])) ∨ (qit f l' (bs.drop p') = none ∧ ∃ p2 l2, QSt w4 g A cap bs p2 l2 true))
    (hown6 : w6.ownsRow (I + 1) 50 4 (.slice (some ⟨gg, 0, none⟩) (j + 1) cc) (j + 1) (xs ++ [a, b, c, d])) (hg6 : (w4.alloc o).grownBy w6 u.ownBlock) (hat : u.ownBlock = some gg ∨ gg = w4.heap.size + 1) :
    QL f n g A cap bs full I w (.int .u64 ((j : Int) + 1)) (w6.setCell ⟨I, 3, none⟩ (.slice (some ⟨gg, 0, none⟩) (j + 1) cc)) := by
  have hlt := hown.lt
  have hIs : I < wr.heap.size := (Array.getElem?_eq_some_iff.1 hIr).1
  have s1 := hgr.size
  have s2 := hg4.size
  have s3 : w4.heap.size + 1 ≤ w6.heap.size := by have := hg6.size; simpa using this
  have hsz : (w4.alloc o).heap.size = w4.heap.size + 1 := World.size_alloc _ _
  have hggI : I < gg := by
    rcases hat with h | h
    · have := (hlt gg h).1; omega
    · omega
  have k46 : ∀ q, q < w4.heap.size → u.ownBlock ≠ some q → w6.heap[q]? = w4.heap[q]? := fun q hq hne =>
    (hg6.block q (by omega) (fun e => hne e.symm)).trans (Below.heap_alloc _ _ q hq)
  have kset : ∀ q, q ≠ I → (w6.setCell ⟨I, 3, none⟩ (.slice (some ⟨gg, 0, none⟩) (j + 1) cc)).heap[q]? = w6.heap[q]? := fun q hq => Below.heap_setCell _ _ _ q hq
  have k47 : ∀ q, q < w4.heap.size → u.ownBlock ≠ some q → q ≠ I → (w6.setCell ⟨I, 3, none⟩ (.slice (some ⟨gg, 0, none⟩) (j + 1) cc)).heap[q]? = w4.heap[q]? := fun q hq hne hI => (kset q hI).trans (k46 q hq hne)
  have hnu : ∀ q, q ≤ I → u.ownBlock ≠ some q := fun q hq e => by have := (hlt q e).1; omega
  have hIr4 : w4.heap[I]? = some (.cells #[.int .i64 3, .int .i64 0, .string ⟨#[]⟩, u] 50 (0, 0)) := (hg4.block I hIs (by simp; omega)).trans hIr
  have hgrow : w.grownBy (w6.setCell ⟨I, 3, none⟩ (.slice (some ⟨gg, 0, none⟩) (j + 1) cc)) (some g) := by
    have hw4 := grownBy_trans hgr hg4
    exact ⟨hg6.os.trans hw4.os, hg6.tape.trans hw4.tape, hg6.output.trans hw4.output, by simp; omega, fun q hq hne => (k47 q (by omega) (hnu q (by omega)) (by omega)).trans (hw4.block q hq hne)⟩
  refine ⟨j + 1, .slice (some ⟨gg, 0, none⟩) (j + 1) cc, by omega, by rw [Int.natCast_add]; rfl, ⟨_, _, _, rfl⟩, hgrow, ?_, ?_, ?_⟩
  · exact (k47 _ (by omega) (hnu _ (by omega)) (by omega)).trans ((hg4.block _ (by omega) (by simp; omega)).trans hR)
  · exact heap_set w6 I 3 _ _ _ ((k46 I (by omega) (hnu I (Nat.le_refl _))).trans hIr4)
  · rcases hor with ⟨t, r, l2, p2, hp, hd, hq, hit⟩ | ⟨hp, p2, l2, hq⟩
    · refine .inl ⟨ts ++ [t], p2, l2, xs ++ [a, b, c, d], by simp [hts], ?_, hq.keep fun q hq => k47 q (by omega) (hnu q (by omega)) (by omega), Nat.le_trans (qit_left hp) hl, ownsRow_keep hown6 fun q hq => kset q (by have := (hown6.lt q hq).1; omega), ?_⟩
      · rw [hd]; exact ql_yes hj hf hp
      · refine ItsIn.snoc ?_ (ItsIn.keep (w := wr) (S := fun q => (I < q ∧ q < wr.heap.size) ∧ u.ownBlock ≠ some q) ?_ ?_ hits)
        · refine IsIt.mono (fun q hq => ?_) t (IsIt.keep (fun q hq => k47 q hq.2 (fun e => by have := (hlt q e).2; have := hq.1; omega) (by have := hq.1; omega)) t hit)
          refine ⟨⟨by have := hq.1; omega, by have := hq.2; simp; omega⟩, ?_⟩
          simp only [Value.ownBlock, ne_eq, Option.some.injEq]
          have h1 := hq.1
          have h2 := hq.2
          rcases hat with h | h
          · have := (hlt gg h).2; omega
          · omega
        · intro q hq
          exact (k47 q (by omega) hq.2 (by omega)).trans (hg4.block q hq.1.2 (by simp; omega))
        · intro q hq
          refine ⟨⟨hq.1.1, by have := hq.1.2; simp; omega⟩, ?_⟩
          simp only [Value.ownBlock, ne_eq, Option.some.injEq]
          rcases hat with h | h
          · intro e; exact hq.2 (by rw [h, e])
          · have := hq.1.2; omega
    · exact .inr ⟨ql_no hj hf hp, p2, l2, hq.keep fun q hq => k47 q (by omega) (hnu q (by omega)) (by omega)⟩
theorem QL.drew {f n g : Nat} {A : Option Addr} {cap : Nat} {bs : List UInt8} {full : Option (List It × List UInt8 × Nat)} {I : Nat} {w : World} {kv : Value} {wr : World} (h : QL f n g A cap bs full I w kv wr) : QL f n g A cap bs full I w kv wr.drew := by
  obtain ⟨j, u, h1, h2, h3, h4, h5, h6, h7⟩ := h
  refine ⟨j, u, h1, h2, h3, ⟨h4.os, h4.tape, h4.output, h4.size, h4.block⟩, h5, h6, ?_⟩
  rcases h7 with ⟨ts, p', l', xs, c1, c2, c3, c4, c5, c6⟩ | ⟨c1, p', l', c2⟩
  · exact .inl ⟨ts, p', l', xs, c1, c2, c3.keep fun _ _ => rfl, c4, ownsRow_keep c5 fun _ _ => rfl, ItsIn.keep (w := wr) (w' := wr.drew) (S := fun q => (I < q ∧ q < wr.heap.size) ∧ u.ownBlock ≠ some q) (fun _ _ => rfl) (fun _ h => h) c6⟩
  · exact .inr ⟨c1, p', l', c2.keep fun _ _ => rfl⟩
/-- a list whose items are all read -/
theorem ql_fin {f g p left P lf I : Nat} {A : Option Addr} {cap : Nat} {bs r : List UInt8} {ts : List It} {xs : List Value} {w wr : World} {u : Value} (hq : qit f left (bs.drop p) = some (.mk 3 0 ⟨#[]⟩ ts, r, lf)) (hr : bs.drop P = r) (hQ : QSt wr g A cap bs P (lf : Int) false) (hgw : g < w.heap.size) (hI : w.heap.size < I) (hl : ts.length ≤ 4096) (hone : ∃ x y z, u = .slice x y z)
    (hown : wr.ownsRow (I + 1) 50 4 u ts.length xs) (hits : ItsIn wr (fun q => (I < q ∧ q < wr.heap.size) ∧ u.ownBlock ≠ some q) ts xs) (hg : w.grownBy wr (some g)) :
    QItemAny f g A cap bs p left w (.returned (.agg #[.int .i64 3, .int .i64 0, .string ⟨#[]⟩, u]))
      ((((wr.setCell ⟨w.heap.size, 0, none⟩ (.int .i64 3)).setCell ⟨w.heap.size, 1, none⟩ (.int .i64 0)).setCell ⟨w.heap.size, 2, none⟩ (.string ⟨#[]⟩)).setCell ⟨w.heap.size, 3, none⟩ u) := by
  have hb := below_set4 wr w.heap.size (.int .i64 3) (.int .i64 0) (.string ⟨#[]⟩) u
  have hfar : ∀ q, q ≠ w.heap.size → ((((wr.setCell ⟨w.heap.size, 0, none⟩ (.int .i64 3)).setCell ⟨w.heap.size, 1, none⟩ (.int .i64 0)).setCell ⟨w.heap.size, 2, none⟩ (.string ⟨#[]⟩)).setCell ⟨w.heap.size, 3, none⟩ u).heap[q]? = wr.heap[q]? := fun q hq => by
    rw [Below.heap_setCell _ _ _ _ hq, Below.heap_setCell _ _ _ _ hq, Below.heap_setCell _ _ _ _ hq, Below.heap_setCell _ _ _ _ hq]
  refine ⟨grownBy_belowB hg hb, _, _, _, _, rfl, ⟨⟨_, rfl⟩, ⟨_, rfl⟩, ⟨_, rfl⟩, hone⟩, .inl ⟨_, r, lf, P, hq, hr, hQ.keep fun q hq => hb.block q (by omega), ?_⟩⟩
  have hm : ∀ q, (I < q ∧ q < wr.heap.size) → NewB w ((((wr.setCell ⟨w.heap.size, 0, none⟩ (.int .i64 3)).setCell ⟨w.heap.size, 1, none⟩ (.int .i64 0)).setCell ⟨w.heap.size, 2, none⟩ (.string ⟨#[]⟩)).setCell ⟨w.heap.size, 3, none⟩ u) q := fun q hq => ⟨by omega, by simp; omega⟩
  have hown0 := hown
  rw [IsIt]
  rcases hown.2 with ⟨rfl, h0⟩ | ⟨b, cc, cur, rfl, hb2, hh, _⟩
  · obtain rfl : ts = [] := List.eq_nil_of_length_eq_zero (by omega)
    exact ⟨none, 0, rfl, ⟨by omega, by omega⟩, ⟨by omega, by omega⟩, Nat.zero_le _, by simp [maxLen], by rw [AreIts]; trivial⟩
  · refine ⟨some ⟨b, 0, none⟩, cc, rfl, ⟨by omega, by omega⟩, ⟨by omega, by omega⟩, Nat.zero_le _, by simp only [maxLen]; omega, ?_⟩
    refine AreIts.mono hm ts (AreIts.keep (w := wr) (S := fun q => I < q ∧ q < wr.heap.size) (fun q hq => hfar q (by omega)) ts ?_)
    refine ItsIn.are (b := b) ⟨by omega, (Array.getElem?_eq_some_iff.1 hh).1⟩ (ItsIn.keep (fun _ _ => rfl) (fun q hq => hq.1) hits) fun q v hv => ?_
    have := hown0.cells (g := b) rfl q v hv
    unfold Addr.add at this
    split at this
    · subst q; simpa using this
    · simpa using this
theorem q_keep6 {w4 w6 : World} {o : Obj} {I j : Nat} {u x : Value} {xs : List Value} (hg : (w4.alloc o).grownBy w6 u.ownBlock) (h : w4.cell? ⟨I, 3, none⟩ = some x ∧ w4.frozen? ⟨I, 3, none⟩ = false) (hI : I < w4.heap.size) (hown : w4.ownsRow (I + 1) 50 4 u j xs) :
    w6.cell? ⟨I, 3, none⟩ = some x ∧ w6.frozen? ⟨I, 3, none⟩ = false := by
  have hb : w6.heap[I]? = w4.heap[I]? := (hg.block I (by simp; omega) (fun e => by have := (hown.lt I e.symm).1; omega)).trans (Below.heap_alloc w4 o I hI)
  exact ⟨(World.cell?_of_block hb).trans h.1, (World.frozen?_of_block hb).trans h.2⟩
theorem qit_3 (f left : Nat) (t : List UInt8) : qit (f + 1) (left + 1) (3 :: t) = match pcnt t with
      | none => none
      | some (n, r) => if 4096 < n then none else (pmany (qit f) n left r).map fun x => (.mk 3 0 ⟨#[]⟩ x.1, x.2.1, x.2.2) := by
  rw [qit, if_neg (by decide), if_neg (by decide), if_pos rfl]
  cases pcnt t with
  | none => rfl
  | some x =>
    obtain ⟨n, r⟩ := x
    simp only []
    by_cases h1 : 4096 < n
    · rw [if_pos h1, if_pos h1]
    rw [if_neg h1, if_neg h1]
    cases pmany (qit f) n left r with
    | none => rfl
    | some y => obtain ⟨a, b, c⟩ := y; rfl
set_option maxHeartbeats 800000 in
set_option maxRecDepth 20000 in
theorem q_list (f g : Nat) (ih : QItemAll f) (A : Option Addr) (cap : Nat) (bs : List UInt8) (p left : Nat) (dp : Int) (w : World) (h : QSt w g A cap bs p ((left + 1 : Nat) : Int) false) (hl : (left : Int) < 4096) (hd0 : 0 ≤ dp) (hd : dp ≤ 12) (hdf : dp + f = 12) (hk : bs[p]? = some 3) :
    Calls Tryz.prog 37 #[.pointer (some ⟨g, 0, none⟩), .int .i64 dp] w (QItemAny (f + 1) g A cap bs p (left + 1) w) := by
  have hlt := h.lt
  obtain ⟨a0, a1, a2, a3, b1, b2, b3⟩ := h.row
  rw [show ((left + 1 : Nat) : Int) = (left : Int) + 1 from by omega] at a2
  have H := Lib.hid h
  have HK := Lib.hid hk
  have HIH := Lib.hid ih
  have HDF := Lib.hid hdf
  clear h a0 a1 hk ih hdf
  go_enter Tryz.func37, Tryz.ntmps37
  go_wp2_with fail
  refine (byte_at g A cap bs p left 3 3 _ ((H.out.setl _).keep fun q hq => Below.heap_alloc _ _ q (by simp; omega)) HK.out rfl).mono ?_
  rintro e w1 ⟨rfl, hq1, hg⟩
  have hg1 : w.grownBy w1 (some g) := grownBy_trans (grownBy_set _ _ _ _) (grownBy_trans (World.grownBy_alloc _ _ _) hg)
  have hr : w1.heap[w.heap.size]? = some (.cells #[.int .i64 0, .int .i64 0, .string ⟨#[]⟩, .slice none 0 0] 50 (0, 0)) := (hg.block _ (by simp) (by simp; omega)).trans (by rw [show w.heap.size = (w.setCell ⟨g, 2, none⟩ (.int .i64 (left : Int))).heap.size from by simp]; exact heap_alloc_new _ _)
  have hs1 : w.heap.size < w1.heap.size := (Array.getElem?_eq_some_iff.1 hr).1
  have hlt1 := hq1.lt
  have HQ1 := Lib.hid hq1
  have HG1 := Lib.hid hg1
  have HR := Lib.hid hr
  clear hq1 hg1 hg hr a2 a3 b1 b2 b3
  go_wp2_with fail
  refine (count_q g A cap bs (p + 1) left _ (HQ1.out.keep fun q hq => Below.heap_alloc _ _ q (by omega))).mono ?_
  rintro e w2 ⟨n, hn, rfl, hg2, hor⟩
  obtain ⟨hR, hI⟩ := rows_item hlt (by omega) HR.out hg2
  have hgg : w.grownBy w2 (some g) := grownBy_trans HG1.out (grownBy_trans (World.grownBy_alloc _ _ _) hg2)
  have hs2 := hgg.size
  have hs3 : w1.heap.size < w2.heap.size := (Array.getElem?_eq_some_iff.1 hI).1
  have hne : w.heap.size ≠ w1.heap.size := by omega
  have hnI : (n : Int) ≤ 18446744073709551615 := by omega
  have hgR : g ≠ w.heap.size := by omega
  have hgI : g ≠ w1.heap.size := by omega
  generalize hI1 : w1.heap.size = I at *
  have HGG := Lib.hid hgg
  have HRW := Lib.hid hR
  have HIW := Lib.hid hI
  clear hg2 hR hI hgg HR HG1 HQ1 hI1
  by_cases h4 : (4096 : Int) < n
  · have hrow : ∃ P bb, QSt w2 g A cap bs P (left : Int) bb := by
      rcases hor with ⟨_, P, _, _, hq⟩ | ⟨_, P, hq⟩
      · exact ⟨_, _, hq⟩
      · exact ⟨_, _, hq⟩
    obtain ⟨P, bb, hq2⟩ := hrow
    obtain ⟨a0, a1, a2, a3, b1, b2, b3⟩ := hq2.row
    have hnone : qit (f + 1) (left + 1) (bs.drop p) = none := by
      rw [drop_at HK.out, qit_3]
      rcases hor with ⟨_, P, hp, _, _⟩ | ⟨hp, _, _⟩
      · rw [hp]; simp only []; rw [if_pos (by omega)]
      · rw [hp]
    have HN := Lib.hid hnone
    have HQ2 := Lib.hid hq2
    clear hor hnone hq2 a0 a1 a2 b1 b2
    go_wp2_with fail
    have hRW := (Below.heap_setCell w2 ⟨g, 3, none⟩ (.bool true) w.heap.size (by simp; omega)).trans HRW.out
    have hIW := (Below.heap_setCell w2 ⟨g, 3, none⟩ (.bool true) I (by simp; omega)).trans HIW.out
    have hqW := HQ2.out.setb true
    have hgW := grownBy_trans HGG.out (grownBy_set w2 g 3 (.bool true))
    generalize w2.setCell ⟨g, 3, none⟩ (.bool true) = W at *
    obtain ⟨r0, r1, r2, r3, q0, q1, q2, q3⟩ := row4 hRW
    obtain ⟨i0, i1, i2, i3, p0, p1, p2, p3⟩ := row4 hIW
    obtain ⟨A0, A1, A2, A3, B1, B2, B3⟩ := hqW.row
    have HQW := Lib.hid hqW
    have HGW := Lib.hid hgW
    clear hqW hgW hRW hIW A0 A1 A2 B1 B2
    go_loopw [9] (fun k wr => k = .int .u64 0 ∧ wr = W) (fun _ _ => 0)
    case atStart => exact ⟨rfl, rfl⟩
    case round =>
      obtain ⟨rfl, rfl⟩ := hrel
      go_wp2_with fail
      refine bodyPost_ret (v := .agg #[.int .i64 3, .int .i64 0, .string ⟨#[]⟩, .slice none 0 0]) (by simp [results, Tryz.results37, go_sem, r0, r1, r2, r3]) rfl ?_
      exact q_none HN.out (grownBy_belowB HGW.out (below_set4 _ w.heap.size _ _ _ _)) (HQW.out.keep fun q hq => (below_set4 _ w.heap.size _ _ _ _).block q (by omega))
  have h4' : decide ((n : Int) > 4096) = false := by simp; omega
  rcases hor with ⟨r, P, hp, hdr, hq2⟩ | ⟨hp, P, hq2⟩
  · have hfull : qit (f + 1) (left + 1) (bs.drop p) = (pmany (qit f) n left r).map fun x => (.mk 3 0 ⟨#[]⟩ x.1, x.2.1, x.2.2) := by
      rw [drop_at HK.out, qit_3, hp]; simp only []; rw [if_neg (by omega)]
    have hql : QL f n g A cap bs (pmany (qit f) n left r) I w (.int .u64 ((0 : Nat) : Int)) w2 := by
      refine ⟨0, .slice none 0 0, by omega, rfl, ⟨_, _, _, rfl⟩, HGG.out, HRW.out, HIW.out, .inl ⟨[], P, left, [], rfl, ?_, hq2, by omega, ?_, rfl⟩⟩
      · rw [hdr, Nat.sub_zero]
        cases pmany (qit f) n left r with
        | none => rfl
        | some y => rfl
      · exact ⟨by simp, .inl ⟨rfl, rfl⟩⟩
    have HQL := Lib.hid hql
    have HF := Lib.hid hfull
    have hgw : g < w.heap.size := hlt
    clear hp hdr hq2 hql hfull
    generalize pmany (qit f) n left r = full at *
    go_wp2_with fail
    go_loopw [9] (fun k wr => QL f n g A cap bs full I w k wr) (fun k _ => n - (intOf k).toNat)
    case atStart => exact HQL.out
    case round =>
      obtain ⟨j, u, hj, rfl, ⟨ua, un, uc, rfl⟩, hgr, hRr, hIr, hst⟩ := hrel
      obtain ⟨r0, r1, r2, r3, q0, q1, q2, q3⟩ := row4 hRr
      obtain ⟨i0, i1, i2, i3, p0, p1, p2, p3⟩ := row4 hIr
      have hIs : I < wr.heap.size := (Array.getElem?_eq_some_iff.1 hIr).1
      have HGR := Lib.hid hgr
      have HRR := Lib.hid hRr
      have HIR := Lib.hid hIr
      clear hgr hRr hIr
      rcases hst with ⟨ts, p', l', xs, hts, hfu, hq, hl', hown, hits⟩ | ⟨hfu, p', l', hq⟩
      · obtain ⟨A0, A1, A2, A3, B1, B2, B3⟩ := hq.row
        have HTS := Lib.hid hts
        have HFU := Lib.hid hfu
        have HQ := Lib.hid hq
        have HOW := Lib.hid hown
        have HITS := Lib.hid hits
        clear hts hfu hq hown hits A0 A1 A2 B1 B2
        by_cases hjn : (j : Int) < n
        · have hd1 : 0 ≤ dp + 1 := by omega
          have hdf1 : dp + 1 + f = 13 := by have := HDF.out; omega
          have hj4 : j ≤ 4096 := by omega
          have hc : Calls Tryz.prog 37 #[.pointer (some ⟨g, 0, none⟩), .int .i64 (IntKind.i64.wrap (dp + 1))] wr.drew fun e w4 => wr.grownBy w4 (some g) ∧ (w4.cell? ⟨I, 3, none⟩ = some (.slice ua un uc) ∧ w4.frozen? ⟨I, 3, none⟩ = false) ∧ w4.ownsRow (I + 1) 50 4 (.slice ua un uc) j xs ∧ I < w4.heap.size ∧
              ∃ a b c d, e = .returned (.agg #[a, b, c, d]) ∧ (a.oneCell' = true ∧ b.oneCell' = true ∧ c.oneCell' = true ∧ d.oneCell' = true) ∧
              ((∃ t r l2 p2, qit f l' (bs.drop p') = some (t, r, l2) ∧ bs.drop p2 = r ∧ QSt w4 g A cap bs p2 (l2 : Int) false ∧ IsIt w4 (NewB wr w4) t (.agg #[a, b, c, d])) ∨ (qit f l' (bs.drop p') = none ∧ ∃ p2 l2, QSt w4 g A cap bs p2 l2 true)) := by
            rw [IntWalk.i64_in (dp + 1) ⟨by omega, by omega⟩]
            refine (HIH.out g A cap bs p' l' (dp + 1) wr.drew (HQ.out.keep fun _ _ => rfl) hl' hd1 hdf1).mono ?_
            rintro e w4 ⟨hg4, a, b, c, d, rfl, hones, hor4⟩
            have hg4' : wr.grownBy w4 (some g) := ⟨hg4.os, hg4.tape, hg4.output, hg4.size, hg4.block⟩
            have hb4 : w4.heap[I]? = wr.heap[I]? := hg4'.block I hIs (by simp; omega)
            exact ⟨hg4', ⟨(World.cell?_of_block hb4).trans i3, (World.frozen?_of_block hb4).trans p3⟩, ownsRow_keep HOW.out fun q hq => hg4'.block q (HOW.out.lt q hq).2 (by have := (HOW.out.lt q hq).1; simp; omega), by have := hg4'.size; omega, a, b, c, d, rfl, Four.one hones, hor4⟩
          have HC := Lib.hid hc
          clear hc
          clear r0 r1 r2 r3 q0 q1 q2 q3 i0 i1 i2 p0 p1 p2
          go_wp2_with fail
          go_region_law (first
              | ((refine step_app4 (by rfl) _ _ (by rfl) (I + 1) (.slice ua un uc) j xs (by rfl) (ownsRow_keep hown4 fun q hq => Below.heap_alloc _ _ q (hown4.lt q hq).2) ⟨w4.heap.size, 0, none⟩ 1 (by rfl) a b c d (World.news_of_block (cs := #[a, b, c, d]) (t := 50) (fr := (0, 0)) (heap_alloc_new w4 _)) o0 o1 o2 o3 hj4 (by simp; omega) (w4.heap.size + 1) (by simp) ?_); intro gg cc w6 hown6 hg6 hat6 hlt6; (obtain ⟨j3, jf3⟩ := q_keep6 hg6 ⟨k3, kf3⟩ hI4 hown4); (have HG6 := Lib.hid hg6); (have HO6 := Lib.hid hown6); (clear hg6 hown6))
              | (go_simp; go_at_call 37; (refine HC.out.mono ?_); (rintro e w4 ⟨hg4, ⟨k3, kf3⟩, hown4, hI4, a, b, c, d, rfl, ⟨o0, o1, o2, o3⟩, hor4⟩); (have HOR4 := Lib.hid hor4); (have HG4 := Lib.hid hg4); (clear hor4 hg4)))
          all_goals
            (go_wp2_with fail
             go_roundw
             case rel => exact ql_step (by omega) HTS.out HFU.out hl' hgw (by omega) HGR.out HRR.out HIR.out HOW.out HITS.out HG4.out HOR4.out HO6.out HG6.out hat6
             case measure => simp [intOf]; omega)
        · have ej : j = n := by omega
          have hts := HTS.out
          have hqq : qit (f + 1) (left + 1) (bs.drop p) = some (.mk 3 0 ⟨#[]⟩ ts, bs.drop p', l') := by
            rw [HF.out, HFU.out, ej, Nat.sub_self]; simp [pmany]
          have HN := Lib.hid hqq
          clear hqq
          go_wp2_with fail
          refine bodyPost_ret (v := .agg #[.int .i64 3, .int .i64 0, .string ⟨#[]⟩, .slice ua un uc]) (by simp [results, Tryz.results37, go_sem, r0, r1, r2, r3]) rfl ?_
          exact ql_fin HN.out rfl HQ.out hgw (by omega) (by omega) ⟨_, _, _, rfl⟩ (by rw [hts]; exact HOW.out) HITS.out HGR.out
      · obtain ⟨A0, A1, A2, A3, B1, B2, B3⟩ := hq.row
        have hnone : qit (f + 1) (left + 1) (bs.drop p) = none := by rw [HF.out, hfu]; rfl
        have HN := Lib.hid hnone
        have HQ := Lib.hid hq
        clear hfu hnone hq A0 A1 A2 B1 B2
        by_cases hjn : (j : Int) < n
        · go_wp2_with fail
          refine bodyPost_ret (v := .agg #[.int .i64 3, .int .i64 0, .string ⟨#[]⟩, .slice ua un uc]) (by simp [results, Tryz.results37, go_sem, r0, r1, r2, r3]) rfl ?_
          exact q_none HN.out (grownBy_belowB HGR.out (below_set4 _ w.heap.size _ _ _ _)) (HQ.out.keep fun q hq => (below_set4 _ w.heap.size _ _ _ _).block q (by omega))
        · go_wp2_with fail
          refine bodyPost_ret (v := .agg #[.int .i64 3, .int .i64 0, .string ⟨#[]⟩, .slice ua un uc]) (by simp [results, Tryz.results37, go_sem, r0, r1, r2, r3]) rfl ?_
          exact q_none HN.out (grownBy_belowB HGR.out (below_set4 _ w.heap.size _ _ _ _)) (HQ.out.keep fun q hq => (below_set4 _ w.heap.size _ _ _ _).block q (by omega))
  · obtain ⟨r0, r1, r2, r3, q0, q1, q2, q3⟩ := row4 HRW.out
    obtain ⟨i0, i1, i2, i3, p0, p1, p2, p3⟩ := row4 HIW.out
    obtain ⟨A0, A1, A2, A3, B1, B2, B3⟩ := hq2.row
    have hnone : qit (f + 1) (left + 1) (bs.drop p) = none := by
      rw [drop_at HK.out, qit_3, hp]
    have HN := Lib.hid hnone
    have HQW := Lib.hid hq2
    clear hnone hq2 hp A0 A1 A2 B1 B2
    go_wp2_with fail
    go_loopw [9] (fun k wr => k = .int .u64 0 ∧ wr = w2) (fun _ _ => 0)
    case atStart => exact ⟨rfl, rfl⟩
    case round =>
      obtain ⟨rfl, rfl⟩ := hrel
      by_cases hn0 : (0 : Int) < n
      · go_wp2_with fail
        refine bodyPost_ret (v := .agg #[.int .i64 3, .int .i64 0, .string ⟨#[]⟩, .slice none 0 0]) (by simp [results, Tryz.results37, go_sem, r0, r1, r2, r3]) rfl ?_
        exact q_none HN.out (grownBy_belowB HGG.out (below_set4 _ w.heap.size _ _ _ _)) (HQW.out.keep fun q hq => (below_set4 _ w.heap.size _ _ _ _).block q (by omega))
      · go_wp2_with fail
        refine bodyPost_ret (v := .agg #[.int .i64 3, .int .i64 0, .string ⟨#[]⟩, .slice none 0 0]) (by simp [results, Tryz.results37, go_sem, r0, r1, r2, r3]) rfl ?_
        exact q_none HN.out (grownBy_belowB HGG.out (below_set4 _ w.heap.size _ _ _ _)) (HQW.out.keep fun q hq => (below_set4 _ w.heap.size _ _ _ _).block q (by omega))
end Go.Proofs.YtebacdegjmcnlaaGreat
namespace Go.Proofs.YtebacdegjmcnlaaGreat
open Go.RowKit Pl
set_option linter.unusedVariables false
theorem q_all : ∀ f, QItemAll f := by
  intro f
  induction f with
  | zero => intro g A cap bs p left dp w h hl h0 hf; exact q_out 0 g A cap bs p left dp w h (by omega) (.inr (by omega)) (by simp [qit])
  | succ f ih =>
    intro g A cap bs p left dp w h hl h0 hf
    cases left with
    | zero => exact q_out (f + 1) g A cap bs p 0 dp w h (by omega) (.inl rfl) (by simp [qit])
    | succ m =>
      by_cases k1 : bs[p]? = some 1
      · exact q_num f g A cap bs p m dp w h (by omega) (by omega) k1
      by_cases k2 : bs[p]? = some 2
      · exact q_text f g A cap bs p m dp w h (by omega) (by omega) k2
      by_cases k3 : bs[p]? = some 3
      · exact q_list f g ih A cap bs p m dp w h (by omega) h0 (by omega) (by omega) k3
      refine q_kind (f + 1) g A cap bs p (m + 1) dp w h (by omega) (by omega) (by omega) fun u hu => ⟨?_, ?_, ?_⟩
      · intro e; subst e; exact k1 hu
      · intro e; subst e; exact k2 hu
      · intro e; subst e; exact k3 hu
set_option maxRecDepth 20000 in
theorem rdecode_any (bs : List UInt8) (A : Option Addr) (n cap : Nat) (w : World) (hb : BytesAt w w.heap.size A bs) (hn : bs.length = n) (hc : n ≤ cap) (hcm : cap ≤ 9223372036854775807) : Calls Tryz.prog 23 #[.slice A n cap] w (DecPost bs w) := by
  have HB := Lib.hid hb
  have HN := Lib.hid hn
  clear hb hn
  go_enter Tryz.func23, Tryz.ntmps23
  go_wp2_with fail
  have hpW : ((w.alloc (.cells zeroItem 50)).alloc (.cells #[.slice A n cap, .int .i64 0, .int .i64 4096, .bool false] 73)).heap[w.heap.size]? = some (.cells zeroItem 50 (0, 0)) := by
    rw [Below.heap_alloc _ _ _ (by simp)]; exact heap_alloc_new _ _
  have hgW : ((w.alloc (.cells zeroItem 50)).alloc (.cells #[.slice A n cap, .int .i64 0, .int .i64 4096, .bool false] 73)).heap[w.heap.size + 1]? = some (.cells #[.slice A n cap, .int .i64 0, .int .i64 4096, .bool false] 73 (0, 0)) := by
    rw [show w.heap.size + 1 = (w.alloc (.cells zeroItem 50)).heap.size from by simp]; exact heap_alloc_new _ _
  have hbW : Below w.heap.size w ((w.alloc (.cells zeroItem 50)).alloc (.cells #[.slice A n cap, .int .i64 0, .int .i64 4096, .bool false] 73)) := ((Below.refl _ _).alloc (Nat.le_refl _) _).alloc (by simp) _
  have hsW : ((w.alloc (.cells zeroItem 50)).alloc (.cells #[.slice A n cap, .int .i64 0, .int .i64 4096, .bool false] 73)).heap.size = w.heap.size + 2 := by simp
  change Calls Tryz.prog 37 _ ((w.alloc (.cells zeroItem 50)).alloc (.cells #[.slice A n cap, .int .i64 0, .int .i64 4096, .bool false] 73)) _
  generalize (w.alloc (.cells zeroItem 50)).alloc (.cells #[.slice A n cap, .int .i64 0, .int .i64 4096, .bool false] 73) = W at *
  have hQ : QSt W (w.heap.size + 1) A cap bs 0 ((4096 : Nat) : Int) false := ⟨by rw [HN.out]; exact hgW, by omega, by rw [HN.out]; exact hc, hcm, fun hne => by
    obtain ⟨b, off, e1, e2, e3⟩ := HB.out hne
    exact ⟨b, off, e1, by omega, fun j u hu => (hbW.cell (p := ⟨b, off + j, none⟩) e2).trans (e3 j u hu)⟩⟩
  refine (q_all 12 _ A cap bs 0 4096 1 W hQ (by omega) (by omega) (by omega)).mono ?_
  rintro e w2 ⟨hg2, a, b, c, d, rfl, ⟨⟨k, rfl⟩, ⟨m, rfl⟩, ⟨s, rfl⟩, ⟨x, y, z, rfl⟩⟩, hor⟩
  rw [List.drop_zero] at hor
  have hp2 : w2.heap[w.heap.size]? = some (.cells zeroItem 50 (0, 0)) := (hg2.block _ (by omega) (by simp)).trans hpW
  have hb2 : Below w.heap.size w w2 := hbW.trans (below_of_grown w.heap.size hg2 (by omega) (by omega))
  have hs2 : W.heap.size ≤ w2.heap.size := hg2.size
  obtain ⟨r0, r1, r2, r3, q0, q1, q2, q3⟩ := row4 hp2
  have HP2 := Lib.hid hp2
  have HB2 := Lib.hid hb2
  clear hpW hgW hbW hQ hg2 hp2 hb2
  have hlt2 : w.heap.size + 1 < w2.heap.size := by omega
  have hlt3 : w.heap.size < w2.heap.size := by omega
  rcases hor with ⟨t, r, l', p', hq, hd, hQ2, hit⟩ | ⟨hq, p', l', hQ2⟩
  · obtain ⟨A0, A1, A2, A3, B1, B2, B3⟩ := hQ2.row
    have hpl := hQ2.2.1
    have hNN := HN.out
    by_cases hpn : (p' : Int) < n
    · have hnone : dec bs = none := by
        rw [← qdec_eq, qdec, hq]
        simp only []
        rw [if_neg]
        intro e
        rw [e] at hd
        have := congrArg List.length hd
        simp at this
        omega
      clear hQ2 hq hit hd A0 A2 B1 B2 B3
      go_wp2_with fail
      obtain ⟨y0, y1, y2, y3⟩ := fin4 w2 w.heap.size (.int .i64 0) (.int .i64 0) (.string ⟨#[]⟩) (.slice none 0 0) _ _ _ _ (.cells #[.int .i64 k, .int .i64 m, .string s, .slice x y z] 50) HP2.out
      have hb := fin4_below w2 w.heap.size w.heap.size (.int .i64 0) (.int .i64 0) (.string ⟨#[]⟩) (.slice none 0 0) (.cells #[.int .i64 k, .int .i64 m, .string s, .slice x y z] 50) (Nat.le_refl _) (by omega)
      refine bodyPost_ret (v := .tuple #[.agg zeroItem, .int .i64 4]) (by simp [results, Tryz.results23, go_sem, zeroItem, y0, y1, y2, y3]) rfl ?_
      exact ⟨HB2.out.trans hb, fun t ht => (by rw [hnone] at ht; cases ht), fun _ => rfl⟩
    · have hsome : dec bs = some t := by
        rw [← qdec_eq, qdec, hq]
        simp only []
        rw [if_pos]
        rw [← hd]
        exact List.drop_of_length_le (by omega)
      have hpn' : decide ((p' : Int) < n) = false := by simp; omega
      have HIT := Lib.hid hit
      clear hQ2 hq hit hd A0 A2 B1 B2 B3
      go_wp2_with fail
      obtain ⟨y0, y1, y2, y3⟩ := fin4 w2 w.heap.size (.int .i64 k) (.int .i64 m) (.string s) (.slice x y z) _ _ _ _ (.cells #[.int .i64 k, .int .i64 m, .string s, .slice x y z] 50) HP2.out
      have hb := fin4_below w2 w.heap.size w.heap.size (.int .i64 k) (.int .i64 m) (.string s) (.slice x y z) (.cells #[.int .i64 k, .int .i64 m, .string s, .slice x y z] 50) (Nat.le_refl _) (by omega)
      refine bodyPost_ret (v := .tuple #[.agg #[.int .i64 k, .int .i64 m, .string s, .slice x y z], .int .i64 0]) (by simp [results, Tryz.results23, go_sem, y0, y1, y2, y3]) rfl ?_
      refine ⟨HB2.out.trans hb, fun t' ht => ?_, fun ht => (by rw [hsome] at ht; cases ht)⟩
      rw [hsome] at ht
      simp only [Option.some.injEq] at ht
      subst ht
      have hsz := hb.size
      exact ⟨_, rfl, IsIt.mono (fun q hq => ⟨by have := hq.1; omega, by have := hq.2; simp; omega⟩) t (IsIt.keep (w := w2) (S := NewB W w2) (fun q hq => fin4_far w2 w.heap.size q _ _ _ _ _ (by have := hq.1; omega) hq.2) t HIT.out)⟩
  · have hnone : dec bs = none := by rw [← qdec_eq, qdec, hq]
    obtain ⟨A0, A1, A2, A3, B1, B2, B3⟩ := hQ2.row
    clear hQ2 hq A0 A1 A2 B1 B2
    go_wp2_with fail
    obtain ⟨y0, y1, y2, y3⟩ := fin4 w2 w.heap.size (.int .i64 0) (.int .i64 0) (.string ⟨#[]⟩) (.slice none 0 0) _ _ _ _ (.cells #[.int .i64 k, .int .i64 m, .string s, .slice x y z] 50) HP2.out
    have hb := fin4_below w2 w.heap.size w.heap.size (.int .i64 0) (.int .i64 0) (.string ⟨#[]⟩) (.slice none 0 0) (.cells #[.int .i64 k, .int .i64 m, .string s, .slice x y z] 50) (Nat.le_refl _) (by omega)
    refine bodyPost_ret (v := .tuple #[.agg zeroItem, .int .i64 4]) (by simp [results, Tryz.results23, go_sem, zeroItem, y0, y1, y2, y3]) rfl ?_
    exact ⟨HB2.out.trans hb, fun t ht => (by rw [hnone] at ht; cases ht), fun _ => rfl⟩
end Go.Proofs.YtebacdegjmcnlaaGreat
