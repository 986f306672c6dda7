import Derived.Test.YtebacdegjmcnlaaGreatWe
namespace Go.Proofs.YtebacdegjmcnlaaGreat
open Go.RowKit Pl
set_option linter.unusedVariables false
theorem toList0' {t : ByteArray} (h : (t.size == 0) = false) : (t.toList == []) = false := by
  rw [beq_eq_false_iff_ne] at *
  intro e
  apply h
  rw [size_toList, e]; rfl
def TxAll (N : Nat) : Prop := ∀ (t : It) (v : Value) (w : World), t.cnt ≤ N → IsIt w (· < w.heap.size) t v → Calls Tryz.prog 68 #[v] w (RetBelow (.bool t.long) w)
def TxRel (l : List It) (w0 : World) (uk : Value) (wr : World) : Prop := ∃ j : Nat, j ≤ l.length ∧ uk = .int .i64 j ∧ longs (l.take j) = false ∧ Below w0.heap.size w0 wr
set_option maxRecDepth 20000 in
theorem tx_step (N : Nat) (ih : TxAll N) (k n : Int) (s : ByteArray) (l : List It) (a : Option Addr) (c : Nat) (w : World) (hN : cnts l ≤ N) (hs : s.size ≤ maxLen) (hl : l.length ≤ maxLen) (hal : AreIts w (· < w.heap.size) l a 0) :
    Calls Tryz.prog 68 #[.agg #[.int .i64 k, .int .i64 n, .string s, .slice a l.length c]] w (RetBelow (.bool (It.mk k n s l).long) w) := by
  have HI := Lib.hid ih
  have HL := Lib.hid hal
  unfold maxLen at hl hs
  clear ih hal
  have HB := Lib.hid ((Below.refl w.heap.size w).alloc (Nat.le_refl _) (.cells #[.int .i64 k, .int .i64 n, .string s, .slice a l.length c] 50))
  by_cases h2 : k = 2 ∧ 4096 < s.size
  · obtain ⟨rfl, h4⟩ := h2
    have h5 : (4096 : Int) < s.size := by omega
    have HQ : Hid ((It.mk 2 n s l).long = true) := Lib.hid (by simp [It.long, h4])
    go_enter Tryz.func68, Tryz.ntmps68
    go_wp2_with fail
    go_ret
    exact ⟨by rw [HQ.out]; rfl, HB.out⟩
  have hown : Hid ((It.mk k n s l).long = longs l) := Lib.hid (by
    have : (k == 2 && decide (4096 < s.size)) = false := by
      by_cases hk : k = 2
      · subst hk; simp; omega
      · simp [hk]
    simp only [It.long, this, Bool.false_or])
  have hc : (k == 2) = false ∨ ((k == 2) = true ∧ ((s.size : Int) ≤ 4096)) := by
    by_cases hk : k = 2
    · right; subst hk; exact ⟨rfl, by omega⟩
    · left; simp [hk]
  clear h2
  rcases hc with hk | ⟨hk, hk4⟩
  all_goals
    go_enter Tryz.func68, Tryz.ntmps68
    go_wp2_with fail
    generalize hw0 : w.alloc (.cells #[.int .i64 k, .int .i64 n, .string s, .slice a l.length c] 50) = w0
    have hs0 : w0.heap.size = w.heap.size + 1 := by rw [← hw0]; simp
    have hx0 : w0.heap[w.heap.size]? = some (.cells #[.int .i64 k, .int .i64 n, .string s, .slice a l.length c] 50 (0, 0)) := by rw [← hw0]; exact heap_alloc_new _ _
    have HX := Lib.hid hx0
    rw [hw0] at HB
    have HS0 := Lib.hid hs0
    clear hw0 hx0 hs0
    go_loopw [3] (fun uk wr => TxRel l w0 uk wr) (fun uk _ => l.length - (intOf uk).toNat)
    case atStart => exact ⟨0, by omega, rfl, by simp [longs], Below.refl _ _⟩
    case round =>
      obtain ⟨j, hj, rfl, hlo, hbr⟩ := hrel
      have hsr := hbr.size
      have hs0 := HS0.out
      have hbl : w.heap.size < wr.heap.size := by omega
      have hxr : wr.heap[w.heap.size]? = some (.cells #[.int .i64 k, .int .i64 n, .string s, .slice a l.length c] 50 (0, 0)) := (hbr.block _ (by omega)).trans HX.out
      have hc3 : wr.cell? ⟨w.heap.size, 3, none⟩ = some (.slice a l.length c) := cell_of_row wr _ 3 _ _ _ hxr
      have HBR := Lib.hid hbr
      have HLO := Lib.hid hlo
      clear hs0 hxr hbr hlo
      by_cases hlt : j < l.length
      · have hkeep : ∀ q, q < w.heap.size → wr.heap[q]? = w.heap[q]? := fun q hq => (HBR.out.block q (by have := HS0.out; omega)).trans (HB.out.block q hq)
        obtain ⟨bk, off, u0, u1, u2, u3, rfl, hSb, k0, k1, k2, k3, hx⟩ := (AreIts.keep hkeep l HL.out).at_ (k := j) (x := l[j]) (List.getElem?_eq_getElem hlt)
        have hts := take_succ' l j l[j] (List.getElem?_eq_getElem hlt)
        have hmc := mem_cnt (List.getElem?_eq_getElem hlt)
        have hdr : l = l.take j ++ (l[j] :: l.drop (j + 1)) := by rw [← List.drop_eq_getElem_cons hlt, List.take_append_drop]
        generalize l[j] = x at hx hts hmc hdr
        obtain ⟨qk, qn, qs, qa, qm, qc, rfl, rfl, rfl, rfl⟩ := hx.parts
        have HX2 := Lib.hid hx
        have HTS := Lib.hid hts
        have HDR := Lib.hid hdr
        clear hx hkeep hts hdr
        rw [Nat.zero_add] at k0 k1 k2 k3
        cases hxl : x.long
        · have HXL := Lib.hid hxl
          clear hxl
          go_wp2_with fail
          refine (HI.out x _ wr (by omega) (IsIt.mono (fun q hq => by omega) x HX2.out)).mono ?_
          rintro e w4 ⟨rfl, hb4⟩
          rw [HXL.out]
          have HB4 := Lib.hid (HBR.out.trans (hb4.mono hsr))
          clear hb4
          go_wp2_with fail
          go_roundw
          case rel => exact ⟨j + 1, by omega, by go_num, by rw [HTS.out, longs_append, HLO.out, longs_one, HXL.out]; rfl, HB4.out⟩
          case measure => simp [intOf]; omega
        · have HXL := Lib.hid hxl
          clear hxl
          go_wp2_with fail
          refine (HI.out x _ wr (by omega) (IsIt.mono (fun q hq => by omega) x HX2.out)).mono ?_
          rintro e w4 ⟨rfl, hb4⟩
          rw [HXL.out]
          have HB4 := Lib.hid (HBR.out.trans (hb4.mono hsr))
          clear hb4
          go_wp2_with fail
          go_ret
          refine ⟨?_, HB.out.trans (HB4.out.mono (by have := HS0.out; omega))⟩
          rw [hown.out, HDR.out, longs_append]
          simp [longs, HXL.out]
      · have ej : j = l.length := by omega
        go_wp2_with fail
        go_ret
        refine ⟨?_, HB.out.trans (HBR.out.mono (by have := HS0.out; omega))⟩
        have := HLO.out
        rw [ej, List.take_length] at this
        rw [hown.out, this]; rfl
theorem tx_all : ∀ N, TxAll N := by
  intro N
  induction N with
  | zero => intro t _ _ h; have := cnt_pos t; omega
  | succ N ih =>
    intro t v w hN hv
    obtain ⟨k, n, s, l⟩ := t
    rw [IsIt] at hv
    obtain ⟨a, c, rfl, _, _, hs, hl, hal⟩ := hv
    rw [cnt_mk] at hN
    exact tx_step N ih k n s l a c w (by omega) hs hl hal
def FmAll (N : Nat) : Prop := ∀ (t : It) (v : Value) (w : World), t.cnt ≤ N → IsIt w (· < w.heap.size) t v → Calls Tryz.prog 69 #[v] w (RetBelow (.bool t.good) w)
def FmRel (l : List It) (w0 : World) (uk : Value) (wr : World) : Prop := ∃ j : Nat, j ≤ l.length ∧ uk = .int .i64 j ∧ goods (l.take j) = true ∧ Below w0.heap.size w0 wr
set_option maxRecDepth 20000 in
theorem fm_leaf (k n : Int) (s : ByteArray) (l : List It) (a : Option Addr) (c : Nat) (w : World) (hk : k ≠ 3) (hl : l.length ≤ maxLen) :
    Calls Tryz.prog 69 #[.agg #[.int .i64 k, .int .i64 n, .string s, .slice a l.length c]] w (RetBelow (.bool (It.mk k n s l).good) w) := by
  have HB := Lib.hid ((Below.refl w.heap.size w).alloc (Nat.le_refl _) (.cells #[.int .i64 k, .int .i64 n, .string s, .slice a l.length c] 50))
  unfold maxLen at hl
  by_cases h1 : k = 1
  · subst h1
    cases hz : (s.size == 0)
    · have hz2 := toList0' hz
      have HQ : Hid ((It.mk 1 n s l).good = false) := Lib.hid (by simp [It.good, form, hz])
      go_enter Tryz.func69, Tryz.ntmps69
      go_wp2_with fail
      go_ret
      exact ⟨by rw [HQ.out]; rfl, HB.out⟩
    · have hz2 := size_zero (beq_iff_eq.1 hz)
      subst hz2
      clear hz
      by_cases hn : l = []
      · subst hn
        go_enter Tryz.func69, Tryz.ntmps69
        go_wp2_with fail
        go_ret
        exact ⟨by simp [It.good, form, goods, zero_size], HB.out⟩
      · have hn2 : l.length ≠ 0 := fun e => hn (List.eq_nil_of_length_eq_zero e)
        have hn3 : ((l.length : Int) == 0) = false := by simp; exact hn
        have HQ : Hid ((It.mk 1 n ⟨#[]⟩ l).good = false) := Lib.hid (by simp [It.good, form, hn])
        go_enter Tryz.func69, Tryz.ntmps69
        go_wp2_with fail
        go_ret
        exact ⟨by rw [HQ.out]; rfl, HB.out⟩
  · by_cases h2 : k = 2
    · subst h2
      by_cases hn0 : n = 0
      · subst hn0
        by_cases hn : l = []
        · subst hn
          go_enter Tryz.func69, Tryz.ntmps69
          go_wp2_with fail
          go_ret
          exact ⟨by simp [It.good, form, goods], HB.out⟩
        · have hn2 : l.length ≠ 0 := fun e => hn (List.eq_nil_of_length_eq_zero e)
          have hn3 : ((l.length : Int) == 0) = false := by simp; exact hn
          have HQ : Hid ((It.mk 2 0 s l).good = false) := Lib.hid (by simp [It.good, form, hn])
          go_enter Tryz.func69, Tryz.ntmps69
          go_wp2_with fail
          go_ret
          exact ⟨by rw [HQ.out]; rfl, HB.out⟩
      · have hn3 : (n == 0) = false := by simpa using hn0
        have HQ : Hid ((It.mk 2 n s l).good = false) := Lib.hid (by simp [It.good, form, hn0])
        go_enter Tryz.func69, Tryz.ntmps69
        go_wp2_with fail
        go_ret
        exact ⟨by rw [HQ.out]; rfl, HB.out⟩
    · have g1 : (k == 1) = false := by simpa using h1
      have g2 : (k == 2) = false := by simpa using h2
      have g3 : (k == 3) = false := by simpa using hk
      have HQ : Hid ((It.mk k n s l).good = false) := Lib.hid (by simp [It.good, form, h1, h2, hk])
      go_enter Tryz.func69, Tryz.ntmps69
      go_wp2_with fail
      go_ret
      exact ⟨by rw [HQ.out]; rfl, HB.out⟩
set_option maxRecDepth 20000 in
theorem fm_row (N : Nat) (ih : FmAll N) (n : Int) (s : ByteArray) (l : List It) (a : Option Addr) (c : Nat) (w : World) (hN : cnts l ≤ N) (hl : l.length ≤ maxLen) (hal : AreIts w (· < w.heap.size) l a 0) :
    Calls Tryz.prog 69 #[.agg #[.int .i64 3, .int .i64 n, .string s, .slice a l.length c]] w (RetBelow (.bool (It.mk 3 n s l).good) w) := by
  have HI := Lib.hid ih
  have HL := Lib.hid hal
  unfold maxLen at hl
  clear ih hal
  have HB := Lib.hid ((Below.refl w.heap.size w).alloc (Nat.le_refl _) (.cells #[.int .i64 3, .int .i64 n, .string s, .slice a l.length c] 50))
  go_enter Tryz.func69, Tryz.ntmps69
  go_wp2_with fail
  generalize hw0 : w.alloc (.cells #[.int .i64 3, .int .i64 n, .string s, .slice a l.length c] 50) = w0
  have hs0 : w0.heap.size = w.heap.size + 1 := by rw [← hw0]; simp
  have hx0 : w0.heap[w.heap.size]? = some (.cells #[.int .i64 3, .int .i64 n, .string s, .slice a l.length c] 50 (0, 0)) := by rw [← hw0]; exact heap_alloc_new _ _
  have HX := Lib.hid hx0
  rw [hw0] at HB
  have HS0 := Lib.hid hs0
  clear hw0 hx0 hs0
  go_loopw [3] (fun uk wr => FmRel l w0 uk wr) (fun uk _ => l.length - (intOf uk).toNat)
  case atStart => exact ⟨0, by omega, rfl, by simp [goods], Below.refl _ _⟩
  case round =>
    obtain ⟨j, hj, rfl, hlo, hbr⟩ := hrel
    have hsr := hbr.size
    have hs0 := HS0.out
    have hbl : w.heap.size < wr.heap.size := by omega
    have hxr : wr.heap[w.heap.size]? = some (.cells #[.int .i64 3, .int .i64 n, .string s, .slice a l.length c] 50 (0, 0)) := (hbr.block _ (by omega)).trans HX.out
    have hc1 : wr.cell? ⟨w.heap.size, 1, none⟩ = some (.int .i64 n) := cell_of_row wr _ 1 _ _ _ hxr
    have hc2 : wr.cell? ⟨w.heap.size, 2, none⟩ = some (.string s) := cell_of_row wr _ 2 _ _ _ hxr
    have hc3 : wr.cell? ⟨w.heap.size, 3, none⟩ = some (.slice a l.length c) := cell_of_row wr _ 3 _ _ _ hxr
    have HBR := Lib.hid hbr
    have HLO := Lib.hid hlo
    clear hs0 hxr hbr hlo
    by_cases hlt : j < l.length
    · have hkeep : ∀ q, q < w.heap.size → wr.heap[q]? = w.heap[q]? := fun q hq => (HBR.out.block q (by have := HS0.out; omega)).trans (HB.out.block q hq)
      obtain ⟨bk, off, u0, u1, u2, u3, rfl, hSb, k0, k1, k2, k3, hx⟩ := (AreIts.keep hkeep l HL.out).at_ (k := j) (x := l[j]) (List.getElem?_eq_getElem hlt)
      have hts := take_succ' l j l[j] (List.getElem?_eq_getElem hlt)
      have hmc := mem_cnt (List.getElem?_eq_getElem hlt)
      have hdr : l = l.take j ++ (l[j] :: l.drop (j + 1)) := by rw [← List.drop_eq_getElem_cons hlt, List.take_append_drop]
      generalize l[j] = x at hx hts hmc hdr
      obtain ⟨qk, qn, qs, qa, qm, qc, rfl, rfl, rfl, rfl⟩ := hx.parts
      have HX2 := Lib.hid hx
      have HTS := Lib.hid hts
      have HDR := Lib.hid hdr
      clear hx hkeep hts hdr
      rw [Nat.zero_add] at k0 k1 k2 k3
      cases hxl : x.good
      · have HXL := Lib.hid hxl
        clear hxl
        go_wp2_with fail
        refine (HI.out x _ wr (by omega) (IsIt.mono (fun q hq => by omega) x HX2.out)).mono ?_
        rintro e w4 ⟨rfl, hb4⟩
        rw [HXL.out]
        have HB4 := Lib.hid (HBR.out.trans (hb4.mono hsr))
        clear hb4
        go_wp2_with fail
        go_ret
        refine ⟨?_, HB.out.trans (HB4.out.mono (by have := HS0.out; omega))⟩
        rw [good_mk, show goods l = false from by rw [HDR.out, goods_append]; simp [goods, HXL.out]]
        simp
      · have HXL := Lib.hid hxl
        clear hxl
        go_wp2_with fail
        refine (HI.out x _ wr (by omega) (IsIt.mono (fun q hq => by omega) x HX2.out)).mono ?_
        rintro e w4 ⟨rfl, hb4⟩
        rw [HXL.out]
        have HB4 := Lib.hid (HBR.out.trans (hb4.mono hsr))
        clear hb4
        go_wp2_with fail
        go_roundw
        case rel => exact ⟨j + 1, by omega, by go_num, by rw [HTS.out, goods_append, HLO.out, goods_one, HXL.out]; rfl, HB4.out⟩
        case measure => simp [intOf]; omega
    · have ej : j = l.length := by omega
      have hgd : goods l = true := by
        have := HLO.out
        rw [ej, List.take_length] at this
        exact this
      have HGD := Lib.hid hgd
      have HFB : Hid (Below w.heap.size w wr) := Lib.hid (HB.out.trans (HBR.out.mono (by have := HS0.out; omega)))
      clear hgd HLO ej
      by_cases hn0 : n = 0
      · subst hn0
        cases hz : (s.size == 0)
        · have hz2 := toList0' hz
          have HQ : Hid ((It.mk 3 0 s l).good = false) := Lib.hid (by simp [It.good, form, hz])
          go_wp2_with fail
          go_ret
          exact ⟨by rw [HQ.out]; rfl, HFB.out⟩
        · have hz2 := size_zero (beq_iff_eq.1 hz)
          subst hz2
          have HQ : Hid ((It.mk 3 0 ⟨#[]⟩ l).good = true) := Lib.hid (by simp [It.good, form, HGD.out, zero_size])
          clear hz
          go_wp2_with fail
          go_ret
          exact ⟨by rw [HQ.out]; rfl, HFB.out⟩
      · have hn3 : (n == 0) = false := by simpa using hn0
        have HQ : Hid ((It.mk 3 n s l).good = false) := Lib.hid (by simp [It.good, form, hn0])
        go_wp2_with fail
        go_ret
        exact ⟨by rw [HQ.out]; rfl, HFB.out⟩
theorem fm_all : ∀ N, FmAll N := by
  intro N
  induction N with
  | zero => intro t _ _ h; have := cnt_pos t; omega
  | succ N ih =>
    intro t v w hN hv
    obtain ⟨k, n, s, l⟩ := t
    rw [IsIt] at hv
    obtain ⟨a, c, rfl, _, _, hs, hl, hal⟩ := hv
    rw [cnt_mk] at hN
    by_cases hk : k = 3
    · subst hk
      exact fm_row N ih n s l a c w (by omega) hl hal
    · exact fm_leaf k n s l a c w hk hl
end Go.Proofs.YtebacdegjmcnlaaGreat
