import Derived.Test.YtnnakfhkejdfcaaLists
namespace Go.Proofs.Ytnnakfhkejdfcaa
open Go.RowKit Pl
set_option linter.unusedVariables false

/-- a list, and lists of one around it -/
def nest : Nat → List It → It
  | 0, l => .mk 3 0 ⟨#[]⟩ l
  | k + 1, l => .mk 3 0 ⟨#[]⟩ [nest k l]
/-- each is one that may be, small and shallow -/
def Small (l : List It) : Prop := cnts l ≤ 90 * l.length ∧ deps l ≤ 6 ∧ longs l = false ∧ goods l = true
theorem Small.snoc {l : List It} {x : It} (h : Small l) (h1 : x.cnt ≤ 90) (h2 : x.dep ≤ 6) (h3 : errOf x = 0) : Small (l ++ [x]) := by
  obtain ⟨a, b, c, d⟩ := h
  obtain ⟨e1, e2⟩ := (errOf_iff x (by omega) (by omega)).1 h3
  refine ⟨?_, ?_, ?_, ?_⟩
  · rw [cnts_append, cnts_one, List.length_append, List.length_singleton]; omega
  · rw [deps_append, deps_one]; omega
  · rw [longs_append, longs_one, c, e1]; rfl
  · rw [goods_append, goods_one, d, e2]; rfl
theorem nest_facts (l : List It) (h : Small l) (hl : l.length ≤ 40) : ∀ k, (nest k l).cnt ≤ 3601 + k ∧ (nest k l).dep ≤ 7 + k ∧ (nest k l).long = false ∧ (nest k l).good = true ∧ (nest k l).enc.length = (if l.length = 0 then 2 else 3) + (encs l).length + 3 * k := by
  obtain ⟨a, b, c, d⟩ := h
  intro k
  induction k with
  | zero =>
    refine ⟨by simp only [nest, It.cnt]; omega, by simp only [nest, It.dep]; omega, by simp [nest, It.long, c], by simp [nest, It.good, form, d, zero_size], ?_⟩
    simp only [nest, It.enc]
    have hd : dgs l.length = if l.length = 0 then 0 else 1 := by
      by_cases h0 : l.length = 0
      · rw [h0]; rfl
      · rw [if_neg h0, dgs, if_neg (by omega), if_pos (by omega)]
    simp [cntB_length, hd]
    split <;> omega
  | succ k ih =>
    obtain ⟨i1, i2, i3, i4, i5⟩ := ih
    refine ⟨by simp only [nest, It.cnt, cnts]; omega, by simp only [nest, It.dep, deps]; omega, by simp [nest, It.long, longs, i3], by simp [nest, It.good, goods, form, i4, zero_size], ?_⟩
    have hd : dgs 1 = 1 := by simp [dgs]
    simp only [nest, It.enc]
    simp [cntB_length, hd, encs, i5]
    omega
theorem nest_size (l : List It) (h : Small l) (hl : l.length ≤ 40) (k : Nat) (hk : k ≤ 4) : szOf (nest k l) = (if l.length = 0 then 2 else 3) + (encs l).length + 3 * k := by
  obtain ⟨a, b, c, d, e⟩ := nest_facts l h hl k
  have hf : fits (nest k l) 0 1 = true := by
    simp only [fits, Bool.and_eq_true, decide_eq_true_eq, Bool.not_eq_true']
    exact ⟨⟨by omega, by omega⟩, c⟩
  rw [szOf, if_pos ⟨hf, d⟩, e]
  split <;> omega

def SizRel (l : List It) (w : World) (n0 : Int) (un uk : Value) (wr : World) : Prop :=
  ∃ j : Nat, j ≤ l.length ∧ uk = .int .i64 j ∧ un = .int .i64 (n0 + (encs (l.take j)).length) ∧ Small (l.take j) ∧ Below w.heap.size w wr

theorem cells4 {w w' : World} {b o : Nat} {u0 u1 u2 u3 : Value} (hb : Below w.heap.size w w') (hlt : b < w.heap.size) (h : w.cell? ⟨b, o, none⟩ = some u0 ∧ w.cell? ⟨b, o + 1, none⟩ = some u1 ∧ w.cell? ⟨b, o + 2, none⟩ = some u2 ∧ w.cell? ⟨b, o + 3, none⟩ = some u3) :
    w'.cell? ⟨b, o, none⟩ = some u0 ∧ w'.cell? ⟨b, o + 1, none⟩ = some u1 ∧ w'.cell? ⟨b, o + 2, none⟩ = some u2 ∧ w'.cell? ⟨b, o + 3, none⟩ = some u3 :=
  ⟨(hb.cell (p := ⟨b, o, none⟩) hlt).trans h.1, (hb.cell (p := ⟨b, o + 1, none⟩) hlt).trans h.2.1, (hb.cell (p := ⟨b, o + 2, none⟩) hlt).trans h.2.2.1, (hb.cell (p := ⟨b, o + 3, none⟩) hlt).trans h.2.2.2⟩
theorem Small.len {l : List It} (h : Small l) (hl : l.length ≤ 40) : ((encs l).length : Int) ≤ 15120000 := by
  have := encs_le l h.2.2.2 h.2.2.1
  have := h.1
  omega

/-- the list in its box, k lists of one around it -/
def NestRel (l : List It) (w : World) (T : Nat) (n0 D : Int) (un uk : Value) (wr : World) : Prop :=
  ∃ (k : Nat) (A : Option Addr) (m c : Nat), (k : Int) ≤ D ∧ uk = .int .i64 k ∧ un = .int .i64 (n0 + 3 * k) ∧ wr.heap[T]? = some (.cells #[.int .i64 3, .int .i64 0, .string ⟨#[]⟩, .slice A m c] 26 (0, 0)) ∧
    IsIt wr (fun p => p < wr.heap.size ∧ p ≠ T) (nest k l) (.agg #[.int .i64 3, .int .i64 0, .string ⟨#[]⟩, .slice A m c]) ∧ Below w.heap.size w wr ∧ w.heap.size ≤ T

theorem nestRel_step {l : List It} {w wr w3 : World} {T : Nat} {n0 D : Int} {k : Nat} {A : Option Addr} {m c : Nat} (hk : (k : Int) < D) (hrow : wr.heap[T]? = some (.cells #[.int .i64 3, .int .i64 0, .string ⟨#[]⟩, .slice A m c] 26 (0, 0)))
    (hit : IsIt wr (fun p => p < wr.heap.size ∧ p ≠ T) (nest k l) (.agg #[.int .i64 3, .int .i64 0, .string ⟨#[]⟩, .slice A m c])) (hb : Below w.heap.size w wr) (hT : w.heap.size ≤ T)
    (hb3 : Below (wr.alloc (.cells #[.int .i64 3, .int .i64 0, .string ⟨#[]⟩, .slice A m c] 26)).heap.size (wr.alloc (.cells #[.int .i64 3, .int .i64 0, .string ⟨#[]⟩, .slice A m c] 26)) w3) :
    NestRel l w T n0 D (.int .i64 (n0 + 3 * k + 3)) (.int .i64 ((k : Int) + 1))
      ((((w3.setCell ⟨T, 0, none⟩ (.int .i64 3)).setCell ⟨T, 1, none⟩ (.int .i64 0)).setCell ⟨T, 2, none⟩ (.string ⟨#[]⟩)).setCell ⟨T, 3, none⟩ (.slice (some ⟨wr.heap.size, 0, none⟩) 1 1)) := by
  have hTl := (Array.getElem?_eq_some_iff.1 hrow).1
  have hs : wr.heap.size + 1 ≤ w3.heap.size := by have := hb3.size; simpa using this
  have hnew : w3.heap[wr.heap.size]? = some (.cells #[.int .i64 3, .int .i64 0, .string ⟨#[]⟩, .slice A m c] 26 (0, 0)) := (hb3.block _ (by simp)).trans (heap_alloc_new _ _)
  have hold : ∀ p, p < wr.heap.size → w3.heap[p]? = wr.heap[p]? := fun p hp => (hb3.block p (by simp; omega)).trans (Below.heap_alloc _ _ p hp)
  have hfar : ∀ p, p ≠ T → ((((w3.setCell ⟨T, 0, none⟩ (.int .i64 3)).setCell ⟨T, 1, none⟩ (.int .i64 0)).setCell ⟨T, 2, none⟩ (.string ⟨#[]⟩)).setCell ⟨T, 3, none⟩ (.slice (some ⟨wr.heap.size, 0, none⟩) 1 1)).heap[p]? = w3.heap[p]? := fun p hp => by
    rw [Below.heap_setCell _ _ _ _ hp, Below.heap_setCell _ _ _ _ hp, Below.heap_setCell _ _ _ _ hp, Below.heap_setCell _ _ _ _ hp]
  have hsz : ((((w3.setCell ⟨T, 0, none⟩ (.int .i64 3)).setCell ⟨T, 1, none⟩ (.int .i64 0)).setCell ⟨T, 2, none⟩ (.string ⟨#[]⟩)).setCell ⟨T, 3, none⟩ (.slice (some ⟨wr.heap.size, 0, none⟩) 1 1)).heap.size = w3.heap.size := by simp
  have hrow3 := (hold T hTl).trans hrow
  have hrow4 := heap_set _ T 3 (.slice (some ⟨wr.heap.size, 0, none⟩) 1 1) _ _ (heap_set _ T 2 (.string ⟨#[]⟩) _ _ (heap_set _ T 1 (.int .i64 0) _ _ (heap_set w3 T 0 (.int .i64 3) _ _ hrow3)))
  have hbf : Below w.heap.size w ((((w3.setCell ⟨T, 0, none⟩ (.int .i64 3)).setCell ⟨T, 1, none⟩ (.int .i64 0)).setCell ⟨T, 2, none⟩ (.string ⟨#[]⟩)).setCell ⟨T, 3, none⟩ (.slice (some ⟨wr.heap.size, 0, none⟩) 1 1)) :=
    ((((((hb.alloc hb.size _).trans (hb3.mono (by have := hb.size; simp; omega))).setCell hT _).setCell hT _).setCell hT _).setCell hT _)
  generalize (((w3.setCell ⟨T, 0, none⟩ (.int .i64 3)).setCell ⟨T, 1, none⟩ (.int .i64 0)).setCell ⟨T, 2, none⟩ (.string ⟨#[]⟩)).setCell ⟨T, 3, none⟩ (.slice (some ⟨wr.heap.size, 0, none⟩) 1 1) = w4 at *
  refine ⟨k + 1, some ⟨wr.heap.size, 0, none⟩, 1, 1, by omega, by rw [Int.natCast_add]; rfl, ?_, hrow4, ?_, hbf, hT⟩
  · rw [show n0 + 3 * ((k + 1 : Nat) : Int) = n0 + 3 * (k : Int) + 3 from by omega]
  · have hg : w4.heap[wr.heap.size]? = some (.cells #[.int .i64 3, .int .i64 0, .string ⟨#[]⟩, .slice A m c] 26 (0, 0)) := (hfar _ (by omega)).trans hnew
    rw [nest, IsIt]
    refine ⟨some ⟨wr.heap.size, 0, none⟩, 1, rfl, ⟨by omega, by omega⟩, ⟨by omega, by omega⟩, Nat.zero_le _, by simp [maxLen], ?_⟩
    rw [AreIts, AreIts]
    exact ⟨⟨wr.heap.size, 0, _, _, _, _, rfl, ⟨by omega, by omega⟩, cell_of_row w4 _ 0 _ _ _ hg, cell_of_row w4 _ 1 _ _ _ hg, cell_of_row w4 _ 2 _ _ _ hg, cell_of_row w4 _ 3 _ _ _ hg,
      IsIt.mono (fun p hp => ⟨by have := hp.1; omega, hp.2⟩) _ (IsIt.keep (fun p hp => (hfar p hp.2).trans (hold p hp.1)) _ hit)⟩, trivial⟩

set_option maxRecDepth 20000 in
theorem law_sizes (a : Option Addr) (l : List It) (c : Nat) (deep : Int) (w : World) (hal : AreIts w (· < w.heap.size) l a 0) (hll : l.length ≤ maxLen) (hd0 : 0 ≤ deep) (hd1 : deep ≤ 255) : Calls Try.prog 5 #[.slice a l.length c, .int .u8 deep] w (RetBelow (.bool true) w) := by
  unfold maxLen at hll
  have HL := Lib.hid hal
  clear hal
  by_cases hbig : (40 : Int) < l.length
  · go_enter Try.func5, Try.ntmps5
    go_wp2_with fail
    refine (awake_any _).mono ?_
    rintro e w1 ⟨rfl, hb1⟩
    go_wp2_with fail
    go_ret
    exact ⟨rfl, hb1⟩
  have hz : ∃ q : Int, (((l.length : Int) == 0) = true ∧ q = 2) ∨ (((l.length : Int) == 0) = false ∧ q = 3) := by
    cases h : ((l.length : Int) == 0)
    · exact ⟨3, .inr ⟨rfl, rfl⟩⟩
    · exact ⟨2, .inl ⟨rfl, rfl⟩⟩
  obtain ⟨q, hz⟩ := hz
  have HQ := Lib.hid (show q = ((if l.length = 0 then 2 else 3 : Nat) : Int) by
    rcases hz with ⟨h, rfl⟩ | ⟨h, rfl⟩
    · rw [if_pos (by simpa using h)]; rfl
    · rw [if_neg (by simpa using h)]; rfl)
  rcases hz with ⟨hz, hq⟩ | ⟨hz, hq⟩
  all_goals
    have HQ2 := Lib.hid hq
    clear hq
    go_enter Try.func5, Try.ntmps5
    go_wp2_with fail
    refine (awake_any _).mono ?_
    rintro e w1 ⟨rfl, hb1⟩
    have HB1 := Lib.hid hb1
    clear hb1
    go_wp2_with fail
    go_loopw [5, 23] (fun un uk wr => SizRel l w q un uk wr) (fun _ uk _ => (l.length - (intOf uk).toNat))
    case atStart => exact ⟨0, by omega, rfl, by rw [HQ2.out]; simp [encs], by simp [Small, cnts, deps, longs, goods], HB1.out⟩
    case round =>
      obtain ⟨j, hj, rfl, rfl, hsm, hbr⟩ := hrel
      have hsr := hbr.size
      have HBR := Lib.hid hbr
      have HSM := Lib.hid hsm
      clear hbr hsm
      by_cases hlt : j < l.length
      · obtain ⟨bk, off, u0, u1, u2, u3, rfl, hSb, k0, k1, k2, k3, hx⟩ := (AreIts.keep (fun q hq => HBR.out.block q hq) l HL.out).at_ (k := j) (x := l[j]) (List.getElem?_eq_getElem hlt)
        have hts := take_succ' l j l[j] (List.getElem?_eq_getElem hlt)
        generalize l[j] = x at hx hts
        obtain ⟨qk, qn, qs, qa, qm, qc, rfl, rfl, rfl, rfl⟩ := hx.parts
        have HX := Lib.hid (IsIt.mono (fun q hq => Nat.lt_of_lt_of_le hq hsr) x hx : IsIt wr (· < wr.heap.size) x (.agg #[.int .i64 qk, .int .i64 qn, .string qs, .slice qa qm qc]))
        have HTS := Lib.hid hts
        clear hx hts
        rw [Nat.zero_add] at k0 k1 k2 k3
        have hbk : bk < wr.heap.size := by omega
        go_wp2_with fail
        refine (items_all x.cnt x _ 90 1 wr (Nat.le_refl _) HX.out (by omega) (by omega) (by omega) (by omega)).mono ?_
        rintro e w2 ⟨n, d, rfl, hb2, q1, q2, q3, q4, q5⟩
        have Q5 := Lib.hid q5
        have K2 := cells4 hb2 hbk ⟨k0, k1, k2, k3⟩
        have hs2 := hb2.size
        have HB2 := Lib.hid hb2
        clear q5 hb2 k0 k1 k2 k3
        obtain ⟨k0, k1, k2, k3⟩ := K2
        have hbk2 : bk < w2.heap.size := by omega
        by_cases hn : 90 < n
        · go_wp2_with fail
          go_ret
          exact ⟨rfl, HBR.out.trans (HB2.out.mono hsr)⟩
        by_cases hd : 6 < d
        · go_wp2_with fail
          go_ret
          exact ⟨rfl, HBR.out.trans (HB2.out.mono hsr)⟩
        go_wp2_with fail
        have HX2 := Lib.hid (IsIt.at HX.out HB2.out)
        refine (texts_all x.cnt x _ w2 (Nat.le_refl _) HX2.out).mono ?_
        rintro e w3 ⟨z, rfl, hb3⟩
        have K3 := cells4 hb3 hbk2 ⟨k0, k1, k2, k3⟩
        have hs3 := hb3.size
        have HB3 := Lib.hid hb3
        clear hb3 k0 k1 k2 k3
        obtain ⟨k0, k1, k2, k3⟩ := K3
        have hbk3 : bk < w3.heap.size := by omega
        by_cases hz1 : 65536 < z
        · go_wp2_with fail
          go_ret
          exact ⟨rfl, HBR.out.trans ((HB2.out.trans (HB3.out.mono hs2)).mono hsr)⟩
        go_wp2_with fail
        have HX3 := Lib.hid (IsIt.at HX2.out HB3.out)
        refine (encode_any x _ w3 HX3.out (fun h => by have := errOf_len h; omega)).mono ?_
        rintro e w4 ⟨v4, rfl, hb4, hown4⟩
        have HB4 := Lib.hid (HBR.out.trans ((HB2.out.trans ((HB3.out.trans (hb4.mono hs3)).mono hs2)).mono hsr))
        clear hb4 k0 k1 k2 k3
        by_cases he : errOf x = 0
        · have hqq := Q5.out (by omega) (by omega)
          have hsn := HSM.out.snoc (x := x) (by omega) (by omega) he
          rw [← HTS.out] at hsn
          rw [if_pos he] at hown4
          obtain ⟨A4, cap4, rfl, _⟩ := hown4.form
          have hlen := HSM.out.len (by rw [List.length_take]; omega)
          have hxl := errOf_len he
          have hq3 : 0 ≤ q ∧ q ≤ 3 := by have := HQ2.out; omega
          have HSN := Lib.hid hsn
          rw [he]
          clear hqq hsn hown4 he
          go_wp2_with fail
          go_roundw
          case rel => exact ⟨j + 1, by omega, by go_num, by rw [HTS.out, encs_append, encs_one, List.length_append, Int.natCast_add, Int.add_assoc], HSN.out, HB4.out⟩
          case measure => simp [intOf]; omega
        · have hne : (errOf x != 0) = true := by simpa using he
          clear he hown4
          generalize errOf x = E at *
          go_wp2_with fail
          go_ret
          exact ⟨rfl, HB4.out⟩
      · have ej : j = l.length := by omega
        rw [ej, List.take_length] at HSM
        rw [ej, List.take_length]
        have hlen := HSM.out.len (by omega)
        have hq3 : 0 ≤ q ∧ q ≤ 3 := by have := HQ2.out; omega
        have hal := AreIts.keep (fun q hq => HBR.out.block q hq) l HL.out
        have HAL := Lib.hid hal
        clear hal
        generalize hLL : ((encs l).length : Int) = LL at *
        have hLL0 : (0 : Int) ≤ LL := by omega
        have HLL := Lib.hid hLL
        clear hLL
        go_wp2_with fail
        refine (row_any _ _ _ wr).mono ?_
        rintro e w2 ⟨rfl, hb2⟩
        have hs2 := hb2.size
        have HB2 := Lib.hid hb2
        clear hb2
        go_wp2_with fail
        have hrow0 : (w2.alloc (.cells #[.int .i64 3, .int .i64 0, .string ⟨#[]⟩, .slice a l.length c] 26)).heap[w2.heap.size]? = some (.cells #[.int .i64 3, .int .i64 0, .string ⟨#[]⟩, .slice a l.length c] 26 (0, 0)) := heap_alloc_new _ _
        have hrel0 : NestRel l w w2.heap.size (q + LL) (deep % 5) (.int .i64 (q + LL)) (.int .i64 ((0 : Nat) : Int)) (w2.alloc (.cells #[.int .i64 3, .int .i64 0, .string ⟨#[]⟩, .slice a l.length c] 26)) := by
          refine ⟨0, a, l.length, c, by omega, rfl, by rw [show q + LL + 3 * ((0 : Nat) : Int) = q + LL from by omega], hrow0, ?_, (HBR.out.trans (HB2.out.mono hsr)).alloc (by omega) _, by omega⟩
          rw [nest, IsIt]
          refine ⟨a, c, rfl, ⟨by omega, by omega⟩, ⟨by omega, by omega⟩, Nat.zero_le _, by simp only [maxLen]; omega, ?_⟩
          refine AreIts.mono (fun p hp => ⟨by simp; omega, by omega⟩) l (AreIts.keep (fun p hp => ?_) l HAL.out)
          rw [Below.heap_alloc _ _ p (by omega)]
          exact HB2.out.block p (by omega)
        have HREL := Lib.hid hrel0
        clear hrow0 hrel0
        generalize hT : w2.heap.size = T at *
        have HTT := Lib.hid hT
        clear hT
        generalize w2.alloc (.cells #[.int .i64 3, .int .i64 0, .string ⟨#[]⟩, .slice a l.length c] 26) = w9 at *
        go_loopw [5, 12] (fun un uk wr => NestRel l w T (q + LL) (deep % 5) un uk wr) (fun _ uk _ => (5 - intOf uk).toNat)
        case atStart => exact HREL.out
        case round =>
          obtain ⟨k, A, m, c', hk, rfl, rfl, hrow, hit, hbw, hTw⟩ := hrel
          obtain ⟨y0, y1, y2, y3, z0, z1, z2, z3⟩ := row4 hrow
          have hTl := (Array.getElem?_eq_some_iff.1 hrow).1
          have HROW := Lib.hid hrow
          have HIT := Lib.hid hit
          have HBW := Lib.hid hbw
          clear hrow hit hbw
          by_cases hkd : (k : Int) < deep % 5
          · go_wp2_with fail
            refine (row_any _ _ _ _).mono ?_
            rintro e w3 ⟨rfl, hb3⟩
            have hTl3 : w3.heap[T]? = _ := (hb3.block T (by simp; omega)).trans ((Below.heap_alloc _ _ T hTl).trans HROW.out)
            obtain ⟨x0, x1, x2, x3, f0, f1, f2, f3⟩ := row4 hTl3
            have HB3 := Lib.hid hb3
            clear hb3 hTl3
            go_wp2_with fail
            go_roundw
            case rel => exact nestRel_step hkd HROW.out HIT.out HBW.out hTw HB3.out
            case measure => simp [intOf]; omega
          · go_wp2_with fail
            refine (size_any (nest k l) _ _ (IsIt.mono (fun p hp => hp.1) _ HIT.out)).mono ?_
            rintro e w3 ⟨rfl, hb3⟩
            have HB3 := Lib.hid (HBW.out.trans (hb3.mono HBW.out.size))
            have hsz := nest_size l HSM.out (by omega) k (by omega)
            have hval : szOf (nest k l) = q + LL + 3 * k := by
              rw [hsz, ← HLL.out, HQ.out]
              split <;> omega
            have HV := Lib.hid hval
            clear hb3 hsz hval
            rw [HV.out]
            go_wp2_with fail
            go_ret
            exact ⟨rfl, HB3.out⟩
end Go.Proofs.Ytnnakfhkejdfcaa
