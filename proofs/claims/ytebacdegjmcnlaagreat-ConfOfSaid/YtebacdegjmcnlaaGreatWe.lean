import Derived.Test.YtebacdegjmcnlaaGreatWd
namespace Go.Proofs.YtebacdegjmcnlaaGreat
open Go.RowKit Pl
set_option linter.unusedVariables false
theorem zero_size : (⟨#[]⟩ : ByteArray).size = 0 := rfl
set_option maxRecDepth 20000 in
theorem num_any (n : Int) (w : World) : Calls Tryz.prog 43 #[.int .i64 n] w (RetBelow (.agg #[.int .i64 1, .int .i64 n, .string ⟨#[]⟩, .slice none 0 0]) w) := by
  go_enter Tryz.func43, Tryz.ntmps43
  go_wp2_with fail
  refine bodyPost_ret (v := .agg #[.int .i64 1, .int .i64 n, .string ⟨#[]⟩, .slice none 0 0]) (by simp [results, Tryz.results43, go_sem]) rfl ⟨rfl, ?_⟩
  exact (Below.refl _ _).alloc (Nat.le_refl _) _
set_option maxRecDepth 20000 in
theorem str_any (s : ByteArray) (w : World) : Calls Tryz.prog 44 #[.string s] w (RetBelow (.agg #[.int .i64 2, .int .i64 0, .string s, .slice none 0 0]) w) := by
  go_enter Tryz.func44, Tryz.ntmps44
  go_wp2_with fail
  refine bodyPost_ret (v := .agg #[.int .i64 2, .int .i64 0, .string s, .slice none 0 0]) (by simp [results, Tryz.results44, go_sem]) rfl ⟨rfl, ?_⟩
  exact (Below.refl _ _).alloc (Nat.le_refl _) _
set_option maxRecDepth 20000 in
theorem row_any (a : Option Addr) (m c : Nat) (w : World) : Calls Tryz.prog 42 #[.slice a m c] w (RetBelow (.agg #[.int .i64 3, .int .i64 0, .string ⟨#[]⟩, .slice a m c]) w) := by
  go_enter Tryz.func42, Tryz.ntmps42
  go_wp2_with fail
  refine bodyPost_ret (v := .agg #[.int .i64 3, .int .i64 0, .string ⟨#[]⟩, .slice a m c]) (by simp [results, Tryz.results42, go_sem]) rfl ⟨rfl, ?_⟩
  exact (Below.refl _ _).alloc (Nat.le_refl _) _
theorem OwnB.form {w : World} {base : Nat} {v : Value} {l : List UInt8} (h : OwnB w base v l) : ∃ A cap, v = .slice A l.length cap ∧ BytesAt w w.heap.size A l ∧ l.length ≤ cap ∧ cap ≤ 9223372036854775807 := by
  have h0 := h
  rcases h.2 with ⟨rfl, hn⟩ | ⟨g, cap, cur, rfl, hb, hh, hc, hm, _⟩
  · have : l = [] := List.eq_nil_of_length_eq_zero hn
    subst this
    exact ⟨none, 0, rfl, BytesAt.nil _ _ _, by simp, by omega⟩
  · refine ⟨some ⟨g, 0, none⟩, cap, rfl, fun hne => ⟨g, 0, rfl, (Array.getElem?_eq_some_iff.1 hh).1, fun j u hu => ?_⟩, hc, by simp only [maxLen] at hm; omega⟩
    have := h0.cells (g := g) rfl j (.int .u8 (u.toNat : Int)) (by simp [vB, hu])
    unfold Addr.add at this
    split at this
    · subst j; simpa using this
    · simpa using this
/-- the items that 'awake' asks for -/
def tNum : It := .mk 1 300 ⟨#[]⟩ []
def tBad : It := .mk 4 0 ⟨#[]⟩ []
def tStr : It := .mk 2 0 ⟨#[97, 98]⟩ []
def tRow : It := .mk 3 0 ⟨#[]⟩ [.mk 1 0 ⟨#[]⟩ [], .mk 2 0 ⟨#[]⟩ []]
theorem tNum_err : errOf tNum = 0 := by
  simp [errOf, tNum, fits, It.good, goods, It.cnt, cnts, It.dep, deps, It.long, longs, form, zero_size]
theorem tNum_enc : tNum.enc = [1, 2, 2, 88] := by
  simp [tNum, It.enc, foldN, cntB, dgs, be]
theorem tBad_err : errOf tBad = 4 := by
  simp [errOf, tBad, fits, It.good, goods, It.cnt, cnts, It.dep, deps, It.long, longs, form]
theorem tStr_sz : szOf tStr = 5 := by
  have hz : (⟨#[97, 98]⟩ : ByteArray).size = 2 := rfl
  simp [szOf, tStr, fits, It.good, goods, It.cnt, cnts, It.dep, deps, It.long, longs, form, It.enc, hz, cntB_length, dgs]
theorem dec_row : dec [3, 1, 2, 1, 0, 2, 0] = some tRow := by
  rw [dec_iff]
  refine ⟨?_, ?_, ?_, ?_⟩
  · simp [tRow, It.ok, oks, form, zero_size]
  · simp [tRow, It.dep, deps]
  · simp [tRow, It.cnt, cnts]
  · simp [tRow, It.enc, encs, foldN, cntB, dgs, be, zero_size]
theorem dec_bad : dec [1, 1, 0] = none := by
  simp [dec, pit, pcnt]
theorem isIt_num (w : World) (S : Nat → Prop) (k n : Int) (hk : InR k) (h : InR n) : IsIt w S (.mk k n ⟨#[]⟩ []) (.agg #[.int .i64 k, .int .i64 n, .string ⟨#[]⟩, .slice none 0 0]) := by
  rw [IsIt]
  exact ⟨none, 0, rfl, hk, h, Nat.zero_le _, Nat.zero_le _, by rw [AreIts]; trivial⟩
theorem isIt_str (w : World) (S : Nat → Prop) (s : ByteArray) (h : s.size ≤ maxLen) : IsIt w S (.mk 2 0 s []) (.agg #[.int .i64 2, .int .i64 0, .string s, .slice none 0 0]) := by
  rw [IsIt]
  exact ⟨none, 0, rfl, ⟨by omega, by omega⟩, ⟨by omega, by omega⟩, h, Nat.zero_le _, by rw [AreIts]; trivial⟩
theorem conv_own {w : World} {base : Nat} {v : Value} {l : List UInt8} (h : OwnB w base v l) : (convert 58 9 v).run Tryz.prog w = .ok (.string ⟨l.toArray⟩) w := by
  obtain ⟨A, cap, rfl, hb, _, _⟩ := h.form
  exact conv_str hb _ _ rfl
/-- a row of bytes, just made -/
theorem bytes_new (w : World) (bs : List UInt8) (B : Nat) (hB : w.heap.size < B) : BytesAt (w.alloc (.cells (vB bs).toArray 5)) B (some ⟨w.heap.size, 0, none⟩) bs := fun _ =>
  ⟨w.heap.size, 0, rfl, hB, fun j u hu => by
    rw [Nat.zero_add, cell_of_row _ _ j _ _ _ (heap_alloc_new w _)]
    simp [vB, hu]⟩
end Go.Proofs.YtebacdegjmcnlaaGreat
namespace Go.Proofs.YtebacdegjmcnlaaGreat
open Go.RowKit Pl
set_option linter.unusedVariables false
def ItemsPost (t : It) (most deep : Int) (w : World) (e : Ending) (w' : World) : Prop :=
  ∃ n d : Int, e = .returned (.tuple #[.int .i64 n, .int .i64 d]) ∧ Below w.heap.size w w' ∧ 1 ≤ n ∧ n ≤ most + 1 ∧ deep ≤ d ∧ d ≤ 13 ∧ (n ≤ most → d ≤ 12 → n = t.cnt ∧ d + 1 = deep + t.dep)
def ItemsAll (N : Nat) : Prop := ∀ (t : It) (v : Value) (most deep : Int) (w : World), t.cnt ≤ N → IsIt w (· < w.heap.size) t v → 0 ≤ most → most ≤ 1099511627776 → 1 ≤ deep → deep ≤ 13 →
  Calls Tryz.prog 67 #[v, .int .i64 most, .int .i64 deep] w (ItemsPost t most deep w)
def ItemsRel (l : List It) (most deep : Int) (w0 : World) (un ud uk : Value) (wr : World) : Prop :=
  ∃ (j : Nat) (n d : Int), j ≤ l.length ∧ uk = .int .i64 j ∧ un = .int .i64 n ∧ ud = .int .i64 d ∧ Below w0.heap.size w0 wr ∧ 1 ≤ n ∧ n ≤ most + 1 ∧ deep ≤ d ∧ d ≤ 13 ∧ (n ≤ most → d ≤ 12 → n = 1 + cnts (l.take j) ∧ d = deep + deps (l.take j))
theorem itemsRel_step {l : List It} {most deep : Int} {w0 wr w4 : World} {j : Nat} {n d m e : Int} {x : It} (hlt : j < l.length) (hts : l.take (j + 1) = l.take j ++ [x]) (hb : Below w0.heap.size w0 wr) (hb4 : Below wr.heap.size wr w4) (h1 : 1 ≤ n) (h2 : n ≤ most)
    (h3 : deep ≤ d) (h4 : d ≤ 13) (h5 : n ≤ most → d ≤ 12 → n = 1 + cnts (l.take j) ∧ d = deep + deps (l.take j)) (m1 : 1 ≤ m) (m2 : m ≤ most - n + 1) (e1 : deep + 1 ≤ e) (e2 : e ≤ 13) (h6 : m ≤ most - n → e ≤ 12 → m = x.cnt ∧ e + 1 = deep + 1 + x.dep) (d' : Int) (hd : d' = max d e) :
    ItemsRel l most deep w0 (.int .i64 (n + m)) (.int .i64 d') (.int .i64 ((j : Int) + 1)) w4 := by
  subst hd
  refine ⟨j + 1, n + m, max d e, by omega, by rw [Int.natCast_add]; rfl, rfl, rfl, hb.trans (hb4.mono hb.size), by omega, by omega, by omega, by omega, fun a1 a2 => ?_⟩
  obtain ⟨p1, p2⟩ := h5 (by omega) (by omega)
  obtain ⟨p3, p4⟩ := h6 (by omega) (by omega)
  have hp := dep_pos x
  rw [hts, cnts_append, cnts_one, deps_append, deps_one]
  omega
set_option maxRecDepth 20000 in
theorem items_step (N : Nat) (ih : ItemsAll N) (k n : Int) (s : ByteArray) (l : List It) (a : Option Addr) (c : Nat) (most deep : Int) (w : World) (hN : cnts l ≤ N) (hl : l.length ≤ maxLen) (hal : AreIts w (· < w.heap.size) l a 0) (h0 : 0 ≤ most) (h1 : most ≤ 1099511627776) (d1 : 1 ≤ deep) (d2 : deep ≤ 13) :
    Calls Tryz.prog 67 #[.agg #[.int .i64 k, .int .i64 n, .string s, .slice a l.length c], .int .i64 most, .int .i64 deep] w (ItemsPost (.mk k n s l) most deep w) := by
  have HI := Lib.hid ih
  have HL := Lib.hid hal
  unfold maxLen at hl
  clear ih hal
  go_enter Tryz.func67, Tryz.ntmps67
  go_wp2_with fail
  generalize hw0 : w.alloc (.cells #[.int .i64 k, .int .i64 n, .string s, .slice a l.length c] 50) = w0
  have hs0 : w0.heap.size = w.heap.size + 1 := by rw [← hw0]; simp
  have hx0 : w0.heap[w.heap.size]? = some (.cells #[.int .i64 k, .int .i64 n, .string s, .slice a l.length c] 50 (0, 0)) := by rw [← hw0]; exact heap_alloc_new _ _
  have hb0 : Below w.heap.size w w0 := by rw [← hw0]; exact (Below.refl _ _).alloc (Nat.le_refl _) _
  have HX := Lib.hid hx0
  have HB := Lib.hid hb0
  have HS0 := Lib.hid hs0
  clear hw0 hx0 hb0 hs0
  go_loopw [8, 9, 10] (fun un ud uk wr => ItemsRel l most deep w0 un ud uk wr) (fun _ _ uk _ => l.length - (intOf uk).toNat)
  case atStart => exact ⟨0, 1, deep, by omega, rfl, rfl, rfl, Below.refl _ _, by omega, by omega, by omega, by omega, fun _ _ => by simp [cnts, deps]⟩
  case round =>
    obtain ⟨j, nn, dd, hj, rfl, rfl, rfl, hbr, n1, n2, e1, e2, hcl⟩ := hrel
    have hsr := hbr.size
    have hs0 := HS0.out
    have hbl : w.heap.size < wr.heap.size := by omega
    have hxr : wr.heap[w.heap.size]? = some (.cells #[.int .i64 k, .int .i64 n, .string s, .slice a l.length c] 50 (0, 0)) := (hbr.block _ (by omega)).trans HX.out
    have hc3 : wr.cell? ⟨w.heap.size, 3, none⟩ = some (.slice a l.length c) := cell_of_row wr _ 3 _ _ _ hxr
    have HCL := Lib.hid hcl
    have HBR := Lib.hid hbr
    clear hs0 hxr hcl hbr
    have fin : ∀ (h : ¬ (j < l.length) ∨ (j < l.length ∧ ¬ nn ≤ most) ∨ (j < l.length ∧ nn ≤ most ∧ ¬ deep ≤ 12)), ItemsPost (.mk k n s l) most deep w (.returned (.tuple #[.int .i64 nn, .int .i64 dd])) wr := by
      intro h
      refine ⟨nn, dd, rfl, HB.out.trans (HBR.out.mono (by have := HS0.out; omega)), n1, n2, e1, e2, fun a1 a2 => ?_⟩
      have hlen : j = l.length := by omega
      obtain ⟨p1, p2⟩ := HCL.out a1 a2
      rw [hlen, List.take_length] at p1 p2
      simp only [It.cnt, It.dep]
      omega
    have HFIN := Lib.hid fin
    clear fin
    by_cases hlt : j < l.length
    · by_cases hn : nn ≤ most
      · by_cases hd : deep ≤ 12
        · have hkeep : ∀ q, q < w.heap.size → wr.heap[q]? = w.heap[q]? := fun q hq => (HBR.out.block q (by have := HS0.out; omega)).trans (HB.out.block q hq)
          obtain ⟨bk, off, u0, u1, u2, u3, rfl, hSb, k0, k1, k2, k3, hx⟩ := (AreIts.keep hkeep l HL.out).at_ (k := j) (x := l[j]) (List.getElem?_eq_getElem hlt)
          have hts := take_succ' l j l[j] (List.getElem?_eq_getElem hlt)
          have hmc := mem_cnt (List.getElem?_eq_getElem hlt)
          generalize l[j] = x at hx hts hmc
          obtain ⟨qk, qn, qs, qa, qm, qc, rfl, rfl, rfl, rfl⟩ := hx.parts
          have HX2 := Lib.hid hx
          have HTS := Lib.hid hts
          clear hx hts hkeep
          rw [Nat.zero_add] at k0 k1 k2 k3
          go_wp2_with fail
          refine (HI.out x _ _ _ wr (by omega) (IsIt.mono (fun q hq => by omega) x HX2.out) (by omega) (by omega) (by omega) (by omega)).mono ?_
          rintro e w4 ⟨m, ee, rfl, hb4, m1, m2, f1, f2, hcl4⟩
          have HB4 := Lib.hid hb4
          have HC4 := Lib.hid hcl4
          clear hb4 hcl4
          by_cases hmax : dd < ee
          · go_wp2_with fail
            go_roundw
            case rel => exact itemsRel_step hlt HTS.out HBR.out HB4.out n1 hn e1 e2 HCL.out m1 m2 f1 f2 HC4.out ee (by omega)
            case measure => simp [intOf]; omega
          · go_wp2_with fail
            go_roundw
            case rel => exact itemsRel_step hlt HTS.out HBR.out HB4.out n1 hn e1 e2 HCL.out m1 m2 f1 f2 HC4.out dd (by omega)
            case measure => simp [intOf]; omega
        · go_wp2_with fail
          go_ret2
          exact HFIN.out (.inr (.inr ⟨by omega, by omega, by omega⟩))
      · go_wp2_with fail
        go_ret2
        exact HFIN.out (.inr (.inl ⟨by omega, by omega⟩))
    · go_wp2_with fail
      go_ret2
      exact HFIN.out (.inl (by omega))
theorem items_all : ∀ N, ItemsAll N := by
  intro N
  induction N with
  | zero => intro t _ _ _ _ h; have := cnt_pos t; omega
  | succ N ih =>
    intro t v most deep w hN hv h0 h1 d1 d2
    obtain ⟨k, n, s, l⟩ := t
    rw [IsIt] at hv
    obtain ⟨a, c, rfl, _, _, _, hl, hal⟩ := hv
    rw [cnt_mk] at hN
    exact items_step N ih k n s l a c most deep w (by omega) hl hal h0 h1 d1 d2
end Go.Proofs.YtebacdegjmcnlaaGreat
