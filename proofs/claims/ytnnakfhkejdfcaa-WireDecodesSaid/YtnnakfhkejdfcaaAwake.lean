import Derived.Test.YtnnakfhkejdfcaaDec
namespace Go.Proofs.Ytnnakfhkejdfcaa
open Go.RowKit Pl
set_option linter.unusedVariables false

theorem zero_size : (⟨#[]⟩ : ByteArray).size = 0 := rfl
set_option maxRecDepth 20000 in
theorem num_any (n : Int) (w : World) : Calls Try.prog 16 #[.int .i64 n] w (RetBelow (.agg #[.int .i64 1, .int .i64 n, .string ⟨#[]⟩, .slice none 0 0]) w) := by
  go_enter Try.func16, Try.ntmps16
  go_wp2_with fail
  refine bodyPost_ret (v := .agg #[.int .i64 1, .int .i64 n, .string ⟨#[]⟩, .slice none 0 0]) (by simp [results, Try.results16, go_sem]) rfl ⟨rfl, ?_⟩
  exact (Below.refl _ _).alloc (Nat.le_refl _) _
set_option maxRecDepth 20000 in
theorem str_any (s : ByteArray) (w : World) : Calls Try.prog 17 #[.string s] w (RetBelow (.agg #[.int .i64 2, .int .i64 0, .string s, .slice none 0 0]) w) := by
  go_enter Try.func17, Try.ntmps17
  go_wp2_with fail
  refine bodyPost_ret (v := .agg #[.int .i64 2, .int .i64 0, .string s, .slice none 0 0]) (by simp [results, Try.results17, go_sem]) rfl ⟨rfl, ?_⟩
  exact (Below.refl _ _).alloc (Nat.le_refl _) _
set_option maxRecDepth 20000 in
theorem row_any (a : Option Addr) (m c : Nat) (w : World) : Calls Try.prog 14 #[.slice a m c] w (RetBelow (.agg #[.int .i64 3, .int .i64 0, .string ⟨#[]⟩, .slice a m c]) w) := by
  go_enter Try.func14, Try.ntmps14
  go_wp2_with fail
  refine bodyPost_ret (v := .agg #[.int .i64 3, .int .i64 0, .string ⟨#[]⟩, .slice a m c]) (by simp [results, Try.results14, go_sem]) rfl ⟨rfl, ?_⟩
  exact (Below.refl _ _).alloc (Nat.le_refl _) _

theorem OwnB.form {w : World} {base : Nat} {v : Value} {l : List UInt8} (h : OwnB w base v l) : ∃ A cap, v = .slice A l.length cap ∧ BytesAt w w.heap.size A l ∧ l.length ≤ cap ∧ cap ≤ 9223372036854775807 := by
  have h0 := h
  rcases h.2 with ⟨rfl, hn⟩ | ⟨g, cap, cur, rfl, hb, hh, hc, hm, _⟩
  · have : l = [] := List.eq_nil_of_length_eq_zero hn
    subst this
    exact ⟨none, 0, rfl, BytesAt.nil _ _ _, by simp, by omega⟩
  · refine ⟨some ⟨g, 0, none⟩, cap, rfl, fun hne => ⟨g, 0, rfl, (Array.getElem?_eq_some_iff.1 hh).1, fun j u hu => ?_⟩, hc, by simp only [maxLen] at hm; omega⟩
    have := h0.cells (g := g) rfl j (.int .u8 (u.toNat : Int)) (by simp [vB, hu])
    unfold Addr.add at this
    split at this
    · subst j; simpa using this
    · simpa using this

/-- the items that 'awake' asks for -/
def tNum : It := .mk 1 300 ⟨#[]⟩ []
def tBad : It := .mk 4 0 ⟨#[]⟩ []
def tStr : It := .mk 2 0 ⟨#[97, 98]⟩ []
def tRow : It := .mk 3 0 ⟨#[]⟩ [.mk 1 0 ⟨#[]⟩ [], .mk 2 0 ⟨#[]⟩ []]
theorem tNum_err : errOf tNum = 0 := by
  simp [errOf, tNum, fits, It.good, goods, It.cnt, cnts, It.dep, deps, It.long, longs, form, zero_size]
theorem tNum_enc : tNum.enc = [1, 2, 2, 88] := by
  simp [tNum, It.enc, foldN, cntB, dgs, be]
theorem tBad_err : errOf tBad = 4 := by
  simp [errOf, tBad, fits, It.good, goods, It.cnt, cnts, It.dep, deps, It.long, longs, form]
theorem tStr_sz : szOf tStr = 5 := by
  have hz : (⟨#[97, 98]⟩ : ByteArray).size = 2 := rfl
  simp [szOf, tStr, fits, It.good, goods, It.cnt, cnts, It.dep, deps, It.long, longs, form, It.enc, hz, cntB_length, dgs]
theorem dec_row : dec [3, 1, 2, 1, 0, 2, 0] = some tRow := by
  rw [dec_iff]
  refine ⟨?_, ?_, ?_, ?_⟩
  · simp [tRow, It.ok, oks, form, zero_size]
  · simp [tRow, It.dep, deps]
  · simp [tRow, It.cnt, cnts]
  · simp [tRow, It.enc, encs, foldN, cntB, dgs, be, zero_size]
theorem dec_bad : dec [1, 1, 0] = none := by
  simp [dec, pit, pcnt]

theorem isIt_num (w : World) (S : Nat → Prop) (k n : Int) (hk : InR k) (h : InR n) : IsIt w S (.mk k n ⟨#[]⟩ []) (.agg #[.int .i64 k, .int .i64 n, .string ⟨#[]⟩, .slice none 0 0]) := by
  rw [IsIt]
  exact ⟨none, 0, rfl, hk, h, Nat.zero_le _, Nat.zero_le _, by rw [AreIts]; trivial⟩
theorem isIt_str (w : World) (S : Nat → Prop) (s : ByteArray) (h : s.size ≤ maxLen) : IsIt w S (.mk 2 0 s []) (.agg #[.int .i64 2, .int .i64 0, .string s, .slice none 0 0]) := by
  rw [IsIt]
  exact ⟨none, 0, rfl, ⟨by omega, by omega⟩, ⟨by omega, by omega⟩, h, Nat.zero_le _, by rw [AreIts]; trivial⟩
theorem conv_own {w : World} {base : Nat} {v : Value} {l : List UInt8} (h : OwnB w base v l) : (convert 22 9 v).run Try.prog w = .ok (.string ⟨l.toArray⟩) w := by
  obtain ⟨A, cap, rfl, hb, _, _⟩ := h.form
  exact conv_str hb _ _ rfl
/-- a row of bytes, just made -/
theorem bytes_new (w : World) (bs : List UInt8) (B : Nat) (hB : w.heap.size < B) : BytesAt (w.alloc (.cells (vB bs).toArray 5)) B (some ⟨w.heap.size, 0, none⟩) bs := fun _ =>
  ⟨w.heap.size, 0, rfl, hB, fun j u hu => by
    rw [Nat.zero_add, cell_of_row _ _ j _ _ _ (heap_alloc_new w _)]
    simp [vB, hu]⟩

set_option maxRecDepth 20000 in
theorem awake_any (w : World) : Calls Try.prog 7 #[] w (RetBelow (.bool true) w) := by
  go_enter Try.func7, Try.ntmps7
  go_wp2_with fail
  refine (num_any _ _).mono ?_
  rintro e w1 ⟨rfl, hb1⟩
  go_wp2_with fail
  refine (encode_any tNum _ w1 (isIt_num _ _ 1 300 ⟨by omega, by omega⟩ ⟨by omega, by omega⟩) (by rw [tNum_enc]; simp)).mono ?_
  rintro e w2 ⟨v2, rfl, hb2, hown2⟩
  rw [if_pos tNum_err, tNum_enc] at hown2
  rw [tNum_err]
  have hs1 := hb1.size
  have hs2 := hb2.size
  have hbb2 : Below w.heap.size w w2 := hb1.trans (hb2.mono hs1)
  have HO2 := Lib.hid hown2
  have HB2 := Lib.hid hbb2
  clear hb1 hb2 hown2 hbb2
  go_wp2_with fail
  have hnew := bytes_new w2 [3, 1, 2, 1, 0, 2, 0] (w2.heap.size + 1) (by omega)
  refine (decode_any [3, 1, 2, 1, 0, 2, 0] _ _ _ _ (by rw [World.size_alloc]; exact hnew) rfl (by simp) (by omega)).mono ?_
  rintro e w3 ⟨hb3, hy, _⟩
  obtain ⟨v3, rfl, hv3⟩ := hy _ dec_row
  have hb3' : Below w2.heap.size w2 w3 := ((Below.refl _ _).alloc (Nat.le_refl _) _).trans (hb3.mono (by simp))
  have hs3 := hb3'.size
  rw [tRow, IsIt] at hv3
  obtain ⟨A, cap, rfl, _, _, _, _, hal⟩ := hv3
  obtain ⟨b, off, u0, u1, u2, u3, rfl, hSb, k0, k1, k2, k3, hit⟩ := hal.at_ (k := 1) rfl
  rw [IsIt] at hit
  obtain ⟨A', cap', he, _⟩ := hit
  simp only [Value.agg.injEq, Array.mk.injEq, List.cons.injEq, and_true] at he
  obtain ⟨rfl, rfl, rfl, rfl⟩ := he
  have hbb3 : Below w.heap.size w w3 := HB2.out.trans (hb3'.mono (by omega))
  have hown3 := HO2.out.below hb3'
  have hk0 : w3.cell? ⟨b, off + 4, none⟩ = some (.int .i64 2) := by simpa using k0
  have hbl : b < w3.heap.size := hSb.2
  have HB3 := Lib.hid hbb3
  have HO3 := Lib.hid hown3
  clear hb3 hy hal k0 k1 k2 k3 hSb hb3' hbb3 hown3 hnew
  go_wp2_with fail
  have hnew : BytesAt ((w3.alloc (.cells #[.int .i64 3, .int .i64 0, .string ⟨#[]⟩, .slice (some ⟨b, off, none⟩) 2 cap] 26)).alloc (.cells (vB [1, 1, 0]).toArray 5)) (w3.heap.size + 1 + 1) (some ⟨w3.heap.size + 1, 0, none⟩) [1, 1, 0] := by
    have := bytes_new (w3.alloc (.cells #[.int .i64 3, .int .i64 0, .string ⟨#[]⟩, .slice (some ⟨b, off, none⟩) 2 cap] 26)) [1, 1, 0] (w3.heap.size + 1 + 1) (by simp)
    rwa [World.size_alloc] at this
  refine (decode_any [1, 1, 0] _ _ _ _ (by rw [World.size_alloc, World.size_alloc]; exact hnew) rfl (by simp) (by omega)).mono ?_
  rintro e w4 ⟨hb4, _, hz⟩
  obtain rfl := hz dec_bad
  have hb4' : Below (w3.heap.size + 1) (w3.alloc (.cells #[.int .i64 3, .int .i64 0, .string ⟨#[]⟩, .slice (some ⟨b, off, none⟩) 2 cap] 26)) w4 := ((Below.refl _ _).alloc (by simp) _).trans (hb4.mono (by simp))
  have hrow4 : w4.heap[w3.heap.size]? = some (.cells #[.int .i64 3, .int .i64 0, .string ⟨#[]⟩, .slice (some ⟨b, off, none⟩) 2 cap] 26 (0, 0)) := (hb4'.block _ (by omega)).trans (heap_alloc_new _ _)
  have hb4'' : Below w3.heap.size w3 w4 := ((Below.refl _ _).alloc (Nat.le_refl _) _).trans (hb4'.mono (by omega))
  have hs4 : w3.heap.size + 1 ≤ w4.heap.size := by have := hb4'.size; simpa using this
  have hown4 := HO3.out.below hb4''
  have hk4 : w4.cell? ⟨b, off + 4, none⟩ = some (.int .i64 2) := (hb4''.cell (p := ⟨b, off + 4, none⟩) hbl).trans hk0
  have hbb4 : Below w.heap.size w w4 := HB3.out.trans (hb4''.mono (by omega))
  have HB4 := Lib.hid hbb4
  have HO4 := Lib.hid hown4
  have HR4 := Lib.hid hrow4
  have HK4 := Lib.hid hk4
  clear hnew hb4 hz hb4' hb4'' hrow4 hown4 hk4 hk0 hbb4
  unfold zeroItem
  go_wp2_with fail
  have hs5 : w4.heap.size ≤ (w4.alloc (.cells #[.int .i64 0, .int .i64 0, .string ⟨#[]⟩, .slice none 0 0] 26)).heap.size := by simp
  have hbb5 := HB4.out.alloc (by omega) (.cells #[.int .i64 0, .int .i64 0, .string ⟨#[]⟩, .slice none 0 0] 26)
  have hal5 : Below w4.heap.size w4 (w4.alloc (.cells #[.int .i64 0, .int .i64 0, .string ⟨#[]⟩, .slice none 0 0] 26)) := (Below.refl _ _).alloc (Nat.le_refl _) _
  generalize w4.alloc (.cells #[.int .i64 0, .int .i64 0, .string ⟨#[]⟩, .slice none 0 0] 26) = w5 at *
  refine (encode_any tBad _ w5 (isIt_num _ _ 4 0 ⟨by omega, by omega⟩ ⟨by omega, by omega⟩) (by rw [tBad_err]; intro h; cases h)).mono ?_
  rintro e w6 ⟨v6, rfl, hb6, hown6⟩
  rw [tBad_err]
  have hb46 : Below w4.heap.size w4 w6 := hal5.trans (hb6.mono hs5)
  have hs6 := hb46.size
  have hown6' := HO4.out.below hb46
  have hrow6 : w6.heap[w3.heap.size]? = some (.cells #[.int .i64 3, .int .i64 0, .string ⟨#[]⟩, .slice (some ⟨b, off, none⟩) 2 cap] 26 (0, 0)) := (hb46.block _ (by omega)).trans HR4.out
  have hk6 : w6.cell? ⟨b, off + 4, none⟩ = some (.int .i64 2) := (hb46.cell (p := ⟨b, off + 4, none⟩) (by show b < _; omega)).trans HK4.out
  have hbb6 : Below w.heap.size w w6 := HB4.out.trans (hb46.mono (by omega))
  have hcv := conv_own hown6'
  have hr3 : w6.cell? ⟨w3.heap.size, 3, none⟩ = some (.slice (some ⟨b, off, none⟩) 2 cap) := cell_of_row w6 _ 3 _ _ _ hrow6
  have HB6 := Lib.hid hbb6
  clear hbb5 hal5 hb6 hown6 hb46 hown6' hrow6 hbb6
  have hcv' : (convert 22 9 v2).run Try.prog w6 = .ok (.string ⟨#[1, 2, 2, 88]⟩) w6 := hcv
  clear hcv
  go_wp2_with fail
  refine (str_any _ w6).mono ?_
  rintro e w7 ⟨rfl, hb7⟩
  have hs7 := hb7.size
  go_wp2_with fail
  refine (size_any tStr _ w7 (isIt_str _ _ _ (by show 2 ≤ maxLen; simp [maxLen]))).mono ?_
  rintro e w8 ⟨rfl, hb8⟩
  rw [tStr_sz]
  go_wp2_with fail
  go_ret
  exact ⟨rfl, HB6.out.trans ((hb7.trans (hb8.mono hs7)).mono (by omega))⟩

end Go.Proofs.Ytnnakfhkejdfcaa
