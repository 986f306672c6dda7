import Derived.Test.YtebacdegjmcnlaaWd
namespace Go.Proofs.Ytebacdegjmcnlaa
open Go.RowKit Pl
set_option linter.unusedVariables false

theorem zero_size : (⟨#[]⟩ : ByteArray).size = 0 := rfl
theorem OwnB.form {w : World} {base : Nat} {v : Value} {l : List UInt8} (h : OwnB w base v l) : ∃ A cap, v = .slice A l.length cap ∧ BytesAt w w.heap.size A l ∧ l.length ≤ cap ∧ cap ≤ 9223372036854775807 := by
  have h0 := h
  rcases h.2 with ⟨rfl, hn⟩ | ⟨g, cap, cur, rfl, hb, hh, hc, hm, _⟩
  · have : l = [] := List.eq_nil_of_length_eq_zero hn
    subst this
    exact ⟨none, 0, rfl, BytesAt.nil _ _ _, by simp, by omega⟩
  · refine ⟨some ⟨g, 0, none⟩, cap, rfl, fun hne => ⟨g, 0, rfl, (Array.getElem?_eq_some_iff.1 hh).1, fun j u hu => ?_⟩, hc, by simp only [maxLen] at hm; omega⟩
    have := h0.cells (g := g) rfl j (.int .u8 (u.toNat : Int)) (by simp [vB, hu])
    unfold Addr.add at this
    split at this
    · subst j; simpa using this
    · simpa using this

/-- the items that 'awake' asks for -/
def tNum : It := .mk 1 300 ⟨#[]⟩ []
def tBad : It := .mk 4 0 ⟨#[]⟩ []
def tStr : It := .mk 2 0 ⟨#[97, 98]⟩ []
def tRow : It := .mk 3 0 ⟨#[]⟩ [.mk 1 0 ⟨#[]⟩ [], .mk 2 0 ⟨#[]⟩ []]
theorem tNum_err : errOf tNum = 0 := by
  simp [errOf, tNum, fits, It.good, goods, It.cnt, cnts, It.dep, deps, It.long, longs, form, zero_size]
theorem tNum_enc : tNum.enc = [1, 2, 2, 88] := by
  simp [tNum, It.enc, foldN, cntB, dgs, be]
theorem tBad_err : errOf tBad = 4 := by
  simp [errOf, tBad, fits, It.good, goods, It.cnt, cnts, It.dep, deps, It.long, longs, form]
theorem tStr_sz : szOf tStr = 5 := by
  have hz : (⟨#[97, 98]⟩ : ByteArray).size = 2 := rfl
  simp [szOf, tStr, fits, It.good, goods, It.cnt, cnts, It.dep, deps, It.long, longs, form, It.enc, hz, cntB_length, dgs]
theorem dec_row : dec [3, 1, 2, 1, 0, 2, 0] = some tRow := by
  rw [dec_iff]
  refine ⟨?_, ?_, ?_, ?_⟩
  · simp [tRow, It.ok, oks, form, zero_size]
  · simp [tRow, It.dep, deps]
  · simp [tRow, It.cnt, cnts]
  · simp [tRow, It.enc, encs, foldN, cntB, dgs, be, zero_size]
theorem dec_bad : dec [1, 1, 0] = none := by
  simp [dec, pit, pcnt]

theorem isIt_num (w : World) (S : Nat → Prop) (k n : Int) (hk : InR k) (h : InR n) : IsIt w S (.mk k n ⟨#[]⟩ []) (.agg #[.int .i64 k, .int .i64 n, .string ⟨#[]⟩, .slice none 0 0]) := by
  rw [IsIt]
  exact ⟨none, 0, rfl, hk, h, Nat.zero_le _, Nat.zero_le _, by rw [AreIts]; trivial⟩
theorem isIt_str (w : World) (S : Nat → Prop) (s : ByteArray) (h : s.size ≤ maxLen) : IsIt w S (.mk 2 0 s []) (.agg #[.int .i64 2, .int .i64 0, .string s, .slice none 0 0]) := by
  rw [IsIt]
  exact ⟨none, 0, rfl, ⟨by omega, by omega⟩, ⟨by omega, by omega⟩, h, Nat.zero_le _, by rw [AreIts]; trivial⟩
theorem conv_own {w : World} {base : Nat} {v : Value} {l : List UInt8} (h : OwnB w base v l) : (convert 67 9 v).run Try.prog w = .ok (.string ⟨l.toArray⟩) w := by
  obtain ⟨A, cap, rfl, hb, _, _⟩ := h.form
  exact conv_str hb _ _ rfl
/-- a row of bytes, just made -/
theorem bytes_new (w : World) (bs : List UInt8) (B : Nat) (hB : w.heap.size < B) : BytesAt (w.alloc (.cells (vB bs).toArray 5)) B (some ⟨w.heap.size, 0, none⟩) bs := fun _ =>
  ⟨w.heap.size, 0, rfl, hB, fun j u hu => by
    rw [Nat.zero_add, cell_of_row _ _ j _ _ _ (heap_alloc_new w _)]
    simp [vB, hu]⟩

end Go.Proofs.Ytebacdegjmcnlaa
namespace Go.Proofs.Ytebacdegjmcnlaa
open Go.RowKit Pl
set_option linter.unusedVariables false

def ItemsPost (t : It) (most deep : Int) (w : World) (e : Ending) (w' : World) : Prop :=
  ∃ n d : Int, e = .returned (.tuple #[.int .i64 n, .int .i64 d]) ∧ Below w.heap.size w w' ∧ 1 ≤ n ∧ n ≤ most + 1 ∧ deep ≤ d ∧ d ≤ 13 ∧ (n ≤ most → d ≤ 12 → n = t.cnt ∧ d + 1 = deep + t.dep)
def ItemsRel (l : List It) (most deep : Int) (w0 : World) (un ud uk : Value) (wr : World) : Prop :=
  ∃ (j : Nat) (n d : Int), j ≤ l.length ∧ uk = .int .i64 j ∧ un = .int .i64 n ∧ ud = .int .i64 d ∧ Below w0.heap.size w0 wr ∧ 1 ≤ n ∧ n ≤ most + 1 ∧ deep ≤ d ∧ d ≤ 13 ∧ (n ≤ most → d ≤ 12 → n = 1 + cnts (l.take j) ∧ d = deep + deps (l.take j))

theorem itemsRel_step {l : List It} {most deep : Int} {w0 wr w4 : World} {j : Nat} {n d m e : Int} {x : It} (hlt : j < l.length) (hts : l.take (j + 1) = l.take j ++ [x]) (hb : Below w0.heap.size w0 wr) (hb4 : Below wr.heap.size wr w4) (h1 : 1 ≤ n) (h2 : n ≤ most)
    (h3 : deep ≤ d) (h4 : d ≤ 13) (h5 : n ≤ most → d ≤ 12 → n = 1 + cnts (l.take j) ∧ d = deep + deps (l.take j)) (m1 : 1 ≤ m) (m2 : m ≤ most - n + 1) (e1 : deep + 1 ≤ e) (e2 : e ≤ 13) (h6 : m ≤ most - n → e ≤ 12 → m = x.cnt ∧ e + 1 = deep + 1 + x.dep) (d' : Int) (hd : d' = max d e) :
    ItemsRel l most deep w0 (.int .i64 (n + m)) (.int .i64 d') (.int .i64 ((j : Int) + 1)) w4 := by
  subst hd
  refine ⟨j + 1, n + m, max d e, by omega, by rw [Int.natCast_add]; rfl, rfl, rfl, hb.trans (hb4.mono hb.size), by omega, by omega, by omega, by omega, fun a1 a2 => ?_⟩
  obtain ⟨p1, p2⟩ := h5 (by omega) (by omega)
  obtain ⟨p3, p4⟩ := h6 (by omega) (by omega)
  have hp := dep_pos x
  rw [hts, cnts_append, cnts_one, deps_append, deps_one]
  omega

end Go.Proofs.Ytebacdegjmcnlaa
