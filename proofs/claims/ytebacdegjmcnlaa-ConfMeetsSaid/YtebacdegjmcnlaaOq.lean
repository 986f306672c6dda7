/-
  Orders: which one any data is, put together. Condition: the data has at most 2^48 bytes.
-/
import Derived.Test.YtebacdegjmcnlaaOp
namespace Go.Proofs.Ytebacdegjmcnlaa
set_option maxRecDepth 20000
open Go.RowKit Pl
set_option linter.unusedVariables false
theorem numP_InR {x : It} (h : x.ok = true ∨ x = zI) : InR (numP x) := by
  rcases h with h | rfl
  · obtain ⟨k, n, s, l⟩ := x
    rw [It.ok] at h
    simp only [Bool.and_eq_true, decide_eq_true_eq, form, Bool.or_eq_true, beq_iff_eq] at h
    obtain ⟨⟨⟨⟨h1, h2⟩, _⟩, _⟩, _⟩ := h
    show InR n
    unfold InR
    rcases h1 with (h1 | h1) | h1
    · exact h2 h1.1.1
    · have := h1.1.2; omega
    · have := h1.1.2; omega
  · exact ⟨by decide, by decide⟩
theorem rdN_InR (l : List UInt8) (j : Nat) : InR (rdN l j) := numP_InR (part_ok l j)
theorem rdC_fine (l : List UInt8) : InR (rdC l).1 ∧ (rdC l).2.1.size ≤ 4096 ∧ (rdC l).2.2.1.size ≤ 4096 ∧ InR (rdC l).2.2.2.1 ∧ InR (rdC l).2.2.2.2.1 ∧ InR (rdC l).2.2.2.2.2.1 ∧ InR (rdC l).2.2.2.2.2.2 := by
  have z : InR 0 := ⟨by decide, by decide⟩
  unfold rdC
  cases h : resC (txP (part (itemL l) 4)) with
  | none => exact ⟨z, by simp [zT, zero_size], by simp [zT, zero_size], z, z, z, z⟩
  | some x =>
    obtain ⟨o, s, t, a, b, c, n⟩ := x
    obtain ⟨hm, r1, r2, r3, r4, r5, _⟩ := (resC_iff _ o s t a b c n).1 h
    obtain ⟨s1, s2⟩ := mayC_name hm
    exact ⟨r1, s1, s2, r2, r3, r4, r5⟩
def Or.may (x : Or) : Bool := mayO x.k x.i x.q x.n x.o x.s x.t x.a x.b x.c x.m
def Or.enc (x : Or) : ByteArray := encO x.k x.i x.q x.n x.o x.s x.t x.a x.b x.c x.m
def Or.err (x : Or) : Int := errO x.k x.i x.q x.n x.o x.s x.t x.a x.b x.c x.m
structure Or.Fine (x : Or) : Prop where
  k : InR x.k
  i : InR x.i
  q : InR x.q
  n : InR x.n
  o : InR x.o
  s : x.s.size ≤ 281474976710656
  t : x.t.size ≤ 281474976710656
  a : InR x.a
  b : InR x.b
  c : InR x.c
  m : InR x.m
theorem rdO_fine (l : List UInt8) : (rdO l).Fine := by
  obtain ⟨h1, h2, h3, h4, h5, h6, h7⟩ := rdC_fine l
  exact ⟨rdN_InR l 0, rdN_InR l 1, rdN_InR l 2, rdN_InR l 3, h1, Nat.le_trans h2 (by decide), Nat.le_trans h3 (by decide), h4, h5, h6, h7⟩
theorem encode_any2 {x : Or} (h : x.Fine) (w : World) : Calls Try.prog 20 #[x.v] w (RetBelow (.tuple #[.string x.enc, .int .i64 x.err]) w) :=
  encodeO_any _ _ _ _ _ _ _ _ _ _ _ w h.k h.i h.q h.n h.o h.s h.t h.a h.b h.c h.m
theorem beq_ba {x y : ByteArray} : (x == y) = true ↔ x = y := by
  obtain ⟨⟨x⟩⟩ := x
  obtain ⟨⟨y⟩⟩ := y
  show ((⟨x⟩ : Array UInt8) == ⟨y⟩) = true ↔ _
  simp
def okO (l : List UInt8) : Bool := (rdO l).err == 0 && (rdO l).enc == Nm.str l
def zO : Or := ⟨0, 0, 0, 0, 0, ⟨#[]⟩, ⟨#[]⟩, 0, 0, 0, 0⟩
theorem decodeO_any (l : List UInt8) (w : World) (hs : l.length ≤ 281474976710656) : Calls Try.prog 30 #[.string (Nm.str l)] w (RetBelow (.tuple #[if okO l = true then (rdO l).v else zO.v, .int .i64 (if okO l = true then 0 else 4)]) w) := by
  have hr : ∀ X, Calls Try.prog 38 #[.string (Nm.str l)] X (RetBelow (rdO l).v X) := fun X => readO_any l X hs
  have he : ∀ X, Calls Try.prog 20 #[(rdO l).v] X (RetBelow (.tuple #[.string (rdO l).enc, .int .i64 (rdO l).err]) X) := fun X => encode_any2 (rdO_fine l) X
  cases h : okO l with
  | false =>
    rw [if_neg (by decide), if_neg (by decide)]
    refine dec_no (Nm.str l) (rdO l).enc _ _ _ _ _ _ _ _ _ _ _ (rdO l).err w ?_ (Lib.hid hr) (Lib.hid he)
    unfold okO at h
    by_cases h0 : (rdO l).err = 0
    · right
      intro h1
      rw [h0, h1] at h
      simp only [beq_self_eq_true, Bool.true_and] at h
      rw [beq_ba.2 rfl] at h
      cases h
    · exact .inl h0
  | true =>
    rw [if_pos rfl, if_pos rfl]
    unfold okO at h
    simp only [Bool.and_eq_true, beq_iff_eq] at h
    rw [h.1, beq_ba.1 h.2] at he
    exact dec_yes (Nm.str l) _ _ _ _ _ _ _ _ _ _ _ w (Lib.hid hr) (Lib.hid he)
end Go.Proofs.Ytebacdegjmcnlaa
