/-
  Orders: which one any data is. Condition: the data has at most 2^48 bytes.
-/
import Derived.Test.YtebacdegjmcnlaaOk
namespace Go.Proofs.Ytebacdegjmcnlaa
set_option maxRecDepth 20000
open Go.RowKit Pl
set_option linter.unusedVariables false
theorem str_data {s : ByteArray} {t : It} (h : s.data.toList = txP t) : s = Nm.str (txP t) := by
  rw [← h]; rfl
def itemL (l : List UInt8) : It := (dec l).getD zI
theorem oks_at2 : ∀ {l : List It} {j : Nat} {x : It}, oks l = true → l[j]? = some x → x.ok = true
  | [], j, x, _, h => by simp at h
  | y :: r, 0, x, h, hx => by
    obtain rfl : y = x := by simpa using hx
    rw [oks, Bool.and_eq_true] at h
    exact h.1
  | y :: r, j + 1, x, h, hx => by
    rw [oks, Bool.and_eq_true] at h
    exact oks_at2 h.2 (j := j) (by simpa using hx)
theorem part_ok (l : List UInt8) (j : Nat) : (part (itemL l) j).ok = true ∨ part (itemL l) j = zI := by
  unfold part
  cases hx : (elsP (itemL l))[j]? with
  | none => exact .inr rfl
  | some x =>
    left
    unfold itemL at hx
    cases hd : dec l with
    | none => rw [hd] at hx; simp [zI, elsP] at hx
    | some t =>
      rw [hd] at hx
      have ho := ((dec_iff l t).1 hd).1
      obtain ⟨k, n, s, r⟩ := t
      rw [It.ok] at ho
      simp only [Bool.and_eq_true] at ho
      exact oks_at2 ho.2 hx
theorem txP_len (l : List UInt8) (j : Nat) : (txP (part (itemL l) j)).length ≤ 281474976710656 := by
  rcases part_ok l j with h | h
  · generalize part (itemL l) j = x at *
    have := ok_size h
    obtain ⟨k, n, s, r⟩ := x
    have e : (txP (.mk k n s r)).length = s.size := by simp only [txP, Array.length_toList]; rfl
    rw [e]
    exact this
  · rw [h]; simp [zI, txP]
/-- what data tells of an order -/
def zT : T7 := (0, ⟨#[]⟩, ⟨#[]⟩, 0, 0, 0, 0)
def rdC (l : List UInt8) : T7 := (resC (txP (part (itemL l) 4))).getD zT
def rdN (l : List UInt8) (j : Nat) : Int := numP (part (itemL l) j)
theorem itemQ_any (l : List UInt8) (w : World) (hs : l.length ≤ 281474976710656) : Calls Try.prog 54 #[.string (Nm.str l)] w (ItQ w (rdN l 0) (rdN l 1) (rdN l 2) (rdN l 3) (Nm.str (txP (part (itemL l) 4)))) := by
  refine (itemZ_any l w hs).mono ?_
  rintro e w1 ⟨hb, v, rfl, hv⟩
  have hv2 : IsIt w1 (· < w1.heap.size) (itemL l) v := IsIt.mono (fun q hq => hq.2) _ hv
  obtain ⟨kk, ss, AA, cc, e0, _⟩ := IsIt.form hv2
  have hp : ∀ j : Nat, ∃ (k : Int) (s : ByteArray) (A : Option Addr) (m c : Nat), s = Nm.str (txP (part (itemL l) j)) ∧ ∀ X, Below w1.heap.size w1 X → Calls Try.prog 56 #[v, .int .i64 (j : Int)] X (RetBelow (.agg #[.int .i64 k, .int .i64 (rdN l j), .string s, .slice A m c]) X) := by
    intro j
    obtain ⟨u, hu, hc⟩ := part_any j hv2
    obtain ⟨k, s, A, c, rfl, h2, _⟩ := IsIt.form hu
    exact ⟨k, s, A, _, c, str_data h2, hc⟩
  subst e0
  refine ⟨hb, kk, _, ss, AA, _, cc, rfl, ?_, ?_, ?_, ?_, ?_⟩
  · obtain ⟨k, s, A, m, c, _, h⟩ := hp 0
    exact ⟨k, s, A, m, c, h⟩
  · obtain ⟨k, s, A, m, c, _, h⟩ := hp 1
    exact ⟨k, s, A, m, c, h⟩
  · obtain ⟨k, s, A, m, c, _, h⟩ := hp 2
    exact ⟨k, s, A, m, c, h⟩
  · obtain ⟨k, s, A, m, c, _, h⟩ := hp 3
    exact ⟨k, s, A, m, c, h⟩
  · obtain ⟨k, s, A, m, c, rfl, h⟩ := hp 4
    exact ⟨k, _, A, m, c, h⟩
/-- the order that data tells, whether it is right or not -/
def rdO (l : List UInt8) : Or := ⟨rdN l 0, rdN l 1, rdN l 2, rdN l 3, (rdC l).1, (rdC l).2.1, (rdC l).2.2.1, (rdC l).2.2.2.1, (rdC l).2.2.2.2.1, (rdC l).2.2.2.2.2.1, (rdC l).2.2.2.2.2.2⟩
theorem decC_z (l : List UInt8) (w : World) (hs : l.length ≤ 281474976710656) : ∃ en : Int, ∀ X, Calls Try.prog 55 #[.string (Nm.str l)] X fun e Y => e = .returned (.tuple #[vC7 ((resC l).getD zT), .int .i64 en]) ∧ Below X.heap.size X Y := by
  cases h : resC l with
  | none =>
    refine ⟨4, fun X => (decodeC_any l X hs).mono ?_⟩
    rintro e Y ⟨he, hb⟩
    rw [h] at he
    exact ⟨he, hb⟩
  | some x =>
    refine ⟨0, fun X => (decodeC_any l X hs).mono ?_⟩
    rintro e Y ⟨he, hb⟩
    rw [h] at he
    exact ⟨he, hb⟩
theorem readO_any (l : List UInt8) (w : World) (hs : l.length ≤ 281474976710656) : Calls Try.prog 38 #[.string (Nm.str l)] w (RetBelow (rdO l).v w) := by
  obtain ⟨en, hen⟩ := decC_z (txP (part (itemL l) 4)) w (txP_len l 4)
  exact read_core (Nm.str l) (Nm.str (txP (part (itemL l) 4))) (rdN l 0) (rdN l 1) (rdN l 2) (rdN l 3) _ _ _ _ _ _ _ en w (Lib.hid fun X => itemQ_any l X hs) (Lib.hid hen)
end Go.Proofs.Ytebacdegjmcnlaa
