/-
  Orders: which one any data is. Condition: the data has at most 2^48 bytes.
-/
import Derived.Test.YtebacdegjmcnlaaGreatOb
import Derived.Test.YtebacdegjmcnlaaGreatCa
namespace Go.Proofs.YtebacdegjmcnlaaGreat
set_option maxRecDepth 20000
open Go.RowKit Pl
set_option linter.unusedVariables false
theorem str_data {s : ByteArray} {t : It} (h : s.data.toList = txP t) : s = Nm.str (txP t) := by
  rw [← h]; rfl
def itemL (l : List UInt8) : It := (dec l).getD zI
theorem oks_at2 : ∀ {l : List It} {j : Nat} {x : It}, oks l = true → l[j]? = some x → x.ok = true
  | [], j, x, _, h => by simp at h
  | y :: r, 0, x, h, hx => by
    obtain rfl : y = x := by simpa using hx
    rw [oks, Bool.and_eq_true] at h
    exact h.1
  | y :: r, j + 1, x, h, hx => by
    rw [oks, Bool.and_eq_true] at h
    exact oks_at2 h.2 (j := j) (by simpa using hx)
theorem part_ok (l : List UInt8) (j : Nat) : (part (itemL l) j).ok = true ∨ part (itemL l) j = zI := by
  unfold part
  cases hx : (elsP (itemL l))[j]? with
  | none => exact .inr rfl
  | some x =>
    left
    unfold itemL at hx
    cases hd : dec l with
    | none => rw [hd] at hx; simp [zI, elsP] at hx
    | some t =>
      rw [hd] at hx
      have ho := ((dec_iff l t).1 hd).1
      obtain ⟨k, n, s, r⟩ := t
      rw [It.ok] at ho
      simp only [Bool.and_eq_true] at ho
      exact oks_at2 ho.2 hx
theorem txP_len (l : List UInt8) (j : Nat) : (txP (part (itemL l) j)).length ≤ 281474976710656 := by
  rcases part_ok l j with h | h
  · generalize part (itemL l) j = x at *
    have := ok_size h
    obtain ⟨k, n, s, r⟩ := x
    have e : (txP (.mk k n s r)).length = s.size := by simp only [txP, Array.length_toList]; rfl
    rw [e]
    exact this
  · rw [h]; simp [zI, txP]
/-- what data tells of an order -/
def zT : T7 := (0, ⟨#[]⟩, ⟨#[]⟩, 0, 0, 0, 0)
def rdC (l : List UInt8) : T7 := (resC (txP (part (itemL l) 4))).getD zT
def rdN (l : List UInt8) (j : Nat) : Int := numP (part (itemL l) j)
theorem itemQ_any (l : List UInt8) (w : World) (hs : l.length ≤ 281474976710656) : Calls Tryz.prog 34 #[.string (Nm.str l)] w (ItQ w (rdN l 0) (rdN l 1) (rdN l 2) (rdN l 3) (Nm.str (txP (part (itemL l) 4)))) := by
  refine (itemZ_any l w hs).mono ?_
  rintro e w1 ⟨hb, v, rfl, hv⟩
  have hv2 : IsIt w1 (· < w1.heap.size) (itemL l) v := IsIt.mono (fun q hq => hq.2) _ hv
  obtain ⟨kk, ss, AA, cc, e0, _⟩ := IsIt.form hv2
  have hp : ∀ j : Nat, ∃ (k : Int) (s : ByteArray) (A : Option Addr) (m c : Nat), s = Nm.str (txP (part (itemL l) j)) ∧ ∀ X, Below w1.heap.size w1 X → Calls Tryz.prog 36 #[v, .int .i64 (j : Int)] X (RetBelow (.agg #[.int .i64 k, .int .i64 (rdN l j), .string s, .slice A m c]) X) := by
    intro j
    obtain ⟨u, hu, hc⟩ := part_any j hv2
    obtain ⟨k, s, A, c, rfl, h2, _⟩ := IsIt.form hu
    exact ⟨k, s, A, _, c, str_data h2, hc⟩
  subst e0
  refine ⟨hb, kk, _, ss, AA, _, cc, rfl, ?_, ?_, ?_, ?_, ?_⟩
  · obtain ⟨k, s, A, m, c, _, h⟩ := hp 0
    exact ⟨k, s, A, m, c, h⟩
  · obtain ⟨k, s, A, m, c, _, h⟩ := hp 1
    exact ⟨k, s, A, m, c, h⟩
  · obtain ⟨k, s, A, m, c, _, h⟩ := hp 2
    exact ⟨k, s, A, m, c, h⟩
  · obtain ⟨k, s, A, m, c, _, h⟩ := hp 3
    exact ⟨k, s, A, m, c, h⟩
  · obtain ⟨k, s, A, m, c, rfl, h⟩ := hp 4
    exact ⟨k, _, A, m, c, h⟩
/-- the order that data tells, whether it is right or not -/
def rdO (l : List UInt8) : Or := ⟨rdN l 0, rdN l 1, rdN l 2, rdN l 3, (rdC l).1, (rdC l).2.1, (rdC l).2.2.1, (rdC l).2.2.2.1, (rdC l).2.2.2.2.1, (rdC l).2.2.2.2.2.1, (rdC l).2.2.2.2.2.2⟩
theorem decC_z (l : List UInt8) (w : World) (hs : l.length ≤ 281474976710656) : ∃ en : Int, ∀ X, Calls Tryz.prog 35 #[.string (Nm.str l)] X fun e Y => e = .returned (.tuple #[vC7 ((resC l).getD zT), .int .i64 en]) ∧ Below X.heap.size X Y := by
  cases h : resC l with
  | none =>
    refine ⟨4, fun X => (decodeC_any l X hs).mono ?_⟩
    rintro e Y ⟨he, hb⟩
    rw [h] at he
    exact ⟨he, hb⟩
  | some x =>
    refine ⟨0, fun X => (decodeC_any l X hs).mono ?_⟩
    rintro e Y ⟨he, hb⟩
    rw [h] at he
    exact ⟨he, hb⟩
theorem readO_any (l : List UInt8) (w : World) (hs : l.length ≤ 281474976710656) : Calls Tryz.prog 22 #[.string (Nm.str l)] w (RetBelow (rdO l).v w) := by
  obtain ⟨en, hen⟩ := decC_z (txP (part (itemL l) 4)) w (txP_len l 4)
  exact read_core (Nm.str l) (Nm.str (txP (part (itemL l) 4))) (rdN l 0) (rdN l 1) (rdN l 2) (rdN l 3) _ _ _ _ _ _ _ en w (Lib.hid fun X => itemQ_any l X hs) (Lib.hid hen)
end Go.Proofs.YtebacdegjmcnlaaGreat
/-
  Orders: decoded. Condition: the data has at most 2^48 bytes.
-/
namespace Go.Proofs.YtebacdegjmcnlaaGreat
set_option maxRecDepth 20000
open Go.RowKit Pl
set_option linter.unusedVariables false
set_option maxHeartbeats 2000000 in
theorem dec_no (D E : ByteArray) (k i q n : Int) (o : Int) (s t : ByteArray) (a b c m : Int) (er : Int) (w : World) (hno : er ≠ 0 ∨ E ≠ D)
    (HRD : Hid (∀ X, Calls Tryz.prog 22 #[.string D] X (RetBelow (.agg #[.int .i64 k, .int .i64 i, .int .i64 q, .int .i64 n, .int .i64 o, .string s, .string t, .int .i64 a, .int .i64 b, .int .i64 c, .int .i64 m]) X)))
    (HEN : Hid (∀ X, Calls Tryz.prog 7 #[.agg #[.int .i64 k, .int .i64 i, .int .i64 q, .int .i64 n, .int .i64 o, .string s, .string t, .int .i64 a, .int .i64 b, .int .i64 c, .int .i64 m]] X (RetBelow (.tuple #[.string E, .int .i64 er]) X))) :
    Calls Tryz.prog 13 #[.string D] w (RetBelow (.tuple #[.agg #[.int .i64 0, .int .i64 0, .int .i64 0, .int .i64 0, .int .i64 0, .string ⟨#[]⟩, .string ⟨#[]⟩, .int .i64 0, .int .i64 0, .int .i64 0, .int .i64 0], .int .i64 4]) w) := by
  have hbd : ∀ W : World, (Instr.build 34 #[]).run Tryz.prog W = .ok (.agg #[.int .i64 0, .int .i64 0, .int .i64 0, .int .i64 0, .int .i64 0, .string ⟨#[]⟩, .string ⟨#[]⟩, .int .i64 0, .int .i64 0, .int .i64 0, .int .i64 0]) W := fun W => run_build W 34 _ _ (by kernel_rfl)
  have HB0 := Lib.hid ((Below.refl w.heap.size w).alloc (Nat.le_refl _) (.cells #[.int .i64 0, .int .i64 0, .int .i64 0, .int .i64 0, .int .i64 0, .string ⟨#[]⟩, .string ⟨#[]⟩, .int .i64 0, .int .i64 0, .int .i64 0, .int .i64 0] 34))
  have HR0 := Lib.hid (heap_alloc_new w (.cells #[.int .i64 0, .int .i64 0, .int .i64 0, .int .i64 0, .int .i64 0, .string ⟨#[]⟩, .string ⟨#[]⟩, .int .i64 0, .int .i64 0, .int .i64 0, .int .i64 0] 34))
  by_cases he : er = 0
  · have g0 : decide (er = 0) = true := decide_eq_true he
    have hne : E ≠ D := hno.elim (fun h => absurd he h) id
    have g1 : decide (E.toList = D.toList) = false := decide_eq_false fun h => hne ((toList_iff E D).1 h)
    have g2 : (E.toList == D.toList) = false := by rw [beq_eq_false_iff_ne]; exact fun h => hne ((toList_iff E D).1 h)
    subst he
    clear hno
    go_enter Tryz.func13, Tryz.ntmps13
    go_wp2_with (first
      | (go_at_call 22; (with_reducible refine (HRD.out _).mono ?_); rintro e w1 ⟨rfl, hb1⟩
         have HB1 := Lib.hid (HB0.out.trans (hb1.mono HB0.out.size))
         have HR1 := Lib.hid ((hb1.block w.heap.size (by simp)).trans HR0.out)
         have HO1 := Lib.hid (heap_alloc_new w1 (.cells #[.int .i64 k, .int .i64 i, .int .i64 q, .int .i64 n, .int .i64 o, .string s, .string t, .int .i64 a, .int .i64 b, .int .i64 c, .int .i64 m] 34))
         have HA1 := Lib.hid ((Below.refl w1.heap.size w1).alloc (Nat.le_refl _) (.cells #[.int .i64 k, .int .i64 i, .int .i64 q, .int .i64 n, .int .i64 o, .string s, .string t, .int .i64 a, .int .i64 b, .int .i64 c, .int .i64 m] 34))
         have HL1 := Lib.hid (Array.getElem?_eq_some_iff.1 HR1.out).1
         obtain ⟨x0, x1, x2, x3, x4, x5, x6, x7, x8, x9, x10, _⟩ := row11f HO1.out
         clear hb1)
      | (go_at_call 7; (with_reducible refine (HEN.out _).mono ?_); rintro e w2 ⟨rfl, hb2⟩
         have HB2 := Lib.hid (HB1.out.trans ((HA1.out.trans (hb2.mono HA1.out.size)).mono HB1.out.size))
         have HR2 := Lib.hid ((hb2.block w.heap.size (by have := HL1.out; simp; omega)).trans ((HA1.out.block w.heap.size HL1.out).trans HR1.out))
         have HO2 := Lib.hid ((hb2.block w1.heap.size (by simp)).trans HO1.out)
         obtain ⟨y0, y1, y2, y3, y4, y5, y6, y7, y8, y9, y10, _⟩ := row11f HO2.out
         obtain ⟨q0, q1, q2, q3, q4, q5, q6, q7, q8, q9, q10, f0, f1, f2, f3, f4, f5, f6, f7, f8, f9, f10⟩ := row11f HR2.out
         clear hb2))
    all_goals
      have R9 := wr11_row (a0 := .int .i64 0) (a1 := .int .i64 0) (a2 := .int .i64 0) (a3 := .int .i64 0) (a4 := .int .i64 0) (a5 := .string ⟨#[]⟩) (a6 := .string ⟨#[]⟩) (a7 := .int .i64 0) (a8 := .int .i64 0) (a9 := .int .i64 0) (a10 := .int .i64 0) HR2.out
      have B9 := wr11_below (a0 := .int .i64 0) (a1 := .int .i64 0) (a2 := .int .i64 0) (a3 := .int .i64 0) (a4 := .int .i64 0) (a5 := .string ⟨#[]⟩) (a6 := .string ⟨#[]⟩) (a7 := .int .i64 0) (a8 := .int .i64 0) (a9 := .int .i64 0) (a10 := .int .i64 0) HB2.out (Nat.le_refl _)
      unfold wr11 at R9 B9
      obtain ⟨m0, m1, m2, m3, m4, m5, m6, m7, m8, m9, m10⟩ := row11 R9
      refine bodyPost_ret (v := .tuple #[.agg #[.int .i64 0, .int .i64 0, .int .i64 0, .int .i64 0, .int .i64 0, .string ⟨#[]⟩, .string ⟨#[]⟩, .int .i64 0, .int .i64 0, .int .i64 0, .int .i64 0], .int .i64 4]) (by simp [results, Tryz.results13, go_sem, m0, m1, m2, m3, m4, m5, m6, m7, m8, m9, m10]) rfl ⟨rfl, B9⟩
  · have g0 : decide (er = 0) = false := decide_eq_false he
    clear hno
    go_enter Tryz.func13, Tryz.ntmps13
    go_wp2_with (first
      | (go_at_call 22; (with_reducible refine (HRD.out _).mono ?_); rintro e w1 ⟨rfl, hb1⟩
         have HB1 := Lib.hid (HB0.out.trans (hb1.mono HB0.out.size))
         have HR1 := Lib.hid ((hb1.block w.heap.size (by simp)).trans HR0.out)
         have HO1 := Lib.hid (heap_alloc_new w1 (.cells #[.int .i64 k, .int .i64 i, .int .i64 q, .int .i64 n, .int .i64 o, .string s, .string t, .int .i64 a, .int .i64 b, .int .i64 c, .int .i64 m] 34))
         have HA1 := Lib.hid ((Below.refl w1.heap.size w1).alloc (Nat.le_refl _) (.cells #[.int .i64 k, .int .i64 i, .int .i64 q, .int .i64 n, .int .i64 o, .string s, .string t, .int .i64 a, .int .i64 b, .int .i64 c, .int .i64 m] 34))
         have HL1 := Lib.hid (Array.getElem?_eq_some_iff.1 HR1.out).1
         obtain ⟨x0, x1, x2, x3, x4, x5, x6, x7, x8, x9, x10, _⟩ := row11f HO1.out
         clear hb1)
      | (go_at_call 7; (with_reducible refine (HEN.out _).mono ?_); rintro e w2 ⟨rfl, hb2⟩
         have HB2 := Lib.hid (HB1.out.trans ((HA1.out.trans (hb2.mono HA1.out.size)).mono HB1.out.size))
         have HR2 := Lib.hid ((hb2.block w.heap.size (by have := HL1.out; simp; omega)).trans ((HA1.out.block w.heap.size HL1.out).trans HR1.out))
         have HO2 := Lib.hid ((hb2.block w1.heap.size (by simp)).trans HO1.out)
         obtain ⟨y0, y1, y2, y3, y4, y5, y6, y7, y8, y9, y10, _⟩ := row11f HO2.out
         obtain ⟨q0, q1, q2, q3, q4, q5, q6, q7, q8, q9, q10, f0, f1, f2, f3, f4, f5, f6, f7, f8, f9, f10⟩ := row11f HR2.out
         clear hb2))
    all_goals
      have R9 := wr11_row (a0 := .int .i64 0) (a1 := .int .i64 0) (a2 := .int .i64 0) (a3 := .int .i64 0) (a4 := .int .i64 0) (a5 := .string ⟨#[]⟩) (a6 := .string ⟨#[]⟩) (a7 := .int .i64 0) (a8 := .int .i64 0) (a9 := .int .i64 0) (a10 := .int .i64 0) HR2.out
      have B9 := wr11_below (a0 := .int .i64 0) (a1 := .int .i64 0) (a2 := .int .i64 0) (a3 := .int .i64 0) (a4 := .int .i64 0) (a5 := .string ⟨#[]⟩) (a6 := .string ⟨#[]⟩) (a7 := .int .i64 0) (a8 := .int .i64 0) (a9 := .int .i64 0) (a10 := .int .i64 0) HB2.out (Nat.le_refl _)
      unfold wr11 at R9 B9
      obtain ⟨m0, m1, m2, m3, m4, m5, m6, m7, m8, m9, m10⟩ := row11 R9
      refine bodyPost_ret (v := .tuple #[.agg #[.int .i64 0, .int .i64 0, .int .i64 0, .int .i64 0, .int .i64 0, .string ⟨#[]⟩, .string ⟨#[]⟩, .int .i64 0, .int .i64 0, .int .i64 0, .int .i64 0], .int .i64 4]) (by simp [results, Tryz.results13, go_sem, m0, m1, m2, m3, m4, m5, m6, m7, m8, m9, m10]) rfl ⟨rfl, B9⟩
set_option maxHeartbeats 2000000 in
theorem dec_yes (D : ByteArray) (k i q n : Int) (o : Int) (s t : ByteArray) (a b c m : Int) (w : World)
    (HRD : Hid (∀ X, Calls Tryz.prog 22 #[.string D] X (RetBelow (.agg #[.int .i64 k, .int .i64 i, .int .i64 q, .int .i64 n, .int .i64 o, .string s, .string t, .int .i64 a, .int .i64 b, .int .i64 c, .int .i64 m]) X)))
    (HEN : Hid (∀ X, Calls Tryz.prog 7 #[.agg #[.int .i64 k, .int .i64 i, .int .i64 q, .int .i64 n, .int .i64 o, .string s, .string t, .int .i64 a, .int .i64 b, .int .i64 c, .int .i64 m]] X (RetBelow (.tuple #[.string D, .int .i64 0]) X))) :
    Calls Tryz.prog 13 #[.string D] w (RetBelow (.tuple #[.agg #[.int .i64 k, .int .i64 i, .int .i64 q, .int .i64 n, .int .i64 o, .string s, .string t, .int .i64 a, .int .i64 b, .int .i64 c, .int .i64 m], .int .i64 0]) w) := by
  have hbd : ∀ W : World, (Instr.build 34 #[]).run Tryz.prog W = .ok (.agg #[.int .i64 0, .int .i64 0, .int .i64 0, .int .i64 0, .int .i64 0, .string ⟨#[]⟩, .string ⟨#[]⟩, .int .i64 0, .int .i64 0, .int .i64 0, .int .i64 0]) W := fun W => run_build W 34 _ _ (by kernel_rfl)
  have HB0 := Lib.hid ((Below.refl w.heap.size w).alloc (Nat.le_refl _) (.cells #[.int .i64 0, .int .i64 0, .int .i64 0, .int .i64 0, .int .i64 0, .string ⟨#[]⟩, .string ⟨#[]⟩, .int .i64 0, .int .i64 0, .int .i64 0, .int .i64 0] 34))
  have HR0 := Lib.hid (heap_alloc_new w (.cells #[.int .i64 0, .int .i64 0, .int .i64 0, .int .i64 0, .int .i64 0, .string ⟨#[]⟩, .string ⟨#[]⟩, .int .i64 0, .int .i64 0, .int .i64 0, .int .i64 0] 34))
  have g1 : decide (D.toList = D.toList) = true := decide_eq_true rfl
  have g2 : (D.toList == D.toList) = true := by simp
  go_enter Tryz.func13, Tryz.ntmps13
  go_wp2_with (first
    | (go_at_call 22; (with_reducible refine (HRD.out _).mono ?_); rintro e w1 ⟨rfl, hb1⟩
       have HB1 := Lib.hid (HB0.out.trans (hb1.mono HB0.out.size))
       have HR1 := Lib.hid ((hb1.block w.heap.size (by simp)).trans HR0.out)
       have HO1 := Lib.hid (heap_alloc_new w1 (.cells #[.int .i64 k, .int .i64 i, .int .i64 q, .int .i64 n, .int .i64 o, .string s, .string t, .int .i64 a, .int .i64 b, .int .i64 c, .int .i64 m] 34))
       have HA1 := Lib.hid ((Below.refl w1.heap.size w1).alloc (Nat.le_refl _) (.cells #[.int .i64 k, .int .i64 i, .int .i64 q, .int .i64 n, .int .i64 o, .string s, .string t, .int .i64 a, .int .i64 b, .int .i64 c, .int .i64 m] 34))
       have HL1 := Lib.hid (Array.getElem?_eq_some_iff.1 HR1.out).1
       obtain ⟨x0, x1, x2, x3, x4, x5, x6, x7, x8, x9, x10, _⟩ := row11f HO1.out
       clear hb1)
    | (go_at_call 7; (with_reducible refine (HEN.out _).mono ?_); rintro e w2 ⟨rfl, hb2⟩
       have HB2 := Lib.hid (HB1.out.trans ((HA1.out.trans (hb2.mono HA1.out.size)).mono HB1.out.size))
       have HR2 := Lib.hid ((hb2.block w.heap.size (by have := HL1.out; simp; omega)).trans ((HA1.out.block w.heap.size HL1.out).trans HR1.out))
       have HO2 := Lib.hid ((hb2.block w1.heap.size (by simp)).trans HO1.out)
       obtain ⟨y0, y1, y2, y3, y4, y5, y6, y7, y8, y9, y10, _⟩ := row11f HO2.out
       obtain ⟨q0, q1, q2, q3, q4, q5, q6, q7, q8, q9, q10, f0, f1, f2, f3, f4, f5, f6, f7, f8, f9, f10⟩ := row11f HR2.out
       clear hb2))
  all_goals
    have R9 := wr11_row (a0 := .int .i64 k) (a1 := .int .i64 i) (a2 := .int .i64 q) (a3 := .int .i64 n) (a4 := .int .i64 o) (a5 := .string s) (a6 := .string t) (a7 := .int .i64 a) (a8 := .int .i64 b) (a9 := .int .i64 c) (a10 := .int .i64 m) HR2.out
    have B9 := wr11_below (a0 := .int .i64 k) (a1 := .int .i64 i) (a2 := .int .i64 q) (a3 := .int .i64 n) (a4 := .int .i64 o) (a5 := .string s) (a6 := .string t) (a7 := .int .i64 a) (a8 := .int .i64 b) (a9 := .int .i64 c) (a10 := .int .i64 m) HB2.out (Nat.le_refl _)
    unfold wr11 at R9 B9
    obtain ⟨m0, m1, m2, m3, m4, m5, m6, m7, m8, m9, m10⟩ := row11 R9
    refine bodyPost_ret (v := .tuple #[.agg #[.int .i64 k, .int .i64 i, .int .i64 q, .int .i64 n, .int .i64 o, .string s, .string t, .int .i64 a, .int .i64 b, .int .i64 c, .int .i64 m], .int .i64 0]) (by simp [results, Tryz.results13, go_sem, m0, m1, m2, m3, m4, m5, m6, m7, m8, m9, m10]) rfl ⟨rfl, B9⟩
end Go.Proofs.YtebacdegjmcnlaaGreat
/-
  Orders: which one any data is, put together. Condition: the data has at most 2^48 bytes.
-/
namespace Go.Proofs.YtebacdegjmcnlaaGreat
set_option maxRecDepth 20000
open Go.RowKit Pl
set_option linter.unusedVariables false
theorem numP_InR {x : It} (h : x.ok = true ∨ x = zI) : InR (numP x) := by
  rcases h with h | rfl
  · obtain ⟨k, n, s, l⟩ := x
    rw [It.ok] at h
    simp only [Bool.and_eq_true, decide_eq_true_eq, form, Bool.or_eq_true, beq_iff_eq] at h
    obtain ⟨⟨⟨⟨h1, h2⟩, _⟩, _⟩, _⟩ := h
    show InR n
    unfold InR
    rcases h1 with (h1 | h1) | h1
    · exact h2 h1.1.1
    · have := h1.1.2; omega
    · have := h1.1.2; omega
  · exact ⟨by decide, by decide⟩
theorem rdN_InR (l : List UInt8) (j : Nat) : InR (rdN l j) := numP_InR (part_ok l j)
theorem rdC_fine (l : List UInt8) : InR (rdC l).1 ∧ (rdC l).2.1.size ≤ 4096 ∧ (rdC l).2.2.1.size ≤ 4096 ∧ InR (rdC l).2.2.2.1 ∧ InR (rdC l).2.2.2.2.1 ∧ InR (rdC l).2.2.2.2.2.1 ∧ InR (rdC l).2.2.2.2.2.2 := by
  have z : InR 0 := ⟨by decide, by decide⟩
  unfold rdC
  cases h : resC (txP (part (itemL l) 4)) with
  | none => exact ⟨z, by simp [zT, zero_size], by simp [zT, zero_size], z, z, z, z⟩
  | some x =>
    obtain ⟨o, s, t, a, b, c, n⟩ := x
    obtain ⟨hm, r1, r2, r3, r4, r5, _⟩ := (resC_iff _ o s t a b c n).1 h
    obtain ⟨s1, s2⟩ := mayC_name hm
    exact ⟨r1, s1, s2, r2, r3, r4, r5⟩
def Or.may (x : Or) : Bool := mayO x.k x.i x.q x.n x.o x.s x.t x.a x.b x.c x.m
def Or.enc (x : Or) : ByteArray := encO x.k x.i x.q x.n x.o x.s x.t x.a x.b x.c x.m
def Or.err (x : Or) : Int := errO x.k x.i x.q x.n x.o x.s x.t x.a x.b x.c x.m
structure Or.Fine (x : Or) : Prop where
  k : InR x.k
  i : InR x.i
  q : InR x.q
  n : InR x.n
  o : InR x.o
  s : x.s.size ≤ 281474976710656
  t : x.t.size ≤ 281474976710656
  a : InR x.a
  b : InR x.b
  c : InR x.c
  m : InR x.m
theorem rdO_fine (l : List UInt8) : (rdO l).Fine := by
  obtain ⟨h1, h2, h3, h4, h5, h6, h7⟩ := rdC_fine l
  exact ⟨rdN_InR l 0, rdN_InR l 1, rdN_InR l 2, rdN_InR l 3, h1, Nat.le_trans h2 (by decide), Nat.le_trans h3 (by decide), h4, h5, h6, h7⟩
theorem encode_any2 {x : Or} (h : x.Fine) (w : World) : Calls Tryz.prog 7 #[x.v] w (RetBelow (.tuple #[.string x.enc, .int .i64 x.err]) w) :=
  encodeO_any _ _ _ _ _ _ _ _ _ _ _ w h.k h.i h.q h.n h.o h.s h.t h.a h.b h.c h.m
theorem beq_ba {x y : ByteArray} : (x == y) = true ↔ x = y := by
  obtain ⟨⟨x⟩⟩ := x
  obtain ⟨⟨y⟩⟩ := y
  show ((⟨x⟩ : Array UInt8) == ⟨y⟩) = true ↔ _
  simp
def okO (l : List UInt8) : Bool := (rdO l).err == 0 && (rdO l).enc == Nm.str l
def zO : Or := ⟨0, 0, 0, 0, 0, ⟨#[]⟩, ⟨#[]⟩, 0, 0, 0, 0⟩
theorem decodeO_any (l : List UInt8) (w : World) (hs : l.length ≤ 281474976710656) : Calls Tryz.prog 13 #[.string (Nm.str l)] w (RetBelow (.tuple #[if okO l = true then (rdO l).v else zO.v, .int .i64 (if okO l = true then 0 else 4)]) w) := by
  have hr : ∀ X, Calls Tryz.prog 22 #[.string (Nm.str l)] X (RetBelow (rdO l).v X) := fun X => readO_any l X hs
  have he : ∀ X, Calls Tryz.prog 7 #[(rdO l).v] X (RetBelow (.tuple #[.string (rdO l).enc, .int .i64 (rdO l).err]) X) := fun X => encode_any2 (rdO_fine l) X
  cases h : okO l with
  | false =>
    rw [if_neg (by decide), if_neg (by decide)]
    refine dec_no (Nm.str l) (rdO l).enc _ _ _ _ _ _ _ _ _ _ _ (rdO l).err w ?_ (Lib.hid hr) (Lib.hid he)
    unfold okO at h
    by_cases h0 : (rdO l).err = 0
    · right
      intro h1
      rw [h0, h1] at h
      simp only [beq_self_eq_true, Bool.true_and] at h
      rw [beq_ba.2 rfl] at h
      cases h
    · exact .inl h0
  | true =>
    rw [if_pos rfl, if_pos rfl]
    unfold okO at h
    simp only [Bool.and_eq_true, beq_iff_eq] at h
    rw [h.1, beq_ba.1 h.2] at he
    exact dec_yes (Nm.str l) _ _ _ _ _ _ _ _ _ _ _ w (Lib.hid hr) (Lib.hid he)
end Go.Proofs.YtebacdegjmcnlaaGreat
/-
  The members that entries tell, as the program finds them. Condition: each entry's data has at most 2^48 bytes.
-/
namespace Go.Proofs.YtebacdegjmcnlaaGreat
set_option maxRecDepth 20000
open Go.RowKit Pl
set_option linter.unusedVariables false
structure En where
  t : Int
  d : ByteArray
def DE : CT En := ⟨fun x => [.int .i64 x.t, .string x.d], 2, 42, 22, .agg #[.int .i64 0, .string ⟨#[]⟩], 24, fun _ => rfl, fun x u h => by simp only [List.mem_cons, List.not_mem_nil, or_false] at h; rcases h with rfl | rfl <;> rfl, by omega, by omega, by rfl, by omega, by kernel_rfl, Tryz.underlying22⟩
/-- does this data state members? -/
def isConf (d : ByteArray) : Bool := okO d.data.toList && (rdO d.data.toList).k == 4
def ofR (m : Int) : List ByteArray → Int
  | [] => m
  | d :: r => if isConf d = true then (rdO d.data.toList).n else ofR m r
def confOf (m : Int) (L : List En) : Int := ofR m (L.reverse.map (·.d))
theorem str_toList (d : ByteArray) : d = Nm.str d.data.toList := rfl
set_option maxHeartbeats 2000000 in
theorem confOf_any {w : World} {H : Nat → Prop} {A : Option Addr} {n c : Nat} {L : List En} (m : Int) (hr : Rd DE w H A L) (hn : L.length = n) (hbig : n ≤ 4611686018427387904) (hd : ∀ x ∈ L, x.d.size ≤ 281474976710656) : Calls Tryz.prog 5 #[.int .i64 m, .slice A n c] w (RetBelow (.int .i64 (confOf m L)) w) := by
  have HR := Lib.hid hr
  have HN := Lib.hid hn
  have HD := Lib.hid hd
  have HC : Hid (confOf m L = ofR m ((L.reverse.map (·.d)).drop 0)) := Lib.hid rfl
  generalize confOf m L = re at *
  clear hr hd hn
  go_enter Tryz.func5, Tryz.ntmps5
  go_wp2_with fail
  go_loopw [10] (fun v10 wr => ∃ (k : Nat), v10 = .int .i64 (k : Nat) ∧ k ≤ n ∧ Hid (Below w.heap.size w wr) ∧ Hid (re = ofR m ((L.reverse.map (·.d)).drop k))) (fun v10 _ => n - (numOf v10).toNat)
  case atStart => exact ⟨0, rfl, by omega, Lib.hid (Below.refl _ _), HC⟩
  case round =>
    obtain ⟨k, rfl, hk, hf, hre⟩ := hrel
    clear HC
    by_cases hk2 : (k : Int) < n
    · have hk3 : k < n := by omega
      obtain ⟨j, hj⟩ : ∃ j, j = n - 1 - k := ⟨_, rfl⟩
      have hjl : j < L.length := by have := HN.out; omega
      have hx : L[j]? = some L[j] := List.getElem?_eq_getElem hjl
      obtain ⟨b, off, rfl, _, hlt, h4⟩ := HR.out.at_ hx
      have c1 : wr.cell? ⟨b, off + j * 2 + 1, none⟩ = some (.string L[j].d) := by
        have := h4 1 _ rfl
        rw [show off + j * DE.m + 1 = off + j * 2 + 1 by simp [DE]] at this
        rw [← this]
        exact hf.out.cell (p := ⟨b, _, none⟩) hlt
      have hsz := HD.out L[j] (List.getElem_mem hjl)
      have hcons : (L.reverse.map (·.d)).drop k = L[j].d :: (L.reverse.map (·.d)).drop (k + 1) := by
        have hl : k < (L.reverse.map (·.d)).length := by rw [List.length_map, List.length_reverse]; have := HN.out; omega
        rw [List.drop_eq_getElem_cons hl, List.getElem_map, List.getElem_reverse]
        have : L.length - 1 - k = j := by have := HN.out; omega
        simp only [this]
      rw [hcons] at hre
      have hl2 : L[j].d.data.toList.length ≤ 281474976710656 := by
        rw [show L[j].d.data.toList.length = L[j].d.size by simp only [Array.length_toList]; rfl]
        exact hsz
      have HDC := fun X => decodeO_any L[j].d.data.toList X hl2
      change ∀ X, Calls Tryz.prog 13 #[.string L[j].d] X _ at HDC
      unfold ofR isConf at hre
      have q1 : IntKind.i64.wrap ((n : Int) - 1) = ((n - 1 : Nat) : Int) := by rw [IntKind.wrap_i64]; omega
      have q2 : IntKind.i64.wrap (((n - 1 : Nat) : Int) - (k : Nat)) = ((j : Nat) : Int) := by rw [IntKind.wrap_i64]; omega
      have q3 : j < n := by have := HN.out; omega
      clear hx h4 hcons hsz hl2
      generalize L[j].d = d at *
      have HJ := Lib.hid hj
      clear hj hjl
      cases hok : okO d.data.toList with
      | false =>
        rw [hok] at hre HDC
        rw [if_neg (by decide), if_neg (by decide)] at HDC
        rw [Bool.false_and, if_neg (by decide)] at hre
        have HDD := Lib.hid HDC
        have HRE := Lib.hid hre
        clear hre HDC
        unfold Or.v oV zO at HDD
        go_wp2_with (go_at_call 13; (with_reducible refine (HDD.out _).mono ?_); rintro e w2 ⟨rfl, hb2⟩)
        all_goals exact ⟨⟨k + 1, rfl, by omega, Lib.hid ((hf.out.trans (hb2.mono hf.out.size)).alloc (by have := hf.out.size; have := hb2.size; omega) _), HRE⟩, by simp [numOf]; omega⟩
      | true =>
        rw [hok] at hre HDC
        rw [if_pos rfl, if_pos rfl] at HDC
        rw [Bool.true_and] at hre
        have HDD := Lib.hid HDC
        have HRE := Lib.hid hre
        clear hre HDC
        unfold Or.v oV at HDD
        generalize rdO d.data.toList = x at *
        obtain ⟨xk, xi, xq, xn, xo, xs, xt, xa, xb, xc, xm⟩ := x
        simp only at HRE HDD
        by_cases h4 : xk = 4
        · subst h4
          have e := HRE.out
          rw [if_pos (by decide)] at e
          subst e
          clear HRE
          go_wp2_with (go_at_call 13; (with_reducible refine (HDD.out _).mono ?_); rintro e w2 ⟨rfl, hb2⟩)
          all_goals
            go_ret
            exact ⟨rfl, (hf.out.trans (hb2.mono hf.out.size)).alloc (by have := hf.out.size; have := hb2.size; omega) _⟩
        · have g4 : decide (xk = 4) = false := decide_eq_false h4
          have e := HRE.out
          rw [if_neg (by simpa using h4)] at e
          clear HRE
          have HRE := Lib.hid e
          clear e
          go_wp2_with (go_at_call 13; (with_reducible refine (HDD.out _).mono ?_); rintro e w2 ⟨rfl, hb2⟩)
          all_goals exact ⟨⟨k + 1, rfl, by omega, Lib.hid ((hf.out.trans (hb2.mono hf.out.size)).alloc (by have := hf.out.size; have := hb2.size; omega) _), HRE⟩, by simp [numOf]; omega⟩
    · have hk3 : k = n := by omega
      have e := hre.out
      rw [List.drop_eq_nil_of_le (by rw [List.length_map, List.length_reverse]; have := HN.out; omega)] at e
      change re = m at e
      subst e
      clear hre
      go_wp2_with fail
      go_ret
      exact ⟨rfl, hf.out⟩
end Go.Proofs.YtebacdegjmcnlaaGreat
/-
  The calls whose answers the document fixes: all are as it says. No condition.
-/
namespace Go.Proofs.YtebacdegjmcnlaaGreat
set_option maxRecDepth 20000
open Go.RowKit Pl
set_option linter.unusedVariables false
def c6 : Or := ⟨4, 0, 0, 6, 0, ⟨#[]⟩, ⟨#[]⟩, 0, 0, 0, 0⟩
theorem c6_fine : c6.Fine := by
  refine ⟨?_, ?_, ?_, ?_, ?_, ?_, ?_, ?_, ?_, ?_, ?_⟩
  all_goals first | exact ⟨by decide, by decide⟩ | decide
theorem c6_err : c6.err = 0 := by decide +kernel
theorem c6_size : c6.enc.size ≤ 4096 := by decide +kernel
theorem c6_conf : isConf c6.enc = true := by decide +kernel
theorem c6_n : (rdO c6.enc.data.toList).n = 6 := by decide +kernel
theorem no_conf : isConf ⟨#[]⟩ = false := by decide +kernel
theorem r1 : CP.reached 7 [5, 9, 7] = 7 := by
  have h := CP.le_reached (m := 7) (by decide) [5, 9, 7] (x := 7) (by decide)
  have k := CP.le_reached (m := 7) (by decide) [5, 9, 7] (x := 8) (by decide)
  have h1 := h.2 (by decide +kernel)
  have k1 : ¬ (8 : Int) ≤ CP.reached 7 [5, 9, 7] := fun q => absurd (k.1 q) (by decide +kernel)
  omega
theorem r2 : CP.reached 3 [5] = 0 := by
  have k := CP.le_reached (m := 3) (by decide) [5] (x := 1) (by decide)
  have k1 : ¬ (1 : Int) ≤ CP.reached 3 [5] := fun q => absurd (k.1 q) (by decide +kernel)
  have := CP.reached_nonneg 3 [5]
  omega
theorem b1 : CP.most 7 3 = true ∧ CP.most 7 9 = false ∧ CP.most 15 3 = false ∧ CP.near 7 6 = true ∧ CP.near 1 0 = false ∧ decide (CP.May 1) = true ∧ decide (CP.May 0) = false ∧ (CP.lst 5).length = 2 := by decide +kernel
theorem o1 : confOf 1 [⟨1, c6.enc⟩, ⟨1, ⟨#[]⟩⟩] = 6 := by
  show ofR 1 [⟨#[]⟩, c6.enc] = 6
  unfold ofR
  rw [no_conf, if_neg (by decide)]
  unfold ofR
  rw [c6_conf, if_pos rfl, c6_n]
theorem rdL_new (w : World) (l : List Int) (o : TypeId) : Rd DL (w.alloc (.cells (l.map (Value.int .i64)).toArray o)) (fun q => q = w.heap.size) (some ⟨w.heap.size, 0, none⟩) l := fun _ => ⟨_, 0, rfl, rfl, by simp, fun i y hy q u hu => by
  obtain ⟨rfl, rfl⟩ := DL_cell (x := u) hu
  have : (l.map (Value.int .i64)).toArray[i]? = some (.int .i64 y) := by rw [List.getElem?_toArray, List.getElem?_map, hy]; rfl
  rw [show 0 + i * DL.m + 0 = i by simp [DL]]
  simpa using this⟩
theorem rdE_new (w : World) (d : ByteArray) (o : TypeId) : Rd DE (w.alloc (.cells #[.int .i64 1, .string d, .int .i64 1, .string ⟨#[]⟩] o)) (fun q => q = w.heap.size) (some ⟨w.heap.size, 0, none⟩) [⟨1, d⟩, ⟨1, ⟨#[]⟩⟩] := fun _ => ⟨_, 0, rfl, rfl, by simp, fun i y hy q u hu => by
  match i, q, hy, hu with
  | 0, 0, hy, hu => obtain rfl : (⟨1, d⟩ : En) = y := by simpa using hy
                    obtain rfl : Value.int .i64 1 = u := by simpa [DE] using hu
                    simp [DE]
  | 0, 1, hy, hu => obtain rfl : (⟨1, d⟩ : En) = y := by simpa using hy
                    obtain rfl : Value.string d = u := by simpa [DE] using hu
                    simp [DE]
  | 1, 0, hy, hu => obtain rfl : (⟨1, ⟨#[]⟩⟩ : En) = y := by simpa using hy
                    obtain rfl : Value.int .i64 1 = u := by simpa [DE] using hu
                    simp [DE]
  | 1, 1, hy, hu => obtain rfl : (⟨1, ⟨#[]⟩⟩ : En) = y := by simpa using hy
                    obtain rfl : Value.string ⟨#[]⟩ = u := by simpa [DE] using hu
                    simp [DE]
  | 0, q + 2, hy, hu => simp [DE] at hu
  | 1, q + 2, hy, hu => simp [DE] at hu
  | i + 2, _, hy, _ => simp at hy⟩
set_option maxHeartbeats 2000000 in
theorem awake_any (w : World) : Calls Tryz.prog 4 #[] w (RetBelow (.bool true) w) := by
  have hE := fun X => encode_any2 c6_fine X
  rw [c6_err] at hE
  unfold Or.v oV at hE
  simp only [c6] at hE
  change ∀ X, Calls Tryz.prog 7 _ X (RetBelow (.tuple #[.string c6.enc, .int .i64 0]) X) at hE
  have HO : Hid (∀ X : World, ∀ Y, Below (X.alloc (.cells #[.int .i64 1, .string c6.enc, .int .i64 1, .string ⟨#[]⟩] 42)).heap.size (X.alloc (.cells #[.int .i64 1, .string c6.enc, .int .i64 1, .string ⟨#[]⟩] 42)) Y → Calls Tryz.prog 5 #[.int .i64 1, .slice (some ⟨X.heap.size, 0, none⟩) 2 2] Y (RetBelow (.int .i64 6) Y)) := Lib.hid fun X Y hY => by
    have := confOf_any (c := 2) 1 ((rdE_new X c6.enc 42).below hY) rfl (by decide) (by
      intro x hx
      simp only [List.mem_cons, List.not_mem_nil, or_false] at hx
      rcases hx with rfl | rfl
      · exact Nat.le_trans c6_size (by decide)
      · show (0 : Nat) ≤ _; omega)
    rw [o1] at this
    exact this
  have HE := Lib.hid hE
  clear hE
  generalize c6.enc = d at *
  have hb1 : ∀ W : World, (Instr.build 34 #[(0, .int .i64 4), (3, .int .i64 6)]).run Tryz.prog W = .ok (.agg #[.int .i64 4, .int .i64 0, .int .i64 0, .int .i64 6, .int .i64 0, .string ⟨#[]⟩, .string ⟨#[]⟩, .int .i64 0, .int .i64 0, .int .i64 0, .int .i64 0]) W := fun W => run_build W 34 _ _ (by kernel_rfl)
  have hb2 : ∀ W : World, (Instr.build 42 #[(0, .int .i64 1), (1, .string d)]).run Tryz.prog W = .ok (.agg #[.int .i64 1, .string d]) W := fun W => run_build W 42 _ _ (by kernel_rfl)
  have hb3 : ∀ W : World, (Instr.build 42 #[(0, .int .i64 1)]).run Tryz.prog W = .ok (.agg #[.int .i64 1, .string ⟨#[]⟩]) W := fun W => run_build W 42 _ _ (by kernel_rfl)
  obtain ⟨e1, e2, e3, e4, e5, e6, e7, e8⟩ := b1
  have HM1 : Hid (∀ X, Calls Tryz.prog 8 #[.int .i64 1] X (RetBelow (.bool true) X)) := Lib.hid fun X => by have := confMay_any 1 X; rwa [e6] at this
  have HM0 : Hid (∀ X, Calls Tryz.prog 8 #[.int .i64 0] X (RetBelow (.bool false) X)) := Lib.hid fun X => by have := confMay_any 0 X; rwa [e7] at this
  have HL5 : Hid (∀ X, Calls Tryz.prog 9 #[.int .i64 5] X fun e w' => ∃ A cap, e = .returned (.slice A 2 cap) ∧ Below X.heap.size X w') := Lib.hid fun X => (confList_any 5 X).mono (by
    rintro e w' ⟨A, cap, rfl, _, _, _, hb⟩
    rw [e8]
    exact ⟨A, cap, rfl, hb⟩)
  have HT1 : Hid (∀ X, Calls Tryz.prog 10 #[.int .i64 7, .int .i64 3] X (RetBelow (.bool true) X)) := Lib.hid fun X => by have := confMost_any 7 3 X; rwa [e1] at this
  have HT2 : Hid (∀ X, Calls Tryz.prog 10 #[.int .i64 7, .int .i64 9] X (RetBelow (.bool false) X)) := Lib.hid fun X => by have := confMost_any 7 9 X; rwa [e2] at this
  have HT3 : Hid (∀ X, Calls Tryz.prog 10 #[.int .i64 15, .int .i64 3] X (RetBelow (.bool false) X)) := Lib.hid fun X => by have := confMost_any 15 3 X; rwa [e3] at this
  have HN1 : Hid (∀ X, Calls Tryz.prog 12 #[.int .i64 7, .int .i64 6] X (RetBelow (.bool true) X)) := Lib.hid fun X => by have := confNear_any 7 6 X; rwa [e4] at this
  have HN2 : Hid (∀ X, Calls Tryz.prog 12 #[.int .i64 1, .int .i64 0] X (RetBelow (.bool false) X)) := Lib.hid fun X => by have := confNear_any 1 0 X; rwa [e5] at this
  have HR1 : Hid (∀ X : World, Calls Tryz.prog 11 #[.int .i64 7, .slice (some ⟨X.heap.size, 0, none⟩) 3 3] (X.alloc (.cells #[.int .i64 5, .int .i64 9, .int .i64 7] 2)) (RetBelow (.int .i64 7) (X.alloc (.cells #[.int .i64 5, .int .i64 9, .int .i64 7] 2)))) := Lib.hid fun X => by
    have := confReached_any (c := 3) 7 (rdL_new X [5, 9, 7] 2) rfl
    rw [r1] at this
    exact this
  have HR2 : Hid (∀ X : World, Calls Tryz.prog 11 #[.int .i64 3, .slice (some ⟨X.heap.size, 0, none⟩) 1 1] (X.alloc (.cells #[.int .i64 5] 2)) (RetBelow (.int .i64 0) (X.alloc (.cells #[.int .i64 5] 2)))) := Lib.hid fun X => by
    have := confReached_any (c := 1) 3 (rdL_new X [5] 2) rfl
    rw [r2] at this
    exact this
  clear e1 e2 e3 e4 e5 e6 e7 e8
  go_enter Tryz.func4, Tryz.ntmps4
  go_wp2_with (first
    | (go_at_call 7; (with_reducible refine (HE.out _).mono ?_); rintro e w1 ⟨rfl, hb⟩; have B1 := Lib.hid hb; clear hb)
    | (go_at_call 8; (with_reducible refine (HM1.out _).mono ?_); rintro e w2 ⟨rfl, hb⟩; have B2 := Lib.hid (B1.out.trans (hb.mono B1.out.size)); clear hb)
    | (go_at_call 8; (with_reducible refine (HM0.out _).mono ?_); rintro e w3 ⟨rfl, hb⟩; have B3 := Lib.hid (B2.out.trans (hb.mono B2.out.size)); clear hb)
    | (go_at_call 9; (with_reducible refine (HL5.out _).mono ?_); rintro e w4 ⟨A4, c4, rfl, hb⟩; have B4 := Lib.hid (B3.out.trans (hb.mono B3.out.size)); clear hb)
    | (go_at_call 10; (with_reducible refine (HT1.out _).mono ?_); rintro e w5 ⟨rfl, hb⟩; have B5 := Lib.hid (B4.out.trans (hb.mono B4.out.size)); clear hb)
    | (go_at_call 10; (with_reducible refine (HT2.out _).mono ?_); rintro e w6 ⟨rfl, hb⟩; have B6 := Lib.hid (B5.out.trans (hb.mono B5.out.size)); clear hb)
    | (go_at_call 10; (with_reducible refine (HT3.out _).mono ?_); rintro e w7 ⟨rfl, hb⟩; have B7 := Lib.hid (B6.out.trans (hb.mono B6.out.size)); clear hb)
    | (go_at_call 11; (with_reducible refine (HR1.out _).mono ?_); rintro e w8 ⟨rfl, hb⟩; have B8 := Lib.hid ((B7.out.alloc B7.out.size (.cells #[.int .i64 5, .int .i64 9, .int .i64 7] 2)).trans (hb.mono (B7.out.alloc B7.out.size (.cells #[.int .i64 5, .int .i64 9, .int .i64 7] 2)).size)); clear hb)
    | (go_at_call 11; (with_reducible refine (HR2.out _).mono ?_); rintro e w9 ⟨rfl, hb⟩; have B9 := Lib.hid ((B8.out.alloc B8.out.size (.cells #[.int .i64 5] 2)).trans (hb.mono (B8.out.alloc B8.out.size (.cells #[.int .i64 5] 2)).size)); clear hb)
    | (go_at_call 12; (with_reducible refine (HN1.out _).mono ?_); rintro e w10 ⟨rfl, hb⟩; have B10 := Lib.hid (B9.out.trans (hb.mono B9.out.size)); clear hb)
    | (go_at_call 12; (with_reducible refine (HN2.out _).mono ?_); rintro e w11 ⟨rfl, hb⟩; have B11 := Lib.hid (B10.out.trans (hb.mono B10.out.size)); clear hb)
    | (go_at_call 5; (with_reducible refine (HO.out w11 _ (Below.refl _ _)).mono ?_); rintro e w12 ⟨rfl, hb⟩; have B12 := Lib.hid ((B11.out.alloc B11.out.size (.cells #[.int .i64 1, .string d, .int .i64 1, .string ⟨#[]⟩] 42)).trans (hb.mono (B11.out.alloc B11.out.size (.cells #[.int .i64 1, .string d, .int .i64 1, .string ⟨#[]⟩] 42)).size)); clear hb))
  all_goals
    go_ret
    exact ⟨rfl, B12.out⟩
end Go.Proofs.YtebacdegjmcnlaaGreat
