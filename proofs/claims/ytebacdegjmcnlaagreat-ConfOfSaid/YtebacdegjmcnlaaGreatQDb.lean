/-
  The document's own answer on which order any data is, walked. Condition: the data has at most 2^48 bytes.
-/
import Derived.Test.YtebacdegjmcnlaaGreatQEn
import Derived.Test.YtebacdegjmcnlaaGreatQPl
import Derived.Test.YtebacdegjmcnlaaGreatUg
namespace Go.Proofs.YtebacdegjmcnlaaGreat
set_option maxRecDepth 20000
open Go.RowKit Pl
set_option linter.unusedVariables false
theorem conv_any (w0 : World) (l : List UInt8) (hs : l.length ≤ 281474976710656) : ∃ C W, (convert 9 58 (.string (Nm.str l))).run Tryz.prog w0 = .ok (.slice (some ⟨w0.heap.size, 0, none⟩) l.length C) W ∧ BytesAt W W.heap.size (some ⟨w0.heap.size, 0, none⟩) l ∧ Below w0.heap.size w0 W ∧ W.heap.size = w0.heap.size + 1 ∧ l.length ≤ C ∧ C ≤ 9223372036854775807 := by
  have hsz : (Nm.str l).size = l.length := Nm.str_size l
  have := run_bytes_of_string (P := Tryz.prog) w0 9 58 5 (Nm.str l) Tryz.underlying9 Tryz.underlying58 Tryz.underlying5
  rw [hsz] at this
  refine ⟨_, _, this, ?_, (Below.refl _ _).drew.alloc (Nat.le_refl _) _, by simp, ?_, ?_⟩
  · have hg := RowAt.new w0 l (grownCap w0 l.length 0 5)
    exact hg.bytes hg.lt
  · exact grownCap_ge _ _ _ _
  · have := grownCap_le_maxLen w0 l.length 0 5 (by simp only [maxLen]; omega)
    simpa [maxLen] using this
theorem cells5 {w1 : World} {S : Nat → Prop} {tl : List It} {AA : Option Addr} (h : AreIts w1 S tl AA 0) (h5 : 0 < tl.length) : ∃ b off, AA = some ⟨b, off, none⟩ ∧ S b ∧ ∀ j x, tl[j]? = some x → w1.cell? ⟨b, off + j * 4 + 1, none⟩ = some (.int .i64 (numP x)) ∧ w1.cell? ⟨b, off + j * 4 + 2, none⟩ = some (.string (Nm.str (txP x))) := by
  have key : ∀ j x, tl[j]? = some x → ∃ b off, AA = some ⟨b, off, none⟩ ∧ S b ∧ w1.cell? ⟨b, off + j * 4 + 1, none⟩ = some (.int .i64 (numP x)) ∧ w1.cell? ⟨b, off + j * 4 + 2, none⟩ = some (.string (Nm.str (txP x))) := fun j x hx => by
    obtain ⟨b, off, u0, u1, u2, u3, e, hb, h0, h1, h2, h3, hI⟩ := h.at_ hx
    rw [Nat.zero_add] at h0 h1 h2 h3
    obtain ⟨k, s, A, c, ev, hs, _⟩ := IsIt.form hI
    injection ev with ev
    simp only [Array.mk.injEq, List.cons.injEq, and_true] at ev
    obtain ⟨rfl, rfl, rfl, rfl⟩ := ev
    rw [str_data hs] at h2
    exact ⟨b, off, e, hb, h1, h2⟩
  obtain ⟨b, off, e, hb, _⟩ := key 0 _ (List.getElem?_eq_getElem h5)
  refine ⟨b, off, e, hb, fun j x hx => ?_⟩
  obtain ⟨b', off', e', _, h1, h2⟩ := key j x hx
  rw [e] at e'
  injection e' with e'
  injection e' with e1 e2
  subst e1 e2
  exact ⟨h1, h2⟩
set_option maxHeartbeats 4000000 in
theorem rdec_empty (D : ByteArray) (hD : (D.toList == []) = true) (w : World) : Calls Tryz.prog 14 #[.string D] w (RetBelow (.tuple #[zO.v, .int .i64 0]) w) := by
  have hbd : ∀ W : World, (Instr.build 34 #[]).run Tryz.prog W = .ok (.agg #[.int .i64 0, .int .i64 0, .int .i64 0, .int .i64 0, .int .i64 0, .string ⟨#[]⟩, .string ⟨#[]⟩, .int .i64 0, .int .i64 0, .int .i64 0, .int .i64 0]) W := fun W => run_build W 34 _ _ (by kernel_rfl)
  have HB0 := Lib.hid ((Below.refl w.heap.size w).alloc (Nat.le_refl _) (.cells #[.int .i64 0, .int .i64 0, .int .i64 0, .int .i64 0, .int .i64 0, .string ⟨#[]⟩, .string ⟨#[]⟩, .int .i64 0, .int .i64 0, .int .i64 0, .int .i64 0] 34))
  have HR0 := Lib.hid (heap_alloc_new w (.cells #[.int .i64 0, .int .i64 0, .int .i64 0, .int .i64 0, .int .i64 0, .string ⟨#[]⟩, .string ⟨#[]⟩, .int .i64 0, .int .i64 0, .int .i64 0, .int .i64 0] 34))
  unfold Or.v oV zO
  obtain ⟨q0, q1, q2, q3, q4, q5, q6, q7, q8, q9, q10, f0, f1, f2, f3, f4, f5, f6, f7, f8, f9, f10⟩ := row11f HR0.out
  go_enter Tryz.func14, Tryz.ntmps14
  go_wp2_with fail
  refine bodyPost_ret (v := .tuple #[.agg #[.int .i64 0, .int .i64 0, .int .i64 0, .int .i64 0, .int .i64 0, .string ⟨#[]⟩, .string ⟨#[]⟩, .int .i64 0, .int .i64 0, .int .i64 0, .int .i64 0], .int .i64 0]) (by simp [results, Tryz.results14, go_sem, q0, q1, q2, q3, q4, q5, q6, q7, q8, q9, q10]) rfl ⟨rfl, HB0.out⟩
/-- what R01.Decode leaves: an item's value, its parts -/
def Dec1 (W : World) (tl : List It) (en : Int) (e : Ending) (w' : World) : Prop :=
  Below W.heap.size W w' ∧ ∃ (kk nn : Int) (ss : ByteArray) (AA : Option Addr) (cc : Nat), e = .returned (.tuple #[.agg #[.int .i64 kk, .int .i64 nn, .string ss, .slice AA tl.length cc], .int .i64 en]) ∧ AreIts w' (NewB W w') tl AA 0
set_option maxHeartbeats 4000000 in
theorem rdec_bad (D : ByteArray) (n C : Nat) (tl : List It) (en : Int) (w W : World) (hD : (D.toList == []) = false) (hbad : en ≠ 0 ∨ tl.length ≠ 5 ∨ (∃ x, tl[0]? = some x ∧ ¬ (1 ≤ numP x ∧ numP x ≤ 5)))
    (h7 : (convert 9 58 (.string D)).run Tryz.prog (w.alloc (.cells #[.int .i64 0, .int .i64 0, .int .i64 0, .int .i64 0, .int .i64 0, .string ⟨#[]⟩, .string ⟨#[]⟩, .int .i64 0, .int .i64 0, .int .i64 0, .int .i64 0] 34)) = .ok (.slice (some ⟨w.heap.size + 1, 0, none⟩) n C) W) (HBW : Hid (Below (w.heap.size + 1) (w.alloc (.cells #[.int .i64 0, .int .i64 0, .int .i64 0, .int .i64 0, .int .i64 0, .string ⟨#[]⟩, .string ⟨#[]⟩, .int .i64 0, .int .i64 0, .int .i64 0, .int .i64 0] 34)) W))
    (HD : Hid (Calls Tryz.prog 23 #[.slice (some ⟨w.heap.size + 1, 0, none⟩) n C] W (Dec1 W tl en))) :
    Calls Tryz.prog 14 #[.string D] w (RetBelow (.tuple #[zO.v, .int .i64 4]) w) := by
  have hbd : ∀ W : World, (Instr.build 34 #[]).run Tryz.prog W = .ok (.agg #[.int .i64 0, .int .i64 0, .int .i64 0, .int .i64 0, .int .i64 0, .string ⟨#[]⟩, .string ⟨#[]⟩, .int .i64 0, .int .i64 0, .int .i64 0, .int .i64 0]) W := fun W => run_build W 34 _ _ (by kernel_rfl)
  have HB0 := Lib.hid ((Below.refl w.heap.size w).alloc (Nat.le_refl _) (.cells #[.int .i64 0, .int .i64 0, .int .i64 0, .int .i64 0, .int .i64 0, .string ⟨#[]⟩, .string ⟨#[]⟩, .int .i64 0, .int .i64 0, .int .i64 0, .int .i64 0] 34))
  have HR0 := Lib.hid (heap_alloc_new w (.cells #[.int .i64 0, .int .i64 0, .int .i64 0, .int .i64 0, .int .i64 0, .string ⟨#[]⟩, .string ⟨#[]⟩, .int .i64 0, .int .i64 0, .int .i64 0, .int .i64 0] 34))
  have HB1 : Hid (Below w.heap.size w W) := Lib.hid (HB0.out.trans (HBW.out.mono (Nat.le_succ _)))
  have HR1 := Lib.hid ((HBW.out.block w.heap.size (by omega)).trans HR0.out)
  have HL1 : Hid (w.heap.size < W.heap.size) := Lib.hid (Array.getElem?_eq_some_iff.1 HR1.out).1
  unfold Or.v oV zO
  by_cases he : en = 0
  · have g0 := decide_eq_true he
    subst he
    by_cases h5 : tl.length = 5
    · obtain ⟨x, hx, hno⟩ := hbad.elim (fun h => absurd rfl h) fun h => h.elim (fun h => absurd h5 h) id
      have HF := Lib.hid fun X => within_any 1 (numP x) 5 X
      have eF : (decide (1 ≤ numP x) && decide (numP x ≤ 5)) = false := by
        rw [Bool.eq_false_iff]
        intro h
        simp only [Bool.and_eq_true, decide_eq_true_iff] at h
        exact hno h
      rw [eF] at HF
      have HX := Lib.hid hx
      clear hbad hno eF hx
      go_enter Tryz.func14, Tryz.ntmps14
      go_wp2_with (first
        | (go_at_call 24; (with_reducible refine (HF.out _).mono ?_); rintro e w3 ⟨rfl, hb3⟩
           have HR3 := Lib.hid ((hb3.block w.heap.size (Array.getElem?_eq_some_iff.1 HR2.out).1).trans HR2.out)
           have HB3 := Lib.hid (HB2.out.trans (hb3.mono HB2.out.size))
           obtain ⟨q0, q1, q2, q3, q4, q5, q6, q7, q8, q9, q10, f0, f1, f2, f3, f4, f5, f6, f7, f8, f9, f10⟩ := row11f HR3.out
           clear hb3)
        | (go_at_call 23; (with_reducible refine HD.out.mono ?_); rintro e w2 ⟨hb2, kk, nn, ss, AA, cc, rfl, hal⟩
           rw [h5]
           obtain ⟨bb, oo, rfl, hbb, hcs⟩ := cells5 hal (by omega)
           have hnum := (hcs 0 x HX.out).1
           have HR2 := Lib.hid ((Below.heap_alloc w2 (.cells #[.int .i64 kk, .int .i64 nn, .string ss, .slice (some ⟨bb, oo, none⟩) 5 cc] 50) w.heap.size (Nat.lt_of_lt_of_le HL1.out hb2.size)).trans ((hb2.block w.heap.size HL1.out).trans HR1.out))
           have HB2 := Lib.hid ((HB1.out.trans (hb2.mono HB1.out.size)).alloc (by have := HB1.out.size; have := hb2.size; omega) (.cells #[.int .i64 kk, .int .i64 nn, .string ss, .slice (some ⟨bb, oo, none⟩) 5 cc] 50))
           have HI2 := Lib.hid (heap_alloc_new w2 (.cells #[.int .i64 kk, .int .i64 nn, .string ss, .slice (some ⟨bb, oo, none⟩) 5 cc] 50))
           obtain ⟨j0, j1, j2, j3, _⟩ := row4 HI2.out
           have hn0 : (w2.alloc (.cells #[.int .i64 kk, .int .i64 nn, .string ss, .slice (some ⟨bb, oo, none⟩) 5 cc] 50)).cell? ⟨bb, oo + 1, none⟩ = some (.int .i64 (numP x)) := (((Below.refl w2.heap.size w2).alloc (Nat.le_refl _) _).cell (p := ⟨bb, oo + 1, none⟩) hbb.2).trans (by simpa using hnum)
           clear hb2 hal hcs hnum))
      all_goals
        have R9 := wr11_row (a0 := .int .i64 0) (a1 := .int .i64 0) (a2 := .int .i64 0) (a3 := .int .i64 0) (a4 := .int .i64 0) (a5 := .string ⟨#[]⟩) (a6 := .string ⟨#[]⟩) (a7 := .int .i64 0) (a8 := .int .i64 0) (a9 := .int .i64 0) (a10 := .int .i64 0) HR3.out
        have B9 := wr11_below (a0 := .int .i64 0) (a1 := .int .i64 0) (a2 := .int .i64 0) (a3 := .int .i64 0) (a4 := .int .i64 0) (a5 := .string ⟨#[]⟩) (a6 := .string ⟨#[]⟩) (a7 := .int .i64 0) (a8 := .int .i64 0) (a9 := .int .i64 0) (a10 := .int .i64 0) HB3.out (Nat.le_refl _)
        unfold wr11 at R9 B9
        obtain ⟨m0, m1, m2, m3, m4, m5, m6, m7, m8, m9, m10⟩ := row11 R9
        refine bodyPost_ret (v := .tuple #[.agg #[.int .i64 0, .int .i64 0, .int .i64 0, .int .i64 0, .int .i64 0, .string ⟨#[]⟩, .string ⟨#[]⟩, .int .i64 0, .int .i64 0, .int .i64 0, .int .i64 0], .int .i64 4]) (by simp [results, Tryz.results14, go_sem, m0, m1, m2, m3, m4, m5, m6, m7, m8, m9, m10]) rfl ⟨rfl, B9⟩
    · have g5 : decide (tl.length = 5) = false := decide_eq_false h5
      have g5i : decide ((tl.length : Int) = 5) = false := decide_eq_false (by omega)
      have g5b : ((tl.length : Int) == 5) = false := by simpa using (by omega : (tl.length : Int) ≠ 5)
      clear hbad
      go_enter Tryz.func14, Tryz.ntmps14
      go_wp2_with (go_at_call 23; (with_reducible refine HD.out.mono ?_); rintro e w2 ⟨hb2, kk, nn, ss, AA, cc, rfl, hal⟩
                   have HR3 := Lib.hid ((Below.heap_alloc w2 (.cells #[.int .i64 kk, .int .i64 nn, .string ss, .slice AA tl.length cc] 50) w.heap.size (Nat.lt_of_lt_of_le HL1.out hb2.size)).trans ((hb2.block w.heap.size HL1.out).trans HR1.out))
                   have HB3 := Lib.hid ((HB1.out.trans (hb2.mono HB1.out.size)).alloc (by have := HB1.out.size; have := hb2.size; omega) (.cells #[.int .i64 kk, .int .i64 nn, .string ss, .slice AA tl.length cc] 50))
                   have HI2 := Lib.hid (heap_alloc_new w2 (.cells #[.int .i64 kk, .int .i64 nn, .string ss, .slice AA tl.length cc] 50))
                   obtain ⟨j0, j1, j2, j3, _⟩ := row4 HI2.out
                   obtain ⟨q0, q1, q2, q3, q4, q5, q6, q7, q8, q9, q10, f0, f1, f2, f3, f4, f5, f6, f7, f8, f9, f10⟩ := row11f HR3.out
                   clear hb2 hal)
      all_goals
        have R9 := wr11_row (a0 := .int .i64 0) (a1 := .int .i64 0) (a2 := .int .i64 0) (a3 := .int .i64 0) (a4 := .int .i64 0) (a5 := .string ⟨#[]⟩) (a6 := .string ⟨#[]⟩) (a7 := .int .i64 0) (a8 := .int .i64 0) (a9 := .int .i64 0) (a10 := .int .i64 0) HR3.out
        have B9 := wr11_below (a0 := .int .i64 0) (a1 := .int .i64 0) (a2 := .int .i64 0) (a3 := .int .i64 0) (a4 := .int .i64 0) (a5 := .string ⟨#[]⟩) (a6 := .string ⟨#[]⟩) (a7 := .int .i64 0) (a8 := .int .i64 0) (a9 := .int .i64 0) (a10 := .int .i64 0) HB3.out (Nat.le_refl _)
        unfold wr11 at R9 B9
        obtain ⟨m0, m1, m2, m3, m4, m5, m6, m7, m8, m9, m10⟩ := row11 R9
        refine bodyPost_ret (v := .tuple #[.agg #[.int .i64 0, .int .i64 0, .int .i64 0, .int .i64 0, .int .i64 0, .string ⟨#[]⟩, .string ⟨#[]⟩, .int .i64 0, .int .i64 0, .int .i64 0, .int .i64 0], .int .i64 4]) (by simp [results, Tryz.results14, go_sem, m0, m1, m2, m3, m4, m5, m6, m7, m8, m9, m10]) rfl ⟨rfl, B9⟩
  · have g0 := decide_eq_false he
    clear hbad
    go_enter Tryz.func14, Tryz.ntmps14
    go_wp2_with (go_at_call 23; (with_reducible refine HD.out.mono ?_); rintro e w2 ⟨hb2, kk, nn, ss, AA, cc, rfl, hal⟩
                 have HR3 := Lib.hid ((Below.heap_alloc w2 (.cells #[.int .i64 kk, .int .i64 nn, .string ss, .slice AA tl.length cc] 50) w.heap.size (Nat.lt_of_lt_of_le HL1.out hb2.size)).trans ((hb2.block w.heap.size HL1.out).trans HR1.out))
                 have HB3 := Lib.hid ((HB1.out.trans (hb2.mono HB1.out.size)).alloc (by have := HB1.out.size; have := hb2.size; omega) (.cells #[.int .i64 kk, .int .i64 nn, .string ss, .slice AA tl.length cc] 50))
                 obtain ⟨q0, q1, q2, q3, q4, q5, q6, q7, q8, q9, q10, f0, f1, f2, f3, f4, f5, f6, f7, f8, f9, f10⟩ := row11f HR3.out
                 clear hb2 hal)
    all_goals
      have R9 := wr11_row (a0 := .int .i64 0) (a1 := .int .i64 0) (a2 := .int .i64 0) (a3 := .int .i64 0) (a4 := .int .i64 0) (a5 := .string ⟨#[]⟩) (a6 := .string ⟨#[]⟩) (a7 := .int .i64 0) (a8 := .int .i64 0) (a9 := .int .i64 0) (a10 := .int .i64 0) HR3.out
      have B9 := wr11_below (a0 := .int .i64 0) (a1 := .int .i64 0) (a2 := .int .i64 0) (a3 := .int .i64 0) (a4 := .int .i64 0) (a5 := .string ⟨#[]⟩) (a6 := .string ⟨#[]⟩) (a7 := .int .i64 0) (a8 := .int .i64 0) (a9 := .int .i64 0) (a10 := .int .i64 0) HB3.out (Nat.le_refl _)
      unfold wr11 at R9 B9
      obtain ⟨m0, m1, m2, m3, m4, m5, m6, m7, m8, m9, m10⟩ := row11 R9
      refine bodyPost_ret (v := .tuple #[.agg #[.int .i64 0, .int .i64 0, .int .i64 0, .int .i64 0, .int .i64 0, .string ⟨#[]⟩, .string ⟨#[]⟩, .int .i64 0, .int .i64 0, .int .i64 0, .int .i64 0], .int .i64 4]) (by simp [results, Tryz.results14, go_sem, m0, m1, m2, m3, m4, m5, m6, m7, m8, m9, m10]) rfl ⟨rfl, B9⟩
end Go.Proofs.YtebacdegjmcnlaaGreat
