import Derived.Test.YtebacdegjmcnlaaGreatUe
import Derived.Test.YtebacdegjmcnlaaGreatWg
import Derived.Test.YtebacdegjmcnlaaGreatXr
import Derived.Test.YtebacdegjmcnlaaGreatMy
import Derived.Deep.RegionHeld2
namespace Go.Proofs.YtebacdegjmcnlaaGreat
open Go.RowKit Pl
set_option linter.unusedVariables false
set_option maxRecDepth 20000
theorem ok_numR {x : It} (h : x.ok = true) : InR (num x) := by
  obtain ⟨k, n, s, l⟩ := x
  simp only [It.ok, Bool.and_eq_true, decide_eq_true_eq] at h
  obtain ⟨⟨⟨⟨h1, h2⟩, h3⟩, _⟩, _⟩ := h
  simp only [num]
  unfold form at h1
  simp only [Bool.or_eq_true, Bool.and_eq_true, beq_iff_eq] at h1
  rcases h1 with (h1 | h1) | h1
  · exact h2 h1.1.1
  · rw [h1.1.2]; exact ⟨by omega, by omega⟩
  · rw [h1.1.2]; exact ⟨by omega, by omega⟩
theorem ok_els {x : It} (h : x.ok = true) : oks (els x) = true := by
  obtain ⟨k, n, s, l⟩ := x
  simp only [It.ok, Bool.and_eq_true] at h
  exact h.2
theorem nm_R {l : List It} (h : oks l = true) (i : Nat) : InR (nmAt l i) := by
  induction l generalizing i with
  | nil => exact ⟨by simp [nmAt], by simp [nmAt]⟩
  | cons x r ih =>
    simp only [oks, Bool.and_eq_true] at h
    cases i with
    | zero => exact ok_numR h.1
    | succ i => exact ih h.2 i
theorem isIt_els {V : World} {S : Nat → Prop} {x : It} {A : Option Addr} {c : Nat} (h : IsIt V S x (.agg #[.int .i64 (knd x), .int .i64 (num x), .string (tx x), .slice A (els x).length c])) : (els x).length ≤ maxLen ∧ AreIts V S (els x) A 0 := by
  obtain ⟨k, n, s, l⟩ := x
  rw [IsIt] at h
  obtain ⟨A', c', he, _, _, _, hl, hal⟩ := h
  simp only [Value.agg.injEq, Array.mk.injEq, List.cons.injEq, and_true, Value.slice.injEq, els] at he
  obtain ⟨_, _, _, rfl, _, _⟩ := he
  exact ⟨hl, hal⟩
theorem str_ne {l k : List UInt8} (h : ¬ l = k) : ((Nm.str k).toList == (Nm.str l).toList) = false := by
  rw [beq_eq_false_iff_ne]
  intro e
  rw [toList_iff] at e
  apply h
  have := congrArg (fun x : ByteArray => x.data.toList) e
  simpa [Nm.str] using this.symm
/-- what may be read back is what stands there -/
theorem backC {l : List UInt8} {k m : Int} {z : ByteArray} {q : List It} {x : T7} (hd : dec l = some (.mk k m z q)) (h : resC l = some x) : q.length = 5 ∧ ∀ i0 i1 i2 i3 i4, q = [i0, i1, i2, i3, i4] → mayC (num i0) (tx i1) (tx i2) (nmAt (els i3) 0) (nmAt (els i3) 1) (nmAt (els i3) 2) (num i4) = true ∧ l = (cIt (num i0) (tx i1) (tx i2) (nmAt (els i3) 0) (nmAt (els i3) 1) (nmAt (els i3) 2) (num i4)).enc ∧ 0 ≤ num i0 ∧ num i0 ≤ 99 := by
  obtain ⟨o, s, t, a, b, c, n⟩ := x
  obtain ⟨hm, r1, r2, r3, r4, r5, rfl⟩ := (resC_iff l o s t a b c n).1 h
  obtain ⟨s1, s2⟩ := mayC_name hm
  rw [cIt_dec o s t a b c n r1 r2 r3 r4 r5 s1 s2] at hd
  have hr : 1 ≤ o ∧ o ≤ 10 := by
    have hm2 := hm
    unfold mayC fitF at hm2
    by_cases h1 : 1 ≤ o ∧ o ≤ 10
    · exact h1
    · rw [if_neg (by omega), if_neg (by omega), if_neg (by omega), if_neg (by omega), if_neg (by omega)] at hm2
      simp at hm2
  simp only [cIt, Option.some.injEq, It.mk.injEq] at hd
  obtain ⟨_, _, _, rfl⟩ := hd
  refine ⟨rfl, fun i0 i1 i2 i3 i4 hq => ?_⟩
  simp only [List.cons.injEq, and_true] at hq
  obtain ⟨rfl, rfl, rfl, rfl, rfl⟩ := hq
  exact ⟨hm, rfl, by simp only [num, nIt]; omega, by simp only [num, nIt]; omega⟩
set_option maxHeartbeats 8000000 in
theorem refDecC_any (l : List UInt8) (w : World) (hs : l.length ≤ 281474976710656) : Calls Tryz.prog 25 #[.string (Nm.str l)] w (DecP ((resC l).map vC7) zc w) := by
  have hsz : (Nm.str l).size = l.length := Nm.str_size l
  have hcv : ∀ W : World, (convert 9 58 (.string (Nm.str l))).run Tryz.prog W = .ok (.slice (some ⟨W.heap.size, 0, none⟩) l.length (grownCap W (Nm.str l).size 0 5)) (W.drew.alloc (.cells (bytesRow (Nm.str l) (grownCap W (Nm.str l).size 0 5)) 5 ((bytesRow (Nm.str l) (grownCap W (Nm.str l).size 0 5)).size, (bytesRow (Nm.str l) (grownCap W (Nm.str l).size 0 5)).size + 1))) := fun W => by
    have := run_bytes_of_string (P := Tryz.prog) W 9 58 5 (Nm.str l) Tryz.underlying9 Tryz.underlying58 Tryz.underlying5
    rw [hsz] at this
    rw [hsz]
    exact this
  obtain ⟨C, hC⟩ : ∃ C, C = grownCap (w.alloc (.cells #[.int .i64 0, .string ⟨#[]⟩, .string ⟨#[]⟩, .int .i64 0, .int .i64 0, .int .i64 0, .int .i64 0] 32)) (Nm.str l).size 0 5 := ⟨_, rfl⟩
  have h7 := hcv (w.alloc (.cells #[.int .i64 0, .string ⟨#[]⟩, .string ⟨#[]⟩, .int .i64 0, .int .i64 0, .int .i64 0, .int .i64 0] 32))
  rw [← hC] at h7
  have hg := RowAt.new (w.alloc (.cells #[.int .i64 0, .string ⟨#[]⟩, .string ⟨#[]⟩, .int .i64 0, .int .i64 0, .int .i64 0, .int .i64 0] 32)) l C
  have hCge : l.length ≤ C := by rw [hC, ← hsz]; exact grownCap_ge _ _ _ _
  have hCle : C ≤ 9223372036854775807 := by have := grownCap_le_maxLen (w.alloc (.cells #[.int .i64 0, .string ⟨#[]⟩, .string ⟨#[]⟩, .int .i64 0, .int .i64 0, .int .i64 0, .int .i64 0] 32)) (Nm.str l).size 0 5 (by rw [hsz]; simp only [maxLen]; omega); rw [hC]; simpa [maxLen] using this
  obtain ⟨W, hW⟩ : ∃ W, W = (w.alloc (.cells #[.int .i64 0, .string ⟨#[]⟩, .string ⟨#[]⟩, .int .i64 0, .int .i64 0, .int .i64 0, .int .i64 0] 32)).drew.alloc (.cells (bytesRow (Nm.str l) C) 5 ((bytesRow (Nm.str l) C).size, (bytesRow (Nm.str l) C).size + 1)) := ⟨_, rfl⟩
  rw [← hW] at h7 hg
  have hB0 : Below w.heap.size w (w.alloc (.cells #[.int .i64 0, .string ⟨#[]⟩, .string ⟨#[]⟩, .int .i64 0, .int .i64 0, .int .i64 0, .int .i64 0] 32)) := (Below.refl _ _).alloc (Nat.le_refl _) _
  have hB : Below w.heap.size w W := by rw [hW]; exact hB0.drew.alloc (by simp) _
  have hR : W.heap[w.heap.size]? = some (.cells #[.int .i64 0, .string ⟨#[]⟩, .string ⟨#[]⟩, .int .i64 0, .int .i64 0, .int .i64 0, .int .i64 0] 32 (0, 0)) := by rw [hW]; exact (Below.heap_alloc _ _ _ (by simp)).trans (heap_alloc_new w _)
  have hsW : W.heap.size = w.heap.size + 2 := by rw [hW]; simp
  have h0s : (w.alloc (.cells #[.int .i64 0, .string ⟨#[]⟩, .string ⟨#[]⟩, .int .i64 0, .int .i64 0, .int .i64 0, .int .i64 0] 32)).heap.size = w.heap.size + 1 := by simp
  rw [h0s] at h7 hg
  have HG := Lib.hid hg
  have HB := Lib.hid hB
  have HR := Lib.hid hR
  have HS := Lib.hid hsW
  have HL := Lib.hid hCge
  have HM := Lib.hid hCle
  have hq0 : ∀ V : World, (Instr.build 32 #[]).run Tryz.prog V = .ok (.agg #[.int .i64 0, .string ⟨#[]⟩, .string ⟨#[]⟩, .int .i64 0, .int .i64 0, .int .i64 0, .int .i64 0]) V := fun V => run_build V 32 _ _ (by kernel_rfl)
  clear hcv hC hg hCge hCle hW hB0 hB hR hsW h0s
  generalize hn : l.length = n at *
  have HN := Lib.hid hn
  clear hn hsz
  cases hd : dec l with
  | none =>
    have hres : (resC l).map vC7 = none := by rw [resC, hd]; rfl
    have HRES := Lib.hid hres
    clear hres
    go_enter Tryz.func25, Tryz.ntmps25
    go_wp2_with (go_at_call 23; (with_reducible refine (rdecode_any l _ n C W (HG.out.bytes (by have := HS.out; omega)) HN.out HL.out HM.out).mono ?_); rintro e w1 ⟨hb1, _, hno⟩; obtain rfl := hno hd; have B1 := Lib.hid hb1; have R1 := Lib.hid ((Below.heap_alloc w1 (.cells #[.int .i64 0, .int .i64 0, .string ⟨#[]⟩, .slice none 0 0] 50) w.heap.size (Nat.lt_of_lt_of_le (by have := HS.out; omega) hb1.size)).trans ((hb1.block w.heap.size (by have := HS.out; omega)).trans HR.out)); clear hb1 hno; obtain ⟨e0, e1, e2, e3, e4, e5, e6⟩ := row7 R1.out; obtain ⟨f0, f1, f2, f3, f4, f5, f6⟩ := row7f R1.out; unfold zeroItem)
    have hs2 := HS.out
    have hs1 := B1.out.size
    have RW := w7_row (w1.alloc (.cells #[.int .i64 0, .int .i64 0, .string ⟨#[]⟩, .slice none 0 0] 50)) w.heap.size (.int .i64 0) (.string ⟨#[]⟩) (.string ⟨#[]⟩) (.int .i64 0) (.int .i64 0) (.int .i64 0) (.int .i64 0) _ _ _ _ _ _ _ 32 R1.out
    have RB := w7_below (w := w1.alloc (.cells #[.int .i64 0, .int .i64 0, .string ⟨#[]⟩, .slice none 0 0] 50)) (HB.out.trans ((B1.out.alloc hs1 _).mono (by omega))) w.heap.size (.int .i64 0) (.string ⟨#[]⟩) (.string ⟨#[]⟩) (.int .i64 0) (.int .i64 0) (.int .i64 0) (.int .i64 0) (Nat.le_refl _)
    change bodyPost Tryz.prog Tryz.f25 _ Exit.ret _ (w7 (w1.alloc (.cells #[.int .i64 0, .int .i64 0, .string ⟨#[]⟩, .slice none 0 0] 50)) w.heap.size (.int .i64 0) (.string ⟨#[]⟩) (.string ⟨#[]⟩) (.int .i64 0) (.int .i64 0) (.int .i64 0) (.int .i64 0))
    generalize (w7 (w1.alloc (.cells #[.int .i64 0, .int .i64 0, .string ⟨#[]⟩, .slice none 0 0] 50)) w.heap.size (.int .i64 0) (.string ⟨#[]⟩) (.string ⟨#[]⟩) (.int .i64 0) (.int .i64 0) (.int .i64 0) (.int .i64 0)) = V' at *
    obtain ⟨m0, m1, m2, m3, m4, m5, m6⟩ := row7 RW
    refine bodyPost_ret (v := .tuple #[.agg #[.int .i64 0, .string ⟨#[]⟩, .string ⟨#[]⟩, .int .i64 0, .int .i64 0, .int .i64 0, .int .i64 0], .int .i64 4]) (by simp [results, Tryz.results25, go_sem, m0, m1, m2, m3, m4, m5, m6]) rfl ⟨by rw [HRES.out]; rfl, RB⟩
  | some t =>
    obtain ⟨k, m, z, q⟩ := t
    have hok := ((dec_iff l _).1 hd).1
    by_cases hq : q.length = 5
    case neg =>
      have hres : (resC l).map vC7 = none := by
        cases hr : resC l with
        | none => rfl
        | some x => exact absurd (backC hd hr).1 hq
      have HRES := Lib.hid hres
      have hq2 : ((q.length : Int) == 5) = false := by simp; omega
      have hq4 : ¬ ((q.length : Int) = 5) := by omega
      clear hres hok
      go_enter Tryz.func25, Tryz.ntmps25
      go_wp2_with (go_at_call 23; (with_reducible refine (rdecode_any l _ n C W (HG.out.bytes (by have := HS.out; omega)) HN.out HL.out HM.out).mono ?_); rintro e w1 ⟨hb1, hyes, hnn⟩; clear hnn; obtain ⟨v, rfl, hv⟩ := hyes _ hd; rw [IsIt] at hv; obtain ⟨A, cc, rfl, hv1, hv2, hv3, hv4, hal⟩ := hv; rw [maxLen] at hv4; clear hv1 hv2 hv3; have B1 := Lib.hid hb1; have HAL := Lib.hid hal; have R1 := Lib.hid ((Below.heap_alloc w1 (.cells #[.int .i64 k, .int .i64 m, .string z, .slice A q.length cc] 50) w.heap.size (Nat.lt_of_lt_of_le (by have := HS.out; omega) hb1.size)).trans ((hb1.block w.heap.size (by have := HS.out; omega)).trans HR.out)); clear hb1 hyes hal; obtain ⟨e0, e1, e2, e3, e4, e5, e6⟩ := row7 R1.out; obtain ⟨f0, f1, f2, f3, f4, f5, f6⟩ := row7f R1.out)
      have hs2 := HS.out
      have hs1 := B1.out.size
      have RW := w7_row (w1.alloc (.cells #[.int .i64 k, .int .i64 m, .string z, .slice A q.length cc] 50)) w.heap.size (.int .i64 0) (.string ⟨#[]⟩) (.string ⟨#[]⟩) (.int .i64 0) (.int .i64 0) (.int .i64 0) (.int .i64 0) _ _ _ _ _ _ _ 32 R1.out
      have RB := w7_below (w := w1.alloc (.cells #[.int .i64 k, .int .i64 m, .string z, .slice A q.length cc] 50)) (HB.out.trans ((B1.out.alloc hs1 _).mono (by omega))) w.heap.size (.int .i64 0) (.string ⟨#[]⟩) (.string ⟨#[]⟩) (.int .i64 0) (.int .i64 0) (.int .i64 0) (.int .i64 0) (Nat.le_refl _)
      change bodyPost Tryz.prog Tryz.f25 _ Exit.ret _ (w7 (w1.alloc (.cells #[.int .i64 k, .int .i64 m, .string z, .slice A q.length cc] 50)) w.heap.size (.int .i64 0) (.string ⟨#[]⟩) (.string ⟨#[]⟩) (.int .i64 0) (.int .i64 0) (.int .i64 0) (.int .i64 0))
      generalize (w7 (w1.alloc (.cells #[.int .i64 k, .int .i64 m, .string z, .slice A q.length cc] 50)) w.heap.size (.int .i64 0) (.string ⟨#[]⟩) (.string ⟨#[]⟩) (.int .i64 0) (.int .i64 0) (.int .i64 0) (.int .i64 0)) = V' at *
      obtain ⟨m0, m1, m2, m3, m4, m5, m6⟩ := row7 RW
      refine bodyPost_ret (v := .tuple #[.agg #[.int .i64 0, .string ⟨#[]⟩, .string ⟨#[]⟩, .int .i64 0, .int .i64 0, .int .i64 0, .int .i64 0], .int .i64 4]) (by simp [results, Tryz.results25, go_sem, m0, m1, m2, m3, m4, m5, m6]) rfl ⟨by rw [HRES.out]; rfl, RB⟩
    case pos =>
      match q, hq with
      | [i0, i1, i2, i3, i4], _ =>
        simp only [It.ok, Bool.and_eq_true, oks] at hok
        have HOK := Lib.hid hok.2
        clear hok
        by_cases hlo : num i0 < 0
        · have hres : (resC l).map vC7 = none := by
            cases hr : resC l with
            | none => rfl
            | some x => have := (backC hd hr).2 _ _ _ _ _ rfl; omega
          have HRES := Lib.hid hres
          clear hres
          go_enter Tryz.func25, Tryz.ntmps25
          go_wp2_with (go_at_call 23; (with_reducible refine (rdecode_any l _ n C W (HG.out.bytes (by have := HS.out; omega)) HN.out HL.out HM.out).mono ?_); rintro e w1 ⟨hb1, hyes, hnn⟩; clear hnn; obtain ⟨v, rfl, hv⟩ := hyes _ hd; rw [IsIt] at hv; obtain ⟨A, cc, rfl, hv1, hv2, hv3, hv4, hal⟩ := hv; clear hv1 hv2 hv3; have B1 := Lib.hid hb1; obtain ⟨b, off, A0, A1, A2, A3, A4, c0, c1, c2, c3, c4, rfl, hbb, F, I3⟩ := five hal; have F2 := five_keep F (Below.heap_alloc w1 (.cells #[.int .i64 k, .int .i64 m, .string z, .slice (some ⟨b, off, none⟩) 5 cc] 50) b hbb.2); have R1 := Lib.hid ((Below.heap_alloc w1 (.cells #[.int .i64 k, .int .i64 m, .string z, .slice (some ⟨b, off, none⟩) 5 cc] 50) w.heap.size (Nat.lt_of_lt_of_le (by have := HS.out; omega) hb1.size)).trans ((hb1.block w.heap.size (by have := HS.out; omega)).trans HR.out)); clear hb1 hyes hal F I3; obtain ⟨e0, e1, e2, e3, e4, e5, e6⟩ := row7 R1.out; obtain ⟨f0, f1, f2, f3, f4, f5, f6⟩ := row7f R1.out; obtain ⟨x0a, x0b, x0c, x0d, x1a, x1b, x1c, x1d, x2a, x2b, x2c, x2d, x3a, x3b, x3c, x3d, x4a, x4b, x4c, x4d⟩ := F2)
          have hs2 := HS.out
          have hs1 := B1.out.size
          have RW := w7_row (w1.alloc (.cells #[.int .i64 k, .int .i64 m, .string z, .slice (some ⟨b, off, none⟩) 5 cc] 50)) w.heap.size (.int .i64 0) (.string ⟨#[]⟩) (.string ⟨#[]⟩) (.int .i64 0) (.int .i64 0) (.int .i64 0) (.int .i64 0) _ _ _ _ _ _ _ 32 R1.out
          have RB := w7_below (w := w1.alloc (.cells #[.int .i64 k, .int .i64 m, .string z, .slice (some ⟨b, off, none⟩) 5 cc] 50)) (HB.out.trans ((B1.out.alloc hs1 _).mono (by omega))) w.heap.size (.int .i64 0) (.string ⟨#[]⟩) (.string ⟨#[]⟩) (.int .i64 0) (.int .i64 0) (.int .i64 0) (.int .i64 0) (Nat.le_refl _)
          change bodyPost Tryz.prog Tryz.f25 _ Exit.ret _ (w7 (w1.alloc (.cells #[.int .i64 k, .int .i64 m, .string z, .slice (some ⟨b, off, none⟩) 5 cc] 50)) w.heap.size (.int .i64 0) (.string ⟨#[]⟩) (.string ⟨#[]⟩) (.int .i64 0) (.int .i64 0) (.int .i64 0) (.int .i64 0))
          generalize (w7 (w1.alloc (.cells #[.int .i64 k, .int .i64 m, .string z, .slice (some ⟨b, off, none⟩) 5 cc] 50)) w.heap.size (.int .i64 0) (.string ⟨#[]⟩) (.string ⟨#[]⟩) (.int .i64 0) (.int .i64 0) (.int .i64 0) (.int .i64 0)) = V' at *
          obtain ⟨m0, m1, m2, m3, m4, m5, m6⟩ := row7 RW
          refine bodyPost_ret (v := .tuple #[.agg #[.int .i64 0, .string ⟨#[]⟩, .string ⟨#[]⟩, .int .i64 0, .int .i64 0, .int .i64 0, .int .i64 0], .int .i64 4]) (by simp [results, Tryz.results25, go_sem, m0, m1, m2, m3, m4, m5, m6]) rfl ⟨by rw [HRES.out]; rfl, RB⟩
        by_cases hhi : 99 < num i0
        · have hres : (resC l).map vC7 = none := by
            cases hr : resC l with
            | none => rfl
            | some x => have := (backC hd hr).2 _ _ _ _ _ rfl; omega
          have HRES := Lib.hid hres
          have hlo' : 0 ≤ num i0 := by omega
          clear hres
          go_enter Tryz.func25, Tryz.ntmps25
          go_wp2_with (go_at_call 23; (with_reducible refine (rdecode_any l _ n C W (HG.out.bytes (by have := HS.out; omega)) HN.out HL.out HM.out).mono ?_); rintro e w1 ⟨hb1, hyes, hnn⟩; clear hnn; obtain ⟨v, rfl, hv⟩ := hyes _ hd; rw [IsIt] at hv; obtain ⟨A, cc, rfl, hv1, hv2, hv3, hv4, hal⟩ := hv; clear hv1 hv2 hv3; have B1 := Lib.hid hb1; obtain ⟨b, off, A0, A1, A2, A3, A4, c0, c1, c2, c3, c4, rfl, hbb, F, I3⟩ := five hal; have F2 := five_keep F (Below.heap_alloc w1 (.cells #[.int .i64 k, .int .i64 m, .string z, .slice (some ⟨b, off, none⟩) 5 cc] 50) b hbb.2); have R1 := Lib.hid ((Below.heap_alloc w1 (.cells #[.int .i64 k, .int .i64 m, .string z, .slice (some ⟨b, off, none⟩) 5 cc] 50) w.heap.size (Nat.lt_of_lt_of_le (by have := HS.out; omega) hb1.size)).trans ((hb1.block w.heap.size (by have := HS.out; omega)).trans HR.out)); clear hb1 hyes hal F I3; obtain ⟨e0, e1, e2, e3, e4, e5, e6⟩ := row7 R1.out; obtain ⟨f0, f1, f2, f3, f4, f5, f6⟩ := row7f R1.out; obtain ⟨x0a, x0b, x0c, x0d, x1a, x1b, x1c, x1d, x2a, x2b, x2c, x2d, x3a, x3b, x3c, x3d, x4a, x4b, x4c, x4d⟩ := F2)
          have hs2 := HS.out
          have hs1 := B1.out.size
          have RW := w7_row (w1.alloc (.cells #[.int .i64 k, .int .i64 m, .string z, .slice (some ⟨b, off, none⟩) 5 cc] 50)) w.heap.size (.int .i64 0) (.string ⟨#[]⟩) (.string ⟨#[]⟩) (.int .i64 0) (.int .i64 0) (.int .i64 0) (.int .i64 0) _ _ _ _ _ _ _ 32 R1.out
          have RB := w7_below (w := w1.alloc (.cells #[.int .i64 k, .int .i64 m, .string z, .slice (some ⟨b, off, none⟩) 5 cc] 50)) (HB.out.trans ((B1.out.alloc hs1 _).mono (by omega))) w.heap.size (.int .i64 0) (.string ⟨#[]⟩) (.string ⟨#[]⟩) (.int .i64 0) (.int .i64 0) (.int .i64 0) (.int .i64 0) (Nat.le_refl _)
          change bodyPost Tryz.prog Tryz.f25 _ Exit.ret _ (w7 (w1.alloc (.cells #[.int .i64 k, .int .i64 m, .string z, .slice (some ⟨b, off, none⟩) 5 cc] 50)) w.heap.size (.int .i64 0) (.string ⟨#[]⟩) (.string ⟨#[]⟩) (.int .i64 0) (.int .i64 0) (.int .i64 0) (.int .i64 0))
          generalize (w7 (w1.alloc (.cells #[.int .i64 k, .int .i64 m, .string z, .slice (some ⟨b, off, none⟩) 5 cc] 50)) w.heap.size (.int .i64 0) (.string ⟨#[]⟩) (.string ⟨#[]⟩) (.int .i64 0) (.int .i64 0) (.int .i64 0) (.int .i64 0)) = V' at *
          obtain ⟨m0, m1, m2, m3, m4, m5, m6⟩ := row7 RW
          refine bodyPost_ret (v := .tuple #[.agg #[.int .i64 0, .string ⟨#[]⟩, .string ⟨#[]⟩, .int .i64 0, .int .i64 0, .int .i64 0, .int .i64 0], .int .i64 4]) (by simp [results, Tryz.results25, go_sem, m0, m1, m2, m3, m4, m5, m6]) rfl ⟨by rw [HRES.out]; rfl, RB⟩
        have hlo' : 0 ≤ num i0 := by omega
        have HIN := Lib.hid (show ∀ (h1 : mayC (num i0) (tx i1) (tx i2) (nmAt (els i3) 0) (nmAt (els i3) 1) (nmAt (els i3) 2) (num i4) = true) (h2 : l = (cIt (num i0) (tx i1) (tx i2) (nmAt (els i3) 0) (nmAt (els i3) 1) (nmAt (els i3) 2) (num i4)).enc), resC l = some ((num i0), (tx i1), (tx i2), (nmAt (els i3) 0), (nmAt (els i3) 1), (nmAt (els i3) 2), (num i4)) from fun hm hl => by
          obtain ⟨n0, n1, n2, n3, n4, _⟩ := HOK.out
          exact (resC_iff l (num i0) (tx i1) (tx i2) (nmAt (els i3) 0) (nmAt (els i3) 1) (nmAt (els i3) 2) (num i4)).2 ⟨hm, ok_numR n0, nm_R (ok_els n3) 0, nm_R (ok_els n3) 1, nm_R (ok_els n3) 2, ok_numR n4, hl⟩)
        obtain ⟨n0, n1, n2, n3, n4, _⟩ := HOK.out
        have HE := Lib.hid (fun V => refEncode_any (num i0) (tx i1) (tx i2) (nmAt (els i3) 0) (nmAt (els i3) 1) (nmAt (els i3) 2) (num i4) V (ok_numR n0) (ok_size n1) (ok_size n2) (nm_R (ok_els n3) 0) (nm_R (ok_els n3) 1) (nm_R (ok_els n3) 2) (ok_numR n4))
        clear n0 n1 n2 n3 n4
        go_enter Tryz.func25, Tryz.ntmps25
        go_wp2_with (go_at_call 23; (with_reducible refine (rdecode_any l _ n C W (HG.out.bytes (by have := HS.out; omega)) HN.out HL.out HM.out).mono ?_); rintro e w1 ⟨hb1, hyes, hnn⟩; clear hnn; obtain ⟨v, rfl, hv⟩ := hyes _ hd; rw [IsIt] at hv; obtain ⟨A, cc, rfl, hv1, hv2, hv3, hv4, hal⟩ := hv; clear hv1 hv2 hv3; have B1 := Lib.hid hb1; obtain ⟨b, off, A0, A1, A2, A3, A4, c0, c1, c2, c3, c4, rfl, hbb, F, I3⟩ := five hal; have F2 := five_keep F (Below.heap_alloc w1 (.cells #[.int .i64 k, .int .i64 m, .string z, .slice (some ⟨b, off, none⟩) 5 cc] 50) b hbb.2); have R1 := Lib.hid ((Below.heap_alloc w1 (.cells #[.int .i64 k, .int .i64 m, .string z, .slice (some ⟨b, off, none⟩) 5 cc] 50) w.heap.size (Nat.lt_of_lt_of_le (by have := HS.out; omega) hb1.size)).trans ((hb1.block w.heap.size (by have := HS.out; omega)).trans HR.out)); clear hb1 hyes hal F; obtain ⟨e0, e1, e2, e3, e4, e5, e6⟩ := row7 R1.out; obtain ⟨f0, f1, f2, f3, f4, f5, f6⟩ := row7f R1.out; have HAI := Lib.hid (IsIt.mono (S' := (· < (w1.alloc (.cells #[.int .i64 k, .int .i64 m, .string z, .slice (some ⟨b, off, none⟩) 5 cc] 50)).heap.size)) (fun q (hq : NewB W w1 q) => Nat.lt_of_lt_of_le hq.2 (by simp)) _ (IsIt.keep (fun q (hq : NewB W w1 q) => Below.heap_alloc w1 (.cells #[.int .i64 k, .int .i64 m, .string z, .slice (some ⟨b, off, none⟩) 5 cc] 50) q hq.2) _ I3)); have HBX := Lib.hid (heap_alloc_new w1 (.cells #[.int .i64 k, .int .i64 m, .string z, .slice (some ⟨b, off, none⟩) 5 cc] 50)); have HF2 := Lib.hid F2; have HBB := Lib.hid (Nat.lt_of_lt_of_le hbb.2 (show w1.heap.size ≤ (w1.alloc (.cells #[.int .i64 k, .int .i64 m, .string z, .slice (some ⟨b, off, none⟩) 5 cc] 50)).heap.size by simp)); clear I3; obtain ⟨x0a, x0b, x0c, x0d, x1a, x1b, x1c, x1d, x2a, x2b, x2c, x2d, x3a, x3b, x3c, x3d, x4a, x4b, x4c, x4d⟩ := F2)
        have hs2 := HS.out
        have hs1 := B1.out.size
        have BW : Hid (Below w.heap.size w (w1.alloc (.cells #[.int .i64 k, .int .i64 m, .string z, .slice (some ⟨b, off, none⟩) 5 cc] 50))) := Lib.hid (HB.out.trans ((B1.out.alloc hs1 _).mono (by omega)))
        have hwl : w1.heap.size < (w1.alloc (.cells #[.int .i64 k, .int .i64 m, .string z, .slice (some ⟨b, off, none⟩) 5 cc] 50)).heap.size := by simp
        have hwz : w.heap.size < (w1.alloc (.cells #[.int .i64 k, .int .i64 m, .string z, .slice (some ⟨b, off, none⟩) 5 cc] 50)).heap.size := by simp; omega
        clear x0a x0b x0c x0d x1a x1b x1c x1d x2a x2b x2c x2d x3a x3b x3c x3d x4a x4b x4c x4d e0 e1 e2 e3 e4 e5 e6 f0 f1 f2 f3 f4 f5 f6
        generalize w1.alloc (.cells #[.int .i64 k, .int .i64 m, .string z, .slice (some ⟨b, off, none⟩) 5 cc] 50) = w2 at *
        have HWL := Lib.hid hwl
        have HWZ := Lib.hid hwz
        clear hs1 hs2 hwl hwz
        have HF := Lib.hid (fun V (h : Below w2.heap.size w2 V) => (⟨cell_of_row V _ 3 _ _ _ ((h.block _ HWL.out).trans HBX.out), five_keep HF2.out (h.block b HBB.out)⟩ : V.cell? ⟨w1.heap.size, 3, none⟩ = some (.slice (some ⟨b, off, none⟩) 5 cc) ∧ V.cell? ⟨b, off, none⟩ = some (.int .i64 (knd i0)) ∧ V.cell? ⟨b, off + 1, none⟩ = some (.int .i64 (num i0)) ∧ V.cell? ⟨b, off + 2, none⟩ = some (.string (tx i0)) ∧ V.cell? ⟨b, off + 3, none⟩ = some (.slice A0 (els i0).length c0) ∧ V.cell? ⟨b, off + 4, none⟩ = some (.int .i64 (knd i1)) ∧ V.cell? ⟨b, off + 4 + 1, none⟩ = some (.int .i64 (num i1)) ∧ V.cell? ⟨b, off + 4 + 2, none⟩ = some (.string (tx i1)) ∧ V.cell? ⟨b, off + 4 + 3, none⟩ = some (.slice A1 (els i1).length c1) ∧ V.cell? ⟨b, off + 8, none⟩ = some (.int .i64 (knd i2)) ∧ V.cell? ⟨b, off + 8 + 1, none⟩ = some (.int .i64 (num i2)) ∧ V.cell? ⟨b, off + 8 + 2, none⟩ = some (.string (tx i2)) ∧ V.cell? ⟨b, off + 8 + 3, none⟩ = some (.slice A2 (els i2).length c2) ∧ V.cell? ⟨b, off + 12, none⟩ = some (.int .i64 (knd i3)) ∧ V.cell? ⟨b, off + 12 + 1, none⟩ = some (.int .i64 (num i3)) ∧ V.cell? ⟨b, off + 12 + 2, none⟩ = some (.string (tx i3)) ∧ V.cell? ⟨b, off + 12 + 3, none⟩ = some (.slice A3 (els i3).length c3) ∧ V.cell? ⟨b, off + 16, none⟩ = some (.int .i64 (knd i4)) ∧ V.cell? ⟨b, off + 16 + 1, none⟩ = some (.int .i64 (num i4)) ∧ V.cell? ⟨b, off + 16 + 2, none⟩ = some (.string (tx i4)) ∧ V.cell? ⟨b, off + 16 + 3, none⟩ = some (.slice A4 (els i4).length c4)))
        have HI := Lib.hid (fun V (h : Below w2.heap.size w2 V) => (isIt_els (IsIt.mono (S' := (· < V.heap.size)) (fun q hq => Nat.lt_of_lt_of_le hq h.size) i3 (IsIt.keep (fun q hq => h.block q hq) i3 HAI.out))))
        have HNM := Lib.hid (fun V (h : Below w2.heap.size w2 V) => numbers_any (knd i3) (num i3) (tx i3) (els i3) A3 c3 V (HI.out V h).1 (HI.out V h).2)
        have E0 : Hid (Below w2.heap.size w2 w2.drew) := Lib.hid (Below.refl _ w2).drew
        obtain ⟨bx3, x0a, x0b, x0c, x0d, x1a, x1b, x1c, x1d, x2a, x2b, x2c, x2d, x3a, x3b, x3c, x3d, x4a, x4b, x4c, x4d⟩ := HF.out _ E0.out
        rename_i K hK
        have HK : ∀ (V : World) (P : Nat) (z1 z3 z4 z5 z7 z8 z9 z10 z11 z12 z13 z14 z15 z16 z17 z18 z19 z20 z21 z22 z23 z24 z25 z26 z27 z28 z29 z30 z31 z32 z33 z34 z35 z36 z37 z38 z39 z40 z41 z42 z43 z44 z45 z46 z47 z48 z49 z50 z51 z52 z53 z54 z55 z56 z57 z58 z59 z60 z61 z62 z63 z64 z65 z66 z67 z68 z69 z70 z71 z72 z73 z74 z75 z76 z77 z78 z79 : Value), Below w2.heap.size w2 V → w2.heap.size ≤ P → V.heap[P]? = some (.cells #[.int .i64 (num i0), .string (tx i1), .string (tx i2), .int .i64 (nmAt (els i3) 0), .int .i64 (nmAt (els i3) 1), .int .i64 (nmAt (els i3) 2), .int .i64 (num i4)] 32 (0, 0)) → K { tmps := #[.string (Nm.str l), z1, .pointer (some ⟨w.heap.size, 0, none⟩), z3, z4, z5, .pointer (some ⟨P, 0, none⟩), z7, z8, z9, z10, z11, z12, z13, z14, z15, z16, z17, z18, z19, z20, z21, z22, z23, z24, z25, z26, z27, z28, z29, z30, z31, z32, z33, z34, z35, z36, z37, z38, z39, z40, z41, z42, z43, z44, z45, z46, z47, z48, z49, z50, z51, z52, z53, z54, z55, z56, z57, z58, z59, z60, z61, z62, z63, z64, z65, z66, z67, z68, z69, z70, z71, z72, z73, z74, z75, z76, z77, z78, z79], defers := [] } V := by
          intro V P z1 z3 z4 z5 z7 z8 z9 z10 z11 z12 z13 z14 z15 z16 z17 z18 z19 z20 z21 z22 z23 z24 z25 z26 z27 z28 z29 z30 z31 z32 z33 z34 z35 z36 z37 z38 z39 z40 z41 z42 z43 z44 z45 z46 z47 z48 z49 z50 z51 z52 z53 z54 z55 z56 z57 z58 z59 z60 z61 z62 z63 z64 z65 z66 z67 z68 z69 z70 z71 z72 z73 z74 z75 z76 z77 z78 z79 hbV hP hrow
          apply hK
          have HV := Lib.hid hbV
          have HRo := Lib.hid hrow
          have HPl := Lib.hid (Array.getElem?_eq_some_iff.1 hrow).1
          obtain ⟨y0, y1, y2, y3, y4, y5, y6⟩ := row7 hrow
          clear hbV hrow hP bx3 x0a x0b x0c x0d x1a x1b x1c x1d x2a x2b x2c x2d x3a x3b x3c x3d x4a x4b x4c x4d
          have fin : ∀ w3, Below V.heap.size V w3 → w3.heap[w.heap.size]? = some (.cells #[.int .i64 0, .string ⟨#[]⟩, .string ⟨#[]⟩, .int .i64 0, .int .i64 0, .int .i64 0, .int .i64 0] 32 (0, 0)) ∧ w3.heap[P]? = some (.cells #[.int .i64 (num i0), .string (tx i1), .string (tx i2), .int .i64 (nmAt (els i3) 0), .int .i64 (nmAt (els i3) 1), .int .i64 (nmAt (els i3) 2), .int .i64 (num i4)] 32 (0, 0)) ∧ Below w.heap.size w w3 := fun w3 h3 =>
            ⟨(h3.block _ (Nat.lt_of_lt_of_le HWZ.out HV.out.size)).trans ((HV.out.block _ HWZ.out).trans R1.out), (h3.block _ HPl.out).trans HRo.out, BW.out.trans ((HV.out.trans (h3.mono HV.out.size)).mono BW.out.size)⟩
          have HFIN := Lib.hid fin
          clear fin
          cases hm : mayC (num i0) (tx i1) (tx i2) (nmAt (els i3) 0) (nmAt (els i3) 1) (nmAt (els i3) 2) (num i4)
          · have hres : (resC l).map vC7 = none := by
              cases hr : resC l with
              | none => rfl
              | some x => have := ((backC hd hr).2 _ _ _ _ _ rfl).1; rw [hm] at this; cases this
            have HRES := Lib.hid hres
            have HX := Lib.hid (encC_no (o := num i0) (s := tx i1) (t := tx i2) (a := nmAt (els i3) 0) (b := nmAt (els i3) 1) (c := nmAt (els i3) 2) (n := num i4) hm).1
            have HY := Lib.hid (encC_no (o := num i0) (s := tx i1) (t := tx i2) (a := nmAt (els i3) 0) (b := nmAt (els i3) 1) (c := nmAt (els i3) 2) (n := num i4) hm).2
            clear hres hm
            go_wp2_with (go_at_call 39; (with_reducible refine (HE.out _).mono ?_); rintro e w3 ⟨rfl, h3⟩; rw [HX.out, HY.out]; obtain ⟨r3, p3, b3⟩ := HFIN.out w3 h3; have R3 := Lib.hid r3; have B3 := Lib.hid b3; clear h3 p3 b3; obtain ⟨e0, e1, e2, e3, e4, e5, e6⟩ := row7 r3; obtain ⟨f0, f1, f2, f3, f4, f5, f6⟩ := row7f r3; clear r3)
            have RW := w7_row (w3) w.heap.size (.int .i64 0) (.string ⟨#[]⟩) (.string ⟨#[]⟩) (.int .i64 0) (.int .i64 0) (.int .i64 0) (.int .i64 0) _ _ _ _ _ _ _ 32 R3.out
            have RB := w7_below (w := w3) B3.out w.heap.size (.int .i64 0) (.string ⟨#[]⟩) (.string ⟨#[]⟩) (.int .i64 0) (.int .i64 0) (.int .i64 0) (.int .i64 0) (Nat.le_refl _)
            change bodyPost Tryz.prog Tryz.f25 _ Exit.ret _ (w7 (w3) w.heap.size (.int .i64 0) (.string ⟨#[]⟩) (.string ⟨#[]⟩) (.int .i64 0) (.int .i64 0) (.int .i64 0) (.int .i64 0))
            generalize (w7 (w3) w.heap.size (.int .i64 0) (.string ⟨#[]⟩) (.string ⟨#[]⟩) (.int .i64 0) (.int .i64 0) (.int .i64 0) (.int .i64 0)) = V' at *
            obtain ⟨m0, m1, m2, m3, m4, m5, m6⟩ := row7 RW
            refine bodyPost_ret (v := .tuple #[.agg #[.int .i64 0, .string ⟨#[]⟩, .string ⟨#[]⟩, .int .i64 0, .int .i64 0, .int .i64 0, .int .i64 0], .int .i64 4]) (by simp [results, Tryz.results25, go_sem, m0, m1, m2, m3, m4, m5, m6]) rfl ⟨by rw [HRES.out]; rfl, RB⟩
          · have HY := Lib.hid (encC_yes (o := num i0) (s := tx i1) (t := tx i2) (a := nmAt (els i3) 0) (b := nmAt (els i3) 1) (c := nmAt (els i3) 2) (n := num i4) hm).2
            have hx0 := (encC_yes (o := num i0) (s := tx i1) (t := tx i2) (a := nmAt (els i3) 0) (b := nmAt (els i3) 1) (c := nmAt (els i3) 2) (n := num i4) hm).1
            by_cases hl : l = (cIt (num i0) (tx i1) (tx i2) (nmAt (els i3) 0) (nmAt (els i3) 1) (nmAt (els i3) 2) (num i4)).enc
            · have hres : (resC l).map vC7 = some (.agg #[.int .i64 (num i0), .string (tx i1), .string (tx i2), .int .i64 (nmAt (els i3) 0), .int .i64 (nmAt (els i3) 1), .int .i64 (nmAt (els i3) 2), .int .i64 (num i4)]) := by rw [HIN.out hm hl]; rfl
              have HRES := Lib.hid hres
              rw [← hl] at hx0
              have HX := Lib.hid hx0
              clear hres hm hl hx0
              go_wp2_with (go_at_call 39; (with_reducible refine (HE.out _).mono ?_); rintro e w3 ⟨rfl, h3⟩; rw [HX.out, HY.out]; obtain ⟨r3, p3, b3⟩ := HFIN.out w3 h3; have R3 := Lib.hid r3; have B3 := Lib.hid b3; obtain ⟨e0, e1, e2, e3, e4, e5, e6⟩ := row7 r3; obtain ⟨f0, f1, f2, f3, f4, f5, f6⟩ := row7f r3; obtain ⟨y0, y1, y2, y3, y4, y5, y6⟩ := row7 p3; clear r3 h3 p3 b3)
              have RW := w7_row w3 w.heap.size (.int .i64 (num i0)) (.string (tx i1)) (.string (tx i2)) (.int .i64 (nmAt (els i3) 0)) (.int .i64 (nmAt (els i3) 1)) (.int .i64 (nmAt (els i3) 2)) (.int .i64 (num i4)) _ _ _ _ _ _ _ 32 R3.out
              have RB := w7_below (w := w3) B3.out w.heap.size (.int .i64 (num i0)) (.string (tx i1)) (.string (tx i2)) (.int .i64 (nmAt (els i3) 0)) (.int .i64 (nmAt (els i3) 1)) (.int .i64 (nmAt (els i3) 2)) (.int .i64 (num i4)) (Nat.le_refl _)
              change bodyPost Tryz.prog Tryz.f25 _ Exit.ret _ (w7 w3 w.heap.size (.int .i64 (num i0)) (.string (tx i1)) (.string (tx i2)) (.int .i64 (nmAt (els i3) 0)) (.int .i64 (nmAt (els i3) 1)) (.int .i64 (nmAt (els i3) 2)) (.int .i64 (num i4)))
              generalize (w7 w3 w.heap.size (.int .i64 (num i0)) (.string (tx i1)) (.string (tx i2)) (.int .i64 (nmAt (els i3) 0)) (.int .i64 (nmAt (els i3) 1)) (.int .i64 (nmAt (els i3) 2)) (.int .i64 (num i4))) = V' at *
              obtain ⟨m0, m1, m2, m3, m4, m5, m6⟩ := row7 RW
              refine bodyPost_ret (v := .tuple #[.agg #[.int .i64 (num i0), .string (tx i1), .string (tx i2), .int .i64 (nmAt (els i3) 0), .int .i64 (nmAt (els i3) 1), .int .i64 (nmAt (els i3) 2), .int .i64 (num i4)], .int .i64 0]) (by simp [results, Tryz.results25, go_sem, m0, m1, m2, m3, m4, m5, m6]) rfl ⟨by rw [HRES.out], RB⟩
            · have hres : (resC l).map vC7 = none := by
                cases hr : resC l with
                | none => rfl
                | some x => exact absurd ((backC hd hr).2 _ _ _ _ _ rfl).2.1 hl
              have HRES := Lib.hid hres
              have hne := str_ne hl
              rw [← hx0] at hne
              obtain ⟨X, hX⟩ : ∃ X, encC (num i0) (tx i1) (tx i2) (nmAt (els i3) 0) (nmAt (els i3) 1) (nmAt (els i3) 2) (num i4) = X := ⟨_, rfl⟩
              rw [hX] at hne
              have HX := Lib.hid hX
              clear hres hm hl hx0 hX
              go_wp2_with (go_at_call 39; (with_reducible refine (HE.out _).mono ?_); rintro e w3 ⟨rfl, h3⟩; rw [HX.out, HY.out]; obtain ⟨r3, p3, b3⟩ := HFIN.out w3 h3; have R3 := Lib.hid r3; have B3 := Lib.hid b3; clear h3 p3 b3; obtain ⟨e0, e1, e2, e3, e4, e5, e6⟩ := row7 r3; obtain ⟨f0, f1, f2, f3, f4, f5, f6⟩ := row7f r3; clear r3)
              have RW := w7_row (w3) w.heap.size (.int .i64 0) (.string ⟨#[]⟩) (.string ⟨#[]⟩) (.int .i64 0) (.int .i64 0) (.int .i64 0) (.int .i64 0) _ _ _ _ _ _ _ 32 R3.out
              have RB := w7_below (w := w3) B3.out w.heap.size (.int .i64 0) (.string ⟨#[]⟩) (.string ⟨#[]⟩) (.int .i64 0) (.int .i64 0) (.int .i64 0) (.int .i64 0) (Nat.le_refl _)
              change bodyPost Tryz.prog Tryz.f25 _ Exit.ret _ (w7 (w3) w.heap.size (.int .i64 0) (.string ⟨#[]⟩) (.string ⟨#[]⟩) (.int .i64 0) (.int .i64 0) (.int .i64 0) (.int .i64 0))
              generalize (w7 (w3) w.heap.size (.int .i64 0) (.string ⟨#[]⟩) (.string ⟨#[]⟩) (.int .i64 0) (.int .i64 0) (.int .i64 0) (.int .i64 0)) = V' at *
              obtain ⟨m0, m1, m2, m3, m4, m5, m6⟩ := row7 RW
              refine bodyPost_ret (v := .tuple #[.agg #[.int .i64 0, .string ⟨#[]⟩, .string ⟨#[]⟩, .int .i64 0, .int .i64 0, .int .i64 0, .int .i64 0], .int .i64 4]) (by simp [results, Tryz.results25, go_sem, m0, m1, m2, m3, m4, m5, m6]) rfl ⟨by rw [HRES.out]; rfl, RB⟩
        have HK := Lib.hid HK
        clear hK
        have BN := E0
        have EA : Hid (Below w2.heap.size w2 (w2.alloc (.cells #[.int .i64 0, .string ⟨#[]⟩, .string ⟨#[]⟩, .int .i64 0, .int .i64 0, .int .i64 0, .int .i64 0] 32)).drew) := Lib.hid ((Below.refl _ w2).alloc (Nat.le_refl _) _).drew
        go_region_held2 (fun V => V.cell? ⟨w1.heap.size, 3, none⟩ = some (.slice (some ⟨b, off, none⟩) 5 cc) ∧ V.cell? ⟨b, off, none⟩ = some (.int .i64 (knd i0)) ∧ V.cell? ⟨b, off + 1, none⟩ = some (.int .i64 (num i0)) ∧ V.cell? ⟨b, off + 2, none⟩ = some (.string (tx i0)) ∧ V.cell? ⟨b, off + 3, none⟩ = some (.slice A0 (els i0).length c0) ∧ V.cell? ⟨b, off + 4, none⟩ = some (.int .i64 (knd i1)) ∧ V.cell? ⟨b, off + 4 + 1, none⟩ = some (.int .i64 (num i1)) ∧ V.cell? ⟨b, off + 4 + 2, none⟩ = some (.string (tx i1)) ∧ V.cell? ⟨b, off + 4 + 3, none⟩ = some (.slice A1 (els i1).length c1) ∧ V.cell? ⟨b, off + 8, none⟩ = some (.int .i64 (knd i2)) ∧ V.cell? ⟨b, off + 8 + 1, none⟩ = some (.int .i64 (num i2)) ∧ V.cell? ⟨b, off + 8 + 2, none⟩ = some (.string (tx i2)) ∧ V.cell? ⟨b, off + 8 + 3, none⟩ = some (.slice A2 (els i2).length c2) ∧ V.cell? ⟨b, off + 12, none⟩ = some (.int .i64 (knd i3)) ∧ V.cell? ⟨b, off + 12 + 1, none⟩ = some (.int .i64 (num i3)) ∧ V.cell? ⟨b, off + 12 + 2, none⟩ = some (.string (tx i3)) ∧ V.cell? ⟨b, off + 12 + 3, none⟩ = some (.slice A3 (els i3).length c3) ∧ V.cell? ⟨b, off + 16, none⟩ = some (.int .i64 (knd i4)) ∧ V.cell? ⟨b, off + 16 + 1, none⟩ = some (.int .i64 (num i4)) ∧ V.cell? ⟨b, off + 16 + 2, none⟩ = some (.string (tx i4)) ∧ V.cell? ⟨b, off + 16 + 3, none⟩ = some (.slice A4 (els i4).length c4))
          (first | with_reducible exact HF.out _ BN.out | with_reducible exact HF.out _ (BN.out.alloc BN.out.size _) | with_reducible exact HF.out _ EA.out | with_reducible exact HF.out _ (nest_below BN.out _ _ _ _ _ _ _ _ PL.out))
          (first
            | (go_at_call 38; (with_reducible refine (HNM.out _ (by first | with_reducible exact BN.out | with_reducible exact BN.out.alloc BN.out.size _ | with_reducible exact EA.out)).mono ?_); rintro e wD ⟨rfl, b2⟩
               have BD : Hid (Below w2.heap.size w2 wD) := Lib.hid (by first | with_reducible exact BN.out.trans (b2.mono BN.out.size) | with_reducible exact (BN.out.alloc BN.out.size _).trans (b2.mono (Nat.le_trans BN.out.size (by simp))) | exact EA.out.trans (b2.mono EA.out.size))
               first
                 | (with_reducible have PM := Lib.hid (alloc_row b2); have PL := Lib.hid BN.out.size)
                 | (with_reducible have PM := Lib.hid (alloc_row_drew b2); have PL := Lib.hid (Nat.le_refl w2.heap.size))
                 | (fail_if_success (have PZ := PM.out); skip)
               clear b2
               have BN := BD
               (try (have PR := PM.out; obtain ⟨e0, e1, e2, e3, e4, e5, e6⟩ := row7 PR; obtain ⟨f0, f1, f2, f3, f4, f5, f6⟩ := row7f PR; clear PR))))
        all_goals
          change K _ _
          first
            | with_reducible exact HK.out _ _ _ _ _ _ _ _ _ _ _ _ _ _ _ _ _ _ _ _ _ _ _ _ _ _ _ _ _ _ _ _ _ _ _ _ _ _ _ _ _ _ _ _ _ _ _ _ _ _ _ _ _ _ _ _ _ _ _ _ _ _ _ _ _ _ _ _ _ _ _ _ _ _ _ _ _ _ _ (BN.out.alloc BN.out.size _) BN.out.size (heap_alloc_new _ _)
            | with_reducible exact HK.out _ _ _ _ _ _ _ _ _ _ _ _ _ _ _ _ _ _ _ _ _ _ _ _ _ _ _ _ _ _ _ _ _ _ _ _ _ _ _ _ _ _ _ _ _ _ _ _ _ _ _ _ _ _ _ _ _ _ _ _ _ _ _ _ _ _ _ _ _ _ _ _ _ _ _ _ _ _ _ (nest_below BN.out _ _ _ _ _ _ _ _ PL.out) PL.out (nest_row _ _ _ _ _ _ _ _ _ _ _ _ _ _ _ _ _ PM.out)
end Go.Proofs.YtebacdegjmcnlaaGreat
