import Derived.Test.YtiedeneglhboiaaUf
import Derived.Test.YtiedeneglhboiaaWg
import Derived.Test.YtiedeneglhboiaaMv
import Derived.Test.YtiedeneglhboiaaMy
import Derived.Deep.RegionHeld2
namespace Go.Proofs.Ytiedeneglhboiaa
open Go.RowKit Pl
set_option linter.unusedVariables false
set_option maxRecDepth 20000

/-- what may be read back is what stands there -/
theorem backR {l : List UInt8} {k m : Int} {z : ByteArray} {q : List It} {x : T6} (hd : dec l = some (.mk k m z q)) (h : resR l = some x) : q.length = 4 ∧ ∀ i0 i1 i2 i3, q = [i0, i1, i2, i3] → mayR (num i0) (tx i1) = true ∧ l = (rIt (num i0) (tx i1) (nmAt (els i2) 0) (nmAt (els i2) 1) (nmAt (els i2) 2) (num i3)).enc ∧ 0 ≤ num i0 ∧ num i0 ≤ 255 := by
  obtain ⟨o, s, a, b, c, n⟩ := x
  obtain ⟨hm, r1, r2, r3, r4, r5, rfl⟩ := (resR_iff l o s a b c n).1 h
  obtain ⟨q0, q1, s1⟩ := mayR_size hm
  rw [rIt_dec o s a b c n r1 r2 r3 r4 r5 (by omega)] at hd
  simp only [rIt, Option.some.injEq, It.mk.injEq] at hd
  obtain ⟨_, _, _, rfl⟩ := hd
  refine ⟨rfl, fun i0 i1 i2 i3 hq => ?_⟩
  simp only [List.cons.injEq, and_true] at hq
  obtain ⟨rfl, rfl, rfl, rfl⟩ := hq
  exact ⟨hm, rfl, by simp only [num, nIt]; omega, by simp only [num, nIt]; omega⟩
set_option maxHeartbeats 8000000 in
theorem refDecR_any (l : List UInt8) (w : World) (hs : l.length ≤ 281474976710656) : Calls Try.prog 20 #[.string (Nm.str l)] w (DecP ((resR l).map vR6) zr w) := by
  have hsz : (Nm.str l).size = l.length := Nm.str_size l
  have hcv : ∀ W : World, (convert 9 43 (.string (Nm.str l))).run Try.prog W = .ok (.slice (some ⟨W.heap.size, 0, none⟩) l.length (grownCap W (Nm.str l).size 0 5)) (W.drew.alloc (.cells (bytesRow (Nm.str l) (grownCap W (Nm.str l).size 0 5)) 5 ((bytesRow (Nm.str l) (grownCap W (Nm.str l).size 0 5)).size, (bytesRow (Nm.str l) (grownCap W (Nm.str l).size 0 5)).size + 1))) := fun W => by
    have := run_bytes_of_string (P := Try.prog) W 9 43 5 (Nm.str l) Try.underlying9 Try.underlying43 Try.underlying5
    rw [hsz] at this
    rw [hsz]
    exact this
  obtain ⟨C, hC⟩ : ∃ C, C = grownCap (w.alloc (.cells #[.int .i64 0, .string ⟨#[]⟩, .int .i64 0, .int .i64 0, .int .i64 0, .int .i64 0] 34)) (Nm.str l).size 0 5 := ⟨_, rfl⟩
  have h7 := hcv (w.alloc (.cells #[.int .i64 0, .string ⟨#[]⟩, .int .i64 0, .int .i64 0, .int .i64 0, .int .i64 0] 34))
  rw [← hC] at h7
  have hg := RowAt.new (w.alloc (.cells #[.int .i64 0, .string ⟨#[]⟩, .int .i64 0, .int .i64 0, .int .i64 0, .int .i64 0] 34)) l C
  have hCge : l.length ≤ C := by rw [hC, ← hsz]; exact grownCap_ge _ _ _ _
  have hCle : C ≤ 9223372036854775807 := by have := grownCap_le_maxLen (w.alloc (.cells #[.int .i64 0, .string ⟨#[]⟩, .int .i64 0, .int .i64 0, .int .i64 0, .int .i64 0] 34)) (Nm.str l).size 0 5 (by rw [hsz]; simp only [maxLen]; omega); rw [hC]; simpa [maxLen] using this
  obtain ⟨W, hW⟩ : ∃ W, W = (w.alloc (.cells #[.int .i64 0, .string ⟨#[]⟩, .int .i64 0, .int .i64 0, .int .i64 0, .int .i64 0] 34)).drew.alloc (.cells (bytesRow (Nm.str l) C) 5 ((bytesRow (Nm.str l) C).size, (bytesRow (Nm.str l) C).size + 1)) := ⟨_, rfl⟩
  rw [← hW] at h7 hg
  have hB0 : Below w.heap.size w (w.alloc (.cells #[.int .i64 0, .string ⟨#[]⟩, .int .i64 0, .int .i64 0, .int .i64 0, .int .i64 0] 34)) := (Below.refl _ _).alloc (Nat.le_refl _) _
  have hB : Below w.heap.size w W := by rw [hW]; exact hB0.drew.alloc (by simp) _
  have hR : W.heap[w.heap.size]? = some (.cells #[.int .i64 0, .string ⟨#[]⟩, .int .i64 0, .int .i64 0, .int .i64 0, .int .i64 0] 34 (0, 0)) := by rw [hW]; exact (Below.heap_alloc _ _ _ (by simp)).trans (heap_alloc_new w _)
  have hsW : W.heap.size = w.heap.size + 2 := by rw [hW]; simp
  have h0s : (w.alloc (.cells #[.int .i64 0, .string ⟨#[]⟩, .int .i64 0, .int .i64 0, .int .i64 0, .int .i64 0] 34)).heap.size = w.heap.size + 1 := by simp
  rw [h0s] at h7 hg
  have HG := Lib.hid hg
  have HB := Lib.hid hB
  have HR := Lib.hid hR
  have HS := Lib.hid hsW
  have HL := Lib.hid hCge
  have HM := Lib.hid hCle
  have hq0 : ∀ V : World, (Instr.build 34 #[]).run Try.prog V = .ok (.agg #[.int .i64 0, .string ⟨#[]⟩, .int .i64 0, .int .i64 0, .int .i64 0, .int .i64 0]) V := fun V => run_build V 34 _ _ (by kernel_rfl)
  clear hcv hC hg hCge hCle hW hB0 hB hR hsW h0s
  generalize hn : l.length = n at *
  have HN := Lib.hid hn
  clear hn hsz
  cases hd : dec l with
  | none =>
    have hres : (resR l).map vR6 = none := by rw [resR, hd]; rfl
    have HRES := Lib.hid hres
    clear hres
    go_enter Try.func20, Try.ntmps20
    go_wp2_with (go_at_call 35; (with_reducible refine (rdecode_any l _ n C W (HG.out.bytes (by have := HS.out; omega)) HN.out HL.out HM.out).mono ?_); rintro e w1 ⟨hb1, _, hno⟩; obtain rfl := hno hd; have B1 := Lib.hid hb1; have R1 := Lib.hid ((Below.heap_alloc w1 (.cells #[.int .i64 0, .int .i64 0, .string ⟨#[]⟩, .slice none 0 0] 48) w.heap.size (Nat.lt_of_lt_of_le (by have := HS.out; omega) hb1.size)).trans ((hb1.block w.heap.size (by have := HS.out; omega)).trans HR.out)); clear hb1 hno; obtain ⟨e0, e1, e2, e3, e4, e5⟩ := row6 R1.out; obtain ⟨f0, f1, f2, f3, f4, f5⟩ := row6f R1.out; unfold zeroItem)
    have hs2 := HS.out
    have hs1 := B1.out.size
    have RW := w6_row (w1.alloc (.cells #[.int .i64 0, .int .i64 0, .string ⟨#[]⟩, .slice none 0 0] 48)) w.heap.size (.int .i64 0) (.string ⟨#[]⟩) (.int .i64 0) (.int .i64 0) (.int .i64 0) (.int .i64 0) _ _ _ _ _ _ 34 R1.out
    have RB := w6_below (w := w1.alloc (.cells #[.int .i64 0, .int .i64 0, .string ⟨#[]⟩, .slice none 0 0] 48)) (HB.out.trans ((B1.out.alloc hs1 _).mono (by omega))) w.heap.size (.int .i64 0) (.string ⟨#[]⟩) (.int .i64 0) (.int .i64 0) (.int .i64 0) (.int .i64 0) (Nat.le_refl _)
    change bodyPost Try.prog Try.f20 _ Exit.ret _ (w6 (w1.alloc (.cells #[.int .i64 0, .int .i64 0, .string ⟨#[]⟩, .slice none 0 0] 48)) w.heap.size (.int .i64 0) (.string ⟨#[]⟩) (.int .i64 0) (.int .i64 0) (.int .i64 0) (.int .i64 0))
    generalize (w6 (w1.alloc (.cells #[.int .i64 0, .int .i64 0, .string ⟨#[]⟩, .slice none 0 0] 48)) w.heap.size (.int .i64 0) (.string ⟨#[]⟩) (.int .i64 0) (.int .i64 0) (.int .i64 0) (.int .i64 0)) = V' at *
    obtain ⟨m0, m1, m2, m3, m4, m5⟩ := row6 RW
    refine bodyPost_ret (v := .tuple #[.agg #[.int .i64 0, .string ⟨#[]⟩, .int .i64 0, .int .i64 0, .int .i64 0, .int .i64 0], .int .i64 4]) (by simp [results, Try.results20, go_sem, m0, m1, m2, m3, m4, m5]) rfl ⟨by rw [HRES.out]; rfl, RB⟩
  | some t =>
    obtain ⟨k, m, z, q⟩ := t
    have hok := ((dec_iff l _).1 hd).1
    by_cases hq : q.length = 4
    case neg =>
      have hres : (resR l).map vR6 = none := by
        cases hr : resR l with
        | none => rfl
        | some x => exact absurd (backR hd hr).1 hq
      have HRES := Lib.hid hres
      have hq2 : ((q.length : Int) == 4) = false := by simp; omega
      have hq4 : ¬ ((q.length : Int) = 4) := by omega
      clear hres hok
      go_enter Try.func20, Try.ntmps20
      go_wp2_with (go_at_call 35; (with_reducible refine (rdecode_any l _ n C W (HG.out.bytes (by have := HS.out; omega)) HN.out HL.out HM.out).mono ?_); rintro e w1 ⟨hb1, hyes, hnn⟩; clear hnn; obtain ⟨v, rfl, hv⟩ := hyes _ hd; rw [IsIt] at hv; obtain ⟨A, cc, rfl, hv1, hv2, hv3, hv4, hal⟩ := hv; rw [maxLen] at hv4; clear hv1 hv2 hv3; have B1 := Lib.hid hb1; have HAL := Lib.hid hal; have R1 := Lib.hid ((Below.heap_alloc w1 (.cells #[.int .i64 k, .int .i64 m, .string z, .slice A q.length cc] 48) w.heap.size (Nat.lt_of_lt_of_le (by have := HS.out; omega) hb1.size)).trans ((hb1.block w.heap.size (by have := HS.out; omega)).trans HR.out)); clear hb1 hyes hal; obtain ⟨e0, e1, e2, e3, e4, e5⟩ := row6 R1.out; obtain ⟨f0, f1, f2, f3, f4, f5⟩ := row6f R1.out)
      have hs2 := HS.out
      have hs1 := B1.out.size
      have RW := w6_row (w1.alloc (.cells #[.int .i64 k, .int .i64 m, .string z, .slice A q.length cc] 48)) w.heap.size (.int .i64 0) (.string ⟨#[]⟩) (.int .i64 0) (.int .i64 0) (.int .i64 0) (.int .i64 0) _ _ _ _ _ _ 34 R1.out
      have RB := w6_below (w := w1.alloc (.cells #[.int .i64 k, .int .i64 m, .string z, .slice A q.length cc] 48)) (HB.out.trans ((B1.out.alloc hs1 _).mono (by omega))) w.heap.size (.int .i64 0) (.string ⟨#[]⟩) (.int .i64 0) (.int .i64 0) (.int .i64 0) (.int .i64 0) (Nat.le_refl _)
      change bodyPost Try.prog Try.f20 _ Exit.ret _ (w6 (w1.alloc (.cells #[.int .i64 k, .int .i64 m, .string z, .slice A q.length cc] 48)) w.heap.size (.int .i64 0) (.string ⟨#[]⟩) (.int .i64 0) (.int .i64 0) (.int .i64 0) (.int .i64 0))
      generalize (w6 (w1.alloc (.cells #[.int .i64 k, .int .i64 m, .string z, .slice A q.length cc] 48)) w.heap.size (.int .i64 0) (.string ⟨#[]⟩) (.int .i64 0) (.int .i64 0) (.int .i64 0) (.int .i64 0)) = V' at *
      obtain ⟨m0, m1, m2, m3, m4, m5⟩ := row6 RW
      refine bodyPost_ret (v := .tuple #[.agg #[.int .i64 0, .string ⟨#[]⟩, .int .i64 0, .int .i64 0, .int .i64 0, .int .i64 0], .int .i64 4]) (by simp [results, Try.results20, go_sem, m0, m1, m2, m3, m4, m5]) rfl ⟨by rw [HRES.out]; rfl, RB⟩
    case pos =>
      match q, hq with
      | [i0, i1, i2, i3], _ =>
        simp only [It.ok, Bool.and_eq_true, oks] at hok
        have HOK := Lib.hid hok.2
        clear hok
        by_cases hlo : num i0 < 0
        · have hres : (resR l).map vR6 = none := by
            cases hr : resR l with
            | none => rfl
            | some x => have := (backR hd hr).2 _ _ _ _ rfl; omega
          have HRES := Lib.hid hres
          clear hres
          go_enter Try.func20, Try.ntmps20
          go_wp2_with (go_at_call 35; (with_reducible refine (rdecode_any l _ n C W (HG.out.bytes (by have := HS.out; omega)) HN.out HL.out HM.out).mono ?_); rintro e w1 ⟨hb1, hyes, hnn⟩; clear hnn; obtain ⟨v, rfl, hv⟩ := hyes _ hd; rw [IsIt] at hv; obtain ⟨A, cc, rfl, hv1, hv2, hv3, hv4, hal⟩ := hv; clear hv1 hv2 hv3; have B1 := Lib.hid hb1; obtain ⟨b, off, A0, A1, A2, A3, c0, c1, c2, c3, rfl, hbb, F, I3⟩ := four hal; have F2 := four_keep F (Below.heap_alloc w1 (.cells #[.int .i64 k, .int .i64 m, .string z, .slice (some ⟨b, off, none⟩) 4 cc] 48) b hbb.2); have R1 := Lib.hid ((Below.heap_alloc w1 (.cells #[.int .i64 k, .int .i64 m, .string z, .slice (some ⟨b, off, none⟩) 4 cc] 48) w.heap.size (Nat.lt_of_lt_of_le (by have := HS.out; omega) hb1.size)).trans ((hb1.block w.heap.size (by have := HS.out; omega)).trans HR.out)); clear hb1 hyes hal F I3; obtain ⟨e0, e1, e2, e3, e4, e5⟩ := row6 R1.out; obtain ⟨f0, f1, f2, f3, f4, f5⟩ := row6f R1.out; obtain ⟨x0a, x0b, x0c, x0d, x1a, x1b, x1c, x1d, x2a, x2b, x2c, x2d, x3a, x3b, x3c, x3d⟩ := F2)
          have hs2 := HS.out
          have hs1 := B1.out.size
          have RW := w6_row (w1.alloc (.cells #[.int .i64 k, .int .i64 m, .string z, .slice (some ⟨b, off, none⟩) 4 cc] 48)) w.heap.size (.int .i64 0) (.string ⟨#[]⟩) (.int .i64 0) (.int .i64 0) (.int .i64 0) (.int .i64 0) _ _ _ _ _ _ 34 R1.out
          have RB := w6_below (w := w1.alloc (.cells #[.int .i64 k, .int .i64 m, .string z, .slice (some ⟨b, off, none⟩) 4 cc] 48)) (HB.out.trans ((B1.out.alloc hs1 _).mono (by omega))) w.heap.size (.int .i64 0) (.string ⟨#[]⟩) (.int .i64 0) (.int .i64 0) (.int .i64 0) (.int .i64 0) (Nat.le_refl _)
          change bodyPost Try.prog Try.f20 _ Exit.ret _ (w6 (w1.alloc (.cells #[.int .i64 k, .int .i64 m, .string z, .slice (some ⟨b, off, none⟩) 4 cc] 48)) w.heap.size (.int .i64 0) (.string ⟨#[]⟩) (.int .i64 0) (.int .i64 0) (.int .i64 0) (.int .i64 0))
          generalize (w6 (w1.alloc (.cells #[.int .i64 k, .int .i64 m, .string z, .slice (some ⟨b, off, none⟩) 4 cc] 48)) w.heap.size (.int .i64 0) (.string ⟨#[]⟩) (.int .i64 0) (.int .i64 0) (.int .i64 0) (.int .i64 0)) = V' at *
          obtain ⟨m0, m1, m2, m3, m4, m5⟩ := row6 RW
          refine bodyPost_ret (v := .tuple #[.agg #[.int .i64 0, .string ⟨#[]⟩, .int .i64 0, .int .i64 0, .int .i64 0, .int .i64 0], .int .i64 4]) (by simp [results, Try.results20, go_sem, m0, m1, m2, m3, m4, m5]) rfl ⟨by rw [HRES.out]; rfl, RB⟩
        by_cases hhi : 255 < num i0
        · have hres : (resR l).map vR6 = none := by
            cases hr : resR l with
            | none => rfl
            | some x => have := (backR hd hr).2 _ _ _ _ rfl; omega
          have HRES := Lib.hid hres
          have hlo' : 0 ≤ num i0 := by omega
          clear hres
          go_enter Try.func20, Try.ntmps20
          go_wp2_with (go_at_call 35; (with_reducible refine (rdecode_any l _ n C W (HG.out.bytes (by have := HS.out; omega)) HN.out HL.out HM.out).mono ?_); rintro e w1 ⟨hb1, hyes, hnn⟩; clear hnn; obtain ⟨v, rfl, hv⟩ := hyes _ hd; rw [IsIt] at hv; obtain ⟨A, cc, rfl, hv1, hv2, hv3, hv4, hal⟩ := hv; clear hv1 hv2 hv3; have B1 := Lib.hid hb1; obtain ⟨b, off, A0, A1, A2, A3, c0, c1, c2, c3, rfl, hbb, F, I3⟩ := four hal; have F2 := four_keep F (Below.heap_alloc w1 (.cells #[.int .i64 k, .int .i64 m, .string z, .slice (some ⟨b, off, none⟩) 4 cc] 48) b hbb.2); have R1 := Lib.hid ((Below.heap_alloc w1 (.cells #[.int .i64 k, .int .i64 m, .string z, .slice (some ⟨b, off, none⟩) 4 cc] 48) w.heap.size (Nat.lt_of_lt_of_le (by have := HS.out; omega) hb1.size)).trans ((hb1.block w.heap.size (by have := HS.out; omega)).trans HR.out)); clear hb1 hyes hal F I3; obtain ⟨e0, e1, e2, e3, e4, e5⟩ := row6 R1.out; obtain ⟨f0, f1, f2, f3, f4, f5⟩ := row6f R1.out; obtain ⟨x0a, x0b, x0c, x0d, x1a, x1b, x1c, x1d, x2a, x2b, x2c, x2d, x3a, x3b, x3c, x3d⟩ := F2)
          have hs2 := HS.out
          have hs1 := B1.out.size
          have RW := w6_row (w1.alloc (.cells #[.int .i64 k, .int .i64 m, .string z, .slice (some ⟨b, off, none⟩) 4 cc] 48)) w.heap.size (.int .i64 0) (.string ⟨#[]⟩) (.int .i64 0) (.int .i64 0) (.int .i64 0) (.int .i64 0) _ _ _ _ _ _ 34 R1.out
          have RB := w6_below (w := w1.alloc (.cells #[.int .i64 k, .int .i64 m, .string z, .slice (some ⟨b, off, none⟩) 4 cc] 48)) (HB.out.trans ((B1.out.alloc hs1 _).mono (by omega))) w.heap.size (.int .i64 0) (.string ⟨#[]⟩) (.int .i64 0) (.int .i64 0) (.int .i64 0) (.int .i64 0) (Nat.le_refl _)
          change bodyPost Try.prog Try.f20 _ Exit.ret _ (w6 (w1.alloc (.cells #[.int .i64 k, .int .i64 m, .string z, .slice (some ⟨b, off, none⟩) 4 cc] 48)) w.heap.size (.int .i64 0) (.string ⟨#[]⟩) (.int .i64 0) (.int .i64 0) (.int .i64 0) (.int .i64 0))
          generalize (w6 (w1.alloc (.cells #[.int .i64 k, .int .i64 m, .string z, .slice (some ⟨b, off, none⟩) 4 cc] 48)) w.heap.size (.int .i64 0) (.string ⟨#[]⟩) (.int .i64 0) (.int .i64 0) (.int .i64 0) (.int .i64 0)) = V' at *
          obtain ⟨m0, m1, m2, m3, m4, m5⟩ := row6 RW
          refine bodyPost_ret (v := .tuple #[.agg #[.int .i64 0, .string ⟨#[]⟩, .int .i64 0, .int .i64 0, .int .i64 0, .int .i64 0], .int .i64 4]) (by simp [results, Try.results20, go_sem, m0, m1, m2, m3, m4, m5]) rfl ⟨by rw [HRES.out]; rfl, RB⟩
        have hlo' : 0 ≤ num i0 := by omega
        have HIN := Lib.hid (show ∀ (h1 : mayR (num i0) (tx i1) = true) (h2 : l = (rIt (num i0) (tx i1) (nmAt (els i2) 0) (nmAt (els i2) 1) (nmAt (els i2) 2) (num i3)).enc), resR l = some ((num i0), (tx i1), (nmAt (els i2) 0), (nmAt (els i2) 1), (nmAt (els i2) 2), (num i3)) from fun hm hl => by
          obtain ⟨n0, n1, n2, n3, _⟩ := HOK.out
          exact (resR_iff l (num i0) (tx i1) (nmAt (els i2) 0) (nmAt (els i2) 1) (nmAt (els i2) 2) (num i3)).2 ⟨hm, ok_numR n0, nm_R (ok_els n2) 0, nm_R (ok_els n2) 1, nm_R (ok_els n2) 2, ok_numR n3, hl⟩)
        obtain ⟨n0, n1, n2, n3, _⟩ := HOK.out
        have HE := Lib.hid (fun V => refPack_any (num i0) (tx i1) (nmAt (els i2) 0) (nmAt (els i2) 1) (nmAt (els i2) 2) (num i3) V (ok_size n1) (ok_numR n0) (nm_R (ok_els n2) 0) (nm_R (ok_els n2) 1) (nm_R (ok_els n2) 2) (ok_numR n3))
        clear n0 n1 n2 n3
        go_enter Try.func20, Try.ntmps20
        go_wp2_with (go_at_call 35; (with_reducible refine (rdecode_any l _ n C W (HG.out.bytes (by have := HS.out; omega)) HN.out HL.out HM.out).mono ?_); rintro e w1 ⟨hb1, hyes, hnn⟩; clear hnn; obtain ⟨v, rfl, hv⟩ := hyes _ hd; rw [IsIt] at hv; obtain ⟨A, cc, rfl, hv1, hv2, hv3, hv4, hal⟩ := hv; clear hv1 hv2 hv3; have B1 := Lib.hid hb1; obtain ⟨b, off, A0, A1, A2, A3, c0, c1, c2, c3, rfl, hbb, F, I3⟩ := four hal; have F2 := four_keep F (Below.heap_alloc w1 (.cells #[.int .i64 k, .int .i64 m, .string z, .slice (some ⟨b, off, none⟩) 4 cc] 48) b hbb.2); have R1 := Lib.hid ((Below.heap_alloc w1 (.cells #[.int .i64 k, .int .i64 m, .string z, .slice (some ⟨b, off, none⟩) 4 cc] 48) w.heap.size (Nat.lt_of_lt_of_le (by have := HS.out; omega) hb1.size)).trans ((hb1.block w.heap.size (by have := HS.out; omega)).trans HR.out)); clear hb1 hyes hal F; obtain ⟨e0, e1, e2, e3, e4, e5⟩ := row6 R1.out; obtain ⟨f0, f1, f2, f3, f4, f5⟩ := row6f R1.out; have HAI := Lib.hid (IsIt.mono (S' := (· < (w1.alloc (.cells #[.int .i64 k, .int .i64 m, .string z, .slice (some ⟨b, off, none⟩) 4 cc] 48)).heap.size)) (fun q (hq : NewB W w1 q) => Nat.lt_of_lt_of_le hq.2 (by simp)) _ (IsIt.keep (fun q (hq : NewB W w1 q) => Below.heap_alloc w1 (.cells #[.int .i64 k, .int .i64 m, .string z, .slice (some ⟨b, off, none⟩) 4 cc] 48) q hq.2) _ I3)); have HBX := Lib.hid (heap_alloc_new w1 (.cells #[.int .i64 k, .int .i64 m, .string z, .slice (some ⟨b, off, none⟩) 4 cc] 48)); have HF2 := Lib.hid F2; have HBB := Lib.hid (Nat.lt_of_lt_of_le hbb.2 (show w1.heap.size ≤ (w1.alloc (.cells #[.int .i64 k, .int .i64 m, .string z, .slice (some ⟨b, off, none⟩) 4 cc] 48)).heap.size by simp)); clear I3; obtain ⟨x0a, x0b, x0c, x0d, x1a, x1b, x1c, x1d, x2a, x2b, x2c, x2d, x3a, x3b, x3c, x3d⟩ := F2)
        have hs2 := HS.out
        have hs1 := B1.out.size
        have BW : Hid (Below w.heap.size w (w1.alloc (.cells #[.int .i64 k, .int .i64 m, .string z, .slice (some ⟨b, off, none⟩) 4 cc] 48))) := Lib.hid (HB.out.trans ((B1.out.alloc hs1 _).mono (by omega)))
        have hwl : w1.heap.size < (w1.alloc (.cells #[.int .i64 k, .int .i64 m, .string z, .slice (some ⟨b, off, none⟩) 4 cc] 48)).heap.size := by simp
        have hwz : w.heap.size < (w1.alloc (.cells #[.int .i64 k, .int .i64 m, .string z, .slice (some ⟨b, off, none⟩) 4 cc] 48)).heap.size := by simp; omega
        clear x0a x0b x0c x0d x1a x1b x1c x1d x2a x2b x2c x2d x3a x3b x3c x3d e0 e1 e2 e3 e4 e5 f0 f1 f2 f3 f4 f5
        generalize w1.alloc (.cells #[.int .i64 k, .int .i64 m, .string z, .slice (some ⟨b, off, none⟩) 4 cc] 48) = w2 at *
        have HWL := Lib.hid hwl
        have HWZ := Lib.hid hwz
        clear hs1 hs2 hwl hwz
        have HF := Lib.hid (fun V (h : Below w2.heap.size w2 V) => (⟨cell_of_row V _ 3 _ _ _ ((h.block _ HWL.out).trans HBX.out), four_keep HF2.out (h.block b HBB.out)⟩ : V.cell? ⟨w1.heap.size, 3, none⟩ = some (.slice (some ⟨b, off, none⟩) 4 cc) ∧ V.cell? ⟨b, off, none⟩ = some (.int .i64 (knd i0)) ∧ V.cell? ⟨b, off + 1, none⟩ = some (.int .i64 (num i0)) ∧ V.cell? ⟨b, off + 2, none⟩ = some (.string (tx i0)) ∧ V.cell? ⟨b, off + 3, none⟩ = some (.slice A0 (els i0).length c0) ∧ V.cell? ⟨b, off + 4, none⟩ = some (.int .i64 (knd i1)) ∧ V.cell? ⟨b, off + 4 + 1, none⟩ = some (.int .i64 (num i1)) ∧ V.cell? ⟨b, off + 4 + 2, none⟩ = some (.string (tx i1)) ∧ V.cell? ⟨b, off + 4 + 3, none⟩ = some (.slice A1 (els i1).length c1) ∧ V.cell? ⟨b, off + 8, none⟩ = some (.int .i64 (knd i2)) ∧ V.cell? ⟨b, off + 8 + 1, none⟩ = some (.int .i64 (num i2)) ∧ V.cell? ⟨b, off + 8 + 2, none⟩ = some (.string (tx i2)) ∧ V.cell? ⟨b, off + 8 + 3, none⟩ = some (.slice A2 (els i2).length c2) ∧ V.cell? ⟨b, off + 12, none⟩ = some (.int .i64 (knd i3)) ∧ V.cell? ⟨b, off + 12 + 1, none⟩ = some (.int .i64 (num i3)) ∧ V.cell? ⟨b, off + 12 + 2, none⟩ = some (.string (tx i3)) ∧ V.cell? ⟨b, off + 12 + 3, none⟩ = some (.slice A3 (els i3).length c3)))
        have HI := Lib.hid (fun V (h : Below w2.heap.size w2 V) => (isIt_els (IsIt.mono (S' := (· < V.heap.size)) (fun q hq => Nat.lt_of_lt_of_le hq h.size) i2 (IsIt.keep (fun q hq => h.block q hq) i2 HAI.out))))
        have HNM := Lib.hid (fun V (h : Below w2.heap.size w2 V) => numbers_any (knd i2) (num i2) (tx i2) (els i2) A2 c2 V (HI.out V h).1 (HI.out V h).2)
        have E0 : Hid (Below w2.heap.size w2 w2.drew) := Lib.hid (Below.refl _ w2).drew
        obtain ⟨bx3, x0a, x0b, x0c, x0d, x1a, x1b, x1c, x1d, x2a, x2b, x2c, x2d, x3a, x3b, x3c, x3d⟩ := HF.out _ E0.out
        rename_i K hK
        have HK : ∀ (V : World) (P : Nat) (z1 z3 z4 z5 z7 z8 z9 z10 z11 z12 z13 z14 z15 z16 z17 z18 z19 z20 z21 z22 z23 z24 z25 z26 z27 z28 z29 z30 z31 z32 z33 z34 z35 z36 z37 z38 z39 z40 z41 z42 z43 z44 z45 z46 z47 z48 z49 z50 z51 z52 z53 z54 z55 z56 z57 z58 z59 z60 z61 z62 z63 z64 z65 z66 z67 z68 z69 z70 z71 z72 z73 z74 : Value), Below w2.heap.size w2 V → w2.heap.size ≤ P → V.heap[P]? = some (.cells #[.int .i64 (num i0), .string (tx i1), .int .i64 (nmAt (els i2) 0), .int .i64 (nmAt (els i2) 1), .int .i64 (nmAt (els i2) 2), .int .i64 (num i3)] 34 (0, 0)) → K { tmps := #[.string (Nm.str l), z1, .pointer (some ⟨w.heap.size, 0, none⟩), z3, z4, z5, .pointer (some ⟨P, 0, none⟩), z7, z8, z9, z10, z11, z12, z13, z14, z15, z16, z17, z18, z19, z20, z21, z22, z23, z24, z25, z26, z27, z28, z29, z30, z31, z32, z33, z34, z35, z36, z37, z38, z39, z40, z41, z42, z43, z44, z45, z46, z47, z48, z49, z50, z51, z52, z53, z54, z55, z56, z57, z58, z59, z60, z61, z62, z63, z64, z65, z66, z67, z68, z69, z70, z71, z72, z73, z74], defers := [] } V := by
          intro V P z1 z3 z4 z5 z7 z8 z9 z10 z11 z12 z13 z14 z15 z16 z17 z18 z19 z20 z21 z22 z23 z24 z25 z26 z27 z28 z29 z30 z31 z32 z33 z34 z35 z36 z37 z38 z39 z40 z41 z42 z43 z44 z45 z46 z47 z48 z49 z50 z51 z52 z53 z54 z55 z56 z57 z58 z59 z60 z61 z62 z63 z64 z65 z66 z67 z68 z69 z70 z71 z72 z73 z74 hbV hP hrow
          apply hK
          have HV := Lib.hid hbV
          have HRo := Lib.hid hrow
          have HPl := Lib.hid (Array.getElem?_eq_some_iff.1 hrow).1
          obtain ⟨y0, y1, y2, y3, y4, y5⟩ := row6 hrow
          clear hbV hrow hP bx3 x0a x0b x0c x0d x1a x1b x1c x1d x2a x2b x2c x2d x3a x3b x3c x3d
          have fin : ∀ w3, Below V.heap.size V w3 → w3.heap[w.heap.size]? = some (.cells #[.int .i64 0, .string ⟨#[]⟩, .int .i64 0, .int .i64 0, .int .i64 0, .int .i64 0] 34 (0, 0)) ∧ w3.heap[P]? = some (.cells #[.int .i64 (num i0), .string (tx i1), .int .i64 (nmAt (els i2) 0), .int .i64 (nmAt (els i2) 1), .int .i64 (nmAt (els i2) 2), .int .i64 (num i3)] 34 (0, 0)) ∧ Below w.heap.size w w3 := fun w3 h3 =>
            ⟨(h3.block _ (Nat.lt_of_lt_of_le HWZ.out HV.out.size)).trans ((HV.out.block _ HWZ.out).trans R1.out), (h3.block _ HPl.out).trans HRo.out, BW.out.trans ((HV.out.trans (h3.mono HV.out.size)).mono BW.out.size)⟩
          have HFIN := Lib.hid fin
          clear fin
          cases hm : mayR (num i0) (tx i1)
          · have hres : (resR l).map vR6 = none := by
              cases hr : resR l with
              | none => rfl
              | some x => have := ((backR hd hr).2 _ _ _ _ rfl).1; rw [hm] at this; cases this
            have HRES := Lib.hid hres
            have HX := Lib.hid (packR_no (o := num i0) (s := tx i1) (a := nmAt (els i2) 0) (b := nmAt (els i2) 1) (c := nmAt (els i2) 2) (n := num i3) hm).1
            have HY := Lib.hid (packR_no (o := num i0) (s := tx i1) (a := nmAt (els i2) 0) (b := nmAt (els i2) 1) (c := nmAt (els i2) 2) (n := num i3) hm).2
            clear hres hm
            go_wp2_with (go_at_call 22; (with_reducible refine (HE.out _).mono ?_); rintro e w3 ⟨rfl, h3⟩; rw [HX.out, HY.out]; obtain ⟨r3, p3, b3⟩ := HFIN.out w3 h3; have R3 := Lib.hid r3; have B3 := Lib.hid b3; clear h3 p3 b3; obtain ⟨e0, e1, e2, e3, e4, e5⟩ := row6 r3; obtain ⟨f0, f1, f2, f3, f4, f5⟩ := row6f r3; clear r3)
            have RW := w6_row (w3) w.heap.size (.int .i64 0) (.string ⟨#[]⟩) (.int .i64 0) (.int .i64 0) (.int .i64 0) (.int .i64 0) _ _ _ _ _ _ 34 R3.out
            have RB := w6_below (w := w3) B3.out w.heap.size (.int .i64 0) (.string ⟨#[]⟩) (.int .i64 0) (.int .i64 0) (.int .i64 0) (.int .i64 0) (Nat.le_refl _)
            change bodyPost Try.prog Try.f20 _ Exit.ret _ (w6 (w3) w.heap.size (.int .i64 0) (.string ⟨#[]⟩) (.int .i64 0) (.int .i64 0) (.int .i64 0) (.int .i64 0))
            generalize (w6 (w3) w.heap.size (.int .i64 0) (.string ⟨#[]⟩) (.int .i64 0) (.int .i64 0) (.int .i64 0) (.int .i64 0)) = V' at *
            obtain ⟨m0, m1, m2, m3, m4, m5⟩ := row6 RW
            refine bodyPost_ret (v := .tuple #[.agg #[.int .i64 0, .string ⟨#[]⟩, .int .i64 0, .int .i64 0, .int .i64 0, .int .i64 0], .int .i64 4]) (by simp [results, Try.results20, go_sem, m0, m1, m2, m3, m4, m5]) rfl ⟨by rw [HRES.out]; rfl, RB⟩
          · have HY := Lib.hid (packR_yes (o := num i0) (s := tx i1) (a := nmAt (els i2) 0) (b := nmAt (els i2) 1) (c := nmAt (els i2) 2) (n := num i3) hm).2
            have hx0 := (packR_yes (o := num i0) (s := tx i1) (a := nmAt (els i2) 0) (b := nmAt (els i2) 1) (c := nmAt (els i2) 2) (n := num i3) hm).1
            by_cases hl : l = (rIt (num i0) (tx i1) (nmAt (els i2) 0) (nmAt (els i2) 1) (nmAt (els i2) 2) (num i3)).enc
            · have hres : (resR l).map vR6 = some (.agg #[.int .i64 (num i0), .string (tx i1), .int .i64 (nmAt (els i2) 0), .int .i64 (nmAt (els i2) 1), .int .i64 (nmAt (els i2) 2), .int .i64 (num i3)]) := by rw [HIN.out hm hl]; rfl
              have HRES := Lib.hid hres
              rw [← hl] at hx0
              have HX := Lib.hid hx0
              clear hres hm hl hx0
              go_wp2_with (go_at_call 22; (with_reducible refine (HE.out _).mono ?_); rintro e w3 ⟨rfl, h3⟩; rw [HX.out, HY.out]; obtain ⟨r3, p3, b3⟩ := HFIN.out w3 h3; have R3 := Lib.hid r3; have B3 := Lib.hid b3; obtain ⟨e0, e1, e2, e3, e4, e5⟩ := row6 r3; obtain ⟨f0, f1, f2, f3, f4, f5⟩ := row6f r3; obtain ⟨y0, y1, y2, y3, y4, y5⟩ := row6 p3; clear r3 h3 p3 b3)
              have RW := w6_row w3 w.heap.size (.int .i64 (num i0)) (.string (tx i1)) (.int .i64 (nmAt (els i2) 0)) (.int .i64 (nmAt (els i2) 1)) (.int .i64 (nmAt (els i2) 2)) (.int .i64 (num i3)) _ _ _ _ _ _ 34 R3.out
              have RB := w6_below (w := w3) B3.out w.heap.size (.int .i64 (num i0)) (.string (tx i1)) (.int .i64 (nmAt (els i2) 0)) (.int .i64 (nmAt (els i2) 1)) (.int .i64 (nmAt (els i2) 2)) (.int .i64 (num i3)) (Nat.le_refl _)
              change bodyPost Try.prog Try.f20 _ Exit.ret _ (w6 w3 w.heap.size (.int .i64 (num i0)) (.string (tx i1)) (.int .i64 (nmAt (els i2) 0)) (.int .i64 (nmAt (els i2) 1)) (.int .i64 (nmAt (els i2) 2)) (.int .i64 (num i3)))
              generalize (w6 w3 w.heap.size (.int .i64 (num i0)) (.string (tx i1)) (.int .i64 (nmAt (els i2) 0)) (.int .i64 (nmAt (els i2) 1)) (.int .i64 (nmAt (els i2) 2)) (.int .i64 (num i3))) = V' at *
              obtain ⟨m0, m1, m2, m3, m4, m5⟩ := row6 RW
              refine bodyPost_ret (v := .tuple #[.agg #[.int .i64 (num i0), .string (tx i1), .int .i64 (nmAt (els i2) 0), .int .i64 (nmAt (els i2) 1), .int .i64 (nmAt (els i2) 2), .int .i64 (num i3)], .int .i64 0]) (by simp [results, Try.results20, go_sem, m0, m1, m2, m3, m4, m5]) rfl ⟨by rw [HRES.out], RB⟩
            · have hres : (resR l).map vR6 = none := by
                cases hr : resR l with
                | none => rfl
                | some x => exact absurd ((backR hd hr).2 _ _ _ _ rfl).2.1 hl
              have HRES := Lib.hid hres
              have hne := str_ne hl
              rw [← hx0] at hne
              obtain ⟨X, hX⟩ : ∃ X, packR (num i0) (tx i1) (nmAt (els i2) 0) (nmAt (els i2) 1) (nmAt (els i2) 2) (num i3) = X := ⟨_, rfl⟩
              rw [hX] at hne
              have HX := Lib.hid hX
              clear hres hm hl hx0 hX
              go_wp2_with (go_at_call 22; (with_reducible refine (HE.out _).mono ?_); rintro e w3 ⟨rfl, h3⟩; rw [HX.out, HY.out]; obtain ⟨r3, p3, b3⟩ := HFIN.out w3 h3; have R3 := Lib.hid r3; have B3 := Lib.hid b3; clear h3 p3 b3; obtain ⟨e0, e1, e2, e3, e4, e5⟩ := row6 r3; obtain ⟨f0, f1, f2, f3, f4, f5⟩ := row6f r3; clear r3)
              have RW := w6_row (w3) w.heap.size (.int .i64 0) (.string ⟨#[]⟩) (.int .i64 0) (.int .i64 0) (.int .i64 0) (.int .i64 0) _ _ _ _ _ _ 34 R3.out
              have RB := w6_below (w := w3) B3.out w.heap.size (.int .i64 0) (.string ⟨#[]⟩) (.int .i64 0) (.int .i64 0) (.int .i64 0) (.int .i64 0) (Nat.le_refl _)
              change bodyPost Try.prog Try.f20 _ Exit.ret _ (w6 (w3) w.heap.size (.int .i64 0) (.string ⟨#[]⟩) (.int .i64 0) (.int .i64 0) (.int .i64 0) (.int .i64 0))
              generalize (w6 (w3) w.heap.size (.int .i64 0) (.string ⟨#[]⟩) (.int .i64 0) (.int .i64 0) (.int .i64 0) (.int .i64 0)) = V' at *
              obtain ⟨m0, m1, m2, m3, m4, m5⟩ := row6 RW
              refine bodyPost_ret (v := .tuple #[.agg #[.int .i64 0, .string ⟨#[]⟩, .int .i64 0, .int .i64 0, .int .i64 0, .int .i64 0], .int .i64 4]) (by simp [results, Try.results20, go_sem, m0, m1, m2, m3, m4, m5]) rfl ⟨by rw [HRES.out]; rfl, RB⟩
        have HK := Lib.hid HK
        clear hK
        have BN := E0
        have EA : Hid (Below w2.heap.size w2 (w2.alloc (.cells #[.int .i64 0, .string ⟨#[]⟩, .int .i64 0, .int .i64 0, .int .i64 0, .int .i64 0] 34)).drew) := Lib.hid ((Below.refl _ w2).alloc (Nat.le_refl _) _).drew
        go_region_held2 (fun V => V.cell? ⟨w1.heap.size, 3, none⟩ = some (.slice (some ⟨b, off, none⟩) 4 cc) ∧ V.cell? ⟨b, off, none⟩ = some (.int .i64 (knd i0)) ∧ V.cell? ⟨b, off + 1, none⟩ = some (.int .i64 (num i0)) ∧ V.cell? ⟨b, off + 2, none⟩ = some (.string (tx i0)) ∧ V.cell? ⟨b, off + 3, none⟩ = some (.slice A0 (els i0).length c0) ∧ V.cell? ⟨b, off + 4, none⟩ = some (.int .i64 (knd i1)) ∧ V.cell? ⟨b, off + 4 + 1, none⟩ = some (.int .i64 (num i1)) ∧ V.cell? ⟨b, off + 4 + 2, none⟩ = some (.string (tx i1)) ∧ V.cell? ⟨b, off + 4 + 3, none⟩ = some (.slice A1 (els i1).length c1) ∧ V.cell? ⟨b, off + 8, none⟩ = some (.int .i64 (knd i2)) ∧ V.cell? ⟨b, off + 8 + 1, none⟩ = some (.int .i64 (num i2)) ∧ V.cell? ⟨b, off + 8 + 2, none⟩ = some (.string (tx i2)) ∧ V.cell? ⟨b, off + 8 + 3, none⟩ = some (.slice A2 (els i2).length c2) ∧ V.cell? ⟨b, off + 12, none⟩ = some (.int .i64 (knd i3)) ∧ V.cell? ⟨b, off + 12 + 1, none⟩ = some (.int .i64 (num i3)) ∧ V.cell? ⟨b, off + 12 + 2, none⟩ = some (.string (tx i3)) ∧ V.cell? ⟨b, off + 12 + 3, none⟩ = some (.slice A3 (els i3).length c3))
          (first | with_reducible exact HF.out _ BN.out | with_reducible exact HF.out _ (BN.out.alloc BN.out.size _) | with_reducible exact HF.out _ EA.out | with_reducible exact HF.out _ (nest6_below BN.out _ _ _ _ _ _ _ PL.out))
          (first
            | (go_at_call 36; (with_reducible refine (HNM.out _ (by first | with_reducible exact BN.out | with_reducible exact BN.out.alloc BN.out.size _ | with_reducible exact EA.out)).mono ?_); rintro e wD ⟨rfl, b2⟩
               have BD : Hid (Below w2.heap.size w2 wD) := Lib.hid (by first | with_reducible exact BN.out.trans (b2.mono BN.out.size) | with_reducible exact (BN.out.alloc BN.out.size _).trans (b2.mono (Nat.le_trans BN.out.size (by simp))) | exact EA.out.trans (b2.mono EA.out.size))
               first
                 | (with_reducible have PM := Lib.hid (alloc_row b2); have PL := Lib.hid BN.out.size)
                 | (with_reducible have PM := Lib.hid (alloc_row_drew b2); have PL := Lib.hid (Nat.le_refl w2.heap.size))
                 | (fail_if_success (have PZ := PM.out); skip)
               clear b2
               have BN := BD
               (try (have PR := PM.out; obtain ⟨e0, e1, e2, e3, e4, e5⟩ := row6 PR; obtain ⟨f0, f1, f2, f3, f4, f5⟩ := row6f PR; clear PR))))
        all_goals
          change K _ _
          first
            | with_reducible exact HK.out _ _ _ _ _ _ _ _ _ _ _ _ _ _ _ _ _ _ _ _ _ _ _ _ _ _ _ _ _ _ _ _ _ _ _ _ _ _ _ _ _ _ _ _ _ _ _ _ _ _ _ _ _ _ _ _ _ _ _ _ _ _ _ _ _ _ _ _ _ _ _ _ _ _ (BN.out.alloc BN.out.size _) BN.out.size (heap_alloc_new _ _)
            | with_reducible exact HK.out _ _ _ _ _ _ _ _ _ _ _ _ _ _ _ _ _ _ _ _ _ _ _ _ _ _ _ _ _ _ _ _ _ _ _ _ _ _ _ _ _ _ _ _ _ _ _ _ _ _ _ _ _ _ _ _ _ _ _ _ _ _ _ _ _ _ _ _ _ _ _ _ _ _ (nest6_below BN.out _ _ _ _ _ _ _ PL.out) PL.out (nest6_row _ _ _ _ _ _ _ _ _ _ _ _ _ _ _ PM.out)
end Go.Proofs.Ytiedeneglhboiaa
