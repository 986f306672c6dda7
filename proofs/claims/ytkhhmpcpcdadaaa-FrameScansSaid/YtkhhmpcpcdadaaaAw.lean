import Derived.Test.YtkhhmpcpcdadaaaSc
import Derived.Lib.SlBytesConst
namespace Go.Proofs.Ytkhhmpcpcdadaaa
open Go.RowKit
set_option linter.unusedVariables false

theorem rcd_none : Fr.rcd [] = [33, 68, 223, 28, 0, 0, 0, 0] := by decide +kernel
theorem BytesAt.below {w W : World} {A : Option Addr} {bs : List UInt8} (h : BytesAt w w.heap.size A bs) (hb : Below w.heap.size w W) : BytesAt W W.heap.size A bs := (h.keep hb.block).mono hb.size
def ab : List UInt8 := [97, 98]
def abs : List UInt8 := Fr.rcd [] ++ Fr.rcd ab
theorem abs_flat : abs = Fr.flat [[], ab] := by unfold abs; rw [Fr.flat_cons, Fr.flat_cons, Fr.flat_nil, List.append_nil]
theorem abs_length : abs.length = 18 := by unfold abs; rw [List.length_append, Fr.rcd_length, Fr.rcd_length]; rfl
theorem scan_abs : Fr.scan (abs ++ [7]) = ([[], ab], 18) := by
  rw [abs_flat, Fr.scan_flat _ (by intro p hp; simp [ab] at hp; rcases hp with rfl | rfl <;> simp), Fr.scan_short [7] (by simp), ← abs_flat, abs_length]
  rfl
attribute [irreducible] abs
set_option maxRecDepth 20000 in
theorem awake_any (w : World) : Calls Try.prog 10 #[] w (RetBelow (.bool true) w) := by
  have c1 := put_any [] [] none none 0 0 0 0 w (BytesAt.nil _ _ _) rfl (by omega) (by omega) (by omega) (BytesAt.nil _ _ _) rfl (by omega) (by omega) (by omega)
  unfold PutPost at c1
  rw [List.nil_append, show (Fr.rcd []).length = 8 from Fr.rcd_length []] at c1
  go_enter Try.func10, Try.ntmps10
  go_wp2_with fail
  refine c1.mono ?_
  clear c1
  rintro e w1 ⟨rfl, row1, bel1⟩
  have hcv : Sem.run Try.prog (convert 22 22 (.slice (some ⟨w1.heap.size, 0, none⟩) 2 2)) (w1.alloc (.cells #[.int .u8 97, .int .u8 98] 5)) = .ok (.slice (some ⟨w1.heap.size, 0, none⟩) 2 2) (w1.alloc (.cells #[.int .u8 97, .int .u8 98] 5 (2, 3))) :=
    Lib.run_convert_bytes_const (P := Try.prog) w1 22 5 #[.int .u8 97, .int .u8 98] 2 2 Try.underlying22 Try.underlying5
  have R1 := Lib.hid row1
  have B1 := Lib.hid bel1
  clear row1 bel1
  go_wp2_with fail
  have r2 : RowIs (w1.alloc (.cells #[.int .u8 97, .int .u8 98] 5 (2, 3))) w.heap.size (Fr.rcd []) := R1.out.below ((Below.refl w1.heap.size w1).alloc (Nat.le_refl _) _) R1.out.lt
  have hab : BytesAt (w1.alloc (.cells #[.int .u8 97, .int .u8 98] 5 (2, 3))) (w1.alloc (.cells #[.int .u8 97, .int .u8 98] 5 (2, 3))).heap.size (some ⟨w1.heap.size, 0, none⟩) ab := fun _ =>
    ⟨w1.heap.size, 0, rfl, by rw [World.size_alloc]; omega, fun j u hu => by
      rw [Nat.zero_add, cell_of_row _ _ j _ _ _ (heap_alloc_new w1 _)]
      show (vB ab).toArray[j]? = _
      simp [vB, hu]⟩
  have hbb : BytesAt (w1.alloc (.cells #[.int .u8 97, .int .u8 98] 5 (2, 3))) (w1.alloc (.cells #[.int .u8 97, .int .u8 98] 5 (2, 3))).heap.size (some ⟨w.heap.size, 0, none⟩) (Fr.rcd []) := by
    have := r2.bytes (B := (w1.alloc (.cells #[.int .u8 97, .int .u8 98] 5 (2, 3))).heap.size) r2.lt 0
    rwa [List.drop_zero] at this
  have bel2 : Below w.heap.size w (w1.alloc (.cells #[.int .u8 97, .int .u8 98] 5 (2, 3))) := B1.out.alloc B1.out.size _
  clear hcv
  generalize hgW : w1.alloc (.cells #[.int .u8 97, .int .u8 98] 5 (2, 3)) = W at *
  clear hgW
  generalize w1.heap.size = g1 at *
  have c2 := put_any (Fr.rcd []) ab (some ⟨w.heap.size, 0, none⟩) (some ⟨g1, 0, none⟩) 8 8 2 2 W hbb (Fr.rcd_length []) (by omega) (by omega) (by omega) hab rfl (by omega) (by omega) (by omega)
  unfold PutPost at c2
  rw [show Fr.rcd [] ++ Fr.rcd ab = abs by unfold abs; rfl, abs_length] at c2
  refine c2.mono ?_
  clear c2 hab hbb
  rintro e w2 ⟨rfl, row2, bel3⟩
  have RA := Lib.hid (r2.below bel3 r2.lt)
  have RB := Lib.hid row2
  have B2 := Lib.hid (bel2.trans (bel3.mono bel2.size))
  have hgl : w.heap.size < W.heap.size := r2.lt
  clear r2 row2 bel2 bel3 B1 R1
  have OW2 := Lib.hid (OwnB.new w2)
  have hbx : BytesAt (w2.alloc (.cells #[] 5)) (w2.alloc (.cells #[] 5)).heap.size (some ⟨W.heap.size, 0, none⟩) abs := by
    have := RB.out.bytes (B := w2.heap.size) RB.out.lt 0
    rw [List.drop_zero] at this
    exact this.below ((Below.refl _ _).alloc (Nat.le_refl _) _)
  have HBX := Lib.hid hbx
  clear hbx
  go_wp2_with (first
    | (at_builtin; (refine wp_appB rfl (.tmp 19) (.tmp 20) rfl w2.heap.size _ [] rfl OW2.out (some ⟨W.heap.size, 0, none⟩) 18 18 _ abs rfl (fun e => by cases e) HBX.out abs_length (by omega) (by simp) (by rw [World.size_alloc]; omega) ?_); intro v3 w3 own3 bel3
       rw [List.nil_append] at own3
       obtain ⟨A3, c3, e3, _, h3, h3'⟩ := own3.form
       rw [abs_length] at e3
       subst e3
       have OW3 := Lib.hid own3
       have B3 := Lib.hid (B2.out.trans ((((Below.refl w2.heap.size w2).alloc (Nat.le_refl _) (.cells #[] 5)).trans bel3).mono B2.out.size))
       have RA3 := Lib.hid (RA.out.below (((Below.refl w2.heap.size w2).alloc (Nat.le_refl _) (.cells #[] 5)).trans bel3) RA.out.lt)
       have hs3 : w2.heap.size ≤ w3.heap.size := by have := bel3.size; rw [World.size_alloc] at this; omega
       clear own3 bel3 h3 h3' HBX OW2
       have OW4 : Hid (OwnB (w3.alloc (.cells #[.int .u8 7] 5)) w2.heap.size (.slice A3 18 c3) abs) := Lib.hid (OW3.out.below ((Below.refl _ _).alloc (Nat.le_refl _) _))
       have HB7 : Hid (BytesAt (w3.alloc (.cells #[.int .u8 7] 5)) (w3.heap.size + 1) (some ⟨w3.heap.size, 0, none⟩) [7]) := Lib.hid (bytes_new w3 [7] _ (by omega)))
    | (at_builtin; (refine wp_appB rfl (.tmp 21) (.tmp 22) rfl w2.heap.size _ abs rfl OW4.out (some ⟨w3.heap.size, 0, none⟩) 1 1 _ [7] rfl (fun e => by cases e) HB7.out rfl (by omega) (by rw [abs_length]; omega) (by rw [World.size_alloc]; omega) ?_); intro v4 w4 own4 bel4
       obtain ⟨A5, c5, e5, hb5, h5, h5'⟩ := own4.form
       rw [List.length_append, abs_length] at e5 h5
       have e5 : v4 = .slice A5 19 c5 := e5
       have h5 : 19 ≤ c5 := h5
       subst e5
       have HB5 := Lib.hid hb5
       have B4 := Lib.hid (B3.out.trans ((((Below.refl w3.heap.size w3).alloc (Nat.le_refl _) (.cells #[.int .u8 7] 5)).mono hs3).trans bel4 |>.mono B2.out.size))
       have RA4 := Lib.hid (RA3.out.below ((((Below.refl w3.heap.size w3).alloc (Nat.le_refl _) (.cells #[.int .u8 7] 5)).mono hs3).trans bel4) RA.out.lt)
       clear own4 bel4 hb5 OW4 HB7 OW3))
  refine (scan_any (abs ++ [7]) A5 19 c5 w4.heap.size w4 (Nat.le_refl _) HB5.out (by rw [List.length_append, abs_length]; rfl) (by omega) h5 h5').mono ?_
  rintro e w5 ⟨bel5, A6, c6, vs, rfl, ov, rows, tight⟩
  rw [scan_abs] at ov rows ⊢
  have RA5 := RA4.out.below bel5 (by have := RA4.out.lt; omega)
  have hcs : Sem.run Try.prog (convert 22 9 (.slice (some ⟨w.heap.size, 0, none⟩) 8 8)) w5 = .ok (.string ⟨#[33, 68, 223, 28, 0, 0, 0, 0]⟩) w5 := by
    have hb := RA5.bytes (B := w5.heap.size) RA5.lt 0
    rw [List.drop_zero] at hb
    have := conv_str hb 8 8 (Fr.rcd_length [])
    rw [rcd_none] at this
    exact this
  obtain ⟨u0, q0, A0, d0, rfl, _, _, _, hb0⟩ := rows.2 0 [] rfl
  obtain ⟨u1, q1, A1, d1, rfl, _, _, _, hb1⟩ := rows.2 1 ab rfl
  obtain ⟨g, rfl, x0⟩ := ov.at q0
  obtain ⟨g', e', x1⟩ := ov.at q1
  obtain rfl : g = g' := by injection e' with e'; injection e'
  have hcs1 : Sem.run Try.prog (convert 22 9 (.slice A1 2 d1)) w5 = .ok (.string ⟨#[97, 98]⟩) w5 := conv_str (hb1.keep bel5.block) 2 d1 rfl
  have x0' : w5.cell? ⟨g, 0, none⟩ = some (.slice A0 0 d0) := x0
  have x1' : w5.cell? ⟨g, 1, none⟩ = some (.slice A1 2 d1) := x1
  have HR := Lib.hid (B4.out.trans (bel5.mono B4.out.size))
  clear RA5 bel5 ov rows tight hb0 hb1 q0 q1 x0 x1 e'
  go_wp2_with fail
  go_ret
  exact ⟨rfl, HR.out⟩
end Go.Proofs.Ytkhhmpcpcdadaaa
