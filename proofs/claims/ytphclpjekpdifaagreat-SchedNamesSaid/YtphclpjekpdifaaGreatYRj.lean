import Derived.Test.YtphclpjekpdifaaGreatYZ
import Derived.Test.YtphclpjekpdifaaGreatYSv
import Derived.Deep.QuietTactic
import Derived.BigQuiet
namespace Go.Proofs.YtphclpjekpdifaaGreat
set_option maxRecDepth 20000
open Go.RowKit
open PS (Tx putM dropM setM findM Nod Ten Jb kOf St Cm Rp byName row mayM els num txt zI vOf done)
open Wi.Pl (It)
open Go.Proofs.YtphclpjekpdifaaGreat.Nm (str)
open Go.Proofs.YtphclpjekpdifaaGreat.Vc (RetBelow fitB I64)
set_option linter.unusedVariables false
def RjPost (F M TK DB : Bool) (E n4 : Int) (R1 R2 : World → World → Prop) (w : World) (e : Ending) (w' : World) : Prop :=
  ((F = false ∨ M = false ∨ E ≠ 0 ∨ TK = false) ∧ e = .returned (.bool false) ∧ Below w.heap.size w w') ∨
    ((F = true ∧ M = true ∧ E = 0 ∧ TK = true) ∧ ((n4 = 0 ∧ e = .returned (.bool true) ∧ ∃ X0, Below w.heap.size w X0 ∧ R1 X0 w') ∨ (n4 ≠ 0 ∧ e = .returned (.bool DB) ∧ ∃ X0, Below w.heap.size w X0 ∧ R2 X0 w')))
set_option maxHeartbeats 8000000 in
theorem rj_core (b : Nat) (kk nn : Int) (ss : ByteArray) (AA : Option Addr) (mm cc : Nat) (k0 n0 : Int) (s0 : ByteArray) (A0 : Option Addr) (m0 c0 : Nat) (k1 n1 : Int) (s1 : ByteArray) (A1 : Option Addr) (m1 c1 : Nat) (k2 n2 : Int) (s2 : ByteArray) (A2 : Option Addr) (m2 c2 : Nat) (k3 n3 : Int) (s3 : ByteArray) (A3 : Option Addr) (m3 c3 : Nat) (k4 n4 : Int) (s4 : ByteArray) (A4 : Option Addr) (m4 c4 : Nat) (p q r : Int) (n_s : ByteArray) (n_a : Int) (n_b : Int) (n_c : Int) (n_x : Int) (n_y : Int) (n_z : Int) (n_n : Int) (n_d : Bool) (F M TK DB : Bool) (E : Int) (R1 R2 : World → World → Prop) (w : World)
    (HQ0 : Hid (∀ X, Below w.heap.size w X → Calls Tryz.prog 102 #[.agg #[.int .i64 kk, .int .i64 nn, .string ss, .slice AA mm cc], .int .i64 0] X (RetBelow (.agg #[.int .i64 k0, .int .i64 n0, .string s0, .slice A0 m0 c0]) X)))
    (HQ1 : Hid (∀ X, Below w.heap.size w X → Calls Tryz.prog 102 #[.agg #[.int .i64 kk, .int .i64 nn, .string ss, .slice AA mm cc], .int .i64 1] X (RetBelow (.agg #[.int .i64 k1, .int .i64 n1, .string s1, .slice A1 m1 c1]) X)))
    (HQ2 : Hid (∀ X, Below w.heap.size w X → Calls Tryz.prog 102 #[.agg #[.int .i64 kk, .int .i64 nn, .string ss, .slice AA mm cc], .int .i64 2] X (RetBelow (.agg #[.int .i64 k2, .int .i64 n2, .string s2, .slice A2 m2 c2]) X)))
    (HQ3 : Hid (∀ X, Below w.heap.size w X → Calls Tryz.prog 102 #[.agg #[.int .i64 kk, .int .i64 nn, .string ss, .slice AA mm cc], .int .i64 3] X (RetBelow (.agg #[.int .i64 k3, .int .i64 n3, .string s3, .slice A3 m3 c3]) X)))
    (HQ4 : Hid (∀ X, Below w.heap.size w X → Calls Tryz.prog 102 #[.agg #[.int .i64 kk, .int .i64 nn, .string ss, .slice AA mm cc], .int .i64 4] X (RetBelow (.agg #[.int .i64 k4, .int .i64 n4, .string s4, .slice A4 m4 c4]) X)))
    (HQV : Hid (∀ X, Below w.heap.size w X → Calls Tryz.prog 104 #[.agg #[.int .i64 k2, .int .i64 n2, .string s2, .slice A2 m2 c2]] X (RetBelow (.agg #[.int .i64 p, .int .i64 q, .int .i64 r]) X)))
    (HGN : Hid (∀ X, Below w.heap.size w X → Calls Tryz.prog 75 #[.pointer (some ⟨b, 0, none⟩), .string s3] X (RetBelow (.tuple #[.agg #[.string n_s, .int .i64 n_a, .int .i64 n_b, .int .i64 n_c, .int .i64 n_x, .int .i64 n_y, .int .i64 n_z, .int .i64 n_n, .bool n_d], .bool F]) X)))
    (HMY : Hid (∀ X, Below w.heap.size w X → Calls Tryz.prog 36 #[.agg #[.int .i64 5, .string s0, .string s1, .int .i64 p, .int .i64 q, .int .i64 r, .int .i64 0]] X (RetBelow (.bool M) X)))
    (HRF : Hid (∀ X, Below w.heap.size w X → Calls Tryz.prog 85 #[.pointer (some ⟨b, 0, none⟩), .agg #[.int .i64 5, .string s0, .string s1, .int .i64 p, .int .i64 q, .int .i64 r, .int .i64 0]] X (RetBelow (.int .i64 E) X)))
    (HTK : Hid (∀ X, Below w.heap.size w X → Calls Tryz.prog 137 #[.agg #[.string n_s, .int .i64 n_a, .int .i64 n_b, .int .i64 n_c, .int .i64 n_x, .int .i64 n_y, .int .i64 n_z, .bool n_d], .agg #[.int .i64 p, .int .i64 q, .int .i64 r]] X (RetBelow (.bool TK) X)))
    (HCR : Hid (F = true → M = true → E = 0 → TK = true → ∀ X, Below w.heap.size w X → Calls Tryz.prog 87 #[.pointer (some ⟨b, 0, none⟩), .agg #[.int .i64 5, .string s0, .string s1, .int .i64 p, .int .i64 q, .int .i64 r, .int .i64 0], .agg #[.string n_s, .int .i64 n_a, .int .i64 n_b, .int .i64 n_c, .int .i64 n_x, .int .i64 n_y, .int .i64 n_z, .int .i64 n_n, .bool n_d]] X fun e w' => e = .returned (.tuple #[]) ∧ R1 X w'))
    (HDN : Hid (∀ X0 X1 X, R1 X0 X1 → Below X1.heap.size X1 X → Below w.heap.size w X0 → Calls Tryz.prog 103 #[.pointer (some ⟨b, 0, none⟩), .agg #[.int .i64 7, .string s0, .string s3, .int .i64 0, .int .i64 0, .int .i64 0, .int .i64 n4]] X fun e w' => e = .returned (.bool DB) ∧ R2 X0 w'))
    (HFr : Hid (∀ X0 X1, R1 X0 X1 → (∀ k, w.heap.size ≤ k → k < X0.heap.size → X1.heap[k]? = X0.heap[k]?) ∧ X0.heap.size ≤ X1.heap.size)) :
    Calls Tryz.prog 105 #[.pointer (some ⟨b, 0, none⟩), .agg #[.int .i64 kk, .int .i64 nn, .string ss, .slice AA mm cc]] w (RjPost F M TK DB E n4 R1 R2 w) := by
  have HBD := Lib.hid (show ∀ W : World, (Instr.build 33 #[(0, .int .i64 5), (1, .string s0), (2, .string s1), (3, .agg #[.int .i64 p, .int .i64 q, .int .i64 r])]).run Tryz.prog W = .ok (.agg #[.int .i64 5, .string s0, .string s1, .int .i64 p, .int .i64 q, .int .i64 r, .int .i64 0]) W from fun W => run_build W 33 _ _ (by kernel_rfl))
  have HIW0 := Lib.hid (heap_alloc_new w (.cells #[.int .i64 kk, .int .i64 nn, .string ss, .slice AA mm cc] 111))
  have HBW0 := Lib.hid ((Below.refl w.heap.size w).alloc (Nat.le_refl _) (.cells #[.int .i64 kk, .int .i64 nn, .string ss, .slice AA mm cc] 111))
  go_enter Tryz.func105, Tryz.ntmps105
  go_wp2_with fail
  have HIW := HIW0
  have HBW := HBW0
  clear HIW0 HBW0
  generalize w.alloc (.cells #[.int .i64 kk, .int .i64 nn, .string ss, .slice AA mm cc] 111) = W at *
  have HIL := Lib.hid (Array.getElem?_eq_some_iff.1 HIW.out).1
  refine wp_region_mono 11 [10, 11, 12, 13, 14, 15, 16, 17, 18, 19, 5] (fun i u w => match i with | 0 => u = .agg #[.int .i64 kk, .int .i64 nn, .string ss, .slice AA mm cc] | 1 => u = .agg #[.int .i64 k0, .int .i64 n0, .string s0, .slice A0 m0 c0] | 2 => u = .string s0 | 3 => u = .agg #[.int .i64 kk, .int .i64 nn, .string ss, .slice AA mm cc] | 4 => u = .agg #[.int .i64 k1, .int .i64 n1, .string s1, .slice A1 m1 c1] | 5 => u = .string s1 | 6 => u = .agg #[.int .i64 kk, .int .i64 nn, .string ss, .slice AA mm cc] | 7 => u = .agg #[.int .i64 k2, .int .i64 n2, .string s2, .slice A2 m2 c2] | 8 => u = .agg #[.int .i64 p, .int .i64 q, .int .i64 r] | 9 => u = .agg #[.int .i64 5, .string s0, .string s1, .int .i64 p, .int .i64 q, .int .i64 r, .int .i64 0] | 10 => ∃ g, u = .pointer (some ⟨g, 0, none⟩) ∧ W.heap.size ≤ g ∧ w.heap[g]? = some (.cells #[.int .i64 0, .string ⟨#[]⟩, .string ⟨#[]⟩, .int .i64 0, .int .i64 0, .int .i64 0, .int .i64 0] 33 (0, 0)) | _ => True) (fun w => Below W.heap.size W w) [undef, undef, undef, undef, undef, undef, undef, undef, undef, undef, undef] (by kernel_rfl) (by kernel_rfl) (by kernel_rfl) rfl (Below.refl _ _).drew ?hzV ?hzS ?hzT
  case hzV =>
    intro i v w w' hC h hB
    exact match i, h with
    | 0, h => h
    | 1, h => h
    | 2, h => h
    | 3, h => h
    | 4, h => h
    | 5, h => h
    | 6, h => h
    | 7, h => h
    | 8, h => h
    | 9, h => h
    | 10, h => (let ⟨g, h1, h2, h3⟩ := h; ⟨g, h1, h2, (hB.block _ (Array.getElem?_eq_some_iff.1 h3).1).trans h3⟩)
    | i + 11, h => trivial
  case hzS =>
    refine steps_cons (fun K' x hx w hC hd hK => ?_) ?_
    · obtain ⟨z0, z1, z2, z3, z4, z5, z6, z7, z8, z9, z10, rfl⟩ := len11 hx
      clear hd hx
      simp only [putAll, Act.put, List.setIfInBounds_toArray, List.set_cons_zero, List.set_cons_succ] at hK ⊢
      obtain ⟨y0, y1, y2, y3, _⟩ := Wi.row4 ((Below.block hC _ HIL.out).trans HIW.out)
      go_simp
      exact hK _ _ rfl hC (Below.refl _ _)
    refine steps_cons (fun K' x hx w hC hd hK => ?_) ?_
    · obtain ⟨z0, z1, z2, z3, z4, z5, z6, z7, z8, z9, z10, rfl⟩ := len11 hx
      obtain rfl : z0 = _ := hd 0 (by kernel_rfl)
      clear hd hx
      simp only [putAll, Act.put, List.setIfInBounds_toArray, List.set_cons_zero, List.set_cons_succ] at hK ⊢
      go_simp
      (go_at_call 102; (with_reducible refine (HQ0.out _ (Below.trans HBW.out (Below.mono hC HBW.out.size))).mono ?_); rintro e w1 ⟨rfl, hb⟩; exact hK _ _ rfl (Below.trans hC (hb.mono (Below.size hC))) hb)
    refine steps_cons (fun K' x hx w hC hd hK => ?_) ?_
    · obtain ⟨z0, z1, z2, z3, z4, z5, z6, z7, z8, z9, z10, rfl⟩ := len11 hx
      obtain rfl : z1 = _ := hd 1 (by kernel_rfl)
      clear hd hx
      simp only [putAll, Act.put, List.setIfInBounds_toArray, List.set_cons_zero, List.set_cons_succ] at hK ⊢
      have hfd := fld2
      go_simp
      exact hK _ _ rfl hC (Below.refl _ _)
    refine steps_cons (fun K' x hx w hC hd hK => ?_) ?_
    · obtain ⟨z0, z1, z2, z3, z4, z5, z6, z7, z8, z9, z10, rfl⟩ := len11 hx
      clear hd hx
      simp only [putAll, Act.put, List.setIfInBounds_toArray, List.set_cons_zero, List.set_cons_succ] at hK ⊢
      obtain ⟨y0, y1, y2, y3, _⟩ := Wi.row4 ((Below.block hC _ HIL.out).trans HIW.out)
      go_simp
      exact hK _ _ rfl hC (Below.refl _ _)
    refine steps_cons (fun K' x hx w hC hd hK => ?_) ?_
    · obtain ⟨z0, z1, z2, z3, z4, z5, z6, z7, z8, z9, z10, rfl⟩ := len11 hx
      obtain rfl : z3 = _ := hd 3 (by kernel_rfl)
      clear hd hx
      simp only [putAll, Act.put, List.setIfInBounds_toArray, List.set_cons_zero, List.set_cons_succ] at hK ⊢
      go_simp
      (go_at_call 102; (with_reducible refine (HQ1.out _ (Below.trans HBW.out (Below.mono hC HBW.out.size))).mono ?_); rintro e w1 ⟨rfl, hb⟩; exact hK _ _ rfl (Below.trans hC (hb.mono (Below.size hC))) hb)
    refine steps_cons (fun K' x hx w hC hd hK => ?_) ?_
    · obtain ⟨z0, z1, z2, z3, z4, z5, z6, z7, z8, z9, z10, rfl⟩ := len11 hx
      obtain rfl : z4 = _ := hd 4 (by kernel_rfl)
      clear hd hx
      simp only [putAll, Act.put, List.setIfInBounds_toArray, List.set_cons_zero, List.set_cons_succ] at hK ⊢
      have hfd := fld2
      go_simp
      exact hK _ _ rfl hC (Below.refl _ _)
    refine steps_cons (fun K' x hx w hC hd hK => ?_) ?_
    · obtain ⟨z0, z1, z2, z3, z4, z5, z6, z7, z8, z9, z10, rfl⟩ := len11 hx
      clear hd hx
      simp only [putAll, Act.put, List.setIfInBounds_toArray, List.set_cons_zero, List.set_cons_succ] at hK ⊢
      obtain ⟨y0, y1, y2, y3, _⟩ := Wi.row4 ((Below.block hC _ HIL.out).trans HIW.out)
      go_simp
      exact hK _ _ rfl hC (Below.refl _ _)
    refine steps_cons (fun K' x hx w hC hd hK => ?_) ?_
    · obtain ⟨z0, z1, z2, z3, z4, z5, z6, z7, z8, z9, z10, rfl⟩ := len11 hx
      obtain rfl : z6 = _ := hd 6 (by kernel_rfl)
      clear hd hx
      simp only [putAll, Act.put, List.setIfInBounds_toArray, List.set_cons_zero, List.set_cons_succ] at hK ⊢
      go_simp
      (go_at_call 102; (with_reducible refine (HQ2.out _ (Below.trans HBW.out (Below.mono hC HBW.out.size))).mono ?_); rintro e w1 ⟨rfl, hb⟩; exact hK _ _ rfl (Below.trans hC (hb.mono (Below.size hC))) hb)
    refine steps_cons (fun K' x hx w hC hd hK => ?_) ?_
    · obtain ⟨z0, z1, z2, z3, z4, z5, z6, z7, z8, z9, z10, rfl⟩ := len11 hx
      obtain rfl : z7 = _ := hd 7 (by kernel_rfl)
      clear hd hx
      simp only [putAll, Act.put, List.setIfInBounds_toArray, List.set_cons_zero, List.set_cons_succ] at hK ⊢
      go_simp
      (go_at_call 104; (with_reducible refine (HQV.out _ (Below.trans HBW.out (Below.mono hC HBW.out.size))).mono ?_); rintro e w1 ⟨rfl, hb⟩; exact hK _ _ rfl (Below.trans hC (hb.mono (Below.size hC))) hb)
    refine steps_cons (fun K' x hx w hC hd hK => ?_) ?_
    · obtain ⟨z0, z1, z2, z3, z4, z5, z6, z7, z8, z9, z10, rfl⟩ := len11 hx
      obtain rfl : z2 = _ := hd 2 (by kernel_rfl)
      obtain rfl : z5 = _ := hd 5 (by kernel_rfl)
      obtain rfl : z8 = _ := hd 8 (by kernel_rfl)
      clear hd hx
      simp only [putAll, Act.put, List.setIfInBounds_toArray, List.set_cons_zero, List.set_cons_succ] at hK ⊢
      have hbd := HBD.out
      go_simp
      exact hK _ _ rfl hC (Below.refl _ _)
    refine steps_cons (fun K' x hx w hC hd hK => ?_) ?_
    · obtain ⟨z0, z1, z2, z3, z4, z5, z6, z7, z8, z9, z10, rfl⟩ := len11 hx
      clear hd hx
      simp only [putAll, Act.put, List.setIfInBounds_toArray, List.set_cons_zero, List.set_cons_succ] at hK ⊢
      go_simp
      exact hK _ _ ⟨w.heap.size, rfl, Below.size hC, heap_alloc_new w _⟩ (Below.alloc hC (Below.size hC) _) ((Below.refl _ w).alloc (Nat.le_refl _) _)
    exact trivial
  case hzT =>
    intro x hx wT hC hd
    obtain ⟨z0, z1, z2, z3, z4, z5, z6, z7, z8, z9, z10, rfl⟩ := len11 hx
    obtain ⟨g, e10, hg, hrow⟩ := hd 10 (by omega)
    have e9 : z9 = _ := hd 9 (by omega)
    change z10 = _ at e10
    subst e9 e10
    clear hd hx
    have HW := Lib.hid (show Below W.heap.size W wT from hC)
    have HG := Lib.hid hg
    have HRO := Lib.hid hrow
    clear hC hg hrow
    simp only [putAll, Act.put, List.setIfInBounds_toArray, List.set_cons_zero, List.set_cons_succ]
    show wpList Tryz.prog _ _ (_ :: []) _ _
    obtain ⟨r0, r1, r2, r3, r4, r5, r6, j0, j1, j2, j3, j4, j5, j6⟩ := rowc7 HRO.out
    go_wp2_with fail
    refine (show Code.wp Tryz.prog _ _ _ (wr7 wT g (.int .i64 5) (.string s0) (.string s1) (.int .i64 p) (.int .i64 q) (.int .i64 r) (.int .i64 0)) from ?_)
    have HCX := Lib.hid (wr7_row (a0 := .int .i64 5) (a1 := .string s0) (a2 := .string s1) (a3 := .int .i64 p) (a4 := .int .i64 q) (a5 := .int .i64 r) (a6 := .int .i64 0) HRO.out)
    have HBV := Lib.hid (wr7_below (a0 := .int .i64 5) (a1 := .string s0) (a2 := .string s1) (a3 := .int .i64 p) (a4 := .int .i64 q) (a5 := .int .i64 r) (a6 := .int .i64 0) HW.out HG.out)
    generalize wr7 wT g (.int .i64 5) (.string s0) (.string s1) (.int .i64 p) (.int .i64 q) (.int .i64 r) (.int .i64 0) = V at *
    clear r0 r1 r2 r3 r4 r5 r6 j0 j1 j2 j3 j4 j5 j6 HRO HW
    have HIV := Lib.hid ((HBV.out.block _ HIL.out).trans HIW.out)
    have HCL := Lib.hid (Array.getElem?_eq_some_iff.1 HCX.out).1
    have HBWV := Lib.hid (HBW.out.trans (HBV.out.mono HBW.out.size))
    obtain ⟨q0, q1, q2, q3, _⟩ := Wi.row4 HIV.out
    have hlt := (Array.getElem?_eq_some_iff.1 HIV.out).1
    have ZA0 := fun Z : Wd (fun X => Below V.heap.size V X) => cellB q0 Z.ok hlt
    have ZA1 := fun Z : Wd (fun X => Below V.heap.size V X) => cellB q1 Z.ok hlt
    have ZA2 := fun Z : Wd (fun X => Below V.heap.size V X) => cellB q2 Z.ok hlt
    have ZA3 := fun Z : Wd (fun X => Below V.heap.size V X) => cellB q3 Z.ok hlt
    have CT3 := Lib.hid fun Z : Wd (fun X => Below V.heap.size V X) => Calls.in_class Z ((HQ3.out Z.X (HBWV.out.trans (Z.ok.mono HBWV.out.size))).mono fun e w' h => ⟨h.1, h.2⟩) (fun X h1 h2 => h1.trans (h2.mono h1.size))
    have CT4 := Lib.hid fun Z : Wd (fun X => Below V.heap.size V X) => Calls.in_class Z ((HQ4.out Z.X (HBWV.out.trans (Z.ok.mono HBWV.out.size))).mono fun e w' h => ⟨h.1, h.2⟩) (fun X h1 h2 => h1.trans (h2.mono h1.size))
    have hf2 := fld2
    have hf1 := fld1
    clear hlt
    refine wp_region_class (fun X => Below V.heap.size V X) (by kernel_rfl) (by kernel_rfl) (Below.refl _ _).drew (fun hne => ?_)
    haveI := hne
    quiet_step (fail)
    quiet_step ((go_at_call 102; with_reducible exact CT3.out _))
    iterate 2 (quiet_step (fail))
    quiet_step ((go_at_call 102; with_reducible exact CT4.out _))
    iterate 3 (quiet_step (fail))
    refine wpQuiet_nil ?_
    intro z1 hz1
    obtain ⟨⟨z1, hB1⟩, rfl⟩ := hz1
    clear ZA0 ZA1 ZA2 ZA3 CT3 CT4 q0 q1 q2 q3 hf1 hf2
    have HB1 := Lib.hid hB1
    clear hB1
    have HBW1 := Lib.hid (HBWV.out.trans (HB1.out.mono HBWV.out.size))
    have HC1 := Lib.hid ((HB1.out.block g HCL.out).trans HCX.out)
    clear HIV HCX HBWV
    go_wp2_with (first | (go_at_call 75; (with_reducible refine (HGN.out _ HBW1.out).mono ?_); rintro e w2 ⟨rfl, hb⟩; have H2 := Lib.hid hb; clear hb))
    have HNY := Lib.hid (heap_alloc_new w2 (.cells #[.string n_s, .int .i64 n_a, .int .i64 n_b, .int .i64 n_c, .int .i64 n_x, .int .i64 n_y, .int .i64 n_z, .int .i64 n_n, .bool n_d] 99))
    have HBY := Lib.hid ((HBW1.out.trans (H2.out.mono HBW1.out.size)).alloc (by have := HBW1.out.size; have := H2.out.size; omega) (.cells #[.string n_s, .int .i64 n_a, .int .i64 n_b, .int .i64 n_c, .int .i64 n_x, .int .i64 n_y, .int .i64 n_z, .int .i64 n_n, .bool n_d] 99))
    have HCY := Lib.hid ((Below.heap_alloc w2 (.cells #[.string n_s, .int .i64 n_a, .int .i64 n_b, .int .i64 n_c, .int .i64 n_x, .int .i64 n_y, .int .i64 n_z, .int .i64 n_n, .bool n_d] 99) g (Nat.lt_of_lt_of_le (Array.getElem?_eq_some_iff.1 HC1.out).1 H2.out.size)).trans ((H2.out.block g (Array.getElem?_eq_some_iff.1 HC1.out).1).trans HC1.out))
    have HGB := Lib.hid (show w.heap.size ≤ w2.heap.size by have := HBW1.out.size; have := H2.out.size; omega)
    generalize hgn : w2.heap.size = gn at *
    have HGW := Lib.hid (show w.heap.size ≤ g by have := HBW.out.size; have := HG.out; omega)
    generalize w2.alloc (.cells #[.string n_s, .int .i64 n_a, .int .i64 n_b, .int .i64 n_c, .int .i64 n_x, .int .i64 n_y, .int .i64 n_z, .int .i64 n_n, .bool n_d] 99) = Y at *
    clear hgn HC1 HBW1 H2
    cases F with
    | false =>
      go_quiet (fail)
      go_wp2_with fail
      go_ret
      exact .inl ⟨.inl rfl, rfl, Vc.below_drewN HBY.out _⟩
    | true =>
      obtain ⟨p0, p1, p2, p3, p4, p5, p6, _⟩ := rowc7 HCY.out
      obtain ⟨x0, x1, x2, x3, x4, x5, x6, x7, x8, _⟩ := rowc9 HNY.out
      have hcl := (Array.getElem?_eq_some_iff.1 HCY.out).1
      have hnl := (Array.getElem?_eq_some_iff.1 HNY.out).1
      have ZC0 := fun Z : Wd (fun X => Below Y.heap.size Y X) => cellB p0 Z.ok hcl
      have ZC1 := fun Z : Wd (fun X => Below Y.heap.size Y X) => cellB p1 Z.ok hcl
      have ZC2 := fun Z : Wd (fun X => Below Y.heap.size Y X) => cellB p2 Z.ok hcl
      have ZC3 := fun Z : Wd (fun X => Below Y.heap.size Y X) => cellB p3 Z.ok hcl
      have ZC4 := fun Z : Wd (fun X => Below Y.heap.size Y X) => cellB p4 Z.ok hcl
      have ZC5 := fun Z : Wd (fun X => Below Y.heap.size Y X) => cellB p5 Z.ok hcl
      have ZC6 := fun Z : Wd (fun X => Below Y.heap.size Y X) => cellB p6 Z.ok hcl
      have ZN0 := fun Z : Wd (fun X => Below Y.heap.size Y X) => cellB x0 Z.ok hnl
      have ZN1 := fun Z : Wd (fun X => Below Y.heap.size Y X) => cellB x1 Z.ok hnl
      have ZN2 := fun Z : Wd (fun X => Below Y.heap.size Y X) => cellB x2 Z.ok hnl
      have ZN3 := fun Z : Wd (fun X => Below Y.heap.size Y X) => cellB x3 Z.ok hnl
      have ZN4 := fun Z : Wd (fun X => Below Y.heap.size Y X) => cellB x4 Z.ok hnl
      have ZN5 := fun Z : Wd (fun X => Below Y.heap.size Y X) => cellB x5 Z.ok hnl
      have ZN6 := fun Z : Wd (fun X => Below Y.heap.size Y X) => cellB x6 Z.ok hnl
      have ZN7 := fun Z : Wd (fun X => Below Y.heap.size Y X) => cellB x7 Z.ok hnl
      have ZN8 := fun Z : Wd (fun X => Below Y.heap.size Y X) => cellB x8 Z.ok hnl
      have CT46 := Lib.hid fun Z : Wd (fun X => Below Y.heap.size Y X) => Calls.in_class Z ((HMY.out Z.X (HBY.out.trans (Z.ok.mono HBY.out.size))).mono fun e w' h => ⟨h.1, h.2⟩) (fun X h1 h2 => h1.trans (h2.mono h1.size))
      have CT86 := Lib.hid fun Z : Wd (fun X => Below Y.heap.size Y X) => Calls.in_class Z ((HRF.out Z.X (HBY.out.trans (Z.ok.mono HBY.out.size))).mono fun e w' h => ⟨h.1, h.2⟩) (fun X h1 h2 => h1.trans (h2.mono h1.size))
      have CT55 := Lib.hid fun Z : Wd (fun X => Below Y.heap.size Y X) => Calls.in_class Z ((nrow_core n_s n_a n_b n_c n_x n_y n_z n_n n_d Z.X).mono fun e w' h => ⟨h.1, h.2⟩) (fun X h1 h2 => h1.trans (h2.mono h1.size))
      have CT141 := Lib.hid fun Z : Wd (fun X => Below Y.heap.size Y X) => Calls.in_class Z ((HTK.out Z.X (HBY.out.trans (Z.ok.mono HBY.out.size))).mono fun e w' h => ⟨h.1, h.2⟩) (fun X h1 h2 => h1.trans (h2.mono h1.size))
      clear hcl hnl p0 p1 p2 p3 p4 p5 p6 x0 x1 x2 x3 x4 x5 x6 x7 x8
      cases M with
      | false =>
        refine wp_region_class (fun X => Below Y.heap.size Y X) (by kernel_rfl) (by kernel_rfl) (Below.refl _ _).drew (fun hne => ?_)
        haveI := hne
        iterate 4 (quiet_step (fail))
        quiet_step ((go_at_call 36; with_reducible exact CT46.out _))
        iterate 3 (quiet_step (fail))
        iterate 4 (refine wpQuiet_struck (by kernel_rfl) ?_; simp only [Act.put, List.setIfInBounds_toArray, List.set_cons_zero, List.set_cons_succ])
        iterate 2 (quiet_step (fail))
        iterate 6 (refine wpQuiet_struck (by kernel_rfl) ?_; simp only [Act.put, List.setIfInBounds_toArray, List.set_cons_zero, List.set_cons_succ])
        iterate 1 (quiet_step (fail))
        refine wpQuiet_nil ?_
        intro z2 hz2
        obtain ⟨⟨z2, hB2⟩, rfl⟩ := hz2
        have HB2 := Lib.hid hB2
        clear hB2 ZC0 ZC1 ZC2 ZC3 ZC4 ZC5 ZC6 ZN0 ZN1 ZN2 ZN3 ZN4 ZN5 ZN6 ZN7 ZN8 CT46 CT86 CT55 CT141
        go_wp2_with fail
        go_ret
        exact .inl ⟨.inr (.inl rfl), rfl, HBY.out.trans (HB2.out.mono HBY.out.size)⟩
      | true =>
        by_cases hE : E = 0
        case neg =>
          have he1 : (E == 0) = false := by simp [hE]
          have he2 : (E != 0) = true := by simp [hE]
          refine wp_region_class (fun X => Below Y.heap.size Y X) (by kernel_rfl) (by kernel_rfl) (Below.refl _ _).drew (fun hne => ?_)
          haveI := hne
          iterate 4 (quiet_step (fail))
          quiet_step ((go_at_call 36; with_reducible exact CT46.out _))
          iterate 3 (quiet_step (fail))
          iterate 2 (quiet_step (fail))
          quiet_step ((go_at_call 85; with_reducible exact CT86.out _))
          iterate 3 (quiet_step (fail))
          iterate 6 (refine wpQuiet_struck (by kernel_rfl) ?_; simp only [Act.put, List.setIfInBounds_toArray, List.set_cons_zero, List.set_cons_succ])
          iterate 1 (quiet_step (fail))
          refine wpQuiet_nil ?_
          intro z2 hz2
          obtain ⟨⟨z2, hB2⟩, rfl⟩ := hz2
          have HB2 := Lib.hid hB2
          clear hB2 ZC0 ZC1 ZC2 ZC3 ZC4 ZC5 ZC6 ZN0 ZN1 ZN2 ZN3 ZN4 ZN5 ZN6 ZN7 ZN8 CT46 CT86 CT55 CT141
          go_wp2_with fail
          go_ret
          exact .inl ⟨.inr (.inr (.inl hE)), rfl, HBY.out.trans (HB2.out.mono HBY.out.size)⟩
        case pos =>
          subst hE
          cases TK with
          | false =>
            refine wp_region_class (fun X => Below Y.heap.size Y X) (by kernel_rfl) (by kernel_rfl) (Below.refl _ _).drew (fun hne => ?_)
            haveI := hne
            iterate 4 (quiet_step (fail))
            quiet_step ((go_at_call 36; with_reducible exact CT46.out _))
            iterate 3 (quiet_step (fail))
            iterate 2 (quiet_step (fail))
            quiet_step ((go_at_call 85; with_reducible exact CT86.out _))
            iterate 3 (quiet_step (fail))
            iterate 1 (quiet_step (fail))
            quiet_step ((go_at_call 46; with_reducible exact CT55.out _))
            iterate 2 (quiet_step (fail))
            quiet_step ((go_at_call 137; with_reducible exact CT141.out _))
            iterate 2 (quiet_step (fail))
            refine wpQuiet_nil ?_
            intro z2 hz2
            obtain ⟨⟨z2, hB2⟩, rfl⟩ := hz2
            have HB2 := Lib.hid hB2
            clear hB2 ZC0 ZC1 ZC2 ZC3 ZC4 ZC5 ZC6 ZN0 ZN1 ZN2 ZN3 ZN4 ZN5 ZN6 ZN7 ZN8 CT46 CT86 CT55 CT141
            go_wp2_with fail
            go_ret
            exact .inl ⟨.inr (.inr (.inr rfl)), rfl, HBY.out.trans (HB2.out.mono HBY.out.size)⟩
          | true =>
            refine wp_region_class (fun X => Below Y.heap.size Y X) (by kernel_rfl) (by kernel_rfl) (Below.refl _ _).drew (fun hne => ?_)
            haveI := hne
            iterate 4 (quiet_step (fail))
            quiet_step ((go_at_call 36; with_reducible exact CT46.out _))
            iterate 3 (quiet_step (fail))
            iterate 2 (quiet_step (fail))
            quiet_step ((go_at_call 85; with_reducible exact CT86.out _))
            iterate 3 (quiet_step (fail))
            iterate 1 (quiet_step (fail))
            quiet_step ((go_at_call 46; with_reducible exact CT55.out _))
            iterate 2 (quiet_step (fail))
            quiet_step ((go_at_call 137; with_reducible exact CT141.out _))
            iterate 2 (quiet_step (fail))
            refine wpQuiet_nil ?_
            intro z2 hz2
            obtain ⟨⟨z2, hB2⟩, rfl⟩ := hz2
            have HB2 := Lib.hid hB2
            clear hB2 ZC0 ZC1 ZC2 ZC3 ZC4 ZC5 ZC6 ZN0 ZN1 ZN2 ZN3 ZN4 ZN5 ZN6 ZN7 ZN8 CT46 CT86 CT55 CT141
            have HCR2 := Lib.hid (HCR.out rfl rfl rfl rfl)
            have HBZ := Lib.hid (HBY.out.trans (HB2.out.mono HBY.out.size))
            have HCZ := Lib.hid ((HB2.out.block g (Array.getElem?_eq_some_iff.1 HCY.out).1).trans HCY.out)
            have HNZ := Lib.hid ((HB2.out.block gn (Array.getElem?_eq_some_iff.1 HNY.out).1).trans HNY.out)
            obtain ⟨p0, p1, p2, p3, p4, p5, p6, _⟩ := rowc7 HCZ.out
            obtain ⟨x0, x1, x2, x3, x4, x5, x6, x7, x8, _⟩ := rowc9 HNZ.out
            have hbd2 : ∀ W : World, (Instr.build 33 #[(0, .int .i64 7), (1, .string s0), (2, .string s3), (4, .int .i64 n4)]).run Tryz.prog W = .ok (.agg #[.int .i64 7, .string s0, .string s3, .int .i64 0, .int .i64 0, .int .i64 0, .int .i64 n4]) W := fun W => run_build W 33 _ _ (by kernel_rfl)
            by_cases hn4 : n4 = 0
            · subst hn4
              go_wp2_with (first | (go_at_call 87; (with_reducible refine (HCR2.out _ HBZ.out).mono ?_); rintro e w4 ⟨rfl, hP⟩; have HP := Lib.hid hP; have HE := Lib.hid (HFr.out _ _ hP); have HC4 := Lib.hid ((HE.out.1 g HGW.out (Array.getElem?_eq_some_iff.1 HCZ.out).1).trans HCZ.out); clear hP p0 p1 p2 p3 p4 p5 p6 x0 x1 x2 x3 x4 x5 x6 x7 x8; obtain ⟨p0, p1, p2, p3, p4, p5, p6, _⟩ := rowc7 HC4.out))
              go_ret
              exact .inr ⟨⟨rfl, rfl, rfl, rfl⟩, .inl ⟨rfl, rfl, _, HBZ.out, HP.out⟩⟩
            · have hq1 : (n4 == 0) = false := by simp [hn4]
              go_wp2_with (first | (go_at_call 87; (with_reducible refine (HCR2.out _ HBZ.out).mono ?_); rintro e w4 ⟨rfl, hP⟩; have HP := Lib.hid hP; have HE := Lib.hid (HFr.out _ _ hP); have HC4 := Lib.hid ((HE.out.1 g HGW.out (Array.getElem?_eq_some_iff.1 HCZ.out).1).trans HCZ.out); clear hP p0 p1 p2 p3 p4 p5 p6 x0 x1 x2 x3 x4 x5 x6 x7 x8; obtain ⟨p0, p1, p2, p3, p4, p5, p6, _⟩ := rowc7 HC4.out) | (go_at_call 103; (with_reducible refine (HDN.out _ _ _ HP.out (Below.refl _ _) HBZ.out).mono ?_); rintro e w5 ⟨rfl, hP2⟩; have HP2 := Lib.hid hP2; clear hP2))
              go_ret
              exact .inr ⟨⟨rfl, rfl, rfl, rfl⟩, .inr ⟨hn4, rfl, _, HBZ.out, HP2.out⟩⟩
end Go.Proofs.YtphclpjekpdifaaGreat
