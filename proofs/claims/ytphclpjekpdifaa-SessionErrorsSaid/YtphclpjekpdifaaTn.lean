import Derived.Test.YtphclpjekpdifaaTm
import Derived.Test.YtphclpjekpdifaaRj
namespace Go.Proofs.Ytphclpjekpdifaa
set_option maxRecDepth 20000
open Go.RowKit
open SP
open Go.Proofs.Ytphclpjekpdifaa.Nm (str)
open Wi (RetBelow)
open Wi.Pl (It)
set_option linter.unusedVariables false
/-! ### a session told by an item -/
theorem CZ.fr {W : World} {z : Nat} {o0 o : Obj} {w : World} (h : CZ W z o0 o w) : Fr (· = z) W w := h.1
def wr9 (w : World) (R : Nat) (a0 a1 a2 a3 a4 a5 a6 a7 a8 : Value) : World := (((((((((w.setCell ⟨R, 0, none⟩ a0).setCell ⟨R, 1, none⟩ a1).setCell ⟨R, 2, none⟩ a2).setCell ⟨R, 3, none⟩ a3).setCell ⟨R, 4, none⟩ a4).setCell ⟨R, 5, none⟩ a5).setCell ⟨R, 6, none⟩ a6).setCell ⟨R, 7, none⟩ a7).setCell ⟨R, 8, none⟩ a8)
theorem wr9_row {w : World} {R : Nat} {a0 a1 a2 a3 a4 a5 a6 a7 a8 y0 y1 y2 y3 y4 y5 y6 y7 y8 : Value} {t : TypeId} (h : w.heap[R]? = some (.cells #[y0, y1, y2, y3, y4, y5, y6, y7, y8] t (0, 0))) : (wr9 w R a0 a1 a2 a3 a4 a5 a6 a7 a8).heap[R]? = some (.cells #[a0, a1, a2, a3, a4, a5, a6, a7, a8] t (0, 0)) := by
  have h0 := Wi.heap_set _ R 0 a0 _ _ h
  have h1 := Wi.heap_set _ R 1 a1 _ _ h0
  have h2 := Wi.heap_set _ R 2 a2 _ _ h1
  have h3 := Wi.heap_set _ R 3 a3 _ _ h2
  have h4 := Wi.heap_set _ R 4 a4 _ _ h3
  have h5 := Wi.heap_set _ R 5 a5 _ _ h4
  have h6 := Wi.heap_set _ R 6 a6 _ _ h5
  have h7 := Wi.heap_set _ R 7 a7 _ _ h6
  have h8 := Wi.heap_set _ R 8 a8 _ _ h7
  unfold wr9
  simpa only [List.setIfInBounds_toArray, List.set_cons_zero, List.set_cons_succ] using h8
theorem wr9_far {w : World} {R : Nat} {a0 a1 a2 a3 a4 a5 a6 a7 a8 : Value} {q : Nat} (h : q ≠ R) : (wr9 w R a0 a1 a2 a3 a4 a5 a6 a7 a8).heap[q]? = w.heap[q]? := (Below.heap_setCell _ _ _ q h).trans ((Below.heap_setCell _ _ _ q h).trans ((Below.heap_setCell _ _ _ q h).trans ((Below.heap_setCell _ _ _ q h).trans ((Below.heap_setCell _ _ _ q h).trans ((Below.heap_setCell _ _ _ q h).trans ((Below.heap_setCell _ _ _ q h).trans ((Below.heap_setCell _ _ _ q h).trans (Below.heap_setCell _ _ _ q h))))))))
theorem wr9_size {w : World} {R : Nat} {a0 a1 a2 a3 a4 a5 a6 a7 a8 : Value} : (wr9 w R a0 a1 a2 a3 a4 a5 a6 a7 a8).heap.size = w.heap.size := by simp [wr9, World.setCell]
theorem wr9_below {w0 w : World} {B R : Nat} {a0 a1 a2 a3 a4 a5 a6 a7 a8 : Value} (h : Below B w0 w) (hR : B ≤ R) : Below B w0 (wr9 w R a0 a1 a2 a3 a4 a5 a6 a7 a8) := by
  have h0 := h.setCell (p := ⟨R, 0, none⟩) hR a0
  have h1 := h0.setCell (p := ⟨R, 1, none⟩) hR a1
  have h2 := h1.setCell (p := ⟨R, 2, none⟩) hR a2
  have h3 := h2.setCell (p := ⟨R, 3, none⟩) hR a3
  have h4 := h3.setCell (p := ⟨R, 4, none⟩) hR a4
  have h5 := h4.setCell (p := ⟨R, 5, none⟩) hR a5
  have h6 := h5.setCell (p := ⟨R, 6, none⟩) hR a6
  have h7 := h6.setCell (p := ⟨R, 7, none⟩) hR a7
  have h8 := h7.setCell (p := ⟨R, 8, none⟩) hR a8
  exact h8

theorem len14 {x : List Value} (h : x.length = 14) : ∃ z0 z1 z2 z3 z4 z5 z6 z7 z8 z9 z10 z11 z12 z13, x = [z0, z1, z2, z3, z4, z5, z6, z7, z8, z9, z10, z11, z12, z13] := by
  obtain ⟨z0, x0, e0, h0⟩ := cons_of h
  obtain ⟨z1, x1, e1, h1⟩ := cons_of h0
  obtain ⟨z2, x2, e2, h2⟩ := cons_of h1
  obtain ⟨z3, x3, e3, h3⟩ := cons_of h2
  obtain ⟨z4, x4, e4, h4⟩ := cons_of h3
  obtain ⟨z5, x5, e5, h5⟩ := cons_of h4
  obtain ⟨z6, x6, e6, h6⟩ := cons_of h5
  obtain ⟨z7, x7, e7, h7⟩ := cons_of h6
  obtain ⟨z8, x8, e8, h8⟩ := cons_of h7
  obtain ⟨z9, x9, e9, h9⟩ := cons_of h8
  obtain ⟨z10, x10, e10, h10⟩ := cons_of h9
  obtain ⟨z11, x11, e11, h11⟩ := cons_of h10
  obtain ⟨z12, x12, e12, h12⟩ := cons_of h11
  obtain ⟨z13, x13, e13, h13⟩ := cons_of h12
  exact ⟨z0, z1, z2, z3, z4, z5, z6, z7, z8, z9, z10, z11, z12, z13, by rw [e0, e1, e2, e3, e4, e5, e6, e7, e8, e9, e10, e11, e12, e13, nil_of h13]⟩
set_option maxHeartbeats 8000000 in
theorem ses_core (kk nn : Int) (ss : ByteArray) (AA : Option Addr) (mm cc : Nat) (k0 n0 : Int) (s0 : ByteArray) (A0 : Option Addr) (m0 c0 : Nat) (k1 n1 : Int) (s1 : ByteArray) (A1 : Option Addr) (m1 c1 : Nat) (k2 n2 : Int) (s2 : ByteArray) (A2 : Option Addr) (m2 c2 : Nat) (k3 n3 : Int) (s3 : ByteArray) (A3 : Option Addr) (m3 c3 : Nat) (re : Int) (rs : ByteArray) (ra rb rc rn EN : Int) (OK : Bool) (w : World) (HOK : Hid ((EN == 0) = OK))
    (HQ0 : Hid (∀ X, Below w.heap.size w X → Calls Try.prog 43 #[.agg #[.int .i64 kk, .int .i64 nn, .string ss, .slice AA mm cc], .int .i64 0] X (RetBelow (.agg #[.int .i64 k0, .int .i64 n0, .string s0, .slice A0 m0 c0]) X)))
    (HQ1 : Hid (∀ X, Below w.heap.size w X → Calls Try.prog 43 #[.agg #[.int .i64 kk, .int .i64 nn, .string ss, .slice AA mm cc], .int .i64 1] X (RetBelow (.agg #[.int .i64 k1, .int .i64 n1, .string s1, .slice A1 m1 c1]) X)))
    (HQ2 : Hid (∀ X, Below w.heap.size w X → Calls Try.prog 43 #[.agg #[.int .i64 kk, .int .i64 nn, .string ss, .slice AA mm cc], .int .i64 2] X (RetBelow (.agg #[.int .i64 k2, .int .i64 n2, .string s2, .slice A2 m2 c2]) X)))
    (HQ3 : Hid (∀ X, Below w.heap.size w X → Calls Try.prog 43 #[.agg #[.int .i64 kk, .int .i64 nn, .string ss, .slice AA mm cc], .int .i64 3] X (RetBelow (.agg #[.int .i64 k3, .int .i64 n3, .string s3, .slice A3 m3 c3]) X)))
    (HUP : Hid (∀ X, Calls Try.prog 60 #[.string s3] X fun e Y => e = .returned (.tuple #[.agg #[.int .i64 re, .string rs, .int .i64 ra, .int .i64 rb, .int .i64 rc, .int .i64 rn], .int .i64 EN]) ∧ Below X.heap.size X Y)) :
    Calls Try.prog 45 #[.agg #[.int .i64 kk, .int .i64 nn, .string ss, .slice AA mm cc]] w (RetBelow (.tuple #[.agg #[.int .i64 n0, .int .i64 n1, .int .i64 re, .string rs, .int .i64 ra, .int .i64 rb, .int .i64 rc, .int .i64 rn, .int .i64 n2], .bool OK]) w) := by
  have HBD : Hid (∀ W : World, (Instr.build 52 #[(0, .int .i64 n0), (1, .int .i64 n1), (3, .int .i64 n2), (2, .agg #[.int .i64 re, .string rs, .int .i64 ra, .int .i64 rb, .int .i64 rc, .int .i64 rn])]).run Try.prog W = .ok (.agg #[.int .i64 n0, .int .i64 n1, .int .i64 re, .string rs, .int .i64 ra, .int .i64 rb, .int .i64 rc, .int .i64 rn, .int .i64 n2]) W) := Lib.hid fun W => run_build W 52 _ _ (by kernel_rfl)
  have HB0 := Lib.hid (below_2 w (.cells #[.int .i64 kk, .int .i64 nn, .string ss, .slice AA mm cc] 56) (.cells #[.int .i64 0, .int .i64 0, .int .i64 0, .string ⟨#[]⟩, .int .i64 0, .int .i64 0, .int .i64 0, .int .i64 0, .int .i64 0] 52))
  have HI0 : Hid (((w.alloc (.cells #[.int .i64 kk, .int .i64 nn, .string ss, .slice AA mm cc] 56)).alloc (.cells #[.int .i64 0, .int .i64 0, .int .i64 0, .string ⟨#[]⟩, .int .i64 0, .int .i64 0, .int .i64 0, .int .i64 0, .int .i64 0] 52)).heap[w.heap.size]? = some (.cells #[.int .i64 kk, .int .i64 nn, .string ss, .slice AA mm cc] 56 (0, 0))) := Lib.hid ((Below.heap_alloc _ _ _ (by simp)).trans (heap_alloc_new _ _))
  have HZ0 : Hid (((w.alloc (.cells #[.int .i64 kk, .int .i64 nn, .string ss, .slice AA mm cc] 56)).alloc (.cells #[.int .i64 0, .int .i64 0, .int .i64 0, .string ⟨#[]⟩, .int .i64 0, .int .i64 0, .int .i64 0, .int .i64 0, .int .i64 0] 52)).heap[w.heap.size + 1]? = some (.cells #[.int .i64 0, .int .i64 0, .int .i64 0, .string ⟨#[]⟩, .int .i64 0, .int .i64 0, .int .i64 0, .int .i64 0, .int .i64 0] 52 (0, 0))) := Lib.hid (by rw [show w.heap.size + 1 = (w.alloc (.cells #[.int .i64 kk, .int .i64 nn, .string ss, .slice AA mm cc] 56)).heap.size from by simp]; exact heap_alloc_new _ _)
  have HSZ : Hid (((w.alloc (.cells #[.int .i64 kk, .int .i64 nn, .string ss, .slice AA mm cc] 56)).alloc (.cells #[.int .i64 0, .int .i64 0, .int .i64 0, .string ⟨#[]⟩, .int .i64 0, .int .i64 0, .int .i64 0, .int .i64 0, .int .i64 0] 52)).heap.size = w.heap.size + 2) := Lib.hid (by simp)
  obtain ⟨zb, hzb⟩ : ∃ zb, zb = w.heap.size + 1 := ⟨_, rfl⟩
  rw [← hzb] at HZ0
  have HZG := Lib.hid (show w.heap.size ≤ zb by omega)
  have HZB := Lib.hid hzb
  clear hzb
  obtain ⟨x0, x1, x2, x3, _⟩ := Wi.row4 HI0.out
  have hfd := fld2
  go_enter Try.func45, Try.ntmps45
  go_wp2_with (first
    | (go_at_call 43; (with_reducible refine (HQ3.out _ HB0.out).mono ?_); rintro e w1 ⟨rfl, hb1⟩; have HB1 := Lib.hid (HB0.out.trans (hb1.mono HB0.out.size)); have HI1 := Lib.hid ((hb1.block w.heap.size (by rw [HSZ.out]; omega)).trans HI0.out); have HZ1 := Lib.hid ((hb1.block zb (by rw [HSZ.out, HZB.out]; omega)).trans HZ0.out); clear hb1)
    | (go_at_call 60; (with_reducible refine (HUP.out _).mono ?_); rintro e w2 ⟨rfl, hb2⟩; have HB2 := Lib.hid (HB1.out.trans (hb2.mono HB1.out.size)); have HI2 := Lib.hid ((hb2.block w.heap.size (Array.getElem?_eq_some_iff.1 HI1.out).1).trans HI1.out); have HZ2 := Lib.hid ((hb2.block zb (Array.getElem?_eq_some_iff.1 HZ1.out).1).trans HZ1.out); clear hb2))
  have HRW := Lib.hid (heap_alloc_new w2 (.cells #[.int .i64 re, .string rs, .int .i64 ra, .int .i64 rb, .int .i64 rc, .int .i64 rn] 27))
  have HRL : Hid (w2.heap.size < (w2.alloc (.cells #[.int .i64 re, .string rs, .int .i64 ra, .int .i64 rb, .int .i64 rc, .int .i64 rn] 27)).heap.size) := Lib.hid (by simp)
  have HIL : Hid (w.heap.size < (w2.alloc (.cells #[.int .i64 re, .string rs, .int .i64 ra, .int .i64 rb, .int .i64 rc, .int .i64 rn] 27)).heap.size) := Lib.hid (by have := (Array.getElem?_eq_some_iff.1 HI2.out).1; simp; omega)
  have HZL : Hid (zb < (w2.alloc (.cells #[.int .i64 re, .string rs, .int .i64 ra, .int .i64 rb, .int .i64 rc, .int .i64 rn] 27)).heap.size) := Lib.hid (by have := (Array.getElem?_eq_some_iff.1 HZ2.out).1; simp; omega)
  have HIW := Lib.hid ((Below.heap_alloc w2 (.cells #[.int .i64 re, .string rs, .int .i64 ra, .int .i64 rb, .int .i64 rc, .int .i64 rn] 27) w.heap.size (Array.getElem?_eq_some_iff.1 HI2.out).1).trans HI2.out)
  have HZW := Lib.hid ((Below.heap_alloc w2 (.cells #[.int .i64 re, .string rs, .int .i64 ra, .int .i64 rb, .int .i64 rc, .int .i64 rn] 27) zb (Array.getElem?_eq_some_iff.1 HZ2.out).1).trans HZ2.out)
  have HBW := Lib.hid (HB2.out.alloc HB2.out.size (.cells #[.int .i64 re, .string rs, .int .i64 ra, .int .i64 rb, .int .i64 rc, .int .i64 rn] 27))
  rw [← HZB.out]
  have HNE1 := Lib.hid (show w.heap.size ≠ zb by have := HZB.out; omega)
  have HNE2 := Lib.hid (show w2.heap.size ≠ zb by have := (Array.getElem?_eq_some_iff.1 HZ2.out).1; omega)
  generalize w2.alloc (.cells #[.int .i64 re, .string rs, .int .i64 ra, .int .i64 rb, .int .i64 rc, .int .i64 rn] 27) = W at *
  clear x0 x1 x2 x3 hfd
  refine wp_region_mono3 14 [13, 14, 15, 16, 17, 18, 19, 20, 21, 22, 23, 24, 25, 26] (fun i u w => match i with | 0 => u = .agg #[.int .i64 kk, .int .i64 nn, .string ss, .slice AA mm cc] | 1 => u = .agg #[.int .i64 k0, .int .i64 n0, .string s0, .slice A0 m0 c0] | 2 => u = .int .i64 n0 | 3 => u = .agg #[.int .i64 kk, .int .i64 nn, .string ss, .slice AA mm cc] | 4 => u = .agg #[.int .i64 k1, .int .i64 n1, .string s1, .slice A1 m1 c1] | 5 => u = .int .i64 n1 | 6 => u = .agg #[.int .i64 kk, .int .i64 nn, .string ss, .slice AA mm cc] | 7 => u = .agg #[.int .i64 k2, .int .i64 n2, .string s2, .slice A2 m2 c2] | 8 => u = .int .i64 n2 | 9 => u = .agg #[.int .i64 re, .string rs, .int .i64 ra, .int .i64 rb, .int .i64 rc, .int .i64 rn] | 10 => u = .agg #[.int .i64 n0, .int .i64 n1, .int .i64 re, .string rs, .int .i64 ra, .int .i64 rb, .int .i64 rc, .int .i64 rn, .int .i64 n2] | 11 => u = .int .i64 EN | 12 => u = .bool OK | 13 => w.heap[zb]? = some (.cells #[.int .i64 n0, .int .i64 n1, .int .i64 re, .string rs, .int .i64 ra, .int .i64 rb, .int .i64 rc, .int .i64 rn, .int .i64 n2] 52 (0, 0)) | _ => True) (fun w => CZ W zb (.cells #[.int .i64 0, .int .i64 0, .int .i64 0, .string ⟨#[]⟩, .int .i64 0, .int .i64 0, .int .i64 0, .int .i64 0, .int .i64 0] 52 (0, 0)) (.cells #[.int .i64 n0, .int .i64 n1, .int .i64 re, .string rs, .int .i64 ra, .int .i64 rb, .int .i64 rc, .int .i64 rn, .int .i64 n2] 52 (0, 0)) w) (RlZ zb (.cells #[.int .i64 n0, .int .i64 n1, .int .i64 re, .string rs, .int .i64 ra, .int .i64 rb, .int .i64 rc, .int .i64 rn, .int .i64 n2] 52 (0, 0))) [undef, undef, undef, undef, undef, undef, undef, undef, undef, undef, undef, undef, undef, undef] (by kernel_rfl) (by kernel_rfl) (by kernel_rfl) rfl (CZ.start HZW.out) ?hzV ?hzS ?hzT
  case hzV =>
    intro i v w w' hC h hB
    exact match i, h with
    | 0, h => h
    | 1, h => h
    | 2, h => h
    | 3, h => h
    | 4, h => h
    | 5, h => h
    | 6, h => h
    | 7, h => h
    | 8, h => h
    | 9, h => h
    | 10, h => h
    | 11, h => h
    | 12, h => h
    | 13, h => RlZ.keep hB h
    | i + 14, h => trivial
  case hzS =>
    refine steps3_cons (fun K' x hx w hC hd hK => ?_) ?_
    · obtain ⟨z0, z1, z2, z3, z4, z5, z6, z7, z8, z9, z10, z11, z12, z13, rfl⟩ := len14 hx
      clear hd hx
      simp only [putAll, Act.put, List.setIfInBounds_toArray, List.set_cons_zero, List.set_cons_succ, List.set_nil] at hK ⊢
      obtain ⟨y0, y1, y2, y3, _⟩ := Wi.row4 ((hC.block HIL.out HNE1.out).trans HIW.out)
      go_simp
      exact hK _ _ rfl hC (RlZ.refl _ _ _)
    refine steps3_cons (fun K' x hx w hC hd hK => ?_) ?_
    · obtain ⟨z0, z1, z2, z3, z4, z5, z6, z7, z8, z9, z10, z11, z12, z13, rfl⟩ := len14 hx
      obtain rfl : z0 = _ := hd 0 (by kernel_rfl)
      clear hd hx
      simp only [putAll, Act.put, List.setIfInBounds_toArray, List.set_cons_zero, List.set_cons_succ, List.set_nil] at hK ⊢
      go_simp
      (go_at_call 43; (with_reducible refine (HQ0.out _ (HBW.out.trans ((CZ.fr hC).below HBW.out.size fun k hk => hk ▸ HZG.out))).mono ?_); rintro e w1 ⟨rfl, hb⟩; exact hK _ _ rfl (CZ.below hC hb) (CZ.rel hC hb))
    refine steps3_cons (fun K' x hx w hC hd hK => ?_) ?_
    · obtain ⟨z0, z1, z2, z3, z4, z5, z6, z7, z8, z9, z10, z11, z12, z13, rfl⟩ := len14 hx
      obtain rfl : z1 = _ := hd 1 (by kernel_rfl)
      clear hd hx
      simp only [putAll, Act.put, List.setIfInBounds_toArray, List.set_cons_zero, List.set_cons_succ, List.set_nil] at hK ⊢
      have hfd := fld1
      go_simp
      exact hK _ _ rfl hC (RlZ.refl _ _ _)
    refine steps3_cons (fun K' x hx w hC hd hK => ?_) ?_
    · obtain ⟨z0, z1, z2, z3, z4, z5, z6, z7, z8, z9, z10, z11, z12, z13, rfl⟩ := len14 hx
      clear hd hx
      simp only [putAll, Act.put, List.setIfInBounds_toArray, List.set_cons_zero, List.set_cons_succ, List.set_nil] at hK ⊢
      obtain ⟨y0, y1, y2, y3, _⟩ := Wi.row4 ((hC.block HIL.out HNE1.out).trans HIW.out)
      go_simp
      exact hK _ _ rfl hC (RlZ.refl _ _ _)
    refine steps3_cons (fun K' x hx w hC hd hK => ?_) ?_
    · obtain ⟨z0, z1, z2, z3, z4, z5, z6, z7, z8, z9, z10, z11, z12, z13, rfl⟩ := len14 hx
      obtain rfl : z3 = _ := hd 3 (by kernel_rfl)
      clear hd hx
      simp only [putAll, Act.put, List.setIfInBounds_toArray, List.set_cons_zero, List.set_cons_succ, List.set_nil] at hK ⊢
      go_simp
      (go_at_call 43; (with_reducible refine (HQ1.out _ (HBW.out.trans ((CZ.fr hC).below HBW.out.size fun k hk => hk ▸ HZG.out))).mono ?_); rintro e w1 ⟨rfl, hb⟩; exact hK _ _ rfl (CZ.below hC hb) (CZ.rel hC hb))
    refine steps3_cons (fun K' x hx w hC hd hK => ?_) ?_
    · obtain ⟨z0, z1, z2, z3, z4, z5, z6, z7, z8, z9, z10, z11, z12, z13, rfl⟩ := len14 hx
      obtain rfl : z4 = _ := hd 4 (by kernel_rfl)
      clear hd hx
      simp only [putAll, Act.put, List.setIfInBounds_toArray, List.set_cons_zero, List.set_cons_succ, List.set_nil] at hK ⊢
      have hfd := fld1
      go_simp
      exact hK _ _ rfl hC (RlZ.refl _ _ _)
    refine steps3_cons (fun K' x hx w hC hd hK => ?_) ?_
    · obtain ⟨z0, z1, z2, z3, z4, z5, z6, z7, z8, z9, z10, z11, z12, z13, rfl⟩ := len14 hx
      clear hd hx
      simp only [putAll, Act.put, List.setIfInBounds_toArray, List.set_cons_zero, List.set_cons_succ, List.set_nil] at hK ⊢
      obtain ⟨y0, y1, y2, y3, _⟩ := Wi.row4 ((hC.block HIL.out HNE1.out).trans HIW.out)
      go_simp
      exact hK _ _ rfl hC (RlZ.refl _ _ _)
    refine steps3_cons (fun K' x hx w hC hd hK => ?_) ?_
    · obtain ⟨z0, z1, z2, z3, z4, z5, z6, z7, z8, z9, z10, z11, z12, z13, rfl⟩ := len14 hx
      obtain rfl : z6 = _ := hd 6 (by kernel_rfl)
      clear hd hx
      simp only [putAll, Act.put, List.setIfInBounds_toArray, List.set_cons_zero, List.set_cons_succ, List.set_nil] at hK ⊢
      go_simp
      (go_at_call 43; (with_reducible refine (HQ2.out _ (HBW.out.trans ((CZ.fr hC).below HBW.out.size fun k hk => hk ▸ HZG.out))).mono ?_); rintro e w1 ⟨rfl, hb⟩; exact hK _ _ rfl (CZ.below hC hb) (CZ.rel hC hb))
    refine steps3_cons (fun K' x hx w hC hd hK => ?_) ?_
    · obtain ⟨z0, z1, z2, z3, z4, z5, z6, z7, z8, z9, z10, z11, z12, z13, rfl⟩ := len14 hx
      obtain rfl : z7 = _ := hd 7 (by kernel_rfl)
      clear hd hx
      simp only [putAll, Act.put, List.setIfInBounds_toArray, List.set_cons_zero, List.set_cons_succ, List.set_nil] at hK ⊢
      have hfd := fld1
      go_simp
      exact hK _ _ rfl hC (RlZ.refl _ _ _)
    refine steps3_cons (fun K' x hx w hC hd hK => ?_) ?_
    · obtain ⟨z0, z1, z2, z3, z4, z5, z6, z7, z8, z9, z10, z11, z12, z13, rfl⟩ := len14 hx
      clear hd hx
      simp only [putAll, Act.put, List.setIfInBounds_toArray, List.set_cons_zero, List.set_cons_succ, List.set_nil] at hK ⊢
      obtain ⟨y0, y1, y2, y3, y4, y5, _⟩ := row6 ((hC.block HRL.out HNE2.out).trans HRW.out)
      go_simp
      exact hK _ _ rfl hC (RlZ.refl _ _ _)
    refine steps3_cons (fun K' x hx w hC hd hK => ?_) ?_
    · obtain ⟨z0, z1, z2, z3, z4, z5, z6, z7, z8, z9, z10, z11, z12, z13, rfl⟩ := len14 hx
      obtain rfl : z2 = _ := hd 2 (by kernel_rfl)
      obtain rfl : z5 = _ := hd 5 (by kernel_rfl)
      obtain rfl : z8 = _ := hd 8 (by kernel_rfl)
      obtain rfl : z9 = _ := hd 9 (by kernel_rfl)
      clear hd hx
      simp only [putAll, Act.put, List.setIfInBounds_toArray, List.set_cons_zero, List.set_cons_succ, List.set_nil] at hK ⊢
      have hbd := HBD.out
      go_simp
      exact hK _ _ rfl hC (RlZ.refl _ _ _)
    refine steps3_cons (fun K' x hx w hC hd hK => ?_) ?_
    · obtain ⟨z0, z1, z2, z3, z4, z5, z6, z7, z8, z9, z10, z11, z12, z13, rfl⟩ := len14 hx
      clear hd hx
      simp only [putAll, Act.put, List.setIfInBounds_toArray, List.set_cons_zero, List.set_cons_succ, List.set_nil] at hK ⊢
      go_simp
      exact hK _ _ rfl hC (RlZ.refl _ _ _)
    refine steps3_cons (fun K' x hx w hC hd hK => ?_) ?_
    · obtain ⟨z0, z1, z2, z3, z4, z5, z6, z7, z8, z9, z10, z11, z12, z13, rfl⟩ := len14 hx
      obtain rfl : z11 = _ := hd 11 (by kernel_rfl)
      clear hd hx
      simp only [putAll, Act.put, List.setIfInBounds_toArray, List.set_cons_zero, List.set_cons_succ, List.set_nil] at hK ⊢
      have hok := HOK.out
      go_simp
      exact hK _ _ rfl hC (RlZ.refl _ _ _)
    refine steps3_cons (fun K' x hx w hC hd hK => ?_) ?_
    · obtain ⟨z0, z1, z2, z3, z4, z5, z6, z7, z8, z9, z10, z11, z12, z13, rfl⟩ := len14 hx
      obtain rfl : z10 = _ := hd 10 (by kernel_rfl)
      clear hd hx
      simp only [putAll, Act.put, List.setIfInBounds_toArray, List.set_cons_zero, List.set_cons_succ, List.set_nil] at hK ⊢
      rcases hC.2 with hr | hr
      · obtain ⟨q0, q1, q2, q3, q4, q5, q6, q7, q8, p0, p1, p2, p3, p4, p5, p6, p7, p8⟩ := rowc9 hr
        have R9 := wr9_row (a0 := .int .i64 n0) (a1 := .int .i64 n1) (a2 := .int .i64 re) (a3 := .string rs) (a4 := .int .i64 ra) (a5 := .int .i64 rb) (a6 := .int .i64 rc) (a7 := .int .i64 rn) (a8 := .int .i64 n2) hr
        have F9 : Fr (· = zb) w _ := ((((((((((Fr.refl (· = zb) w).setCell (p := ⟨zb, 0, none⟩) (.inl rfl) (.int .i64 n0)).setCell (p := ⟨zb, 1, none⟩) (.inl rfl) (.int .i64 n1)).setCell (p := ⟨zb, 2, none⟩) (.inl rfl) (.int .i64 re)).setCell (p := ⟨zb, 3, none⟩) (.inl rfl) (.string rs)).setCell (p := ⟨zb, 4, none⟩) (.inl rfl) (.int .i64 ra)).setCell (p := ⟨zb, 5, none⟩) (.inl rfl) (.int .i64 rb)).setCell (p := ⟨zb, 6, none⟩) (.inl rfl) (.int .i64 rc)).setCell (p := ⟨zb, 7, none⟩) (.inl rfl) (.int .i64 rn)).setCell (p := ⟨zb, 8, none⟩) (.inl rfl) (.int .i64 n2))
        have SS := CZ.stored hC F9 R9
        have R9H := Lib.hid R9
        clear R9 F9
        have SS1 := Lib.hid SS
        clear SS
        go_simp
        exact hK undef _ R9H.out SS1.out.1 SS1.out.2
      · obtain ⟨q0, q1, q2, q3, q4, q5, q6, q7, q8, p0, p1, p2, p3, p4, p5, p6, p7, p8⟩ := rowc9 hr
        have R9 := wr9_row (a0 := .int .i64 n0) (a1 := .int .i64 n1) (a2 := .int .i64 re) (a3 := .string rs) (a4 := .int .i64 ra) (a5 := .int .i64 rb) (a6 := .int .i64 rc) (a7 := .int .i64 rn) (a8 := .int .i64 n2) hr
        have F9 : Fr (· = zb) w _ := ((((((((((Fr.refl (· = zb) w).setCell (p := ⟨zb, 0, none⟩) (.inl rfl) (.int .i64 n0)).setCell (p := ⟨zb, 1, none⟩) (.inl rfl) (.int .i64 n1)).setCell (p := ⟨zb, 2, none⟩) (.inl rfl) (.int .i64 re)).setCell (p := ⟨zb, 3, none⟩) (.inl rfl) (.string rs)).setCell (p := ⟨zb, 4, none⟩) (.inl rfl) (.int .i64 ra)).setCell (p := ⟨zb, 5, none⟩) (.inl rfl) (.int .i64 rb)).setCell (p := ⟨zb, 6, none⟩) (.inl rfl) (.int .i64 rc)).setCell (p := ⟨zb, 7, none⟩) (.inl rfl) (.int .i64 rn)).setCell (p := ⟨zb, 8, none⟩) (.inl rfl) (.int .i64 n2))
        have SS := CZ.stored hC F9 R9
        have R9H := Lib.hid R9
        clear R9 F9
        have SS1 := Lib.hid SS
        clear SS
        go_simp
        exact hK undef _ R9H.out SS1.out.1 SS1.out.2
    exact trivial
  case hzT =>
    intro x hx w hC hd
    obtain ⟨z0, z1, z2, z3, z4, z5, z6, z7, z8, z9, z10, z11, z12, z13, rfl⟩ := len14 hx
    have hz12 : z12 = _ := hd 12 (by omega)
    have hst := hd 13 (by omega)
    subst hz12
    clear hd hx
    simp only [putAll, Act.put, List.setIfInBounds_toArray, List.set_cons_zero, List.set_cons_succ, List.set_nil]
    have R9 := Lib.hid hst
    have B9 := Lib.hid (HBW.out.trans ((CZ.fr hC).below HBW.out.size fun k hk => hk ▸ HZG.out))
    clear hC hst
    show wpList Try.prog _ _ (_ :: []) _ _
    go_wp2_with fail
    obtain ⟨m0, m1, m2, m3, m4, m5, m6, m7, m8, _⟩ := rowc9 R9.out
    refine bodyPost_ret (v := .tuple #[.agg #[.int .i64 n0, .int .i64 n1, .int .i64 re, .string rs, .int .i64 ra, .int .i64 rb, .int .i64 rc, .int .i64 rn, .int .i64 n2], .bool OK]) (by simp [results, Try.results45, go_sem, m0, m1, m2, m3, m4, m5, m6, m7, m8]) rfl ⟨rfl, B9.out⟩
end Go.Proofs.Ytphclpjekpdifaa
