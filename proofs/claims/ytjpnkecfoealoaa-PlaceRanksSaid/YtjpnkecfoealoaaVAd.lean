import Derived.Test.YtjpnkecfoealoaaVOf
namespace Go.Proofs.Ytjpnkecfoealoaa.Vc
set_option maxRecDepth 20000
open Go.RowKit
set_option linter.unusedVariables false
/-- what a number of many digits is worth -/
def worth (bl : Bool) (D : List Nat) : Int := if bl then -(Pd.val D : Int) else (Pd.val D : Int)
abbrev C2 (W : World) (g : Nat) (bl : Bool) (v : Value) : Prop := W.cell? ⟨g, 0, none⟩ = some (.bool bl) ∧ W.cell? ⟨g, 1, none⟩ = some v
theorem C2.keep {W W' : World} {g n : Nat} {bl : Bool} {v : Value} (h : C2 W g bl v) (hb : Below n W W') (hp : g < n) : C2 W' g bl v :=
  ⟨(hb.cell (p := ⟨g, 0, none⟩) hp).trans h.1, (hb.cell (p := ⟨g, 1, none⟩) hp).trans h.2⟩
theorem heap_two (W : World) (b : Nat) (x y : Value) (j : Nat) (h : j ≠ b) : ((W.setCell ⟨b, 0, none⟩ x).setCell ⟨b, 1, none⟩ y).heap[j]? = W.heap[j]? :=
  (Below.heap_setCell _ _ _ _ h).trans (Below.heap_setCell _ _ _ _ h)
theorem C2.two {W : World} {g b : Nat} {bl : Bool} {v : Value} (h : C2 W g bl v) (hne : g ≠ b) (x y : Value) : C2 ((W.setCell ⟨b, 0, none⟩ x).setCell ⟨b, 1, none⟩ y) g bl v :=
  ⟨(World.cell?_of_block (w := W) (heap_two W b x y g hne)).trans h.1, (World.cell?_of_block (w := W) (heap_two W b x y g hne)).trans h.2⟩
/-- a row of digits does not lie where a number's two cells lie -/
theorem Row.two {W : World} {A : Option Addr} {n cap b : Nat} {D : List Nat} {bl : Bool} {A1 : Option Addr} {n1 c1 : Nat} (h : Row W A n cap D) (g : GK W b bl (.slice A1 n1 c1)) (x y : Value) : Row ((W.setCell ⟨b, 0, none⟩ x).setCell ⟨b, 1, none⟩ y) A n cap D := by
  refine ⟨fun hne => ?_, h.len, h.le, h.cap', h.none', h.dig, h.small⟩
  obtain ⟨b', off, h1, h2, h3⟩ := h.at' hne
  have hb : b' ≠ b := by
    rintro rfl
    obtain ⟨d, hd⟩ : ∃ d, D[0]? = some d := by
      cases D with
      | nil => exact absurd rfl hne
      | cons d r => exact ⟨d, rfl⟩
    have h4 := h3 0 d hd
    rw [cell_of_row _ _ _ _ _ _ g] at h4
    match off, h4 with
    | 0, h4 => simp at h4
    | 1, h4 => simp at h4
    | k + 2, h4 => simp at h4
  refine ⟨b', off, h1, by simpa [World.setCell] using h2, fun j u hu => ?_⟩
  exact (World.cell?_of_block (w := W) (heap_two W b x y b' hb)).trans (h3 j u hu)
theorem add_same (p : Bool) (a b : List Nat) (A A' : Option Addr) (n cap n' cap' N : Nat) (w : World) (ra : Row w A n cap a) (rb : Row w A' n' cap' b) (h1 : n ≤ N) (h2 : n' ≤ N) (hN : N ≤ 99999) :
    Calls Try.prog 55 #[.agg #[.bool p, .slice A n cap], .agg #[.bool p, .slice A' n' cap']] w (BigPost (worth p a + worth p b) (N + 1) w) := by
  have RA := Lib.hid ra
  have RB := Lib.hid rb
  clear ra rb
  have hbld := fun A n c W => build45_2 p A n c W
  have K := ((GK.new w p (.slice A n cap)).alloc (.cells #[.bool p, .slice A' n' cap'] 69)).alloc (.cells #[.bool false, .slice none 0 0] 69)
  have L := (GK.new (w.alloc (.cells #[.bool p, .slice A n cap] 69)) p (.slice A' n' cap')).alloc (.cells #[.bool false, .slice none 0 0] 69)
  have M := GK.new ((w.alloc (.cells #[.bool p, .slice A n cap] 69)).alloc (.cells #[.bool p, .slice A' n' cap'] 69)) false (.slice none 0 0)
  have B : Below w.heap.size w (((w.alloc (.cells #[.bool p, .slice A n cap] 69)).alloc (.cells #[.bool p, .slice A' n' cap'] 69)).alloc (.cells #[.bool false, .slice none 0 0] 69)) := (((Below.refl _ _).alloc (Nat.le_refl _) _).alloc (by simp) _).alloc (by simp; omega) _
  simp only [World.size_alloc] at K L M
  have hpp : (p == p) = true := by simp
  go_enter Try.func55, Try.ntmps55
  go_wp2_with fail
  generalize (((w.alloc (.cells #[.bool p, .slice A n cap] 69)).alloc (.cells #[.bool p, .slice A' n' cap'] 69)).alloc (.cells #[.bool false, .slice none 0 0] 69)) = W0 at *
  have K0 := Lib.hid K
  have L0 := Lib.hid L
  have M0 := Lib.hid M
  have B0 := Lib.hid B
  have e1 : C2 W0.drew w.heap.size p (.slice A n cap) := K.c
  have e2 : C2 W0.drew (w.heap.size + 1) p (.slice A' n' cap') := L.c
  have D0 : Hid (Below W0.heap.size W0 W0.drew) := Lib.hid (Below.refl _ W0).drew
  have CP := Lib.hid fun (W : World) (h : Below W0.heap.size W0 W) => plus_any a b A A' n cap n' cap' N W ((RA.out.on B0.out).on h) ((RB.out.on B0.out).on h) h1 h2 hN
  clear K L M B
  go_region_held3 (fun W => C2 W w.heap.size p (.slice A n cap) ∧ C2 W (w.heap.size + 1) p (.slice A' n' cap')) (first | exact ⟨e1, e2⟩ | exact ⟨f1, f2⟩ | exact ⟨f1.two (by omega) _ _, f2.two (by omega) _ _⟩)
    ((go_at_call 48; (with_reducible refine (CP.out _ D0.out).mono ?_); rintro e w8 ⟨A2, m, c2, D, rfl, row, hv, hm, hb1⟩; have B1 : Hid (Below W0.heap.size W0 w8) := Lib.hid (D0.out.trans hb1); clear hb1; have f1 := C2.keep K0.out.c B1.out K0.out.lt; have f2 := C2.keep L0.out.c B1.out L0.out.lt; have M1 := Lib.hid (M0.out.on B1.out M0.out.lt); obtain ⟨m0, m1⟩ := M1.out.c; have mf0 := M1.out.f 0; have mf1 := M1.out.f 1; have RW := Lib.hid row; have HV := Lib.hid hv; clear row hv))
  all_goals
    go_wp2_with fail
    refine bodyPost_ret (v := .agg #[.bool p, .slice A2 m c2]) (by simp [results, Try.results55, go_sem, m0, m1]) rfl ?_
    exact ⟨p, A2, m, c2, D, rfl, RW.out.two M1.out _ _, by rw [HV.out]; cases p <;> simp [worth] <;> omega, hm, ((below_step B0.out B1.out).setCell (p := ⟨w.heap.size + 1 + 1, 0, none⟩) (by show w.heap.size ≤ w.heap.size + 1 + 1; omega) _).setCell (p := ⟨w.heap.size + 1 + 1, 1, none⟩) (by show w.heap.size ≤ w.heap.size + 1 + 1; omega) _⟩
theorem add_less_tf (a b : List Nat) (A A' : Option Addr) (n cap n' cap' N : Nat) (w : World) (ra : Row w A n cap a) (rb : Row w A' n' cap' b) (h1 : n ≤ N) (h2 : n' ≤ N) (hN : N ≤ 99999) (hlt : Pd.val a < Pd.val b) :
    Calls Try.prog 55 #[.agg #[.bool true, .slice A n cap], .agg #[.bool false, .slice A' n' cap']] w (BigPost (worth true a + worth false b) (N + 1) w) := by
  have RA := Lib.hid ra
  have RB := Lib.hid rb
  clear ra rb
  have hbld := fun A n c W => build45_2 false A n c W
  have K := ((GK.new w true (.slice A n cap)).alloc (.cells #[.bool false, .slice A' n' cap'] 69)).alloc (.cells #[.bool false, .slice none 0 0] 69)
  have L := (GK.new (w.alloc (.cells #[.bool true, .slice A n cap] 69)) false (.slice A' n' cap')).alloc (.cells #[.bool false, .slice none 0 0] 69)
  have M := GK.new ((w.alloc (.cells #[.bool true, .slice A n cap] 69)).alloc (.cells #[.bool false, .slice A' n' cap'] 69)) false (.slice none 0 0)
  have B : Below w.heap.size w (((w.alloc (.cells #[.bool true, .slice A n cap] 69)).alloc (.cells #[.bool false, .slice A' n' cap'] 69)).alloc (.cells #[.bool false, .slice none 0 0] 69)) := (((Below.refl _ _).alloc (Nat.le_refl _) _).alloc (by simp) _).alloc (by simp; omega) _
  simp only [World.size_alloc] at K L M
  have CL := Lib.hid fun (W : World) (h : Below w.heap.size w W) => less_any a b A A' n cap n' cap' W (RA.out.on h) (RB.out.on h)
  have hlb : lessB a b = true := by unfold lessB; simp; omega
  go_enter Try.func55, Try.ntmps55
  go_wp2_with (go_at_call 47; (with_reducible refine (CL.out _ B).mono ?_); rintro e w' ⟨rfl, rfl⟩)
  generalize (((w.alloc (.cells #[.bool true, .slice A n cap] 69)).alloc (.cells #[.bool false, .slice A' n' cap'] 69)).alloc (.cells #[.bool false, .slice none 0 0] 69)) = W0 at *
  have K0 := Lib.hid K
  have L0 := Lib.hid L
  have M0 := Lib.hid M
  have B0 := Lib.hid B
  have e1 : C2 W0.drew w.heap.size true (.slice A n cap) := K.c
  have e2 : C2 W0.drew (w.heap.size + 1) false (.slice A' n' cap') := L.c
  have D0 : Hid (Below W0.heap.size W0 W0.drew) := Lib.hid (Below.refl _ W0).drew
  have CP := Lib.hid fun (W : World) (h : Below W0.heap.size W0 W) => minus_any b a A' A n' cap' n cap N W ((RB.out.on B0.out).on h) ((RA.out.on B0.out).on h) h2 h1 hN (by omega)
  clear K L M B
  go_region_held3 (fun W => C2 W w.heap.size true (.slice A n cap) ∧ C2 W (w.heap.size + 1) false (.slice A' n' cap')) (first | exact ⟨e1, e2⟩ | exact ⟨f1, f2⟩ | exact ⟨f1.two (by omega) _ _, f2.two (by omega) _ _⟩)
    ((go_at_call 48; (with_reducible refine (CP.out _ D0.out).mono ?_); rintro e w8 ⟨A2, m, c2, D, rfl, row, hv, hm, hb1⟩; have B1 : Hid (Below W0.heap.size W0 w8) := Lib.hid (D0.out.trans hb1); clear hb1; have f1 := C2.keep K0.out.c B1.out K0.out.lt; have f2 := C2.keep L0.out.c B1.out L0.out.lt; have M1 := Lib.hid (M0.out.on B1.out M0.out.lt); obtain ⟨m0, m1⟩ := M1.out.c; have mf0 := M1.out.f 0; have mf1 := M1.out.f 1; have RW := Lib.hid row; have HV := Lib.hid hv; clear row hv))
  all_goals
    go_wp2_with fail
    refine bodyPost_ret (v := .agg #[.bool false, .slice A2 m c2]) (by simp [results, Try.results55, go_sem, m0, m1]) rfl ?_
    exact ⟨false, A2, m, c2, D, rfl, RW.out.two M1.out _ _, by rw [HV.out]; simp [worth]; omega, hm, ((below_step B0.out B1.out).setCell (p := ⟨w.heap.size + 1 + 1, 0, none⟩) (by show w.heap.size ≤ w.heap.size + 1 + 1; omega) _).setCell (p := ⟨w.heap.size + 1 + 1, 1, none⟩) (by show w.heap.size ≤ w.heap.size + 1 + 1; omega) _⟩
theorem add_more_tf (a b : List Nat) (A A' : Option Addr) (n cap n' cap' N : Nat) (w : World) (ra : Row w A n cap a) (rb : Row w A' n' cap' b) (h1 : n ≤ N) (h2 : n' ≤ N) (hN : N ≤ 99999) (hlt : Pd.val b ≤ Pd.val a) :
    Calls Try.prog 55 #[.agg #[.bool true, .slice A n cap], .agg #[.bool false, .slice A' n' cap']] w (BigPost (worth true a + worth false b) (N + 1) w) := by
  have RA := Lib.hid ra
  have RB := Lib.hid rb
  clear ra rb
  have hbld := fun A n c W => build45_2 true A n c W
  have K := ((GK.new w true (.slice A n cap)).alloc (.cells #[.bool false, .slice A' n' cap'] 69)).alloc (.cells #[.bool false, .slice none 0 0] 69)
  have L := (GK.new (w.alloc (.cells #[.bool true, .slice A n cap] 69)) false (.slice A' n' cap')).alloc (.cells #[.bool false, .slice none 0 0] 69)
  have M := GK.new ((w.alloc (.cells #[.bool true, .slice A n cap] 69)).alloc (.cells #[.bool false, .slice A' n' cap'] 69)) false (.slice none 0 0)
  have B : Below w.heap.size w (((w.alloc (.cells #[.bool true, .slice A n cap] 69)).alloc (.cells #[.bool false, .slice A' n' cap'] 69)).alloc (.cells #[.bool false, .slice none 0 0] 69)) := (((Below.refl _ _).alloc (Nat.le_refl _) _).alloc (by simp) _).alloc (by simp; omega) _
  simp only [World.size_alloc] at K L M
  have CL := Lib.hid fun (W : World) (h : Below w.heap.size w W) => less_any a b A A' n cap n' cap' W (RA.out.on h) (RB.out.on h)
  have hlb : lessB a b = false := by unfold lessB; simp; omega
  go_enter Try.func55, Try.ntmps55
  go_wp2_with (go_at_call 47; (with_reducible refine (CL.out _ B).mono ?_); rintro e w' ⟨rfl, rfl⟩)
  generalize (((w.alloc (.cells #[.bool true, .slice A n cap] 69)).alloc (.cells #[.bool false, .slice A' n' cap'] 69)).alloc (.cells #[.bool false, .slice none 0 0] 69)) = W0 at *
  have K0 := Lib.hid K
  have L0 := Lib.hid L
  have M0 := Lib.hid M
  have B0 := Lib.hid B
  have e1 : C2 W0.drew w.heap.size true (.slice A n cap) := K.c
  have e2 : C2 W0.drew (w.heap.size + 1) false (.slice A' n' cap') := L.c
  have D0 : Hid (Below W0.heap.size W0 W0.drew) := Lib.hid (Below.refl _ W0).drew
  have CP := Lib.hid fun (W : World) (h : Below W0.heap.size W0 W) => minus_any a b A A' n cap n' cap' N W ((RA.out.on B0.out).on h) ((RB.out.on B0.out).on h) h1 h2 hN (by omega)
  clear K L M B
  go_region_held3 (fun W => C2 W w.heap.size true (.slice A n cap) ∧ C2 W (w.heap.size + 1) false (.slice A' n' cap')) (first | exact ⟨e1, e2⟩ | exact ⟨f1, f2⟩ | exact ⟨f1.two (by omega) _ _, f2.two (by omega) _ _⟩)
    ((go_at_call 48; (with_reducible refine (CP.out _ D0.out).mono ?_); rintro e w8 ⟨A2, m, c2, D, rfl, row, hv, hm, hb1⟩; have B1 : Hid (Below W0.heap.size W0 w8) := Lib.hid (D0.out.trans hb1); clear hb1; have f1 := C2.keep K0.out.c B1.out K0.out.lt; have f2 := C2.keep L0.out.c B1.out L0.out.lt; have M1 := Lib.hid (M0.out.on B1.out M0.out.lt); obtain ⟨m0, m1⟩ := M1.out.c; have mf0 := M1.out.f 0; have mf1 := M1.out.f 1; have RW := Lib.hid row; have HV := Lib.hid hv; clear row hv))
  all_goals
    go_wp2_with fail
    refine bodyPost_ret (v := .agg #[.bool true, .slice A2 m c2]) (by simp [results, Try.results55, go_sem, m0, m1]) rfl ?_
    exact ⟨true, A2, m, c2, D, rfl, RW.out.two M1.out _ _, by rw [HV.out]; simp [worth]; omega, hm, ((below_step B0.out B1.out).setCell (p := ⟨w.heap.size + 1 + 1, 0, none⟩) (by show w.heap.size ≤ w.heap.size + 1 + 1; omega) _).setCell (p := ⟨w.heap.size + 1 + 1, 1, none⟩) (by show w.heap.size ≤ w.heap.size + 1 + 1; omega) _⟩
theorem add_less_ft (a b : List Nat) (A A' : Option Addr) (n cap n' cap' N : Nat) (w : World) (ra : Row w A n cap a) (rb : Row w A' n' cap' b) (h1 : n ≤ N) (h2 : n' ≤ N) (hN : N ≤ 99999) (hlt : Pd.val a < Pd.val b) :
    Calls Try.prog 55 #[.agg #[.bool false, .slice A n cap], .agg #[.bool true, .slice A' n' cap']] w (BigPost (worth false a + worth true b) (N + 1) w) := by
  have RA := Lib.hid ra
  have RB := Lib.hid rb
  clear ra rb
  have hbld := fun A n c W => build45_2 true A n c W
  have K := ((GK.new w false (.slice A n cap)).alloc (.cells #[.bool true, .slice A' n' cap'] 69)).alloc (.cells #[.bool false, .slice none 0 0] 69)
  have L := (GK.new (w.alloc (.cells #[.bool false, .slice A n cap] 69)) true (.slice A' n' cap')).alloc (.cells #[.bool false, .slice none 0 0] 69)
  have M := GK.new ((w.alloc (.cells #[.bool false, .slice A n cap] 69)).alloc (.cells #[.bool true, .slice A' n' cap'] 69)) false (.slice none 0 0)
  have B : Below w.heap.size w (((w.alloc (.cells #[.bool false, .slice A n cap] 69)).alloc (.cells #[.bool true, .slice A' n' cap'] 69)).alloc (.cells #[.bool false, .slice none 0 0] 69)) := (((Below.refl _ _).alloc (Nat.le_refl _) _).alloc (by simp) _).alloc (by simp; omega) _
  simp only [World.size_alloc] at K L M
  have CL := Lib.hid fun (W : World) (h : Below w.heap.size w W) => less_any a b A A' n cap n' cap' W (RA.out.on h) (RB.out.on h)
  have hlb : lessB a b = true := by unfold lessB; simp; omega
  go_enter Try.func55, Try.ntmps55
  go_wp2_with (go_at_call 47; (with_reducible refine (CL.out _ B).mono ?_); rintro e w' ⟨rfl, rfl⟩)
  generalize (((w.alloc (.cells #[.bool false, .slice A n cap] 69)).alloc (.cells #[.bool true, .slice A' n' cap'] 69)).alloc (.cells #[.bool false, .slice none 0 0] 69)) = W0 at *
  have K0 := Lib.hid K
  have L0 := Lib.hid L
  have M0 := Lib.hid M
  have B0 := Lib.hid B
  have e1 : C2 W0.drew w.heap.size false (.slice A n cap) := K.c
  have e2 : C2 W0.drew (w.heap.size + 1) true (.slice A' n' cap') := L.c
  have D0 : Hid (Below W0.heap.size W0 W0.drew) := Lib.hid (Below.refl _ W0).drew
  have CP := Lib.hid fun (W : World) (h : Below W0.heap.size W0 W) => minus_any b a A' A n' cap' n cap N W ((RB.out.on B0.out).on h) ((RA.out.on B0.out).on h) h2 h1 hN (by omega)
  clear K L M B
  go_region_held3 (fun W => C2 W w.heap.size false (.slice A n cap) ∧ C2 W (w.heap.size + 1) true (.slice A' n' cap')) (first | exact ⟨e1, e2⟩ | exact ⟨f1, f2⟩ | exact ⟨f1.two (by omega) _ _, f2.two (by omega) _ _⟩)
    ((go_at_call 48; (with_reducible refine (CP.out _ D0.out).mono ?_); rintro e w8 ⟨A2, m, c2, D, rfl, row, hv, hm, hb1⟩; have B1 : Hid (Below W0.heap.size W0 w8) := Lib.hid (D0.out.trans hb1); clear hb1; have f1 := C2.keep K0.out.c B1.out K0.out.lt; have f2 := C2.keep L0.out.c B1.out L0.out.lt; have M1 := Lib.hid (M0.out.on B1.out M0.out.lt); obtain ⟨m0, m1⟩ := M1.out.c; have mf0 := M1.out.f 0; have mf1 := M1.out.f 1; have RW := Lib.hid row; have HV := Lib.hid hv; clear row hv))
  all_goals
    go_wp2_with fail
    refine bodyPost_ret (v := .agg #[.bool true, .slice A2 m c2]) (by simp [results, Try.results55, go_sem, m0, m1]) rfl ?_
    exact ⟨true, A2, m, c2, D, rfl, RW.out.two M1.out _ _, by rw [HV.out]; simp [worth]; omega, hm, ((below_step B0.out B1.out).setCell (p := ⟨w.heap.size + 1 + 1, 0, none⟩) (by show w.heap.size ≤ w.heap.size + 1 + 1; omega) _).setCell (p := ⟨w.heap.size + 1 + 1, 1, none⟩) (by show w.heap.size ≤ w.heap.size + 1 + 1; omega) _⟩
theorem add_more_ft (a b : List Nat) (A A' : Option Addr) (n cap n' cap' N : Nat) (w : World) (ra : Row w A n cap a) (rb : Row w A' n' cap' b) (h1 : n ≤ N) (h2 : n' ≤ N) (hN : N ≤ 99999) (hlt : Pd.val b ≤ Pd.val a) :
    Calls Try.prog 55 #[.agg #[.bool false, .slice A n cap], .agg #[.bool true, .slice A' n' cap']] w (BigPost (worth false a + worth true b) (N + 1) w) := by
  have RA := Lib.hid ra
  have RB := Lib.hid rb
  clear ra rb
  have hbld := fun A n c W => build45_2 false A n c W
  have K := ((GK.new w false (.slice A n cap)).alloc (.cells #[.bool true, .slice A' n' cap'] 69)).alloc (.cells #[.bool false, .slice none 0 0] 69)
  have L := (GK.new (w.alloc (.cells #[.bool false, .slice A n cap] 69)) true (.slice A' n' cap')).alloc (.cells #[.bool false, .slice none 0 0] 69)
  have M := GK.new ((w.alloc (.cells #[.bool false, .slice A n cap] 69)).alloc (.cells #[.bool true, .slice A' n' cap'] 69)) false (.slice none 0 0)
  have B : Below w.heap.size w (((w.alloc (.cells #[.bool false, .slice A n cap] 69)).alloc (.cells #[.bool true, .slice A' n' cap'] 69)).alloc (.cells #[.bool false, .slice none 0 0] 69)) := (((Below.refl _ _).alloc (Nat.le_refl _) _).alloc (by simp) _).alloc (by simp; omega) _
  simp only [World.size_alloc] at K L M
  have CL := Lib.hid fun (W : World) (h : Below w.heap.size w W) => less_any a b A A' n cap n' cap' W (RA.out.on h) (RB.out.on h)
  have hlb : lessB a b = false := by unfold lessB; simp; omega
  go_enter Try.func55, Try.ntmps55
  go_wp2_with (go_at_call 47; (with_reducible refine (CL.out _ B).mono ?_); rintro e w' ⟨rfl, rfl⟩)
  generalize (((w.alloc (.cells #[.bool false, .slice A n cap] 69)).alloc (.cells #[.bool true, .slice A' n' cap'] 69)).alloc (.cells #[.bool false, .slice none 0 0] 69)) = W0 at *
  have K0 := Lib.hid K
  have L0 := Lib.hid L
  have M0 := Lib.hid M
  have B0 := Lib.hid B
  have e1 : C2 W0.drew w.heap.size false (.slice A n cap) := K.c
  have e2 : C2 W0.drew (w.heap.size + 1) true (.slice A' n' cap') := L.c
  have D0 : Hid (Below W0.heap.size W0 W0.drew) := Lib.hid (Below.refl _ W0).drew
  have CP := Lib.hid fun (W : World) (h : Below W0.heap.size W0 W) => minus_any a b A A' n cap n' cap' N W ((RA.out.on B0.out).on h) ((RB.out.on B0.out).on h) h1 h2 hN (by omega)
  clear K L M B
  go_region_held3 (fun W => C2 W w.heap.size false (.slice A n cap) ∧ C2 W (w.heap.size + 1) true (.slice A' n' cap')) (first | exact ⟨e1, e2⟩ | exact ⟨f1, f2⟩ | exact ⟨f1.two (by omega) _ _, f2.two (by omega) _ _⟩)
    ((go_at_call 48; (with_reducible refine (CP.out _ D0.out).mono ?_); rintro e w8 ⟨A2, m, c2, D, rfl, row, hv, hm, hb1⟩; have B1 : Hid (Below W0.heap.size W0 w8) := Lib.hid (D0.out.trans hb1); clear hb1; have f1 := C2.keep K0.out.c B1.out K0.out.lt; have f2 := C2.keep L0.out.c B1.out L0.out.lt; have M1 := Lib.hid (M0.out.on B1.out M0.out.lt); obtain ⟨m0, m1⟩ := M1.out.c; have mf0 := M1.out.f 0; have mf1 := M1.out.f 1; have RW := Lib.hid row; have HV := Lib.hid hv; clear row hv))
  all_goals
    go_wp2_with fail
    refine bodyPost_ret (v := .agg #[.bool false, .slice A2 m c2]) (by simp [results, Try.results55, go_sem, m0, m1]) rfl ?_
    exact ⟨false, A2, m, c2, D, rfl, RW.out.two M1.out _ _, by rw [HV.out]; simp [worth]; omega, hm, ((below_step B0.out B1.out).setCell (p := ⟨w.heap.size + 1 + 1, 0, none⟩) (by show w.heap.size ≤ w.heap.size + 1 + 1; omega) _).setCell (p := ⟨w.heap.size + 1 + 1, 1, none⟩) (by show w.heap.size ≤ w.heap.size + 1 + 1; omega) _⟩
theorem add_big (p q : Bool) (a b : List Nat) (A A' : Option Addr) (n cap n' cap' N : Nat) (w : World) (ra : Row w A n cap a) (rb : Row w A' n' cap' b) (h1 : n ≤ N) (h2 : n' ≤ N) (hN : N ≤ 99999) :
    Calls Try.prog 55 #[.agg #[.bool p, .slice A n cap], .agg #[.bool q, .slice A' n' cap']] w (BigPost (worth p a + worth q b) (N + 1) w) := by
  cases p with
  | true =>
    cases q with
    | true => exact add_same true a b A A' n cap n' cap' N w ra rb h1 h2 hN
    | false =>
      by_cases h : Pd.val a < Pd.val b
      · exact add_less_tf a b A A' n cap n' cap' N w ra rb h1 h2 hN h
      · exact add_more_tf a b A A' n cap n' cap' N w ra rb h1 h2 hN (by omega)
  | false =>
    cases q with
    | false => exact add_same false a b A A' n cap n' cap' N w ra rb h1 h2 hN
    | true =>
      by_cases h : Pd.val a < Pd.val b
      · exact add_less_ft a b A A' n cap n' cap' N w ra rb h1 h2 hN h
      · exact add_more_ft a b A A' n cap n' cap' N w ra rb h1 h2 hN (by omega)
end Go.Proofs.Ytjpnkecfoealoaa.Vc
