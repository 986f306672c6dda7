import Derived.Test.YtmdkjdmiikbhcaaLinear
namespace Go.Proofs.Ytmdkjdmiikbhcaa
open Go.RowKit
set_option linter.unusedVariables false

theorem max2 (x : Int) (w : World) : Sem.run Try.prog (Builtin.max_ #[3, 3] 3 #[.int .i64 x, .int .i64 0]) w = .ok (.int .i64 (max x 0)) w := by
  unfold Builtin.max_
  simp only [Builtin.max2, List.foldlM]
  simp
  split <;> omega

set_option maxRecDepth 20000 in
set_option maxHeartbeats 2000000 in
theorem law_sums (b : List UInt8) (A : Option Addr) (n cap : Nat) (s m : Int) (w : World) (hb : BytesAt w w.heap.size A b) (hn : b.length = n) (hnc : n ≤ cap) (hc : cap ≤ 9223372036854775807) (hA : A = none → cap = 0)
    (s0 : 0 ≤ s) (s1 : s ≤ 4294967295) (m0 : -9223372036854775808 ≤ m) (m1 : m ≤ 9223372036854775807) :
    Calls Try.prog 3 #[.slice A n cap, .int .u32 s, .int .i64 m] w (RetBelow (.bool true) w) := by
  obtain ⟨x, rfl⟩ := Int.eq_ofNat_of_zero_le s0
  have hx : x < 4294967296 := by omega
  have HN := Lib.hid hn
  have HB := Lib.hid hb
  have HA := Lib.hid hA
  clear hn hb hA
  go_enter Try.func3, Try.ntmps3
  go_wp2_with fail
  refine (awake_any _).mono ?_
  rintro e w1 ⟨rfl, hb1⟩
  have B1 := Lib.hid hb1
  clear hb1
  by_cases hl : 65536 < n
  · go_wp2_with fail
    go_ret
    exact ⟨rfl, B1.out⟩
  by_cases hm : 5000 < m
  · go_wp2_with fail
    go_ret
    exact ⟨rfl, B1.out⟩
  have hnew := Lib.hid (OwnB.new w1)
  have hs1 := B1.out.size
  have hb2 : Below w.heap.size w (w1.alloc (.cells #[] 5)) := B1.out.alloc B1.out.size _
  have B2 := Lib.hid hb2
  clear hb2
  have d1 : decide ((65536 : Int) < (n : Int)) = false := by rw [decide_eq_false_iff_not]; omega
  have d2 : decide (5000 < m) = false := by rw [decide_eq_false_iff_not]; omega
  go_wp2_with (at_builtin; (refine wp_appB rfl (.tmp 17) (.tmp 18) rfl w1.heap.size _ [] rfl hnew.out A n cap _ b rfl HA.out (HB.out.on B2.out) HN.out hnc (by simp; omega) (by simp) ?_); intro v3 w3 own3 hb3; obtain ⟨A3, cap3, rfl, hbt3, hc3, hcm3⟩ := own3.form)
  simp only [List.nil_append] at own3 hbt3 hc3 ⊢
  rw [HN.out] at hc3 ⊢
  have hb03 : Below w.heap.size w w3 := B2.out.trans (hb3.mono hs1)
  have B3 := Lib.hid hb03
  have T3 := Lib.hid hbt3
  clear own3 hb3 hb03 hbt3 hnew B2 d1 d2
  obtain ⟨N, hN⟩ := Int.eq_ofNat_of_zero_le (show 0 ≤ max m 0 by omega)
  have hmax := fun W => max2 m W
  rw [hN] at hmax
  have hmk := fun W => mkB N (by omega) W
  have hzs : Pl.more x (List.replicate N 0) = zs x m := by unfold zs; congr 2; omega
  have cs := Lib.hid (fun (W : World) (h : Below w3.heap.size w3 W) => sum_any b A3 n cap3 W (T3.out.on h) HN.out (by omega))
  have cm := Lib.hid (fun (W : World) (h : Below w3.heap.size w3 W) => more_any x b A3 n cap3 W hx (T3.out.on h) HN.out (by omega))
  have cr := Lib.hid (fun (W : World) (h : Below w.heap.size w W) => refSum_any b A n cap _ W (HB.out.on h) HN.out (by omega))
  have cq := Lib.hid (fun (W : World) (h : Below w.heap.size w W) => refMore_any x b A n cap _ W hx (HB.out.on h) HN.out (by omega))
  have cz := Lib.hid (fun (W : World) => zeros_any x m W hx (by omega))
  have cv := Lib.hid (fun (W : World) => refMore_any x (List.replicate N 0) (some ⟨W.heap.size, 0, none⟩) N N _ (W.alloc (.cells (vB (List.replicate N 0)).toArray 5)) hx (bytes_new W (List.replicate N 0) (W.heap.size + 1) (by omega)) (by simp) (by omega))
  have c1 := Lib.hid (fun (W : World) (h : Below w3.heap.size w3 W) => conv_str (T3.out.on h) n cap3 HN.out)
  have c2 := Lib.hid (fun (W : World) (h : Below w.heap.size w W) => conv_str (HB.out.on h) n cap HN.out)
  rw [hzs] at cv
  have hdr : Below w3.heap.size w3 w3.drew := (Below.refl _ w3).drew
  have D0 := Lib.hid hdr
  clear hdr hN hzs
  generalize Pl.sum b = X at *
  generalize Pl.more x b = Y at *
  generalize zs x m = Z at *
  generalize (⟨b.toArray⟩ : ByteArray) = st at *
  have e1 := c1.out _ D0.out
  have e2 := c2.out _ (B3.out.trans (D0.out.mono B3.out.size))
  go_region_held3 (fun W => Sem.run Try.prog (convert 22 9 (.slice A3 n cap3)) W = .ok (.string st) W ∧ Sem.run Try.prog (convert 22 9 (.slice A n cap)) W = .ok (.string st) W)
   (first | exact ⟨e1, e2⟩ | exact ⟨e3, e4⟩ | exact ⟨e5, e6⟩ | exact ⟨c1.out _ (B5.out.alloc B5.out.size _), c2.out _ (B5'.out.alloc B5'.out.size _)⟩) (first
    | (go_at_call 10; (with_reducible refine (cs.out _ D0.out).mono ?_); rintro e w4 ⟨rfl, hb4⟩; have B4 : Hid (Below w3.heap.size w3 w4) := Lib.hid (D0.out.trans hb4); have B4' : Hid (Below w.heap.size w w4) := Lib.hid (B3.out.trans (B4.out.mono B3.out.size)); clear hb4; have e3 := c1.out _ B4.out; have e4 := c2.out _ B4'.out)
    | (go_at_call 11; (with_reducible refine (cr.out _ B4'.out).mono ?_); rintro e w' ⟨rfl, rfl⟩)
    | (go_at_call 12; (with_reducible refine (cm.out _ B4.out).mono ?_); rintro e w5 ⟨rfl, hb5⟩; have B5 : Hid (Below w3.heap.size w3 w5) := Lib.hid (B4.out.trans (hb5.mono B4.out.size)); have B5' : Hid (Below w.heap.size w w5) := Lib.hid (B3.out.trans (B5.out.mono B3.out.size)); clear hb5; have e5 := c1.out _ B5.out; have e6 := c2.out _ B5'.out)
    | (go_at_call 13; (with_reducible refine (cq.out _ B5'.out).mono ?_); rintro e w' ⟨rfl, rfl⟩)
    | (go_at_call 14; (with_reducible refine (cz.out _).mono ?_); rintro e w' ⟨rfl, rfl⟩)
    | (go_at_call 13; (with_reducible refine (cv.out _).mono ?_); rintro e w' ⟨rfl, rfl⟩))
  all_goals
    go_wp2_with fail
    go_ret
    exact ⟨rfl, B5'.out.alloc B5'.out.size _⟩
end Go.Proofs.Ytmdkjdmiikbhcaa
