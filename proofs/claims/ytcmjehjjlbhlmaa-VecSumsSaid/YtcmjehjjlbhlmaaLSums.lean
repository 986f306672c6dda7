import Derived.Test.YtcmjehjjlbhlmaaRs
namespace Go.Proofs.Ytcmjehjjlbhlmaa
open Go.RowKit
set_option linter.unusedVariables false
set_option maxRecDepth 20000 in
set_option maxHeartbeats 1000000 in
theorem law_sums (L : List V3) (A : Option Addr) (n cap : Nat) (w : World) (hb : VecsAt w w.heap.size A L) (hn : L.length = n) (hok : ∀ v ∈ L, Vok v) (hnc : n ≤ cap) (hc : cap ≤ 9223372036854775807) (hA : A = none → cap = 0) :
    Calls Try.prog 4 #[.slice A n cap] w (RetBelow (.bool true) w) := by
  have HN := Lib.hid hn
  have HB := Lib.hid hb
  have HO := Lib.hid hok
  have HA := Lib.hid hA
  clear hn hb hok hA
  go_enter Try.func4, Try.ntmps4
  go_wp2_with fail
  refine (awake_any _).mono ?_
  rintro _ w1 ⟨rfl, hb⟩
  have B := Lib.hid hb
  clear hb
  by_cases c1 : 60 < n
  · go_wp2_with fail
    go_ret
    exact ⟨rfl, B.out⟩
  have hnew := Lib.hid (OwnV.new w1)
  have B2 := Lib.hid (below_box B.out (.cells #[] 23))
  have hs1 := B.out.size
  go_wp2_with ((at_builtin; (refine wp_appV rfl (.tmp 13) (.tmp 14) rfl w1.heap.size _ [] rfl hnew.out A n cap _ L rfl HA.out ((HB.out.on B2.out).mono B2.out.size) HN.out hnc (by simp; omega) (by simp) ?_); intro v3 w3 own3 hb3; obtain ⟨A3, cap3, rfl, hbt3, hc3, hcm3⟩ := own3.form; have B3 := Lib.hid (B2.out.trans (hb3.mono hs1)); have T3 := Lib.hid hbt3; have hc3' := Lib.hid hc3; clear own3 hbt3 hb3 hc3))
  simp only [List.nil_append] at T3
  have ev := Lib.hid HN.out
  obtain ⟨p, q, r, e, he⟩ := outV_form (sX L) (sY L) (sZ L)
  have t1 := Lib.hid fun W : World => fun h : VecsAt W W.heap.size A3 L => sum_any L A3 L.length cap3 W h rfl HO.out (by have := HN.out; omega)
  have t2 := Lib.hid fun W : World => fun h : Below w.heap.size w W => refSum_any L A n cap W ((HB.out.on h).mono h.size) HN.out HO.out (by omega)
  rw [he] at t1 t2
  have hq := fun W => eq23 p q r p q r W
  rw [eqV_refl] at hq
  clear he
  refine (t1.out _ T3.out).mono ?_
  rintro _ w4 ⟨rfl, hb⟩
  have B := Lib.hid (below_box (below_step B3.out hb) (.cells #[.int .i64 p, .int .i64 q, .int .i64 r] 23))
  have K := Lib.hid (BK.new w4 p q r)
  clear hb
  go_wp2_with fail
  refine (t2.out _ B.out).mono ?_
  rintro _ w5 ⟨rfl, hb⟩
  have B := Lib.hid (below_box (below_step B.out hb) (.cells #[.int .i64 p, .int .i64 q, .int .i64 r] 23))
  have K := Lib.hid ((K.out.on hb K.out.lt).alloc (.cells #[.int .i64 p, .int .i64 q, .int .i64 r] 23))
  obtain ⟨K0, K1, K2⟩ := K.out.c3
  clear hb
  go_wp2_with fail
  go_ret
  exact ⟨rfl, B.out⟩
end Go.Proofs.Ytcmjehjjlbhlmaa
