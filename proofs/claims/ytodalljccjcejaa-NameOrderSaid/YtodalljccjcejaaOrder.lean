import Derived.Test.YtodalljccjcejaaJoins
namespace Go.Proofs.Ytodalljccjcejaa
open Go.RowKit
set_option linter.unusedVariables false

set_option maxHeartbeats 4000000 in
set_option maxRecDepth 100000 in
theorem order_core (SA SB SC : ByteArray) (xab xba xbc xac is was y : Bool) (na nb : Nat) (w : World) (hsa : SA.size ≤ 140737488351232) (hsb : SB.size ≤ 140737488351232)
    (F1 : (xab && xba) = false) (F2 : xab = true → xbc = true → xac = true) (F3 : is = true → was = true → ¬ SA = SB → xab = false → xba = true) (F4 : is = true → y = false)
    (Caa : Hid (∀ w, Calls Try.prog 19 #[.string SA, .string SA] w (Ret (.bool false) w)))
    (Cab : Hid (∀ w, Calls Try.prog 19 #[.string SA, .string SB] w (Ret (.bool xab) w)))
    (Cba : Hid (∀ w, Calls Try.prog 19 #[.string SB, .string SA] w (Ret (.bool xba) w)))
    (Cbc : Hid (∀ w, Calls Try.prog 19 #[.string SB, .string SC] w (Ret (.bool xbc) w)))
    (Cac : Hid (∀ w, Calls Try.prog 19 #[.string SA, .string SC] w (Ret (.bool xac) w)))
    (Cy : Hid (∀ w, Calls Try.prog 19 #[.string (SA ++ SB), .string SA] w (Ret (.bool y) w)))
    (Cra : Hid (∀ w, Calls Try.prog 11 #[.string SA] w (Ret (.tuple #[.int .i64 (na : Nat), .bool is]) w)))
    (Crb : Hid (∀ w, Calls Try.prog 11 #[.string SB] w (Ret (.tuple #[.int .i64 (nb : Nat), .bool was]) w))) :
    Calls Try.prog 6 #[.string SA, .string SB, .string SC] w (Ret (.bool true) w) := by
  cases xab with
  | true =>
    cases xba with
    | true =>
      exact absurd F1 (by decide)
    | false =>
      cases xbc with
      | true =>
        cases xac with
        | true =>
          cases is with
          | true =>
            cases was with
            | true =>
              by_cases heq : SA = SB
              · subst heq
                cases y with
                | true =>
                  exact absurd (F4 rfl) (by decide)
                | false =>
                  have B0 := Lib.hid (Below.refl w.heap.size w)
                  go_enter Try.func6, Try.ntmps6
                  go_wp2_with fail
                  refine (awake_any _).mono ?_
                  rintro e w1 ⟨rfl, hb⟩
                  have B1 := Lib.hid (B0.out.trans (hb.mono B0.out.size))
                  clear hb
                  go_wp2_with fail
                  refine (Caa.out _).mono ?_
                  rintro e w2 ⟨rfl, hb⟩
                  have B2 := Lib.hid (B1.out.trans (hb.mono B1.out.size))
                  clear hb
                  go_wp2_with fail
                  refine (Cab.out _).mono ?_
                  rintro e w3 ⟨rfl, hb⟩
                  have B3 := Lib.hid (B2.out.trans (hb.mono B2.out.size))
                  clear hb
                  go_wp2_with fail
                  refine (Cba.out _).mono ?_
                  rintro e w4 ⟨rfl, hb⟩
                  have B4 := Lib.hid (B3.out.trans (hb.mono B3.out.size))
                  clear hb
                  go_wp2_with fail
                  refine (Cab.out _).mono ?_
                  rintro e w5 ⟨rfl, hb⟩
                  have B5 := Lib.hid (B4.out.trans (hb.mono B4.out.size))
                  clear hb
                  go_wp2_with fail
                  refine (Cbc.out _).mono ?_
                  rintro e w6 ⟨rfl, hb⟩
                  have B6 := Lib.hid (B5.out.trans (hb.mono B5.out.size))
                  clear hb
                  go_wp2_with fail
                  refine (Cac.out _).mono ?_
                  rintro e w7 ⟨rfl, hb⟩
                  have B7 := Lib.hid (B6.out.trans (hb.mono B6.out.size))
                  clear hb
                  go_wp2_with fail
                  refine (Cra.out _).mono ?_
                  rintro e w8 ⟨rfl, hb⟩
                  have B8 := Lib.hid (B7.out.trans (hb.mono B7.out.size))
                  clear hb
                  go_wp2_with fail
                  refine (Crb.out _).mono ?_
                  rintro e w9 ⟨rfl, hb⟩
                  have B9 := Lib.hid (B8.out.trans (hb.mono B8.out.size))
                  clear hb
                  go_wp2_with fail
                  refine (Cy.out _).mono ?_
                  rintro e w10 ⟨rfl, hb⟩
                  have B10 := Lib.hid (B9.out.trans (hb.mono B9.out.size))
                  clear hb
                  go_wp2_with fail
                  go_ret
                  exact ⟨rfl, B10.out⟩
              · have hne : (SA.toList == SB.toList) = false := by rw [ByteArray.toList_eq, ByteArray.toList_eq, beq_eq_false_iff_ne]; intro e; exact heq (by rw [← str_list SA, ← str_list SB, e])
                cases y with
                | true =>
                  exact absurd (F4 rfl) (by decide)
                | false =>
                  have B0 := Lib.hid (Below.refl w.heap.size w)
                  go_enter Try.func6, Try.ntmps6
                  go_wp2_with fail
                  refine (awake_any _).mono ?_
                  rintro e w1 ⟨rfl, hb⟩
                  have B1 := Lib.hid (B0.out.trans (hb.mono B0.out.size))
                  clear hb
                  go_wp2_with fail
                  refine (Caa.out _).mono ?_
                  rintro e w2 ⟨rfl, hb⟩
                  have B2 := Lib.hid (B1.out.trans (hb.mono B1.out.size))
                  clear hb
                  go_wp2_with fail
                  refine (Cab.out _).mono ?_
                  rintro e w3 ⟨rfl, hb⟩
                  have B3 := Lib.hid (B2.out.trans (hb.mono B2.out.size))
                  clear hb
                  go_wp2_with fail
                  refine (Cba.out _).mono ?_
                  rintro e w4 ⟨rfl, hb⟩
                  have B4 := Lib.hid (B3.out.trans (hb.mono B3.out.size))
                  clear hb
                  go_wp2_with fail
                  refine (Cab.out _).mono ?_
                  rintro e w5 ⟨rfl, hb⟩
                  have B5 := Lib.hid (B4.out.trans (hb.mono B4.out.size))
                  clear hb
                  go_wp2_with fail
                  refine (Cbc.out _).mono ?_
                  rintro e w6 ⟨rfl, hb⟩
                  have B6 := Lib.hid (B5.out.trans (hb.mono B5.out.size))
                  clear hb
                  go_wp2_with fail
                  refine (Cac.out _).mono ?_
                  rintro e w7 ⟨rfl, hb⟩
                  have B7 := Lib.hid (B6.out.trans (hb.mono B6.out.size))
                  clear hb
                  go_wp2_with fail
                  refine (Cra.out _).mono ?_
                  rintro e w8 ⟨rfl, hb⟩
                  have B8 := Lib.hid (B7.out.trans (hb.mono B7.out.size))
                  clear hb
                  go_wp2_with fail
                  refine (Crb.out _).mono ?_
                  rintro e w9 ⟨rfl, hb⟩
                  have B9 := Lib.hid (B8.out.trans (hb.mono B8.out.size))
                  clear hb
                  go_wp2_with fail
                  refine (Cab.out _).mono ?_
                  rintro e w10 ⟨rfl, hb⟩
                  have B10 := Lib.hid (B9.out.trans (hb.mono B9.out.size))
                  clear hb
                  go_wp2_with fail
                  refine (Cy.out _).mono ?_
                  rintro e w11 ⟨rfl, hb⟩
                  have B11 := Lib.hid (B10.out.trans (hb.mono B10.out.size))
                  clear hb
                  go_wp2_with fail
                  go_ret
                  exact ⟨rfl, B11.out⟩
            | false =>
              cases y with
              | true =>
                exact absurd (F4 rfl) (by decide)
              | false =>
                have B0 := Lib.hid (Below.refl w.heap.size w)
                go_enter Try.func6, Try.ntmps6
                go_wp2_with fail
                refine (awake_any _).mono ?_
                rintro e w1 ⟨rfl, hb⟩
                have B1 := Lib.hid (B0.out.trans (hb.mono B0.out.size))
                clear hb
                go_wp2_with fail
                refine (Caa.out _).mono ?_
                rintro e w2 ⟨rfl, hb⟩
                have B2 := Lib.hid (B1.out.trans (hb.mono B1.out.size))
                clear hb
                go_wp2_with fail
                refine (Cab.out _).mono ?_
                rintro e w3 ⟨rfl, hb⟩
                have B3 := Lib.hid (B2.out.trans (hb.mono B2.out.size))
                clear hb
                go_wp2_with fail
                refine (Cba.out _).mono ?_
                rintro e w4 ⟨rfl, hb⟩
                have B4 := Lib.hid (B3.out.trans (hb.mono B3.out.size))
                clear hb
                go_wp2_with fail
                refine (Cab.out _).mono ?_
                rintro e w5 ⟨rfl, hb⟩
                have B5 := Lib.hid (B4.out.trans (hb.mono B4.out.size))
                clear hb
                go_wp2_with fail
                refine (Cbc.out _).mono ?_
                rintro e w6 ⟨rfl, hb⟩
                have B6 := Lib.hid (B5.out.trans (hb.mono B5.out.size))
                clear hb
                go_wp2_with fail
                refine (Cac.out _).mono ?_
                rintro e w7 ⟨rfl, hb⟩
                have B7 := Lib.hid (B6.out.trans (hb.mono B6.out.size))
                clear hb
                go_wp2_with fail
                refine (Cra.out _).mono ?_
                rintro e w8 ⟨rfl, hb⟩
                have B8 := Lib.hid (B7.out.trans (hb.mono B7.out.size))
                clear hb
                go_wp2_with fail
                refine (Crb.out _).mono ?_
                rintro e w9 ⟨rfl, hb⟩
                have B9 := Lib.hid (B8.out.trans (hb.mono B8.out.size))
                clear hb
                go_wp2_with fail
                refine (Cy.out _).mono ?_
                rintro e w10 ⟨rfl, hb⟩
                have B10 := Lib.hid (B9.out.trans (hb.mono B9.out.size))
                clear hb
                go_wp2_with fail
                go_ret
                exact ⟨rfl, B10.out⟩
          | false =>
            cases y with
            | true =>
              have B0 := Lib.hid (Below.refl w.heap.size w)
              go_enter Try.func6, Try.ntmps6
              go_wp2_with fail
              refine (awake_any _).mono ?_
              rintro e w1 ⟨rfl, hb⟩
              have B1 := Lib.hid (B0.out.trans (hb.mono B0.out.size))
              clear hb
              go_wp2_with fail
              refine (Caa.out _).mono ?_
              rintro e w2 ⟨rfl, hb⟩
              have B2 := Lib.hid (B1.out.trans (hb.mono B1.out.size))
              clear hb
              go_wp2_with fail
              refine (Cab.out _).mono ?_
              rintro e w3 ⟨rfl, hb⟩
              have B3 := Lib.hid (B2.out.trans (hb.mono B2.out.size))
              clear hb
              go_wp2_with fail
              refine (Cba.out _).mono ?_
              rintro e w4 ⟨rfl, hb⟩
              have B4 := Lib.hid (B3.out.trans (hb.mono B3.out.size))
              clear hb
              go_wp2_with fail
              refine (Cab.out _).mono ?_
              rintro e w5 ⟨rfl, hb⟩
              have B5 := Lib.hid (B4.out.trans (hb.mono B4.out.size))
              clear hb
              go_wp2_with fail
              refine (Cbc.out _).mono ?_
              rintro e w6 ⟨rfl, hb⟩
              have B6 := Lib.hid (B5.out.trans (hb.mono B5.out.size))
              clear hb
              go_wp2_with fail
              refine (Cac.out _).mono ?_
              rintro e w7 ⟨rfl, hb⟩
              have B7 := Lib.hid (B6.out.trans (hb.mono B6.out.size))
              clear hb
              go_wp2_with fail
              refine (Cra.out _).mono ?_
              rintro e w8 ⟨rfl, hb⟩
              have B8 := Lib.hid (B7.out.trans (hb.mono B7.out.size))
              clear hb
              go_wp2_with fail
              refine (Crb.out _).mono ?_
              rintro e w9 ⟨rfl, hb⟩
              have B9 := Lib.hid (B8.out.trans (hb.mono B8.out.size))
              clear hb
              go_wp2_with fail
              refine (Cy.out _).mono ?_
              rintro e w10 ⟨rfl, hb⟩
              have B10 := Lib.hid (B9.out.trans (hb.mono B9.out.size))
              clear hb
              go_wp2_with fail
              go_ret
              exact ⟨rfl, B10.out⟩
            | false =>
              have B0 := Lib.hid (Below.refl w.heap.size w)
              go_enter Try.func6, Try.ntmps6
              go_wp2_with fail
              refine (awake_any _).mono ?_
              rintro e w1 ⟨rfl, hb⟩
              have B1 := Lib.hid (B0.out.trans (hb.mono B0.out.size))
              clear hb
              go_wp2_with fail
              refine (Caa.out _).mono ?_
              rintro e w2 ⟨rfl, hb⟩
              have B2 := Lib.hid (B1.out.trans (hb.mono B1.out.size))
              clear hb
              go_wp2_with fail
              refine (Cab.out _).mono ?_
              rintro e w3 ⟨rfl, hb⟩
              have B3 := Lib.hid (B2.out.trans (hb.mono B2.out.size))
              clear hb
              go_wp2_with fail
              refine (Cba.out _).mono ?_
              rintro e w4 ⟨rfl, hb⟩
              have B4 := Lib.hid (B3.out.trans (hb.mono B3.out.size))
              clear hb
              go_wp2_with fail
              refine (Cab.out _).mono ?_
              rintro e w5 ⟨rfl, hb⟩
              have B5 := Lib.hid (B4.out.trans (hb.mono B4.out.size))
              clear hb
              go_wp2_with fail
              refine (Cbc.out _).mono ?_
              rintro e w6 ⟨rfl, hb⟩
              have B6 := Lib.hid (B5.out.trans (hb.mono B5.out.size))
              clear hb
              go_wp2_with fail
              refine (Cac.out _).mono ?_
              rintro e w7 ⟨rfl, hb⟩
              have B7 := Lib.hid (B6.out.trans (hb.mono B6.out.size))
              clear hb
              go_wp2_with fail
              refine (Cra.out _).mono ?_
              rintro e w8 ⟨rfl, hb⟩
              have B8 := Lib.hid (B7.out.trans (hb.mono B7.out.size))
              clear hb
              go_wp2_with fail
              refine (Crb.out _).mono ?_
              rintro e w9 ⟨rfl, hb⟩
              have B9 := Lib.hid (B8.out.trans (hb.mono B8.out.size))
              clear hb
              go_wp2_with fail
              refine (Cy.out _).mono ?_
              rintro e w10 ⟨rfl, hb⟩
              have B10 := Lib.hid (B9.out.trans (hb.mono B9.out.size))
              clear hb
              go_wp2_with fail
              go_ret
              exact ⟨rfl, B10.out⟩
        | false =>
          exact absurd (F2 rfl rfl) (by decide)
      | false =>
        cases is with
        | true =>
          cases was with
          | true =>
            by_cases heq : SA = SB
            · subst heq
              cases y with
              | true =>
                exact absurd (F4 rfl) (by decide)
              | false =>
                have B0 := Lib.hid (Below.refl w.heap.size w)
                go_enter Try.func6, Try.ntmps6
                go_wp2_with fail
                refine (awake_any _).mono ?_
                rintro e w1 ⟨rfl, hb⟩
                have B1 := Lib.hid (B0.out.trans (hb.mono B0.out.size))
                clear hb
                go_wp2_with fail
                refine (Caa.out _).mono ?_
                rintro e w2 ⟨rfl, hb⟩
                have B2 := Lib.hid (B1.out.trans (hb.mono B1.out.size))
                clear hb
                go_wp2_with fail
                refine (Cab.out _).mono ?_
                rintro e w3 ⟨rfl, hb⟩
                have B3 := Lib.hid (B2.out.trans (hb.mono B2.out.size))
                clear hb
                go_wp2_with fail
                refine (Cba.out _).mono ?_
                rintro e w4 ⟨rfl, hb⟩
                have B4 := Lib.hid (B3.out.trans (hb.mono B3.out.size))
                clear hb
                go_wp2_with fail
                refine (Cab.out _).mono ?_
                rintro e w5 ⟨rfl, hb⟩
                have B5 := Lib.hid (B4.out.trans (hb.mono B4.out.size))
                clear hb
                go_wp2_with fail
                refine (Cbc.out _).mono ?_
                rintro e w6 ⟨rfl, hb⟩
                have B6 := Lib.hid (B5.out.trans (hb.mono B5.out.size))
                clear hb
                go_wp2_with fail
                refine (Cra.out _).mono ?_
                rintro e w7 ⟨rfl, hb⟩
                have B7 := Lib.hid (B6.out.trans (hb.mono B6.out.size))
                clear hb
                go_wp2_with fail
                refine (Crb.out _).mono ?_
                rintro e w8 ⟨rfl, hb⟩
                have B8 := Lib.hid (B7.out.trans (hb.mono B7.out.size))
                clear hb
                go_wp2_with fail
                refine (Cy.out _).mono ?_
                rintro e w9 ⟨rfl, hb⟩
                have B9 := Lib.hid (B8.out.trans (hb.mono B8.out.size))
                clear hb
                go_wp2_with fail
                go_ret
                exact ⟨rfl, B9.out⟩
            · have hne : (SA.toList == SB.toList) = false := by rw [ByteArray.toList_eq, ByteArray.toList_eq, beq_eq_false_iff_ne]; intro e; exact heq (by rw [← str_list SA, ← str_list SB, e])
              cases y with
              | true =>
                exact absurd (F4 rfl) (by decide)
              | false =>
                have B0 := Lib.hid (Below.refl w.heap.size w)
                go_enter Try.func6, Try.ntmps6
                go_wp2_with fail
                refine (awake_any _).mono ?_
                rintro e w1 ⟨rfl, hb⟩
                have B1 := Lib.hid (B0.out.trans (hb.mono B0.out.size))
                clear hb
                go_wp2_with fail
                refine (Caa.out _).mono ?_
                rintro e w2 ⟨rfl, hb⟩
                have B2 := Lib.hid (B1.out.trans (hb.mono B1.out.size))
                clear hb
                go_wp2_with fail
                refine (Cab.out _).mono ?_
                rintro e w3 ⟨rfl, hb⟩
                have B3 := Lib.hid (B2.out.trans (hb.mono B2.out.size))
                clear hb
                go_wp2_with fail
                refine (Cba.out _).mono ?_
                rintro e w4 ⟨rfl, hb⟩
                have B4 := Lib.hid (B3.out.trans (hb.mono B3.out.size))
                clear hb
                go_wp2_with fail
                refine (Cab.out _).mono ?_
                rintro e w5 ⟨rfl, hb⟩
                have B5 := Lib.hid (B4.out.trans (hb.mono B4.out.size))
                clear hb
                go_wp2_with fail
                refine (Cbc.out _).mono ?_
                rintro e w6 ⟨rfl, hb⟩
                have B6 := Lib.hid (B5.out.trans (hb.mono B5.out.size))
                clear hb
                go_wp2_with fail
                refine (Cra.out _).mono ?_
                rintro e w7 ⟨rfl, hb⟩
                have B7 := Lib.hid (B6.out.trans (hb.mono B6.out.size))
                clear hb
                go_wp2_with fail
                refine (Crb.out _).mono ?_
                rintro e w8 ⟨rfl, hb⟩
                have B8 := Lib.hid (B7.out.trans (hb.mono B7.out.size))
                clear hb
                go_wp2_with fail
                refine (Cab.out _).mono ?_
                rintro e w9 ⟨rfl, hb⟩
                have B9 := Lib.hid (B8.out.trans (hb.mono B8.out.size))
                clear hb
                go_wp2_with fail
                refine (Cy.out _).mono ?_
                rintro e w10 ⟨rfl, hb⟩
                have B10 := Lib.hid (B9.out.trans (hb.mono B9.out.size))
                clear hb
                go_wp2_with fail
                go_ret
                exact ⟨rfl, B10.out⟩
          | false =>
            cases y with
            | true =>
              exact absurd (F4 rfl) (by decide)
            | false =>
              have B0 := Lib.hid (Below.refl w.heap.size w)
              go_enter Try.func6, Try.ntmps6
              go_wp2_with fail
              refine (awake_any _).mono ?_
              rintro e w1 ⟨rfl, hb⟩
              have B1 := Lib.hid (B0.out.trans (hb.mono B0.out.size))
              clear hb
              go_wp2_with fail
              refine (Caa.out _).mono ?_
              rintro e w2 ⟨rfl, hb⟩
              have B2 := Lib.hid (B1.out.trans (hb.mono B1.out.size))
              clear hb
              go_wp2_with fail
              refine (Cab.out _).mono ?_
              rintro e w3 ⟨rfl, hb⟩
              have B3 := Lib.hid (B2.out.trans (hb.mono B2.out.size))
              clear hb
              go_wp2_with fail
              refine (Cba.out _).mono ?_
              rintro e w4 ⟨rfl, hb⟩
              have B4 := Lib.hid (B3.out.trans (hb.mono B3.out.size))
              clear hb
              go_wp2_with fail
              refine (Cab.out _).mono ?_
              rintro e w5 ⟨rfl, hb⟩
              have B5 := Lib.hid (B4.out.trans (hb.mono B4.out.size))
              clear hb
              go_wp2_with fail
              refine (Cbc.out _).mono ?_
              rintro e w6 ⟨rfl, hb⟩
              have B6 := Lib.hid (B5.out.trans (hb.mono B5.out.size))
              clear hb
              go_wp2_with fail
              refine (Cra.out _).mono ?_
              rintro e w7 ⟨rfl, hb⟩
              have B7 := Lib.hid (B6.out.trans (hb.mono B6.out.size))
              clear hb
              go_wp2_with fail
              refine (Crb.out _).mono ?_
              rintro e w8 ⟨rfl, hb⟩
              have B8 := Lib.hid (B7.out.trans (hb.mono B7.out.size))
              clear hb
              go_wp2_with fail
              refine (Cy.out _).mono ?_
              rintro e w9 ⟨rfl, hb⟩
              have B9 := Lib.hid (B8.out.trans (hb.mono B8.out.size))
              clear hb
              go_wp2_with fail
              go_ret
              exact ⟨rfl, B9.out⟩
        | false =>
          cases y with
          | true =>
            have B0 := Lib.hid (Below.refl w.heap.size w)
            go_enter Try.func6, Try.ntmps6
            go_wp2_with fail
            refine (awake_any _).mono ?_
            rintro e w1 ⟨rfl, hb⟩
            have B1 := Lib.hid (B0.out.trans (hb.mono B0.out.size))
            clear hb
            go_wp2_with fail
            refine (Caa.out _).mono ?_
            rintro e w2 ⟨rfl, hb⟩
            have B2 := Lib.hid (B1.out.trans (hb.mono B1.out.size))
            clear hb
            go_wp2_with fail
            refine (Cab.out _).mono ?_
            rintro e w3 ⟨rfl, hb⟩
            have B3 := Lib.hid (B2.out.trans (hb.mono B2.out.size))
            clear hb
            go_wp2_with fail
            refine (Cba.out _).mono ?_
            rintro e w4 ⟨rfl, hb⟩
            have B4 := Lib.hid (B3.out.trans (hb.mono B3.out.size))
            clear hb
            go_wp2_with fail
            refine (Cab.out _).mono ?_
            rintro e w5 ⟨rfl, hb⟩
            have B5 := Lib.hid (B4.out.trans (hb.mono B4.out.size))
            clear hb
            go_wp2_with fail
            refine (Cbc.out _).mono ?_
            rintro e w6 ⟨rfl, hb⟩
            have B6 := Lib.hid (B5.out.trans (hb.mono B5.out.size))
            clear hb
            go_wp2_with fail
            refine (Cra.out _).mono ?_
            rintro e w7 ⟨rfl, hb⟩
            have B7 := Lib.hid (B6.out.trans (hb.mono B6.out.size))
            clear hb
            go_wp2_with fail
            refine (Crb.out _).mono ?_
            rintro e w8 ⟨rfl, hb⟩
            have B8 := Lib.hid (B7.out.trans (hb.mono B7.out.size))
            clear hb
            go_wp2_with fail
            refine (Cy.out _).mono ?_
            rintro e w9 ⟨rfl, hb⟩
            have B9 := Lib.hid (B8.out.trans (hb.mono B8.out.size))
            clear hb
            go_wp2_with fail
            go_ret
            exact ⟨rfl, B9.out⟩
          | false =>
            have B0 := Lib.hid (Below.refl w.heap.size w)
            go_enter Try.func6, Try.ntmps6
            go_wp2_with fail
            refine (awake_any _).mono ?_
            rintro e w1 ⟨rfl, hb⟩
            have B1 := Lib.hid (B0.out.trans (hb.mono B0.out.size))
            clear hb
            go_wp2_with fail
            refine (Caa.out _).mono ?_
            rintro e w2 ⟨rfl, hb⟩
            have B2 := Lib.hid (B1.out.trans (hb.mono B1.out.size))
            clear hb
            go_wp2_with fail
            refine (Cab.out _).mono ?_
            rintro e w3 ⟨rfl, hb⟩
            have B3 := Lib.hid (B2.out.trans (hb.mono B2.out.size))
            clear hb
            go_wp2_with fail
            refine (Cba.out _).mono ?_
            rintro e w4 ⟨rfl, hb⟩
            have B4 := Lib.hid (B3.out.trans (hb.mono B3.out.size))
            clear hb
            go_wp2_with fail
            refine (Cab.out _).mono ?_
            rintro e w5 ⟨rfl, hb⟩
            have B5 := Lib.hid (B4.out.trans (hb.mono B4.out.size))
            clear hb
            go_wp2_with fail
            refine (Cbc.out _).mono ?_
            rintro e w6 ⟨rfl, hb⟩
            have B6 := Lib.hid (B5.out.trans (hb.mono B5.out.size))
            clear hb
            go_wp2_with fail
            refine (Cra.out _).mono ?_
            rintro e w7 ⟨rfl, hb⟩
            have B7 := Lib.hid (B6.out.trans (hb.mono B6.out.size))
            clear hb
            go_wp2_with fail
            refine (Crb.out _).mono ?_
            rintro e w8 ⟨rfl, hb⟩
            have B8 := Lib.hid (B7.out.trans (hb.mono B7.out.size))
            clear hb
            go_wp2_with fail
            refine (Cy.out _).mono ?_
            rintro e w9 ⟨rfl, hb⟩
            have B9 := Lib.hid (B8.out.trans (hb.mono B8.out.size))
            clear hb
            go_wp2_with fail
            go_ret
            exact ⟨rfl, B9.out⟩
  | false =>
    cases is with
    | true =>
      cases was with
      | true =>
        by_cases heq : SA = SB
        · subst heq
          cases y with
          | true =>
            exact absurd (F4 rfl) (by decide)
          | false =>
            have B0 := Lib.hid (Below.refl w.heap.size w)
            go_enter Try.func6, Try.ntmps6
            go_wp2_with fail
            refine (awake_any _).mono ?_
            rintro e w1 ⟨rfl, hb⟩
            have B1 := Lib.hid (B0.out.trans (hb.mono B0.out.size))
            clear hb
            go_wp2_with fail
            refine (Caa.out _).mono ?_
            rintro e w2 ⟨rfl, hb⟩
            have B2 := Lib.hid (B1.out.trans (hb.mono B1.out.size))
            clear hb
            go_wp2_with fail
            refine (Cab.out _).mono ?_
            rintro e w3 ⟨rfl, hb⟩
            have B3 := Lib.hid (B2.out.trans (hb.mono B2.out.size))
            clear hb
            go_wp2_with fail
            refine (Cab.out _).mono ?_
            rintro e w4 ⟨rfl, hb⟩
            have B4 := Lib.hid (B3.out.trans (hb.mono B3.out.size))
            clear hb
            go_wp2_with fail
            refine (Cra.out _).mono ?_
            rintro e w5 ⟨rfl, hb⟩
            have B5 := Lib.hid (B4.out.trans (hb.mono B4.out.size))
            clear hb
            go_wp2_with fail
            refine (Crb.out _).mono ?_
            rintro e w6 ⟨rfl, hb⟩
            have B6 := Lib.hid (B5.out.trans (hb.mono B5.out.size))
            clear hb
            go_wp2_with fail
            refine (Cy.out _).mono ?_
            rintro e w7 ⟨rfl, hb⟩
            have B7 := Lib.hid (B6.out.trans (hb.mono B6.out.size))
            clear hb
            go_wp2_with fail
            go_ret
            exact ⟨rfl, B7.out⟩
        · have hne : (SA.toList == SB.toList) = false := by rw [ByteArray.toList_eq, ByteArray.toList_eq, beq_eq_false_iff_ne]; intro e; exact heq (by rw [← str_list SA, ← str_list SB, e])
          cases xba with
          | true =>
            cases y with
            | true =>
              exact absurd (F4 rfl) (by decide)
            | false =>
              have B0 := Lib.hid (Below.refl w.heap.size w)
              go_enter Try.func6, Try.ntmps6
              go_wp2_with fail
              refine (awake_any _).mono ?_
              rintro e w1 ⟨rfl, hb⟩
              have B1 := Lib.hid (B0.out.trans (hb.mono B0.out.size))
              clear hb
              go_wp2_with fail
              refine (Caa.out _).mono ?_
              rintro e w2 ⟨rfl, hb⟩
              have B2 := Lib.hid (B1.out.trans (hb.mono B1.out.size))
              clear hb
              go_wp2_with fail
              refine (Cab.out _).mono ?_
              rintro e w3 ⟨rfl, hb⟩
              have B3 := Lib.hid (B2.out.trans (hb.mono B2.out.size))
              clear hb
              go_wp2_with fail
              refine (Cab.out _).mono ?_
              rintro e w4 ⟨rfl, hb⟩
              have B4 := Lib.hid (B3.out.trans (hb.mono B3.out.size))
              clear hb
              go_wp2_with fail
              refine (Cra.out _).mono ?_
              rintro e w5 ⟨rfl, hb⟩
              have B5 := Lib.hid (B4.out.trans (hb.mono B4.out.size))
              clear hb
              go_wp2_with fail
              refine (Crb.out _).mono ?_
              rintro e w6 ⟨rfl, hb⟩
              have B6 := Lib.hid (B5.out.trans (hb.mono B5.out.size))
              clear hb
              go_wp2_with fail
              refine (Cab.out _).mono ?_
              rintro e w7 ⟨rfl, hb⟩
              have B7 := Lib.hid (B6.out.trans (hb.mono B6.out.size))
              clear hb
              go_wp2_with fail
              refine (Cba.out _).mono ?_
              rintro e w8 ⟨rfl, hb⟩
              have B8 := Lib.hid (B7.out.trans (hb.mono B7.out.size))
              clear hb
              go_wp2_with fail
              refine (Cy.out _).mono ?_
              rintro e w9 ⟨rfl, hb⟩
              have B9 := Lib.hid (B8.out.trans (hb.mono B8.out.size))
              clear hb
              go_wp2_with fail
              go_ret
              exact ⟨rfl, B9.out⟩
          | false =>
            exact absurd (F3 rfl rfl heq rfl) (by decide)
      | false =>
        cases y with
        | true =>
          exact absurd (F4 rfl) (by decide)
        | false =>
          have B0 := Lib.hid (Below.refl w.heap.size w)
          go_enter Try.func6, Try.ntmps6
          go_wp2_with fail
          refine (awake_any _).mono ?_
          rintro e w1 ⟨rfl, hb⟩
          have B1 := Lib.hid (B0.out.trans (hb.mono B0.out.size))
          clear hb
          go_wp2_with fail
          refine (Caa.out _).mono ?_
          rintro e w2 ⟨rfl, hb⟩
          have B2 := Lib.hid (B1.out.trans (hb.mono B1.out.size))
          clear hb
          go_wp2_with fail
          refine (Cab.out _).mono ?_
          rintro e w3 ⟨rfl, hb⟩
          have B3 := Lib.hid (B2.out.trans (hb.mono B2.out.size))
          clear hb
          go_wp2_with fail
          refine (Cab.out _).mono ?_
          rintro e w4 ⟨rfl, hb⟩
          have B4 := Lib.hid (B3.out.trans (hb.mono B3.out.size))
          clear hb
          go_wp2_with fail
          refine (Cra.out _).mono ?_
          rintro e w5 ⟨rfl, hb⟩
          have B5 := Lib.hid (B4.out.trans (hb.mono B4.out.size))
          clear hb
          go_wp2_with fail
          refine (Crb.out _).mono ?_
          rintro e w6 ⟨rfl, hb⟩
          have B6 := Lib.hid (B5.out.trans (hb.mono B5.out.size))
          clear hb
          go_wp2_with fail
          refine (Cy.out _).mono ?_
          rintro e w7 ⟨rfl, hb⟩
          have B7 := Lib.hid (B6.out.trans (hb.mono B6.out.size))
          clear hb
          go_wp2_with fail
          go_ret
          exact ⟨rfl, B7.out⟩
    | false =>
      cases y with
      | true =>
        have B0 := Lib.hid (Below.refl w.heap.size w)
        go_enter Try.func6, Try.ntmps6
        go_wp2_with fail
        refine (awake_any _).mono ?_
        rintro e w1 ⟨rfl, hb⟩
        have B1 := Lib.hid (B0.out.trans (hb.mono B0.out.size))
        clear hb
        go_wp2_with fail
        refine (Caa.out _).mono ?_
        rintro e w2 ⟨rfl, hb⟩
        have B2 := Lib.hid (B1.out.trans (hb.mono B1.out.size))
        clear hb
        go_wp2_with fail
        refine (Cab.out _).mono ?_
        rintro e w3 ⟨rfl, hb⟩
        have B3 := Lib.hid (B2.out.trans (hb.mono B2.out.size))
        clear hb
        go_wp2_with fail
        refine (Cab.out _).mono ?_
        rintro e w4 ⟨rfl, hb⟩
        have B4 := Lib.hid (B3.out.trans (hb.mono B3.out.size))
        clear hb
        go_wp2_with fail
        refine (Cra.out _).mono ?_
        rintro e w5 ⟨rfl, hb⟩
        have B5 := Lib.hid (B4.out.trans (hb.mono B4.out.size))
        clear hb
        go_wp2_with fail
        refine (Crb.out _).mono ?_
        rintro e w6 ⟨rfl, hb⟩
        have B6 := Lib.hid (B5.out.trans (hb.mono B5.out.size))
        clear hb
        go_wp2_with fail
        refine (Cy.out _).mono ?_
        rintro e w7 ⟨rfl, hb⟩
        have B7 := Lib.hid (B6.out.trans (hb.mono B6.out.size))
        clear hb
        go_wp2_with fail
        go_ret
        exact ⟨rfl, B7.out⟩
      | false =>
        have B0 := Lib.hid (Below.refl w.heap.size w)
        go_enter Try.func6, Try.ntmps6
        go_wp2_with fail
        refine (awake_any _).mono ?_
        rintro e w1 ⟨rfl, hb⟩
        have B1 := Lib.hid (B0.out.trans (hb.mono B0.out.size))
        clear hb
        go_wp2_with fail
        refine (Caa.out _).mono ?_
        rintro e w2 ⟨rfl, hb⟩
        have B2 := Lib.hid (B1.out.trans (hb.mono B1.out.size))
        clear hb
        go_wp2_with fail
        refine (Cab.out _).mono ?_
        rintro e w3 ⟨rfl, hb⟩
        have B3 := Lib.hid (B2.out.trans (hb.mono B2.out.size))
        clear hb
        go_wp2_with fail
        refine (Cab.out _).mono ?_
        rintro e w4 ⟨rfl, hb⟩
        have B4 := Lib.hid (B3.out.trans (hb.mono B3.out.size))
        clear hb
        go_wp2_with fail
        refine (Cra.out _).mono ?_
        rintro e w5 ⟨rfl, hb⟩
        have B5 := Lib.hid (B4.out.trans (hb.mono B4.out.size))
        clear hb
        go_wp2_with fail
        refine (Crb.out _).mono ?_
        rintro e w6 ⟨rfl, hb⟩
        have B6 := Lib.hid (B5.out.trans (hb.mono B5.out.size))
        clear hb
        go_wp2_with fail
        refine (Cy.out _).mono ?_
        rintro e w7 ⟨rfl, hb⟩
        have B7 := Lib.hid (B6.out.trans (hb.mono B6.out.size))
        clear hb
        go_wp2_with fail
        go_ret
        exact ⟨rfl, B7.out⟩

theorem law_order (a b c : List UInt8) (w : World) (ha : a.length ≤ 140737488351232) (hb : b.length ≤ 140737488351232) (hc : c.length ≤ 140737488351232) : Calls Try.prog 6 #[.string (str a), .string (str b), .string (str c)] w (Ret (.bool true) w) := by
  have hab : (a ++ b).length ≤ 281474976710656 := by rw [List.length_append]; omega
  refine order_core (str a) (str b) (str c) (Pl.less a b) (Pl.less b a) (Pl.less b c) (Pl.less a c) (Pl.okay a) (Pl.okay b) (Pl.less (a ++ b) a) (Pl.runes a).length (Pl.runes b).length w (by rw [str_size]; exact ha) (by rw [str_size]; exact hb)
    (Pl.lt_asymm _ _) (fun h k => Pl.lt_trans _ _ _ h k) ?_ (fun h => less_app_left b h)
    (Lib.hid fun w => ?_) (Lib.hid fun w => less_str a b w (by omega) (by omega)) (Lib.hid fun w => less_str b a w (by omega) (by omega)) (Lib.hid fun w => less_str b c w (by omega) (by omega)) (Lib.hid fun w => less_str a c w (by omega) (by omega)) (Lib.hid fun w => ?_)
    (Lib.hid fun w => runes_str a w (by omega)) (Lib.hid fun w => runes_str b w (by omega))
  · intro h k hne hx
    cases hy : Pl.less b a
    · exact absurd (by rw [Pl.nums_inj a b h k (Pl.lt_total _ _ hx hy)]) hne
    · rfl
  · have := less_str a a w (by omega) (by omega)
    rw [show Pl.less a a = false from Pl.lt_self _] at this
    exact this
  · have := less_str (a ++ b) a w hab (by omega)
    rw [← str_app] at this
    exact this
end Go.Proofs.Ytodalljccjcejaa
