import Derived.Test.YtjpnkecfoealoaaRc
import Derived.Test.YtjpnkecfoealoaaQg
namespace Go.Proofs.Ytjpnkecfoealoaa
set_option maxRecDepth 20000
open Go.RowKit
open Go.Proofs.Ytjpnkecfoealoaa.Vc (I64 fitB RetBelow OwnD DigsAt dC)
set_option linter.unusedVariables false
set_option maxHeartbeats 1000000 in
theorem refChoose_any (L : List Nd) (A : Option Addr) (N c : Nat) (p q r : Int) (w : World) (hA : NodesAt w w.heap.size A L) (hN : L.length = N) (h1000 : N ≤ 1000) (hok : ∀ n ∈ L, Nok n) (bp : I64 p) (bq : I64 q) (br : I64 r) :
    Calls Try.prog 11 #[.slice A N c, .agg #[.int .i64 p, .int .i64 q, .int .i64 r]] w fun e w' => ∃ i er : Nat, e = .returned (.tuple #[.int .i64 (i : Nat), .int .i64 (er : Nat)]) ∧ Chosen L p q r i er ∧ Below w.heap.size w w' := by
  have k1 := Lib.hid fun W : World => Vc.refMay_any p q r W
  have k2 := Lib.hid fun (W : World) (h : Below w.heap.size w W) => refRank_any L A N c p q r W ((hA.on h).mono h.size) hN h1000 hok bp bq br
  have V := Lib.hid (Vc.BK.new w p q r)
  have B := Lib.hid ((Below.refl w.heap.size w).alloc (Nat.le_refl _) (.cells #[.int .i64 p, .int .i64 q, .int .i64 r] 24))
  clear hA hok bp bq br
  cases hv : fitB 0 0 0 p q r with
  | false =>
    have HV := Lib.hid hv
    rw [hv] at k1
    clear hv
    go_enter Try.func11, Try.ntmps11
    go_wp2_with (go_at_call 23; (with_reducible refine (k1.out _).mono ?_); rintro e w1 ⟨rfl, hb⟩; have B1 := Lib.hid (B.out.trans (hb.mono B.out.size)); clear hb)
    go_ret2
    exact ⟨0, 1, rfl, .inl ⟨HV.out, rfl, rfl⟩, B1.out⟩
  | true =>
    have HV := Lib.hid hv
    rw [hv] at k1
    clear hv
    have HC : ∀ W : World, Below (w.alloc (.cells #[.int .i64 p, .int .i64 q, .int .i64 r] 24)).heap.size (w.alloc (.cells #[.int .i64 p, .int .i64 q, .int .i64 r] 24)) W → Vc.C3 W w.heap.size p q r := fun W h => (V.out.on h (by simp)).c3
    have HC := Lib.hid HC
    obtain ⟨v0, v1, v2⟩ := V.out.c3
    go_enter Try.func11, Try.ntmps11
    go_wp2_with (go_at_call 23; (with_reducible refine (k1.out _).mono ?_); rintro e w1 ⟨rfl, hb⟩; have B1 := Lib.hid (B.out.trans (hb.mono B.out.size)); obtain ⟨v0, v1, v2⟩ := HC.out _ hb; clear hb)
    refine (k2.out _ B1.out).mono ?_
    rintro e w2 ⟨A', cap', R, rfl, hR, hD, hb⟩
    have B2 := Lib.hid (B1.out.trans (hb.mono B1.out.size))
    have HR := Lib.hid hR
    clear hb hR
    cases R with
    | nil =>
      simp only [List.length_nil]
      go_wp2_with fail
      go_ret2
      refine ⟨0, 12, rfl, .inr (.inl ⟨HV.out, ?_, rfl, rfl⟩), B2.out⟩
      exact List.Perm.eq_nil HR.out.1.symm
    | cons i R =>
      obtain ⟨b, off, rfl, hbl, hcell⟩ := hD (by simp)
      have hc0 := hcell 0 i rfl
      rw [Nat.add_zero] at hc0
      have hl0 : ((((i :: R).length : Nat) : Int) == 0) = false := by simp <;> omega
      have hl1 : (0 : Int) < (((i :: R).length : Nat) : Int) := by simp <;> omega
      generalize hm : (i :: R).length = m at *
      clear hcell
      go_wp2_with fail
      go_ret2
      refine ⟨i, 0, rfl, .inr (.inr ⟨HV.out, rfl, HR.out.1.mem_iff.1 (by simp), fun j hj => ?_⟩), B2.out⟩
      have hj' := HR.out.1.mem_iff.2 hj
      have hp := List.pairwise_cons.1 HR.out.2
      rcases List.mem_cons.1 hj' with rfl | h
      · exact bef_irrefl _ _ _
      · exact hp.1 j h

end Go.Proofs.Ytjpnkecfoealoaa
