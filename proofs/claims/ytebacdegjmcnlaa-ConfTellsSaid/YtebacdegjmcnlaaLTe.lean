/-
  The law that all that is told of sets of members is as the document says, its call walked. No condition.
-/
import Derived.Test.YtebacdegjmcnlaaRH
namespace Go.Proofs.Ytebacdegjmcnlaa
set_option maxRecDepth 20000
open Go.RowKit
set_option linter.unusedVariables false
set_option maxHeartbeats 4000000 in
theorem law_tells (m v : Int) (A : Option Addr) (n c : Nat) (L : List Int) (w : World) (_ : -9223372036854775808 ≤ m) (_ : m ≤ 9223372036854775807) (_ : -9223372036854775808 ≤ v) (_ : v ≤ 9223372036854775807) (hs : SlA DL w InR A n c L) :
    Calls Try.prog 3 #[.int .i64 m, .int .i64 v, .slice A n c] w (RetBelow (.bool true) w) := by
  have HK := Lib.hid awake_any
  have HR := Lib.hid hs.rd
  have HN := Lib.hid hs.ln
  have HNC := Lib.hid hs.le
  have HNN := Lib.hid hs.nn
  clear hs
  have B : Hid (Below w.heap.size w w) := Lib.hid (Below.refl _ _)
  by_cases h100 : (100 : Int) < n
  · have g0 : decide ((100 : Int) < n) = true := decide_eq_true h100
    go_enter Try.func3, Try.ntmps3
    go_wp2_with (go_at_call 8; (with_reducible refine (HK.out _).mono ?_); rintro e w1 ⟨rfl, hb⟩; have B := Lib.hid (B.out.trans (hb.mono B.out.size)); clear hb)
    refine bodyPost_ret (results_tmp (fn := Try.f3) (t := 6) rfl _ _ _) rfl ?_
    exact ⟨rfl, B.out⟩
  have g0 : decide ((100 : Int) < n) = false := decide_eq_false h100
  have hn100 : n ≤ 100 := by omega
  go_enter Try.func3, Try.ntmps3
  go_wp2_with (first
    | (at_builtin; refine wp_appO DL rfl _ _ rfl (fun q => w1.heap.size ≤ q) (fun q => q < w.heap.size) _ [] rfl HO.out A n c L rfl HNN.out (HR.out.below BA.out) HN.out HNC.out (by simp; omega) ?_)
    | (go_at_call 8; (with_reducible refine (HK.out _).mono ?_); rintro e w1 ⟨rfl, hb⟩
       have B := Lib.hid (B.out.trans (hb.mono B.out.size))
       have BA := Lib.hid (B.out.alloc B.out.size (.cells #[] 2))
       have HO : Hid (OwnS DL (w1.alloc (.cells #[] 2)) (fun q => w1.heap.size ≤ q) (.slice (some ⟨w1.heap.size, 0, none⟩) 0 0) []) := Lib.hid (OwnS.made (D := DL) (L := []) (xs := []) (cap := 0) (cur := #[]) (heap_alloc_new w1 _) (Nat.le_refl _) (Nat.le_refl _) (by decide) (by simp) (by simp [flat]))
       clear hb))
  intro v' W ho hf _
  have hW : Below w.heap.size w W := BA.out.trans (hf.below (by have := B.out.size; simp; omega) fun q hq => Nat.le_trans B.out.size hq)
  obtain ⟨A', c', ev, hr', _⟩ := ho.form
  rw [HN.out] at ev
  subst ev
  have BW := Lib.hid hW
  have HO' := Lib.hid hr'
  have C : Hid (Below W.heap.size W W) := Lib.hid (Below.refl _ _)
  have h7 := cnt_le m
  have HMy := Lib.hid (confMay_any m)
  have HMr := Lib.hid (rMay_any m)
  have HLs := Lib.hid (confList_any m)
  have HLr := Lib.hid (rList_any m)
  have HMo := Lib.hid (confMost_any m v)
  have HMq := Lib.hid (rMost_any m v)
  have HNe := Lib.hid (confNear_any m v)
  have HNq := Lib.hid (rNear_any m v)
  have HRe : Hid (∀ X, Below W.heap.size W X → Calls Try.prog 18 #[.int .i64 m, .slice A' n c'] X (RetBelow (.int .i64 (CP.reached m L)) X)) := Lib.hid fun X hX => confReached_any (c := c') m (HO'.out.below hX) HN.out
  have HRq : Hid (∀ X, Below W.heap.size W X → Calls Try.prog 19 #[.int .i64 m, .slice A n c] X (RetBelow (.int .i64 (CP.reached m L)) X)) := Lib.hid fun X hX => rReached_any (c := c) m (HR.out.below (BW.out.trans (hX.mono BW.out.size))) HN.out
  generalize CP.reached m L = re at *
  generalize CP.near m v = ne at *
  generalize CP.most m v = mo at *
  generalize decide (CP.May m) = my at *
  generalize CP.lst m = ls at *
  clear ho hf hW hr' BA HO
  go_wp2_with (first
    | (go_at_call 19; (with_reducible refine (HRq.out _ C.out).mono ?_); rintro e w2 ⟨rfl, hb⟩; have C := Lib.hid (C.out.trans (hb.mono C.out.size)); clear hb)
    | (go_at_call 18; (with_reducible refine (HRe.out _ C.out).mono ?_); rintro e w2 ⟨rfl, hb⟩; have C := Lib.hid (C.out.trans (hb.mono C.out.size)); clear hb)
    | (go_at_call 17; (with_reducible refine (HNq.out _).mono ?_); rintro e w2 ⟨rfl, hb⟩; have C := Lib.hid (C.out.trans (hb.mono C.out.size)); clear hb)
    | (go_at_call 16; (with_reducible refine (HNe.out _).mono ?_); rintro e w2 ⟨rfl, hb⟩; have C := Lib.hid (C.out.trans (hb.mono C.out.size)); clear hb)
    | (go_at_call 15; (with_reducible refine (HMq.out _).mono ?_); rintro e w2 ⟨rfl, hb⟩; have C := Lib.hid (C.out.trans (hb.mono C.out.size)); clear hb)
    | (go_at_call 14; (with_reducible refine (HMo.out _).mono ?_); rintro e w2 ⟨rfl, hb⟩; have C := Lib.hid (C.out.trans (hb.mono C.out.size)); clear hb)
    | (go_at_call 11; (with_reducible refine (same_any c4 c5 (hr4.below hb5) hr5 h7).mono ?_); rintro e w2 ⟨rfl, hb⟩; have C := Lib.hid (C.out.trans (hb.mono C.out.size)); clear hb)
    | (go_at_call 13; (with_reducible refine (HLr.out _).mono ?_); rintro e w5 ⟨A5, c5, rfl, hr5, _, _, hb5⟩; have C := Lib.hid (C.out.trans (hb5.mono C.out.size)))
    | (go_at_call 12; (with_reducible refine (HLs.out _).mono ?_); rintro e w4 ⟨A4, c4, rfl, hr4, _, _, hb⟩; have C := Lib.hid (C.out.trans (hb.mono C.out.size)); clear hb)
    | (go_at_call 10; (with_reducible refine (HMr.out _).mono ?_); rintro e w2 ⟨rfl, hb⟩; have C := Lib.hid (C.out.trans (hb.mono C.out.size)); clear hb)
    | (go_at_call 9; (with_reducible refine (HMy.out _).mono ?_); rintro e w2 ⟨rfl, hb⟩; have C := Lib.hid (C.out.trans (hb.mono C.out.size)); clear hb))
  go_loopw [59] (fun v59 wr => ∃ (k : Nat), v59 = .int .i64 (k : Nat) ∧ k ≤ n ∧ Hid (Below W.heap.size W wr)) (fun v59 _ => n - (numOf v59).toNat)
  case atStart => exact ⟨0, rfl, by omega, C⟩
  case round =>
    obtain ⟨k, rfl, hk, hf⟩ := hrel
    by_cases hk2 : (k : Int) < n
    · have hk3 : k < n := by omega
      have HFW : Hid (Below w.heap.size w wr) := Lib.hid (BW.out.trans (hf.out.mono BW.out.size))
      obtain ⟨b, off, rfl⟩ := rdL_addr HR.out (by have := HN.out; omega)
      obtain ⟨b', off', rfl⟩ := rdL_addr HO'.out (by have := HN.out; omega)
      have c1 := rdL_cell HR.out HFW.out HN.out hk3
      have c2 := rdL_cell HO'.out hf.out HN.out hk3
      generalize CP.atL L k = x at *
      go_wp2_with fail
      go_quiet (fail)
      go_wp2_with fail
      exact ⟨⟨k + 1, rfl, by omega, Lib.hid (bdrewN hf.out nq)⟩, by simp [numOf]; omega⟩
    · go_wp2_with fail
      refine bodyPost_ret (results_tmp (fn := Try.f3) (t := 6) rfl _ _ _) rfl ?_
      exact ⟨rfl, BW.out.trans (hf.out.mono BW.out.size)⟩
end Go.Proofs.Ytebacdegjmcnlaa
