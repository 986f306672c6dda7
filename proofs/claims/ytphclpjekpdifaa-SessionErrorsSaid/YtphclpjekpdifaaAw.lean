import Derived.Test.YtphclpjekpdifaaTz
namespace Go.Proofs.Ytphclpjekpdifaa
set_option maxRecDepth 20000
open Go.RowKit
open SP
open Go.Proofs.Ytphclpjekpdifaa.Nm (str)
open Wi (RetBelow)
set_option linter.unusedVariables false
/-! ### the calls whose answers the document fixes -/
def r5 : Rp := ⟨0, ⟨#[]⟩, 0, 0, 0, 5⟩
def z1 : Tb := ⟨0, 1, [⟨1, 0, r0, 0⟩]⟩
def z2 : Tb := ⟨0, 1, [⟨1, 1, r5, 0⟩]⟩
def z3 : Tb := ⟨1, 1, [⟨1, 1, r5, 0⟩]⟩
def z4 : Tb := ⟨2, 1, [⟨1, 1, r5, 0⟩]⟩
def z5 : Tb := ⟨2, 1, []⟩
theorem s1 : reg t0 = (z1, 1, 0) := by rfl
theorem s2 : done z1 1 1 r5 = (z2, 0) := by rfl
theorem s3 : tick z2 = z3 := by rfl
theorem s4 : tick z3 = z4 := by rfl
theorem s5 : expire z4 2 = (z5, 1) := by rfl
theorem k1 : check z1 1 1 = (1, r0) := by rfl
theorem k2 : check z2 1 1 = (2, r5) := by rfl
theorem k3 : check z2 1 2 = (1, r0) := by rfl
theorem k4 : check z2 1 3 = (4, rE 21) := by rfl
theorem k5 : check z5 1 1 = (3, rE 20) := by rfl
def zl : Bool := (match SP.load (save z2).data.toList with
  | some T => T.L.length == 1
  | none => false) && decide ((save z2).data.toList.length ≤ 4096)
theorem zl_is : zl = true := by decide +kernel
theorem rpI_5 : RpI r5 := ⟨i64_0, i64_0, i64_0, by show I64 5; unfold I64; omega⟩
set_option maxHeartbeats 4000000 in
theorem awake_any (w : World) : Calls Try.prog 4 #[] w (RetBelow (.bool true) w) := by
  have hz := zl_is
  unfold zl at hz
  rw [Bool.and_eq_true, decide_eq_true_eq] at hz
  obtain ⟨hz1, hz2⟩ := hz
  obtain ⟨T', hl, hj⟩ : ∃ T', SP.load (save z2).data.toList = some T' ∧ T'.L.length = 1 := by
    cases hq : SP.load (save z2).data.toList with
    | none => rw [hq] at hz1; cases hz1
    | some T' => rw [hq] at hz1; exact ⟨T', rfl, by simpa using hz1⟩
  have HB := Lib.hid (Below.refl w.heap.size w)
  have HNEW := Lib.hid (new_lv HB.out [] (fun p hp => by cases hp))
  have HREG : Hid (∀ X b G, LvE w X b t0 G → Calls Try.prog 11 #[.pointer (some ⟨b, 0, none⟩)] X fun e Y => e = .returned (.tuple #[.int .i64 1, .int .i64 0]) ∧ LvE w Y b z1 G) := Lib.hid fun X b G h => (reg_lv h).mono (by
    rw [s1]
    rintro e Y ⟨rfl, h⟩
    exact ⟨rfl, h⟩)
  have HDONE : Hid (∀ X b G, LvE w X b z1 G → Calls Try.prog 9 #[.pointer (some ⟨b, 0, none⟩), .int .i64 1, .int .i64 1, .agg #[.int .i64 0, .string ⟨#[]⟩, .int .i64 0, .int .i64 0, .int .i64 0, .int .i64 5]] X fun e Y => e = .returned (.int .i64 0) ∧ LvE w Y b z2 G) := Lib.hid fun X b G h => (done_lv h 1 1 rpI_5 (by unfold r5; exact i64_0)).mono (by
    rw [s2]
    rintro e Y ⟨rfl, h⟩
    exact ⟨rfl, h⟩)
  have HT1 : Hid (∀ X b c G, L2E w X b z2 c T' G → Calls Try.prog 13 #[.pointer (some ⟨b, 0, none⟩)] X fun e Y => e = .returned (.tuple #[]) ∧ L2E w Y b z3 c T' G) := Lib.hid fun X b c G h => by have := tick_l2 h; rw [s3] at this; exact this
  have HT2 : Hid (∀ X b c G, L2E w X b z3 c T' G → Calls Try.prog 13 #[.pointer (some ⟨b, 0, none⟩)] X fun e Y => e = .returned (.tuple #[]) ∧ L2E w Y b z4 c T' G) := Lib.hid fun X b c G h => by have := tick_l2 h; rw [s4] at this; exact this
  have HEXP : Hid (∀ X b c G, L2E w X b z4 c T' G → Calls Try.prog 14 #[.pointer (some ⟨b, 0, none⟩), .int .i64 2] X fun e Y => e = .returned (.int .i64 1) ∧ L2E w Y b z5 c T' G) := Lib.hid fun X b c G h => (expire_l2 h 2).mono (by
    rw [s5]
    rintro e Y ⟨rfl, h⟩
    exact ⟨rfl, h⟩)
  have HSV : Hid (∀ X b G, LvE w X b z2 G → Calls Try.prog 7 #[.pointer (some ⟨b, 0, none⟩)] X fun e Y => e = .returned (.string (save z2)) ∧ LvE w Y b z2 G) := Lib.hid fun X b G h => save_lv h
  have HLD : Hid (∀ X, Calls Try.prog 12 #[.string (save z2)] X fun e Y => ∃ t S, e = .returned (.tuple #[.pointer (some ⟨t, 0, none⟩), .int .i64 0]) ∧ Tab Y t T' S ∧ (∀ k, S k → X.heap.size ≤ k) ∧ Inv T' ∧ Below X.heap.size X Y) := Lib.hid fun X => by
    have h1 := load_any (save z2).data.toList X (Nat.le_trans hz2 (by omega))
    rw [Nm.str_list] at h1
    refine h1.mono ?_
    rintro e Y (⟨h1, _⟩ | ⟨T2, t, S, h1, h2, h3, h4, h5, h6⟩)
    · rw [hl] at h1; cases h1
    · rw [hl] at h1; cases h1; exact ⟨t, S, h2, h3, h4, h6, h5⟩
  have HIDS : Hid (∀ X b t T G, L2E w X b T t T' G → Calls Try.prog 15 #[.pointer (some ⟨t, 0, none⟩)] X fun e Y => ∃ A c, e = .returned (.slice A 1 c) ∧ L2E w Y b T t T' G) := Lib.hid fun X b t T G h => by
    refine (ids_l2 h.swap).mono ?_
    rintro e Y ⟨u, rfl, h2, h3⟩
    obtain ⟨A, c, rfl, _⟩ := h2.form
    refine ⟨A, c, ?_, h3.swap⟩
    rw [show (ids T').length = 1 from by unfold ids; rw [List.length_map]; exact hj]
  have HK1 : Hid (∀ X b G, LvE w X b z1 G → Calls Try.prog 8 #[.pointer (some ⟨b, 0, none⟩), .int .i64 1, .int .i64 1] X fun e Y => e = .returned (.tuple #[.int .i64 1, .agg #[.int .i64 0, .string ⟨#[]⟩, .int .i64 0, .int .i64 0, .int .i64 0, .int .i64 0]]) ∧ LvE w Y b z1 G) := Lib.hid fun X b G h => (check_lv h 1 1).mono (by
    rw [k1]
    rintro e Y ⟨rfl, h⟩
    exact ⟨rfl, h⟩)
  have HK2 : Hid (∀ X b G, LvE w X b z2 G → Calls Try.prog 8 #[.pointer (some ⟨b, 0, none⟩), .int .i64 1, .int .i64 1] X fun e Y => e = .returned (.tuple #[.int .i64 2, .agg #[.int .i64 0, .string ⟨#[]⟩, .int .i64 0, .int .i64 0, .int .i64 0, .int .i64 5]]) ∧ LvE w Y b z2 G) := Lib.hid fun X b G h => (check_lv h 1 1).mono (by
    rw [k2]
    rintro e Y ⟨rfl, h⟩
    exact ⟨rfl, h⟩)
  have HK3 : Hid (∀ X b G, LvE w X b z2 G → Calls Try.prog 8 #[.pointer (some ⟨b, 0, none⟩), .int .i64 1, .int .i64 2] X fun e Y => e = .returned (.tuple #[.int .i64 1, .agg #[.int .i64 0, .string ⟨#[]⟩, .int .i64 0, .int .i64 0, .int .i64 0, .int .i64 0]]) ∧ LvE w Y b z2 G) := Lib.hid fun X b G h => (check_lv h 1 2).mono (by
    rw [k3]
    rintro e Y ⟨rfl, h⟩
    exact ⟨rfl, h⟩)
  have HK4 : Hid (∀ X b G, LvE w X b z2 G → Calls Try.prog 8 #[.pointer (some ⟨b, 0, none⟩), .int .i64 1, .int .i64 3] X fun e Y => e = .returned (.tuple #[.int .i64 4, .agg #[.int .i64 21, .string ⟨#[]⟩, .int .i64 0, .int .i64 0, .int .i64 0, .int .i64 0]]) ∧ LvE w Y b z2 G) := Lib.hid fun X b G h => (check_lv h 1 3).mono (by
    rw [k4]
    rintro e Y ⟨rfl, h⟩
    exact ⟨rfl, h⟩)
  have HK5 : Hid (∀ X b c G, L2E w X b z5 c T' G → Calls Try.prog 8 #[.pointer (some ⟨b, 0, none⟩), .int .i64 1, .int .i64 1] X fun e Y => e = .returned (.tuple #[.int .i64 3, .agg #[.int .i64 20, .string ⟨#[]⟩, .int .i64 0, .int .i64 0, .int .i64 0, .int .i64 0]]) ∧ L2E w Y b z5 c T' G) := Lib.hid fun X b c G h => (check_l2 h 1 1).mono (by
    rw [k5]
    rintro e Y ⟨rfl, h⟩
    exact ⟨rfl, h⟩)
  have hb5 : ∀ W : World, (Instr.build 27 #[(3, .int .i64 5)]).run Try.prog W = .ok (.agg #[.int .i64 0, .string ⟨#[]⟩, .int .i64 0, .int .i64 0, .int .i64 0, .int .i64 5]) W := fun W => run_build W 27 _ _ (by kernel_rfl)
  generalize save z2 = TX at *
  go_enter Try.func4, Try.ntmps4
  go_wp2_with (first | (go_at_call 5; (with_reducible refine HNEW.out.mono ?_); rintro e w1 ⟨b, rfl, h⟩; have HL0 := Lib.hid h; clear h) | (go_at_call 11; (with_reducible refine (HREG.out _ _ _ HL0.out).mono ?_); rintro e w2 ⟨rfl, h⟩; have HL1 := Lib.hid h; clear h HL0) | (go_at_call 8; (with_reducible refine (HK1.out _ _ _ HL1.out).mono ?_); rintro e w3 ⟨rfl, h⟩; have HL2 := Lib.hid (h.box #[.int .i64 0, .string ⟨#[]⟩, .int .i64 0, .int .i64 0, .int .i64 0, .int .i64 0] 27); clear h HL1) | (go_at_call 9; (with_reducible refine (HDONE.out _ _ _ HL2.out).mono ?_); rintro e w4 ⟨rfl, h⟩; have HL3 := Lib.hid h; clear h HL2) | (go_at_call 8; (with_reducible refine (HK2.out _ _ _ HL3.out).mono ?_); rintro e w5 ⟨rfl, h⟩; have HL4 := Lib.hid (h.box #[.int .i64 0, .string ⟨#[]⟩, .int .i64 0, .int .i64 0, .int .i64 0, .int .i64 5] 27); clear h HL3) | (go_at_call 8; (with_reducible refine (HK3.out _ _ _ HL4.out).mono ?_); rintro e w6 ⟨rfl, h⟩; have HL5 := Lib.hid (h.box #[.int .i64 0, .string ⟨#[]⟩, .int .i64 0, .int .i64 0, .int .i64 0, .int .i64 0] 27); clear h HL4) | (go_at_call 8; (with_reducible refine (HK4.out _ _ _ HL5.out).mono ?_); rintro e w7 ⟨rfl, h⟩; have HL6 := Lib.hid (h.box #[.int .i64 21, .string ⟨#[]⟩, .int .i64 0, .int .i64 0, .int .i64 0, .int .i64 0] 27); clear h HL5))
  (with_reducible refine (HSV.out _ _ _ HL6.out).mono ?_)
  rintro e w8 ⟨rfl, h⟩
  have HL7 := Lib.hid h
  clear h HL6
  go_wp2_with fail
  (with_reducible refine (HLD.out _).mono ?_)
  rintro e w9 ⟨t, S, rfl, hs, hS, hi, hb⟩
  have HL8 := Lib.hid (L2E.start HL7.out hs hS hi hb)
  clear hs hS hi hb HL7
  go_wp2_with (first | (go_at_call 13; (with_reducible refine (HT1.out _ _ _ _ HL8.out).mono ?_); rintro e w10 ⟨rfl, h⟩; have HL9 := Lib.hid h; clear h HL8) | (go_at_call 13; (with_reducible refine (HT2.out _ _ _ _ HL9.out).mono ?_); rintro e w11 ⟨rfl, h⟩; have HL10 := Lib.hid h; clear h HL9) | (go_at_call 14; (with_reducible refine (HEXP.out _ _ _ _ HL10.out).mono ?_); rintro e w12 ⟨rfl, h⟩; have HL11 := Lib.hid h; clear h HL10) | (go_at_call 8; (with_reducible refine (HK5.out _ _ _ _ HL11.out).mono ?_); rintro e w13 ⟨rfl, h⟩; have HL12 := Lib.hid (h.box #[.int .i64 20, .string ⟨#[]⟩, .int .i64 0, .int .i64 0, .int .i64 0, .int .i64 0] 27); clear h HL11; obtain ⟨_, _, _, _, _, a5, _⟩ := row6 (HL12.out.held (p := (w5.heap.size, _)) (List.Mem.tail _ (List.Mem.tail _ (List.Mem.tail _ (List.Mem.head _))))); obtain ⟨b0, _⟩ := row6 (HL12.out.held (p := (w13.heap.size, _)) (List.Mem.head _))) | (go_at_call 15; (with_reducible refine (HIDS.out _ _ _ _ _ HL12.out).mono ?_); rintro e w14 ⟨A, c, rfl, h⟩; have HL13 := Lib.hid h; clear h))
  go_ret
  exact ⟨rfl, HL13.out.bel⟩
end Go.Proofs.Ytphclpjekpdifaa
