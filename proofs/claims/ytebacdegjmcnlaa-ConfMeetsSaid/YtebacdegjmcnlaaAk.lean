/-
  The calls whose answers the document fixes: all are as it says. No condition.
-/
import Derived.Test.YtebacdegjmcnlaaOf
namespace Go.Proofs.Ytebacdegjmcnlaa
set_option maxRecDepth 20000
open Go.RowKit Pl
set_option linter.unusedVariables false
def c6 : Or := ⟨4, 0, 0, 6, 0, ⟨#[]⟩, ⟨#[]⟩, 0, 0, 0, 0⟩
theorem c6_fine : c6.Fine := by
  refine ⟨?_, ?_, ?_, ?_, ?_, ?_, ?_, ?_, ?_, ?_, ?_⟩
  all_goals first | exact ⟨by decide, by decide⟩ | decide
theorem c6_err : c6.err = 0 := by decide +kernel
theorem c6_size : c6.enc.size ≤ 4096 := by decide +kernel
theorem c6_conf : isConf c6.enc = true := by decide +kernel
theorem c6_n : (rdO c6.enc.data.toList).n = 6 := by decide +kernel
theorem no_conf : isConf ⟨#[]⟩ = false := by decide +kernel
theorem r1 : CP.reached 7 [5, 9, 7] = 7 := by
  have h := CP.le_reached (m := 7) (by decide) [5, 9, 7] (x := 7) (by decide)
  have k := CP.le_reached (m := 7) (by decide) [5, 9, 7] (x := 8) (by decide)
  have h1 := h.2 (by decide +kernel)
  have k1 : ¬ (8 : Int) ≤ CP.reached 7 [5, 9, 7] := fun q => absurd (k.1 q) (by decide +kernel)
  omega
theorem r2 : CP.reached 3 [5] = 0 := by
  have k := CP.le_reached (m := 3) (by decide) [5] (x := 1) (by decide)
  have k1 : ¬ (1 : Int) ≤ CP.reached 3 [5] := fun q => absurd (k.1 q) (by decide +kernel)
  have := CP.reached_nonneg 3 [5]
  omega
theorem b1 : CP.most 7 3 = true ∧ CP.most 7 9 = false ∧ CP.most 15 3 = false ∧ CP.near 7 6 = true ∧ CP.near 1 0 = false ∧ decide (CP.May 1) = true ∧ decide (CP.May 0) = false ∧ (CP.lst 5).length = 2 := by decide +kernel
theorem o1 : confOf 1 [⟨1, c6.enc⟩, ⟨1, ⟨#[]⟩⟩] = 6 := by
  show ofR 1 [⟨#[]⟩, c6.enc] = 6
  unfold ofR
  rw [no_conf, if_neg (by decide)]
  unfold ofR
  rw [c6_conf, if_pos rfl, c6_n]
theorem rdL_new (w : World) (l : List Int) (o : TypeId) : Rd DL (w.alloc (.cells (l.map (Value.int .i64)).toArray o)) (fun q => q = w.heap.size) (some ⟨w.heap.size, 0, none⟩) l := fun _ => ⟨_, 0, rfl, rfl, by simp, fun i y hy q u hu => by
  obtain ⟨rfl, rfl⟩ := DL_cell (x := u) hu
  have : (l.map (Value.int .i64)).toArray[i]? = some (.int .i64 y) := by rw [List.getElem?_toArray, List.getElem?_map, hy]; rfl
  rw [show 0 + i * DL.m + 0 = i by simp [DL]]
  simpa using this⟩
theorem rdE_new (w : World) (d : ByteArray) (o : TypeId) : Rd DE (w.alloc (.cells #[.int .i64 1, .string d, .int .i64 1, .string ⟨#[]⟩] o)) (fun q => q = w.heap.size) (some ⟨w.heap.size, 0, none⟩) [⟨1, d⟩, ⟨1, ⟨#[]⟩⟩] := fun _ => ⟨_, 0, rfl, rfl, by simp, fun i y hy q u hu => by
  match i, q, hy, hu with
  | 0, 0, hy, hu => obtain rfl : (⟨1, d⟩ : En) = y := by simpa using hy
                    obtain rfl : Value.int .i64 1 = u := by simpa [DE] using hu
                    simp [DE]
  | 0, 1, hy, hu => obtain rfl : (⟨1, d⟩ : En) = y := by simpa using hy
                    obtain rfl : Value.string d = u := by simpa [DE] using hu
                    simp [DE]
  | 1, 0, hy, hu => obtain rfl : (⟨1, ⟨#[]⟩⟩ : En) = y := by simpa using hy
                    obtain rfl : Value.int .i64 1 = u := by simpa [DE] using hu
                    simp [DE]
  | 1, 1, hy, hu => obtain rfl : (⟨1, ⟨#[]⟩⟩ : En) = y := by simpa using hy
                    obtain rfl : Value.string ⟨#[]⟩ = u := by simpa [DE] using hu
                    simp [DE]
  | 0, q + 2, hy, hu => simp [DE] at hu
  | 1, q + 2, hy, hu => simp [DE] at hu
  | i + 2, _, hy, _ => simp at hy⟩
set_option maxHeartbeats 2000000 in
theorem awake_any (w : World) : Calls Try.prog 8 #[] w (RetBelow (.bool true) w) := by
  have hE := fun X => encode_any2 c6_fine X
  rw [c6_err] at hE
  unfold Or.v oV at hE
  simp only [c6] at hE
  change ∀ X, Calls Try.prog 20 _ X (RetBelow (.tuple #[.string c6.enc, .int .i64 0]) X) at hE
  have HO : Hid (∀ X : World, ∀ Y, Below (X.alloc (.cells #[.int .i64 1, .string c6.enc, .int .i64 1, .string ⟨#[]⟩] 46)).heap.size (X.alloc (.cells #[.int .i64 1, .string c6.enc, .int .i64 1, .string ⟨#[]⟩] 46)) Y → Calls Try.prog 21 #[.int .i64 1, .slice (some ⟨X.heap.size, 0, none⟩) 2 2] Y (RetBelow (.int .i64 6) Y)) := Lib.hid fun X Y hY => by
    have := confOf_any (c := 2) 1 ((rdE_new X c6.enc 46).below hY) rfl (by decide) (by
      intro x hx
      simp only [List.mem_cons, List.not_mem_nil, or_false] at hx
      rcases hx with rfl | rfl
      · exact Nat.le_trans c6_size (by decide)
      · show (0 : Nat) ≤ _; omega)
    rw [o1] at this
    exact this
  have HE := Lib.hid hE
  clear hE
  generalize c6.enc = d at *
  have hb1 : ∀ W : World, (Instr.build 43 #[(0, .int .i64 4), (3, .int .i64 6)]).run Try.prog W = .ok (.agg #[.int .i64 4, .int .i64 0, .int .i64 0, .int .i64 6, .int .i64 0, .string ⟨#[]⟩, .string ⟨#[]⟩, .int .i64 0, .int .i64 0, .int .i64 0, .int .i64 0]) W := fun W => run_build W 43 _ _ (by kernel_rfl)
  have hb2 : ∀ W : World, (Instr.build 46 #[(0, .int .i64 1), (1, .string d)]).run Try.prog W = .ok (.agg #[.int .i64 1, .string d]) W := fun W => run_build W 46 _ _ (by kernel_rfl)
  have hb3 : ∀ W : World, (Instr.build 46 #[(0, .int .i64 1)]).run Try.prog W = .ok (.agg #[.int .i64 1, .string ⟨#[]⟩]) W := fun W => run_build W 46 _ _ (by kernel_rfl)
  obtain ⟨e1, e2, e3, e4, e5, e6, e7, e8⟩ := b1
  have HM1 : Hid (∀ X, Calls Try.prog 9 #[.int .i64 1] X (RetBelow (.bool true) X)) := Lib.hid fun X => by have := confMay_any 1 X; rwa [e6] at this
  have HM0 : Hid (∀ X, Calls Try.prog 9 #[.int .i64 0] X (RetBelow (.bool false) X)) := Lib.hid fun X => by have := confMay_any 0 X; rwa [e7] at this
  have HL5 : Hid (∀ X, Calls Try.prog 12 #[.int .i64 5] X fun e w' => ∃ A cap, e = .returned (.slice A 2 cap) ∧ Below X.heap.size X w') := Lib.hid fun X => (confList_any 5 X).mono (by
    rintro e w' ⟨A, cap, rfl, _, _, _, hb⟩
    rw [e8]
    exact ⟨A, cap, rfl, hb⟩)
  have HT1 : Hid (∀ X, Calls Try.prog 14 #[.int .i64 7, .int .i64 3] X (RetBelow (.bool true) X)) := Lib.hid fun X => by have := confMost_any 7 3 X; rwa [e1] at this
  have HT2 : Hid (∀ X, Calls Try.prog 14 #[.int .i64 7, .int .i64 9] X (RetBelow (.bool false) X)) := Lib.hid fun X => by have := confMost_any 7 9 X; rwa [e2] at this
  have HT3 : Hid (∀ X, Calls Try.prog 14 #[.int .i64 15, .int .i64 3] X (RetBelow (.bool false) X)) := Lib.hid fun X => by have := confMost_any 15 3 X; rwa [e3] at this
  have HN1 : Hid (∀ X, Calls Try.prog 16 #[.int .i64 7, .int .i64 6] X (RetBelow (.bool true) X)) := Lib.hid fun X => by have := confNear_any 7 6 X; rwa [e4] at this
  have HN2 : Hid (∀ X, Calls Try.prog 16 #[.int .i64 1, .int .i64 0] X (RetBelow (.bool false) X)) := Lib.hid fun X => by have := confNear_any 1 0 X; rwa [e5] at this
  have HR1 : Hid (∀ X : World, Calls Try.prog 18 #[.int .i64 7, .slice (some ⟨X.heap.size, 0, none⟩) 3 3] (X.alloc (.cells #[.int .i64 5, .int .i64 9, .int .i64 7] 2)) (RetBelow (.int .i64 7) (X.alloc (.cells #[.int .i64 5, .int .i64 9, .int .i64 7] 2)))) := Lib.hid fun X => by
    have := confReached_any (c := 3) 7 (rdL_new X [5, 9, 7] 2) rfl
    rw [r1] at this
    exact this
  have HR2 : Hid (∀ X : World, Calls Try.prog 18 #[.int .i64 3, .slice (some ⟨X.heap.size, 0, none⟩) 1 1] (X.alloc (.cells #[.int .i64 5] 2)) (RetBelow (.int .i64 0) (X.alloc (.cells #[.int .i64 5] 2)))) := Lib.hid fun X => by
    have := confReached_any (c := 1) 3 (rdL_new X [5] 2) rfl
    rw [r2] at this
    exact this
  clear e1 e2 e3 e4 e5 e6 e7 e8
  go_enter Try.func8, Try.ntmps8
  go_wp2_with (first
    | (go_at_call 20; (with_reducible refine (HE.out _).mono ?_); rintro e w1 ⟨rfl, hb⟩; have B1 := Lib.hid hb; clear hb)
    | (go_at_call 9; (with_reducible refine (HM1.out _).mono ?_); rintro e w2 ⟨rfl, hb⟩; have B2 := Lib.hid (B1.out.trans (hb.mono B1.out.size)); clear hb)
    | (go_at_call 9; (with_reducible refine (HM0.out _).mono ?_); rintro e w3 ⟨rfl, hb⟩; have B3 := Lib.hid (B2.out.trans (hb.mono B2.out.size)); clear hb)
    | (go_at_call 12; (with_reducible refine (HL5.out _).mono ?_); rintro e w4 ⟨A4, c4, rfl, hb⟩; have B4 := Lib.hid (B3.out.trans (hb.mono B3.out.size)); clear hb)
    | (go_at_call 14; (with_reducible refine (HT1.out _).mono ?_); rintro e w5 ⟨rfl, hb⟩; have B5 := Lib.hid (B4.out.trans (hb.mono B4.out.size)); clear hb)
    | (go_at_call 14; (with_reducible refine (HT2.out _).mono ?_); rintro e w6 ⟨rfl, hb⟩; have B6 := Lib.hid (B5.out.trans (hb.mono B5.out.size)); clear hb)
    | (go_at_call 14; (with_reducible refine (HT3.out _).mono ?_); rintro e w7 ⟨rfl, hb⟩; have B7 := Lib.hid (B6.out.trans (hb.mono B6.out.size)); clear hb)
    | (go_at_call 18; (with_reducible refine (HR1.out _).mono ?_); rintro e w8 ⟨rfl, hb⟩; have B8 := Lib.hid ((B7.out.alloc B7.out.size (.cells #[.int .i64 5, .int .i64 9, .int .i64 7] 2)).trans (hb.mono (B7.out.alloc B7.out.size (.cells #[.int .i64 5, .int .i64 9, .int .i64 7] 2)).size)); clear hb)
    | (go_at_call 18; (with_reducible refine (HR2.out _).mono ?_); rintro e w9 ⟨rfl, hb⟩; have B9 := Lib.hid ((B8.out.alloc B8.out.size (.cells #[.int .i64 5] 2)).trans (hb.mono (B8.out.alloc B8.out.size (.cells #[.int .i64 5] 2)).size)); clear hb)
    | (go_at_call 16; (with_reducible refine (HN1.out _).mono ?_); rintro e w10 ⟨rfl, hb⟩; have B10 := Lib.hid (B9.out.trans (hb.mono B9.out.size)); clear hb)
    | (go_at_call 16; (with_reducible refine (HN2.out _).mono ?_); rintro e w11 ⟨rfl, hb⟩; have B11 := Lib.hid (B10.out.trans (hb.mono B10.out.size)); clear hb)
    | (go_at_call 21; (with_reducible refine (HO.out w11 _ (Below.refl _ _)).mono ?_); rintro e w12 ⟨rfl, hb⟩; have B12 := Lib.hid ((B11.out.alloc B11.out.size (.cells #[.int .i64 1, .string d, .int .i64 1, .string ⟨#[]⟩] 46)).trans (hb.mono (B11.out.alloc B11.out.size (.cells #[.int .i64 1, .string d, .int .i64 1, .string ⟨#[]⟩] 46)).size)); clear hb))
  all_goals
    go_ret
    exact ⟨rfl, B12.out⟩
end Go.Proofs.Ytebacdegjmcnlaa
