import Derived.Test.YtbbfjlkgfaniaaaAr
namespace Go.Proofs.Ytbbfjlkgfaniaaa
set_option maxRecDepth 20000
open Go.RowKit
open SP
open Go.Proofs.Ytbbfjlkgfaniaaa.Nm (str)
open Wi (RetBelow)
set_option linter.unusedVariables false
theorem eq38i (o : Int) (s : ByteArray) (a b c n : Int) (w : World) : (Op.equalIn 10000 38 (.agg #[.int .i64 o, .string s, .int .i64 a, .int .i64 b, .int .i64 c, .int .i64 n]) (.agg #[.int .i64 o, .string s, .int .i64 a, .int .i64 b, .int .i64 c, .int .i64 n])).run Try.prog w = .ok true w := by
  have := Wi.eq34 o s a b c n o s a b c n w
  unfold Wi.rV at this
  rw [this, show Wi.eqR o s a b c n o s a b c n = true from Wi.eqR_iff.2 ⟨rfl, rfl, ⟨rfl, rfl, rfl⟩, rfl⟩]
set_option maxHeartbeats 8000000 in
theorem law_looks (L0 : List SP.Act) (A : Option Addr) (N c0 : Nat) (id q : Int) (w : World) (hA : Rws DA w w.heap.size A L0) (hN : L0.length = N) (hX : ∀ x ∈ L0, ActX x) : Calls Try.prog 10 #[.slice A N c0, .int .i64 id, .int .i64 q] w (RetBelow (.bool true) w) := by
  have HA := Lib.hid hA
  have HN := Lib.hid hN
  have HX := Lib.hid hX
  have HB := Lib.hid (Below.refl w.heap.size w)
  have HAW := Lib.hid (awake_any w)
  have HNW : Hid (∀ X, Below w.heap.size w X → Calls Try.prog 12 #[] X fun e Y => ∃ b, e = .returned (.pointer (some ⟨b, 0, none⟩)) ∧ LvE w Y b t0 []) := Lib.hid fun X h => new_lv h [] (fun p hp => by cases hp)
  clear hA hX hN
  go_enter Try.func10, Try.ntmps10
  go_wp2_with (first | (go_at_call 11; (with_reducible refine HAW.out.mono ?_); rintro e w0 ⟨rfl, hb⟩; have HB0 := Lib.hid hb; clear hb) | (go_at_call 12; (with_reducible refine (HNW.out _ HB0.out).mono ?_); rintro e w1 ⟨b, rfl, h⟩; have HL0 := Lib.hid h; clear h))
  go_loopw [8] (fun iV wr => ∃ (j : Nat) (T : Tb), iV = .int .i64 (j : Int) ∧ j ≤ N ∧ LvE w wr b T []) (fun iV _ => N - (intOf iV).toNat)
  case atStart => exact ⟨0, _, rfl, Nat.zero_le _, HL0.out⟩
  case round =>
    obtain ⟨j, T, rfl, hj, hl⟩ := hrel
    have HL := Lib.hid hl
    clear hl
    by_cases hgo : j < N ∧ j < 200
    case neg =>
      have hgo' : j < N → ¬ j < 200 := fun a b => hgo ⟨a, b⟩
      clear hgo
      rcases Nat.lt_or_ge j N with hlt | hlt
      · have h2 := hgo' hlt
        have g1 : decide ((j : Int) < (N : Int)) = true := by simp; omega
        have g2 : decide (j < N) = true := by simp; omega
        have g3 : decide ((j : Int) < 200) = false := by simp; omega
        have g4 : decide (j < 200) = false := by simp; omega
        clear hgo' hlt h2
        have HSV := Lib.hid fun (X : World) (G : List (Nat × Obj)) (h : LvE w X b T G) => save_lv h
        have HCK : Hid (∀ X G, LvE w X b T G → Calls Try.prog 16 #[.pointer (some ⟨b, 0, none⟩), .int .i64 id, .int .i64 q] X fun e Y => e = .returned (.tuple #[.int .i64 (check T id q).1, rpV (check T id q).2]) ∧ LvE w Y b T G) := Lib.hid fun X G h => check_lv h id q
        have HTK := Lib.hid fun (X : World) (G : List (Nat × Obj)) (h : LvE w X b T G) => tick_lv h
        have HC2 : Hid (∀ X G, LvE w X b (tick T) G → Calls Try.prog 16 #[.pointer (some ⟨b, 0, none⟩), .int .i64 id, .int .i64 q] X fun e Y => e = .returned (.tuple #[.int .i64 (check T id q).1, rpV (check T id q).2]) ∧ LvE w Y b (tick T) G) := Lib.hid fun X G h => by have := check_lv h id q; rw [check_tick] at this; exact this
        have HID := Lib.hid fun (X : World) (G : List (Nat × Obj)) (h : LvE w X b T G) => ids_lv h
        generalize check T id q = ck at *
        obtain ⟨V, E, Sx, A1, B1, C1, N1⟩ := ck
        dsimp only [rpV] at HCK HC2
        generalize save T = TX at *
        have g5 : (TX == TX) = true := (beq_toListBytes _ _).trans (beq_self_eq_true _)
        have g6 : (TX.toList == TX.toList) = true := beq_self_eq_true _
        have g7 : (V == V) = true := by simp
        have g8 := fun W => eq38i E Sx A1 B1 C1 N1 W
        go_wp2_with (first
          | (go_at_call 28; (with_reducible refine (HSV.out _ _ HL.out).mono ?_); rintro e w2 ⟨rfl, h⟩; have HL2 := Lib.hid h; clear h HL)
          | (go_at_call 16; (with_reducible refine (HCK.out _ _ HL2.out).mono ?_); rintro e w3 ⟨rfl, h⟩; have HL3 := Lib.hid (h.box #[.int .i64 E, .string Sx, .int .i64 A1, .int .i64 B1, .int .i64 C1, .int .i64 N1] 38); clear h HL2)
          | (go_at_call 30; (with_reducible refine (HID.out _ _ HL3.out).mono ?_); rintro e w4 ⟨u, rfl, ho, h, _⟩; have HL4 := Lib.hid h; obtain ⟨A9, c9, rfl, _⟩ := ho.form; clear h ho HL3)
          | (go_at_call 16; (with_reducible refine (HCK.out _ _ HL4.out).mono ?_); rintro e w5 ⟨rfl, h⟩; have HL5 := Lib.hid (h.box #[.int .i64 E, .string Sx, .int .i64 A1, .int .i64 B1, .int .i64 C1, .int .i64 N1] 38); clear h HL4; obtain ⟨x0, x1, x2, x3, x4, x5, _⟩ := row6 (HL5.out.held (p := (w5.heap.size, _)) (List.Mem.head _)); obtain ⟨y0, y1, y2, y3, y4, y5, _⟩ := row6 (HL5.out.held (p := (w3.heap.size, _)) (List.Mem.tail _ (List.Mem.head _))))
          | (go_at_call 28; (with_reducible refine (HSV.out _ _ HL5.out).mono ?_); rintro e w6 ⟨rfl, h⟩; have HL6 := Lib.hid h; clear h HL5)
          | (go_at_call 20; (with_reducible refine (HTK.out _ _ HL6.out).mono ?_); rintro e w7 ⟨rfl, h⟩; have HL7 := Lib.hid h; clear h HL6)
          | (go_at_call 16; (with_reducible refine (HC2.out _ _ HL7.out).mono ?_); rintro e w8 ⟨rfl, h⟩; have HL8 := Lib.hid (h.box #[.int .i64 E, .string Sx, .int .i64 A1, .int .i64 B1, .int .i64 C1, .int .i64 N1] 38); clear h HL7 x0 x1 x2 x3 x4 x5 y0 y1 y2 y3 y4 y5; obtain ⟨x0, x1, x2, x3, x4, x5, _⟩ := row6 (HL8.out.held (p := (w8.heap.size, _)) (List.Mem.head _)); obtain ⟨y0, y1, y2, y3, y4, y5, _⟩ := row6 (HL8.out.held (p := (w3.heap.size, _)) (List.Mem.tail _ (List.Mem.tail _ (List.Mem.head _))))))
        go_ret
        exact ⟨rfl, HL8.out.bel⟩
      · have g1 : decide ((j : Int) < (N : Int)) = false := by simp; omega
        have g2 : decide (j < N) = false := by simp; omega
        clear hgo' hlt
        have HSV := Lib.hid fun (X : World) (G : List (Nat × Obj)) (h : LvE w X b T G) => save_lv h
        have HCK : Hid (∀ X G, LvE w X b T G → Calls Try.prog 16 #[.pointer (some ⟨b, 0, none⟩), .int .i64 id, .int .i64 q] X fun e Y => e = .returned (.tuple #[.int .i64 (check T id q).1, rpV (check T id q).2]) ∧ LvE w Y b T G) := Lib.hid fun X G h => check_lv h id q
        have HTK := Lib.hid fun (X : World) (G : List (Nat × Obj)) (h : LvE w X b T G) => tick_lv h
        have HC2 : Hid (∀ X G, LvE w X b (tick T) G → Calls Try.prog 16 #[.pointer (some ⟨b, 0, none⟩), .int .i64 id, .int .i64 q] X fun e Y => e = .returned (.tuple #[.int .i64 (check T id q).1, rpV (check T id q).2]) ∧ LvE w Y b (tick T) G) := Lib.hid fun X G h => by have := check_lv h id q; rw [check_tick] at this; exact this
        have HID := Lib.hid fun (X : World) (G : List (Nat × Obj)) (h : LvE w X b T G) => ids_lv h
        generalize check T id q = ck at *
        obtain ⟨V, E, Sx, A1, B1, C1, N1⟩ := ck
        dsimp only [rpV] at HCK HC2
        generalize save T = TX at *
        have g5 : (TX == TX) = true := (beq_toListBytes _ _).trans (beq_self_eq_true _)
        have g6 : (TX.toList == TX.toList) = true := beq_self_eq_true _
        have g7 : (V == V) = true := by simp
        have g8 := fun W => eq38i E Sx A1 B1 C1 N1 W
        go_wp2_with (first
          | (go_at_call 28; (with_reducible refine (HSV.out _ _ HL.out).mono ?_); rintro e w2 ⟨rfl, h⟩; have HL2 := Lib.hid h; clear h HL)
          | (go_at_call 16; (with_reducible refine (HCK.out _ _ HL2.out).mono ?_); rintro e w3 ⟨rfl, h⟩; have HL3 := Lib.hid (h.box #[.int .i64 E, .string Sx, .int .i64 A1, .int .i64 B1, .int .i64 C1, .int .i64 N1] 38); clear h HL2)
          | (go_at_call 30; (with_reducible refine (HID.out _ _ HL3.out).mono ?_); rintro e w4 ⟨u, rfl, ho, h, _⟩; have HL4 := Lib.hid h; obtain ⟨A9, c9, rfl, _⟩ := ho.form; clear h ho HL3)
          | (go_at_call 16; (with_reducible refine (HCK.out _ _ HL4.out).mono ?_); rintro e w5 ⟨rfl, h⟩; have HL5 := Lib.hid (h.box #[.int .i64 E, .string Sx, .int .i64 A1, .int .i64 B1, .int .i64 C1, .int .i64 N1] 38); clear h HL4; obtain ⟨x0, x1, x2, x3, x4, x5, _⟩ := row6 (HL5.out.held (p := (w5.heap.size, _)) (List.Mem.head _)); obtain ⟨y0, y1, y2, y3, y4, y5, _⟩ := row6 (HL5.out.held (p := (w3.heap.size, _)) (List.Mem.tail _ (List.Mem.head _))))
          | (go_at_call 28; (with_reducible refine (HSV.out _ _ HL5.out).mono ?_); rintro e w6 ⟨rfl, h⟩; have HL6 := Lib.hid h; clear h HL5)
          | (go_at_call 20; (with_reducible refine (HTK.out _ _ HL6.out).mono ?_); rintro e w7 ⟨rfl, h⟩; have HL7 := Lib.hid h; clear h HL6)
          | (go_at_call 16; (with_reducible refine (HC2.out _ _ HL7.out).mono ?_); rintro e w8 ⟨rfl, h⟩; have HL8 := Lib.hid (h.box #[.int .i64 E, .string Sx, .int .i64 A1, .int .i64 B1, .int .i64 C1, .int .i64 N1] 38); clear h HL7 x0 x1 x2 x3 x4 x5 y0 y1 y2 y3 y4 y5; obtain ⟨x0, x1, x2, x3, x4, x5, _⟩ := row6 (HL8.out.held (p := (w8.heap.size, _)) (List.Mem.head _)); obtain ⟨y0, y1, y2, y3, y4, y5, _⟩ := row6 (HL8.out.held (p := (w3.heap.size, _)) (List.Mem.tail _ (List.Mem.tail _ (List.Mem.head _))))))
        go_ret
        exact ⟨rfl, HL8.out.bel⟩
    case pos =>
      obtain ⟨hlt, h200⟩ := hgo
      have g1 : decide ((j : Int) < (N : Int)) = true := by simp; omega
      have g2 : decide (j < N) = true := by simp; omega
      have g3 : decide ((j : Int) < 200) = true := by simp; omega
      have g4 : decide (j < 200) = true := by simp; omega
      have HLT := Lib.hid hlt
      have i1 : (j : Int) < (N : Int) := by omega
      obtain ⟨x, hx⟩ : ∃ x, L0[j]? = some x := ⟨_, List.getElem?_eq_getElem (by have := HN.out; omega)⟩
      obtain ⟨ba, off, hA0, hcells⟩ := act_at HA.out hx
      obtain ⟨hxr, hxe⟩ := HX.out x (List.mem_of_getElem? hx)
      have HPL : Hid (∀ X, LvE w X b T [] → Calls Try.prog 27 #[.pointer (some ⟨b, 0, none⟩), actV x] X fun e Y => e = .returned (.tuple #[]) ∧ LvE w Y b (play T x) []) := Lib.hid fun X h => play_lv h x hxr hxe
      obtain ⟨p0, p1, p2, p3, p4, p5, p6, p7, p8, p9⟩ := hcells _ HL.out.bel
      clear hcells hx hxr hxe
      rw [hA0]
      generalize play T x = PT at *
      unfold actV at HPL
      go_wp2_with (go_at_call 27; (with_reducible refine (HPL.out _ HL.out).mono ?_); rintro e w2 ⟨rfl, h⟩; have HL2 := Lib.hid h; clear h)
      go_roundw
      case rel => exact ⟨j + 1, PT, by go_num, Nat.succ_le_of_lt HLT.out, HL2.out⟩
      case measure => exact meas_lt HLT.out
end Go.Proofs.Ytbbfjlkgfaniaaa
