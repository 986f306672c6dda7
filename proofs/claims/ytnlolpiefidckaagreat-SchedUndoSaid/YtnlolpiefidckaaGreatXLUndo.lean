import Derived.Test.YtnlolpiefidckaaGreatX6
namespace Go.Proofs.YtnlolpiefidckaaGreat
set_option maxRecDepth 20000
open Go.RowKit
open PS (Tx putM dropM setM findM Nod Ten Jb kOf St Cm Rp byName row)
open Go.Proofs.YtnlolpiefidckaaGreat.Nm (str)
open Go.Proofs.YtnlolpiefidckaaGreat.Vc (RetBelow fitB I64)
set_option linter.unusedVariables false
set_option maxHeartbeats 8000000 in
theorem law_undo (L0 : List Cm) (A : Option Addr) (N c0 : Nat) (nm of : Tx) (p q r : Int) (w : World) (hA : Rws DC w w.heap.size A L0) (hN : L0.length = N) (hX : ∀ c ∈ L0, CmX c) (hn : nm.length ≤ 140737488351232) (ho : of.length ≤ 140737488351232) (bp : I64 p) (bq : I64 q) (br : I64 r) :
    Calls Tryz.prog 9 #[.slice A N c0, .string (str nm), .string (str of), .agg #[.int .i64 p, .int .i64 q, .int .i64 r]] w (RetBelow (.bool true) w) := by
  have HA := Lib.hid hA
  have HN := Lib.hid hN
  have HX := Lib.hid hX
  have HAW := Lib.hid (fun X => awake_any X)
  clear hA hX hN
  have HB := Lib.hid ((Below.refl w.heap.size w).alloc (Nat.le_refl _) (.cells #[.int .i64 p, .int .i64 q, .int .i64 r] 33))
  have HV := Lib.hid (heap_alloc_new w (.cells #[.int .i64 p, .int .i64 q, .int .i64 r] 33))
  have HNW : Hid (∀ X, Below w.heap.size w X → X.heap[w.heap.size]? = some (.cells #[.int .i64 p, .int .i64 q, .int .i64 r] 33 (0, 0)) → Calls Tryz.prog 13 #[] X fun e Y => ∃ b, e = .returned (.pointer (some ⟨b, 0, none⟩)) ∧ LvE w Y b PS.s0 [(w.heap.size, .cells #[.int .i64 p, .int .i64 q, .int .i64 r] 33 (0, 0))]) := Lib.hid fun X h h2 => new_lv h _ (fun p hp => by rcases List.mem_cons.1 hp with rfl | hp; exact h2; cases hp)
  go_enter Tryz.func9, Tryz.ntmps9
  go_wp2_with (first | (go_at_call 12; (with_reducible refine (HAW.out _).mono ?_); rintro e w0 ⟨rfl, hb⟩; have HB0 := Lib.hid (HB.out.trans (hb.mono HB.out.size)); have HV0 := Lib.hid ((hb.block w.heap.size (Array.getElem?_eq_some_iff.1 HV.out).1).trans HV.out); clear hb) | (go_at_call 13; (with_reducible refine (HNW.out _ HB0.out HV0.out).mono ?_); rintro e w1 ⟨b, rfl, h⟩; have HL0 := Lib.hid h; clear h))
  go_loopw [10] (fun iV wr => ∃ (j : Nat) (S : St), iV = .int .i64 j ∧ j ≤ N ∧ LvE w wr b S [(w.heap.size, .cells #[.int .i64 p, .int .i64 q, .int .i64 r] 33 (0, 0))]) (fun iV _ => N - (intOf iV).toNat)
  case atStart => exact ⟨0, _, rfl, Nat.zero_le _, HL0.out⟩
  case round =>
    obtain ⟨j, S, rfl, hj, hl⟩ := hrel
    have HL := Lib.hid hl
    clear hl
    by_cases hlt : j < N
    case neg =>
      have g1 : decide ((j : Int) < (N : Int)) = false := by simp; omega
      have g2 : decide (j < N) = false := by simp; omega
      clear hlt hj
      have HUN := Lib.hid (undo HL.out.inv (s := nm) (t := of) (p := p) (q := q) (r := r) ⟨bp, bq, br⟩)
      have HDE := Lib.hid ((do_err S ⟨5, nm, of, p, q, r, 0⟩).1)
      have hcs : CmOk ⟨5, nm, of, p, q, r, 0⟩ := ⟨by show nm.length ≤ _; omega, by show of.length ≤ _; omega, bp, bq, br⟩
      have hcj : CmI ⟨5, nm, of, p, q, r, 0⟩ := ⟨bp, bq, i64_0, br⟩
      have hca : ∀ o : Int, CmOk ⟨o, nm, [], 0, 0, 0, 0⟩ := fun o => ⟨by show nm.length ≤ _; omega, by show ([] : Tx).length ≤ _; simp, i64_0, i64_0, i64_0⟩
      have hcb : ∀ o : Int, CmI ⟨o, nm, [], 0, 0, 0, 0⟩ := fun o => ⟨i64_0, i64_0, i64_0, i64_0⟩
      have HSV := Lib.hid fun (X : World) (G : List (Nat × Obj)) (h : LvE w X b S G) => save_lv h
      have HD5 : Hid (∀ X G, LvE w X b S G → Calls Tryz.prog 17 #[.pointer (some ⟨b, 0, none⟩), .agg #[.int .i64 5, .string (str nm), .string (str of), .int .i64 p, .int .i64 q, .int .i64 r, .int .i64 0]] X fun e Y => e = .returned (rpV (PS.doC S ⟨5, nm, of, p, q, r, 0⟩).2) ∧ LvE w Y b (PS.doC S ⟨5, nm, of, p, q, r, 0⟩).1 G) := Lib.hid fun X G h => do_lv h ⟨5, nm, of, p, q, r, 0⟩ hcs hcj
      have HA8 : ∀ S1 : St, Hid (∀ X G, LvE w X b S1 G → Calls Tryz.prog 14 #[.pointer (some ⟨b, 0, none⟩), .agg #[.int .i64 8, .string (str nm), .string ⟨#[]⟩, .int .i64 0, .int .i64 0, .int .i64 0, .int .i64 0]] X fun e Y => e = .returned (rpV (PS.ask S1 ⟨8, nm, [], 0, 0, 0, 0⟩)) ∧ LvE w Y b S1 G) := fun S1 => Lib.hid fun X G h => ask_lv h ⟨8, nm, [], 0, 0, 0, 0⟩ (hca 8)
      have HD6 : ∀ S1 : St, Hid (∀ X G, LvE w X b S1 G → Calls Tryz.prog 17 #[.pointer (some ⟨b, 0, none⟩), .agg #[.int .i64 6, .string (str nm), .string ⟨#[]⟩, .int .i64 0, .int .i64 0, .int .i64 0, .int .i64 0]] X fun e Y => e = .returned (rpV (PS.doC S1 ⟨6, nm, [], 0, 0, 0, 0⟩).2) ∧ LvE w Y b (PS.doC S1 ⟨6, nm, [], 0, 0, 0, 0⟩).1 G) := fun S1 => Lib.hid fun X G h => do_lv h ⟨6, nm, [], 0, 0, 0, 0⟩ (hca 6) (hcb 6)
      have HS2 := Lib.hid fun (X : World) (G : List (Nat × Obj)) (h : LvE w X b (PS.doC S ⟨5, nm, of, p, q, r, 0⟩).1 G) => save_lv h
      generalize PS.doC S ⟨5, nm, of, p, q, r, 0⟩ = dr at *
      obtain ⟨S1, er, rsx, ra, rb, rc, rn⟩ := dr
      dsimp only at *
      have HA8 := HA8 S1
      have HD6 := HD6 S1
      by_cases hE : er = 0
      case neg =>
        obtain rfl := HDE.out (.inl hE)
        have he1 : (er == 0) = false := by simp [hE]
        have he2 : (er != 0) = true := by simp [hE]
        clear HUN HDE HA8 HD6 hE
        unfold rpV at HD5
        dsimp only at HD5
        generalize str rsx = rs at *
        generalize str nm = NM at *
        generalize str of = OF at *
        generalize str (PS.save S1) = TX at *
        have g5 : (TX == TX) = true := (beq_toListBytes _ _).trans (beq_self_eq_true _)
        have g6 : (TX.toList == TX.toList) = true := beq_self_eq_true _
        have hb5 : ∀ W : World, (Instr.build 38 #[(0, .int .i64 5), (1, .string NM), (2, .string OF), (3, .agg #[.int .i64 p, .int .i64 q, .int .i64 r])]).run Tryz.prog W = .ok (.agg #[.int .i64 5, .string NM, .string OF, .int .i64 p, .int .i64 q, .int .i64 r, .int .i64 0]) W := fun W => run_build W 38 _ _ (by kernel_rfl)
        go_wp2_with fail
        (with_reducible refine (HSV.out _ _ HL.out).mono ?_)
        rintro e w2 ⟨rfl, h⟩
        have HL2 := Lib.hid h
        clear h
        obtain ⟨v0, v1, v2, _⟩ := row3f (HL2.out.held (p := (w.heap.size, _)) (List.Mem.head _))
        go_wp2_with fail
        (with_reducible refine (HD5.out _ _ HL2.out).mono ?_)
        rintro e w3 ⟨rfl, h⟩
        have HL3 := Lib.hid (h.box #[.int .i64 er, .string rs, .int .i64 ra, .int .i64 rb, .int .i64 rc, .int .i64 rn] 35)
        clear h v0 v1 v2
        go_wp2_with fail
        go_wp2_with fail
        (with_reducible refine (HS2.out _ _ HL3.out).mono ?_)
        rintro e w4 ⟨rfl, h⟩
        have HL4 := Lib.hid h
        clear h
        go_wp2_with fail
        go_ret
        exact ⟨rfl, HL4.out.bel⟩
      case pos =>
        subst hE
        obtain ⟨hu1, hu2⟩ := HUN.out rfl
        rw [hu1] at HA8
        rw [hu2] at HD6
        clear hu1 hu2 HUN HDE
        unfold rpV at HA8 HD6
        dsimp only at HA8 HD6
        unfold rpV at HD5
        dsimp only at HD5
        generalize str rsx = rs at *
        generalize str nm = NM at *
        generalize str of = OF at *
        generalize str (PS.save S) = TX at *
        have g5 : (TX == TX) = true := (beq_toListBytes _ _).trans (beq_self_eq_true _)
        have g6 : (TX.toList == TX.toList) = true := beq_self_eq_true _
        have hb5 : ∀ W : World, (Instr.build 38 #[(0, .int .i64 5), (1, .string NM), (2, .string OF), (3, .agg #[.int .i64 p, .int .i64 q, .int .i64 r])]).run Tryz.prog W = .ok (.agg #[.int .i64 5, .string NM, .string OF, .int .i64 p, .int .i64 q, .int .i64 r, .int .i64 0]) W := fun W => run_build W 38 _ _ (by kernel_rfl)
        have hb8 : ∀ W : World, (Instr.build 38 #[(0, .int .i64 8), (1, .string NM)]).run Tryz.prog W = .ok (.agg #[.int .i64 8, .string NM, .string ⟨#[]⟩, .int .i64 0, .int .i64 0, .int .i64 0, .int .i64 0]) W := fun W => run_build W 38 _ _ (by kernel_rfl)
        have hb6 : ∀ W : World, (Instr.build 38 #[(0, .int .i64 6), (1, .string NM)]).run Tryz.prog W = .ok (.agg #[.int .i64 6, .string NM, .string ⟨#[]⟩, .int .i64 0, .int .i64 0, .int .i64 0, .int .i64 0]) W := fun W => run_build W 38 _ _ (by kernel_rfl)
        have hbr : ∀ W : World, (Instr.build 35 #[(1, .string rs), (2, .agg #[.int .i64 p, .int .i64 q, .int .i64 r])]).run Tryz.prog W = .ok (.agg #[.int .i64 0, .string rs, .int .i64 p, .int .i64 q, .int .i64 r, .int .i64 0]) W := fun W => run_build W 35 _ _ (by kernel_rfl)
        have hbq : ∀ W : World, (Instr.build 35 #[(1, .string rs)]).run Tryz.prog W = .ok (.agg #[.int .i64 0, .string rs, .int .i64 0, .int .i64 0, .int .i64 0, .int .i64 0]) W := fun W => run_build W 35 _ _ (by kernel_rfl)
        have q1 := fun W => eq35i 0 rs p q r 0 W
        have q2 := fun W => eq35i 0 rs 0 0 0 0 W
        go_wp2_with fail
        (with_reducible refine (HSV.out _ _ HL.out).mono ?_)
        rintro e w2 ⟨rfl, h⟩
        have HL2 := Lib.hid h
        clear h
        obtain ⟨v0, v1, v2, _⟩ := row3f (HL2.out.held (p := (w.heap.size, _)) (List.Mem.head _))
        go_wp2_with fail
        (with_reducible refine (HD5.out _ _ HL2.out).mono ?_)
        rintro e w3 ⟨rfl, h⟩
        have HL3 := Lib.hid (h.box #[.int .i64 0, .string rs, .int .i64 ra, .int .i64 rb, .int .i64 rc, .int .i64 rn] 35)
        clear h v0 v1 v2
        go_wp2_with fail
        go_wp2_with fail
        (with_reducible refine (HA8.out _ _ HL3.out).mono ?_)
        rintro e w4 ⟨rfl, h⟩
        have HL4 := Lib.hid (h.box #[.int .i64 0, .string rs, .int .i64 p, .int .i64 q, .int .i64 r, .int .i64 0] 35)
        clear h
        go_wp2_with fail
        (with_reducible refine (HD6.out _ _ HL4.out).mono ?_)
        rintro e w5 ⟨rfl, h⟩
        have HL5 := Lib.hid (h.box #[.int .i64 0, .string rs, .int .i64 0, .int .i64 0, .int .i64 0, .int .i64 0] 35)
        clear h
        obtain ⟨x0, x1, x2, x3, x4, x5, _⟩ := rowc6 (HL5.out.held (p := (w5.heap.size, _)) (List.Mem.head _))
        obtain ⟨y0, y1, y2, y3, y4, y5, _⟩ := rowc6 (HL5.out.held (p := (w4.heap.size, _)) (List.Mem.tail _ (List.Mem.head _)))
        obtain ⟨u0, u1, _⟩ := rowc6 (HL5.out.held (p := (w3.heap.size, _)) (List.Mem.tail _ (List.Mem.tail _ (List.Mem.head _))))
        obtain ⟨v0, v1, v2, _⟩ := row3f (HL5.out.held (p := (w.heap.size, _)) (List.Mem.tail _ (List.Mem.tail _ (List.Mem.tail _ (List.Mem.head _)))))
        go_wp2_with fail
        go_wp2_with fail
        (with_reducible refine (HSV.out _ _ HL5.out).mono ?_)
        rintro e w6 ⟨rfl, h⟩
        have HL6 := Lib.hid h
        clear h
        go_wp2_with fail
        go_ret
        exact ⟨rfl, HL6.out.bel⟩
    case pos =>
    by_cases h300 : j < 300
    case neg =>
      have g1 : decide ((j : Int) < (N : Int)) = true := by simp; omega
      have g2 : decide (j < N) = true := by simp; omega
      have g3 : decide ((j : Int) < 300) = false := by simp; omega
      have g4 : decide (j < 300) = false := by simp; omega
      clear hlt hj h300
      have HUN := Lib.hid (undo HL.out.inv (s := nm) (t := of) (p := p) (q := q) (r := r) ⟨bp, bq, br⟩)
      have HDE := Lib.hid ((do_err S ⟨5, nm, of, p, q, r, 0⟩).1)
      have hcs : CmOk ⟨5, nm, of, p, q, r, 0⟩ := ⟨by show nm.length ≤ _; omega, by show of.length ≤ _; omega, bp, bq, br⟩
      have hcj : CmI ⟨5, nm, of, p, q, r, 0⟩ := ⟨bp, bq, i64_0, br⟩
      have hca : ∀ o : Int, CmOk ⟨o, nm, [], 0, 0, 0, 0⟩ := fun o => ⟨by show nm.length ≤ _; omega, by show ([] : Tx).length ≤ _; simp, i64_0, i64_0, i64_0⟩
      have hcb : ∀ o : Int, CmI ⟨o, nm, [], 0, 0, 0, 0⟩ := fun o => ⟨i64_0, i64_0, i64_0, i64_0⟩
      have HSV := Lib.hid fun (X : World) (G : List (Nat × Obj)) (h : LvE w X b S G) => save_lv h
      have HD5 : Hid (∀ X G, LvE w X b S G → Calls Tryz.prog 17 #[.pointer (some ⟨b, 0, none⟩), .agg #[.int .i64 5, .string (str nm), .string (str of), .int .i64 p, .int .i64 q, .int .i64 r, .int .i64 0]] X fun e Y => e = .returned (rpV (PS.doC S ⟨5, nm, of, p, q, r, 0⟩).2) ∧ LvE w Y b (PS.doC S ⟨5, nm, of, p, q, r, 0⟩).1 G) := Lib.hid fun X G h => do_lv h ⟨5, nm, of, p, q, r, 0⟩ hcs hcj
      have HA8 : ∀ S1 : St, Hid (∀ X G, LvE w X b S1 G → Calls Tryz.prog 14 #[.pointer (some ⟨b, 0, none⟩), .agg #[.int .i64 8, .string (str nm), .string ⟨#[]⟩, .int .i64 0, .int .i64 0, .int .i64 0, .int .i64 0]] X fun e Y => e = .returned (rpV (PS.ask S1 ⟨8, nm, [], 0, 0, 0, 0⟩)) ∧ LvE w Y b S1 G) := fun S1 => Lib.hid fun X G h => ask_lv h ⟨8, nm, [], 0, 0, 0, 0⟩ (hca 8)
      have HD6 : ∀ S1 : St, Hid (∀ X G, LvE w X b S1 G → Calls Tryz.prog 17 #[.pointer (some ⟨b, 0, none⟩), .agg #[.int .i64 6, .string (str nm), .string ⟨#[]⟩, .int .i64 0, .int .i64 0, .int .i64 0, .int .i64 0]] X fun e Y => e = .returned (rpV (PS.doC S1 ⟨6, nm, [], 0, 0, 0, 0⟩).2) ∧ LvE w Y b (PS.doC S1 ⟨6, nm, [], 0, 0, 0, 0⟩).1 G) := fun S1 => Lib.hid fun X G h => do_lv h ⟨6, nm, [], 0, 0, 0, 0⟩ (hca 6) (hcb 6)
      have HS2 := Lib.hid fun (X : World) (G : List (Nat × Obj)) (h : LvE w X b (PS.doC S ⟨5, nm, of, p, q, r, 0⟩).1 G) => save_lv h
      generalize PS.doC S ⟨5, nm, of, p, q, r, 0⟩ = dr at *
      obtain ⟨S1, er, rsx, ra, rb, rc, rn⟩ := dr
      dsimp only at *
      have HA8 := HA8 S1
      have HD6 := HD6 S1
      by_cases hE : er = 0
      case neg =>
        obtain rfl := HDE.out (.inl hE)
        have he1 : (er == 0) = false := by simp [hE]
        have he2 : (er != 0) = true := by simp [hE]
        clear HUN HDE HA8 HD6 hE
        unfold rpV at HD5
        dsimp only at HD5
        generalize str rsx = rs at *
        generalize str nm = NM at *
        generalize str of = OF at *
        generalize str (PS.save S1) = TX at *
        have g5 : (TX == TX) = true := (beq_toListBytes _ _).trans (beq_self_eq_true _)
        have g6 : (TX.toList == TX.toList) = true := beq_self_eq_true _
        have hb5 : ∀ W : World, (Instr.build 38 #[(0, .int .i64 5), (1, .string NM), (2, .string OF), (3, .agg #[.int .i64 p, .int .i64 q, .int .i64 r])]).run Tryz.prog W = .ok (.agg #[.int .i64 5, .string NM, .string OF, .int .i64 p, .int .i64 q, .int .i64 r, .int .i64 0]) W := fun W => run_build W 38 _ _ (by kernel_rfl)
        go_wp2_with fail
        (with_reducible refine (HSV.out _ _ HL.out).mono ?_)
        rintro e w2 ⟨rfl, h⟩
        have HL2 := Lib.hid h
        clear h
        obtain ⟨v0, v1, v2, _⟩ := row3f (HL2.out.held (p := (w.heap.size, _)) (List.Mem.head _))
        go_wp2_with fail
        (with_reducible refine (HD5.out _ _ HL2.out).mono ?_)
        rintro e w3 ⟨rfl, h⟩
        have HL3 := Lib.hid (h.box #[.int .i64 er, .string rs, .int .i64 ra, .int .i64 rb, .int .i64 rc, .int .i64 rn] 35)
        clear h v0 v1 v2
        go_wp2_with fail
        go_wp2_with fail
        (with_reducible refine (HS2.out _ _ HL3.out).mono ?_)
        rintro e w4 ⟨rfl, h⟩
        have HL4 := Lib.hid h
        clear h
        go_wp2_with fail
        go_ret
        exact ⟨rfl, HL4.out.bel⟩
      case pos =>
        subst hE
        obtain ⟨hu1, hu2⟩ := HUN.out rfl
        rw [hu1] at HA8
        rw [hu2] at HD6
        clear hu1 hu2 HUN HDE
        unfold rpV at HA8 HD6
        dsimp only at HA8 HD6
        unfold rpV at HD5
        dsimp only at HD5
        generalize str rsx = rs at *
        generalize str nm = NM at *
        generalize str of = OF at *
        generalize str (PS.save S) = TX at *
        have g5 : (TX == TX) = true := (beq_toListBytes _ _).trans (beq_self_eq_true _)
        have g6 : (TX.toList == TX.toList) = true := beq_self_eq_true _
        have hb5 : ∀ W : World, (Instr.build 38 #[(0, .int .i64 5), (1, .string NM), (2, .string OF), (3, .agg #[.int .i64 p, .int .i64 q, .int .i64 r])]).run Tryz.prog W = .ok (.agg #[.int .i64 5, .string NM, .string OF, .int .i64 p, .int .i64 q, .int .i64 r, .int .i64 0]) W := fun W => run_build W 38 _ _ (by kernel_rfl)
        have hb8 : ∀ W : World, (Instr.build 38 #[(0, .int .i64 8), (1, .string NM)]).run Tryz.prog W = .ok (.agg #[.int .i64 8, .string NM, .string ⟨#[]⟩, .int .i64 0, .int .i64 0, .int .i64 0, .int .i64 0]) W := fun W => run_build W 38 _ _ (by kernel_rfl)
        have hb6 : ∀ W : World, (Instr.build 38 #[(0, .int .i64 6), (1, .string NM)]).run Tryz.prog W = .ok (.agg #[.int .i64 6, .string NM, .string ⟨#[]⟩, .int .i64 0, .int .i64 0, .int .i64 0, .int .i64 0]) W := fun W => run_build W 38 _ _ (by kernel_rfl)
        have hbr : ∀ W : World, (Instr.build 35 #[(1, .string rs), (2, .agg #[.int .i64 p, .int .i64 q, .int .i64 r])]).run Tryz.prog W = .ok (.agg #[.int .i64 0, .string rs, .int .i64 p, .int .i64 q, .int .i64 r, .int .i64 0]) W := fun W => run_build W 35 _ _ (by kernel_rfl)
        have hbq : ∀ W : World, (Instr.build 35 #[(1, .string rs)]).run Tryz.prog W = .ok (.agg #[.int .i64 0, .string rs, .int .i64 0, .int .i64 0, .int .i64 0, .int .i64 0]) W := fun W => run_build W 35 _ _ (by kernel_rfl)
        have q1 := fun W => eq35i 0 rs p q r 0 W
        have q2 := fun W => eq35i 0 rs 0 0 0 0 W
        go_wp2_with fail
        (with_reducible refine (HSV.out _ _ HL.out).mono ?_)
        rintro e w2 ⟨rfl, h⟩
        have HL2 := Lib.hid h
        clear h
        obtain ⟨v0, v1, v2, _⟩ := row3f (HL2.out.held (p := (w.heap.size, _)) (List.Mem.head _))
        go_wp2_with fail
        (with_reducible refine (HD5.out _ _ HL2.out).mono ?_)
        rintro e w3 ⟨rfl, h⟩
        have HL3 := Lib.hid (h.box #[.int .i64 0, .string rs, .int .i64 ra, .int .i64 rb, .int .i64 rc, .int .i64 rn] 35)
        clear h v0 v1 v2
        go_wp2_with fail
        go_wp2_with fail
        (with_reducible refine (HA8.out _ _ HL3.out).mono ?_)
        rintro e w4 ⟨rfl, h⟩
        have HL4 := Lib.hid (h.box #[.int .i64 0, .string rs, .int .i64 p, .int .i64 q, .int .i64 r, .int .i64 0] 35)
        clear h
        go_wp2_with fail
        (with_reducible refine (HD6.out _ _ HL4.out).mono ?_)
        rintro e w5 ⟨rfl, h⟩
        have HL5 := Lib.hid (h.box #[.int .i64 0, .string rs, .int .i64 0, .int .i64 0, .int .i64 0, .int .i64 0] 35)
        clear h
        obtain ⟨x0, x1, x2, x3, x4, x5, _⟩ := rowc6 (HL5.out.held (p := (w5.heap.size, _)) (List.Mem.head _))
        obtain ⟨y0, y1, y2, y3, y4, y5, _⟩ := rowc6 (HL5.out.held (p := (w4.heap.size, _)) (List.Mem.tail _ (List.Mem.head _)))
        obtain ⟨u0, u1, _⟩ := rowc6 (HL5.out.held (p := (w3.heap.size, _)) (List.Mem.tail _ (List.Mem.tail _ (List.Mem.head _))))
        obtain ⟨v0, v1, v2, _⟩ := row3f (HL5.out.held (p := (w.heap.size, _)) (List.Mem.tail _ (List.Mem.tail _ (List.Mem.tail _ (List.Mem.head _)))))
        go_wp2_with fail
        go_wp2_with fail
        (with_reducible refine (HSV.out _ _ HL5.out).mono ?_)
        rintro e w6 ⟨rfl, h⟩
        have HL6 := Lib.hid h
        clear h
        go_wp2_with fail
        go_ret
        exact ⟨rfl, HL6.out.bel⟩
    case pos =>
    have g1 : decide ((j : Int) < (N : Int)) = true := by simp; omega
    have g2 : decide (j < N) = true := by simp; omega
    have g3 : decide ((j : Int) < 300) = true := by simp; omega
    have g4 : decide (j < 300) = true := by simp; omega
    have HLT := Lib.hid hlt
    obtain ⟨c, hc⟩ : ∃ c, L0[j]? = some c := ⟨_, List.getElem?_eq_getElem (by have := HN.out; omega)⟩
    obtain ⟨ba, off, hA0, hcells⟩ := cm_at HA.out hc
    have hx := HX.out c (List.mem_of_getElem? hc)
    have HDO : Hid (∀ X G, LvE w X b S G → Calls Tryz.prog 17 #[.pointer (some ⟨b, 0, none⟩), .agg #[.int .i64 c.o, .string (str c.s), .string (str c.t), .int .i64 c.a, .int .i64 c.b, .int .i64 c.c, .int .i64 c.n]] X fun e Y => e = .returned (.agg #[.int .i64 (PS.doC S c).2.e, .string (str (PS.doC S c).2.s), .int .i64 (PS.doC S c).2.a, .int .i64 (PS.doC S c).2.b, .int .i64 (PS.doC S c).2.c, .int .i64 (PS.doC S c).2.n]) ∧ LvE w Y b (PS.doC S c).1 G) := Lib.hid fun X G h => do_lv h c hx.ok hx.i
    obtain ⟨p0, p1, p2, p3, p4, p5, p6⟩ := hcells _ HL.out.bel
    clear hcells hc hx
    generalize PS.doC S c = dr at *
    obtain ⟨S2, er, rsx, ra, rb, rc, rn⟩ := dr
    dsimp only at *
    obtain ⟨co, csx, ctx, ca, cb, cc, cn⟩ := c
    dsimp only at *
    generalize str rsx = rs at *
    generalize str csx = cs at *
    generalize str ctx = ct at *
    rw [hA0]
    go_wp2_with fail
    (with_reducible refine (HDO.out _ _ HL.out).mono ?_)
    rintro e w3 ⟨rfl, h⟩
    have HL3 := Lib.hid h
    clear h p0 p1 p2 p3 p4 p5 p6
    go_wp2_with fail
    go_roundw
    case rel => exact ⟨j + 1, S2, by go_num, Nat.succ_le_of_lt HLT.out, HL3.out⟩
    case measure => exact meas_lt HLT.out
end Go.Proofs.YtnlolpiefidckaaGreat
