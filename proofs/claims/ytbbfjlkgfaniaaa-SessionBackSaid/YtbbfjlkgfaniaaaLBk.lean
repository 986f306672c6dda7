import Derived.Test.YtbbfjlkgfaniaaaAr
import Derived.Test.YtbbfjlkgfaniaaaPe
namespace Go.Proofs.Ytbbfjlkgfaniaaa
set_option maxRecDepth 20000
open Go.RowKit
open SP
open Go.Proofs.Ytbbfjlkgfaniaaa.Nm (str)
open Wi (RetBelow)
set_option linter.unusedVariables false
theorem eq38i (o : Int) (s : ByteArray) (a b c n : Int) (w : World) : (Op.equalIn 10000 38 (.agg #[.int .i64 o, .string s, .int .i64 a, .int .i64 b, .int .i64 c, .int .i64 n]) (.agg #[.int .i64 o, .string s, .int .i64 a, .int .i64 b, .int .i64 c, .int .i64 n])).run Try.prog w = .ok true w := by
  have := Wi.eq34 o s a b c n o s a b c n w
  unfold Wi.rV at this
  rw [this, show Wi.eqR o s a b c n o s a b c n = true from Wi.eqR_iff.2 ⟨rfl, rfl, ⟨rfl, rfl, rfl⟩, rfl⟩]
theorem check_b {w X : World} {b c : Nat} {T U : Tb} {G : List (Nat × Obj)} (h : L2E w X b T c U G) (id q : Int) : Calls Try.prog 16 #[.pointer (some ⟨b, 0, none⟩), .int .i64 id, .int .i64 q] X fun e Y => e = .returned (.tuple #[.int .i64 (check T id q).1, rpV (check T id q).2]) ∧ L2E w Y b T c U G ∧ Below X.heap.size X Y := by
  have h0 := h
  obtain ⟨S, R, h⟩ := h
  obtain ⟨v, h1⟩ := h.t1
  exact (check_at h1 h.i1 id q).mono fun e Y q => ⟨q.1, h0.below q.2, q.2⟩
theorem L2E.cell {w X : World} {b c k : Nat} {T U : Tb} {cs : Array Value} {ty : TypeId} {G : List (Nat × Obj)} (h : L2E w X b T c U ((k, .cells cs ty (0, 0)) :: G)) (hk : w.heap.size ≤ k) (hd : ∀ p ∈ G, p.1 ≠ k) (i : Nat) (v : Value) : L2E w (X.setCell ⟨k, i, none⟩ v) b T c U ((k, .cells (cs.setIfInBounds i v) ty (0, 0)) :: G) := by
  obtain ⟨S, R, h⟩ := h
  obtain ⟨hx, hS, hR⟩ := h.held _ List.mem_cons_self
  have hf : Fr (· = k) X (X.setCell ⟨k, i, none⟩ v) := (Fr.refl (· = k) X).setCell (p := ⟨k, i, none⟩) (.inl rfl) v
  refine ⟨S, R, h.t1.fr hf (fun j q e => hS (e ▸ q)), h.t2.fr hf (fun j q e => hR (e ▸ q)), h.dis, h.n1, h.n2, h.bel.trans (hf.below h.bel.size (fun j e => e ▸ hk)), h.i1, h.i2, fun p hp => ?_⟩
  rcases List.mem_cons.1 hp with rfl | hp
  · exact ⟨Wi.heap_set X k i v _ _ hx, hS, hR⟩
  · have q := h.held p (List.mem_cons_of_mem _ hp)
    exact ⟨(Below.heap_setCell X ⟨k, i, none⟩ v p.1 (hd p hp)).trans q.1, q.2⟩
theorem L2E.row6 {w X : World} {b c k : Nat} {T U : Tb} {a0 a1 a2 a3 a4 a5 : Value} {ty : TypeId} {G : List (Nat × Obj)} (h : L2E w X b T c U ((k, .cells #[a0, a1, a2, a3, a4, a5] ty (0, 0)) :: G)) (hk : w.heap.size ≤ k) (hd : ∀ p ∈ G, p.1 ≠ k) (b0 b1 b2 b3 b4 b5 : Value) : L2E w ((((((X.setCell ⟨k, 0, none⟩ b0).setCell ⟨k, 1, none⟩ b1).setCell ⟨k, 2, none⟩ b2).setCell ⟨k, 3, none⟩ b3).setCell ⟨k, 4, none⟩ b4).setCell ⟨k, 5, none⟩ b5) b T c U ((k, .cells #[b0, b1, b2, b3, b4, b5] ty (0, 0)) :: G) := by
  have := (((((h.cell hk hd 0 b0).cell hk hd 1 b1).cell hk hd 2 b2).cell hk hd 3 b3).cell hk hd 4 b4).cell hk hd 5 b5
  simpa only [List.setIfInBounds_toArray, List.set_cons_zero, List.set_cons_succ] using this
theorem len17 {x : List Value} (h : x.length = 17) : ∃ z0 z1 z2 z3 z4 z5 z6 z7 z8 z9 z10 z11 z12 z13 z14 z15 z16, x = [z0, z1, z2, z3, z4, z5, z6, z7, z8, z9, z10, z11, z12, z13, z14, z15, z16] := by
  obtain ⟨z0, x0, e0, h0⟩ := cons_of h
  obtain ⟨z1, x1, e1, h1⟩ := cons_of h0
  obtain ⟨z2, x2, e2, h2⟩ := cons_of h1
  obtain ⟨z3, x3, e3, h3⟩ := cons_of h2
  obtain ⟨z4, x4, e4, h4⟩ := cons_of h3
  obtain ⟨z5, x5, e5, h5⟩ := cons_of h4
  obtain ⟨z6, x6, e6, h6⟩ := cons_of h5
  obtain ⟨z7, x7, e7, h7⟩ := cons_of h6
  obtain ⟨z8, x8, e8, h8⟩ := cons_of h7
  obtain ⟨z9, x9, e9, h9⟩ := cons_of h8
  obtain ⟨z10, x10, e10, h10⟩ := cons_of h9
  obtain ⟨z11, x11, e11, h11⟩ := cons_of h10
  obtain ⟨z12, x12, e12, h12⟩ := cons_of h11
  obtain ⟨z13, x13, e13, h13⟩ := cons_of h12
  obtain ⟨z14, x14, e14, h14⟩ := cons_of h13
  obtain ⟨z15, x15, e15, h15⟩ := cons_of h14
  obtain ⟨z16, x16, e16, h16⟩ := cons_of h15
  exact ⟨z0, z1, z2, z3, z4, z5, z6, z7, z8, z9, z10, z11, z12, z13, z14, z15, z16, by rw [e0, e1, e2, e3, e4, e5, e6, e7, e8, e9, e10, e11, e12, e13, e14, e15, e16, nil_of h16]⟩
set_option maxHeartbeats 32000000 in
theorem law_back (L0 : List SP.Act) (A : Option Addr) (N c0 : Nat) (L2 : List SP.Act) (A2 : Option Addr) (N2 c2 : Nat) (w : World) (hA : Rws DA w w.heap.size A L0) (hN : L0.length = N) (hX : ∀ x ∈ L0, ActX x) (hA2 : Rws DA w w.heap.size A2 L2) (hN2 : L2.length = N2) (hX2 : ∀ x ∈ L2, ActX x) : Calls Try.prog 6 #[.slice A N c0, .slice A2 N2 c2] w (RetBelow (.bool true) w) := by
  have HA2 := Lib.hid hA2
  have HN2 := Lib.hid hN2
  have HX2 := Lib.hid hX2
  clear hA2 hN2 hX2
  have HA := Lib.hid hA
  have HN := Lib.hid hN
  have HX := Lib.hid hX
  have HB := Lib.hid (Below.refl w.heap.size w)
  have HAW := Lib.hid (awake_any w)
  have HNW : Hid (∀ X, Below w.heap.size w X → Calls Try.prog 12 #[] X fun e Y => ∃ b, e = .returned (.pointer (some ⟨b, 0, none⟩)) ∧ LvE w Y b t0 []) := Lib.hid fun X h => new_lv h [] (fun p hp => by cases hp)
  clear hA hX hN
  go_enter Try.func6, Try.ntmps6
  go_wp2_with (first | (go_at_call 11; (with_reducible refine HAW.out.mono ?_); rintro e w0 ⟨rfl, hb⟩; have HB0 := Lib.hid hb; clear hb) | (go_at_call 12; (with_reducible refine (HNW.out _ HB0.out).mono ?_); rintro e w1 ⟨b, rfl, h⟩; have HL0 := Lib.hid h; clear h))
  go_loopw [6] (fun iV wr => ∃ (j : Nat) (T : Tb), iV = .int .i64 (j : Int) ∧ j ≤ N ∧ LvE w wr b T []) (fun iV _ => N - (intOf iV).toNat)
  case atStart => exact ⟨0, _, rfl, Nat.zero_le _, HL0.out⟩
  case round =>
    obtain ⟨j, T, rfl, hj, hl⟩ := hrel
    have HL := Lib.hid hl
    clear hl
    by_cases hgo : j < N ∧ j < 200
    case neg =>
      have hgo' : j < N → ¬ j < 200 := fun a b => hgo ⟨a, b⟩
      clear hgo
      rcases Nat.lt_or_ge j N with hlt | hlt
      · have h2 := hgo' hlt
        have g1 : decide ((j : Int) < (N : Int)) = true := by simp; omega
        have g2 : decide (j < N) = true := by simp; omega
        have g3 : decide ((j : Int) < 200) = false := by simp; omega
        have g4 : decide (j < 200) = false := by simp; omega
        clear hgo' hlt h2
        have HSV := Lib.hid fun (X : World) (G : List (Nat × Obj)) (h : LvE w X b T G) => save_lv h
        have hls := load_save HL.out.inv
        have HLD : Hid (∀ X, Calls Try.prog 14 #[.string (save T)] X fun e Y => ∃ t S, e = .returned (.tuple #[.pointer (some ⟨t, 0, none⟩), .int .i64 0]) ∧ Tab Y t T S ∧ (∀ k, S k → X.heap.size ≤ k) ∧ Inv T ∧ Below X.heap.size X Y) := Lib.hid fun X => by
          have h1 := load_any (save T).data.toList X (Nat.le_trans hls.2 (by omega))
          rw [Nm.str_list] at h1
          refine h1.mono ?_
          rintro e Y (⟨h1, _⟩ | ⟨T9, t, S, h1, h2, h3, h4, h5, h6⟩)
          · rw [hls.1] at h1; cases h1
          · rw [hls.1] at h1; cases h1; exact ⟨t, S, h2, h3, h4, h6, h5⟩
        have HS1 := Lib.hid fun (X : World) (t : Nat) (G : List (Nat × Obj)) (h : L2E w X b T t T G) => save_l2 h
        have HS2 : Hid (∀ X t G, L2E w X b T t T G → Calls Try.prog 28 #[.pointer (some ⟨t, 0, none⟩)] X fun e Y => e = .returned (.string (save T)) ∧ L2E w Y b T t T G) := Lib.hid fun X t G h => (save_l2 h.swap).mono fun e Y q => ⟨q.1, q.2.swap⟩
        clear hls
        obtain ⟨TX, hTX⟩ : ∃ TX, save T = TX := ⟨_, rfl⟩
        rw [hTX] at HSV HLD HS1 HS2
        clear hTX
        have g5 : (TX == TX) = true := (beq_toListBytes _ _).trans (beq_self_eq_true _)
        have g6 : (TX.toList == TX.toList) = true := beq_self_eq_true _
        go_wp2_with (first
          | (go_at_call 28; (with_reducible refine (HSV.out _ _ HL.out).mono ?_); rintro e w2 ⟨rfl, h⟩; have HL2 := Lib.hid h; clear h HL)
          | (go_at_call 14; (with_reducible refine (HLD.out _).mono ?_); rintro e w3 ⟨t, S, rfl, hs, hS, hi, hb⟩; have HL3 := Lib.hid (L2E.start HL2.out hs hS hi hb); clear hs hS hi hb HL2)
          | (go_at_call 28; (with_reducible refine (HS2.out _ _ _ HL3.out).mono ?_); rintro e w4 ⟨rfl, h⟩; have HL4 := Lib.hid h; clear h HL3)
          | (go_at_call 28; (with_reducible refine (HS1.out _ _ _ HL4.out).mono ?_); rintro e w5 ⟨rfl, h⟩; have HL5 := Lib.hid h; clear h HL4))
        clear HSV HLD HS1 HS2
        go_loopw [9, 10, 11, 12, 13] (fun iV _ _ _ _ wr => ∃ (j : Nat) (T2 : Tb), iV = .int .i64 (j : Int) ∧ j ≤ N2 ∧ L2E w wr b T2 t T2 []) (fun iV _ _ _ _ _ => N2 - (intOf iV).toNat)
        case atStart => exact ⟨0, _, rfl, Nat.zero_le _, HL5.out⟩
        case round =>
          obtain ⟨j, T2, rfl, hj, hi⟩ := hrel
          have HI := Lib.hid hi
          clear hi
          by_cases hgo : j < N2 ∧ j < 200
          case neg =>
            have hgo' : j < N2 → ¬ j < 200 := fun a b => hgo ⟨a, b⟩
            clear hgo
            rcases Nat.lt_or_ge j N2 with hlt | hlt
            · have h2 := hgo' hlt
              have g1 : decide ((j : Int) < (N2 : Int)) = true := by simp; omega
              have g2 : decide (j < N2) = true := by simp; omega
              have g3 : decide ((j : Int) < 200) = false := by simp; omega
              have g4 : decide (j < 200) = false := by simp; omega
              clear hgo' hlt h2
              go_wp2_with fail
              go_ret
              exact ⟨rfl, HI.out.bel⟩
            · have g1 : decide ((j : Int) < (N2 : Int)) = false := by simp; omega
              have g2 : decide (j < N2) = false := by simp; omega
              clear hgo' hlt
              go_wp2_with fail
              go_ret
              exact ⟨rfl, HI.out.bel⟩
          case pos =>
            obtain ⟨hlt, h200⟩ := hgo
            have g1 : decide ((j : Int) < (N2 : Int)) = true := by simp; omega
            have g2 : decide (j < N2) = true := by simp; omega
            have g3 : decide ((j : Int) < 200) = true := by simp; omega
            have g4 : decide (j < 200) = true := by simp; omega
            have HLT := Lib.hid hlt
            have H200 := Lib.hid h200
            have i1 : (j : Int) < (N2 : Int) := by omega
            obtain ⟨x, hx⟩ : ∃ x, L2[j]? = some x := ⟨_, List.getElem?_eq_getElem (by have := HN2.out; omega)⟩
            obtain ⟨ba, off, hA0, hcells⟩ := act_at HA2.out hx
            obtain ⟨hxr, hxe⟩ := HX2.out x (List.mem_of_getElem? hx)
            have HP1 : Hid (∀ X G, L2E w X b T2 t T2 G → Calls Try.prog 27 #[.pointer (some ⟨b, 0, none⟩), actV x] X fun e Y => e = .returned (.tuple #[]) ∧ L2E w Y b (play T2 x) t T2 G) := Lib.hid fun X G h => play_l2 h x hxr hxe
            have HP2 : Hid (∀ X G, L2E w X b (play T2 x) t T2 G → Calls Try.prog 27 #[.pointer (some ⟨t, 0, none⟩), actV x] X fun e Y => e = .returned (.tuple #[]) ∧ L2E w Y b (play T2 x) t (play T2 x) G) := Lib.hid fun X G h => (play_l2 h.swap x hxr hxe).mono fun e Y q => ⟨q.1, q.2.swap⟩
            have HC1 : Hid (∀ X G, L2E w X b T2 t T2 G → Calls Try.prog 16 #[.pointer (some ⟨b, 0, none⟩), .int .i64 x.id, .int .i64 x.q] X fun e Y => e = .returned (.tuple #[.int .i64 (check T2 x.id x.q).1, rpV (check T2 x.id x.q).2]) ∧ L2E w Y b T2 t T2 G ∧ Below X.heap.size X Y) := Lib.hid fun X G h => check_b h x.id x.q
            have HC2 : Hid (∀ X G, L2E w X b T2 t T2 G → Calls Try.prog 16 #[.pointer (some ⟨t, 0, none⟩), .int .i64 x.id, .int .i64 x.q] X fun e Y => e = .returned (.tuple #[.int .i64 (check T2 x.id x.q).1, rpV (check T2 x.id x.q).2]) ∧ L2E w Y b T2 t T2 G ∧ Below X.heap.size X Y) := Lib.hid fun X G h => (check_b h.swap x.id x.q).mono fun e Y q => ⟨q.1, q.2.1.swap, q.2.2⟩
            have HCE := Lib.hid hcells
            have HS1 : Hid (∀ X G, L2E w X b (play T2 x) t (play T2 x) G → Calls Try.prog 28 #[.pointer (some ⟨b, 0, none⟩)] X fun e Y => e = .returned (.string (save (play T2 x))) ∧ L2E w Y b (play T2 x) t (play T2 x) G) := Lib.hid fun X G h => save_l2 h
            have HS2 : Hid (∀ X G, L2E w X b (play T2 x) t (play T2 x) G → Calls Try.prog 28 #[.pointer (some ⟨t, 0, none⟩)] X fun e Y => e = .returned (.string (save (play T2 x))) ∧ L2E w Y b (play T2 x) t (play T2 x) G) := Lib.hid fun X G h => (save_l2 h.swap).mono fun e Y q => ⟨q.1, q.2.swap⟩
            clear hcells hx hxr hxe
            unfold actV at HP1 HP2
            generalize play T2 x = PT at *
            generalize save PT = TY at *
            generalize check T2 x.id x.q = ck at *
            obtain ⟨V, E, Sx, A1, B1, C1, N1⟩ := ck
            dsimp only [rpV] at HC1 HC2
            obtain ⟨xk, xi, xq, xn, ⟨ye, ys, ya, yb, yc, yn⟩⟩ := x
            dsimp only at *
            have g7 : (TY == TY) = true := (beq_toListBytes _ _).trans (beq_self_eq_true _)
            have g8 : (TY.toList == TY.toList) = true := beq_self_eq_true _
            have g9 := fun W => eq38i E Sx A1 B1 C1 N1 W
            rw [hA0]
            go_wp2_with fail
            have HC0 := Lib.hid (L2E.below HI.out (Below.refl _ _).drew)
            refine wp_region_mono2 17 [63, 64, 65, 66, 67, 68, 69, 70, 71, 72, 73, 74, 62, 75, 76, 11, 10] (fun i v Y0 => match i with | 0 => v = .pointer (some ⟨b, 0, none⟩) | 1 => v = .slice (some ⟨ba, off, none⟩) N2 c2 | 2 => v = .int .i64 (j : Int) | 3 => v = .pointer (some ⟨ba, off + j * 10, none⟩) | 4 => v = .pointer (some ⟨ba, off + j * 10 + 1, none⟩) | 5 => v = .int .i64 xi | 6 => v = .slice (some ⟨ba, off, none⟩) N2 c2 | 7 => v = .int .i64 (j : Int) | 8 => v = .pointer (some ⟨ba, off + j * 10, none⟩) | 9 => v = .pointer (some ⟨ba, off + j * 10 + 2, none⟩) | 10 => v = .int .i64 xq | 11 => v = .tuple #[.int .i64 V, .agg #[.int .i64 E, .string Sx, .int .i64 A1, .int .i64 B1, .int .i64 C1, .int .i64 N1]] | 12 => v = .tuple #[.int .i64 V, .agg #[.int .i64 E, .string Sx, .int .i64 A1, .int .i64 B1, .int .i64 C1, .int .i64 N1]] | 13 => v = .int .i64 V | 14 => v = .agg #[.int .i64 E, .string Sx, .int .i64 A1, .int .i64 B1, .int .i64 C1, .int .i64 N1] | 15 => ∃ k, v = .pointer (some ⟨k, 0, none⟩) ∧ w.heap.size ≤ k ∧ L2E w Y0 b T2 t T2 ((k, .cells #[.int .i64 0, .string ⟨#[]⟩, .int .i64 0, .int .i64 0, .int .i64 0, .int .i64 0] 38 (0, 0)) :: []) | 16 => v = .int .i64 V | _ => True) (fun Y0 => L2E w Y0 b T2 t T2 []) [u63, u64, u65, u66, u67, u68, u69, u70, u71, u72, u73, u74, u62, u75, u76, u11, u10] (by kernel_rfl) (by kernel_rfl) (by kernel_rfl) rfl HC0.out ?hzV ?hzS ?hzT
            case hzV =>
              intro i v Y0 Y1 hC h hB
              exact match i, h with
              | 0, h => h
              | 1, h => h
              | 2, h => h
              | 3, h => h
              | 4, h => h
              | 5, h => h
              | 6, h => h
              | 7, h => h
              | 8, h => h
              | 9, h => h
              | 10, h => h
              | 11, h => h
              | 12, h => h
              | 13, h => h
              | 14, h => h
              | 15, h => (let ⟨k, h1, h2, h3⟩ := h; ⟨k, h1, h2, L2E.below h3 hB⟩)
              | 16, h => h
              | i + 17, h => trivial
            case hzS =>
              refine steps_cons (fun K' x hx Y0 hC hd hK => ?_) ?_
              · obtain ⟨z0, z1, z2, z3, z4, z5, z6, z7, z8, z9, z10, z11, z12, z13, z14, z15, z16, rfl⟩ := len17 hx
                clear hd hx
                simp only [putAll, Act.put, List.setIfInBounds_toArray, List.set_cons_zero, List.set_cons_succ] at hK ⊢
                go_simp
                exact hK _ _ rfl hC (Below.refl _ _)
              refine steps_cons (fun K' x hx Y0 hC hd hK => ?_) ?_
              · obtain ⟨z0, z1, z2, z3, z4, z5, z6, z7, z8, z9, z10, z11, z12, z13, z14, z15, z16, rfl⟩ := len17 hx
                clear hd hx
                simp only [putAll, Act.put, List.setIfInBounds_toArray, List.set_cons_zero, List.set_cons_succ] at hK ⊢
                go_simp
                exact hK _ _ rfl hC (Below.refl _ _)
              refine steps_cons (fun K' x hx Y0 hC hd hK => ?_) ?_
              · obtain ⟨z0, z1, z2, z3, z4, z5, z6, z7, z8, z9, z10, z11, z12, z13, z14, z15, z16, rfl⟩ := len17 hx
                clear hd hx
                simp only [putAll, Act.put, List.setIfInBounds_toArray, List.set_cons_zero, List.set_cons_succ] at hK ⊢
                go_simp
                exact hK _ _ rfl hC (Below.refl _ _)
              refine steps_cons (fun K' x hx Y0 hC hd hK => ?_) ?_
              · obtain ⟨z0, z1, z2, z3, z4, z5, z6, z7, z8, z9, z10, z11, z12, z13, z14, z15, z16, rfl⟩ := len17 hx
                obtain rfl : z1 = _ := hd 1 (by kernel_rfl)
                obtain rfl : z2 = _ := hd 2 (by kernel_rfl)
                clear hd hx
                simp only [putAll, Act.put, List.setIfInBounds_toArray, List.set_cons_zero, List.set_cons_succ] at hK ⊢
                go_simp
                exact hK _ _ rfl hC (Below.refl _ _)
              refine steps_cons (fun K' x hx Y0 hC hd hK => ?_) ?_
              · obtain ⟨z0, z1, z2, z3, z4, z5, z6, z7, z8, z9, z10, z11, z12, z13, z14, z15, z16, rfl⟩ := len17 hx
                obtain rfl : z3 = _ := hd 3 (by kernel_rfl)
                clear hd hx
                simp only [putAll, Act.put, List.setIfInBounds_toArray, List.set_cons_zero, List.set_cons_succ] at hK ⊢
                go_simp
                exact hK _ _ rfl hC (Below.refl _ _)
              refine steps_cons (fun K' x hx Y0 hC hd hK => ?_) ?_
              · obtain ⟨z0, z1, z2, z3, z4, z5, z6, z7, z8, z9, z10, z11, z12, z13, z14, z15, z16, rfl⟩ := len17 hx
                obtain rfl : z4 = _ := hd 4 (by kernel_rfl)
                clear hd hx
                simp only [putAll, Act.put, List.setIfInBounds_toArray, List.set_cons_zero, List.set_cons_succ] at hK ⊢
                obtain ⟨p0, p1, p2, p3, p4, p5, p6, p7, p8, p9⟩ := HCE.out _ (L2E.bel hC)
                go_simp
                exact hK _ _ rfl hC (Below.refl _ _)
              refine steps_cons (fun K' x hx Y0 hC hd hK => ?_) ?_
              · obtain ⟨z0, z1, z2, z3, z4, z5, z6, z7, z8, z9, z10, z11, z12, z13, z14, z15, z16, rfl⟩ := len17 hx
                clear hd hx
                simp only [putAll, Act.put, List.setIfInBounds_toArray, List.set_cons_zero, List.set_cons_succ] at hK ⊢
                go_simp
                exact hK _ _ rfl hC (Below.refl _ _)
              refine steps_cons (fun K' x hx Y0 hC hd hK => ?_) ?_
              · obtain ⟨z0, z1, z2, z3, z4, z5, z6, z7, z8, z9, z10, z11, z12, z13, z14, z15, z16, rfl⟩ := len17 hx
                clear hd hx
                simp only [putAll, Act.put, List.setIfInBounds_toArray, List.set_cons_zero, List.set_cons_succ] at hK ⊢
                go_simp
                exact hK _ _ rfl hC (Below.refl _ _)
              refine steps_cons (fun K' x hx Y0 hC hd hK => ?_) ?_
              · obtain ⟨z0, z1, z2, z3, z4, z5, z6, z7, z8, z9, z10, z11, z12, z13, z14, z15, z16, rfl⟩ := len17 hx
                obtain rfl : z6 = _ := hd 6 (by kernel_rfl)
                obtain rfl : z7 = _ := hd 7 (by kernel_rfl)
                clear hd hx
                simp only [putAll, Act.put, List.setIfInBounds_toArray, List.set_cons_zero, List.set_cons_succ] at hK ⊢
                go_simp
                exact hK _ _ rfl hC (Below.refl _ _)
              refine steps_cons (fun K' x hx Y0 hC hd hK => ?_) ?_
              · obtain ⟨z0, z1, z2, z3, z4, z5, z6, z7, z8, z9, z10, z11, z12, z13, z14, z15, z16, rfl⟩ := len17 hx
                obtain rfl : z8 = _ := hd 8 (by kernel_rfl)
                clear hd hx
                simp only [putAll, Act.put, List.setIfInBounds_toArray, List.set_cons_zero, List.set_cons_succ] at hK ⊢
                go_simp
                exact hK _ _ rfl hC (Below.refl _ _)
              refine steps_cons (fun K' x hx Y0 hC hd hK => ?_) ?_
              · obtain ⟨z0, z1, z2, z3, z4, z5, z6, z7, z8, z9, z10, z11, z12, z13, z14, z15, z16, rfl⟩ := len17 hx
                obtain rfl : z9 = _ := hd 9 (by kernel_rfl)
                clear hd hx
                simp only [putAll, Act.put, List.setIfInBounds_toArray, List.set_cons_zero, List.set_cons_succ] at hK ⊢
                obtain ⟨p0, p1, p2, p3, p4, p5, p6, p7, p8, p9⟩ := HCE.out _ (L2E.bel hC)
                go_simp
                exact hK _ _ rfl hC (Below.refl _ _)
              refine steps_cons (fun K' x hx Y0 hC hd hK => ?_) ?_
              · obtain ⟨z0, z1, z2, z3, z4, z5, z6, z7, z8, z9, z10, z11, z12, z13, z14, z15, z16, rfl⟩ := len17 hx
                obtain rfl : z0 = _ := hd 0 (by kernel_rfl)
                obtain rfl : z5 = _ := hd 5 (by kernel_rfl)
                obtain rfl : z10 = _ := hd 10 (by kernel_rfl)
                clear hd hx
                simp only [putAll, Act.put, List.setIfInBounds_toArray, List.set_cons_zero, List.set_cons_succ] at hK ⊢
                go_simp
                (go_at_call 16; (with_reducible refine (HC1.out _ _ hC).mono ?_); rintro e w1 ⟨rfl, h1, hb⟩; exact hK _ _ rfl h1 hb)
              refine steps_cons (fun K' x hx Y0 hC hd hK => ?_) ?_
              · obtain ⟨z0, z1, z2, z3, z4, z5, z6, z7, z8, z9, z10, z11, z12, z13, z14, z15, z16, rfl⟩ := len17 hx
                obtain rfl : z11 = _ := hd 11 (by kernel_rfl)
                clear hd hx
                simp only [putAll, Act.put, List.setIfInBounds_toArray, List.set_cons_zero, List.set_cons_succ] at hK ⊢
                go_simp
                exact hK _ _ rfl hC (Below.refl _ _)
              refine steps_cons (fun K' x hx Y0 hC hd hK => ?_) ?_
              · obtain ⟨z0, z1, z2, z3, z4, z5, z6, z7, z8, z9, z10, z11, z12, z13, z14, z15, z16, rfl⟩ := len17 hx
                obtain rfl : z12 = _ := hd 12 (by kernel_rfl)
                clear hd hx
                simp only [putAll, Act.put, List.setIfInBounds_toArray, List.set_cons_zero, List.set_cons_succ] at hK ⊢
                go_simp
                exact hK _ _ rfl hC (Below.refl _ _)
              refine steps_cons (fun K' x hx Y0 hC hd hK => ?_) ?_
              · obtain ⟨z0, z1, z2, z3, z4, z5, z6, z7, z8, z9, z10, z11, z12, z13, z14, z15, z16, rfl⟩ := len17 hx
                obtain rfl : z12 = _ := hd 12 (by kernel_rfl)
                clear hd hx
                simp only [putAll, Act.put, List.setIfInBounds_toArray, List.set_cons_zero, List.set_cons_succ] at hK ⊢
                go_simp
                exact hK _ _ rfl hC (Below.refl _ _)
              refine steps_cons (fun K' x hx Y0 hC hd hK => ?_) ?_
              · obtain ⟨z0, z1, z2, z3, z4, z5, z6, z7, z8, z9, z10, z11, z12, z13, z14, z15, z16, rfl⟩ := len17 hx
                clear hd hx
                simp only [putAll, Act.put, List.setIfInBounds_toArray, List.set_cons_zero, List.set_cons_succ] at hK ⊢
                go_simp
                exact hK _ _ ⟨Y0.heap.size, rfl, (L2E.bel hC).size, L2E.box hC _ _⟩ (L2E.below hC ((Below.refl _ Y0).alloc (Nat.le_refl _) _)) ((Below.refl _ Y0).alloc (Nat.le_refl _) _)
              refine steps_cons (fun K' x hx Y0 hC hd hK => ?_) ?_
              · obtain ⟨z0, z1, z2, z3, z4, z5, z6, z7, z8, z9, z10, z11, z12, z13, z14, z15, z16, rfl⟩ := len17 hx
                obtain rfl : z13 = _ := hd 13 (by kernel_rfl)
                clear hd hx
                simp only [putAll, Act.put, List.setIfInBounds_toArray, List.set_cons_zero, List.set_cons_succ] at hK ⊢
                go_simp
                exact hK _ _ rfl hC (Below.refl _ _)
              exact trivial
            case hzT =>
              intro x hx Y0 hC hd
              obtain ⟨z0, z1, z2, z3, z4, z5, z6, z7, z8, z9, z10, z11, z12, z13, z14, z15, z16, rfl⟩ := len17 hx
              obtain ⟨k1, e15, hk, hbx⟩ := hd 15 (by omega)
              have hz13 : z13 = _ := hd 13 (by omega)
              have hz14 : z14 = _ := hd 14 (by omega)
              have hz16 : z16 = _ := hd 16 (by omega)
              change z15 = _ at e15
              subst e15 hz13 hz14 hz16
              clear hd hx hC
              simp only [putAll, Act.put, List.setIfInBounds_toArray, List.set_cons_zero, List.set_cons_succ]
              have HBX := Lib.hid hbx
              have HK := Lib.hid hk
              clear hbx hk
              obtain ⟨x0, x1, x2, x3, x4, x5, p0, p1, p2, p3, p4, p5⟩ := row6 (L2E.held HBX.out (List.Mem.head _))
              have HNX := Lib.hid (L2E.row6 HBX.out HK.out (by intro p hp; cases hp) (.int .i64 E) (.string Sx) (.int .i64 A1) (.int .i64 B1) (.int .i64 C1) (.int .i64 N1))
              show wpList Try.prog _ _ (_ :: []) _ _
              go_wp2_with fail
              clear x0 x1 x2 x3 x4 x5 p0 p1 p2 p3 p4 p5 HBX
              generalize ((((((Y0.setCell ⟨k1, 0, none⟩ (.int .i64 E)).setCell ⟨k1, 1, none⟩ (.string Sx)).setCell ⟨k1, 2, none⟩ (.int .i64 A1)).setCell ⟨k1, 3, none⟩ (.int .i64 B1)).setCell ⟨k1, 4, none⟩ (.int .i64 C1)).setCell ⟨k1, 5, none⟩ (.int .i64 N1)) = YN at HNX ⊢
              have HC0 := Lib.hid (L2E.below HNX.out (Below.refl _ _).drew)
              refine wp_region_mono2 17 [78, 79, 80, 81, 82, 83, 84, 85, 86, 87, 88, 89, 77, 90, 91, 13, 12] (fun i v Y0 => match i with | 0 => v = .pointer (some ⟨t, 0, none⟩) | 1 => v = .slice (some ⟨ba, off, none⟩) N2 c2 | 2 => v = .int .i64 (j : Int) | 3 => v = .pointer (some ⟨ba, off + j * 10, none⟩) | 4 => v = .pointer (some ⟨ba, off + j * 10 + 1, none⟩) | 5 => v = .int .i64 xi | 6 => v = .slice (some ⟨ba, off, none⟩) N2 c2 | 7 => v = .int .i64 (j : Int) | 8 => v = .pointer (some ⟨ba, off + j * 10, none⟩) | 9 => v = .pointer (some ⟨ba, off + j * 10 + 2, none⟩) | 10 => v = .int .i64 xq | 11 => v = .tuple #[.int .i64 V, .agg #[.int .i64 E, .string Sx, .int .i64 A1, .int .i64 B1, .int .i64 C1, .int .i64 N1]] | 12 => v = .tuple #[.int .i64 V, .agg #[.int .i64 E, .string Sx, .int .i64 A1, .int .i64 B1, .int .i64 C1, .int .i64 N1]] | 13 => v = .int .i64 V | 14 => v = .agg #[.int .i64 E, .string Sx, .int .i64 A1, .int .i64 B1, .int .i64 C1, .int .i64 N1] | 15 => ∃ k, v = .pointer (some ⟨k, 0, none⟩) ∧ w.heap.size ≤ k ∧ k1 ≠ k ∧ L2E w Y0 b T2 t T2 ((k, .cells #[.int .i64 0, .string ⟨#[]⟩, .int .i64 0, .int .i64 0, .int .i64 0, .int .i64 0] 38 (0, 0)) :: [(k1, .cells #[.int .i64 E, .string Sx, .int .i64 A1, .int .i64 B1, .int .i64 C1, .int .i64 N1] 38 (0, 0))]) | 16 => v = .int .i64 V | _ => True) (fun Y0 => L2E w Y0 b T2 t T2 [(k1, .cells #[.int .i64 E, .string Sx, .int .i64 A1, .int .i64 B1, .int .i64 C1, .int .i64 N1] 38 (0, 0))]) [u78, u79, u80, u81, u82, u83, u84, u85, u86, u87, u88, u89, u77, u90, u91, u13, u12] (by kernel_rfl) (by kernel_rfl) (by kernel_rfl) rfl HC0.out ?hzV ?hzS ?hzT
              case hzV =>
                intro i v Y0 Y1 hC h hB
                exact match i, h with
                | 0, h => h
                | 1, h => h
                | 2, h => h
                | 3, h => h
                | 4, h => h
                | 5, h => h
                | 6, h => h
                | 7, h => h
                | 8, h => h
                | 9, h => h
                | 10, h => h
                | 11, h => h
                | 12, h => h
                | 13, h => h
                | 14, h => h
                | 15, h => (let ⟨k, h1, h2, h4, h3⟩ := h; ⟨k, h1, h2, h4, L2E.below h3 hB⟩)
                | 16, h => h
                | i + 17, h => trivial
              case hzS =>
                refine steps_cons (fun K' x hx Y0 hC hd hK => ?_) ?_
                · obtain ⟨z0, z1, z2, z3, z4, z5, z6, z7, z8, z9, z10, z11, z12, z13, z14, z15, z16, rfl⟩ := len17 hx
                  clear hd hx
                  simp only [putAll, Act.put, List.setIfInBounds_toArray, List.set_cons_zero, List.set_cons_succ] at hK ⊢
                  go_simp
                  exact hK _ _ rfl hC (Below.refl _ _)
                refine steps_cons (fun K' x hx Y0 hC hd hK => ?_) ?_
                · obtain ⟨z0, z1, z2, z3, z4, z5, z6, z7, z8, z9, z10, z11, z12, z13, z14, z15, z16, rfl⟩ := len17 hx
                  clear hd hx
                  simp only [putAll, Act.put, List.setIfInBounds_toArray, List.set_cons_zero, List.set_cons_succ] at hK ⊢
                  go_simp
                  exact hK _ _ rfl hC (Below.refl _ _)
                refine steps_cons (fun K' x hx Y0 hC hd hK => ?_) ?_
                · obtain ⟨z0, z1, z2, z3, z4, z5, z6, z7, z8, z9, z10, z11, z12, z13, z14, z15, z16, rfl⟩ := len17 hx
                  clear hd hx
                  simp only [putAll, Act.put, List.setIfInBounds_toArray, List.set_cons_zero, List.set_cons_succ] at hK ⊢
                  go_simp
                  exact hK _ _ rfl hC (Below.refl _ _)
                refine steps_cons (fun K' x hx Y0 hC hd hK => ?_) ?_
                · obtain ⟨z0, z1, z2, z3, z4, z5, z6, z7, z8, z9, z10, z11, z12, z13, z14, z15, z16, rfl⟩ := len17 hx
                  obtain rfl : z1 = _ := hd 1 (by kernel_rfl)
                  obtain rfl : z2 = _ := hd 2 (by kernel_rfl)
                  clear hd hx
                  simp only [putAll, Act.put, List.setIfInBounds_toArray, List.set_cons_zero, List.set_cons_succ] at hK ⊢
                  go_simp
                  exact hK _ _ rfl hC (Below.refl _ _)
                refine steps_cons (fun K' x hx Y0 hC hd hK => ?_) ?_
                · obtain ⟨z0, z1, z2, z3, z4, z5, z6, z7, z8, z9, z10, z11, z12, z13, z14, z15, z16, rfl⟩ := len17 hx
                  obtain rfl : z3 = _ := hd 3 (by kernel_rfl)
                  clear hd hx
                  simp only [putAll, Act.put, List.setIfInBounds_toArray, List.set_cons_zero, List.set_cons_succ] at hK ⊢
                  go_simp
                  exact hK _ _ rfl hC (Below.refl _ _)
                refine steps_cons (fun K' x hx Y0 hC hd hK => ?_) ?_
                · obtain ⟨z0, z1, z2, z3, z4, z5, z6, z7, z8, z9, z10, z11, z12, z13, z14, z15, z16, rfl⟩ := len17 hx
                  obtain rfl : z4 = _ := hd 4 (by kernel_rfl)
                  clear hd hx
                  simp only [putAll, Act.put, List.setIfInBounds_toArray, List.set_cons_zero, List.set_cons_succ] at hK ⊢
                  obtain ⟨p0, p1, p2, p3, p4, p5, p6, p7, p8, p9⟩ := HCE.out _ (L2E.bel hC)
                  go_simp
                  exact hK _ _ rfl hC (Below.refl _ _)
                refine steps_cons (fun K' x hx Y0 hC hd hK => ?_) ?_
                · obtain ⟨z0, z1, z2, z3, z4, z5, z6, z7, z8, z9, z10, z11, z12, z13, z14, z15, z16, rfl⟩ := len17 hx
                  clear hd hx
                  simp only [putAll, Act.put, List.setIfInBounds_toArray, List.set_cons_zero, List.set_cons_succ] at hK ⊢
                  go_simp
                  exact hK _ _ rfl hC (Below.refl _ _)
                refine steps_cons (fun K' x hx Y0 hC hd hK => ?_) ?_
                · obtain ⟨z0, z1, z2, z3, z4, z5, z6, z7, z8, z9, z10, z11, z12, z13, z14, z15, z16, rfl⟩ := len17 hx
                  clear hd hx
                  simp only [putAll, Act.put, List.setIfInBounds_toArray, List.set_cons_zero, List.set_cons_succ] at hK ⊢
                  go_simp
                  exact hK _ _ rfl hC (Below.refl _ _)
                refine steps_cons (fun K' x hx Y0 hC hd hK => ?_) ?_
                · obtain ⟨z0, z1, z2, z3, z4, z5, z6, z7, z8, z9, z10, z11, z12, z13, z14, z15, z16, rfl⟩ := len17 hx
                  obtain rfl : z6 = _ := hd 6 (by kernel_rfl)
                  obtain rfl : z7 = _ := hd 7 (by kernel_rfl)
                  clear hd hx
                  simp only [putAll, Act.put, List.setIfInBounds_toArray, List.set_cons_zero, List.set_cons_succ] at hK ⊢
                  go_simp
                  exact hK _ _ rfl hC (Below.refl _ _)
                refine steps_cons (fun K' x hx Y0 hC hd hK => ?_) ?_
                · obtain ⟨z0, z1, z2, z3, z4, z5, z6, z7, z8, z9, z10, z11, z12, z13, z14, z15, z16, rfl⟩ := len17 hx
                  obtain rfl : z8 = _ := hd 8 (by kernel_rfl)
                  clear hd hx
                  simp only [putAll, Act.put, List.setIfInBounds_toArray, List.set_cons_zero, List.set_cons_succ] at hK ⊢
                  go_simp
                  exact hK _ _ rfl hC (Below.refl _ _)
                refine steps_cons (fun K' x hx Y0 hC hd hK => ?_) ?_
                · obtain ⟨z0, z1, z2, z3, z4, z5, z6, z7, z8, z9, z10, z11, z12, z13, z14, z15, z16, rfl⟩ := len17 hx
                  obtain rfl : z9 = _ := hd 9 (by kernel_rfl)
                  clear hd hx
                  simp only [putAll, Act.put, List.setIfInBounds_toArray, List.set_cons_zero, List.set_cons_succ] at hK ⊢
                  obtain ⟨p0, p1, p2, p3, p4, p5, p6, p7, p8, p9⟩ := HCE.out _ (L2E.bel hC)
                  go_simp
                  exact hK _ _ rfl hC (Below.refl _ _)
                refine steps_cons (fun K' x hx Y0 hC hd hK => ?_) ?_
                · obtain ⟨z0, z1, z2, z3, z4, z5, z6, z7, z8, z9, z10, z11, z12, z13, z14, z15, z16, rfl⟩ := len17 hx
                  obtain rfl : z0 = _ := hd 0 (by kernel_rfl)
                  obtain rfl : z5 = _ := hd 5 (by kernel_rfl)
                  obtain rfl : z10 = _ := hd 10 (by kernel_rfl)
                  clear hd hx
                  simp only [putAll, Act.put, List.setIfInBounds_toArray, List.set_cons_zero, List.set_cons_succ] at hK ⊢
                  go_simp
                  (go_at_call 16; (with_reducible refine (HC2.out _ _ hC).mono ?_); rintro e w1 ⟨rfl, h1, hb⟩; exact hK _ _ rfl h1 hb)
                refine steps_cons (fun K' x hx Y0 hC hd hK => ?_) ?_
                · obtain ⟨z0, z1, z2, z3, z4, z5, z6, z7, z8, z9, z10, z11, z12, z13, z14, z15, z16, rfl⟩ := len17 hx
                  obtain rfl : z11 = _ := hd 11 (by kernel_rfl)
                  clear hd hx
                  simp only [putAll, Act.put, List.setIfInBounds_toArray, List.set_cons_zero, List.set_cons_succ] at hK ⊢
                  go_simp
                  exact hK _ _ rfl hC (Below.refl _ _)
                refine steps_cons (fun K' x hx Y0 hC hd hK => ?_) ?_
                · obtain ⟨z0, z1, z2, z3, z4, z5, z6, z7, z8, z9, z10, z11, z12, z13, z14, z15, z16, rfl⟩ := len17 hx
                  obtain rfl : z12 = _ := hd 12 (by kernel_rfl)
                  clear hd hx
                  simp only [putAll, Act.put, List.setIfInBounds_toArray, List.set_cons_zero, List.set_cons_succ] at hK ⊢
                  go_simp
                  exact hK _ _ rfl hC (Below.refl _ _)
                refine steps_cons (fun K' x hx Y0 hC hd hK => ?_) ?_
                · obtain ⟨z0, z1, z2, z3, z4, z5, z6, z7, z8, z9, z10, z11, z12, z13, z14, z15, z16, rfl⟩ := len17 hx
                  obtain rfl : z12 = _ := hd 12 (by kernel_rfl)
                  clear hd hx
                  simp only [putAll, Act.put, List.setIfInBounds_toArray, List.set_cons_zero, List.set_cons_succ] at hK ⊢
                  go_simp
                  exact hK _ _ rfl hC (Below.refl _ _)
                refine steps_cons (fun K' x hx Y0 hC hd hK => ?_) ?_
                · obtain ⟨z0, z1, z2, z3, z4, z5, z6, z7, z8, z9, z10, z11, z12, z13, z14, z15, z16, rfl⟩ := len17 hx
                  clear hd hx
                  simp only [putAll, Act.put, List.setIfInBounds_toArray, List.set_cons_zero, List.set_cons_succ] at hK ⊢
                  go_simp
                  exact hK _ _ ⟨Y0.heap.size, rfl, (L2E.bel hC).size, Nat.ne_of_lt (Array.getElem?_eq_some_iff.1 (L2E.held hC (List.Mem.head _))).1, L2E.box hC _ _⟩ (L2E.below hC ((Below.refl _ Y0).alloc (Nat.le_refl _) _)) ((Below.refl _ Y0).alloc (Nat.le_refl _) _)
                refine steps_cons (fun K' x hx Y0 hC hd hK => ?_) ?_
                · obtain ⟨z0, z1, z2, z3, z4, z5, z6, z7, z8, z9, z10, z11, z12, z13, z14, z15, z16, rfl⟩ := len17 hx
                  obtain rfl : z13 = _ := hd 13 (by kernel_rfl)
                  clear hd hx
                  simp only [putAll, Act.put, List.setIfInBounds_toArray, List.set_cons_zero, List.set_cons_succ] at hK ⊢
                  go_simp
                  exact hK _ _ rfl hC (Below.refl _ _)
                exact trivial
              case hzT =>
                intro x hx Y0 hC hd
                obtain ⟨z0, z1, z2, z3, z4, z5, z6, z7, z8, z9, z10, z11, z12, z13, z14, z15, z16, rfl⟩ := len17 hx
                obtain ⟨k, e15, hk, hne, hbx⟩ := hd 15 (by omega)
                have hz13 : z13 = _ := hd 13 (by omega)
                have hz14 : z14 = _ := hd 14 (by omega)
                have hz16 : z16 = _ := hd 16 (by omega)
                change z15 = _ at e15
                subst e15 hz13 hz14 hz16
                clear hd hx hC
                simp only [putAll, Act.put, List.setIfInBounds_toArray, List.set_cons_zero, List.set_cons_succ]
                have HBX := Lib.hid hbx
                have HK := Lib.hid hk
                have HNE := Lib.hid hne
                clear hne
                clear hbx hk
                obtain ⟨x0, x1, x2, x3, x4, x5, p0, p1, p2, p3, p4, p5⟩ := row6 (L2E.held HBX.out (List.Mem.head _))
                have HL6 := Lib.hid (L2E.row6 HBX.out HK.out (by intro p hp; obtain rfl := List.mem_singleton.1 hp; exact HNE.out) (.int .i64 E) (.string Sx) (.int .i64 A1) (.int .i64 B1) (.int .i64 C1) (.int .i64 N1))
                obtain ⟨r0, r1, r2, r3, r4, r5, r6, r7, r8, r9⟩ := HCE.out _ (L2E.bel HL6.out)
                show wpList Try.prog _ _ (_ :: []) _ _
                go_wp2_with (first
                  | (go_at_call 27; (with_reducible refine (HP1.out _ _ HL6.out).mono ?_); rintro e w7 ⟨rfl, h⟩; have HL7 := Lib.hid h; clear h HL6 r0 r1 r2 r3 r4 r5 r6 r7 r8 r9 x0 x1 x2 x3 x4 x5 p0 p1 p2 p3 p4 p5; obtain ⟨r0, r1, r2, r3, r4, r5, r6, r7, r8, r9⟩ := HCE.out _ (L2E.bel HL7.out))
                  | (go_at_call 27; (with_reducible refine (HP2.out _ _ HL7.out).mono ?_); rintro e w8 ⟨rfl, h⟩; have HL8 := Lib.hid h; clear h HL7; obtain ⟨x0, x1, x2, x3, x4, x5, _⟩ := row6 (HL8.out.held (List.Mem.head _)); obtain ⟨y0, y1, y2, y3, y4, y5, _⟩ := row6 (HL8.out.held (List.Mem.tail _ (List.Mem.head _))))
                  | (go_at_call 28; (with_reducible refine (HS1.out _ _ HL8.out).mono ?_); rintro e w9 ⟨rfl, h⟩; have HL9 := Lib.hid h; clear h HL8)
                  | (go_at_call 28; (with_reducible refine (HS2.out _ _ HL9.out).mono ?_); rintro e w10 ⟨rfl, h⟩; have HL10 := Lib.hid h; clear h HL9))
                go_roundw
                case rel => exact ⟨j + 1, PT, by go_num, Nat.succ_le_of_lt HLT.out, HL10.out.less (fun p hp => by cases hp)⟩
                case measure => exact meas_lt HLT.out
      · have g1 : decide ((j : Int) < (N : Int)) = false := by simp; omega
        have g2 : decide (j < N) = false := by simp; omega
        clear hgo' hlt
        have HSV := Lib.hid fun (X : World) (G : List (Nat × Obj)) (h : LvE w X b T G) => save_lv h
        have hls := load_save HL.out.inv
        have HLD : Hid (∀ X, Calls Try.prog 14 #[.string (save T)] X fun e Y => ∃ t S, e = .returned (.tuple #[.pointer (some ⟨t, 0, none⟩), .int .i64 0]) ∧ Tab Y t T S ∧ (∀ k, S k → X.heap.size ≤ k) ∧ Inv T ∧ Below X.heap.size X Y) := Lib.hid fun X => by
          have h1 := load_any (save T).data.toList X (Nat.le_trans hls.2 (by omega))
          rw [Nm.str_list] at h1
          refine h1.mono ?_
          rintro e Y (⟨h1, _⟩ | ⟨T9, t, S, h1, h2, h3, h4, h5, h6⟩)
          · rw [hls.1] at h1; cases h1
          · rw [hls.1] at h1; cases h1; exact ⟨t, S, h2, h3, h4, h6, h5⟩
        have HS1 := Lib.hid fun (X : World) (t : Nat) (G : List (Nat × Obj)) (h : L2E w X b T t T G) => save_l2 h
        have HS2 : Hid (∀ X t G, L2E w X b T t T G → Calls Try.prog 28 #[.pointer (some ⟨t, 0, none⟩)] X fun e Y => e = .returned (.string (save T)) ∧ L2E w Y b T t T G) := Lib.hid fun X t G h => (save_l2 h.swap).mono fun e Y q => ⟨q.1, q.2.swap⟩
        clear hls
        obtain ⟨TX, hTX⟩ : ∃ TX, save T = TX := ⟨_, rfl⟩
        rw [hTX] at HSV HLD HS1 HS2
        clear hTX
        have g5 : (TX == TX) = true := (beq_toListBytes _ _).trans (beq_self_eq_true _)
        have g6 : (TX.toList == TX.toList) = true := beq_self_eq_true _
        go_wp2_with (first
          | (go_at_call 28; (with_reducible refine (HSV.out _ _ HL.out).mono ?_); rintro e w2 ⟨rfl, h⟩; have HL2 := Lib.hid h; clear h HL)
          | (go_at_call 14; (with_reducible refine (HLD.out _).mono ?_); rintro e w3 ⟨t, S, rfl, hs, hS, hi, hb⟩; have HL3 := Lib.hid (L2E.start HL2.out hs hS hi hb); clear hs hS hi hb HL2)
          | (go_at_call 28; (with_reducible refine (HS2.out _ _ _ HL3.out).mono ?_); rintro e w4 ⟨rfl, h⟩; have HL4 := Lib.hid h; clear h HL3)
          | (go_at_call 28; (with_reducible refine (HS1.out _ _ _ HL4.out).mono ?_); rintro e w5 ⟨rfl, h⟩; have HL5 := Lib.hid h; clear h HL4))
        clear HSV HLD HS1 HS2
        go_loopw [9, 10, 11, 12, 13] (fun iV _ _ _ _ wr => ∃ (j : Nat) (T2 : Tb), iV = .int .i64 (j : Int) ∧ j ≤ N2 ∧ L2E w wr b T2 t T2 []) (fun iV _ _ _ _ _ => N2 - (intOf iV).toNat)
        case atStart => exact ⟨0, _, rfl, Nat.zero_le _, HL5.out⟩
        case round =>
          obtain ⟨j, T2, rfl, hj, hi⟩ := hrel
          have HI := Lib.hid hi
          clear hi
          by_cases hgo : j < N2 ∧ j < 200
          case neg =>
            have hgo' : j < N2 → ¬ j < 200 := fun a b => hgo ⟨a, b⟩
            clear hgo
            rcases Nat.lt_or_ge j N2 with hlt | hlt
            · have h2 := hgo' hlt
              have g1 : decide ((j : Int) < (N2 : Int)) = true := by simp; omega
              have g2 : decide (j < N2) = true := by simp; omega
              have g3 : decide ((j : Int) < 200) = false := by simp; omega
              have g4 : decide (j < 200) = false := by simp; omega
              clear hgo' hlt h2
              go_wp2_with fail
              go_ret
              exact ⟨rfl, HI.out.bel⟩
            · have g1 : decide ((j : Int) < (N2 : Int)) = false := by simp; omega
              have g2 : decide (j < N2) = false := by simp; omega
              clear hgo' hlt
              go_wp2_with fail
              go_ret
              exact ⟨rfl, HI.out.bel⟩
          case pos =>
            obtain ⟨hlt, h200⟩ := hgo
            have g1 : decide ((j : Int) < (N2 : Int)) = true := by simp; omega
            have g2 : decide (j < N2) = true := by simp; omega
            have g3 : decide ((j : Int) < 200) = true := by simp; omega
            have g4 : decide (j < 200) = true := by simp; omega
            have HLT := Lib.hid hlt
            have H200 := Lib.hid h200
            have i1 : (j : Int) < (N2 : Int) := by omega
            obtain ⟨x, hx⟩ : ∃ x, L2[j]? = some x := ⟨_, List.getElem?_eq_getElem (by have := HN2.out; omega)⟩
            obtain ⟨ba, off, hA0, hcells⟩ := act_at HA2.out hx
            obtain ⟨hxr, hxe⟩ := HX2.out x (List.mem_of_getElem? hx)
            have HP1 : Hid (∀ X G, L2E w X b T2 t T2 G → Calls Try.prog 27 #[.pointer (some ⟨b, 0, none⟩), actV x] X fun e Y => e = .returned (.tuple #[]) ∧ L2E w Y b (play T2 x) t T2 G) := Lib.hid fun X G h => play_l2 h x hxr hxe
            have HP2 : Hid (∀ X G, L2E w X b (play T2 x) t T2 G → Calls Try.prog 27 #[.pointer (some ⟨t, 0, none⟩), actV x] X fun e Y => e = .returned (.tuple #[]) ∧ L2E w Y b (play T2 x) t (play T2 x) G) := Lib.hid fun X G h => (play_l2 h.swap x hxr hxe).mono fun e Y q => ⟨q.1, q.2.swap⟩
            have HC1 : Hid (∀ X G, L2E w X b T2 t T2 G → Calls Try.prog 16 #[.pointer (some ⟨b, 0, none⟩), .int .i64 x.id, .int .i64 x.q] X fun e Y => e = .returned (.tuple #[.int .i64 (check T2 x.id x.q).1, rpV (check T2 x.id x.q).2]) ∧ L2E w Y b T2 t T2 G ∧ Below X.heap.size X Y) := Lib.hid fun X G h => check_b h x.id x.q
            have HC2 : Hid (∀ X G, L2E w X b T2 t T2 G → Calls Try.prog 16 #[.pointer (some ⟨t, 0, none⟩), .int .i64 x.id, .int .i64 x.q] X fun e Y => e = .returned (.tuple #[.int .i64 (check T2 x.id x.q).1, rpV (check T2 x.id x.q).2]) ∧ L2E w Y b T2 t T2 G ∧ Below X.heap.size X Y) := Lib.hid fun X G h => (check_b h.swap x.id x.q).mono fun e Y q => ⟨q.1, q.2.1.swap, q.2.2⟩
            have HCE := Lib.hid hcells
            have HS1 : Hid (∀ X G, L2E w X b (play T2 x) t (play T2 x) G → Calls Try.prog 28 #[.pointer (some ⟨b, 0, none⟩)] X fun e Y => e = .returned (.string (save (play T2 x))) ∧ L2E w Y b (play T2 x) t (play T2 x) G) := Lib.hid fun X G h => save_l2 h
            have HS2 : Hid (∀ X G, L2E w X b (play T2 x) t (play T2 x) G → Calls Try.prog 28 #[.pointer (some ⟨t, 0, none⟩)] X fun e Y => e = .returned (.string (save (play T2 x))) ∧ L2E w Y b (play T2 x) t (play T2 x) G) := Lib.hid fun X G h => (save_l2 h.swap).mono fun e Y q => ⟨q.1, q.2.swap⟩
            clear hcells hx hxr hxe
            unfold actV at HP1 HP2
            generalize play T2 x = PT at *
            generalize save PT = TY at *
            generalize check T2 x.id x.q = ck at *
            obtain ⟨V, E, Sx, A1, B1, C1, N1⟩ := ck
            dsimp only [rpV] at HC1 HC2
            obtain ⟨xk, xi, xq, xn, ⟨ye, ys, ya, yb, yc, yn⟩⟩ := x
            dsimp only at *
            have g7 : (TY == TY) = true := (beq_toListBytes _ _).trans (beq_self_eq_true _)
            have g8 : (TY.toList == TY.toList) = true := beq_self_eq_true _
            have g9 := fun W => eq38i E Sx A1 B1 C1 N1 W
            rw [hA0]
            go_wp2_with fail
            have HC0 := Lib.hid (L2E.below HI.out (Below.refl _ _).drew)
            refine wp_region_mono2 17 [63, 64, 65, 66, 67, 68, 69, 70, 71, 72, 73, 74, 62, 75, 76, 11, 10] (fun i v Y0 => match i with | 0 => v = .pointer (some ⟨b, 0, none⟩) | 1 => v = .slice (some ⟨ba, off, none⟩) N2 c2 | 2 => v = .int .i64 (j : Int) | 3 => v = .pointer (some ⟨ba, off + j * 10, none⟩) | 4 => v = .pointer (some ⟨ba, off + j * 10 + 1, none⟩) | 5 => v = .int .i64 xi | 6 => v = .slice (some ⟨ba, off, none⟩) N2 c2 | 7 => v = .int .i64 (j : Int) | 8 => v = .pointer (some ⟨ba, off + j * 10, none⟩) | 9 => v = .pointer (some ⟨ba, off + j * 10 + 2, none⟩) | 10 => v = .int .i64 xq | 11 => v = .tuple #[.int .i64 V, .agg #[.int .i64 E, .string Sx, .int .i64 A1, .int .i64 B1, .int .i64 C1, .int .i64 N1]] | 12 => v = .tuple #[.int .i64 V, .agg #[.int .i64 E, .string Sx, .int .i64 A1, .int .i64 B1, .int .i64 C1, .int .i64 N1]] | 13 => v = .int .i64 V | 14 => v = .agg #[.int .i64 E, .string Sx, .int .i64 A1, .int .i64 B1, .int .i64 C1, .int .i64 N1] | 15 => ∃ k, v = .pointer (some ⟨k, 0, none⟩) ∧ w.heap.size ≤ k ∧ L2E w Y0 b T2 t T2 ((k, .cells #[.int .i64 0, .string ⟨#[]⟩, .int .i64 0, .int .i64 0, .int .i64 0, .int .i64 0] 38 (0, 0)) :: []) | 16 => v = .int .i64 V | _ => True) (fun Y0 => L2E w Y0 b T2 t T2 []) [u63, u64, u65, u66, u67, u68, u69, u70, u71, u72, u73, u74, u62, u75, u76, u11, u10] (by kernel_rfl) (by kernel_rfl) (by kernel_rfl) rfl HC0.out ?hzV ?hzS ?hzT
            case hzV =>
              intro i v Y0 Y1 hC h hB
              exact match i, h with
              | 0, h => h
              | 1, h => h
              | 2, h => h
              | 3, h => h
              | 4, h => h
              | 5, h => h
              | 6, h => h
              | 7, h => h
              | 8, h => h
              | 9, h => h
              | 10, h => h
              | 11, h => h
              | 12, h => h
              | 13, h => h
              | 14, h => h
              | 15, h => (let ⟨k, h1, h2, h3⟩ := h; ⟨k, h1, h2, L2E.below h3 hB⟩)
              | 16, h => h
              | i + 17, h => trivial
            case hzS =>
              refine steps_cons (fun K' x hx Y0 hC hd hK => ?_) ?_
              · obtain ⟨z0, z1, z2, z3, z4, z5, z6, z7, z8, z9, z10, z11, z12, z13, z14, z15, z16, rfl⟩ := len17 hx
                clear hd hx
                simp only [putAll, Act.put, List.setIfInBounds_toArray, List.set_cons_zero, List.set_cons_succ] at hK ⊢
                go_simp
                exact hK _ _ rfl hC (Below.refl _ _)
              refine steps_cons (fun K' x hx Y0 hC hd hK => ?_) ?_
              · obtain ⟨z0, z1, z2, z3, z4, z5, z6, z7, z8, z9, z10, z11, z12, z13, z14, z15, z16, rfl⟩ := len17 hx
                clear hd hx
                simp only [putAll, Act.put, List.setIfInBounds_toArray, List.set_cons_zero, List.set_cons_succ] at hK ⊢
                go_simp
                exact hK _ _ rfl hC (Below.refl _ _)
              refine steps_cons (fun K' x hx Y0 hC hd hK => ?_) ?_
              · obtain ⟨z0, z1, z2, z3, z4, z5, z6, z7, z8, z9, z10, z11, z12, z13, z14, z15, z16, rfl⟩ := len17 hx
                clear hd hx
                simp only [putAll, Act.put, List.setIfInBounds_toArray, List.set_cons_zero, List.set_cons_succ] at hK ⊢
                go_simp
                exact hK _ _ rfl hC (Below.refl _ _)
              refine steps_cons (fun K' x hx Y0 hC hd hK => ?_) ?_
              · obtain ⟨z0, z1, z2, z3, z4, z5, z6, z7, z8, z9, z10, z11, z12, z13, z14, z15, z16, rfl⟩ := len17 hx
                obtain rfl : z1 = _ := hd 1 (by kernel_rfl)
                obtain rfl : z2 = _ := hd 2 (by kernel_rfl)
                clear hd hx
                simp only [putAll, Act.put, List.setIfInBounds_toArray, List.set_cons_zero, List.set_cons_succ] at hK ⊢
                go_simp
                exact hK _ _ rfl hC (Below.refl _ _)
              refine steps_cons (fun K' x hx Y0 hC hd hK => ?_) ?_
              · obtain ⟨z0, z1, z2, z3, z4, z5, z6, z7, z8, z9, z10, z11, z12, z13, z14, z15, z16, rfl⟩ := len17 hx
                obtain rfl : z3 = _ := hd 3 (by kernel_rfl)
                clear hd hx
                simp only [putAll, Act.put, List.setIfInBounds_toArray, List.set_cons_zero, List.set_cons_succ] at hK ⊢
                go_simp
                exact hK _ _ rfl hC (Below.refl _ _)
              refine steps_cons (fun K' x hx Y0 hC hd hK => ?_) ?_
              · obtain ⟨z0, z1, z2, z3, z4, z5, z6, z7, z8, z9, z10, z11, z12, z13, z14, z15, z16, rfl⟩ := len17 hx
                obtain rfl : z4 = _ := hd 4 (by kernel_rfl)
                clear hd hx
                simp only [putAll, Act.put, List.setIfInBounds_toArray, List.set_cons_zero, List.set_cons_succ] at hK ⊢
                obtain ⟨p0, p1, p2, p3, p4, p5, p6, p7, p8, p9⟩ := HCE.out _ (L2E.bel hC)
                go_simp
                exact hK _ _ rfl hC (Below.refl _ _)
              refine steps_cons (fun K' x hx Y0 hC hd hK => ?_) ?_
              · obtain ⟨z0, z1, z2, z3, z4, z5, z6, z7, z8, z9, z10, z11, z12, z13, z14, z15, z16, rfl⟩ := len17 hx
                clear hd hx
                simp only [putAll, Act.put, List.setIfInBounds_toArray, List.set_cons_zero, List.set_cons_succ] at hK ⊢
                go_simp
                exact hK _ _ rfl hC (Below.refl _ _)
              refine steps_cons (fun K' x hx Y0 hC hd hK => ?_) ?_
              · obtain ⟨z0, z1, z2, z3, z4, z5, z6, z7, z8, z9, z10, z11, z12, z13, z14, z15, z16, rfl⟩ := len17 hx
                clear hd hx
                simp only [putAll, Act.put, List.setIfInBounds_toArray, List.set_cons_zero, List.set_cons_succ] at hK ⊢
                go_simp
                exact hK _ _ rfl hC (Below.refl _ _)
              refine steps_cons (fun K' x hx Y0 hC hd hK => ?_) ?_
              · obtain ⟨z0, z1, z2, z3, z4, z5, z6, z7, z8, z9, z10, z11, z12, z13, z14, z15, z16, rfl⟩ := len17 hx
                obtain rfl : z6 = _ := hd 6 (by kernel_rfl)
                obtain rfl : z7 = _ := hd 7 (by kernel_rfl)
                clear hd hx
                simp only [putAll, Act.put, List.setIfInBounds_toArray, List.set_cons_zero, List.set_cons_succ] at hK ⊢
                go_simp
                exact hK _ _ rfl hC (Below.refl _ _)
              refine steps_cons (fun K' x hx Y0 hC hd hK => ?_) ?_
              · obtain ⟨z0, z1, z2, z3, z4, z5, z6, z7, z8, z9, z10, z11, z12, z13, z14, z15, z16, rfl⟩ := len17 hx
                obtain rfl : z8 = _ := hd 8 (by kernel_rfl)
                clear hd hx
                simp only [putAll, Act.put, List.setIfInBounds_toArray, List.set_cons_zero, List.set_cons_succ] at hK ⊢
                go_simp
                exact hK _ _ rfl hC (Below.refl _ _)
              refine steps_cons (fun K' x hx Y0 hC hd hK => ?_) ?_
              · obtain ⟨z0, z1, z2, z3, z4, z5, z6, z7, z8, z9, z10, z11, z12, z13, z14, z15, z16, rfl⟩ := len17 hx
                obtain rfl : z9 = _ := hd 9 (by kernel_rfl)
                clear hd hx
                simp only [putAll, Act.put, List.setIfInBounds_toArray, List.set_cons_zero, List.set_cons_succ] at hK ⊢
                obtain ⟨p0, p1, p2, p3, p4, p5, p6, p7, p8, p9⟩ := HCE.out _ (L2E.bel hC)
                go_simp
                exact hK _ _ rfl hC (Below.refl _ _)
              refine steps_cons (fun K' x hx Y0 hC hd hK => ?_) ?_
              · obtain ⟨z0, z1, z2, z3, z4, z5, z6, z7, z8, z9, z10, z11, z12, z13, z14, z15, z16, rfl⟩ := len17 hx
                obtain rfl : z0 = _ := hd 0 (by kernel_rfl)
                obtain rfl : z5 = _ := hd 5 (by kernel_rfl)
                obtain rfl : z10 = _ := hd 10 (by kernel_rfl)
                clear hd hx
                simp only [putAll, Act.put, List.setIfInBounds_toArray, List.set_cons_zero, List.set_cons_succ] at hK ⊢
                go_simp
                (go_at_call 16; (with_reducible refine (HC1.out _ _ hC).mono ?_); rintro e w1 ⟨rfl, h1, hb⟩; exact hK _ _ rfl h1 hb)
              refine steps_cons (fun K' x hx Y0 hC hd hK => ?_) ?_
              · obtain ⟨z0, z1, z2, z3, z4, z5, z6, z7, z8, z9, z10, z11, z12, z13, z14, z15, z16, rfl⟩ := len17 hx
                obtain rfl : z11 = _ := hd 11 (by kernel_rfl)
                clear hd hx
                simp only [putAll, Act.put, List.setIfInBounds_toArray, List.set_cons_zero, List.set_cons_succ] at hK ⊢
                go_simp
                exact hK _ _ rfl hC (Below.refl _ _)
              refine steps_cons (fun K' x hx Y0 hC hd hK => ?_) ?_
              · obtain ⟨z0, z1, z2, z3, z4, z5, z6, z7, z8, z9, z10, z11, z12, z13, z14, z15, z16, rfl⟩ := len17 hx
                obtain rfl : z12 = _ := hd 12 (by kernel_rfl)
                clear hd hx
                simp only [putAll, Act.put, List.setIfInBounds_toArray, List.set_cons_zero, List.set_cons_succ] at hK ⊢
                go_simp
                exact hK _ _ rfl hC (Below.refl _ _)
              refine steps_cons (fun K' x hx Y0 hC hd hK => ?_) ?_
              · obtain ⟨z0, z1, z2, z3, z4, z5, z6, z7, z8, z9, z10, z11, z12, z13, z14, z15, z16, rfl⟩ := len17 hx
                obtain rfl : z12 = _ := hd 12 (by kernel_rfl)
                clear hd hx
                simp only [putAll, Act.put, List.setIfInBounds_toArray, List.set_cons_zero, List.set_cons_succ] at hK ⊢
                go_simp
                exact hK _ _ rfl hC (Below.refl _ _)
              refine steps_cons (fun K' x hx Y0 hC hd hK => ?_) ?_
              · obtain ⟨z0, z1, z2, z3, z4, z5, z6, z7, z8, z9, z10, z11, z12, z13, z14, z15, z16, rfl⟩ := len17 hx
                clear hd hx
                simp only [putAll, Act.put, List.setIfInBounds_toArray, List.set_cons_zero, List.set_cons_succ] at hK ⊢
                go_simp
                exact hK _ _ ⟨Y0.heap.size, rfl, (L2E.bel hC).size, L2E.box hC _ _⟩ (L2E.below hC ((Below.refl _ Y0).alloc (Nat.le_refl _) _)) ((Below.refl _ Y0).alloc (Nat.le_refl _) _)
              refine steps_cons (fun K' x hx Y0 hC hd hK => ?_) ?_
              · obtain ⟨z0, z1, z2, z3, z4, z5, z6, z7, z8, z9, z10, z11, z12, z13, z14, z15, z16, rfl⟩ := len17 hx
                obtain rfl : z13 = _ := hd 13 (by kernel_rfl)
                clear hd hx
                simp only [putAll, Act.put, List.setIfInBounds_toArray, List.set_cons_zero, List.set_cons_succ] at hK ⊢
                go_simp
                exact hK _ _ rfl hC (Below.refl _ _)
              exact trivial
            case hzT =>
              intro x hx Y0 hC hd
              obtain ⟨z0, z1, z2, z3, z4, z5, z6, z7, z8, z9, z10, z11, z12, z13, z14, z15, z16, rfl⟩ := len17 hx
              obtain ⟨k1, e15, hk, hbx⟩ := hd 15 (by omega)
              have hz13 : z13 = _ := hd 13 (by omega)
              have hz14 : z14 = _ := hd 14 (by omega)
              have hz16 : z16 = _ := hd 16 (by omega)
              change z15 = _ at e15
              subst e15 hz13 hz14 hz16
              clear hd hx hC
              simp only [putAll, Act.put, List.setIfInBounds_toArray, List.set_cons_zero, List.set_cons_succ]
              have HBX := Lib.hid hbx
              have HK := Lib.hid hk
              clear hbx hk
              obtain ⟨x0, x1, x2, x3, x4, x5, p0, p1, p2, p3, p4, p5⟩ := row6 (L2E.held HBX.out (List.Mem.head _))
              have HNX := Lib.hid (L2E.row6 HBX.out HK.out (by intro p hp; cases hp) (.int .i64 E) (.string Sx) (.int .i64 A1) (.int .i64 B1) (.int .i64 C1) (.int .i64 N1))
              show wpList Try.prog _ _ (_ :: []) _ _
              go_wp2_with fail
              clear x0 x1 x2 x3 x4 x5 p0 p1 p2 p3 p4 p5 HBX
              generalize ((((((Y0.setCell ⟨k1, 0, none⟩ (.int .i64 E)).setCell ⟨k1, 1, none⟩ (.string Sx)).setCell ⟨k1, 2, none⟩ (.int .i64 A1)).setCell ⟨k1, 3, none⟩ (.int .i64 B1)).setCell ⟨k1, 4, none⟩ (.int .i64 C1)).setCell ⟨k1, 5, none⟩ (.int .i64 N1)) = YN at HNX ⊢
              have HC0 := Lib.hid (L2E.below HNX.out (Below.refl _ _).drew)
              refine wp_region_mono2 17 [78, 79, 80, 81, 82, 83, 84, 85, 86, 87, 88, 89, 77, 90, 91, 13, 12] (fun i v Y0 => match i with | 0 => v = .pointer (some ⟨t, 0, none⟩) | 1 => v = .slice (some ⟨ba, off, none⟩) N2 c2 | 2 => v = .int .i64 (j : Int) | 3 => v = .pointer (some ⟨ba, off + j * 10, none⟩) | 4 => v = .pointer (some ⟨ba, off + j * 10 + 1, none⟩) | 5 => v = .int .i64 xi | 6 => v = .slice (some ⟨ba, off, none⟩) N2 c2 | 7 => v = .int .i64 (j : Int) | 8 => v = .pointer (some ⟨ba, off + j * 10, none⟩) | 9 => v = .pointer (some ⟨ba, off + j * 10 + 2, none⟩) | 10 => v = .int .i64 xq | 11 => v = .tuple #[.int .i64 V, .agg #[.int .i64 E, .string Sx, .int .i64 A1, .int .i64 B1, .int .i64 C1, .int .i64 N1]] | 12 => v = .tuple #[.int .i64 V, .agg #[.int .i64 E, .string Sx, .int .i64 A1, .int .i64 B1, .int .i64 C1, .int .i64 N1]] | 13 => v = .int .i64 V | 14 => v = .agg #[.int .i64 E, .string Sx, .int .i64 A1, .int .i64 B1, .int .i64 C1, .int .i64 N1] | 15 => ∃ k, v = .pointer (some ⟨k, 0, none⟩) ∧ w.heap.size ≤ k ∧ k1 ≠ k ∧ L2E w Y0 b T2 t T2 ((k, .cells #[.int .i64 0, .string ⟨#[]⟩, .int .i64 0, .int .i64 0, .int .i64 0, .int .i64 0] 38 (0, 0)) :: [(k1, .cells #[.int .i64 E, .string Sx, .int .i64 A1, .int .i64 B1, .int .i64 C1, .int .i64 N1] 38 (0, 0))]) | 16 => v = .int .i64 V | _ => True) (fun Y0 => L2E w Y0 b T2 t T2 [(k1, .cells #[.int .i64 E, .string Sx, .int .i64 A1, .int .i64 B1, .int .i64 C1, .int .i64 N1] 38 (0, 0))]) [u78, u79, u80, u81, u82, u83, u84, u85, u86, u87, u88, u89, u77, u90, u91, u13, u12] (by kernel_rfl) (by kernel_rfl) (by kernel_rfl) rfl HC0.out ?hzV ?hzS ?hzT
              case hzV =>
                intro i v Y0 Y1 hC h hB
                exact match i, h with
                | 0, h => h
                | 1, h => h
                | 2, h => h
                | 3, h => h
                | 4, h => h
                | 5, h => h
                | 6, h => h
                | 7, h => h
                | 8, h => h
                | 9, h => h
                | 10, h => h
                | 11, h => h
                | 12, h => h
                | 13, h => h
                | 14, h => h
                | 15, h => (let ⟨k, h1, h2, h4, h3⟩ := h; ⟨k, h1, h2, h4, L2E.below h3 hB⟩)
                | 16, h => h
                | i + 17, h => trivial
              case hzS =>
                refine steps_cons (fun K' x hx Y0 hC hd hK => ?_) ?_
                · obtain ⟨z0, z1, z2, z3, z4, z5, z6, z7, z8, z9, z10, z11, z12, z13, z14, z15, z16, rfl⟩ := len17 hx
                  clear hd hx
                  simp only [putAll, Act.put, List.setIfInBounds_toArray, List.set_cons_zero, List.set_cons_succ] at hK ⊢
                  go_simp
                  exact hK _ _ rfl hC (Below.refl _ _)
                refine steps_cons (fun K' x hx Y0 hC hd hK => ?_) ?_
                · obtain ⟨z0, z1, z2, z3, z4, z5, z6, z7, z8, z9, z10, z11, z12, z13, z14, z15, z16, rfl⟩ := len17 hx
                  clear hd hx
                  simp only [putAll, Act.put, List.setIfInBounds_toArray, List.set_cons_zero, List.set_cons_succ] at hK ⊢
                  go_simp
                  exact hK _ _ rfl hC (Below.refl _ _)
                refine steps_cons (fun K' x hx Y0 hC hd hK => ?_) ?_
                · obtain ⟨z0, z1, z2, z3, z4, z5, z6, z7, z8, z9, z10, z11, z12, z13, z14, z15, z16, rfl⟩ := len17 hx
                  clear hd hx
                  simp only [putAll, Act.put, List.setIfInBounds_toArray, List.set_cons_zero, List.set_cons_succ] at hK ⊢
                  go_simp
                  exact hK _ _ rfl hC (Below.refl _ _)
                refine steps_cons (fun K' x hx Y0 hC hd hK => ?_) ?_
                · obtain ⟨z0, z1, z2, z3, z4, z5, z6, z7, z8, z9, z10, z11, z12, z13, z14, z15, z16, rfl⟩ := len17 hx
                  obtain rfl : z1 = _ := hd 1 (by kernel_rfl)
                  obtain rfl : z2 = _ := hd 2 (by kernel_rfl)
                  clear hd hx
                  simp only [putAll, Act.put, List.setIfInBounds_toArray, List.set_cons_zero, List.set_cons_succ] at hK ⊢
                  go_simp
                  exact hK _ _ rfl hC (Below.refl _ _)
                refine steps_cons (fun K' x hx Y0 hC hd hK => ?_) ?_
                · obtain ⟨z0, z1, z2, z3, z4, z5, z6, z7, z8, z9, z10, z11, z12, z13, z14, z15, z16, rfl⟩ := len17 hx
                  obtain rfl : z3 = _ := hd 3 (by kernel_rfl)
                  clear hd hx
                  simp only [putAll, Act.put, List.setIfInBounds_toArray, List.set_cons_zero, List.set_cons_succ] at hK ⊢
                  go_simp
                  exact hK _ _ rfl hC (Below.refl _ _)
                refine steps_cons (fun K' x hx Y0 hC hd hK => ?_) ?_
                · obtain ⟨z0, z1, z2, z3, z4, z5, z6, z7, z8, z9, z10, z11, z12, z13, z14, z15, z16, rfl⟩ := len17 hx
                  obtain rfl : z4 = _ := hd 4 (by kernel_rfl)
                  clear hd hx
                  simp only [putAll, Act.put, List.setIfInBounds_toArray, List.set_cons_zero, List.set_cons_succ] at hK ⊢
                  obtain ⟨p0, p1, p2, p3, p4, p5, p6, p7, p8, p9⟩ := HCE.out _ (L2E.bel hC)
                  go_simp
                  exact hK _ _ rfl hC (Below.refl _ _)
                refine steps_cons (fun K' x hx Y0 hC hd hK => ?_) ?_
                · obtain ⟨z0, z1, z2, z3, z4, z5, z6, z7, z8, z9, z10, z11, z12, z13, z14, z15, z16, rfl⟩ := len17 hx
                  clear hd hx
                  simp only [putAll, Act.put, List.setIfInBounds_toArray, List.set_cons_zero, List.set_cons_succ] at hK ⊢
                  go_simp
                  exact hK _ _ rfl hC (Below.refl _ _)
                refine steps_cons (fun K' x hx Y0 hC hd hK => ?_) ?_
                · obtain ⟨z0, z1, z2, z3, z4, z5, z6, z7, z8, z9, z10, z11, z12, z13, z14, z15, z16, rfl⟩ := len17 hx
                  clear hd hx
                  simp only [putAll, Act.put, List.setIfInBounds_toArray, List.set_cons_zero, List.set_cons_succ] at hK ⊢
                  go_simp
                  exact hK _ _ rfl hC (Below.refl _ _)
                refine steps_cons (fun K' x hx Y0 hC hd hK => ?_) ?_
                · obtain ⟨z0, z1, z2, z3, z4, z5, z6, z7, z8, z9, z10, z11, z12, z13, z14, z15, z16, rfl⟩ := len17 hx
                  obtain rfl : z6 = _ := hd 6 (by kernel_rfl)
                  obtain rfl : z7 = _ := hd 7 (by kernel_rfl)
                  clear hd hx
                  simp only [putAll, Act.put, List.setIfInBounds_toArray, List.set_cons_zero, List.set_cons_succ] at hK ⊢
                  go_simp
                  exact hK _ _ rfl hC (Below.refl _ _)
                refine steps_cons (fun K' x hx Y0 hC hd hK => ?_) ?_
                · obtain ⟨z0, z1, z2, z3, z4, z5, z6, z7, z8, z9, z10, z11, z12, z13, z14, z15, z16, rfl⟩ := len17 hx
                  obtain rfl : z8 = _ := hd 8 (by kernel_rfl)
                  clear hd hx
                  simp only [putAll, Act.put, List.setIfInBounds_toArray, List.set_cons_zero, List.set_cons_succ] at hK ⊢
                  go_simp
                  exact hK _ _ rfl hC (Below.refl _ _)
                refine steps_cons (fun K' x hx Y0 hC hd hK => ?_) ?_
                · obtain ⟨z0, z1, z2, z3, z4, z5, z6, z7, z8, z9, z10, z11, z12, z13, z14, z15, z16, rfl⟩ := len17 hx
                  obtain rfl : z9 = _ := hd 9 (by kernel_rfl)
                  clear hd hx
                  simp only [putAll, Act.put, List.setIfInBounds_toArray, List.set_cons_zero, List.set_cons_succ] at hK ⊢
                  obtain ⟨p0, p1, p2, p3, p4, p5, p6, p7, p8, p9⟩ := HCE.out _ (L2E.bel hC)
                  go_simp
                  exact hK _ _ rfl hC (Below.refl _ _)
                refine steps_cons (fun K' x hx Y0 hC hd hK => ?_) ?_
                · obtain ⟨z0, z1, z2, z3, z4, z5, z6, z7, z8, z9, z10, z11, z12, z13, z14, z15, z16, rfl⟩ := len17 hx
                  obtain rfl : z0 = _ := hd 0 (by kernel_rfl)
                  obtain rfl : z5 = _ := hd 5 (by kernel_rfl)
                  obtain rfl : z10 = _ := hd 10 (by kernel_rfl)
                  clear hd hx
                  simp only [putAll, Act.put, List.setIfInBounds_toArray, List.set_cons_zero, List.set_cons_succ] at hK ⊢
                  go_simp
                  (go_at_call 16; (with_reducible refine (HC2.out _ _ hC).mono ?_); rintro e w1 ⟨rfl, h1, hb⟩; exact hK _ _ rfl h1 hb)
                refine steps_cons (fun K' x hx Y0 hC hd hK => ?_) ?_
                · obtain ⟨z0, z1, z2, z3, z4, z5, z6, z7, z8, z9, z10, z11, z12, z13, z14, z15, z16, rfl⟩ := len17 hx
                  obtain rfl : z11 = _ := hd 11 (by kernel_rfl)
                  clear hd hx
                  simp only [putAll, Act.put, List.setIfInBounds_toArray, List.set_cons_zero, List.set_cons_succ] at hK ⊢
                  go_simp
                  exact hK _ _ rfl hC (Below.refl _ _)
                refine steps_cons (fun K' x hx Y0 hC hd hK => ?_) ?_
                · obtain ⟨z0, z1, z2, z3, z4, z5, z6, z7, z8, z9, z10, z11, z12, z13, z14, z15, z16, rfl⟩ := len17 hx
                  obtain rfl : z12 = _ := hd 12 (by kernel_rfl)
                  clear hd hx
                  simp only [putAll, Act.put, List.setIfInBounds_toArray, List.set_cons_zero, List.set_cons_succ] at hK ⊢
                  go_simp
                  exact hK _ _ rfl hC (Below.refl _ _)
                refine steps_cons (fun K' x hx Y0 hC hd hK => ?_) ?_
                · obtain ⟨z0, z1, z2, z3, z4, z5, z6, z7, z8, z9, z10, z11, z12, z13, z14, z15, z16, rfl⟩ := len17 hx
                  obtain rfl : z12 = _ := hd 12 (by kernel_rfl)
                  clear hd hx
                  simp only [putAll, Act.put, List.setIfInBounds_toArray, List.set_cons_zero, List.set_cons_succ] at hK ⊢
                  go_simp
                  exact hK _ _ rfl hC (Below.refl _ _)
                refine steps_cons (fun K' x hx Y0 hC hd hK => ?_) ?_
                · obtain ⟨z0, z1, z2, z3, z4, z5, z6, z7, z8, z9, z10, z11, z12, z13, z14, z15, z16, rfl⟩ := len17 hx
                  clear hd hx
                  simp only [putAll, Act.put, List.setIfInBounds_toArray, List.set_cons_zero, List.set_cons_succ] at hK ⊢
                  go_simp
                  exact hK _ _ ⟨Y0.heap.size, rfl, (L2E.bel hC).size, Nat.ne_of_lt (Array.getElem?_eq_some_iff.1 (L2E.held hC (List.Mem.head _))).1, L2E.box hC _ _⟩ (L2E.below hC ((Below.refl _ Y0).alloc (Nat.le_refl _) _)) ((Below.refl _ Y0).alloc (Nat.le_refl _) _)
                refine steps_cons (fun K' x hx Y0 hC hd hK => ?_) ?_
                · obtain ⟨z0, z1, z2, z3, z4, z5, z6, z7, z8, z9, z10, z11, z12, z13, z14, z15, z16, rfl⟩ := len17 hx
                  obtain rfl : z13 = _ := hd 13 (by kernel_rfl)
                  clear hd hx
                  simp only [putAll, Act.put, List.setIfInBounds_toArray, List.set_cons_zero, List.set_cons_succ] at hK ⊢
                  go_simp
                  exact hK _ _ rfl hC (Below.refl _ _)
                exact trivial
              case hzT =>
                intro x hx Y0 hC hd
                obtain ⟨z0, z1, z2, z3, z4, z5, z6, z7, z8, z9, z10, z11, z12, z13, z14, z15, z16, rfl⟩ := len17 hx
                obtain ⟨k, e15, hk, hne, hbx⟩ := hd 15 (by omega)
                have hz13 : z13 = _ := hd 13 (by omega)
                have hz14 : z14 = _ := hd 14 (by omega)
                have hz16 : z16 = _ := hd 16 (by omega)
                change z15 = _ at e15
                subst e15 hz13 hz14 hz16
                clear hd hx hC
                simp only [putAll, Act.put, List.setIfInBounds_toArray, List.set_cons_zero, List.set_cons_succ]
                have HBX := Lib.hid hbx
                have HK := Lib.hid hk
                have HNE := Lib.hid hne
                clear hne
                clear hbx hk
                obtain ⟨x0, x1, x2, x3, x4, x5, p0, p1, p2, p3, p4, p5⟩ := row6 (L2E.held HBX.out (List.Mem.head _))
                have HL6 := Lib.hid (L2E.row6 HBX.out HK.out (by intro p hp; obtain rfl := List.mem_singleton.1 hp; exact HNE.out) (.int .i64 E) (.string Sx) (.int .i64 A1) (.int .i64 B1) (.int .i64 C1) (.int .i64 N1))
                obtain ⟨r0, r1, r2, r3, r4, r5, r6, r7, r8, r9⟩ := HCE.out _ (L2E.bel HL6.out)
                show wpList Try.prog _ _ (_ :: []) _ _
                go_wp2_with (first
                  | (go_at_call 27; (with_reducible refine (HP1.out _ _ HL6.out).mono ?_); rintro e w7 ⟨rfl, h⟩; have HL7 := Lib.hid h; clear h HL6 r0 r1 r2 r3 r4 r5 r6 r7 r8 r9 x0 x1 x2 x3 x4 x5 p0 p1 p2 p3 p4 p5; obtain ⟨r0, r1, r2, r3, r4, r5, r6, r7, r8, r9⟩ := HCE.out _ (L2E.bel HL7.out))
                  | (go_at_call 27; (with_reducible refine (HP2.out _ _ HL7.out).mono ?_); rintro e w8 ⟨rfl, h⟩; have HL8 := Lib.hid h; clear h HL7; obtain ⟨x0, x1, x2, x3, x4, x5, _⟩ := row6 (HL8.out.held (List.Mem.head _)); obtain ⟨y0, y1, y2, y3, y4, y5, _⟩ := row6 (HL8.out.held (List.Mem.tail _ (List.Mem.head _))))
                  | (go_at_call 28; (with_reducible refine (HS1.out _ _ HL8.out).mono ?_); rintro e w9 ⟨rfl, h⟩; have HL9 := Lib.hid h; clear h HL8)
                  | (go_at_call 28; (with_reducible refine (HS2.out _ _ HL9.out).mono ?_); rintro e w10 ⟨rfl, h⟩; have HL10 := Lib.hid h; clear h HL9))
                go_roundw
                case rel => exact ⟨j + 1, PT, by go_num, Nat.succ_le_of_lt HLT.out, HL10.out.less (fun p hp => by cases hp)⟩
                case measure => exact meas_lt HLT.out
    case pos =>
      obtain ⟨hlt, h200⟩ := hgo
      have g1 : decide ((j : Int) < (N : Int)) = true := by simp; omega
      have g2 : decide (j < N) = true := by simp; omega
      have g3 : decide ((j : Int) < 200) = true := by simp; omega
      have g4 : decide (j < 200) = true := by simp; omega
      have HLT := Lib.hid hlt
      have i1 : (j : Int) < (N : Int) := by omega
      obtain ⟨x, hx⟩ : ∃ x, L0[j]? = some x := ⟨_, List.getElem?_eq_getElem (by have := HN.out; omega)⟩
      obtain ⟨ba, off, hA0, hcells⟩ := act_at HA.out hx
      obtain ⟨hxr, hxe⟩ := HX.out x (List.mem_of_getElem? hx)
      have HPL : Hid (∀ X, LvE w X b T [] → Calls Try.prog 27 #[.pointer (some ⟨b, 0, none⟩), actV x] X fun e Y => e = .returned (.tuple #[]) ∧ LvE w Y b (play T x) []) := Lib.hid fun X h => play_lv h x hxr hxe
      obtain ⟨p0, p1, p2, p3, p4, p5, p6, p7, p8, p9⟩ := hcells _ HL.out.bel
      clear hcells hx hxr hxe
      rw [hA0]
      generalize play T x = PT at *
      unfold actV at HPL
      go_wp2_with (go_at_call 27; (with_reducible refine (HPL.out _ HL.out).mono ?_); rintro e w2 ⟨rfl, h⟩; have HL2 := Lib.hid h; clear h)
      go_roundw
      case rel => exact ⟨j + 1, PT, by go_num, Nat.succ_le_of_lt HLT.out, HL2.out⟩
      case measure => exact meas_lt HLT.out
end Go.Proofs.Ytbbfjlkgfaniaaa
