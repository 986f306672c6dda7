import Derived.Test.YtphclpjekpdifaaGreatYNa
import Derived.Test.YtphclpjekpdifaaGreatYBk
import Derived.Test.YtphclpjekpdifaaGreatYXn
namespace Go.Proofs.YtphclpjekpdifaaGreat
set_option maxRecDepth 20000
open Go.RowKit
open PS (Tx putM dropM setM findM Nod Ten Jb kOf St Cm Rp byName row)
open Go.Proofs.YtphclpjekpdifaaGreat.Nm (str)
open Go.Proofs.YtphclpjekpdifaaGreat.Vc (RetBelow fitB I64)
set_option linter.unusedVariables false
theorem L2E.cell {w X : World} {b c k : Nat} {S U : St} {cs : Array Value} {ty : TypeId} {G : List (Nat × Obj)} (h : L2E w X b S c U ((k, .cells cs ty (0, 0)) :: G)) (hk : w.heap.size ≤ k) (hd : ∀ p ∈ G, p.1 ≠ k) (i : Nat) (v : Value) : L2E w (X.setCell ⟨k, i, none⟩ v) b S c U ((k, .cells (cs.setIfInBounds i v) ty (0, 0)) :: G) := by
  obtain ⟨T, R, h⟩ := h
  obtain ⟨hx, hS, hR⟩ := h.held _ List.mem_cons_self
  have hf : Fr (· = k) X (X.setCell ⟨k, i, none⟩ v) := (Fr.refl (· = k) X).setCell (p := ⟨k, i, none⟩) (.inl rfl) v
  refine ⟨T, R, h.t1.fr hf (fun j q e => hS (e ▸ q)), h.t2.fr hf (fun j q e => hR (e ▸ q)), h.dis, h.n1, h.n2, h.bel.trans (hf.below h.bel.size (fun j e => e ▸ hk)), h.i1, h.i2, fun p hp => ?_⟩
  rcases List.mem_cons.1 hp with rfl | hp
  · exact ⟨Wi.heap_set X k i v _ _ hx, hS, hR⟩
  · have q := h.held p (List.mem_cons_of_mem _ hp)
    exact ⟨(Below.heap_setCell X ⟨k, i, none⟩ v p.1 (hd p hp)).trans q.1, q.2⟩
theorem L2E.i2 {w X : World} {b c : Nat} {S U : St} {G : List (Nat × Obj)} (h : L2E w X b S c U G) : Inv U := let ⟨_, _, h⟩ := h; h.i2
theorem L2E.hold {w X Y : World} {b c : Nat} {S U : St} {G : List (Nat × Obj)} (h : L2E w X b S c U G) (hb : Below X.heap.size X Y) {k : Nat} {o : Obj} (hk : X.heap.size ≤ k) (ho : Y.heap[k]? = some o) : L2E w Y b S c U ((k, o) :: G) := by
  obtain ⟨T, R, h⟩ := h
  have l1 := h.t1.lt
  have l2 := h.t2.lt
  refine ⟨T, R, h.t1.below hb, h.t2.below hb, h.dis, h.n1, h.n2, h.bel.trans (hb.mono h.bel.size), h.i1, h.i2, fun p hp => ?_⟩
  rcases List.mem_cons.1 hp with rfl | hp
  · exact ⟨ho, fun q => by have := l1 _ q; simp at this; omega, fun q => by have := l2 _ q; simp at this; omega⟩
  · exact ⟨(hb.block _ (Array.getElem?_eq_some_iff.1 (h.held p hp).1).1).trans (h.held p hp).1, (h.held p hp).2⟩
theorem L2E.own {α : Type} {D : CT α} {w X Y : World} {b c : Nat} {S U : St} {G : List (Nat × Obj)} {v : Value} {L : List α} (h : L2E w X b S c U G) (hb : Below X.heap.size X Y) (ho : Own D Y X.heap.size v L) :
    ∃ A cp K, v = .slice A L.length cp ∧ L2E w Y b S c U (K ++ G) ∧ RowsIn D K A L := by
  have ho' := ho
  rcases ho.2 with ⟨rfl, hn⟩ | ⟨g, cap, cur, rfl, hg, hh, _⟩
  · refine ⟨none, 0, [], by rw [hn], h.below hb, fun i x hx => ?_⟩
    have := (List.getElem?_eq_some_iff.1 hx).1
    omega
  · refine ⟨_, cap, [(g, .cells cur D.e (0, 0))], rfl, h.hold hb hg hh, fun i x hx => ⟨g, rfl, fun Z hZ q u hu => ?_⟩⟩
    obtain ⟨g', cap', h1, _, _, h4⟩ := ho'.at_ hx
    injection h1 with h1 h1a h1b
    injection h1 with h1
    injection h1 with h1
    subst h1
    rw [← h4 q u hu]
    have hz := hZ _ (List.Mem.head _)
    unfold World.cell?
    dsimp only at hz ⊢
    rw [hz, hh]
theorem jobs2_held {w X : World} {b c : Nat} {S U : St} {G : List (Nat × Obj)} (h : L2E w X b S c U G) : Calls Tryz.prog 14 #[.pointer (some ⟨b, 0, none⟩)] X fun e Y => ∃ A cp K, e = .returned (.slice A (byName S.J).length cp) ∧ L2E w Y b S c U (K ++ G) ∧ RowsIn DJ K A (byName S.J) :=
  (jobs_l2 h).mono fun e Y ⟨v, q1, q2, _, q3⟩ => by
    obtain ⟨A, cp, K, rfl, h2, h3⟩ := h.own q3 q2
    exact ⟨A, cp, K, q1, h2, h3⟩
theorem new2 {w X : World} {b : Nat} {S : St} {G : List (Nat × Obj)} (h : LvE w X b S G) : Calls Tryz.prog 12 #[] X fun e Y => ∃ t, e = .returned (.pointer (some ⟨t, 0, none⟩)) ∧ L2E w Y b S t PS.s0 G := by
  refine (new_any X).mono ?_
  rintro e Y ⟨t, rfl, h1, h2, h3⟩
  exact ⟨t, rfl, L2E.start h h2 (fun k hk => by rw [hk]; exact h1) inv_s0 h3⟩
theorem CR.of {c : Cm} {s t : Tx} (hs : Nm.key s = Nm.key c.s) (ht : Nm.key t = Nm.key c.t) : CR c ⟨c.o, s, t, c.a, c.b, c.c, c.n⟩ := by
  obtain ⟨a1, a2, a3⟩ := key_same hs
  obtain ⟨b1, b2, b3⟩ := key_same ht
  exact ⟨rfl, rfl, rfl, rfl, rfl, a2.symm, b2.symm, a1.symm, b1.symm, b3.symm⟩
theorem CmX.of {c : Cm} (h : CmX c) {s t : Tx} (hs : Nm.key s = Nm.key c.s) (ht : Nm.key t = Nm.key c.t) : CmX ⟨c.o, s, t, c.a, c.b, c.c, c.n⟩ :=
  ⟨by rw [(key_same hs).2.2]; exact h.s, by rw [(key_same ht).2.2]; exact h.t, h.a, h.b, h.k, h.n⟩
theorem RR.key {r q : Rp} (h : RR r q) : kOf r.s = kOf q.s := by
  rcases h.s with ⟨a, b⟩ | h
  · rw [a, b]
  · exact h
theorem eq28i (a b c : Int) (W : World) : (Op.equalIn 10000 28 (.agg #[.int .i64 a, .int .i64 b, .int .i64 c]) (.agg #[.int .i64 a, .int .i64 b, .int .i64 c])).run Tryz.prog W = .ok true W := by
  have := Vc.eq23 a b c a b c W
  rwa [show Vc.eqV a b c a b c = true from by simp [Vc.eqV]] at this
theorem rep_len {S : St} (h : Inv S) (c : Cm) : (PS.doC S c).2.s.length ≤ 140737488351232 := by
  have e0 : ∀ e, (PS.err e).s.length ≤ 140737488351232 := fun e => by simp [PS.err]
  have hn : ∀ {k n}, findM S.N k = some n → n.s.length ≤ 140737488351232 := fun q => by have := may_len' (h.n _ _ q).may; omega
  have hj : ∀ {k j}, findM S.J k = some j → j.on.length ≤ 140737488351232 := fun q => by
    obtain ⟨n, h1, h2⟩ := (h.j _ _ q).n
    rw [← h2]; exact hn h1
  have ha : (PS.ask S c).s.length ≤ 140737488351232 := by
    unfold PS.ask
    split
    · split
      · split
        · rename_i q; exact hj q
        · exact e0 _
      · split <;> split <;> first | exact e0 _ | simp
    · exact e0 _
  have hs : (PS.submit S c.s c.t c.a c.b c.c).2.s.length ≤ 140737488351232 := by
    unfold PS.submit
    split
    · split
      · exact e0 _
      · rename_i n q; exact hn (choose_facts h q).1
    · exact e0 _
  have hk : (PS.kill S c.s).2.s.length ≤ 140737488351232 := by
    unfold PS.kill
    split
    · exact e0 _
    · rename_i q; exact hj q
  unfold PS.doC
  split
  · split
    · exact e0 _
    · split
      · exact e0 _
      · split
        · exact e0 _
        · split
          · exact e0 _
          · split
            · exact hs
            · split
              · exact hk
              · split
                · exact e0 _
                · exact ha
  · exact e0 _
theorem job_len {S : St} (h : Inv S) {j : Jb} (hj : j ∈ byName S.J) : j.s.length ≤ 96 ∧ j.on.length ≤ 96 ∧ j.t.length ≤ 96 := by
  obtain ⟨k, hk⟩ := byName_mem hj
  have q := h.j _ _ hk
  obtain ⟨n, hn, hs⟩ := q.n
  obtain ⟨t, ht, ts⟩ := q.t
  exact ⟨may_len' q.may, by rw [← hs]; exact may_len' (h.n _ _ hn).may, by rw [← ts]; exact may_len' (h.t _ _ ht).may⟩
theorem one_true {a b : Tx} (h : kOf a = kOf b) (ha : a.length ≤ 140737488351232) (hb : b.length ≤ 140737488351232) (W : World) : Calls Tryz.prog 22 #[.string (str a), .string (str b)] W (RetBelow (.bool true) W) := by
  have := one_any a b W ha hb
  rwa [decide_eq_true h] at this
theorem len12 {x : List Value} (h : x.length = 12) : ∃ z0 z1 z2 z3 z4 z5 z6 z7 z8 z9 z10 z11, x = [z0, z1, z2, z3, z4, z5, z6, z7, z8, z9, z10, z11] := by
  obtain ⟨z0, x0, e0, h0⟩ := cons_of h
  obtain ⟨z1, x1, e1, h1⟩ := cons_of h0
  obtain ⟨z2, x2, e2, h2⟩ := cons_of h1
  obtain ⟨z3, x3, e3, h3⟩ := cons_of h2
  obtain ⟨z4, x4, e4, h4⟩ := cons_of h3
  obtain ⟨z5, x5, e5, h5⟩ := cons_of h4
  obtain ⟨z6, x6, e6, h6⟩ := cons_of h5
  obtain ⟨z7, x7, e7, h7⟩ := cons_of h6
  obtain ⟨z8, x8, e8, h8⟩ := cons_of h7
  obtain ⟨z9, x9, e9, h9⟩ := cons_of h8
  obtain ⟨z10, x10, e10, h10⟩ := cons_of h9
  obtain ⟨z11, x11, e11, h11⟩ := cons_of h10
  exact ⟨z0, z1, z2, z3, z4, z5, z6, z7, z8, z9, z10, z11, by rw [e0, e1, e2, e3, e4, e5, e6, e7, e8, e9, e10, e11, nil_of h11]⟩
theorem get11 {x : List Value} (h : x.length = 11) : x = [x.getD 0 undef, x.getD 1 undef, x.getD 2 undef, x.getD 3 undef, x.getD 4 undef, x.getD 5 undef, x.getD 6 undef, x.getD 7 undef, x.getD 8 undef, x.getD 9 undef, x.getD 10 undef] := by
  obtain ⟨z0, z1, z2, z3, z4, z5, z6, z7, z8, z9, z10, rfl⟩ := len11 h
  rfl
theorem get12 {x : List Value} (h : x.length = 12) : x = [x.getD 0 undef, x.getD 1 undef, x.getD 2 undef, x.getD 3 undef, x.getD 4 undef, x.getD 5 undef, x.getD 6 undef, x.getD 7 undef, x.getD 8 undef, x.getD 9 undef, x.getD 10 undef, x.getD 11 undef] := by
  obtain ⟨z0, z1, z2, z3, z4, z5, z6, z7, z8, z9, z10, z11, rfl⟩ := len12 h
  rfl
set_option maxHeartbeats 64000000 in
theorem law_names (L0 : List Cm) (A : Option Addr) (N c0 : Nat) (BA : Option Addr) (NB cB : Nat) (w : World) (hA : Rws DC w w.heap.size A L0) (hN : L0.length = N) (hX : ∀ c ∈ L0, CmX c) (hBt : ∀ j, j < NB → ∃ g o z, BA = some ⟨g, o, none⟩ ∧ g < w.heap.size ∧ w.cell? ⟨g, o + j, none⟩ = some (.int .u16 z) ∧ 0 ≤ z ∧ z ≤ 65535) : Calls Tryz.prog 5 #[.slice A N c0, .slice BA NB cB] w (RetBelow (.bool true) w) := by
  have HBT0 := Lib.hid hBt
  clear hBt
  have HA := Lib.hid hA
  have HN := Lib.hid hN
  have HX := Lib.hid hX
  have HB := Lib.hid (Below.refl w.heap.size w)
  have HAW := Lib.hid (awake_any w)
  have HNW : Hid (∀ X, Below w.heap.size w X → Calls Tryz.prog 12 #[] X fun e Y => ∃ b, e = .returned (.pointer (some ⟨b, 0, none⟩)) ∧ LvE w Y b PS.s0 []) := Lib.hid fun X h => new_lv h [] (fun p hp => by cases hp)
  clear hA hX hN
  have HBT : Hid (∀ j, j < NB → ∃ g o z, BA = some ⟨g, o, none⟩ ∧ w.cell? ⟨g, o + j, none⟩ = some (.int .u16 z) ∧ g < w.heap.size ∧ 0 ≤ z ∧ z ≤ 65535) := Lib.hid fun j hj => by
    obtain ⟨g, o, z, h1, h2, h3, h4, h5⟩ := HBT0.out j hj
    exact ⟨g, o, z, h1, h3, h2, h4, h5⟩
  clear HBT0
  have HN2 := Lib.hid fun (Z : World) (b : Nat) (h : LvE w Z b PS.s0 []) => new2 h
  go_enter Tryz.func5, Tryz.ntmps5
  go_wp2_with (first | (go_at_call 11; (with_reducible refine HAW.out.mono ?_); rintro e w0 ⟨rfl, hb⟩; have HB0 := Lib.hid hb; clear hb) | (go_at_call 12; (with_reducible refine (HNW.out _ HB0.out).mono ?_); rintro e w1 ⟨b, rfl, h⟩; have HL0 := Lib.hid h; clear h) | (go_at_call 12; (with_reducible refine (HN2.out _ _ HL0.out).mono ?_); rintro e w2 ⟨t, rfl, h⟩; have HL1 := Lib.hid h; clear h))
  go_loopw [7, 8, 9, 10] (fun iV _ _ _ wr => ∃ (j : Nat) (S X : St), iV = .int .i64 (j : Int) ∧ j ≤ N ∧ L2E w wr b S t X [] ∧ SR S X) (fun iV _ _ _ _ => N - (intOf iV).toNat)
  case atStart => exact ⟨0, _, _, rfl, Nat.zero_le _, HL1.out, rel_s0⟩
  case round =>
    obtain ⟨j, S, X, rfl, hj, hi⟩ := hrel
    have HI := Lib.hid hi
    clear hi
    by_cases hgo : j < N ∧ j < 300
    case neg =>
      have hgo' : j < N → ¬ j < 300 := fun a b => hgo ⟨a, b⟩
      clear hgo
      rcases Nat.lt_or_ge j N with hlt | hlt
      · have h2 := hgo' hlt
        have g1 : decide ((j : Int) < (N : Int)) = true := by simp; omega
        have g2 : decide (j < N) = true := by simp; omega
        have g3 : decide ((j : Int) < 300) = false := by simp; omega
        have g4 : decide (j < 300) = false := by simp; omega
        clear hgo' hlt h2
        have HSR := Lib.hid HI.out.2
        have HJ1 := Lib.hid fun (Z : World) (G : List (Nat × Obj)) (h : L2E w Z b S t X G) => jobs2_held h
        have HJ2 : Hid (∀ Z G, L2E w Z b S t X G → Calls Tryz.prog 14 #[.pointer (some ⟨t, 0, none⟩)] Z fun e Y => ∃ A cp K, e = .returned (.slice A (byName X.J).length cp) ∧ L2E w Y b S t X (K ++ G) ∧ RowsIn DJ K A (byName X.J)) := Lib.hid fun Z G h => (jobs2_held h.swap).mono fun e Y ⟨A, cp, K, q1, q2, q3⟩ => ⟨A, cp, K, q1, q2.swap, q3⟩
        have hlen : (byName X.J).length = (byName S.J).length := by
          have := congrArg List.length (HSR.out.j.map (fun x => x.st) (fun x y r => r.st))
          simpa using this.symm
        have hJ128 : (byName S.J).length ≤ 128 := Nat.le_trans (byName_len _) HI.out.1.i1.lJ
        obtain ⟨nJ, hnJ⟩ : ∃ nJ, (byName S.J).length = nJ := ⟨_, rfl⟩
        rw [hlen] at HJ2
        rw [hnJ] at HJ1 HJ2 hJ128
        have HNJ := Lib.hid hnJ
        have HJ128 := Lib.hid hJ128
        have n3 : ((nJ : Int) != (nJ : Int)) = false := by simp
        clear hlen hnJ hJ128
        go_wp2_with (first
          | (go_at_call 14; (with_reducible refine (HJ1.out _ _ HI.out.1).mono ?_); rintro e w4 ⟨A1, p1, K1, rfl, h, hr⟩; have HL4 := Lib.hid h; have HR1 := Lib.hid hr; clear h hr)
          | (go_at_call 14; (with_reducible refine (HJ2.out _ _ HL4.out).mono ?_); rintro e w5 ⟨A2, p2, K2, rfl, h, hr⟩; have HL5' := Lib.hid h; have HR2 := Lib.hid hr; clear h hr))
        obtain ⟨G, hG⟩ : ∃ G, K2 ++ (K1 ++ []) = G := ⟨_, rfl⟩
        have HL5 : Hid (L2E w w5 b S t X G) := Lib.hid (by rw [← hG]; exact HL5'.out)
        have HC1 : Hid (∀ Z, L2E w Z b S t X G → ∀ (i : Nat) (x : Jb), (byName S.J)[i]? = some x → ∃ g, A1 = some ⟨g, 0, none⟩ ∧ JCells Z g i x) := Lib.hid fun Z h i x hx => jcells h.one (fun p hp => by rw [← hG]; simp [hp]) HR1.out hx
        have HC2 : Hid (∀ Z, L2E w Z b S t X G → ∀ (i : Nat) (x : Jb), (byName X.J)[i]? = some x → ∃ g, A2 = some ⟨g, 0, none⟩ ∧ JCells Z g i x) := Lib.hid fun Z h i x hx => jcells h.one (fun p hp => by rw [← hG]; simp [hp]) HR2.out hx
        clear hG HL5' HL4 HR1 HR2 HJ1 HJ2
        go_loopw [13, 113] (fun _ iV wr => ∃ (k : Nat), iV = .int .i64 (k : Int) ∧ k ≤ nJ ∧ L2E w wr b S t X G) (fun _ iV _ => nJ - (intOf iV).toNat)
        case atStart => exact ⟨0, rfl, Nat.zero_le _, HL5.out⟩
        case round =>
          obtain ⟨k, rfl, hk, hm⟩ := hrel
          have HM := Lib.hid hm
          clear hm
          by_cases hkn : k < nJ
          case neg =>
            have g1 : decide ((k : Int) < (nJ : Int)) = false := by simp; omega
            have g2 : decide (k < nJ) = false := by simp; omega
            go_wp2_with fail
            go_ret
            exact ⟨rfl, HM.out.bel⟩
          case pos =>
            have HLT := Lib.hid hkn
            obtain ⟨x, hx⟩ : ∃ x, (byName S.J)[k]? = some x := ⟨_, List.getElem?_eq_getElem (by have := HNJ.out; omega)⟩
            obtain ⟨y, hy, hxy⟩ := HSR.out.j.at hx
            obtain ⟨a1, a2, a3⟩ := job_len HM.out.i1 (List.mem_of_getElem? hx)
            obtain ⟨b1, b2, b3⟩ := job_len HM.out.i2 (List.mem_of_getElem? hy)
            have HO1 : Hid (∀ Z, Calls Tryz.prog 22 #[.string (str x.s), .string (str y.s)] Z (RetBelow (.bool true) Z)) := Lib.hid (one_true hxy.s (by omega) (by omega))
            have HO2 : Hid (∀ Z, Calls Tryz.prog 22 #[.string (str x.on), .string (str y.on)] Z (RetBelow (.bool true) Z)) := Lib.hid (one_true hxy.on (by omega) (by omega))
            have HO3 : Hid (∀ Z, Calls Tryz.prog 22 #[.string (str x.t), .string (str y.t)] Z (RetBelow (.bool true) Z)) := Lib.hid (one_true hxy.t (by omega) (by omega))
            obtain ⟨gx, hgx, _⟩ := HC1.out _ HM.out k x hx
            obtain ⟨gy, hgy, _⟩ := HC2.out _ HM.out k y hy
            subst hgx hgy
            have HS2 : Hid (∀ Z, L2E w Z b S t X G → JCells Z gx k x ∧ JCells Z gy k y) := Lib.hid fun Z h => by
              obtain ⟨g, e, q⟩ := HC1.out _ h k x hx
              obtain ⟨g', e', q'⟩ := HC2.out _ h k y hy
              injection e with e; injection e with e
              injection e' with e'; injection e' with e'
              subst e e'
              exact ⟨q, q'⟩
            obtain ⟨_, _, h1, h2, h3, _, h4⟩ := hxy
            obtain ⟨xs, xt, xp, xq, xr, xo, xst⟩ := x
            obtain ⟨ys, yt, yp, yq, yr, yo, yst⟩ := y
            dsimp only at h1 h2 h3 h4
            subst h1 h2 h3 h4
            unfold JCells at HS2
            dsimp only at HS2 HO1 HO2 HO3
            have e28 := fun W => eq28i xp xq xr W
            have n4 : (xst != xst) = false := by simp
            have g1 : decide ((k : Int) < (nJ : Int)) = true := by simp; omega
            have g2 : decide (k < nJ) = true := by simp; omega
            have i1 : (k : Int) < (nJ : Int) := by omega
            have hk128 : k < 128 := Nat.lt_of_lt_of_le hkn HJ128.out
            have HE0 := Lib.hid (L2E.below HM.out (Below.refl _ _).drew)
            have e0 := HS2.out _ HE0.out
            clear hx hy a1 a2 a3 b1 b2 b3 hk
            go_wp2_with fail
            go_region_held3 (fun V => (V.cell? ⟨gx, k * 7, none⟩ = some (.string (str xs)) ∧ V.cell? ⟨gx, k * 7 + 1, none⟩ = some (.string (str xt)) ∧ V.cell? ⟨gx, k * 7 + 2, none⟩ = some (.int .i64 xp) ∧ V.cell? ⟨gx, k * 7 + 3, none⟩ = some (.int .i64 xq) ∧ V.cell? ⟨gx, k * 7 + 4, none⟩ = some (.int .i64 xr) ∧ V.cell? ⟨gx, k * 7 + 5, none⟩ = some (.string (str xo)) ∧ V.cell? ⟨gx, k * 7 + 6, none⟩ = some (.int .i64 xst)) ∧ V.cell? ⟨gy, k * 7, none⟩ = some (.string (str ys)) ∧ V.cell? ⟨gy, k * 7 + 1, none⟩ = some (.string (str yt)) ∧ V.cell? ⟨gy, k * 7 + 2, none⟩ = some (.int .i64 xp) ∧ V.cell? ⟨gy, k * 7 + 3, none⟩ = some (.int .i64 xq) ∧ V.cell? ⟨gy, k * 7 + 4, none⟩ = some (.int .i64 xr) ∧ V.cell? ⟨gy, k * 7 + 5, none⟩ = some (.string (str yo)) ∧ V.cell? ⟨gy, k * 7 + 6, none⟩ = some (.int .i64 xst))
              (first | exact e0 | exact e1 | exact e2 | exact e3)
              (first
                | (go_at_call 22; (with_reducible refine (HO1.out _).mono ?_); rintro e wA ⟨rfl, hb⟩; have HF1 := Lib.hid (L2E.below HE0.out hb); have e1 := HS2.out _ HF1.out; clear hb)
                | (go_at_call 22; (with_reducible refine (HO2.out _).mono ?_); rintro e wB ⟨rfl, hb⟩; have HF2 := Lib.hid (L2E.below HF1.out hb); have e2 := HS2.out _ HF2.out; clear hb)
                | (go_at_call 22; (with_reducible refine (HO3.out _).mono ?_); rintro e wC ⟨rfl, hb⟩; have HF3 := Lib.hid (L2E.below HF2.out hb); have e3 := HS2.out _ HF3.out; clear hb))
            all_goals
              clear e0 e1 e2 e3
              go_wp2_with fail
              go_roundw
              case rel => exact ⟨k + 1, by go_num, Nat.succ_le_of_lt HLT.out, HF3.out⟩
              case measure => exact meas_lt HLT.out
      · have g1 : decide ((j : Int) < (N : Int)) = false := by simp; omega
        have g2 : decide (j < N) = false := by simp; omega
        clear hgo' hlt
        have HSR := Lib.hid HI.out.2
        have HJ1 := Lib.hid fun (Z : World) (G : List (Nat × Obj)) (h : L2E w Z b S t X G) => jobs2_held h
        have HJ2 : Hid (∀ Z G, L2E w Z b S t X G → Calls Tryz.prog 14 #[.pointer (some ⟨t, 0, none⟩)] Z fun e Y => ∃ A cp K, e = .returned (.slice A (byName X.J).length cp) ∧ L2E w Y b S t X (K ++ G) ∧ RowsIn DJ K A (byName X.J)) := Lib.hid fun Z G h => (jobs2_held h.swap).mono fun e Y ⟨A, cp, K, q1, q2, q3⟩ => ⟨A, cp, K, q1, q2.swap, q3⟩
        have hlen : (byName X.J).length = (byName S.J).length := by
          have := congrArg List.length (HSR.out.j.map (fun x => x.st) (fun x y r => r.st))
          simpa using this.symm
        have hJ128 : (byName S.J).length ≤ 128 := Nat.le_trans (byName_len _) HI.out.1.i1.lJ
        obtain ⟨nJ, hnJ⟩ : ∃ nJ, (byName S.J).length = nJ := ⟨_, rfl⟩
        rw [hlen] at HJ2
        rw [hnJ] at HJ1 HJ2 hJ128
        have HNJ := Lib.hid hnJ
        have HJ128 := Lib.hid hJ128
        have n3 : ((nJ : Int) != (nJ : Int)) = false := by simp
        clear hlen hnJ hJ128
        go_wp2_with (first
          | (go_at_call 14; (with_reducible refine (HJ1.out _ _ HI.out.1).mono ?_); rintro e w4 ⟨A1, p1, K1, rfl, h, hr⟩; have HL4 := Lib.hid h; have HR1 := Lib.hid hr; clear h hr)
          | (go_at_call 14; (with_reducible refine (HJ2.out _ _ HL4.out).mono ?_); rintro e w5 ⟨A2, p2, K2, rfl, h, hr⟩; have HL5' := Lib.hid h; have HR2 := Lib.hid hr; clear h hr))
        obtain ⟨G, hG⟩ : ∃ G, K2 ++ (K1 ++ []) = G := ⟨_, rfl⟩
        have HL5 : Hid (L2E w w5 b S t X G) := Lib.hid (by rw [← hG]; exact HL5'.out)
        have HC1 : Hid (∀ Z, L2E w Z b S t X G → ∀ (i : Nat) (x : Jb), (byName S.J)[i]? = some x → ∃ g, A1 = some ⟨g, 0, none⟩ ∧ JCells Z g i x) := Lib.hid fun Z h i x hx => jcells h.one (fun p hp => by rw [← hG]; simp [hp]) HR1.out hx
        have HC2 : Hid (∀ Z, L2E w Z b S t X G → ∀ (i : Nat) (x : Jb), (byName X.J)[i]? = some x → ∃ g, A2 = some ⟨g, 0, none⟩ ∧ JCells Z g i x) := Lib.hid fun Z h i x hx => jcells h.one (fun p hp => by rw [← hG]; simp [hp]) HR2.out hx
        clear hG HL5' HL4 HR1 HR2 HJ1 HJ2
        go_loopw [13, 113] (fun _ iV wr => ∃ (k : Nat), iV = .int .i64 (k : Int) ∧ k ≤ nJ ∧ L2E w wr b S t X G) (fun _ iV _ => nJ - (intOf iV).toNat)
        case atStart => exact ⟨0, rfl, Nat.zero_le _, HL5.out⟩
        case round =>
          obtain ⟨k, rfl, hk, hm⟩ := hrel
          have HM := Lib.hid hm
          clear hm
          by_cases hkn : k < nJ
          case neg =>
            have g1 : decide ((k : Int) < (nJ : Int)) = false := by simp; omega
            have g2 : decide (k < nJ) = false := by simp; omega
            go_wp2_with fail
            go_ret
            exact ⟨rfl, HM.out.bel⟩
          case pos =>
            have HLT := Lib.hid hkn
            obtain ⟨x, hx⟩ : ∃ x, (byName S.J)[k]? = some x := ⟨_, List.getElem?_eq_getElem (by have := HNJ.out; omega)⟩
            obtain ⟨y, hy, hxy⟩ := HSR.out.j.at hx
            obtain ⟨a1, a2, a3⟩ := job_len HM.out.i1 (List.mem_of_getElem? hx)
            obtain ⟨b1, b2, b3⟩ := job_len HM.out.i2 (List.mem_of_getElem? hy)
            have HO1 : Hid (∀ Z, Calls Tryz.prog 22 #[.string (str x.s), .string (str y.s)] Z (RetBelow (.bool true) Z)) := Lib.hid (one_true hxy.s (by omega) (by omega))
            have HO2 : Hid (∀ Z, Calls Tryz.prog 22 #[.string (str x.on), .string (str y.on)] Z (RetBelow (.bool true) Z)) := Lib.hid (one_true hxy.on (by omega) (by omega))
            have HO3 : Hid (∀ Z, Calls Tryz.prog 22 #[.string (str x.t), .string (str y.t)] Z (RetBelow (.bool true) Z)) := Lib.hid (one_true hxy.t (by omega) (by omega))
            obtain ⟨gx, hgx, _⟩ := HC1.out _ HM.out k x hx
            obtain ⟨gy, hgy, _⟩ := HC2.out _ HM.out k y hy
            subst hgx hgy
            have HS2 : Hid (∀ Z, L2E w Z b S t X G → JCells Z gx k x ∧ JCells Z gy k y) := Lib.hid fun Z h => by
              obtain ⟨g, e, q⟩ := HC1.out _ h k x hx
              obtain ⟨g', e', q'⟩ := HC2.out _ h k y hy
              injection e with e; injection e with e
              injection e' with e'; injection e' with e'
              subst e e'
              exact ⟨q, q'⟩
            obtain ⟨_, _, h1, h2, h3, _, h4⟩ := hxy
            obtain ⟨xs, xt, xp, xq, xr, xo, xst⟩ := x
            obtain ⟨ys, yt, yp, yq, yr, yo, yst⟩ := y
            dsimp only at h1 h2 h3 h4
            subst h1 h2 h3 h4
            unfold JCells at HS2
            dsimp only at HS2 HO1 HO2 HO3
            have e28 := fun W => eq28i xp xq xr W
            have n4 : (xst != xst) = false := by simp
            have g1 : decide ((k : Int) < (nJ : Int)) = true := by simp; omega
            have g2 : decide (k < nJ) = true := by simp; omega
            have i1 : (k : Int) < (nJ : Int) := by omega
            have hk128 : k < 128 := Nat.lt_of_lt_of_le hkn HJ128.out
            have HE0 := Lib.hid (L2E.below HM.out (Below.refl _ _).drew)
            have e0 := HS2.out _ HE0.out
            clear hx hy a1 a2 a3 b1 b2 b3 hk
            go_wp2_with fail
            go_region_held3 (fun V => (V.cell? ⟨gx, k * 7, none⟩ = some (.string (str xs)) ∧ V.cell? ⟨gx, k * 7 + 1, none⟩ = some (.string (str xt)) ∧ V.cell? ⟨gx, k * 7 + 2, none⟩ = some (.int .i64 xp) ∧ V.cell? ⟨gx, k * 7 + 3, none⟩ = some (.int .i64 xq) ∧ V.cell? ⟨gx, k * 7 + 4, none⟩ = some (.int .i64 xr) ∧ V.cell? ⟨gx, k * 7 + 5, none⟩ = some (.string (str xo)) ∧ V.cell? ⟨gx, k * 7 + 6, none⟩ = some (.int .i64 xst)) ∧ V.cell? ⟨gy, k * 7, none⟩ = some (.string (str ys)) ∧ V.cell? ⟨gy, k * 7 + 1, none⟩ = some (.string (str yt)) ∧ V.cell? ⟨gy, k * 7 + 2, none⟩ = some (.int .i64 xp) ∧ V.cell? ⟨gy, k * 7 + 3, none⟩ = some (.int .i64 xq) ∧ V.cell? ⟨gy, k * 7 + 4, none⟩ = some (.int .i64 xr) ∧ V.cell? ⟨gy, k * 7 + 5, none⟩ = some (.string (str yo)) ∧ V.cell? ⟨gy, k * 7 + 6, none⟩ = some (.int .i64 xst))
              (first | exact e0 | exact e1 | exact e2 | exact e3)
              (first
                | (go_at_call 22; (with_reducible refine (HO1.out _).mono ?_); rintro e wA ⟨rfl, hb⟩; have HF1 := Lib.hid (L2E.below HE0.out hb); have e1 := HS2.out _ HF1.out; clear hb)
                | (go_at_call 22; (with_reducible refine (HO2.out _).mono ?_); rintro e wB ⟨rfl, hb⟩; have HF2 := Lib.hid (L2E.below HF1.out hb); have e2 := HS2.out _ HF2.out; clear hb)
                | (go_at_call 22; (with_reducible refine (HO3.out _).mono ?_); rintro e wC ⟨rfl, hb⟩; have HF3 := Lib.hid (L2E.below HF2.out hb); have e3 := HS2.out _ HF3.out; clear hb))
            all_goals
              clear e0 e1 e2 e3
              go_wp2_with fail
              go_roundw
              case rel => exact ⟨k + 1, by go_num, Nat.succ_le_of_lt HLT.out, HF3.out⟩
              case measure => exact meas_lt HLT.out
    case pos =>
      obtain ⟨hlt, h300⟩ := hgo
      have g1 : decide ((j : Int) < (N : Int)) = true := by simp; omega
      have g2 : decide (j < N) = true := by simp; omega
      have g3 : decide ((j : Int) < 300) = true := by simp; omega
      have g4 : decide (j < 300) = true := by simp; omega
      have HLT := Lib.hid hlt
      have i1 : (j : Int) < (N : Int) := by omega
      obtain ⟨c, hc⟩ : ∃ c, L0[j]? = some c := ⟨_, List.getElem?_eq_getElem (by have := HN.out; omega)⟩
      obtain ⟨ba, off, hA0, hcells⟩ := cm_at HA.out hc
      have hx := HX.out c (List.mem_of_getElem? hc)
      have HX1 := Lib.hid hx
      have HC1 := Lib.hid hcells
      have HSR := Lib.hid HI.out.2
      obtain ⟨p0, p1, p2, p3, p4, p5, p6⟩ := hcells _ HI.out.1.bel
      clear hcells hc hx
      obtain ⟨co, cs, ct, ca, cb, cc, cn⟩ := c
      dsimp only at p0 p1 p2 p3 p4 p5 p6 HC1
      rw [hA0]
      have HB1 := Lib.hid (HI.out.1.box #[.int .i64 co, .string (str cs), .string (str ct), .int .i64 ca, .int .i64 cb, .int .i64 cc, .int .i64 cn] 33)
      have HKB : Hid (w.heap.size ≤ wr.heap.size) := Lib.hid HI.out.1.bel.size
      by_cases hNB : 0 < NB
      case neg =>
        obtain rfl : NB = 0 := by omega
        have HKS : Hid (Nm.key cs = Nm.key cs) := Lib.hid rfl
        have HKT : Hid (Nm.key ct = Nm.key ct) := Lib.hid rfl
        have b1 : decide ((0 : Int) < ((0 : Nat) : Int)) = false := by simp
        have b2 : decide (((0 : Nat) : Int) > 0) = false := by simp
        obtain ⟨u0, u1, u2, u3, u4, u5, u6⟩ := HC1.out _ HB1.out.bel
        have hcr : CR ⟨co, cs, ct, ca, cb, cc, cn⟩ ⟨co, cs, ct, ca, cb, cc, cn⟩ := CR.of (c := ⟨co, cs, ct, ca, cb, cc, cn⟩) HKS.out HKT.out
        have hxe : CmX ⟨co, cs, ct, ca, cb, cc, cn⟩ := CmX.of (c := ⟨co, cs, ct, ca, cb, cc, cn⟩) HX1.out HKS.out HKT.out
        obtain ⟨hsr2, hrr⟩ := rel_do HSR.out HI.out.1.i1 HI.out.1.i2 hcr
        have HD1 : Hid (∀ Z G, L2E w Z b S t X G → Calls Tryz.prog 13 #[.pointer (some ⟨b, 0, none⟩), .agg #[.int .i64 co, .string (str cs), .string (str ct), .int .i64 ca, .int .i64 cb, .int .i64 cc, .int .i64 cn]] Z fun e Y => e = .returned (rpV (PS.doC S ⟨co, cs, ct, ca, cb, cc, cn⟩).2) ∧ L2E w Y b (PS.doC S ⟨co, cs, ct, ca, cb, cc, cn⟩).1 t X G) := Lib.hid fun Z G h => do_l2 h ⟨co, cs, ct, ca, cb, cc, cn⟩ HX1.out.ok HX1.out.i
        have HD2 : Hid (∀ Z G S', L2E w Z b S' t X G → Calls Tryz.prog 13 #[.pointer (some ⟨t, 0, none⟩), .agg #[.int .i64 co, .string (str cs), .string (str ct), .int .i64 ca, .int .i64 cb, .int .i64 cc, .int .i64 cn]] Z fun e Y => e = .returned (rpV (PS.doC X ⟨co, cs, ct, ca, cb, cc, cn⟩).2) ∧ L2E w Y b S' t (PS.doC X ⟨co, cs, ct, ca, cb, cc, cn⟩).1 G) := Lib.hid fun Z G S' h => (do_l2 h.swap ⟨co, cs, ct, ca, cb, cc, cn⟩ hxe.ok hxe.i).mono fun e Y q => ⟨q.1, q.2.swap⟩
        have HRK := Lib.hid hrr.key
        have HSR2 := Lib.hid hsr2
        have RL1 := Lib.hid (rep_len HI.out.1.i1 ⟨co, cs, ct, ca, cb, cc, cn⟩)
        have RL2 := Lib.hid (rep_len HI.out.1.i2 ⟨co, cs, ct, ca, cb, cc, cn⟩)
        generalize PS.doC S ⟨co, cs, ct, ca, cb, cc, cn⟩ = dr at *
        generalize PS.doC X ⟨co, cs, ct, ca, cb, cc, cn⟩ = dq at *
        obtain ⟨S2, er, rs, ra, rb, rc, rn⟩ := dr
        obtain ⟨X2, qe, qs, qa, qb, qc, qn⟩ := dq
        obtain ⟨h1, h2, h3, h4, h5, _⟩ := hrr
        dsimp only at h1 h2 h3 h4 h5 HRK HSR2 RL1 RL2
        subst h1 h2 h3 h4 h5
        unfold rpV at HD1 HD2
        dsimp only at HD1 HD2
        have HON : Hid (∀ Z, Calls Tryz.prog 22 #[.string (str rs), .string (str qs)] Z (RetBelow (.bool true) Z)) := Lib.hid fun Z => one_true HRK.out RL1.out RL2.out Z
        have e28 := fun W => eq28i ra rb rc W
        have n1 : (er != er) = false := by simp
        have n2 : (rn != rn) = false := by simp
        clear hcr hxe
        go_wp2_with (first
          | (go_at_call 13; (with_reducible refine (HD1.out _ _ HB1.out).mono ?_); rintro e wD ⟨rfl, h⟩; have HL5 := Lib.hid (h.box #[.int .i64 er, .string (str rs), .int .i64 ra, .int .i64 rb, .int .i64 rc, .int .i64 rn] 30); clear h; obtain ⟨x0, x1, x2, x3, x4, x5, x6⟩ := Wi.row7 (HL5.out.held (p := (wr.heap.size, _)) (List.Mem.tail _ (List.Mem.head _))))
          | (go_at_call 13; (with_reducible refine (HD2.out _ _ _ HL5.out).mono ?_); rintro e wE ⟨rfl, h⟩; have HL6 := Lib.hid (h.box #[.int .i64 er, .string (str qs), .int .i64 ra, .int .i64 rb, .int .i64 rc, .int .i64 rn] 30); clear h; obtain ⟨y0, y1, y2, y3, y4, y5, _⟩ := rowc6 (HL6.out.held (p := (wD.heap.size, _)) (List.Mem.tail _ (List.Mem.head _))); obtain ⟨z0, z1, z2, z3, z4, z5, _⟩ := rowc6 (HL6.out.held (p := (wE.heap.size, _)) (List.Mem.head _)))
          | (go_at_call 22; (with_reducible refine (HON.out _).mono ?_); rintro e wF ⟨rfl, hb⟩; have HL7 := Lib.hid (HL6.out.below hb); clear hb))
        go_roundw
        case rel => exact ⟨j + 1, S2, X2, by go_num, Nat.succ_le_of_lt HLT.out, HL7.out.less (fun p hp => by cases hp), HSR2.out⟩
        case measure => exact meas_lt HLT.out
      case pos =>
        have b1 : decide ((0 : Int) < (NB : Int)) = true := by simp; omega
        have b2 : decide ((NB : Int) > 0) = true := by simp; omega
        have b3 : decide (0 < NB) = true := by simp; omega
        obtain ⟨jm, hjm⟩ : ∃ jm, j % NB = jm := ⟨_, rfl⟩
        obtain ⟨jn, hjn⟩ : ∃ jn, (j + 1) % NB = jn := ⟨_, rfl⟩
        have r1 : (j : Int).tmod (NB : Int) = (jm : Int) := by rw [Int.tmod_eq_emod_of_nonneg (by omega), ← hjm]; exact (Int.natCast_emod j NB).symm
        have r2 : ((j : Int) + 1).tmod (NB : Int) = (jn : Int) := by rw [Int.tmod_eq_emod_of_nonneg (by omega), ← hjn, Int.natCast_emod]; rfl
        have hz : ¬ NB = 0 := by omega
        have wj : IntKind.i64.wrap ((j : Int) + 1) = (j : Int) + 1 := by rw [IntKind.wrap_i64]; omega
        have l1 : jm < NB := by rw [← hjm]; exact Nat.mod_lt _ hNB
        have l2 : jn < NB := by rw [← hjn]; exact Nat.mod_lt _ hNB
        obtain ⟨gB, oB, z1, hBA, hcl1, hlt1, q0, q1⟩ := HBT.out jm l1
        obtain ⟨gB', oB', z2, hBA', hcl2, hlt2, q2, q3⟩ := HBT.out jn l2
        rw [hBA] at hBA'
        injection hBA' with e1
        injection e1 with e1 e2
        subst e1 e2 hBA
        obtain ⟨bt1, rfl⟩ := Int.eq_ofNat_of_zero_le q0
        obtain ⟨bt2, rfl⟩ := Int.eq_ofNat_of_zero_le q2
        have HBA : Hid (∀ V, Below w.heap.size w V → V.cell? ⟨gB, oB + jm, none⟩ = some (.int .u16 (bt1 : Nat))) := Lib.hid fun V h => cellB hcl1 h hlt1
        have HBB : Hid (∀ V, Below w.heap.size w V → V.cell? ⟨gB, oB + jn, none⟩ = some (.int .u16 (bt2 : Nat))) := Lib.hid fun V h => cellB hcl2 h hlt2
        have HUP10 : Hid (∀ V, Calls Tryz.prog 21 #[.string (str cs), .int .u16 (bt1 : Nat)] V fun e Y => (∃ m, e = .returned (.string (str m)) ∧ Nm.key m = Nm.key cs) ∧ Below V.heap.size V Y) := Lib.hid fun V => upper_any cs bt1 (by omega) V HX1.out.s
        have HUP11 : Hid (∀ V, Calls Tryz.prog 21 #[.string (str ct), .int .u16 (bt2 : Nat)] V fun e Y => (∃ m, e = .returned (.string (str m)) ∧ Nm.key m = Nm.key ct) ∧ Below V.heap.size V Y) := Lib.hid fun V => upper_any ct bt2 (by omega) V HX1.out.t
        have i1' : (jm : Int) < (NB : Int) := by omega
        have i2' : (jn : Int) < (NB : Int) := by omega
        have i3' : (NB : Int) ≠ 0 := by omega
        clear hjm hjn hcl1 hcl2
        go_wp2_with fail
        have HE10 := Lib.hid (L2E.below HB1.out (Below.refl _ _).drew)
        refine wp_region_mono 11 [35, 36, 37, 38, 39, 40, 41, 42, 43, 44, 45] (fun i v Y0 => match i with | 0 => v = .pointer (some ⟨wr.heap.size, 1, none⟩) | 1 => v = .string (str cs) | 2 => v = .slice (some ⟨gB, oB, none⟩) NB cB | 3 => v = .int .i64 (j : Int) | 4 => v = .slice (some ⟨gB, oB, none⟩) NB cB | 5 => v = .int .i64 (NB : Int) | 6 => v = .int .i64 (jm : Int) | 7 => v = .pointer (some ⟨gB, oB + jm, none⟩) | 8 => v = .int .u16 (bt1 : Nat) | 9 => ∃ m, v = .string (str m) ∧ Nm.key m = Nm.key cs | 10 => v = .pointer (some ⟨wr.heap.size, 1, none⟩) | _ => True) (fun Y0 => L2E w Y0 b S t X [(wr.heap.size, .cells #[.int .i64 co, .string (str cs), .string (str ct), .int .i64 ca, .int .i64 cb, .int .i64 cc, .int .i64 cn] 33 (0, 0))]) [u35, u36, u37, u38, u39, u40, u41, u42, u43, u44, u45] (by kernel_rfl) (by kernel_rfl) (by kernel_rfl) rfl HE10.out ?hzV ?hzS ?hzT
        case hzV =>
          intro i v Y0 Y1 hC h hB
          exact match i, h with
          | 0, h => h
          | 1, h => h
          | 2, h => h
          | 3, h => h
          | 4, h => h
          | 5, h => h
          | 6, h => h
          | 7, h => h
          | 8, h => h
          | 9, h => h
          | 10, h => h
          | i + 11, h => trivial
        case hzS =>
          refine steps_cons (fun K' x hx Y0 hC hd hK => ?_) ?_
          · obtain ⟨z0, z1, z2, z3, z4, z5, z6, z7, z8, z9, z10, rfl⟩ := len11 hx
            clear hd hx
            simp only [putAll, Act.put, List.setIfInBounds_toArray, List.set_cons_zero, List.set_cons_succ] at hK ⊢
            go_simp
            exact hK _ _ rfl hC (Below.refl _ _)
          refine steps_cons (fun K' x hx Y0 hC hd hK => ?_) ?_
          · obtain ⟨z0, z1, z2, z3, z4, z5, z6, z7, z8, z9, z10, rfl⟩ := len11 hx
            obtain rfl : z0 = _ := hd 0 (by kernel_rfl)
            clear hd hx
            simp only [putAll, Act.put, List.setIfInBounds_toArray, List.set_cons_zero, List.set_cons_succ] at hK ⊢
            obtain ⟨a0, a1, a2, a3, a4, a5, a6⟩ := Wi.row7 (L2E.held hC (List.Mem.head _))
            go_simp
            exact hK _ _ rfl hC (Below.refl _ _)
          refine steps_cons (fun K' x hx Y0 hC hd hK => ?_) ?_
          · obtain ⟨z0, z1, z2, z3, z4, z5, z6, z7, z8, z9, z10, rfl⟩ := len11 hx
            clear hd hx
            simp only [putAll, Act.put, List.setIfInBounds_toArray, List.set_cons_zero, List.set_cons_succ] at hK ⊢
            go_simp
            exact hK _ _ rfl hC (Below.refl _ _)
          refine steps_cons (fun K' x hx Y0 hC hd hK => ?_) ?_
          · obtain ⟨z0, z1, z2, z3, z4, z5, z6, z7, z8, z9, z10, rfl⟩ := len11 hx
            clear hd hx
            simp only [putAll, Act.put, List.setIfInBounds_toArray, List.set_cons_zero, List.set_cons_succ] at hK ⊢
            go_simp
            exact hK _ _ rfl hC (Below.refl _ _)
          refine steps_cons (fun K' x hx Y0 hC hd hK => ?_) ?_
          · obtain ⟨z0, z1, z2, z3, z4, z5, z6, z7, z8, z9, z10, rfl⟩ := len11 hx
            clear hd hx
            simp only [putAll, Act.put, List.setIfInBounds_toArray, List.set_cons_zero, List.set_cons_succ] at hK ⊢
            go_simp
            exact hK _ _ rfl hC (Below.refl _ _)
          refine steps_cons (fun K' x hx Y0 hC hd hK => ?_) ?_
          · obtain ⟨z0, z1, z2, z3, z4, z5, z6, z7, z8, z9, z10, rfl⟩ := len11 hx
            obtain rfl : z4 = _ := hd 4 (by kernel_rfl)
            clear hd hx
            simp only [putAll, Act.put, List.setIfInBounds_toArray, List.set_cons_zero, List.set_cons_succ] at hK ⊢
            go_simp
            exact hK _ _ rfl hC (Below.refl _ _)
          refine steps_cons (fun K' x hx Y0 hC hd hK => ?_) ?_
          · obtain ⟨z0, z1, z2, z3, z4, z5, z6, z7, z8, z9, z10, rfl⟩ := len11 hx
            obtain rfl : z3 = _ := hd 3 (by kernel_rfl)
            obtain rfl : z5 = _ := hd 5 (by kernel_rfl)
            clear hd hx
            simp only [putAll, Act.put, List.setIfInBounds_toArray, List.set_cons_zero, List.set_cons_succ] at hK ⊢
            go_simp
            first | rw [if_neg hz] | skip
            go_simp
            first | exact hK _ _ rfl hC (Below.refl _ _) | exact hK (.int .i64 ((j : Int).tmod (NB : Int))) _ (by rw [r1]) hC (Below.refl _ _)
          refine steps_cons (fun K' x hx Y0 hC hd hK => ?_) ?_
          · obtain ⟨z0, z1, z2, z3, z4, z5, z6, z7, z8, z9, z10, rfl⟩ := len11 hx
            obtain rfl : z2 = _ := hd 2 (by kernel_rfl)
            obtain rfl : z6 = _ := hd 6 (by kernel_rfl)
            clear hd hx
            simp only [putAll, Act.put, List.setIfInBounds_toArray, List.set_cons_zero, List.set_cons_succ] at hK ⊢
            go_simp
            exact hK _ _ rfl hC (Below.refl _ _)
          refine steps_cons (fun K' x hx Y0 hC hd hK => ?_) ?_
          · obtain ⟨z0, z1, z2, z3, z4, z5, z6, z7, z8, z9, z10, rfl⟩ := len11 hx
            obtain rfl : z7 = _ := hd 7 (by kernel_rfl)
            clear hd hx
            simp only [putAll, Act.put, List.setIfInBounds_toArray, List.set_cons_zero, List.set_cons_succ] at hK ⊢
            have hb := HBA.out _ (L2E.bel hC)
            go_simp
            exact hK _ _ rfl hC (Below.refl _ _)
          refine steps_cons (fun K' x hx Y0 hC hd hK => ?_) ?_
          · obtain ⟨z0, z1, z2, z3, z4, z5, z6, z7, z8, z9, z10, rfl⟩ := len11 hx
            obtain rfl : z1 = _ := hd 1 (by kernel_rfl)
            obtain rfl : z8 = _ := hd 8 (by kernel_rfl)
            clear hd hx
            simp only [putAll, Act.put, List.setIfInBounds_toArray, List.set_cons_zero, List.set_cons_succ] at hK ⊢
            go_simp
            (go_at_call 21; (with_reducible refine (HUP10.out _).mono ?_); rintro e w1 ⟨⟨m, rfl, hkey⟩, hb⟩; exact hK _ _ ⟨m, rfl, hkey⟩ (L2E.below hC hb) hb)
          refine steps_cons (fun K' x hx Y0 hC hd hK => ?_) ?_
          · obtain ⟨z0, z1, z2, z3, z4, z5, z6, z7, z8, z9, z10, rfl⟩ := len11 hx
            clear hd hx
            simp only [putAll, Act.put, List.setIfInBounds_toArray, List.set_cons_zero, List.set_cons_succ] at hK ⊢
            go_simp
            exact hK _ _ rfl hC (Below.refl _ _)
          exact trivial
        case hzT =>
          intro x hx Y0 hC hd
          obtain ⟨m1, ec, hkey⟩ := hd 9 (by omega)
          change x.getD 9 undef = _ at ec
          have q0 : x.getD 0 undef = _ := hd 0 (by omega)
          have q1 : x.getD 1 undef = _ := hd 1 (by omega)
          have q2 : x.getD 2 undef = _ := hd 2 (by omega)
          have q3 : x.getD 3 undef = _ := hd 3 (by omega)
          have q4 : x.getD 4 undef = _ := hd 4 (by omega)
          have q5 : x.getD 5 undef = _ := hd 5 (by omega)
          have q6 : x.getD 6 undef = _ := hd 6 (by omega)
          have q7 : x.getD 7 undef = _ := hd 7 (by omega)
          have q8 : x.getD 8 undef = _ := hd 8 (by omega)
          have q10 : x.getD 10 undef = _ := hd 10 (by omega)
          rw [get11 hx, q0, q1, q2, q3, q4, q5, q6, q7, q8, ec, q10]
          simp only [putAll, Act.put, List.setIfInBounds_toArray, List.set_cons_zero, List.set_cons_succ]
          have HF10 := Lib.hid hC
          have HK10 := Lib.hid hkey
          obtain ⟨a0, a1, a2, a3, a4, a5, a6, f0, f1, f2, _⟩ := rowc7 (L2E.held hC (List.Mem.head _))
          clear hd hC hkey ec q0 q1 q2 q3 q4 q5 q6 q7 q8 q10
          have HG10 := Lib.hid (L2E.cell HF10.out HKB.out (by intro p hp; cases hp) 1 (.string (str m1)))
          simp only [List.setIfInBounds_toArray, List.set_cons_zero, List.set_cons_succ] at HG10
          show wpList Tryz.prog _ _ (_ :: []) _ _
          go_wp2_with fail
          clear a0 a1 a2 a3 a4 a5 a6 f0 f1 f2
          have HE11 := Lib.hid (L2E.below HG10.out (Below.refl _ _).drew)
          refine wp_region_mono 12 [46, 47, 48, 49, 50, 51, 52, 53, 54, 55, 56, 57] (fun i v Y0 => match i with | 0 => v = .pointer (some ⟨wr.heap.size, 2, none⟩) | 1 => v = .string (str ct) | 2 => v = .slice (some ⟨gB, oB, none⟩) NB cB | 3 => v = .int .i64 (j : Int) | 4 => v = .int .i64 ((j : Int) + 1) | 5 => v = .slice (some ⟨gB, oB, none⟩) NB cB | 6 => v = .int .i64 (NB : Int) | 7 => v = .int .i64 (jn : Int) | 8 => v = .pointer (some ⟨gB, oB + jn, none⟩) | 9 => v = .int .u16 (bt2 : Nat) | 10 => ∃ m, v = .string (str m) ∧ Nm.key m = Nm.key ct | 11 => v = .pointer (some ⟨wr.heap.size, 2, none⟩) | _ => True) (fun Y0 => L2E w Y0 b S t X [(wr.heap.size, .cells #[.int .i64 co, .string (str m1), .string (str ct), .int .i64 ca, .int .i64 cb, .int .i64 cc, .int .i64 cn] 33 (0, 0))]) [u46, u47, u48, u49, u50, u51, u52, u53, u54, u55, u56, u57] (by kernel_rfl) (by kernel_rfl) (by kernel_rfl) rfl HE11.out ?hzV ?hzS ?hzT
          case hzV =>
            intro i v Y0 Y1 hC h hB
            exact match i, h with
            | 0, h => h
            | 1, h => h
            | 2, h => h
            | 3, h => h
            | 4, h => h
            | 5, h => h
            | 6, h => h
            | 7, h => h
            | 8, h => h
            | 9, h => h
            | 10, h => h
            | 11, h => h
            | i + 12, h => trivial
          case hzS =>
            refine steps_cons (fun K' x hx Y0 hC hd hK => ?_) ?_
            · obtain ⟨z0, z1, z2, z3, z4, z5, z6, z7, z8, z9, z10, z11, rfl⟩ := len12 hx
              clear hd hx
              simp only [putAll, Act.put, List.setIfInBounds_toArray, List.set_cons_zero, List.set_cons_succ] at hK ⊢
              go_simp
              exact hK _ _ rfl hC (Below.refl _ _)
            refine steps_cons (fun K' x hx Y0 hC hd hK => ?_) ?_
            · obtain ⟨z0, z1, z2, z3, z4, z5, z6, z7, z8, z9, z10, z11, rfl⟩ := len12 hx
              obtain rfl : z0 = _ := hd 0 (by kernel_rfl)
              clear hd hx
              simp only [putAll, Act.put, List.setIfInBounds_toArray, List.set_cons_zero, List.set_cons_succ] at hK ⊢
              obtain ⟨a0, a1, a2, a3, a4, a5, a6⟩ := Wi.row7 (L2E.held hC (List.Mem.head _))
              go_simp
              exact hK _ _ rfl hC (Below.refl _ _)
            refine steps_cons (fun K' x hx Y0 hC hd hK => ?_) ?_
            · obtain ⟨z0, z1, z2, z3, z4, z5, z6, z7, z8, z9, z10, z11, rfl⟩ := len12 hx
              clear hd hx
              simp only [putAll, Act.put, List.setIfInBounds_toArray, List.set_cons_zero, List.set_cons_succ] at hK ⊢
              go_simp
              exact hK _ _ rfl hC (Below.refl _ _)
            refine steps_cons (fun K' x hx Y0 hC hd hK => ?_) ?_
            · obtain ⟨z0, z1, z2, z3, z4, z5, z6, z7, z8, z9, z10, z11, rfl⟩ := len12 hx
              clear hd hx
              simp only [putAll, Act.put, List.setIfInBounds_toArray, List.set_cons_zero, List.set_cons_succ] at hK ⊢
              go_simp
              exact hK _ _ rfl hC (Below.refl _ _)
            refine steps_cons (fun K' x hx Y0 hC hd hK => ?_) ?_
            · obtain ⟨z0, z1, z2, z3, z4, z5, z6, z7, z8, z9, z10, z11, rfl⟩ := len12 hx
              obtain rfl : z3 = _ := hd 3 (by kernel_rfl)
              clear hd hx
              simp only [putAll, Act.put, List.setIfInBounds_toArray, List.set_cons_zero, List.set_cons_succ] at hK ⊢
              go_simp
              first | exact hK _ _ rfl hC (Below.refl _ _) | exact hK (.int .i64 (IntKind.i64.wrap ((j : Int) + 1))) _ (by rw [wj]) hC (Below.refl _ _)
            refine steps_cons (fun K' x hx Y0 hC hd hK => ?_) ?_
            · obtain ⟨z0, z1, z2, z3, z4, z5, z6, z7, z8, z9, z10, z11, rfl⟩ := len12 hx
              clear hd hx
              simp only [putAll, Act.put, List.setIfInBounds_toArray, List.set_cons_zero, List.set_cons_succ] at hK ⊢
              go_simp
              exact hK _ _ rfl hC (Below.refl _ _)
            refine steps_cons (fun K' x hx Y0 hC hd hK => ?_) ?_
            · obtain ⟨z0, z1, z2, z3, z4, z5, z6, z7, z8, z9, z10, z11, rfl⟩ := len12 hx
              obtain rfl : z5 = _ := hd 5 (by kernel_rfl)
              clear hd hx
              simp only [putAll, Act.put, List.setIfInBounds_toArray, List.set_cons_zero, List.set_cons_succ] at hK ⊢
              go_simp
              exact hK _ _ rfl hC (Below.refl _ _)
            refine steps_cons (fun K' x hx Y0 hC hd hK => ?_) ?_
            · obtain ⟨z0, z1, z2, z3, z4, z5, z6, z7, z8, z9, z10, z11, rfl⟩ := len12 hx
              obtain rfl : z4 = _ := hd 4 (by kernel_rfl)
              obtain rfl : z6 = _ := hd 6 (by kernel_rfl)
              clear hd hx
              simp only [putAll, Act.put, List.setIfInBounds_toArray, List.set_cons_zero, List.set_cons_succ] at hK ⊢
              go_simp
              first | rw [if_neg hz] | skip
              go_simp
              first | exact hK _ _ rfl hC (Below.refl _ _) | exact hK (.int .i64 (((j : Int) + 1).tmod (NB : Int))) _ (by rw [r2]) hC (Below.refl _ _)
            refine steps_cons (fun K' x hx Y0 hC hd hK => ?_) ?_
            · obtain ⟨z0, z1, z2, z3, z4, z5, z6, z7, z8, z9, z10, z11, rfl⟩ := len12 hx
              obtain rfl : z2 = _ := hd 2 (by kernel_rfl)
              obtain rfl : z7 = _ := hd 7 (by kernel_rfl)
              clear hd hx
              simp only [putAll, Act.put, List.setIfInBounds_toArray, List.set_cons_zero, List.set_cons_succ] at hK ⊢
              go_simp
              exact hK _ _ rfl hC (Below.refl _ _)
            refine steps_cons (fun K' x hx Y0 hC hd hK => ?_) ?_
            · obtain ⟨z0, z1, z2, z3, z4, z5, z6, z7, z8, z9, z10, z11, rfl⟩ := len12 hx
              obtain rfl : z8 = _ := hd 8 (by kernel_rfl)
              clear hd hx
              simp only [putAll, Act.put, List.setIfInBounds_toArray, List.set_cons_zero, List.set_cons_succ] at hK ⊢
              have hb := HBB.out _ (L2E.bel hC)
              go_simp
              exact hK _ _ rfl hC (Below.refl _ _)
            refine steps_cons (fun K' x hx Y0 hC hd hK => ?_) ?_
            · obtain ⟨z0, z1, z2, z3, z4, z5, z6, z7, z8, z9, z10, z11, rfl⟩ := len12 hx
              obtain rfl : z1 = _ := hd 1 (by kernel_rfl)
              obtain rfl : z9 = _ := hd 9 (by kernel_rfl)
              clear hd hx
              simp only [putAll, Act.put, List.setIfInBounds_toArray, List.set_cons_zero, List.set_cons_succ] at hK ⊢
              go_simp
              (go_at_call 21; (with_reducible refine (HUP11.out _).mono ?_); rintro e w1 ⟨⟨m, rfl, hkey⟩, hb⟩; exact hK _ _ ⟨m, rfl, hkey⟩ (L2E.below hC hb) hb)
            refine steps_cons (fun K' x hx Y0 hC hd hK => ?_) ?_
            · obtain ⟨z0, z1, z2, z3, z4, z5, z6, z7, z8, z9, z10, z11, rfl⟩ := len12 hx
              clear hd hx
              simp only [putAll, Act.put, List.setIfInBounds_toArray, List.set_cons_zero, List.set_cons_succ] at hK ⊢
              go_simp
              exact hK _ _ rfl hC (Below.refl _ _)
            exact trivial
          case hzT =>
            intro x hx Y0 hC hd
            obtain ⟨m2, ec, hkey⟩ := hd 10 (by omega)
            change x.getD 10 undef = _ at ec
            have q0 : x.getD 0 undef = _ := hd 0 (by omega)
            have q1 : x.getD 1 undef = _ := hd 1 (by omega)
            have q2 : x.getD 2 undef = _ := hd 2 (by omega)
            have q3 : x.getD 3 undef = _ := hd 3 (by omega)
            have q4 : x.getD 4 undef = _ := hd 4 (by omega)
            have q5 : x.getD 5 undef = _ := hd 5 (by omega)
            have q6 : x.getD 6 undef = _ := hd 6 (by omega)
            have q7 : x.getD 7 undef = _ := hd 7 (by omega)
            have q8 : x.getD 8 undef = _ := hd 8 (by omega)
            have q9 : x.getD 9 undef = _ := hd 9 (by omega)
            have q11 : x.getD 11 undef = _ := hd 11 (by omega)
            rw [get12 hx, q0, q1, q2, q3, q4, q5, q6, q7, q8, q9, ec, q11]
            simp only [putAll, Act.put, List.setIfInBounds_toArray, List.set_cons_zero, List.set_cons_succ]
            have HF11 := Lib.hid hC
            have HK11 := Lib.hid hkey
            obtain ⟨a0, a1, a2, a3, a4, a5, a6, f0, f1, f2, _⟩ := rowc7 (L2E.held hC (List.Mem.head _))
            clear hd hC hkey ec q0 q1 q2 q3 q4 q5 q6 q7 q8 q9 q11
            have HG11 := Lib.hid (L2E.cell HF11.out HKB.out (by intro p hp; cases hp) 2 (.string (str m2)))
            simp only [List.setIfInBounds_toArray, List.set_cons_zero, List.set_cons_succ] at HG11
            obtain ⟨u0, u1, u2, u3, u4, u5, u6⟩ := HC1.out _ HG11.out.bel
            show wpList Tryz.prog _ _ (_ :: []) _ _
            have hcr : CR ⟨co, cs, ct, ca, cb, cc, cn⟩ ⟨co, m1, m2, ca, cb, cc, cn⟩ := CR.of (c := ⟨co, cs, ct, ca, cb, cc, cn⟩) HK10.out HK11.out
            have hxe : CmX ⟨co, m1, m2, ca, cb, cc, cn⟩ := CmX.of (c := ⟨co, cs, ct, ca, cb, cc, cn⟩) HX1.out HK10.out HK11.out
            obtain ⟨hsr2, hrr⟩ := rel_do HSR.out HI.out.1.i1 HI.out.1.i2 hcr
            have HD1 : Hid (∀ Z G, L2E w Z b S t X G → Calls Tryz.prog 13 #[.pointer (some ⟨b, 0, none⟩), .agg #[.int .i64 co, .string (str cs), .string (str ct), .int .i64 ca, .int .i64 cb, .int .i64 cc, .int .i64 cn]] Z fun e Y => e = .returned (rpV (PS.doC S ⟨co, cs, ct, ca, cb, cc, cn⟩).2) ∧ L2E w Y b (PS.doC S ⟨co, cs, ct, ca, cb, cc, cn⟩).1 t X G) := Lib.hid fun Z G h => do_l2 h ⟨co, cs, ct, ca, cb, cc, cn⟩ HX1.out.ok HX1.out.i
            have HD2 : Hid (∀ Z G S', L2E w Z b S' t X G → Calls Tryz.prog 13 #[.pointer (some ⟨t, 0, none⟩), .agg #[.int .i64 co, .string (str m1), .string (str m2), .int .i64 ca, .int .i64 cb, .int .i64 cc, .int .i64 cn]] Z fun e Y => e = .returned (rpV (PS.doC X ⟨co, m1, m2, ca, cb, cc, cn⟩).2) ∧ L2E w Y b S' t (PS.doC X ⟨co, m1, m2, ca, cb, cc, cn⟩).1 G) := Lib.hid fun Z G S' h => (do_l2 h.swap ⟨co, m1, m2, ca, cb, cc, cn⟩ hxe.ok hxe.i).mono fun e Y q => ⟨q.1, q.2.swap⟩
            have HRK := Lib.hid hrr.key
            have HSR2 := Lib.hid hsr2
            have RL1 := Lib.hid (rep_len HI.out.1.i1 ⟨co, cs, ct, ca, cb, cc, cn⟩)
            have RL2 := Lib.hid (rep_len HI.out.1.i2 ⟨co, m1, m2, ca, cb, cc, cn⟩)
            generalize PS.doC S ⟨co, cs, ct, ca, cb, cc, cn⟩ = dr at *
            generalize PS.doC X ⟨co, m1, m2, ca, cb, cc, cn⟩ = dq at *
            obtain ⟨S2, er, rs, ra, rb, rc, rn⟩ := dr
            obtain ⟨X2, qe, qs, qa, qb, qc, qn⟩ := dq
            obtain ⟨h1, h2, h3, h4, h5, _⟩ := hrr
            dsimp only at h1 h2 h3 h4 h5 HRK HSR2 RL1 RL2
            subst h1 h2 h3 h4 h5
            unfold rpV at HD1 HD2
            dsimp only at HD1 HD2
            have HON : Hid (∀ Z, Calls Tryz.prog 22 #[.string (str rs), .string (str qs)] Z (RetBelow (.bool true) Z)) := Lib.hid fun Z => one_true HRK.out RL1.out RL2.out Z
            have e28 := fun W => eq28i ra rb rc W
            have n1 : (er != er) = false := by simp
            have n2 : (rn != rn) = false := by simp
            clear hcr hxe
            go_wp2_with (first
              | (go_at_call 13; (with_reducible refine (HD1.out _ _ HG11.out).mono ?_); rintro e wD ⟨rfl, h⟩; have HL5 := Lib.hid (h.box #[.int .i64 er, .string (str rs), .int .i64 ra, .int .i64 rb, .int .i64 rc, .int .i64 rn] 30); clear h; obtain ⟨x0, x1, x2, x3, x4, x5, x6⟩ := Wi.row7 (HL5.out.held (p := (wr.heap.size, _)) (List.Mem.tail _ (List.Mem.head _))))
              | (go_at_call 13; (with_reducible refine (HD2.out _ _ _ HL5.out).mono ?_); rintro e wE ⟨rfl, h⟩; have HL6 := Lib.hid (h.box #[.int .i64 er, .string (str qs), .int .i64 ra, .int .i64 rb, .int .i64 rc, .int .i64 rn] 30); clear h; obtain ⟨y0, y1, y2, y3, y4, y5, _⟩ := rowc6 (HL6.out.held (p := (wD.heap.size, _)) (List.Mem.tail _ (List.Mem.head _))); obtain ⟨z0, z1, z2, z3, z4, z5, _⟩ := rowc6 (HL6.out.held (p := (wE.heap.size, _)) (List.Mem.head _)))
              | (go_at_call 22; (with_reducible refine (HON.out _).mono ?_); rintro e wF ⟨rfl, hb⟩; have HL7 := Lib.hid (HL6.out.below hb); clear hb))
            go_roundw
            case rel => exact ⟨j + 1, S2, X2, by go_num, Nat.succ_le_of_lt HLT.out, HL7.out.less (fun p hp => by cases hp), HSR2.out⟩
            case measure => exact meas_lt HLT.out
end Go.Proofs.YtphclpjekpdifaaGreat
