import Derived.Test.YtnlolpiefidckaaGreatY5
import Derived.Test.YtnlolpiefidckaaGreatY6
import Derived.Test.YtnlolpiefidckaaGreatYVb
namespace Go.Proofs.YtnlolpiefidckaaGreat
set_option maxRecDepth 20000
open Go.RowKit
open PS (Tx putM dropM setM findM Nod Ten Jb kOf St Cm Rp byName row)
open Go.Proofs.YtnlolpiefidckaaGreat.Nm (str)
open Go.Proofs.YtnlolpiefidckaaGreat.Vc (RetBelow fitB I64)
set_option linter.unusedVariables false
theorem keys_nodup {α : Type} {l : List (Tx × α)} (h : SL l) : (l.map (·.1)).Nodup := by
  unfold List.Nodup
  rw [List.pairwise_map]
  refine List.Pairwise.imp_of_mem ?_ h
  intro e f he hf hb q
  rw [q, bb_irrefl] at hb
  cases hb
theorem byName_pair {α : Type} {l : List (Tx × α)} (h : SL l) (key : α → Tx) (hk : ∀ k x, findM l k = some x → k = key x) : (byName l).Pairwise (fun x y => key x ≠ key y) := by
  unfold byName
  rw [List.pairwise_filterMap]
  refine List.Pairwise.imp ?_ ((sortK_perm _).nodup_iff.2 (keys_nodup h))
  intro a b hab x hx y hy e
  exact hab (by rw [hk _ _ hx, hk _ _ hy, e])
structure RzN (S0 S : St) (i : Nat) : Prop where
  inv : Inv S
  j : S.J = S0.J
  t : S.T = S0.T
  n : ∀ m x, i ≤ m → (byName S0.N)[m]? = some x → findM S.N (kOf x.s) = some x
theorem RzN.zero {S : St} (h : Inv S) : RzN S S 0 := ⟨h, rfl, rfl, fun m x _ hx => by
  obtain ⟨k, hk⟩ := byName_at hx
  have := (h.n _ _ hk).key
  rwa [← this]⟩
theorem RzN.skip {S0 S : St} {i : Nat} (h : RzN S0 S i) : RzN S0 S (i + 1) := ⟨h.inv, h.j, h.t, fun m x hm hx => h.n m x (by omega) hx⟩
theorem pair_at {α : Type} {R : α → α → Prop} {l : List α} (h : l.Pairwise R) {i j : Nat} (hij : i < j) {x y : α} (hx : l[i]? = some x) (hy : l[j]? = some y) : R x y := by
  obtain ⟨h1, rfl⟩ := List.getElem?_eq_some_iff.1 hx
  obtain ⟨h2, rfl⟩ := List.getElem?_eq_some_iff.1 hy
  exact List.pairwise_iff_getElem.1 h i j h1 h2 hij
theorem RzN.step {S0 S : St} {i : Nat} (h0 : Inv S0) (h : RzN S0 S i) {x : Nod} (hx : (byName S0.N)[i]? = some x) {a b c : Int} (p : 0 ≤ a ∧ 0 ≤ b ∧ 0 ≤ c) (hi : I64 (x.a + a) ∧ I64 (x.b + b) ∧ I64 (x.c + c)) :
    (PS.doC S ⟨1, x.s, [], x.a + a, x.b + b, x.c + c, 0⟩).2 = PS.err 0 ∧ RzN S0 (PS.doC S ⟨1, x.s, [], x.a + a, x.b + b, x.c + c, 0⟩).1 (i + 1) := by
  have hf := h.n i x (Nat.le_refl _) hx
  have hn := h.inv.n _ _ hf
  have hu := h.inv.used (onB x.s)
  have h1 := hn.ux; have h2 := hn.uy; have h3 := hn.uz; have h4 := hn.fx; have h5 := hn.fy; have h6 := hn.fz
  have hr := raiseN h.inv (a := x.a + a) (b := x.b + b) (c := x.c + c) hf hn.may (by omega) (by omega)
  have hI := h.inv.doC ⟨1, x.s, [], x.a + a, x.b + b, x.c + c, 0⟩ ⟨hi.1, hi.2.1, i64_0, hi.2.2⟩
  rw [hr] at hI ⊢
  refine ⟨rfl, hI, h.j, h.t, fun m y hm hy => ?_⟩
  have hne : kOf y.s ≠ kOf x.s := fun e => pair_at (byName_pair h0.sN (fun n => kOf n.s) fun k n q => (h0.n _ _ q).key) (show i < m by omega) hx hy e.symm
  show findM (setM (kOf x.s) _ S.N) (kOf y.s) = _
  rw [find_setM h.inv.sN, if_neg hne]
  exact h.n m y (by omega) hy
structure RzT (S0 S : St) (i : Nat) : Prop where
  inv : Inv S
  j : S.J = S0.J
  n : ∀ m x, i ≤ m → (byName S0.T)[m]? = some x → findM S.T (kOf x.s) = some x
theorem RzT.zero {S : St} (h : Inv S) : RzT S S 0 := ⟨h, rfl, fun m x _ hx => by
  obtain ⟨k, hk⟩ := byName_at hx
  have := (h.t _ _ hk).key
  rwa [← this]⟩
theorem RzT.skip {S0 S : St} {i : Nat} (h : RzT S0 S i) : RzT S0 S (i + 1) := ⟨h.inv, h.j, fun m x hm hx => h.n m x (by omega) hx⟩
theorem RzT.step {S0 S : St} {i : Nat} (h0 : Inv S0) (h : RzT S0 S i) {x : Ten} (hx : (byName S0.T)[i]? = some x) {a b c : Int} (p : 0 ≤ a ∧ 0 ≤ b ∧ 0 ≤ c) (hi : I64 (x.a + a) ∧ I64 (x.b + b) ∧ I64 (x.c + c)) :
    (PS.doC S ⟨4, x.s, [], x.a + a, x.b + b, x.c + c, 0⟩).2 = PS.err 0 ∧ RzT S0 (PS.doC S ⟨4, x.s, [], x.a + a, x.b + b, x.c + c, 0⟩).1 (i + 1) := by
  have hf := h.n i x (Nat.le_refl _) hx
  have hn := h.inv.t _ _ hf
  have hu := h.inv.used (ofB x.s)
  have h1 := hn.ux; have h2 := hn.uy; have h3 := hn.uz; have h4 := hn.fx; have h5 := hn.fy; have h6 := hn.fz
  have hr := raiseT h.inv (a := x.a + a) (b := x.b + b) (c := x.c + c) hf hn.may (by omega) (by omega)
  have hI := h.inv.doC ⟨4, x.s, [], x.a + a, x.b + b, x.c + c, 0⟩ ⟨hi.1, hi.2.1, i64_0, hi.2.2⟩
  rw [hr] at hI ⊢
  refine ⟨rfl, hI, h.j, fun m y hm hy => ?_⟩
  have hne : kOf y.s ≠ kOf x.s := fun e => pair_at (byName_pair h0.sT (fun n => kOf n.s) fun k n q => (h0.t _ _ q).key) (show i < m by omega) hx hy e.symm
  show findM (setM (kOf x.s) _ S.T) (kOf y.s) = _
  rw [find_setM h.inv.sT, if_neg hne]
  exact h.n m y (by omega) hy
theorem LvE.hold {w X Y : World} {b : Nat} {S : St} {G : List (Nat × Obj)} (h : LvE w X b S G) (hb : Below X.heap.size X Y) {k : Nat} {o : Obj} (hk : X.heap.size ≤ k) (ho : Y.heap[k]? = some o) : LvE w Y b S ((k, o) :: G) := by
  have h1 := h.below hb
  obtain ⟨T, h⟩ := h
  have hlt := h.sch.lt
  refine ⟨T, h.sch.below hb, h.new, h.bel.trans (hb.mono h.bel.size), h.inv, fun p hp => ?_⟩
  rcases List.mem_cons.1 hp with rfl | hp
  · exact ⟨ho, fun q => by have := hlt _ q; simp at this; omega⟩
  · exact ⟨(hb.block _ (Array.getElem?_eq_some_iff.1 (h.held p hp).1).1).trans (h.held p hp).1, (h.held p hp).2⟩
def RowsIn {α : Type} (D : CT α) (K : List (Nat × Obj)) (A : Option Addr) (L : List α) : Prop :=
  ∀ i x, L[i]? = some x → ∃ g, A = some ⟨g, 0, none⟩ ∧ ∀ Z : World, (∀ p ∈ K, Z.heap[p.1]? = some p.2) → ∀ q u, (D.C x)[q]? = some u → Z.cell? ⟨g, i * D.m + q, none⟩ = some u
theorem LvE.own {α : Type} {D : CT α} {w X Y : World} {b : Nat} {S : St} {G : List (Nat × Obj)} {v : Value} {L : List α} (h : LvE w X b S G) (hb : Below X.heap.size X Y) (ho : Own D Y X.heap.size v L) :
    ∃ A c K, v = .slice A L.length c ∧ LvE w Y b S (K ++ G) ∧ RowsIn D K A L := by
  have ho' := ho
  rcases ho.2 with ⟨rfl, hn⟩ | ⟨g, cap, cur, rfl, hg, hh, _⟩
  · refine ⟨none, 0, [], by rw [hn], h.below hb, fun i x hx => ?_⟩
    have := (List.getElem?_eq_some_iff.1 hx).1
    omega
  · refine ⟨_, cap, [(g, .cells cur D.e (0, 0))], rfl, h.hold hb hg hh, fun i x hx => ⟨g, rfl, fun Z hZ q u hu => ?_⟩⟩
    obtain ⟨g', cap', h1, _, _, h4⟩ := ho'.at_ hx
    injection h1 with h1 h1a h1b
    injection h1 with h1
    injection h1 with h1
    subst h1
    rw [← h4 q u hu]
    have hz := hZ _ (List.Mem.head _)
    unfold World.cell?
    dsimp only at hz ⊢
    rw [hz, hh]
theorem jobs_held {w X : World} {b : Nat} {S : St} {G : List (Nat × Obj)} (h : LvE w X b S G) : Calls Tryz.prog 22 #[.pointer (some ⟨b, 0, none⟩)] X fun e Y => ∃ A c K, e = .returned (.slice A (byName S.J).length c) ∧ LvE w Y b S (K ++ G) ∧ RowsIn DJ K A (byName S.J) := by
  have h0 := h
  obtain ⟨T, h⟩ := h
  exact (jobs_any h.sch h.inv.ok).mono fun e Y ⟨v, q1, q2, q3⟩ => by
    obtain ⟨A, c, K, rfl, h2, h3⟩ := h0.own q3 q2
    exact ⟨A, c, K, q1, h2, h3⟩
theorem nodes_held {w X : World} {b : Nat} {S : St} {G : List (Nat × Obj)} (h : LvE w X b S G) : Calls Tryz.prog 18 #[.pointer (some ⟨b, 0, none⟩)] X fun e Y => ∃ A c K, e = .returned (.slice A (byName S.N).length c) ∧ LvE w Y b S (K ++ G) ∧ RowsIn DR K A ((byName S.N).map row) := by
  have h0 := h
  obtain ⟨T, h⟩ := h
  exact (nodes_any h.sch h.inv.ok).mono fun e Y ⟨v, q1, q2, q3⟩ => by
    obtain ⟨A, c, K, rfl, h2, h3⟩ := h0.own q3 q2
    rw [List.length_map] at q1
    exact ⟨A, c, K, q1, h2, h3⟩
theorem tenants_held {w X : World} {b : Nat} {S : St} {G : List (Nat × Obj)} (h : LvE w X b S G) : Calls Tryz.prog 23 #[.pointer (some ⟨b, 0, none⟩)] X fun e Y => ∃ A c K, e = .returned (.slice A (byName S.T).length c) ∧ LvE w Y b S (K ++ G) ∧ RowsIn DTR K A (byName S.T) := by
  have h0 := h
  obtain ⟨T, h⟩ := h
  exact (tenants_any h.sch h.inv.ok).mono fun e Y ⟨v, q1, q2, q3⟩ => by
    obtain ⟨A, c, K, rfl, h2, h3⟩ := h0.own q3 q2
    exact ⟨A, c, K, q1, h2, h3⟩
theorem eq57i (s t : ByteArray) (p q r : Int) (o : ByteArray) (st : Int) (w : World) : (Op.equalIn 10000 57 (.agg #[.string s, .string t, .int .i64 p, .int .i64 q, .int .i64 r, .string o, .int .i64 st]) (.agg #[.string s, .string t, .int .i64 p, .int .i64 q, .int .i64 r, .string o, .int .i64 st])).run Tryz.prog w = .ok true w := by
  have u2 := Tryz.underlying2
  have a2 := Tryz.isAgg2
  have z2 := Tryz.sizeOf2
  have u9 := Tryz.underlying9
  have a9 := Tryz.isAgg9
  have z9 := Tryz.sizeOf9
  have a23 := Tryz.isAgg33
  have z23 := Tryz.sizeOf33
  have e23 := Wi.eq23 9997 p q r p q r w
  rw [Wi.eqV_self] at e23
  have hu : Tryz.prog.underlying 57 = some (.struct (Tryz.prog.fieldsOf 57)) := by kernel_rfl
  rw [show (10000 : Nat) = 9999 + 1 from rfl, run_equalIn_struct w 9999 57 _ _ hu (by kernel_rfl)]
  simp only [Program.fieldsOf, Tryz.underlying57]
  clear hu
  go_simp
set_option maxHeartbeats 8000000 in
theorem law_raise (L0 : List Cm) (A : Option Addr) (N c0 : Nat) (p q r : Int) (w : World) (hA : Rws DC w w.heap.size A L0) (hN : L0.length = N) (hX : ∀ c ∈ L0, CmX c) (bp : I64 p) (bq : I64 q) (br : I64 r) :
    Calls Tryz.prog 10 #[.slice A N c0, .agg #[.int .i64 p, .int .i64 q, .int .i64 r]] w (RetBelow (.bool true) w) := by
  have HA := Lib.hid hA
  have HN := Lib.hid hN
  have HX := Lib.hid hX
  have HAW := Lib.hid (fun X => awake_any X)
  have HBI := Lib.hid (show I64 p ∧ I64 q ∧ I64 r from ⟨bp, bq, br⟩)
  clear hA hX hN bp bq br
  have HB := Lib.hid ((Below.refl w.heap.size w).alloc (Nat.le_refl _) (.cells #[.int .i64 p, .int .i64 q, .int .i64 r] 33))
  have HV := Lib.hid (heap_alloc_new w (.cells #[.int .i64 p, .int .i64 q, .int .i64 r] 33))
  have HNW : Hid (∀ X, Below w.heap.size w X → X.heap[w.heap.size]? = some (.cells #[.int .i64 p, .int .i64 q, .int .i64 r] 33 (0, 0)) → Calls Tryz.prog 13 #[] X fun e Y => ∃ b, e = .returned (.pointer (some ⟨b, 0, none⟩)) ∧ LvE w Y b PS.s0 [(w.heap.size, .cells #[.int .i64 p, .int .i64 q, .int .i64 r] 33 (0, 0))]) := Lib.hid fun X h h2 => new_lv h _ (fun p hp => by rcases List.mem_cons.1 hp with rfl | hp; exact h2; cases hp)
  have HRM := Lib.hid fun X => Vc.refMay_any p q r X
  have HBT : Hid (fitB 0 0 0 p q r = true → 0 ≤ p ∧ 0 ≤ q ∧ 0 ≤ r) := Lib.hid fit_iff.1
  generalize fitB 0 0 0 p q r = FB at *
  go_enter Tryz.func10, Tryz.ntmps10
  go_wp2_with (first | (go_at_call 12; (with_reducible refine (HAW.out _).mono ?_); rintro e w0 ⟨rfl, hb⟩; have HB0 := Lib.hid (HB.out.trans (hb.mono HB.out.size)); have HV0 := Lib.hid ((hb.block w.heap.size (Array.getElem?_eq_some_iff.1 HV.out).1).trans HV.out); clear hb) | (go_at_call 13; (with_reducible refine (HNW.out _ HB0.out HV0.out).mono ?_); rintro e w1 ⟨b, rfl, h⟩; have HL0 := Lib.hid h; clear h))
  go_loopw [6] (fun iV wr => ∃ (j : Nat) (S : St), iV = .int .i64 j ∧ j ≤ N ∧ LvE w wr b S [(w.heap.size, .cells #[.int .i64 p, .int .i64 q, .int .i64 r] 33 (0, 0))]) (fun iV _ => N - (intOf iV).toNat)
  case atStart => exact ⟨0, _, rfl, Nat.zero_le _, HL0.out⟩
  case round =>
    obtain ⟨j, S, rfl, hj, hl⟩ := hrel
    have HL := Lib.hid hl
    clear hl HL0 HNW HAW HB0 HV0 HB HV
    by_cases hgo : j < N ∧ j < 300
    case neg =>
      have hs : (decide ((j : Int) < (N : Int)) = false ∧ decide (j < N) = false ∧ True ∧ True) ∨ (decide ((j : Int) < (N : Int)) = true ∧ decide (j < N) = true ∧ decide ((j : Int) < 300) = false ∧ decide (j < 300) = false) := by
        by_cases hlt : j < N
        · right; simp; omega
        · left; simp; omega
      clear hgo hj
      rcases hs with ⟨g1, g2, _, _⟩ | ⟨g1, g2, g3, g4⟩
      all_goals
        obtain ⟨v0, v1, v2, _⟩ := row3f (HL.out.held (p := (w.heap.size, .cells #[.int .i64 p, .int .i64 q, .int .i64 r] 33 (0, 0))) (List.Mem.head _))
        by_cases hFB : FB = true
        case neg =>
          obtain rfl : FB = false := Bool.eq_false_iff.2 hFB
          go_wp2_with fail
          (with_reducible refine (HRM.out _).mono ?_)
          rintro e w2 ⟨rfl, h⟩
          have HL2 := Lib.hid (HL.out.below h)
          clear h v0 v1 v2
          go_wp2_with fail
          go_ret
          exact ⟨rfl, HL2.out.bel⟩
        case pos =>
        subst hFB
        have HPO := Lib.hid (HBT.out rfl)
        clear HBT
        have HJ := Lib.hid fun (X : World) (G : List (Nat × Obj)) (h : LvE w X b S G) => jobs_held h
        have HNO := Lib.hid fun (X : World) (G : List (Nat × Obj)) (h : LvE w X b S G) => nodes_held h
        have HR0 := Lib.hid (RzN.zero HL.out.inv)
        have HI0 := Lib.hid HL.out.inv
        generalize hnn : (byName S.N).length = nN at *
        generalize hnj : (byName S.J).length = nJ at *
        have H32 := Lib.hid (show nN ≤ 32 from hnn ▸ Nat.le_trans (byName_len _) HI0.out.lN)
        have HJ128 := Lib.hid (show nJ ≤ 128 from hnj ▸ Nat.le_trans (byName_len _) HI0.out.lJ)
        have HNN := Lib.hid hnn
        have HNJ := Lib.hid hnj
        clear hnn hnj
        go_wp2_with fail
        (with_reducible refine (HRM.out _).mono ?_)
        rintro e w2 ⟨rfl, h⟩
        have HL2 := Lib.hid (HL.out.below h)
        clear h v0 v1 v2 HRM
        go_wp2_with fail
        (with_reducible refine (HJ.out _ _ HL2.out).mono ?_)
        rintro e w3 ⟨AJ, cJ, KJ, rfl, h, hr⟩
        have HL3 := Lib.hid h
        have HRJ := Lib.hid hr
        clear h hr HJ
        go_wp2_with fail
        (with_reducible refine (HNO.out _ _ HL3.out).mono ?_)
        rintro e w4 ⟨AN, cN, KN, rfl, h, hr⟩
        have HL4 := Lib.hid h
        have HRN := Lib.hid hr
        clear h hr HNO
        go_wp2_with fail
        go_loopw [45, 9, 10, 11] (fun iV _ _ _ wr => ∃ (i : Nat) (S' : St), iV = .int .i64 i ∧ i ≤ nN ∧ LvE w wr b S' (KN ++ (KJ ++ [(w.heap.size, .cells #[.int .i64 p, .int .i64 q, .int .i64 r] 33 (0, 0))])) ∧ RzN S S' i) (fun iV _ _ _ _ => nN - (intOf iV).toNat)
        case atStart => exact ⟨0, _, rfl, Nat.zero_le _, HL4.out, HR0.out⟩
        case round =>
          clear HR0 HL4 HL3 HL2 HL
          obtain ⟨i, S', rfl, hi, hl, hz⟩ := hrel
          have HM := Lib.hid hl
          have HZ := Lib.hid hz
          clear hl hz
          by_cases hlt : i < nN
          case pos =>
            have g1 : decide ((i : Int) < (nN : Int)) = true := by simp; omega
            have g2 : decide (i < nN) = true := by simp; omega
            have HLT := Lib.hid hlt
            obtain ⟨x, hx⟩ : ∃ x, (byName S.N)[i]? = some x := ⟨_, List.getElem?_eq_getElem (by rw [HNN.out]; exact hlt)⟩
            obtain ⟨g, rfl, hcells⟩ := HRN.out i (row x) (by rw [List.getElem?_map, hx]; rfl)
            have hf := HZ.out.n i x (Nat.le_refl _) hx
            have ni := HZ.out.inv.n _ _ hf
            have hb32 : i < 32 := Nat.lt_of_lt_of_le hlt H32.out
            clear hlt hi
            have HC : Hid (∀ Z : World, (∀ p ∈ KN, Z.heap[p.1]? = some p.2) → Z.cell? ⟨g, i * 8, none⟩ = some (.string (str x.s)) ∧ Z.cell? ⟨g, i * 8 + 1, none⟩ = some (.int .i64 x.a) ∧ Z.cell? ⟨g, i * 8 + 2, none⟩ = some (.int .i64 x.b) ∧ Z.cell? ⟨g, i * 8 + 3, none⟩ = some (.int .i64 x.c) ∧ Z.cell? ⟨g, i * 8 + 4, none⟩ = some (.int .i64 x.x) ∧ Z.cell? ⟨g, i * 8 + 5, none⟩ = some (.int .i64 x.y) ∧ Z.cell? ⟨g, i * 8 + 6, none⟩ = some (.int .i64 x.z) ∧ Z.cell? ⟨g, i * 8 + 7, none⟩ = some (.bool x.d)) := Lib.hid fun Z hZ => ⟨hcells Z hZ 0 _ rfl, hcells Z hZ 1 _ rfl, hcells Z hZ 2 _ rfl, hcells Z hZ 3 _ rfl, hcells Z hZ 4 _ rfl, hcells Z hZ 5 _ rfl, hcells Z hZ 6 _ rfl, hcells Z hZ 7 _ rfl⟩
            have HAD := Lib.hid (fun W => Vc.refAdd_ret x.a x.b x.c p q r W ni.i.1 ni.i.2.1 ni.i.2.2 HBI.out.1 HBI.out.2.1 HBI.out.2.2)
            have HST := Lib.hid (fun hi => RzN.step HI0.out HZ.out hx HPO.out hi)
            have HDO : Hid (I64 (x.a + p) ∧ I64 (x.b + q) ∧ I64 (x.c + r) → ∀ X G, LvE w X b S' G → Calls Tryz.prog 17 #[.pointer (some ⟨b, 0, none⟩), .agg #[.int .i64 1, .string (str x.s), .string ⟨#[]⟩, .int .i64 (x.a + p), .int .i64 (x.b + q), .int .i64 (x.c + r), .int .i64 0]] X fun e Y => e = .returned (rpV (PS.doC S' ⟨1, x.s, [], x.a + p, x.b + q, x.c + r, 0⟩).2) ∧ LvE w Y b (PS.doC S' ⟨1, x.s, [], x.a + p, x.b + q, x.c + r, 0⟩).1 G) := Lib.hid fun hi X G h => do_lv h ⟨1, x.s, [], x.a + p, x.b + q, x.c + r, 0⟩ ⟨by show x.s.length ≤ _; have := may_len' ni.may; omega, by show ([] : Tx).length ≤ _; simp, hi.1, hi.2.1, hi.2.2⟩ ⟨hi.1, hi.2.1, i64_0, hi.2.2⟩
            have HSK := Lib.hid HZ.out.skip
            clear HZ ni hf hx hcells
            have hbd : ∀ (s : ByteArray) (X Y Z : Int) (W : World), (Instr.build 38 #[(0, .int .i64 1), (1, .string s), (3, .agg #[.int .i64 X, .int .i64 Y, .int .i64 Z])]).run Tryz.prog W = .ok (.agg #[.int .i64 1, .string s, .string ⟨#[]⟩, .int .i64 X, .int .i64 Y, .int .i64 Z, .int .i64 0]) W := fun s X Y Z W => run_build W 38 _ _ (by kernel_rfl)
            have hbr : ∀ W : World, (Instr.build 35 #[]).run Tryz.prog W = .ok (.agg #[.int .i64 0, .string ⟨#[]⟩, .int .i64 0, .int .i64 0, .int .i64 0, .int .i64 0]) W := fun W => run_build W 35 _ _ (by kernel_rfl)
            have q35 := fun W => eq35i 0 ⟨#[]⟩ 0 0 0 0 W
            generalize PS.doC S' ⟨1, x.s, [], x.a + p, x.b + q, x.c + r, 0⟩ = dr at *
            obtain ⟨S2, rp⟩ := dr
            dsimp only at *
            obtain ⟨c0, c1, c2, c3, c4, c5, c6, c7⟩ := HC.out _ (fun p hp => HM.out.held (List.mem_append_left _ hp))
            by_cases hi : I64 (x.a + p) ∧ I64 (x.b + q) ∧ I64 (x.c + r)
            case pos =>
              obtain ⟨e2, hz2⟩ := HST.out hi
              have HZ2 := Lib.hid hz2
              have HDO := Lib.hid (HDO.out hi)
              subst e2
              unfold Vc.outV Vc.vecV at HAD
              rw [if_pos hi] at HAD
              unfold rpV PS.err at HDO
              dsimp only at HDO
              rw [str_nil] at HDO
              clear HST hz2 HSK hi HC
              generalize x.a + p = y1 at *
              generalize x.b + q = y2 at *
              generalize x.c + r = y3 at *
              generalize str x.s = xs at *
              generalize x.a = xa at *
              generalize x.b = xb at *
              generalize x.c = xc at *
              generalize x.x = xx at *
              generalize x.y = xy at *
              generalize x.z = xz at *
              generalize x.d = xd at *
              have HM1 := Lib.hid (HM.out.box #[.string xs, .int .i64 xa, .int .i64 xb, .int .i64 xc, .int .i64 xx, .int .i64 xy, .int .i64 xz, .bool xd] 43)
              obtain ⟨v0, v1, v2, _⟩ := row3f (HM1.out.held (p := (w.heap.size, .cells #[.int .i64 p, .int .i64 q, .int .i64 r] 33 (0, 0))) (by simp))
              go_wp2_with fail
              (with_reducible refine (HAD.out _).mono ?_)
              rintro e w5 ⟨rfl, h⟩
              have HM2 := Lib.hid ((HM1.out.below h).box #[.int .i64 y1, .int .i64 y2, .int .i64 y3] 33)
              clear h c0 c1 c2 c3 c4 c5 c6 c7 v0 v1 v2
              obtain ⟨x0, x1, x2, x3, x4, x5, x6, x7, _⟩ := rowc8 (HM2.out.held (p := (wr.heap.size, _)) (List.Mem.tail _ (List.Mem.head _)))
              obtain ⟨v0, v1, v2, _⟩ := row3f (HM2.out.held (p := (w5.heap.size, _)) (List.Mem.head _))
              go_wp2_with fail
              (with_reducible refine (HDO.out _ _ HM2.out).mono ?_)
              rintro e w6 ⟨rfl, h⟩
              have HM3 := Lib.hid h
              clear h x0 x1 x2 x3 x4 x5 x6 x7 v0 v1 v2
              go_wp2_with fail
              go_roundw
              case rel => exact ⟨i + 1, S2, by go_num, Nat.succ_le_of_lt HLT.out, HM3.out.less (fun p hp => List.mem_cons_of_mem _ (List.mem_cons_of_mem _ hp)), HZ2.out⟩
              case measure => exact meas_lt HLT.out
            case neg =>
              unfold Vc.outV Vc.vecV at HAD
              rw [if_neg hi] at HAD
              clear HST HDO hi HC
              generalize str x.s = xs at *
              generalize x.a = xa at *
              generalize x.b = xb at *
              generalize x.c = xc at *
              generalize x.x = xx at *
              generalize x.y = xy at *
              generalize x.z = xz at *
              generalize x.d = xd at *
              have HM1 := Lib.hid (HM.out.box #[.string xs, .int .i64 xa, .int .i64 xb, .int .i64 xc, .int .i64 xx, .int .i64 xy, .int .i64 xz, .bool xd] 43)
              obtain ⟨v0, v1, v2, _⟩ := row3f (HM1.out.held (p := (w.heap.size, .cells #[.int .i64 p, .int .i64 q, .int .i64 r] 33 (0, 0))) (by simp))
              go_wp2_with fail
              (with_reducible refine (HAD.out _).mono ?_)
              rintro e w5 ⟨rfl, h⟩
              have HM2 := Lib.hid ((HM1.out.below h).box #[.int .i64 0, .int .i64 0, .int .i64 0] 33)
              clear h c0 c1 c2 c3 c4 c5 c6 c7 v0 v1 v2
              go_wp2_with fail
              go_roundw
              case rel => exact ⟨i + 1, S', by go_num, Nat.succ_le_of_lt HLT.out, HM2.out.less (fun p hp => List.mem_cons_of_mem _ (List.mem_cons_of_mem _ hp)), HSK.out⟩
              case measure => exact meas_lt HLT.out
          case neg =>
            have g1 : decide ((i : Int) < (nN : Int)) = false := by simp; omega
            have g2 : decide (i < nN) = false := by simp; omega
            obtain ⟨S1, hS1⟩ : ∃ S1, S1 = S' := ⟨_, rfl⟩
            rw [← hS1] at HM HZ
            clear hS1 S'
            have HI1 := Lib.hid HZ.out.inv
            have HJ1 := Lib.hid HZ.out.j
            have HTN := Lib.hid fun (X : World) (G : List (Nat × Obj)) (h : LvE w X b S1 G) => tenants_held h
            have HR1 := Lib.hid (RzT.zero HZ.out.inv)
            clear hlt hi HZ
            generalize hnt : (byName S1.T).length = nT at *
            have H33 := Lib.hid (show nT ≤ 32 from hnt ▸ Nat.le_trans (byName_len _) HI1.out.lT)
            have HNT := Lib.hid hnt
            clear hnt
            go_wp2_with fail
            (with_reducible refine (HTN.out _ _ HM.out).mono ?_)
            rintro e w5 ⟨AT, cT, KT, rfl, h, hr⟩
            have HM4 := Lib.hid h
            have HRT := Lib.hid hr
            clear h hr HTN
            go_wp2_with fail
            go_loopw [72, 13, 14, 15] (fun iV _ _ _ wr => ∃ (i : Nat) (S' : St), iV = .int .i64 i ∧ i ≤ nT ∧ LvE w wr b S' (KT ++ (KN ++ (KJ ++ [(w.heap.size, .cells #[.int .i64 p, .int .i64 q, .int .i64 r] 33 (0, 0))]))) ∧ RzT S1 S' i) (fun iV _ _ _ _ => nT - (intOf iV).toNat)
            case atStart => exact ⟨0, _, rfl, Nat.zero_le _, HM4.out, HR1.out⟩
            case round =>
              clear HR1 HM4 HM
              obtain ⟨i, S', rfl, hi, hl, hz⟩ := hrel
              have HM := Lib.hid hl
              have HZ := Lib.hid hz
              clear hl hz
              by_cases hlt : i < nT
              case pos =>
                have g1 : decide ((i : Int) < (nT : Int)) = true := by simp; omega
                have g2 : decide (i < nT) = true := by simp; omega
                have HLT := Lib.hid hlt
                obtain ⟨x, hx⟩ : ∃ x, (byName S1.T)[i]? = some x := ⟨_, List.getElem?_eq_getElem (by rw [HNT.out]; exact hlt)⟩
                obtain ⟨g, rfl, hcells⟩ := HRT.out i x (hx)
                have hf := HZ.out.n i x (Nat.le_refl _) hx
                have ni := HZ.out.inv.t _ _ hf
                have hb32 : i < 32 := Nat.lt_of_lt_of_le hlt H33.out
                clear hlt hi
                have HC : Hid (∀ Z : World, (∀ p ∈ KT, Z.heap[p.1]? = some p.2) → Z.cell? ⟨g, i * 7, none⟩ = some (.string (str x.s)) ∧ Z.cell? ⟨g, i * 7 + 1, none⟩ = some (.int .i64 x.a) ∧ Z.cell? ⟨g, i * 7 + 2, none⟩ = some (.int .i64 x.b) ∧ Z.cell? ⟨g, i * 7 + 3, none⟩ = some (.int .i64 x.c) ∧ Z.cell? ⟨g, i * 7 + 4, none⟩ = some (.int .i64 x.x) ∧ Z.cell? ⟨g, i * 7 + 5, none⟩ = some (.int .i64 x.y) ∧ Z.cell? ⟨g, i * 7 + 6, none⟩ = some (.int .i64 x.z)) := Lib.hid fun Z hZ => ⟨hcells Z hZ 0 _ rfl, hcells Z hZ 1 _ rfl, hcells Z hZ 2 _ rfl, hcells Z hZ 3 _ rfl, hcells Z hZ 4 _ rfl, hcells Z hZ 5 _ rfl, hcells Z hZ 6 _ rfl⟩
                have HAD := Lib.hid (fun W => Vc.refAdd_ret x.a x.b x.c p q r W ni.i.1 ni.i.2.1 ni.i.2.2 HBI.out.1 HBI.out.2.1 HBI.out.2.2)
                have HST := Lib.hid (fun hi => RzT.step HI1.out HZ.out hx HPO.out hi)
                have HDO : Hid (I64 (x.a + p) ∧ I64 (x.b + q) ∧ I64 (x.c + r) → ∀ X G, LvE w X b S' G → Calls Tryz.prog 17 #[.pointer (some ⟨b, 0, none⟩), .agg #[.int .i64 4, .string (str x.s), .string ⟨#[]⟩, .int .i64 (x.a + p), .int .i64 (x.b + q), .int .i64 (x.c + r), .int .i64 0]] X fun e Y => e = .returned (rpV (PS.doC S' ⟨4, x.s, [], x.a + p, x.b + q, x.c + r, 0⟩).2) ∧ LvE w Y b (PS.doC S' ⟨4, x.s, [], x.a + p, x.b + q, x.c + r, 0⟩).1 G) := Lib.hid fun hi X G h => do_lv h ⟨4, x.s, [], x.a + p, x.b + q, x.c + r, 0⟩ ⟨by show x.s.length ≤ _; have := may_len' ni.may; omega, by show ([] : Tx).length ≤ _; simp, hi.1, hi.2.1, hi.2.2⟩ ⟨hi.1, hi.2.1, i64_0, hi.2.2⟩
                have HSK := Lib.hid HZ.out.skip
                clear HZ ni hf hx hcells
                have hbd : ∀ (s : ByteArray) (X Y Z : Int) (W : World), (Instr.build 38 #[(0, .int .i64 4), (1, .string s), (3, .agg #[.int .i64 X, .int .i64 Y, .int .i64 Z])]).run Tryz.prog W = .ok (.agg #[.int .i64 4, .string s, .string ⟨#[]⟩, .int .i64 X, .int .i64 Y, .int .i64 Z, .int .i64 0]) W := fun s X Y Z W => run_build W 38 _ _ (by kernel_rfl)
                have hbr : ∀ W : World, (Instr.build 35 #[]).run Tryz.prog W = .ok (.agg #[.int .i64 0, .string ⟨#[]⟩, .int .i64 0, .int .i64 0, .int .i64 0, .int .i64 0]) W := fun W => run_build W 35 _ _ (by kernel_rfl)
                have q35 := fun W => eq35i 0 ⟨#[]⟩ 0 0 0 0 W
                generalize PS.doC S' ⟨4, x.s, [], x.a + p, x.b + q, x.c + r, 0⟩ = dr at *
                obtain ⟨S2, rp⟩ := dr
                dsimp only at *
                obtain ⟨c0, c1, c2, c3, c4, c5, c6⟩ := HC.out _ (fun p hp => HM.out.held (List.mem_append_left _ hp))
                by_cases hi : I64 (x.a + p) ∧ I64 (x.b + q) ∧ I64 (x.c + r)
                case pos =>
                  obtain ⟨e2, hz2⟩ := HST.out hi
                  have HZ2 := Lib.hid hz2
                  have HDO := Lib.hid (HDO.out hi)
                  subst e2
                  unfold Vc.outV Vc.vecV at HAD
                  rw [if_pos hi] at HAD
                  unfold rpV PS.err at HDO
                  dsimp only at HDO
                  rw [str_nil] at HDO
                  clear HST hz2 HSK hi HC
                  generalize x.a + p = y1 at *
                  generalize x.b + q = y2 at *
                  generalize x.c + r = y3 at *
                  generalize str x.s = xs at *
                  generalize x.a = xa at *
                  generalize x.b = xb at *
                  generalize x.c = xc at *
                  generalize x.x = xx at *
                  generalize x.y = xy at *
                  generalize x.z = xz at *
                  have HM1 := Lib.hid (HM.out.box #[.string xs, .int .i64 xa, .int .i64 xb, .int .i64 xc, .int .i64 xx, .int .i64 xy, .int .i64 xz] 59)
                  obtain ⟨v0, v1, v2, _⟩ := row3f (HM1.out.held (p := (w.heap.size, .cells #[.int .i64 p, .int .i64 q, .int .i64 r] 33 (0, 0))) (by simp))
                  go_wp2_with fail
                  (with_reducible refine (HAD.out _).mono ?_)
                  rintro e w5 ⟨rfl, h⟩
                  have HM2 := Lib.hid ((HM1.out.below h).box #[.int .i64 y1, .int .i64 y2, .int .i64 y3] 33)
                  clear h c0 c1 c2 c3 c4 c5 c6 v0 v1 v2
                  obtain ⟨x0, x1, x2, x3, x4, x5, x6, _⟩ := rowc7 (HM2.out.held (p := (wr.heap.size, _)) (List.Mem.tail _ (List.Mem.head _)))
                  obtain ⟨v0, v1, v2, _⟩ := row3f (HM2.out.held (p := (w5.heap.size, _)) (List.Mem.head _))
                  go_wp2_with fail
                  (with_reducible refine (HDO.out _ _ HM2.out).mono ?_)
                  rintro e w6 ⟨rfl, h⟩
                  have HM3 := Lib.hid h
                  clear h x0 x1 x2 x3 x4 x5 x6 v0 v1 v2
                  go_wp2_with fail
                  go_roundw
                  case rel => exact ⟨i + 1, S2, by go_num, Nat.succ_le_of_lt HLT.out, HM3.out.less (fun p hp => List.mem_cons_of_mem _ (List.mem_cons_of_mem _ hp)), HZ2.out⟩
                  case measure => exact meas_lt HLT.out
                case neg =>
                  unfold Vc.outV Vc.vecV at HAD
                  rw [if_neg hi] at HAD
                  clear HST HDO hi HC
                  generalize str x.s = xs at *
                  generalize x.a = xa at *
                  generalize x.b = xb at *
                  generalize x.c = xc at *
                  generalize x.x = xx at *
                  generalize x.y = xy at *
                  generalize x.z = xz at *
                  have HM1 := Lib.hid (HM.out.box #[.string xs, .int .i64 xa, .int .i64 xb, .int .i64 xc, .int .i64 xx, .int .i64 xy, .int .i64 xz] 59)
                  obtain ⟨v0, v1, v2, _⟩ := row3f (HM1.out.held (p := (w.heap.size, .cells #[.int .i64 p, .int .i64 q, .int .i64 r] 33 (0, 0))) (by simp))
                  go_wp2_with fail
                  (with_reducible refine (HAD.out _).mono ?_)
                  rintro e w5 ⟨rfl, h⟩
                  have HM2 := Lib.hid ((HM1.out.below h).box #[.int .i64 0, .int .i64 0, .int .i64 0] 33)
                  clear h c0 c1 c2 c3 c4 c5 c6 v0 v1 v2
                  go_wp2_with fail
                  go_roundw
                  case rel => exact ⟨i + 1, S', by go_num, Nat.succ_le_of_lt HLT.out, HM2.out.less (fun p hp => List.mem_cons_of_mem _ (List.mem_cons_of_mem _ hp)), HSK.out⟩
                  case measure => exact meas_lt HLT.out
              case neg =>
                have g1 : decide ((i : Int) < (nT : Int)) = false := by simp; omega
                have g2 : decide (i < nT) = false := by simp; omega
                have eJ : S'.J = S.J := HZ.out.j.trans HJ1.out
                have HJ2 : Hid (∀ X G, LvE w X b S' G → Calls Tryz.prog 22 #[.pointer (some ⟨b, 0, none⟩)] X fun e Y => ∃ A c K, e = .returned (.slice A nJ c) ∧ LvE w Y b S' (K ++ G) ∧ RowsIn DJ K A (byName S.J)) := Lib.hid fun X G h => by
                  have := jobs_held h
                  rw [eJ, HNJ.out] at this
                  exact this
                clear hlt hi HZ eJ
                go_wp2_with fail
                (with_reducible refine (HJ2.out _ _ HM.out).mono ?_)
                rintro e w7 ⟨A2, c2, K2, rfl, h, hr⟩
                have HM5 := Lib.hid h
                have HR2 := Lib.hid hr
                clear h hr HJ2
                have gj : ((nJ : Int) != (nJ : Int)) = false := by simp
                go_wp2_with fail
                go_loopw [105, 17] (fun iV _ wr => ∃ (i : Nat), iV = .int .i64 i ∧ i ≤ nJ ∧ LvE w wr b S' (K2 ++ (KT ++ (KN ++ (KJ ++ [(w.heap.size, .cells #[.int .i64 p, .int .i64 q, .int .i64 r] 33 (0, 0))]))))) (fun iV _ _ => nJ - (intOf iV).toNat)
                case atStart => exact ⟨0, rfl, Nat.zero_le _, HM5.out⟩
                case round =>
                  clear HM HM5
                  obtain ⟨i, rfl, hi, hl⟩ := hrel
                  have HM := Lib.hid hl
                  clear hl
                  by_cases hlt : i < nJ
                  case neg =>
                    have g1 : decide ((i : Int) < (nJ : Int)) = false := by simp; omega
                    have g2 : decide (i < nJ) = false := by simp; omega
                    go_wp2_with fail
                    go_ret
                    exact ⟨rfl, HM.out.bel⟩
                  case pos =>
                    have g1 : decide ((i : Int) < (nJ : Int)) = true := by simp; omega
                    have g2 : decide (i < nJ) = true := by simp; omega
                    have HLT := Lib.hid hlt
                    obtain ⟨x, hx⟩ : ∃ x, (byName S.J)[i]? = some x := ⟨_, List.getElem?_eq_getElem (by rw [HNJ.out]; exact hlt)⟩
                    obtain ⟨g, rfl, hcells⟩ := HRJ.out i x hx
                    obtain ⟨g', rfl, hcells'⟩ := HR2.out i x hx
                    have hb128 : i < 128 := Nat.lt_of_lt_of_le hlt HJ128.out
                    have HC : Hid (∀ Z : World, (∀ p ∈ KJ, Z.heap[p.1]? = some p.2) → Z.cell? ⟨g, i * 7, none⟩ = some (.string (str x.s)) ∧ Z.cell? ⟨g, i * 7 + 1, none⟩ = some (.string (str x.t)) ∧ Z.cell? ⟨g, i * 7 + 2, none⟩ = some (.int .i64 x.p) ∧ Z.cell? ⟨g, i * 7 + 3, none⟩ = some (.int .i64 x.q) ∧ Z.cell? ⟨g, i * 7 + 4, none⟩ = some (.int .i64 x.r) ∧ Z.cell? ⟨g, i * 7 + 5, none⟩ = some (.string (str x.on)) ∧ Z.cell? ⟨g, i * 7 + 6, none⟩ = some (.int .i64 x.st)) := Lib.hid fun Z hZ => ⟨hcells Z hZ 0 _ rfl, hcells Z hZ 1 _ rfl, hcells Z hZ 2 _ rfl, hcells Z hZ 3 _ rfl, hcells Z hZ 4 _ rfl, hcells Z hZ 5 _ rfl, hcells Z hZ 6 _ rfl⟩
                    have HC' : Hid (∀ Z : World, (∀ p ∈ K2, Z.heap[p.1]? = some p.2) → Z.cell? ⟨g', i * 7, none⟩ = some (.string (str x.s)) ∧ Z.cell? ⟨g', i * 7 + 1, none⟩ = some (.string (str x.t)) ∧ Z.cell? ⟨g', i * 7 + 2, none⟩ = some (.int .i64 x.p) ∧ Z.cell? ⟨g', i * 7 + 3, none⟩ = some (.int .i64 x.q) ∧ Z.cell? ⟨g', i * 7 + 4, none⟩ = some (.int .i64 x.r) ∧ Z.cell? ⟨g', i * 7 + 5, none⟩ = some (.string (str x.on)) ∧ Z.cell? ⟨g', i * 7 + 6, none⟩ = some (.int .i64 x.st)) := Lib.hid fun Z hZ => ⟨hcells' Z hZ 0 _ rfl, hcells' Z hZ 1 _ rfl, hcells' Z hZ 2 _ rfl, hcells' Z hZ 3 _ rfl, hcells' Z hZ 4 _ rfl, hcells' Z hZ 5 _ rfl, hcells' Z hZ 6 _ rfl⟩
                    have hk1 : ∀ p ∈ KJ, wr.heap[p.1]? = some p.2 := fun p hp => HM.out.held (by simp [hp])
                    have hk2 : ∀ p ∈ K2, wr.heap[p.1]? = some p.2 := fun p hp => HM.out.held (by simp [hp])
                    have HK1 : Hid (∀ Z : World, Below wr.heap.size wr Z → ∀ p ∈ KJ, Z.heap[p.1]? = some p.2) := Lib.hid fun Z hZ p hp => (hZ.block _ (Array.getElem?_eq_some_iff.1 (hk1 p hp)).1).trans (hk1 p hp)
                    have HK2 : Hid (∀ Z : World, Below wr.heap.size wr Z → ∀ p ∈ K2, Z.heap[p.1]? = some p.2) := Lib.hid fun Z hZ p hp => (hZ.block _ (Array.getElem?_eq_some_iff.1 (hk2 p hp)).1).trans (hk2 p hp)
                    clear hk1 hk2 hcells hcells' hx hlt hi
                    have q57 := fun W => eq57i (str x.s) (str x.t) x.p x.q x.r (str x.on) x.st W
                    generalize str x.s = xs at *
                    generalize str x.t = xt at *
                    generalize str x.on = xo at *
                    generalize x.p = xp at *
                    generalize x.q = xq at *
                    generalize x.r = xr at *
                    generalize x.st = xst at *
                    go_wp2_with fail
                    refine wp_region_mono 8 [108, 109, 110, 111, 112, 113, 114, 115] (fun k u w => match k with | 0 => u = .slice (some ⟨g', 0, none⟩) nJ c2 | 1 => u = .int .i64 (i : Nat) | 2 => u = .pointer (some ⟨g', i * 7, none⟩) | 3 => u = .agg #[.string xs, .string xt, .int .i64 xp, .int .i64 xq, .int .i64 xr, .string xo, .int .i64 xst] | 4 => u = .slice (some ⟨g, 0, none⟩) nJ cJ | 5 => u = .int .i64 (i : Nat) | 6 => u = .pointer (some ⟨g, i * 7, none⟩) | 7 => u = .agg #[.string xs, .string xt, .int .i64 xp, .int .i64 xq, .int .i64 xr, .string xo, .int .i64 xst] | _ => True) (fun w => Below wr.heap.size wr w) [u108, u109, u110, u111, u112, u113, u114, u115] (by kernel_rfl) (by kernel_rfl) (by kernel_rfl) rfl (Below.refl _ _).drew ?hzV ?hzS ?hzT
                    case hzV =>
                      intro k v w w' hC h hB
                      exact match k, h with
                      | 0, h => h
                      | 1, h => h
                      | 2, h => h
                      | 3, h => h
                      | 4, h => h
                      | 5, h => h
                      | 6, h => h
                      | 7, h => h
                      | k + 8, h => trivial
                    case hzS =>
                      refine steps_cons (fun K' x hx w hC hd hK => ?_) ?_
                      · obtain ⟨z0, z1, z2, z3, z4, z5, z6, z7, rfl⟩ := len8 hx
                        clear hd hx
                        simp only [putAll, Act.put, List.setIfInBounds_toArray, List.set_cons_zero, List.set_cons_succ] at hK ⊢
                        go_simp
                        exact hK _ _ rfl hC (Below.refl _ _)
                      refine steps_cons (fun K' x hx w hC hd hK => ?_) ?_
                      · obtain ⟨z0, z1, z2, z3, z4, z5, z6, z7, rfl⟩ := len8 hx
                        clear hd hx
                        simp only [putAll, Act.put, List.setIfInBounds_toArray, List.set_cons_zero, List.set_cons_succ] at hK ⊢
                        go_simp
                        exact hK _ _ rfl hC (Below.refl _ _)
                      refine steps_cons (fun K' x hx w hC hd hK => ?_) ?_
                      · obtain ⟨z0, z1, z2, z3, z4, z5, z6, z7, rfl⟩ := len8 hx
                        obtain rfl : z0 = _ := hd 0 (by kernel_rfl)
                        obtain rfl : z1 = _ := hd 1 (by kernel_rfl)
                        clear hd hx
                        simp only [putAll, Act.put, List.setIfInBounds_toArray, List.set_cons_zero, List.set_cons_succ] at hK ⊢
                        have hlt := HLT.out
                        have gi : decide (0 ≤ (i : Int)) = true := by simp
                        go_simp
                        exact hK _ _ rfl hC (Below.refl _ _)
                      refine steps_cons (fun K' x hx w hC hd hK => ?_) ?_
                      · obtain ⟨z0, z1, z2, z3, z4, z5, z6, z7, rfl⟩ := len8 hx
                        obtain rfl : z2 = _ := hd 2 (by kernel_rfl)
                        clear hd hx
                        simp only [putAll, Act.put, List.setIfInBounds_toArray, List.set_cons_zero, List.set_cons_succ] at hK ⊢
                        obtain ⟨f0, f1, f2, f3, f4, f5, f6⟩ := HC'.out _ (HK2.out _ hC)
                        go_simp
                        exact hK _ _ rfl hC (Below.refl _ _)
                      refine steps_cons (fun K' x hx w hC hd hK => ?_) ?_
                      · obtain ⟨z0, z1, z2, z3, z4, z5, z6, z7, rfl⟩ := len8 hx
                        clear hd hx
                        simp only [putAll, Act.put, List.setIfInBounds_toArray, List.set_cons_zero, List.set_cons_succ] at hK ⊢
                        go_simp
                        exact hK _ _ rfl hC (Below.refl _ _)
                      refine steps_cons (fun K' x hx w hC hd hK => ?_) ?_
                      · obtain ⟨z0, z1, z2, z3, z4, z5, z6, z7, rfl⟩ := len8 hx
                        clear hd hx
                        simp only [putAll, Act.put, List.setIfInBounds_toArray, List.set_cons_zero, List.set_cons_succ] at hK ⊢
                        go_simp
                        exact hK _ _ rfl hC (Below.refl _ _)
                      refine steps_cons (fun K' x hx w hC hd hK => ?_) ?_
                      · obtain ⟨z0, z1, z2, z3, z4, z5, z6, z7, rfl⟩ := len8 hx
                        obtain rfl : z4 = _ := hd 4 (by kernel_rfl)
                        obtain rfl : z5 = _ := hd 5 (by kernel_rfl)
                        clear hd hx
                        simp only [putAll, Act.put, List.setIfInBounds_toArray, List.set_cons_zero, List.set_cons_succ] at hK ⊢
                        have hlt := HLT.out
                        have gi : decide (0 ≤ (i : Int)) = true := by simp
                        go_simp
                        exact hK _ _ rfl hC (Below.refl _ _)
                      refine steps_cons (fun K' x hx w hC hd hK => ?_) ?_
                      · obtain ⟨z0, z1, z2, z3, z4, z5, z6, z7, rfl⟩ := len8 hx
                        obtain rfl : z6 = _ := hd 6 (by kernel_rfl)
                        clear hd hx
                        simp only [putAll, Act.put, List.setIfInBounds_toArray, List.set_cons_zero, List.set_cons_succ] at hK ⊢
                        obtain ⟨f0, f1, f2, f3, f4, f5, f6⟩ := HC.out _ (HK1.out _ hC)
                        go_simp
                        exact hK _ _ rfl hC (Below.refl _ _)
                      exact trivial
                    case hzT =>
                      intro x hx wT hC hd
                      obtain ⟨z0, z1, z2, z3, z4, z5, z6, z7, rfl⟩ := len8 hx
                      have e3 : z3 = _ := hd 3 (by omega)
                      have e7 : z7 = _ := hd 7 (by omega)
                      subst e3 e7
                      clear hd hx
                      have HMT := Lib.hid (HM.out.below hC)
                      clear hC
                      simp only [putAll, Act.put, List.setIfInBounds_toArray, List.set_cons_zero, List.set_cons_succ]
                      show wpList Tryz.prog _ _ (_ :: []) _ _
                      go_wp2_with fail
                      go_roundw
                      case rel => exact ⟨i + 1, by go_num, Nat.succ_le_of_lt HLT.out, HMT.out⟩
                      case measure => exact meas_lt HLT.out
    case pos =>
    obtain ⟨hlt, h300⟩ := hgo
    have g1 : decide ((j : Int) < (N : Int)) = true := by simp; omega
    have g2 : decide (j < N) = true := by simp; omega
    have g3 : decide ((j : Int) < 300) = true := by simp; omega
    have g4 : decide (j < 300) = true := by simp; omega
    have HLT := Lib.hid hlt
    obtain ⟨c, hc⟩ : ∃ c, L0[j]? = some c := ⟨_, List.getElem?_eq_getElem (by have := HN.out; omega)⟩
    obtain ⟨ba, off, hA0, hcells⟩ := cm_at HA.out hc
    have hx := HX.out c (List.mem_of_getElem? hc)
    have HDO : Hid (∀ X G, LvE w X b S G → Calls Tryz.prog 17 #[.pointer (some ⟨b, 0, none⟩), .agg #[.int .i64 c.o, .string (str c.s), .string (str c.t), .int .i64 c.a, .int .i64 c.b, .int .i64 c.c, .int .i64 c.n]] X fun e Y => e = .returned (.agg #[.int .i64 (PS.doC S c).2.e, .string (str (PS.doC S c).2.s), .int .i64 (PS.doC S c).2.a, .int .i64 (PS.doC S c).2.b, .int .i64 (PS.doC S c).2.c, .int .i64 (PS.doC S c).2.n]) ∧ LvE w Y b (PS.doC S c).1 G) := Lib.hid fun X G h => do_lv h c hx.ok hx.i
    obtain ⟨p0, p1, p2, p3, p4, p5, p6⟩ := hcells _ HL.out.bel
    clear hcells hc hx
    generalize PS.doC S c = dr at *
    obtain ⟨S2, er, rsx, ra, rb, rc, rn⟩ := dr
    dsimp only at *
    obtain ⟨co, csx, ctx, ca, cb, cc, cn⟩ := c
    dsimp only at *
    generalize str rsx = rs at *
    generalize str csx = cs at *
    generalize str ctx = ct at *
    rw [hA0]
    go_wp2_with fail
    (with_reducible refine (HDO.out _ _ HL.out).mono ?_)
    rintro e w3 ⟨rfl, h⟩
    have HL3 := Lib.hid h
    clear h p0 p1 p2 p3 p4 p5 p6
    go_wp2_with fail
    go_roundw
    case rel => exact ⟨j + 1, S2, by go_num, Nat.succ_le_of_lt HLT.out, HL3.out⟩
    case measure => exact meas_lt HLT.out
end Go.Proofs.YtnlolpiefidckaaGreat
