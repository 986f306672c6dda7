import Derived.Test.YtphclpjekpdifaaGreatYRj
import Derived.Test.YtphclpjekpdifaaGreatY3
namespace Go.Proofs.YtphclpjekpdifaaGreat
set_option maxRecDepth 20000
open Go.RowKit
open PS (Tx putM dropM setM findM Nod Ten Jb kOf St Cm Rp byName row mayM els num txt zI vOf done resN resT resJ resD)
open Wi.Pl (It)
open Go.Proofs.YtphclpjekpdifaaGreat.Nm (str)
open Go.Proofs.YtphclpjekpdifaaGreat.Vc (RetBelow fitB I64)
set_option linter.unusedVariables false
def Kp (S : Nat → Prop) (w X : World) : Prop := w.heap.size ≤ X.heap.size ∧ ∀ q, S q → X.heap[q]? = w.heap[q]?
theorem Kp.refl (S : Nat → Prop) (w : World) : Kp S w w := ⟨Nat.le_refl _, fun _ _ => rfl⟩
theorem Kp.below {S : Nat → Prop} {w X Y : World} (hS : ∀ q, S q → q < w.heap.size) (h : Kp S w X) (hb : Below X.heap.size X Y) : Kp S w Y :=
  ⟨Nat.le_trans h.1 hb.size, fun q hq => (hb.block q (Nat.lt_of_lt_of_le (hS q hq) h.1)).trans (h.2 q hq)⟩
theorem Kp.sch {S : Nat → Prop} {w X : World} {b : Nat} {S' : St} {T : Nat → Prop} (hS : ∀ q, S q → q < w.heap.size) (hT : ∀ q, S q → ¬ T q) (h : SchTo w X b S' T) : Kp S w X := by
  obtain ⟨T', _, _, hf⟩ := h
  exact ⟨hf.size, fun q hq => hf.block q (hS q hq) (hT q hq)⟩
theorem cellK {S : Nat → Prop} {w X : World} {b o : Nat} {v : Value} (h : w.cell? ⟨b, o, none⟩ = some v) (hk : Kp S w X) (hb : S b) : X.cell? ⟨b, o, none⟩ = some v := (World.cell?_of_block (w := w) (hk.2 b hb)).trans h
theorem part_k {S : Nat → Prop} {w : World} {t : It} {v : Value} (hS : ∀ q, S q → q < w.heap.size) (j : Nat) (h : Wi.IsIt w S t v) : ∃ u, Wi.IsIt w S (PS.part t j) u ∧ ∀ X, Kp S w X → Calls Tryz.prog 102 #[v, .int .i64 (j : Int)] X (RetBelow u X) := by
  obtain ⟨k, s, A, c, rfl, _, _, _, _, hal⟩ := IsIt.form h
  by_cases hj : j < (els t).length
  · obtain ⟨b, off, u0, u1, u2, u3, rfl, hb, h0, h1, h2, h3, hI⟩ := hal.at_ (k := j) (List.getElem?_eq_getElem hj)
    rw [Nat.zero_add] at h0 h1 h2 h3
    obtain ⟨k2, n2, s2, A2, m2, c2, rfl, rfl, rfl, rfl⟩ := hI.parts
    refine ⟨_, ?_, fun X hX => part_yes k _ s b off _ c j hj k2 n2 s2 A2 m2 c2 X (Nat.lt_of_lt_of_le (hS b hb) hX.1) (cellK h0 hX hb) (cellK h1 hX hb) (cellK h2 hX hb) (cellK h3 hX hb)⟩
    unfold PS.part
    rw [List.getElem?_eq_getElem hj]
    exact hI
  · refine ⟨_, ?_, fun X hX => part_no k _ s A _ c j hj X⟩
    unfold PS.part
    rw [List.getElem?_eq_none (by omega)]
    exact isIt_zero w _
theorem vecof_k {S : Nat → Prop} {w : World} {t : It} {v : Value} (hS : ∀ q, S q → q < w.heap.size) (h : Wi.IsIt w S t v) : ∀ X, Kp S w X → Calls Tryz.prog 104 #[v] X (RetBelow (.agg #[.int .i64 (vOf t 0), .int .i64 (vOf t 1), .int .i64 (vOf t 2)]) X) := by
  obtain ⟨u0, i0, q0⟩ := part_k hS 0 h
  obtain ⟨u1, i1, q1⟩ := part_k hS 1 h
  obtain ⟨u2, i2, q2⟩ := part_k hS 2 h
  obtain ⟨k, s, A, c, rfl, _⟩ := IsIt.form h
  obtain ⟨k0, s0, A0, c0, rfl, _⟩ := IsIt.form i0
  obtain ⟨k1, s1, A1, c1, rfl, _⟩ := IsIt.form i1
  obtain ⟨k2, s2, A2, c2, rfl, _⟩ := IsIt.form i2
  intro X hX
  exact vecof_core _ _ _ _ _ _ _ _ _ _ _ _ _ _ _ _ _ _ _ _ _ _ _ _ X (Lib.hid fun Y hY => q0 Y (hX.below hS hY)) (Lib.hid fun Y hY => q1 Y (hX.below hS hY)) (Lib.hid fun Y hY => q2 Y (hX.below hS hY))
def Okz (t : It) : Prop := t.ok = true ∨ t = zI
theorem oks_at : ∀ {l : List It} {j : Nat} {x : It}, Wi.Pl.oks l = true → l[j]? = some x → x.ok = true
  | [], j, x, _, h => by simp at h
  | y :: r, 0, x, h, hx => by
    obtain rfl : y = x := by simpa using hx
    rw [Wi.Pl.oks, Bool.and_eq_true] at h
    exact h.1
  | y :: r, j + 1, x, h, hx => by
    rw [Wi.Pl.oks, Bool.and_eq_true] at h
    exact oks_at h.2 (j := j) (by simpa using hx)
theorem ok_els {t : It} (h : t.ok = true) : Wi.Pl.oks (els t) = true := by
  obtain ⟨k, n, s, l⟩ := t
  rw [It.ok] at h
  simp only [Bool.and_eq_true] at h
  exact h.2
theorem Okz.el {t : It} (h : Okz t) {j : Nat} {x : It} (hx : (els t)[j]? = some x) : Okz x := by
  rcases h with h | rfl
  · exact .inl (oks_at (ok_els h) hx)
  · simp [PS.zI, PS.els] at hx
theorem Okz.part {t : It} (h : Okz t) (j : Nat) : Okz (PS.part t j) := by
  unfold PS.part
  cases hx : (els t)[j]? with
  | none => exact .inr rfl
  | some x => exact h.el hx
theorem Okz.txt {t : It} (h : Okz t) : (PS.txt t).length ≤ 4096 := by
  rcases h with h | rfl
  · obtain ⟨k, n, s, l⟩ := t
    rw [It.ok] at h
    simp only [Bool.and_eq_true, decide_eq_true_eq, Wi.Pl.form, Bool.or_eq_true, beq_iff_eq] at h
    have hs : (PS.txt (.mk k n s l)).length = s.size := by simp [PS.txt]
    rw [hs]
    have h2 := h.1.1.2
    rcases h.1.1.1.1 with (⟨⟨h3, h4⟩, h5⟩ | ⟨⟨h3, h4⟩, h5⟩) | ⟨⟨h3, h4⟩, h5⟩
    · omega
    · exact h2 h3
    · omega
  · simp [PS.zI, PS.txt]
theorem i64_0 : I64 0 := by unfold I64; omega
theorem InR.i64 {n : Int} (h : Wi.InR n) : I64 n := h
theorem num_in {w : World} {S : Nat → Prop} {t : It} {v : Value} (h : Wi.IsIt w S t v) : I64 (num t) := by
  obtain ⟨k, s, A, c, _, _, h2, _⟩ := IsIt.form h
  exact h2
theorem vOf_in {w : World} {S : Nat → Prop} {t : It} {v : Value} (hS : ∀ q, S q → q < w.heap.size) (h : Wi.IsIt w S t v) (j : Nat) : I64 (vOf t j) := by
  obtain ⟨u, hu, _⟩ := part_k hS j h
  exact num_in hu
theorem Inv.done {S : St} (h : Inv S) (c : Cm) (hi : CmI c) : Inv (done S c).1 := h.doC c hi
theorem canJ_of {S : St} (h : Inv S) {s t on : Tx} {p q r : Int} {n : Nod} (hm : Nm.may s = true) (hi : I64 p ∧ I64 q ∧ I64 r) (hr : PS.refusal S s t p q r = 0) (hf : findM S.N (kOf on) = some n) (ht : ntakes (row n) p q r = true) : ∃ u, CanJ S s t p q r n u := by
  obtain ⟨h1, h2, u, h3, h4⟩ := refusal_zero hr
  have hn := h.n _ _ hf
  rw [hn.key] at hf
  unfold ntakes PS.row at ht
  simp only [Bool.and_eq_true, Bool.not_eq_true'] at ht
  exact ⟨u, h1, h2, hm, fit_iff.1 ht.2.1, hi, h3, h4, hf, fit_iff.1 ht.2.2.2⟩
structure JI (j : It) : Prop where
  v : I64 (vOf (PS.part j 2) 0) ∧ I64 (vOf (PS.part j 2) 1) ∧ I64 (vOf (PS.part j 2) 2)
  n : I64 (num (PS.part j 4))
theorem Inv.resJ {S : St} (h : Inv S) (j : It) (hi : JI j) : Inv (resJ S j).1 := by
  unfold PS.resJ
  split
  · exact h
  · rename_i n hf
    split
    · rename_i hc
      obtain ⟨u, cj⟩ := canJ_of h (mayM_s hc.1).1 hi.v hc.2.1 hf hc.2.2
      have hI := h.create cj
      split
      · exact hI
      · exact hI.done _ ⟨i64_0, i64_0, hi.n, i64_0⟩
    · exact h
theorem str_of {s : ByteArray} {t : It} (h : s.data.toList = PS.txt t) : s = str (PS.txt t) := by rw [← h]; exact (Nm.str_list s).symm
theorem restoreJob_any {w : World} {b : Nat} {S : St} {T : Nat → Prop} (h : Sch w b S T) (hI : Inv S) {Q : Nat → Prop} {w0 : World} (hQ : ∀ q, Q q → q < w0.heap.size) {t : It} {v : Value} (hz : Okz t) (hv : Wi.IsIt w0 Q t v) (hk : Kp Q w0 w) :
    Calls Tryz.prog 105 #[.pointer (some ⟨b, 0, none⟩), v] w fun e w' => e = .returned (.bool (resJ S t).2) ∧ SchTo w w' b (resJ S t).1 T := by
  have hT := h.lt
  have hok := hI.ok
  obtain ⟨u0, i0, q0⟩ := part_k hQ 0 hv
  obtain ⟨u1, i1, q1⟩ := part_k hQ 1 hv
  obtain ⟨u2, i2, q2⟩ := part_k hQ 2 hv
  obtain ⟨u3, i3, q3⟩ := part_k hQ 3 hv
  obtain ⟨u4, i4, q4⟩ := part_k hQ 4 hv
  have qv := vecof_k hQ i2
  have v0 := vOf_in hQ i2 0
  have v1 := vOf_in hQ i2 1
  have v2 := vOf_in hQ i2 2
  have n4 := num_in i4
  obtain ⟨k, s, A, c, rfl, _⟩ := IsIt.form hv
  obtain ⟨k0, s0, A0, c0, rfl, e0, _⟩ := IsIt.form i0
  obtain ⟨k1, s1, A1, c1, rfl, e1, _⟩ := IsIt.form i1
  obtain ⟨k2, s2, A2, c2, rfl, e2, _⟩ := IsIt.form i2
  obtain ⟨k3, s3, A3, c3, rfl, e3, _⟩ := IsIt.form i3
  obtain ⟨k4, s4, A4, c4, rfl, e4, _⟩ := IsIt.form i4
  have l0 := (hz.part 0).txt
  have l1 := (hz.part 1).txt
  have l3 := (hz.part 3).txt
  have kk := fun X (hX : Below w.heap.size w X) => hk.below hQ hX
  rw [str_of e0] at q0
  rw [str_of e1] at q1
  rw [str_of e3] at q3
  generalize hs0 : PS.txt (PS.part t 0) = x0 at *
  generalize hs1 : PS.txt (PS.part t 1) = x1 at *
  generalize hs3 : PS.txt (PS.part t 3) = x3 at *
  generalize hp : vOf (PS.part t 2) 0 = p at *
  generalize hq : vOf (PS.part t 2) 1 = q at *
  generalize hr : vOf (PS.part t 2) 2 = r at *
  generalize hn : num (PS.part t 4) = st at *
  have hcm : CmOk ⟨5, x0, x1, p, q, r, 0⟩ := ⟨by show x0.length ≤ _; omega, by show x1.length ≤ _; omega, v0, v1, v2⟩
  have hcd : CmOk ⟨7, x0, x3, 0, 0, 0, st⟩ := ⟨by show x0.length ≤ _; omega, by show x3.length ≤ _; omega, i64_0, i64_0, i64_0⟩
  have hres : resJ S t = match findM S.N (kOf x3) with
    | none => (S, false)
    | some n => if mayM ⟨5, x0, x1, p, q, r, 0⟩ = true ∧ PS.refusal S x0 x1 p q r = 0 ∧ ntakes (row n) p q r = true then
        (if st = 0 then (PS.create S x0 x1 p q r n, true) else done (PS.create S x0 x1 p q r n) ⟨7, x0, x3, 0, 0, 0, st⟩) else (S, false) := by
    unfold PS.resJ
    rw [hs0, hs1, hs3, hp, hq, hr, hn]
    cases findM S.N (kOf x3) <;> rfl
  have hfo : NodOk ((findM S.N (kOf x3)).getD PS.zn) := by
    cases hf : findM S.N (kOf x3) with
    | none => exact ⟨by simp [PS.zn], by simp [PS.zn, I64]⟩
    | some n => exact hok.nod hf
  obtain ⟨m0, m1, m2, hsa⟩ := h
  have HGN := Lib.hid fun X (hX : Below w.heap.size w X) => getN_any x3 X (box_cells (hsa.below hX).box).1 (hsa.below hX).n (by omega)
  have hinv2 : ∀ n, findM S.N (kOf x3) = some n → mayM ⟨5, x0, x1, p, q, r, 0⟩ = true → PS.refusal S x0 x1 p q r = 0 → ntakes (row n) p q r = true → Inv (PS.create S x0 x1 p q r n) := fun n hf hm hr ht => by
    obtain ⟨u, cj⟩ := canJ_of hI (mayM_s hm).1 ⟨v0, v1, v2⟩ hr hf ht
    exact hI.create cj
  generalize hF : (findM S.N (kOf x3)).isSome = F at *
  generalize hno : (findM S.N (kOf x3)).getD PS.zn = n at *
  have hrow : nodeV (row n) = .agg #[.string (str n.s), .int .i64 n.a, .int .i64 n.b, .int .i64 n.c, .int .i64 n.x, .int .i64 n.y, .int .i64 n.z, .bool n.d] := rfl
  have hnok : Nok (row n) := ⟨by show n.s.length ≤ _; have := hfo.s; omega, hfo.i.1, hfo.i.2.1, hfo.i.2.2.1, hfo.i.2.2.2.1, hfo.i.2.2.2.2.1, hfo.i.2.2.2.2.2.1⟩
  by_cases hgood : F = true ∧ mayM ⟨5, x0, x1, p, q, r, 0⟩ = true ∧ PS.refusal S x0 x1 p q r = 0 ∧ ntakes (row n) p q r = true
  case neg =>
    refine (rj_core b k _ s A _ c k0 _ (str x0) A0 _ c0 k1 _ (str x1) A1 _ c1 k2 _ s2 A2 _ c2 k3 _ (str x3) A3 _ c3 k4 st s4 A4 _ c4 p q r (str n.s) n.a n.b n.c n.x n.y n.z n.n n.d F (mayM ⟨5, x0, x1, p, q, r, 0⟩) (ntakes (row n) p q r) true (PS.refusal S x0 x1 p q r) (fun _ _ => False) (fun _ _ => False) w
      (Lib.hid fun X hX => q0 X (kk X hX)) (Lib.hid fun X hX => q1 X (kk X hX)) (Lib.hid fun X hX => q2 X (kk X hX)) (Lib.hid fun X hX => q3 X (kk X hX)) (Lib.hid fun X hX => q4 X (kk X hX)) (Lib.hid fun X hX => qv X (kk X hX))
      HGN (mayAt (c := ⟨5, x0, x1, p, q, r, 0⟩) hcm) (Lib.hid fun X hX => refusal_any ⟨m0, m1, m2, hsa.below hX⟩ hok ⟨5, x0, x1, p, q, r, 0⟩ hcm) (Lib.hid fun X hX => takes_any (row n) p q r X hnok v0 v1 v2)
      (Lib.hid fun a1 a2 a3 a4 => absurd ⟨a1, a2, a3, a4⟩ hgood) (Lib.hid fun X0 X1 X hf => hf.elim) (Lib.hid fun X0 X1 hf => hf.elim)).mono ?_
    rintro e w' (⟨h1, rfl, h3⟩ | ⟨⟨a1, a2, a3, a4⟩, _⟩)
    · have hr2 : resJ S t = (S, false) := by
        rw [hres]
        cases hf : findM S.N (kOf x3) with
        | none => rfl
        | some m =>
          rw [hf] at hF hno
          obtain rfl : m = n := hno
          dsimp only
          rw [if_neg (fun hh => hgood ⟨hF.symm, hh⟩)]
      rw [hr2]
      exact ⟨rfl, Sch.to ⟨m0, m1, m2, hsa⟩ h3⟩
    · exact absurd ⟨a1, a2, a3, a4⟩ hgood
  case pos =>
    obtain ⟨g1, g2, g3, g4⟩ := hgood
    have hfind : findM S.N (kOf x3) = some n := by
      cases hf : findM S.N (kOf x3) with
      | none => rw [hf, g1] at hF; cases hF
      | some m => rw [hf] at hno; obtain rfl : m = n := hno; rfl
    have hI2 := hinv2 n hfind g2 g3 g4
    rw [hfind] at hres
    dsimp only at hres
    rw [if_pos ⟨g2, g3, g4⟩] at hres
    refine (rj_core b k _ s A _ c k0 _ (str x0) A0 _ c0 k1 _ (str x1) A1 _ c1 k2 _ s2 A2 _ c2 k3 _ (str x3) A3 _ c3 k4 st s4 A4 _ c4 p q r (str n.s) n.a n.b n.c n.x n.y n.z n.n n.d F (mayM ⟨5, x0, x1, p, q, r, 0⟩) (ntakes (row n) p q r) (done (PS.create S x0 x1 p q r n) ⟨7, x0, x3, 0, 0, 0, st⟩).2 (PS.refusal S x0 x1 p q r)
      (fun X0 X1 => SchTo X0 X1 b (PS.create S x0 x1 p q r n) T) (fun X0 X1 => SchTo X0 X1 b (done (PS.create S x0 x1 p q r n) ⟨7, x0, x3, 0, 0, 0, st⟩).1 T) w
      (Lib.hid fun X hX => q0 X (kk X hX)) (Lib.hid fun X hX => q1 X (kk X hX)) (Lib.hid fun X hX => q2 X (kk X hX)) (Lib.hid fun X hX => q3 X (kk X hX)) (Lib.hid fun X hX => q4 X (kk X hX)) (Lib.hid fun X hX => qv X (kk X hX))
      HGN (mayAt (c := ⟨5, x0, x1, p, q, r, 0⟩) hcm) (Lib.hid fun X hX => refusal_any ⟨m0, m1, m2, hsa.below hX⟩ hok ⟨5, x0, x1, p, q, r, 0⟩ hcm) (Lib.hid fun X hX => takes_any (row n) p q r X hnok v0 v1 v2)
      (Lib.hid fun _ _ _ _ X hX => create_any ⟨m0, m1, m2, hsa.below hX⟩ hok ⟨5, x0, x1, p, q, r, 0⟩ hcm n hfo) (Lib.hid fun X0 X1 X hP hX hX0 => ?_) (Lib.hid fun X0 X1 q => fr_boxes hT q)).mono ?_
    · obtain ⟨T1, hs1, hu, hf⟩ := hP
      exact (done_any (hs1.below hX) hI2.ok ⟨7, x0, x3, 0, 0, 0, st⟩ hcd).mono fun e w' q => ⟨q.1, SchTo.go hu hf (SchTo.from_ hX q.2)⟩
    · rintro e w' (⟨h1, _⟩ | ⟨_, ⟨rfl, rfl, X0, h3, h4⟩ | ⟨h1, rfl, X0, h3, h4⟩⟩)
      · rcases h1 with h1 | h1 | h1 | h1
        · rw [g1] at h1; cases h1
        · rw [g2] at h1; cases h1
        · exact absurd g3 h1
        · rw [g4] at h1; cases h1
      · rw [hres, if_pos rfl]
        exact ⟨rfl, SchTo.from_ h3 h4⟩
      · rw [hres, if_neg h1]
        exact ⟨rfl, SchTo.from_ h3 h4⟩
theorem len8 {x : List Value} (h : x.length = 8) : ∃ z0 z1 z2 z3 z4 z5 z6 z7, x = [z0, z1, z2, z3, z4, z5, z6, z7] := by
  obtain ⟨z0, x0, e0, h0⟩ := cons_of h
  obtain ⟨z1, x1, e1, h1⟩ := cons_of h0
  obtain ⟨z2, x2, e2, h2⟩ := cons_of h1
  obtain ⟨z3, x3, e3, h3⟩ := cons_of h2
  obtain ⟨z4, x4, e4, h4⟩ := cons_of h3
  obtain ⟨z5, x5, e5, h5⟩ := cons_of h4
  obtain ⟨z6, x6, e6, h6⟩ := cons_of h5
  obtain ⟨z7, x7, e7, h7⟩ := cons_of h6
  exact ⟨z0, z1, z2, z3, z4, z5, z6, z7, by rw [e0, e1, e2, e3, e4, e5, e6, e7, nil_of h7]⟩
theorem each_snoc (f : St → It → St × Bool) : ∀ (l : List It) (S : St) (x : It), (PS.each f S l).2 = true → PS.each f S (l ++ [x]) = f (PS.each f S l).1 x
  | [], S, x, _ => by
    show PS.each f S [x] = f S x
    unfold PS.each
    split
    · rename_i h
      unfold PS.each
      rw [← h]
    · rename_i h
      have : (f S x).2 = false := Bool.eq_false_iff.2 h
      rw [← this]
  | y :: r, S, x, h => by
    rw [List.cons_append]
    rw [PS.each] at h ⊢
    split at h
    · rename_i hq
      rw [if_pos hq, each_snoc f r _ x h]
      conv => rhs; rw [PS.each, if_pos hq]
    · cases h
theorem each_app (f : St → It → St × Bool) : ∀ (l m : List It) (S : St), (PS.each f S l).2 = false → (PS.each f S (l ++ m)).2 = false
  | [], m, S, h => by cases h
  | y :: r, m, S, h => by
    rw [List.cons_append]
    rw [PS.each] at h ⊢
    split at h
    · rename_i hq
      rw [if_pos hq]
      exact each_app f r m _ h
    · rename_i hq
      rw [if_neg hq]
theorem each_fail (f : St → It → St × Bool) (S : St) {l : List It} {j : Nat} {x : It} (hx : l[j]? = some x) (h : (PS.each f S (l.take j)).2 = true) (hf : (f (PS.each f S (l.take j)).1 x).2 = false) : (PS.each f S l).2 = false := by
  have h1 : (PS.each f S (l.take (j + 1))).2 = false := by
    rw [List.take_add_one, hx]
    rw [show (some x).toList = [x] from rfl, each_snoc f _ _ x h]
    exact hf
  have := each_app f (l.take (j + 1)) (l.drop (j + 1)) S h1
  rwa [List.take_append_drop] at this
theorem each_inv (f : St → It → St × Bool) {P : It → Prop} (hf : ∀ S x, Inv S → P x → Inv (f S x).1) : ∀ (l : List It) (S : St), Inv S → (∀ x ∈ l, P x) → Inv (PS.each f S l).1
  | [], S, h, _ => h
  | y :: r, S, h, hp => by
    rw [PS.each]
    split
    · exact each_inv f hf r _ (hf S y h (hp y (by simp))) fun x hx => hp x (by simp [hx])
    · exact hf S y h (hp y (by simp))
def RestPost (S : St) (t : It) (b : Nat) (T : Nat → Prop) (w : World) (e : Ending) (w' : World) : Prop := e = .returned (.bool (PS.restore S t).2) ∧ ∃ S', ((PS.restore S t).2 = true → S' = (PS.restore S t).1 ∧ Inv S') ∧ SchTo w w' b S' T
theorem rest_no {S S2 : St} {t : It} {b : Nat} {T : Nat → Prop} {w w1 W2 : World} (hb : Below w.heap.size w w1) (h : (PS.restore S t).2 = false) (hp : SchTo w1 W2 b S2 T) : RestPost S t b T w (.returned (.bool false)) W2 :=
  ⟨by rw [h], S2, fun q => (by rw [h] at q; cases q), SchTo.from_ hb hp⟩
theorem rest_yes {S S2 : St} {t : It} {b : Nat} {T : Nat → Prop} {w w1 W2 : World} (hb : Below w.heap.size w w1) (h : PS.restore S t = (S2, true)) (hi : Inv S2) (hp : SchTo w1 W2 b S2 T) : RestPost S t b T w (.returned (.bool true)) W2 :=
  ⟨by rw [h], S2, fun _ => ⟨by rw [h], hi⟩, SchTo.from_ hb hp⟩
theorem rest_1 {S : St} {t : It} (h : (PS.each resN S (els (PS.part t 0))).2 = false) : (PS.restore S t).2 = false := by
  unfold PS.restore
  dsimp only
  rw [if_neg (by rw [h]; simp)]
  exact h
theorem rest_2 {S : St} {t : It} (h1 : (PS.each resN S (els (PS.part t 0))).2 = true) (h : (PS.each resT (PS.each resN S (els (PS.part t 0))).1 (els (PS.part t 1))).2 = false) : (PS.restore S t).2 = false := by
  unfold PS.restore
  dsimp only
  rw [if_pos h1, if_neg (by rw [h]; simp)]
  exact h
theorem rest_3 {S : St} {t : It} (h1 : (PS.each resN S (els (PS.part t 0))).2 = true) (h2 : (PS.each resT (PS.each resN S (els (PS.part t 0))).1 (els (PS.part t 1))).2 = true) (h : (PS.each resJ (PS.each resT (PS.each resN S (els (PS.part t 0))).1 (els (PS.part t 1))).1 (els (PS.part t 2))).2 = false) : (PS.restore S t).2 = false := by
  unfold PS.restore
  dsimp only
  rw [if_pos h1, if_pos h2, if_neg (by rw [h]; simp)]
  exact h
theorem rest_4 {S : St} {t : It} (h1 : (PS.each resN S (els (PS.part t 0))).2 = true) (h2 : (PS.each resT (PS.each resN S (els (PS.part t 0))).1 (els (PS.part t 1))).2 = true) (h3 : (PS.each resJ (PS.each resT (PS.each resN S (els (PS.part t 0))).1 (els (PS.part t 1))).1 (els (PS.part t 2))).2 = true) : PS.restore S t = PS.each resD (PS.each resJ (PS.each resT (PS.each resN S (els (PS.part t 0))).1 (els (PS.part t 1))).1 (els (PS.part t 2))).1 (els (PS.part t 0)) := by
  unfold PS.restore
  dsimp only
  rw [if_pos h1, if_pos h2, if_pos h3]
theorem mem_at {l : List It} {x : It} (h : x ∈ l) : ∃ j : Nat, l[j]? = some x := by
  obtain ⟨j, hj, e⟩ := List.mem_iff_getElem.1 h
  exact ⟨j, by rw [List.getElem?_eq_getElem hj, e]⟩
set_option maxHeartbeats 16000000 in
theorem restore_any {w : World} {b : Nat} {S : St} {T : Nat → Prop} (h : Sch w b S T) (hI : Inv S) {Q : Nat → Prop} (hQ : ∀ q, Q q → q < w.heap.size) (hQT : ∀ q, Q q → ¬ T q) {t : It} {v : Value} (hz : Okz t) (hv : Wi.IsIt w Q t v) :
    Calls Tryz.prog 51 #[.pointer (some ⟨b, 0, none⟩), v] w (RestPost S t b T w) := by
  have hTl := h.lt
  obtain ⟨u0, i0, q0⟩ := part_k hQ 0 hv
  obtain ⟨u1, i1, q1⟩ := part_k hQ 1 hv
  obtain ⟨u2, i2, q2⟩ := part_k hQ 2 hv
  have hel : ∀ {tt : It} {vv : Value}, Wi.IsIt w Q tt vv → ∀ x ∈ els tt, ∃ u, Wi.IsIt w Q x u := fun hh x hx => by
    obtain ⟨_, _, A, c, _, _, _, _, _, hal⟩ := IsIt.form hh
    obtain ⟨j, hj⟩ := mem_at hx
    obtain ⟨_, _, _, _, _, _, _, _, _, _, _, _, hh2⟩ := hal.at_ (k := j) hj
    exact ⟨_, hh2⟩
  have pN : ∀ x ∈ els (PS.part t 0), ∃ u, Wi.IsIt w Q x u := hel i0
  have pT : ∀ x ∈ els (PS.part t 1), ∃ u, Wi.IsIt w Q x u := hel i1
  have pJ : ∀ x ∈ els (PS.part t 2), ∃ u, Wi.IsIt w Q x u := hel i2
  have fN : ∀ S x, Inv S → (∃ u, Wi.IsIt w Q x u) → Inv (resN S x).1 := fun S x hS ⟨u, hu⟩ => by
    obtain ⟨v1, j1, _⟩ := part_k hQ 1 hu
    exact hS.done _ ⟨vOf_in hQ j1 0, vOf_in hQ j1 1, i64_0, vOf_in hQ j1 2⟩
  have fT : ∀ S x, Inv S → (∃ u, Wi.IsIt w Q x u) → Inv (resT S x).1 := fun S x hS ⟨u, hu⟩ => by
    obtain ⟨v1, j1, _⟩ := part_k hQ 1 hu
    exact hS.done _ ⟨vOf_in hQ j1 0, vOf_in hQ j1 1, i64_0, vOf_in hQ j1 2⟩
  have fD : ∀ S x, Inv S → (∃ u, Wi.IsIt w Q x u) → Inv (resD S x).1 := fun S x hS ⟨u, hu⟩ => by
    obtain ⟨v1, j1, _⟩ := part_k hQ 2 hu
    exact hS.done _ ⟨i64_0, i64_0, num_in j1, i64_0⟩
  have fJ : ∀ S x, Inv S → (∃ u, Wi.IsIt w Q x u) → Inv (resJ S x).1 := fun S x hS ⟨u, hu⟩ => by
    obtain ⟨v2, j2, _⟩ := part_k hQ 2 hu
    obtain ⟨v4, j4, _⟩ := part_k hQ 4 hu
    exact hS.resJ x ⟨⟨vOf_in hQ j2 0, vOf_in hQ j2 1, vOf_in hQ j2 2⟩, num_in j4⟩
  have tk : ∀ {l : List It} {P : It → Prop} (j : Nat), (∀ x ∈ l, P x) → ∀ x ∈ l.take j, P x := fun j hp x hx => hp x (List.mem_of_mem_take hx)
  have hI1 := each_inv resN fN (els (PS.part t 0)) S hI pN
  have hI2 := each_inv resT fT (els (PS.part t 1)) _ hI1 pT
  have hI3 := each_inv resJ fJ (els (PS.part t 2)) _ hI2 pJ
  have HIV1 := Lib.hid fun j => each_inv resN fN ((els (PS.part t 0)).take j) S hI (tk j pN)
  have HIV2 := Lib.hid fun j => each_inv resT fT ((els (PS.part t 1)).take j) _ hI1 (tk j pT)
  have HIV3 := Lib.hid fun j => each_inv resJ fJ ((els (PS.part t 2)).take j) _ hI2 (tk j pJ)
  have HIV4 := Lib.hid fun j => each_inv resD fD ((els (PS.part t 0)).take j) _ hI3 (tk j pN)
  have HFF1 := Lib.hid (rest_1 (S := S) (t := t))
  have HFF2' := Lib.hid (rest_2 (S := S) (t := t))
  have HFF3' := Lib.hid (rest_3 (S := S) (t := t))
  have HR4 := Lib.hid (rest_4 (S := S) (t := t))
  have HZ0 := Lib.hid (hz.part 0)
  have HZ1 := Lib.hid (hz.part 1)
  have HZ2 := Lib.hid (hz.part 2)
  obtain ⟨k, s, A, c, rfl, _⟩ := IsIt.form hv
  obtain ⟨kp0, sp0, LA0, cp0, rfl, _, _, _, hm0, al0⟩ := IsIt.form i0
  obtain ⟨kp1, sp1, LA1, cp1, rfl, _, _, _, hm1, al1⟩ := IsIt.form i1
  obtain ⟨kp2, sp2, LA2, cp2, rfl, _, _, _, hm2, al2⟩ := IsIt.form i2
  have HAL0 := Lib.hid al0
  have HAL1 := Lib.hid al1
  have HAL2 := Lib.hid al2
  have HP0 : Hid (∀ X, Kp Q w X → Calls Tryz.prog 102 #[.agg #[.int .i64 k, .int .i64 (num t), .string s, .slice A (els t).length c], .int .i64 0] X (RetBelow (.agg #[.int .i64 kp0, .int .i64 (num (PS.part t 0)), .string sp0, .slice LA0 (els (PS.part t 0)).length cp0]) X)) := Lib.hid q0
  have HP1 : Hid (∀ X, Kp Q w X → Calls Tryz.prog 102 #[.agg #[.int .i64 k, .int .i64 (num t), .string s, .slice A (els t).length c], .int .i64 1] X (RetBelow (.agg #[.int .i64 kp1, .int .i64 (num (PS.part t 1)), .string sp1, .slice LA1 (els (PS.part t 1)).length cp1]) X)) := Lib.hid q1
  have HP2 : Hid (∀ X, Kp Q w X → Calls Tryz.prog 102 #[.agg #[.int .i64 k, .int .i64 (num t), .string s, .slice A (els t).length c], .int .i64 2] X (RetBelow (.agg #[.int .i64 kp2, .int .i64 (num (PS.part t 2)), .string sp2, .slice LA2 (els (PS.part t 2)).length cp2]) X)) := Lib.hid q2
  have HQL := Lib.hid hQ
  have HQT := Lib.hid hQT
  have HB0 := Lib.hid ((Below.refl w.heap.size w).alloc (Nat.le_refl _) (.cells #[.int .i64 k, .int .i64 (num t), .string s, .slice A (els t).length c] 111))
  have HX0 := Lib.hid (heap_alloc_new w (.cells #[.int .i64 k, .int .i64 (num t), .string s, .slice A (els t).length c] 111))
  have HSCH := Lib.hid h
  clear pN pT pJ fN fT fD fJ tk hI1 hI2 hI3 hel al0 al1 al2 q0 q1 q2 i0 i1 i2 hv h hI
  obtain ⟨N0, hN0⟩ : ∃ N, N = (els (PS.part t 0)).length := ⟨_, rfl⟩
  obtain ⟨N1, hN1⟩ : ∃ N, N = (els (PS.part t 1)).length := ⟨_, rfl⟩
  obtain ⟨N2, hN2⟩ : ∃ N, N = (els (PS.part t 2)).length := ⟨_, rfl⟩
  rw [← hN0] at HP0
  rw [← hN1] at HP1
  rw [← hN2] at HP2
  generalize hL0 : els (PS.part t 0) = L0 at *
  generalize hL1 : els (PS.part t 1) = L1 at *
  generalize hL2 : els (PS.part t 2) = L2 at *
  have HZ0 : Hid (∀ (j : Nat) (x : It), L0[j]? = some x → Okz x) := Lib.hid fun j x hx => HZ0.out.el (by rw [hL0]; exact hx)
  have HZ1 : Hid (∀ (j : Nat) (x : It), L1[j]? = some x → Okz x) := Lib.hid fun j x hx => HZ1.out.el (by rw [hL1]; exact hx)
  have HZ2 : Hid (∀ (j : Nat) (x : It), L2[j]? = some x → Okz x) := Lib.hid fun j x hx => HZ2.out.el (by rw [hL2]; exact hx)
  have HN0 := Lib.hid hN0
  have hNb0 : (N0 : Int) ≤ 9223372036854775807 := by rw [hN0]; simp only [maxLen] at hm0; omega
  have HN1 := Lib.hid hN1
  have hNb1 : (N1 : Int) ≤ 9223372036854775807 := by rw [hN1]; simp only [maxLen] at hm1; omega
  have HN2 := Lib.hid hN2
  have hNb2 : (N2 : Int) ≤ 9223372036854775807 := by rw [hN2]; simp only [maxLen] at hm2; omega
  have HTL := Lib.hid hTl
  clear hm0 hm1 hm2 hN0 hN1 hN2 hL0 hL1 hL2 hTl hQ hQT hz
  generalize num t = tn at *
  generalize (els t).length = tm at *
  generalize num (PS.part t 0) = pn0 at *
  generalize num (PS.part t 1) = pn1 at *
  generalize num (PS.part t 2) = pn2 at *
  have HPC := Lib.hid (HP0.out _ ((Kp.refl Q w).below HQL.out HB0.out))
  obtain ⟨y0, y1, y2, y3, _⟩ := Wi.row4 HX0.out
  have hfd := fld3
  go_enter Tryz.func51, Tryz.ntmps51
  go_wp2_with (first | (go_at_call 102; (with_reducible refine HPC.out.mono ?_); rintro e w1 ⟨rfl, hb⟩; have HB1 := Lib.hid (HB0.out.trans (hb.mono HB0.out.size)); have HBOX := Lib.hid ((hb.block w.heap.size (by simp)).trans HX0.out); clear hb y0 y1 y2 y3))
  clear HPC hfd
  have HS0 : Hid (SchTo w1 w1 b S T) := Lib.hid (Sch.to (HSCH.out.below HB1.out) (Below.refl _ _))
  have HQ1 := Lib.hid (fun q hq => Nat.lt_of_lt_of_le (HQL.out q hq) HB1.out.size)
  have HBOXlt := Lib.hid (show ∀ q, q = w.heap.size → q < w1.heap.size from fun q hq => by rw [hq]; exact (Array.getElem?_eq_some_iff.1 HBOX.out).1)
  have HBOXT := Lib.hid (show ∀ q, q = w.heap.size → ¬ T q from fun q hq hT => by have := HTL.out q hT; omega)
  go_loopw [7, 19] (fun _ iV wr => ∃ (j : Nat), j ≤ N0 ∧ iV = .int .i64 j ∧ (PS.each resN S (L0.take j)).2 = true ∧ SchTo w1 wr b (PS.each resN S (L0.take j)).1 T) (fun _ iV _ => N0 - (intOf iV).toNat)
  case atStart => exact ⟨0, Nat.zero_le _, rfl, rfl, HS0.out⟩
  case round =>
    obtain ⟨j, hj, rfl, htr, hsc⟩ := hrel
    have HTR := Lib.hid htr
    have HSC := Lib.hid hsc
    clear htr hsc
    by_cases hlt : j < N0
    · have HLT := Lib.hid hlt
      obtain ⟨x, hx⟩ : ∃ x, L0[j]? = some x := ⟨_, List.getElem?_eq_getElem (by have := HN0.out; omega)⟩
      have hst : PS.each resN S (L0.take (j + 1)) = resN (PS.each resN S (L0.take j)).1 x := by rw [List.take_add_one, hx]; exact each_snoc _ _ _ x HTR.out
      have hfl : (resN (PS.each resN S (L0.take j)).1 x).2 = false → (PS.each resN S L0).2 = false := fun q => each_fail resN S hx HTR.out q
      have HINV := Lib.hid (HIV1.out j)
      obtain ⟨ba, off, u0, u1, u2, u3, hA, hbQ, h0, h1, h2, h3, hxI⟩ := (HAL0.out).at_ (k := j) hx
      rw [Nat.zero_add] at h0 h1 h2 h3
      have hzx := HZ0.out _ _ hx
      obtain ⟨xk, xn, xs, xA, xm, xc, rfl, rfl, rfl, rfl⟩ := hxI.parts
      have hkw : Kp Q w wr := ⟨Nat.le_trans HB1.out.size (Kp.sch HQ1.out HQT.out HSC.out).1, fun q hq => ((Kp.sch HQ1.out HQT.out HSC.out).2 q hq).trans (HB1.out.block q (HQL.out q hq))⟩
      have e0 := cellK h0 hkw hbQ
      have e1 := cellK h1 hkw hbQ
      have e2 := cellK h2 hkw hbQ
      have e3 := cellK h3 hkw hbQ
      clear h0 h1 h2 h3
      obtain ⟨T1, hs1, hu1, hf1⟩ := HSC.out
      have HKX := Lib.hid (fun X (hX : Below (wr.alloc (.cells #[.int .i64 xk, .int .i64 xn, .string xs, .slice xA xm xc] 111)).heap.size (wr.alloc (.cells #[.int .i64 xk, .int .i64 xn, .string xs, .slice xA xm xc] 111)) X) => (hkw.below HQL.out ((Below.refl wr.heap.size wr).alloc (Nat.le_refl _) (.cells #[.int .i64 xk, .int .i64 xn, .string xs, .slice xA xm xc] 111))).below HQL.out hX)
      have HSX := Lib.hid (fun X (hX : Below (wr.alloc (.cells #[.int .i64 xk, .int .i64 xn, .string xs, .slice xA xm xc] 111)).heap.size (wr.alloc (.cells #[.int .i64 xk, .int .i64 xn, .string xs, .slice xA xm xc] 111)) X) => hs1.below (((Below.refl wr.heap.size wr).alloc (Nat.le_refl _) (.cells #[.int .i64 xk, .int .i64 xn, .string xs, .slice xA xm xc] 111)).trans (hX.mono (by simp))))
      have HBX := Lib.hid (fun X (hX : Below (wr.alloc (.cells #[.int .i64 xk, .int .i64 xn, .string xs, .slice xA xm xc] 111)).heap.size (wr.alloc (.cells #[.int .i64 xk, .int .i64 xn, .string xs, .slice xA xm xc] 111)) X) => ((Below.refl wr.heap.size wr).alloc (Nat.le_refl _) (.cells #[.int .i64 xk, .int .i64 xn, .string xs, .slice xA xm xc] 111)).trans (hX.mono (by simp)))
      have HIW := Lib.hid (heap_alloc_new wr (.cells #[.int .i64 xk, .int .i64 xn, .string xs, .slice xA xm xc] 111))
      obtain ⟨v0, i0, q0⟩ := part_k HQL.out 0 hxI
      obtain ⟨v1, i1, q1⟩ := part_k HQL.out 1 hxI
      have qv := vecof_k HQL.out i1
      have hi0 := vOf_in HQL.out i1 0
      have hi1 := vOf_in HQL.out i1 1
      have hi2 := vOf_in HQL.out i1 2
      obtain ⟨k0, S0, A0, c0, rfl, es0, _⟩ := IsIt.form i0
      obtain ⟨k1, S1, A1, c1, rfl, es1, _⟩ := IsIt.form i1
      have hl0 := (hzx.part 0).txt
      have HD := Lib.hid (fun X (hX : Below (wr.alloc (.cells #[.int .i64 xk, .int .i64 xn, .string xs, .slice xA xm xc] 111)).heap.size (wr.alloc (.cells #[.int .i64 xk, .int .i64 xn, .string xs, .slice xA xm xc] 111)) X) => (done_any (HSX.out X hX) HINV.out.ok ⟨1, PS.txt (PS.part x 0), [], vOf (PS.part x 1) 0, vOf (PS.part x 1) 1, vOf (PS.part x 1) 2, 0⟩ ⟨by show (PS.txt (PS.part x 0)).length ≤ _; omega, by show ([] : Tx).length ≤ _; simp, ⟨hi0, hi1, hi2⟩⟩).mono fun e w' q => (⟨q.1, SchTo.go hu1 hf1 (SchTo.from_ (HBX.out X hX) q.2)⟩ : e = .returned (.bool (resN (PS.each resN S (L0.take j)).1 x).2) ∧ SchTo w1 w' b (resN (PS.each resN S (L0.take j)).1 x).1 T))
      have hS0 := str_of es0
      unfold cmV at HD
      dsimp only at HD
      rw [← hS0, str_nil] at HD
      have HQ0 : Hid (∀ X, Below (wr.alloc (.cells #[.int .i64 xk, .int .i64 xn, .string xs, .slice xA xm xc] 111)).heap.size (wr.alloc (.cells #[.int .i64 xk, .int .i64 xn, .string xs, .slice xA xm xc] 111)) X → Calls Tryz.prog 102 #[.agg #[.int .i64 xk, .int .i64 xn, .string xs, .slice xA xm xc], .int .i64 0] X (RetBelow (.agg #[.int .i64 k0, .int .i64 (num (PS.part x 0)), .string S0, .slice A0 (els (PS.part x 0)).length c0]) X)) := Lib.hid (fun X hX => q0 X (HKX.out X hX))
      have HQ1x : Hid (∀ X, Below (wr.alloc (.cells #[.int .i64 xk, .int .i64 xn, .string xs, .slice xA xm xc] 111)).heap.size (wr.alloc (.cells #[.int .i64 xk, .int .i64 xn, .string xs, .slice xA xm xc] 111)) X → Calls Tryz.prog 102 #[.agg #[.int .i64 xk, .int .i64 xn, .string xs, .slice xA xm xc], .int .i64 1] X (RetBelow (.agg #[.int .i64 k1, .int .i64 (num (PS.part x 1)), .string S1, .slice A1 (els (PS.part x 1)).length c1]) X)) := Lib.hid (fun X hX => q1 X (HKX.out X hX))
      have HQV := Lib.hid (fun X hX => qv X (HKX.out X hX))
      generalize vOf (PS.part x 1) 0 = p at *
      generalize vOf (PS.part x 1) 1 = q at *
      generalize vOf (PS.part x 1) 2 = r at *
      generalize num (PS.part x 0) = n0 at *
      generalize num (PS.part x 1) = n1 at *
      generalize (els (PS.part x 0)).length = m0 at *
      generalize (els (PS.part x 1)).length = m1 at *
      have HBD := Lib.hid (show ∀ W : World, (Instr.build 33 #[(0, .int .i64 1), (1, .string S0), (3, .agg #[.int .i64 p, .int .i64 q, .int .i64 r])]).run Tryz.prog W = .ok (.agg #[.int .i64 1, .string S0, .string ⟨#[]⟩, .int .i64 p, .int .i64 q, .int .i64 r, .int .i64 0]) W from fun W => run_build W 33 _ _ (by kernel_rfl))
      have HST := Lib.hid (congrArg Prod.fst hst)
      have HOK : Hid ((resN (PS.each resN S (L0.take j)).1 x).2 = true → (PS.each resN S (L0.take (j + 1))).2 = true) := Lib.hid fun q => (congrArg Prod.snd hst).trans q
      have HFL : Hid ((resN (PS.each resN S (L0.take j)).1 x).2 = false → ∀ S2 W2, SchTo w1 W2 b S2 T → RestPost S t b T w (.returned (.bool false)) W2) := Lib.hid fun q S2 W2 hP => rest_no HB1.out (HFF1.out (hfl q)) hP
      clear hst hfl
      generalize (resN (PS.each resN S (L0.take j)).1 x).2 = DB at *
      generalize (resN (PS.each resN S (L0.take j)).1 x).1 = S2 at *
      clear hu1 hf1 hs1 hkw hzx hxI hbQ HSX HBX HKX HSC HTR HINV hx q0 q1 i0 i1 es0 es1 hl0 hS0 qv hi0 hi1 hi2
      rw [hA]
      go_wp2_with fail
      generalize wr.alloc (.cells #[.int .i64 xk, .int .i64 xn, .string xs, .slice xA xm xc] 111) = W at *
      have HIL := Lib.hid (Array.getElem?_eq_some_iff.1 HIW.out).1
      refine wp_region_mono 8 [23, 24, 25, 26, 27, 28, 29, 30] (fun i u w => match i with | 0 => u = .pointer (some ⟨b, 0, none⟩) | 1 => u = .agg #[.int .i64 xk, .int .i64 xn, .string xs, .slice xA xm xc] | 2 => u = .agg #[.int .i64 k0, .int .i64 n0, .string S0, .slice A0 m0 c0] | 3 => u = .string S0 | 4 => u = .agg #[.int .i64 xk, .int .i64 xn, .string xs, .slice xA xm xc] | 5 => u = .agg #[.int .i64 k1, .int .i64 n1, .string S1, .slice A1 m1 c1] | 6 => u = .agg #[.int .i64 p, .int .i64 q, .int .i64 r] | 7 => u = .agg #[.int .i64 1, .string S0, .string ⟨#[]⟩, .int .i64 p, .int .i64 q, .int .i64 r, .int .i64 0] | _ => True) (fun w => Below W.heap.size W w) [u23, u24, u25, u26, u27, u28, u29, u30] (by kernel_rfl) (by kernel_rfl) (by kernel_rfl) rfl (Below.refl _ _).drew ?hzV ?hzS ?hzT
      case hzV =>
        intro i v w w' hC h hB
        exact match i, h with
        | 0, h => h
        | 1, h => h
        | 2, h => h
        | 3, h => h
        | 4, h => h
        | 5, h => h
        | 6, h => h
        | 7, h => h
        | i + 8, h => trivial
      case hzS =>
        refine steps_cons (fun K' x hx w hC hd hK => ?_) ?_
        · obtain ⟨z0, z1, z2, z3, z4, z5, z6, z7, rfl⟩ := len8 hx
          clear hd hx
          simp only [putAll, Act.put, List.setIfInBounds_toArray, List.set_cons_zero, List.set_cons_succ] at hK ⊢
          go_simp
          exact hK _ _ rfl hC (Below.refl _ _)
        refine steps_cons (fun K' x hx w hC hd hK => ?_) ?_
        · obtain ⟨z0, z1, z2, z3, z4, z5, z6, z7, rfl⟩ := len8 hx
          clear hd hx
          simp only [putAll, Act.put, List.setIfInBounds_toArray, List.set_cons_zero, List.set_cons_succ] at hK ⊢
          obtain ⟨y0, y1, y2, y3, _⟩ := Wi.row4 ((Below.block hC _ HIL.out).trans HIW.out)
          go_simp
          exact hK _ _ rfl hC (Below.refl _ _)
        refine steps_cons (fun K' x hx w hC hd hK => ?_) ?_
        · obtain ⟨z0, z1, z2, z3, z4, z5, z6, z7, rfl⟩ := len8 hx
          obtain rfl : z1 = _ := hd 1 (by kernel_rfl)
          clear hd hx
          simp only [putAll, Act.put, List.setIfInBounds_toArray, List.set_cons_zero, List.set_cons_succ] at hK ⊢
          go_simp
          (go_at_call 102; (with_reducible refine (HQ0.out _ hC).mono ?_); rintro e w1 ⟨rfl, hb⟩; exact hK _ _ rfl (Below.trans hC (hb.mono (Below.size hC))) hb)
        refine steps_cons (fun K' x hx w hC hd hK => ?_) ?_
        · obtain ⟨z0, z1, z2, z3, z4, z5, z6, z7, rfl⟩ := len8 hx
          obtain rfl : z2 = _ := hd 2 (by kernel_rfl)
          clear hd hx
          simp only [putAll, Act.put, List.setIfInBounds_toArray, List.set_cons_zero, List.set_cons_succ] at hK ⊢
          have hfd := fld2
          go_simp
          exact hK _ _ rfl hC (Below.refl _ _)
        refine steps_cons (fun K' x hx w hC hd hK => ?_) ?_
        · obtain ⟨z0, z1, z2, z3, z4, z5, z6, z7, rfl⟩ := len8 hx
          clear hd hx
          simp only [putAll, Act.put, List.setIfInBounds_toArray, List.set_cons_zero, List.set_cons_succ] at hK ⊢
          obtain ⟨y0, y1, y2, y3, _⟩ := Wi.row4 ((Below.block hC _ HIL.out).trans HIW.out)
          go_simp
          exact hK _ _ rfl hC (Below.refl _ _)
        refine steps_cons (fun K' x hx w hC hd hK => ?_) ?_
        · obtain ⟨z0, z1, z2, z3, z4, z5, z6, z7, rfl⟩ := len8 hx
          obtain rfl : z4 = _ := hd 4 (by kernel_rfl)
          clear hd hx
          simp only [putAll, Act.put, List.setIfInBounds_toArray, List.set_cons_zero, List.set_cons_succ] at hK ⊢
          go_simp
          (go_at_call 102; (with_reducible refine (HQ1x.out _ hC).mono ?_); rintro e w1 ⟨rfl, hb⟩; exact hK _ _ rfl (Below.trans hC (hb.mono (Below.size hC))) hb)
        refine steps_cons (fun K' x hx w hC hd hK => ?_) ?_
        · obtain ⟨z0, z1, z2, z3, z4, z5, z6, z7, rfl⟩ := len8 hx
          obtain rfl : z5 = _ := hd 5 (by kernel_rfl)
          clear hd hx
          simp only [putAll, Act.put, List.setIfInBounds_toArray, List.set_cons_zero, List.set_cons_succ] at hK ⊢
          go_simp
          (go_at_call 104; (with_reducible refine (HQV.out _ hC).mono ?_); rintro e w1 ⟨rfl, hb⟩; exact hK _ _ rfl (Below.trans hC (hb.mono (Below.size hC))) hb)
        refine steps_cons (fun K' x hx w hC hd hK => ?_) ?_
        · obtain ⟨z0, z1, z2, z3, z4, z5, z6, z7, rfl⟩ := len8 hx
          obtain rfl : z3 = _ := hd 3 (by kernel_rfl)
          obtain rfl : z6 = _ := hd 6 (by kernel_rfl)
          clear hd hx
          simp only [putAll, Act.put, List.setIfInBounds_toArray, List.set_cons_zero, List.set_cons_succ] at hK ⊢
          have hbd := HBD.out
          go_simp
          exact hK _ _ rfl hC (Below.refl _ _)
        exact trivial
      case hzT =>
        intro x hx wT hC hd
        obtain ⟨z0, z1, z2, z3, z4, z5, z6, z7, rfl⟩ := len8 hx
        have e0 : z0 = _ := hd 0 (by omega)
        have e7 : z7 = _ := hd 7 (by omega)
        subst e0 e7
        clear hd hx
        have HWT := Lib.hid (show Below W.heap.size W wT from hC)
        clear hC
        simp only [putAll, Act.put, List.setIfInBounds_toArray, List.set_cons_zero, List.set_cons_succ]
        show wpList Tryz.prog _ _ (_ :: _ :: []) _ _
        cases DB with
        | true =>
          go_wp2_with (first | (go_at_call 103; (with_reducible refine (HD.out _ HWT.out).mono ?_); rintro e wz ⟨rfl, hP⟩; have HP := Lib.hid hP; clear hP))
          go_roundw
          case rel => exact ⟨j + 1, Nat.succ_le_of_lt HLT.out, by go_num, HOK.out (by trivial), by rw [HST.out]; exact HP.out⟩
          case measure => exact meas_lt HLT.out
        | false =>
          go_wp2_with (first | (go_at_call 103; (with_reducible refine (HD.out _ HWT.out).mono ?_); rintro e wz ⟨rfl, hP⟩; have HP := Lib.hid hP; clear hP))
          go_ret
          exact HFL.out (by trivial) _ _ HP.out
    · have hjl : L0.take j = L0 := List.take_of_length_le (by have := HN0.out; omega)
      rw [hjl] at HTR HSC
      have HT1 := HTR
      have HS1 := HSC
      clear hjl HTR HSC
      have hbw := (Kp.sch (S := fun q => q = w.heap.size) HBOXlt.out HBOXT.out HS1.out).2 w.heap.size rfl
      have HBOXn := Lib.hid (hbw.trans HBOX.out)
      clear hbw
      obtain ⟨y0, y1, y2, y3, _⟩ := Wi.row4 HBOXn.out
      have hkw : Kp Q w wr := ⟨Nat.le_trans HB1.out.size (Kp.sch HQ1.out HQT.out HS1.out).1, fun q hq => ((Kp.sch HQ1.out HQT.out HS1.out).2 q hq).trans (HB1.out.block q (HQL.out q hq))⟩
      have HPC := Lib.hid (HP1.out wr hkw)
      have hfd := fld3
      clear hkw
      go_wp2_with (first | (go_at_call 102; (with_reducible refine HPC.out.mono ?_); rintro e w2 ⟨rfl, hb⟩; have HSn := Lib.hid (HS1.out.after hb); clear hb y0 y1 y2 y3))
      clear HPC HBOXn hfd HS1
      have HS1 := HSn
      clear HSn
      go_loopw [9, 38] (fun _ iV wr => ∃ (j : Nat), j ≤ N1 ∧ iV = .int .i64 j ∧ (PS.each resT (PS.each resN S L0).1 (L1.take j)).2 = true ∧ SchTo w1 wr b (PS.each resT (PS.each resN S L0).1 (L1.take j)).1 T) (fun _ iV _ => N1 - (intOf iV).toNat)
      case atStart => exact ⟨0, Nat.zero_le _, rfl, rfl, HS1.out⟩
      case round =>
        obtain ⟨j, hj, rfl, htr, hsc⟩ := hrel
        have HTR := Lib.hid htr
        have HSC := Lib.hid hsc
        clear htr hsc
        by_cases hlt : j < N1
        · have HLT := Lib.hid hlt
          obtain ⟨x, hx⟩ : ∃ x, L1[j]? = some x := ⟨_, List.getElem?_eq_getElem (by have := HN1.out; omega)⟩
          have hst : PS.each resT (PS.each resN S L0).1 (L1.take (j + 1)) = resT (PS.each resT (PS.each resN S L0).1 (L1.take j)).1 x := by rw [List.take_add_one, hx]; exact each_snoc _ _ _ x HTR.out
          have hfl : (resT (PS.each resT (PS.each resN S L0).1 (L1.take j)).1 x).2 = false → (PS.each resT (PS.each resN S L0).1 L1).2 = false := fun q => each_fail resT (PS.each resN S L0).1 hx HTR.out q
          have HINV := Lib.hid (HIV2.out j)
          obtain ⟨ba, off, u0, u1, u2, u3, hA, hbQ, h0, h1, h2, h3, hxI⟩ := (HAL1.out).at_ (k := j) hx
          rw [Nat.zero_add] at h0 h1 h2 h3
          have hzx := HZ1.out _ _ hx
          obtain ⟨xk, xn, xs, xA, xm, xc, rfl, rfl, rfl, rfl⟩ := hxI.parts
          have hkw : Kp Q w wr := ⟨Nat.le_trans HB1.out.size (Kp.sch HQ1.out HQT.out HSC.out).1, fun q hq => ((Kp.sch HQ1.out HQT.out HSC.out).2 q hq).trans (HB1.out.block q (HQL.out q hq))⟩
          have e0 := cellK h0 hkw hbQ
          have e1 := cellK h1 hkw hbQ
          have e2 := cellK h2 hkw hbQ
          have e3 := cellK h3 hkw hbQ
          clear h0 h1 h2 h3
          obtain ⟨T1, hs1, hu1, hf1⟩ := HSC.out
          have HKX := Lib.hid (fun X (hX : Below (wr.alloc (.cells #[.int .i64 xk, .int .i64 xn, .string xs, .slice xA xm xc] 111)).heap.size (wr.alloc (.cells #[.int .i64 xk, .int .i64 xn, .string xs, .slice xA xm xc] 111)) X) => (hkw.below HQL.out ((Below.refl wr.heap.size wr).alloc (Nat.le_refl _) (.cells #[.int .i64 xk, .int .i64 xn, .string xs, .slice xA xm xc] 111))).below HQL.out hX)
          have HSX := Lib.hid (fun X (hX : Below (wr.alloc (.cells #[.int .i64 xk, .int .i64 xn, .string xs, .slice xA xm xc] 111)).heap.size (wr.alloc (.cells #[.int .i64 xk, .int .i64 xn, .string xs, .slice xA xm xc] 111)) X) => hs1.below (((Below.refl wr.heap.size wr).alloc (Nat.le_refl _) (.cells #[.int .i64 xk, .int .i64 xn, .string xs, .slice xA xm xc] 111)).trans (hX.mono (by simp))))
          have HBX := Lib.hid (fun X (hX : Below (wr.alloc (.cells #[.int .i64 xk, .int .i64 xn, .string xs, .slice xA xm xc] 111)).heap.size (wr.alloc (.cells #[.int .i64 xk, .int .i64 xn, .string xs, .slice xA xm xc] 111)) X) => ((Below.refl wr.heap.size wr).alloc (Nat.le_refl _) (.cells #[.int .i64 xk, .int .i64 xn, .string xs, .slice xA xm xc] 111)).trans (hX.mono (by simp)))
          have HIW := Lib.hid (heap_alloc_new wr (.cells #[.int .i64 xk, .int .i64 xn, .string xs, .slice xA xm xc] 111))
          obtain ⟨v0, i0, q0⟩ := part_k HQL.out 0 hxI
          obtain ⟨v1, i1, q1⟩ := part_k HQL.out 1 hxI
          have qv := vecof_k HQL.out i1
          have hi0 := vOf_in HQL.out i1 0
          have hi1 := vOf_in HQL.out i1 1
          have hi2 := vOf_in HQL.out i1 2
          obtain ⟨k0, S0, A0, c0, rfl, es0, _⟩ := IsIt.form i0
          obtain ⟨k1, S1, A1, c1, rfl, es1, _⟩ := IsIt.form i1
          have hl0 := (hzx.part 0).txt
          have HD := Lib.hid (fun X (hX : Below (wr.alloc (.cells #[.int .i64 xk, .int .i64 xn, .string xs, .slice xA xm xc] 111)).heap.size (wr.alloc (.cells #[.int .i64 xk, .int .i64 xn, .string xs, .slice xA xm xc] 111)) X) => (done_any (HSX.out X hX) HINV.out.ok ⟨4, PS.txt (PS.part x 0), [], vOf (PS.part x 1) 0, vOf (PS.part x 1) 1, vOf (PS.part x 1) 2, 0⟩ ⟨by show (PS.txt (PS.part x 0)).length ≤ _; omega, by show ([] : Tx).length ≤ _; simp, ⟨hi0, hi1, hi2⟩⟩).mono fun e w' q => (⟨q.1, SchTo.go hu1 hf1 (SchTo.from_ (HBX.out X hX) q.2)⟩ : e = .returned (.bool (resT (PS.each resT (PS.each resN S L0).1 (L1.take j)).1 x).2) ∧ SchTo w1 w' b (resT (PS.each resT (PS.each resN S L0).1 (L1.take j)).1 x).1 T))
          have hS0 := str_of es0
          unfold cmV at HD
          dsimp only at HD
          rw [← hS0, str_nil] at HD
          have HQ0 : Hid (∀ X, Below (wr.alloc (.cells #[.int .i64 xk, .int .i64 xn, .string xs, .slice xA xm xc] 111)).heap.size (wr.alloc (.cells #[.int .i64 xk, .int .i64 xn, .string xs, .slice xA xm xc] 111)) X → Calls Tryz.prog 102 #[.agg #[.int .i64 xk, .int .i64 xn, .string xs, .slice xA xm xc], .int .i64 0] X (RetBelow (.agg #[.int .i64 k0, .int .i64 (num (PS.part x 0)), .string S0, .slice A0 (els (PS.part x 0)).length c0]) X)) := Lib.hid (fun X hX => q0 X (HKX.out X hX))
          have HQ1x : Hid (∀ X, Below (wr.alloc (.cells #[.int .i64 xk, .int .i64 xn, .string xs, .slice xA xm xc] 111)).heap.size (wr.alloc (.cells #[.int .i64 xk, .int .i64 xn, .string xs, .slice xA xm xc] 111)) X → Calls Tryz.prog 102 #[.agg #[.int .i64 xk, .int .i64 xn, .string xs, .slice xA xm xc], .int .i64 1] X (RetBelow (.agg #[.int .i64 k1, .int .i64 (num (PS.part x 1)), .string S1, .slice A1 (els (PS.part x 1)).length c1]) X)) := Lib.hid (fun X hX => q1 X (HKX.out X hX))
          have HQV := Lib.hid (fun X hX => qv X (HKX.out X hX))
          generalize vOf (PS.part x 1) 0 = p at *
          generalize vOf (PS.part x 1) 1 = q at *
          generalize vOf (PS.part x 1) 2 = r at *
          generalize num (PS.part x 0) = n0 at *
          generalize num (PS.part x 1) = n1 at *
          generalize (els (PS.part x 0)).length = m0 at *
          generalize (els (PS.part x 1)).length = m1 at *
          have HBD := Lib.hid (show ∀ W : World, (Instr.build 33 #[(0, .int .i64 4), (1, .string S0), (3, .agg #[.int .i64 p, .int .i64 q, .int .i64 r])]).run Tryz.prog W = .ok (.agg #[.int .i64 4, .string S0, .string ⟨#[]⟩, .int .i64 p, .int .i64 q, .int .i64 r, .int .i64 0]) W from fun W => run_build W 33 _ _ (by kernel_rfl))
          have HST := Lib.hid (congrArg Prod.fst hst)
          have HOK : Hid ((resT (PS.each resT (PS.each resN S L0).1 (L1.take j)).1 x).2 = true → (PS.each resT (PS.each resN S L0).1 (L1.take (j + 1))).2 = true) := Lib.hid fun q => (congrArg Prod.snd hst).trans q
          have HFL : Hid ((resT (PS.each resT (PS.each resN S L0).1 (L1.take j)).1 x).2 = false → ∀ S2 W2, SchTo w1 W2 b S2 T → RestPost S t b T w (.returned (.bool false)) W2) := Lib.hid fun q S2 W2 hP => rest_no HB1.out (HFF2'.out HT1.out (hfl q)) hP
          clear hst hfl
          generalize (resT (PS.each resT (PS.each resN S L0).1 (L1.take j)).1 x).2 = DB at *
          generalize (resT (PS.each resT (PS.each resN S L0).1 (L1.take j)).1 x).1 = S2 at *
          clear hu1 hf1 hs1 hkw hzx hxI hbQ HSX HBX HKX HSC HTR HINV hx q0 q1 i0 i1 es0 es1 hl0 hS0 qv hi0 hi1 hi2
          rw [hA]
          go_wp2_with fail
          generalize wr.alloc (.cells #[.int .i64 xk, .int .i64 xn, .string xs, .slice xA xm xc] 111) = W at *
          have HIL := Lib.hid (Array.getElem?_eq_some_iff.1 HIW.out).1
          refine wp_region_mono 8 [42, 43, 44, 45, 46, 47, 48, 49] (fun i u w => match i with | 0 => u = .pointer (some ⟨b, 0, none⟩) | 1 => u = .agg #[.int .i64 xk, .int .i64 xn, .string xs, .slice xA xm xc] | 2 => u = .agg #[.int .i64 k0, .int .i64 n0, .string S0, .slice A0 m0 c0] | 3 => u = .string S0 | 4 => u = .agg #[.int .i64 xk, .int .i64 xn, .string xs, .slice xA xm xc] | 5 => u = .agg #[.int .i64 k1, .int .i64 n1, .string S1, .slice A1 m1 c1] | 6 => u = .agg #[.int .i64 p, .int .i64 q, .int .i64 r] | 7 => u = .agg #[.int .i64 4, .string S0, .string ⟨#[]⟩, .int .i64 p, .int .i64 q, .int .i64 r, .int .i64 0] | _ => True) (fun w => Below W.heap.size W w) [u42, u43, u44, u45, u46, u47, u48, u49] (by kernel_rfl) (by kernel_rfl) (by kernel_rfl) rfl (Below.refl _ _).drew ?hzV ?hzS ?hzT
          case hzV =>
            intro i v w w' hC h hB
            exact match i, h with
            | 0, h => h
            | 1, h => h
            | 2, h => h
            | 3, h => h
            | 4, h => h
            | 5, h => h
            | 6, h => h
            | 7, h => h
            | i + 8, h => trivial
          case hzS =>
            refine steps_cons (fun K' x hx w hC hd hK => ?_) ?_
            · obtain ⟨z0, z1, z2, z3, z4, z5, z6, z7, rfl⟩ := len8 hx
              clear hd hx
              simp only [putAll, Act.put, List.setIfInBounds_toArray, List.set_cons_zero, List.set_cons_succ] at hK ⊢
              go_simp
              exact hK _ _ rfl hC (Below.refl _ _)
            refine steps_cons (fun K' x hx w hC hd hK => ?_) ?_
            · obtain ⟨z0, z1, z2, z3, z4, z5, z6, z7, rfl⟩ := len8 hx
              clear hd hx
              simp only [putAll, Act.put, List.setIfInBounds_toArray, List.set_cons_zero, List.set_cons_succ] at hK ⊢
              obtain ⟨y0, y1, y2, y3, _⟩ := Wi.row4 ((Below.block hC _ HIL.out).trans HIW.out)
              go_simp
              exact hK _ _ rfl hC (Below.refl _ _)
            refine steps_cons (fun K' x hx w hC hd hK => ?_) ?_
            · obtain ⟨z0, z1, z2, z3, z4, z5, z6, z7, rfl⟩ := len8 hx
              obtain rfl : z1 = _ := hd 1 (by kernel_rfl)
              clear hd hx
              simp only [putAll, Act.put, List.setIfInBounds_toArray, List.set_cons_zero, List.set_cons_succ] at hK ⊢
              go_simp
              (go_at_call 102; (with_reducible refine (HQ0.out _ hC).mono ?_); rintro e w1 ⟨rfl, hb⟩; exact hK _ _ rfl (Below.trans hC (hb.mono (Below.size hC))) hb)
            refine steps_cons (fun K' x hx w hC hd hK => ?_) ?_
            · obtain ⟨z0, z1, z2, z3, z4, z5, z6, z7, rfl⟩ := len8 hx
              obtain rfl : z2 = _ := hd 2 (by kernel_rfl)
              clear hd hx
              simp only [putAll, Act.put, List.setIfInBounds_toArray, List.set_cons_zero, List.set_cons_succ] at hK ⊢
              have hfd := fld2
              go_simp
              exact hK _ _ rfl hC (Below.refl _ _)
            refine steps_cons (fun K' x hx w hC hd hK => ?_) ?_
            · obtain ⟨z0, z1, z2, z3, z4, z5, z6, z7, rfl⟩ := len8 hx
              clear hd hx
              simp only [putAll, Act.put, List.setIfInBounds_toArray, List.set_cons_zero, List.set_cons_succ] at hK ⊢
              obtain ⟨y0, y1, y2, y3, _⟩ := Wi.row4 ((Below.block hC _ HIL.out).trans HIW.out)
              go_simp
              exact hK _ _ rfl hC (Below.refl _ _)
            refine steps_cons (fun K' x hx w hC hd hK => ?_) ?_
            · obtain ⟨z0, z1, z2, z3, z4, z5, z6, z7, rfl⟩ := len8 hx
              obtain rfl : z4 = _ := hd 4 (by kernel_rfl)
              clear hd hx
              simp only [putAll, Act.put, List.setIfInBounds_toArray, List.set_cons_zero, List.set_cons_succ] at hK ⊢
              go_simp
              (go_at_call 102; (with_reducible refine (HQ1x.out _ hC).mono ?_); rintro e w1 ⟨rfl, hb⟩; exact hK _ _ rfl (Below.trans hC (hb.mono (Below.size hC))) hb)
            refine steps_cons (fun K' x hx w hC hd hK => ?_) ?_
            · obtain ⟨z0, z1, z2, z3, z4, z5, z6, z7, rfl⟩ := len8 hx
              obtain rfl : z5 = _ := hd 5 (by kernel_rfl)
              clear hd hx
              simp only [putAll, Act.put, List.setIfInBounds_toArray, List.set_cons_zero, List.set_cons_succ] at hK ⊢
              go_simp
              (go_at_call 104; (with_reducible refine (HQV.out _ hC).mono ?_); rintro e w1 ⟨rfl, hb⟩; exact hK _ _ rfl (Below.trans hC (hb.mono (Below.size hC))) hb)
            refine steps_cons (fun K' x hx w hC hd hK => ?_) ?_
            · obtain ⟨z0, z1, z2, z3, z4, z5, z6, z7, rfl⟩ := len8 hx
              obtain rfl : z3 = _ := hd 3 (by kernel_rfl)
              obtain rfl : z6 = _ := hd 6 (by kernel_rfl)
              clear hd hx
              simp only [putAll, Act.put, List.setIfInBounds_toArray, List.set_cons_zero, List.set_cons_succ] at hK ⊢
              have hbd := HBD.out
              go_simp
              exact hK _ _ rfl hC (Below.refl _ _)
            exact trivial
          case hzT =>
            intro x hx wT hC hd
            obtain ⟨z0, z1, z2, z3, z4, z5, z6, z7, rfl⟩ := len8 hx
            have e0 : z0 = _ := hd 0 (by omega)
            have e7 : z7 = _ := hd 7 (by omega)
            subst e0 e7
            clear hd hx
            have HWT := Lib.hid (show Below W.heap.size W wT from hC)
            clear hC
            simp only [putAll, Act.put, List.setIfInBounds_toArray, List.set_cons_zero, List.set_cons_succ]
            show wpList Tryz.prog _ _ (_ :: _ :: []) _ _
            cases DB with
            | true =>
              go_wp2_with (first | (go_at_call 103; (with_reducible refine (HD.out _ HWT.out).mono ?_); rintro e wz ⟨rfl, hP⟩; have HP := Lib.hid hP; clear hP))
              go_roundw
              case rel => exact ⟨j + 1, Nat.succ_le_of_lt HLT.out, by go_num, HOK.out (by trivial), by rw [HST.out]; exact HP.out⟩
              case measure => exact meas_lt HLT.out
            | false =>
              go_wp2_with (first | (go_at_call 103; (with_reducible refine (HD.out _ HWT.out).mono ?_); rintro e wz ⟨rfl, hP⟩; have HP := Lib.hid hP; clear hP))
              go_ret
              exact HFL.out (by trivial) _ _ HP.out
        · have hjl : L1.take j = L1 := List.take_of_length_le (by have := HN1.out; omega)
          rw [hjl] at HTR HSC
          have HT2 := HTR
          have HS2 := HSC
          clear hjl HTR HSC
          have hbw := (Kp.sch (S := fun q => q = w.heap.size) HBOXlt.out HBOXT.out HS2.out).2 w.heap.size rfl
          have HBOXn := Lib.hid (hbw.trans HBOX.out)
          clear hbw
          obtain ⟨y0, y1, y2, y3, _⟩ := Wi.row4 HBOXn.out
          have hkw : Kp Q w wr := ⟨Nat.le_trans HB1.out.size (Kp.sch HQ1.out HQT.out HS2.out).1, fun q hq => ((Kp.sch HQ1.out HQT.out HS2.out).2 q hq).trans (HB1.out.block q (HQL.out q hq))⟩
          have HPC := Lib.hid (HP2.out wr hkw)
          have hfd := fld3
          clear hkw
          go_wp2_with (first | (go_at_call 102; (with_reducible refine HPC.out.mono ?_); rintro e w3 ⟨rfl, hb⟩; have HSn := Lib.hid (HS2.out.after hb); clear hb y0 y1 y2 y3))
          clear HPC HBOXn hfd HS2
          have HS2 := HSn
          clear HSn
          go_loopw [11, 57] (fun _ iV wr => ∃ (j : Nat), j ≤ N2 ∧ iV = .int .i64 j ∧ (PS.each resJ (PS.each resT (PS.each resN S L0).1 L1).1 (L2.take j)).2 = true ∧ SchTo w1 wr b (PS.each resJ (PS.each resT (PS.each resN S L0).1 L1).1 (L2.take j)).1 T) (fun _ iV _ => N2 - (intOf iV).toNat)
          case atStart => exact ⟨0, Nat.zero_le _, rfl, rfl, HS2.out⟩
          case round =>
            obtain ⟨j, hj, rfl, htr, hsc⟩ := hrel
            have HTR := Lib.hid htr
            have HSC := Lib.hid hsc
            clear htr hsc
            by_cases hlt : j < N2
            · have HLT := Lib.hid hlt
              obtain ⟨x, hx⟩ : ∃ x, L2[j]? = some x := ⟨_, List.getElem?_eq_getElem (by have := HN2.out; omega)⟩
              have hst : PS.each resJ (PS.each resT (PS.each resN S L0).1 L1).1 (L2.take (j + 1)) = resJ (PS.each resJ (PS.each resT (PS.each resN S L0).1 L1).1 (L2.take j)).1 x := by rw [List.take_add_one, hx]; exact each_snoc _ _ _ x HTR.out
              have hfl : (resJ (PS.each resJ (PS.each resT (PS.each resN S L0).1 L1).1 (L2.take j)).1 x).2 = false → (PS.each resJ (PS.each resT (PS.each resN S L0).1 L1).1 L2).2 = false := fun q => each_fail resJ (PS.each resT (PS.each resN S L0).1 L1).1 hx HTR.out q
              have HINV := Lib.hid (HIV3.out j)
              obtain ⟨ba, off, u0, u1, u2, u3, hA, hbQ, h0, h1, h2, h3, hxI⟩ := (HAL2.out).at_ (k := j) hx
              rw [Nat.zero_add] at h0 h1 h2 h3
              have hzx := HZ2.out _ _ hx
              obtain ⟨xk, xn, xs, xA, xm, xc, rfl, rfl, rfl, rfl⟩ := hxI.parts
              have hkw : Kp Q w wr := ⟨Nat.le_trans HB1.out.size (Kp.sch HQ1.out HQT.out HSC.out).1, fun q hq => ((Kp.sch HQ1.out HQT.out HSC.out).2 q hq).trans (HB1.out.block q (HQL.out q hq))⟩
              have e0 := cellK h0 hkw hbQ
              have e1 := cellK h1 hkw hbQ
              have e2 := cellK h2 hkw hbQ
              have e3 := cellK h3 hkw hbQ
              clear h0 h1 h2 h3
              obtain ⟨T1, hs1, hu1, hf1⟩ := HSC.out
              have HKX := Lib.hid (fun X (hX : Below (wr.alloc (.cells #[.int .i64 xk, .int .i64 xn, .string xs, .slice xA xm xc] 111)).heap.size (wr.alloc (.cells #[.int .i64 xk, .int .i64 xn, .string xs, .slice xA xm xc] 111)) X) => (hkw.below HQL.out ((Below.refl wr.heap.size wr).alloc (Nat.le_refl _) (.cells #[.int .i64 xk, .int .i64 xn, .string xs, .slice xA xm xc] 111))).below HQL.out hX)
              have HSX := Lib.hid (fun X (hX : Below (wr.alloc (.cells #[.int .i64 xk, .int .i64 xn, .string xs, .slice xA xm xc] 111)).heap.size (wr.alloc (.cells #[.int .i64 xk, .int .i64 xn, .string xs, .slice xA xm xc] 111)) X) => hs1.below (((Below.refl wr.heap.size wr).alloc (Nat.le_refl _) (.cells #[.int .i64 xk, .int .i64 xn, .string xs, .slice xA xm xc] 111)).trans (hX.mono (by simp))))
              have HBX := Lib.hid (fun X (hX : Below (wr.alloc (.cells #[.int .i64 xk, .int .i64 xn, .string xs, .slice xA xm xc] 111)).heap.size (wr.alloc (.cells #[.int .i64 xk, .int .i64 xn, .string xs, .slice xA xm xc] 111)) X) => ((Below.refl wr.heap.size wr).alloc (Nat.le_refl _) (.cells #[.int .i64 xk, .int .i64 xn, .string xs, .slice xA xm xc] 111)).trans (hX.mono (by simp)))
              have HIW := Lib.hid (heap_alloc_new wr (.cells #[.int .i64 xk, .int .i64 xn, .string xs, .slice xA xm xc] 111))
              have HD := Lib.hid (fun X (hX : Below (wr.alloc (.cells #[.int .i64 xk, .int .i64 xn, .string xs, .slice xA xm xc] 111)).heap.size (wr.alloc (.cells #[.int .i64 xk, .int .i64 xn, .string xs, .slice xA xm xc] 111)) X) => (restoreJob_any (HSX.out X hX) HINV.out HQL.out hzx hxI (HKX.out X hX)).mono fun e w' q => (⟨q.1, SchTo.go hu1 hf1 (SchTo.from_ (HBX.out X hX) q.2)⟩ : e = .returned (.bool (resJ (PS.each resJ (PS.each resT (PS.each resN S L0).1 L1).1 (L2.take j)).1 x).2) ∧ SchTo w1 w' b (resJ (PS.each resJ (PS.each resT (PS.each resN S L0).1 L1).1 (L2.take j)).1 x).1 T))
              have HST := Lib.hid (congrArg Prod.fst hst)
              have HOK : Hid ((resJ (PS.each resJ (PS.each resT (PS.each resN S L0).1 L1).1 (L2.take j)).1 x).2 = true → (PS.each resJ (PS.each resT (PS.each resN S L0).1 L1).1 (L2.take (j + 1))).2 = true) := Lib.hid fun q => (congrArg Prod.snd hst).trans q
              have HFL : Hid ((resJ (PS.each resJ (PS.each resT (PS.each resN S L0).1 L1).1 (L2.take j)).1 x).2 = false → ∀ S2 W2, SchTo w1 W2 b S2 T → RestPost S t b T w (.returned (.bool false)) W2) := Lib.hid fun q S2 W2 hP => rest_no HB1.out (HFF3'.out HT1.out HT2.out (hfl q)) hP
              clear hst hfl
              generalize (resJ (PS.each resJ (PS.each resT (PS.each resN S L0).1 L1).1 (L2.take j)).1 x).2 = DB at *
              generalize (resJ (PS.each resJ (PS.each resT (PS.each resN S L0).1 L1).1 (L2.take j)).1 x).1 = S2 at *
              clear hu1 hf1 hs1 hkw hzx hxI hbQ HSX HBX HKX HSC HTR HINV hx
              rw [hA]
              cases DB with
              | true =>
                go_wp2_with (first | (go_at_call 105; (with_reducible refine (HD.out _ (Below.refl _ _)).mono ?_); rintro e wz ⟨rfl, hP⟩; have HP := Lib.hid hP; clear hP))
                go_roundw
                case rel => exact ⟨j + 1, Nat.succ_le_of_lt HLT.out, by go_num, HOK.out (by trivial), by rw [HST.out]; exact HP.out⟩
                case measure => exact meas_lt HLT.out
              | false =>
                go_wp2_with (first | (go_at_call 105; (with_reducible refine (HD.out _ (Below.refl _ _)).mono ?_); rintro e wz ⟨rfl, hP⟩; have HP := Lib.hid hP; clear hP))
                go_ret
                exact HFL.out (by trivial) _ _ HP.out
            · have hjl : L2.take j = L2 := List.take_of_length_le (by have := HN2.out; omega)
              rw [hjl] at HTR HSC
              have HT3 := HTR
              have HS3 := HSC
              clear hjl HTR HSC
              go_wp2_with fail
              go_loopw [13, 68] (fun _ iV wr => ∃ (j : Nat), j ≤ N0 ∧ iV = .int .i64 j ∧ (PS.each resD (PS.each resJ (PS.each resT (PS.each resN S L0).1 L1).1 L2).1 (L0.take j)).2 = true ∧ SchTo w1 wr b (PS.each resD (PS.each resJ (PS.each resT (PS.each resN S L0).1 L1).1 L2).1 (L0.take j)).1 T) (fun _ iV _ => N0 - (intOf iV).toNat)
              case atStart => exact ⟨0, Nat.zero_le _, rfl, rfl, HS3.out⟩
              case round =>
                obtain ⟨j, hj, rfl, htr, hsc⟩ := hrel
                have HTR := Lib.hid htr
                have HSC := Lib.hid hsc
                clear htr hsc
                by_cases hlt : j < N0
                · have HLT := Lib.hid hlt
                  obtain ⟨x, hx⟩ : ∃ x, L0[j]? = some x := ⟨_, List.getElem?_eq_getElem (by have := HN0.out; omega)⟩
                  have hst : PS.each resD (PS.each resJ (PS.each resT (PS.each resN S L0).1 L1).1 L2).1 (L0.take (j + 1)) = resD (PS.each resD (PS.each resJ (PS.each resT (PS.each resN S L0).1 L1).1 L2).1 (L0.take j)).1 x := by rw [List.take_add_one, hx]; exact each_snoc _ _ _ x HTR.out
                  have hfl : (resD (PS.each resD (PS.each resJ (PS.each resT (PS.each resN S L0).1 L1).1 L2).1 (L0.take j)).1 x).2 = false → (PS.each resD (PS.each resJ (PS.each resT (PS.each resN S L0).1 L1).1 L2).1 L0).2 = false := fun q => each_fail resD (PS.each resJ (PS.each resT (PS.each resN S L0).1 L1).1 L2).1 hx HTR.out q
                  have HINV := Lib.hid (HIV4.out j)
                  obtain ⟨ba, off, u0, u1, u2, u3, hA, hbQ, h0, h1, h2, h3, hxI⟩ := (HAL0.out).at_ (k := j) hx
                  rw [Nat.zero_add] at h0 h1 h2 h3
                  have hzx := HZ0.out _ _ hx
                  obtain ⟨xk, xn, xs, xA, xm, xc, rfl, rfl, rfl, rfl⟩ := hxI.parts
                  have hkw : Kp Q w wr := ⟨Nat.le_trans HB1.out.size (Kp.sch HQ1.out HQT.out HSC.out).1, fun q hq => ((Kp.sch HQ1.out HQT.out HSC.out).2 q hq).trans (HB1.out.block q (HQL.out q hq))⟩
                  have e0 := cellK h0 hkw hbQ
                  have e1 := cellK h1 hkw hbQ
                  have e2 := cellK h2 hkw hbQ
                  have e3 := cellK h3 hkw hbQ
                  clear h0 h1 h2 h3
                  obtain ⟨T1, hs1, hu1, hf1⟩ := HSC.out
                  have HKX := Lib.hid (fun X (hX : Below (wr.alloc (.cells #[.int .i64 xk, .int .i64 xn, .string xs, .slice xA xm xc] 111)).heap.size (wr.alloc (.cells #[.int .i64 xk, .int .i64 xn, .string xs, .slice xA xm xc] 111)) X) => (hkw.below HQL.out ((Below.refl wr.heap.size wr).alloc (Nat.le_refl _) (.cells #[.int .i64 xk, .int .i64 xn, .string xs, .slice xA xm xc] 111))).below HQL.out hX)
                  have HSX := Lib.hid (fun X (hX : Below (wr.alloc (.cells #[.int .i64 xk, .int .i64 xn, .string xs, .slice xA xm xc] 111)).heap.size (wr.alloc (.cells #[.int .i64 xk, .int .i64 xn, .string xs, .slice xA xm xc] 111)) X) => hs1.below (((Below.refl wr.heap.size wr).alloc (Nat.le_refl _) (.cells #[.int .i64 xk, .int .i64 xn, .string xs, .slice xA xm xc] 111)).trans (hX.mono (by simp))))
                  have HBX := Lib.hid (fun X (hX : Below (wr.alloc (.cells #[.int .i64 xk, .int .i64 xn, .string xs, .slice xA xm xc] 111)).heap.size (wr.alloc (.cells #[.int .i64 xk, .int .i64 xn, .string xs, .slice xA xm xc] 111)) X) => ((Below.refl wr.heap.size wr).alloc (Nat.le_refl _) (.cells #[.int .i64 xk, .int .i64 xn, .string xs, .slice xA xm xc] 111)).trans (hX.mono (by simp)))
                  have HIW := Lib.hid (heap_alloc_new wr (.cells #[.int .i64 xk, .int .i64 xn, .string xs, .slice xA xm xc] 111))
                  obtain ⟨v0, i0, q0⟩ := part_k HQL.out 0 hxI
                  obtain ⟨v1, i1, q1⟩ := part_k HQL.out 2 hxI
                  obtain ⟨k0, S0, A0, c0, rfl, es0, _⟩ := IsIt.form i0
                  obtain ⟨k1, S1, A1, c1, rfl, es1, _⟩ := IsIt.form i1
                  have hl0 := (hzx.part 0).txt
                  have HD := Lib.hid (fun X (hX : Below (wr.alloc (.cells #[.int .i64 xk, .int .i64 xn, .string xs, .slice xA xm xc] 111)).heap.size (wr.alloc (.cells #[.int .i64 xk, .int .i64 xn, .string xs, .slice xA xm xc] 111)) X) => (done_any (HSX.out X hX) HINV.out.ok ⟨2, PS.txt (PS.part x 0), [], 0, 0, 0, num (PS.part x 2)⟩ ⟨by show (PS.txt (PS.part x 0)).length ≤ _; omega, by show ([] : Tx).length ≤ _; simp, ⟨i64_0, i64_0, i64_0⟩⟩).mono fun e w' q => (⟨q.1, SchTo.go hu1 hf1 (SchTo.from_ (HBX.out X hX) q.2)⟩ : e = .returned (.bool (resD (PS.each resD (PS.each resJ (PS.each resT (PS.each resN S L0).1 L1).1 L2).1 (L0.take j)).1 x).2) ∧ SchTo w1 w' b (resD (PS.each resD (PS.each resJ (PS.each resT (PS.each resN S L0).1 L1).1 L2).1 (L0.take j)).1 x).1 T))
                  have hS0 := str_of es0
                  unfold cmV at HD
                  dsimp only at HD
                  rw [← hS0, str_nil] at HD
                  have HQ0 : Hid (∀ X, Below (wr.alloc (.cells #[.int .i64 xk, .int .i64 xn, .string xs, .slice xA xm xc] 111)).heap.size (wr.alloc (.cells #[.int .i64 xk, .int .i64 xn, .string xs, .slice xA xm xc] 111)) X → Calls Tryz.prog 102 #[.agg #[.int .i64 xk, .int .i64 xn, .string xs, .slice xA xm xc], .int .i64 0] X (RetBelow (.agg #[.int .i64 k0, .int .i64 (num (PS.part x 0)), .string S0, .slice A0 (els (PS.part x 0)).length c0]) X)) := Lib.hid (fun X hX => q0 X (HKX.out X hX))
                  have HQ1x : Hid (∀ X, Below (wr.alloc (.cells #[.int .i64 xk, .int .i64 xn, .string xs, .slice xA xm xc] 111)).heap.size (wr.alloc (.cells #[.int .i64 xk, .int .i64 xn, .string xs, .slice xA xm xc] 111)) X → Calls Tryz.prog 102 #[.agg #[.int .i64 xk, .int .i64 xn, .string xs, .slice xA xm xc], .int .i64 2] X (RetBelow (.agg #[.int .i64 k1, .int .i64 (num (PS.part x 2)), .string S1, .slice A1 (els (PS.part x 2)).length c1]) X)) := Lib.hid (fun X hX => q1 X (HKX.out X hX))
                  generalize num (PS.part x 0) = n0 at *
                  generalize num (PS.part x 2) = n1 at *
                  generalize (els (PS.part x 0)).length = m0 at *
                  generalize (els (PS.part x 2)).length = m1 at *
                  have HBD := Lib.hid (show ∀ W : World, (Instr.build 33 #[(0, .int .i64 2), (1, .string S0), (4, .int .i64 n1)]).run Tryz.prog W = .ok (.agg #[.int .i64 2, .string S0, .string ⟨#[]⟩, .int .i64 0, .int .i64 0, .int .i64 0, .int .i64 n1]) W from fun W => run_build W 33 _ _ (by kernel_rfl))
                  have HST := Lib.hid (congrArg Prod.fst hst)
                  have HOK : Hid ((resD (PS.each resD (PS.each resJ (PS.each resT (PS.each resN S L0).1 L1).1 L2).1 (L0.take j)).1 x).2 = true → (PS.each resD (PS.each resJ (PS.each resT (PS.each resN S L0).1 L1).1 L2).1 (L0.take (j + 1))).2 = true) := Lib.hid fun q => (congrArg Prod.snd hst).trans q
                  have HFL : Hid ((resD (PS.each resD (PS.each resJ (PS.each resT (PS.each resN S L0).1 L1).1 L2).1 (L0.take j)).1 x).2 = false → ∀ S2 W2, SchTo w1 W2 b S2 T → RestPost S t b T w (.returned (.bool false)) W2) := Lib.hid fun q S2 W2 hP => rest_no HB1.out ((congrArg Prod.snd (HR4.out HT1.out HT2.out HT3.out)).trans (hfl q)) hP
                  clear hst hfl
                  generalize (resD (PS.each resD (PS.each resJ (PS.each resT (PS.each resN S L0).1 L1).1 L2).1 (L0.take j)).1 x).2 = DB at *
                  generalize (resD (PS.each resD (PS.each resJ (PS.each resT (PS.each resN S L0).1 L1).1 L2).1 (L0.take j)).1 x).1 = S2 at *
                  clear hu1 hf1 hs1 hkw hzx hxI hbQ HSX HBX HKX HSC HTR HINV hx q0 q1 i0 i1 es0 es1 hl0 hS0
                  rw [hA]
                  go_wp2_with fail
                  generalize wr.alloc (.cells #[.int .i64 xk, .int .i64 xn, .string xs, .slice xA xm xc] 111) = W at *
                  have HIL := Lib.hid (Array.getElem?_eq_some_iff.1 HIW.out).1
                  refine wp_region_mono 8 [72, 73, 74, 75, 76, 77, 78, 79] (fun i u w => match i with | 0 => u = .pointer (some ⟨b, 0, none⟩) | 1 => u = .agg #[.int .i64 xk, .int .i64 xn, .string xs, .slice xA xm xc] | 2 => u = .agg #[.int .i64 k0, .int .i64 n0, .string S0, .slice A0 m0 c0] | 3 => u = .string S0 | 4 => u = .agg #[.int .i64 xk, .int .i64 xn, .string xs, .slice xA xm xc] | 5 => u = .agg #[.int .i64 k1, .int .i64 n1, .string S1, .slice A1 m1 c1] | 6 => u = .int .i64 n1 | 7 => u = .agg #[.int .i64 2, .string S0, .string ⟨#[]⟩, .int .i64 0, .int .i64 0, .int .i64 0, .int .i64 n1] | _ => True) (fun w => Below W.heap.size W w) [u72, u73, u74, u75, u76, u77, u78, u79] (by kernel_rfl) (by kernel_rfl) (by kernel_rfl) rfl (Below.refl _ _).drew ?hzV ?hzS ?hzT
                  case hzV =>
                    intro i v w w' hC h hB
                    exact match i, h with
                    | 0, h => h
                    | 1, h => h
                    | 2, h => h
                    | 3, h => h
                    | 4, h => h
                    | 5, h => h
                    | 6, h => h
                    | 7, h => h
                    | i + 8, h => trivial
                  case hzS =>
                    refine steps_cons (fun K' x hx w hC hd hK => ?_) ?_
                    · obtain ⟨z0, z1, z2, z3, z4, z5, z6, z7, rfl⟩ := len8 hx
                      clear hd hx
                      simp only [putAll, Act.put, List.setIfInBounds_toArray, List.set_cons_zero, List.set_cons_succ] at hK ⊢
                      go_simp
                      exact hK _ _ rfl hC (Below.refl _ _)
                    refine steps_cons (fun K' x hx w hC hd hK => ?_) ?_
                    · obtain ⟨z0, z1, z2, z3, z4, z5, z6, z7, rfl⟩ := len8 hx
                      clear hd hx
                      simp only [putAll, Act.put, List.setIfInBounds_toArray, List.set_cons_zero, List.set_cons_succ] at hK ⊢
                      obtain ⟨y0, y1, y2, y3, _⟩ := Wi.row4 ((Below.block hC _ HIL.out).trans HIW.out)
                      go_simp
                      exact hK _ _ rfl hC (Below.refl _ _)
                    refine steps_cons (fun K' x hx w hC hd hK => ?_) ?_
                    · obtain ⟨z0, z1, z2, z3, z4, z5, z6, z7, rfl⟩ := len8 hx
                      obtain rfl : z1 = _ := hd 1 (by kernel_rfl)
                      clear hd hx
                      simp only [putAll, Act.put, List.setIfInBounds_toArray, List.set_cons_zero, List.set_cons_succ] at hK ⊢
                      go_simp
                      (go_at_call 102; (with_reducible refine (HQ0.out _ hC).mono ?_); rintro e w1 ⟨rfl, hb⟩; exact hK _ _ rfl (Below.trans hC (hb.mono (Below.size hC))) hb)
                    refine steps_cons (fun K' x hx w hC hd hK => ?_) ?_
                    · obtain ⟨z0, z1, z2, z3, z4, z5, z6, z7, rfl⟩ := len8 hx
                      obtain rfl : z2 = _ := hd 2 (by kernel_rfl)
                      clear hd hx
                      simp only [putAll, Act.put, List.setIfInBounds_toArray, List.set_cons_zero, List.set_cons_succ] at hK ⊢
                      have hfd := fld2
                      go_simp
                      exact hK _ _ rfl hC (Below.refl _ _)
                    refine steps_cons (fun K' x hx w hC hd hK => ?_) ?_
                    · obtain ⟨z0, z1, z2, z3, z4, z5, z6, z7, rfl⟩ := len8 hx
                      clear hd hx
                      simp only [putAll, Act.put, List.setIfInBounds_toArray, List.set_cons_zero, List.set_cons_succ] at hK ⊢
                      obtain ⟨y0, y1, y2, y3, _⟩ := Wi.row4 ((Below.block hC _ HIL.out).trans HIW.out)
                      go_simp
                      exact hK _ _ rfl hC (Below.refl _ _)
                    refine steps_cons (fun K' x hx w hC hd hK => ?_) ?_
                    · obtain ⟨z0, z1, z2, z3, z4, z5, z6, z7, rfl⟩ := len8 hx
                      obtain rfl : z4 = _ := hd 4 (by kernel_rfl)
                      clear hd hx
                      simp only [putAll, Act.put, List.setIfInBounds_toArray, List.set_cons_zero, List.set_cons_succ] at hK ⊢
                      go_simp
                      (go_at_call 102; (with_reducible refine (HQ1x.out _ hC).mono ?_); rintro e w1 ⟨rfl, hb⟩; exact hK _ _ rfl (Below.trans hC (hb.mono (Below.size hC))) hb)
                    refine steps_cons (fun K' x hx w hC hd hK => ?_) ?_
                    · obtain ⟨z0, z1, z2, z3, z4, z5, z6, z7, rfl⟩ := len8 hx
                      obtain rfl : z5 = _ := hd 5 (by kernel_rfl)
                      clear hd hx
                      simp only [putAll, Act.put, List.setIfInBounds_toArray, List.set_cons_zero, List.set_cons_succ] at hK ⊢
                      have hfd := fld1
                      go_simp
                      exact hK _ _ rfl hC (Below.refl _ _)
                    refine steps_cons (fun K' x hx w hC hd hK => ?_) ?_
                    · obtain ⟨z0, z1, z2, z3, z4, z5, z6, z7, rfl⟩ := len8 hx
                      obtain rfl : z3 = _ := hd 3 (by kernel_rfl)
                      obtain rfl : z6 = _ := hd 6 (by kernel_rfl)
                      clear hd hx
                      simp only [putAll, Act.put, List.setIfInBounds_toArray, List.set_cons_zero, List.set_cons_succ] at hK ⊢
                      have hbd := HBD.out
                      go_simp
                      exact hK _ _ rfl hC (Below.refl _ _)
                    exact trivial
                  case hzT =>
                    intro x hx wT hC hd
                    obtain ⟨z0, z1, z2, z3, z4, z5, z6, z7, rfl⟩ := len8 hx
                    have e0 : z0 = _ := hd 0 (by omega)
                    have e7 : z7 = _ := hd 7 (by omega)
                    subst e0 e7
                    clear hd hx
                    have HWT := Lib.hid (show Below W.heap.size W wT from hC)
                    clear hC
                    simp only [putAll, Act.put, List.setIfInBounds_toArray, List.set_cons_zero, List.set_cons_succ]
                    show wpList Tryz.prog _ _ (_ :: _ :: []) _ _
                    cases DB with
                    | true =>
                      go_wp2_with (first | (go_at_call 103; (with_reducible refine (HD.out _ HWT.out).mono ?_); rintro e wz ⟨rfl, hP⟩; have HP := Lib.hid hP; clear hP))
                      go_roundw
                      case rel => exact ⟨j + 1, Nat.succ_le_of_lt HLT.out, by go_num, HOK.out (by trivial), by rw [HST.out]; exact HP.out⟩
                      case measure => exact meas_lt HLT.out
                    | false =>
                      go_wp2_with (first | (go_at_call 103; (with_reducible refine (HD.out _ HWT.out).mono ?_); rintro e wz ⟨rfl, hP⟩; have HP := Lib.hid hP; clear hP))
                      go_ret
                      exact HFL.out (by trivial) _ _ HP.out
                · have hjl : L0.take j = L0 := List.take_of_length_le (by have := HN0.out; omega)
                  rw [hjl] at HTR HSC
                  have HT4 := HTR
                  have HS4 := HSC
                  clear hjl HTR HSC
                  go_wp2_with fail
                  go_ret
                  exact rest_yes HB1.out ((HR4.out HT1.out HT2.out HT3.out).trans (Prod.ext rfl HT4.out)) (by have := HIV4.out N0; rwa [List.take_of_length_le (by have := HN0.out; omega)] at this) HS4.out
end Go.Proofs.YtphclpjekpdifaaGreat
