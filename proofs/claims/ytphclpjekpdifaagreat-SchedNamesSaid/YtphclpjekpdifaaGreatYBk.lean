import Derived.Test.YtphclpjekpdifaaGreatYRq
import Derived.Test.YtphclpjekpdifaaGreatY4
import Derived.Test.YtphclpjekpdifaaGreatY6
namespace Go.Proofs.YtphclpjekpdifaaGreat
set_option maxRecDepth 20000
open PS (Tx putM dropM setM findM Nod Ten Jb kOf St Cm Rp byName krow row mayM els num txt zI vOf done resN resT resJ resD nodI tenI jobI each)
open Wi.Pl (It oks deps cnts longs goods dec_iff)
open Go.Proofs.YtphclpjekpdifaaGreat.Nm (str)
open Go.Proofs.YtphclpjekpdifaaGreat.Vc (RetBelow fitB I64)
set_option linter.unusedVariables false
theorem doC_1 {X : St} {s : Tx} {a b c : Int} (hs : Nm.may s = true) (h0 : 0 ≤ a ∧ 0 ≤ b ∧ 0 ≤ c) (hf : findM X.N (kOf s) = none) (hl : X.N.length < 32) :
    PS.doC X ⟨1, s, [], a, b, c, 0⟩ = ({ X with N := setM (kOf s) ⟨s, a, b, c, 0, 0, 0, 0, false⟩ X.N }, PS.err 0) := by
  have hm : mayM ⟨1, s, [], a, b, c, 0⟩ = true := by
    unfold PS.mayM Wi.mayC Wi.fitF
    dsimp only
    rw [Nm.list_str, hs, if_pos (.inl rfl), fit_iff.2 h0]
    rfl
  unfold PS.doC
  rw [if_pos hm]
  dsimp only
  rw [if_pos rfl]
  unfold PS.setNode
  rw [hf]
  dsimp only
  rw [if_neg (by omega), if_pos (fit_iff.2 h0)]
  rfl
theorem doC_4 {X : St} {s : Tx} {a b c : Int} (hs : Nm.may s = true) (h0 : 0 ≤ a ∧ 0 ≤ b ∧ 0 ≤ c) (hf : findM X.T (kOf s) = none) (hl : X.T.length < 32) :
    PS.doC X ⟨4, s, [], a, b, c, 0⟩ = ({ X with T := setM (kOf s) ⟨s, a, b, c, 0, 0, 0, 0⟩ X.T }, PS.err 0) := by
  have hm : mayM ⟨4, s, [], a, b, c, 0⟩ = true := by
    unfold PS.mayM Wi.mayC Wi.fitF
    dsimp only
    rw [Nm.list_str, hs, if_pos (.inr rfl), fit_iff.2 h0]
    rfl
  unfold PS.doC
  rw [if_pos hm]
  dsimp only
  rw [if_neg (by decide), if_neg (by decide), if_neg (by decide), if_pos rfl]
  unfold PS.setTenant
  rw [hf]
  dsimp only
  rw [if_neg (by omega), if_pos (fit_iff.2 h0)]
  rfl
theorem doC_2 {X : St} {s : Tx} (d : Bool) {n : Nod} (hs : Nm.may s = true) (hf : findM X.N (kOf s) = some n) :
    PS.doC X ⟨2, s, [], 0, 0, 0, if d = true then 1 else 0⟩ = ({ X with N := setM (kOf n.s) ⟨n.s, n.a, n.b, n.c, n.x, n.y, n.z, n.n, d⟩ X.N }, PS.err 0) := by
  have hm : mayM ⟨2, s, [], 0, 0, 0, if d = true then 1 else 0⟩ = true := by
    unfold PS.mayM Wi.mayC Wi.fitF
    dsimp only
    rw [Nm.list_str, hs, if_neg (by decide), if_pos rfl]
    cases d <;> rfl
  unfold PS.doC
  rw [if_pos hm]
  dsimp only
  rw [if_neg (by decide), if_pos rfl]
  unfold PS.drain
  rw [hf]
  dsimp only
  cases d <;> rfl
theorem doC_7 {X : St} {s on : Tx} {n : Int} {j : Jb} (hs : Nm.may s = true) (ho : Nm.may on = true) (hn : n = 1 ∨ n = 2) (hf : findM X.J (kOf s) = some j) (hk : kOf j.on = kOf on) :
    PS.doC X ⟨7, s, on, 0, 0, 0, n⟩ = ({ X with J := setM (kOf j.s) ⟨j.s, j.t, j.p, j.q, j.r, j.on, n⟩ X.J }, PS.err 0) := by
  have hm : mayM ⟨7, s, on, 0, 0, 0, n⟩ = true := by
    unfold PS.mayM Wi.mayC Wi.fitF
    dsimp only
    rw [Nm.list_str, hs, if_neg (by decide), if_neg (by decide), if_neg (by decide), if_neg (by decide), if_pos rfl, Nm.list_str, ho]
    rcases hn with rfl | rfl <;> rfl
  unfold PS.doC
  rw [if_pos hm]
  dsimp only
  rw [if_neg (by decide), if_neg (by decide), if_neg (by decide), if_neg (by decide), if_neg (by decide), if_neg (by decide), if_pos rfl]
  unfold PS.report
  rw [hf]
  dsimp only
  rw [if_pos hk]
  rfl
theorem each_N : ∀ (L : List Nod) (X : St), Inv X → X.J = [] → (∀ n ∈ L, Nm.may n.s = true ∧ (0 ≤ n.a ∧ 0 ≤ n.b ∧ 0 ≤ n.c) ∧ (I64 n.a ∧ I64 n.b ∧ I64 n.c)) → L.Pairwise (fun n m => kOf n.s ≠ kOf m.s) → (∀ n ∈ L, findM X.N (kOf n.s) = none) → X.N.length + L.length ≤ 32 →
    ∃ Y, each resN X (L.map fun n => nodI (row n)) = (Y, true) ∧ Inv Y ∧ Y.J = [] ∧ Y.T = X.T ∧ (∀ n ∈ L, findM Y.N (kOf n.s) = some ⟨n.s, n.a, n.b, n.c, 0, 0, 0, 0, false⟩) ∧ (∀ k, (∀ n ∈ L, kOf n.s ≠ k) → findM Y.N k = findM X.N k)
  | [], X, hI, hJ, _, _, _, _ => ⟨X, rfl, hI, hJ, rfl, fun n h => (by cases h), fun k _ => rfl⟩
  | n :: r, X, hI, hJ, ha, hp, hf, hl => by
    have hn := ha n List.mem_cons_self
    rw [List.pairwise_cons] at hp
    rw [List.length_cons] at hl
    have hf0 := hf n List.mem_cons_self
    have hd := doC_1 hn.1 hn.2.1 hf0 (by omega)
    have hr : resN X (nodI (row n)) = ({ X with N := setM (kOf n.s) ⟨n.s, n.a, n.b, n.c, 0, 0, 0, 0, false⟩ X.N }, true) := by
      show done X ⟨1, n.s, [], n.a, n.b, n.c, 0⟩ = _
      unfold PS.done
      rw [hd]; rfl
    have hI2 := hI.newN hf0 (by omega) hn.1 hn.2.1 hn.2.2 false
    obtain ⟨Y, e1, e2, e3, e4, e5, e6⟩ := each_N r _ hI2 hJ (fun m hm => ha m (List.mem_cons_of_mem _ hm)) hp.2 (fun m hm => by
      show findM (setM _ _ X.N) _ = _
      rw [find_setM hI.sN, if_neg (fun e => hp.1 m hm e.symm)]
      exact hf m (List.mem_cons_of_mem _ hm)) (by
      show (setM _ _ X.N).length + _ ≤ 32
      rw [setM_len_none _ hf0]; omega)
    refine ⟨Y, ?_, e2, e3, e4, ?_, ?_⟩
    · rw [List.map_cons, PS.each, hr, if_pos rfl]
      exact e1
    · intro m hm
      rcases List.mem_cons.1 hm with rfl | hm
      · rw [e6 _ (fun x hx e => hp.1 x hx e.symm)]
        show findM (setM _ _ X.N) _ = _
        rw [find_setM hI.sN, if_pos rfl]
      · exact e5 m hm
    · intro k hk
      rw [e6 k (fun x hx => hk x (List.mem_cons_of_mem _ hx))]
      show findM (setM _ _ X.N) _ = _
      rw [find_setM hI.sN, if_neg (fun e => hk n List.mem_cons_self e.symm)]
theorem each_T : ∀ (L : List Ten) (X : St), Inv X → X.J = [] → (∀ n ∈ L, Nm.may n.s = true ∧ (0 ≤ n.a ∧ 0 ≤ n.b ∧ 0 ≤ n.c) ∧ (I64 n.a ∧ I64 n.b ∧ I64 n.c)) → L.Pairwise (fun n m => kOf n.s ≠ kOf m.s) → (∀ n ∈ L, findM X.T (kOf n.s) = none) → X.T.length + L.length ≤ 32 →
    ∃ Y, each resT X (L.map tenI) = (Y, true) ∧ Inv Y ∧ Y.J = [] ∧ Y.N = X.N ∧ (∀ n ∈ L, findM Y.T (kOf n.s) = some ⟨n.s, n.a, n.b, n.c, 0, 0, 0, 0⟩) ∧ (∀ k, (∀ n ∈ L, kOf n.s ≠ k) → findM Y.T k = findM X.T k)
  | [], X, hI, hJ, _, _, _, _ => ⟨X, rfl, hI, hJ, rfl, fun n h => (by cases h), fun k _ => rfl⟩
  | n :: r, X, hI, hJ, ha, hp, hf, hl => by
    have hn := ha n List.mem_cons_self
    rw [List.pairwise_cons] at hp
    rw [List.length_cons] at hl
    have hf0 := hf n List.mem_cons_self
    have hd := doC_4 hn.1 hn.2.1 hf0 (by omega)
    have hr : resT X (tenI n) = ({ X with T := setM (kOf n.s) ⟨n.s, n.a, n.b, n.c, 0, 0, 0, 0⟩ X.T }, true) := by
      show done X ⟨4, n.s, [], n.a, n.b, n.c, 0⟩ = _
      unfold PS.done
      rw [hd]; rfl
    have hI2 := hI.newT hf0 (by omega) hn.1 hn.2.1 hn.2.2
    obtain ⟨Y, e1, e2, e3, e4, e5, e6⟩ := each_T r _ hI2 hJ (fun m hm => ha m (List.mem_cons_of_mem _ hm)) hp.2 (fun m hm => by
      show findM (setM _ _ X.T) _ = _
      rw [find_setM hI.sT, if_neg (fun e => hp.1 m hm e.symm)]
      exact hf m (List.mem_cons_of_mem _ hm)) (by
      show (setM _ _ X.T).length + _ ≤ 32
      rw [setM_len_none _ hf0]; omega)
    refine ⟨Y, ?_, e2, e3, e4, ?_, ?_⟩
    · rw [List.map_cons, PS.each, hr, if_pos rfl]
      exact e1
    · intro m hm
      rcases List.mem_cons.1 hm with rfl | hm
      · rw [e6 _ (fun x hx e => hp.1 x hx e.symm)]
        show findM (setM _ _ X.T) _ = _
        rw [find_setM hI.sT, if_pos rfl]
      · exact e5 m hm
    · intro k hk
      rw [e6 k (fun x hx => hk x (List.mem_cons_of_mem _ hx))]
      show findM (setM _ _ X.T) _ = _
      rw [find_setM hI.sT, if_neg (fun e => hk n List.mem_cons_self e.symm)]
theorem each_D : ∀ (L : List Nod) (X : St), Inv X → L.Pairwise (fun n m => kOf n.s ≠ kOf m.s) → (∀ n ∈ L, Nm.may n.s = true) → (∀ n ∈ L, ∃ m, findM X.N (kOf n.s) = some m ∧ m.s = n.s) →
    ∃ Y, each resD X (L.map fun n => nodI (row n)) = (Y, true) ∧ Inv Y ∧ Y.J = X.J ∧ Y.T = X.T ∧ (∀ n ∈ L, ∀ m, findM X.N (kOf n.s) = some m → findM Y.N (kOf n.s) = some ⟨m.s, m.a, m.b, m.c, m.x, m.y, m.z, m.n, n.d⟩) ∧ (∀ k, (∀ n ∈ L, kOf n.s ≠ k) → findM Y.N k = findM X.N k)
  | [], X, hI, _, _, _ => ⟨X, rfl, hI, rfl, rfl, fun n h => (by cases h), fun k _ => rfl⟩
  | n :: r, X, hI, hp, ha, hf => by
    rw [List.pairwise_cons] at hp
    obtain ⟨m, hm, hs⟩ := hf n List.mem_cons_self
    have hd := doC_2 n.d (ha n List.mem_cons_self) hm
    rw [hs] at hd
    have hi0 : I64 0 := i64_0
    have hi1 : I64 (if n.d = true then 1 else 0) := by unfold I64; split <;> omega
    have hI2 := hI.doC ⟨2, n.s, [], 0, 0, 0, if n.d = true then 1 else 0⟩ ⟨hi0, hi0, hi1, hi0⟩
    rw [hd] at hI2
    have hr : resD X (nodI (row n)) = ({ X with N := setM (kOf n.s) ⟨n.s, m.a, m.b, m.c, m.x, m.y, m.z, m.n, n.d⟩ X.N }, true) := by
      show done X ⟨2, n.s, [], 0, 0, 0, if n.d = true then 1 else 0⟩ = _
      unfold PS.done
      rw [hd]; rfl
    obtain ⟨Y, e1, e2, e3, e4, e5, e6⟩ := each_D r _ hI2 hp.2 (fun m hm => ha m (List.mem_cons_of_mem _ hm)) (fun x hx => by
      show ∃ m, findM (setM _ _ X.N) _ = _ ∧ _
      rw [find_setM hI.sN, if_neg (fun e => hp.1 x hx e.symm)]
      exact hf x (List.mem_cons_of_mem _ hx))
    refine ⟨Y, ?_, e2, e3, e4, ?_, ?_⟩
    · rw [List.map_cons, PS.each, hr, if_pos rfl]
      exact e1
    · intro x hx y hy
      rcases List.mem_cons.1 hx with rfl | hx
      · rw [e6 _ (fun z hz e => hp.1 z hz e.symm)]
        show findM (setM _ _ X.N) _ = _
        rw [hm] at hy
        injection hy with hy
        subst hy
        rw [find_setM hI.sN, if_pos rfl, hs]
      · refine e5 x hx y ?_
        show findM (setM _ _ X.N) _ = _
        rw [find_setM hI.sN, if_neg (fun e => hp.1 x hx e.symm)]
        exact hy
    · intro k hk
      rw [e6 k (fun x hx => hk x (List.mem_cons_of_mem _ hx))]
      show findM (setM _ _ X.N) _ = _
      rw [find_setM hI.sN, if_neg (fun e => hk n List.mem_cons_self e.symm)]
structure Sk (S X : St) : Prop where
  n : ∀ k n, findM S.N k = some n → ∃ m, findM X.N k = some m ∧ m.s = n.s ∧ m.a = n.a ∧ m.b = n.b ∧ m.c = n.c ∧ m.d = false
  n0 : ∀ k, findM S.N k = none → findM X.N k = none
  t : ∀ k n, findM S.T k = some n → ∃ m, findM X.T k = some m ∧ m.s = n.s ∧ m.a = n.a ∧ m.b = n.b ∧ m.c = n.c
  t0 : ∀ k, findM S.T k = none → findM X.T k = none
def sL (g : Jb → Bool) (f : Jb → Int) (L : List Jb) : Int := Vc.sumI ((L.filter g).map f)
theorem sL_cons (g : Jb → Bool) (f : Jb → Int) (j : Jb) (L : List Jb) : sL g f (j :: L) = (if g j = true then f j else 0) + sL g f L := by
  unfold sL
  rw [List.filter_cons]
  split
  · rfl
  · omega
theorem sL_append (g : Jb → Bool) (f : Jb → Int) (L M : List Jb) : sL g f (L ++ M) = sL g f L + sL g f M := by
  unfold sL
  rw [List.filter_append, List.map_append, Vc.sumI_append]
theorem sL_nonneg (g : Jb → Bool) (f : Jb → Int) : ∀ (L : List Jb), (∀ j ∈ L, 0 ≤ f j) → 0 ≤ sL g f L
  | [], _ => by simp [sL, Vc.sumI]
  | j :: r, h => by
    rw [sL_cons]
    have := sL_nonneg g f r fun x hx => h x (List.mem_cons_of_mem _ hx)
    have := h j List.mem_cons_self
    split <;> omega
theorem sL_perm (g : Jb → Bool) (f : Jb → Int) {L M : List Jb} (h : L.Perm M) : sL g f L = sL g f M := sumI_perm ((h.filter g).map f)
theorem sL_is (g : Jb → Bool) (f : Jb → Int) (l : List (Tx × Jb)) : sL g f (l.map (·.2)) = sumJ g f l := sumJ_list g f l
theorem Inv.job_of {S : St} (h : Inv S) {j : Jb} (hj : j ∈ S.J.map (·.2)) : JInv S (kOf j.s) j ∧ findM S.J (kOf j.s) = some j := by
  obtain ⟨e, he, rfl⟩ := List.mem_map.1 hj
  have h1 := mem_find h.sJ he
  have h2 := h.j _ _ h1
  have hk := h2.key
  rw [hk] at h1 h2
  exact ⟨h2, h1⟩
theorem Inv.pairJ {S : St} (h : Inv S) : (S.J.map (·.2)).Pairwise (fun i j => kOf i.s ≠ kOf j.s) := by
  rw [List.pairwise_map]
  refine List.Pairwise.imp_of_mem (fun {a b} ha hb hab e => ?_) h.sJ
  rw [← (h.j _ _ (mem_find h.sJ ha)).key, ← (h.j _ _ (mem_find h.sJ hb)).key] at e
  rw [e, bb_irrefl] at hab
  cases hab
theorem each_J {S : St} (hS : Inv S) : ∀ (L : List Jb) (X : St), Inv X → Sk S X → (L ++ X.J.map (·.2)).Perm (S.J.map (·.2)) →
    ∃ Y, each resJ X (L.map jobI) = (Y, true) ∧ Inv Y ∧ Sk S Y ∧ (Y.J.map (·.2)).Perm (S.J.map (·.2))
  | [], X, hI, hk, hp => ⟨X, rfl, hI, hk, hp⟩
  | j :: r, X, hI, hk, hp => by
    have hmem : ∀ x ∈ j :: r ++ X.J.map (·.2), x ∈ S.J.map (·.2) := fun x hx => hp.mem_iff.1 hx
    obtain ⟨hj, hjf⟩ := hS.job_of (hmem j (by simp))
    obtain ⟨n, hn, hns⟩ := hj.n
    obtain ⟨t, ht, hts⟩ := hj.t
    obtain ⟨m, hm, ms, ma, mb, mc, md⟩ := hk.n _ _ hn
    obtain ⟨u, hu, us, ua, ub, uc⟩ := hk.t _ _ ht
    have hin := hS.n _ _ hn
    have hit := hS.t _ _ ht
    have him := hI.n _ _ hm
    have hiu := hI.t _ _ hu
    have hpos : ∀ x ∈ S.J.map (·.2), 0 ≤ x.p ∧ 0 ≤ x.q ∧ 0 ≤ x.r := fun x hx => (hS.job_of hx).1.p0
    have hsum : ∀ (g : Jb → Bool) (f : Jb → Int), g j = true → (∀ x ∈ S.J.map (·.2), 0 ≤ f x) → sumJ g f X.J + f j ≤ sumJ g f S.J := fun g f hg hf => by
      rw [← sL_is g f S.J, ← sL_perm g f hp, sL_append, sL_cons, if_pos hg, sL_is]
      have := sL_nonneg g f r fun x hx => hf x (hmem x (by simp [hx]))
      omega
    have hon : onB m.s j = true := by rw [ms, hns]; exact onB_self j
    have hof : ofB u.s j = true := by rw [us, hts]; exact ofB_self j
    have a1 := hsum _ _ hon fun x hx => (hpos x hx).1
    have a2 := hsum _ _ hon fun x hx => (hpos x hx).2.1
    have a3 := hsum _ _ hon fun x hx => (hpos x hx).2.2
    have b1 := hsum _ _ hof fun x hx => (hpos x hx).1
    have b2 := hsum _ _ hof fun x hx => (hpos x hx).2.1
    have b3 := hsum _ _ hof fun x hx => (hpos x hx).2.2
    rw [← him.ux, ms, ← hin.ux] at a1
    rw [← him.uy, ms, ← hin.uy] at a2
    rw [← him.uz, ms, ← hin.uz] at a3
    rw [← hiu.ux, us, ← hit.ux] at b1
    rw [← hiu.uy, us, ← hit.uy] at b2
    rw [← hiu.uz, us, ← hit.uz] at b3
    have hcm := hI.cntN hm
    have hcu := hI.cntT hu
    have hp0 := hj.p0
    have f1 := hin.fx; have f2 := hin.fy; have f3 := hin.fz
    have g1 := hit.fx; have g2 := hit.fy; have g3 := hit.fz
    have iu := hiu.i
    have im := him.i
    have hfree : findM X.J (kOf j.s) = none := by
      cases hx : findM X.J (kOf j.s) with
      | none => rfl
      | some x =>
        exfalso
        have hpw := (hp.pairwise_iff (R := fun i j => kOf i.s ≠ kOf j.s) (fun {a b} h e => h e.symm)).2 hS.pairJ
        rw [List.pairwise_append] at hpw
        exact hpw.2.2 j (by simp) x (List.mem_map.2 ⟨_, findM_mem hx, rfl⟩) (hI.j _ _ hx).key
    have hlen : X.J.length < 128 := by
      have := hp.length_eq
      simp only [List.length_append, List.length_cons, List.length_map] at this
      have := hS.lJ
      omega
    have ho : Nm.may j.on = true := by rw [← hns]; exact hin.may
    have hto : Nm.may j.t = true := by rw [← hts]; exact hit.may
    have hmm : mayM ⟨5, j.s, j.t, j.p, j.q, j.r, 0⟩ = true := by
      unfold PS.mayM Wi.mayC Wi.fitF
      dsimp only
      rw [Nm.list_str, hj.may, if_neg (by decide), if_neg (by decide), if_neg (by decide), if_pos rfl, Nm.list_str, hto, fit_iff.2 hp0]
      rfl
    have hrf : PS.refusal X j.s j.t j.p j.q j.r = 0 := by
      unfold PS.refusal
      rw [hfree, hu]
      dsimp only
      rw [if_neg (by simp), if_neg (by omega)]
      unfold PS.refuseT
      rw [if_pos (in3_iff.2 (by unfold I64 at iu ⊢; omega)), if_pos (fit_iff.2 (by omega))]
    have hnt : ntakes (row m) j.p j.q j.r = true := by
      have q1 := fit_iff.2 (show 0 ≤ m.a ∧ 0 ≤ m.b ∧ 0 ≤ m.c by omega)
      have q2 := fit_iff.2 (show 0 ≤ m.x ∧ 0 ≤ m.y ∧ 0 ≤ m.z by omega)
      have q3 := fit_iff.2 (show m.x ≤ m.a ∧ m.y ≤ m.b ∧ m.z ≤ m.c by omega)
      have q4 := fit_iff.2 (show m.x + j.p ≤ m.a ∧ m.y + j.q ≤ m.b ∧ m.z + j.r ≤ m.c by omega)
      unfold ntakes nmay PS.row
      dsimp only
      rw [md, fit_iff.2 hp0, him.may, q1, q2, q3, q4]
      rfl
    obtain ⟨v, cj⟩ := canJ_of hI hj.may hj.i hrf hm hnt
    have hv : v = u := by have := cj.ten; rw [hu] at this; injection this with this; exact this.symm
    subst hv
    have hcr := cj.create hI
    have hms : m.s = j.on := ms.trans hns
    have hus : v.s = j.t := us.trans hts
    have hkm : kOf m.s = kOf j.on := by rw [hms]
    have hku : kOf v.s = kOf j.t := by rw [hus]
    obtain ⟨Z, hZ⟩ : ∃ Z : St, Z = ⟨setM (kOf m.s) ⟨m.s, m.a, m.b, m.c, m.x + j.p, m.y + j.q, m.z + j.r, m.n + 1, m.d⟩ X.N, setM (kOf v.s) ⟨v.s, v.a, v.b, v.c, v.x + j.p, v.y + j.q, v.z + j.r, v.n + 1⟩ X.T, setM (kOf j.s) j X.J⟩ := ⟨_, rfl⟩
    have hr : resJ X (jobI j) = (Z, true) := by
      show (match findM X.N (kOf j.on) with
        | none => (X, false)
        | some n => if mayM ⟨5, j.s, j.t, j.p, j.q, j.r, 0⟩ = true ∧ PS.refusal X j.s j.t j.p j.q j.r = 0 ∧ ntakes (row n) j.p j.q j.r = true then
            (if j.st = 0 then (PS.create X j.s j.t j.p j.q j.r n, true) else done (PS.create X j.s j.t j.p j.q j.r n) ⟨7, j.s, j.on, 0, 0, 0, j.st⟩) else (X, false)) = (Z, true)
      rw [hm]
      dsimp only
      rw [if_pos ⟨hmm, hrf, hnt⟩, hcr, hms, hus]
      by_cases hst : j.st = 0
      · rw [if_pos hst, hZ, hms, hus]
        have : (⟨j.s, j.t, j.p, j.q, j.r, j.on, 0⟩ : Jb) = j := by rw [← hst]
        rw [this]
      · rw [if_neg hst]
        unfold PS.done
        rw [doC_7 (j := ⟨j.s, j.t, j.p, j.q, j.r, j.on, 0⟩) hj.may ho (by have := hj.st; omega) (by show findM (setM _ _ X.J) _ = _; rw [find_setM hI.sJ, if_pos rfl]) rfl]
        dsimp only
        rw [set_set hI.sJ, hZ, hms, hus]
        rfl
    have hI2 : Inv Z := by
      have := hI.resJ (jobI j) ⟨hj.i, by show I64 j.st; have := hj.st; unfold I64; omega⟩
      rw [hr] at this
      exact this
    have hk2 : Sk S Z := by
      rw [hZ]
      refine ⟨fun k x hx => ?_, fun k hx => ?_, fun k x hx => ?_, fun k hx => ?_⟩
      · show ∃ y, findM (setM _ _ X.N) k = _ ∧ _
        rw [find_setM hI.sN]
        obtain ⟨y, hy, q⟩ := hk.n _ _ hx
        split
        · rename_i e
          rw [e, hkm, hm] at hy
          injection hy with hy
          subst hy
          exact ⟨_, rfl, q⟩
        · exact ⟨y, hy, q⟩
      · show findM (setM _ _ X.N) k = _
        rw [find_setM hI.sN, if_neg (fun e => by
          have := hk.n0 k hx
          rw [e, hkm, hm] at this; cases this)]
        exact hk.n0 k hx
      · show ∃ y, findM (setM _ _ X.T) k = _ ∧ _
        rw [find_setM hI.sT]
        obtain ⟨y, hy, q⟩ := hk.t _ _ hx
        split
        · rename_i e
          rw [e, hku, hu] at hy
          injection hy with hy
          subst hy
          exact ⟨_, rfl, q⟩
        · exact ⟨y, hy, q⟩
      · show findM (setM _ _ X.T) k = _
        rw [find_setM hI.sT, if_neg (fun e => by
          have := hk.t0 k hx
          rw [e, hku, hu] at this; cases this)]
        exact hk.t0 k hx
    have hp2 : (r ++ Z.J.map (·.2)).Perm (S.J.map (·.2)) := by
      refine List.Perm.trans ?_ hp
      have h1 := (set_perm (kOf j.s) j X.J).map (·.2)
      rw [drop_none hfree, List.map_cons] at h1
      rw [hZ]
      exact (h1.append_left r).trans List.perm_middle
    obtain ⟨Y, e1, e2, e3, e4⟩ := each_J hS r Z hI2 hk2 hp2
    refine ⟨Y, ?_, e2, e3, e4⟩
    rw [List.map_cons, PS.each, hr, if_pos rfl]
    exact e1
theorem jobs_ext {A B : List (Tx × Jb)} (hA : SL A) (hB : SL B) (ka : ∀ k j, findM A k = some j → k = kOf j.s) (kb : ∀ k j, findM B k = some j → k = kOf j.s) (h : (A.map (·.2)).Perm (B.map (·.2))) : A = B := by
  have one : ∀ {A B : List (Tx × Jb)}, SL A → SL B → (∀ k j, findM A k = some j → k = kOf j.s) → (∀ k j, findM B k = some j → k = kOf j.s) → (A.map (·.2)).Perm (B.map (·.2)) → ∀ k j, findM A k = some j → findM B k = some j := fun {A B} hA hB ka kb h k j hk => by
    obtain ⟨e, he, q⟩ := List.mem_map.1 (h.mem_iff.1 (List.mem_map.2 ⟨_, findM_mem hk, rfl⟩))
    have h1 := mem_find hB he
    have h2 := kb _ _ h1
    rw [q] at h1 h2
    rw [ka k j hk, ← h2]
    exact h1
  refine hA.ext hB fun k => ?_
  cases ha : findM A k with
  | some j => exact (one hA hB ka kb h k j ha).symm
  | none =>
    cases hb : findM B k with
    | none => rfl
    | some j => rw [one hB hA kb ka h.symm k j hb] at ha; cases ha
theorem restore_save {S : St} (h : Inv S) : PS.restore PS.s0 (PS.item S) = (S, true) := by
  have hN : ∀ n ∈ byName S.N, ∃ k, findM S.N k = some n := fun n hn => byName_mem hn
  have hT : ∀ n ∈ byName S.T, ∃ k, findM S.T k = some n := fun n hn => byName_mem hn
  have pN : (byName S.N).Pairwise (fun n m => kOf n.s ≠ kOf m.s) := byName_pair h.sN (fun n => kOf n.s) fun k n q => (h.n _ _ q).key
  have pT : (byName S.T).Pairwise (fun n m => kOf n.s ≠ kOf m.s) := byName_pair h.sT (fun n => kOf n.s) fun k n q => (h.t _ _ q).key
  have lN : (byName S.N).length = S.N.length := by rw [(byName_perm h.sN).length_eq, List.length_map]
  have lT : (byName S.T).length = S.T.length := by rw [(byName_perm h.sT).length_eq, List.length_map]
  obtain ⟨Y1, r1, i1, j1, t1, f1, g1⟩ := each_N (byName S.N) PS.s0 inv_s0 rfl (fun n hn => by
    obtain ⟨k, hk⟩ := hN n hn
    have q := h.n _ _ hk
    have c := h.cntN hk
    have := q.fx; have := q.fy; have := q.fz
    exact ⟨q.may, by omega, q.i⟩) pN (fun n _ => rfl) (by rw [lN]; have := h.lN; simpa [PS.s0] using this)
  obtain ⟨Y2, r2, i2, j2, n2, f2, g2⟩ := each_T (byName S.T) Y1 i1 j1 (fun n hn => by
    obtain ⟨k, hk⟩ := hT n hn
    have q := h.t _ _ hk
    have c := h.cntT hk
    have := q.fx; have := q.fy; have := q.fz
    exact ⟨q.may, by omega, q.i⟩) pT (fun n _ => by rw [t1]; rfl) (by rw [lT, t1]; have := h.lT; simpa [PS.s0] using this)
  have k2 : Sk S Y2 := by
    refine ⟨fun k n hn => ?_, fun k hn => ?_, fun k n hn => ?_, fun k hn => ?_⟩
    · have q := f1 n (find_byName h.sN hn)
      rw [← (h.n _ _ hn).key] at q
      rw [n2]
      exact ⟨_, q, rfl, rfl, rfl, rfl, rfl⟩
    · rw [n2, g1 k fun n hn' e => by
        obtain ⟨k', hk'⟩ := hN n hn'
        rw [(h.n _ _ hk').key, e, hn] at hk'; cases hk']
      rfl
    · have q := f2 n (find_byName h.sT hn)
      rw [← (h.t _ _ hn).key] at q
      exact ⟨_, q, rfl, rfl, rfl, rfl⟩
    · rw [g2 k (fun n hn' e => by
        obtain ⟨k', hk'⟩ := hT n hn'
        rw [(h.t _ _ hk').key, e, hn] at hk'; cases hk'), t1]
      rfl
  obtain ⟨Y3, r3, i3, k3, p3⟩ := each_J h (byName S.J) Y2 i2 k2 (by rw [j2, List.map_nil, List.append_nil]; exact byName_perm h.sJ)
  have eJ : Y3.J = S.J := jobs_ext i3.sJ h.sJ (fun k j q => (i3.j _ _ q).key) (fun k j q => (h.j _ _ q).key) p3
  obtain ⟨Y4, r4, i4, j4, t4, f4, g4⟩ := each_D (byName S.N) Y3 i3 pN (fun n hn => by
    obtain ⟨k, hk⟩ := hN n hn
    exact (h.n _ _ hk).may) (fun n hn => by
    obtain ⟨k, hk⟩ := hN n hn
    obtain ⟨m, q1, q2, _⟩ := k3.n _ _ hk
    rw [(h.n _ _ hk).key] at q1
    exact ⟨m, q1, q2⟩)
  have eT : Y4.T = S.T := by
    rw [t4]
    refine i3.sT.ext h.sT fun k => ?_
    cases hk : findM S.T k with
    | none => exact k3.t0 k hk
    | some n =>
      obtain ⟨m, q, q1, q2, q3, q4⟩ := k3.t _ _ hk
      rw [q]
      have a := i3.t _ _ q
      have b := h.t _ _ hk
      have c1 := a.ux; have c2 := a.uy; have c3 := a.uz; have c4 := a.cnt
      rw [eJ, q1] at c1 c2 c3 c4
      rw [← b.ux] at c1
      rw [← b.uy] at c2
      rw [← b.uz] at c3
      rw [← b.cnt] at c4
      obtain ⟨_, _, _, _, _, _, _, _⟩ := m
      obtain ⟨_, _, _, _, _, _, _, _⟩ := n
      dsimp only at *
      subst q1 q2 q3 q4 c1 c2 c3 c4
      rfl
  have eN : Y4.N = S.N := by
    refine i4.sN.ext h.sN fun k => ?_
    cases hk : findM S.N k with
    | none =>
      rw [g4 k fun n hn' e => by
        obtain ⟨k', hk'⟩ := hN n hn'
        rw [(h.n _ _ hk').key, e, hk] at hk'; cases hk']
      exact k3.n0 k hk
    | some n =>
      obtain ⟨m, q, q1, q2, q3, q4, q5⟩ := k3.n _ _ hk
      have hkey := (h.n _ _ hk).key
      have q6 := f4 n (find_byName h.sN hk) m (by rw [← hkey]; exact q)
      rw [← hkey] at q6
      rw [q6]
      have a := i3.n _ _ q
      have b := h.n _ _ hk
      have c1 := a.ux; have c2 := a.uy; have c3 := a.uz; have c4 := a.cnt
      rw [eJ, q1] at c1 c2 c3 c4
      rw [← b.ux] at c1
      rw [← b.uy] at c2
      rw [← b.uz] at c3
      rw [← b.cnt] at c4
      obtain ⟨_, _, _, _, _, _, _, _, _⟩ := m
      obtain ⟨_, _, _, _, _, _, _, _, _⟩ := n
      dsimp only at *
      subst q1 q2 q3 q4 c1 c2 c3 c4
      rfl
  have e4 : Y4 = S := by
    have e := j4.trans eJ
    obtain ⟨a, b, c⟩ := Y4
    obtain ⟨a', b', c'⟩ := S
    dsimp only at eN eT e
    subst eN eT e
    rfl
  have p0 : els (PS.part (PS.item S) 0) = (byName S.N).map fun n => nodI (row n) := rfl
  have p1 : els (PS.part (PS.item S) 1) = (byName S.T).map tenI := rfl
  have p2 : els (PS.part (PS.item S) 2) = (byName S.J).map jobI := rfl
  unfold PS.restore
  rw [p0, p1, p2, r1]
  dsimp only
  rw [if_pos rfl, r2]
  dsimp only
  rw [if_pos rfl, r3]
  dsimp only
  rw [if_pos rfl, r4, e4]
theorem good_num (n : Int) (h : I64 n) : (PS.nI n).ok = true ∧ (PS.nI n).dep = 1 ∧ (PS.nI n).cnt = 1 ∧ (PS.nI n).long = false ∧ (PS.nI n).good = true := by
  unfold I64 at h
  refine ⟨?_, rfl, rfl, rfl, ?_⟩ <;> simp [PS.nI, It.ok, oks, It.good, goods, Wi.Pl.form, Wi.zero_size, h]
theorem good_txt (s : Tx) (h : s.length ≤ 96) : (PS.sI s).ok = true ∧ (PS.sI s).dep = 1 ∧ (PS.sI s).cnt = 1 ∧ (PS.sI s).long = false ∧ (PS.sI s).good = true := by
  have hs : (str s).size = s.length := Nm.str_size s
  refine ⟨?_, rfl, rfl, ?_, ?_⟩ <;> simp [PS.sI, It.ok, oks, It.long, longs, It.good, goods, Wi.Pl.form, hs] <;> omega
structure GL (l : List It) (d c : Nat) : Prop where
  ok : oks l = true
  dep : deps l ≤ d
  cnt : cnts l ≤ c
  long : longs l = false
  good : goods l = true
structure GI (t : It) (d c : Nat) : Prop where
  ok : t.ok = true
  dep : t.dep ≤ d
  cnt : t.cnt ≤ c
  long : t.long = false
  good : t.good = true
theorem GL.nil (d c : Nat) : GL [] d c := ⟨rfl, Nat.zero_le _, Nat.zero_le _, rfl, rfl⟩
theorem GL.cons {t : It} {l : List It} {d a c : Nat} (h : GI t d a) (k : GL l d c) : GL (t :: l) d (a + c) :=
  ⟨by rw [oks, h.ok, k.ok]; rfl, by rw [deps]; have := h.dep; have := k.dep; omega, by rw [cnts]; have := h.cnt; have := k.cnt; omega, by rw [longs, h.long, k.long]; rfl, by rw [goods, h.good, k.good]; rfl⟩
theorem GI.list {l : List It} {d c : Nat} (h : GL l d c) (hl : l.length ≤ 100000) : GI (PS.lI l) (1 + d) (1 + c) := by
  have hz : l.length < 18446744073709551616 := by omega
  refine ⟨?_, by show 1 + deps l ≤ _; have := h.dep; omega, by show 1 + cnts l ≤ _; have := h.cnt; omega, ?_, ?_⟩
  · simp [PS.lI, It.ok, Wi.Pl.form, Wi.zero_size, h.ok, hz]
  · simp [PS.lI, It.long, h.long]
  · simp [PS.lI, It.good, Wi.Pl.form, Wi.zero_size, h.good]
theorem GI.num {n : Int} (h : I64 n) : GI (PS.nI n) 1 1 := by
  obtain ⟨a, b, c, d, e⟩ := good_num n h
  exact ⟨a, by omega, by omega, d, e⟩
theorem GI.txt {s : Tx} (h : s.length ≤ 96) : GI (PS.sI s) 1 1 := by
  obtain ⟨a, b, c, d, e⟩ := good_txt s h
  exact ⟨a, by omega, by omega, d, e⟩
theorem GI.up {t : It} {d c d' : Nat} (h : GI t d c) (hd : d ≤ d') : GI t d' c := ⟨h.ok, Nat.le_trans h.dep hd, h.cnt, h.long, h.good⟩
theorem GI.vec {a b c : Int} (ha : I64 a) (hb : I64 b) (hc : I64 c) : GI (PS.vI a b c) 2 4 := GI.list ((GL.nil 1 0).cons (GI.num hc) |>.cons (GI.num hb) |>.cons (GI.num ha)) (by simp)
theorem GL.map {α : Type} (f : α → It) {d c : Nat} : ∀ (L : List α), (∀ x ∈ L, GI (f x) d c) → GL (L.map f) d (c * L.length)
  | [], _ => GL.nil _ _
  | x :: r, h => by
    have := (GL.map f r fun y hy => h y (List.mem_cons_of_mem _ hy)).cons (h x List.mem_cons_self)
    rw [List.length_cons, Nat.mul_succ, Nat.add_comm]
    exact this
theorem item_good {S : St} (h : Inv S) : GI (PS.item S) 5 1600 := by
  have lN : (byName S.N).length ≤ 32 := Nat.le_trans (byName_len _) h.lN
  have lT : (byName S.T).length ≤ 32 := Nat.le_trans (byName_len _) h.lT
  have lJ : (byName S.J).length ≤ 128 := Nat.le_trans (byName_len _) h.lJ
  have gN : GL ((byName S.N).map fun n => nodI (row n)) 3 (7 * (byName S.N).length) := GL.map _ _ fun n hn => by
    obtain ⟨k, hk⟩ := byName_mem hn
    have q := h.n _ _ hk
    have hd : I64 (if n.d = true then 1 else 0) := by unfold I64; split <;> omega
    exact GI.list (((GL.nil 2 0).cons ((GI.num hd).up (by omega))).cons (GI.vec q.i.1 q.i.2.1 q.i.2.2) |>.cons ((GI.txt (may_len' q.may)).up (by omega))) (by simp)
  have gT : GL ((byName S.T).map tenI) 3 (6 * (byName S.T).length) := GL.map _ _ fun n hn => by
    obtain ⟨k, hk⟩ := byName_mem hn
    have q := h.t _ _ hk
    exact GI.list (((GL.nil 2 0).cons (GI.vec q.i.1 q.i.2.1 q.i.2.2)).cons ((GI.txt (may_len' q.may)).up (by omega))) (by simp)
  have gJ : GL ((byName S.J).map jobI) 3 (9 * (byName S.J).length) := GL.map _ _ fun j hj => by
    obtain ⟨k, hk⟩ := byName_mem hj
    have q := h.j _ _ hk
    obtain ⟨n, hn, hs⟩ := q.n
    obtain ⟨t, ht, ts⟩ := q.t
    have h1 := may_len' (h.n _ _ hn).may
    have h2 := may_len' (h.t _ _ ht).may
    rw [hs] at h1
    rw [ts] at h2
    have hst : I64 j.st := by have := q.st; unfold I64; omega
    exact GI.list ((((((GL.nil 2 0).cons ((GI.num hst).up (by omega))).cons ((GI.txt h1).up (by omega))).cons (GI.vec q.i.1 q.i.2.1 q.i.2.2)).cons ((GI.txt h2).up (by omega))).cons ((GI.txt (may_len' q.may)).up (by omega))) (by simp)
  have g := GI.list ((((GL.nil 4 0).cons (GI.list gJ (by rw [List.length_map]; omega))).cons (GI.list gT (by rw [List.length_map]; omega))).cons (GI.list gN (by rw [List.length_map]; omega))) (by simp)
  exact ⟨g.ok, g.dep, by have := g.cnt; unfold PS.item; omega, g.long, g.good⟩
theorem load_save {S : St} (h : Inv S) : PS.load (PS.save S) = some S ∧ (PS.save S).length ≤ 17203200 := by
  have g := item_good h
  have herr : Wi.errOf (PS.item S) = 0 := Wi.errOf_of (by have := g.cnt; omega) (by have := g.dep; omega) g.long g.good
  have hs : PS.save S = (PS.item S).enc := by
    unfold PS.save
    rw [if_pos herr]
  have hd : Wi.Pl.dec (PS.item S).enc = some (PS.item S) := (dec_iff _ _).2 ⟨g.ok, by have := g.dep; omega, by have := g.cnt; omega, rfl⟩
  refine ⟨?_, by rw [hs]; exact Wi.enc_small herr⟩
  unfold PS.load
  rw [hs, hd]
  dsimp only
  rw [restore_save h]
  dsimp only
  rw [if_pos ⟨rfl, hs⟩]
end Go.Proofs.YtphclpjekpdifaaGreat
namespace Go.Proofs.YtphclpjekpdifaaGreat
set_option maxRecDepth 20000
open Go.RowKit
open PS (Tx putM dropM setM findM Nod Ten Jb kOf St Cm Rp byName row)
open Go.Proofs.YtphclpjekpdifaaGreat.Nm (str)
open Go.Proofs.YtphclpjekpdifaaGreat.Vc (RetBelow fitB I64)
set_option linter.unusedVariables false
theorem Sch.fr {w w' : World} {b : Nat} {S : St} {T R : Nat → Prop} (h : Sch w b S T) (hf : Fr R w w') (hd : ∀ k, T k → ¬ R k) : Sch w' b S T := by
  obtain ⟨m0, m1, m2, h⟩ := h
  exact ⟨m0, m1, m2, h.keep hf.size fun k q => hf.block k (h.lt k q) (hd k q)⟩
structure L2 (w X : World) (b : Nat) (S : St) (T : Nat → Prop) (c : Nat) (U : St) (R : Nat → Prop) (G : List (Nat × Obj)) : Prop where
  t1 : Sch X b S T
  t2 : Sch X c U R
  dis : ∀ k, T k → ¬ R k
  n1 : ∀ k, T k → w.heap.size ≤ k
  n2 : ∀ k, R k → w.heap.size ≤ k
  bel : Below w.heap.size w X
  i1 : Inv S
  i2 : Inv U
  held : ∀ p ∈ G, X.heap[p.1]? = some p.2 ∧ ¬ T p.1 ∧ ¬ R p.1
def L2E (w X : World) (b : Nat) (S : St) (c : Nat) (U : St) (G : List (Nat × Obj)) : Prop := ∃ T R, L2 w X b S T c U R G
theorem L2E.bel {w X : World} {b c : Nat} {S U : St} {G : List (Nat × Obj)} (h : L2E w X b S c U G) : Below w.heap.size w X := let ⟨_, _, h⟩ := h; h.bel
theorem L2E.i1 {w X : World} {b c : Nat} {S U : St} {G : List (Nat × Obj)} (h : L2E w X b S c U G) : Inv S := let ⟨_, _, h⟩ := h; h.i1
theorem L2E.held {w X : World} {b c : Nat} {S U : St} {G : List (Nat × Obj)} (h : L2E w X b S c U G) {p : Nat × Obj} (hp : p ∈ G) : X.heap[p.1]? = some p.2 := let ⟨_, _, h⟩ := h; (h.held p hp).1
theorem L2E.swap {w X : World} {b c : Nat} {S U : St} {G : List (Nat × Obj)} (h : L2E w X b S c U G) : L2E w X c U b S G := by
  obtain ⟨T, R, h⟩ := h
  exact ⟨R, T, h.t2, h.t1, fun k q p => h.dis k p q, h.n2, h.n1, h.bel, h.i2, h.i1, fun p hp => ⟨(h.held p hp).1, (h.held p hp).2.2, (h.held p hp).2.1⟩⟩
theorem L2E.below {w X Y : World} {b c : Nat} {S U : St} {G : List (Nat × Obj)} (h : L2E w X b S c U G) (hb : Below X.heap.size X Y) : L2E w Y b S c U G := by
  obtain ⟨T, R, h⟩ := h
  exact ⟨T, R, h.t1.below hb, h.t2.below hb, h.dis, h.n1, h.n2, h.bel.trans (hb.mono h.bel.size), h.i1, h.i2, fun p hp => ⟨(hb.block _ (Array.getElem?_eq_some_iff.1 (h.held p hp).1).1).trans (h.held p hp).1, (h.held p hp).2⟩⟩
theorem L2E.to {w X Y : World} {b c : Nat} {S S' U : St} {T R : Nat → Prop} {G : List (Nat × Obj)} (h : L2 w X b S T c U R G) (hi : Inv S') (hs : SchTo X Y b S' T) : L2E w Y b S' c U G := by
  obtain ⟨T', h1, h2, h3⟩ := hs
  have hB := h.bel.size
  refine ⟨T', R, h1, h.t2.fr h3 (fun k q p => h.dis k p q), fun k hk hr => ?_, fun k hk => ?_, h.n2, h.bel.trans (h3.below hB (fun k hk => h.n1 k hk)), hi, h.i2, fun p hp => ?_⟩
  · rcases h2 k hk with q | q
    · exact h.dis k q hr
    · have := h.t2.lt k hr; omega
  · rcases h2 k hk with q | q
    · exact h.n1 k q
    · omega
  · have hl := (Array.getElem?_eq_some_iff.1 (h.held p hp).1).1
    refine ⟨(h3.block _ hl (h.held p hp).2.1).trans (h.held p hp).1, fun q => ?_, (h.held p hp).2.2⟩
    rcases h2 _ q with q | q
    · exact (h.held p hp).2.1 q
    · omega
theorem L2E.box {w X : World} {b c : Nat} {S U : St} {G : List (Nat × Obj)} (h : L2E w X b S c U G) (cs : Array Value) (t : TypeId) : L2E w (X.alloc (.cells cs t)) b S c U ((X.heap.size, .cells cs t (0, 0)) :: G) := by
  obtain ⟨T, R, h⟩ := h
  have hb : Below X.heap.size X (X.alloc (.cells cs t)) := (Below.refl _ X).alloc (Nat.le_refl _) _
  have hl1 := h.t1.lt
  have hl2 := h.t2.lt
  refine ⟨T, R, h.t1.below hb, h.t2.below hb, h.dis, h.n1, h.n2, h.bel.alloc h.bel.size _, h.i1, h.i2, fun p hp => ?_⟩
  rcases List.mem_cons.1 hp with rfl | hp
  · exact ⟨heap_alloc_new X _, fun q => by have := hl1 _ q; simp at this, fun q => by have := hl2 _ q; simp at this⟩
  · exact ⟨(hb.block _ (Array.getElem?_eq_some_iff.1 (h.held p hp).1).1).trans (h.held p hp).1, (h.held p hp).2⟩
theorem L2E.less {w X : World} {b c : Nat} {S U : St} {G G' : List (Nat × Obj)} (h : L2E w X b S c U G) (hs : ∀ p ∈ G', p ∈ G) : L2E w X b S c U G' := by
  obtain ⟨T, R, h⟩ := h
  exact ⟨T, R, h.t1, h.t2, h.dis, h.n1, h.n2, h.bel, h.i1, h.i2, fun p hp => h.held p (hs p hp)⟩
theorem L2E.start {w X Y : World} {b c : Nat} {S U : St} {R : Nat → Prop} {G : List (Nat × Obj)} (h : LvE w X b S G) (h2 : Sch Y c U R) (hR : ∀ k, R k → X.heap.size ≤ k) (hi : Inv U) (hb : Below X.heap.size X Y) : L2E w Y b S c U G := by
  obtain ⟨T, h⟩ := h
  refine ⟨T, R, h.sch.below hb, h2, fun k q p => by have := h.sch.lt k q; have := hR k p; omega, h.new, fun k hk => Nat.le_trans h.bel.size (hR k hk), h.bel.trans (hb.mono h.bel.size), h.inv, hi, fun p hp => ?_⟩
  have hl := (Array.getElem?_eq_some_iff.1 (h.held p hp).1).1
  exact ⟨(hb.block _ hl).trans (h.held p hp).1, (h.held p hp).2, fun q => by have := hR _ q; omega⟩
theorem L2E.one {w X : World} {b c : Nat} {S U : St} {G : List (Nat × Obj)} (h : L2E w X b S c U G) : LvE w X b S G := by
  obtain ⟨T, R, h⟩ := h
  exact ⟨T, h.t1, h.n1, h.bel, h.i1, fun p hp => ⟨(h.held p hp).1, (h.held p hp).2.1⟩⟩
theorem do_l2 {w X : World} {b c : Nat} {S U : St} {G : List (Nat × Obj)} (h : L2E w X b S c U G) (cm : Cm) (hc : CmOk cm) (hi : CmI cm) : Calls Tryz.prog 13 #[.pointer (some ⟨b, 0, none⟩), cmV cm] X fun e Y => e = .returned (rpV (PS.doC S cm).2) ∧ L2E w Y b (PS.doC S cm).1 c U G := by
  obtain ⟨T, R, h⟩ := h
  exact (do_any h.t1 h.i1.ok cm hc).mono fun e Y q => ⟨q.1, L2E.to h (h.i1.doC cm hi) q.2⟩
theorem save_l2 {w X : World} {b c : Nat} {S U : St} {G : List (Nat × Obj)} (h : L2E w X b S c U G) : Calls Tryz.prog 20 #[.pointer (some ⟨b, 0, none⟩)] X fun e Y => e = .returned (.string (str (PS.save S))) ∧ L2E w Y b S c U G := by
  have h0 := h
  obtain ⟨T, R, h⟩ := h
  exact (save_any h.t1 h.i1.ok).mono fun e Y q => ⟨q.1, h0.below q.2⟩
end Go.Proofs.YtphclpjekpdifaaGreat
