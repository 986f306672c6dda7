import Derived.Test.YtphclpjekpdifaaGreatY5
namespace Go.Proofs.YtphclpjekpdifaaGreat
set_option maxRecDepth 20000
open Go.RowKit
open PS (Tx putM dropM setM findM Nod Ten Jb kOf St Cm Rp byName row)
open Go.Proofs.YtphclpjekpdifaaGreat.Nm (str)
open Go.Proofs.YtphclpjekpdifaaGreat.Vc (RetBelow fitB I64)
set_option linter.unusedVariables false
theorem keys_nodup {α : Type} {l : List (Tx × α)} (h : SL l) : (l.map (·.1)).Nodup := by
  unfold List.Nodup
  rw [List.pairwise_map]
  refine List.Pairwise.imp_of_mem ?_ h
  intro e f he hf hb q
  rw [q, bb_irrefl] at hb
  cases hb
theorem byName_pair {α : Type} {l : List (Tx × α)} (h : SL l) (key : α → Tx) (hk : ∀ k x, findM l k = some x → k = key x) : (byName l).Pairwise (fun x y => key x ≠ key y) := by
  unfold byName
  rw [List.pairwise_filterMap]
  refine List.Pairwise.imp ?_ ((sortK_perm _).nodup_iff.2 (keys_nodup h))
  intro a b hab x hx y hy e
  exact hab (by rw [hk _ _ hx, hk _ _ hy, e])
structure RzN (S0 S : St) (i : Nat) : Prop where
  inv : Inv S
  j : S.J = S0.J
  t : S.T = S0.T
  n : ∀ m x, i ≤ m → (byName S0.N)[m]? = some x → findM S.N (kOf x.s) = some x
theorem RzN.zero {S : St} (h : Inv S) : RzN S S 0 := ⟨h, rfl, rfl, fun m x _ hx => by
  obtain ⟨k, hk⟩ := byName_at hx
  have := (h.n _ _ hk).key
  rwa [← this]⟩
theorem pair_at {α : Type} {R : α → α → Prop} {l : List α} (h : l.Pairwise R) {i j : Nat} (hij : i < j) {x y : α} (hx : l[i]? = some x) (hy : l[j]? = some y) : R x y := by
  obtain ⟨h1, rfl⟩ := List.getElem?_eq_some_iff.1 hx
  obtain ⟨h2, rfl⟩ := List.getElem?_eq_some_iff.1 hy
  exact List.pairwise_iff_getElem.1 h i j h1 h2 hij
theorem RzN.step {S0 S : St} {i : Nat} (h0 : Inv S0) (h : RzN S0 S i) {x : Nod} (hx : (byName S0.N)[i]? = some x) {a b c : Int} (p : 0 ≤ a ∧ 0 ≤ b ∧ 0 ≤ c) (hi : I64 (x.a + a) ∧ I64 (x.b + b) ∧ I64 (x.c + c)) :
    (PS.doC S ⟨1, x.s, [], x.a + a, x.b + b, x.c + c, 0⟩).2 = PS.err 0 ∧ RzN S0 (PS.doC S ⟨1, x.s, [], x.a + a, x.b + b, x.c + c, 0⟩).1 (i + 1) := by
  have hf := h.n i x (Nat.le_refl _) hx
  have hn := h.inv.n _ _ hf
  have hu := h.inv.used (onB x.s)
  have h1 := hn.ux; have h2 := hn.uy; have h3 := hn.uz; have h4 := hn.fx; have h5 := hn.fy; have h6 := hn.fz
  have hr := raiseN h.inv (a := x.a + a) (b := x.b + b) (c := x.c + c) hf hn.may (by omega) (by omega)
  have hI := h.inv.doC ⟨1, x.s, [], x.a + a, x.b + b, x.c + c, 0⟩ ⟨hi.1, hi.2.1, i64_0, hi.2.2⟩
  rw [hr] at hI ⊢
  refine ⟨rfl, hI, h.j, h.t, fun m y hm hy => ?_⟩
  have hne : kOf y.s ≠ kOf x.s := fun e => pair_at (byName_pair h0.sN (fun n => kOf n.s) fun k n q => (h0.n _ _ q).key) (show i < m by omega) hx hy e.symm
  show findM (setM (kOf x.s) _ S.N) (kOf y.s) = _
  rw [find_setM h.inv.sN, if_neg hne]
  exact h.n m y (by omega) hy
structure RzT (S0 S : St) (i : Nat) : Prop where
  inv : Inv S
  j : S.J = S0.J
  n : ∀ m x, i ≤ m → (byName S0.T)[m]? = some x → findM S.T (kOf x.s) = some x
theorem RzT.zero {S : St} (h : Inv S) : RzT S S 0 := ⟨h, rfl, fun m x _ hx => by
  obtain ⟨k, hk⟩ := byName_at hx
  have := (h.t _ _ hk).key
  rwa [← this]⟩
theorem RzT.step {S0 S : St} {i : Nat} (h0 : Inv S0) (h : RzT S0 S i) {x : Ten} (hx : (byName S0.T)[i]? = some x) {a b c : Int} (p : 0 ≤ a ∧ 0 ≤ b ∧ 0 ≤ c) (hi : I64 (x.a + a) ∧ I64 (x.b + b) ∧ I64 (x.c + c)) :
    (PS.doC S ⟨4, x.s, [], x.a + a, x.b + b, x.c + c, 0⟩).2 = PS.err 0 ∧ RzT S0 (PS.doC S ⟨4, x.s, [], x.a + a, x.b + b, x.c + c, 0⟩).1 (i + 1) := by
  have hf := h.n i x (Nat.le_refl _) hx
  have hn := h.inv.t _ _ hf
  have hu := h.inv.used (ofB x.s)
  have h1 := hn.ux; have h2 := hn.uy; have h3 := hn.uz; have h4 := hn.fx; have h5 := hn.fy; have h6 := hn.fz
  have hr := raiseT h.inv (a := x.a + a) (b := x.b + b) (c := x.c + c) hf hn.may (by omega) (by omega)
  have hI := h.inv.doC ⟨4, x.s, [], x.a + a, x.b + b, x.c + c, 0⟩ ⟨hi.1, hi.2.1, i64_0, hi.2.2⟩
  rw [hr] at hI ⊢
  refine ⟨rfl, hI, h.j, fun m y hm hy => ?_⟩
  have hne : kOf y.s ≠ kOf x.s := fun e => pair_at (byName_pair h0.sT (fun n => kOf n.s) fun k n q => (h0.t _ _ q).key) (show i < m by omega) hx hy e.symm
  show findM (setM (kOf x.s) _ S.T) (kOf y.s) = _
  rw [find_setM h.inv.sT, if_neg hne]
  exact h.n m y (by omega) hy
theorem LvE.hold {w X Y : World} {b : Nat} {S : St} {G : List (Nat × Obj)} (h : LvE w X b S G) (hb : Below X.heap.size X Y) {k : Nat} {o : Obj} (hk : X.heap.size ≤ k) (ho : Y.heap[k]? = some o) : LvE w Y b S ((k, o) :: G) := by
  have h1 := h.below hb
  obtain ⟨T, h⟩ := h
  have hlt := h.sch.lt
  refine ⟨T, h.sch.below hb, h.new, h.bel.trans (hb.mono h.bel.size), h.inv, fun p hp => ?_⟩
  rcases List.mem_cons.1 hp with rfl | hp
  · exact ⟨ho, fun q => by have := hlt _ q; simp at this; omega⟩
  · exact ⟨(hb.block _ (Array.getElem?_eq_some_iff.1 (h.held p hp).1).1).trans (h.held p hp).1, (h.held p hp).2⟩
def RowsIn {α : Type} (D : CT α) (K : List (Nat × Obj)) (A : Option Addr) (L : List α) : Prop :=
  ∀ i x, L[i]? = some x → ∃ g, A = some ⟨g, 0, none⟩ ∧ ∀ Z : World, (∀ p ∈ K, Z.heap[p.1]? = some p.2) → ∀ q u, (D.C x)[q]? = some u → Z.cell? ⟨g, i * D.m + q, none⟩ = some u
theorem LvE.own {α : Type} {D : CT α} {w X Y : World} {b : Nat} {S : St} {G : List (Nat × Obj)} {v : Value} {L : List α} (h : LvE w X b S G) (hb : Below X.heap.size X Y) (ho : Own D Y X.heap.size v L) :
    ∃ A c K, v = .slice A L.length c ∧ LvE w Y b S (K ++ G) ∧ RowsIn D K A L := by
  have ho' := ho
  rcases ho.2 with ⟨rfl, hn⟩ | ⟨g, cap, cur, rfl, hg, hh, _⟩
  · refine ⟨none, 0, [], by rw [hn], h.below hb, fun i x hx => ?_⟩
    have := (List.getElem?_eq_some_iff.1 hx).1
    omega
  · refine ⟨_, cap, [(g, .cells cur D.e (0, 0))], rfl, h.hold hb hg hh, fun i x hx => ⟨g, rfl, fun Z hZ q u hu => ?_⟩⟩
    obtain ⟨g', cap', h1, _, _, h4⟩ := ho'.at_ hx
    injection h1 with h1 h1a h1b
    injection h1 with h1
    injection h1 with h1
    subst h1
    rw [← h4 q u hu]
    have hz := hZ _ (List.Mem.head _)
    unfold World.cell?
    dsimp only at hz ⊢
    rw [hz, hh]
end Go.Proofs.YtphclpjekpdifaaGreat
namespace Go.Proofs.YtphclpjekpdifaaGreat
set_option maxRecDepth 20000
open PS (Tx putM dropM setM findM Nod Ten Jb kOf St Cm Rp byName row)
open Go.Proofs.YtphclpjekpdifaaGreat.Nm (str)
open Go.Proofs.YtphclpjekpdifaaGreat.Vc (RetBelow fitB I64)
set_option linter.unusedVariables false
theorem findMap_self {α : Type} : ∀ {l : List (Tx × α)} {m : List (Tx × α)}, (∀ e ∈ m, findM l e.1 = some e.2) → (m.map (·.1)).filterMap (findM l) = m.map (·.2)
  | l, [], _ => rfl
  | l, e :: r, h => by
    rw [List.map_cons, List.map_cons, List.filterMap_cons_some (h e (List.mem_cons_self ..)), findMap_self fun f hf => h f (List.mem_cons_of_mem _ hf)]
theorem byName_perm {α : Type} {l : List (Tx × α)} (h : SL l) : (byName l).Perm (l.map (·.2)) := by
  have h1 : (byName l).Perm ((l.map (·.1)).filterMap (findM l)) := (sortK_perm _).filterMap _
  rwa [findMap_self fun e he => mem_find h he] at h1
theorem nsum_add {α : Type} (f g : α → Nat) : ∀ L : List α, (L.map fun x => f x + g x).sum = (L.map f).sum + (L.map g).sum
  | [] => rfl
  | x :: r => by simp only [List.map_cons, List.sum_cons, nsum_add f g r]; omega
theorem nsum_zero {α : Type} (f : α → Nat) : ∀ L : List α, (∀ x ∈ L, f x = 0) → (L.map f).sum = 0
  | [], _ => rfl
  | x :: r, h => by
    rw [List.map_cons, List.sum_cons, h x (List.mem_cons_self ..), nsum_zero f r fun y hy => h y (List.mem_cons_of_mem _ hy)]
theorem nsum_one {α : Type} (nm : α → Tx) (s : Tx) : ∀ L : List α, L.Pairwise (fun x y => nm x ≠ nm y) → (∃ n ∈ L, nm n = s) → (L.map fun n => if s == nm n then 1 else 0).sum = 1
  | [], _, ⟨n, hn, _⟩ => by cases hn
  | x :: r, hp, ⟨n, hn, e⟩ => by
    rw [List.pairwise_cons] at hp
    rw [List.map_cons, List.sum_cons]
    by_cases hx : nm x = s
    · rw [nsum_zero _ r fun y hy => by rw [if_neg]; rw [beq_iff_eq]; intro q; exact hp.1 y hy (hx.trans q)]
      simp [hx]
    · rw [nsum_one nm s r hp.2 (by
        rcases List.mem_cons.1 hn with rfl | hn
        · exact absurd e hx
        · exact ⟨n, hn, e⟩), if_neg (by rw [beq_iff_eq]; exact fun q => hx q.symm)]
theorem cnt_all {α β : Type} (nm : α → Tx) (g : β → Tx) {NL : List α} (hp : NL.Pairwise (fun x y => nm x ≠ nm y)) : ∀ JL : List β, (∀ j ∈ JL, ∃ n ∈ NL, nm n = g j) → (NL.map fun n => JL.countP fun j => g j == nm n).sum = JL.length
  | [], _ => nsum_zero _ _ fun _ _ => rfl
  | j :: r, h => by
    have e : (fun n => (j :: r).countP fun j => g j == nm n) = fun n => (r.countP fun j => g j == nm n) + (if g j == nm n then 1 else 0) := by
      funext n
      rw [List.countP_cons]
    rw [e, nsum_add, cnt_all nm g hp r fun k hk => h k (List.mem_cons_of_mem _ hk), nsum_one nm (g j) NL hp (h j (List.mem_cons_self ..)), List.length_cons]
theorem name_pair {α : Type} {l : List (Tx × α)} (h : SL l) (nm : α → Tx) (hk : ∀ k x, findM l k = some x → k = kOf (nm x)) : (byName l).Pairwise (fun x y => nm x ≠ nm y) :=
  (byName_pair h (fun x => kOf (nm x)) hk).imp fun hab e => hab (by rw [e])
theorem find_byName {α : Type} {l : List (Tx × α)} (h : SL l) {k : Tx} {x : α} (hf : findM l k = some x) : x ∈ byName l := by
  rw [(byName_perm h).mem_iff]
  obtain ⟨e, he, q⟩ : ∃ e ∈ l, e.2 = x := by
    unfold findM at hf
    rw [Option.map_eq_some_iff] at hf
    obtain ⟨e, h1, h2⟩ := hf
    exact ⟨e, List.mem_of_find?_eq_some h1, h2⟩
  exact List.mem_map.2 ⟨e, he, q⟩
theorem room_on {S : St} (h : Inv S) : ((byName S.N).map fun n => (byName S.J).countP fun j => j.on == n.s).sum = (byName S.J).length :=
  cnt_all Nod.s Jb.on (name_pair h.sN Nod.s fun k n q => (h.n _ _ q).key) _ fun j hj => by
    obtain ⟨k, hk⟩ := byName_mem hj
    obtain ⟨n, h1, h2⟩ := (h.j _ _ hk).n
    exact ⟨n, find_byName h.sN h1, h2⟩
theorem room_of {S : St} (h : Inv S) : ((byName S.T).map fun n => (byName S.J).countP fun j => j.t == n.s).sum = (byName S.J).length :=
  cnt_all Ten.s Jb.t (name_pair h.sT Ten.s fun k n q => (h.t _ _ q).key) _ fun j hj => by
    obtain ⟨k, hk⟩ := byName_mem hj
    obtain ⟨n, h1, h2⟩ := (h.j _ _ hk).t
    exact ⟨n, find_byName h.sT h1, h2⟩
theorem sumI_perm {l m : List Int} (h : l.Perm m) : Vc.sumI l = Vc.sumI m := by
  induction h with
  | nil => rfl
  | cons x _ ih => simp only [Vc.sumI, List.foldr_cons] at ih ⊢; rw [ih]
  | swap x y l => simp only [Vc.sumI, List.foldr_cons]; omega
  | trans _ _ h1 h2 => exact h1.trans h2
theorem sumJ_list (p : Jb → Bool) (f : Jb → Int) : ∀ l : List (Tx × Jb), Vc.sumI (((l.map (·.2)).filter p).map f) = sumJ p f l
  | [] => rfl
  | e :: r => by
    have ih := sumJ_list p f r
    rw [List.map_cons, List.filter_cons]
    unfold sumJ
    by_cases hp : p e.2 = true
    · rw [if_pos hp, if_pos hp, ← ih]
      rfl
    · rw [if_neg hp, if_neg hp, ih]
      omega
theorem room_sum {S : St} (h : Inv S) (p : Jb → Bool) (f : Jb → Int) : Vc.sumI (((byName S.J).filter p).map f) = sumJ p f S.J :=
  (sumI_perm (((byName_perm h.sJ).filter p).map f)).trans (sumJ_list p f S.J)
end Go.Proofs.YtphclpjekpdifaaGreat
