import Derived.Test.YtphclpjekpdifaaGreatYBk
import Derived.Test.YtphclpjekpdifaaGreatYKr
import Derived.Test.YtphclpjekpdifaaGreatY6
import Derived.Test.YtphclpjekpdifaaGreatYRq
import Derived.Test.YtphclpjekpdifaaGreatYXn
namespace Go.Proofs.YtphclpjekpdifaaGreat
set_option maxRecDepth 20000
open PS (Tx putM dropM setM findM Nod Ten Jb kOf St Cm Rp byName krow row mayM asksM tenOf nodOf)
open Go.Proofs.YtphclpjekpdifaaGreat.Nm (str)
open Go.Proofs.YtphclpjekpdifaaGreat.Vc (fitB I64)
set_option linter.unusedVariables false
structure MR {α : Type} (R : α → α → Prop) (l m : List (Tx × α)) : Prop where
  k : l.map (·.1) = m.map (·.1)
  f : ∀ k x, findM l k = some x → ∃ y, findM m k = some y ∧ R x y
theorem find_mem_key {α : Type} {l : List (Tx × α)} {k : Tx} : k ∈ l.map (·.1) ↔ ∃ x, findM l k = some x := by
  constructor
  · intro h
    cases hf : findM l k with
    | some x => exact ⟨x, rfl⟩
    | none =>
      obtain ⟨e, he, rfl⟩ := List.mem_map.1 h
      exact absurd rfl (find_none hf e he)
  · rintro ⟨x, hx⟩
    exact List.mem_map.2 ⟨_, findM_mem hx, rfl⟩
theorem MR.nil {α : Type} {R : α → α → Prop} {l m : List (Tx × α)} (h : MR R l m) {k : Tx} : findM l k = none ↔ findM m k = none := by
  have := (find_mem_key (l := l) (k := k)).symm.trans ((by rw [h.k] : k ∈ l.map (·.1) ↔ k ∈ m.map (·.1)).trans (find_mem_key (l := m) (k := k)))
  cases hl : findM l k <;> cases hm : findM m k <;> simp [hl, hm] at this ⊢
theorem MR.len {α : Type} {R : α → α → Prop} {l m : List (Tx × α)} (h : MR R l m) : l.length = m.length := by
  have := congrArg List.length h.k
  simpa using this
theorem MR.get {α : Type} {R : α → α → Prop} {l m : List (Tx × α)} (h : MR R l m) (k : Tx) : (findM l k = none ∧ findM m k = none) ∨ ∃ x y, findM l k = some x ∧ findM m k = some y ∧ R x y := by
  cases hl : findM l k with
  | none => exact .inl ⟨rfl, h.nil.1 hl⟩
  | some x =>
    obtain ⟨y, h1, h2⟩ := h.f k x hl
    exact .inr ⟨x, y, rfl, h1, h2⟩
theorem putM_keys {α : Type} (k : Tx) (v v' : α) : ∀ l m : List (Tx × α), l.map (·.1) = m.map (·.1) → (putM k v l).map (·.1) = (putM k v' m).map (·.1)
  | [], [], _ => rfl
  | [], _ :: _, h => by simp at h
  | _ :: _, [], h => by simp at h
  | e :: r, f :: s, h => by
    simp only [List.map_cons, List.cons.injEq] at h
    unfold putM
    rw [h.1]
    split
    · simp [h.2]; exact h.1
    · simp [putM_keys k v v' r s h.2]; exact h.1
theorem dropM_keys {α : Type} (k : Tx) : ∀ l m : List (Tx × α), l.map (·.1) = m.map (·.1) → (dropM k l).map (·.1) = (dropM k m).map (·.1)
  | [], [], _ => rfl
  | [], _ :: _, h => by simp at h
  | _ :: _, [], h => by simp at h
  | e :: r, f :: s, h => by
    simp only [List.map_cons, List.cons.injEq] at h
    have ih := dropM_keys k r s h.2
    unfold dropM at ih ⊢
    rw [List.filter_cons, List.filter_cons, h.1]
    split
    · simp [ih, h.1]
    · exact ih
theorem MR.set {α : Type} {R : α → α → Prop} {l m : List (Tx × α)} (h : MR R l m) (hl : SL l) (hm : SL m) (k : Tx) {v v' : α} (hr : R v v') : MR R (setM k v l) (setM k v' m) := by
  refine ⟨putM_keys k v v' _ _ (dropM_keys k l m h.k), fun k' x hx => ?_⟩
  rw [find_setM hl] at hx
  rw [find_setM hm]
  split at hx
  · rename_i e
    injection hx with hx
    subst hx
    exact ⟨v', by rw [if_pos e], hr⟩
  · rename_i e
    obtain ⟨y, h1, h2⟩ := h.f k' x hx
    exact ⟨y, by rw [if_neg e]; exact h1, h2⟩
theorem MR.drop {α : Type} {R : α → α → Prop} {l m : List (Tx × α)} (h : MR R l m) (hl : SL l) (hm : SL m) (k : Tx) : MR R (dropM k l) (dropM k m) := by
  refine ⟨dropM_keys k l m h.k, fun k' x hx => ?_⟩
  rw [find_dropM hl] at hx
  rw [find_dropM hm]
  split at hx
  · cases hx
  · rename_i e
    obtain ⟨y, h1, h2⟩ := h.f k' x hx
    exact ⟨y, by rw [if_neg e]; exact h1, h2⟩
theorem fm_at {α : Type} {R : α → α → Prop} {f g : Tx → Option α} : ∀ ks : List Tx, (∀ k ∈ ks, ∃ x y, f k = some x ∧ g k = some y ∧ R x y) → ∀ (i : Nat) (x : α), (ks.filterMap f)[i]? = some x → ∃ y, (ks.filterMap g)[i]? = some y ∧ R x y
  | [], _, i, x, h => by simp at h
  | k :: r, hk, i, x, h => by
    obtain ⟨a, b, h1, h2, h3⟩ := hk k List.mem_cons_self
    rw [List.filterMap_cons_some h1] at h
    rw [List.filterMap_cons_some h2]
    cases i with
    | zero =>
      have : a = x := by simpa using h
      subst this
      exact ⟨b, by simp, h3⟩
    | succ i => exact fm_at r (fun k' h' => hk k' (List.mem_cons_of_mem _ h')) i x (by simpa using h)
theorem fm_map {α β : Type} {R : α → α → Prop} {f g : Tx → Option α} (p : α → β) (hp : ∀ x y, R x y → p x = p y) : ∀ ks : List Tx, (∀ k ∈ ks, ∃ x y, f k = some x ∧ g k = some y ∧ R x y) → (ks.filterMap f).map p = (ks.filterMap g).map p
  | [], _ => rfl
  | k :: r, hk => by
    obtain ⟨a, b, h1, h2, h3⟩ := hk k List.mem_cons_self
    rw [List.filterMap_cons_some h1, List.filterMap_cons_some h2, List.map_cons, List.map_cons, hp _ _ h3, fm_map p hp r fun k' h' => hk k' (List.mem_cons_of_mem _ h')]
theorem MR.all {α : Type} {R : α → α → Prop} {l m : List (Tx × α)} (h : MR R l m) : ∀ k ∈ PS.sortK (l.map (·.1)), ∃ x y, findM l k = some x ∧ findM m k = some y ∧ R x y := fun k hk => by
  obtain ⟨x, hx⟩ := find_mem_key.1 ((sortK_perm _).mem_iff.1 hk)
  obtain ⟨y, h1, h2⟩ := h.f k x hx
  exact ⟨x, y, hx, h1, h2⟩
theorem MR.at {α : Type} {R : α → α → Prop} {l m : List (Tx × α)} (h : MR R l m) {i : Nat} {x : α} (hx : (byName l)[i]? = some x) : ∃ y, (byName m)[i]? = some y ∧ R x y := by
  unfold PS.byName at hx ⊢
  rw [← h.k]
  exact fm_at _ h.all i x hx
theorem MR.map {α β : Type} {R : α → α → Prop} {l m : List (Tx × α)} (h : MR R l m) (p : α → β) (hp : ∀ x y, R x y → p x = p y) : (byName l).map p = (byName m).map p := by
  unfold PS.byName
  rw [← h.k]
  exact fm_map p hp _ h.all
structure RN (u v : Nod) : Prop where
  s : kOf u.s = kOf v.s
  a : u.a = v.a
  b : u.b = v.b
  c : u.c = v.c
  x : u.x = v.x
  y : u.y = v.y
  z : u.z = v.z
  n : u.n = v.n
  d : u.d = v.d
structure RT (u v : Ten) : Prop where
  s : kOf u.s = kOf v.s
  a : u.a = v.a
  b : u.b = v.b
  c : u.c = v.c
  x : u.x = v.x
  y : u.y = v.y
  z : u.z = v.z
  n : u.n = v.n
structure RJ (u v : Jb) : Prop where
  s : kOf u.s = kOf v.s
  t : kOf u.t = kOf v.t
  p : u.p = v.p
  q : u.q = v.q
  r : u.r = v.r
  on : kOf u.on = kOf v.on
  st : u.st = v.st
structure SR (S X : St) : Prop where
  n : MR RN S.N X.N
  t : MR RT S.T X.T
  j : MR RJ S.J X.J
structure CR (u v : Cm) : Prop where
  o : u.o = v.o
  a : u.a = v.a
  b : u.b = v.b
  c : u.c = v.c
  n : u.n = v.n
  s : kOf u.s = kOf v.s
  t : kOf u.t = kOf v.t
  ms : Nm.may u.s = Nm.may v.s
  mt : Nm.may u.t = Nm.may v.t
  z : u.t.length = v.t.length
structure RR (u v : Rp) : Prop where
  e : u.e = v.e
  a : u.a = v.a
  b : u.b = v.b
  c : u.c = v.c
  n : u.n = v.n
  s : (u.s = [] ∧ v.s = []) ∨ kOf u.s = kOf v.s
theorem RR.err {e e' : Int} (h : e = e') : RR (PS.err e) (PS.err e') := ⟨h, rfl, rfl, rfl, rfl, .inl ⟨rfl, rfl⟩⟩
theorem CR.fit {c e : Cm} (h : CR c e) : Wi.fitF c.o (str c.t) c.a c.b c.c c.n = Wi.fitF e.o (str e.t) e.a e.b e.c e.n := by
  have h1 : ((str c.t).size == 0) = ((str e.t).size == 0) := by rw [Nm.str_size, Nm.str_size, h.z]
  unfold Wi.fitF
  rw [h.o, h.a, h.b, h.c, h.n, h1, Nm.list_str, Nm.list_str, h.mt]
theorem CR.may {c e : Cm} (h : CR c e) : mayM c = mayM e := by
  unfold PS.mayM Wi.mayC
  rw [h.fit, Nm.list_str, Nm.list_str, h.ms]
theorem CR.asks {c e : Cm} (h : CR c e) : asksM c = asksM e := by
  have := h.may
  unfold PS.mayM at this
  unfold PS.asksM Wi.asksC
  rw [this, h.o]
theorem rel_node {S X : St} (h : SR S X) (hS : Inv S) (hX : Inv X) {s s' : Tx} (hs : kOf s = kOf s') (a b c : Int) : SR (PS.setNode S s a b c).1 (PS.setNode X s' a b c).1 ∧ (PS.setNode S s a b c).2 = (PS.setNode X s' a b c).2 := by
  unfold PS.setNode
  rw [hs]
  rcases h.n.get (kOf s') with ⟨h1, h2⟩ | ⟨n, m, h1, h2, r⟩
  · rw [h1, h2]
    dsimp only
    rw [h.n.len]
    split
    · exact ⟨h, rfl⟩
    · split
      · exact ⟨⟨h.n.set hS.sN hX.sN _ ⟨hs, rfl, rfl, rfl, rfl, rfl, rfl, rfl, rfl⟩, h.t, h.j⟩, rfl⟩
      · exact ⟨h, rfl⟩
  · rw [h1, h2]
    dsimp only
    rw [r.x, r.y, r.z, r.n, r.d, r.s]
    split
    · exact ⟨⟨h.n.set hS.sN hX.sN _ ⟨r.s, rfl, rfl, rfl, rfl, rfl, rfl, rfl, rfl⟩, h.t, h.j⟩, rfl⟩
    · exact ⟨h, rfl⟩
theorem rel_tenant {S X : St} (h : SR S X) (hS : Inv S) (hX : Inv X) {s s' : Tx} (hs : kOf s = kOf s') (a b c : Int) : SR (PS.setTenant S s a b c).1 (PS.setTenant X s' a b c).1 ∧ (PS.setTenant S s a b c).2 = (PS.setTenant X s' a b c).2 := by
  unfold PS.setTenant
  rw [hs]
  rcases h.t.get (kOf s') with ⟨h1, h2⟩ | ⟨n, m, h1, h2, r⟩
  · rw [h1, h2]
    dsimp only
    rw [h.t.len]
    split
    · exact ⟨h, rfl⟩
    · split
      · exact ⟨⟨h.n, h.t.set hS.sT hX.sT _ ⟨hs, rfl, rfl, rfl, rfl, rfl, rfl, rfl⟩, h.j⟩, rfl⟩
      · exact ⟨h, rfl⟩
  · rw [h1, h2]
    dsimp only
    rw [r.x, r.y, r.z, r.n, r.s]
    split
    · exact ⟨⟨h.n, h.t.set hS.sT hX.sT _ ⟨r.s, rfl, rfl, rfl, rfl, rfl, rfl, rfl⟩, h.j⟩, rfl⟩
    · exact ⟨h, rfl⟩
theorem rel_drain {S X : St} (h : SR S X) (hS : Inv S) (hX : Inv X) {s s' : Tx} (hs : kOf s = kOf s') (n : Int) : SR (PS.drain S s n).1 (PS.drain X s' n).1 ∧ (PS.drain S s n).2 = (PS.drain X s' n).2 := by
  unfold PS.drain
  rw [hs]
  rcases h.n.get (kOf s') with ⟨h1, h2⟩ | ⟨x, y, h1, h2, r⟩
  · rw [h1, h2]
    exact ⟨h, rfl⟩
  · rw [h1, h2]
    dsimp only
    rw [r.s]
    exact ⟨⟨h.n.set hS.sN hX.sN _ ⟨r.s, r.a, r.b, r.c, r.x, r.y, r.z, r.n, rfl⟩, h.t, h.j⟩, rfl⟩
theorem rel_drop {S X : St} (h : SR S X) (hS : Inv S) (hX : Inv X) {s s' : Tx} (hs : kOf s = kOf s') : SR (PS.drop S s).1 (PS.drop X s').1 ∧ (PS.drop S s).2 = (PS.drop X s').2 := by
  unfold PS.drop
  rw [hs]
  rcases h.n.get (kOf s') with ⟨h1, h2⟩ | ⟨x, y, h1, h2, r⟩
  · rw [h1, h2]
    exact ⟨h, rfl⟩
  · rw [h1, h2]
    dsimp only
    rw [r.n, r.s]
    split
    · exact ⟨h, rfl⟩
    · exact ⟨⟨h.n.drop hS.sN hX.sN _, h.t, h.j⟩, rfl⟩
theorem rel_report {S X : St} (h : SR S X) (hS : Inv S) (hX : Inv X) {s s' t t' : Tx} (hs : kOf s = kOf s') (ht : kOf t = kOf t') (n : Int) : SR (PS.report S s t n).1 (PS.report X s' t' n).1 ∧ (PS.report S s t n).2 = (PS.report X s' t' n).2 := by
  unfold PS.report
  rw [hs]
  rcases h.j.get (kOf s') with ⟨h1, h2⟩ | ⟨x, y, h1, h2, r⟩
  · rw [h1, h2]
    exact ⟨h, rfl⟩
  · rw [h1, h2]
    dsimp only
    rw [r.on, ht, r.s]
    split
    · exact ⟨⟨h.n, h.t, h.j.set hS.sJ hX.sJ _ ⟨r.s, r.t, r.p, r.q, r.r, r.on, rfl⟩⟩, rfl⟩
    · exact ⟨h, rfl⟩
theorem rel_choose {S X : St} (h : SR S X) (p q r : Int) : (PS.choose S p q r = none ∧ PS.choose X p q r = none) ∨ ∃ n m, PS.choose S p q r = some n ∧ PS.choose X p q r = some m ∧ RN n m := by
  have hk : (byName S.N).map krow = (byName X.N).map krow := h.n.map krow fun x y r => by
    unfold PS.krow
    rw [r.s, r.a, r.b, r.c, r.x, r.y, r.z, r.d]
  unfold PS.choose
  rw [hk]
  split
  · split
    · exact .inl ⟨rfl, rfl⟩
    · rename_i i t _
      cases hi : (byName S.N)[i]? with
      | some n =>
        obtain ⟨m, h1, h2⟩ := h.n.at hi
        exact .inr ⟨n, m, rfl, h1, h2⟩
      | none =>
        have hl := congrArg List.length hk
        simp only [List.length_map] at hl
        exact .inl ⟨rfl, by rw [List.getElem?_eq_none_iff] at hi ⊢; omega⟩
  · exact .inl ⟨rfl, rfl⟩
theorem rel_refusal {S X : St} (h : SR S X) {s s' t t' : Tx} (hs : kOf s = kOf s') (ht : kOf t = kOf t') (p q r : Int) : PS.refusal S s t p q r = PS.refusal X s' t' p q r := by
  have h1 : (findM S.J (kOf s')).isSome = (findM X.J (kOf s')).isSome := by
    rcases h.j.get (kOf s') with ⟨a, b⟩ | ⟨x, y, a, b, _⟩ <;> rw [a, b] <;> rfl
  unfold PS.refusal
  rw [hs, ht, h1, h.j.len]
  split
  · rfl
  · split
    · rfl
    · rcases h.t.get (kOf t') with ⟨a, b⟩ | ⟨x, y, a, b, e⟩
      · rw [a, b]
      · rw [a, b]
        dsimp only
        unfold PS.refuseT
        rw [e.x, e.y, e.z, e.a, e.b, e.c]
theorem rel_takeN {n m : Nod} (h : RN n m) (p q r : Int) : RN (PS.takeN n p q r) (PS.takeN m p q r) := by
  unfold PS.takeN
  rw [h.x, h.y, h.z, h.n]
  exact ⟨h.s, h.a, h.b, h.c, rfl, rfl, rfl, rfl, h.d⟩
theorem rel_takeT {n m : Ten} (h : RT n m) (p q r : Int) : RT (PS.takeT n p q r) (PS.takeT m p q r) := by
  unfold PS.takeT
  rw [h.x, h.y, h.z, h.n]
  exact ⟨h.s, h.a, h.b, h.c, rfl, rfl, rfl, rfl⟩
theorem rel_freeN {n m : Nod} (h : RN n m) (p q r : Int) : RN (PS.freeN n p q r) (PS.freeN m p q r) := by
  unfold PS.freeN
  rw [h.x, h.y, h.z, h.n]
  exact ⟨h.s, h.a, h.b, h.c, rfl, rfl, rfl, rfl, h.d⟩
theorem rel_freeT {n m : Ten} (h : RT n m) (p q r : Int) : RT (PS.freeT n p q r) (PS.freeT m p q r) := by
  unfold PS.freeT
  rw [h.x, h.y, h.z, h.n]
  exact ⟨h.s, h.a, h.b, h.c, rfl, rfl, rfl, rfl⟩
theorem rel_ten {S X : St} (h : SR S X) {t t' : Tx} (ht : kOf t = kOf t') : RT (tenOf S t) (tenOf X t') := by
  unfold PS.tenOf
  rw [ht]
  rcases h.t.get (kOf t') with ⟨a, b⟩ | ⟨x, y, a, b, e⟩
  · rw [a, b]; exact ⟨rfl, rfl, rfl, rfl, rfl, rfl, rfl, rfl⟩
  · rw [a, b]; exact e
theorem rel_nod {S X : St} (h : SR S X) {t t' : Tx} (ht : kOf t = kOf t') : RN (nodOf S t) (nodOf X t') := by
  unfold PS.nodOf
  rw [ht]
  rcases h.n.get (kOf t') with ⟨a, b⟩ | ⟨x, y, a, b, e⟩
  · rw [a, b]; exact ⟨rfl, rfl, rfl, rfl, rfl, rfl, rfl, rfl, rfl⟩
  · rw [a, b]; exact e
theorem rel_submit {S X : St} (h : SR S X) (hS : Inv S) (hX : Inv X) {s s' t t' : Tx} (hs : kOf s = kOf s') (ht : kOf t = kOf t') (p q r : Int) : SR (PS.submit S s t p q r).1 (PS.submit X s' t' p q r).1 ∧ RR (PS.submit S s t p q r).2 (PS.submit X s' t' p q r).2 := by
  unfold PS.submit
  rw [rel_refusal h hs ht]
  split
  · rcases rel_choose h p q r with ⟨a, b⟩ | ⟨n, m, a, b, e⟩
    · rw [a, b]
      exact ⟨h, RR.err rfl⟩
    · rw [a, b]
      dsimp only
      have hT := rel_ten h ht
      refine ⟨?_, ⟨rfl, rfl, rfl, rfl, rfl, .inr e.s⟩⟩
      unfold PS.create
      rw [e.s, hT.s, hs]
      exact ⟨h.n.set hS.sN hX.sN _ (rel_takeN e p q r), h.t.set hS.sT hX.sT _ (rel_takeT hT p q r), h.j.set hS.sJ hX.sJ _ ⟨hs, hT.s, rfl, rfl, rfl, e.s, rfl⟩⟩
  · exact ⟨h, RR.err rfl⟩
theorem rel_kill {S X : St} (h : SR S X) (hS : Inv S) (hX : Inv X) {s s' : Tx} (hs : kOf s = kOf s') : SR (PS.kill S s).1 (PS.kill X s').1 ∧ RR (PS.kill S s).2 (PS.kill X s').2 := by
  unfold PS.kill
  rw [hs]
  rcases h.j.get (kOf s') with ⟨a, b⟩ | ⟨i, j, a, b, e⟩
  · rw [a, b]
    exact ⟨h, RR.err rfl⟩
  · rw [a, b]
    dsimp only
    have hN := rel_nod h e.on
    have hT := rel_ten h e.t
    refine ⟨?_, ⟨rfl, rfl, rfl, rfl, rfl, .inr e.on⟩⟩
    rw [hN.s, hT.s, e.s, e.p, e.q, e.r]
    exact ⟨h.n.set hS.sN hX.sN _ (rel_freeN hN _ _ _), h.t.set hS.sT hX.sT _ (rel_freeT hT _ _ _), h.j.drop hS.sJ hX.sJ _⟩
theorem rel_ask {S X : St} (h : SR S X) {c e : Cm} (hc : CR c e) : RR (PS.ask S c) (PS.ask X e) := by
  unfold PS.ask
  rw [hc.asks, hc.o, hc.s]
  split
  · split
    · rcases h.j.get (kOf e.s) with ⟨a, b⟩ | ⟨i, j, a, b, r⟩
      · rw [a, b]; exact RR.err rfl
      · rw [a, b]; exact ⟨rfl, r.p, r.q, r.r, r.st, .inr r.on⟩
    · split
      · rcases h.n.get (kOf e.s) with ⟨a, b⟩ | ⟨i, j, a, b, r⟩
        · rw [a, b]; exact RR.err rfl
        · rw [a, b]; exact ⟨rfl, r.x, r.y, r.z, r.n, .inl ⟨rfl, rfl⟩⟩
      · rcases h.t.get (kOf e.s) with ⟨a, b⟩ | ⟨i, j, a, b, r⟩
        · rw [a, b]; exact RR.err rfl
        · rw [a, b]; exact ⟨rfl, r.x, r.y, r.z, r.n, .inl ⟨rfl, rfl⟩⟩
  · exact RR.err rfl
theorem rel_do {S X : St} (h : SR S X) (hS : Inv S) (hX : Inv X) {c e : Cm} (hc : CR c e) : SR (PS.doC S c).1 (PS.doC X e).1 ∧ RR (PS.doC S c).2 (PS.doC X e).2 := by
  have one : ∀ {x y : St × Int}, SR x.1 y.1 ∧ x.2 = y.2 → SR (PS.e1 x).1 (PS.e1 y).1 ∧ RR (PS.e1 x).2 (PS.e1 y).2 := fun k => ⟨k.1, RR.err k.2⟩
  unfold PS.doC
  rw [hc.may, hc.o, hc.a, hc.b, hc.c, hc.n]
  split
  · split
    · exact one (rel_node h hS hX hc.s _ _ _)
    · split
      · exact one (rel_drain h hS hX hc.s _)
      · split
        · exact one (rel_drop h hS hX hc.s)
        · split
          · exact one (rel_tenant h hS hX hc.s _ _ _)
          · split
            · exact rel_submit h hS hX hc.s hc.t _ _ _
            · split
              · exact rel_kill h hS hX hc.s
              · split
                · exact one (rel_report h hS hX hc.s hc.t _)
                · exact ⟨h, rel_ask h hc⟩
  · exact ⟨h, RR.err rfl⟩
theorem rel_s0 : SR PS.s0 PS.s0 := ⟨⟨rfl, fun k x h => by cases h⟩, ⟨rfl, fun k x h => by cases h⟩, ⟨rfl, fun k x h => by cases h⟩⟩
end Go.Proofs.YtphclpjekpdifaaGreat
namespace Go.Proofs.YtphclpjekpdifaaGreat
set_option maxRecDepth 20000
open Go.RowKit
open Go.Proofs.YtphclpjekpdifaaGreat.Nm (str)
set_option linter.unusedVariables false
theorem up_low : ∀ x, x < 256 → (97 ≤ x ∧ x ≤ 122) → Nm.lowN (x - 32) = Nm.lowN x := by decide +kernel
theorem key_turn {l : List UInt8} {j : Nat} {x y : UInt8} (hx : l[j]? = some x) (h : Nm.lowN y.toNat = Nm.lowN x.toNat) : Nm.key (l.set j y) = Nm.key l := by
  unfold Nm.key
  rw [List.map_set]
  have : Nm.lowB y = Nm.lowB x := by rw [← UInt8.toNat_inj, Nm.lowB_nat, Nm.lowB_nat, h]
  rw [this]
  apply List.ext_getElem?
  intro k
  by_cases e : j = k
  · subst e
    have hl : j < l.length := (List.getElem?_eq_some_iff.1 hx).1
    rw [List.getElem?_set_self (by simpa using hl), List.getElem?_map, hx]
    rfl
  · rw [List.getElem?_set_ne e]
theorem key_same {l m : List UInt8} (h : Nm.key m = Nm.key l) : Nm.may m = Nm.may l ∧ PS.kOf m = PS.kOf l ∧ m.length = l.length := by
  have e : Nm.may m = Nm.may l := by rw [← Nm.may_key m, h, Nm.may_key]
  refine ⟨e, ?_, by have := congrArg List.length h; rwa [Nm.key_len, Nm.key_len] at this⟩
  show Nm.keyOf m = Nm.keyOf l
  unfold Nm.keyOf
  rw [e, h]
set_option maxHeartbeats 4000000 in
set_option maxRecDepth 100000 in
theorem upper_any (l : List UInt8) (bt : Nat) (hbt : bt < 65536) (w : World) (hs : l.length ≤ 140737488351232) :
    Calls Tryz.prog 21 #[.string (str l), .int .u16 bt] w fun e Y => (∃ m, e = .returned (.string (str m)) ∧ Nm.key m = Nm.key l) ∧ Below w.heap.size w Y := by
  have hsz := Nm.str_size l
  have hnew := fun w cap => Wi.RowAt.new w l cap
  generalize hS : str l = SA at *
  clear hS
  have hcv := run_bytes_of_string (P := Tryz.prog) w 9 114 5 SA Tryz.underlying9 Tryz.underlying114 Tryz.underlying5
  have HN := Lib.hid (hnew w (grownCap w SA.size 0 5))
  clear hnew
  have BA := Lib.hid (((Below.refl w.heap.size w).drew).alloc (Nat.le_refl _) (.cells (bytesRow SA (grownCap w SA.size 0 5)) 5 ((bytesRow SA (grownCap w SA.size 0 5)).size, (bytesRow SA (grownCap w SA.size 0 5)).size + 1)))
  generalize hg : w.heap.size = g at *
  generalize grownCap w SA.size 0 5 = cap at *
  generalize (w.drew.alloc (.cells (bytesRow SA cap) 5 ((bytesRow SA cap).size, (bytesRow SA cap).size + 1))) = W2 at *
  generalize hn : SA.size = n at *
  subst hsz
  go_enter Tryz.func21, Tryz.ntmps21
  go_wp2_with fail
  go_loopw [11] (fun c wr => ∃ (i : Nat) (m : List UInt8), c = .int .i64 (i : Nat) ∧ i ≤ l.length ∧ Wi.RowAt wr g m ∧ Nm.key m = Nm.key l ∧ Below g w wr) (fun c _ => l.length - (Lib.intOf c).toNat)
  case atStart => exact ⟨0, l, rfl, by omega, HN.out, rfl, BA.out⟩
  case round =>
    obtain ⟨i, m, rfl, hi, hrow, hkm, hbw⟩ := hrel
    have HROW := Lib.hid hrow
    have HKM := Lib.hid hkm
    have HBW := Lib.hid hbw
    have hml : m.length = l.length := by have := congrArg List.length hkm; rwa [Nm.key_len, Nm.key_len] at this
    clear hrow hkm hbw
    by_cases hin : i < l.length
    · obtain ⟨x, hx⟩ : ∃ x, m[i]? = some x := ⟨_, List.getElem?_eq_getElem (by omega)⟩
      obtain ⟨hc, hf⟩ := HROW.out.cell hx
      have hxl := x.toNat_lt
      have hi16 : (0 : Int) ≤ (i : Int) % 16 := by omega
      have hi17 : (i : Int) % 16 < 16 := by omega
      go_wp2_with fail
      all_goals first
        | exact ⟨⟨i + 1, m, rfl, by omega, HROW.out, HKM.out, HBW.out⟩, by simp [Lib.intOf]; omega⟩
        | (have h97 : 97 ≤ x.toNat := by omega
           have h122 : x.toNat ≤ 122 := by omega
           have hy : (UInt8.ofNat (x.toNat - 32)).toNat = x.toNat - 32 := by rw [UInt8.toNat_ofNat']; omega
           have hv : (x.toNat : Int) - 32 = ((UInt8.ofNat (x.toNat - 32)).toNat : Int) := by rw [hy]; omega
           rw [hv]
           refine ⟨⟨i + 1, m.set i (UInt8.ofNat (x.toNat - 32)), rfl, by omega, HROW.out.set (by omega) _, ?_, HBW.out.setCell (p := ⟨g, i, none⟩) (Nat.le_refl g) _⟩, by simp [Lib.intOf]; omega⟩
           rw [key_turn hx (by rw [hy]; exact up_low x.toNat hxl ⟨h97, h122⟩)]
           exact HKM.out)
    · have HML := Lib.hid hml
      clear hml
      obtain rfl : i = l.length := by omega
      have htx := HROW.out.text l.length cap HML.out.symm
      go_wp2_with fail
      go_ret
      exact ⟨⟨m, rfl, HKM.out⟩, HBW.out⟩
end Go.Proofs.YtphclpjekpdifaaGreat
namespace Go.Proofs.YtphclpjekpdifaaGreat
set_option maxRecDepth 20000
open Go.RowKit
open PS (Tx putM dropM setM findM Nod Ten Jb kOf St Cm Rp byName row)
open Go.Proofs.YtphclpjekpdifaaGreat.Nm (str)
open Go.Proofs.YtphclpjekpdifaaGreat.Vc (RetBelow fitB I64)
set_option linter.unusedVariables false
def JCells (Z : World) (g i : Nat) (x : Jb) : Prop := Z.cell? ⟨g, i * 7, none⟩ = some (.string (str x.s)) ∧ Z.cell? ⟨g, i * 7 + 1, none⟩ = some (.string (str x.t)) ∧ Z.cell? ⟨g, i * 7 + 2, none⟩ = some (.int .i64 x.p) ∧ Z.cell? ⟨g, i * 7 + 3, none⟩ = some (.int .i64 x.q) ∧ Z.cell? ⟨g, i * 7 + 4, none⟩ = some (.int .i64 x.r) ∧ Z.cell? ⟨g, i * 7 + 5, none⟩ = some (.string (str x.on)) ∧ Z.cell? ⟨g, i * 7 + 6, none⟩ = some (.int .i64 x.st)
theorem jcells {w Z : World} {b : Nat} {S : St} {G K : List (Nat × Obj)} {A : Option Addr} {L : List Jb} (h : LvE w Z b S G) (hK : ∀ p ∈ K, p ∈ G) (hr : RowsIn DJ K A L) {i : Nat} {x : Jb} (hx : L[i]? = some x) : ∃ g, A = some ⟨g, 0, none⟩ ∧ JCells Z g i x := by
  obtain ⟨g, hg, hc⟩ := hr i x hx
  have hh := hc Z fun p hp => h.held (hK p hp)
  exact ⟨g, hg, hh 0 _ rfl, hh 1 _ rfl, hh 2 _ rfl, hh 3 _ rfl, hh 4 _ rfl, hh 5 _ rfl, hh 6 _ rfl⟩
end Go.Proofs.YtphclpjekpdifaaGreat
namespace Go.Proofs.YtphclpjekpdifaaGreat
set_option maxRecDepth 20000
open Go.RowKit
set_option linter.unusedVariables false
theorem cells56 : Tryz.prog.cellsOf 56 = 1 := by kernel_rfl
section
open Go.ChangeShapes Go.WideShapes Go.ChangeAt Go.Deep
variable {H : Type} {enc : TypeId × Value → H} {W : World} {base : Nat}
theorem u16s_arg {v : Value} {d : DataW H} {p : List MemPlace} (hv : Value.okWide Tryz.prog W .any base 54 v) (h0 : DataW.Trod enc Tryz.prog W 0 (fun _ => true) true 54 v d p) :
    ∃ (A : Option Addr) (N c : Nat), v = .slice A N c ∧ ∀ j, j < N → ∃ b off z, A = some ⟨b, off, none⟩ ∧ b < W.heap.size ∧ W.cell? ⟨b, off + j, none⟩ = some (.int .u16 z) ∧ 0 ≤ z ∧ z ≤ 65535 := by
  obtain ⟨A, N, c, rfl⟩ := okWide_slice Tryz.underlying54 hv
  obtain ⟨fuel, h⟩ := h0
  have h : DataW.trod enc Tryz.prog W 0 (fun _ => true) true fuel 54 [.slice A N c] = some (d, p) := h
  rcases open_slice Tryz.underlying54 h with ⟨hcs, hx⟩ | ⟨a, len, cap, m, n, D, Pl, hcs, _, hl, hm, hmm, hx, hi⟩
  · simp only [List.cons.injEq, and_true, Value.slice.injEq] at hcs
    obtain ⟨rfl, rfl, rfl⟩ := hcs
    exact ⟨none, 0, 0, rfl, fun j hj => by omega⟩
  · simp only [List.cons.injEq, and_true, Value.slice.injEq] at hcs
    simp only [if_true] at hmm
    subst hmm
    rw [cells56] at hi
    obtain ⟨rfl, rfl, rfl⟩ := hcs
    refine ⟨some a, _, _, rfl, fun j hj => ?_⟩
    obtain ⟨cs', hc, ht⟩ := hi j (by omega)
    obtain ⟨_, hcl, hat⟩ := World.cells?_some hc
    match cs', hcl with
    | [u0], _ =>
      obtain ⟨k0, e0, _, w0⟩ := DataW.trod_int Tryz.underlying56 ht
      have e0' : u0 = .int .u16 k0 := by simpa using e0
      subst e0'
      have c0 := hat 0 (by simp)
      obtain ⟨b, off, spot⟩ := a
      have hspot : spot = none := by
        obtain ⟨cs0, hc0, ht0⟩ := hi 0 (by omega)
        obtain ⟨_, hcl0, hat0⟩ := World.cells?_some hc0
        match cs0, hcl0 with
        | [u9], _ => simpa [Addr.add] using World.cell?_spot (hat0 0 (by simp))
      subst hspot
      have hb := World.block_lt_of_cell? W _ c0
      rw [addr_add, addr_add] at c0 hb
      have hr : 0 ≤ k0 ∧ k0 ≤ 65535 := by
        simp only [Lit.wf, Bool.and_eq_true, decide_eq_true_eq] at w0
        have e1 : IntKind.u16.min = 0 := by decide
        have e2 : IntKind.u16.max = 65535 := by decide
        rw [e1, e2] at w0
        exact w0
      refine ⟨b, off, k0, rfl, hb, ?_, hr.1, hr.2⟩
      rw [Nat.mul_one] at c0
      exact c0
end
end Go.Proofs.YtphclpjekpdifaaGreat
