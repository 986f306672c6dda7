import Derived.Test.YtphclpjekpdifaaGreatYY
import Derived.Test.YtphclpjekpdifaaGreatYF
namespace Go.Proofs.YtphclpjekpdifaaGreat
set_option maxRecDepth 20000
open PS (Tx putM dropM setM findM Nod Ten Jb kOf St Cm byName)
set_option linter.unusedVariables false
theorem bb_irrefl : ∀ a : Tx, bytesBefore a a = false
  | [] => rfl
  | a :: r => by
    show (decide (a < a) || (a == a && bytesBefore r r)) = false
    rw [bb_irrefl r]; simp
theorem bb_trans : ∀ {a b c : Tx}, bytesBefore a b = true → bytesBefore b c = true → bytesBefore a c = true
  | [], [], _, h, _ => by cases h
  | [], _ :: _, [], _, h => by cases h
  | [], _ :: _, _ :: _, _, _ => rfl
  | _ :: _, [], _, h, _ => by cases h
  | _ :: _, _ :: _, [], _, h => by cases h
  | a :: r, b :: s, c :: t, h1, h2 => by
    change (decide (a < b) || (a == b && bytesBefore r s)) = true at h1
    change (decide (b < c) || (b == c && bytesBefore s t)) = true at h2
    show (decide (a < c) || (a == c && bytesBefore r t)) = true
    simp only [Bool.or_eq_true, Bool.and_eq_true, decide_eq_true_eq, beq_iff_eq] at h1 h2 ⊢
    rcases h1 with h1 | ⟨rfl, h1⟩
    · rcases h2 with h2 | ⟨rfl, h2⟩
      · exact .inl (UInt8.lt_trans h1 h2)
      · exact .inl h1
    · rcases h2 with h2 | ⟨rfl, h2⟩
      · exact .inl h2
      · exact .inr ⟨rfl, bb_trans h1 h2⟩
theorem bb_total : ∀ {a b : Tx}, a ≠ b → bytesBefore a b = false → bytesBefore b a = true
  | [], [], h, _ => absurd rfl h
  | [], _ :: _, _, h => by cases h
  | _ :: _, [], _, _ => rfl
  | a :: r, b :: s, h, h1 => by
    change (decide (a < b) || (a == b && bytesBefore r s)) = false at h1
    show (decide (b < a) || (b == a && bytesBefore s r)) = true
    simp only [Bool.or_eq_false_iff, Bool.and_eq_false_iff, decide_eq_false_iff_not, beq_eq_false_iff_ne, Bool.or_eq_true, Bool.and_eq_true, decide_eq_true_eq, beq_iff_eq] at h1 ⊢
    by_cases hab : a = b
    · subst hab
      refine .inr ⟨rfl, bb_total (fun e => h (by rw [e])) ?_⟩
      rcases h1.2 with h2 | h2
      · exact absurd rfl h2
      · exact h2
    · refine .inl ?_
      have := h1.1
      rcases UInt8.lt_or_lt_of_ne hab with q | q
      · exact absurd q this
      · exact q
def SL {α : Type} (l : List (Tx × α)) : Prop := l.Pairwise fun e f => bytesBefore e.1 f.1 = true
theorem putM_perm {α : Type} (k : Tx) (v : α) : ∀ l : List (Tx × α), (putM k v l).Perm ((k, v) :: l)
  | [] => List.Perm.refl _
  | e :: r => by
    unfold putM
    split
    · exact List.Perm.refl _
    · exact ((putM_perm k v r).cons e).trans (List.Perm.swap _ _ _)
theorem mem_dropM {α : Type} {k : Tx} {l : List (Tx × α)} {e : Tx × α} : e ∈ dropM k l ↔ e ∈ l ∧ e.1 ≠ k := by
  unfold dropM
  rw [List.mem_filter]
  simp
theorem mem_setM {α : Type} {k : Tx} {v : α} {l : List (Tx × α)} {e : Tx × α} : e ∈ setM k v l ↔ e = (k, v) ∨ (e ∈ l ∧ e.1 ≠ k) := by
  unfold setM
  rw [(putM_perm k v _).mem_iff, List.mem_cons, mem_dropM]
theorem SL.drop {α : Type} {l : List (Tx × α)} (h : SL l) (k : Tx) : SL (dropM k l) := List.Pairwise.sublist List.filter_sublist h
theorem SL.put {α : Type} {k : Tx} {v : α} : ∀ {l : List (Tx × α)}, SL l → (∀ e ∈ l, e.1 ≠ k) → SL (putM k v l)
  | [], _, _ => by simp [putM, SL]
  | e :: r, h, hn => by
    unfold SL at h
    rw [List.pairwise_cons] at h
    unfold putM
    split
    · rename_i hk
      refine List.Pairwise.cons (fun f hf => ?_) (List.Pairwise.cons h.1 h.2)
      rcases List.mem_cons.1 hf with rfl | hf
      · exact hk
      · exact bb_trans hk (h.1 f hf)
    · rename_i hk
      refine List.Pairwise.cons (fun f hf => ?_) (SL.put h.2 fun f hf => hn f (by simp [hf]))
      rcases List.mem_cons.1 ((putM_perm k v r).mem_iff.1 hf) with rfl | hf
      · exact bb_total (fun q => hn e (by simp) q.symm) (Bool.eq_false_iff.2 hk)
      · exact h.1 f hf
theorem SL.set {α : Type} {l : List (Tx × α)} (h : SL l) (k : Tx) (v : α) : SL (setM k v l) := (h.drop k).put fun e he => (mem_dropM.1 he).2
theorem SL.one {α : Type} : ∀ {l : List (Tx × α)}, SL l → ∀ {e f : Tx × α}, e ∈ l → f ∈ l → e.1 = f.1 → e = f
  | [], _, e, f, he, _, _ => by cases he
  | x :: r, h, e, f, he, hf, hk => by
    unfold SL at h
    rw [List.pairwise_cons] at h
    rcases List.mem_cons.1 he with q | q
    · rcases List.mem_cons.1 hf with q2 | q2
      · rw [q, q2]
      · have := h.1 f q2
        rw [← q, hk, bb_irrefl] at this; cases this
    · rcases List.mem_cons.1 hf with q2 | q2
      · have := h.1 e q
        rw [← q2, hk, bb_irrefl] at this; cases this
      · exact SL.one h.2 q q2 hk
theorem find_none {α : Type} {l : List (Tx × α)} {k : Tx} (h : findM l k = none) : ∀ e ∈ l, e.1 ≠ k := by
  intro e he
  unfold findM at h
  rw [Option.map_eq_none_iff] at h
  have := List.find?_eq_none.1 h e he
  simpa using this
theorem find_none_of {α : Type} {l : List (Tx × α)} {k : Tx} (h : ∀ e ∈ l, e.1 ≠ k) : findM l k = none := by
  unfold findM
  rw [Option.map_eq_none_iff]
  exact List.find?_eq_none.2 fun e he => by simpa using h e he
theorem SL.find {α : Type} {l : List (Tx × α)} (h : SL l) {k : Tx} {v : α} (hm : (k, v) ∈ l) : findM l k = some v := by
  cases hf : findM l k with
  | none => exact absurd rfl (find_none hf _ hm)
  | some x =>
    have := h.one (findM_mem hf) hm rfl
    cases this; rfl
theorem find_setM {α : Type} {l : List (Tx × α)} (h : SL l) (k k' : Tx) (v : α) : findM (setM k v l) k' = if k' = k then some v else findM l k' := by
  split
  · rename_i hk
    subst hk
    exact (h.set k' v).find (mem_setM.2 (.inl rfl))
  · rename_i hk
    cases hf : findM l k' with
    | none =>
      exact find_none_of fun e he => by
        rcases mem_setM.1 he with rfl | ⟨h1, h2⟩
        · exact fun e => hk e.symm
        · exact find_none hf e h1
    | some x => exact (h.set k v).find (mem_setM.2 (.inr ⟨findM_mem hf, hk⟩))
theorem find_dropM {α : Type} {l : List (Tx × α)} (h : SL l) (k k' : Tx) : findM (dropM k l) k' = if k' = k then none else findM l k' := by
  split
  · rename_i hk
    subst hk
    exact find_none_of fun e he => (mem_dropM.1 he).2
  · rename_i hk
    cases hf : findM l k' with
    | none => exact find_none_of fun e he => find_none hf e (mem_dropM.1 he).1
    | some x => exact (h.drop k).find (mem_dropM.2 ⟨findM_mem hf, hk⟩)
theorem SL.ext {α : Type} : ∀ {l m : List (Tx × α)}, SL l → SL m → (∀ k, findM l k = findM m k) → l = m := by
  have key : ∀ (l m : List (Tx × α)), SL l → SL m → (∀ e, e ∈ l ↔ e ∈ m) → l = m := by
    intro l
    induction l with
    | nil =>
      intro m _ _ h
      cases m with
      | nil => rfl
      | cons f s => exact absurd ((h f).2 (by simp)) (by simp)
    | cons e r ih =>
      intro m hl hm h
      cases m with
      | nil => exact absurd ((h e).1 (by simp)) (by simp)
      | cons f s =>
        have hl0 := hl
        have hm0 := hm
        unfold SL at hl hm
        rw [List.pairwise_cons] at hl hm
        have hef : e = f := by
          rcases List.mem_cons.1 ((h e).1 (by simp)) with q | q
          · exact q
          · rcases List.mem_cons.1 ((h f).2 (by simp)) with q2 | q2
            · exact q2.symm
            · have := bb_trans (hm.1 e q) (hl.1 f q2)
              rw [bb_irrefl] at this; cases this
        subst hef
        have hne : ∀ x ∈ r, x ≠ e := fun x hx q => by
          have := hl.1 x hx
          rw [q, bb_irrefl] at this; cases this
        have hne2 : ∀ x ∈ s, x ≠ e := fun x hx q => by
          have := hm.1 x hx
          rw [q, bb_irrefl] at this; cases this
        rw [ih s hl.2 hm.2 fun x => ⟨fun hx => by
          rcases List.mem_cons.1 ((h x).1 (by simp [hx])) with q | q
          · exact absurd q (hne x hx)
          · exact q, fun hx => by
          rcases List.mem_cons.1 ((h x).2 (by simp [hx])) with q | q
          · exact absurd q (hne2 x hx)
          · exact q⟩]
  intro l m hl hm h
  refine key l m hl hm fun e => ⟨fun he => ?_, fun he => ?_⟩
  · have := hl.find (k := e.1) (v := e.2) he
    rw [h] at this
    exact findM_mem this
  · have := hm.find (k := e.1) (v := e.2) he
    rw [← h] at this
    exact findM_mem this
theorem set_set {α : Type} {l : List (Tx × α)} (h : SL l) (k : Tx) (v v' : α) : setM k v (setM k v' l) = setM k v l :=
  ((h.set k v').set k v).ext (h.set k v) fun k' => by
    rw [find_setM (h.set k v'), find_setM h, find_setM h]
    split <;> rfl
theorem set_perm {α : Type} (k : Tx) (v : α) (l : List (Tx × α)) : (setM k v l).Perm ((k, v) :: dropM k l) := putM_perm k v _
theorem drop_none {α : Type} {l : List (Tx × α)} {k : Tx} (hf : findM l k = none) : dropM k l = l := by
  unfold dropM
  rw [List.filter_eq_self]
  intro e he
  have := find_none hf e he
  simpa using this
theorem drop_perm {α : Type} : ∀ {l : List (Tx × α)}, SL l → ∀ {k : Tx} {v : α}, findM l k = some v → l.Perm ((k, v) :: dropM k l)
  | [], _, k, v, hf => by cases hf
  | e :: r, h, k, v, hf => by
    have h0 := h
    unfold SL at h
    rw [List.pairwise_cons] at h
    by_cases hk : e.1 = k
    · have hn : ∀ x ∈ r, x.1 ≠ k := fun x hx q => by
        have := h.1 x hx
        rw [hk, q, bb_irrefl] at this; cases this
      have hd : dropM k (e :: r) = r := by
        unfold dropM
        rw [List.filter_cons_of_neg (by simp [hk]), List.filter_eq_self]
        intro x hx
        have := hn x hx
        simpa using this
      have he : e = (k, v) := by
        have := h0.find (k := e.1) (v := e.2) (by simp)
        rw [hk, hf] at this
        injection this with this
        exact Prod.ext hk this.symm
      rw [hd, he]
    · have hf2 : findM r k = some v := by
        unfold findM at hf ⊢
        rwa [List.find?_cons_of_neg (by simpa using hk)] at hf
      have hd : dropM k (e :: r) = e :: dropM k r := by
        unfold dropM
        rw [List.filter_cons_of_pos (by simpa using hk)]
      rw [hd]
      exact ((drop_perm h.2 hf2).cons e).trans (List.Perm.swap _ _ _)
theorem dropM_len {α : Type} {l : List (Tx × α)} (h : SL l) {k : Tx} {v : α} (hf : findM l k = some v) : (dropM k l).length + 1 = l.length := by
  have := (drop_perm h hf).length_eq
  rw [List.length_cons] at this
  exact this.symm
theorem setM_len_some {α : Type} {l : List (Tx × α)} (h : SL l) {k : Tx} {v : α} (x : α) (hf : findM l k = some v) : (setM k x l).length = l.length := by
  rw [(set_perm k x l).length_eq, List.length_cons, dropM_len h hf]
theorem setM_len_none {α : Type} {l : List (Tx × α)} {k : Tx} (x : α) (hf : findM l k = none) : (setM k x l).length = l.length + 1 := by
  rw [(set_perm k x l).length_eq, List.length_cons, drop_none hf]
def sumJ (p : Jb → Bool) (f : Jb → Int) : List (Tx × Jb) → Int
  | [] => 0
  | e :: r => (if p e.2 = true then f e.2 else 0) + sumJ p f r
theorem sumJ_perm (p : Jb → Bool) (f : Jb → Int) {l m : List (Tx × Jb)} (h : l.Perm m) : sumJ p f l = sumJ p f m := by
  induction h with
  | nil => rfl
  | cons x _ ih => simp only [sumJ, ih]
  | swap x y l => simp only [sumJ]; omega
  | trans _ _ ih1 ih2 => rw [ih1, ih2]
theorem sumJ_new (p : Jb → Bool) (f : Jb → Int) {l : List (Tx × Jb)} {k : Tx} (j : Jb) (hf : findM l k = none) : sumJ p f (setM k j l) = (if p j = true then f j else 0) + sumJ p f l := by
  rw [sumJ_perm p f (set_perm k j l), drop_none hf]; rfl
theorem sumJ_out (p : Jb → Bool) (f : Jb → Int) {l : List (Tx × Jb)} (h : SL l) {k : Tx} {j : Jb} (hf : findM l k = some j) : sumJ p f (dropM k l) = sumJ p f l - (if p j = true then f j else 0) := by
  rw [sumJ_perm p f (drop_perm h hf)]; simp only [sumJ]; omega
theorem sumJ_set (p : Jb → Bool) (f : Jb → Int) {l : List (Tx × Jb)} (h : SL l) {k : Tx} {j : Jb} (x : Jb) (hf : findM l k = some j) : sumJ p f (setM k x l) = sumJ p f l - (if p j = true then f j else 0) + (if p x = true then f x else 0) := by
  rw [sumJ_perm p f (set_perm k x l), sumJ_perm p f (drop_perm h hf)]; simp only [sumJ]; omega
theorem sumJ_nonneg (p : Jb → Bool) (f : Jb → Int) {l : List (Tx × Jb)} (h : ∀ e ∈ l, 0 ≤ f e.2) : 0 ≤ sumJ p f l := by
  induction l with
  | nil => exact Int.le_refl _
  | cons e r ih =>
    simp only [sumJ]
    have := ih fun x hx => h x (by simp [hx])
    have := h e (by simp)
    split <;> omega
theorem sumJ_le (p : Jb → Bool) (f : Jb → Int) {l : List (Tx × Jb)} (h : ∀ e ∈ l, 0 ≤ f e.2) {e : Tx × Jb} (he : e ∈ l) (hp : p e.2 = true) : f e.2 ≤ sumJ p f l := by
  induction l with
  | nil => cases he
  | cons x r ih =>
    simp only [sumJ]
    have h0 := sumJ_nonneg p f (l := r) fun y hy => h y (by simp [hy])
    have h1 := h x (by simp)
    rcases List.mem_cons.1 he with rfl | he
    · rw [if_pos hp]; omega
    · have := ih (fun y hy => h y (by simp [hy])) he
      split <;> omega
theorem sumJ_one_le (p : Jb → Bool) (l : List (Tx × Jb)) : sumJ p (fun _ => 1) l ≤ l.length := by
  induction l with
  | nil => exact Int.le_refl _
  | cons x r ih =>
    simp only [sumJ, List.length_cons]
    split <;> omega
end Go.Proofs.YtphclpjekpdifaaGreat
namespace Go.Proofs.YtphclpjekpdifaaGreat
set_option maxRecDepth 20000
open PS (Tx putM dropM setM findM Nod Ten Jb kOf St Cm byName krow row in3 o1 o2 o3 takeN takeT freeN freeT tenOf nodOf)
open Go.Proofs.YtphclpjekpdifaaGreat.Nm (str)
open Go.Proofs.YtphclpjekpdifaaGreat.Vc (fitB I64)
set_option linter.unusedVariables false
def onB (s : Tx) (j : Jb) : Bool := j.on == s
def ofB (s : Tx) (j : Jb) : Bool := j.t == s
structure NInv (J : List (Tx × Jb)) (k : Tx) (n : Nod) : Prop where
  key : k = kOf n.s
  may : Nm.may n.s = true
  i : I64 n.a ∧ I64 n.b ∧ I64 n.c
  ux : n.x = sumJ (onB n.s) Jb.p J
  uy : n.y = sumJ (onB n.s) Jb.q J
  uz : n.z = sumJ (onB n.s) Jb.r J
  fx : n.x ≤ n.a
  fy : n.y ≤ n.b
  fz : n.z ≤ n.c
  cnt : n.n = sumJ (onB n.s) (fun _ => 1) J
structure TInv (J : List (Tx × Jb)) (k : Tx) (n : Ten) : Prop where
  key : k = kOf n.s
  may : Nm.may n.s = true
  i : I64 n.a ∧ I64 n.b ∧ I64 n.c
  ux : n.x = sumJ (ofB n.s) Jb.p J
  uy : n.y = sumJ (ofB n.s) Jb.q J
  uz : n.z = sumJ (ofB n.s) Jb.r J
  fx : n.x ≤ n.a
  fy : n.y ≤ n.b
  fz : n.z ≤ n.c
  cnt : n.n = sumJ (ofB n.s) (fun _ => 1) J
structure JInv (S : St) (k : Tx) (j : Jb) : Prop where
  key : k = kOf j.s
  may : Nm.may j.s = true
  p0 : 0 ≤ j.p ∧ 0 ≤ j.q ∧ 0 ≤ j.r
  i : I64 j.p ∧ I64 j.q ∧ I64 j.r
  st : 0 ≤ j.st ∧ j.st ≤ 2
  n : ∃ n, findM S.N (kOf j.on) = some n ∧ n.s = j.on
  t : ∃ t, findM S.T (kOf j.t) = some t ∧ t.s = j.t
structure Inv (S : St) : Prop where
  sN : SL S.N
  sT : SL S.T
  sJ : SL S.J
  lN : S.N.length ≤ 32
  lT : S.T.length ≤ 32
  lJ : S.J.length ≤ 128
  n : ∀ k n, findM S.N k = some n → NInv S.J k n
  t : ∀ k n, findM S.T k = some n → TInv S.J k n
  j : ∀ k j, findM S.J k = some j → JInv S k j
theorem inv_s0 : Inv PS.s0 := ⟨List.Pairwise.nil, List.Pairwise.nil, List.Pairwise.nil, by simp [PS.s0], by simp [PS.s0], by simp [PS.s0], fun k n h => (by cases h), fun k n h => (by cases h), fun k n h => (by cases h)⟩
theorem fit_iff {a b c x y z : Int} : fitB a b c x y z = true ↔ a ≤ x ∧ b ≤ y ∧ c ≤ z := by simp [fitB, and_assoc]
theorem mem_find {α : Type} {l : List (Tx × α)} {e : Tx × α} (h : SL l) (he : e ∈ l) : findM l e.1 = some e.2 := h.find (k := e.1) (v := e.2) he
theorem Inv.pos {S : St} (h : Inv S) : ∀ e ∈ S.J, 0 ≤ e.2.p ∧ 0 ≤ e.2.q ∧ 0 ≤ e.2.r := fun e he => (h.j _ _ (mem_find h.sJ he)).p0
theorem Inv.used {S : St} (h : Inv S) (p : Jb → Bool) : 0 ≤ sumJ p Jb.p S.J ∧ 0 ≤ sumJ p Jb.q S.J ∧ 0 ≤ sumJ p Jb.r S.J ∧ 0 ≤ sumJ p (fun _ => 1) S.J ∧ sumJ p (fun _ => 1) S.J ≤ 128 :=
  ⟨sumJ_nonneg _ _ fun e he => (h.pos e he).1, sumJ_nonneg _ _ fun e he => (h.pos e he).2.1, sumJ_nonneg _ _ fun e he => (h.pos e he).2.2, sumJ_nonneg _ _ fun _ _ => by omega, by have := sumJ_one_le p S.J; have := h.lJ; omega⟩
theorem may_len' {l : Tx} (h : Nm.may l = true) : l.length ≤ 96 := Wi.may_len h
theorem kOf_may {s : Tx} (h : Nm.may s = true) : kOf s = Nm.key s := by
  show Nm.keyOf s = _
  unfold Nm.keyOf
  rw [if_pos h]
theorem key_ok {s : Tx} (h : Nm.may s = true) : KeyOk (kOf s) := by
  rw [kOf_may h]
  exact ⟨by rw [Nm.key_len]; have := may_len' h; omega, by rw [Nm.okay_key]; exact Nm.may_okay h⟩
theorem NInv.ok {S : St} (h : Inv S) {k : Tx} {n : Nod} (hn : NInv S.J k n) : NodOk n := by
  have hu := h.used (onB n.s)
  have ⟨h1, h2, h3⟩ := hn.i
  have := hn.ux; have := hn.uy; have := hn.uz; have := hn.fx; have := hn.fy; have := hn.fz; have := hn.cnt
  unfold I64 at h1 h2 h3
  refine ⟨by have := may_len' hn.may; omega, ?_⟩
  unfold I64
  omega
theorem TInv.ok {S : St} (h : Inv S) {k : Tx} {n : Ten} (hn : TInv S.J k n) : TenOk n := by
  have hu := h.used (ofB n.s)
  have ⟨h1, h2, h3⟩ := hn.i
  have := hn.ux; have := hn.uy; have := hn.uz; have := hn.fx; have := hn.fy; have := hn.fz; have := hn.cnt
  unfold I64 at h1 h2 h3
  refine ⟨by have := may_len' hn.may; omega, ?_⟩
  unfold I64
  omega
theorem JInv.ok {S : St} (h : Inv S) {k : Tx} {j : Jb} (hj : JInv S k j) : JbOk j := by
  obtain ⟨n, hn, hn2⟩ := hj.n
  obtain ⟨t, ht, ht2⟩ := hj.t
  have h1 := may_len' (h.n _ _ hn).may
  have h2 := may_len' (h.t _ _ ht).may
  have h3 := may_len' hj.may
  rw [hn2] at h1
  rw [ht2] at h2
  refine ⟨⟨by omega, by omega, by omega⟩, hj.i.1, hj.i.2.1, hj.i.2.2, ?_⟩
  have := hj.st
  unfold I64; omega
theorem Inv.ok {S : St} (h : Inv S) : Ok S :=
  ⟨by have := h.lN; omega, by have := h.lT; omega, by have := h.lJ; omega,
   fun e he => by
    have := h.n _ _ (mem_find h.sN he)
    exact ⟨this.key ▸ key_ok this.may, this.ok h⟩,
   fun e he => by
    have := h.t _ _ (mem_find h.sT he)
    exact ⟨this.key ▸ key_ok this.may, this.ok h⟩,
   fun e he => by
    have := h.j _ _ (mem_find h.sJ he)
    exact ⟨this.key ▸ key_ok this.may, this.ok h⟩⟩
theorem Inv.node {S : St} (h : Inv S) {n m : Nod} {k : Tx} (hf : findM S.N k = some n) (hs : m.s = n.s) (hx : m.x = n.x ∧ m.y = n.y ∧ m.z = n.z ∧ m.n = n.n) (hi : I64 m.a ∧ I64 m.b ∧ I64 m.c) (hfit : n.x ≤ m.a ∧ n.y ≤ m.b ∧ n.z ≤ m.c) : Inv { S with N := setM (kOf n.s) m S.N } := by
  have hn := h.n _ _ hf
  have hk : k = kOf n.s := hn.key
  rw [hk] at hf hn
  refine ⟨h.sN.set _ _, h.sT, h.sJ, by rw [setM_len_some h.sN m hf]; exact h.lN, h.lT, h.lJ, fun k' n' hk' => ?_, h.t, fun k' j hk' => ?_⟩
  · rw [find_setM h.sN] at hk'
    split at hk'
    · rename_i e
      injection hk' with hk'
      subst hk'
      exact ⟨by rw [e, hs], by rw [hs]; exact hn.may, hi, by rw [hx.1, hs]; exact hn.ux, by rw [hx.2.1, hs]; exact hn.uy, by rw [hx.2.2.1, hs]; exact hn.uz, by rw [hx.1]; exact hfit.1, by rw [hx.2.1]; exact hfit.2.1, by rw [hx.2.2.1]; exact hfit.2.2, by rw [hx.2.2.2, hs]; exact hn.cnt⟩
    · exact h.n _ _ hk'
  · have hj := h.j _ _ hk'
    refine ⟨hj.key, hj.may, hj.p0, hj.i, hj.st, ?_, hj.t⟩
    obtain ⟨n0, h1, h2⟩ := hj.n
    by_cases e : kOf j.on = kOf n.s
    · rw [e, hf] at h1
      injection h1 with h1
      exact ⟨m, by show findM (setM (kOf n.s) m S.N) _ = _; rw [find_setM h.sN, if_pos e], by rw [hs, h1, h2]⟩
    · exact ⟨n0, by show findM (setM (kOf n.s) m S.N) _ = _; rw [find_setM h.sN, if_neg e]; exact h1, h2⟩
theorem Inv.ten {S : St} (h : Inv S) {n m : Ten} {k : Tx} (hf : findM S.T k = some n) (hs : m.s = n.s) (hx : m.x = n.x ∧ m.y = n.y ∧ m.z = n.z ∧ m.n = n.n) (hi : I64 m.a ∧ I64 m.b ∧ I64 m.c) (hfit : n.x ≤ m.a ∧ n.y ≤ m.b ∧ n.z ≤ m.c) : Inv { S with T := setM (kOf n.s) m S.T } := by
  have hn := h.t _ _ hf
  have hk : k = kOf n.s := hn.key
  rw [hk] at hf hn
  refine ⟨h.sN, h.sT.set _ _, h.sJ, h.lN, by rw [setM_len_some h.sT m hf]; exact h.lT, h.lJ, h.n, fun k' n' hk' => ?_, fun k' j hk' => ?_⟩
  · rw [find_setM h.sT] at hk'
    split at hk'
    · rename_i e
      injection hk' with hk'
      subst hk'
      exact ⟨by rw [e, hs], by rw [hs]; exact hn.may, hi, by rw [hx.1, hs]; exact hn.ux, by rw [hx.2.1, hs]; exact hn.uy, by rw [hx.2.2.1, hs]; exact hn.uz, by rw [hx.1]; exact hfit.1, by rw [hx.2.1]; exact hfit.2.1, by rw [hx.2.2.1]; exact hfit.2.2, by rw [hx.2.2.2, hs]; exact hn.cnt⟩
    · exact h.t _ _ hk'
  · have hj := h.j _ _ hk'
    refine ⟨hj.key, hj.may, hj.p0, hj.i, hj.st, hj.n, ?_⟩
    obtain ⟨n0, h1, h2⟩ := hj.t
    by_cases e : kOf j.t = kOf n.s
    · rw [e, hf] at h1
      injection h1 with h1
      exact ⟨m, by show findM (setM (kOf n.s) m S.T) _ = _; rw [find_setM h.sT, if_pos e], by rw [hs, h1, h2]⟩
    · exact ⟨n0, by show findM (setM (kOf n.s) m S.T) _ = _; rw [find_setM h.sT, if_neg e]; exact h1, h2⟩
theorem sumJ_zero (p : Jb → Bool) (f : Jb → Int) {l : List (Tx × Jb)} (h : ∀ e ∈ l, p e.2 = false) : sumJ p f l = 0 := by
  induction l with
  | nil => rfl
  | cons x r ih => simp only [sumJ]; rw [ih fun y hy => h y (by simp [hy]), h x (by simp)]; rfl
theorem Inv.noJob {S : St} (h : Inv S) {s : Tx} (hf : findM S.N (kOf s) = none) : ∀ e ∈ S.J, onB s e.2 = false := fun e he => by
  obtain ⟨n, h1, h2⟩ := (h.j _ _ (mem_find h.sJ he)).n
  unfold onB
  rw [beq_eq_false_iff_ne]
  intro q
  rw [q, hf] at h1; cases h1
theorem Inv.noJobT {S : St} (h : Inv S) {s : Tx} (hf : findM S.T (kOf s) = none) : ∀ e ∈ S.J, ofB s e.2 = false := fun e he => by
  obtain ⟨n, h1, h2⟩ := (h.j _ _ (mem_find h.sJ he)).t
  unfold ofB
  rw [beq_eq_false_iff_ne]
  intro q
  rw [q, hf] at h1; cases h1
theorem Inv.newN {S : St} (h : Inv S) {s : Tx} {a b c : Int} (hf : findM S.N (kOf s) = none) (hl : S.N.length < 32) (hm : Nm.may s = true) (h0 : 0 ≤ a ∧ 0 ≤ b ∧ 0 ≤ c) (hi : I64 a ∧ I64 b ∧ I64 c) (d : Bool) : Inv { S with N := setM (kOf s) ⟨s, a, b, c, 0, 0, 0, 0, d⟩ S.N } := by
  have hz := h.noJob hf
  refine ⟨h.sN.set _ _, h.sT, h.sJ, by rw [setM_len_none _ hf]; exact hl, h.lT, h.lJ, fun k' n' hk' => ?_, h.t, fun k' j hk' => ?_⟩
  · rw [find_setM h.sN] at hk'
    split at hk'
    · rename_i e
      injection hk' with hk'
      subst hk'
      exact ⟨e, hm, hi, (sumJ_zero _ _ hz).symm, (sumJ_zero _ _ hz).symm, (sumJ_zero _ _ hz).symm, h0.1, h0.2.1, h0.2.2, (sumJ_zero _ _ hz).symm⟩
    · exact h.n _ _ hk'
  · have hj := h.j _ _ hk'
    refine ⟨hj.key, hj.may, hj.p0, hj.i, hj.st, ?_, hj.t⟩
    obtain ⟨n0, h1, h2⟩ := hj.n
    refine ⟨n0, ?_, h2⟩
    show findM (setM (kOf s) _ S.N) _ = _
    rw [find_setM h.sN, if_neg fun e => by rw [e, hf] at h1; cases h1]
    exact h1
theorem Inv.newT {S : St} (h : Inv S) {s : Tx} {a b c : Int} (hf : findM S.T (kOf s) = none) (hl : S.T.length < 32) (hm : Nm.may s = true) (h0 : 0 ≤ a ∧ 0 ≤ b ∧ 0 ≤ c) (hi : I64 a ∧ I64 b ∧ I64 c) : Inv { S with T := setM (kOf s) ⟨s, a, b, c, 0, 0, 0, 0⟩ S.T } := by
  have hz := h.noJobT hf
  refine ⟨h.sN, h.sT.set _ _, h.sJ, h.lN, by rw [setM_len_none _ hf]; exact hl, h.lJ, h.n, fun k' n' hk' => ?_, fun k' j hk' => ?_⟩
  · rw [find_setM h.sT] at hk'
    split at hk'
    · rename_i e
      injection hk' with hk'
      subst hk'
      exact ⟨e, hm, hi, (sumJ_zero _ _ hz).symm, (sumJ_zero _ _ hz).symm, (sumJ_zero _ _ hz).symm, h0.1, h0.2.1, h0.2.2, (sumJ_zero _ _ hz).symm⟩
    · exact h.t _ _ hk'
  · have hj := h.j _ _ hk'
    refine ⟨hj.key, hj.may, hj.p0, hj.i, hj.st, hj.n, ?_⟩
    obtain ⟨n0, h1, h2⟩ := hj.t
    refine ⟨n0, ?_, h2⟩
    show findM (setM (kOf s) _ S.T) _ = _
    rw [find_setM h.sT, if_neg fun e => by rw [e, hf] at h1; cases h1]
    exact h1
theorem Inv.dropN {S : St} (h : Inv S) {n : Nod} {k : Tx} (hf : findM S.N k = some n) (h0 : ¬ 0 < n.n) : Inv { S with N := dropM (kOf n.s) S.N } := by
  have hn := h.n _ _ hf
  have hk : k = kOf n.s := hn.key
  rw [hk] at hf hn
  refine ⟨h.sN.drop _, h.sT, h.sJ, Nat.le_trans (List.length_filter_le _ _) h.lN, h.lT, h.lJ, fun k' n' hk' => ?_, h.t, fun k' j hk' => ?_⟩
  · rw [find_dropM h.sN] at hk'
    split at hk'
    · cases hk'
    · exact h.n _ _ hk'
  · have hj := h.j _ _ hk'
    refine ⟨hj.key, hj.may, hj.p0, hj.i, hj.st, ?_, hj.t⟩
    obtain ⟨n0, h1, h2⟩ := hj.n
    refine ⟨n0, ?_, h2⟩
    show findM (dropM (kOf n.s) S.N) _ = _
    rw [find_dropM h.sN]
    split
    · rename_i e
      rw [e, hf] at h1
      injection h1 with h1
      subst h1
      have := sumJ_le (onB n.s) (fun _ => 1) (l := S.J) (fun _ _ => by omega) (findM_mem hk') (by unfold onB; rw [h2]; simp)
      have := hn.cnt
      omega
    · exact h1
theorem Inv.job {S : St} (h : Inv S) {j m : Jb} {k : Tx} (hf : findM S.J k = some j) (hs : m.s = j.s ∧ m.t = j.t ∧ m.p = j.p ∧ m.q = j.q ∧ m.r = j.r ∧ m.on = j.on) (hst : 0 ≤ m.st ∧ m.st ≤ 2) : Inv { S with J := setM (kOf j.s) m S.J } := by
  have hj := h.j _ _ hf
  have hk : k = kOf j.s := hj.key
  rw [hk] at hf hj
  obtain ⟨s1, s2, s3, s4, s5, s6⟩ := hs
  have hsum : ∀ (p : Jb → Bool) (f : Jb → Int), p m = p j → f m = f j → sumJ p f (setM (kOf j.s) m S.J) = sumJ p f S.J := fun p f h1 h2 => by
    rw [sumJ_set p f h.sJ m hf, h1, h2]; omega
  have hon : ∀ s, onB s m = onB s j := fun s => by unfold onB; rw [s6]
  have hof : ∀ s, ofB s m = ofB s j := fun s => by unfold ofB; rw [s2]
  refine ⟨h.sN, h.sT, h.sJ.set _ _, h.lN, h.lT, by show (setM (kOf j.s) m S.J).length ≤ _; rw [setM_len_some h.sJ m hf]; exact h.lJ, fun k' n hk' => ?_, fun k' n hk' => ?_, fun k' x hk' => ?_⟩
  · have hn := h.n _ _ hk'
    exact ⟨hn.key, hn.may, hn.i, by rw [hsum _ _ (hon _) s3]; exact hn.ux, by rw [hsum _ _ (hon _) s4]; exact hn.uy, by rw [hsum _ _ (hon _) s5]; exact hn.uz, hn.fx, hn.fy, hn.fz, by rw [hsum _ _ (hon _) rfl]; exact hn.cnt⟩
  · have hn := h.t _ _ hk'
    exact ⟨hn.key, hn.may, hn.i, by rw [hsum _ _ (hof _) s3]; exact hn.ux, by rw [hsum _ _ (hof _) s4]; exact hn.uy, by rw [hsum _ _ (hof _) s5]; exact hn.uz, hn.fx, hn.fy, hn.fz, by rw [hsum _ _ (hof _) rfl]; exact hn.cnt⟩
  · change findM (setM (kOf j.s) m S.J) k' = some x at hk'
    rw [find_setM h.sJ] at hk'
    split at hk'
    · rename_i e
      injection hk' with hk'
      subst hk'
      exact ⟨by rw [e, s1], by rw [s1]; exact hj.may, by rw [s3, s4, s5]; exact hj.p0, by rw [s3, s4, s5]; exact hj.i, hst, by rw [s6]; exact hj.n, by rw [s2]; exact hj.t⟩
    · have hx := h.j _ _ hk'
      exact ⟨hx.key, hx.may, hx.p0, hx.i, hx.st, hx.n, hx.t⟩
theorem in3_iff {x y z : Int} : in3 x y z = true ↔ I64 x ∧ I64 y ∧ I64 z := by simp [in3]
theorem wrap_small {x : Int} (h : 0 ≤ x ∧ x ≤ 1000) : IntKind.i64.wrap x = x := by
  rw [IntKind.wrap_i64]; omega
theorem takeN_is {n : Nod} {p q r : Int} (h : I64 (n.x + p) ∧ I64 (n.y + q) ∧ I64 (n.z + r)) (hc : 0 ≤ n.n ∧ n.n ≤ 127) : takeN n p q r = ⟨n.s, n.a, n.b, n.c, n.x + p, n.y + q, n.z + r, n.n + 1, n.d⟩ := by
  unfold takeN o1 o2 o3
  rw [if_pos (in3_iff.2 h), if_pos (in3_iff.2 h), if_pos (in3_iff.2 h), wrap_small (by omega)]
theorem takeT_is {n : Ten} {p q r : Int} (h : I64 (n.x + p) ∧ I64 (n.y + q) ∧ I64 (n.z + r)) (hc : 0 ≤ n.n ∧ n.n ≤ 127) : takeT n p q r = ⟨n.s, n.a, n.b, n.c, n.x + p, n.y + q, n.z + r, n.n + 1⟩ := by
  unfold takeT o1 o2 o3
  rw [if_pos (in3_iff.2 h), if_pos (in3_iff.2 h), if_pos (in3_iff.2 h), wrap_small (by omega)]
theorem freeN_is {n : Nod} {p q r : Int} (h : I64 (n.x - p) ∧ I64 (n.y - q) ∧ I64 (n.z - r)) (hc : 1 ≤ n.n ∧ n.n ≤ 128) : freeN n p q r = ⟨n.s, n.a, n.b, n.c, n.x - p, n.y - q, n.z - r, n.n - 1, n.d⟩ := by
  unfold freeN o1 o2 o3
  rw [if_pos (in3_iff.2 h), if_pos (in3_iff.2 h), if_pos (in3_iff.2 h), wrap_small (by omega)]
theorem freeT_is {n : Ten} {p q r : Int} (h : I64 (n.x - p) ∧ I64 (n.y - q) ∧ I64 (n.z - r)) (hc : 1 ≤ n.n ∧ n.n ≤ 128) : freeT n p q r = ⟨n.s, n.a, n.b, n.c, n.x - p, n.y - q, n.z - r, n.n - 1⟩ := by
  unfold freeT o1 o2 o3
  rw [if_pos (in3_iff.2 h), if_pos (in3_iff.2 h), if_pos (in3_iff.2 h), wrap_small (by omega)]
structure CanJ (S : St) (s t : Tx) (p q r : Int) (n : Nod) (u : Ten) : Prop where
  free : findM S.J (kOf s) = none
  len : S.J.length < 128
  may : Nm.may s = true
  p0 : 0 ≤ p ∧ 0 ≤ q ∧ 0 ≤ r
  i : I64 p ∧ I64 q ∧ I64 r
  ten : findM S.T (kOf t) = some u
  tfit : u.x + p ≤ u.a ∧ u.y + q ≤ u.b ∧ u.z + r ≤ u.c
  nod : findM S.N (kOf n.s) = some n
  nfit : n.x + p ≤ n.a ∧ n.y + q ≤ n.b ∧ n.z + r ≤ n.c
theorem Inv.cntN {S : St} (h : Inv S) {k : Tx} {n : Nod} (hf : findM S.N k = some n) : 0 ≤ n.n ∧ n.n ≤ S.J.length ∧ 0 ≤ n.x ∧ 0 ≤ n.y ∧ 0 ≤ n.z := by
  have hn := h.n _ _ hf
  have hu := h.used (onB n.s)
  have := sumJ_one_le (onB n.s) S.J
  have := hn.cnt; have := hn.ux; have := hn.uy; have := hn.uz
  omega
theorem Inv.cntT {S : St} (h : Inv S) {k : Tx} {n : Ten} (hf : findM S.T k = some n) : 0 ≤ n.n ∧ n.n ≤ S.J.length ∧ 0 ≤ n.x ∧ 0 ≤ n.y ∧ 0 ≤ n.z := by
  have hn := h.t _ _ hf
  have hu := h.used (ofB n.s)
  have := sumJ_one_le (ofB n.s) S.J
  have := hn.cnt; have := hn.ux; have := hn.uy; have := hn.uz
  omega
theorem CanJ.isN {S : St} {s t : Tx} {p q r : Int} {n : Nod} {u : Ten} (c : CanJ S s t p q r n u) (h : Inv S) : takeN n p q r = ⟨n.s, n.a, n.b, n.c, n.x + p, n.y + q, n.z + r, n.n + 1, n.d⟩ := by
  have hc := h.cntN c.nod
  have hi := (h.n _ _ c.nod).i
  have := c.nfit; have := c.p0; have := c.len
  unfold I64 at hi
  refine takeN_is ?_ (by omega)
  unfold I64
  omega
theorem CanJ.isT {S : St} {s t : Tx} {p q r : Int} {n : Nod} {u : Ten} (c : CanJ S s t p q r n u) (h : Inv S) : takeT u p q r = ⟨u.s, u.a, u.b, u.c, u.x + p, u.y + q, u.z + r, u.n + 1⟩ := by
  have hc := h.cntT c.ten
  have hi := (h.t _ _ c.ten).i
  have := c.tfit; have := c.p0; have := c.len
  unfold I64 at hi
  refine takeT_is ?_ (by omega)
  unfold I64
  omega
theorem CanJ.create {S : St} {s t : Tx} {p q r : Int} {n : Nod} {u : Ten} (c : CanJ S s t p q r n u) (h : Inv S) : PS.create S s t p q r n = ⟨setM (kOf n.s) ⟨n.s, n.a, n.b, n.c, n.x + p, n.y + q, n.z + r, n.n + 1, n.d⟩ S.N, setM (kOf u.s) ⟨u.s, u.a, u.b, u.c, u.x + p, u.y + q, u.z + r, u.n + 1⟩ S.T, setM (kOf s) ⟨s, u.s, p, q, r, n.s, 0⟩ S.J⟩ := by
  unfold PS.create
  rw [show tenOf S t = u from by unfold PS.tenOf; rw [c.ten]; rfl, c.isN h, c.isT h]
theorem onB_self (j : Jb) : onB j.on j = true := by simp [onB]
theorem ofB_self (j : Jb) : ofB j.t j = true := by simp [ofB]
theorem Inv.create {S : St} (h : Inv S) {s t : Tx} {p q r : Int} {n : Nod} {u : Ten} (c : CanJ S s t p q r n u) : Inv (PS.create S s t p q r n) := by
  rw [c.create h]
  have hku : kOf t = kOf u.s := (h.t _ _ c.ten).key
  have hten := c.ten
  rw [hku] at hten
  have hnn := h.n _ _ c.nod
  have htt := h.t _ _ hten
  have sj : ∀ (g : Jb → Bool) (f : Jb → Int) (J : Jb), sumJ g f (setM (kOf s) J S.J) = (if g J = true then f J else 0) + sumJ g f S.J := fun g f J => sumJ_new g f J c.free
  refine ⟨h.sN.set _ _, h.sT.set _ _, h.sJ.set _ _, by rw [setM_len_some h.sN _ c.nod]; exact h.lN, by rw [setM_len_some h.sT _ hten]; exact h.lT, by show (setM (kOf s) _ S.J).length ≤ _; rw [setM_len_none _ c.free]; exact c.len, fun k' n' hk' => ?_, fun k' n' hk' => ?_, fun k' x hk' => ?_⟩
  · change findM (setM (kOf n.s) _ S.N) k' = some n' at hk'
    rw [find_setM h.sN] at hk'
    split at hk'
    · rename_i e
      injection hk' with hk'
      subst hk'
      have e1 : ∀ J : Jb, J.on = n.s → onB n.s J = true := fun J e => by simp [onB, e]
      exact ⟨e, hnn.may, hnn.i, by rw [sj, if_pos (e1 _ rfl), hnn.ux]; exact Int.add_comm _ _, by rw [sj, if_pos (e1 _ rfl), hnn.uy]; exact Int.add_comm _ _, by rw [sj, if_pos (e1 _ rfl), hnn.uz]; exact Int.add_comm _ _, c.nfit.1, c.nfit.2.1, c.nfit.2.2, by rw [sj, if_pos (e1 _ rfl), hnn.cnt]; exact Int.add_comm _ _⟩
    · rename_i e
      have hx := h.n _ _ hk'
      have hne : ∀ J : Jb, J.on = n.s → onB n'.s J = false := fun J e2 => by
        unfold onB
        rw [beq_eq_false_iff_ne, e2]
        intro q
        exact e (by rw [hx.key, ← q])
      exact ⟨hx.key, hx.may, hx.i, by rw [sj, if_neg (by rw [hne _ rfl]; simp), Int.zero_add]; exact hx.ux, by rw [sj, if_neg (by rw [hne _ rfl]; simp), Int.zero_add]; exact hx.uy, by rw [sj, if_neg (by rw [hne _ rfl]; simp), Int.zero_add]; exact hx.uz, hx.fx, hx.fy, hx.fz, by rw [sj, if_neg (by rw [hne _ rfl]; simp), Int.zero_add]; exact hx.cnt⟩
  · change findM (setM (kOf u.s) _ S.T) k' = some n' at hk'
    rw [find_setM h.sT] at hk'
    split at hk'
    · rename_i e
      injection hk' with hk'
      subst hk'
      have e1 : ∀ J : Jb, J.t = u.s → ofB u.s J = true := fun J e => by simp [ofB, e]
      exact ⟨e, htt.may, htt.i, by rw [sj, if_pos (e1 _ rfl), htt.ux]; exact Int.add_comm _ _, by rw [sj, if_pos (e1 _ rfl), htt.uy]; exact Int.add_comm _ _, by rw [sj, if_pos (e1 _ rfl), htt.uz]; exact Int.add_comm _ _, c.tfit.1, c.tfit.2.1, c.tfit.2.2, by rw [sj, if_pos (e1 _ rfl), htt.cnt]; exact Int.add_comm _ _⟩
    · rename_i e
      have hx := h.t _ _ hk'
      have hne : ∀ J : Jb, J.t = u.s → ofB n'.s J = false := fun J e2 => by
        unfold ofB
        rw [beq_eq_false_iff_ne, e2]
        intro q
        exact e (by rw [hx.key, ← q])
      exact ⟨hx.key, hx.may, hx.i, by rw [sj, if_neg (by rw [hne _ rfl]; simp), Int.zero_add]; exact hx.ux, by rw [sj, if_neg (by rw [hne _ rfl]; simp), Int.zero_add]; exact hx.uy, by rw [sj, if_neg (by rw [hne _ rfl]; simp), Int.zero_add]; exact hx.uz, hx.fx, hx.fy, hx.fz, by rw [sj, if_neg (by rw [hne _ rfl]; simp), Int.zero_add]; exact hx.cnt⟩
  · change findM (setM (kOf s) _ S.J) k' = some x at hk'
    have fN : ∀ k m, findM S.N k = some m → ∃ m', findM (setM (kOf n.s) ⟨n.s, n.a, n.b, n.c, n.x + p, n.y + q, n.z + r, n.n + 1, n.d⟩ S.N) k = some m' ∧ m'.s = m.s := fun k m hm => by
      rw [find_setM h.sN]
      split
      · rename_i e
        rw [e, c.nod] at hm
        injection hm with hm
        exact ⟨_, rfl, by rw [← hm]⟩
      · exact ⟨m, hm, rfl⟩
    have fT : ∀ k m, findM S.T k = some m → ∃ m', findM (setM (kOf u.s) ⟨u.s, u.a, u.b, u.c, u.x + p, u.y + q, u.z + r, u.n + 1⟩ S.T) k = some m' ∧ m'.s = m.s := fun k m hm => by
      rw [find_setM h.sT]
      split
      · rename_i e
        rw [e, hten] at hm
        injection hm with hm
        exact ⟨_, rfl, by rw [← hm]⟩
      · exact ⟨m, hm, rfl⟩
    rw [find_setM h.sJ] at hk'
    split at hk'
    · rename_i e
      injection hk' with hk'
      subst hk'
      exact ⟨e, c.may, c.p0, c.i, ⟨Int.le_refl _, by show (0 : Int) ≤ 2; omega⟩, fN _ _ c.nod, fT _ _ hten⟩
    · have hx := h.j _ _ hk'
      obtain ⟨m, h1, h2⟩ := hx.n
      obtain ⟨m2, h3, h4⟩ := hx.t
      obtain ⟨y, h5, h6⟩ := fN _ _ h1
      obtain ⟨y2, h7, h8⟩ := fT _ _ h3
      exact ⟨hx.key, hx.may, hx.p0, hx.i, hx.st, ⟨y, h5, h6.trans h2⟩, y2, h7, h8.trans h4⟩
theorem Inv.kill {S : St} (h : Inv S) {k : Tx} {j : Jb} (hf : findM S.J k = some j) : ∃ n u, findM S.N (kOf n.s) = some n ∧ n.s = j.on ∧ findM S.T (kOf u.s) = some u ∧ u.s = j.t ∧ nodOf S j.on = n ∧ tenOf S j.t = u ∧ k = kOf j.s ∧
    freeN n j.p j.q j.r = ⟨n.s, n.a, n.b, n.c, n.x - j.p, n.y - j.q, n.z - j.r, n.n - 1, n.d⟩ ∧ freeT u j.p j.q j.r = ⟨u.s, u.a, u.b, u.c, u.x - j.p, u.y - j.q, u.z - j.r, u.n - 1⟩ ∧
    Inv ⟨setM (kOf n.s) ⟨n.s, n.a, n.b, n.c, n.x - j.p, n.y - j.q, n.z - j.r, n.n - 1, n.d⟩ S.N, setM (kOf u.s) ⟨u.s, u.a, u.b, u.c, u.x - j.p, u.y - j.q, u.z - j.r, u.n - 1⟩ S.T, dropM (kOf j.s) S.J⟩ := by
  have hj := h.j _ _ hf
  have hk := hj.key
  obtain ⟨n, hn, hns⟩ := hj.n
  obtain ⟨u, hu, hus⟩ := hj.t
  have hn0 := hn
  have hu0 := hu
  rw [← hns] at hn
  rw [← hus] at hu
  have hnn := h.n _ _ hn
  have htt := h.t _ _ hu
  have hmem := findM_mem hf
  have hp := hj.p0
  have on1 : onB n.s j = true := by simp [onB, hns]
  have of1 : ofB u.s j = true := by simp [ofB, hus]
  have l1 := sumJ_le (onB n.s) Jb.p (fun e he => (h.pos e he).1) hmem on1
  have l2 := sumJ_le (onB n.s) Jb.q (fun e he => (h.pos e he).2.1) hmem on1
  have l3 := sumJ_le (onB n.s) Jb.r (fun e he => (h.pos e he).2.2) hmem on1
  have l4 := sumJ_le (onB n.s) (fun _ => 1) (fun e he => by omega) hmem on1
  have m1 := sumJ_le (ofB u.s) Jb.p (fun e he => (h.pos e he).1) hmem of1
  have m2 := sumJ_le (ofB u.s) Jb.q (fun e he => (h.pos e he).2.1) hmem of1
  have m3 := sumJ_le (ofB u.s) Jb.r (fun e he => (h.pos e he).2.2) hmem of1
  have m4 := sumJ_le (ofB u.s) (fun _ => 1) (fun e he => by omega) hmem of1
  have cN := h.cntN hn
  have cT := h.cntT hu
  have lJ := h.lJ
  have ni := hnn.i
  have ti := htt.i
  have := hnn.ux; have := hnn.uy; have := hnn.uz; have := hnn.cnt; have := hnn.fx; have := hnn.fy; have := hnn.fz
  have := htt.ux; have := htt.uy; have := htt.uz; have := htt.cnt; have := htt.fx; have := htt.fy; have := htt.fz
  dsimp only at l1 l2 l3 l4 m1 m2 m3 m4
  have so : ∀ (g : Jb → Bool) (f : Jb → Int), sumJ g f (dropM (kOf j.s) S.J) = sumJ g f S.J - (if g j = true then f j else 0) := fun g f => sumJ_out g f h.sJ (hk ▸ hf)
  refine ⟨n, u, hn, hns, hu, hus, by unfold PS.nodOf; rw [hn0]; rfl, by unfold PS.tenOf; rw [hu0]; rfl, hk, freeN_is (by unfold I64 at ni ⊢; omega) (by omega), freeT_is (by unfold I64 at ti ⊢; omega) (by omega), ?_⟩
  refine ⟨h.sN.set _ _, h.sT.set _ _, h.sJ.drop _, by rw [setM_len_some h.sN _ hn]; exact h.lN, by rw [setM_len_some h.sT _ hu]; exact h.lT, Nat.le_trans (List.length_filter_le _ _) h.lJ, fun k' n' hk' => ?_, fun k' n' hk' => ?_, fun k' x hk' => ?_⟩
  · change findM (setM (kOf n.s) _ S.N) k' = some n' at hk'
    rw [find_setM h.sN] at hk'
    split at hk'
    · rename_i e
      injection hk' with hk'
      subst hk'
      exact ⟨e, hnn.may, hnn.i, by rw [so, if_pos on1, ← hnn.ux], by rw [so, if_pos on1, ← hnn.uy], by rw [so, if_pos on1, ← hnn.uz], by show n.x - j.p ≤ n.a; omega, by show n.y - j.q ≤ n.b; omega, by show n.z - j.r ≤ n.c; omega, by rw [so, if_pos on1, ← hnn.cnt]⟩
    · rename_i e
      have hx := h.n _ _ hk'
      have hne : onB n'.s j = false := by
        unfold onB
        rw [beq_eq_false_iff_ne, ← hns]
        intro q
        exact e (by rw [hx.key, ← q])
      exact ⟨hx.key, hx.may, hx.i, by rw [so, hne]; simpa using hx.ux, by rw [so, hne]; simpa using hx.uy, by rw [so, hne]; simpa using hx.uz, hx.fx, hx.fy, hx.fz, by rw [so, hne]; simpa using hx.cnt⟩
  · change findM (setM (kOf u.s) _ S.T) k' = some n' at hk'
    rw [find_setM h.sT] at hk'
    split at hk'
    · rename_i e
      injection hk' with hk'
      subst hk'
      exact ⟨e, htt.may, htt.i, by rw [so, if_pos of1, ← htt.ux], by rw [so, if_pos of1, ← htt.uy], by rw [so, if_pos of1, ← htt.uz], by show u.x - j.p ≤ u.a; omega, by show u.y - j.q ≤ u.b; omega, by show u.z - j.r ≤ u.c; omega, by rw [so, if_pos of1, ← htt.cnt]⟩
    · rename_i e
      have hx := h.t _ _ hk'
      have hne : ofB n'.s j = false := by
        unfold ofB
        rw [beq_eq_false_iff_ne, ← hus]
        intro q
        exact e (by rw [hx.key, ← q])
      exact ⟨hx.key, hx.may, hx.i, by rw [so, hne]; simpa using hx.ux, by rw [so, hne]; simpa using hx.uy, by rw [so, hne]; simpa using hx.uz, hx.fx, hx.fy, hx.fz, by rw [so, hne]; simpa using hx.cnt⟩
  · change findM (dropM (kOf j.s) S.J) k' = some x at hk'
    rw [find_dropM h.sJ] at hk'
    split at hk'
    · cases hk'
    · have hx := h.j _ _ hk'
      obtain ⟨m, h1, h2⟩ := hx.n
      obtain ⟨m2, h3, h4⟩ := hx.t
      refine ⟨hx.key, hx.may, hx.p0, hx.i, hx.st, ?_, ?_⟩
      · by_cases e : kOf x.on = kOf n.s
        · rw [e, hn] at h1
          injection h1 with h1
          exact ⟨_, by show findM (setM (kOf n.s) _ S.N) _ = _; rw [find_setM h.sN, if_pos e], by rw [← h2, ← h1]⟩
        · exact ⟨m, by show findM (setM (kOf n.s) _ S.N) _ = _; rw [find_setM h.sN, if_neg e]; exact h1, h2⟩
      · by_cases e : kOf x.t = kOf u.s
        · rw [e, hu] at h3
          injection h3 with h3
          exact ⟨_, by show findM (setM (kOf u.s) _ S.T) _ = _; rw [find_setM h.sT, if_pos e], by rw [← h4, ← h3]⟩
        · exact ⟨m2, by show findM (setM (kOf u.s) _ S.T) _ = _; rw [find_setM h.sT, if_neg e]; exact h3, h4⟩
end Go.Proofs.YtphclpjekpdifaaGreat
namespace Go.Proofs.YtphclpjekpdifaaGreat
set_option maxRecDepth 20000
open PS (Tx putM dropM setM findM Nod Ten Jb kOf St Cm Rp byName krow row in3 takeN takeT freeN freeT tenOf nodOf mayM asksM)
open Go.Proofs.YtphclpjekpdifaaGreat.Nm (str)
open Go.Proofs.YtphclpjekpdifaaGreat.Vc (fitB I64)
set_option linter.unusedVariables false
theorem byName_at {α : Type} {l : List (Tx × α)} {i : Nat} {x : α} (h : (byName l)[i]? = some x) : ∃ k, findM l k = some x := byName_mem (List.mem_of_getElem? h)
theorem choose_facts {S : St} (h : Inv S) {p q r : Int} {n : Nod} (hc : PS.choose S p q r = some n) : findM S.N (kOf n.s) = some n ∧ n.d = false ∧ (0 ≤ p ∧ 0 ≤ q ∧ 0 ≤ r) ∧ n.x + p ≤ n.a ∧ n.y + q ≤ n.b ∧ n.z + r ≤ n.c := by
  unfold PS.choose at hc
  split at hc
  · rename_i hf
    split at hc
    · cases hc
    · rename_i i t hr
      obtain ⟨k, hk⟩ := byName_at hc
      have hn := h.n _ _ hk
      rw [hn.key] at hk
      have hi : i ∈ cand ((byName S.N).map krow) p q r ((byName S.N).map krow).length := (rankF_rank ((byName S.N).map krow) p q r).1.mem_iff.1 (by rw [hr]; simp)
      unfold cand at hi
      rw [List.mem_filter] at hi
      have hsc := hi.2
      unfold scL at hsc
      rw [List.getElem?_map, hc] at hsc
      have htk : ntakes (krow n) p q r = true := by
        cases hq : ntakes (krow n) p q r with
        | true => rfl
        | false =>
          simp [nscore, hq] at hsc
      unfold ntakes krow at htk
      simp only [Bool.and_eq_true, Bool.not_eq_true'] at htk
      have h1 := fit_iff.1 htk.2.1
      have h2 := fit_iff.1 htk.2.2.2
      exact ⟨hk, htk.1, h1, h2⟩
  · cases hc
theorem refusal_zero {S : St} {s t : Tx} {p q r : Int} (h : PS.refusal S s t p q r = 0) : findM S.J (kOf s) = none ∧ S.J.length < 128 ∧ ∃ u, findM S.T (kOf t) = some u ∧ u.x + p ≤ u.a ∧ u.y + q ≤ u.b ∧ u.z + r ≤ u.c := by
  unfold PS.refusal at h
  split at h
  · omega
  · rename_i h1
    split at h
    · omega
    · rename_i h2
      split at h
      · omega
      · rename_i u hu
        refine ⟨?_, by omega, u, hu, ?_⟩
        · cases hf : findM S.J (kOf s) with
          | none => rfl
          | some x => rw [hf] at h1; exact absurd rfl h1
        · unfold PS.refuseT at h
          split at h
          · split at h
            · rename_i hf
              exact fit_iff.1 hf
            · omega
          · omega
theorem mayM_s {c : Cm} (h : mayM c = true) : Nm.may c.s = true ∧ Wi.fitF c.o (str c.t) c.a c.b c.c c.n = true := by
  unfold PS.mayM Wi.mayC at h
  rw [Nm.list_str, Bool.and_eq_true] at h
  exact h
theorem mayM_1 {c : Cm} (h : mayM c = true) (ho : c.o = 1 ∨ c.o = 4) : 0 ≤ c.a ∧ 0 ≤ c.b ∧ 0 ≤ c.c := by
  have := (mayM_s h).2
  unfold Wi.fitF at this
  rw [if_pos ho] at this
  simp only [Bool.and_eq_true] at this
  exact fit_iff.1 this.2
theorem mayM_7 {c : Cm} (h : mayM c = true) (ho : c.o = 7) : Nm.may c.t = true ∧ (c.n = 1 ∨ c.n = 2) := by
  have := (mayM_s h).2
  unfold Wi.fitF at this
  rw [if_neg (by omega), if_neg (by omega), if_neg (by omega), if_neg (by omega), if_pos ho, Nm.list_str] at this
  simp only [Bool.and_eq_true, Bool.or_eq_true, beq_iff_eq] at this
  exact ⟨this.1.2, this.2⟩
theorem canJ {S : St} (h : Inv S) {s t : Tx} {p q r : Int} {n : Nod} (hm : Nm.may s = true) (hi : I64 p ∧ I64 q ∧ I64 r) (hr : PS.refusal S s t p q r = 0) (hc : PS.choose S p q r = some n) : ∃ u, CanJ S s t p q r n u := by
  obtain ⟨h1, h2, u, h3, h4⟩ := refusal_zero hr
  obtain ⟨c1, c2, c3, c4⟩ := choose_facts h hc
  exact ⟨u, h1, h2, hm, c3, hi, h3, h4, c1, c4⟩
structure CmI (c : Cm) : Prop where
  a : I64 c.a
  b : I64 c.b
  n : I64 c.n
  k : I64 c.c
theorem Inv.doC {S : St} (h : Inv S) (c : Cm) (hi : CmI c) : Inv (PS.doC S c).1 := by
  unfold PS.doC
  split
  case isFalse => exact h
  rename_i hm
  have hs := (mayM_s hm).1
  split
  · rename_i ho
    have h0 := mayM_1 hm (.inl ho)
    show Inv (PS.setNode S c.s c.a c.b c.c).1
    unfold PS.setNode
    split
    · rename_i n hf
      split
      · rename_i hfit
        exact h.node hf rfl ⟨rfl, rfl, rfl, rfl⟩ ⟨hi.a, hi.b, hi.k⟩ (fit_iff.1 hfit)
      · exact h
    · rename_i hf
      split
      · exact h
      · split
        · exact h.newN hf (by omega) hs h0 ⟨hi.a, hi.b, hi.k⟩ _
        · exact h
  split
  · show Inv (PS.drain S c.s c.n).1
    unfold PS.drain
    split
    · rename_i n hf
      have hn := h.n _ _ hf
      exact h.node hf rfl ⟨rfl, rfl, rfl, rfl⟩ hn.i ⟨hn.fx, hn.fy, hn.fz⟩
    · exact h
  split
  · show Inv (PS.drop S c.s).1
    unfold PS.drop
    split
    · rename_i n hf
      split
      · exact h
      · rename_i h0
        exact h.dropN hf h0
    · exact h
  split
  · rename_i ho
    have h0 := mayM_1 hm (.inr ho)
    show Inv (PS.setTenant S c.s c.a c.b c.c).1
    unfold PS.setTenant
    split
    · rename_i n hf
      split
      · rename_i hfit
        exact h.ten hf rfl ⟨rfl, rfl, rfl, rfl⟩ ⟨hi.a, hi.b, hi.k⟩ (fit_iff.1 hfit)
      · exact h
    · rename_i hf
      split
      · exact h
      · split
        · exact h.newT hf (by omega) hs h0 ⟨hi.a, hi.b, hi.k⟩
        · exact h
  split
  · unfold PS.submit
    split
    · rename_i hr
      split
      · exact h
      · rename_i n hc
        obtain ⟨u, cj⟩ := canJ h hs ⟨hi.a, hi.b, hi.k⟩ hr hc
        exact h.create cj
    · exact h
  split
  · unfold PS.kill
    split
    · exact h
    · rename_i j hf
      obtain ⟨n, u, h1, h2, h3, h4, h5, h6, h7, h8, h9, h10⟩ := h.kill hf
      show Inv ⟨setM (kOf (nodOf S j.on).s) (freeN (nodOf S j.on) j.p j.q j.r) S.N, setM (kOf (tenOf S j.t).s) (freeT (tenOf S j.t) j.p j.q j.r) S.T, dropM (kOf j.s) S.J⟩
      rw [h5, h6, h8, h9]
      exact h10
  split
  · rename_i ho
    show Inv (PS.report S c.s c.t c.n).1
    unfold PS.report
    split
    · exact h
    · rename_i j hf
      split
      · exact h.job hf ⟨rfl, rfl, rfl, rfl, rfl, rfl⟩ (by have := (mayM_7 hm ho).2; show 0 ≤ c.n ∧ c.n ≤ 2; omega)
      · exact h
  · exact h
theorem str_nil : str ([] : Tx) = ⟨#[]⟩ := rfl
theorem raiseN {S : St} (h : Inv S) {s : Tx} {n : Nod} {a b c : Int} (hf : findM S.N (kOf s) = some n) (hs : Nm.may s = true) (h0 : 0 ≤ a ∧ 0 ≤ b ∧ 0 ≤ c) (hfit : n.x ≤ a ∧ n.y ≤ b ∧ n.z ≤ c) :
    PS.doC S ⟨1, s, [], a, b, c, 0⟩ = ({ S with N := setM (kOf n.s) ⟨n.s, a, b, c, n.x, n.y, n.z, n.n, n.d⟩ S.N }, PS.err 0) := by
  have hm : mayM ⟨1, s, [], a, b, c, 0⟩ = true := by
    unfold PS.mayM Wi.mayC Wi.fitF
    dsimp only
    rw [Nm.list_str, hs, if_pos (.inl rfl), fit_iff.2 h0]
    rfl
  unfold PS.doC
  rw [if_pos hm]
  dsimp only
  rw [if_pos rfl]
  unfold PS.setNode
  rw [hf]
  dsimp only
  rw [if_pos (fit_iff.2 hfit)]
  rfl
theorem raiseT {S : St} (h : Inv S) {s : Tx} {n : Ten} {a b c : Int} (hf : findM S.T (kOf s) = some n) (hs : Nm.may s = true) (h0 : 0 ≤ a ∧ 0 ≤ b ∧ 0 ≤ c) (hfit : n.x ≤ a ∧ n.y ≤ b ∧ n.z ≤ c) :
    PS.doC S ⟨4, s, [], a, b, c, 0⟩ = ({ S with T := setM (kOf n.s) ⟨n.s, a, b, c, n.x, n.y, n.z, n.n⟩ S.T }, PS.err 0) := by
  have hm : mayM ⟨4, s, [], a, b, c, 0⟩ = true := by
    unfold PS.mayM Wi.mayC Wi.fitF
    dsimp only
    rw [Nm.list_str, hs, if_pos (.inr rfl), fit_iff.2 h0]
    rfl
  unfold PS.doC
  rw [if_pos hm]
  dsimp only
  rw [if_neg (by decide), if_neg (by decide), if_neg (by decide), if_pos rfl]
  unfold PS.setTenant
  rw [hf]
  dsimp only
  rw [if_pos (fit_iff.2 hfit)]
  rfl
end Go.Proofs.YtphclpjekpdifaaGreat
