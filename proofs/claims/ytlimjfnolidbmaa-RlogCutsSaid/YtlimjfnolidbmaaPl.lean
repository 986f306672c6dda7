namespace Go.Proofs.Ytlimjfnolidbmaa.RL
/-! ### logs, plain -/
structure En where
  t : Int
  d : ByteArray
def I64 (z : Int) : Prop := -9223372036854775808 ≤ z ∧ z ≤ 9223372036854775807
structure Lg where
  i : Int
  t : Int
  L : List En
def Lg.last (T : Lg) : Int := T.i + T.L.length
/-- what is known of an index -/
def Lg.term (T : Lg) (k : Int) : Option Int := if k < T.i then none else if k = T.i then some T.t else (T.L[(k - T.i - 1).toNat]?).map En.t
def Lg.lterm (T : Lg) : Int := (T.term T.last).getD 0
def Lg.newer (T : Lg) (k t : Int) : Bool := decide (t > T.lterm) || (decide (t = T.lterm) && decide (k ≥ T.last))
def Lg.from_ (T : Lg) (k n : Int) : List En := if k ≤ T.i ∨ k > T.last ∨ n ≤ 0 then [] else (T.L.drop (k - T.i - 1).toNat).take n.toNat
def Lg.refuse (T : Lg) (p t : Int) (n : Nat) : Int := if p < 0 ∨ 4611686018427387904 - (n : Int) < p then 2 else if p < T.i ∧ p + n ≤ T.i then 32 else if T.i ≤ p ∧ T.term p ≠ some t then 10 else 0
/-- the first entry that isn't there -/
def Lg.diff (T : Lg) (p : Int) : List En → Nat → Option Nat
  | [], _ => none
  | x :: r, k => if T.term (p + 1 + k) = some x.t then T.diff p r (k + 1) else some k
def Lg.putAt (T : Lg) (p : Int) (l : List En) : Lg × Int := match T.diff p l 0 with
  | none => (T, 0)
  | some k => (⟨T.i, T.t, T.L.take (p + k - T.i).toNat ++ l.drop k⟩, p + 1 + k)
def Lg.put (T : Lg) (p t : Int) (l : List En) : Lg × Int × Int :=
  if T.refuse p t l.length = 0 then (if p < T.i then ((T.putAt T.i (l.drop (T.i - p).toNat)).1, (T.putAt T.i (l.drop (T.i - p).toNat)).2, 0) else ((T.putAt p l).1, (T.putAt p l).2, 0)) else (T, 0, T.refuse p t l.length)
def Lg.move (T : Lg) (k t : Int) : Lg := ⟨k, t, T.L.drop (k - T.i).toNat⟩
def Lg.cut (T : Lg) (k : Int) : Lg × Int := match T.term k with
  | none => (T, 2)
  | some t => (T.move k t, 0)
def Lg.reset (T : Lg) (k t : Int) : Lg × Bool := if k < T.i ∨ t < 0 ∨ 4611686018427387904 < k then (T, false) else
  (if T.term k = some t then (T.move k t, true) else (({T with L := []} : Lg).move k t, true))
structure Inv (T : Lg) : Prop where
  i0 : 0 ≤ T.i
  iM : T.i + T.L.length ≤ 4611686018427387904
  tt : I64 T.t
  all : ∀ x ∈ T.L, I64 x.t
  len : T.L.length ≤ 500000
theorem Inv.i1 {T : Lg} (h : Inv T) : T.i ≤ 4611686018427387904 := by have := h.iM; omega
theorem term_lt {T : Lg} {k : Int} (h : k < T.i) : T.term k = none := by unfold Lg.term; rw [if_pos h]
theorem term_base (T : Lg) : T.term T.i = some T.t := by unfold Lg.term; rw [if_neg (by omega), if_pos rfl]
theorem term_gt {T : Lg} {k : Int} (h : T.i < k) : T.term k = (T.L[(k - T.i - 1).toNat]?).map En.t := by unfold Lg.term; rw [if_neg (by omega), if_neg (by omega)]
theorem term_some {T : Lg} {k : Int} (h : T.i < k) (h2 : k ≤ T.last) : ∃ x, T.L[(k - T.i - 1).toNat]? = some x ∧ T.term k = some x.t := by
  unfold Lg.last at h2
  have hl : (k - T.i - 1).toNat < T.L.length := by omega
  exact ⟨_, List.getElem?_eq_getElem hl, by rw [term_gt h, List.getElem?_eq_getElem hl]; rfl⟩
theorem term_over {T : Lg} {k : Int} (h2 : T.last < k) : T.term k = none := by
  unfold Lg.last at h2
  rw [term_gt (by omega), List.getElem?_eq_none (by omega)]
  rfl
theorem term_known {T : Lg} {k : Int} : (∃ t, T.term k = some t) ↔ T.i ≤ k ∧ k ≤ T.last := by
  constructor
  · rintro ⟨t, h⟩
    rcases Int.lt_or_le k T.i with q | q
    · rw [term_lt q] at h; cases h
    · rcases Int.lt_or_le T.last k with q2 | q2
      · rw [term_over q2] at h; cases h
      · exact ⟨q, q2⟩
  · rintro ⟨h1, h2⟩
    rcases Int.lt_or_eq_of_le h1 with q | q
    · obtain ⟨x, _, h⟩ := term_some q h2
      exact ⟨_, h⟩
    · subst q
      exact ⟨_, term_base T⟩
theorem term_ok {T : Lg} (h : Inv T) {k t : Int} (ht : T.term k = some t) : I64 t := by
  obtain ⟨h1, h2⟩ := term_known.1 ⟨t, ht⟩
  rcases Int.lt_or_eq_of_le h1 with q | q
  · obtain ⟨x, hx, h3⟩ := term_some q h2
    rw [h3] at ht
    injection ht with ht
    subst ht
    exact h.all x (List.mem_of_getElem? hx)
  · subst q
    rw [term_base] at ht
    injection ht with ht
    subst ht
    exact h.tt
theorem last_known (T : Lg) : T.term T.last = some T.lterm := by
  obtain ⟨t, h⟩ := (term_known (T := T) (k := T.last)).2 ⟨by unfold Lg.last; omega, by omega⟩
  unfold Lg.lterm
  rw [h]
  rfl
theorem lterm_ok {T : Lg} (h : Inv T) : I64 T.lterm := term_ok h (last_known T)
end Go.Proofs.Ytlimjfnolidbmaa.RL
