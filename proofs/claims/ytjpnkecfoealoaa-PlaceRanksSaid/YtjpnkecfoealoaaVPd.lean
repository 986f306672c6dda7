namespace Go.Proofs.Ytjpnkecfoealoaa.Vc.Pd
set_option maxRecDepth 20000
set_option linter.unusedVariables false
/-- the value of the lowest n digits -/
def V (f : Nat → Nat) : Nat → Nat
  | 0 => 0
  | n + 1 => V f n + f n * 10 ^ n
def dg (D : List Nat) (i : Nat) : Nat := D.getD i 0
def val (D : List Nat) : Nat := V (dg D) D.length
def Dig (D : List Nat) : Prop := ∀ d ∈ D, d < 10
theorem dg_lt {D : List Nat} (h : Dig D) (i : Nat) : dg D i < 10 := by
  unfold dg
  rw [List.getD_eq_getElem?_getD]
  cases e : D[i]? with
  | none => simp
  | some d => simpa using h d (List.mem_of_getElem? e)
theorem dg_ge {D : List Nat} {i : Nat} (h : D.length ≤ i) : dg D i = 0 := by
  unfold dg
  rw [List.getD_eq_getElem?_getD, List.getElem?_eq_none h]
  rfl
theorem dg_at {D : List Nat} {i : Nat} (h : i < D.length) : dg D i = D[i] := by
  unfold dg
  rw [List.getD_eq_getElem?_getD, List.getElem?_eq_getElem h]
  rfl
theorem V_ext {f g : Nat → Nat} : ∀ {n : Nat}, (∀ i, i < n → f i = g i) → V f n = V g n
  | 0, _ => rfl
  | n + 1, h => by
    unfold V
    rw [V_ext fun i hi => h i (by omega), h n (by omega)]
theorem V_lt {f : Nat → Nat} : ∀ {n : Nat}, (∀ i, i < n → f i < 10) → V f n < 10 ^ n
  | 0, _ => by simp [V]
  | n + 1, h => by
    have h1 := V_lt (n := n) fun i hi => h i (by omega)
    have h2 := h n (by omega)
    unfold V
    rw [Nat.pow_succ]
    have h3 : f n * 10 ^ n ≤ 9 * 10 ^ n := Nat.mul_le_mul_right _ (by omega)
    omega
theorem V_tail {f : Nat → Nat} {n : Nat} (h : ∀ i, n ≤ i → f i = 0) : ∀ k, V f (n + k) = V f n
  | 0 => rfl
  | k + 1 => by
    rw [← Nat.add_assoc]
    show V f (n + k) + f (n + k) * 10 ^ (n + k) = V f n
    rw [V_tail h k, h (n + k) (by omega)]
    simp
theorem val_V {D : List Nat} {n : Nat} (h : D.length ≤ n) : V (dg D) n = val D := by
  obtain ⟨k, rfl⟩ := Nat.exists_eq_add_of_le h
  exact V_tail (fun i hi => dg_ge hi) k
theorem V_mono {f : Nat → Nat} {n m : Nat} (h : n ≤ m) : V f n ≤ V f m := by
  obtain ⟨k, rfl⟩ := Nat.exists_eq_add_of_le h
  clear h
  induction k with
  | zero => exact Nat.le_refl _
  | succ k ih =>
    rw [← Nat.add_assoc]
    show V f n ≤ V f (n + k) + _
    omega
theorem val_snoc (D : List Nat) (d : Nat) : val (D ++ [d]) = val D + d * 10 ^ D.length := by
  unfold val
  rw [List.length_append]
  show V _ D.length + dg (D ++ [d]) D.length * 10 ^ D.length = _
  have h1 : dg (D ++ [d]) D.length = d := by simp [dg]
  have h2 : V (dg (D ++ [d])) D.length = V (dg D) D.length := V_ext fun i hi => by
    simp only [dg, List.getD_eq_getElem?_getD]
    rw [List.getElem?_append_left hi]
  rw [h1, h2]
theorem Dig_snoc {D : List Nat} {d : Nat} (h : Dig D) (hd : d < 10) : Dig (D ++ [d]) := by
  intro x hx
  rcases List.mem_append.1 hx with h1 | h1
  · exact h x h1
  · simp at h1; omega
theorem Dig_take {D : List Nat} (h : Dig D) (n : Nat) : Dig (D.take n) := fun d hd => h d (List.mem_of_mem_take hd)
/-- a last digit 0 says nothing -/
theorem val_cut {D : List Nat} {k : Nat} (h : D.length = k + 1) (h0 : dg D k = 0) : val (D.take k) = val D := by
  have e : D = D.take k ++ [D[k]] := by
    conv => lhs; rw [← List.take_length (l := D), h]
    exact List.take_succ_eq_append_getElem (by omega)
  have h1 : D[k] = 0 := by rw [← dg_at]; exact h0
  conv => rhs; rw [e, val_snoc, h1]
  simp
/-- which of two is less: the highest place where they differ tells -/
theorem lt_top {f g : Nat → Nat} {i : Nat} : ∀ {n : Nat}, (∀ j, j < n → f j < 10) → (∀ j, i < j → j < n → f j = g j) → i < n → f i < g i → V f n < V g n
  | 0, _, _, h, _ => by omega
  | n + 1, hf, he, hi, hl => by
    rcases Nat.lt_or_ge i n with h | h
    · have ih := lt_top (n := n) (fun j hj => hf j (by omega)) (fun j h1 h2 => he j h1 (by omega)) h hl
      unfold V
      rw [he n h (by omega)]
      omega
    · have e : i = n := by omega
      subst e
      have h1 := V_lt (n := i) fun j hj => hf j (by omega)
      unfold V
      have h2 : (f i + 1) * 10 ^ i ≤ g i * 10 ^ i := Nat.mul_le_mul_right _ hl
      rw [Nat.add_mul, Nat.one_mul] at h2
      omega
/-- sums and differences, place by place -/
theorem plus_step (A B O c a b o c' p : Nat) (h : O + c * p = A + B) (hs : o + 10 * c' = a + b + c) : O + o * p + c' * (p * 10) = (A + a * p) + (B + b * p) := by
  have e : (o + 10 * c') * p = (a + b + c) * p := by rw [hs]
  simp only [Nat.add_mul] at e
  have e2 : c' * (p * 10) = 10 * c' * p := by rw [Nat.mul_comm 10 c', Nat.mul_assoc, Nat.mul_comm p 10]
  omega
theorem minus_step (A B O c a b o c' p : Nat) (h : O + B = A + c * p) (hs : o + b + c = a + 10 * c') : O + o * p + (B + b * p) = (A + a * p) + c' * (p * 10) := by
  have e : (o + b + c) * p = (a + 10 * c') * p := by rw [hs]
  simp only [Nat.add_mul] at e
  have e2 : c' * (p * 10) = 10 * c' * p := by rw [Nat.mul_comm 10 c', Nat.mul_assoc, Nat.mul_comm p 10]
  omega
/-- what holds behind the lowest i places -/
def Pinv (minus : Bool) (a b O : List Nat) (c i : Nat) : Prop :=
  O.length = i ∧ Dig O ∧ c ≤ 1 ∧ (if minus then val O + V (dg b) i = V (dg a) i + c * 10 ^ i else val O + c * 10 ^ i = V (dg a) i + V (dg b) i)
theorem Pinv.zero (minus : Bool) (a b : List Nat) : Pinv minus a b [] 0 0 := by
  refine ⟨rfl, by simp [Dig], by omega, ?_⟩
  cases minus <;> simp [val, V]
theorem Pinv.plus {a b O : List Nat} {c i : Nat} (h : Pinv false a b O c i) (o c' : Nat) (ho : o < 10) (hc : c' ≤ 1) (hs : o + 10 * c' = dg a i + dg b i + c) : Pinv false a b (O ++ [o]) c' (i + 1) := by
  obtain ⟨h1, h2, h3, h4⟩ := h
  refine ⟨by simp [h1], Dig_snoc h2 ho, hc, ?_⟩
  simp only [Bool.false_eq_true, if_false] at h4 ⊢
  rw [val_snoc, h1, Nat.pow_succ]
  exact plus_step _ _ _ _ _ _ _ _ _ h4 hs
theorem Pinv.minus {a b O : List Nat} {c i : Nat} (h : Pinv true a b O c i) (o c' : Nat) (ho : o < 10) (hc : c' ≤ 1) (hs : o + dg b i + c = dg a i + 10 * c') : Pinv true a b (O ++ [o]) c' (i + 1) := by
  obtain ⟨h1, h2, h3, h4⟩ := h
  refine ⟨by simp [h1], Dig_snoc h2 ho, hc, ?_⟩
  simp only [if_true] at h4 ⊢
  rw [val_snoc, h1, Nat.pow_succ]
  exact minus_step _ _ _ _ _ _ _ _ _ h4 hs
theorem Pinv.end_plus {a b O : List Nat} {c n : Nat} (ha : a.length ≤ n) (hb : b.length ≤ n) (da : Dig a) (db : Dig b) (h : Pinv false a b O c (n + 1)) : val O = val a + val b := by
  obtain ⟨h1, h2, h3, h4⟩ := h
  simp only [Bool.false_eq_true, if_false] at h4
  rw [val_V (D := a) (by omega), val_V (D := b) (by omega)] at h4
  have la : val a < 10 ^ n := by rw [← val_V ha]; exact V_lt fun i _ => dg_lt da i
  have lb : val b < 10 ^ n := by rw [← val_V hb]; exact V_lt fun i _ => dg_lt db i
  have : c = 0 := by
    rcases Nat.eq_zero_or_pos c with h | h
    · exact h
    · have : c = 1 := by omega
      subst this
      rw [Nat.pow_succ] at h4
      omega
  subst this
  omega
theorem Pinv.end_minus {a b O : List Nat} {c n : Nat} (ha : a.length ≤ n) (hb : b.length ≤ n) (hle : val b ≤ val a) (h : Pinv true a b O c (n + 1)) : val O = val a - val b := by
  obtain ⟨h1, h2, h3, h4⟩ := h
  simp only [if_true] at h4
  rw [val_V (D := a) (by omega), val_V (D := b) (by omega)] at h4
  have lo : val O < 10 ^ (n + 1) := by
    unfold val
    rw [h1]
    exact V_lt fun i _ => dg_lt h2 i
  have : c = 0 := by
    rcases Nat.eq_zero_or_pos c with h | h
    · exact h
    · have : c = 1 := by omega
      subst this
      omega
  subst this
  omega
/-- what less has seen: all places from k on are alike -/
theorem less_yes {a b : List Nat} {n i : Nat} (ha : a.length ≤ n) (hb : b.length ≤ n) (da : Dig a) (db : Dig b) (hi : i < n) (he : ∀ j, i < j → j < n → dg a j = dg b j) (hl : dg a i < dg b i) : val a < val b := by
  rw [← val_V ha, ← val_V hb]
  exact lt_top (fun j _ => dg_lt da j) he hi hl
theorem less_same {a b : List Nat} {n : Nat} (ha : a.length ≤ n) (hb : b.length ≤ n) (he : ∀ j, j < n → dg a j = dg b j) : val a = val b := by
  rw [← val_V ha, ← val_V hb]
  exact V_ext he
/-- from the highest place down -/
theorem horner {D : List Nat} {k m : Nat} (h : val D = V (dg D) (k + 1) + m * 10 ^ (k + 1)) : val D = V (dg D) k + (m * 10 + dg D k) * 10 ^ k := by
  rw [h]
  show V (dg D) k + dg D k * 10 ^ k + m * 10 ^ (k + 1) = _
  rw [Nat.pow_succ, Nat.add_mul, Nat.mul_assoc m 10, Nat.mul_comm 10 (10 ^ k)]
  omega
theorem horner_le {D : List Nat} {k m : Nat} (h : val D = V (dg D) k + m * 10 ^ k) : m ≤ val D := by
  have : m * 1 ≤ m * 10 ^ k := Nat.mul_le_mul_left _ (Nat.pow_pos (by decide))
  omega
/-- a number's digits, the lowest first -/
theorem of_step {D : List Nat} {m N : Nat} (h : val D + m * 10 ^ D.length = N) : val (D ++ [m % 10]) + m / 10 * 10 ^ (D ++ [m % 10]).length = N := by
  rw [val_snoc, List.length_append]
  show val D + m % 10 * 10 ^ D.length + m / 10 * 10 ^ (D.length + 1) = N
  have e := Nat.div_add_mod m 10
  have e2 : m * 10 ^ D.length = (10 * (m / 10) + m % 10) * 10 ^ D.length := by rw [e]
  rw [Nat.add_mul, Nat.mul_comm 10, Nat.mul_assoc] at e2
  rw [Nat.pow_succ, Nat.mul_comm (10 ^ D.length) 10]
  omega
end Go.Proofs.Ytjpnkecfoealoaa.Vc.Pd
