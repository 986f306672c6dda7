/- Plain records with checksums. No program. -/
import Derived.Test.YtkhhmpcpcdadaaaPl
namespace Go.Proofs.Ytkhhmpcpcdadaaa.Fr
set_option linter.unusedVariables false

/-- a number's byte -/
def bet (x k : Nat) : UInt8 := UInt8.ofNat (x / 2 ^ (8 * (3 - k)))
def be (x : Nat) : List UInt8 := [bet x 0, bet x 1, bet x 2, bet x 3]
def num (l : List UInt8) : Nat := l.foldl (fun n c => n * 256 + c.toNat) 0
theorem be_length (x : Nat) : (be x).length = 4 := rfl
theorem be_get (x k : Nat) (h : k < 4) : (be x)[k]? = some (bet x k) := by
  have : k = 0 ∨ k = 1 ∨ k = 2 ∨ k = 3 := by omega
  rcases this with rfl | rfl | rfl | rfl <;> rfl
theorem bet_nat (x k : Nat) : (bet x k).toNat = x / 2 ^ (8 * (3 - k)) % 256 := by unfold bet; rw [UInt8.toNat_ofNat']
theorem num_be (x : Nat) (h : x < 4294967296) : num (be x) = x := by
  show (((0 * 256 + (bet x 0).toNat) * 256 + (bet x 1).toNat) * 256 + (bet x 2).toNat) * 256 + (bet x 3).toNat = x
  simp only [bet_nat, Nat.reduceSub, Nat.reduceMul, Nat.reducePow]
  omega
theorem num_snoc (l : List UInt8) (c : UInt8) : num (l ++ [c]) = num l * 256 + c.toNat := by unfold num; rw [List.foldl_append]; rfl
theorem num_lt0 : ∀ (l : List UInt8) (n : Nat), l.foldl (fun n c => n * 256 + c.toNat) n < (n + 1) * 256 ^ l.length := by
  intro l
  induction l with
  | nil => intro n; simp
  | cons c r ih =>
    intro n
    have hc := c.toNat_lt
    have h1 := ih (n * 256 + c.toNat)
    have h2 : (n * 256 + c.toNat + 1) * 256 ^ r.length ≤ (n + 1) * 256 * 256 ^ r.length := Nat.mul_le_mul_right _ (by omega)
    rw [List.foldl_cons, List.length_cons, Nat.pow_succ, Nat.mul_comm (256 ^ r.length), ← Nat.mul_assoc]
    omega
theorem num_lt (l : List UInt8) : num l < 256 ^ l.length := by
  have := num_lt0 l 0
  rwa [Nat.zero_add, Nat.one_mul] at this
theorem num_four (l : List UInt8) (h : l.length = 4) : num l < 4294967296 := by
  have := num_lt l
  rw [h] at this
  exact this
theorem be_num (l : List UInt8) (h : l.length = 4) : be (num l) = l := by
  match l, h with
  | [a, b, c, d], _ =>
    have ha := a.toNat_lt
    have hb := b.toNat_lt
    have hc := c.toNat_lt
    have hd := d.toNat_lt
    have e : num [a, b, c, d] = ((a.toNat * 256 + b.toNat) * 256 + c.toNat) * 256 + d.toNat := by simp [num]
    have q : ∀ k (x : UInt8), num [a, b, c, d] / 2 ^ (8 * (3 - k)) % 256 = x.toNat → bet (num [a, b, c, d]) k = x := fun k x hx => by
      apply UInt8.toNat_inj.1
      rw [bet_nat, hx]
    unfold be
    rw [q 0 a (by rw [e]; simp only [Nat.reduceSub, Nat.reduceMul, Nat.reducePow]; omega), q 1 b (by rw [e]; simp only [Nat.reduceSub, Nat.reduceMul, Nat.reducePow]; omega), q 2 c (by rw [e]; simp only [Nat.reduceSub, Nat.reduceMul, Nat.reducePow]; omega), q 3 d (by rw [e]; simp only [Nat.reduceSub, Nat.reduceMul, Nat.reducePow]; omega)]

/-- a record -/
def body (p : List UInt8) : List UInt8 := be p.length ++ p
def rcd (p : List UInt8) : List UInt8 := be (Pl.sum (body p)) ++ body p
theorem body_length (p : List UInt8) : (body p).length = 4 + p.length := by simp [body, be_length]
theorem rcd_length (p : List UInt8) : (rcd p).length = 8 + p.length := by simp [rcd, body_length, be_length]; omega
def lenOf (b : List UInt8) : Nat := num ((b.take 8).drop 4)
/-- the payload of the record that b begins with -/
def first (b : List UInt8) : Option (List UInt8) :=
  if b.length < 8 then none
  else if 4096 < lenOf b ∨ b.length - 8 < lenOf b then none
  else if num (b.take 4) = Pl.sum ((b.take (8 + lenOf b)).drop 4) then some ((b.take (8 + lenOf b)).drop 8) else none
theorem first_eq (b : List UInt8) : first b = if b.length < 8 then none
  else if 4096 < lenOf b ∨ b.length - 8 < lenOf b then none
  else if num (b.take 4) = Pl.sum ((b.take (8 + lenOf b)).drop 4) then some ((b.take (8 + lenOf b)).drop 8) else none := rfl
theorem first_len {b p : List UInt8} (h : first b = some p) : p.length = lenOf b ∧ p.length ≤ 4096 ∧ 8 + p.length ≤ b.length := by
  unfold first at h
  split at h
  · cases h
  · split at h
    · cases h
    · split at h
      · injection h with h
        subst h
        simp
        omega
      · cases h
theorem first_rcd (p r : List UInt8) (h : p.length ≤ 4096) : first (rcd p ++ r) = some p := by
  have l0 := rcd_length p
  have l4 : (rcd p ++ r).take 4 = be (Pl.sum (body p)) := by
    unfold rcd; rw [List.append_assoc, List.take_append_of_le_length (by rw [be_length]; omega), List.take_of_length_le (by rw [be_length]; omega)]
  have l8 : ((rcd p ++ r).take 8).drop 4 = be p.length := by
    unfold rcd body
    rw [List.append_assoc, List.append_assoc, ← List.append_assoc, List.take_append_of_le_length (by simp [be_length]), List.take_of_length_le (by simp [be_length]), List.drop_append_of_le_length (by simp [be_length]), List.drop_of_length_le (by simp [be_length]), List.nil_append]
  have ln : lenOf (rcd p ++ r) = p.length := by unfold lenOf; rw [l8, num_be _ (by omega)]
  have lt : (rcd p ++ r).take (8 + p.length) = rcd p := by rw [← l0, List.take_append_of_le_length (by omega), List.take_of_length_le (by omega)]
  unfold first
  rw [ln, lt, l4, num_be (Pl.sum (body p)) (Pl.more_lt _ _), if_neg (by rw [List.length_append]; omega), if_neg (by rw [List.length_append]; omega)]
  have e4 : (rcd p).drop 4 = body p := by unfold rcd; rw [List.drop_append_of_le_length (by simp [be_length]), List.drop_of_length_le (by simp [be_length]), List.nil_append]
  have e8 : (rcd p).drop 8 = p := by
    unfold rcd body; rw [← List.append_assoc, List.drop_append_of_le_length (by simp [be_length]), List.drop_of_length_le (by simp [be_length]), List.nil_append]
  rw [e4, e8, if_pos rfl]

def scanF : Nat → List UInt8 → List (List UInt8) × Nat
  | 0, _ => ([], 0)
  | n + 1, b => match first b with
    | none => ([], 0)
    | some p => (p :: (scanF n (b.drop (8 + p.length))).1, 8 + p.length + (scanF n (b.drop (8 + p.length))).2)
def scan (b : List UInt8) : List (List UInt8) × Nat := scanF b.length b
theorem first_nil : first [] = none := rfl
theorem scanF_more : ∀ (n m : Nat) (b : List UInt8), b.length ≤ n → b.length ≤ m → scanF n b = scanF m b := by
  intro n
  induction n with
  | zero =>
    intro m b h1 h2
    obtain rfl : b = [] := List.eq_nil_of_length_eq_zero (by omega)
    cases m with
    | zero => rfl
    | succ m => simp [scanF, first_nil]
  | succ n ih =>
    intro m b h1 h2
    cases m with
    | zero =>
      obtain rfl : b = [] := List.eq_nil_of_length_eq_zero (by omega)
      simp [scanF, first_nil]
    | succ m =>
      simp only [scanF]
      cases h : first b with
      | none => rfl
      | some p =>
        dsimp only
        rw [ih m (b.drop (8 + p.length)) (by rw [List.length_drop]; omega) (by rw [List.length_drop]; omega)]
theorem scan_none {b : List UInt8} (h : first b = none) : scan b = ([], 0) := by
  unfold scan
  cases hl : b.length with
  | zero => rfl
  | succ n => simp [scanF, h]
theorem scan_some {b p : List UInt8} (h : first b = some p) : scan b = (p :: (scan (b.drop (8 + p.length))).1, 8 + p.length + (scan (b.drop (8 + p.length))).2) := by
  have hl := (first_len h).2.2
  unfold scan
  obtain ⟨n, hn⟩ : ∃ n, b.length = n + 1 := ⟨b.length - 1, by omega⟩
  rw [hn]
  simp only [scanF, h]
  rw [scanF_more n _ _ (by rw [List.length_drop]; omega) (Nat.le_refl _)]

theorem scan_step {bs p : List UInt8} {k : Nat} {ls : List (List UInt8)} (h1 : (scan bs).1 = ls ++ (scan (bs.drop k)).1) (h2 : (scan bs).2 = k + (scan (bs.drop k)).2) (hf : first (bs.drop k) = some p) :
    (scan bs).1 = (ls ++ [p]) ++ (scan (bs.drop (k + (8 + p.length)))).1 ∧ (scan bs).2 = k + (8 + p.length) + (scan (bs.drop (k + (8 + p.length)))).2 := by
  rw [scan_some hf, List.drop_drop] at h1 h2
  dsimp only at h1 h2
  exact ⟨by rw [h1]; simp, by rw [h2]; omega⟩
/-- records one behind the other -/
def flat (l : List (List UInt8)) : List UInt8 := l.flatMap rcd
def Ok (l : List (List UInt8)) : Prop := ∀ p ∈ l, p.length ≤ 4096
def tot (l : List (List UInt8)) : Nat := (l.map List.length).sum
theorem flat_nil : flat [] = [] := rfl
theorem flat_cons (p : List UInt8) (l : List (List UInt8)) : flat (p :: l) = rcd p ++ flat l := rfl
theorem flat_append (a b : List (List UInt8)) : flat (a ++ b) = flat a ++ flat b := by simp [flat]
theorem flat_snoc (a : List (List UInt8)) (p : List UInt8) : flat (a ++ [p]) = flat a ++ rcd p := by rw [flat_append, flat_cons, flat_nil, List.append_nil]
theorem flat_length (l : List (List UInt8)) : (flat l).length = 8 * l.length + tot l := by
  induction l with
  | nil => rfl
  | cons p l ih => rw [flat_cons, List.length_append, rcd_length, ih]; simp [tot]; omega
theorem tot_append (a b : List (List UInt8)) : tot (a ++ b) = tot a + tot b := by simp [tot]
theorem tot_take (l : List (List UInt8)) (k : Nat) : tot (l.take k) ≤ tot l := by
  have h := tot_append (l.take k) (l.drop k)
  rw [List.take_append_drop] at h
  omega
theorem len_le_tot {l : List (List UInt8)} {p : List UInt8} (h : p ∈ l) : p.length ≤ tot l := by
  induction l with
  | nil => cases h
  | cons q l ih =>
    have e : tot (q :: l) = q.length + tot l := by simp [tot]
    rcases List.mem_cons.1 h with rfl | h
    · omega
    · have := ih h; omega
theorem flat_take_le (l : List (List UInt8)) (k : Nat) : (flat (l.take k)).length ≤ (flat l).length := by
  have h := flat_append (l.take k) (l.drop k)
  rw [List.take_append_drop] at h
  rw [h, List.length_append]; omega
/-- what is put is scanned -/
theorem scan_flat (l : List (List UInt8)) (h : Ok l) (r : List UInt8) : scan (flat l ++ r) = (l ++ (scan r).1, (flat l).length + (scan r).2) := by
  induction l with
  | nil => simp [flat_nil]
  | cons p l ih =>
    rw [flat_cons, List.append_assoc, scan_some (first_rcd p _ (h p (by simp)))]
    have e : (rcd p ++ (flat l ++ r)).drop (8 + p.length) = flat l ++ r := by
      rw [← rcd_length p, List.drop_append_of_le_length (by omega), List.drop_of_length_le (by omega), List.nil_append]
    rw [e, ih fun q hq => h q (by simp [hq])]
    simp [rcd_length]; omega
theorem scan_short (r : List UInt8) (h : r.length < 8) : scan r = ([], 0) := scan_none (by unfold first; rw [if_pos h])
theorem scan_le : ∀ (n : Nat) (b : List UInt8), b.length ≤ n → (scan b).2 ≤ b.length := by
  intro n
  induction n with
  | zero => intro b h; rw [scan_short b (by omega)]; omega
  | succ n ih =>
    intro b h
    cases hf : first b with
    | none => rw [scan_none hf]; omega
    | some p =>
      have hl := (first_len hf).2.2
      rw [scan_some hf]
      have := ih (b.drop (8 + p.length)) (by rw [List.length_drop]; omega)
      rw [List.length_drop] at this
      dsimp only
      omega
end Go.Proofs.Ytkhhmpcpcdadaaa.Fr
