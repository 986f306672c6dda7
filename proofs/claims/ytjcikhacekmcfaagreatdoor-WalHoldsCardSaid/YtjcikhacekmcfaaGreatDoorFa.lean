
/- Plain facts on the checksum. No program. -/
namespace Go.Proofs.YtjcikhacekmcfaaGreatDoor.Fm.Pl
set_option maxRecDepth 20000
set_option linter.unusedVariables false

def poly : Nat := 3988292384
def step0 (x : Nat) : Nat := if x % 2 = 1 then (x / 2) ^^^ poly else x / 2
def step (s b : Nat) : Nat := step0 (s ^^^ b)
def run (s : Nat) (xs : List Nat) : Nat := xs.foldl step s
def bitsOf : Nat → Nat → List Nat
  | 0, _ => []
  | k + 1, c => c % 2 :: bitsOf k (c / 2)
def byte (s : Nat) (c : UInt8) : Nat := run s (bitsOf 8 c.toNat)
def more0 (s : Nat) (bs : List UInt8) : Nat := bs.foldl byte s
def more (s : Nat) (bs : List UInt8) : Nat := 4294967295 - more0 (4294967295 - s) bs
def sum (bs : List UInt8) : Nat := more 0 bs
def allBits (bs : List UInt8) : List Nat := bs.flatMap fun c => bitsOf 8 c.toNat

theorem xor_lt {a b : Nat} (n : Nat) (ha : a < 2 ^ n) (hb : b < 2 ^ n) : a ^^^ b < 2 ^ n := Nat.xor_lt_two_pow ha hb
theorem xor_par (x y : Nat) : (x ^^^ y) % 2 = (x % 2 + y % 2) % 2 := by
  have h : (x ^^^ y) % 2 ^ 1 = x % 2 ^ 1 ^^^ y % 2 ^ 1 := Nat.xor_mod_two_pow
  rw [Nat.pow_one] at h
  rw [h]
  have hx : x % 2 = 0 ∨ x % 2 = 1 := by omega
  have hy : y % 2 = 0 ∨ y % 2 = 1 := by omega
  rcases hx with hx | hx <;> rcases hy with hy | hy <;> rw [hx, hy] <;> rfl
theorem xor_half (x y : Nat) : (x ^^^ y) / 2 = x / 2 ^^^ y / 2 := Nat.xor_div_two

theorem step0_lt {x : Nat} (h : x < 4294967296) : step0 x < 4294967296 := by
  unfold step0
  split
  · exact xor_lt 32 (by omega) (by decide)
  · omega
theorem step0_xor (x y : Nat) : step0 (x ^^^ y) = step0 x ^^^ step0 y := by
  unfold step0
  have hp := xor_par x y
  have hh := xor_half x y
  rw [hh]
  by_cases hx : x % 2 = 1
  · by_cases hy : y % 2 = 1
    · rw [if_neg (by omega), if_pos hx, if_pos hy]
      rw [Nat.xor_assoc, Nat.xor_comm poly, Nat.xor_assoc, Nat.xor_self, Nat.xor_zero]
    · rw [if_pos (by omega), if_pos hx, if_neg hy]
      rw [Nat.xor_assoc, Nat.xor_assoc, Nat.xor_comm poly]
  · by_cases hy : y % 2 = 1
    · rw [if_pos (by omega), if_neg hx, if_pos hy, Nat.xor_assoc]
    · rw [if_neg (by omega), if_neg hx, if_neg hy]
theorem xor_eq_zero {x y : Nat} (h : x ^^^ y = 0) : x = y := by
  have h2 : (x ^^^ y) ^^^ y = 0 ^^^ y := by rw [h]
  rwa [Nat.xor_assoc, Nat.xor_self, Nat.xor_zero, Nat.zero_xor] at h2
theorem step0_zero {z : Nat} (hz : z < 4294967296) (h : step0 z = 0) : z = 0 := by
  unfold step0 at h
  split at h
  · have := xor_eq_zero h
    unfold poly at this
    omega
  · omega
theorem step0_inj {x y : Nat} (hx : x < 4294967296) (hy : y < 4294967296) (h : step0 x = step0 y) : x = y := by
  refine xor_eq_zero (step0_zero (xor_lt 32 hx hy) ?_)
  rw [step0_xor, h, Nat.xor_self]
theorem step0_even (y : Nat) : step0 (2 * y) = y := by
  unfold step0
  rw [if_neg (by omega)]
  omega

theorem step_lt {s b : Nat} (hs : s < 4294967296) (hb : b < 2) : step s b < 4294967296 := step0_lt (xor_lt 32 hs (by omega))
theorem step_inj {s t b : Nat} (hs : s < 4294967296) (ht : t < 4294967296) (hb : b < 2) (h : step s b = step t b) : s = t := by
  have := step0_inj (xor_lt 32 hs (by omega)) (xor_lt 32 ht (by omega)) h
  have h2 : (s ^^^ b) ^^^ b = (t ^^^ b) ^^^ b := by rw [this]
  rwa [Nat.xor_assoc, Nat.xor_assoc, Nat.xor_self, Nat.xor_zero, Nat.xor_zero] at h2
theorem step_xor (s t a b : Nat) : step (s ^^^ t) (a ^^^ b) = step s a ^^^ step t b := by
  unfold step
  rw [← step0_xor]
  congr 1
  rw [Nat.xor_assoc, Nat.xor_assoc, ← Nat.xor_assoc t, Nat.xor_comm t a, Nat.xor_assoc a]

theorem run_nil (s : Nat) : run s [] = s := rfl
theorem run_cons (s x : Nat) (xs : List Nat) : run s (x :: xs) = run (step s x) xs := rfl
theorem run_append (s : Nat) (xs ys : List Nat) : run s (xs ++ ys) = run (run s xs) ys := by simp [run]
theorem run_lt : ∀ (xs : List Nat) (s : Nat), s < 4294967296 → (∀ x ∈ xs, x < 2) → run s xs < 4294967296 := by
  intro xs
  induction xs with
  | nil => intro s h _; exact h
  | cons x xs ih => intro s h hx; exact ih _ (step_lt h (hx x (by simp))) fun y hy => hx y (by simp [hy])
theorem run_inj : ∀ (xs : List Nat) (s t : Nat), s < 4294967296 → t < 4294967296 → (∀ x ∈ xs, x < 2) → run s xs = run t xs → s = t := by
  intro xs
  induction xs with
  | nil => intro s t _ _ _ h; exact h
  | cons x xs ih =>
    intro s t hs ht hx h
    have hb := hx x (by simp)
    exact step_inj hs ht hb (ih _ _ (step_lt hs hb) (step_lt ht hb) (fun y hy => hx y (by simp [hy])) h)
theorem run_xor : ∀ (xs ys : List Nat) (s t : Nat), xs.length = ys.length → run (s ^^^ t) (List.zipWith (· ^^^ ·) xs ys) = run s xs ^^^ run t ys := by
  intro xs
  induction xs with
  | nil => intro ys s t h; cases ys with
    | nil => rfl
    | cons y ys => simp at h
  | cons x xs ih => intro ys s t h; cases ys with
    | nil => simp at h
    | cons y ys =>
      simp only [List.zipWith_cons_cons, run_cons, step_xor]
      exact ih ys _ _ (by simpa using h)

/-- zeros alone -/
def zeros0 : Nat → Nat → Nat
  | 0, s => s
  | n + 1, s => zeros0 n (step0 s)
theorem zeros0_lt : ∀ (n s : Nat), s < 4294967296 → zeros0 n s < 4294967296 := by
  intro n
  induction n with
  | zero => intro s h; exact h
  | succ n ih => intro s h; exact ih _ (step0_lt h)
theorem zeros0_inj : ∀ (n s t : Nat), s < 4294967296 → t < 4294967296 → zeros0 n s = zeros0 n t → s = t := by
  intro n
  induction n with
  | zero => intro s t _ _ h; exact h
  | succ n ih => intro s t hs ht h; exact step0_inj hs ht (ih _ _ (step0_lt hs) (step0_lt ht) h)

/-- bits as one number, the first the lowest -/
def pack : List Nat → Nat
  | [] => 0
  | x :: xs => x + 2 * pack xs
theorem pack_lt : ∀ (xs : List Nat), (∀ x ∈ xs, x < 2) → pack xs < 2 ^ xs.length := by
  intro xs
  induction xs with
  | nil => intro _; simp [pack]
  | cons x xs ih =>
    intro h
    have h1 := ih fun y hy => h y (by simp [hy])
    have h2 := h x (by simp)
    rw [pack, List.length_cons, Nat.pow_succ]
    omega
theorem pack_inj : ∀ (xs ys : List Nat), xs.length = ys.length → (∀ x ∈ xs, x < 2) → (∀ x ∈ ys, x < 2) → pack xs = pack ys → xs = ys := by
  intro xs
  induction xs with
  | nil => intro ys h _ _ _; cases ys with
    | nil => rfl
    | cons y ys => simp at h
  | cons x xs ih => intro ys h hx hy e; cases ys with
    | nil => simp at h
    | cons y ys =>
      simp only [pack] at e
      have a := hx x (by simp)
      have b := hy y (by simp)
      have : x = y := by omega
      subst this
      rw [ih ys (by simpa using h) (fun z hz => hx z (by simp [hz])) (fun z hz => hy z (by simp [hz])) (by omega)]
theorem xor_low (x y : Nat) (h : x < 2) : x ^^^ (2 * y) = x + 2 * y := by
  have hp := xor_par x (2 * y)
  have hh := xor_half x (2 * y)
  have e1 : x / 2 = 0 := by omega
  have e2 : 2 * y / 2 = y := by omega
  rw [e1, e2, Nat.zero_xor] at hh
  omega
/-- bits may be fed in ahead of time -/
theorem run_feed : ∀ (xs : List Nat) (s : Nat), (∀ x ∈ xs, x < 2) → run s xs = zeros0 xs.length (s ^^^ pack xs) := by
  intro xs
  induction xs with
  | nil => intro s _; simp [run, pack, zeros0]
  | cons x xs ih =>
    intro s h
    have h2 := h x (by simp)
    rw [run_cons, ih _ fun y hy => h y (by simp [hy])]
    rw [List.length_cons, zeros0, pack]
    congr 1
    rw [← xor_low x _ h2, ← Nat.xor_assoc, step0_xor, step0_even]
    rfl

/-- unlike within 32 bits: unlike behind them -/
theorem run_tear (pre post m1 m2 : List Nat) (s : Nat) (hs : s < 4294967296) (h32 : m1.length ≤ 32) (hl : m1.length = m2.length) (h0 : ∀ x ∈ pre, x < 2) (h1 : ∀ x ∈ m1, x < 2) (h2 : ∀ x ∈ m2, x < 2) (h3 : ∀ x ∈ post, x < 2)
    (h : run s (pre ++ (m1 ++ post)) = run s (pre ++ (m2 ++ post))) : m1 = m2 := by
  rw [run_append, run_append, run_append, run_append] at h
  have hr := run_lt pre s hs h0
  have h4 := run_inj post _ _ (run_lt m1 _ hr h1) (run_lt m2 _ hr h2) h3 h
  rw [run_feed m1 _ h1, run_feed m2 _ h2, hl] at h4
  have hp1 : pack m1 < 2 ^ 32 := Nat.lt_of_lt_of_le (pack_lt m1 h1) (Nat.pow_le_pow_right (by omega) h32)
  have hp2 : pack m2 < 2 ^ 32 := Nat.lt_of_lt_of_le (pack_lt m2 h2) (Nat.pow_le_pow_right (by omega) (by omega))
  have h5 := zeros0_inj _ _ _ (xor_lt 32 hr hp1) (xor_lt 32 hr hp2) h4
  refine pack_inj m1 m2 hl h1 h2 ?_
  have h6 : run s pre ^^^ (run s pre ^^^ pack m1) = run s pre ^^^ (run s pre ^^^ pack m2) := by rw [h5]
  rwa [← Nat.xor_assoc, ← Nat.xor_assoc, Nat.xor_self, Nat.zero_xor, Nat.zero_xor] at h6

theorem bitsOf_two : ∀ (k c : Nat), ∀ x ∈ bitsOf k c, x < 2 := by
  intro k
  induction k with
  | zero => intro c x h; simp [bitsOf] at h
  | succ k ih =>
    intro c x h
    simp only [bitsOf, List.mem_cons] at h
    rcases h with rfl | h
    · omega
    · exact ih _ x h
theorem bitsOf_length : ∀ (k c : Nat), (bitsOf k c).length = k := by
  intro k
  induction k with
  | zero => intro c; rfl
  | succ k ih => intro c; simp [bitsOf, ih]
theorem pack_bitsOf : ∀ (k c : Nat), pack (bitsOf k c) = c % 2 ^ k := by
  intro k
  induction k with
  | zero => intro c; simp [bitsOf, pack]; omega
  | succ k ih =>
    intro c
    rw [bitsOf, pack, ih, Nat.pow_succ, Nat.mul_comm _ 2, Nat.mod_mul]
theorem bitsOf_xor : ∀ (k c d : Nat), bitsOf k (c ^^^ d) = List.zipWith (· ^^^ ·) (bitsOf k c) (bitsOf k d) := by
  intro k
  induction k with
  | zero => intro c d; rfl
  | succ k ih =>
    intro c d
    simp only [bitsOf, List.zipWith_cons_cons, xor_half, ih]
    congr 1
    have h1 := xor_par c d
    have h2 := xor_par (c % 2) (d % 2)
    have h3 : c % 2 ^^^ d % 2 < 2 ^ 1 := xor_lt 1 (by omega) (by omega)
    omega

theorem more0_run (bs : List UInt8) : ∀ s, more0 s bs = run s (allBits bs) := by
  induction bs with
  | nil => intro s; rfl
  | cons c bs ih =>
    intro s
    show more0 (byte s c) bs = _
    rw [ih, show allBits (c :: bs) = bitsOf 8 c.toNat ++ allBits bs from by simp [allBits], run_append]; rfl
theorem allBits_two (bs : List UInt8) : ∀ x ∈ allBits bs, x < 2 := by
  intro x h
  simp only [allBits, List.mem_flatMap] at h
  obtain ⟨c, _, hc⟩ := h
  exact bitsOf_two 8 _ x hc
theorem more0_lt (bs : List UInt8) (s : Nat) (h : s < 4294967296) : more0 s bs < 4294967296 := by
  rw [more0_run]; exact run_lt _ s h (allBits_two bs)
theorem more_lt (s : Nat) (bs : List UInt8) : more s bs < 4294967296 := by unfold more; omega
theorem sum_join (a b : List UInt8) : sum (a ++ b) = more (sum a) b := by
  have h := more0_lt a (4294967295 - 0) (by omega)
  unfold sum more
  rw [show more0 (4294967295 - 0) (a ++ b) = more0 (more0 (4294967295 - 0) a) b from by simp [more0]]
  rw [show 4294967295 - (4294967295 - more0 (4294967295 - 0) a) = more0 (4294967295 - 0) a from by omega]
theorem more_join (s : Nat) (a b : List UInt8) (hs : s < 4294967296) : more s (a ++ b) = more (more s a) b := by
  have h := more0_lt a (4294967295 - s) (by omega)
  unfold more
  rw [show more0 (4294967295 - s) (a ++ b) = more0 (more0 (4294967295 - s) a) b from by simp [more0]]
  rw [show 4294967295 - (4294967295 - more0 (4294967295 - s) a) = more0 (4294967295 - s) a from by omega]
theorem more_inj (s t : Nat) (bs : List UInt8) (hs : s < 4294967296) (ht : t < 4294967296) (h : more s bs = more t bs) : s = t := by
  have h1 := more0_lt bs (4294967295 - s) (by omega)
  have h2 := more0_lt bs (4294967295 - t) (by omega)
  unfold more at h
  have h3 : more0 (4294967295 - s) bs = more0 (4294967295 - t) bs := by omega
  rw [more0_run, more0_run] at h3
  have := run_inj _ _ _ (by omega) (by omega) (allBits_two bs) h3
  omega

theorem allBits_xor : ∀ (a b : List UInt8), a.length = b.length → allBits (List.zipWith (· ^^^ ·) a b) = List.zipWith (· ^^^ ·) (allBits a) (allBits b) := by
  intro a
  induction a with
  | nil => intro b h; cases b with
    | nil => rfl
    | cons y b => simp at h
  | cons x a ih => intro b h; cases b with
    | nil => simp at h
    | cons y b =>
      simp only [allBits, List.zipWith_cons_cons, List.flatMap_cons]
      rw [List.zipWith_append (by rw [bitsOf_length, bitsOf_length]), ← bitsOf_xor, UInt8.toNat_xor]
      congr 1
      exact ih b (by simpa using h)
theorem allBits_length (bs : List UInt8) : (allBits bs).length = 8 * bs.length := by
  induction bs with
  | nil => rfl
  | cons c bs ih =>
    simp only [allBits, List.flatMap_cons, List.length_append, bitsOf_length, List.length_cons]
    have : (List.flatMap (fun c : UInt8 => bitsOf 8 c.toNat) bs).length = 8 * bs.length := ih
    omega
theorem more0_xor (a b : List UInt8) (s t : Nat) (h : a.length = b.length) : more0 (s ^^^ t) (List.zipWith (· ^^^ ·) a b) = more0 s a ^^^ more0 t b := by
  rw [more0_run, more0_run, more0_run, allBits_xor a b h]
  exact run_xor _ _ s t (by rw [allBits_length, allBits_length, h])

theorem inv_xor {x : Nat} (h : x < 4294967296) : 4294967295 - x = 4294967295 ^^^ x := by
  apply Nat.eq_of_testBit_eq
  intro i
  have h1 := Nat.testBit_two_pow_sub_succ (n := 32) (x := x) h i
  have h2 := Nat.testBit_two_pow_sub_one 32 i
  rw [show 4294967295 - x = 2 ^ 32 - (x + 1) from by omega, h1, Nat.testBit_xor, show (4294967295 : Nat) = 2 ^ 32 - 1 from rfl, h2]
  by_cases hi : i < 32
  · simp [hi]
  · have h3 : x.testBit i = false := Nat.testBit_lt_two_pow (Nat.lt_of_lt_of_le (show x < 2 ^ 32 from h) (Nat.pow_le_pow_right (by omega) (by omega)))
    simp [hi, h3]

/-- three rows told apart -/
theorem sum_three (a b c : List UInt8) (h1 : a.length = b.length) (h2 : b.length = c.length) : sum a ^^^ sum b ^^^ sum c = sum (List.zipWith (· ^^^ ·) (List.zipWith (· ^^^ ·) a b) c) := by
  have la := more0_lt a 4294967295 (by omega)
  have lb := more0_lt b 4294967295 (by omega)
  have lc := more0_lt c 4294967295 (by omega)
  have e1 := more0_xor a b 4294967295 4294967295 h1
  have e2 := more0_xor (List.zipWith (· ^^^ ·) a b) c (4294967295 ^^^ 4294967295) 4294967295 (by rw [List.length_zipWith]; omega)
  rw [e1, Nat.xor_self, Nat.zero_xor] at e2
  have ld := more0_lt (List.zipWith (· ^^^ ·) (List.zipWith (· ^^^ ·) a b) c) 4294967295 (by omega)
  unfold sum more
  simp only [Nat.sub_zero]
  rw [inv_xor la, inv_xor lb, inv_xor lc, inv_xor ld, e2]
  generalize more0 4294967295 a = x
  generalize more0 4294967295 b = y
  generalize more0 4294967295 c = z
  generalize 4294967295 = f
  apply Nat.eq_of_testBit_eq
  intro i
  simp only [Nat.testBit_xor]
  cases f.testBit i <;> cases x.testBit i <;> cases y.testBit i <;> cases z.testBit i <;> rfl

theorem bitsOf_get : ∀ (k c r : Nat), r < k → (bitsOf k c)[r]? = some (c / 2 ^ r % 2) := by
  intro k
  induction k with
  | zero => intro c r h; omega
  | succ k ih =>
    intro c r h
    cases r with
    | zero => simp [bitsOf]
    | succ r =>
      simp only [bitsOf, List.getElem?_cons_succ]
      rw [ih (c / 2) r (by omega), Nat.div_div_eq_div_mul, ← Nat.pow_succ']
theorem allBits_cons (c : UInt8) (bs : List UInt8) : allBits (c :: bs) = bitsOf 8 c.toNat ++ allBits bs := by simp [allBits]
theorem allBits_get : ∀ (bs : List UInt8) (j r : Nat), r < 8 → (allBits bs)[8 * j + r]? = bs[j]?.map fun c => c.toNat / 2 ^ r % 2 := by
  intro bs
  induction bs with
  | nil => intro j r _; simp [allBits]
  | cons c bs ih =>
    intro j r h
    rw [allBits_cons]
    cases j with
    | zero =>
      rw [List.getElem?_append_left (by rw [bitsOf_length]; omega), Nat.mul_zero, Nat.zero_add, bitsOf_get 8 _ r h]
      rfl
    | succ j =>
      rw [List.getElem?_append_right (by rw [bitsOf_length]; omega), bitsOf_length, show 8 * (j + 1) + r - 8 = 8 * j + r from by omega, ih j r h]
      rfl
theorem bitsOf_inj (c d : UInt8) (h : bitsOf 8 c.toNat = bitsOf 8 d.toNat) : c = d := by
  have h1 := congrArg pack h
  rw [pack_bitsOf, pack_bitsOf] at h1
  have hc := c.toNat_lt
  have hd := d.toNat_lt
  exact UInt8.toNat_inj.1 (by omega)
theorem allBits_inj : ∀ (a b : List UInt8), allBits a = allBits b → a = b := by
  intro a
  induction a with
  | nil =>
    intro b h
    have := congrArg List.length h
    rw [allBits_length, allBits_length] at this
    exact (List.eq_nil_of_length_eq_zero (by simp at this; omega)).symm
  | cons x a ih =>
    intro b h
    cases b with
    | nil =>
      have := congrArg List.length h
      rw [allBits_length, allBits_length] at this
      simp at this
    | cons y b =>
      rw [allBits_cons, allBits_cons] at h
      obtain ⟨h1, h2⟩ := List.append_inj h (by rw [bitsOf_length, bitsOf_length])
      rw [bitsOf_inj x y h1, ih b h2]

theorem sum_bits {a b : List UInt8} (h : sum a = sum b) : run 4294967295 (allBits a) = run 4294967295 (allBits b) := by
  have h1 := more0_lt a 4294967295 (by omega)
  have h2 := more0_lt b 4294967295 (by omega)
  unfold sum more at h
  simp only [Nat.sub_zero] at h
  rw [← more0_run, ← more0_run]
  omega

/-- rows of one length that are unlike within 32 bits alone have unlike sums -/
theorem sum_tear (b c : List UInt8) (p : Nat) (hl : b.length = c.length) (hout : ∀ i, i < p ∨ p + 32 ≤ i → (allBits b)[i]? = (allBits c)[i]?) (h : sum b = sum c) : b = c := by
  have hr := sum_bits h
  have cut : ∀ l : List Nat, l = l.take p ++ ((l.drop p).take 32 ++ (l.drop p).drop 32) := fun l => by rw [List.take_append_drop, List.take_append_drop]
  have hL : (allBits b).length = (allBits c).length := by rw [allBits_length, allBits_length, hl]
  have e1 : (allBits b).take p = (allBits c).take p := by
    apply List.ext_getElem?
    intro i
    simp only [List.getElem?_take]
    by_cases hi : i < p
    · rw [if_pos hi, if_pos hi]; exact hout i (.inl hi)
    · rw [if_neg hi, if_neg hi]
  have e2 : ((allBits b).drop p).drop 32 = ((allBits c).drop p).drop 32 := by
    apply List.ext_getElem?
    intro i
    simp only [List.getElem?_drop]
    exact hout _ (.inr (by omega))
  have t : ∀ (l : List UInt8) (x : Nat), x ∈ allBits l → x < 2 := fun l x hx => allBits_two l x hx
  rw [cut (allBits b), cut (allBits c), ← e1, ← e2] at hr
  have hm := run_tear _ _ _ _ 4294967295 (by omega) (by rw [List.length_take]; omega) (by rw [List.length_take, List.length_take, List.length_drop, List.length_drop, hL])
    (fun x hx => t b x (List.mem_of_mem_take hx)) (fun x hx => t b x (List.mem_of_mem_drop (List.mem_of_mem_take hx))) (fun x hx => t c x (List.mem_of_mem_drop (List.mem_of_mem_take hx)))
    (fun x hx => t b x (List.mem_of_mem_drop (List.mem_of_mem_drop hx))) hr
  refine allBits_inj b c ?_
  rw [cut (allBits b), cut (allBits c), e1, e2, hm]

/-- the register of a byte's table -/
def entry (i : Nat) : Nat := zeros0 8 i
/-- a byte's eight steps by the table -/
theorem byte_table (s : Nat) (c : UInt8) (hs : s < 4294967296) : byte s c = entry ((s ^^^ c.toNat) % 256) ^^^ (s / 256) := by
  have hc := c.toNat_lt
  unfold byte
  rw [run_feed _ _ (bitsOf_two 8 _), bitsOf_length, pack_bitsOf, show c.toNat % 2 ^ 8 = c.toNat from by omega]
  have zx : ∀ n x y, zeros0 n (x ^^^ y) = zeros0 n x ^^^ zeros0 n y := by
    intro n
    induction n with
    | zero => intros; rfl
    | succ n ih => intro x y; rw [zeros0, step0_xor, ih]; rfl
  have ze : ∀ n y, zeros0 n (2 ^ n * y) = y := by
    intro n
    induction n with
    | zero => intro y; simp [zeros0]
    | succ n ih => intro y; rw [zeros0, Nat.pow_succ, Nat.mul_comm (2 ^ n), Nat.mul_assoc, step0_even, ih]
  have hsplit : ∀ z : Nat, z = (z % 256) ^^^ (2 ^ 8 * (z / 256)) := by
    intro z
    apply Nat.eq_of_testBit_eq
    intro i
    rw [Nat.testBit_xor, show (256 : Nat) = 2 ^ 8 from rfl, Nat.testBit_mod_two_pow, Nat.testBit_two_pow_mul, Nat.testBit_div_two_pow]
    by_cases hi : i < 8
    · have h8 : ¬ 8 ≤ i := by omega
      simp [hi, h8]
    · have : 8 ≤ i := by omega
      simp [hi, this]
  have hd : (s ^^^ c.toNat) / 256 = s / 256 := by
    have h1 : (s ^^^ c.toNat) / 2 ^ 8 = s / 2 ^ 8 ^^^ c.toNat / 2 ^ 8 := Nat.xor_div_two_pow
    rw [show c.toNat / 2 ^ 8 = 0 from by omega, Nat.xor_zero] at h1
    exact h1
  have e := congrArg (zeros0 8) (hsplit (s ^^^ c.toNat))
  rw [zx 8 ((s ^^^ c.toNat) % 256), ze, hd] at e
  exact e
end Go.Proofs.YtjcikhacekmcfaaGreatDoor.Fm.Pl
/- Plain records with checksums. No program. -/
namespace Go.Proofs.YtjcikhacekmcfaaGreatDoor.Fm.Fr
set_option maxRecDepth 20000
set_option linter.unusedVariables false

/-- a number's byte -/
def bet (x k : Nat) : UInt8 := UInt8.ofNat (x / 2 ^ (8 * (3 - k)))
def be (x : Nat) : List UInt8 := [bet x 0, bet x 1, bet x 2, bet x 3]
def num (l : List UInt8) : Nat := l.foldl (fun n c => n * 256 + c.toNat) 0
theorem be_length (x : Nat) : (be x).length = 4 := rfl
theorem be_get (x k : Nat) (h : k < 4) : (be x)[k]? = some (bet x k) := by
  have : k = 0 ∨ k = 1 ∨ k = 2 ∨ k = 3 := by omega
  rcases this with rfl | rfl | rfl | rfl <;> rfl
theorem bet_nat (x k : Nat) : (bet x k).toNat = x / 2 ^ (8 * (3 - k)) % 256 := by unfold bet; rw [UInt8.toNat_ofNat']
theorem num_be (x : Nat) (h : x < 4294967296) : num (be x) = x := by
  show (((0 * 256 + (bet x 0).toNat) * 256 + (bet x 1).toNat) * 256 + (bet x 2).toNat) * 256 + (bet x 3).toNat = x
  simp only [bet_nat, Nat.reduceSub, Nat.reduceMul, Nat.reducePow]
  omega
theorem num_snoc (l : List UInt8) (c : UInt8) : num (l ++ [c]) = num l * 256 + c.toNat := by unfold num; rw [List.foldl_append]; rfl
theorem num_lt0 : ∀ (l : List UInt8) (n : Nat), l.foldl (fun n c => n * 256 + c.toNat) n < (n + 1) * 256 ^ l.length := by
  intro l
  induction l with
  | nil => intro n; simp
  | cons c r ih =>
    intro n
    have hc := c.toNat_lt
    have h1 := ih (n * 256 + c.toNat)
    have h2 : (n * 256 + c.toNat + 1) * 256 ^ r.length ≤ (n + 1) * 256 * 256 ^ r.length := Nat.mul_le_mul_right _ (by omega)
    rw [List.foldl_cons, List.length_cons, Nat.pow_succ, Nat.mul_comm (256 ^ r.length), ← Nat.mul_assoc]
    omega
theorem num_lt (l : List UInt8) : num l < 256 ^ l.length := by
  have := num_lt0 l 0
  rwa [Nat.zero_add, Nat.one_mul] at this
theorem num_four (l : List UInt8) (h : l.length = 4) : num l < 4294967296 := by
  have := num_lt l
  rw [h] at this
  exact this
theorem be_num (l : List UInt8) (h : l.length = 4) : be (num l) = l := by
  match l, h with
  | [a, b, c, d], _ =>
    have ha := a.toNat_lt
    have hb := b.toNat_lt
    have hc := c.toNat_lt
    have hd := d.toNat_lt
    have e : num [a, b, c, d] = ((a.toNat * 256 + b.toNat) * 256 + c.toNat) * 256 + d.toNat := by simp [num]
    have q : ∀ k (x : UInt8), num [a, b, c, d] / 2 ^ (8 * (3 - k)) % 256 = x.toNat → bet (num [a, b, c, d]) k = x := fun k x hx => by
      apply UInt8.toNat_inj.1
      rw [bet_nat, hx]
    unfold be
    rw [q 0 a (by rw [e]; simp only [Nat.reduceSub, Nat.reduceMul, Nat.reducePow]; omega), q 1 b (by rw [e]; simp only [Nat.reduceSub, Nat.reduceMul, Nat.reducePow]; omega), q 2 c (by rw [e]; simp only [Nat.reduceSub, Nat.reduceMul, Nat.reducePow]; omega), q 3 d (by rw [e]; simp only [Nat.reduceSub, Nat.reduceMul, Nat.reducePow]; omega)]

/-- a record -/
def body (p : List UInt8) : List UInt8 := be p.length ++ p
def rcd (p : List UInt8) : List UInt8 := be (Pl.sum (body p)) ++ body p
theorem body_length (p : List UInt8) : (body p).length = 4 + p.length := by simp [body, be_length]
theorem rcd_length (p : List UInt8) : (rcd p).length = 8 + p.length := by simp [rcd, body_length, be_length]; omega
def lenOf (b : List UInt8) : Nat := num ((b.take 8).drop 4)
/-- the payload of the record that b begins with -/
def first (b : List UInt8) : Option (List UInt8) :=
  if b.length < 8 then none
  else if 4096 < lenOf b ∨ b.length - 8 < lenOf b then none
  else if num (b.take 4) = Pl.sum ((b.take (8 + lenOf b)).drop 4) then some ((b.take (8 + lenOf b)).drop 8) else none
theorem first_eq (b : List UInt8) : first b = if b.length < 8 then none
  else if 4096 < lenOf b ∨ b.length - 8 < lenOf b then none
  else if num (b.take 4) = Pl.sum ((b.take (8 + lenOf b)).drop 4) then some ((b.take (8 + lenOf b)).drop 8) else none := rfl
theorem first_len {b p : List UInt8} (h : first b = some p) : p.length = lenOf b ∧ p.length ≤ 4096 ∧ 8 + p.length ≤ b.length := by
  unfold first at h
  split at h
  · cases h
  · split at h
    · cases h
    · split at h
      · injection h with h
        subst h
        simp
        omega
      · cases h
theorem first_rcd (p r : List UInt8) (h : p.length ≤ 4096) : first (rcd p ++ r) = some p := by
  have l0 := rcd_length p
  have l4 : (rcd p ++ r).take 4 = be (Pl.sum (body p)) := by
    unfold rcd; rw [List.append_assoc, List.take_append_of_le_length (by rw [be_length]; omega), List.take_of_length_le (by rw [be_length]; omega)]
  have l8 : ((rcd p ++ r).take 8).drop 4 = be p.length := by
    unfold rcd body
    rw [List.append_assoc, List.append_assoc, ← List.append_assoc, List.take_append_of_le_length (by simp [be_length]), List.take_of_length_le (by simp [be_length]), List.drop_append_of_le_length (by simp [be_length]), List.drop_of_length_le (by simp [be_length]), List.nil_append]
  have ln : lenOf (rcd p ++ r) = p.length := by unfold lenOf; rw [l8, num_be _ (by omega)]
  have lt : (rcd p ++ r).take (8 + p.length) = rcd p := by rw [← l0, List.take_append_of_le_length (by omega), List.take_of_length_le (by omega)]
  unfold first
  rw [ln, lt, l4, num_be (Pl.sum (body p)) (Pl.more_lt _ _), if_neg (by rw [List.length_append]; omega), if_neg (by rw [List.length_append]; omega)]
  have e4 : (rcd p).drop 4 = body p := by unfold rcd; rw [List.drop_append_of_le_length (by simp [be_length]), List.drop_of_length_le (by simp [be_length]), List.nil_append]
  have e8 : (rcd p).drop 8 = p := by
    unfold rcd body; rw [← List.append_assoc, List.drop_append_of_le_length (by simp [be_length]), List.drop_of_length_le (by simp [be_length]), List.nil_append]
  rw [e4, e8, if_pos rfl]

def scanF : Nat → List UInt8 → List (List UInt8) × Nat
  | 0, _ => ([], 0)
  | n + 1, b => match first b with
    | none => ([], 0)
    | some p => (p :: (scanF n (b.drop (8 + p.length))).1, 8 + p.length + (scanF n (b.drop (8 + p.length))).2)
def scan (b : List UInt8) : List (List UInt8) × Nat := scanF b.length b
theorem first_nil : first [] = none := rfl
theorem scanF_more : ∀ (n m : Nat) (b : List UInt8), b.length ≤ n → b.length ≤ m → scanF n b = scanF m b := by
  intro n
  induction n with
  | zero =>
    intro m b h1 h2
    obtain rfl : b = [] := List.eq_nil_of_length_eq_zero (by omega)
    cases m with
    | zero => rfl
    | succ m => simp [scanF, first_nil]
  | succ n ih =>
    intro m b h1 h2
    cases m with
    | zero =>
      obtain rfl : b = [] := List.eq_nil_of_length_eq_zero (by omega)
      simp [scanF, first_nil]
    | succ m =>
      simp only [scanF]
      cases h : first b with
      | none => rfl
      | some p =>
        dsimp only
        rw [ih m (b.drop (8 + p.length)) (by rw [List.length_drop]; omega) (by rw [List.length_drop]; omega)]
theorem scan_none {b : List UInt8} (h : first b = none) : scan b = ([], 0) := by
  unfold scan
  cases hl : b.length with
  | zero => rfl
  | succ n => simp [scanF, h]
theorem scan_some {b p : List UInt8} (h : first b = some p) : scan b = (p :: (scan (b.drop (8 + p.length))).1, 8 + p.length + (scan (b.drop (8 + p.length))).2) := by
  have hl := (first_len h).2.2
  unfold scan
  obtain ⟨n, hn⟩ : ∃ n, b.length = n + 1 := ⟨b.length - 1, by omega⟩
  rw [hn]
  simp only [scanF, h]
  rw [scanF_more n _ _ (by rw [List.length_drop]; omega) (Nat.le_refl _)]

theorem scan_step {bs p : List UInt8} {k : Nat} {ls : List (List UInt8)} (h1 : (scan bs).1 = ls ++ (scan (bs.drop k)).1) (h2 : (scan bs).2 = k + (scan (bs.drop k)).2) (hf : first (bs.drop k) = some p) :
    (scan bs).1 = (ls ++ [p]) ++ (scan (bs.drop (k + (8 + p.length)))).1 ∧ (scan bs).2 = k + (8 + p.length) + (scan (bs.drop (k + (8 + p.length)))).2 := by
  rw [scan_some hf, List.drop_drop] at h1 h2
  dsimp only at h1 h2
  exact ⟨by rw [h1]; simp, by rw [h2]; omega⟩
/-- records one behind the other -/
def flat (l : List (List UInt8)) : List UInt8 := l.flatMap rcd
def Ok (l : List (List UInt8)) : Prop := ∀ p ∈ l, p.length ≤ 4096
def tot (l : List (List UInt8)) : Nat := (l.map List.length).sum
theorem flat_nil : flat [] = [] := rfl
theorem flat_cons (p : List UInt8) (l : List (List UInt8)) : flat (p :: l) = rcd p ++ flat l := rfl
theorem flat_append (a b : List (List UInt8)) : flat (a ++ b) = flat a ++ flat b := by simp [flat]
theorem flat_snoc (a : List (List UInt8)) (p : List UInt8) : flat (a ++ [p]) = flat a ++ rcd p := by rw [flat_append, flat_cons, flat_nil, List.append_nil]
theorem flat_length (l : List (List UInt8)) : (flat l).length = 8 * l.length + tot l := by
  induction l with
  | nil => rfl
  | cons p l ih => rw [flat_cons, List.length_append, rcd_length, ih]; simp [tot]; omega
theorem tot_append (a b : List (List UInt8)) : tot (a ++ b) = tot a + tot b := by simp [tot]
theorem tot_take (l : List (List UInt8)) (k : Nat) : tot (l.take k) ≤ tot l := by
  have h := tot_append (l.take k) (l.drop k)
  rw [List.take_append_drop] at h
  omega
theorem len_le_tot {l : List (List UInt8)} {p : List UInt8} (h : p ∈ l) : p.length ≤ tot l := by
  induction l with
  | nil => cases h
  | cons q l ih =>
    have e : tot (q :: l) = q.length + tot l := by simp [tot]
    rcases List.mem_cons.1 h with rfl | h
    · omega
    · have := ih h; omega
theorem flat_take_le (l : List (List UInt8)) (k : Nat) : (flat (l.take k)).length ≤ (flat l).length := by
  have h := flat_append (l.take k) (l.drop k)
  rw [List.take_append_drop] at h
  rw [h, List.length_append]; omega
/-- what is put is scanned -/
theorem scan_flat (l : List (List UInt8)) (h : Ok l) (r : List UInt8) : scan (flat l ++ r) = (l ++ (scan r).1, (flat l).length + (scan r).2) := by
  induction l with
  | nil => simp [flat_nil]
  | cons p l ih =>
    rw [flat_cons, List.append_assoc, scan_some (first_rcd p _ (h p (by simp)))]
    have e : (rcd p ++ (flat l ++ r)).drop (8 + p.length) = flat l ++ r := by
      rw [← rcd_length p, List.drop_append_of_le_length (by omega), List.drop_of_length_le (by omega), List.nil_append]
    rw [e, ih fun q hq => h q (by simp [hq])]
    simp [rcd_length]; omega
theorem scan_short (r : List UInt8) (h : r.length < 8) : scan r = ([], 0) := scan_none (by unfold first; rw [if_pos h])
theorem scan_le : ∀ (n : Nat) (b : List UInt8), b.length ≤ n → (scan b).2 ≤ b.length := by
  intro n
  induction n with
  | zero => intro b h; rw [scan_short b (by omega)]; omega
  | succ n ih =>
    intro b h
    cases hf : first b with
    | none => rw [scan_none hf]; omega
    | some p =>
      have hl := (first_len hf).2.2
      rw [scan_some hf]
      have := ih (b.drop (8 + p.length)) (by rw [List.length_drop]; omega)
      rw [List.length_drop] at this
      dsimp only
      omega
end Go.Proofs.YtjcikhacekmcfaaGreatDoor.Fm.Fr
