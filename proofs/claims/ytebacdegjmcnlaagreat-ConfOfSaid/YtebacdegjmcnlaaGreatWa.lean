/- Plain facts on the wire format: bytes of counts, trees of items, their encodings. No program. -/
namespace Go.Proofs.YtebacdegjmcnlaaGreat.Pl
/-- how many bytes a number has, without leading zero bytes -/
def dgs (n : Nat) : Nat :=
  if n < 1 then 0 else if n < 256 then 1 else if n < 65536 then 2 else if n < 16777216 then 3 else if n < 4294967296 then 4
  else if n < 1099511627776 then 5 else if n < 281474976710656 then 6 else if n < 72057594037927936 then 7 else 8
theorem dgs_le (n : Nat) : dgs n ≤ 8 := by
  unfold dgs
  repeat' split
  all_goals omega
/-- the last d bytes, the greatest first -/
def be : Nat → Nat → List UInt8
  | 0, _ => []
  | d + 1, n => UInt8.ofNat (n / 256 ^ d) :: be d n
theorem be_length (d n : Nat) : (be d n).length = d := by
  induction d with
  | zero => rfl
  | succ d ih => simp [be, ih]
def cntB (n : Nat) : List UInt8 := UInt8.ofNat (dgs n) :: be (dgs n) n
theorem cntB_length (n : Nat) : (cntB n).length = 1 + dgs n := by simp [cntB, be_length]; omega
/-- the unsigned number of a signed one -/
def foldN (n : Int) : Nat := if n < 0 then (-2 * n - 1).toNat else (2 * n).toNat
inductive It where
  | mk (k n : Int) (s : ByteArray) (l : List It)
mutual
def It.cnt : It → Nat
  | .mk _ _ _ l => 1 + cnts l
def cnts : List It → Nat
  | [] => 0
  | x :: r => x.cnt + cnts r
end
mutual
def It.dep : It → Nat
  | .mk _ _ _ l => 1 + deps l
def deps : List It → Nat
  | [] => 0
  | x :: r => max x.dep (deps r)
end
mutual
def It.long : It → Bool
  | .mk k _ s l => (k == 2 && decide (4096 < s.size)) || longs l
def longs : List It → Bool
  | [] => false
  | x :: r => x.long || longs r
end
def form (k n : Int) (s : ByteArray) (m : Nat) : Bool :=
  (k == 1 && s.size == 0 && m == 0) || (k == 2 && n == 0 && m == 0) || (k == 3 && n == 0 && s.size == 0)
mutual
def It.good : It → Bool
  | .mk k n s l => form k n s l.length && goods l
def goods : List It → Bool
  | [] => true
  | x :: r => x.good && goods r
end
mutual
def It.enc : It → List UInt8
  | .mk k n s l => if k = 1 then 1 :: cntB (foldN n) else if k = 2 then 2 :: (cntB s.size ++ s.data.toList) else 3 :: (cntB l.length ++ encs l)
def encs : List It → List UInt8
  | [] => []
  | x :: r => x.enc ++ encs r
end
/-- the library's table of lengths of bytes -/
def tab : ByteArray := ⟨#[0,1,2,2,3,3,3,3,4,4,4,4,4,4,4,4,5,5,5,5,5,5,5,5,5,5,5,5,5,5,5,5,6,6,6,6,6,6,6,6,6,6,6,6,6,6,6,6,6,6,6,6,6,6,6,6,6,6,6,6,6,6,6,6,7,7,7,7,7,7,7,7,7,7,7,7,7,7,7,7,7,7,7,7,7,7,7,7,7,7,7,7,7,7,7,7,7,7,7,7,7,7,7,7,7,7,7,7,7,7,7,7,7,7,7,7,7,7,7,7,7,7,7,7,7,7,7,7,8,8,8,8,8,8,8,8,8,8,8,8,8,8,8,8,8,8,8,8,8,8,8,8,8,8,8,8,8,8,8,8,8,8,8,8,8,8,8,8,8,8,8,8,8,8,8,8,8,8,8,8,8,8,8,8,8,8,8,8,8,8,8,8,8,8,8,8,8,8,8,8,8,8,8,8,8,8,8,8,8,8,8,8,8,8,8,8,8,8,8,8,8,8,8,8,8,8,8,8,8,8,8,8,8,8,8,8,8,8,8,8,8,8,8,8,8,8,8,8,8,8,8,8,8,8,8,8]⟩
theorem tab_size : tab.size = 256 := by decide +kernel
theorem tab_ok : ∀ k : Fin 256, tab[k.val]!.toNat ≤ 8 ∧ (tab[k.val]!.toNat = 0 ↔ k.val = 0) := by decide +kernel
theorem tab_at (k : Nat) (h : k < tab.size) : (tab[k]'h).toNat ≤ 8 ∧ ((tab[k]'h).toNat = 0 ↔ k = 0) := by
  have h' : k < 256 := by rw [← tab_size]; exact h
  have := tab_ok ⟨k, h'⟩
  simpa [getElem!_pos tab k h] using this
theorem be_get (d n j : Nat) (hj : j < d) : (be d n)[j]? = some (UInt8.ofNat (n / 256 ^ (d - 1 - j))) := by
  induction d generalizing j with
  | zero => omega
  | succ d ih =>
    cases j with
    | zero => simp [be]
    | succ j =>
      simp only [be, List.getElem?_cons_succ]
      rw [ih j (by omega)]
      congr 4
      omega
theorem be_take_succ (d n j : Nat) (hj : j < d) : (be d n).take (j + 1) = (be d n).take j ++ [UInt8.ofNat (n / 256 ^ (d - 1 - j))] := by
  rw [List.take_add_one, be_get d n j hj]; rfl
theorem shift_byte (c : Int) (h : 0 ≤ c) (e : Nat) : UInt8.ofNat (c / 2 ^ (8 * e) % 256).toNat = UInt8.ofNat (c.toNat / 256 ^ e) := by
  obtain ⟨m, rfl⟩ := Int.eq_ofNat_of_zero_le h
  have h2 : ((2 : Int) ^ (8 * e)) = ((256 ^ e : Nat) : Int) := by
    rw [Int.pow_mul]; norm_cast
  rw [h2]
  have h3 : ((m : Int) / ((256 ^ e : Nat) : Int) % 256).toNat = m / 256 ^ e % 256 := by
    rw [← Int.natCast_ediv]; omega
  rw [h3, Int.toNat_natCast]
  apply UInt8.toNat_inj.1
  simp
theorem cnts_append (a b : List It) : cnts (a ++ b) = cnts a + cnts b := by
  induction a with
  | nil => simp [cnts]
  | cons x r ih => simp [cnts, ih]; omega
theorem deps_append (a b : List It) : deps (a ++ b) = max (deps a) (deps b) := by
  induction a with
  | nil => simp [deps]
  | cons x r ih => simp [deps, ih, Nat.max_assoc]
theorem longs_append (a b : List It) : longs (a ++ b) = (longs a || longs b) := by
  induction a with
  | nil => simp [longs]
  | cons x r ih => simp [longs, ih, Bool.or_assoc]
theorem goods_append (a b : List It) : goods (a ++ b) = (goods a && goods b) := by
  induction a with
  | nil => simp [goods]
  | cons x r ih => simp [goods, ih, Bool.and_assoc]
theorem encs_append (a b : List It) : encs (a ++ b) = encs a ++ encs b := by
  induction a with
  | nil => simp [encs]
  | cons x r ih => simp [encs, ih]
theorem cnts_one (x : It) : cnts [x] = x.cnt := by simp [cnts]
theorem deps_one (x : It) : deps [x] = x.dep := by simp [deps]
theorem longs_one (x : It) : longs [x] = x.long := by simp [longs]
theorem goods_one (x : It) : goods [x] = x.good := by simp [goods]
theorem encs_one (x : It) : encs [x] = x.enc := by simp [encs]
theorem cnt_pos (t : It) : 1 ≤ t.cnt := by cases t; simp [It.cnt]
theorem dep_pos (t : It) : 1 ≤ t.dep := by cases t; simp [It.dep]
def fits (t : It) (i dp : Int) : Bool := decide (i + t.cnt ≤ 4096) && decide (dp + t.dep ≤ 13) && !t.long
/-- so far all fit: of a list's first ones -/
def fitsL (l : List It) (i dp : Int) : Bool := decide (i + cnts l ≤ 4096) && decide (dp + deps l ≤ 13) && !longs l
def own (k n : Int) (s : ByteArray) (m : Nat) : Nat := if k = 1 then 2 + dgs (foldN n) else if k = 2 then 2 + dgs s.size + s.size else 2 + dgs m
theorem enc_length {k n : Int} {s : ByteArray} {l : List It} (h : form k n s l.length = true) : (It.mk k n s l).enc.length = own k n s l.length + (encs l).length := by
  have hsz : s.data.toList.length = s.size := by simp only [Array.length_toList]; rfl
  unfold form at h
  unfold own
  by_cases h1 : k = 1
  · subst h1
    have : l = [] := List.eq_nil_of_length_eq_zero (by simpa using h : _ ∧ _).2
    subst this
    simp [It.enc, cntB_length, encs]
    omega
  · by_cases h2 : k = 2
    · subst h2
      have : l = [] := List.eq_nil_of_length_eq_zero (by simpa using h : _ ∧ _).2
      subst this
      simp [It.enc, cntB_length, encs]; omega
    · simp [It.enc, cntB_length, h1, h2]; omega
theorem fits_mk {k n : Int} {s : ByteArray} {l : List It} (i dp : Int) : fits (.mk k n s l) i dp = (decide (i + 1 ≤ 4096) && decide (dp ≤ 12) && !(k == 2 && decide (4096 < s.size)) && fitsL l (i + 1) (dp + 1)) := by
  unfold fits fitsL
  rw [Bool.eq_iff_iff]
  simp only [Bool.and_eq_true, decide_eq_true_eq, Bool.not_eq_true']
  simp only [It.cnt, It.dep, It.long, Bool.or_eq_false_iff]
  constructor
  · rintro ⟨⟨h1, h2⟩, h3, h4⟩
    exact ⟨⟨⟨by omega, by omega⟩, h3⟩, ⟨by omega, by omega⟩, h4⟩
  · rintro ⟨⟨⟨h1, h2⟩, h3⟩, ⟨h4, h5⟩, h6⟩
    exact ⟨⟨by omega, by omega⟩, h3, h6⟩
theorem fitsL_snoc (l : List It) (x : It) (i dp : Int) : fitsL (l ++ [x]) i dp = (fitsL l i dp && fits x (i + cnts l) dp) := by
  unfold fitsL fits
  rw [cnts_append, deps_append, longs_append, cnts_one, deps_one, longs_one]
  have hp := dep_pos x
  rw [Bool.eq_iff_iff]
  simp only [Bool.and_eq_true, decide_eq_true_eq, Bool.not_eq_true', Bool.or_eq_false_iff]
  constructor
  · rintro ⟨⟨h1, h2⟩, h3, h4⟩; exact ⟨⟨⟨by omega, by omega⟩, h3⟩, ⟨by omega, by omega⟩, h4⟩
  · rintro ⟨⟨⟨h1, h2⟩, h3⟩, ⟨h4, h5⟩, h6⟩; exact ⟨⟨by omega, by omega⟩, h3, h6⟩
theorem fitsL_take_false (l : List It) (k : Nat) (i dp : Int) (h : fitsL (l.take k) i dp = false) : fitsL l i dp = false := by
  have e : l = l.take k ++ l.drop k := (List.take_append_drop k l).symm
  rw [e]
  unfold fitsL at *
  rw [cnts_append, deps_append, longs_append]
  rw [Bool.eq_false_iff] at *
  intro hc
  apply h
  simp only [Bool.and_eq_true, decide_eq_true_eq, Bool.not_eq_true', Bool.or_eq_false_iff] at *
  exact ⟨⟨by omega, by omega⟩, hc.2.1⟩
theorem take_succ' {α : Type} (l : List α) (k : Nat) (x : α) (h : l[k]? = some x) : l.take (k + 1) = l.take k ++ [x] := by
  rw [List.take_add_one, h]; rfl
theorem mem_cnt {l : List It} {k : Nat} {x : It} (h : l[k]? = some x) : x.cnt ≤ cnts l := by
  have := take_succ' l k x h
  have e : l = l.take (k + 1) ++ l.drop (k + 1) := (List.take_append_drop _ l).symm
  rw [e, cnts_append, this, cnts_append, cnts_one]; omega
theorem fitsL_bounds {l : List It} {i dp : Int} (h : fitsL l i dp = true) : i + cnts l ≤ 4096 ∧ dp + deps l ≤ 13 := by
  simp only [fitsL, Bool.and_eq_true, decide_eq_true_eq] at h
  exact ⟨h.1.1, h.1.2⟩
theorem good_mk (k n : Int) (s : ByteArray) (l : List It) : (It.mk k n s l).good = (form k n s l.length && goods l) := by simp [It.good]
theorem cnt_mk (k n : Int) (s : ByteArray) (l : List It) : (It.mk k n s l).cnt = 1 + cnts l := by simp [It.cnt]
theorem fits_false {k n : Int} {s : ByteArray} {l : List It} {i dp : Int} (j : Nat) (x : It) (ht : l.take (j + 1) = l.take j ++ [x]) (hx : fits x (i + 1 + cnts (l.take j)) (dp + 1) = false) : fits (.mk k n s l) i dp = false := by
  have h1 : fitsL (l.take (j + 1)) (i + 1) (dp + 1) = false := by rw [ht, fitsL_snoc, hx, Bool.and_false]
  rw [fits_mk, fitsL_take_false l _ _ _ h1, Bool.and_false]
theorem fits_true {k n : Int} {s : ByteArray} {l : List It} {i dp : Int} (hi : i + 1 ≤ 4096) (hd : dp ≤ 12) (hs : k = 2 → s.size ≤ 4096) (hl : fitsL l (i + 1) (dp + 1) = true) : fits (.mk k n s l) i dp = true := by
  rw [fits_mk, hl, Bool.and_true]
  have : (k == 2 && decide (4096 < s.size)) = false := by
    by_cases h2 : k = 2
    · have := hs h2; simp [h2]; omega
    · simp [h2]
  rw [this]; simp [hi, hd]
theorem goods_take {l : List It} {j : Nat} {x : It} (ht : l.take (j + 1) = l.take j ++ [x]) (h : goods l = true) : x.good = true := by
  have e : l = l.take (j + 1) ++ l.drop (j + 1) := (List.take_append_drop _ l).symm
  rw [e, goods_append, ht, goods_append, goods_one] at h
  simp only [Bool.and_eq_true] at h
  exact h.1.2
theorem longs_take {l : List It} {j : Nat} {x : It} (ht : l.take (j + 1) = l.take j ++ [x]) (h : longs l = false) : x.long = false := by
  have e : l = l.take (j + 1) ++ l.drop (j + 1) := (List.take_append_drop _ l).symm
  rw [e, longs_append, ht, longs_append, longs_one] at h
  simp only [Bool.or_eq_false_iff] at h
  exact h.1.2
theorem encs_take {l : List It} {j : Nat} {x : It} (ht : l.take (j + 1) = l.take j ++ [x]) : (encs (l.take j)).length + x.enc.length ≤ (encs l).length := by
  have e : l = l.take (j + 1) ++ l.drop (j + 1) := (List.take_append_drop _ l).symm
  have : (encs l).length = (encs (l.take (j + 1) ++ l.drop (j + 1))).length := by rw [← e]
  rw [this, encs_append, ht, encs_append, encs_one]
  simp only [List.length_append]
  omega
end Go.Proofs.YtebacdegjmcnlaaGreat.Pl
/- Plain facts on reading bytes back. No program. -/
namespace Go.Proofs.YtebacdegjmcnlaaGreat.Pl
set_option linter.unusedVariables false
def val (l : List UInt8) : Nat := l.foldl (fun n b => n * 256 + b.toNat) 0
theorem val_snoc (l : List UInt8) (b : UInt8) : val (l ++ [b]) = val l * 256 + b.toNat := by simp [val]
theorem val_nil : val [] = 0 := rfl
theorem foldl_val (l : List UInt8) : ∀ a : Nat, l.foldl (fun n b => n * 256 + b.toNat) a = a * 256 ^ l.length + val l := by
  induction l with
  | nil => intro a; simp [val]
  | cons x r ih =>
    intro a
    simp only [List.foldl_cons, List.length_cons, val]
    rw [ih, ih (0 * 256 + x.toNat), Nat.pow_succ]
    have e : (a * 256 + x.toNat) * 256 ^ r.length = a * (256 ^ r.length * 256) + x.toNat * 256 ^ r.length := by
      rw [Nat.add_mul, Nat.mul_assoc, Nat.mul_comm 256]
    rw [e]
    simp only [Nat.zero_mul, Nat.zero_add]
    omega
theorem val_cons (x : UInt8) (r : List UInt8) : val (x :: r) = x.toNat * 256 ^ r.length + val r := by
  have := foldl_val r (0 * 256 + x.toNat)
  simp only [Nat.zero_mul, Nat.zero_add] at this
  simpa [val] using this
theorem val_lt (l : List UInt8) : val l < 256 ^ l.length := by
  induction l with
  | nil => simp [val]
  | cons x r ih =>
    rw [val_cons, List.length_cons, Nat.pow_succ]
    have hx : x.toNat < 256 := x.toNat_lt
    have : x.toNat * 256 ^ r.length ≤ 255 * 256 ^ r.length := Nat.mul_le_mul_right _ (by omega)
    omega
theorem be_val (l : List UInt8) : be l.length (val l) = l := by
  induction l with
  | nil => rfl
  | cons x r ih =>
    have hr := val_lt r
    have hx : x.toNat < 256 := x.toNat_lt
    rw [List.length_cons, be, val_cons]
    have hp : 0 < 256 ^ r.length := Nat.pow_pos (by omega)
    have e : (x.toNat * 256 ^ r.length + val r) / 256 ^ r.length = x.toNat := by
      rw [Nat.mul_comm, Nat.mul_add_div hp, Nat.div_eq_of_lt hr]; omega
    rw [e]
    have e2 : ∀ d m q, d ≤ q → be d (m * 256 ^ q + val r) = be d (val r) := by
      intro d
      induction d with
      | zero => intros; rfl
      | succ d ih2 =>
        intro m q hdq
        simp only [be]
        rw [ih2 m q (by omega)]
        congr 1
        apply UInt8.toNat_inj.1
        simp only [UInt8.toNat_ofNat']
        have h1 : 256 ^ q = 256 ^ d * (256 * 256 ^ (q - d - 1)) := by
          rw [← Nat.pow_succ', ← Nat.pow_add]; congr 1; omega
        rw [h1, show m * (256 ^ d * (256 * 256 ^ (q - d - 1))) = 256 ^ d * (256 * (m * 256 ^ (q - d - 1))) from by
          rw [← Nat.mul_assoc, Nat.mul_comm m, Nat.mul_assoc]; congr 1; rw [← Nat.mul_assoc, Nat.mul_comm m, Nat.mul_assoc]]
        rw [Nat.mul_add_div (Nat.pow_pos (by omega))]
        omega
    rw [e2 r.length _ r.length (Nat.le_refl _), ih]
    simp
theorem val_be : ∀ (d n : Nat), n < 256 ^ d → val (be d n) = n := by
  intro d
  induction d with
  | zero => intro n h; simp at h; subst h; rfl
  | succ d ih =>
    intro n h
    rw [be, val_cons, be_length]
    have hp : 0 < 256 ^ d := Nat.pow_pos (by omega)
    have h1 : n / 256 ^ d < 256 := by
      rw [Nat.div_lt_iff_lt_mul hp, Nat.mul_comm, ← Nat.pow_succ]; exact h
    have e : (UInt8.ofNat (n / 256 ^ d)).toNat = n / 256 ^ d := by rw [UInt8.toNat_ofNat', Nat.mod_eq_of_lt h1]
    have e2 : ∀ k m, k ≤ d → be k m = be k (m % 256 ^ d) := by
      intro k
      induction k with
      | zero => intros; rfl
      | succ k ih2 =>
        intro m hk
        simp only [be]
        rw [← ih2 m (by omega)]
        congr 1
        apply UInt8.toNat_inj.1
        simp only [UInt8.toNat_ofNat']
        have h3 : 256 ^ d = 256 ^ k * (256 * 256 ^ (d - k - 1)) := by
          rw [← Nat.pow_succ', ← Nat.pow_add]; congr 1; omega
        rw [h3, Nat.mod_mul_right_div_self, Nat.mod_mul_right_mod]
    rw [e, e2 d n (Nat.le_refl _), ih _ (Nat.mod_lt _ hp)]
    rw [Nat.mul_comm]; exact Nat.div_add_mod n _
theorem dgs_bounds (n : Nat) (h : n < 18446744073709551616) : n < 256 ^ dgs n ∧ (dgs n = 0 ∨ 256 ^ (dgs n - 1) ≤ n) := by
  unfold dgs
  repeat' split
  all_goals simp
  all_goals omega
theorem dgs_unique (n d : Nat) (hd : d ≤ 8) (h : n < 256 ^ d) (h2 : d = 0 ∨ 256 ^ (d - 1) ≤ n) : dgs n = d := by
  have hc : d = 0 ∨ d = 1 ∨ d = 2 ∨ d = 3 ∨ d = 4 ∨ d = 5 ∨ d = 6 ∨ d = 7 ∨ d = 8 := by omega
  unfold dgs
  rcases hc with rfl | rfl | rfl | rfl | rfl | rfl | rfl | rfl | rfl
  all_goals simp at h h2
  all_goals repeat' split
  all_goals omega
/-- the bytes of a number, read back -/
theorem cntB_val (ds : List UInt8) (h8 : ds.length ≤ 8) (h0 : ds[0]? ≠ some 0) : dgs (val ds) = ds.length ∧ val ds < 18446744073709551616 := by
  have hv := val_lt ds
  refine ⟨dgs_unique _ _ h8 hv ?_, ?_⟩
  · cases ds with
    | nil => exact .inl rfl
    | cons x r =>
      right
      have hx : x ≠ 0 := fun e => h0 (by simp [e])
      have hx' : 1 ≤ x.toNat := by
        rcases Nat.eq_zero_or_pos x.toNat with h | h
        · exact absurd (UInt8.toNat_inj.1 (by simpa using h)) hx
        · exact h
      rw [val_cons, List.length_cons, Nat.add_sub_cancel]
      have : 1 * 256 ^ r.length ≤ x.toNat * 256 ^ r.length := Nat.mul_le_mul_right _ hx'
      omega
  · exact Nat.lt_of_lt_of_le hv (Nat.le_trans (Nat.pow_le_pow_right (by omega) h8) (by decide))
theorem be_head (n : Nat) (h : n < 18446744073709551616) : (be (dgs n) n)[0]? ≠ some 0 := by
  obtain ⟨h1, h2⟩ := dgs_bounds n h
  have hd := dgs_le n
  rcases h2 with h2 | h2
  · rw [h2]; simp [be]
  · cases hdg : dgs n with
    | zero => simp [be]
    | succ d =>
      rw [hdg] at h1 h2
      simp only [Nat.add_sub_cancel] at h2
      simp only [be, List.getElem?_cons_zero, ne_eq, Option.some.injEq]
      intro e
      have hp : 0 < 256 ^ d := Nat.pow_pos (by omega)
      have h3 : n / 256 ^ d < 256 := by rw [Nat.div_lt_iff_lt_mul hp, Nat.mul_comm, ← Nat.pow_succ]; exact h1
      have h4 : 1 ≤ n / 256 ^ d := (Nat.one_le_div_iff hp).2 h2
      have h5 := congrArg UInt8.toNat e
      rw [UInt8.toNat_ofNat', Nat.mod_eq_of_lt h3] at h5
      simp at h5
      omega
def pcnt : List UInt8 → Option (Nat × List UInt8)
  | [] => none
  | d :: t => if 8 < d.toNat then none else if t.length < d.toNat then none else if (t.take d.toNat)[0]? = some 0 then none else some (val (t.take d.toNat), t.drop d.toNat)
theorem pcnt_of (n : Nat) (r : List UInt8) (h : n < 18446744073709551616) : pcnt (cntB n ++ r) = some (n, r) := by
  have hd := dgs_le n
  have hdn : (UInt8.ofNat (dgs n)).toNat = dgs n := by rw [UInt8.toNat_ofNat', Nat.mod_eq_of_lt (by omega)]
  have hl := be_length (dgs n) n
  show pcnt (UInt8.ofNat (dgs n) :: (be (dgs n) n ++ r)) = _
  rw [pcnt, hdn, if_neg (by omega), if_neg (by rw [List.length_append, hl]; omega)]
  have e1 : (be (dgs n) n ++ r).take (dgs n) = be (dgs n) n := by rw [List.take_append_of_le_length (by omega), List.take_of_length_le (by omega)]
  have e2 : (be (dgs n) n ++ r).drop (dgs n) = r := by rw [List.drop_append_of_le_length (by omega), List.drop_of_length_le (by omega)]; rfl
  rw [e1, e2, if_neg (be_head n h), val_be _ _ (dgs_bounds n h).1]
theorem of_pcnt {bs : List UInt8} {n : Nat} {r : List UInt8} (h : pcnt bs = some (n, r)) : n < 18446744073709551616 ∧ bs = cntB n ++ r := by
  cases bs with
  | nil => simp [pcnt] at h
  | cons d t =>
    rw [pcnt] at h
    by_cases h1 : 8 < d.toNat
    · rw [if_pos h1] at h; cases h
    rw [if_neg h1] at h
    by_cases h2 : t.length < d.toNat
    · rw [if_pos h2] at h; cases h
    rw [if_neg h2] at h
    by_cases h3 : (t.take d.toNat)[0]? = some 0
    · rw [if_pos h3] at h; cases h
    rw [if_neg h3] at h
    simp only [Option.some.injEq, Prod.mk.injEq] at h
    obtain ⟨rfl, rfl⟩ := h
    have hl : (t.take d.toNat).length = d.toNat := by rw [List.length_take]; omega
    obtain ⟨a1, a2⟩ := cntB_val _ (by omega) h3
    refine ⟨a2, ?_⟩
    have hb := be_val (t.take d.toNat)
    rw [hl] at a1 hb
    rw [cntB, a1, hb]
    simp
/-- the signed number of an unsigned one -/
def unfoldZ (n : Nat) : Int := if n % 2 = 0 then (n / 2 : Nat) else -((n / 2 : Nat) : Int) - 1
theorem foldN_unfoldZ (n : Nat) : foldN (unfoldZ n) = n := by
  unfold foldN unfoldZ; split <;> split <;> omega
theorem unfoldZ_foldN (n : Int) : unfoldZ (foldN n) = n := by
  unfold foldN unfoldZ; split <;> split <;> omega
theorem unfoldZ_range (n : Nat) (h : n < 18446744073709551616) : -9223372036854775808 ≤ unfoldZ n ∧ unfoldZ n ≤ 9223372036854775807 := by
  unfold unfoldZ; split <;> omega
theorem foldN_range (n : Int) (h : -9223372036854775808 ≤ n) (h2 : n ≤ 9223372036854775807) : foldN n < 18446744073709551616 := by
  unfold foldN; split <;> omega
def pmany (p : Nat → List UInt8 → Option (It × List UInt8 × Nat)) : Nat → Nat → List UInt8 → Option (List It × List UInt8 × Nat)
  | 0, left, bs => some ([], bs, left)
  | n + 1, left, bs => match p left bs with
    | none => none
    | some (t, r, left') => match pmany p n left' r with
      | none => none
      | some (l, r', left'') => some (t :: l, r', left'')
/-- an item read off the bytes: f levels may be used, left items may be announced -/
def pit : Nat → Nat → List UInt8 → Option (It × List UInt8 × Nat)
  | 0, _, _ => none
  | _ + 1, _, [] => none
  | f + 1, left, k :: t =>
    if k = 1 then match pcnt t with
      | none => none
      | some (n, r) => some (.mk 1 (unfoldZ n) ⟨#[]⟩ [], r, left)
    else if k = 2 then match pcnt t with
      | none => none
      | some (n, r) => if 4096 < n then none else if r.length < n then none else some (.mk 2 0 ⟨(r.take n).toArray⟩ [], r.drop n, left)
    else if k = 3 then match pcnt t with
      | none => none
      | some (n, r) => if left < n then none else match pmany (pit f) n (left - n) r with
        | none => none
        | some (l, r', left') => some (.mk 3 0 ⟨#[]⟩ l, r', left')
    else none
mutual
/-- an item that may be, its depth and number aside -/
def It.ok : It → Bool
  | .mk k n s l => form k n s l.length && decide (k = 1 → -9223372036854775808 ≤ n ∧ n ≤ 9223372036854775807) && decide (k = 2 → s.size ≤ 4096) && decide (l.length < 18446744073709551616) && oks l
def oks : List It → Bool
  | [] => true
  | x :: r => x.ok && oks r
end
theorem size_zero {s : ByteArray} (h : s.size = 0) : s = ⟨#[]⟩ := by
  obtain ⟨⟨l⟩⟩ := s
  have : l = [] := List.eq_nil_of_length_eq_zero h
  subst this; rfl
theorem size_data (s : ByteArray) : s.data.toList.length = s.size := by simp only [Array.length_toList]; rfl
/-- what stands behind an item that may be is read off just so -/
def Back (f : Nat) : Prop := ∀ (t : It) (r : List UInt8) (left : Nat), t.ok = true → t.dep ≤ f → t.cnt ≤ left + 1 → pit f left (t.enc ++ r) = some (t, r, left + 1 - t.cnt)
theorem pmany_of (f : Nat) (hf : Back f) : ∀ (l : List It) (r : List UInt8) (left : Nat), oks l = true → deps l ≤ f → cnts l ≤ left + l.length →
    pmany (pit f) l.length left (encs l ++ r) = some (l, r, left + l.length - cnts l) := by
  intro l
  induction l with
  | nil => intro r left _ _ _; simp [pmany, encs, cnts]
  | cons x l ih =>
    intro r left ho hd hc
    simp only [oks, Bool.and_eq_true] at ho
    simp only [deps] at hd
    simp only [cnts, List.length_cons] at hc
    have hp := cnt_pos x
    have hle : l.length ≤ cnts l := by
      clear ih ho hd hc
      induction l with
      | nil => simp
      | cons y l ih => have := cnt_pos y; simp only [cnts, List.length_cons]; omega
    rw [List.length_cons, encs, List.append_assoc, pmany, hf x (encs l ++ r) left ho.1 (by omega) (by omega)]
    simp only []
    rw [ih r (left + 1 - x.cnt) ho.2 (by omega) (by omega)]
    simp only [cnts, Option.some.injEq, Prod.mk.injEq, true_and]
    omega
theorem pit_of : ∀ f, Back f := by
  intro f
  induction f with
  | zero => intro t r left _ hd; have := dep_pos t; omega
  | succ f ih =>
    intro t r left ho hd hc
    obtain ⟨k, n, s, l⟩ := t
    simp only [It.ok, Bool.and_eq_true, decide_eq_true_eq] at ho
    obtain ⟨⟨⟨⟨h1, h2⟩, h3⟩, h4⟩, h5⟩ := ho
    simp only [It.dep] at hd
    simp only [It.cnt] at hc
    simp only [form, Bool.or_eq_true, Bool.and_eq_true, beq_iff_eq] at h1
    rcases h1 with (⟨⟨rfl, a2⟩, a3⟩ | ⟨⟨rfl, rfl⟩, a3⟩) | ⟨⟨rfl, rfl⟩, a3⟩
    · obtain rfl : l = [] := List.eq_nil_of_length_eq_zero a3
      obtain rfl := size_zero a2
      have hr := h2 rfl
      have he : (It.mk 1 n ⟨#[]⟩ []).enc = 1 :: cntB (foldN n) := by simp [It.enc]
      rw [he, List.cons_append, pit, if_pos rfl, pcnt_of _ _ (foldN_range n hr.1 hr.2)]
      simp [unfoldZ_foldN, It.cnt, cnts]
    · obtain rfl : l = [] := List.eq_nil_of_length_eq_zero a3
      have hs := h3 rfl
      have he : (It.mk 2 0 s []).enc = 2 :: (cntB s.size ++ s.data.toList) := by simp [It.enc]
      rw [he, List.cons_append, List.append_assoc, pit, if_neg (by decide), if_pos rfl, pcnt_of _ _ (by omega)]
      simp only []
      rw [if_neg (by omega), if_neg (by rw [List.length_append, size_data]; omega)]
      have e1 : (s.data.toList ++ r).take s.size = s.data.toList := by rw [List.take_append_of_le_length (by rw [size_data]; omega), List.take_of_length_le (by rw [size_data]; omega)]
      have e2 : (s.data.toList ++ r).drop s.size = r := by rw [List.drop_append_of_le_length (by rw [size_data]; omega), List.drop_of_length_le (by rw [size_data]; omega)]; rfl
      rw [e1, e2]
      simp [It.cnt, cnts]
    · obtain rfl := size_zero a3
      have he : (It.mk 3 0 ⟨#[]⟩ l).enc = 3 :: (cntB l.length ++ encs l) := by simp [It.enc]
      rw [he, List.cons_append, List.append_assoc, pit, if_neg (by decide), if_neg (by decide), if_pos rfl, pcnt_of _ _ h4]
      simp only []
      have hle : l.length ≤ cnts l := by
        clear ih h2 h3 h4 h5 hd hc he
        induction l with
        | nil => simp
        | cons y l ih => have := cnt_pos y; simp only [cnts, List.length_cons]; omega
      rw [if_neg (by omega), pmany_of f ih l r (left - l.length) h5 (by omega) (by omega)]
      simp only [It.cnt, Option.some.injEq, Prod.mk.injEq, true_and]
      omega
/-- what is read off is an item that may be, whose bytes these are -/
def Forth (f : Nat) : Prop := ∀ (bs : List UInt8) (left : Nat) (t : It) (r : List UInt8) (left' : Nat), pit f left bs = some (t, r, left') →
  t.ok = true ∧ t.dep ≤ f ∧ t.cnt ≤ left + 1 ∧ left' = left + 1 - t.cnt ∧ bs = t.enc ++ r
theorem of_pmany (f : Nat) (hf : Forth f) : ∀ (n : Nat) (bs : List UInt8) (left : Nat) (l : List It) (r : List UInt8) (left' : Nat), pmany (pit f) n left bs = some (l, r, left') →
    l.length = n ∧ oks l = true ∧ deps l ≤ f ∧ cnts l ≤ left + n ∧ left' = left + n - cnts l ∧ bs = encs l ++ r := by
  intro n
  induction n with
  | zero =>
    intro bs left l r left' h
    simp only [pmany, Option.some.injEq, Prod.mk.injEq] at h
    obtain ⟨rfl, rfl, rfl⟩ := h
    simp [oks, deps, cnts, encs]
  | succ n ih =>
    intro bs left l r left' h
    rw [pmany] at h
    cases hp : pit f left bs with
    | none => rw [hp] at h; cases h
    | some x =>
      obtain ⟨t, r1, left1⟩ := x
      rw [hp] at h
      simp only [] at h
      obtain ⟨a1, a2, a3, a4, a5⟩ := hf bs left t r1 left1 hp
      cases hm : pmany (pit f) n left1 r1 with
      | none => rw [hm] at h; cases h
      | some y =>
        obtain ⟨l2, r2, left2⟩ := y
        rw [hm] at h
        simp only [Option.some.injEq, Prod.mk.injEq] at h
        obtain ⟨rfl, rfl, rfl⟩ := h
        obtain ⟨b1, b2, b3, b4, b5, b6⟩ := ih r1 left1 l2 r2 left2 hm
        have hp1 := cnt_pos t
        refine ⟨by simp [b1], by simp [oks, a1, b2], by simp only [deps]; omega, by simp only [cnts]; omega, by simp only [cnts]; omega, ?_⟩
        rw [a5, b6, encs, List.append_assoc]
theorem of_pit : ∀ f, Forth f := by
  intro f
  induction f with
  | zero => intro bs left t r left' h; simp [pit] at h
  | succ f ih =>
    intro bs left t r left' h
    cases bs with
    | nil => simp [pit] at h
    | cons k bs =>
      rw [pit] at h
      by_cases k1 : k = 1
      · subst k1
        rw [if_pos rfl] at h
        cases hp : pcnt bs with
        | none => rw [hp] at h; cases h
        | some x =>
          obtain ⟨n, r1⟩ := x
          rw [hp] at h
          simp only [Option.some.injEq, Prod.mk.injEq] at h
          obtain ⟨rfl, rfl, rfl⟩ := h
          obtain ⟨c1, c2⟩ := of_pcnt hp
          have hr := unfoldZ_range n c1
          refine ⟨?_, by simp [It.dep, deps], by simp [It.cnt, cnts], by simp [It.cnt, cnts], ?_⟩
          · simp [It.ok, form, oks, hr]; rfl
          · rw [c2]; simp [It.enc, foldN_unfoldZ]
      rw [if_neg k1] at h
      by_cases k2 : k = 2
      · subst k2
        rw [if_pos rfl] at h
        cases hp : pcnt bs with
        | none => rw [hp] at h; cases h
        | some x =>
          obtain ⟨n, r1⟩ := x
          rw [hp] at h
          simp only [] at h
          by_cases q1 : 4096 < n
          · rw [if_pos q1] at h; cases h
          rw [if_neg q1] at h
          by_cases q2 : r1.length < n
          · rw [if_pos q2] at h; cases h
          rw [if_neg q2] at h
          simp only [Option.some.injEq, Prod.mk.injEq] at h
          obtain ⟨rfl, rfl, rfl⟩ := h
          obtain ⟨c1, c2⟩ := of_pcnt hp
          have hsz : (⟨(r1.take n).toArray⟩ : ByteArray).size = n := by rw [← size_data]; simp; omega
          refine ⟨?_, by simp [It.dep, deps], by simp [It.cnt, cnts], by simp [It.cnt, cnts], ?_⟩
          · simp [It.ok, form, oks, hsz]; omega
          · rw [c2]; simp [It.enc, hsz]
      rw [if_neg k2] at h
      by_cases k3 : k = 3
      · subst k3
        rw [if_pos rfl] at h
        cases hp : pcnt bs with
        | none => rw [hp] at h; cases h
        | some x =>
          obtain ⟨n, r1⟩ := x
          rw [hp] at h
          simp only [] at h
          by_cases q1 : left < n
          · rw [if_pos q1] at h; cases h
          rw [if_neg q1] at h
          cases hm : pmany (pit f) n (left - n) r1 with
          | none => rw [hm] at h; cases h
          | some y =>
            obtain ⟨l2, r2, left2⟩ := y
            rw [hm] at h
            simp only [Option.some.injEq, Prod.mk.injEq] at h
            obtain ⟨rfl, rfl, rfl⟩ := h
            obtain ⟨b1, b2, b3, b4, b5, b6⟩ := of_pmany f ih n r1 (left - n) l2 r2 left2 hm
            obtain ⟨c1, c2⟩ := of_pcnt hp
            refine ⟨?_, by simp only [It.dep]; omega, by simp only [It.cnt]; omega, by simp only [It.cnt]; omega, ?_⟩
            · simp only [It.ok, form, b2, b1]
              have hz : (⟨#[]⟩ : ByteArray).size = 0 := rfl
              simp [hz, c1]
            · rw [c2, b6]; simp [It.enc, b1]
      rw [if_neg k3] at h
      cases h
/-- the whole of the bytes -/
def dec (bs : List UInt8) : Option It :=
  match pit 12 4095 bs with
  | none => none
  | some (t, r, _) => if r = [] then some t else none
theorem dec_iff (bs : List UInt8) (t : It) : dec bs = some t ↔ t.ok = true ∧ t.dep ≤ 12 ∧ t.cnt ≤ 4096 ∧ bs = t.enc := by
  constructor
  · intro h
    unfold dec at h
    cases hp : pit 12 4095 bs with
    | none => rw [hp] at h; cases h
    | some x =>
      obtain ⟨t1, r, l⟩ := x
      rw [hp] at h
      simp only [] at h
      by_cases hr : r = []
      · rw [if_pos hr] at h
        simp only [Option.some.injEq] at h
        subst h hr
        obtain ⟨a1, a2, a3, a4, a5⟩ := of_pit 12 bs 4095 _ _ _ hp
        exact ⟨a1, a2, by omega, by simpa using a5⟩
      · rw [if_neg hr] at h; cases h
  · rintro ⟨a1, a2, a3, rfl⟩
    have := pit_of 12 t [] 4095 a1 a2 (by omega)
    rw [List.append_nil] at this
    unfold dec
    rw [this]
    simp
theorem own_le (k n : Int) (s : ByteArray) (m : Nat) (h : k = 2 → s.size ≤ 4096) : own k n s m ≤ 4200 := by
  have a := dgs_le (foldN n)
  have b := dgs_le s.size
  have c := dgs_le m
  unfold own
  split
  · omega
  · split
    · have := h ‹_›; omega
    · omega
mutual
theorem enc_le : ∀ (t : It), t.good = true → t.long = false → t.enc.length ≤ 4200 * t.cnt
  | .mk k n s l, hg, hl => by
    rw [good_mk, Bool.and_eq_true] at hg
    simp only [It.long, Bool.or_eq_false_iff] at hl
    have h2 := encs_le l hg.2 hl.2
    have h1 := own_le k n s l.length (fun e => by subst e; have := hl.1; simp at this; omega)
    rw [enc_length hg.1, cnt_mk]
    omega
theorem encs_le : ∀ (l : List It), goods l = true → longs l = false → (encs l).length ≤ 4200 * cnts l
  | [], _, _ => by simp [encs]
  | x :: r, hg, hl => by
    simp only [goods, Bool.and_eq_true] at hg
    simp only [longs, Bool.or_eq_false_iff] at hl
    have h1 := enc_le x hg.1 hl.1
    have h2 := encs_le r hg.2 hl.2
    simp only [encs, cnts, List.length_append]
    omega
end
end Go.Proofs.YtebacdegjmcnlaaGreat.Pl
/- Plain facts on reading bytes back, the items counted one by one. No program. -/
namespace Go.Proofs.YtebacdegjmcnlaaGreat.Pl
set_option linter.unusedVariables false
/-- an item read off the bytes: f levels may be used, left items may come -/
def qit : Nat → Nat → List UInt8 → Option (It × List UInt8 × Nat)
  | 0, _, _ => none
  | _ + 1, 0, _ => none
  | _ + 1, _ + 1, [] => none
  | f + 1, left + 1, k :: t =>
    if k = 1 then match pcnt t with
      | none => none
      | some (n, r) => some (.mk 1 (unfoldZ n) ⟨#[]⟩ [], r, left)
    else if k = 2 then match pcnt t with
      | none => none
      | some (n, r) => if 4096 < n then none else if r.length < n then none else some (.mk 2 0 ⟨(r.take n).toArray⟩ [], r.drop n, left)
    else if k = 3 then match pcnt t with
      | none => none
      | some (n, r) => if 4096 < n then none else match pmany (qit f) n left r with
        | none => none
        | some (l, r', left') => some (.mk 3 0 ⟨#[]⟩ l, r', left')
    else none
theorem len_cnts (l : List It) : l.length ≤ cnts l := by
  induction l with
  | nil => simp
  | cons y l ih => have := cnt_pos y; simp only [cnts, List.length_cons]; omega
def BackQ (f : Nat) : Prop := ∀ (t : It) (r : List UInt8) (left : Nat), t.ok = true → t.dep ≤ f → t.cnt ≤ left → left ≤ 4096 → qit f left (t.enc ++ r) = some (t, r, left - t.cnt)
theorem qmany_of (f : Nat) (hf : BackQ f) : ∀ (l : List It) (r : List UInt8) (left : Nat), oks l = true → deps l ≤ f → cnts l ≤ left → left ≤ 4096 →
    pmany (qit f) l.length left (encs l ++ r) = some (l, r, left - cnts l) := by
  intro l
  induction l with
  | nil => intro r left _ _ _ _; simp [pmany, encs, cnts]
  | cons x l ih =>
    intro r left ho hd hc hl
    simp only [oks, Bool.and_eq_true] at ho
    simp only [deps] at hd
    simp only [cnts] at hc
    rw [List.length_cons, encs, List.append_assoc, pmany, hf x (encs l ++ r) left ho.1 (by omega) (by omega) hl]
    simp only []
    rw [ih r (left - x.cnt) ho.2 (by omega) (by omega) (by omega)]
    simp only [cnts, Option.some.injEq, Prod.mk.injEq, true_and]
    omega
theorem qit_of : ∀ f, BackQ f := by
  intro f
  induction f with
  | zero => intro t r left _ hd; have := dep_pos t; omega
  | succ f ih =>
    intro t r left ho hd hc hl
    have hcp := cnt_pos t
    obtain ⟨left, rfl⟩ : ∃ m, left = m + 1 := ⟨left - 1, by omega⟩
    obtain ⟨k, n, s, l⟩ := t
    simp only [It.ok, Bool.and_eq_true, decide_eq_true_eq] at ho
    obtain ⟨⟨⟨⟨h1, h2⟩, h3⟩, h4⟩, h5⟩ := ho
    simp only [It.dep] at hd
    simp only [It.cnt] at hc
    simp only [form, Bool.or_eq_true, Bool.and_eq_true, beq_iff_eq] at h1
    rcases h1 with (⟨⟨rfl, a2⟩, a3⟩ | ⟨⟨rfl, rfl⟩, a3⟩) | ⟨⟨rfl, rfl⟩, a3⟩
    · obtain rfl : l = [] := List.eq_nil_of_length_eq_zero a3
      obtain rfl := size_zero a2
      have hr := h2 rfl
      have he : (It.mk 1 n ⟨#[]⟩ []).enc = 1 :: cntB (foldN n) := by simp [It.enc]
      rw [he, List.cons_append, qit, if_pos rfl, pcnt_of _ _ (foldN_range n hr.1 hr.2)]
      simp [unfoldZ_foldN, It.cnt, cnts]
    · obtain rfl : l = [] := List.eq_nil_of_length_eq_zero a3
      have hs := h3 rfl
      have he : (It.mk 2 0 s []).enc = 2 :: (cntB s.size ++ s.data.toList) := by simp [It.enc]
      rw [he, List.cons_append, List.append_assoc, qit, if_neg (by decide), if_pos rfl, pcnt_of _ _ (by omega)]
      simp only []
      rw [if_neg (by omega), if_neg (by rw [List.length_append, size_data]; omega)]
      have e1 : (s.data.toList ++ r).take s.size = s.data.toList := by rw [List.take_append_of_le_length (by rw [size_data]; omega), List.take_of_length_le (by rw [size_data]; omega)]
      have e2 : (s.data.toList ++ r).drop s.size = r := by rw [List.drop_append_of_le_length (by rw [size_data]; omega), List.drop_of_length_le (by rw [size_data]; omega)]; rfl
      rw [e1, e2]
      simp [It.cnt, cnts]
    · obtain rfl := size_zero a3
      have he : (It.mk 3 0 ⟨#[]⟩ l).enc = 3 :: (cntB l.length ++ encs l) := by simp [It.enc]
      have hle := len_cnts l
      rw [he, List.cons_append, List.append_assoc, qit, if_neg (by decide), if_neg (by decide), if_pos rfl, pcnt_of _ _ h4]
      simp only []
      rw [if_neg (by omega), qmany_of f ih l r left h5 (by omega) (by omega) (by omega)]
      simp only [It.cnt, Option.some.injEq, Prod.mk.injEq, true_and]
      omega
def ForthQ (f : Nat) : Prop := ∀ (bs : List UInt8) (left : Nat) (t : It) (r : List UInt8) (left' : Nat), qit f left bs = some (t, r, left') →
  t.ok = true ∧ t.dep ≤ f ∧ t.cnt ≤ left ∧ left' = left - t.cnt ∧ bs = t.enc ++ r
theorem of_qmany (f : Nat) (hf : ForthQ f) : ∀ (n : Nat) (bs : List UInt8) (left : Nat) (l : List It) (r : List UInt8) (left' : Nat), pmany (qit f) n left bs = some (l, r, left') →
    l.length = n ∧ oks l = true ∧ deps l ≤ f ∧ cnts l ≤ left ∧ left' = left - cnts l ∧ bs = encs l ++ r := by
  intro n
  induction n with
  | zero =>
    intro bs left l r left' h
    simp only [pmany, Option.some.injEq, Prod.mk.injEq] at h
    obtain ⟨rfl, rfl, rfl⟩ := h
    simp [oks, deps, cnts, encs]
  | succ n ih =>
    intro bs left l r left' h
    rw [pmany] at h
    cases hp : qit f left bs with
    | none => rw [hp] at h; cases h
    | some x =>
      obtain ⟨t, r1, left1⟩ := x
      rw [hp] at h
      simp only [] at h
      obtain ⟨a1, a2, a3, a4, a5⟩ := hf bs left t r1 left1 hp
      cases hm : pmany (qit f) n left1 r1 with
      | none => rw [hm] at h; cases h
      | some y =>
        obtain ⟨l2, r2, left2⟩ := y
        rw [hm] at h
        simp only [Option.some.injEq, Prod.mk.injEq] at h
        obtain ⟨rfl, rfl, rfl⟩ := h
        obtain ⟨b1, b2, b3, b4, b5, b6⟩ := ih r1 left1 l2 r2 left2 hm
        refine ⟨by simp [b1], by simp [oks, a1, b2], by simp only [deps]; omega, by simp only [cnts]; omega, by simp only [cnts]; omega, ?_⟩
        rw [a5, b6, encs, List.append_assoc]
theorem of_qit : ∀ f, ForthQ f := by
  intro f
  induction f with
  | zero => intro bs left t r left' h; simp [qit] at h
  | succ f ih =>
    intro bs left t r left' h
    cases left with
    | zero => simp [qit] at h
    | succ left =>
    cases bs with
    | nil => simp [qit] at h
    | cons k bs =>
      rw [qit] at h
      by_cases k1 : k = 1
      · subst k1
        rw [if_pos rfl] at h
        cases hp : pcnt bs with
        | none => rw [hp] at h; cases h
        | some x =>
          obtain ⟨n, r1⟩ := x
          rw [hp] at h
          simp only [Option.some.injEq, Prod.mk.injEq] at h
          obtain ⟨rfl, rfl, rfl⟩ := h
          obtain ⟨c1, c2⟩ := of_pcnt hp
          have hr := unfoldZ_range n c1
          refine ⟨?_, by simp [It.dep, deps], by simp [It.cnt, cnts], by simp [It.cnt, cnts], ?_⟩
          · simp [It.ok, form, oks, hr]; rfl
          · rw [c2]; simp [It.enc, foldN_unfoldZ]
      rw [if_neg k1] at h
      by_cases k2 : k = 2
      · subst k2
        rw [if_pos rfl] at h
        cases hp : pcnt bs with
        | none => rw [hp] at h; cases h
        | some x =>
          obtain ⟨n, r1⟩ := x
          rw [hp] at h
          simp only [] at h
          by_cases q1 : 4096 < n
          · rw [if_pos q1] at h; cases h
          rw [if_neg q1] at h
          by_cases q2 : r1.length < n
          · rw [if_pos q2] at h; cases h
          rw [if_neg q2] at h
          simp only [Option.some.injEq, Prod.mk.injEq] at h
          obtain ⟨rfl, rfl, rfl⟩ := h
          obtain ⟨c1, c2⟩ := of_pcnt hp
          have hsz : (⟨(r1.take n).toArray⟩ : ByteArray).size = n := by rw [← size_data]; simp; omega
          refine ⟨?_, by simp [It.dep, deps], by simp [It.cnt, cnts], by simp [It.cnt, cnts], ?_⟩
          · simp [It.ok, form, oks, hsz]; omega
          · rw [c2]; simp [It.enc, hsz]
      rw [if_neg k2] at h
      by_cases k3 : k = 3
      · subst k3
        rw [if_pos rfl] at h
        cases hp : pcnt bs with
        | none => rw [hp] at h; cases h
        | some x =>
          obtain ⟨n, r1⟩ := x
          rw [hp] at h
          simp only [] at h
          by_cases q1 : 4096 < n
          · rw [if_pos q1] at h; cases h
          rw [if_neg q1] at h
          cases hm : pmany (qit f) n left r1 with
          | none => rw [hm] at h; cases h
          | some y =>
            obtain ⟨l2, r2, left2⟩ := y
            rw [hm] at h
            simp only [Option.some.injEq, Prod.mk.injEq] at h
            obtain ⟨rfl, rfl, rfl⟩ := h
            obtain ⟨b1, b2, b3, b4, b5, b6⟩ := of_qmany f ih n r1 left l2 r2 left2 hm
            obtain ⟨c1, c2⟩ := of_pcnt hp
            refine ⟨?_, by simp only [It.dep]; omega, by simp only [It.cnt]; omega, by simp only [It.cnt]; omega, ?_⟩
            · simp only [It.ok, form, b2, b1]
              have hz : (⟨#[]⟩ : ByteArray).size = 0 := rfl
              simp [hz, c1]
            · rw [c2, b6]; simp [It.enc, b1]
      rw [if_neg k3] at h
      cases h
def qdec (bs : List UInt8) : Option It :=
  match qit 12 4096 bs with
  | none => none
  | some (t, r, _) => if r = [] then some t else none
theorem qdec_iff (bs : List UInt8) (t : It) : qdec bs = some t ↔ t.ok = true ∧ t.dep ≤ 12 ∧ t.cnt ≤ 4096 ∧ bs = t.enc := by
  constructor
  · intro h
    unfold qdec at h
    cases hp : qit 12 4096 bs with
    | none => rw [hp] at h; cases h
    | some x =>
      obtain ⟨t1, r, l⟩ := x
      rw [hp] at h
      simp only [] at h
      by_cases hr : r = []
      · rw [if_pos hr] at h
        simp only [Option.some.injEq] at h
        subst h hr
        obtain ⟨a1, a2, a3, a4, a5⟩ := of_qit 12 bs 4096 _ _ _ hp
        exact ⟨a1, a2, by omega, by simpa using a5⟩
      · rw [if_neg hr] at h; cases h
  · rintro ⟨a1, a2, a3, rfl⟩
    have := qit_of 12 t [] 4096 a1 a2 (by omega) (by omega)
    rw [List.append_nil] at this
    unfold qdec
    rw [this]
    simp
theorem qdec_eq (bs : List UInt8) : qdec bs = dec bs := by
  cases hd : dec bs with
  | some t => exact (qdec_iff bs t).2 ((dec_iff bs t).1 hd)
  | none =>
    cases hq : qdec bs with
    | none => rfl
    | some t => rw [(dec_iff bs t).2 ((qdec_iff bs t).1 hq)] at hd; cases hd
end Go.Proofs.YtebacdegjmcnlaaGreat.Pl
