/- Plain facts on the wire format: bytes of counts, trees of items, their encodings. No program. -/
namespace Go.Proofs.Ytnnakfhkejdfcaa.Pl

/-- how many bytes a number has, without leading zero bytes -/
def dgs (n : Nat) : Nat :=
  if n < 1 then 0 else if n < 256 then 1 else if n < 65536 then 2 else if n < 16777216 then 3 else if n < 4294967296 then 4
  else if n < 1099511627776 then 5 else if n < 281474976710656 then 6 else if n < 72057594037927936 then 7 else 8

theorem dgs_le (n : Nat) : dgs n ≤ 8 := by
  unfold dgs
  repeat' split
  all_goals omega

/-- the last d bytes, the greatest first -/
def be : Nat → Nat → List UInt8
  | 0, _ => []
  | d + 1, n => UInt8.ofNat (n / 256 ^ d) :: be d n

theorem be_length (d n : Nat) : (be d n).length = d := by
  induction d with
  | zero => rfl
  | succ d ih => simp [be, ih]

def cntB (n : Nat) : List UInt8 := UInt8.ofNat (dgs n) :: be (dgs n) n

theorem cntB_length (n : Nat) : (cntB n).length = 1 + dgs n := by simp [cntB, be_length]; omega

/-- the unsigned number of a signed one -/
def foldN (n : Int) : Nat := if n < 0 then (-2 * n - 1).toNat else (2 * n).toNat

inductive It where
  | mk (k n : Int) (s : ByteArray) (l : List It)

mutual
def It.cnt : It → Nat
  | .mk _ _ _ l => 1 + cnts l
def cnts : List It → Nat
  | [] => 0
  | x :: r => x.cnt + cnts r
end
mutual
def It.dep : It → Nat
  | .mk _ _ _ l => 1 + deps l
def deps : List It → Nat
  | [] => 0
  | x :: r => max x.dep (deps r)
end
mutual
def It.long : It → Bool
  | .mk k _ s l => (k == 2 && decide (4096 < s.size)) || longs l
def longs : List It → Bool
  | [] => false
  | x :: r => x.long || longs r
end
def form (k n : Int) (s : ByteArray) (m : Nat) : Bool :=
  (k == 1 && s.size == 0 && m == 0) || (k == 2 && n == 0 && m == 0) || (k == 3 && n == 0 && s.size == 0)
mutual
def It.good : It → Bool
  | .mk k n s l => form k n s l.length && goods l
def goods : List It → Bool
  | [] => true
  | x :: r => x.good && goods r
end
mutual
def It.enc : It → List UInt8
  | .mk k n s l => if k = 1 then 1 :: cntB (foldN n) else if k = 2 then 2 :: (cntB s.size ++ s.data.toList) else 3 :: (cntB l.length ++ encs l)
def encs : List It → List UInt8
  | [] => []
  | x :: r => x.enc ++ encs r
end

/-- the library's table of lengths of bytes -/
def tab : ByteArray := ⟨#[0,1,2,2,3,3,3,3,4,4,4,4,4,4,4,4,5,5,5,5,5,5,5,5,5,5,5,5,5,5,5,5,6,6,6,6,6,6,6,6,6,6,6,6,6,6,6,6,6,6,6,6,6,6,6,6,6,6,6,6,6,6,6,6,7,7,7,7,7,7,7,7,7,7,7,7,7,7,7,7,7,7,7,7,7,7,7,7,7,7,7,7,7,7,7,7,7,7,7,7,7,7,7,7,7,7,7,7,7,7,7,7,7,7,7,7,7,7,7,7,7,7,7,7,7,7,7,7,8,8,8,8,8,8,8,8,8,8,8,8,8,8,8,8,8,8,8,8,8,8,8,8,8,8,8,8,8,8,8,8,8,8,8,8,8,8,8,8,8,8,8,8,8,8,8,8,8,8,8,8,8,8,8,8,8,8,8,8,8,8,8,8,8,8,8,8,8,8,8,8,8,8,8,8,8,8,8,8,8,8,8,8,8,8,8,8,8,8,8,8,8,8,8,8,8,8,8,8,8,8,8,8,8,8,8,8,8,8,8,8,8,8,8,8,8,8,8,8,8,8,8,8,8,8,8,8]⟩
theorem tab_size : tab.size = 256 := by decide +kernel
theorem tab_ok : ∀ k : Fin 256, tab[k.val]!.toNat ≤ 8 ∧ (tab[k.val]!.toNat = 0 ↔ k.val = 0) := by decide +kernel
theorem tab_at (k : Nat) (h : k < tab.size) : (tab[k]'h).toNat ≤ 8 ∧ ((tab[k]'h).toNat = 0 ↔ k = 0) := by
  have h' : k < 256 := by rw [← tab_size]; exact h
  have := tab_ok ⟨k, h'⟩
  simpa [getElem!_pos tab k h] using this

theorem be_get (d n j : Nat) (hj : j < d) : (be d n)[j]? = some (UInt8.ofNat (n / 256 ^ (d - 1 - j))) := by
  induction d generalizing j with
  | zero => omega
  | succ d ih =>
    cases j with
    | zero => simp [be]
    | succ j =>
      simp only [be, List.getElem?_cons_succ]
      rw [ih j (by omega)]
      congr 4
      omega
theorem be_take_succ (d n j : Nat) (hj : j < d) : (be d n).take (j + 1) = (be d n).take j ++ [UInt8.ofNat (n / 256 ^ (d - 1 - j))] := by
  rw [List.take_add_one, be_get d n j hj]; rfl
theorem shift_byte (c : Int) (h : 0 ≤ c) (e : Nat) : UInt8.ofNat (c / 2 ^ (8 * e) % 256).toNat = UInt8.ofNat (c.toNat / 256 ^ e) := by
  obtain ⟨m, rfl⟩ := Int.eq_ofNat_of_zero_le h
  have h2 : ((2 : Int) ^ (8 * e)) = ((256 ^ e : Nat) : Int) := by
    rw [Int.pow_mul]; norm_cast
  rw [h2]
  have h3 : ((m : Int) / ((256 ^ e : Nat) : Int) % 256).toNat = m / 256 ^ e % 256 := by
    rw [← Int.natCast_ediv]; omega
  rw [h3, Int.toNat_natCast]
  apply UInt8.toNat_inj.1
  simp

theorem cnts_append (a b : List It) : cnts (a ++ b) = cnts a + cnts b := by
  induction a with
  | nil => simp [cnts]
  | cons x r ih => simp [cnts, ih]; omega
theorem deps_append (a b : List It) : deps (a ++ b) = max (deps a) (deps b) := by
  induction a with
  | nil => simp [deps]
  | cons x r ih => simp [deps, ih, Nat.max_assoc]
theorem longs_append (a b : List It) : longs (a ++ b) = (longs a || longs b) := by
  induction a with
  | nil => simp [longs]
  | cons x r ih => simp [longs, ih, Bool.or_assoc]
theorem goods_append (a b : List It) : goods (a ++ b) = (goods a && goods b) := by
  induction a with
  | nil => simp [goods]
  | cons x r ih => simp [goods, ih, Bool.and_assoc]
theorem encs_append (a b : List It) : encs (a ++ b) = encs a ++ encs b := by
  induction a with
  | nil => simp [encs]
  | cons x r ih => simp [encs, ih]
theorem cnts_one (x : It) : cnts [x] = x.cnt := by simp [cnts]
theorem deps_one (x : It) : deps [x] = x.dep := by simp [deps]
theorem longs_one (x : It) : longs [x] = x.long := by simp [longs]
theorem goods_one (x : It) : goods [x] = x.good := by simp [goods]
theorem encs_one (x : It) : encs [x] = x.enc := by simp [encs]
theorem cnt_pos (t : It) : 1 ≤ t.cnt := by cases t; simp [It.cnt]
theorem dep_pos (t : It) : 1 ≤ t.dep := by cases t; simp [It.dep]

def fits (t : It) (i dp : Int) : Bool := decide (i + t.cnt ≤ 4096) && decide (dp + t.dep ≤ 13) && !t.long
/-- so far all fit: of a list's first ones -/
def fitsL (l : List It) (i dp : Int) : Bool := decide (i + cnts l ≤ 4096) && decide (dp + deps l ≤ 13) && !longs l

def own (k n : Int) (s : ByteArray) (m : Nat) : Nat := if k = 1 then 2 + dgs (foldN n) else if k = 2 then 2 + dgs s.size + s.size else 2 + dgs m

theorem enc_length {k n : Int} {s : ByteArray} {l : List It} (h : form k n s l.length = true) : (It.mk k n s l).enc.length = own k n s l.length + (encs l).length := by
  have hsz : s.data.toList.length = s.size := by simp only [Array.length_toList]; rfl
  unfold form at h
  unfold own
  by_cases h1 : k = 1
  · subst h1
    have : l = [] := List.eq_nil_of_length_eq_zero (by simpa using h : _ ∧ _).2
    subst this
    simp [It.enc, cntB_length, encs]
    omega
  · by_cases h2 : k = 2
    · subst h2
      have : l = [] := List.eq_nil_of_length_eq_zero (by simpa using h : _ ∧ _).2
      subst this
      simp [It.enc, cntB_length, encs]; omega
    · simp [It.enc, cntB_length, h1, h2]; omega

theorem fits_mk {k n : Int} {s : ByteArray} {l : List It} (i dp : Int) : fits (.mk k n s l) i dp = (decide (i + 1 ≤ 4096) && decide (dp ≤ 12) && !(k == 2 && decide (4096 < s.size)) && fitsL l (i + 1) (dp + 1)) := by
  unfold fits fitsL
  rw [Bool.eq_iff_iff]
  simp only [Bool.and_eq_true, decide_eq_true_eq, Bool.not_eq_true']
  simp only [It.cnt, It.dep, It.long, Bool.or_eq_false_iff]
  constructor
  · rintro ⟨⟨h1, h2⟩, h3, h4⟩
    exact ⟨⟨⟨by omega, by omega⟩, h3⟩, ⟨by omega, by omega⟩, h4⟩
  · rintro ⟨⟨⟨h1, h2⟩, h3⟩, ⟨h4, h5⟩, h6⟩
    exact ⟨⟨by omega, by omega⟩, h3, h6⟩

theorem fitsL_snoc (l : List It) (x : It) (i dp : Int) : fitsL (l ++ [x]) i dp = (fitsL l i dp && fits x (i + cnts l) dp) := by
  unfold fitsL fits
  rw [cnts_append, deps_append, longs_append, cnts_one, deps_one, longs_one]
  have hp := dep_pos x
  rw [Bool.eq_iff_iff]
  simp only [Bool.and_eq_true, decide_eq_true_eq, Bool.not_eq_true', Bool.or_eq_false_iff]
  constructor
  · rintro ⟨⟨h1, h2⟩, h3, h4⟩; exact ⟨⟨⟨by omega, by omega⟩, h3⟩, ⟨by omega, by omega⟩, h4⟩
  · rintro ⟨⟨⟨h1, h2⟩, h3⟩, ⟨h4, h5⟩, h6⟩; exact ⟨⟨by omega, by omega⟩, h3, h6⟩
theorem fitsL_take_false (l : List It) (k : Nat) (i dp : Int) (h : fitsL (l.take k) i dp = false) : fitsL l i dp = false := by
  have e : l = l.take k ++ l.drop k := (List.take_append_drop k l).symm
  rw [e]
  unfold fitsL at *
  rw [cnts_append, deps_append, longs_append]
  rw [Bool.eq_false_iff] at *
  intro hc
  apply h
  simp only [Bool.and_eq_true, decide_eq_true_eq, Bool.not_eq_true', Bool.or_eq_false_iff] at *
  exact ⟨⟨by omega, by omega⟩, hc.2.1⟩
theorem take_succ' {α : Type} (l : List α) (k : Nat) (x : α) (h : l[k]? = some x) : l.take (k + 1) = l.take k ++ [x] := by
  rw [List.take_add_one, h]; rfl
theorem mem_cnt {l : List It} {k : Nat} {x : It} (h : l[k]? = some x) : x.cnt ≤ cnts l := by
  have := take_succ' l k x h
  have e : l = l.take (k + 1) ++ l.drop (k + 1) := (List.take_append_drop _ l).symm
  rw [e, cnts_append, this, cnts_append, cnts_one]; omega
theorem fitsL_bounds {l : List It} {i dp : Int} (h : fitsL l i dp = true) : i + cnts l ≤ 4096 ∧ dp + deps l ≤ 13 := by
  simp only [fitsL, Bool.and_eq_true, decide_eq_true_eq] at h
  exact ⟨h.1.1, h.1.2⟩
theorem good_mk (k n : Int) (s : ByteArray) (l : List It) : (It.mk k n s l).good = (form k n s l.length && goods l) := by simp [It.good]
theorem cnt_mk (k n : Int) (s : ByteArray) (l : List It) : (It.mk k n s l).cnt = 1 + cnts l := by simp [It.cnt]
theorem fits_false {k n : Int} {s : ByteArray} {l : List It} {i dp : Int} (j : Nat) (x : It) (ht : l.take (j + 1) = l.take j ++ [x]) (hx : fits x (i + 1 + cnts (l.take j)) (dp + 1) = false) : fits (.mk k n s l) i dp = false := by
  have h1 : fitsL (l.take (j + 1)) (i + 1) (dp + 1) = false := by rw [ht, fitsL_snoc, hx, Bool.and_false]
  rw [fits_mk, fitsL_take_false l _ _ _ h1, Bool.and_false]
theorem fits_true {k n : Int} {s : ByteArray} {l : List It} {i dp : Int} (hi : i + 1 ≤ 4096) (hd : dp ≤ 12) (hs : k = 2 → s.size ≤ 4096) (hl : fitsL l (i + 1) (dp + 1) = true) : fits (.mk k n s l) i dp = true := by
  rw [fits_mk, hl, Bool.and_true]
  have : (k == 2 && decide (4096 < s.size)) = false := by
    by_cases h2 : k = 2
    · have := hs h2; simp [h2]; omega
    · simp [h2]
  rw [this]; simp [hi, hd]
theorem goods_take {l : List It} {j : Nat} {x : It} (ht : l.take (j + 1) = l.take j ++ [x]) (h : goods l = true) : x.good = true := by
  have e : l = l.take (j + 1) ++ l.drop (j + 1) := (List.take_append_drop _ l).symm
  rw [e, goods_append, ht, goods_append, goods_one] at h
  simp only [Bool.and_eq_true] at h
  exact h.1.2
theorem longs_take {l : List It} {j : Nat} {x : It} (ht : l.take (j + 1) = l.take j ++ [x]) (h : longs l = false) : x.long = false := by
  have e : l = l.take (j + 1) ++ l.drop (j + 1) := (List.take_append_drop _ l).symm
  rw [e, longs_append, ht, longs_append, longs_one] at h
  simp only [Bool.or_eq_false_iff] at h
  exact h.1.2
theorem encs_take {l : List It} {j : Nat} {x : It} (ht : l.take (j + 1) = l.take j ++ [x]) : (encs (l.take j)).length + x.enc.length ≤ (encs l).length := by
  have e : l = l.take (j + 1) ++ l.drop (j + 1) := (List.take_append_drop _ l).symm
  have : (encs l).length = (encs (l.take (j + 1) ++ l.drop (j + 1))).length := by rw [← e]
  rw [this, encs_append, ht, encs_append, encs_one]
  simp only [List.length_append]
  omega
end Go.Proofs.Ytnnakfhkejdfcaa.Pl
