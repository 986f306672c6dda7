import Derived.Test.YtphclpjekpdifaaGreatRows
import Derived.WalkKit
import Derived.ProofKit
import Derived.WalkLawsBesides
import Derived.Outline
import Derived.Deep.QuietTactic
import Derived.BigQuiet
import Derived.Laws.BitsAllLaws
import Derived.Lib.AppendStr
import Derived.LoopTactic
import Derived.Lib.Hide
import Derived.StillTailTactics
import Derived.Deep.RegionWith
namespace Go.Proofs.YtphclpjekpdifaaGreat.Wi.Pl
def dgs (n : Nat) : Nat :=
  if n < 1 then 0 else if n < 256 then 1 else if n < 65536 then 2 else if n < 16777216 then 3 else if n < 4294967296 then 4
  else if n < 1099511627776 then 5 else if n < 281474976710656 then 6 else if n < 72057594037927936 then 7 else 8
theorem dgs_le (n : Nat) : dgs n ≤ 8 := by
  unfold dgs
  repeat' split
  all_goals omega
def be : Nat → Nat → List UInt8
  | 0, _ => []
  | d + 1, n => UInt8.ofNat (n / 256 ^ d) :: be d n
theorem be_length (d n : Nat) : (be d n).length = d := by
  induction d with
  | zero => rfl
  | succ d ih => simp [be, ih]
def cntB (n : Nat) : List UInt8 := UInt8.ofNat (dgs n) :: be (dgs n) n
theorem cntB_length (n : Nat) : (cntB n).length = 1 + dgs n := by simp [cntB, be_length]; omega
def foldN (n : Int) : Nat := if n < 0 then (-2 * n - 1).toNat else (2 * n).toNat
inductive It where
  | mk (k n : Int) (s : ByteArray) (l : List It)

mutual
def It.cnt : It → Nat
  | .mk _ _ _ l => 1 + cnts l
def cnts : List It → Nat
  | [] => 0
  | x :: r => x.cnt + cnts r
end
mutual
def It.dep : It → Nat
  | .mk _ _ _ l => 1 + deps l
def deps : List It → Nat
  | [] => 0
  | x :: r => max x.dep (deps r)
end
mutual
def It.long : It → Bool
  | .mk k _ s l => (k == 2 && decide (4096 < s.size)) || longs l
def longs : List It → Bool
  | [] => false
  | x :: r => x.long || longs r
end
def form (k n : Int) (s : ByteArray) (m : Nat) : Bool :=
  (k == 1 && s.size == 0 && m == 0) || (k == 2 && n == 0 && m == 0) || (k == 3 && n == 0 && s.size == 0)
mutual
def It.good : It → Bool
  | .mk k n s l => form k n s l.length && goods l
def goods : List It → Bool
  | [] => true
  | x :: r => x.good && goods r
end
mutual
def It.enc : It → List UInt8
  | .mk k n s l => if k = 1 then 1 :: cntB (foldN n) else if k = 2 then 2 :: (cntB s.size ++ s.data.toList) else 3 :: (cntB l.length ++ encs l)
def encs : List It → List UInt8
  | [] => []
  | x :: r => x.enc ++ encs r
end
def tab : ByteArray := ⟨#[0,1,2,2,3,3,3,3,4,4,4,4,4,4,4,4,5,5,5,5,5,5,5,5,5,5,5,5,5,5,5,5,6,6,6,6,6,6,6,6,6,6,6,6,6,6,6,6,6,6,6,6,6,6,6,6,6,6,6,6,6,6,6,6,7,7,7,7,7,7,7,7,7,7,7,7,7,7,7,7,7,7,7,7,7,7,7,7,7,7,7,7,7,7,7,7,7,7,7,7,7,7,7,7,7,7,7,7,7,7,7,7,7,7,7,7,7,7,7,7,7,7,7,7,7,7,7,7,8,8,8,8,8,8,8,8,8,8,8,8,8,8,8,8,8,8,8,8,8,8,8,8,8,8,8,8,8,8,8,8,8,8,8,8,8,8,8,8,8,8,8,8,8,8,8,8,8,8,8,8,8,8,8,8,8,8,8,8,8,8,8,8,8,8,8,8,8,8,8,8,8,8,8,8,8,8,8,8,8,8,8,8,8,8,8,8,8,8,8,8,8,8,8,8,8,8,8,8,8,8,8,8,8,8,8,8,8,8,8,8,8,8,8,8,8,8,8,8,8,8,8,8,8,8,8,8]⟩
theorem tab_size : tab.size = 256 := by decide +kernel
theorem tab_ok : ∀ k : Fin 256, tab[k.val]!.toNat ≤ 8 ∧ (tab[k.val]!.toNat = 0 ↔ k.val = 0) := by decide +kernel
theorem tab_at (k : Nat) (h : k < tab.size) : (tab[k]'h).toNat ≤ 8 ∧ ((tab[k]'h).toNat = 0 ↔ k = 0) := by
  have h' : k < 256 := by rw [← tab_size]; exact h
  have := tab_ok ⟨k, h'⟩
  simpa [getElem!_pos tab k h] using this
theorem be_get (d n j : Nat) (hj : j < d) : (be d n)[j]? = some (UInt8.ofNat (n / 256 ^ (d - 1 - j))) := by
  induction d generalizing j with
  | zero => omega
  | succ d ih =>
    cases j with
    | zero => simp [be]
    | succ j =>
      simp only [be, List.getElem?_cons_succ]
      rw [ih j (by omega)]
      congr 4
      omega
theorem be_take_succ (d n j : Nat) (hj : j < d) : (be d n).take (j + 1) = (be d n).take j ++ [UInt8.ofNat (n / 256 ^ (d - 1 - j))] := by
  rw [List.take_add_one, be_get d n j hj]; rfl
theorem shift_byte (c : Int) (h : 0 ≤ c) (e : Nat) : UInt8.ofNat (c / 2 ^ (8 * e) % 256).toNat = UInt8.ofNat (c.toNat / 256 ^ e) := by
  obtain ⟨m, rfl⟩ := Int.eq_ofNat_of_zero_le h
  have h2 : ((2 : Int) ^ (8 * e)) = ((256 ^ e : Nat) : Int) := by
    rw [Int.pow_mul]; norm_cast
  rw [h2]
  have h3 : ((m : Int) / ((256 ^ e : Nat) : Int) % 256).toNat = m / 256 ^ e % 256 := by
    rw [← Int.natCast_ediv]; omega
  rw [h3, Int.toNat_natCast]
  apply UInt8.toNat_inj.1
  simp
theorem cnts_append (a b : List It) : cnts (a ++ b) = cnts a + cnts b := by
  induction a with
  | nil => simp [cnts]
  | cons x r ih => simp [cnts, ih]; omega
theorem deps_append (a b : List It) : deps (a ++ b) = max (deps a) (deps b) := by
  induction a with
  | nil => simp [deps]
  | cons x r ih => simp [deps, ih, Nat.max_assoc]
theorem longs_append (a b : List It) : longs (a ++ b) = (longs a || longs b) := by
  induction a with
  | nil => simp [longs]
  | cons x r ih => simp [longs, ih, Bool.or_assoc]
theorem goods_append (a b : List It) : goods (a ++ b) = (goods a && goods b) := by
  induction a with
  | nil => simp [goods]
  | cons x r ih => simp [goods, ih, Bool.and_assoc]
theorem encs_append (a b : List It) : encs (a ++ b) = encs a ++ encs b := by
  induction a with
  | nil => simp [encs]
  | cons x r ih => simp [encs, ih]
theorem cnts_one (x : It) : cnts [x] = x.cnt := by simp [cnts]
theorem deps_one (x : It) : deps [x] = x.dep := by simp [deps]
theorem longs_one (x : It) : longs [x] = x.long := by simp [longs]
theorem goods_one (x : It) : goods [x] = x.good := by simp [goods]
theorem encs_one (x : It) : encs [x] = x.enc := by simp [encs]
theorem cnt_pos (t : It) : 1 ≤ t.cnt := by cases t; simp [It.cnt]
theorem dep_pos (t : It) : 1 ≤ t.dep := by cases t; simp [It.dep]
def fits (t : It) (i dp : Int) : Bool := decide (i + t.cnt ≤ 4096) && decide (dp + t.dep ≤ 13) && !t.long
def fitsL (l : List It) (i dp : Int) : Bool := decide (i + cnts l ≤ 4096) && decide (dp + deps l ≤ 13) && !longs l
def own (k n : Int) (s : ByteArray) (m : Nat) : Nat := if k = 1 then 2 + dgs (foldN n) else if k = 2 then 2 + dgs s.size + s.size else 2 + dgs m
theorem enc_length {k n : Int} {s : ByteArray} {l : List It} (h : form k n s l.length = true) : (It.mk k n s l).enc.length = own k n s l.length + (encs l).length := by
  have hsz : s.data.toList.length = s.size := by simp only [Array.length_toList]; rfl
  unfold form at h
  unfold own
  by_cases h1 : k = 1
  · subst h1
    have : l = [] := List.eq_nil_of_length_eq_zero (by simpa using h : _ ∧ _).2
    subst this
    simp [It.enc, cntB_length, encs]
    omega
  · by_cases h2 : k = 2
    · subst h2
      have : l = [] := List.eq_nil_of_length_eq_zero (by simpa using h : _ ∧ _).2
      subst this
      simp [It.enc, cntB_length, encs]; omega
    · simp [It.enc, cntB_length, h1, h2]; omega
theorem fits_mk {k n : Int} {s : ByteArray} {l : List It} (i dp : Int) : fits (.mk k n s l) i dp = (decide (i + 1 ≤ 4096) && decide (dp ≤ 12) && !(k == 2 && decide (4096 < s.size)) && fitsL l (i + 1) (dp + 1)) := by
  unfold fits fitsL
  rw [Bool.eq_iff_iff]
  simp only [Bool.and_eq_true, decide_eq_true_eq, Bool.not_eq_true']
  simp only [It.cnt, It.dep, It.long, Bool.or_eq_false_iff]
  constructor
  · rintro ⟨⟨h1, h2⟩, h3, h4⟩
    exact ⟨⟨⟨by omega, by omega⟩, h3⟩, ⟨by omega, by omega⟩, h4⟩
  · rintro ⟨⟨⟨h1, h2⟩, h3⟩, ⟨h4, h5⟩, h6⟩
    exact ⟨⟨by omega, by omega⟩, h3, h6⟩
theorem fitsL_snoc (l : List It) (x : It) (i dp : Int) : fitsL (l ++ [x]) i dp = (fitsL l i dp && fits x (i + cnts l) dp) := by
  unfold fitsL fits
  rw [cnts_append, deps_append, longs_append, cnts_one, deps_one, longs_one]
  have hp := dep_pos x
  rw [Bool.eq_iff_iff]
  simp only [Bool.and_eq_true, decide_eq_true_eq, Bool.not_eq_true', Bool.or_eq_false_iff]
  constructor
  · rintro ⟨⟨h1, h2⟩, h3, h4⟩; exact ⟨⟨⟨by omega, by omega⟩, h3⟩, ⟨by omega, by omega⟩, h4⟩
  · rintro ⟨⟨⟨h1, h2⟩, h3⟩, ⟨h4, h5⟩, h6⟩; exact ⟨⟨by omega, by omega⟩, h3, h6⟩
theorem fitsL_take_false (l : List It) (k : Nat) (i dp : Int) (h : fitsL (l.take k) i dp = false) : fitsL l i dp = false := by
  have e : l = l.take k ++ l.drop k := (List.take_append_drop k l).symm
  rw [e]
  unfold fitsL at *
  rw [cnts_append, deps_append, longs_append]
  rw [Bool.eq_false_iff] at *
  intro hc
  apply h
  simp only [Bool.and_eq_true, decide_eq_true_eq, Bool.not_eq_true', Bool.or_eq_false_iff] at *
  exact ⟨⟨by omega, by omega⟩, hc.2.1⟩
theorem take_succ' {α : Type} (l : List α) (k : Nat) (x : α) (h : l[k]? = some x) : l.take (k + 1) = l.take k ++ [x] := by
  rw [List.take_add_one, h]; rfl
theorem mem_cnt {l : List It} {k : Nat} {x : It} (h : l[k]? = some x) : x.cnt ≤ cnts l := by
  have := take_succ' l k x h
  have e : l = l.take (k + 1) ++ l.drop (k + 1) := (List.take_append_drop _ l).symm
  rw [e, cnts_append, this, cnts_append, cnts_one]; omega
theorem fitsL_bounds {l : List It} {i dp : Int} (h : fitsL l i dp = true) : i + cnts l ≤ 4096 ∧ dp + deps l ≤ 13 := by
  simp only [fitsL, Bool.and_eq_true, decide_eq_true_eq] at h
  exact ⟨h.1.1, h.1.2⟩
theorem good_mk (k n : Int) (s : ByteArray) (l : List It) : (It.mk k n s l).good = (form k n s l.length && goods l) := by simp [It.good]
theorem cnt_mk (k n : Int) (s : ByteArray) (l : List It) : (It.mk k n s l).cnt = 1 + cnts l := by simp [It.cnt]
theorem fits_false {k n : Int} {s : ByteArray} {l : List It} {i dp : Int} (j : Nat) (x : It) (ht : l.take (j + 1) = l.take j ++ [x]) (hx : fits x (i + 1 + cnts (l.take j)) (dp + 1) = false) : fits (.mk k n s l) i dp = false := by
  have h1 : fitsL (l.take (j + 1)) (i + 1) (dp + 1) = false := by rw [ht, fitsL_snoc, hx, Bool.and_false]
  rw [fits_mk, fitsL_take_false l _ _ _ h1, Bool.and_false]
theorem fits_true {k n : Int} {s : ByteArray} {l : List It} {i dp : Int} (hi : i + 1 ≤ 4096) (hd : dp ≤ 12) (hs : k = 2 → s.size ≤ 4096) (hl : fitsL l (i + 1) (dp + 1) = true) : fits (.mk k n s l) i dp = true := by
  rw [fits_mk, hl, Bool.and_true]
  have : (k == 2 && decide (4096 < s.size)) = false := by
    by_cases h2 : k = 2
    · have := hs h2; simp [h2]; omega
    · simp [h2]
  rw [this]; simp [hi, hd]
theorem goods_take {l : List It} {j : Nat} {x : It} (ht : l.take (j + 1) = l.take j ++ [x]) (h : goods l = true) : x.good = true := by
  have e : l = l.take (j + 1) ++ l.drop (j + 1) := (List.take_append_drop _ l).symm
  rw [e, goods_append, ht, goods_append, goods_one] at h
  simp only [Bool.and_eq_true] at h
  exact h.1.2
theorem longs_take {l : List It} {j : Nat} {x : It} (ht : l.take (j + 1) = l.take j ++ [x]) (h : longs l = false) : x.long = false := by
  have e : l = l.take (j + 1) ++ l.drop (j + 1) := (List.take_append_drop _ l).symm
  rw [e, longs_append, ht, longs_append, longs_one] at h
  simp only [Bool.or_eq_false_iff] at h
  exact h.1.2
theorem encs_take {l : List It} {j : Nat} {x : It} (ht : l.take (j + 1) = l.take j ++ [x]) : (encs (l.take j)).length + x.enc.length ≤ (encs l).length := by
  have e : l = l.take (j + 1) ++ l.drop (j + 1) := (List.take_append_drop _ l).symm
  have : (encs l).length = (encs (l.take (j + 1) ++ l.drop (j + 1))).length := by rw [← e]
  rw [this, encs_append, ht, encs_append, encs_one]
  simp only [List.length_append]
  omega
end Go.Proofs.YtphclpjekpdifaaGreat.Wi.Pl
namespace Go.Proofs.YtphclpjekpdifaaGreat.Wi.Pl
set_option maxRecDepth 20000
set_option linter.unusedVariables false
def val (l : List UInt8) : Nat := l.foldl (fun n b => n * 256 + b.toNat) 0
theorem val_snoc (l : List UInt8) (b : UInt8) : val (l ++ [b]) = val l * 256 + b.toNat := by simp [val]
theorem foldl_val (l : List UInt8) : ∀ a : Nat, l.foldl (fun n b => n * 256 + b.toNat) a = a * 256 ^ l.length + val l := by
  induction l with
  | nil => intro a; simp [val]
  | cons x r ih =>
    intro a
    simp only [List.foldl_cons, List.length_cons, val]
    rw [ih, ih (0 * 256 + x.toNat), Nat.pow_succ]
    have e : (a * 256 + x.toNat) * 256 ^ r.length = a * (256 ^ r.length * 256) + x.toNat * 256 ^ r.length := by
      rw [Nat.add_mul, Nat.mul_assoc, Nat.mul_comm 256]
    rw [e]
    simp only [Nat.zero_mul, Nat.zero_add]
    omega
theorem val_cons (x : UInt8) (r : List UInt8) : val (x :: r) = x.toNat * 256 ^ r.length + val r := by
  have := foldl_val r (0 * 256 + x.toNat)
  simp only [Nat.zero_mul, Nat.zero_add] at this
  simpa [val] using this
theorem val_lt (l : List UInt8) : val l < 256 ^ l.length := by
  induction l with
  | nil => simp [val]
  | cons x r ih =>
    rw [val_cons, List.length_cons, Nat.pow_succ]
    have hx : x.toNat < 256 := x.toNat_lt
    have : x.toNat * 256 ^ r.length ≤ 255 * 256 ^ r.length := Nat.mul_le_mul_right _ (by omega)
    omega
theorem be_val (l : List UInt8) : be l.length (val l) = l := by
  induction l with
  | nil => rfl
  | cons x r ih =>
    have hr := val_lt r
    have hx : x.toNat < 256 := x.toNat_lt
    rw [List.length_cons, be, val_cons]
    have hp : 0 < 256 ^ r.length := Nat.pow_pos (by omega)
    have e : (x.toNat * 256 ^ r.length + val r) / 256 ^ r.length = x.toNat := by
      rw [Nat.mul_comm, Nat.mul_add_div hp, Nat.div_eq_of_lt hr]; omega
    rw [e]
    have e2 : ∀ d m q, d ≤ q → be d (m * 256 ^ q + val r) = be d (val r) := by
      intro d
      induction d with
      | zero => intros; rfl
      | succ d ih2 =>
        intro m q hdq
        simp only [be]
        rw [ih2 m q (by omega)]
        congr 1
        apply UInt8.toNat_inj.1
        simp only [UInt8.toNat_ofNat']
        have h1 : 256 ^ q = 256 ^ d * (256 * 256 ^ (q - d - 1)) := by
          rw [← Nat.pow_succ', ← Nat.pow_add]; congr 1; omega
        rw [h1, show m * (256 ^ d * (256 * 256 ^ (q - d - 1))) = 256 ^ d * (256 * (m * 256 ^ (q - d - 1))) from by
          rw [← Nat.mul_assoc, Nat.mul_comm m, Nat.mul_assoc]; congr 1; rw [← Nat.mul_assoc, Nat.mul_comm m, Nat.mul_assoc]]
        rw [Nat.mul_add_div (Nat.pow_pos (by omega))]
        omega
    rw [e2 r.length _ r.length (Nat.le_refl _), ih]
    simp
theorem val_be : ∀ (d n : Nat), n < 256 ^ d → val (be d n) = n := by
  intro d
  induction d with
  | zero => intro n h; simp at h; subst h; rfl
  | succ d ih =>
    intro n h
    rw [be, val_cons, be_length]
    have hp : 0 < 256 ^ d := Nat.pow_pos (by omega)
    have h1 : n / 256 ^ d < 256 := by
      rw [Nat.div_lt_iff_lt_mul hp, Nat.mul_comm, ← Nat.pow_succ]; exact h
    have e : (UInt8.ofNat (n / 256 ^ d)).toNat = n / 256 ^ d := by rw [UInt8.toNat_ofNat', Nat.mod_eq_of_lt h1]
    have e2 : ∀ k m, k ≤ d → be k m = be k (m % 256 ^ d) := by
      intro k
      induction k with
      | zero => intros; rfl
      | succ k ih2 =>
        intro m hk
        simp only [be]
        rw [← ih2 m (by omega)]
        congr 1
        apply UInt8.toNat_inj.1
        simp only [UInt8.toNat_ofNat']
        have h3 : 256 ^ d = 256 ^ k * (256 * 256 ^ (d - k - 1)) := by
          rw [← Nat.pow_succ', ← Nat.pow_add]; congr 1; omega
        rw [h3, Nat.mod_mul_right_div_self, Nat.mod_mul_right_mod]
    rw [e, e2 d n (Nat.le_refl _), ih _ (Nat.mod_lt _ hp)]
    rw [Nat.mul_comm]; exact Nat.div_add_mod n _
theorem dgs_bounds (n : Nat) (h : n < 18446744073709551616) : n < 256 ^ dgs n ∧ (dgs n = 0 ∨ 256 ^ (dgs n - 1) ≤ n) := by
  unfold dgs
  repeat' split
  all_goals simp
  all_goals omega
theorem dgs_unique (n d : Nat) (hd : d ≤ 8) (h : n < 256 ^ d) (h2 : d = 0 ∨ 256 ^ (d - 1) ≤ n) : dgs n = d := by
  have hc : d = 0 ∨ d = 1 ∨ d = 2 ∨ d = 3 ∨ d = 4 ∨ d = 5 ∨ d = 6 ∨ d = 7 ∨ d = 8 := by omega
  unfold dgs
  rcases hc with rfl | rfl | rfl | rfl | rfl | rfl | rfl | rfl | rfl
  all_goals simp at h h2
  all_goals repeat' split
  all_goals omega
theorem cntB_val (ds : List UInt8) (h8 : ds.length ≤ 8) (h0 : ds[0]? ≠ some 0) : dgs (val ds) = ds.length ∧ val ds < 18446744073709551616 := by
  have hv := val_lt ds
  refine ⟨dgs_unique _ _ h8 hv ?_, ?_⟩
  · cases ds with
    | nil => exact .inl rfl
    | cons x r =>
      right
      have hx : x ≠ 0 := fun e => h0 (by simp [e])
      have hx' : 1 ≤ x.toNat := by
        rcases Nat.eq_zero_or_pos x.toNat with h | h
        · exact absurd (UInt8.toNat_inj.1 (by simpa using h)) hx
        · exact h
      rw [val_cons, List.length_cons, Nat.add_sub_cancel]
      have : 1 * 256 ^ r.length ≤ x.toNat * 256 ^ r.length := Nat.mul_le_mul_right _ hx'
      omega
  · exact Nat.lt_of_lt_of_le hv (Nat.le_trans (Nat.pow_le_pow_right (by omega) h8) (by decide))
theorem be_head (n : Nat) (h : n < 18446744073709551616) : (be (dgs n) n)[0]? ≠ some 0 := by
  obtain ⟨h1, h2⟩ := dgs_bounds n h
  have hd := dgs_le n
  rcases h2 with h2 | h2
  · rw [h2]; simp [be]
  · cases hdg : dgs n with
    | zero => simp [be]
    | succ d =>
      rw [hdg] at h1 h2
      simp only [Nat.add_sub_cancel] at h2
      simp only [be, List.getElem?_cons_zero, ne_eq, Option.some.injEq]
      intro e
      have hp : 0 < 256 ^ d := Nat.pow_pos (by omega)
      have h3 : n / 256 ^ d < 256 := by rw [Nat.div_lt_iff_lt_mul hp, Nat.mul_comm, ← Nat.pow_succ]; exact h1
      have h4 : 1 ≤ n / 256 ^ d := (Nat.one_le_div_iff hp).2 h2
      have h5 := congrArg UInt8.toNat e
      rw [UInt8.toNat_ofNat', Nat.mod_eq_of_lt h3] at h5
      simp at h5
      omega
def pcnt : List UInt8 → Option (Nat × List UInt8)
  | [] => none
  | d :: t => if 8 < d.toNat then none else if t.length < d.toNat then none else if (t.take d.toNat)[0]? = some 0 then none else some (val (t.take d.toNat), t.drop d.toNat)
theorem pcnt_of (n : Nat) (r : List UInt8) (h : n < 18446744073709551616) : pcnt (cntB n ++ r) = some (n, r) := by
  have hd := dgs_le n
  have hdn : (UInt8.ofNat (dgs n)).toNat = dgs n := by rw [UInt8.toNat_ofNat', Nat.mod_eq_of_lt (by omega)]
  have hl := be_length (dgs n) n
  show pcnt (UInt8.ofNat (dgs n) :: (be (dgs n) n ++ r)) = _
  rw [pcnt, hdn, if_neg (by omega), if_neg (by rw [List.length_append, hl]; omega)]
  have e1 : (be (dgs n) n ++ r).take (dgs n) = be (dgs n) n := by rw [List.take_append_of_le_length (by omega), List.take_of_length_le (by omega)]
  have e2 : (be (dgs n) n ++ r).drop (dgs n) = r := by rw [List.drop_append_of_le_length (by omega), List.drop_of_length_le (by omega)]; rfl
  rw [e1, e2, if_neg (be_head n h), val_be _ _ (dgs_bounds n h).1]
theorem of_pcnt {bs : List UInt8} {n : Nat} {r : List UInt8} (h : pcnt bs = some (n, r)) : n < 18446744073709551616 ∧ bs = cntB n ++ r := by
  cases bs with
  | nil => simp [pcnt] at h
  | cons d t =>
    rw [pcnt] at h
    by_cases h1 : 8 < d.toNat
    · rw [if_pos h1] at h; cases h
    rw [if_neg h1] at h
    by_cases h2 : t.length < d.toNat
    · rw [if_pos h2] at h; cases h
    rw [if_neg h2] at h
    by_cases h3 : (t.take d.toNat)[0]? = some 0
    · rw [if_pos h3] at h; cases h
    rw [if_neg h3] at h
    simp only [Option.some.injEq, Prod.mk.injEq] at h
    obtain ⟨rfl, rfl⟩ := h
    have hl : (t.take d.toNat).length = d.toNat := by rw [List.length_take]; omega
    obtain ⟨a1, a2⟩ := cntB_val _ (by omega) h3
    refine ⟨a2, ?_⟩
    have hb := be_val (t.take d.toNat)
    rw [hl] at a1 hb
    rw [cntB, a1, hb]
    simp
def unfoldZ (n : Nat) : Int := if n % 2 = 0 then (n / 2 : Nat) else -((n / 2 : Nat) : Int) - 1
theorem foldN_unfoldZ (n : Nat) : foldN (unfoldZ n) = n := by
  unfold foldN unfoldZ; split <;> split <;> omega
theorem unfoldZ_foldN (n : Int) : unfoldZ (foldN n) = n := by
  unfold foldN unfoldZ; split <;> split <;> omega
theorem unfoldZ_range (n : Nat) (h : n < 18446744073709551616) : -9223372036854775808 ≤ unfoldZ n ∧ unfoldZ n ≤ 9223372036854775807 := by
  unfold unfoldZ; split <;> omega
theorem foldN_range (n : Int) (h : -9223372036854775808 ≤ n) (h2 : n ≤ 9223372036854775807) : foldN n < 18446744073709551616 := by
  unfold foldN; split <;> omega
def pmany (p : Nat → List UInt8 → Option (It × List UInt8 × Nat)) : Nat → Nat → List UInt8 → Option (List It × List UInt8 × Nat)
  | 0, left, bs => some ([], bs, left)
  | n + 1, left, bs => match p left bs with
    | none => none
    | some (t, r, left') => match pmany p n left' r with
      | none => none
      | some (l, r', left'') => some (t :: l, r', left'')
def pit : Nat → Nat → List UInt8 → Option (It × List UInt8 × Nat)
  | 0, _, _ => none
  | _ + 1, _, [] => none
  | f + 1, left, k :: t =>
    if k = 1 then match pcnt t with
      | none => none
      | some (n, r) => some (.mk 1 (unfoldZ n) ⟨#[]⟩ [], r, left)
    else if k = 2 then match pcnt t with
      | none => none
      | some (n, r) => if 4096 < n then none else if r.length < n then none else some (.mk 2 0 ⟨(r.take n).toArray⟩ [], r.drop n, left)
    else if k = 3 then match pcnt t with
      | none => none
      | some (n, r) => if left < n then none else match pmany (pit f) n (left - n) r with
        | none => none
        | some (l, r', left') => some (.mk 3 0 ⟨#[]⟩ l, r', left')
    else none

mutual
def It.ok : It → Bool
  | .mk k n s l => form k n s l.length && decide (k = 1 → -9223372036854775808 ≤ n ∧ n ≤ 9223372036854775807) && decide (k = 2 → s.size ≤ 4096) && decide (l.length < 18446744073709551616) && oks l
def oks : List It → Bool
  | [] => true
  | x :: r => x.ok && oks r
end
theorem size_zero {s : ByteArray} (h : s.size = 0) : s = ⟨#[]⟩ := by
  obtain ⟨⟨l⟩⟩ := s
  have : l = [] := List.eq_nil_of_length_eq_zero h
  subst this; rfl
theorem size_data (s : ByteArray) : s.data.toList.length = s.size := by simp only [Array.length_toList]; rfl
def Back (f : Nat) : Prop := ∀ (t : It) (r : List UInt8) (left : Nat), t.ok = true → t.dep ≤ f → t.cnt ≤ left + 1 → pit f left (t.enc ++ r) = some (t, r, left + 1 - t.cnt)
theorem pmany_of (f : Nat) (hf : Back f) : ∀ (l : List It) (r : List UInt8) (left : Nat), oks l = true → deps l ≤ f → cnts l ≤ left + l.length →
    pmany (pit f) l.length left (encs l ++ r) = some (l, r, left + l.length - cnts l) := by
  intro l
  induction l with
  | nil => intro r left _ _ _; simp [pmany, encs, cnts]
  | cons x l ih =>
    intro r left ho hd hc
    simp only [oks, Bool.and_eq_true] at ho
    simp only [deps] at hd
    simp only [cnts, List.length_cons] at hc
    have hp := cnt_pos x
    have hle : l.length ≤ cnts l := by
      clear ih ho hd hc
      induction l with
      | nil => simp
      | cons y l ih => have := cnt_pos y; simp only [cnts, List.length_cons]; omega
    rw [List.length_cons, encs, List.append_assoc, pmany, hf x (encs l ++ r) left ho.1 (by omega) (by omega)]
    simp only []
    rw [ih r (left + 1 - x.cnt) ho.2 (by omega) (by omega)]
    simp only [cnts, Option.some.injEq, Prod.mk.injEq, true_and]
    omega
theorem pit_of : ∀ f, Back f := by
  intro f
  induction f with
  | zero => intro t r left _ hd; have := dep_pos t; omega
  | succ f ih =>
    intro t r left ho hd hc
    obtain ⟨k, n, s, l⟩ := t
    simp only [It.ok, Bool.and_eq_true, decide_eq_true_eq] at ho
    obtain ⟨⟨⟨⟨h1, h2⟩, h3⟩, h4⟩, h5⟩ := ho
    simp only [It.dep] at hd
    simp only [It.cnt] at hc
    simp only [form, Bool.or_eq_true, Bool.and_eq_true, beq_iff_eq] at h1
    rcases h1 with (⟨⟨rfl, a2⟩, a3⟩ | ⟨⟨rfl, rfl⟩, a3⟩) | ⟨⟨rfl, rfl⟩, a3⟩
    · obtain rfl : l = [] := List.eq_nil_of_length_eq_zero a3
      obtain rfl := size_zero a2
      have hr := h2 rfl
      have he : (It.mk 1 n ⟨#[]⟩ []).enc = 1 :: cntB (foldN n) := by simp [It.enc]
      rw [he, List.cons_append, pit, if_pos rfl, pcnt_of _ _ (foldN_range n hr.1 hr.2)]
      simp [unfoldZ_foldN, It.cnt, cnts]
    · obtain rfl : l = [] := List.eq_nil_of_length_eq_zero a3
      have hs := h3 rfl
      have he : (It.mk 2 0 s []).enc = 2 :: (cntB s.size ++ s.data.toList) := by simp [It.enc]
      rw [he, List.cons_append, List.append_assoc, pit, if_neg (by decide), if_pos rfl, pcnt_of _ _ (by omega)]
      simp only []
      rw [if_neg (by omega), if_neg (by rw [List.length_append, size_data]; omega)]
      have e1 : (s.data.toList ++ r).take s.size = s.data.toList := by rw [List.take_append_of_le_length (by rw [size_data]; omega), List.take_of_length_le (by rw [size_data]; omega)]
      have e2 : (s.data.toList ++ r).drop s.size = r := by rw [List.drop_append_of_le_length (by rw [size_data]; omega), List.drop_of_length_le (by rw [size_data]; omega)]; rfl
      rw [e1, e2]
      simp [It.cnt, cnts]
    · obtain rfl := size_zero a3
      have he : (It.mk 3 0 ⟨#[]⟩ l).enc = 3 :: (cntB l.length ++ encs l) := by simp [It.enc]
      rw [he, List.cons_append, List.append_assoc, pit, if_neg (by decide), if_neg (by decide), if_pos rfl, pcnt_of _ _ h4]
      simp only []
      have hle : l.length ≤ cnts l := by
        clear ih h2 h3 h4 h5 hd hc he
        induction l with
        | nil => simp
        | cons y l ih => have := cnt_pos y; simp only [cnts, List.length_cons]; omega
      rw [if_neg (by omega), pmany_of f ih l r (left - l.length) h5 (by omega) (by omega)]
      simp only [It.cnt, Option.some.injEq, Prod.mk.injEq, true_and]
      omega
def Forth (f : Nat) : Prop := ∀ (bs : List UInt8) (left : Nat) (t : It) (r : List UInt8) (left' : Nat), pit f left bs = some (t, r, left') →
  t.ok = true ∧ t.dep ≤ f ∧ t.cnt ≤ left + 1 ∧ left' = left + 1 - t.cnt ∧ bs = t.enc ++ r
theorem of_pmany (f : Nat) (hf : Forth f) : ∀ (n : Nat) (bs : List UInt8) (left : Nat) (l : List It) (r : List UInt8) (left' : Nat), pmany (pit f) n left bs = some (l, r, left') →
    l.length = n ∧ oks l = true ∧ deps l ≤ f ∧ cnts l ≤ left + n ∧ left' = left + n - cnts l ∧ bs = encs l ++ r := by
  intro n
  induction n with
  | zero =>
    intro bs left l r left' h
    simp only [pmany, Option.some.injEq, Prod.mk.injEq] at h
    obtain ⟨rfl, rfl, rfl⟩ := h
    simp [oks, deps, cnts, encs]
  | succ n ih =>
    intro bs left l r left' h
    rw [pmany] at h
    cases hp : pit f left bs with
    | none => rw [hp] at h; cases h
    | some x =>
      obtain ⟨t, r1, left1⟩ := x
      rw [hp] at h
      simp only [] at h
      obtain ⟨a1, a2, a3, a4, a5⟩ := hf bs left t r1 left1 hp
      cases hm : pmany (pit f) n left1 r1 with
      | none => rw [hm] at h; cases h
      | some y =>
        obtain ⟨l2, r2, left2⟩ := y
        rw [hm] at h
        simp only [Option.some.injEq, Prod.mk.injEq] at h
        obtain ⟨rfl, rfl, rfl⟩ := h
        obtain ⟨b1, b2, b3, b4, b5, b6⟩ := ih r1 left1 l2 r2 left2 hm
        have hp1 := cnt_pos t
        refine ⟨by simp [b1], by simp [oks, a1, b2], by simp only [deps]; omega, by simp only [cnts]; omega, by simp only [cnts]; omega, ?_⟩
        rw [a5, b6, encs, List.append_assoc]
theorem of_pit : ∀ f, Forth f := by
  intro f
  induction f with
  | zero => intro bs left t r left' h; simp [pit] at h
  | succ f ih =>
    intro bs left t r left' h
    cases bs with
    | nil => simp [pit] at h
    | cons k bs =>
      rw [pit] at h
      by_cases k1 : k = 1
      · subst k1
        rw [if_pos rfl] at h
        cases hp : pcnt bs with
        | none => rw [hp] at h; cases h
        | some x =>
          obtain ⟨n, r1⟩ := x
          rw [hp] at h
          simp only [Option.some.injEq, Prod.mk.injEq] at h
          obtain ⟨rfl, rfl, rfl⟩ := h
          obtain ⟨c1, c2⟩ := of_pcnt hp
          have hr := unfoldZ_range n c1
          refine ⟨?_, by simp [It.dep, deps], by simp [It.cnt, cnts], by simp [It.cnt, cnts], ?_⟩
          · simp [It.ok, form, oks, hr]; rfl
          · rw [c2]; simp [It.enc, foldN_unfoldZ]
      rw [if_neg k1] at h
      by_cases k2 : k = 2
      · subst k2
        rw [if_pos rfl] at h
        cases hp : pcnt bs with
        | none => rw [hp] at h; cases h
        | some x =>
          obtain ⟨n, r1⟩ := x
          rw [hp] at h
          simp only [] at h
          by_cases q1 : 4096 < n
          · rw [if_pos q1] at h; cases h
          rw [if_neg q1] at h
          by_cases q2 : r1.length < n
          · rw [if_pos q2] at h; cases h
          rw [if_neg q2] at h
          simp only [Option.some.injEq, Prod.mk.injEq] at h
          obtain ⟨rfl, rfl, rfl⟩ := h
          obtain ⟨c1, c2⟩ := of_pcnt hp
          have hsz : (⟨(r1.take n).toArray⟩ : ByteArray).size = n := by rw [← size_data]; simp; omega
          refine ⟨?_, by simp [It.dep, deps], by simp [It.cnt, cnts], by simp [It.cnt, cnts], ?_⟩
          · simp [It.ok, form, oks, hsz]; omega
          · rw [c2]; simp [It.enc, hsz]
      rw [if_neg k2] at h
      by_cases k3 : k = 3
      · subst k3
        rw [if_pos rfl] at h
        cases hp : pcnt bs with
        | none => rw [hp] at h; cases h
        | some x =>
          obtain ⟨n, r1⟩ := x
          rw [hp] at h
          simp only [] at h
          by_cases q1 : left < n
          · rw [if_pos q1] at h; cases h
          rw [if_neg q1] at h
          cases hm : pmany (pit f) n (left - n) r1 with
          | none => rw [hm] at h; cases h
          | some y =>
            obtain ⟨l2, r2, left2⟩ := y
            rw [hm] at h
            simp only [Option.some.injEq, Prod.mk.injEq] at h
            obtain ⟨rfl, rfl, rfl⟩ := h
            obtain ⟨b1, b2, b3, b4, b5, b6⟩ := of_pmany f ih n r1 (left - n) l2 r2 left2 hm
            obtain ⟨c1, c2⟩ := of_pcnt hp
            refine ⟨?_, by simp only [It.dep]; omega, by simp only [It.cnt]; omega, by simp only [It.cnt]; omega, ?_⟩
            · simp only [It.ok, form, b2, b1]
              have hz : (⟨#[]⟩ : ByteArray).size = 0 := rfl
              simp [hz, c1]
            · rw [c2, b6]; simp [It.enc, b1]
      rw [if_neg k3] at h
      cases h
def dec (bs : List UInt8) : Option It :=
  match pit 12 4095 bs with
  | none => none
  | some (t, r, _) => if r = [] then some t else none
theorem dec_iff (bs : List UInt8) (t : It) : dec bs = some t ↔ t.ok = true ∧ t.dep ≤ 12 ∧ t.cnt ≤ 4096 ∧ bs = t.enc := by
  constructor
  · intro h
    unfold dec at h
    cases hp : pit 12 4095 bs with
    | none => rw [hp] at h; cases h
    | some x =>
      obtain ⟨t1, r, l⟩ := x
      rw [hp] at h
      simp only [] at h
      by_cases hr : r = []
      · rw [if_pos hr] at h
        simp only [Option.some.injEq] at h
        subst h hr
        obtain ⟨a1, a2, a3, a4, a5⟩ := of_pit 12 bs 4095 _ _ _ hp
        exact ⟨a1, a2, by omega, by simpa using a5⟩
      · rw [if_neg hr] at h; cases h
  · rintro ⟨a1, a2, a3, rfl⟩
    have := pit_of 12 t [] 4095 a1 a2 (by omega)
    rw [List.append_nil] at this
    unfold dec
    rw [this]
    simp
theorem own_le (k n : Int) (s : ByteArray) (m : Nat) (h : k = 2 → s.size ≤ 4096) : own k n s m ≤ 4200 := by
  have a := dgs_le (foldN n)
  have b := dgs_le s.size
  have c := dgs_le m
  unfold own
  split
  · omega
  · split
    · have := h ‹_›; omega
    · omega
mutual
theorem enc_le : ∀ (t : It), t.good = true → t.long = false → t.enc.length ≤ 4200 * t.cnt
  | .mk k n s l, hg, hl => by
    rw [good_mk, Bool.and_eq_true] at hg
    simp only [It.long, Bool.or_eq_false_iff] at hl
    have h2 := encs_le l hg.2 hl.2
    have h1 := own_le k n s l.length (fun e => by subst e; have := hl.1; simp at this; omega)
    rw [enc_length hg.1, cnt_mk]
    omega
theorem encs_le : ∀ (l : List It), goods l = true → longs l = false → (encs l).length ≤ 4200 * cnts l
  | [], _, _ => by simp [encs]
  | x :: r, hg, hl => by
    simp only [goods, Bool.and_eq_true] at hg
    simp only [longs, Bool.or_eq_false_iff] at hl
    have h1 := enc_le x hg.1 hl.1
    have h2 := encs_le r hg.2 hl.2
    simp only [encs, cnts, List.length_append]
    omega
end
end Go.Proofs.YtphclpjekpdifaaGreat.Wi.Pl
namespace Go.Proofs.YtphclpjekpdifaaGreat.Wi.Pl
set_option maxRecDepth 20000
set_option linter.unusedVariables false
end Go.Proofs.YtphclpjekpdifaaGreat.Wi.Pl
namespace Go.Proofs.YtphclpjekpdifaaGreat.Wi
open Go.RowKit
set_option maxRecDepth 20000
set_option linter.unusedVariables false
def Len64Post (n : Int) (w : World) (e : Ending) (w' : World) : Prop := ∃ r : Int, e = .returned (.int .i64 r) ∧ 0 ≤ r ∧ r ≤ 64 ∧ (r + 7) / 8 = Pl.dgs n.toNat ∧ w = w'
theorem len64_core (n : Int) (w : World) (b : Int) (x : Int) (hx : 0 ≤ x ∧ x < 256) (h : x.toNat < Pl.tab.size) (hb : 0 ≤ b ∧ b ≤ 56) (hb8 : b % 8 = 0) (hd : (Pl.dgs n.toNat : Int) = b / 8 + (if x = 0 then 0 else 1)) :
   Len64Post n w (.returned (.int .i64 (wrap64 (b + wrap64 ((Pl.tab[x.toNat]'h).toNat : Int))))) w := by
  have ht := Pl.tab_at x.toNat h
  generalize (Pl.tab[x.toNat]'h).toNat = t at ht
  have e1 : wrap64 (t : Int) = t := IntWalk.wrap64_in _ ⟨by omega, by omega⟩
  have e2 : wrap64 (b + (t : Int)) = b + t := IntWalk.wrap64_in _ ⟨by omega, by omega⟩
  refine ⟨b + t, by rw [e1, e2], by omega, by omega, ?_, rfl⟩
  rw [hd]
  split
  · omega
  · omega
theorem len64_core0 (n : Int) (w : World) (x : Int) (hx : 0 ≤ x ∧ x < 256) (h : x.toNat < Pl.tab.size) (hd : (Pl.dgs n.toNat : Int) = (if x = 0 then 0 else 1)) :
   Len64Post n w (.returned (.int .i64 (wrap64 (wrap64 ((Pl.tab[x.toNat]'h).toNat : Int))))) w := by
  have := len64_core n w 0 x hx h ⟨by omega, by omega⟩ (by omega) (by rw [hd]; omega)
  rwa [Int.zero_add] at this
set_option maxRecDepth 20000 in
theorem len64_0 (n : Int) (w : World) (h0 : 0 ≤ n) (h1 : n < 256)  : Calls Tryz.prog 171 #[.int .u64 n] w (Len64Post n w) := by
  go_enter Tryz.func171, Tryz.ntmps171
  go_wp2_with fail
  go_ret
  refine len64_core0 n w n (by omega) _ ?_
  unfold Pl.dgs
  repeat' split
  all_goals omega
set_option maxRecDepth 20000 in
theorem len64_1 (n : Int) (w : World) (h0 : 256 ≤ n) (h1 : n < 65536)  : Calls Tryz.prog 171 #[.int .u64 n] w (Len64Post n w) := by
  go_enter Tryz.func171, Tryz.ntmps171
  go_wp2_with fail
  go_ret
  refine len64_core n w _ _ (by omega) _ ⟨by omega, by omega⟩ (by omega) ?_
  unfold Pl.dgs
  repeat' split
  all_goals omega
set_option maxRecDepth 20000 in
theorem len64_2 (n : Int) (w : World) (h0 : 65536 ≤ n) (h1 : n < 16777216)  : Calls Tryz.prog 171 #[.int .u64 n] w (Len64Post n w) := by
  go_enter Tryz.func171, Tryz.ntmps171
  go_wp2_with fail
  go_ret
  refine len64_core n w _ _ (by omega) _ ⟨by omega, by omega⟩ (by omega) ?_
  unfold Pl.dgs
  repeat' split
  all_goals omega
set_option maxRecDepth 20000 in
theorem len64_3 (n : Int) (w : World) (h0 : 16777216 ≤ n) (h1 : n < 4294967296)  : Calls Tryz.prog 171 #[.int .u64 n] w (Len64Post n w) := by
  go_enter Tryz.func171, Tryz.ntmps171
  go_wp2_with fail
  go_ret
  refine len64_core n w _ _ (by omega) _ ⟨by omega, by omega⟩ (by omega) ?_
  unfold Pl.dgs
  repeat' split
  all_goals omega
set_option maxRecDepth 20000 in
theorem len64_4 (n : Int) (w : World) (h0 : 4294967296 ≤ n) (h1 : n < 1099511627776)  : Calls Tryz.prog 171 #[.int .u64 n] w (Len64Post n w) := by
  go_enter Tryz.func171, Tryz.ntmps171
  go_wp2_with fail
  go_ret
  refine len64_core n w _ _ (by omega) _ ⟨by omega, by omega⟩ (by omega) ?_
  unfold Pl.dgs
  repeat' split
  all_goals omega
set_option maxRecDepth 20000 in
theorem len64_5 (n : Int) (w : World) (h0 : 1099511627776 ≤ n) (h1 : n < 281474976710656)  : Calls Tryz.prog 171 #[.int .u64 n] w (Len64Post n w) := by
  go_enter Tryz.func171, Tryz.ntmps171
  go_wp2_with fail
  go_ret
  refine len64_core n w _ _ (by omega) _ ⟨by omega, by omega⟩ (by omega) ?_
  unfold Pl.dgs
  repeat' split
  all_goals omega
set_option maxRecDepth 20000 in
theorem len64_6 (n : Int) (w : World) (h0 : 281474976710656 ≤ n) (h1 : n < 72057594037927936)  : Calls Tryz.prog 171 #[.int .u64 n] w (Len64Post n w) := by
  go_enter Tryz.func171, Tryz.ntmps171
  go_wp2_with fail
  go_ret
  refine len64_core n w _ _ (by omega) _ ⟨by omega, by omega⟩ (by omega) ?_
  unfold Pl.dgs
  repeat' split
  all_goals omega
set_option maxRecDepth 20000 in
theorem len64_7 (n : Int) (w : World) (h0 : 72057594037927936 ≤ n) (h1 : n ≤ 18446744073709551615) : Calls Tryz.prog 171 #[.int .u64 n] w (Len64Post n w) := by
  go_enter Tryz.func171, Tryz.ntmps171
  go_wp2_with fail
  go_ret
  refine len64_core n w _ _ (by omega) _ ⟨by omega, by omega⟩ (by omega) ?_
  unfold Pl.dgs
  repeat' split
  all_goals omega
theorem len64_any (n : Int) (w : World) (h0 : 0 ≤ n) (h1 : n ≤ 18446744073709551615) : Calls Tryz.prog 171 #[.int .u64 n] w (Len64Post n w) := by
  by_cases c1 : n < 256
  · exact len64_0 n w h0 c1
  by_cases c2 : n < 65536
  · exact len64_1 n w (by omega) c2
  by_cases c3 : n < 16777216
  · exact len64_2 n w (by omega) c3
  by_cases c4 : n < 4294967296
  · exact len64_3 n w (by omega) c4
  by_cases c5 : n < 1099511627776
  · exact len64_4 n w (by omega) c5
  by_cases c6 : n < 281474976710656
  · exact len64_5 n w (by omega) c6
  by_cases c7 : n < 72057594037927936
  · exact len64_6 n w (by omega) c7
  exact len64_7 n w (by omega) h1
def DigitsPost (n : Int) (w : World) (e : Ending) (w' : World) : Prop := e = .returned (.int .i64 (Pl.dgs n.toNat)) ∧ w = w'
theorem digits_any (n : Int) (w : World) (h0 : 0 ≤ n) (h1 : n ≤ 18446744073709551615) : Calls Tryz.prog 205 #[.int .u64 n] w (DigitsPost n w) := by
  go_enter Tryz.func205, Tryz.ntmps205
  go_wp2_with (go_at_call 171; refine (len64_any _ _ (by omega) (by omega)).mono ?_; rintro e w' ⟨r, rfl, hr0, hr1, hr2, rfl⟩)
  go_ret
  exact ⟨by rw [← hr2]; rfl, rfl⟩
theorem countSize_any (n : Int) (w : World) (h0 : 0 ≤ n) (h1 : n ≤ 18446744073709551615) : Calls Tryz.prog 214 #[.int .u64 n] w fun e w' => e = .returned (.int .i64 (1 + Pl.dgs n.toNat)) ∧ w = w' := by
  have hd := Pl.dgs_le n.toNat
  go_enter Tryz.func214, Tryz.ntmps214
  go_wp2_with (go_at_call 205; refine (digits_any _ _ (by omega) (by omega)).mono ?_; rintro e w' ⟨rfl, rfl⟩)
  go_ret
  exact ⟨rfl, rfl⟩
theorem xor_ones (x : Nat) (hx : x < 18446744073709551616) : x ^^^ 18446744073709551615 = 18446744073709551615 - x := by
  have h : (BitVec.ofNat 64 x ^^^ BitVec.allOnes 64).toNat = (~~~ (BitVec.ofNat 64 x)).toNat := by rw [BitVec.xor_allOnes]
  rw [BitVec.toNat_xor, BitVec.toNat_not, BitVec.toNat_ofNat, BitVec.toNat_allOnes, Nat.mod_eq_of_lt (by simpa using hx)] at h
  simpa using h
theorem fold_value (n : Int) (h0 : -9223372036854775808 ≤ n) (h1 : n ≤ 9223372036854775807) :
    bits BinOp.xor IntKind.u64 (IntKind.u64.wrap (IntKind.u64.wrap n * 2)) (IntKind.u64.wrap (n / 9223372036854775808)) = (Pl.foldN n : Int) := by
  simp only [IntKind.wrap_u64]
  unfold Pl.foldN
  by_cases c : n < 0
  · rw [if_pos c]
    obtain ⟨x, hx⟩ : ∃ x : Nat, n % 18446744073709551616 * 2 % 18446744073709551616 = (x : Int) := ⟨(n % 18446744073709551616 * 2 % 18446744073709551616).toNat, by omega⟩
    have e : n / 9223372036854775808 % 18446744073709551616 = ((18446744073709551615 : Nat) : Int) := by omega
    rw [hx, e, u64_xor_nat _ _ (by omega) (by omega), xor_ones x (by omega)]
    omega
  · rw [if_neg c]
    obtain ⟨x, hx⟩ : ∃ x : Nat, n % 18446744073709551616 * 2 % 18446744073709551616 = (x : Int) := ⟨(n % 18446744073709551616 * 2 % 18446744073709551616).toNat, by omega⟩
    have e : n / 9223372036854775808 % 18446744073709551616 = ((0 : Nat) : Int) := by omega
    rw [hx, e, u64_xor_nat _ _ (by omega) (by omega), Nat.xor_zero]
    omega
theorem foldN_lt (n : Int) (h0 : -9223372036854775808 ≤ n) (h1 : n ≤ 9223372036854775807) : (Pl.foldN n : Int) ≤ 18446744073709551615 := by
  unfold Pl.foldN; split <;> omega
set_option maxRecDepth 20000 in
theorem fold_any (n : Int) (w : World) (h0 : -9223372036854775808 ≤ n) (h1 : n ≤ 9223372036854775807) :
    Calls Tryz.prog 179 #[.int .i64 n] w fun e w' => e = .returned (.int .u64 (Pl.foldN n)) ∧ w = w' := by
  go_enter Tryz.func179, Tryz.ntmps179
  go_wp2_with fail
  go_ret
  exact ⟨by rw [← fold_value n h0 h1]; rfl, rfl⟩
def unfoldI (n : Int) : Int := if n % 2 = 0 then n / 2 else -(n / 2) - 1
theorem unfold_value (n : Int) (h0 : 0 ≤ n) (h1 : n ≤ 18446744073709551615) :
    bits BinOp.xor IntKind.i64 (n / 2) (wrap64 (-wrap64 (bits BinOp.and IntKind.u64 n 1))) = unfoldI n := by
  obtain ⟨m, rfl⟩ := Int.eq_ofNat_of_zero_le h0
  have e : bits BinOp.and IntKind.u64 (m : Int) 1 = ((m % 2 : Nat) : Int) := by
    have := u64_and_nat m 1 (by omega) (by omega)
    rw [Nat.and_one_is_mod] at this
    exact_mod_cast this
  have e1 : wrap64 ((m % 2 : Nat) : Int) = ((m % 2 : Nat) : Int) := IntWalk.wrap64_in _ ⟨by omega, by omega⟩
  have e2 : wrap64 (-((m % 2 : Nat) : Int)) = -((m % 2 : Nat) : Int) := IntWalk.wrap64_in _ ⟨by omega, by omega⟩
  rw [e, e1, e2]
  have hx : ((m : Int) / 2) = ((m / 2 : Nat) : Int) := by omega
  rw [hx]
  have hlt : m / 2 < 9223372036854775808 := by omega
  unfold unfoldI
  by_cases c : m % 2 = 0
  · rw [if_pos (by omega), c]
    show IntKind.i64.wrap ((BitVec.ofInt 64 ((m / 2 : Nat) : Int) ^^^ BitVec.ofInt 64 (-((0:Nat):Int))).toNat : Int) = _
    have h0 : BitVec.ofInt 64 (-((0:Nat):Int)) = 0#64 := by decide
    rw [h0, BitVec.xor_zero, BitVec.ofInt_natCast, BitVec.toNat_ofNat, Nat.mod_eq_of_lt (by omega), IntKind.wrap_i64]
    omega
  · have c1 : m % 2 = 1 := by omega
    rw [if_neg (by omega), c1]
    show IntKind.i64.wrap ((BitVec.ofInt 64 ((m / 2 : Nat) : Int) ^^^ BitVec.ofInt 64 (-((1:Nat):Int))).toNat : Int) = _
    have h0 : BitVec.ofInt 64 (-((1:Nat):Int)) = BitVec.allOnes 64 := by decide
    rw [h0, BitVec.xor_allOnes, BitVec.toNat_not, BitVec.ofInt_natCast, BitVec.toNat_ofNat, Nat.mod_eq_of_lt (by omega), IntKind.wrap_i64]
    omega
set_option maxRecDepth 20000 in
theorem unfold_any (n : Int) (w : World) (h0 : 0 ≤ n) (h1 : n ≤ 18446744073709551615) :
    Calls Tryz.prog 133 #[.int .u64 n] w fun e w' => e = .returned (.int .i64 (unfoldI n)) ∧ w = w' := by
  go_enter Tryz.func133, Tryz.ntmps133
  go_wp2_with fail
  go_ret
  exact ⟨by rw [← unfold_value n h0 h1]; rfl, rfl⟩
end Go.Proofs.YtphclpjekpdifaaGreat.Wi
namespace Go.Proofs.YtphclpjekpdifaaGreat.Wi
open Go.RowKit
set_option maxRecDepth 20000
set_option linter.unusedVariables false
def vB (l : List UInt8) : List Value := l.map fun b => .int .u8 (b.toNat : Int)
theorem vB_append (a b : List UInt8) : vB (a ++ b) = vB a ++ vB b := by simp [vB]
theorem vB_one (a : UInt8) : vB [a] = [.int .u8 (a.toNat : Int)] := rfl
theorem info5 : (Tryz.prog.info? 5).map (fun i => (i.zero, i.size, i.bytes)) = some (some (.int .u8 0), 1, 1) := by kernel_rfl
def OwnB (w : World) (base : Nat) (v : Value) (l : List UInt8) : Prop := w.ownsRow base 5 1 v l.length (vB l)
theorem OwnB.below {w w' : World} {base : Nat} {v : Value} {l : List UInt8} (h : OwnB w base v l) (hb : Below w.heap.size w w') : OwnB w' base v l := by
  refine ⟨h.1, ?_⟩
  rcases h.2 with hn | ⟨g, cap, cur, rfl, hg, hgg, r⟩
  · exact .inl hn
  · exact .inr ⟨g, cap, cur, rfl, hg, by rw [hb.block g (Array.getElem?_eq_some_iff.1 hgg).1]; exact hgg, r⟩
theorem wp_app1 {ops : Array Oper} {rest : List Oper} {o : Oper} {a : Act} {Q : Exit → Act → World → Prop} {w : World} (hgd : o.guard = none) (s x : Operand)
    (ho : o.op = .call { callee := .builtin .append, args := #[s, x], argTypes := #[114, 114] })
    (base : Nat) (v : Value) (l : List UInt8) (hs : a.eval s = v) (hown : OwnB w base v l) (ad : Addr) (c : Nat) (hx : a.eval x = .slice (some ad) 1 c)
    (q : Int) (hcell : w.cell? ad = some (.int .u8 q)) (hq : 0 ≤ q ∧ q < 256) (hlen : l.length ≤ 70368744177664) (hbase : base ≤ w.heap.size)
    (h : ∀ v' w', OwnB w' base v' (l ++ [UInt8.ofNat q.toNat]) → Below base w w' → wpList Tryz.prog ops Q rest (a.put o.dst v') w') : wpList Tryz.prog ops Q (o :: rest) a w := by
  obtain ⟨i5, hi5, hz0, hz1, hz2⟩ := info_parts info5
  refine wpList_append_own w hgd s x 114 ho base 5 i5 _ 1 1 Tryz.underlying114 hi5 hz0 hz1 hz2 rfl (by omega) v l.length (vB l) hs hown ad 1 c [.int .u8 q] hx rfl ?_ ?_ (by simp only [maxLen]; omega) (by omega) hbase ?_
  · intro j u hu
    match j, hu with
    | 0, hu =>
      simp only [List.getElem?_cons_zero, Option.some.injEq] at hu
      subst hu
      simpa [Addr.add] using hcell
    | j + 1, hu => simp at hu
  · intro u hu
    simp only [List.mem_singleton] at hu
    subst hu
    rfl
  · intro v' w' h2 h3 _
    have e : [Value.int .u8 q] = vB [UInt8.ofNat q.toNat] := by
      have : ((UInt8.ofNat q.toNat).toNat : Int) = q := by
        rw [UInt8.toNat_ofNat']; omega
      rw [vB_one, this]
    refine h v' w' ?_ ((Below.refl _ _).grown h3 hbase fun k hk => (hown.lt k hk).1)
    unfold OwnB
    rw [vB_append, ← e, List.length_append]
    exact h2
def AppPost (base : Nat) (r : List UInt8) (w : World) (e : Ending) (w' : World) : Prop := ∃ v', e = .returned v' ∧ OwnB w' base v' r ∧ Below base w w'
set_option maxRecDepth 20000 in
theorem appendCount_any (base : Nat) (v : Value) (l : List UInt8) (c : Int) (w : World) (hown : OwnB w base v l) (hn : l.length ≤ 1099511627776) (hb : base ≤ w.heap.size) (h0 : 0 ≤ c) (h1 : c ≤ 18446744073709551615) :
    Calls Tryz.prog 178 #[v, .int .u64 c] w (AppPost base (l ++ Pl.cntB c.toNat) w) := by
  have hd := Pl.dgs_le c.toNat
  go_enter Tryz.func178, Tryz.ntmps178
  go_wp2_with (first
    | (go_at_call 205; refine (digits_any _ _ (by omega) (by omega)).mono ?_; rintro e w' ⟨rfl, rfl⟩)
    | (at_builtin; (refine wp_app1 rfl (.tmp 9) (.tmp 12) rfl base v l rfl (hown.below ((Below.refl _ _).alloc (Nat.le_refl _) _)) _ _ rfl _ (by simp [go_sem]; rfl) ⟨by omega, by omega⟩ (by omega) (by simp; omega) ?_); intro v1 w1 hown1 hb1))
  have hw1 : Below base w w1 := ((Below.refl _ _).alloc (by omega) _).trans hb1
  have hs1 := hw1.size
  have Hb := Lib.hid hb1
  clear hb1
  go_loopw [0, 6] (fun u i wr => ∃ j : Nat, j ≤ Pl.dgs c.toNat ∧ i = .int .i64 ((Pl.dgs c.toNat : Int) - 1 - j) ∧ OwnB wr base u (l ++ UInt8.ofNat (Pl.dgs c.toNat) :: (Pl.be (Pl.dgs c.toNat) c.toNat).take j) ∧ Below base w wr)
    (fun _ i _ => (intOf i + 1).toNat)
  case atStart => exact ⟨0, by omega, by simp, by simpa using hown1, hw1⟩
  case round =>
    obtain ⟨j, hj, rfl, hownr, hbr⟩ := hrel
    have hbs := hbr.size
    by_cases hlt : j < Pl.dgs c.toNat
    · go_wp2_with (at_builtin; (refine wp_app1 rfl (.tmp 20) (.tmp 26) rfl base _ _ rfl (hownr.below ((Below.refl _ _).alloc (Nat.le_refl _) _)) _ _ rfl _ (by simp [go_sem]; rfl) ⟨by omega, by omega⟩ (by simp; omega) (by simp; omega) ?_); intro v2 w2 hown2 hb2)
      go_roundw
      case rel =>
        refine ⟨j + 1, by omega, by go_num, ?_, hbr.trans (((Below.refl _ _).alloc (by omega) _).trans hb2)⟩
        rw [Pl.be_take_succ _ _ _ hlt, ← Pl.shift_byte c h0]
        simpa using hown2
      case measure => simp [intOf]; omega
    · go_wp2
      go_ret
      have ej : j = Pl.dgs c.toNat := by omega
      subst ej
      refine ⟨_, rfl, ?_, hbr⟩
      rw [List.take_of_length_le (by rw [Pl.be_length]; omega)] at hownr
      exact hownr
end Go.Proofs.YtphclpjekpdifaaGreat.Wi
namespace Go.Proofs.YtphclpjekpdifaaGreat.Wi
open Go.RowKit
set_option maxRecDepth 20000
set_option linter.unusedVariables false
def mean (k n : Int) (s : ByteArray) (m : Nat) (sl : Value) : Value :=
  if k = 1 ∧ s.size = 0 ∧ m = 0 then .iface 2 (.int .i64 n) else if k = 2 ∧ n = 0 ∧ m = 0 then .iface 9 (.string s)
  else if k = 3 ∧ n = 0 ∧ s.size = 0 then .iface 109 sl else .nilIface
def RetBelow (v : Value) (w : World) (e : Ending) (w' : World) : Prop := e = .returned v ∧ Below w.heap.size w w'
theorem size_toList (s : ByteArray) : s.size = s.toList.length := by rw [ByteArray.toList_eq]; simp only [Array.length_toList]; rfl
theorem empty_of_size {s : ByteArray} (h : s.size = 0) : s.toList = [] := List.eq_nil_of_length_eq_zero (by rw [← size_toList]; exact h)
theorem isEmpty_of_size {s : ByteArray} (h : ¬ s.size = 0) : s.toList.isEmpty = false := by
  cases hs : s.toList with
  | nil => exact absurd (by rw [size_toList, hs]; rfl) h
  | cons x r => rfl
set_option maxRecDepth 20000 in
theorem meaning_1 (n : Int) (s : ByteArray) (a : Option Addr) (m c : Nat) (w : World) (hs : s.toList = []) :
    Calls Tryz.prog 177 #[.agg #[.int .i64 1, .int .i64 n, .string s, .slice a 0 c]] w (RetBelow (.iface 2 (.int .i64 n)) w) := by
  have hs' : (!s.toList.isEmpty) = false := by simp [hs]
  go_enter Tryz.func177, Tryz.ntmps177
  go_wp2_with fail
  go_ret
  exact ⟨rfl, (Below.refl _ _).alloc (Nat.le_refl _) _⟩
set_option maxRecDepth 20000 in
theorem meaning_1s (n : Int) (s : ByteArray) (a : Option Addr) (m c : Nat) (w : World) (hs : s.toList.isEmpty = false) :
    Calls Tryz.prog 177 #[.agg #[.int .i64 1, .int .i64 n, .string s, .slice a m c]] w (RetBelow (.nilIface) w) := by
  go_enter Tryz.func177, Tryz.ntmps177
  go_wp2_with fail
  go_ret
  exact ⟨rfl, (Below.refl _ _).alloc (Nat.le_refl _) _⟩
set_option maxRecDepth 20000 in
theorem meaning_1m (n : Int) (s : ByteArray) (a : Option Addr) (m c : Nat) (w : World) (hs : s.toList = []) (hm : ((m : Int) == 0) = false) :
    Calls Tryz.prog 177 #[.agg #[.int .i64 1, .int .i64 n, .string s, .slice a m c]] w (RetBelow (.nilIface) w) := by
  have hs' : (!s.toList.isEmpty) = false := by simp [hs]
  go_enter Tryz.func177, Tryz.ntmps177
  go_wp2_with fail
  go_ret
  exact ⟨rfl, (Below.refl _ _).alloc (Nat.le_refl _) _⟩
set_option maxRecDepth 20000 in
theorem meaning_2 (n : Int) (s : ByteArray) (a : Option Addr) (m c : Nat) (w : World) (hn : (n == 0) = true) :
    Calls Tryz.prog 177 #[.agg #[.int .i64 2, .int .i64 n, .string s, .slice a 0 c]] w (RetBelow (.iface 9 (.string s)) w) := by
  obtain rfl : n = 0 := by simpa using hn
  clear hn
  go_enter Tryz.func177, Tryz.ntmps177
  go_wp2_with fail
  go_ret
  exact ⟨rfl, (Below.refl _ _).alloc (Nat.le_refl _) _⟩
set_option maxRecDepth 20000 in
theorem meaning_2n (n : Int) (s : ByteArray) (a : Option Addr) (m c : Nat) (w : World) (hn : (n == 0) = false) :
    Calls Tryz.prog 177 #[.agg #[.int .i64 2, .int .i64 n, .string s, .slice a m c]] w (RetBelow (.nilIface) w) := by
  go_enter Tryz.func177, Tryz.ntmps177
  go_wp2_with fail
  go_ret
  exact ⟨rfl, (Below.refl _ _).alloc (Nat.le_refl _) _⟩
set_option maxRecDepth 20000 in
theorem meaning_2m (n : Int) (s : ByteArray) (a : Option Addr) (m c : Nat) (w : World) (hn : (n == 0) = true) (hm : ((m : Int) == 0) = false) :
    Calls Tryz.prog 177 #[.agg #[.int .i64 2, .int .i64 n, .string s, .slice a m c]] w (RetBelow (.nilIface) w) := by
  obtain rfl : n = 0 := by simpa using hn
  clear hn
  go_enter Tryz.func177, Tryz.ntmps177
  go_wp2_with fail
  go_ret
  exact ⟨rfl, (Below.refl _ _).alloc (Nat.le_refl _) _⟩
set_option maxRecDepth 20000 in
theorem meaning_3 (n : Int) (s : ByteArray) (a : Option Addr) (m c : Nat) (w : World) (hn : (n == 0) = true) (hs : s.toList = []) :
    Calls Tryz.prog 177 #[.agg #[.int .i64 3, .int .i64 n, .string s, .slice a m c]] w (RetBelow (.iface 109 (.slice a m c)) w) := by
  obtain rfl : n = 0 := by simpa using hn
  clear hn
  have hs' : (!s.toList.isEmpty) = false := by simp [hs]
  go_enter Tryz.func177, Tryz.ntmps177
  go_wp2_with fail
  go_ret
  exact ⟨rfl, (Below.refl _ _).alloc (Nat.le_refl _) _⟩
set_option maxRecDepth 20000 in
theorem meaning_3n (n : Int) (s : ByteArray) (a : Option Addr) (m c : Nat) (w : World) (hn : (n == 0) = false) :
    Calls Tryz.prog 177 #[.agg #[.int .i64 3, .int .i64 n, .string s, .slice a m c]] w (RetBelow (.nilIface) w) := by
  go_enter Tryz.func177, Tryz.ntmps177
  go_wp2_with fail
  go_ret
  exact ⟨rfl, (Below.refl _ _).alloc (Nat.le_refl _) _⟩
set_option maxRecDepth 20000 in
theorem meaning_3s (n : Int) (s : ByteArray) (a : Option Addr) (m c : Nat) (w : World) (hn : (n == 0) = true) (hs : s.toList.isEmpty = false) :
    Calls Tryz.prog 177 #[.agg #[.int .i64 3, .int .i64 n, .string s, .slice a m c]] w (RetBelow (.nilIface) w) := by
  obtain rfl : n = 0 := by simpa using hn
  clear hn
  go_enter Tryz.func177, Tryz.ntmps177
  go_wp2_with fail
  go_ret
  exact ⟨rfl, (Below.refl _ _).alloc (Nat.le_refl _) _⟩
set_option maxRecDepth 20000 in
theorem meaning_0 (k n : Int) (s : ByteArray) (a : Option Addr) (m c : Nat) (w : World) (h1 : (k == 1) = false) (h2 : (k == 2) = false) (h3 : (k == 3) = false) :
    Calls Tryz.prog 177 #[.agg #[.int .i64 k, .int .i64 n, .string s, .slice a m c]] w (RetBelow (.nilIface) w) := by
  go_enter Tryz.func177, Tryz.ntmps177
  go_wp2_with fail
  go_ret
  exact ⟨rfl, (Below.refl _ _).alloc (Nat.le_refl _) _⟩
theorem meaning_any (k n : Int) (s : ByteArray) (a : Option Addr) (m c : Nat) (w : World) :
    Calls Tryz.prog 177 #[.agg #[.int .i64 k, .int .i64 n, .string s, .slice a m c]] w (RetBelow (mean k n s m (.slice a m c)) w) := by
  by_cases h1 : k = 1
  · subst h1
    by_cases hs : s.size = 0
    · by_cases hm : m = 0
      · subst hm; rw [mean, if_pos ⟨rfl, hs, rfl⟩]; exact meaning_1 n s a 0 c w (empty_of_size hs)
      · rw [mean, if_neg (by simp [hm]), if_neg (by simp), if_neg (by simp)]
        exact meaning_1m n s a m c w (empty_of_size hs) (by simp; omega)
    · rw [mean, if_neg (by simp [hs]), if_neg (by simp), if_neg (by simp)]
      exact meaning_1s n s a m c w (isEmpty_of_size hs)
  by_cases h2 : k = 2
  · subst h2
    rw [mean, if_neg (by simp)]
    by_cases hn : n = 0
    · by_cases hm : m = 0
      · subst hm; rw [if_pos ⟨rfl, hn, rfl⟩]; exact meaning_2 n s a 0 c w (by simpa using hn)
      · rw [if_neg (by simp [hm]), if_neg (by simp)]; exact meaning_2m n s a m c w (by simpa using hn) (by simp; omega)
    · rw [if_neg (by simp [hn]), if_neg (by simp)]; exact meaning_2n n s a m c w (by simpa using hn)
  by_cases h3 : k = 3
  · subst h3
    rw [mean, if_neg (by simp), if_neg (by simp)]
    by_cases hn : n = 0
    · by_cases hs : s.size = 0
      · rw [if_pos ⟨rfl, hn, hs⟩]; exact meaning_3 n s a m c w (by simpa using hn) (empty_of_size hs)
      · rw [if_neg (by simp [hs])]; exact meaning_3s n s a m c w (by simpa using hn) (isEmpty_of_size hs)
    · rw [if_neg (by simp [hn])]; exact meaning_3n n s a m c w (by simpa using hn)
  rw [mean, if_neg (by simp [h1]), if_neg (by simp [h2]), if_neg (by simp [h3])]
  exact meaning_0 k n s a m c w (by simpa using h1) (by simpa using h2) (by simpa using h3)
end Go.Proofs.YtphclpjekpdifaaGreat.Wi
namespace Go.Proofs.YtphclpjekpdifaaGreat.Wi
open Go.RowKit
set_option maxRecDepth 20000
set_option linter.unusedVariables false
def Tal (w : World) (g : Nat) (i b : Int) (d : Bool) : Prop := w.heap[g]? = some (.cells #[.int .i64 i, .int .i64 b, .bool d] 260 (0, 0))
theorem Tal.c0 {w : World} {g : Nat} {i b : Int} {d : Bool} (h : Tal w g i b d) : w.cell? ⟨g, 0, none⟩ = some (.int .i64 i) := cell_of_row w g 0 _ _ _ h
theorem Tal.c1 {w : World} {g : Nat} {i b : Int} {d : Bool} (h : Tal w g i b d) : w.cell? ⟨g, 1, none⟩ = some (.int .i64 b) := cell_of_row w g 1 _ _ _ h
theorem Tal.c2 {w : World} {g : Nat} {i b : Int} {d : Bool} (h : Tal w g i b d) : w.cell? ⟨g, 2, none⟩ = some (.bool d) := cell_of_row w g 2 _ _ _ h
theorem Tal.fr {w : World} {g : Nat} {i b : Int} {d : Bool} (h : Tal w g i b d) (k : Nat) : w.frozen? ⟨g, k, none⟩ = false := by
  unfold Tal at h; simp [World.frozen?, h]
theorem heap_set (w : World) (g k : Nat) (v : Value) (cs : Array Value) (t : TypeId) (h : w.heap[g]? = some (.cells cs t (0, 0))) :
    (w.setCell ⟨g, k, none⟩ v).heap[g]? = some (.cells (cs.setIfInBounds k v) t (0, 0)) := by
  simp [World.setCell, Array.getElem?_modify, h]
theorem grownBy_set (w : World) (g k : Nat) (v : Value) : w.grownBy (w.setCell ⟨g, k, none⟩ v) (some g) :=
  ⟨rfl, rfl, rfl, by simp [World.setCell], fun j _ hne => Below.heap_setCell w _ v j (fun e => hne (by rw [e]))⟩
theorem grownBy_drew {w w' : World} {r : Option Nat} (h : w.grownBy w' r) : w.grownBy w'.drew r := ⟨h.os, h.tape, h.output, h.size, h.block⟩
theorem grownBy_trans {a b c : World} {r : Option Nat} (h : a.grownBy b r) (k : b.grownBy c r) : a.grownBy c r :=
  ⟨k.os.trans h.os, k.tape.trans h.tape, k.output.trans h.output, Nat.le_trans h.size k.size, fun i hi hne => (k.block i (Nat.lt_of_lt_of_le hi h.size) hne).trans (h.block i hi hne)⟩
theorem grownBy_below {a b : World} (h : Below a.heap.size a b) (r : Option Nat) : a.grownBy b r := ⟨h.os, h.tape, h.output, h.size, fun i hi _ => h.block i hi⟩
theorem Tal.set0 {w : World} {g : Nat} {i b : Int} {d : Bool} (h : Tal w g i b d) (i' : Int) : Tal (w.setCell ⟨g, 0, none⟩ (.int .i64 i')) g i' b d := heap_set w g 0 _ _ _ h
theorem Tal.set1 {w : World} {g : Nat} {i b : Int} {d : Bool} (h : Tal w g i b d) (b' : Int) : Tal (w.setCell ⟨g, 1, none⟩ (.int .i64 b')) g i b' d := heap_set w g 1 _ _ _ h
theorem Tal.set2 {w : World} {g : Nat} {i b : Int} {d : Bool} (h : Tal w g i b d) (d' : Bool) : Tal (w.setCell ⟨g, 2, none⟩ (.bool d')) g i b d' := heap_set w g 2 _ _ _ h
def WeighPost (g : Nat) (i b : Int) (d : Bool) (w : World) (e : Ending) (w' : World) : Prop := e = .returned (.tuple #[]) ∧ Tal w' g i b d ∧ w.grownBy w' (some g)
theorem foldN_lt' (n : Int) (h0 : -9223372036854775808 ≤ n) (h1 : n ≤ 9223372036854775807) : 0 ≤ (Pl.foldN n : Int) ∧ (Pl.foldN n : Int) ≤ 18446744073709551615 := ⟨by omega, foldN_lt n h0 h1⟩
theorem ta22 (n : Int) (w : World) : (Instr.typeAssert (.iface 2 (.int .i64 n)) 20 2 true).run Tryz.prog w = .ok (.tuple #[.int .i64 n, .bool true]) w := by kernel_rfl
theorem ta92 (s : ByteArray) (w : World) : (Instr.typeAssert (.iface 9 (.string s)) 20 2 true).run Tryz.prog w = .ok (.tuple #[.int .i64 0, .bool false]) w := by kernel_rfl
theorem ta99 (s : ByteArray) (w : World) : (Instr.typeAssert (.iface 9 (.string s)) 20 9 true).run Tryz.prog w = .ok (.tuple #[.string s, .bool true]) w := by kernel_rfl
theorem ta242 (a : Option Addr) (m c : Nat) (w : World) : (Instr.typeAssert (.iface 109 (.slice a m c)) 20 2 true).run Tryz.prog w = .ok (.tuple #[.int .i64 0, .bool false]) w := by kernel_rfl
theorem ta249 (a : Option Addr) (m c : Nat) (w : World) : (Instr.typeAssert (.iface 109 (.slice a m c)) 20 9 true).run Tryz.prog w = .ok (.tuple #[.string ⟨#[]⟩, .bool false]) w := by kernel_rfl
theorem ta2424 (a : Option Addr) (m c : Nat) (w : World) : (Instr.typeAssert (.iface 109 (.slice a m c)) 20 109 true).run Tryz.prog w = .ok (.tuple #[.slice a m c, .bool true]) w := by kernel_rfl
theorem tan2 (w : World) : (Instr.typeAssert .nilIface 20 2 true).run Tryz.prog w = .ok (.tuple #[.int .i64 0, .bool false]) w := by kernel_rfl
theorem tan9 (w : World) : (Instr.typeAssert .nilIface 20 9 true).run Tryz.prog w = .ok (.tuple #[.string ⟨#[]⟩, .bool false]) w := by kernel_rfl
theorem tan24 (w : World) : (Instr.typeAssert .nilIface 20 109 true).run Tryz.prog w = .ok (.tuple #[.slice none 0 0, .bool false]) w := by kernel_rfl
set_option maxRecDepth 20000 in
theorem weigh_num (g : Nat) (i b : Int) (d : Bool) (n : Int) (w : World) (ht : Tal w g i b d) (hb : 0 ≤ b ∧ b ≤ 1099511627776) (h0 : -9223372036854775808 ≤ n) (h1 : n ≤ 9223372036854775807) :
    Calls Tryz.prog 204 #[.pointer (some ⟨g, 0, none⟩), .iface 2 (.int .i64 n)] w (WeighPost g i (b + (1 + (1 + Pl.dgs (Pl.foldN n)))) d w) := by
  have c0 := ht.c0
  have c1 := ht.c1
  have f1 := ht.fr 1
  have hd := Pl.dgs_le (Pl.foldN n)
  have hf := foldN_lt' n h0 h1
  have hfc : ∀ W : World, Calls Tryz.prog 179 #[.int .i64 n] W (fun e w' => e = .returned (.int .u64 (Pl.foldN n)) ∧ w' = W) := fun W => (fold_any n W h0 h1).mono fun _ _ h => ⟨h.1, h.2.symm⟩
  have hcc : ∀ W : World, Calls Tryz.prog 214 #[.int .u64 (Pl.foldN n)] W (fun e w' => e = .returned (.int .i64 (1 + Pl.dgs (Pl.foldN n))) ∧ w' = W) := fun W => (countSize_any _ W hf.1 hf.2).mono fun _ _ h => ⟨by simpa using h.1, h.2.symm⟩
  have HF := Lib.hid hfc
  clear hfc
  generalize Pl.foldN n = F at *
  have HT := Lib.hid ht
  have HC := Lib.hid hcc
  clear ht hcc
  have t1 := fun W => ta22 n W
  go_enter Tryz.func204, Tryz.ntmps204
  go_wp2_with fail
  go_still_tail 11, (by kernel_rfl)
  still_call (HF.out _)
  repeat still_step
  still_call (HC.out _)
  repeat still_step
  refine wpStill_nil ?_
  change wpList _ _ _ _ _ w.drew
  go_wp2_with fail
  go_end0
  exact ⟨rfl, HT.out.set1 _, grownBy_drew (grownBy_set _ _ _ _)⟩
set_option maxRecDepth 20000 in
theorem weigh_text (g : Nat) (i b : Int) (d : Bool) (s : ByteArray) (w : World) (ht : Tal w g i b d) (hb : 0 ≤ b ∧ b ≤ 1099511627776) (hs : s.size ≤ 140737488355328) :
    Calls Tryz.prog 204 #[.pointer (some ⟨g, 0, none⟩), .iface 9 (.string s)] w (WeighPost g i (b + (1 + (1 + Pl.dgs s.size) + s.size)) d w) := by
  have c0 := ht.c0
  have c1 := ht.c1
  have f1 := ht.fr 1
  have hd := Pl.dgs_le s.size
  have hcc : ∀ W : World, Calls Tryz.prog 214 #[.int .u64 (s.size : Nat)] W (fun e w' => e = .returned (.int .i64 (1 + Pl.dgs s.size)) ∧ w' = W) := fun W => (countSize_any _ W (by omega) (by omega)).mono fun _ _ h => ⟨by simpa using h.1, h.2.symm⟩
  have HT := Lib.hid ht
  have HC := Lib.hid hcc
  clear ht hcc
  have hw : IntKind.u64.wrap (s.size : Int) = s.size := IntWalk.u64_in _ ⟨by omega, by omega⟩
  have t1 := fun W => ta92 s W
  have t2 := fun W => ta99 s W
  go_enter Tryz.func204, Tryz.ntmps204
  go_wp2_with fail
  go_still_tail 15, (by kernel_rfl)
  still_call (HC.out _)
  repeat still_step
  refine wpStill_nil ?_
  change wpList _ _ _ _ _ w.drew
  go_wp2_with fail
  go_end0
  exact ⟨rfl, HT.out.set1 _, grownBy_drew (grownBy_set _ _ _ _)⟩
set_option maxRecDepth 20000 in
theorem weigh_list (g : Nat) (i b : Int) (d : Bool) (a : Option Addr) (m c : Nat) (w : World) (ht : Tal w g i b d) (hb : 0 ≤ b ∧ b ≤ 1099511627776) (hs : m ≤ 9223372036854775807) :
    Calls Tryz.prog 204 #[.pointer (some ⟨g, 0, none⟩), .iface 109 (.slice a m c)] w (WeighPost g i (b + (1 + (1 + Pl.dgs m))) d w) := by
  have c0 := ht.c0
  have c1 := ht.c1
  have f1 := ht.fr 1
  have hd := Pl.dgs_le m
  have hcc : ∀ W : World, Calls Tryz.prog 214 #[.int .u64 (m : Nat)] W (fun e w' => e = .returned (.int .i64 (1 + Pl.dgs m)) ∧ w' = W) := fun W => (countSize_any _ W (by omega) (by omega)).mono fun _ _ h => ⟨by simpa using h.1, h.2.symm⟩
  have HT := Lib.hid ht
  have HC := Lib.hid hcc
  clear ht hcc
  have hw : IntKind.u64.wrap (m : Int) = m := IntWalk.u64_in _ ⟨by omega, by omega⟩
  have t1 := fun W => ta242 a m c W
  have t2 := fun W => ta249 a m c W
  have t3 := fun W => ta2424 a m c W
  go_enter Tryz.func204, Tryz.ntmps204
  go_wp2_with fail
  go_still_tail 12, (by kernel_rfl)
  still_call (HC.out _)
  repeat still_step
  refine wpStill_nil ?_
  change wpList _ _ _ _ _ w.drew
  go_wp2_with fail
  go_end0
  exact ⟨rfl, HT.out.set1 _, grownBy_drew (grownBy_set _ _ _ _)⟩
set_option maxRecDepth 20000 in
theorem weigh_none (g : Nat) (i b : Int) (d : Bool) (w : World) (ht : Tal w g i b d) : Calls Tryz.prog 204 #[.pointer (some ⟨g, 0, none⟩), .nilIface] w (WeighPost g i b true w) := by
  have c2 := ht.c2
  have f2 := ht.fr 2
  have HT := Lib.hid ht
  clear ht
  have t1 := fun W => tan2 W
  have t2 := fun W => tan9 W
  have t3 := fun W => tan24 W
  go_enter Tryz.func204, Tryz.ntmps204
  go_wp2_with fail
  go_end0
  exact ⟨rfl, HT.out.set2 _, grownBy_set _ _ _ _⟩
end Go.Proofs.YtphclpjekpdifaaGreat.Wi
namespace Go.Proofs.YtphclpjekpdifaaGreat.Wi
open Go.RowKit Pl
set_option maxRecDepth 20000
set_option linter.unusedVariables false
def InR (n : Int) : Prop := -9223372036854775808 ≤ n ∧ n ≤ 9223372036854775807

mutual
def IsIt (w : World) (S : Nat → Prop) : It → Value → Prop
  | .mk k n s l, v => ∃ a c, v = .agg #[.int .i64 k, .int .i64 n, .string s, .slice a l.length c] ∧ InR k ∧ InR n ∧ s.size ≤ maxLen ∧ l.length ≤ maxLen ∧ AreIts w S l a 0
def AreIts (w : World) (S : Nat → Prop) : List It → Option Addr → Nat → Prop
  | [], _, _ => True
  | x :: r, a, i => (∃ b off u0 u1 u2 u3, a = some ⟨b, off, none⟩ ∧ S b ∧ w.cell? ⟨b, off + i * 4, none⟩ = some u0 ∧ w.cell? ⟨b, off + i * 4 + 1, none⟩ = some u1 ∧
      w.cell? ⟨b, off + i * 4 + 2, none⟩ = some u2 ∧ w.cell? ⟨b, off + i * 4 + 3, none⟩ = some u3 ∧ IsIt w S x (.agg #[u0, u1, u2, u3])) ∧ AreIts w S r a (i + 1)
end
theorem AreIts.at_ {w : World} {S : Nat → Prop} {a : Option Addr} : ∀ {l : List It} {i : Nat}, AreIts w S l a i → ∀ {k : Nat} {x : It}, l[k]? = some x →
    ∃ b off u0 u1 u2 u3, a = some ⟨b, off, none⟩ ∧ S b ∧ w.cell? ⟨b, off + (i + k) * 4, none⟩ = some u0 ∧ w.cell? ⟨b, off + (i + k) * 4 + 1, none⟩ = some u1 ∧
      w.cell? ⟨b, off + (i + k) * 4 + 2, none⟩ = some u2 ∧ w.cell? ⟨b, off + (i + k) * 4 + 3, none⟩ = some u3 ∧ IsIt w S x (.agg #[u0, u1, u2, u3])
  | [], _, _, k, x, hx => by simp at hx
  | y :: r, i, h, 0, x, hx => by
    simp only [List.getElem?_cons_zero, Option.some.injEq] at hx
    subst hx
    rw [AreIts] at h
    exact h.1
  | y :: r, i, h, k + 1, x, hx => by
    rw [AreIts] at h
    have := AreIts.at_ h.2 (k := k) (x := x) (by simpa using hx)
    rwa [show i + 1 + k = i + (k + 1) from by omega] at this
theorem cell_eq {w w' : World} {S : Nat → Prop} (hk : ∀ k, S k → w'.heap[k]? = w.heap[k]?) {b o : Nat} (h : S b) : w'.cell? ⟨b, o, none⟩ = w.cell? ⟨b, o, none⟩ :=
  World.cell?_of_block (w := w) (hk b h)

mutual
theorem IsIt.keep {w w' : World} {S : Nat → Prop} (hk : ∀ k, S k → w'.heap[k]? = w.heap[k]?) : ∀ (t : It) {v : Value}, IsIt w S t v → IsIt w' S t v
  | .mk k n s l, v, h => by
    rw [IsIt] at h ⊢
    obtain ⟨a, c, h1, h2, h3, h4, h5, h6⟩ := h
    exact ⟨a, c, h1, h2, h3, h4, h5, AreIts.keep hk l h6⟩
theorem AreIts.keep {w w' : World} {S : Nat → Prop} (hk : ∀ k, S k → w'.heap[k]? = w.heap[k]?) : ∀ (l : List It) {a : Option Addr} {i : Nat}, AreIts w S l a i → AreIts w' S l a i
  | [], _, _, h => by rw [AreIts]; trivial
  | x :: r, a, i, h => by
    rw [AreIts] at h ⊢
    obtain ⟨⟨b, off, u0, u1, u2, u3, h1, h2, h3, h4, h5, h6, h7⟩, h8⟩ := h
    exact ⟨⟨b, off, u0, u1, u2, u3, h1, h2, (cell_eq hk h2).trans h3, (cell_eq hk h2).trans h4, (cell_eq hk h2).trans h5, (cell_eq hk h2).trans h6, IsIt.keep hk x h7⟩, AreIts.keep hk r h8⟩
end
mutual
theorem IsIt.mono {w : World} {S S' : Nat → Prop} (hk : ∀ k, S k → S' k) : ∀ (t : It) {v : Value}, IsIt w S t v → IsIt w S' t v
  | .mk k n s l, v, h => by
    rw [IsIt] at h ⊢
    obtain ⟨a, c, h1, h2, h3, h4, h5, h6⟩ := h
    exact ⟨a, c, h1, h2, h3, h4, h5, AreIts.mono hk l h6⟩
theorem AreIts.mono {w : World} {S S' : Nat → Prop} (hk : ∀ k, S k → S' k) : ∀ (l : List It) {a : Option Addr} {i : Nat}, AreIts w S l a i → AreIts w S' l a i
  | [], _, _, h => by rw [AreIts]; trivial
  | x :: r, a, i, h => by
    rw [AreIts] at h ⊢
    obtain ⟨⟨b, off, u0, u1, u2, u3, h1, h2, h3, h4, h5, h6, h7⟩, h8⟩ := h
    exact ⟨⟨b, off, u0, u1, u2, u3, h1, hk _ h2, h3, h4, h5, h6, IsIt.mono hk x h7⟩, AreIts.mono hk r h8⟩
end
theorem IsIt.below {w w' : World} {B : Nat} {t : It} {v : Value} (h : IsIt w (· < B) t v) (hb : Below B w w') : IsIt w' (· < B) t v := IsIt.keep (fun k hk => hb.block k hk) t h
theorem IsIt.parts {w : World} {S : Nat → Prop} {x : It} {u0 u1 u2 u3 : Value} (h : IsIt w S x (.agg #[u0, u1, u2, u3])) :
    ∃ k n s a m c, u0 = .int .i64 k ∧ u1 = .int .i64 n ∧ u2 = .string s ∧ u3 = .slice a m c := by
  cases x with
  | mk k n s l =>
    rw [IsIt] at h
    obtain ⟨a, c, he, _⟩ := h
    simp only [Value.agg.injEq, Array.mk.injEq, List.cons.injEq, and_true] at he
    exact ⟨k, n, s, a, l.length, c, he.1, he.2.1, he.2.2.1, he.2.2.2⟩
def WeighAny (g : Nat) (i b : Int) (d : Bool) (k n : Int) (s : ByteArray) (m : Nat) (w : World) (e : Ending) (w' : World) : Prop :=
  e = .returned (.tuple #[]) ∧ w.grownBy w' (some g) ∧ ∃ b', Tal w' g i b' (d || !form k n s m) ∧ b ≤ b' ∧ b' ≤ b + 4200 ∧ (form k n s m = true → b' = b + own k n s m)
theorem weigh_any (g : Nat) (i b : Int) (d : Bool) (k n : Int) (s : ByteArray) (a : Option Addr) (m c : Nat) (w : World) (ht : Tal w g i b d) (hb : 0 ≤ b ∧ b ≤ 1099511627776) (hn : InR n)
    (hm : m ≤ 9223372036854775807) (hl : k = 2 → s.size ≤ 4096) : Calls Tryz.prog 204 #[.pointer (some ⟨g, 0, none⟩), mean k n s m (.slice a m c)] w (WeighAny g i b d k n s m w) := by
  have hd1 := dgs_le (foldN n)
  have hd2 := dgs_le s.size
  have hd3 := dgs_le m
  unfold mean
  by_cases h1 : k = 1 ∧ s.size = 0 ∧ m = 0
  · rw [if_pos h1]
    have hf : form k n s m = true := by simp [form, h1]
    have ho : own k n s m = 2 + dgs (foldN n) := by simp [own, h1.1]
    refine (weigh_num g i b d n w ht hb hn.1 hn.2).mono fun e w' h => ⟨h.1, h.2.2, _, by simpa [hf] using h.2.1, by omega, by omega, fun _ => by rw [ho]; omega⟩
  rw [if_neg h1]
  by_cases h2 : k = 2 ∧ n = 0 ∧ m = 0
  · rw [if_pos h2]
    have hf : form k n s m = true := by simp [form, h2]
    have ho : own k n s m = 2 + dgs s.size + s.size := by simp [own, h2.1]
    have hl' := hl h2.1
    refine (weigh_text g i b d s w ht hb (by omega)).mono fun e w' h => ⟨h.1, h.2.2, _, by simpa [hf] using h.2.1, by omega, by omega, fun _ => by rw [ho]; omega⟩
  rw [if_neg h2]
  by_cases h3 : k = 3 ∧ n = 0 ∧ s.size = 0
  · rw [if_pos h3]
    have hf : form k n s m = true := by simp [form, h3]
    have ho : own k n s m = 2 + dgs m := by simp [own, h3.1]
    refine (weigh_list g i b d a m c w ht hb hm).mono fun e w' h => ⟨h.1, h.2.2, _, by simpa [hf] using h.2.1, by omega, by omega, fun _ => by rw [ho]; omega⟩
  rw [if_neg h3]
  have hf : form k n s m = false := by
    rw [Bool.eq_false_iff]; intro hc
    simp only [form, Bool.or_eq_true, Bool.and_eq_true, beq_iff_eq] at hc
    rcases hc with (⟨⟨a1, a2⟩, a3⟩ | ⟨⟨a1, a2⟩, a3⟩) | ⟨⟨a1, a2⟩, a3⟩
    · exact h1 ⟨a1, a2, a3⟩
    · exact h2 ⟨a1, a2, a3⟩
    · exact h3 ⟨a1, a2, a3⟩
  refine (weigh_none g i b d w ht).mono fun e w' h => ⟨h.1, h.2.2, b, by simpa [hf] using h.2.1, by omega, by omega, fun hc => by rw [hf] at hc; cases hc⟩
end Go.Proofs.YtphclpjekpdifaaGreat.Wi
namespace Go.Proofs.YtphclpjekpdifaaGreat.Wi
open Go.RowKit Pl
set_option maxRecDepth 20000
set_option linter.unusedVariables false
def AddPost (g : Nat) (t : It) (i b : Int) (d : Bool) (dp : Int) (w : World) (e : Ending) (w' : World) : Prop :=
  e = .returned (.bool (fits t i dp)) ∧ w.grownBy w' (some g) ∧ (fits t i dp = true → ∃ b', Tal w' g (i + t.cnt) b' (d || !t.good) ∧ b ≤ b' ∧ b' ≤ b + 4200 * t.cnt ∧ (t.good = true → b' = b + t.enc.length))
def AddRel (g : Nat) (l : List It) (i b : Int) (d0 : Bool) (dp : Int) (w : World) (u : Value) (wr : World) : Prop :=
  ∃ j : Nat, j ≤ l.length ∧ u = .int .i64 j ∧ fitsL (l.take j) (i + 1) (dp + 1) = true ∧ w.grownBy wr (some g) ∧ ∃ b', Tal wr g (i + 1 + cnts (l.take j)) b' (d0 || !goods (l.take j)) ∧ b ≤ b' ∧
    b' ≤ b + 4200 * cnts (l.take j) ∧ (goods (l.take j) = true → b' = b + (encs (l.take j)).length)
theorem rel_snoc {g : Nat} {l : List It} {i b : Int} {d0 : Bool} {dp : Int} {w w3 : World} {j : Nat} {x : It} {bb b3 : Int} (hlt : j < l.length) (hts : l.take (j + 1) = l.take j ++ [x])
    (hf : fitsL (l.take j) (i + 1) (dp + 1) = true) (hfx : fits x (i + 1 + cnts (l.take j)) (dp + 1) = true) (hg : w.grownBy w3 (some g)) (h1 : b ≤ bb) (h2 : bb ≤ b + 4200 * cnts (l.take j)) (h3 : goods (l.take j) = true → bb = b + (encs (l.take j)).length)
    (hT : Tal w3 g (i + 1 + cnts (l.take j) + x.cnt) b3 (d0 || !goods (l.take j) || !x.good)) (h4 : bb ≤ b3) (h5 : b3 ≤ bb + 4200 * x.cnt) (h6 : x.good = true → b3 = bb + x.enc.length) :
    AddRel g l i b d0 dp w (.int .i64 ((j : Int) + 1)) w3 := by
  refine ⟨j + 1, by omega, by rw [Int.natCast_add]; rfl, by rw [hts, fitsL_snoc, hf, hfx]; rfl, hg, b3, ?_, by omega, ?_, ?_⟩
  · rw [hts, cnts_append, cnts_one, goods_append, goods_one]
    have e1 : i + 1 + ((cnts (l.take j) + x.cnt : Nat) : Int) = i + 1 + cnts (l.take j) + x.cnt := by omega
    have e2 : (d0 || !(goods (l.take j) && x.good)) = (d0 || !goods (l.take j) || !x.good) := by rw [Bool.not_and, Bool.or_assoc]
    rw [e1, e2]; exact hT
  · rw [hts, cnts_append, cnts_one]; omega
  · rw [hts, goods_append, goods_one, encs_append, encs_one, List.length_append]
    intro h
    rw [Bool.and_eq_true] at h
    have a1 := h3 h.1
    have a2 := h6 h.2
    omega
theorem rel_end {g : Nat} {k n : Int} {s : ByteArray} {l : List It} {i b b' bb : Int} {d : Bool} {dp : Int} {w wr : World} {j : Nat} (ej : j = l.length) (i1 : i + 1 ≤ 4096) (d1 : dp ≤ 12) (hs : k = 2 → s.size ≤ 4096)
    (hf : fitsL (l.take j) (i + 1) (dp + 1) = true) (hg : w.grownBy wr (some g)) (hb : form k n s l.length = true → b' = b + own k n s l.length) (hb1 : b ≤ b') (hb2 : b' ≤ b + 4200)
    (hT : Tal wr g (i + 1 + cnts (l.take j)) bb (d || !form k n s l.length || !goods (l.take j))) (h1 : b' ≤ bb) (h2 : bb ≤ b' + 4200 * cnts (l.take j)) (h3 : goods (l.take j) = true → bb = b' + (encs (l.take j)).length) :
    w.grownBy wr (some g) ∧ (fits (.mk k n s l) i dp = true → ∃ b', Tal wr g (i + (It.mk k n s l).cnt) b' (d || !(It.mk k n s l).good) ∧ b ≤ b' ∧ b' ≤ b + 4200 * (It.mk k n s l).cnt ∧ ((It.mk k n s l).good = true → b' = b + (It.mk k n s l).enc.length)) := by
  subst ej
  rw [List.take_length] at *
  refine ⟨hg, fun _ => ⟨bb, ?_, by omega, ?_, ?_⟩⟩
  · rw [cnt_mk, good_mk]
    have e1 : i + ((1 + cnts l : Nat) : Int) = i + 1 + cnts l := by omega
    have e2 : (d || !(form k n s l.length && goods l)) = (d || !form k n s l.length || !goods l) := by rw [Bool.not_and, Bool.or_assoc]
    rw [e1, e2]; exact hT
  · rw [cnt_mk]; omega
  · rw [good_mk, Bool.and_eq_true]
    intro h
    rw [enc_length h.1]
    have a1 := hb h.1
    have a2 := h3 h.2
    omega
def AddAll (N : Nat) : Prop := ∀ (t : It) (g : Nat) (i b : Int) (d : Bool) (dp : Int) (v : Value) (S : Nat → Prop) (w : World), t.cnt ≤ N → IsIt w S t v → (∀ q, S q → q < w.heap.size ∧ q ≠ g) → Tal w g i b d → 0 ≤ i → i ≤ 4096 → 0 ≤ b → b ≤ 4200 * i → 0 ≤ dp → dp ≤ 13 →
    Calls Tryz.prog 176 #[.pointer (some ⟨g, 0, none⟩), v, .int .i64 dp] w (AddPost g t i b d dp w)
set_option maxRecDepth 20000 in
theorem add_step (N : Nat) (ih : AddAll N) (k n : Int) (s : ByteArray) (l : List It) (a : Option Addr) (c : Nat) (g : Nat) (i b : Int) (d : Bool) (dp : Int) (S : Nat → Prop) (w : World)
    (hN : cnts l ≤ N) (hn : InR n) (hm : l.length ≤ maxLen) (hl : AreIts w S l a 0) (hg : ∀ q, S q → q < w.heap.size ∧ q ≠ g) (ht : Tal w g i b d) (i0 : 0 ≤ i) (i1 : i + 1 ≤ 4096) (b0 : 0 ≤ b) (b1 : b ≤ 4200 * i) (d0 : 0 ≤ dp) (d1 : dp ≤ 12)
    (hs : k = 2 → s.size ≤ 4096) (hk : (k == 2) = false ∨ ((k == 2) = true ∧ ((s.size : Int) ≤ 4096))) :
    Calls Tryz.prog 176 #[.pointer (some ⟨g, 0, none⟩), .agg #[.int .i64 k, .int .i64 n, .string s, .slice a l.length c], .int .i64 dp] w (AddPost g (.mk k n s l) i b d dp w) := by
  have c0 := ht.c0
  have f0 := ht.fr 0
  have hgl : g < w.heap.size := World.block_lt_of_cell? w _ c0
  have HT := Lib.hid ht
  have HL := Lib.hid hl
  have HI := Lib.hid ih
  have HS := Lib.hid hs
  unfold maxLen at hm
  have HSg := Lib.hid hg
  clear ht hl ih hs hg
  rcases hk with hk | ⟨hk, hk4⟩
  all_goals
    go_enter Tryz.func176, Tryz.ntmps176
    go_wp2_with fail
    refine (meaning_any _ _ _ _ _ _ _).mono ?_
    rintro e w1 ⟨rfl, hb1⟩
    have hT1 : Tal w1 g (i + 1) b d := (hb1.block g (by simp; omega)).trans ((Below.heap_alloc _ _ g (by simpa using hgl)).trans (HT.out.set0 (i + 1)))
    have hx1 : w1.heap[w.heap.size]? = some (.cells #[.int .i64 k, .int .i64 n, .string s, .slice a l.length c] 111 (0, 0)) := (hb1.block _ (by simp)).trans (by rw [show w.heap.size = (w.setCell ⟨g, 0, none⟩ (.int .i64 (i + 1))).heap.size from (World.size_setCell _ _ _).symm]; exact heap_alloc_new _ _)
    have hg1 : w.grownBy w1 (some g) := grownBy_trans (grownBy_set w g 0 (.int .i64 (i + 1))) (grownBy_below (((Below.refl _ _).alloc (Nat.le_refl _) _).trans (hb1.mono (by simp))) _)
    have HX := Lib.hid hx1
    have HG := Lib.hid hg1
    have HT1 := Lib.hid hT1
    clear hb1 hx1 hg1 hT1 c0 f0 HT
    go_wp2_with fail
    refine (weigh_any g (i + 1) b d k n s a l.length c w1 HT1.out ⟨b0, by omega⟩ hn (by omega) HS.out).mono ?_
    rintro e w2 ⟨rfl, hg2, b', hT2, hb1, hb2, hb3⟩
    have hne : w.heap.size ≠ g := by omega
    have hx2 : w2.heap[w.heap.size]? = some (.cells #[.int .i64 k, .int .i64 n, .string s, .slice a l.length c] 111 (0, 0)) := (hg2.block _ (Array.getElem?_eq_some_iff.1 HX.out).1 (by simpa using hne)).trans HX.out
    have hc3 : w2.cell? ⟨w.heap.size, 3, none⟩ = some (.slice a l.length c) := cell_of_row w2 _ 3 _ _ _ hx2
    have hgg := grownBy_trans HG.out hg2
    have HG2 := Lib.hid hgg
    have HT2 := Lib.hid hT2
    have HB3 := Lib.hid hb3
    clear HX HG HT1 hg2 hT2 hx2 hgg hb3
    go_wp2_with fail
    go_loopw [43] (fun u wr => AddRel g l i b' (d || !form k n s l.length) dp w u wr) (fun u _ => (l.length - (intOf u).toNat))
    case atStart => exact ⟨0, by omega, rfl, by simp [fitsL, cnts, deps, longs]; omega, HG2.out, b', by simpa [cnts, goods] using HT2.out, by omega, by simp [cnts], by simp [encs]⟩
    case round =>
      obtain ⟨j, hj, rfl, hfit, hgr, bb, hTr, hbb1, hbb2, hbb3⟩ := hrel
      have hkeep : ∀ q, S q → wr.heap[q]? = w.heap[q]? := fun q hq => hgr.block q (HSg.out q hq).1 (by simpa using (HSg.out q hq).2)
      by_cases hlt : j < l.length
      · obtain ⟨bk, off, u0, u1, u2, u3, rfl, hSb, k0, k1, k2, k3, hx⟩ := (AreIts.keep hkeep l HL.out).at_ (k := j) (x := l[j]) (List.getElem?_eq_getElem hlt)
        have hts := take_succ' l j l[j] (List.getElem?_eq_getElem hlt)
        have hmc := mem_cnt (List.getElem?_eq_getElem hlt)
        generalize l[j] = x at hx hts hmc
        obtain ⟨qk, qn, qs, qa, qm, qc, rfl, rfl, rfl, rfl⟩ := hx.parts
        have HX := Lib.hid hx
        have HTS := Lib.hid hts
        have HTR := Lib.hid hTr
        have HBB := Lib.hid hbb3
        have HF := Lib.hid hfit
        have hbl := (HSg.out bk hSb).1
        have hsz := hgr.size
        have HGR := Lib.hid hgr
        clear hx hts hTr hbb3 hfit hkeep hgr
        rw [Nat.zero_add] at k0 k1 k2 k3
        go_wp2_with fail
        have hfb := fitsL_bounds HF.out
        have hbb := HBB.out
        refine (HI.out x g _ bb _ (dp + 1) _ S _ (by omega) (IsIt.keep (fun q hq => Below.heap_alloc _ _ q (by have := (HSg.out q hq).1; omega)) x HX.out) (fun q hq => ⟨by have := (HSg.out q hq).1; simp; omega, (HSg.out q hq).2⟩)
          (show Tal _ g (i + 1 + cnts (l.take j)) bb (d || !form k n s l.length || !goods (List.take j l)) from (Below.heap_alloc _ _ g (by omega)).trans HTR.out) (by omega) (by omega) (by omega) (by omega) (by omega) (by omega)).mono ?_
        rintro e w3 ⟨rfl, hg3, hok⟩
        have hg4 : w.grownBy w3 (some g) := grownBy_trans HGR.out (grownBy_trans (World.grownBy_alloc _ _ _) hg3)
        have HG4 := Lib.hid hg4
        have HOK := Lib.hid hok
        clear hg3 hg4 hok hbb hfb
        generalize hfx : fits x (i + 1 + cnts (l.take j)) (dp + 1) = fx
        cases fx
        · have HFX := Lib.hid hfx
          clear hfx
          go_wp2_with fail
          go_ret
          have hff := fits_false (k := k) (n := n) (s := s) j x HTS.out HFX.out
          exact ⟨by rw [hff]; rfl, HG4.out, fun h => by rw [hff] at h; cases h⟩
        · have HFX := Lib.hid hfx
          clear hfx
          go_wp2_with fail
          go_roundw
          case rel =>
            obtain ⟨b3, q1, q2, q3, q4⟩ := HOK.out HFX.out
            exact rel_snoc hlt HTS.out HF.out HFX.out HG4.out hbb1 hbb2 HBB.out q1 q2 q3 q4
          case measure => simp [intOf]; omega
      · have ej : j = l.length := by omega
        have hfitl := hfit
        rw [ej, List.take_length] at hfitl
        have hend := rel_end (k := k) (n := n) (s := s) (d := d) (b := b) ej i1 d1 HS.out hfit hgr (HB3.out) hb1 hb2 hTr hbb1 hbb2 hbb3
        have HE := Lib.hid hend
        have HFF := Lib.hid (fits_true i1 d1 HS.out hfitl : fits (.mk k n s l) i dp = true)
        clear hend hTr hbb3 hgr hfit hfitl hkeep
        go_wp2_with fail
        go_ret
        exact ⟨by rw [HFF.out]; rfl, HE.out.1, HE.out.2⟩
def AddNo (g : Nat) (w : World) (e : Ending) (w' : World) : Prop := e = .returned (.bool false) ∧ w.grownBy w' (some g)
set_option maxRecDepth 20000 in
theorem add_no (k n : Int) (s : ByteArray) (a : Option Addr) (m c : Nat) (g : Nat) (i b : Int) (d : Bool) (dp : Int) (w : World) (ht : Tal w g i b d) (i0 : 0 ≤ i) (i1 : i ≤ 4096)
    (h : 4096 < i + 1 ∨ (i + 1 ≤ 4096 ∧ 12 < dp) ∨ (i + 1 ≤ 4096 ∧ dp ≤ 12 ∧ (k == 2) = true ∧ 4096 < (s.size : Int))) :
    Calls Tryz.prog 176 #[.pointer (some ⟨g, 0, none⟩), .agg #[.int .i64 k, .int .i64 n, .string s, .slice a m c], .int .i64 dp] w (AddNo g w) := by
  have c0 := ht.c0
  have f0 := ht.fr 0
  have hgl : g < w.heap.size := World.block_lt_of_cell? w _ c0
  clear ht
  rcases h with h | ⟨h1, h2⟩ | ⟨h1, h2, h3, h4⟩
  all_goals
    go_enter Tryz.func176, Tryz.ntmps176
    go_wp2_with fail
    go_ret
    exact ⟨rfl, grownBy_trans (grownBy_set w g 0 (.int .i64 (i + 1))) (World.grownBy_alloc _ _ _)⟩
theorem add_all : ∀ N, AddAll N := by
  intro N
  induction N with
  | zero => intro t _ _ _ _ _ _ _ _ h; have := cnt_pos t; omega
  | succ N ih =>
    intro t g i b d dp v S w hN hv hS hT i0 i1 b0 b1 d0 d1
    obtain ⟨k, n, s, l⟩ := t
    rw [IsIt] at hv
    obtain ⟨a, c, rfl, hk, hn, hs, hl, hal⟩ := hv
    rw [cnt_mk] at hN
    have no : ∀ (h : 4096 < i + 1 ∨ (i + 1 ≤ 4096 ∧ 12 < dp) ∨ (i + 1 ≤ 4096 ∧ dp ≤ 12 ∧ (k == 2) = true ∧ 4096 < (s.size : Int))),
        Calls Tryz.prog 176 #[.pointer (some ⟨g, 0, none⟩), .agg #[.int .i64 k, .int .i64 n, .string s, .slice a l.length c], .int .i64 dp] w (AddPost g (.mk k n s l) i b d dp w) := by
      intro h
      have hf : fits (.mk k n s l) i dp = false := by
        rw [fits_mk]
        rcases h with h | ⟨h1, h2⟩ | ⟨h1, h2, h3, h4⟩
        · rw [show decide (i + 1 ≤ 4096) = false from by simp; omega]; rfl
        · rw [show decide (dp ≤ 12) = false from by simp; omega]; simp
        · rw [h3, show decide (4096 < s.size) = true from by simp; omega]; simp
      refine (add_no k n s a l.length c g i b d dp w hT i0 i1 h).mono fun e w' h => ⟨by rw [hf]; exact h.1, h.2, fun hc => by rw [hf] at hc; cases hc⟩
    by_cases c1 : 4096 < i + 1
    · exact no (.inl c1)
    by_cases c2 : 12 < dp
    · exact no (.inr (.inl ⟨by omega, c2⟩))
    by_cases c3 : (k == 2) = true ∧ 4096 < (s.size : Int)
    · exact no (.inr (.inr ⟨by omega, by omega, c3.1, c3.2⟩))
    refine add_step N ih k n s l a c g i b d dp S w (by omega) hn hl hal hS hT i0 (by omega) b0 b1 d0 (by omega) (fun h2 => ?_) ?_
    · subst h2
      have : ¬ 4096 < (s.size : Int) := fun hc => c3 ⟨rfl, hc⟩
      omega
    · by_cases h2 : (k == 2) = true
      · have : ¬ 4096 < (s.size : Int) := fun hc => c3 ⟨h2, hc⟩
        exact .inr ⟨h2, by omega⟩
      · exact .inl (by simpa using h2)
end Go.Proofs.YtphclpjekpdifaaGreat.Wi
namespace Go.Proofs.YtphclpjekpdifaaGreat.Wi
open Go.RowKit Pl
set_option maxRecDepth 20000
set_option linter.unusedVariables false
def errOf (t : It) : Int := if fits t 0 1 = true then (if t.good = true then 0 else 4) else 3
def szOf (t : It) : Int := if fits t 0 1 = true ∧ t.good = true then t.enc.length else 0
def MeasPost (t : It) (w : World) (e : Ending) (w' : World) : Prop := e = .returned (.tuple #[.int .i64 (szOf t), .int .i64 (errOf t)]) ∧ Below w.heap.size w w'
theorem below_of_grown {w w' : World} {r : Nat} (B : Nat) (h : w.grownBy w' (some r)) (hB : B ≤ w.heap.size) (hr : B ≤ r) : Below B w w' :=
  ⟨h.os, h.tape, h.output, h.size, fun k hk => h.block k (by omega) (fun e => by injection e with e; omega)⟩
theorem tal_new (w : World) (o : Obj) : Tal ((w.alloc o).alloc (.cells #[.int .i64 0, .int .i64 0, .bool false] 260)) (w.heap.size + 1) 0 0 false := by
  have := heap_alloc_new (w.alloc o) (.cells #[.int .i64 0, .int .i64 0, .bool false] 260)
  rwa [World.size_alloc] at this
set_option maxRecDepth 20000 in
theorem measure_any (t : It) (v : Value) (w : World) (hv : IsIt w (· < w.heap.size) t v) : Calls Tryz.prog 138 #[v] w (MeasPost t w) := by
  have hv0 := hv
  obtain ⟨k, n, s, l⟩ := t
  rw [IsIt] at hv0
  obtain ⟨a, c, rfl, _, _, _, _, _⟩ := hv0
  generalize htt : It.mk k n s l = t at *
  have HTT := Lib.hid htt
  have HV := Lib.hid hv
  clear htt hv
  go_enter Tryz.func138, Tryz.ntmps138
  go_wp2_with fail
  refine (add_all t.cnt t (w.heap.size + 1) 0 0 false 1 _ (· < w.heap.size) _ (Nat.le_refl _) (IsIt.keep (fun q hq => by rw [Below.heap_alloc _ _ q (by simp; omega), Below.heap_alloc _ _ q (by omega)]) t HV.out) (fun q hq => ⟨by simp; omega, by omega⟩)
    (by exact tal_new _ _) (by omega) (by omega) (by omega) (by omega) (by omega) (by omega)).mono ?_
  rintro e w1 ⟨rfl, hg, hok⟩
  have hbel : Below w.heap.size w w1 := (((Below.refl _ _).alloc (Nat.le_refl _) _).alloc (by simp) _).trans (below_of_grown w.heap.size hg (by simp; omega) (by omega))
  have HB := Lib.hid hbel
  clear hg hbel
  generalize hf : fits t 0 1 = f at *
  cases f
  · have HF := Lib.hid hf
    clear hf hok
    go_wp2_with fail
    go_ret2
    exact ⟨by simp [szOf, errOf, HF.out], HB.out⟩
  · obtain ⟨b', hT, hb1, hb2, hb3⟩ := hok rfl
    have h1 := hT.c1
    have h2 := hT.c2
    have HF := Lib.hid hf
    have HB3 := Lib.hid hb3
    clear hf hok hb3 hT
    generalize hgd : t.good = gd at *
    have HG := Lib.hid hgd
    clear hgd
    cases gd
    · simp only [Bool.not_false, Bool.or_true] at h2
      go_wp2_with fail
      go_ret2
      exact ⟨by simp [szOf, errOf, HF.out, HG.out], HB.out⟩
    · simp only [Bool.not_true, Bool.or_false] at h2
      have hb4 := HB3.out rfl
      have HB4 := Lib.hid hb4
      clear hb4
      go_wp2_with fail
      go_ret2
      exact ⟨by simp [szOf, errOf, HF.out, HG.out, HB4.out], HB.out⟩
end Go.Proofs.YtphclpjekpdifaaGreat.Wi
namespace Go.Proofs.YtphclpjekpdifaaGreat.Wi
open Go.RowKit Pl
set_option maxRecDepth 20000
set_option linter.unusedVariables false
theorem strCells_vB (s : ByteArray) : Lib.strCells s = vB s.data.toList := rfl
theorem wp_appS {ops : Array Oper} {rest : List Oper} {o : Oper} {a : Act} {Q : Exit → Act → World → Prop} {w : World} (hgd : o.guard = none) (sl x : Operand)
    (ho : o.op = .call { callee := .builtin .append, args := #[sl, x], argTypes := #[114, 9] })
    (base : Nat) (v : Value) (l : List UInt8) (hs : a.eval sl = v) (hown : OwnB w base v l) (s : ByteArray) (hx : a.eval x = .string s)
    (hlen : l.length + s.size ≤ 70368744177664) (hbase : base ≤ w.heap.size)
    (h : ∀ v' w', OwnB w' base v' (l ++ s.data.toList) → Below base w w' → wpList Tryz.prog ops Q rest (a.put o.dst v') w') : wpList Tryz.prog ops Q (o :: rest) a w := by
  obtain ⟨i5, hi5, hz0, hz1, hz2⟩ := info_parts info5
  refine Lib.wpList_append_own_string w hgd sl x 114 9 ho base 5 i5 Tryz.underlying114 Tryz.underlying9 hi5 hz0 hz1 hz2 v l.length (vB l) hs hown s hx (by simp only [maxLen]; omega) (by omega) hbase ?_
  intro v' w' h2 h3 _
  refine h v' w' ?_ ((Below.refl _ _).grown h3 hbase fun k hk => (hown.lt k hk).1)
  unfold OwnB
  rw [vB_append, ← strCells_vB, List.length_append, show s.data.toList.length = s.size by simp only [Array.length_toList]; rfl]
  exact h2
set_option maxRecDepth 20000 in
theorem appItem_num (base : Nat) (v : Value) (xs : List UInt8) (n : Int) (s : ByteArray) (a : Option Addr) (c : Nat) (w : World) (hn : InR n) (hs : s.size = 0) (hown : OwnB w base v xs) (hb : base ≤ w.heap.size) (hl : xs.length ≤ 1099511627775) :
    Calls Tryz.prog 139 #[v, .agg #[.int .i64 1, .int .i64 n, .string s, .slice a 0 c]] w (AppPost base (xs ++ 1 :: cntB (foldN n)) w) := by
  have hf := foldN_lt' n hn.1 hn.2
  go_enter Tryz.func139, Tryz.ntmps139
  go_wp2_with fail
  refine (meaning_any _ _ _ _ _ _ _).mono ?_
  rintro e w1 ⟨rfl, hb1⟩
  have hb2 : Below w.heap.size w w1 := ((Below.refl _ _).alloc (Nat.le_refl _) _).trans (hb1.mono (by simp))
  have hown1 := hown.below hb2
  have hb3 := hb2.mono hb
  have hsz := hb2.size
  have HB := Lib.hid hb3
  have t1 := fun W => ta22 n W
  rw [show mean 1 n s 0 (.slice a 0 c) = .iface 2 (.int .i64 n) from by simp [mean, hs]]
  clear hb1 hb2 hb3 hown hs
  go_wp2_with (first
    | (at_builtin; (refine wp_app1 rfl (.tmp 22) (.tmp 23) rfl base v xs rfl (hown1.below ((Below.refl _ _).alloc (Nat.le_refl _) _)) _ _ rfl _ (by simp [go_sem]; rfl) ⟨by omega, by omega⟩ (by omega) (by simp; omega) ?_); intro v2 w2 hown2 hb2)
    | (go_at_call 179; refine (fold_any _ _ (by exact hn.1) (by exact hn.2)).mono ?_; rintro e w' ⟨rfl, rfl⟩))
  have hb5 := HB.out.trans (((Below.refl _ _).alloc (by omega) _).trans hb2)
  have hsz2 := hb5.size
  have HB5 := Lib.hid hb5
  clear hb2 hb5
  refine (appendCount_any base v2 _ _ _ hown2 (by simp; omega) (by omega) (by omega) (by omega)).mono ?_
  rintro e w3 ⟨v3, rfl, hown3, hb6⟩
  go_wp2_with fail
  go_ret
  refine ⟨v3, rfl, ?_, HB5.out.trans hb6⟩
  simpa using hown3
set_option maxRecDepth 20000 in
theorem appItem_text (base : Nat) (v : Value) (xs : List UInt8) (n : Int) (s : ByteArray) (a : Option Addr) (c : Nat) (w : World) (hn : n = 0) (hs : s.size ≤ 4096) (hown : OwnB w base v xs) (hb : base ≤ w.heap.size) (hl : xs.length ≤ 1099511627775) :
    Calls Tryz.prog 139 #[v, .agg #[.int .i64 2, .int .i64 n, .string s, .slice a 0 c]] w (AppPost base (xs ++ 2 :: (cntB s.size ++ s.data.toList)) w) := by
  subst hn
  go_enter Tryz.func139, Tryz.ntmps139
  go_wp2_with fail
  refine (meaning_any _ _ _ _ _ _ _).mono ?_
  rintro e w1 ⟨rfl, hb1⟩
  have hb2 : Below w.heap.size w w1 := ((Below.refl _ _).alloc (Nat.le_refl _) _).trans (hb1.mono (by simp))
  have hown1 := hown.below hb2
  have hb3 := hb2.mono hb
  have hsz := hb2.size
  have HB := Lib.hid hb3
  have t1 := fun W => ta92 s W
  have t2 := fun W => ta99 s W
  rw [show mean 2 0 s 0 (.slice a 0 c) = .iface 9 (.string s) from by simp [mean]]
  clear hb1 hb2 hb3 hown
  go_wp2_with (first
    | (at_builtin; (refine wp_app1 rfl (.tmp 34) (.tmp 35) rfl base v xs rfl (hown1.below ((Below.refl _ _).alloc (Nat.le_refl _) _)) _ _ rfl _ (by simp [go_sem]; rfl) ⟨by omega, by omega⟩ (by omega) (by simp; omega) ?_); intro v2 w2 hown2 hb2))
  have hb5 := HB.out.trans (((Below.refl _ _).alloc (by omega) _).trans hb2)
  have hsz2 := hb5.size
  have HB5 := Lib.hid hb5
  clear hb2 hb5
  refine (appendCount_any base v2 _ _ _ hown2 (by simp; omega) (by omega) (by omega) (by omega)).mono ?_
  rintro e w3 ⟨v3, rfl, hown3, hb6⟩
  have hb7 := HB5.out.trans hb6
  have hsz3 := hb7.size
  have HB7 := Lib.hid hb7
  clear hb7 hb6
  have hd := dgs_le s.size
  go_wp2_with (at_builtin; (refine wp_appS rfl (.tmp 41) (.tmp 42) rfl base v3 _ rfl hown3 s rfl (by simp [cntB_length]; omega) (by omega) ?_); intro v4 w4 hown4 hb8)
  go_ret
  refine ⟨v4, rfl, ?_, HB7.out.trans hb8⟩
  simpa using hown4
def AppItemAll (N : Nat) : Prop := ∀ (t : It) (base : Nat) (v iv : Value) (xs : List UInt8) (w : World), t.cnt ≤ N → t.good = true → t.long = false → IsIt w (· < base) t iv → OwnB w base v xs → base ≤ w.heap.size → xs.length + t.enc.length ≤ 1099511627775 →
    Calls Tryz.prog 139 #[v, iv] w (AppPost base (xs ++ t.enc) w)
def AppRel (base : Nat) (xs : List UInt8) (l : List It) (w : World) (u i : Value) (wr : World) : Prop :=
  ∃ j : Nat, j ≤ l.length ∧ i = .int .i64 j ∧ OwnB wr base u (xs ++ encs (l.take j)) ∧ Below base w wr
set_option maxRecDepth 20000 in
theorem appItem_list (N : Nat) (ih : AppItemAll N) (base : Nat) (v : Value) (xs : List UInt8) (n : Int) (s : ByteArray) (l : List It) (a : Option Addr) (c : Nat) (w : World) (hn : n = 0) (hs : s.size = 0) (hN : cnts l ≤ N) (hgd : goods l = true) (hlo : longs l = false)
    (hal : AreIts w (· < base) l a 0) (hown : OwnB w base v xs) (hb : base ≤ w.heap.size) (hl : xs.length + 2 + dgs l.length + (encs l).length ≤ 1099511627775) (hll : l.length ≤ 9223372036854775807) :
    Calls Tryz.prog 139 #[v, .agg #[.int .i64 3, .int .i64 n, .string s, .slice a l.length c]] w (AppPost base (xs ++ 3 :: (cntB l.length ++ encs l)) w) := by
  subst hn
  have hd := dgs_le l.length
  have HL := Lib.hid hal
  have HI := Lib.hid ih
  have HGD := Lib.hid hgd
  have HLO := Lib.hid hlo
  clear hal ih hgd hlo
  go_enter Tryz.func139, Tryz.ntmps139
  go_wp2_with fail
  refine (meaning_any _ _ _ _ _ _ _).mono ?_
  rintro e w1 ⟨rfl, hb1⟩
  have hb2 : Below w.heap.size w w1 := ((Below.refl _ _).alloc (Nat.le_refl _) _).trans (hb1.mono (by simp))
  have hown1 := hown.below hb2
  have hb3 := hb2.mono hb
  have hsz := hb2.size
  have HB := Lib.hid hb3
  have t1 := fun W => ta242 a l.length c W
  have t2 := fun W => ta249 a l.length c W
  have t3 := fun W => ta2424 a l.length c W
  rw [show mean 3 0 s l.length (.slice a l.length c) = .iface 109 (.slice a l.length c) from by simp [mean, hs]]
  clear hb1 hb2 hb3 hown hs
  go_wp2_with (first
    | (at_builtin; (refine wp_app1 rfl (.tmp 50) (.tmp 51) rfl base v xs rfl (hown1.below ((Below.refl _ _).alloc (Nat.le_refl _) _)) _ _ rfl _ (by simp [go_sem]; rfl) ⟨by omega, by omega⟩ (by omega) (by simp; omega) ?_); intro v2 w2 hown2 hb2))
  have hb5 := HB.out.trans (((Below.refl _ _).alloc (by omega) _).trans hb2)
  have hsz2 := hb5.size
  have HB5 := Lib.hid hb5
  clear hb2 hb5
  refine (appendCount_any base v2 _ _ _ hown2 (by simp; omega) (by omega) (by omega) (by omega)).mono ?_
  rintro e w3 ⟨v3, rfl, hown3, hb6⟩
  have hb7 := HB5.out.trans hb6
  have hsz3 := hb7.size
  have HB7 := Lib.hid hb7
  have HO3 := Lib.hid hown3
  clear hb7 hb6 hown3 hown2 hown1
  go_wp2_with fail
  go_loopw [0, 59] (fun u i wr => AppRel base (xs ++ 3 :: cntB l.length) l w u i wr) (fun _ i _ => (l.length - (intOf i).toNat))
  case atStart => exact ⟨0, by omega, rfl, by simpa [encs] using HO3.out, HB7.out⟩
  case round =>
    obtain ⟨j, hj, rfl, hownr, hbr⟩ := hrel
    have hbs := hbr.size
    by_cases hlt : j < l.length
    · obtain ⟨bk, off, u0, u1, u2, u3, rfl, hSb, k0, k1, k2, k3, hx⟩ := (AreIts.keep (fun q hq => hbr.block q hq) l HL.out).at_ (k := j) (x := l[j]) (List.getElem?_eq_getElem hlt)
      have hts := take_succ' l j l[j] (List.getElem?_eq_getElem hlt)
      have hmc := mem_cnt (List.getElem?_eq_getElem hlt)
      generalize l[j] = x at hx hts hmc
      have hxg := goods_take hts HGD.out
      have hxl := longs_take hts HLO.out
      have hxe := encs_take hts
      obtain ⟨qk, qn, qs, qa, qm, qc, rfl, rfl, rfl, rfl⟩ := hx.parts
      have HX := Lib.hid hx
      have HTS := Lib.hid hts
      have HBR := Lib.hid hbr
      have HOW := Lib.hid hownr
      have HXG := Lib.hid hxg
      have HXL := Lib.hid hxl
      clear hx hts hbr hownr hxg hxl
      rw [Nat.zero_add] at k0 k1 k2 k3
      go_wp2_with fail
      refine (HI.out x base _ _ _ _ (by omega) HXG.out HXL.out (HX.out.below ((Below.refl _ _).alloc (by omega) _)) (HOW.out.below ((Below.refl _ _).alloc (Nat.le_refl _) _)) (by simp; omega) (by simp [cntB_length]; omega)).mono ?_
      rintro e w4 ⟨v4, rfl, hown4, hb8⟩
      have hb9 := HBR.out.trans (((Below.refl _ _).alloc (by omega) _).trans hb8)
      have HB9 := Lib.hid hb9
      have HO4 := Lib.hid hown4
      clear hb8 hb9 hown4
      go_wp2_with fail
      go_roundw
      case rel => exact ⟨j + 1, by omega, by go_num, by rw [HTS.out, encs_append, encs_one, ← List.append_assoc]; exact HO4.out, HB9.out⟩
      case measure => simp [intOf]; omega
    · have ej : j = l.length := by omega
      rw [ej, List.take_length] at hownr
      have HOW := Lib.hid hownr
      clear hownr
      go_wp2_with fail
      go_ret
      exact ⟨_, rfl, by simpa using HOW.out, hbr⟩
theorem appItem_all : ∀ N, AppItemAll N := by
  intro N
  induction N with
  | zero => intro t _ _ _ _ _ h; have := cnt_pos t; omega
  | succ N ih =>
    intro t base v iv xs w hN hg hlo hv hown hb hl
    obtain ⟨k, n, s, l⟩ := t
    rw [IsIt] at hv
    obtain ⟨a, c, rfl, hk, hn, hs, hll, hal⟩ := hv
    rw [cnt_mk] at hN
    rw [good_mk, Bool.and_eq_true] at hg
    have hle := enc_length hg.1
    have hf := hg.1
    simp only [form, Bool.or_eq_true, Bool.and_eq_true, beq_iff_eq] at hf
    simp only [It.long, Bool.or_eq_false_iff] at hlo
    rcases hf with (⟨⟨rfl, a2⟩, a3⟩ | ⟨⟨rfl, a2⟩, a3⟩) | ⟨⟨rfl, a2⟩, a3⟩
    · have : l = [] := List.eq_nil_of_length_eq_zero a3
      subst this
      have he : (It.mk 1 n s []).enc = 1 :: cntB (foldN n) := by simp [It.enc]
      rw [he] at hl ⊢
      simp only [List.length_cons] at hl
      exact appItem_num base v xs n s a c w hn a2 hown hb (by omega)
    · have : l = [] := List.eq_nil_of_length_eq_zero a3
      subst this
      have he : (It.mk 2 n s []).enc = 2 :: (cntB s.size ++ s.data.toList) := by simp [It.enc]
      rw [he] at hl ⊢
      simp only [List.length_cons] at hl
      exact appItem_text base v xs n s a c w a2 (by have := hlo.1; simp at this; omega) hown hb (by omega)
    · have he : (It.mk 3 n s l).enc = 3 :: (cntB l.length ++ encs l) := by simp [It.enc]
      have ho : own 3 n s l.length = 2 + dgs l.length := by simp [own]
      rw [hle, ho] at hl
      rw [he]
      exact appItem_list N ih base v xs n s l a c w a2 a3 (by omega) hg.2 hlo.2 hal hown hb (by omega) (by simp only [maxLen] at hll; omega)
end Go.Proofs.YtphclpjekpdifaaGreat.Wi
namespace Go.Proofs.YtphclpjekpdifaaGreat.Wi
open Go.RowKit Pl
set_option maxRecDepth 20000
set_option linter.unusedVariables false
theorem mk5 (c : Nat) (h : c ≤ 281474976710656) (w : World) : (Instr.makeSlice 114 (.int .i64 0) (.int .i64 (c : Int))).run Tryz.prog w = .ok (.slice (some ⟨w.heap.size, 0, none⟩) 0 c) (w.alloc (.cells (madeCells #[.int .u8 0] c) 5)) := by
  obtain ⟨i5, hi5, hz0, hz1, hz2⟩ := info_parts info5
  have := run_make (P := Tryz.prog) w 114 5 i5 _ Tryz.underlying114 hi5 hz0 .i64 .i64 0 (c : Int) (by omega) (by omega) (by rw [hz2]; omega) (by omega)
  rw [hz1] at this
  simpa [Value.cells] using this
def EncPost (t : It) (w : World) (e : Ending) (w' : World) : Prop :=
  ∃ v, e = .returned (.tuple #[v, .int .i64 (errOf t)]) ∧ Below w.heap.size w w' ∧ OwnB w' w.heap.size v (if errOf t = 0 then t.enc else [])
theorem errOf_zero {t : It} (h : errOf t = 0) : fits t 0 1 = true ∧ t.good = true := by
  unfold errOf at h
  by_cases h1 : fits t 0 1 = true
  · rw [if_pos h1] at h
    by_cases h2 : t.good = true
    · exact ⟨h1, h2⟩
    · rw [if_neg h2] at h; omega
  · rw [if_neg h1] at h; omega
theorem ownB_made (w : World) (base L : Nat) (hb : base ≤ w.heap.size) (hL : L ≤ 1099511627775) : OwnB (w.alloc (.cells (madeCells #[.int .u8 0] L) 5)) base (.slice (some ⟨w.heap.size, 0, none⟩) 0 L) [] :=
  World.ownsRow_made w _ L hb (by simp only [maxLen]; omega) (by simp [size_madeCells])
set_option maxRecDepth 20000 in
theorem encode_any (t : It) (v : Value) (w : World) (hv : IsIt w (· < w.heap.size) t v) (hle : errOf t = 0 → t.enc.length ≤ 1099511627775) : Calls Tryz.prog 106 #[v] w (EncPost t w) := by
  have hv0 := hv
  obtain ⟨k, n, s, l⟩ := t
  rw [IsIt] at hv0
  obtain ⟨a, c, rfl, _, _, _, _, _⟩ := hv0
  generalize htt : It.mk k n s l = t at *
  have HTT := Lib.hid htt
  have HV := Lib.hid hv
  have HLE := Lib.hid hle
  clear htt hv hle
  go_enter Tryz.func106, Tryz.ntmps106
  go_wp2_with fail
  refine (measure_any t _ _ (IsIt.mono (fun q hq => by simp; omega) t (IsIt.keep (fun q hq => Below.heap_alloc _ _ q hq) t HV.out))).mono ?_
  rintro e w1 ⟨rfl, hb1⟩
  have hx1 : w1.heap[w.heap.size]? = some (.cells #[.int .i64 k, .int .i64 n, .string s, .slice a l.length c] 111 (0, 0)) := (hb1.block _ (by simp)).trans (heap_alloc_new _ _)
  have hb2 : Below w.heap.size w w1 := ((Below.refl _ _).alloc (Nat.le_refl _) _).trans (hb1.mono (by simp))
  have hsz : w.heap.size + 1 ≤ w1.heap.size := by have := hb1.size; simpa using this
  have hlt : w.heap.size < w1.heap.size := by omega
  have HB := Lib.hid hb2
  clear hb1 hb2
  by_cases he : errOf t = 0
  · obtain ⟨e1, e2⟩ := errOf_zero he
    have hl := HLE.out he
    rw [show szOf t = ((t.enc.length : Nat) : Int) from by rw [szOf, if_pos ⟨e1, e2⟩], he]
    have HE := Lib.hid he
    have hlo : t.long = false := by simp only [fits, Bool.and_eq_true, Bool.not_eq_true'] at e1; exact e1.2
    have HL := Lib.hid hlo
    have HG := Lib.hid e2
    clear he e1 e2 hlo
    have hc0 : w1.cell? ⟨w.heap.size, 0, none⟩ = some (.int .i64 k) := cell_of_row w1 _ 0 _ _ _ hx1
    have hc1 : w1.cell? ⟨w.heap.size, 1, none⟩ = some (.int .i64 n) := cell_of_row w1 _ 1 _ _ _ hx1
    have hc2 : w1.cell? ⟨w.heap.size, 2, none⟩ = some (.string s) := cell_of_row w1 _ 2 _ _ _ hx1
    have hc3 : w1.cell? ⟨w.heap.size, 3, none⟩ = some (.slice a l.length c) := cell_of_row w1 _ 3 _ _ _ hx1
    clear hx1
    generalize hL : t.enc.length = L at *
    have HLL := Lib.hid hL
    clear hL
    have hmk := fun W => mk5 L (by omega) W
    go_wp2_with fail
    go_region_with (go_at_call 139; (refine (appItem_all t.cnt t w.heap.size _ _ [] _ (Nat.le_refl _) HG.out HL.out (IsIt.below HV.out (by exact ((HB.out.alloc (Nat.le_of_lt hlt) _).drew))) (by exact ownB_made w1 w.heap.size L (Nat.le_of_lt hlt) hl) (by simp; omega) (by simp only [List.length_nil]; rw [HLL.out]; omega)).mono ?_; rintro e w3 ⟨v3, rfl, hown3, hb3⟩))
    all_goals
      go_wp2_with fail
      go_ret2
      refine ⟨v3, by rw [HE.out]; rfl, (HB.out.alloc (Nat.le_of_lt hlt) _).drew.trans hb3, ?_⟩
      rw [if_pos HE.out]
      exact hown3
  · have hne : (errOf t != 0) = true := by simpa using he
    have HE := Lib.hid he
    clear he hx1
    generalize hq : errOf t = q at *
    have HQ := Lib.hid hq
    clear hq
    go_wp2_with fail
    go_ret2
    refine ⟨.slice none 0 0, by rw [HQ.out]; rfl, HB.out, ?_⟩
    rw [if_neg (by rw [HQ.out]; exact HE.out)]
    exact World.ownsRow_nil _ _ _ _
end Go.Proofs.YtphclpjekpdifaaGreat.Wi
namespace Go.Proofs.YtphclpjekpdifaaGreat.Wi
open Go.RowKit Pl
set_option maxRecDepth 20000
set_option linter.unusedVariables false
def BytesAt (w : World) (B : Nat) (A : Option Addr) (bs : List UInt8) : Prop :=
  bs ≠ [] → ∃ b off, A = some ⟨b, off, none⟩ ∧ b < B ∧ ∀ j u, bs[j]? = some u → w.cell? ⟨b, off + j, none⟩ = some (.int .u8 (u.toNat : Int))
theorem BytesAt.keep {w w' : World} {B : Nat} {A : Option Addr} {bs : List UInt8} (h : BytesAt w B A bs) (hk : ∀ q, q < B → w'.heap[q]? = w.heap[q]?) : BytesAt w' B A bs := fun hne => by
  obtain ⟨b, off, h1, h2, h3⟩ := h hne
  exact ⟨b, off, h1, h2, fun j u hu => (World.cell?_of_block (w := w) (hk b h2)).trans (h3 j u hu)⟩
theorem BytesAt.take {w : World} {B : Nat} {A : Option Addr} {bs : List UInt8} (h : BytesAt w B A bs) (n : Nat) : BytesAt w B A (bs.take n) := fun hne => by
  obtain ⟨b, off, h1, h2, h3⟩ := h (fun e => hne (by rw [e]; simp))
  refine ⟨b, off, h1, h2, fun j u hu => h3 j u ?_⟩
  rw [List.getElem?_take] at hu
  split at hu
  · exact hu
  · cases hu
theorem BytesAt.drop {w : World} {B : Nat} {b off : Nat} {bs : List UInt8} (h : BytesAt w B (some ⟨b, off, none⟩) bs) (n : Nat) : BytesAt w B (some ⟨b, off + n, none⟩) (bs.drop n) := fun hne => by
  obtain ⟨b', off', h1, h2, h3⟩ := h (fun e => hne (by rw [e]; simp))
  injection h1 with h1
  injection h1 with h1 h4 _
  subst h1 h4
  refine ⟨b, off + n, rfl, h2, fun j u hu => ?_⟩
  rw [List.getElem?_drop] at hu
  have := h3 (n + j) u hu
  rwa [← Nat.add_assoc] at this
theorem BytesAt.drop' {w : World} {B : Nat} {A : Option Addr} {bs : List UInt8} (h : BytesAt w B A bs) (n : Nat) : BytesAt w B (A.map (·.add n)) (bs.drop n) := fun hne => by
  obtain ⟨b, off, rfl, h2, h3⟩ := h (fun e => hne (by rw [e]; simp))
  refine ⟨b, off + n, ?_, h2, fun j u hu => ?_⟩
  · simp only [Option.map_some, Addr.add]
    split
    · subst n; rfl
    · rfl
  · rw [List.getElem?_drop] at hu
    have := h3 (n + j) u hu
    rwa [← Nat.add_assoc] at this
theorem BytesAt.nil (w : World) (B : Nat) (A : Option Addr) : BytesAt w B A [] := fun h => absurd rfl h
def RSt (w : World) (g : Nat) (bs : List UInt8) (left : Nat) : Prop :=
  ∃ A cap, w.heap[g]? = some (.cells #[.slice A bs.length cap, .int .i64 left] 171 (0, 0)) ∧ bs.length ≤ cap ∧ cap ≤ 9223372036854775807 ∧ BytesAt w g A bs
def RefPanic : List PanicEntry := [{ v := .iface 208 (.agg #[.int .i64 4]), recovered := false }]
def Refused (g : Nat) (w : World) (e : Ending) (w' : World) : Prop := e = .panicked RefPanic ∧ w.grownBy w' (some g)
set_option maxRecDepth 20000 in
theorem refuse_any (a : Value) (w : World) : Calls Tryz.prog 131 #[a] w fun e w' => e = .panicked RefPanic ∧ w = w' := by
  go_enter Tryz.func131, Tryz.ntmps131
  go_wp2_with fail
  exact ⟨rfl, rfl, rfl⟩
set_option maxRecDepth 20000 in
theorem reserve_no (g : Nat) (bs : List UInt8) (left : Nat) (n : Int) (w : World) (h : RSt w g bs left) (hl : left ≤ 4096) (hn : (left : Int) < n) (hn2 : n ≤ 18446744073709551615) :
    Calls Tryz.prog 99 #[.pointer (some ⟨g, 0, none⟩), .int .u64 n] w (Refused g w) := by
  obtain ⟨A, cap, hh, h1, h2, h3⟩ := h
  have c1 : w.cell? ⟨g, 1, none⟩ = some (.int .i64 left) := cell_of_row w g 1 _ _ _ hh
  clear hh h3
  go_enter Tryz.func99, Tryz.ntmps99
  go_wp2_with (go_at_call 131; refine (refuse_any _ _).mono ?_; rintro e w' ⟨rfl, rfl⟩)
  exact ⟨rfl, rfl, World.grownBy.refl _ _⟩
set_option maxRecDepth 20000 in
theorem reserve_yes (g : Nat) (bs : List UInt8) (left : Nat) (n : Nat) (w : World) (h : RSt w g bs left) (hl : left ≤ 4096) (hn : (n : Int) ≤ left) :
    Calls Tryz.prog 99 #[.pointer (some ⟨g, 0, none⟩), .int .u64 n] w fun e w' => e = .returned (.tuple #[]) ∧ RSt w' g bs (left - n) ∧ w.grownBy w' (some g) := by
  obtain ⟨A, cap, hh, h1, h2, h3⟩ := h
  have c1 : w.cell? ⟨g, 1, none⟩ = some (.int .i64 left) := cell_of_row w g 1 _ _ _ hh
  have f1 : w.frozen? ⟨g, 1, none⟩ = false := by simp [World.frozen?, hh]
  have HH := Lib.hid hh
  have H3 := Lib.hid h3
  clear hh h3
  go_enter Tryz.func99, Tryz.ntmps99
  go_wp2_with fail
  go_end0
  refine ⟨rfl, ⟨A, cap, ?_, h1, h2, H3.out.keep fun q hq => Below.heap_setCell _ _ _ _ (by simp; omega)⟩, grownBy_set _ _ _ _⟩
  have := heap_set w g 1 (.int .i64 (left - n)) _ _ HH.out
  rw [this, show ((left - n : Nat) : Int) = (left : Int) - n from by omega]
  rfl
set_option maxRecDepth 20000 in
theorem take_no (g : Nat) (bs : List UInt8) (left : Nat) (n : Int) (w : World) (h : RSt w g bs left) (hn : (bs.length : Int) < n) (hn2 : n ≤ 18446744073709551615) : Calls Tryz.prog 132 #[.pointer (some ⟨g, 0, none⟩), .int .u64 n] w (Refused g w) := by
  obtain ⟨A, cap, hh, h1, h2, h3⟩ := h
  have c0 : w.cell? ⟨g, 0, none⟩ = some (.slice A bs.length cap) := cell_of_row w g 0 _ _ _ hh
  clear hh h3
  go_enter Tryz.func132, Tryz.ntmps132
  go_wp2_with (go_at_call 131; refine (refuse_any _ _).mono ?_; rintro e w' ⟨rfl, rfl⟩)
  exact ⟨rfl, rfl, World.grownBy.refl _ _⟩
def Took (g : Nat) (bs : List UInt8) (left n : Nat) (w : World) (e : Ending) (w' : World) : Prop :=
  ∃ A cap, e = .returned (.slice A n cap) ∧ BytesAt w' g A (bs.take n) ∧ RSt w' g (bs.drop n) left ∧ w.grownBy w' (some g)
set_option maxRecDepth 20000 in
theorem take_yes (g : Nat) (bs : List UInt8) (left n : Nat) (w : World) (h : RSt w g bs left) (hn : n ≤ bs.length) : Calls Tryz.prog 132 #[.pointer (some ⟨g, 0, none⟩), .int .u64 n] w (Took g bs left n w) := by
  obtain ⟨A, cap, hh, h1, h2, h3⟩ := h
  have c0 : w.cell? ⟨g, 0, none⟩ = some (.slice A bs.length cap) := cell_of_row w g 0 _ _ _ hh
  have f0 : w.frozen? ⟨g, 0, none⟩ = false := by simp [World.frozen?, hh]
  have HH := Lib.hid hh
  have H3 := Lib.hid h3
  clear hh h3
  by_cases hcap : cap = n
  · have hlen : bs.length = n := by omega
    have HL := Lib.hid hlen
    have HC := Lib.hid hcap
    clear hlen
    subst hcap
    have hz : bs.length - cap = 0 := by omega
    go_enter Tryz.func132, Tryz.ntmps132
    go_wp2_with fail
    go_ret
    have hd : bs.drop cap = [] := List.drop_of_length_le (by omega)
    refine ⟨A, cap, rfl, (H3.out.take cap).keep fun q hq => Below.heap_setCell _ _ _ _ (by simp; omega), ?_, grownBy_set _ _ _ _⟩
    rw [hd]
    refine ⟨A, 0, ?_, by simp, by omega, BytesAt.nil _ _ _⟩
    have := heap_set w g 0 (.slice A (bs.length - cap) 0) _ _ HH.out
    rw [hz] at this
    simpa using this
  · go_enter Tryz.func132, Tryz.ntmps132
    go_wp2_with fail
    go_ret
    refine ⟨A, cap, rfl, (H3.out.take n).keep fun q hq => Below.heap_setCell _ _ _ _ (by simp; omega), ?_, grownBy_set _ _ _ _⟩
    refine ⟨A.map (·.add n), cap - n, ?_, by rw [List.length_drop]; omega, by omega, (H3.out.drop' n).keep fun q hq => Below.heap_setCell _ _ _ _ (by simp; omega)⟩
    have := heap_set w g 0 (.slice (A.map (·.add n)) (bs.length - n) (cap - n)) _ _ HH.out
    rw [List.length_drop]
    exact this
end Go.Proofs.YtphclpjekpdifaaGreat.Wi
namespace Go.Proofs.YtphclpjekpdifaaGreat.Wi
open Go.RowKit Pl
set_option maxRecDepth 20000
set_option linter.unusedVariables false
def CountAny (g : Nat) (bs : List UInt8) (left : Nat) (w : World) (e : Ending) (w' : World) : Prop :=
  (∀ n r, pcnt bs = some (n, r) → e = .returned (.int .u64 n) ∧ RSt w' g r left) ∧ (pcnt bs = none → e = .panicked RefPanic) ∧ w.grownBy w' (some g)
theorem countAny_no {g : Nat} {bs : List UInt8} {left : Nat} {w w' : World} (h : pcnt bs = none) (hg : w.grownBy w' (some g)) : CountAny g bs left w (.panicked RefPanic) w' :=
  ⟨fun n r h' => (by rw [h] at h'; cases h'), fun _ => rfl, hg⟩
theorem countAny_yes {g : Nat} {bs r : List UInt8} {left n : Nat} {w w' : World} (h : pcnt bs = some (n, r)) (hr : RSt w' g r left) (hg : w.grownBy w' (some g)) : CountAny g bs left w (.returned (.int .u64 n)) w' :=
  ⟨fun n' r' h' => (by rw [h] at h'; simp only [Option.some.injEq, Prod.mk.injEq] at h'; obtain ⟨rfl, rfl⟩ := h'; exact ⟨rfl, hr⟩), fun h' => (by rw [h] at h'; cases h'), hg⟩
set_option maxRecDepth 20000 in
theorem count_nil (g left : Nat) (w : World) (h : RSt w g [] left) : Calls Tryz.prog 134 #[.pointer (some ⟨g, 0, none⟩)] w (CountAny g [] left w) := by
  go_enter Tryz.func134, Tryz.ntmps134
  go_wp2_with fail
  refine (take_no g [] left 1 w h (by simp) (by omega)).mono ?_
  rintro e w1 ⟨rfl, hg⟩
  exact ⟨rfl, countAny_no rfl hg⟩
set_option maxRecDepth 20000 in
theorem count_long (g left : Nat) (d : UInt8) (t : List UInt8) (w : World) (h : RSt w g (d :: t) left) (hd : (8 : Int) < d.toNat) : Calls Tryz.prog 134 #[.pointer (some ⟨g, 0, none⟩)] w (CountAny g (d :: t) left w) := by
  go_enter Tryz.func134, Tryz.ntmps134
  go_wp2_with fail
  refine (take_yes g (d :: t) left 1 w h (by simp)).mono ?_
  rintro e w1 ⟨A, cap, rfl, hb, hr, hg⟩
  obtain ⟨b, off, rfl, hlt, hc⟩ := hb (by simp)
  have hc0 : w1.cell? ⟨b, off, none⟩ = some (.int .u8 (d.toNat : Int)) := hc 0 d rfl
  have HG := Lib.hid hg
  clear hb hr hc hg
  go_wp2_with (go_at_call 131; refine (refuse_any _ _).mono ?_; rintro e w' ⟨rfl, rfl⟩)
  exact ⟨rfl, countAny_no (by rw [pcnt, if_pos (by omega)]) HG.out⟩
set_option maxRecDepth 20000 in
theorem count_short (g left : Nat) (d : UInt8) (t : List UInt8) (w : World) (h : RSt w g (d :: t) left) (hd : (d.toNat : Int) ≤ 8) (ht : (t.length : Int) < d.toNat) : Calls Tryz.prog 134 #[.pointer (some ⟨g, 0, none⟩)] w (CountAny g (d :: t) left w) := by
  go_enter Tryz.func134, Tryz.ntmps134
  go_wp2_with fail
  refine (take_yes g (d :: t) left 1 w h (by simp)).mono ?_
  rintro e w1 ⟨A, cap, rfl, hb, hr, hg⟩
  obtain ⟨b, off, rfl, hlt, hc⟩ := hb (by simp)
  have hc0 : w1.cell? ⟨b, off, none⟩ = some (.int .u8 (d.toNat : Int)) := hc 0 d rfl
  have HG := Lib.hid hg
  have HR := Lib.hid hr
  clear hb hr hc hg
  go_wp2_with fail
  refine (take_no g t left d.toNat w1 HR.out ht (by omega)).mono ?_
  rintro e w2 ⟨rfl, hg2⟩
  exact ⟨rfl, countAny_no (by rw [pcnt, if_neg (by omega), if_pos (by omega)]) (grownBy_trans HG.out hg2)⟩
def CntRel (ds : List UInt8) (n i : Value) : Prop := ∃ j : Nat, j ≤ ds.length ∧ i = .int .i64 j ∧ n = .int .u64 (val (ds.take j)) ∧ (0 < j → ds[0]? ≠ some 0)
theorem or_shift (n : Nat) (b : UInt8) (h : n < 72057594037927936) : bits BinOp.or IntKind.u64 (IntKind.u64.wrap ((n : Int) * 256)) (b.toNat : Int) = ((n * 256 + b.toNat : Nat) : Int) := by
  have hb : b.toNat < 256 := b.toNat_lt
  have e : IntKind.u64.wrap ((n : Int) * 256) = ((n * 256 : Nat) : Int) := by rw [IntKind.wrap_u64]; omega
  rw [e, u64_or_nat _ _ (by omega) (by omega), nat_join 8 _ _ (by omega) (by omega)]
set_option maxRecDepth 20000 in
theorem count_loop (g left : Nat) (d : UInt8) (t : List UInt8) (w : World) (h : RSt w g (d :: t) left) (hd : (d.toNat : Int) ≤ 8) (ht : (d.toNat : Int) ≤ t.length) : Calls Tryz.prog 134 #[.pointer (some ⟨g, 0, none⟩)] w (CountAny g (d :: t) left w) := by
  go_enter Tryz.func134, Tryz.ntmps134
  go_wp2_with fail
  refine (take_yes g (d :: t) left 1 w h (by simp)).mono ?_
  rintro e w1 ⟨A, cap, rfl, hb, hr, hg⟩
  obtain ⟨b, off, rfl, hlt, hc⟩ := hb (by simp)
  have hc0 : w1.cell? ⟨b, off, none⟩ = some (.int .u8 (d.toNat : Int)) := hc 0 d rfl
  have HG := Lib.hid hg
  have HR := Lib.hid hr
  clear hb hr hc hg
  go_wp2_with fail
  refine (take_yes g t left d.toNat w1 HR.out (by omega)).mono ?_
  rintro e w2 ⟨A2, cap2, rfl, hb2, hr2, hg2⟩
  have hlen : (t.take d.toNat).length = d.toNat := by rw [List.length_take]; omega
  have hpc : pcnt (d :: t) = if (t.take d.toNat)[0]? = some 0 then none else some (val (t.take d.toNat), t.drop d.toNat) := by rw [pcnt, if_neg (by omega), if_neg (by omega)]
  have hgg := grownBy_trans HG.out hg2
  generalize hds : t.take d.toNat = ds at *
  generalize hrs : t.drop d.toNat = rs at *
  have HL := Lib.hid hlen
  have HP := Lib.hid hpc
  have HB := Lib.hid hb2
  have HR2 := Lib.hid hr2
  have HGG := Lib.hid hgg
  generalize hdn : d.toNat = dn at *
  clear hlen hpc hb2 hr2 hg2 hc0 hds hrs hgg HG hdn
  go_wp2_with fail
  go_loop [4, 20] (fun n i => CntRel ds n i) (fun _ i => dn - (intOf i).toNat)
  case atStart => exact ⟨0, by omega, rfl, rfl, fun h => by omega⟩
  case round =>
    obtain ⟨j, hj, rfl, rfl, hz⟩ := hrel
    have hHL := HL.out
    by_cases hlt2 : j < dn
    · obtain ⟨b2, off2, rfl, hlt3, hc2⟩ := HB.out (fun e => by rw [e] at hHL; simp at hHL; omega)
      have hx : ds[j]? = some (ds[j]'(by omega)) := List.getElem?_eq_getElem (by omega)
      have hcj := hc2 j _ hx
      have hts := take_succ' ds j _ hx
      have hvl := val_lt (ds.take j)
      have hvl2 : val (ds.take j) < 72057594037927936 := by
        rw [List.length_take] at hvl
        have hj8 : min j ds.length ≤ 7 := by omega
        exact Nat.lt_of_lt_of_le hvl (Nat.le_trans (Nat.pow_le_pow_right (by omega) hj8) (by decide))
      generalize ds[j]'(by omega) = x at hx hcj hts
      have hor := or_shift (val (ds.take j)) x hvl2
      have hxb : (x.toNat : Int) ≤ 255 := by have := x.toNat_lt; omega
      have HTS := Lib.hid hts
      have HX := Lib.hid hx
      have HZ := Lib.hid hz
      have HOR := Lib.hid hor
      clear hc2 hHL hvl hvl2 hx hts hz h hor
      by_cases hj0 : j = 0
      · subst hj0
        rw [Nat.add_zero] at hcj
        by_cases hx0 : x = 0
        · subst hx0
          have hcj' : w2.cell? ⟨b2, off2, none⟩ = some (.int .u8 0) := hcj
          clear hcj hxb
          go_wp2_with (go_at_call 131; refine (refuse_any _ _).mono ?_; rintro e w' ⟨rfl, rfl⟩)
          exact ⟨rfl, countAny_no (by rw [HP.out, if_pos HX.out]) HGG.out⟩
        · have hxn : ((x.toNat : Int) == 0) = false := by
            simp only [beq_eq_false_iff_ne, ne_eq]
            intro e
            exact hx0 (UInt8.toNat_inj.1 (by simpa using e))
          have HX0 := Lib.hid hx0
          clear hx0
          go_wp2_with fail
          rw [show val ([] : List UInt8) = val (ds.take 0) from rfl, HOR.out]
          go_round
          case rel => exact ⟨1, by have := HL.out; omega, rfl, by rw [HTS.out, val_snoc], fun _ => by rw [HX.out]; simpa using HX0.out⟩
          case measure => simp [intOf]; omega
      · have hjn : ((j : Int) == 0) = false := by simpa using hj0
        go_wp2_with fail
        rw [HOR.out]
        go_round
        case rel => exact ⟨j + 1, by have := HL.out; omega, by go_num, by rw [HTS.out, val_snoc], fun _ => HZ.out (by omega)⟩
        case measure => simp [intOf]; omega
    · have ej : j = ds.length := by omega
      subst ej
      rw [List.take_length]
      have hz' : ds[0]? ≠ some 0 := by
        rcases Nat.eq_zero_or_pos ds.length with h0 | h0
        · rw [List.eq_nil_of_length_eq_zero h0]; simp
        · exact hz h0
      have HZ := Lib.hid hz'
      clear hz hz' hHL h
      go_wp2_with fail
      go_ret
      exact countAny_yes (by rw [HP.out, if_neg HZ.out]) HR2.out HGG.out
theorem count_any (g : Nat) (bs : List UInt8) (left : Nat) (w : World) (h : RSt w g bs left) : Calls Tryz.prog 134 #[.pointer (some ⟨g, 0, none⟩)] w (CountAny g bs left w) := by
  cases bs with
  | nil => exact count_nil g left w h
  | cons d t =>
    by_cases h1 : (8 : Int) < d.toNat
    · exact count_long g left d t w h h1
    by_cases h2 : (t.length : Int) < d.toNat
    · exact count_short g left d t w h (by omega) h2
    exact count_loop g left d t w h (by omega) (by omega)
theorem conv_str {w : World} {B : Nat} {A : Option Addr} {bs : List UInt8} (h : BytesAt w B A bs) (n cap : Nat) (hn : bs.length = n) :
    (convert 114 9 (.slice A n cap)).run Tryz.prog w = .ok (.string ⟨bs.toArray⟩) w := by
  subst hn
  cases A with
  | none =>
    have : bs = [] := by
      cases bs with
      | nil => rfl
      | cons x r => obtain ⟨b, off, h1, _⟩ := h (by simp); cases h1
    subst this
    show (convert 114 9 (.slice none 0 cap)).run Tryz.prog w = _
    rw [run_convert_bytes_string w 114 9 5 none 0 cap Tryz.underlying114 Tryz.underlying5 Tryz.underlying9]
    simp [Conv.bytesToString]
    rfl
  | some ad =>
    refine run_convert_bytes_back w 114 9 5 ad cap bs Tryz.underlying114 Tryz.underlying5 Tryz.underlying9 fun j hj => ?_
    obtain ⟨b, off, h1, _, h3⟩ := h (fun e => by rw [e] at hj; simp at hj)
    injection h1 with h1
    subst h1
    have := h3 j _ (List.getElem?_eq_getElem hj)
    unfold Addr.add
    split
    · subst j; simpa using this
    · exact this
def ptext (bs : List UInt8) : Option (ByteArray × List UInt8) :=
  match pcnt bs with
  | none => none
  | some (n, r) => if 4096 < n then none else if r.length < n then none else some (⟨(r.take n).toArray⟩, r.drop n)
def TextAny (g : Nat) (bs : List UInt8) (left : Nat) (w : World) (e : Ending) (w' : World) : Prop :=
  (∀ s r, ptext bs = some (s, r) → e = .returned (.string s) ∧ RSt w' g r left) ∧ (ptext bs = none → e = .panicked RefPanic) ∧ w.grownBy w' (some g)
theorem textAny_no {g : Nat} {bs : List UInt8} {left : Nat} {w w' : World} (h : ptext bs = none) (hg : w.grownBy w' (some g)) : TextAny g bs left w (.panicked RefPanic) w' :=
  ⟨fun n r h' => (by rw [h] at h'; cases h'), fun _ => rfl, hg⟩
theorem textAny_yes {g : Nat} {bs r : List UInt8} {left : Nat} {s : ByteArray} {w w' : World} (h : ptext bs = some (s, r)) (hr : RSt w' g r left) (hg : w.grownBy w' (some g)) : TextAny g bs left w (.returned (.string s)) w' :=
  ⟨fun n' r' h' => (by rw [h] at h'; simp only [Option.some.injEq, Prod.mk.injEq] at h'; obtain ⟨rfl, rfl⟩ := h'; exact ⟨rfl, hr⟩), fun h' => (by rw [h] at h'; cases h'), hg⟩
set_option maxRecDepth 20000 in
theorem text_any (g : Nat) (bs : List UInt8) (left : Nat) (w : World) (h : RSt w g bs left) : Calls Tryz.prog 135 #[.pointer (some ⟨g, 0, none⟩)] w (TextAny g bs left w) := by
  go_enter Tryz.func135, Tryz.ntmps135
  go_wp2_with fail
  refine (count_any g bs left w h).mono ?_
  rintro e w1 ⟨hy, hn, hg⟩
  cases hp : pcnt bs with
  | none =>
    obtain rfl := hn hp
    exact ⟨rfl, textAny_no (by simp [ptext, hp]) hg⟩
  | some x =>
    obtain ⟨n, r⟩ := x
    obtain ⟨rfl, hr⟩ := hy n r hp
    have hlt := (of_pcnt hp).1
    have HP := Lib.hid hp
    have HG := Lib.hid hg
    have HR := Lib.hid hr
    clear hp hg hr hy hn h
    by_cases h1 : (4096 : Int) < n
    · go_wp2_with (go_at_call 131; refine (refuse_any _ _).mono ?_; rintro e w' ⟨rfl, rfl⟩)
      exact ⟨rfl, textAny_no (by simp [ptext, HP.out]; omega) HG.out⟩
    by_cases h2 : (r.length : Int) < n
    · go_wp2_with fail
      refine (take_no g r left n w1 HR.out h2 (by omega)).mono ?_
      rintro e w2 ⟨rfl, hg2⟩
      exact ⟨rfl, textAny_no (by simp [ptext, HP.out]; omega) (grownBy_trans HG.out hg2)⟩
    go_wp2_with fail
    refine (take_yes g r left n w1 HR.out (by omega)).mono ?_
    rintro e w2 ⟨A, cap, rfl, hb, hr2, hg2⟩
    have hcv := conv_str hb n cap (by rw [List.length_take]; omega)
    have hfin : TextAny g bs left w (.returned (.string ⟨(r.take n).toArray⟩)) w2 :=
      textAny_yes (by rw [ptext, HP.out]; simp only []; rw [if_neg (by omega), if_neg (by omega)]) hr2 (grownBy_trans HG.out hg2)
    have HF := Lib.hid hfin
    clear hfin hb hr2 hg2 h1 h2
    generalize (⟨(r.take n).toArray⟩ : ByteArray) = s at *
    go_wp2_with fail
    go_ret
    exact HF.out
end Go.Proofs.YtphclpjekpdifaaGreat.Wi
