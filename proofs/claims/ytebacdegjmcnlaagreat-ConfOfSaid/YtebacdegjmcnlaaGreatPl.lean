/-
  What is told of sets of members by numbers alone: bits, how many, most, near, and the number that most have reached. No condition: plain facts on numbers and lists.
-/
namespace Go.Proofs.YtebacdegjmcnlaaGreat.CP
def cntl (l : List Nat) (f : Nat → Bool) : Nat := (l.filter f).length
theorem cntl_nil (f : Nat → Bool) : cntl [] f = 0 := rfl
theorem cntl_cons (a : Nat) (l : List Nat) (f : Nat → Bool) : cntl (a :: l) f = (if f a then 1 else 0) + cntl l f := by
  unfold cntl
  rw [List.filter_cons]
  cases f a <;> simp <;> omega
theorem cntl_meet (a b v w : Nat → Bool) (l : List Nat) : cntl l (fun i => a i && v i) + cntl l (fun i => b i && w i) ≤ cntl l (fun i => a i || b i) + cntl l (fun i => a i && v i && b i && w i) := by
  induction l with
  | nil => simp [cntl_nil]
  | cons x l ih =>
    simp only [cntl_cons]
    cases a x <;> cases b x <;> cases v x <;> cases w x <;> simp <;> omega
theorem cntl_or (a b : Nat → Bool) (l : List Nat) : 2 * cntl l (fun i => a i || b i) = cntl l a + cntl l b + cntl l (fun i => a i ^^ b i) := by
  induction l with
  | nil => simp [cntl_nil]
  | cons x l ih =>
    simp only [cntl_cons]
    cases a x <;> cases b x <;> simp <;> omega
theorem cntl_and (a b : Nat → Bool) (l : List Nat) : cntl l (fun i => a i && b i) + cntl l (fun i => a i || b i) = cntl l a + cntl l b := by
  induction l with
  | nil => simp [cntl_nil]
  | cons x l ih =>
    simp only [cntl_cons]
    cases a x <;> cases b x <;> simp <;> omega
theorem cntl_not (a b : Nat → Bool) (l : List Nat) : cntl l (fun i => a i && b i) + cntl l (fun i => a i && !b i) = cntl l a := by
  induction l with
  | nil => simp [cntl_nil]
  | cons x l ih =>
    simp only [cntl_cons]
    cases a x <;> cases b x <;> simp <;> omega
theorem cntl_mono (a b : Nat → Bool) (l : List Nat) (h : ∀ i ∈ l, a i = true → b i = true) : cntl l a ≤ cntl l b := by
  induction l with
  | nil => simp [cntl_nil]
  | cons x l ih =>
    simp only [cntl_cons]
    have h1 := ih fun i hi => h i (by simp [hi])
    have h2 := h x (by simp)
    cases hx : a x <;> cases hy : b x <;> simp_all <;> omega
theorem cntl_congr (a b : Nat → Bool) (l : List Nat) (h : ∀ i ∈ l, a i = b i) : cntl l a = cntl l b :=
  Nat.le_antisymm (cntl_mono a b l fun i hi q => (h i hi) ▸ q) (cntl_mono b a l fun i hi q => (h i hi) ▸ q)
theorem cntl_le (a : Nat → Bool) (l : List Nat) : cntl l a ≤ l.length := List.length_filter_le _ _
/-! ### numbers of 64 bits -/
abbrev B (m : Int) : BitVec 64 := BitVec.ofInt 64 m
def bit (m : Int) (i : Nat) : Bool := m / ((2 ^ i : Nat) : Int) % 2 == 1
theorem bit_lsb (m : Int) (i : Nat) (h : i < 7) : bit m i = (B m).getLsbD i := by
  have e : (B m).getLsbD i = ((m % ((2 ^ 64 : Nat) : Int)).toNat).testBit i := by
    rw [BitVec.getLsbD, BitVec.toNat_ofInt]
  rw [e, Nat.testBit_eq_decide_div_mod_eq, bit, Bool.eq_iff_iff, beq_iff_eq, decide_eq_true_iff]
  have h7 : i = 0 ∨ i = 1 ∨ i = 2 ∨ i = 3 ∨ i = 4 ∨ i = 5 ∨ i = 6 := by omega
  rcases h7 with rfl | rfl | rfl | rfl | rfl | rfl | rfl <;> omega
def bitsL (m : Int) : List Nat := (List.range 7).filter (bit m)
def May (m : Int) : Prop := 1 ≤ m ∧ m ≤ 127
instance (m : Int) : Decidable (May m) := inferInstanceAs (Decidable (1 ≤ m ∧ m ≤ 127))
def lst (m : Int) : List Nat := if May m then bitsL m else []
def cnt (m : Int) : Nat := (lst m).length
def land (a b : Int) : Int := (B a &&& B b).toInt
def lor (a b : Int) : Int := (B a ||| B b).toInt
def lxor (a b : Int) : Int := (B a ^^^ B b).toInt
theorem B_land (a b : Int) : B (land a b) = B a &&& B b := BitVec.ofInt_toInt
theorem B_lor (a b : Int) : B (lor a b) = B a ||| B b := BitVec.ofInt_toInt
theorem B_lxor (a b : Int) : B (lxor a b) = B a ^^^ B b := BitVec.ofInt_toInt
theorem bit_land (a b : Int) (i : Nat) (h : i < 7) : bit (land a b) i = (bit a i && bit b i) := by
  rw [bit_lsb _ _ h, bit_lsb _ _ h, bit_lsb _ _ h, B_land, BitVec.getLsbD_and]
theorem bit_lor (a b : Int) (i : Nat) (h : i < 7) : bit (lor a b) i = (bit a i || bit b i) := by
  rw [bit_lsb _ _ h, bit_lsb _ _ h, bit_lsb _ _ h, B_lor, BitVec.getLsbD_or]
theorem bit_lxor (a b : Int) (i : Nat) (h : i < 7) : bit (lxor a b) i = (bit a i ^^ bit b i) := by
  rw [bit_lsb _ _ h, bit_lsb _ _ h, bit_lsb _ _ h, B_lxor, BitVec.getLsbD_xor]
theorem lxor_comm (a b : Int) : lxor a b = lxor b a := by unfold lxor; rw [BitVec.xor_comm]
theorem lxor_self (a : Int) : lxor a a = 0 := by unfold lxor; rw [BitVec.xor_self]; rfl
theorem B_nat {m : Int} (h0 : 0 ≤ m) (h1 : m ≤ 127) : (B m).toNat = m.toNat := by
  rw [BitVec.toNat_ofInt]; omega
theorem toInt_small {x : BitVec 64} (h : x.toNat < 128) : x.toInt = (x.toNat : Int) := by
  rw [BitVec.toInt_eq_toNat_cond]; split <;> omega
theorem land_small {m v : Int} (h0 : 0 ≤ m) (h1 : m ≤ 127) : 0 ≤ land m v ∧ land m v ≤ 127 := by
  have h : (B m &&& B v).toNat < 128 := by
    rw [BitVec.toNat_and]
    exact Nat.lt_of_le_of_lt Nat.and_le_left (by rw [B_nat h0 h1]; omega)
  unfold land
  rw [toInt_small h]
  omega
theorem lor_small {m v : Int} (h0 : 0 ≤ m) (h1 : m ≤ 127) (k0 : 0 ≤ v) (k1 : v ≤ 127) : 0 ≤ lor m v ∧ lor m v ≤ 127 := by
  have h : (B m ||| B v).toNat < 128 := by
    rw [BitVec.toNat_or]
    exact Nat.or_lt_two_pow (n := 7) (by rw [B_nat h0 h1]; omega) (by rw [B_nat k0 k1]; omega)
  unfold lor
  rw [toInt_small h]
  omega
theorem lxor_small {m v : Int} (h0 : 0 ≤ m) (h1 : m ≤ 127) (k0 : 0 ≤ v) (k1 : v ≤ 127) : 0 ≤ lxor m v ∧ lxor m v ≤ 127 := by
  have h : (B m ^^^ B v).toNat < 128 := by
    rw [BitVec.toNat_xor]
    exact Nat.xor_lt_two_pow (n := 7) (by rw [B_nat h0 h1]; omega) (by rw [B_nat k0 k1]; omega)
  unfold lxor
  rw [toInt_small h]
  omega
/-! ### how many -/
abbrev R : List Nat := List.range 7
theorem R_lt {i : Nat} (h : i ∈ R) : i < 7 := List.mem_range.1 h
theorem cnt_small {m : Int} (h0 : 0 ≤ m) (h1 : m ≤ 127) : cnt m = cntl R (bit m) := by
  unfold cnt lst
  split
  · rfl
  · rename_i hn
    have : m = 0 := by unfold May at hn; omega
    subst this
    rfl
theorem lst_small {m : Int} (h0 : 0 ≤ m) (h1 : m ≤ 127) : lst m = bitsL m := by
  unfold lst
  split
  · rfl
  · rename_i hn
    have : m = 0 := by unfold May at hn; omega
    subst this
    rfl
theorem cnt_not {m : Int} (h : ¬ May m) : cnt m = 0 := by unfold cnt lst; rw [if_neg h]; rfl
theorem cnt_land {m : Int} (h : May m) (v : Int) : cnt (land m v) = cntl R (fun i => bit m i && bit v i) := by
  have := land_small (v := v) (by have := h.1; omega : 0 ≤ m) h.2
  rw [cnt_small this.1 this.2]
  exact cntl_congr _ _ _ fun i hi => bit_land _ _ _ (R_lt hi)
theorem cnt_may {m : Int} (h : May m) : cnt m = cntl R (bit m) := cnt_small (by have := h.1; omega) h.2
theorem cnt_lor {a b : Int} (h : May a) (k : May b) : cnt (lor a b) = cntl R (fun i => bit a i || bit b i) := by
  have := lor_small (by have := h.1; omega : 0 ≤ a) h.2 (by have := k.1; omega : 0 ≤ b) k.2
  rw [cnt_small this.1 this.2]
  exact cntl_congr _ _ _ fun i hi => bit_lor _ _ _ (R_lt hi)
theorem cnt_lxor {a b : Int} (h : May a) (k : May b) : cnt (lxor a b) = cntl R (fun i => bit a i ^^ bit b i) := by
  have := lxor_small (by have := h.1; omega : 0 ≤ a) h.2 (by have := k.1; omega : 0 ≤ b) k.2
  rw [cnt_small this.1 this.2]
  exact cntl_congr _ _ _ fun i hi => bit_lxor _ _ _ (R_lt hi)
def most (m v : Int) : Bool := decide (May m) && decide (cnt m < 2 * cnt (land m v))
def near (a b : Int) : Bool := decide (May a) && decide (May b) && decide (cnt (lxor a b) = 1)
theorem most_iff {m v : Int} : most m v = true ↔ May m ∧ cnt m < 2 * cntl R (fun i => bit m i && bit v i) := by
  unfold most
  rw [Bool.and_eq_true, decide_eq_true_iff, decide_eq_true_iff]
  constructor
  · rintro ⟨h, k⟩; exact ⟨h, by rw [← cnt_land h]; exact k⟩
  · rintro ⟨h, k⟩; exact ⟨h, by rw [cnt_land h]; exact k⟩
theorem near_iff {a b : Int} : near a b = true ↔ May a ∧ May b ∧ cntl R (fun i => bit a i ^^ bit b i) = 1 := by
  unfold near
  rw [Bool.and_eq_true, Bool.and_eq_true, decide_eq_true_iff, decide_eq_true_iff, decide_eq_true_iff]
  constructor
  · rintro ⟨⟨h, k⟩, e⟩; exact ⟨h, k, by rw [← cnt_lxor h k]; exact e⟩
  · rintro ⟨h, k, e⟩; exact ⟨⟨h, k⟩, by rw [cnt_lxor h k]; exact e⟩
theorem meets {a b v w : Int} (h : a = b ∨ near a b = true) (ha : most a v = true) (hb : most b w = true) : 0 < cnt (land (land (land a v) b) w) := by
  obtain ⟨ma, ha⟩ := most_iff.1 ha
  obtain ⟨mb, hb⟩ := most_iff.1 hb
  have s1 := land_small (v := v) (by have := ma.1; omega : 0 ≤ a) ma.2
  have s2 := land_small (v := b) s1.1 s1.2
  have s3 := land_small (v := w) s2.1 s2.2
  rw [cnt_small s3.1 s3.2]
  have e : cntl R (bit (land (land (land a v) b) w)) = cntl R (fun i => bit a i && bit v i && bit b i && bit w i) := cntl_congr _ _ _ fun i hi => by
    rw [bit_land _ _ _ (R_lt hi), bit_land _ _ _ (R_lt hi), bit_land _ _ _ (R_lt hi)]
  rw [e]
  rw [cnt_may ma] at ha
  rw [cnt_may mb] at hb
  have k1 := cntl_meet (bit a) (bit b) (bit v) (bit w) R
  have k2 := cntl_or (bit a) (bit b) R
  have k3 : cntl R (fun i => bit a i ^^ bit b i) ≤ 1 := by
    rcases h with rfl | h
    · have : cntl R (fun i => bit a i ^^ bit a i) = 0 := by
        have := cntl_congr (fun i => bit a i ^^ bit a i) (fun _ => false) R fun i _ => by simp
        rw [this]; rfl
      omega
    · exact Nat.le_of_eq (near_iff.1 h).2.2
  omega
theorem near_comm (a b : Int) : near a b = near b a := by
  unfold near
  rw [lxor_comm, Bool.and_comm (decide (May a))]
theorem near_self (a : Int) : near a a = false := by
  unfold near
  rw [lxor_self]
  simp [cnt, lst, May]
theorem near_not {a b : Int} (h : ¬ May a ∨ ¬ May b) : near a b = false := by
  unfold near
  rcases h with h | h <;> simp [h]
theorem near_count {a b : Int} (ha : May a) (hb : May b) : near a b = decide ((cnt (lor a b) : Int) - (cnt (land a b) : Int) = 1) := by
  rw [Bool.eq_iff_iff, near_iff, decide_eq_true_iff, cnt_lor ha hb, cnt_land ha]
  have k2 := cntl_or (bit a) (bit b) R
  have k3 := cntl_and (bit a) (bit b) R
  constructor
  · rintro ⟨_, _, e⟩; omega
  · intro e; exact ⟨ha, hb, by omega⟩
theorem near_count0 {a b : Int} (ha : May a) (hb : May b) (h0 : land a b = 0) : near a b = decide ((cnt a : Int) + (cnt b : Int) = 1) := by
  rw [near_count ha hb, cnt_lor ha hb, cnt_land ha, cnt_may ha, cnt_may hb]
  have k3 := cntl_and (bit a) (bit b) R
  have k4 : cntl R (fun i => bit a i && bit b i) = 0 := by
    rw [← cnt_land ha, h0]; rfl
  rw [k4] at k3 ⊢
  congr 1
  exact propext ⟨fun h => by omega, fun h => by omega⟩
theorem cnt_pos {m : Int} (h : May m) : 0 < cnt m := by
  rw [cnt_may h]
  have hk : ∀ k : Fin 128, 1 ≤ k.val → 0 < cntl R (bit (k.val : Int)) := by decide +kernel
  have := h.1; have := h.2
  have := hk ⟨m.toNat, by omega⟩ (by simp; omega)
  rwa [show (((⟨m.toNat, by omega⟩ : Fin 128).val : Nat) : Int) = m from by simp; omega] at this
theorem most_all {m : Int} (h : May m) : most m m = true := by
  refine most_iff.2 ⟨h, ?_⟩
  have e : cntl R (fun i => bit m i && bit m i) = cntl R (bit m) := cntl_congr _ _ _ fun i _ => by simp
  have := cnt_pos h
  rw [e, ← cnt_may h]
  omega
theorem most_none {m : Int} : most m 0 = false := by
  rw [Bool.eq_false_iff]
  intro h
  obtain ⟨h, k⟩ := most_iff.1 h
  have e : cntl R (fun i => bit m i && bit 0 i) = 0 := by
    have := cntl_congr (fun i => bit m i && bit 0 i) (fun _ => false) R fun i _ => by simp [bit]
    rw [this]; rfl
  omega
theorem most_not {m v : Int} (h : ¬ May m) : most m v = false := by unfold most; simp [h]
theorem most_more {m v : Int} (w : Int) (h : most m v = true) : most m (lor v w) = true := by
  obtain ⟨h, k⟩ := most_iff.1 h
  refine most_iff.2 ⟨h, Nat.lt_of_lt_of_le k (Nat.mul_le_mul_left 2 (cntl_mono _ _ _ fun i hi q => ?_))⟩
  rw [bit_lor _ _ _ (R_lt hi)]
  simp only [Bool.and_eq_true, Bool.or_eq_true] at q ⊢
  exact ⟨q.1, .inl q.2⟩
theorem most_other {m v : Int} (h : most m v = true) : most m (lxor (-1) v) = false := by
  rw [Bool.eq_false_iff]
  intro h2
  obtain ⟨h, k⟩ := most_iff.1 h
  obtain ⟨_, k2⟩ := most_iff.1 h2
  have e : cntl R (fun i => bit m i && bit (lxor (-1) v) i) = cntl R (fun i => bit m i && !bit v i) := cntl_congr _ _ _ fun i hi => by
    rw [bit_lxor _ _ _ (R_lt hi)]
    have : bit (-1) i = true := by
      have h7 := R_lt hi
      have h7 : i = 0 ∨ i = 1 ∨ i = 2 ∨ i = 3 ∨ i = 4 ∨ i = 5 ∨ i = 6 := by omega
      rcases h7 with rfl | rfl | rfl | rfl | rfl | rfl | rfl <;> decide
    rw [this, Bool.true_xor]
  have k3 := cntl_not (bit m) (bit v) R
  rw [cnt_may h] at k k2
  omega
/-! ### the number that most have -/
def atL (l : List Int) (i : Nat) : Int := l.getD i 0
def vals (m : Int) (l : List Int) : List Int := (lst m).map (atL l)
def srt (l : List Int) : List Int := l.mergeSort fun x y => decide (x ≤ y)
def mid (m : Int) (l : List Int) : Int := (srt (vals m l)).getD (((vals m l).length - 1) / 2) 0
def reached (m : Int) (l : List Int) : Int := if (vals m l).length = 0 then 0 else max 0 (mid m l)
theorem srt_perm (l : List Int) : (srt l).Perm l := List.mergeSort_perm _ _
theorem srt_len (l : List Int) : (srt l).length = l.length := (srt_perm l).length_eq
theorem srt_sorted (l : List Int) : (srt l).Pairwise (· ≤ ·) := by
  have := List.pairwise_mergeSort (le := fun x y : Int => decide (x ≤ y)) (by intro a b c; simp only [decide_eq_true_iff]; omega) (by intro a b; simp only [Bool.or_eq_true, decide_eq_true_iff]; omega) l
  exact this.imp fun h => of_decide_eq_true h
theorem count_ge {s : List Int} (hs : s.Pairwise (· ≤ ·)) {j : Nat} (hj : j < s.length) {x : Int} (h : x ≤ s[j]) : s.length - j ≤ (s.filter fun y => decide (x ≤ y)).length := by
  have e : (s.drop j).filter (fun y => decide (x ≤ y)) = s.drop j := by
    rw [List.filter_eq_self]
    intro y hy
    obtain ⟨i, hi, rfl⟩ := List.mem_iff_getElem.1 hy
    rw [List.getElem_drop, decide_eq_true_iff]
    rcases Nat.eq_zero_or_pos i with rfl | hp
    · simpa using h
    · exact Int.le_trans h (List.pairwise_iff_getElem.1 hs j (j + i) hj (by simp at hi; omega) (by omega))
  calc s.length - j = ((s.drop j).filter fun y => decide (x ≤ y)).length := by rw [e, List.length_drop]
    _ ≤ _ := (List.Sublist.filter _ (List.drop_sublist j s)).length_le
theorem count_lt {s : List Int} (hs : s.Pairwise (· ≤ ·)) {j : Nat} (hj : j < s.length) {x : Int} (h : s[j] < x) : (s.filter fun y => decide (x ≤ y)).length ≤ s.length - (j + 1) := by
  have e : (s.take (j + 1)).filter (fun y => decide (x ≤ y)) = [] := by
    rw [List.filter_eq_nil_iff]
    intro y hy
    obtain ⟨i, hi, rfl⟩ := List.mem_iff_getElem.1 hy
    rw [List.getElem_take, decide_eq_true_iff]
    simp only [List.length_take] at hi
    rcases Nat.lt_or_ge i j with hp | hp
    · have := List.pairwise_iff_getElem.1 hs i j (by omega) hj hp
      omega
    · have : i = j := by omega
      subst this
      omega
  rw [← List.take_append_drop (j + 1) s, List.filter_append, List.length_append, e, List.length_nil, List.take_append_drop, Nat.zero_add]
  exact Nat.le_trans (List.length_filter_le _ _) (by rw [List.length_drop]; exact Nat.le_refl _)
theorem count_vals (m : Int) (l : List Int) (x : Int) : ((srt (vals m l)).filter fun y => decide (x ≤ y)).length = cntl (lst m) (fun i => decide (x ≤ atL l i)) := by
  rw [((srt_perm (vals m l)).filter _).length_eq, vals, List.filter_map, List.length_map]
  rfl
theorem le_mid {m : Int} (l : List Int) (h : 0 < cnt m) (x : Int) : x ≤ mid m l ↔ cnt m < 2 * cntl (lst m) (fun i => decide (x ≤ atL l i)) := by
  have e : (vals m l).length = cnt m := by unfold vals cnt; rw [List.length_map]
  have hj : (cnt m - 1) / 2 < (srt (vals m l)).length := by rw [srt_len, e]; omega
  have em : mid m l = (srt (vals m l))[(cnt m - 1) / 2] := by
    unfold mid
    rw [e, List.getD_eq_getElem?_getD, List.getElem?_eq_getElem hj, Option.getD_some]
  rw [← count_vals, em]
  constructor
  · intro hx
    have := count_ge (srt_sorted _) hj hx
    rw [srt_len, e] at this
    omega
  · intro hx
    rw [← Int.not_lt]
    intro hn
    have := count_lt (srt_sorted _) hj hn
    rw [srt_len, e] at this
    omega
theorem cntl_lst {m : Int} (h : May m) (f : Nat → Bool) : cntl (lst m) f = cntl R (fun i => bit m i && f i) := by
  unfold cntl lst
  rw [if_pos h, bitsL, List.filter_filter]
  congr 1
  exact List.filter_congr fun i _ => Bool.and_comm _ _
theorem reached_not {m : Int} (h : ¬ May m) (l : List Int) : reached m l = 0 := by
  unfold reached vals lst
  rw [if_neg h]; rfl
theorem reached_may {m : Int} (h : May m) (l : List Int) : reached m l = max 0 (mid m l) := by
  unfold reached
  rw [if_neg (by unfold vals; rw [List.length_map]; have := cnt_pos h; unfold cnt at this; omega)]
theorem le_reached {m : Int} (h : May m) (l : List Int) {x : Int} (hx : 0 < x) : x ≤ reached m l ↔ cnt m < 2 * cntl R (fun i => bit m i && decide (x ≤ atL l i)) := by
  rw [reached_may h, ← cntl_lst h, ← le_mid l (cnt_pos h)]
  omega
theorem reached_nonneg (m : Int) (l : List Int) : 0 ≤ reached m l := by
  unfold reached; split <;> omega
theorem cntl_all {m : Int} (h : May m) {f : Nat → Bool} (hf : ∀ i, i < 7 → f i = true) : cntl R (fun i => bit m i && f i) = cnt m := by
  rw [cnt_may h]
  exact cntl_congr _ _ _ fun i hi => by rw [hf i (R_lt hi), Bool.and_true]
/-- the number most have, of numbers from 0 on: what has so much is most, what has more isn't; and more takes nothing away -/
theorem reached_most {m : Int} (h : May m) (l : List Int) (hl : ∀ i, i < 7 → 0 ≤ atL l i) {has : Int} (hh : ∀ i, i < 7 → bit has i = decide (reached m l ≤ atL l i)) : most m has = true := by
  refine most_iff.2 ⟨h, ?_⟩
  have e : cntl R (fun i => bit m i && bit has i) = cntl R (fun i => bit m i && decide (reached m l ≤ atL l i)) := cntl_congr _ _ _ fun i hi => by rw [hh i (R_lt hi)]
  rw [e]
  rcases Int.lt_or_le 0 (reached m l) with h0 | h0
  · exact (le_reached h l h0).1 (Int.le_refl _)
  · rw [cntl_all h fun i hi => decide_eq_true (Int.le_trans h0 (hl i hi))]
    have := cnt_pos h
    omega
theorem reached_above {m : Int} (h : May m) (l : List Int) {ab : Int} (hh : ∀ i, i < 7 → bit ab i = decide (reached m l < atL l i)) : most m ab = false := by
  rw [Bool.eq_false_iff]
  intro hc
  obtain ⟨_, k⟩ := most_iff.1 hc
  have e : cntl R (fun i => bit m i && bit ab i) = cntl R (fun i => bit m i && decide (reached m l + 1 ≤ atL l i)) := cntl_congr _ _ _ fun i hi => by rw [hh i (R_lt hi)]; rfl
  rw [e] at k
  have h0 := reached_nonneg m l
  have := (le_reached h l (x := reached m l + 1) (by omega)).2 k
  omega
theorem reached_mono {m : Int} (h : May m) (l l2 : List Int) (hl : ∀ i, i < 7 → atL l i ≤ atL l2 i) : reached m l ≤ reached m l2 := by
  rcases Int.lt_or_le 0 (reached m l) with h0 | h0
  · refine (le_reached h l2 h0).2 (Nat.lt_of_lt_of_le ((le_reached h l h0).1 (Int.le_refl _)) (Nat.mul_le_mul_left 2 (cntl_mono _ _ _ fun i hi q => ?_)))
    have := hl i (R_lt hi)
    simp only [Bool.and_eq_true, decide_eq_true_iff] at q ⊢
    exact ⟨q.1, by omega⟩
  · exact Int.le_trans h0 (reached_nonneg m l2)
end Go.Proofs.YtebacdegjmcnlaaGreat.CP
