import Derived.Test.YtnnakfhkejdfcaaPd
/- Plain facts on reading bytes back, the items counted one by one. No program. -/
namespace Go.Proofs.Ytnnakfhkejdfcaa.Pl
set_option linter.unusedVariables false

/-- an item read off the bytes: f levels may be used, left items may come -/
def qit : Nat → Nat → List UInt8 → Option (It × List UInt8 × Nat)
  | 0, _, _ => none
  | _ + 1, 0, _ => none
  | _ + 1, _ + 1, [] => none
  | f + 1, left + 1, k :: t =>
    if k = 1 then match pcnt t with
      | none => none
      | some (n, r) => some (.mk 1 (unfoldZ n) ⟨#[]⟩ [], r, left)
    else if k = 2 then match pcnt t with
      | none => none
      | some (n, r) => if 4096 < n then none else if r.length < n then none else some (.mk 2 0 ⟨(r.take n).toArray⟩ [], r.drop n, left)
    else if k = 3 then match pcnt t with
      | none => none
      | some (n, r) => if 4096 < n then none else match pmany (qit f) n left r with
        | none => none
        | some (l, r', left') => some (.mk 3 0 ⟨#[]⟩ l, r', left')
    else none

theorem len_cnts (l : List It) : l.length ≤ cnts l := by
  induction l with
  | nil => simp
  | cons y l ih => have := cnt_pos y; simp only [cnts, List.length_cons]; omega

def BackQ (f : Nat) : Prop := ∀ (t : It) (r : List UInt8) (left : Nat), t.ok = true → t.dep ≤ f → t.cnt ≤ left → left ≤ 4096 → qit f left (t.enc ++ r) = some (t, r, left - t.cnt)

theorem qmany_of (f : Nat) (hf : BackQ f) : ∀ (l : List It) (r : List UInt8) (left : Nat), oks l = true → deps l ≤ f → cnts l ≤ left → left ≤ 4096 →
    pmany (qit f) l.length left (encs l ++ r) = some (l, r, left - cnts l) := by
  intro l
  induction l with
  | nil => intro r left _ _ _ _; simp [pmany, encs, cnts]
  | cons x l ih =>
    intro r left ho hd hc hl
    simp only [oks, Bool.and_eq_true] at ho
    simp only [deps] at hd
    simp only [cnts] at hc
    rw [List.length_cons, encs, List.append_assoc, pmany, hf x (encs l ++ r) left ho.1 (by omega) (by omega) hl]
    simp only []
    rw [ih r (left - x.cnt) ho.2 (by omega) (by omega) (by omega)]
    simp only [cnts, Option.some.injEq, Prod.mk.injEq, true_and]
    omega

theorem qit_of : ∀ f, BackQ f := by
  intro f
  induction f with
  | zero => intro t r left _ hd; have := dep_pos t; omega
  | succ f ih =>
    intro t r left ho hd hc hl
    have hcp := cnt_pos t
    obtain ⟨left, rfl⟩ : ∃ m, left = m + 1 := ⟨left - 1, by omega⟩
    obtain ⟨k, n, s, l⟩ := t
    simp only [It.ok, Bool.and_eq_true, decide_eq_true_eq] at ho
    obtain ⟨⟨⟨⟨h1, h2⟩, h3⟩, h4⟩, h5⟩ := ho
    simp only [It.dep] at hd
    simp only [It.cnt] at hc
    simp only [form, Bool.or_eq_true, Bool.and_eq_true, beq_iff_eq] at h1
    rcases h1 with (⟨⟨rfl, a2⟩, a3⟩ | ⟨⟨rfl, rfl⟩, a3⟩) | ⟨⟨rfl, rfl⟩, a3⟩
    · obtain rfl : l = [] := List.eq_nil_of_length_eq_zero a3
      obtain rfl := size_zero a2
      have hr := h2 rfl
      have he : (It.mk 1 n ⟨#[]⟩ []).enc = 1 :: cntB (foldN n) := by simp [It.enc]
      rw [he, List.cons_append, qit, if_pos rfl, pcnt_of _ _ (foldN_range n hr.1 hr.2)]
      simp [unfoldZ_foldN, It.cnt, cnts]
    · obtain rfl : l = [] := List.eq_nil_of_length_eq_zero a3
      have hs := h3 rfl
      have he : (It.mk 2 0 s []).enc = 2 :: (cntB s.size ++ s.data.toList) := by simp [It.enc]
      rw [he, List.cons_append, List.append_assoc, qit, if_neg (by decide), if_pos rfl, pcnt_of _ _ (by omega)]
      simp only []
      rw [if_neg (by omega), if_neg (by rw [List.length_append, size_data]; omega)]
      have e1 : (s.data.toList ++ r).take s.size = s.data.toList := by rw [List.take_append_of_le_length (by rw [size_data]; omega), List.take_of_length_le (by rw [size_data]; omega)]
      have e2 : (s.data.toList ++ r).drop s.size = r := by rw [List.drop_append_of_le_length (by rw [size_data]; omega), List.drop_of_length_le (by rw [size_data]; omega)]; rfl
      rw [e1, e2]
      simp [It.cnt, cnts]
    · obtain rfl := size_zero a3
      have he : (It.mk 3 0 ⟨#[]⟩ l).enc = 3 :: (cntB l.length ++ encs l) := by simp [It.enc]
      have hle := len_cnts l
      rw [he, List.cons_append, List.append_assoc, qit, if_neg (by decide), if_neg (by decide), if_pos rfl, pcnt_of _ _ h4]
      simp only []
      rw [if_neg (by omega), qmany_of f ih l r left h5 (by omega) (by omega) (by omega)]
      simp only [It.cnt, Option.some.injEq, Prod.mk.injEq, true_and]
      omega

def ForthQ (f : Nat) : Prop := ∀ (bs : List UInt8) (left : Nat) (t : It) (r : List UInt8) (left' : Nat), qit f left bs = some (t, r, left') →
  t.ok = true ∧ t.dep ≤ f ∧ t.cnt ≤ left ∧ left' = left - t.cnt ∧ bs = t.enc ++ r

theorem of_qmany (f : Nat) (hf : ForthQ f) : ∀ (n : Nat) (bs : List UInt8) (left : Nat) (l : List It) (r : List UInt8) (left' : Nat), pmany (qit f) n left bs = some (l, r, left') →
    l.length = n ∧ oks l = true ∧ deps l ≤ f ∧ cnts l ≤ left ∧ left' = left - cnts l ∧ bs = encs l ++ r := by
  intro n
  induction n with
  | zero =>
    intro bs left l r left' h
    simp only [pmany, Option.some.injEq, Prod.mk.injEq] at h
    obtain ⟨rfl, rfl, rfl⟩ := h
    simp [oks, deps, cnts, encs]
  | succ n ih =>
    intro bs left l r left' h
    rw [pmany] at h
    cases hp : qit f left bs with
    | none => rw [hp] at h; cases h
    | some x =>
      obtain ⟨t, r1, left1⟩ := x
      rw [hp] at h
      simp only [] at h
      obtain ⟨a1, a2, a3, a4, a5⟩ := hf bs left t r1 left1 hp
      cases hm : pmany (qit f) n left1 r1 with
      | none => rw [hm] at h; cases h
      | some y =>
        obtain ⟨l2, r2, left2⟩ := y
        rw [hm] at h
        simp only [Option.some.injEq, Prod.mk.injEq] at h
        obtain ⟨rfl, rfl, rfl⟩ := h
        obtain ⟨b1, b2, b3, b4, b5, b6⟩ := ih r1 left1 l2 r2 left2 hm
        refine ⟨by simp [b1], by simp [oks, a1, b2], by simp only [deps]; omega, by simp only [cnts]; omega, by simp only [cnts]; omega, ?_⟩
        rw [a5, b6, encs, List.append_assoc]

theorem of_qit : ∀ f, ForthQ f := by
  intro f
  induction f with
  | zero => intro bs left t r left' h; simp [qit] at h
  | succ f ih =>
    intro bs left t r left' h
    cases left with
    | zero => simp [qit] at h
    | succ left =>
    cases bs with
    | nil => simp [qit] at h
    | cons k bs =>
      rw [qit] at h
      by_cases k1 : k = 1
      · subst k1
        rw [if_pos rfl] at h
        cases hp : pcnt bs with
        | none => rw [hp] at h; cases h
        | some x =>
          obtain ⟨n, r1⟩ := x
          rw [hp] at h
          simp only [Option.some.injEq, Prod.mk.injEq] at h
          obtain ⟨rfl, rfl, rfl⟩ := h
          obtain ⟨c1, c2⟩ := of_pcnt hp
          have hr := unfoldZ_range n c1
          refine ⟨?_, by simp [It.dep, deps], by simp [It.cnt, cnts], by simp [It.cnt, cnts], ?_⟩
          · simp [It.ok, form, oks, hr]; rfl
          · rw [c2]; simp [It.enc, foldN_unfoldZ]
      rw [if_neg k1] at h
      by_cases k2 : k = 2
      · subst k2
        rw [if_pos rfl] at h
        cases hp : pcnt bs with
        | none => rw [hp] at h; cases h
        | some x =>
          obtain ⟨n, r1⟩ := x
          rw [hp] at h
          simp only [] at h
          by_cases q1 : 4096 < n
          · rw [if_pos q1] at h; cases h
          rw [if_neg q1] at h
          by_cases q2 : r1.length < n
          · rw [if_pos q2] at h; cases h
          rw [if_neg q2] at h
          simp only [Option.some.injEq, Prod.mk.injEq] at h
          obtain ⟨rfl, rfl, rfl⟩ := h
          obtain ⟨c1, c2⟩ := of_pcnt hp
          have hsz : (⟨(r1.take n).toArray⟩ : ByteArray).size = n := by rw [← size_data]; simp; omega
          refine ⟨?_, by simp [It.dep, deps], by simp [It.cnt, cnts], by simp [It.cnt, cnts], ?_⟩
          · simp [It.ok, form, oks, hsz]; omega
          · rw [c2]; simp [It.enc, hsz]
      rw [if_neg k2] at h
      by_cases k3 : k = 3
      · subst k3
        rw [if_pos rfl] at h
        cases hp : pcnt bs with
        | none => rw [hp] at h; cases h
        | some x =>
          obtain ⟨n, r1⟩ := x
          rw [hp] at h
          simp only [] at h
          by_cases q1 : 4096 < n
          · rw [if_pos q1] at h; cases h
          rw [if_neg q1] at h
          cases hm : pmany (qit f) n left r1 with
          | none => rw [hm] at h; cases h
          | some y =>
            obtain ⟨l2, r2, left2⟩ := y
            rw [hm] at h
            simp only [Option.some.injEq, Prod.mk.injEq] at h
            obtain ⟨rfl, rfl, rfl⟩ := h
            obtain ⟨b1, b2, b3, b4, b5, b6⟩ := of_qmany f ih n r1 left l2 r2 left2 hm
            obtain ⟨c1, c2⟩ := of_pcnt hp
            refine ⟨?_, by simp only [It.dep]; omega, by simp only [It.cnt]; omega, by simp only [It.cnt]; omega, ?_⟩
            · simp only [It.ok, form, b2, b1]
              have hz : (⟨#[]⟩ : ByteArray).size = 0 := rfl
              simp [hz, c1]
            · rw [c2, b6]; simp [It.enc, b1]
      rw [if_neg k3] at h
      cases h

def qdec (bs : List UInt8) : Option It :=
  match qit 12 4096 bs with
  | none => none
  | some (t, r, _) => if r = [] then some t else none

theorem qdec_iff (bs : List UInt8) (t : It) : qdec bs = some t ↔ t.ok = true ∧ t.dep ≤ 12 ∧ t.cnt ≤ 4096 ∧ bs = t.enc := by
  constructor
  · intro h
    unfold qdec at h
    cases hp : qit 12 4096 bs with
    | none => rw [hp] at h; cases h
    | some x =>
      obtain ⟨t1, r, l⟩ := x
      rw [hp] at h
      simp only [] at h
      by_cases hr : r = []
      · rw [if_pos hr] at h
        simp only [Option.some.injEq] at h
        subst h hr
        obtain ⟨a1, a2, a3, a4, a5⟩ := of_qit 12 bs 4096 _ _ _ hp
        exact ⟨a1, a2, by omega, by simpa using a5⟩
      · rw [if_neg hr] at h; cases h
  · rintro ⟨a1, a2, a3, rfl⟩
    have := qit_of 12 t [] 4096 a1 a2 (by omega) (by omega)
    rw [List.append_nil] at this
    unfold qdec
    rw [this]
    simp
theorem qdec_eq (bs : List UInt8) : qdec bs = dec bs := by
  cases hd : dec bs with
  | some t => exact (qdec_iff bs t).2 ((dec_iff bs t).1 hd)
  | none =>
    cases hq : qdec bs with
    | none => rfl
    | some t => rw [(dec_iff bs t).2 ((qdec_iff bs t).1 hq)] at hd; cases hd
end Go.Proofs.Ytnnakfhkejdfcaa.Pl
