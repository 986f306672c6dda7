import Derived.Test.YtebacdegjmcnlaaMr
namespace Go.Proofs.Ytebacdegjmcnlaa
open Go.RowKit Pl
set_option linter.unusedVariables false
theorem ok_num {x : It} (h : x.ok = true) (hk : knd x = 1) : x = nIt (num x) ∧ InR (num x) := by
  obtain ⟨k, n, s, l⟩ := x
  simp only [knd] at hk
  subst hk
  simp only [It.ok, Bool.and_eq_true, decide_eq_true_eq] at h
  obtain ⟨⟨⟨⟨h1, h2⟩, _⟩, _⟩, _⟩ := h
  simp [form] at h1
  obtain ⟨hs, hl⟩ := h1
  refine ⟨?_, h2 trivial⟩
  simp only [nIt, num, It.mk.injEq, true_and]
  exact ⟨size_zero (by simpa using hs), by simpa using hl⟩
theorem ok_txt {x : It} (h : x.ok = true) (hk : knd x = 2) : x = sIt (tx x) ∧ (tx x).size ≤ 4096 := by
  obtain ⟨k, n, s, l⟩ := x
  simp only [knd] at hk
  subst hk
  simp only [It.ok, Bool.and_eq_true, decide_eq_true_eq] at h
  obtain ⟨⟨⟨⟨h1, _⟩, h3⟩, _⟩, _⟩ := h
  simp [form] at h1
  obtain ⟨hs, hl⟩ := h1
  refine ⟨?_, h3 trivial⟩
  simp only [sIt, tx, It.mk.injEq, true_and]
  exact ⟨by simpa using hs, by simpa using hl⟩
theorem ok_row {n : Int} {s : ByteArray} {l : List It} (h : (It.mk 3 n s l).ok = true) : n = 0 ∧ s = ⟨#[]⟩ ∧ oks l = true := by
  simp only [It.ok, Bool.and_eq_true, decide_eq_true_eq] at h
  obtain ⟨⟨⟨⟨h1, _⟩, _⟩, _⟩, h5⟩ := h
  simp [form] at h1
  exact ⟨by simpa using h1.1, size_zero (by simpa using h1.2), h5⟩
theorem ok_vec {x : It} (h : x.ok = true) (hk : isV x = true) : x = vIt (vA x) (vB3 x) (vC x) ∧ InR (vA x) ∧ InR (vB3 x) ∧ InR (vC x) := by
  obtain ⟨k, n, s, l⟩ := x
  simp only [isV, knd, els, Bool.and_eq_true, beq_iff_eq] at hk
  obtain ⟨rfl, hk⟩ := hk
  obtain ⟨rfl, rfl, h5⟩ := ok_row h
  split at hk
  · rename_i x y z
    simp only [Bool.and_eq_true, beq_iff_eq] at hk
    simp only [oks, Bool.and_eq_true] at h5
    obtain ⟨e1, r1⟩ := ok_num h5.1 hk.1
    obtain ⟨e2, r2⟩ := ok_num h5.2.1 hk.2.1
    obtain ⟨e3, r3⟩ := ok_num h5.2.2.1 hk.2.2
    refine ⟨?_, r1, r2, r3⟩
    simp only [vIt, vA, vB3, vC, els]
    rw [← e1, ← e2, ← e3]
  · cases hk
abbrev T7 := Int × ByteArray × ByteArray × Int × Int × Int × Int
abbrev T6 := Int × ByteArray × Int × Int × Int × Int
/-- the command of an item -/
def asC (t : It) : Option T7 := match els t with
  | [i0, i1, i2, i3, i4] => if (knd t == 3 && (five5 i0 i1 i2 i3 i4 && mayC (num i0) (tx i1) (tx i2) (vA i3) (vB3 i3) (vC i3) (num i4))) = true then some (num i0, tx i1, tx i2, vA i3, vB3 i3, vC i3, num i4) else none
  | _ => none
def asR (t : It) : Option T6 := match els t with
  | [i0, i1, i2, i3] => if (knd t == 3 && (four4 i0 i1 i2 i3 && mayR (num i0) (tx i1))) = true then some (num i0, tx i1, vA i2, vB3 i2, vC i2, num i3) else none
  | _ => none
def resC (l : List UInt8) : Option T7 := (dec l).bind asC
def resR (l : List UInt8) : Option T6 := (dec l).bind asR
theorem isV_vIt (a b c : Int) : isV (vIt a b c) = true := by simp [isV, vIt, knd, els, nIt]
theorem asC_cIt (o : Int) (s t : ByteArray) (a b c n : Int) (h : mayC o s t a b c n = true) : asC (cIt o s t a b c n) = some (o, s, t, a, b, c, n) := by
  have h5 : five5 (nIt o) (sIt s) (sIt t) (vIt a b c) (nIt n) = true := by unfold five5; rw [isV_vIt]; rfl
  show (if ((3 : Int) == 3 && (five5 (nIt o) (sIt s) (sIt t) (vIt a b c) (nIt n) && mayC o s t a b c n)) = true then some (o, s, t, a, b, c, n) else none) = _
  rw [h5, h]; rfl
theorem asR_rIt (o : Int) (s : ByteArray) (a b c n : Int) (h : mayR o s = true) : asR (rIt o s a b c n) = some (o, s, a, b, c, n) := by
  have h5 : four4 (nIt o) (sIt s) (vIt a b c) (nIt n) = true := by unfold four4; rw [isV_vIt]; rfl
  show (if ((3 : Int) == 3 && (four4 (nIt o) (sIt s) (vIt a b c) (nIt n) && mayR o s)) = true then some (o, s, a, b, c, n) else none) = _
  rw [h5, h]; rfl
theorem cIt_dec (o : Int) (s t : ByteArray) (a b c n : Int) (ho : InR o) (ha : InR a) (hb : InR b) (hc : InR c) (hn : InR n) (hs : s.size ≤ 4096) (ht : t.size ≤ 4096) : dec (cIt o s t a b c n).enc = some (cIt o s t a b c n) := by
  rw [dec_iff]
  refine ⟨?_, ?_, ?_, rfl⟩
  · obtain ⟨o1, o2⟩ := ho
    obtain ⟨a1, a2⟩ := ha
    obtain ⟨b1, b2⟩ := hb
    obtain ⟨c1, c2⟩ := hc
    obtain ⟨n1, n2⟩ := hn
    simp [cIt, vIt, nIt, sIt, It.ok, oks, form, zero_size, *]
  · simp [cIt, vIt, nIt, sIt, It.dep, deps]
  · simp [cIt, vIt, nIt, sIt, It.cnt, cnts]
theorem rIt_dec (o : Int) (s : ByteArray) (a b c n : Int) (ho : InR o) (ha : InR a) (hb : InR b) (hc : InR c) (hn : InR n) (hs : s.size ≤ 4096) : dec (rIt o s a b c n).enc = some (rIt o s a b c n) := by
  rw [dec_iff]
  refine ⟨?_, ?_, ?_, rfl⟩
  · obtain ⟨o1, o2⟩ := ho
    obtain ⟨a1, a2⟩ := ha
    obtain ⟨b1, b2⟩ := hb
    obtain ⟨c1, c2⟩ := hc
    obtain ⟨n1, n2⟩ := hn
    simp [rIt, vIt, nIt, sIt, It.ok, oks, form, zero_size, *]
  · simp [rIt, vIt, nIt, sIt, It.dep, deps]
  · simp [rIt, vIt, nIt, sIt, It.cnt, cnts]
theorem asC_is {x : It} (hx : x.ok = true) {o : Int} {s t : ByteArray} {a b c n : Int} (h : asC x = some (o, s, t, a, b, c, n)) : x = cIt o s t a b c n ∧ mayC o s t a b c n = true ∧ InR o ∧ InR a ∧ InR b ∧ InR c ∧ InR n := by
  obtain ⟨k, m, z, l⟩ := x
  unfold asC at h
  split at h
  · rename_i i0 i1 i2 i3 i4 he
    simp only [els] at he
    subst he
    split at h
    · rename_i hb
      · simp only [Bool.and_eq_true, five5, beq_iff_eq, knd] at hb
        obtain ⟨rfl, ⟨q0, q1, q2, q3, q4⟩, hm⟩ := hb
        obtain ⟨rfl, rfl, h5⟩ := ok_row hx
        simp only [Option.some.injEq, Prod.mk.injEq] at h
        obtain ⟨rfl, rfl, rfl, rfl, rfl, rfl, rfl⟩ := h
        simp only [oks, Bool.and_eq_true] at h5
        obtain ⟨e0, r0⟩ := ok_num h5.1 q0
        obtain ⟨e1, _⟩ := ok_txt h5.2.1 q1
        obtain ⟨e2, _⟩ := ok_txt h5.2.2.1 q2
        obtain ⟨e3, r3, r4, r5⟩ := ok_vec h5.2.2.2.1 q3
        obtain ⟨e4, r6⟩ := ok_num h5.2.2.2.2.1 q4
        refine ⟨?_, hm, r0, r3, r4, r5, r6⟩
        unfold cIt
        rw [← e0, ← e1, ← e2, ← e3, ← e4]
    · cases h
  · cases h
theorem asR_is {x : It} (hx : x.ok = true) {o : Int} {s : ByteArray} {a b c n : Int} (h : asR x = some (o, s, a, b, c, n)) : x = rIt o s a b c n ∧ mayR o s = true ∧ InR o ∧ InR a ∧ InR b ∧ InR c ∧ InR n := by
  obtain ⟨k, m, z, l⟩ := x
  unfold asR at h
  split at h
  · rename_i i0 i1 i2 i3 he
    simp only [els] at he
    subst he
    split at h
    · rename_i hb
      · simp only [Bool.and_eq_true, four4, beq_iff_eq, knd] at hb
        obtain ⟨rfl, ⟨q0, q1, q2, q3⟩, hm⟩ := hb
        obtain ⟨rfl, rfl, h5⟩ := ok_row hx
        simp only [Option.some.injEq, Prod.mk.injEq] at h
        obtain ⟨rfl, rfl, rfl, rfl, rfl, rfl⟩ := h
        simp only [oks, Bool.and_eq_true] at h5
        obtain ⟨e0, r0⟩ := ok_num h5.1 q0
        obtain ⟨e1, _⟩ := ok_txt h5.2.1 q1
        obtain ⟨e2, r3, r4, r5⟩ := ok_vec h5.2.2.1 q2
        obtain ⟨e3, r6⟩ := ok_num h5.2.2.2.1 q3
        refine ⟨?_, hm, r0, r3, r4, r5, r6⟩
        unfold rIt
        rw [← e0, ← e1, ← e2, ← e3]
    · cases h
  · cases h
theorem resC_iff (l : List UInt8) (o : Int) (s t : ByteArray) (a b c n : Int) : resC l = some (o, s, t, a, b, c, n) ↔ (mayC o s t a b c n = true ∧ InR o ∧ InR a ∧ InR b ∧ InR c ∧ InR n ∧ l = (cIt o s t a b c n).enc) := by
  constructor
  · intro h
    unfold resC at h
    cases hd : dec l with
    | none => rw [hd] at h; cases h
    | some x =>
      rw [hd] at h
      obtain ⟨hx, _, _, hl⟩ := (dec_iff l x).1 hd
      obtain ⟨rfl, hm, r1, r2, r3, r4, r5⟩ := asC_is hx h
      exact ⟨hm, r1, r2, r3, r4, r5, hl⟩
  · rintro ⟨hm, r1, r2, r3, r4, r5, rfl⟩
    obtain ⟨s1, s2⟩ := mayC_name hm
    unfold resC
    rw [cIt_dec o s t a b c n r1 r2 r3 r4 r5 s1 s2]
    exact asC_cIt o s t a b c n hm
theorem resR_iff (l : List UInt8) (o : Int) (s : ByteArray) (a b c n : Int) : resR l = some (o, s, a, b, c, n) ↔ (mayR o s = true ∧ InR o ∧ InR a ∧ InR b ∧ InR c ∧ InR n ∧ l = (rIt o s a b c n).enc) := by
  constructor
  · intro h
    unfold resR at h
    cases hd : dec l with
    | none => rw [hd] at h; cases h
    | some x =>
      rw [hd] at h
      obtain ⟨hx, _, _, hl⟩ := (dec_iff l x).1 hd
      obtain ⟨rfl, hm, r1, r2, r3, r4, r5⟩ := asR_is hx h
      exact ⟨hm, r1, r2, r3, r4, r5, hl⟩
  · rintro ⟨hm, r1, r2, r3, r4, r5, rfl⟩
    obtain ⟨_, _, s1⟩ := mayR_size hm
    unfold resR
    rw [rIt_dec o s a b c n r1 r2 r3 r4 r5 (by omega)]
    exact asR_rIt o s a b c n hm
end Go.Proofs.Ytebacdegjmcnlaa
