import Derived.Test.YtnnakfhkejdfcaaSizes
namespace Go.Proofs.Ytnnakfhkejdfcaa
open Go.RowKit Pl
set_option linter.unusedVariables false

def SamePost (t1 t2 : It) (w : World) (e : Ending) (w' : World) : Prop := ∃ b : Bool, e = .returned (.bool b) ∧ (b = true ↔ t1 = t2) ∧ Below w.heap.size w w'
def SameAll (N : Nat) : Prop := ∀ (t1 t2 : It) (v1 v2 : Value) (w : World), t1.cnt ≤ N → IsIt w (· < w.heap.size) t1 v1 → IsIt w (· < w.heap.size) t2 v2 → Calls Try.prog 10 #[v1, v2] w (SamePost t1 t2 w)

set_option maxRecDepth 20000 in
theorem same_no (k1 n1 : Int) (s1 : ByteArray) (a1 : Option Addr) (m1 c1 : Nat) (k2 n2 : Int) (s2 : ByteArray) (a2 : Option Addr) (m2 c2 : Nat) (w : World)
    (h : (k1 != k2) = true ∨ ((k1 != k2) = false ∧ (n1 != n2) = true) ∨ ((k1 != k2) = false ∧ (n1 != n2) = false ∧ (s1.toList == s2.toList) = false) ∨ ((k1 != k2) = false ∧ (n1 != n2) = false ∧ (s1.toList == s2.toList) = true ∧ ((m1 : Int) != (m2 : Int)) = true)) :
    Calls Try.prog 10 #[.agg #[.int .i64 k1, .int .i64 n1, .string s1, .slice a1 m1 c1], .agg #[.int .i64 k2, .int .i64 n2, .string s2, .slice a2 m2 c2]] w (RetBelow (.bool false) w) := by
  rcases h with h1 | ⟨h1, h2⟩ | ⟨h1, h2, h3⟩ | ⟨h1, h2, h3, h4⟩
  all_goals
    go_enter Try.func10, Try.ntmps10
    go_wp2_with fail
    go_ret
    exact ⟨rfl, ((Below.refl _ _).alloc (Nat.le_refl _) _).alloc (by simp) _⟩

def SameRel (l1 l2 : List It) (w0 : World) (uk : Value) (wr : World) : Prop := ∃ j : Nat, j ≤ l1.length ∧ uk = .int .i64 j ∧ l1.take j = l2.take j ∧ Below w0.heap.size w0 wr

set_option maxRecDepth 20000 in
theorem same_yes (N : Nat) (ih : SameAll N) (k n : Int) (s : ByteArray) (l1 l2 : List It) (a1 a2 : Option Addr) (m c1 c2 : Nat) (w : World) (hm1 : l1.length = m) (hm2 : l2.length = m) (hN : cnts l1 ≤ N) (hml : m ≤ 9223372036854775807)
    (hal1 : AreIts w (· < w.heap.size) l1 a1 0) (hal2 : AreIts w (· < w.heap.size) l2 a2 0) :
    Calls Try.prog 10 #[.agg #[.int .i64 k, .int .i64 n, .string s, .slice a1 m c1], .agg #[.int .i64 k, .int .i64 n, .string s, .slice a2 m c2]] w (SamePost (.mk k n s l1) (.mk k n s l2) w) := by
  have HI := Lib.hid ih
  have HL1 := Lib.hid hal1
  have HL2 := Lib.hid hal2
  have HM1 := Lib.hid hm1
  have HM2 := Lib.hid hm2
  clear ih hal1 hal2 hm1 hm2
  go_enter Try.func10, Try.ntmps10
  go_wp2_with fail
  have S0 := LSt.start w (.int .i64 k) (.int .i64 n) (.string s) (.slice a1 m c1) (.int .i64 k) (.int .i64 n) (.string s) (.slice a2 m c2)
  generalize (w.alloc (.cells #[.int .i64 k, .int .i64 n, .string s, .slice a1 m c1] 26)).alloc (.cells #[.int .i64 k, .int .i64 n, .string s, .slice a2 m c2] 26) = w0 at *
  have I0 := Lib.hid S0
  clear S0
  go_loopw [5] (fun uk wr => SameRel l1 l2 w0 uk wr) (fun uk _ => m - (intOf uk).toNat)
  case atStart => exact ⟨0, by omega, rfl, by simp, Below.refl _ _⟩
  case round =>
    obtain ⟨j, hj, rfl, htk, hbr⟩ := hrel
    have S1 := I0.out.step hbr
    obtain ⟨⟨lt1, lt2⟩, ⟨x0, x1, x2, x3⟩, y0, y1, y2, y3⟩ := S1.facts
    have I1 := Lib.hid S1
    have HBR := Lib.hid hbr
    have HTK := Lib.hid htk
    clear S1 hbr htk
    rw [HM1.out] at hj
    by_cases hlt : j < m
    · have hl1 : j < l1.length := by have := HM1.out; omega
      have hl2 : j < l2.length := by have := HM2.out; omega
      obtain ⟨b1, o1, u0, u1, u2, u3, rfl, hS1, k0, k1, k2, k3, hx1⟩ := (AreIts.keep (fun q hq => I1.out.1.block q hq) l1 HL1.out).at_ (k := j) (x := l1[j]) (List.getElem?_eq_getElem hl1)
      obtain ⟨b2, o2, v0, v1, v2, v3, rfl, hS2, g0, g1, g2, g3, hx2⟩ := (AreIts.keep (fun q hq => I1.out.1.block q hq) l2 HL2.out).at_ (k := j) (x := l2[j]) (List.getElem?_eq_getElem hl2)
      have hts1 := take_succ' l1 j l1[j] (List.getElem?_eq_getElem hl1)
      have hts2 := take_succ' l2 j l2[j] (List.getElem?_eq_getElem hl2)
      have hmc := mem_cnt (List.getElem?_eq_getElem hl1)
      have hd1 : l1[j]? = some l1[j] := List.getElem?_eq_getElem hl1
      have hd2 : l2[j]? = some l2[j] := List.getElem?_eq_getElem hl2
      generalize l1[j] = p1 at hx1 hts1 hmc hd1
      generalize l2[j] = p2 at hx2 hts2 hd2
      obtain ⟨qk, qn, qs, qa, qm, qc, rfl, rfl, rfl, rfl⟩ := hx1.parts
      obtain ⟨rk, rn, rs, ra, rm, rc, rfl, rfl, rfl, rfl⟩ := hx2.parts
      have hsz := I1.out.1.size
      have HX1 := Lib.hid (IsIt.mono (fun q hq => Nat.lt_of_lt_of_le hq hsz) p1 hx1 : IsIt wr (· < wr.heap.size) p1 (.agg #[.int .i64 qk, .int .i64 qn, .string qs, .slice qa qm qc]))
      have HX2 := Lib.hid (IsIt.mono (fun q hq => Nat.lt_of_lt_of_le hq hsz) p2 hx2 : IsIt wr (· < wr.heap.size) p2 (.agg #[.int .i64 rk, .int .i64 rn, .string rs, .slice ra rm rc]))
      have HT1 := Lib.hid hts1
      have HT2 := Lib.hid hts2
      have HD := Lib.hid (And.intro hd1 hd2)
      clear hx1 hx2 hts1 hts2 hd1 hd2 hl1 hl2
      rw [Nat.zero_add] at k0 k1 k2 k3 g0 g1 g2 g3
      go_wp2_with fail
      go_still_tail 10, (by kernel_rfl)
      change wpList _ _ _ _ _ wr.drew
      go_wp2_with fail
      refine (HI.out p1 p2 _ _ wr.drew (by omega) (IsIt.keep (w := wr) (w' := wr.drew) (S := fun q => q < wr.heap.size) (fun _ _ => rfl) p1 HX1.out) (IsIt.keep (w := wr) (w' := wr.drew) (S := fun q => q < wr.heap.size) (fun _ _ => rfl) p2 HX2.out)).mono ?_
      rintro e w4 ⟨b, rfl, hbi, hb4⟩
      have HB4 := Lib.hid (Below.trans (Below.drew (Below.refl _ _)) hb4 : Below wr.heap.size wr w4)
      have HBI := Lib.hid hbi
      clear hbi hb4
      cases b
      · go_wp2_with fail
        go_ret
        refine ⟨false, rfl, ⟨fun h => (by cases h), fun h => ?_⟩, I1.out.1.trans (HB4.out.mono hsz)⟩
        simp only [It.mk.injEq, true_and] at h
        have h1 := HD.out.1
        rw [h, HD.out.2] at h1
        simp only [Option.some.injEq] at h1
        exact absurd (HBI.out.2 h1.symm) (by simp)
      · go_wp2_with fail
        go_roundw
        case rel => exact ⟨j + 1, by have := HM1.out; omega, by go_num, by rw [HT1.out, HT2.out, HTK.out, HBI.out.1 (by simp)], HBR.out.trans (HB4.out.mono HBR.out.size)⟩
        case measure => simp [intOf]; omega
    · go_wp2_with fail
      go_ret
      refine ⟨true, rfl, ⟨fun _ => ?_, fun _ => rfl⟩, I1.out.1⟩
      have e1 := HTK.out
      rw [List.take_of_length_le (by have := HM1.out; omega), List.take_of_length_le (by have := HM2.out; omega)] at e1
      rw [e1]

theorem str_ext {s1 s2 : ByteArray} (h : (s1.toList == s2.toList) = true) : s1 = s2 := by
  rw [beq_iff_eq, ByteArray.toList_eq, ByteArray.toList_eq] at h
  obtain ⟨⟨a⟩⟩ := s1
  obtain ⟨⟨b⟩⟩ := s2
  simp only at h
  rw [h]

theorem same_all : ∀ N, SameAll N := by
  intro N
  induction N with
  | zero => intro t1 _ _ _ _ h; have := cnt_pos t1; omega
  | succ N ih =>
    intro t1 t2 v1 v2 w hN h1 h2
    obtain ⟨k1, n1, s1, l1⟩ := t1
    obtain ⟨k2, n2, s2, l2⟩ := t2
    rw [IsIt] at h1 h2
    obtain ⟨a1, c1, rfl, _, _, _, hl1, hal1⟩ := h1
    obtain ⟨a2, c2, rfl, _, _, _, hl2, hal2⟩ := h2
    rw [cnt_mk] at hN
    have no : ∀ (hd : It.mk k1 n1 s1 l1 ≠ It.mk k2 n2 s2 l2) (h : (k1 != k2) = true ∨ ((k1 != k2) = false ∧ (n1 != n2) = true) ∨ ((k1 != k2) = false ∧ (n1 != n2) = false ∧ (s1.toList == s2.toList) = false) ∨ ((k1 != k2) = false ∧ (n1 != n2) = false ∧ (s1.toList == s2.toList) = true ∧ ((l1.length : Int) != (l2.length : Int)) = true)),
        Calls Try.prog 10 #[.agg #[.int .i64 k1, .int .i64 n1, .string s1, .slice a1 l1.length c1], .agg #[.int .i64 k2, .int .i64 n2, .string s2, .slice a2 l2.length c2]] w (SamePost (.mk k1 n1 s1 l1) (.mk k2 n2 s2 l2) w) :=
      fun hd h => (same_no _ _ _ _ _ _ _ _ _ _ _ _ w h).mono fun e w' h => ⟨false, h.1, ⟨fun hc => (by cases hc), fun hc => absurd hc hd⟩, h.2⟩
    by_cases e1 : k1 = k2
    · have b1 : (k1 != k2) = false := by simpa using e1
      by_cases e2 : n1 = n2
      · have b2 : (n1 != n2) = false := by simpa using e2
        cases b3 : (s1.toList == s2.toList)
        · refine no (fun h => ?_) (.inr (.inr (.inl ⟨b1, b2, b3⟩)))
          simp only [It.mk.injEq] at h
          rw [h.2.2.1] at b3
          simp at b3
        · by_cases e4 : l1.length = l2.length
          · obtain rfl := e1
            obtain rfl := e2
            obtain rfl := str_ext b3
            rw [e4]
            exact same_yes N ih k1 n1 s1 l1 l2 a1 a2 l2.length c1 c2 w e4 rfl (by omega) (by simp only [maxLen] at hl2; omega) hal1 hal2
          · refine no (fun h => ?_) (.inr (.inr (.inr ⟨b1, b2, b3, by simp; omega⟩)))
            simp only [It.mk.injEq] at h
            exact e4 (by rw [h.2.2.2])
      · exact no (fun h => by simp only [It.mk.injEq] at h; exact e2 h.2.1) (.inr (.inl ⟨b1, by simpa using e2⟩))
    · exact no (fun h => by simp only [It.mk.injEq] at h; exact e1 h.1) (.inl (by simpa using e1))
end Go.Proofs.Ytnnakfhkejdfcaa
