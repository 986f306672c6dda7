import Derived.Test.YtebacdegjmcnlaaGreatRows
import Derived.Test.YtebacdegjmcnlaaGreatNa
import Derived.WalkKit
import Derived.ProofKit
import Derived.WalkLawsBesides
import Derived.Outline
import Derived.Deep.QuietTactic
import Derived.BigQuiet
import Derived.Lib.Hide
import Derived.LoopTactic
import Derived.Laws.RangeAny
import Derived.Laws.RangeString
import Derived.Lib.Strings
import Derived.Lib.OthersKept
namespace Go.Proofs.YtebacdegjmcnlaaGreat.Nm
open Go.RowKit
set_option linter.unusedVariables false
def alw (c : Nat) : Bool := !(decide (c < 33) || (decide (127 ≤ c) && decide (c ≤ 160)) || c == 8232 || c == 8233 || c == 65533)
def lowN (c : Nat) : Nat := if 65 ≤ c ∧ c ≤ 90 then c + 32 else c
theorem alw_iff (c : Nat) : alw c = true ↔ (33 ≤ c ∧ ¬ (127 ≤ c ∧ c ≤ 160) ∧ c ≠ 8232 ∧ c ≠ 8233 ∧ c ≠ 65533) := by
  simp [alw]; omega
theorem ret_t {b : Bool} (h : b = true) : Ending.returned (.bool true) = .returned (.bool b) := by rw [h]
theorem ret_f {b : Bool} (h : ¬ b = true) : Ending.returned (.bool false) = .returned (.bool b) := by rw [Bool.eq_false_iff.2 h]
theorem lowN_is (c : Nat) : (65 ≤ c ∧ c ≤ 90 ∧ lowN c = c + 32) ∨ (¬ (65 ≤ c ∧ c ≤ 90) ∧ lowN c = c) := by
  unfold lowN; split <;> omega
theorem ret_i {a b : Int} (h : a = b) : Ending.returned (.int .i32 a) = .returned (.int .i32 b) := by rw [h]
theorem ret_b {a b : Bool} (h : a = b) : Ending.returned (.bool a) = .returned (.bool b) := by rw [h]
set_option maxRecDepth 20000 in
theorem allowed_any (c : Nat) (w : World) (hc : c ≤ 1114111) : Calls Tryz.prog 71 #[.int .i32 c] w fun e w' => e = .returned (.bool (alw c)) ∧ w = w' := by
  have HI := Lib.hid (alw_iff c)
  generalize alw c = A at *
  go_enter Tryz.func71, Tryz.ntmps71
  go_wp2_with fail
  all_goals
    try simp only [beq_iff_eq, beq_eq_false_iff_ne] at *
    go_ret
    refine ⟨?_, rfl⟩
    first
      | (refine ret_t (HI.out.2 ?_); omega)
      | (refine ret_f (fun h => ?_); have := HI.out.1 h; omega)
/-- a text's bytes from a place on -/
def L (s : ByteArray) (p : Nat) : List UInt8 := s.data.toList.drop p
theorem L_zero (s : ByteArray) : L s 0 = s.data.toList := by simp [L]
theorem L_ne {s : ByteArray} {p : Nat} (h : p < s.size) : L s p ≠ [] := by
  intro e
  have := congrArg List.length e
  simp only [L, List.length_drop, List.length_nil, Array.length_toList] at this
  have : s.data.size = s.size := rfl
  omega
theorem L_end {s : ByteArray} {p : Nat} (h : ¬ p < s.size) : L s p = [] := by
  unfold L
  rw [List.drop_eq_nil_iff, Array.length_toList]
  have : s.data.size = s.size := rfl
  omega
theorem L_drop (s : ByteArray) (p k : Nat) : (L s p).drop k = L s (p + k) := by simp [L]
theorem dec {s : ByteArray} {p : Nat} (h : p < s.size) : Utf8.decode s p = ((Pl.rune (L s p)).1, (Pl.rune (L s p)).2.1) := Pl.decode_rune s p h
theorem L_len (s : ByteArray) (p : Nat) : (L s p).length = s.size - p := by
  simp only [L, List.length_drop, Array.length_toList]; rfl
theorem wr {x : Int} (h : -9223372036854775808 ≤ x) (k : x ≤ 9223372036854775807) : wrap64 x = x := by unfold wrap64; omega
theorem iter_below (w : World) (s : ByteArray) (p : Nat) : Below w.heap.size w (w.iter s p) := (Below.refl _ _).alloc (Nat.le_refl _) _
theorem runes_step {s : ByteArray} {p : Nat} (h : p < s.size) : Pl.runes (L s p) = Pl.rune (L s p) :: Pl.runes (L s (p + (Pl.rune (L s p)).2.1)) := by
  rw [Pl.runes_cons (L_ne h), L_drop]
theorem okay_step {s : ByteArray} {p : Nat} (h : p < s.size) : Pl.okay (L s p) = ((Pl.rune (L s p)).2.2 && Pl.okay (L s (p + (Pl.rune (L s p)).2.1))) := by
  rw [Pl.okay_cons (L_ne h), L_drop]
theorem nums_step {s : ByteArray} {p : Nat} (h : p < s.size) : Pl.nums (L s p) = (Pl.rune (L s p)).1 :: Pl.nums (L s (p + (Pl.rune (L s p)).2.1)) := by
  rw [Pl.nums_cons (L_ne h), L_drop]
theorem runes_size (s : ByteArray) (p : Nat) : (Pl.runes (L s p)).length ≤ s.size - p := by
  rw [← L_len]; exact Pl.runes_len _
theorem nums_len (l : List UInt8) : (Pl.nums l).length = (Pl.runes l).length := by simp [Pl.nums]
/-- is it a name? -/
def may (l : List UInt8) : Bool := decide (1 ≤ (Pl.runes l).length) && decide ((Pl.runes l).length ≤ 24) && (Pl.nums l).all alw && !(Pl.g l 0 == 45)
theorem may_iff (l : List UInt8) : may l = true ↔ (1 ≤ (Pl.runes l).length ∧ (Pl.runes l).length ≤ 24 ∧ (Pl.nums l).all alw = true ∧ Pl.g l 0 ≠ 45) := by
  simp only [may, Bool.and_eq_true, decide_eq_true_eq, Bool.not_eq_true', beq_eq_false_iff_ne, ne_eq, and_assoc]
theorem dash {l : List UInt8} : (Pl.rune l).1 = 45 ↔ Pl.g l 0 = 45 := by
  constructor
  · intro h
    cases hr : (Pl.rune l).2.2
    · rw [Pl.rune_bad hr] at h; cases h
    · rcases Pl.right_ways hr with ⟨h0, e⟩ | ⟨h0, h1, c1, e⟩ | ⟨h0, h1, c1, c2, d, e⟩ | ⟨h0, h1, c1, c2, c3, d, e⟩
      · rw [e] at h; exact h
      · rw [e] at h; dsimp only at h; omega
      · rw [e] at h; dsimp only at h; omega
      · rw [e] at h; dsimp only at h; omega
  · intro h
    unfold Pl.rune
    rw [if_pos (by omega)]; exact h
set_option maxRecDepth 20000 in
theorem may_any (s : ByteArray) (w : World) (hs : s.size ≤ 281474976710656) :
    Calls Tryz.prog 45 #[.string s] w fun e w' => e = .returned (.bool (may s.data.toList)) ∧ Below w.heap.size w w' := by
  rw [← L_zero]
  have htot := runes_size s 0
  have HM := Lib.hid (may_iff (L s 0))
  generalize may (L s 0) = M at *
  go_enter Tryz.func45, Tryz.ntmps45
  go_wp2_with fail
  go_loopw [3] (fun n w' => ∃ (pos k : Nat), w' = w.iter s pos ∧ n = .int .i64 (k : Nat) ∧ k + (Pl.runes (L s pos)).length = (Pl.runes (L s 0)).length ∧ (Pl.nums (L s 0)).all alw = (Pl.nums (L s pos)).all alw ∧ k ≤ 24 ∧ (pos = 0 ∨ Pl.g (L s 0) 0 ≠ 45) ∧ pos ≤ s.size) (fun _ w' => s.size - w'.iterPos w.heap.size)
  case atStart => exact ⟨0, 0, rfl, rfl, by omega, rfl, by omega, .inl rfl, by omega⟩
  case round =>
    obtain ⟨pos, k, rfl, rfl, hk, hall, hk24, hd, hle⟩ := hrel
    by_cases hp : pos < s.size
    · have hnx : ∀ ty, (Instr.next (.pointer (some ⟨w.heap.size, 0, none⟩)) true ty).run Tryz.prog (w.iter s pos) = _ := fun ty => run_next_any w s pos ty hp
      rw [dec hp] at hnx
      have hbd := Pl.rune_bd (L s pos) (L_ne hp)
      have hll := L_len s pos
      have hrs := runes_step hp
      have hns := nums_step hp
      rw [hrs, List.length_cons] at hk
      rw [hns, List.all_cons] at hall
      have HK := Lib.hid hk
      have HA := Lib.hid hall
      have HD := Lib.hid hd
      have HB := Lib.hid hbd
      have hc := hbd.2.2.2
      have HP := Lib.hid (show pos + (Pl.rune (L s pos)).2.1 ≤ s.size by omega)
      have HW := Lib.hid hbd.1
      generalize hr : Pl.rune (L s pos) = r at *
      clear hk hall hd hbd hrs hns hll htot hle
      go_wp2_with (go_at_call 71; refine (allowed_any _ _ (by omega)).mono ?_; rintro e w1 ⟨rfl, rfl⟩)
      · have h0 : pos = 0 := by assumption
        have h1 : 24 < (k : Int) + 1 ∨ ((r.1 : Int) == 45) = true := by assumption
        subst h0
        go_ret
        refine ⟨ret_f fun hM => ?_, iter_below _ _ _⟩
        have hM := HM.out.1 hM
        have := HK.out
        rcases h1 with h1 | h1
        · omega
        · rw [beq_iff_eq] at h1
          exact hM.2.2.2 (dash.1 (by rw [hr]; omega))
      · have h0 : pos = 0 := by assumption
        have h1 : (k : Int) + 1 ≤ 24 ∧ ((r.1 : Int) == 45) = false := by assumption
        subst h0
        refine ⟨⟨0 + r.2.1, k + 1, by rw [Nat.zero_add], rfl, by have := HK.out; omega, ?_, by omega, .inr fun e => ?_, HP.out⟩, ?_⟩
        · rw [HA.out, show alw r.1 = true by assumption, Bool.true_and]
        · have h2 := h1.2
          rw [beq_eq_false_iff_ne] at h2
          have := dash.2 e
          rw [hr] at this
          omega
        · have := HW.out
          simp
          omega
      · have h0 : ¬ pos = 0 := by assumption
        have h1 : (k : Int) + 1 ≤ 24 := by assumption
        refine ⟨⟨pos + r.2.1, k + 1, rfl, rfl, by have := HK.out; omega, ?_, by omega, .inr (HD.out.resolve_left h0), HP.out⟩, ?_⟩
        · rw [HA.out, show alw r.1 = true by assumption, Bool.true_and]
        · have := HW.out
          simp
          omega
      · have h1 : ¬ alw r.1 = true := by assumption
        go_ret
        refine ⟨ret_f fun hM => ?_, iter_below _ _ _⟩
        have hM := (HM.out.1 hM).2.2.1
        rw [HA.out, Bool.and_eq_true] at hM
        exact h1 hM.1
      · have h1 : 24 < (k : Int) + 1 := by assumption
        go_ret
        refine ⟨ret_f fun hM => ?_, iter_below _ _ _⟩
        have hM := HM.out.1 hM
        have := HK.out
        omega
    · have hnx : ∀ ty, (Instr.next (.pointer (some ⟨w.heap.size, 0, none⟩)) true ty).run Tryz.prog (w.iter s pos) = _ := fun ty => run_next_end w s pos ty hp
      rw [L_end hp, Pl.runes_nil] at hk
      rw [L_end hp, Pl.nums_nil] at hall
      have HK := Lib.hid hk
      have HA := Lib.hid hall
      have HD := Lib.hid hd
      clear hk hall hd htot
      go_wp2_with fail
      go_ret
      refine ⟨ret_b ?_, iter_below _ _ _⟩
      have hk := HK.out
      simp only [List.length_nil, Nat.add_zero] at hk
      rw [Bool.eq_iff_iff, decide_eq_true_eq, HM.out]
      constructor
      · intro h
        refine ⟨by omega, by omega, by rw [HA.out]; rfl, ?_⟩
        rcases HD.out with h0 | h0
        · subst h0
          rw [L_end hp, Pl.runes_nil] at hk
          simp at hk
          omega
        · exact h0
      · intro h
        omega
def str (l : List UInt8) : ByteArray := ⟨l.toArray⟩
theorem str_list (s : ByteArray) : str s.data.toList = s := by cases s; rfl
theorem list_str (l : List UInt8) : (str l).data.toList = l := rfl
theorem str_size (l : List UInt8) : (str l).size = l.length := by show l.toArray.size = _; simp
theorem str_inj {a b : List UInt8} : str a = str b ↔ a = b := ⟨fun h => by have := congrArg (fun x : ByteArray => x.data.toList) h; simpa [str] using this, fun h => by rw [h]⟩
theorem ext_str {s : ByteArray} {l : List UInt8} (h : s.data.toList = l) : s = str l := by rw [← h, str_list]
theorem extract_front (s : ByteArray) (p : Nat) : s.extract 0 p = str ((L s 0).take p) := by
  apply ext_str
  rw [Lib.extract_data, L_zero]; simp
theorem extract_back (s : ByteArray) (p : Nat) : s.extract p s.size = str (L s p) := by
  apply ext_str
  rw [Lib.extract_data, List.take_of_length_le (by rw [← L, L_len]; exact Nat.le_refl _)]; rfl
theorem ret_s {a b : ByteArray} (h : a = b) : Ending.returned (.string a) = .returned (.string b) := by rw [h]
end Go.Proofs.YtebacdegjmcnlaaGreat.Nm
