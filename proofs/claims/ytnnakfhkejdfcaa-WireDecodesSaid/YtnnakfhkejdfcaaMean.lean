import Derived.Test.YtnnakfhkejdfcaaCount
namespace Go.Proofs.Ytnnakfhkejdfcaa
open Go.RowKit
set_option linter.unusedVariables false

def mean (k n : Int) (s : ByteArray) (m : Nat) (sl : Value) : Value :=
  if k = 1 ∧ s.size = 0 ∧ m = 0 then .iface 2 (.int .i64 n) else if k = 2 ∧ n = 0 ∧ m = 0 then .iface 9 (.string s)
  else if k = 3 ∧ n = 0 ∧ s.size = 0 then .iface 24 sl else .nilIface

def RetBelow (v : Value) (w : World) (e : Ending) (w' : World) : Prop := e = .returned v ∧ Below w.heap.size w w'

theorem size_toList (s : ByteArray) : s.size = s.toList.length := by rw [ByteArray.toList_eq]; simp only [Array.length_toList]; rfl
theorem empty_of_size {s : ByteArray} (h : s.size = 0) : s.toList = [] := List.eq_nil_of_length_eq_zero (by rw [← size_toList]; exact h)
theorem isEmpty_of_size {s : ByteArray} (h : ¬ s.size = 0) : s.toList.isEmpty = false := by
  cases hs : s.toList with
  | nil => exact absurd (by rw [size_toList, hs]; rfl) h
  | cons x r => rfl

set_option maxRecDepth 20000 in
theorem meaning_1 (n : Int) (s : ByteArray) (a : Option Addr) (m c : Nat) (w : World) (hs : s.toList = []) :
    Calls Try.prog 35 #[.agg #[.int .i64 1, .int .i64 n, .string s, .slice a 0 c]] w (RetBelow (.iface 2 (.int .i64 n)) w) := by
  have hs' : (!s.toList.isEmpty) = false := by simp [hs]
  go_enter Try.func35, Try.ntmps35
  go_wp2_with fail
  go_ret
  exact ⟨rfl, (Below.refl _ _).alloc (Nat.le_refl _) _⟩
set_option maxRecDepth 20000 in
theorem meaning_1s (n : Int) (s : ByteArray) (a : Option Addr) (m c : Nat) (w : World) (hs : s.toList.isEmpty = false) :
    Calls Try.prog 35 #[.agg #[.int .i64 1, .int .i64 n, .string s, .slice a m c]] w (RetBelow (.nilIface) w) := by
  go_enter Try.func35, Try.ntmps35
  go_wp2_with fail
  go_ret
  exact ⟨rfl, (Below.refl _ _).alloc (Nat.le_refl _) _⟩
set_option maxRecDepth 20000 in
theorem meaning_1m (n : Int) (s : ByteArray) (a : Option Addr) (m c : Nat) (w : World) (hs : s.toList = []) (hm : ((m : Int) == 0) = false) :
    Calls Try.prog 35 #[.agg #[.int .i64 1, .int .i64 n, .string s, .slice a m c]] w (RetBelow (.nilIface) w) := by
  have hs' : (!s.toList.isEmpty) = false := by simp [hs]
  go_enter Try.func35, Try.ntmps35
  go_wp2_with fail
  go_ret
  exact ⟨rfl, (Below.refl _ _).alloc (Nat.le_refl _) _⟩
set_option maxRecDepth 20000 in
theorem meaning_2 (n : Int) (s : ByteArray) (a : Option Addr) (m c : Nat) (w : World) (hn : (n == 0) = true) :
    Calls Try.prog 35 #[.agg #[.int .i64 2, .int .i64 n, .string s, .slice a 0 c]] w (RetBelow (.iface 9 (.string s)) w) := by
  obtain rfl : n = 0 := by simpa using hn
  clear hn
  go_enter Try.func35, Try.ntmps35
  go_wp2_with fail
  go_ret
  exact ⟨rfl, (Below.refl _ _).alloc (Nat.le_refl _) _⟩
set_option maxRecDepth 20000 in
theorem meaning_2n (n : Int) (s : ByteArray) (a : Option Addr) (m c : Nat) (w : World) (hn : (n == 0) = false) :
    Calls Try.prog 35 #[.agg #[.int .i64 2, .int .i64 n, .string s, .slice a m c]] w (RetBelow (.nilIface) w) := by
  go_enter Try.func35, Try.ntmps35
  go_wp2_with fail
  go_ret
  exact ⟨rfl, (Below.refl _ _).alloc (Nat.le_refl _) _⟩
set_option maxRecDepth 20000 in
theorem meaning_2m (n : Int) (s : ByteArray) (a : Option Addr) (m c : Nat) (w : World) (hn : (n == 0) = true) (hm : ((m : Int) == 0) = false) :
    Calls Try.prog 35 #[.agg #[.int .i64 2, .int .i64 n, .string s, .slice a m c]] w (RetBelow (.nilIface) w) := by
  obtain rfl : n = 0 := by simpa using hn
  clear hn
  go_enter Try.func35, Try.ntmps35
  go_wp2_with fail
  go_ret
  exact ⟨rfl, (Below.refl _ _).alloc (Nat.le_refl _) _⟩
set_option maxRecDepth 20000 in
theorem meaning_3 (n : Int) (s : ByteArray) (a : Option Addr) (m c : Nat) (w : World) (hn : (n == 0) = true) (hs : s.toList = []) :
    Calls Try.prog 35 #[.agg #[.int .i64 3, .int .i64 n, .string s, .slice a m c]] w (RetBelow (.iface 24 (.slice a m c)) w) := by
  obtain rfl : n = 0 := by simpa using hn
  clear hn
  have hs' : (!s.toList.isEmpty) = false := by simp [hs]
  go_enter Try.func35, Try.ntmps35
  go_wp2_with fail
  go_ret
  exact ⟨rfl, (Below.refl _ _).alloc (Nat.le_refl _) _⟩
set_option maxRecDepth 20000 in
theorem meaning_3n (n : Int) (s : ByteArray) (a : Option Addr) (m c : Nat) (w : World) (hn : (n == 0) = false) :
    Calls Try.prog 35 #[.agg #[.int .i64 3, .int .i64 n, .string s, .slice a m c]] w (RetBelow (.nilIface) w) := by
  go_enter Try.func35, Try.ntmps35
  go_wp2_with fail
  go_ret
  exact ⟨rfl, (Below.refl _ _).alloc (Nat.le_refl _) _⟩
set_option maxRecDepth 20000 in
theorem meaning_3s (n : Int) (s : ByteArray) (a : Option Addr) (m c : Nat) (w : World) (hn : (n == 0) = true) (hs : s.toList.isEmpty = false) :
    Calls Try.prog 35 #[.agg #[.int .i64 3, .int .i64 n, .string s, .slice a m c]] w (RetBelow (.nilIface) w) := by
  obtain rfl : n = 0 := by simpa using hn
  clear hn
  go_enter Try.func35, Try.ntmps35
  go_wp2_with fail
  go_ret
  exact ⟨rfl, (Below.refl _ _).alloc (Nat.le_refl _) _⟩
set_option maxRecDepth 20000 in
theorem meaning_0 (k n : Int) (s : ByteArray) (a : Option Addr) (m c : Nat) (w : World) (h1 : (k == 1) = false) (h2 : (k == 2) = false) (h3 : (k == 3) = false) :
    Calls Try.prog 35 #[.agg #[.int .i64 k, .int .i64 n, .string s, .slice a m c]] w (RetBelow (.nilIface) w) := by
  go_enter Try.func35, Try.ntmps35
  go_wp2_with fail
  go_ret
  exact ⟨rfl, (Below.refl _ _).alloc (Nat.le_refl _) _⟩

theorem meaning_any (k n : Int) (s : ByteArray) (a : Option Addr) (m c : Nat) (w : World) :
    Calls Try.prog 35 #[.agg #[.int .i64 k, .int .i64 n, .string s, .slice a m c]] w (RetBelow (mean k n s m (.slice a m c)) w) := by
  by_cases h1 : k = 1
  · subst h1
    by_cases hs : s.size = 0
    · by_cases hm : m = 0
      · subst hm; rw [mean, if_pos ⟨rfl, hs, rfl⟩]; exact meaning_1 n s a 0 c w (empty_of_size hs)
      · rw [mean, if_neg (by simp [hm]), if_neg (by simp), if_neg (by simp)]
        exact meaning_1m n s a m c w (empty_of_size hs) (by simp; omega)
    · rw [mean, if_neg (by simp [hs]), if_neg (by simp), if_neg (by simp)]
      exact meaning_1s n s a m c w (isEmpty_of_size hs)
  by_cases h2 : k = 2
  · subst h2
    rw [mean, if_neg (by simp)]
    by_cases hn : n = 0
    · by_cases hm : m = 0
      · subst hm; rw [if_pos ⟨rfl, hn, rfl⟩]; exact meaning_2 n s a 0 c w (by simpa using hn)
      · rw [if_neg (by simp [hm]), if_neg (by simp)]; exact meaning_2m n s a m c w (by simpa using hn) (by simp; omega)
    · rw [if_neg (by simp [hn]), if_neg (by simp)]; exact meaning_2n n s a m c w (by simpa using hn)
  by_cases h3 : k = 3
  · subst h3
    rw [mean, if_neg (by simp), if_neg (by simp)]
    by_cases hn : n = 0
    · by_cases hs : s.size = 0
      · rw [if_pos ⟨rfl, hn, hs⟩]; exact meaning_3 n s a m c w (by simpa using hn) (empty_of_size hs)
      · rw [if_neg (by simp [hs])]; exact meaning_3s n s a m c w (by simpa using hn) (isEmpty_of_size hs)
    · rw [if_neg (by simp [hn])]; exact meaning_3n n s a m c w (by simpa using hn)
  rw [mean, if_neg (by simp [h1]), if_neg (by simp [h2]), if_neg (by simp [h3])]
  exact meaning_0 k n s a m c w (by simpa using h1) (by simpa using h2) (by simpa using h3)
end Go.Proofs.Ytnnakfhkejdfcaa
