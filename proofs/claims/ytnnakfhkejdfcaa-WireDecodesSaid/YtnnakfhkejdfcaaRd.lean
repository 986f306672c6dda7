import Derived.Test.YtnnakfhkejdfcaaEnc
import Derived.Test.YtnnakfhkejdfcaaPd
namespace Go.Proofs.Ytnnakfhkejdfcaa
open Go.RowKit Pl
set_option linter.unusedVariables false

/-- a slice of bytes that reads as bs, in a block below B -/
def BytesAt (w : World) (B : Nat) (A : Option Addr) (bs : List UInt8) : Prop :=
  bs ≠ [] → ∃ b off, A = some ⟨b, off, none⟩ ∧ b < B ∧ ∀ j u, bs[j]? = some u → w.cell? ⟨b, off + j, none⟩ = some (.int .u8 (u.toNat : Int))

theorem BytesAt.keep {w w' : World} {B : Nat} {A : Option Addr} {bs : List UInt8} (h : BytesAt w B A bs) (hk : ∀ q, q < B → w'.heap[q]? = w.heap[q]?) : BytesAt w' B A bs := fun hne => by
  obtain ⟨b, off, h1, h2, h3⟩ := h hne
  exact ⟨b, off, h1, h2, fun j u hu => (World.cell?_of_block (w := w) (hk b h2)).trans (h3 j u hu)⟩
theorem BytesAt.take {w : World} {B : Nat} {A : Option Addr} {bs : List UInt8} (h : BytesAt w B A bs) (n : Nat) : BytesAt w B A (bs.take n) := fun hne => by
  obtain ⟨b, off, h1, h2, h3⟩ := h (fun e => hne (by rw [e]; simp))
  refine ⟨b, off, h1, h2, fun j u hu => h3 j u ?_⟩
  rw [List.getElem?_take] at hu
  split at hu
  · exact hu
  · cases hu
theorem BytesAt.drop {w : World} {B : Nat} {b off : Nat} {bs : List UInt8} (h : BytesAt w B (some ⟨b, off, none⟩) bs) (n : Nat) : BytesAt w B (some ⟨b, off + n, none⟩) (bs.drop n) := fun hne => by
  obtain ⟨b', off', h1, h2, h3⟩ := h (fun e => hne (by rw [e]; simp))
  injection h1 with h1
  injection h1 with h1 h4 _
  subst h1 h4
  refine ⟨b, off + n, rfl, h2, fun j u hu => ?_⟩
  rw [List.getElem?_drop] at hu
  have := h3 (n + j) u hu
  rwa [← Nat.add_assoc] at this
theorem BytesAt.drop' {w : World} {B : Nat} {A : Option Addr} {bs : List UInt8} (h : BytesAt w B A bs) (n : Nat) : BytesAt w B (A.map (·.add n)) (bs.drop n) := fun hne => by
  obtain ⟨b, off, rfl, h2, h3⟩ := h (fun e => hne (by rw [e]; simp))
  refine ⟨b, off + n, ?_, h2, fun j u hu => ?_⟩
  · simp only [Option.map_some, Addr.add]
    split
    · subst n; rfl
    · rfl
  · rw [List.getElem?_drop] at hu
    have := h3 (n + j) u hu
    rwa [← Nat.add_assoc] at this
theorem BytesAt.nil (w : World) (B : Nat) (A : Option Addr) : BytesAt w B A [] := fun h => absurd rfl h

/-- the reader in block g: bs is left, left more items may come -/
def RSt (w : World) (g : Nat) (bs : List UInt8) (left : Nat) : Prop :=
  ∃ A cap, w.heap[g]? = some (.cells #[.slice A bs.length cap, .int .i64 left] 45 (0, 0)) ∧ bs.length ≤ cap ∧ cap ≤ 9223372036854775807 ∧ BytesAt w g A bs

def RefPanic : List PanicEntry := [{ v := .iface 56 (.agg #[.int .i64 4]), recovered := false }]

def Refused (g : Nat) (w : World) (e : Ending) (w' : World) : Prop := e = .panicked RefPanic ∧ w.grownBy w' (some g)

set_option maxRecDepth 20000 in
theorem refuse_any (a : Value) (w : World) : Calls Try.prog 26 #[a] w fun e w' => e = .panicked RefPanic ∧ w = w' := by
  go_enter Try.func26, Try.ntmps26
  go_wp2_with fail
  exact ⟨rfl, rfl, rfl⟩

set_option maxRecDepth 20000 in
theorem reserve_no (g : Nat) (bs : List UInt8) (left : Nat) (n : Int) (w : World) (h : RSt w g bs left) (hl : left ≤ 4096) (hn : (left : Int) < n) (hn2 : n ≤ 18446744073709551615) :
    Calls Try.prog 20 #[.pointer (some ⟨g, 0, none⟩), .int .u64 n] w (Refused g w) := by
  obtain ⟨A, cap, hh, h1, h2, h3⟩ := h
  have c1 : w.cell? ⟨g, 1, none⟩ = some (.int .i64 left) := cell_of_row w g 1 _ _ _ hh
  clear hh h3
  go_enter Try.func20, Try.ntmps20
  go_wp2_with (go_at_call 26; refine (refuse_any _ _).mono ?_; rintro e w' ⟨rfl, rfl⟩)
  exact ⟨rfl, rfl, World.grownBy.refl _ _⟩

set_option maxRecDepth 20000 in
theorem reserve_yes (g : Nat) (bs : List UInt8) (left : Nat) (n : Nat) (w : World) (h : RSt w g bs left) (hl : left ≤ 4096) (hn : (n : Int) ≤ left) :
    Calls Try.prog 20 #[.pointer (some ⟨g, 0, none⟩), .int .u64 n] w fun e w' => e = .returned (.tuple #[]) ∧ RSt w' g bs (left - n) ∧ w.grownBy w' (some g) := by
  obtain ⟨A, cap, hh, h1, h2, h3⟩ := h
  have c1 : w.cell? ⟨g, 1, none⟩ = some (.int .i64 left) := cell_of_row w g 1 _ _ _ hh
  have f1 : w.frozen? ⟨g, 1, none⟩ = false := by simp [World.frozen?, hh]
  have HH := Lib.hid hh
  have H3 := Lib.hid h3
  clear hh h3
  go_enter Try.func20, Try.ntmps20
  go_wp2_with fail
  go_end0
  refine ⟨rfl, ⟨A, cap, ?_, h1, h2, H3.out.keep fun q hq => Below.heap_setCell _ _ _ _ (by simp; omega)⟩, grownBy_set _ _ _ _⟩
  have := heap_set w g 1 (.int .i64 (left - n)) _ _ HH.out
  rw [this, show ((left - n : Nat) : Int) = (left : Int) - n from by omega]
  rfl

set_option maxRecDepth 20000 in
theorem end_no (g : Nat) (bs : List UInt8) (left : Nat) (w : World) (h : RSt w g bs left) (hn : (0 : Int) < bs.length) : Calls Try.prog 22 #[.pointer (some ⟨g, 0, none⟩)] w (Refused g w) := by
  obtain ⟨A, cap, hh, h1, h2, h3⟩ := h
  have c0 : w.cell? ⟨g, 0, none⟩ = some (.slice A bs.length cap) := cell_of_row w g 0 _ _ _ hh
  clear hh h3
  go_enter Try.func22, Try.ntmps22
  go_wp2_with (go_at_call 26; refine (refuse_any _ _).mono ?_; rintro e w' ⟨rfl, rfl⟩)
  exact ⟨rfl, rfl, World.grownBy.refl _ _⟩

set_option maxRecDepth 20000 in
theorem end_yes (g : Nat) (left : Nat) (w : World) (h : RSt w g [] left) : Calls Try.prog 22 #[.pointer (some ⟨g, 0, none⟩)] w fun e w' => e = .returned (.tuple #[]) ∧ w = w' := by
  obtain ⟨A, cap, hh, h1, h2, h3⟩ := h
  have c0 : w.cell? ⟨g, 0, none⟩ = some (.slice A 0 cap) := cell_of_row w g 0 _ _ _ hh
  clear hh h3
  go_enter Try.func22, Try.ntmps22
  go_wp2_with fail
  go_end0
  exact ⟨rfl, rfl⟩

set_option maxRecDepth 20000 in
theorem take_no (g : Nat) (bs : List UInt8) (left : Nat) (n : Int) (w : World) (h : RSt w g bs left) (hn : (bs.length : Int) < n) (hn2 : n ≤ 18446744073709551615) : Calls Try.prog 27 #[.pointer (some ⟨g, 0, none⟩), .int .u64 n] w (Refused g w) := by
  obtain ⟨A, cap, hh, h1, h2, h3⟩ := h
  have c0 : w.cell? ⟨g, 0, none⟩ = some (.slice A bs.length cap) := cell_of_row w g 0 _ _ _ hh
  clear hh h3
  go_enter Try.func27, Try.ntmps27
  go_wp2_with (go_at_call 26; refine (refuse_any _ _).mono ?_; rintro e w' ⟨rfl, rfl⟩)
  exact ⟨rfl, rfl, World.grownBy.refl _ _⟩

/-- the first n bytes, and the reader behind them -/
def Took (g : Nat) (bs : List UInt8) (left n : Nat) (w : World) (e : Ending) (w' : World) : Prop :=
  ∃ A cap, e = .returned (.slice A n cap) ∧ BytesAt w' g A (bs.take n) ∧ RSt w' g (bs.drop n) left ∧ w.grownBy w' (some g)

set_option maxRecDepth 20000 in
theorem take_yes (g : Nat) (bs : List UInt8) (left n : Nat) (w : World) (h : RSt w g bs left) (hn : n ≤ bs.length) : Calls Try.prog 27 #[.pointer (some ⟨g, 0, none⟩), .int .u64 n] w (Took g bs left n w) := by
  obtain ⟨A, cap, hh, h1, h2, h3⟩ := h
  have c0 : w.cell? ⟨g, 0, none⟩ = some (.slice A bs.length cap) := cell_of_row w g 0 _ _ _ hh
  have f0 : w.frozen? ⟨g, 0, none⟩ = false := by simp [World.frozen?, hh]
  have HH := Lib.hid hh
  have H3 := Lib.hid h3
  clear hh h3
  by_cases hcap : cap = n
  · have hlen : bs.length = n := by omega
    have HL := Lib.hid hlen
    have HC := Lib.hid hcap
    clear hlen
    subst hcap
    have hz : bs.length - cap = 0 := by omega
    go_enter Try.func27, Try.ntmps27
    go_wp2_with fail
    go_ret
    have hd : bs.drop cap = [] := List.drop_of_length_le (by omega)
    refine ⟨A, cap, rfl, (H3.out.take cap).keep fun q hq => Below.heap_setCell _ _ _ _ (by simp; omega), ?_, grownBy_set _ _ _ _⟩
    rw [hd]
    refine ⟨A, 0, ?_, by simp, by omega, BytesAt.nil _ _ _⟩
    have := heap_set w g 0 (.slice A (bs.length - cap) 0) _ _ HH.out
    rw [hz] at this
    simpa using this
  · go_enter Try.func27, Try.ntmps27
    go_wp2_with fail
    go_ret
    refine ⟨A, cap, rfl, (H3.out.take n).keep fun q hq => Below.heap_setCell _ _ _ _ (by simp; omega), ?_, grownBy_set _ _ _ _⟩
    refine ⟨A.map (·.add n), cap - n, ?_, by rw [List.length_drop]; omega, by omega, (H3.out.drop' n).keep fun q hq => Below.heap_setCell _ _ _ _ (by simp; omega)⟩
    have := heap_set w g 0 (.slice (A.map (·.add n)) (bs.length - n) (cap - n)) _ _ HH.out
    rw [List.length_drop]
    exact this
end Go.Proofs.Ytnnakfhkejdfcaa
