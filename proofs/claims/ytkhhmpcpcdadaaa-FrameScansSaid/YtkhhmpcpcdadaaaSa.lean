import Derived.Test.YtkhhmpcpcdadaaaAw
import Derived.Deep.QuietTactic
import Derived.BigQuiet
namespace Go.Proofs.Ytkhhmpcpcdadaaa
open Go.RowKit
set_option linter.unusedVariables false

theorem SlAt.conv {w : World} {B : Nat} {v : Value} {l : List UInt8} (h : SlAt w B v l) : (convert 22 9 v).run Try.prog w = .ok (.string ⟨l.toArray⟩) w := by
  obtain ⟨A, c, rfl, _, _, _, hb⟩ := h
  exact conv_str hb _ _ rfl
def SameRel (n : Nat) (w : World) (i : Value) (wr : World) : Prop := ∃ k : Nat, k ≤ n ∧ i = .int .i64 k ∧ Below w.heap.size w wr
set_option maxRecDepth 20000 in
theorem same_any (ls : List (List UInt8)) (A A' : Option Addr) (n c c' B : Nat) (w : World) (hB : B ≤ w.heap.size) (h1 : RowsAt w B A ls) (h2 : RowsAt w B A' ls) (hn : ls.length = n) (hc : n ≤ 9223372036854775807) :
    Calls Try.prog 15 #[.slice A n c, .slice A' n c'] w (RetBelow (.bool true) w) := by
  have H1 := Lib.hid h1
  have H2 := Lib.hid h2
  have HN := Lib.hid hn
  clear h1 h2 hn
  go_enter Try.func15, Try.ntmps15
  go_wp2_with fail
  go_loopw [13] (SameRel n w) (fun i _ => n - (intOf i).toNat)
  case atStart => exact ⟨0, by omega, rfl, Below.refl _ _⟩
  case round =>
    obtain ⟨k, hk, rfl, bel⟩ := hrel
    have BE := Lib.hid bel
    clear bel
    by_cases hlt : k < n
    · have hkl : k < ls.length := by rw [HN.out]; exact hlt
      have hl : ls[k]? = some ls[k] := List.getElem?_eq_getElem hkl
      have hne : ls ≠ [] := fun e => by rw [e] at hkl; simp at hkl
      obtain ⟨b, off, rfl, hb, hat⟩ := (H1.out.keep fun q hq => BE.out.block q (by omega)) hne
      obtain ⟨b', off', rfl, hb', hat'⟩ := (H2.out.keep fun q hq => BE.out.block q (by omega)) hne
      obtain ⟨v, x1, x2⟩ := hat k _ hl
      obtain ⟨v', y1, y2⟩ := hat' k _ hl
      have hcv := fun j => (x2.keep (w' := wr.drewN j) fun q _ => rfl).conv
      have hcv' := fun j => (y2.keep (w' := wr.drewN j) fun q _ => rfl).conv
      have i1 : (k : Int) < n := by omega
      have i0 : (0 : Int) ≤ (k : Int) := by omega
      clear hat hat' x2 y2 hl hne
      generalize ls[k] = l at *
      clear hkl
      go_wp2_with fail
      go_quiet (fail)
      go_wp2_with fail
      go_roundw
      case rel => exact ⟨k + 1, by omega, by go_num, BE.out.trans ⟨rfl, rfl, rfl, Nat.le_refl _, fun _ _ => rfl⟩⟩
      case measure => simp [intOf]; omega
    · obtain rfl : k = n := by omega
      go_wp2_with fail
      go_ret
      exact ⟨rfl, BE.out⟩

/-! ### total -/
theorem Fr.tot_snoc {ls : List (List UInt8)} {k : Nat} {l : List UInt8} (h : ls[k]? = some l) : Fr.tot (ls.take (k + 1)) = Fr.tot (ls.take k) + l.length := by
  obtain ⟨hk, rfl⟩ := List.getElem?_eq_some_iff.1 h
  rw [List.take_succ_eq_append_getElem hk, Fr.tot_append]
  simp [Fr.tot]
def TotPost (ls : List (List UInt8)) (w : World) (e : Ending) (w' : World) : Prop := w = w' ∧ ∃ t : Int, e = .returned (.int .i64 t) ∧ (Fr.tot ls ≤ 65536 → t = (Fr.tot ls : Nat)) ∧ (65536 < Fr.tot ls → 65536 < t)
def TotRel (ls : List (List UInt8)) (n : Nat) (v i : Value) : Prop := ∃ k : Nat, k ≤ n ∧ i = .int .i64 k ∧ Fr.tot (ls.take k) ≤ 65536 ∧ v = .int .i64 (Fr.tot (ls.take k) : Nat)
set_option maxRecDepth 20000 in
theorem total_any (ls : List (List UInt8)) (A : Option Addr) (n c B : Nat) (w : World) (h1 : RowsAt w B A ls) (hn : ls.length = n) (hc : n ≤ 9223372036854775807) :
    Calls Try.prog 16 #[.slice A n c] w (TotPost ls w) := by
  have H1 := Lib.hid h1
  have HN := Lib.hid hn
  clear h1 hn
  go_enter Try.func16, Try.ntmps16
  go_wp2_with fail
  go_loop [3, 7] (TotRel ls n) (fun _ i => n - (intOf i).toNat)
  case atStart => exact ⟨0, by omega, rfl, by simp [Fr.tot], by simp [Fr.tot]⟩
  case round =>
    obtain ⟨k, hk, rfl, htk, rfl⟩ := hrel
    by_cases hlt : k < n
    · have hkl : k < ls.length := by rw [HN.out]; exact hlt
      have hl : ls[k]? = some ls[k] := List.getElem?_eq_getElem hkl
      have hne : ls ≠ [] := fun e => by rw [e] at hkl; simp at hkl
      obtain ⟨b, off, rfl, hb, hat⟩ := H1.out hne
      obtain ⟨v, x1, A2, c2, rfl, h2, h3, h4, h5⟩ := hat k _ hl
      clear h4 h5
      have HS := Lib.hid (Fr.tot_snoc hl)
      have HT := Lib.hid (Fr.tot_take ls (k + 1))
      clear hat hl hne
      generalize hT : Fr.tot (ls.take k) = T at *
      generalize ls[k].length = x at *
      clear hT
      by_cases hx : 65536 < T + x
      · by_cases hx2 : 131072 < x
        · have hx' : (131072 : Int) < x := by omega
          have hx3 : (65536 : Int) < (T : Int) + 131072 := by omega
          have HX := Lib.hid hx
          clear hx hx2
          go_wp2_with fail
          go_ret
          exact ⟨rfl, _, rfl, fun h => by have := HS.out; have := HT.out; have := HX.out; omega, fun _ => by omega⟩
        · have hx' : ¬ (131072 : Int) < x := by omega
          have hx3 : (65536 : Int) < (T : Int) + x := by omega
          have HX := Lib.hid hx
          clear hx hx2
          go_wp2_with fail
          go_ret
          exact ⟨rfl, _, rfl, fun h => by have := HS.out; have := HT.out; have := HX.out; omega, fun _ => by omega⟩
      · have hx' : ¬ (131072 : Int) < x := by omega
        have hx3 : ¬ (65536 : Int) < (T : Int) + x := by omega
        have HX := Lib.hid hx
        clear hx
        go_wp2_with fail
        go_round
        case rel => exact ⟨k + 1, by omega, by go_num, by rw [HS.out]; have := HX.out; omega, by rw [HS.out]; go_num⟩
        case measure => simp [intOf]; omega
    · obtain rfl : k = n := by omega
      rw [List.take_of_length_le (by rw [HN.out]; omega)] at htk ⊢
      go_wp2_with fail
      go_ret
      exact ⟨rfl, _, rfl, fun _ => rfl, fun h => by omega⟩
end Go.Proofs.Ytkhhmpcpcdadaaa
