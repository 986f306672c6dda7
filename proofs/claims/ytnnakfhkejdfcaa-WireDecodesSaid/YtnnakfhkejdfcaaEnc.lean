import Derived.Test.YtnnakfhkejdfcaaApp
import Derived.Deep.RegionWith
namespace Go.Proofs.Ytnnakfhkejdfcaa
open Go.RowKit Pl
set_option linter.unusedVariables false

theorem mk5 (c : Nat) (h : c ≤ 281474976710656) (w : World) : (Instr.makeSlice 22 (.int .i64 0) (.int .i64 (c : Int))).run Try.prog w = .ok (.slice (some ⟨w.heap.size, 0, none⟩) 0 c) (w.alloc (.cells (madeCells #[.int .u8 0] c) 5)) := by
  obtain ⟨i5, hi5, hz0, hz1, hz2⟩ := info_parts info5
  have := run_make (P := Try.prog) w 22 5 i5 _ Try.underlying22 hi5 hz0 .i64 .i64 0 (c : Int) (by omega) (by omega) (by rw [hz2]; omega) (by omega)
  rw [hz1] at this
  simpa [Value.cells] using this

/-- Encode: the error, and, if there is none, the bytes in memory of its own -/
def EncPost (t : It) (w : World) (e : Ending) (w' : World) : Prop :=
  ∃ v, e = .returned (.tuple #[v, .int .i64 (errOf t)]) ∧ Below w.heap.size w w' ∧ OwnB w' w.heap.size v (if errOf t = 0 then t.enc else [])

theorem errOf_zero {t : It} (h : errOf t = 0) : fits t 0 1 = true ∧ t.good = true := by
  unfold errOf at h
  by_cases h1 : fits t 0 1 = true
  · rw [if_pos h1] at h
    by_cases h2 : t.good = true
    · exact ⟨h1, h2⟩
    · rw [if_neg h2] at h; omega
  · rw [if_neg h1] at h; omega

theorem ownB_made (w : World) (base L : Nat) (hb : base ≤ w.heap.size) (hL : L ≤ 1099511627775) : OwnB (w.alloc (.cells (madeCells #[.int .u8 0] L) 5)) base (.slice (some ⟨w.heap.size, 0, none⟩) 0 L) [] :=
  World.ownsRow_made w _ L hb (by simp only [maxLen]; omega) (by simp [size_madeCells])

set_option maxRecDepth 20000 in
theorem encode_any (t : It) (v : Value) (w : World) (hv : IsIt w (· < w.heap.size) t v) (hle : errOf t = 0 → t.enc.length ≤ 1099511627775) : Calls Try.prog 13 #[v] w (EncPost t w) := by
  have hv0 := hv
  obtain ⟨k, n, s, l⟩ := t
  rw [IsIt] at hv0
  obtain ⟨a, c, rfl, _, _, _, _, _⟩ := hv0
  generalize htt : It.mk k n s l = t at *
  have HTT := Lib.hid htt
  have HV := Lib.hid hv
  have HLE := Lib.hid hle
  clear htt hv hle
  go_enter Try.func13, Try.ntmps13
  go_wp2_with fail
  refine (measure_any t _ _ (IsIt.mono (fun q hq => by simp; omega) t (IsIt.keep (fun q hq => Below.heap_alloc _ _ q hq) t HV.out))).mono ?_
  rintro e w1 ⟨rfl, hb1⟩
  have hx1 : w1.heap[w.heap.size]? = some (.cells #[.int .i64 k, .int .i64 n, .string s, .slice a l.length c] 26 (0, 0)) := (hb1.block _ (by simp)).trans (heap_alloc_new _ _)
  have hb2 : Below w.heap.size w w1 := ((Below.refl _ _).alloc (Nat.le_refl _) _).trans (hb1.mono (by simp))
  have hsz : w.heap.size + 1 ≤ w1.heap.size := by have := hb1.size; simpa using this
  have hlt : w.heap.size < w1.heap.size := by omega
  have HB := Lib.hid hb2
  clear hb1 hb2
  by_cases he : errOf t = 0
  · obtain ⟨e1, e2⟩ := errOf_zero he
    have hl := HLE.out he
    rw [show szOf t = ((t.enc.length : Nat) : Int) from by rw [szOf, if_pos ⟨e1, e2⟩], he]
    have HE := Lib.hid he
    have hlo : t.long = false := by simp only [fits, Bool.and_eq_true, Bool.not_eq_true'] at e1; exact e1.2
    have HL := Lib.hid hlo
    have HG := Lib.hid e2
    clear he e1 e2 hlo
    have hc0 : w1.cell? ⟨w.heap.size, 0, none⟩ = some (.int .i64 k) := cell_of_row w1 _ 0 _ _ _ hx1
    have hc1 : w1.cell? ⟨w.heap.size, 1, none⟩ = some (.int .i64 n) := cell_of_row w1 _ 1 _ _ _ hx1
    have hc2 : w1.cell? ⟨w.heap.size, 2, none⟩ = some (.string s) := cell_of_row w1 _ 2 _ _ _ hx1
    have hc3 : w1.cell? ⟨w.heap.size, 3, none⟩ = some (.slice a l.length c) := cell_of_row w1 _ 3 _ _ _ hx1
    clear hx1
    generalize hL : t.enc.length = L at *
    have HLL := Lib.hid hL
    clear hL
    have hmk := fun W => mk5 L (by omega) W
    go_wp2_with fail
    go_region_with (go_at_call 25; (refine (appItem_all t.cnt t w.heap.size _ _ [] _ (Nat.le_refl _) HG.out HL.out (IsIt.below HV.out (by exact ((HB.out.alloc (Nat.le_of_lt hlt) _).drew))) (by exact ownB_made w1 w.heap.size L (Nat.le_of_lt hlt) hl) (by simp; omega) (by simp only [List.length_nil]; rw [HLL.out]; omega)).mono ?_; rintro e w3 ⟨v3, rfl, hown3, hb3⟩))
    all_goals
      go_wp2_with fail
      go_ret2
      refine ⟨v3, by rw [HE.out]; rfl, (HB.out.alloc (Nat.le_of_lt hlt) _).drew.trans hb3, ?_⟩
      rw [if_pos HE.out]
      exact hown3
  · have hne : (errOf t != 0) = true := by simpa using he
    have HE := Lib.hid he
    clear he hx1
    generalize hq : errOf t = q at *
    have HQ := Lib.hid hq
    clear hq
    go_wp2_with fail
    go_ret2
    refine ⟨.slice none 0 0, by rw [HQ.out]; rfl, HB.out, ?_⟩
    rw [if_neg (by rw [HQ.out]; exact HE.out)]
    exact World.ownsRow_nil _ _ _ _

def SizePost (t : It) (w : World) (e : Ending) (w' : World) : Prop := e = .returned (.int .i64 (szOf t)) ∧ Below w.heap.size w w'

set_option maxRecDepth 20000 in
theorem size_any (t : It) (v : Value) (w : World) (hv : IsIt w (· < w.heap.size) t v) : Calls Try.prog 15 #[v] w (SizePost t w) := by
  have hv0 := hv
  obtain ⟨k, n, s, l⟩ := t
  rw [IsIt] at hv0
  obtain ⟨a, c, rfl, _, _, _, _, _⟩ := hv0
  generalize htt : It.mk k n s l = t at *
  have HTT := Lib.hid htt
  have HV := Lib.hid hv
  clear htt hv
  go_enter Try.func15, Try.ntmps15
  go_wp2_with fail
  refine (measure_any t _ _ (IsIt.mono (fun q hq => by simp; omega) t (IsIt.keep (fun q hq => Below.heap_alloc _ _ q hq) t HV.out))).mono ?_
  rintro e w1 ⟨rfl, hb1⟩
  have hb2 : Below w.heap.size w w1 := ((Below.refl _ _).alloc (Nat.le_refl _) _).trans (hb1.mono (by simp))
  have HB := Lib.hid hb2
  clear hb1 hb2
  go_wp2_with fail
  go_ret
  exact ⟨rfl, HB.out⟩
end Go.Proofs.Ytnnakfhkejdfcaa
