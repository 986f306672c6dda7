/-
  A slice of one's own, sorted by the library. Condition: it has at most 1000 numbers.
-/
import Derived.Sort.OwnSortedInts
import Derived.Test.YtebacdegjmcnlaaNear
namespace Go.Proofs.Ytebacdegjmcnlaa
set_option maxRecDepth 20000
open Go.RowKit Go.Sort Go.Shelf
set_option linter.unusedVariables false
theorem sort64_some (blk off cap : Nat) (zs : List Int) (w : World) (hH : Holds (Value.int .i64) w blk off zs.toArray) (hblk : blk < w.heap.size) (hsz : zs.length < 4611686018427387904) :
    Calls Try.prog 24 #[.slice (some ⟨blk, off, none⟩) zs.length cap] w fun e w' =>
      e = .returned (.tuple #[]) ∧ ∃ n os, w' = grow (putRow (Value.int .i64) (Sort.ahead w n) blk off (CP.srt zs).toArray) os := AnyG.slices_Sort_int Try.sort64 blk off cap zs w hH hblk hsz
theorem sort64_nil (p : Option Addr) (cap : Nat) (w : World) :
    Calls Try.prog 24 #[.slice p 0 cap] w fun e w' => e = .returned (.tuple #[]) ∧ w' = w := AnyG.slices_Sort_int_none Try.sort64 p cap w
theorem DL_cell {x u : Value} {z : Int} {q : Nat} (h : (DL.C z)[q]? = some u) : q = 0 ∧ u = .int .i64 z := by
  match q, h with
  | 0, h => exact ⟨rfl, by simpa [DL] using h.symm⟩
  | q + 1, h => simp [DL] at h
theorem sort_any {w : World} {S : Nat → Prop} {v : Value} {zs : List Int} (ho : OwnS DL w S v zs) (hl : zs.length ≤ 1000) :
    ∃ A cap, v = .slice A zs.length cap ∧ zs.length ≤ cap ∧ cap ≤ 9223372036854775807 ∧ Calls Try.prog 24 #[.slice A zs.length cap] w fun e w' => e = .returned (.tuple #[]) ∧ Rd DL w' S A (CP.srt zs) ∧ Fr S w w' := by
  rcases ho with ⟨rfl, rfl⟩ | ⟨g, off, cap, cur, rfl, hs, hg, hc, hm, hz, ht⟩
  · refine ⟨none, 0, rfl, Nat.le_refl _, by omega, (sort64_nil none 0 w).mono ?_⟩
    rintro e w' ⟨rfl, rfl⟩
    exact ⟨rfl, by rw [show CP.srt [] = [] by simp [CP.srt]]; exact Rd.nil _ _ _ _, Fr.refl _ _⟩
  · have hlt : g < w.heap.size := (Array.getElem?_eq_some_iff.1 hg).1
    have hH : Holds (Value.int .i64) w g off zs.toArray := by
      intro j hj
      have hj' : j < zs.length := by simpa using hj
      refine ⟨?_, by simp [World.frozen?, hg]⟩
      rw [cell_of_row w g _ cur DL.e _ hg]
      have := row_cells ht _ _ (flat_get DL zs j zs[j] (List.getElem?_eq_getElem hj') 0 (.int .i64 zs[j]) rfl)
      rw [show j * DL.m + 0 = j from by simp [DL]] at this
      rw [this]
      simp [hj']
    refine ⟨_, cap, rfl, hc, by simp only [maxLen] at hm; omega, (sort64_some g off cap zs w hH hlt (by omega)).mono ?_⟩
    rintro e w' ⟨rfl, n, os, rfl⟩
    refine ⟨rfl, fun _ => ⟨g, off, rfl, hs, by simp; omega, fun i x hx q u hu => ?_⟩, ⟨rfl, rfl, rfl, by simp, fun k hk hn => ?_⟩⟩
    · obtain ⟨rfl, rfl⟩ := DL_cell (x := u) hu
      have hi : i < (CP.srt zs).length := (List.getElem?_eq_some_iff.1 hx).1
      have hi2 : i < zs.length := by rw [CP.srt_len] at hi; exact hi
      rw [show off + i * DL.m + 0 = off + i from by simp [DL], cell?_grow _ _ _ (by simpa using hlt), cell?_putRow (Value.int .i64) (Sort.ahead w n) g off zs.toArray (CP.srt zs).toArray (fun j hj => hH j hj) (by rw [List.size_toArray, List.size_toArray, CP.srt_len]) i (by rw [List.size_toArray]; exact hi)]
      have : (CP.srt zs)[i] = x := by rw [List.getElem?_eq_getElem hi] at hx; exact Option.some.inj hx
      simp [hi, this]
    · have hne : g ≠ k := by rintro rfl; exact hn hs
      rw [heap_grow_old _ _ (by simpa using hk)]
      simp [putRow, mapBlock, Sort.ahead, Array.getElem?_modify, hne]
end Go.Proofs.Ytebacdegjmcnlaa
