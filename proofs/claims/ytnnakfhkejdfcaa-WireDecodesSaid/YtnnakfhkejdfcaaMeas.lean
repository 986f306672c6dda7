import Derived.Test.YtnnakfhkejdfcaaAdd
namespace Go.Proofs.Ytnnakfhkejdfcaa
open Go.RowKit Pl
set_option linter.unusedVariables false

def errOf (t : It) : Int := if fits t 0 1 = true then (if t.good = true then 0 else 4) else 3
def szOf (t : It) : Int := if fits t 0 1 = true ∧ t.good = true then t.enc.length else 0

def MeasPost (t : It) (w : World) (e : Ending) (w' : World) : Prop := e = .returned (.tuple #[.int .i64 (szOf t), .int .i64 (errOf t)]) ∧ Below w.heap.size w w'

theorem below_of_grown {w w' : World} {r : Nat} (B : Nat) (h : w.grownBy w' (some r)) (hB : B ≤ w.heap.size) (hr : B ≤ r) : Below B w w' :=
  ⟨h.os, h.tape, h.output, h.size, fun k hk => h.block k (by omega) (fun e => by injection e with e; omega)⟩

theorem tal_new (w : World) (o : Obj) : Tal ((w.alloc o).alloc (.cells #[.int .i64 0, .int .i64 0, .bool false] 66)) (w.heap.size + 1) 0 0 false := by
  have := heap_alloc_new (w.alloc o) (.cells #[.int .i64 0, .int .i64 0, .bool false] 66)
  rwa [World.size_alloc] at this

set_option maxRecDepth 20000 in
theorem measure_any (t : It) (v : Value) (w : World) (hv : IsIt w (· < w.heap.size) t v) : Calls Try.prog 24 #[v] w (MeasPost t w) := by
  have hv0 := hv
  obtain ⟨k, n, s, l⟩ := t
  rw [IsIt] at hv0
  obtain ⟨a, c, rfl, _, _, _, _, _⟩ := hv0
  generalize htt : It.mk k n s l = t at *
  have HTT := Lib.hid htt
  have HV := Lib.hid hv
  clear htt hv
  go_enter Try.func24, Try.ntmps24
  go_wp2_with fail
  refine (add_all t.cnt t (w.heap.size + 1) 0 0 false 1 _ (· < w.heap.size) _ (Nat.le_refl _) (IsIt.keep (fun q hq => by rw [Below.heap_alloc _ _ q (by simp; omega), Below.heap_alloc _ _ q (by omega)]) t HV.out) (fun q hq => ⟨by simp; omega, by omega⟩)
    (by exact tal_new _ _) (by omega) (by omega) (by omega) (by omega) (by omega) (by omega)).mono ?_
  rintro e w1 ⟨rfl, hg, hok⟩
  have hbel : Below w.heap.size w w1 := (((Below.refl _ _).alloc (Nat.le_refl _) _).alloc (by simp) _).trans (below_of_grown w.heap.size hg (by simp; omega) (by omega))
  have HB := Lib.hid hbel
  clear hg hbel
  generalize hf : fits t 0 1 = f at *
  cases f
  · have HF := Lib.hid hf
    clear hf hok
    go_wp2_with fail
    go_ret2
    exact ⟨by simp [szOf, errOf, HF.out], HB.out⟩
  · obtain ⟨b', hT, hb1, hb2, hb3⟩ := hok rfl
    have h1 := hT.c1
    have h2 := hT.c2
    have HF := Lib.hid hf
    have HB3 := Lib.hid hb3
    clear hf hok hb3 hT
    generalize hgd : t.good = gd at *
    have HG := Lib.hid hgd
    clear hgd
    cases gd
    · simp only [Bool.not_false, Bool.or_true] at h2
      go_wp2_with fail
      go_ret2
      exact ⟨by simp [szOf, errOf, HF.out, HG.out], HB.out⟩
    · simp only [Bool.not_true, Bool.or_false] at h2
      have hb4 := HB3.out rfl
      have HB4 := Lib.hid hb4
      clear hb4
      go_wp2_with fail
      go_ret2
      exact ⟨by simp [szOf, errOf, HF.out, HG.out, HB4.out], HB.out⟩
end Go.Proofs.Ytnnakfhkejdfcaa
