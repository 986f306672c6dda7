import Derived.Test.YtipclhklkngamaaNi
import Derived.Laws.StructEq
namespace Go.Proofs.Ytipclhklkngamaa
open Go.RowKit
set_option linter.unusedVariables false

theorem toList_inj (a b : ByteArray) : a.toList = b.toList ↔ a = b := by
  rw [ByteArray.toList_eq, ByteArray.toList_eq]
  obtain ⟨⟨x⟩⟩ := a
  obtain ⟨⟨y⟩⟩ := b
  simp
theorem eq32 (x y : Let) (w : World) : (binOp .eql 32 (letV x) (letV y)).run Try.prog w = .ok (.bool (decide (x = y))) w := by
  obtain ⟨f1, t1, b1⟩ := x
  obtain ⟨f2, t2, b2⟩ := y
  unfold letV
  have := toList_inj b1 b2
  by_cases h1 : f1 = f2
  · by_cases h2 : t1 = t2
    · by_cases h3 : b1 = b2
      · have h4 := this.2 h3
        go_simp
      · have h4 : ¬ b1.toList = b2.toList := fun e => h3 (this.1 e)
        go_simp
    · go_simp
  · go_simp
theorem ne32 (x y : Let) (w : World) : (binOp .neq 32 (letV x) (letV y)).run Try.prog w = .ok (.bool (!decide (x = y))) w := by
  obtain ⟨f1, t1, b1⟩ := x
  obtain ⟨f2, t2, b2⟩ := y
  unfold letV
  have := toList_inj b1 b2
  by_cases h1 : f1 = f2
  · by_cases h2 : t1 = t2
    · by_cases h3 : b1 = b2
      · have h4 := this.2 h3
        go_simp
      · have h4 : ¬ b1.toList = b2.toList := fun e => h3 (this.1 e)
        go_simp
    · go_simp
  · go_simp

/-! ### the calls, for a law -/
theorem nc_new {W w : World} (hb : Below W.heap.size W w) : Calls Try.prog 9 #[] w fun e w' => e = .returned (.pointer (some ⟨w.heap.size, 0, none⟩)) ∧ NC W w' w.heap.size Net.new (fun _ => False) ∧ Below w.heap.size w w' :=
  (new_any w).mono fun e w' ⟨h1, h2, h3⟩ => ⟨h1, ⟨⟨_, ⟨h2.box, OwnL.nil _ _, h2.ok, hb.size⟩, fun g hg => (by cases hg)⟩, fun q => q, fun k q => q.elim, hb.trans (h3.mono hb.size)⟩, h3⟩
theorem nc_send {W w : World} {b : Nat} {N : Net} {H : Nat → Prop} (h : NC W w b N H) (l : Let) (hf : Fit l) :
    Calls Try.prog 10 #[.pointer (some ⟨b, 0, none⟩), letV l] w fun e w' => e = .returned (.int .i64 (N.send l).2) ∧ NC W w' b (N.send l).1 H ∧ Keep H w w' := by
  obtain ⟨v, hv, hH⟩ := h.net
  exact (send_any hv l hf).mono fun e w' ⟨h1, h2⟩ => ⟨h1, h.go hv hH h2⟩
theorem nc_copy {W w : World} {b : Nat} {N : Net} {H : Nat → Prop} (h : NC W w b N H) (k : Int) (k0 : -9223372036854775808 ≤ k) (k1 : k ≤ 9223372036854775807) :
    Calls Try.prog 14 #[.pointer (some ⟨b, 0, none⟩), .int .i64 k] w fun e w' => e = .returned (.int .i64 (N.copy k).2) ∧ NC W w' b (N.copy k).1 H ∧ Keep H w w' := by
  obtain ⟨v, hv, hH⟩ := h.net
  exact (copy_any hv k k0 k1).mono fun e w' ⟨h1, h2⟩ => ⟨h1, h.go hv hH h2⟩
theorem nc_drop {W w : World} {b : Nat} {N : Net} {H : Nat → Prop} (h : NC W w b N H) (k : Int) (k0 : -9223372036854775808 ≤ k) (k1 : k ≤ 9223372036854775807) :
    Calls Try.prog 16 #[.pointer (some ⟨b, 0, none⟩), .int .i64 k] w fun e w' => e = .returned (.int .i64 (N.drop k).2) ∧ NC W w' b (N.drop k).1 H ∧ Keep H w w' := by
  obtain ⟨v, hv, hH⟩ := h.net
  exact (drop_any hv k k0 k1).mono fun e w' ⟨h1, h2⟩ => ⟨h1, h.go hv hH h2⟩
theorem nc_take {W w : World} {b : Nat} {N : Net} {H : Nat → Prop} (h : NC W w b N H) (k : Int) (k0 : -9223372036854775808 ≤ k) (k1 : k ≤ 9223372036854775807) :
    Calls Try.prog 12 #[.pointer (some ⟨b, 0, none⟩), .int .i64 k] w fun e w' => e = .returned (.tuple #[letV (N.take k).2.1, .int .i64 (N.take k).2.2]) ∧ NC W w' b (N.take k).1 H ∧ Keep H w w' := by
  obtain ⟨v, hv, hH⟩ := h.net
  exact (take_any hv k k0 k1).mono fun e w' ⟨h1, h2⟩ => ⟨h1, h.go hv hH h2⟩
theorem nc_split {W w : World} {b : Nat} {N : Net} {H : Nat → Prop} (h : NC W w b N H) (k : Int) (k0 : -9223372036854775808 ≤ k) (k1 : k ≤ 9223372036854775807) :
    Calls Try.prog 18 #[.pointer (some ⟨b, 0, none⟩), .int .i64 k] w fun e w' => e = .returned (.tuple #[]) ∧ NC W w' b (N.split k) H ∧ Keep H w w' := by
  obtain ⟨v, hv, hH⟩ := h.net
  exact (split_any hv k k0 k1).mono fun e w' ⟨h1, h2⟩ => ⟨h1, h.go hv hH h2⟩
theorem nc_way {W w : World} {b : Nat} {N : Net} {H : Nat → Prop} (h : NC W w b N H) :
    Calls Try.prog 20 #[.pointer (some ⟨b, 0, none⟩)] w fun e w' => ∃ A c, e = .returned (.slice A N.q.length c) ∧ OwnL w' w.heap.size (.slice A N.q.length c) N.q ∧ Below w.heap.size w w' ∧ NC W w' b N H := by
  obtain ⟨v, hv, hH⟩ := h.net
  refine (way_any hv).mono fun e w' ⟨v', h1, h2, h3⟩ => ?_
  obtain ⟨A, c, rfl, _⟩ := h2.form
  exact ⟨A, c, h1, h2, h3, h.after h3⟩
/-- what is new is held -/
theorem NC.hold {W w : World} {b : Nat} {N : Net} {H : Nat → Prop} (h : NC W w b N H) {w' : World} (hb : Below w.heap.size w w') : NC W w' b N (fun k => H k ∨ (w.heap.size ≤ k ∧ k < w'.heap.size)) := by
  have h1 := h.after hb
  obtain ⟨v, hv, hg⟩ := h.net
  refine ⟨⟨v, hv.below hb, fun g e => ?_⟩, ?_, fun k hk => ?_, h1.below⟩
  · rintro (q | ⟨q, _⟩)
    · exact hg g e q
    · have := (hv.row.lt g e).2; omega
  · rintro (q | ⟨q, _⟩)
    · exact h.self q
    · have := hv.lt; omega
  · rcases hk with q | q
    · exact h1.old k q
    · exact q.2
theorem NC.fewer {W w : World} {b : Nat} {N : Net} {H H' : Nat → Prop} (h : NC W w b N H) (hs : ∀ k, H' k → H k) : NC W w b N H' := by
  obtain ⟨v, hv, hg⟩ := h.net
  exact ⟨⟨v, hv, fun g e q => hg g e (hs g q)⟩, fun q => h.self (hs b q), fun k q => h.old k (hs k q), h.below⟩
theorem BoxAt.keep {w w' : World} {H : Nat → Prop} {p : Nat} {l : Let} (h : BoxAt w p l) (hk : Keep H w w') (hp : H p) : BoxAt w' p l := ⟨(hk.2 p hp).trans h.h⟩
theorem BoxAt.below {w w' : World} {p : Nat} {l : Let} (h : BoxAt w p l) (hb : Below w.heap.size w w') : BoxAt w' p l := ⟨(hb.block p (Array.getElem?_eq_some_iff.1 h.h).1).trans h.h⟩
end Go.Proofs.Ytipclhklkngamaa
