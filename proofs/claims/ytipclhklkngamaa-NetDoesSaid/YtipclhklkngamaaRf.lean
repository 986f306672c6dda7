import Derived.Test.YtipclhklkngamaaRd
import Derived.Test.YtipclhklkngamaaRe
namespace Go.Proofs.Ytipclhklkngamaa
open Go.RowKit
set_option linter.unusedVariables false

/-- a net and the reference's, side by side, which leave the blocks of H alone -/
structure Duo (W w : World) (b r : Nat) (N M : Net) (H : Nat → Prop) : Prop where
  both : ∃ v v', NetAt w W.heap.size b N v ∧ RefAt w W.heap.size r M v' ∧ (∀ g, v.ownBlock = some g → v'.ownBlock ≠ some g ∧ ¬ H g) ∧ ∀ g, v'.ownBlock = some g → ¬ H g
  hb : ¬ H b
  hr : ¬ H r
  old : ∀ k, H k → k < w.heap.size
  below : Below W.heap.size W w
theorem apart2 {w : World} {B b r : Nat} {N M : Net} {v v' : Value} (h : NetAt w B b N v) (k : RefAt w B r M v') : b ≠ r ∧ v'.ownBlock ≠ some b ∧ v.ownBlock ≠ some r := by
  refine ⟨?_, fun e => ?_, fun e => ?_⟩
  · rintro rfl
    have := h.box.symm.trans k.box
    injection this with this
    injection this with _ ht
    exact absurd ht (by decide)
  · obtain ⟨cs, hc⟩ := k.row.block b e
    rw [h.box] at hc
    injection hc with hc
    injection hc with _ ht
    exact absurd ht (by decide)
  · obtain ⟨cs, hc⟩ := h.row.block r e
    rw [k.box] at hc
    injection hc with hc
    injection hc with _ ht
    exact absurd ht (by decide)
/-- the net acts -/
theorem Duo.net {W w : World} {b r : Nat} {N M : Net} {H : Nat → Prop} (h : Duo W w b r N M H) {fn : Nat} {ags : Array Value} {N' : Net} {q : Ending → Prop}
    (hc : ∀ v, NetAt w W.heap.size b N v → Calls Try.prog fn ags w fun e w' => q e ∧ To w w' W.heap.size b v N') : Calls Try.prog fn ags w fun e w' => q e ∧ Duo W w' b r N' M H ∧ Keep H w w' := by
  obtain ⟨v, v', hv, hv', ha, hh⟩ := h.both
  refine (hc v hv).mono fun e w' ⟨h1, v1, k1, k2, k3⟩ => ⟨h1, ?_⟩
  obtain ⟨a1, a2, a3⟩ := apart2 hv hv'
  have hrk : RefAt w' W.heap.size r M v' := hv'.keep (k3.block r hv'.lt (by rintro (q | q); exact a1 q.symm; exact a3 q)) fun g hg => k3.block g (hv'.row.lt g hg).2 (by
    rintro (q | q)
    · rw [q] at hg; exact a2 hg
    · exact (ha g q).1 hg)
  refine ⟨⟨⟨v1, v', k1, hrk, fun g hg => ?_, hh⟩, h.hb, h.hr, fun k hk => Nat.lt_of_lt_of_le (h.old k hk) k3.size, h.below.trans (k3.below h.below.size fun k hk => ?_)⟩, k3.size, fun k hk => k3.block k (h.old k hk) ?_⟩
  · rcases k2 g hg with q | q
    · exact ha g q
    · refine ⟨fun e => ?_, fun e => ?_⟩
      · have := (hv'.row.lt g e).2; omega
      · have := h.old g e; omega
  · rcases hk with rfl | hk
    · exact hv.low
    · exact (hv.row.lt k hk).1
  · rintro (rfl | q)
    · exact h.hb hk
    · exact (ha k q).2 hk
/-- the reference acts -/
theorem Duo.ref {W w : World} {b r : Nat} {N M : Net} {H : Nat → Prop} (h : Duo W w b r N M H) {fn : Nat} {ags : Array Value} {M' : Net} {q : Ending → Prop}
    (hc : ∀ v, RefAt w W.heap.size r M v → Calls Try.prog fn ags w fun e w' => q e ∧ RTo w w' W.heap.size r v M') : Calls Try.prog fn ags w fun e w' => q e ∧ Duo W w' b r N M' H ∧ Keep H w w' := by
  obtain ⟨v, v', hv, hv', ha, hh⟩ := h.both
  refine (hc v' hv').mono fun e w' ⟨h1, v1, k1, k2, k3⟩ => ⟨h1, ?_⟩
  obtain ⟨a1, a2, a3⟩ := apart2 hv hv'
  have hnk : NetAt w' W.heap.size b N v := hv.keep (k3.block b hv.lt (by rintro (q | q); exact a1 q; exact a2 q)) fun g hg => k3.block g (hv.row.lt g hg).2 (by
    rintro (q | q)
    · rw [q] at hg; exact a3 hg
    · exact (ha g hg).1 q)
  refine ⟨⟨⟨v, v1, hnk, k1, fun g hg => ⟨fun e => ?_, (ha g hg).2⟩, fun g hg => ?_⟩, h.hb, h.hr, fun k hk => Nat.lt_of_lt_of_le (h.old k hk) k3.size, h.below.trans (k3.below h.below.size fun k hk => ?_)⟩, k3.size, fun k hk => k3.block k (h.old k hk) ?_⟩
  · rcases k2 g e with q | q
    · exact (ha g hg).1 q
    · have := (hv.row.lt g hg).2; omega
  · rcases k2 g hg with q | q
    · exact hh g q
    · intro e; have := h.old g e; omega
  · rcases hk with rfl | hk
    · exact hv'.low
    · exact (hv'.row.lt k hk).1
  · rintro (rfl | q)
    · exact h.hr hk
    · exact hh k q hk
theorem Duo.after {W w w' : World} {b r : Nat} {N M : Net} {H : Nat → Prop} (h : Duo W w b r N M H) (hb : Below w.heap.size w w') : Duo W w' b r N M H := by
  obtain ⟨v, v', hv, hv', ha, hh⟩ := h.both
  exact ⟨⟨v, v', hv.below hb, hv'.below hb, ha, hh⟩, h.hb, h.hr, fun k hk => Nat.lt_of_lt_of_le (h.old k hk) hb.size, h.below.trans (hb.mono h.below.size)⟩
theorem Duo.hold {W w w' : World} {b r : Nat} {N M : Net} {H : Nat → Prop} (h : Duo W w b r N M H) (hb : Below w.heap.size w w') : Duo W w' b r N M (fun k => w.heap.size ≤ k ∧ k < w'.heap.size) := by
  have h1 := h.after hb
  obtain ⟨v, v', hv, hv', ha, hh⟩ := h.both
  refine ⟨⟨v, v', hv.below hb, hv'.below hb, fun g hg => ⟨(ha g hg).1, fun e => ?_⟩, fun g hg e => ?_⟩, fun e => ?_, fun e => ?_, fun k hk => hk.2, h1.below⟩
  · have := (hv.row.lt g hg).2; omega
  · have := (hv'.row.lt g hg).2; omega
  · have := hv.lt; omega
  · have := hv'.lt; omega
theorem Duo.fewer {W w : World} {b r : Nat} {N M : Net} {H H' : Nat → Prop} (h : Duo W w b r N M H) (hs : ∀ k, H' k → H k) : Duo W w b r N M H' := by
  obtain ⟨v, v', hv, hv', ha, hh⟩ := h.both
  exact ⟨⟨v, v', hv, hv', fun g hg => ⟨(ha g hg).1, fun q => (ha g hg).2 (hs g q)⟩, fun g hg q => hh g hg (hs g q)⟩, fun q => h.hb (hs b q), fun q => h.hr (hs r q), fun k q => h.old k (hs k q), h.below⟩
/-- a held block is written -/
theorem Duo.set {W w : World} {b r : Nat} {N M : Net} {H : Nat → Prop} (h : Duo W w b r N M H) {p : Addr} (hp : H p.block) (hW : W.heap.size ≤ p.block) (u : Value) : Duo W (w.setCell p u) b r N M H := by
  obtain ⟨v, v', hv, hv', ha, hh⟩ := h.both
  have q : ∀ i, ¬ H i → (w.setCell p u).heap[i]? = w.heap[i]? := fun i hi => Below.heap_setCell w p u i (by rintro rfl; exact hi hp)
  refine ⟨⟨v, v', hv.keep (q b h.hb) fun g hg => q g (ha g hg).2, hv'.keep (q r h.hr) fun g hg => q g (hh g hg), ha, hh⟩, h.hb, h.hr, fun k hk => by simpa [World.setCell] using h.old k hk, ⟨h.below.os, h.below.tape, h.below.output, by simpa [World.setCell] using h.below.size, fun k hk => (Below.heap_setCell w p u k (by omega)).trans (h.below.block k hk)⟩⟩
theorem duo_send {W w : World} {b r : Nat} {N M : Net} {H : Nat → Prop} (h : Duo W w b r N M H) (l : Let) (hf : Fit l) : Calls Try.prog 10 #[.pointer (some ⟨b, 0, none⟩), letV l] w fun e w' => e = .returned (.int .i64 (N.send l).2) ∧ Duo W w' b r (N.send l).1 M H ∧ Keep H w w' :=
  h.net fun v hv => send_any hv l hf
theorem duo_rsend {W w : World} {b r : Nat} {N M : Net} {H : Nat → Prop} (h : Duo W w b r N M H) (l : Let) (hf : Fit l) : Calls Try.prog 11 #[.pointer (some ⟨r, 0, none⟩), letV l] w fun e w' => e = .returned (.int .i64 (M.send l).2) ∧ Duo W w' b r N (M.send l).1 H ∧ Keep H w w' :=
  h.ref fun v hv => rsend_any hv l hf
section
variable {W w : World} {b r : Nat} {N M : Net} {H : Nat → Prop} (h : Duo W w b r N M H) (k : Int) (k0 : -9223372036854775808 ≤ k) (k1 : k ≤ 9223372036854775807)
include h k0 k1
theorem duo_take : Calls Try.prog 12 #[.pointer (some ⟨b, 0, none⟩), .int .i64 k] w fun e w' => e = .returned (.tuple #[letV (N.take k).2.1, .int .i64 (N.take k).2.2]) ∧ Duo W w' b r (N.take k).1 M H ∧ Keep H w w' := h.net fun v hv => take_any hv k k0 k1
theorem duo_rtake : Calls Try.prog 13 #[.pointer (some ⟨r, 0, none⟩), .int .i64 k] w fun e w' => e = .returned (.tuple #[letV (M.take k).2.1, .int .i64 (M.take k).2.2]) ∧ Duo W w' b r N (M.take k).1 H ∧ Keep H w w' := h.ref fun v hv => rtake_any hv k k0 k1
theorem duo_copy : Calls Try.prog 14 #[.pointer (some ⟨b, 0, none⟩), .int .i64 k] w fun e w' => e = .returned (.int .i64 (N.copy k).2) ∧ Duo W w' b r (N.copy k).1 M H ∧ Keep H w w' := h.net fun v hv => copy_any hv k k0 k1
theorem duo_rcopy : Calls Try.prog 15 #[.pointer (some ⟨r, 0, none⟩), .int .i64 k] w fun e w' => e = .returned (.int .i64 (M.copy k).2) ∧ Duo W w' b r N (M.copy k).1 H ∧ Keep H w w' := h.ref fun v hv => rcopy_any hv k k0 k1
theorem duo_drop : Calls Try.prog 16 #[.pointer (some ⟨b, 0, none⟩), .int .i64 k] w fun e w' => e = .returned (.int .i64 (N.drop k).2) ∧ Duo W w' b r (N.drop k).1 M H ∧ Keep H w w' := h.net fun v hv => drop_any hv k k0 k1
theorem duo_rdrop : Calls Try.prog 17 #[.pointer (some ⟨r, 0, none⟩), .int .i64 k] w fun e w' => e = .returned (.int .i64 (M.drop k).2) ∧ Duo W w' b r N (M.drop k).1 H ∧ Keep H w w' := h.ref fun v hv => rdrop_any hv k k0 k1
theorem duo_split : Calls Try.prog 18 #[.pointer (some ⟨b, 0, none⟩), .int .i64 k] w fun e w' => e = .returned (.tuple #[]) ∧ Duo W w' b r (N.split k) M H ∧ Keep H w w' := h.net fun v hv => split_any hv k k0 k1
theorem duo_rsplit : Calls Try.prog 19 #[.pointer (some ⟨r, 0, none⟩), .int .i64 k] w fun e w' => e = .returned (.tuple #[]) ∧ Duo W w' b r N (M.split k) H ∧ Keep H w w' := h.ref fun v hv => rsplit_any hv k k0 k1
end
theorem duo_way {W w : World} {b r : Nat} {N M : Net} {H : Nat → Prop} (h : Duo W w b r N M H) :
    Calls Try.prog 20 #[.pointer (some ⟨b, 0, none⟩)] w fun e w' => ∃ A m c, e = .returned (.slice A m c) ∧ OwnL w' w.heap.size (.slice A m c) N.q ∧ Below w.heap.size w w' ∧ Duo W w' b r N M (fun k => w.heap.size ≤ k ∧ k < w'.heap.size) := by
  obtain ⟨v, v', hv, _⟩ := h.both
  refine (way_any hv).mono fun e w' ⟨v', h1, h2, h3⟩ => ?_
  obtain ⟨A, c, rfl, _⟩ := h2.form
  exact ⟨A, _, c, h1, h2, h3, h.hold h3⟩
theorem Duo.start {W w : World} {b : Nat} {N : Net} (h : NC W w b N (fun _ => False)) : Duo W (w.alloc (.cells (refCells (.slice none 0 0) Net.new.s) 30)) b w.heap.size N Net.new (fun _ => False) := by
  obtain ⟨v, hv, _⟩ := h.net
  have hb : Below w.heap.size w (w.alloc (.cells (refCells (.slice none 0 0) Net.new.s) 30)) := (Below.refl _ w).alloc (Nat.le_refl _) _
  exact ⟨⟨v, .slice none 0 0, hv.below hb, ⟨heap_alloc_new w _, OwnL.nil _ _, Net.new_ok, h.below.size⟩, fun g hg => ⟨fun e => (by cases e), fun q => q⟩, fun g hg q => q⟩, fun q => q, fun q => q, fun k q => q.elim, (h.after hb).below⟩
end Go.Proofs.Ytipclhklkngamaa
