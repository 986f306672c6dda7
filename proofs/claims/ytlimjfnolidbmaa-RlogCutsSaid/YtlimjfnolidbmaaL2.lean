import Derived.Test.YtlimjfnolidbmaaAx
import Derived.Test.YtlimjfnolidbmaaPr
namespace Go.Proofs.Ytlimjfnolidbmaa
set_option maxRecDepth 20000
open Go.RowKit RL
set_option linter.unusedVariables false
/-! ### two logs side by side -/
structure L2 (w0 w : World) (g h : Nat) (G H : Lg) (Sg Sh Hd : Nat → Prop) : Prop where
  a : Lv w0 w g G Sg (fun k => Hd k ∨ Sh k)
  b : Lv w0 w h H Sh (fun k => Hd k ∨ Sg k)
theorem L2.swap {w0 w : World} {g h : Nat} {G H : Lg} {Sg Sh Hd : Nat → Prop} (k : L2 w0 w g h G H Sg Sh Hd) : L2 w0 w h g H G Sh Sg Hd := ⟨k.b, k.a⟩
theorem L2.step {w0 w w' : World} {g h : Nat} {G H : Lg} {Sg Sh Hd : Nat → Prop} (k : L2 w0 w g h G H Sg Sh Hd) (hb : Below w.heap.size w w') : L2 w0 w' g h G H Sg Sh Hd := ⟨k.a.step hb, k.b.step hb⟩
theorem Lv.less {w0 w : World} {b : Nat} {T : Lg} {S H H' : Nat → Prop} (h : Lv w0 w b T S H) (hH : ∀ k, H' k → H k) : Lv w0 w b T S H' := ⟨h.log, h.low, h.bel, h.inv, fun k q => h.hd k (hH k q)⟩
theorem L2.less {w0 w : World} {g h : Nat} {G H : Lg} {Sg Sh Hd Hd' : Nat → Prop} (k : L2 w0 w g h G H Sg Sh Hd) (hH : ∀ k, Hd' k → Hd k) : L2 w0 w g h G H Sg Sh Hd' :=
  ⟨k.a.less fun j q => q.imp (hH j) id, k.b.less fun j q => q.imp (hH j) id⟩
theorem L2.hold {w0 w w' : World} {g h : Nat} {G H : Lg} {Sg Sh Hd : Nat → Prop} (k : L2 w0 w g h G H Sg Sh Hd) (hb : Below w.heap.size w w') : L2 w0 w' g h G H Sg Sh (fun j => Hd j ∨ (w.heap.size ≤ j ∧ j < w'.heap.size)) :=
  ⟨(k.a.hold hb).less fun j q => by rcases q with (q | q) | q
                                    · exact .inl (.inl q)
                                    · exact .inr q
                                    · exact .inl (.inr q),
   (k.b.hold hb).less fun j q => by rcases q with (q | q) | q
                                    · exact .inl (.inl q)
                                    · exact .inr q
                                    · exact .inl (.inr q)⟩
theorem L2.toA {w0 w w' : World} {g h : Nat} {G H G' : Lg} {Sg Sh Hd S' : Nat → Prop} (k : L2 w0 w g h G H Sg Sh Hd) (hl : Lv w0 w' g G' S' (fun k => Hd k ∨ Sh k)) (hf : Fr Sg w w') : L2 w0 w' g h G' H S' Sh Hd := by
  have hd : ∀ j, Sh j → ¬ Sg j := fun j q => (k.a.hd j (.inr q)).2
  refine ⟨hl, k.b.log.fr hf hd, k.b.low, hl.bel, k.b.inv, fun j q => ?_⟩
  rcases q with q | q
  · exact ⟨(hl.hd j (.inl q)).1, (k.b.hd j (.inl q)).2⟩
  · exact ⟨hl.log.lt j q, fun q2 => (hl.hd j (.inr q2)).2 q⟩
/-- what is held stays -/
theorem L2.rdA {α : Type} {D : CT α} {w0 w w' : World} {g h : Nat} {G H : Lg} {Sg Sh Hd : Nat → Prop} {A : Option Addr} {L : List α} (k : L2 w0 w g h G H Sg Sh Hd) (hf : Fr Sg w w') (hr : Rd D w Hd A L) : Rd D w' Hd A L := hr.fr hf fun j q => (k.a.hd j (.inl q)).2
theorem L2.blockA {w0 w w' : World} {g h : Nat} {G H : Lg} {Sg Sh Hd : Nat → Prop} (k : L2 w0 w g h G H Sg Sh Hd) (hf : Fr Sg w w') {j : Nat} (hj : Hd j) : w'.heap[j]? = w.heap[j]? := hf.block j (k.a.hd j (.inl hj)).1 (k.a.hd j (.inl hj)).2
theorem L2.begin {w0 wA w1 w : World} {g h : Nat} {G H : Lg} {Hd : Nat → Prop} (hb : Below w0.heap.size w0 wA) (hb1 : Below wA.heap.size wA w1) (hg : Log w1 g G (fun k => wA.heap.size ≤ k ∧ k < w1.heap.size)) (hb2 : Below w1.heap.size w1 w) (hh : Log w h H (fun k => w1.heap.size ≤ k ∧ k < w.heap.size)) (hG : Inv G) (hH : Inv H) (hHd : ∀ k, Hd k → k < wA.heap.size) : L2 w0 w g h G H (fun k => wA.heap.size ≤ k ∧ k < w1.heap.size) (fun k => w1.heap.size ≤ k ∧ k < w.heap.size) Hd := by
  have ka := Lv.begin (H := Hd) hb hb1 hg hG hHd
  refine ⟨ka.hold hb2, Lv.begin (H := fun k => Hd k ∨ (wA.heap.size ≤ k ∧ k < w1.heap.size)) (hb.trans (hb1.mono hb.size)) hb2 hh hH fun k q => ?_⟩
  rcases q with q | q
  · exact Nat.lt_of_lt_of_le (hHd k q) hb1.size
  · exact q.2
end Go.Proofs.Ytlimjfnolidbmaa
