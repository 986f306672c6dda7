import Derived.Test.YtipclhklkngamaaNg
import Derived.Laws.ResultCell
namespace Go.Proofs.Ytipclhklkngamaa
open Go.RowKit
set_option linter.unusedVariables false

set_option maxRecDepth 100000 in
theorem new_any (w : World) : Calls Try.prog 9 #[] w fun e w' => e = .returned (.pointer (some ⟨w.heap.size, 0, none⟩)) ∧ NetAt w' w.heap.size w.heap.size Net.new (.slice none 0 0) ∧ Below w.heap.size w w' := by
  go_enter Try.func9, Try.ntmps9
  go_wp2_with fail
  go_ret
  exact ⟨rfl, ⟨(heap_alloc_new w _).trans rfl, OwnL.nil _ _, Net.new_ok, Nat.le_refl _⟩, (Below.refl _ w).alloc (Nat.le_refl _) _⟩
theorem NetAt.drewN {w : World} {B b : Nat} {N : Net} {v : Value} (h : NetAt w B b N v) (n : Nat) : NetAt (w.drewN n) B b N v := ⟨h.box, h.row, h.ok, h.low⟩
theorem To.drewN {w w' : World} {B b : Nat} {v : Value} {N' : Net} (h : To w w' B b v N') (n : Nat) : To w (w'.drewN n) B b v N' := by
  obtain ⟨v', h1, h2, h3⟩ := h
  exact ⟨v', h1.drewN n, h2, h3.drewN n⟩
theorem To.fill {w W2 w3 : World} {B b : Nat} {v : Value} {N' : Net} (hb : Below w.heap.size w W2) (ht : To W2 w3 B b v N') (hbl : b < w.heap.size) (hlt : ∀ g, v.ownBlock = some g → g < w.heap.size) (p : Nat) (hp : w.heap.size ≤ p) (hp2 : p < W2.heap.size) (u0 u1 u2 : Value) :
    To w (((w3.setCell ⟨p, 0, none⟩ u0).setCell ⟨p, 1, none⟩ u1).setCell ⟨p, 2, none⟩ u2) B b v N' := by
  obtain ⟨v', h1, h2, h3⟩ := To.from hb ht
  obtain ⟨v'', k1, k2, k3⟩ := ht
  have q : ∀ i, i ≠ p → (((w3.setCell ⟨p, 0, none⟩ u0).setCell ⟨p, 1, none⟩ u1).setCell ⟨p, 2, none⟩ u2).heap[i]? = w3.heap[i]? := fun i hi => by
    rw [Below.heap_setCell _ _ _ i (by exact hi), Below.heap_setCell _ _ _ i (by exact hi), Below.heap_setCell _ _ _ i (by exact hi)]
  refine ⟨v'', k1.keep (q b (by omega)) fun g hg => q g ?_, fun g hg => (k2 g hg).imp id fun q => by have := hb.size; omega, ((h3.setCell (p := ⟨p, 0, none⟩) (.inr hp) u0).setCell (p := ⟨p, 1, none⟩) (.inr hp) u1).setCell (p := ⟨p, 2, none⟩) (.inr hp) u2⟩
  rcases k2 g hg with e | e
  · have := hlt g e; omega
  · omega
set_option maxHeartbeats 1000000 in
set_option maxRecDepth 100000 in
theorem take_any {w : World} {B b : Nat} {N : Net} {v : Value} (h : NetAt w B b N v) (k : Int) (k0 : -9223372036854775808 ≤ k) (k1 : k ≤ 9223372036854775807) :
    Calls Try.prog 12 #[.pointer (some ⟨b, 0, none⟩), .int .i64 k] w fun e w' => e = .returned (.tuple #[letV (N.take k).2.1, .int .i64 (N.take k).2.2]) ∧ To w w' B b v (N.take k).1 := by
  have HH := Lib.hid fun W (hb : Below w.heap.size w W) => has_any (h.below hb) k k0 k1
  have H := Lib.hid h
  cases hk : N.at' k with
  | none =>
    have e : N.take k = (N, Net.zeroL, 10) := by unfold Net.take; rw [hk]
    rw [e]
    rw [hk] at HH
    unfold letV Net.zeroL
    clear h
    go_enter Try.func12, Try.ntmps12
    go_wp2_with fail
    refine (HH.out _ ((Below.refl _ w).alloc (Nat.le_refl _) _)).mono ?_
    rintro e w' ⟨rfl, rfl⟩
    go_wp2_with fail
    (try simp only [Exit.inBlock, Exit.then])
    refine bodyPost_ret (v := .tuple #[.agg #[.int .i64 0, .int .i64 0, .string ⟨#[]⟩], .int .i64 10]) ?_ rfl ⟨rfl, To.from ((Below.refl _ w).alloc (Nat.le_refl _) _) (H.out.below ((Below.refl _ w).alloc (Nat.le_refl _) _)).stays⟩
    rw [results_cell_tmp rfl]
    go_simp
  | some l =>
    have hok := h.ok.ok l (Net.at_mem hk)
    obtain ⟨n, rfl, hn, _, g, cap, rfl, hc, a0, a1, a2⟩ := h.letter hk
    have hn2 : (n : Int) < (N.q.length : Int) := by omega
    have hml : (N.q.length : Int) ≤ 400 := by have := h.ok.many; omega
    have c0 := h.queue
    have hblt := h.lt
    rw [hk] at HH
    clear h
    have hgl : g < w.heap.size := (H.out.row.lt g rfl).2
    obtain ⟨W2, hW2⟩ : ∃ W2, (w.alloc (.cells #[.int .i64 0, .int .i64 0, .string ⟨#[]⟩] 32)).alloc (.cells #[.int .i64 l.f, .int .i64 l.t, .string l.b] 32) = W2 := ⟨_, rfl⟩
    have hb2 : Below w.heap.size w W2 := hW2 ▸ ((Below.refl _ w).alloc (Nat.le_refl _) _).alloc (by simp) _
    have hz2 : W2.heap.size = w.heap.size + 2 := by rw [← hW2]; simp
    have hx0 : W2.heap[w.heap.size]? = some (boxL Net.zeroL) := by rw [← hW2]; exact (Lib.alloc_old _ _ _ (by simp)).trans (heap_alloc_new w _)
    have hx1 : BoxAt W2 (w.heap.size + 1) l := ⟨by
      rw [← hW2]
      have := heap_alloc_new (w.alloc (.cells #[.int .i64 0, .int .i64 0, .string ⟨#[]⟩] 32)) (.cells #[.int .i64 l.f, .int .i64 l.t, .string l.b] 32)
      rw [World.size_alloc] at this
      exact this⟩
    have HW2 := Lib.hid hW2
    have HB2 := Lib.hid hb2
    have HZ2 := Lib.hid hz2
    have HX0 := Lib.hid hx0
    have HX1 := Lib.hid hx1
    have HR := Lib.hid (remove_any (H.out.below hb2) n hn)
    have e : N.take (n : Int) = (N.rem (n : Int), if N.side l.f = N.side l.t then (l, 0) else (Net.zeroL, 15)) := by unfold Net.take; rw [hk]
    rw [e]
    obtain ⟨p0, p1, p2, p3⟩ := Net.ok_places hok
    obtain ⟨ff, hff⟩ : ∃ ff : Nat, l.f = (ff : Int) := ⟨l.f.toNat, by omega⟩
    obtain ⟨tt, htt⟩ : ∃ tt : Nat, l.t = (tt : Int) := ⟨l.t.toNat, by omega⟩
    have hf32 : ff < 32 := by omega
    have ht32 : tt < 32 := by omega
    have hfi : (ff : Int) < 32 := by omega
    have hti : (tt : Int) < 32 := by omega
    have HL : Hid (letV l = .agg #[.int .i64 (ff : Nat), .int .i64 (tt : Nat), .string l.b]) := Lib.hid (by unfold letV; rw [hff, htt])
    have HX1' : Hid (W2.heap[w.heap.size + 1]? = some (.cells #[.int .i64 (ff : Nat), .int .i64 (tt : Nat), .string l.b] 32 (0, 0))) := Lib.hid (by have := hx1.h; unfold boxL at this; rw [hff, htt] at this; exact this)
    rw [hff, htt] at hW2 ⊢
    have HW3 := Lib.hid hW2
    rw [hff] at a0
    rw [htt] at a1
    clear hW2 hb2 hz2 hx0 hx1 hk e hok p0 p1 p2 p3 HX1 HW2 hff htt
    generalize hbd : l.b = bd at *
    clear hbd
    have HRM : Hid ((N.rem (n : Int)).s = N.s) := Lib.hid rfl
    by_cases hss : N.side (ff : Nat) = N.side (tt : Nat)
    · rw [if_pos hss]
      rw [HL.out]
      generalize N.q.length = m at *
      go_enter Try.func12, Try.ntmps12
      go_wp2_with fail
      refine (HH.out _ ((Below.refl _ w).alloc (Nat.le_refl _) _)).mono ?_
      rintro e w' ⟨rfl, rfl⟩
      go_wp2_with fail
      rw [HW3.out]
      refine HR.out.mono ?_
      rintro e w3 ⟨rfl, ht⟩
      have HT := Lib.hid ht
      obtain ⟨v3, hn3, _, hf3⟩ := ht
      have hne1 : ¬ (w.heap.size + 1 = b ∨ (Value.slice (some ⟨g, 0, none⟩) m cap).ownBlock = some (w.heap.size + 1)) := by
        rintro (q | q)
        · omega
        · injection q with q; simp at q; omega
      have hne0 : ¬ (w.heap.size = b ∨ (Value.slice (some ⟨g, 0, none⟩) m cap).ownBlock = some w.heap.size) := by
        rintro (q | q)
        · omega
        · injection q with q; simp at q; omega
      have y0 := (hf3.block (w.heap.size) (by have := HZ2.out; omega) hne0).trans HX0.out
      have y1 := (hf3.block (w.heap.size + 1) (by have := HZ2.out; omega) hne1).trans HX1'.out
      have b0 : w3.cell? ⟨w.heap.size + 1, 0, none⟩ = some (.int .i64 (ff : Nat)) := by rw [Lib.cell_of_heap y1]; rfl
      have b1 : w3.cell? ⟨w.heap.size + 1, 1, none⟩ = some (.int .i64 (tt : Nat)) := by rw [Lib.cell_of_heap y1]; rfl
      have b2 : w3.cell? ⟨w.heap.size + 1, 2, none⟩ = some (.string bd) := by rw [Lib.cell_of_heap y1]; rfl
      have r0 : w3.cell? ⟨w.heap.size, 0, none⟩ = some (.int .i64 0) := by rw [Lib.cell_of_heap y0]; rfl
      have r1 : w3.cell? ⟨w.heap.size, 1, none⟩ = some (.int .i64 0) := by rw [Lib.cell_of_heap y0]; rfl
      have r2 : w3.cell? ⟨w.heap.size, 2, none⟩ = some (.string ⟨#[]⟩) := by rw [Lib.cell_of_heap y0]; rfl
      have g0 : w3.frozen? ⟨w.heap.size, 0, none⟩ = false := Lib.frozen_of_heap y0 0
      have g1 : w3.frozen? ⟨w.heap.size, 1, none⟩ = false := Lib.frozen_of_heap y0 1
      have g2 : w3.frozen? ⟨w.heap.size, 2, none⟩ = false := Lib.frozen_of_heap y0 2
      have s0 := hn3.side hf32
      have s1 := hn3.side ht32
      rw [show (N.rem (n : Int)).side (ff : Nat) = N.side (ff : Nat) from rfl] at s0
      rw [show (N.rem (n : Int)).side (tt : Nat) = N.side (tt : Nat) from rfl] at s1
      have HFL : Hid (∀ nq u0 u1 u2, To w ((((w3.drewN nq).setCell ⟨w.heap.size, 0, none⟩ u0).setCell ⟨w.heap.size, 1, none⟩ u1).setCell ⟨w.heap.size, 2, none⟩ u2) B b (.slice (some ⟨g, 0, none⟩) m cap) (N.rem (n : Int))) := Lib.hid fun nq u0 u1 u2 =>
        To.fill HB2.out (HT.out.drewN nq) hblt (fun x hx => by injection hx with hx; simp at hx; omega) w.heap.size (Nat.le_refl _) (by have := HZ2.out; omega) u0 u1 u2
      have HF3 := Lib.hid hf3
      clear hf3 hn3 y0 y1 hne1 hne0
      generalize N.side (ff : Nat) = sf at *
      generalize N.side (tt : Nat) = st at *
      subst hss
      go_wp2_with fail
      go_quiet (fail)
      go_wp2_with fail
      (try simp only [Exit.inBlock, Exit.then])
      refine bodyPost_ret (v := .tuple #[.agg #[.int .i64 (ff : Nat), .int .i64 (tt : Nat), .string bd], .int .i64 0]) ?_ rfl ⟨rfl, HFL.out _ _ _ _⟩
      rw [results_cell_tmp rfl]
      go_simp
    · rw [if_neg hss]
      unfold letV Net.zeroL
      generalize N.q.length = m at *
      go_enter Try.func12, Try.ntmps12
      go_wp2_with fail
      refine (HH.out _ ((Below.refl _ w).alloc (Nat.le_refl _) _)).mono ?_
      rintro e w' ⟨rfl, rfl⟩
      go_wp2_with fail
      rw [HW3.out]
      refine HR.out.mono ?_
      rintro e w3 ⟨rfl, ht⟩
      have HT := Lib.hid ht
      obtain ⟨v3, hn3, _, hf3⟩ := ht
      have hne1 : ¬ (w.heap.size + 1 = b ∨ (Value.slice (some ⟨g, 0, none⟩) m cap).ownBlock = some (w.heap.size + 1)) := by
        rintro (q | q)
        · omega
        · injection q with q; simp at q; omega
      have hne0 : ¬ (w.heap.size = b ∨ (Value.slice (some ⟨g, 0, none⟩) m cap).ownBlock = some w.heap.size) := by
        rintro (q | q)
        · omega
        · injection q with q; simp at q; omega
      have y0 := (hf3.block (w.heap.size) (by have := HZ2.out; omega) hne0).trans HX0.out
      have y1 := (hf3.block (w.heap.size + 1) (by have := HZ2.out; omega) hne1).trans HX1'.out
      have b0 : w3.cell? ⟨w.heap.size + 1, 0, none⟩ = some (.int .i64 (ff : Nat)) := by rw [Lib.cell_of_heap y1]; rfl
      have b1 : w3.cell? ⟨w.heap.size + 1, 1, none⟩ = some (.int .i64 (tt : Nat)) := by rw [Lib.cell_of_heap y1]; rfl
      have b2 : w3.cell? ⟨w.heap.size + 1, 2, none⟩ = some (.string bd) := by rw [Lib.cell_of_heap y1]; rfl
      have r0 : w3.cell? ⟨w.heap.size, 0, none⟩ = some (.int .i64 0) := by rw [Lib.cell_of_heap y0]; rfl
      have r1 : w3.cell? ⟨w.heap.size, 1, none⟩ = some (.int .i64 0) := by rw [Lib.cell_of_heap y0]; rfl
      have r2 : w3.cell? ⟨w.heap.size, 2, none⟩ = some (.string ⟨#[]⟩) := by rw [Lib.cell_of_heap y0]; rfl
      have g0 : w3.frozen? ⟨w.heap.size, 0, none⟩ = false := Lib.frozen_of_heap y0 0
      have g1 : w3.frozen? ⟨w.heap.size, 1, none⟩ = false := Lib.frozen_of_heap y0 1
      have g2 : w3.frozen? ⟨w.heap.size, 2, none⟩ = false := Lib.frozen_of_heap y0 2
      have s0 := hn3.side hf32
      have s1 := hn3.side ht32
      rw [show (N.rem (n : Int)).side (ff : Nat) = N.side (ff : Nat) from rfl] at s0
      rw [show (N.rem (n : Int)).side (tt : Nat) = N.side (tt : Nat) from rfl] at s1
      have HFL : Hid (∀ nq u0 u1 u2, To w ((((w3.drewN nq).setCell ⟨w.heap.size, 0, none⟩ u0).setCell ⟨w.heap.size, 1, none⟩ u1).setCell ⟨w.heap.size, 2, none⟩ u2) B b (.slice (some ⟨g, 0, none⟩) m cap) (N.rem (n : Int))) := Lib.hid fun nq u0 u1 u2 =>
        To.fill HB2.out (HT.out.drewN nq) hblt (fun x hx => by injection hx with hx; simp at hx; omega) w.heap.size (Nat.le_refl _) (by have := HZ2.out; omega) u0 u1 u2
      have HF3 := Lib.hid hf3
      clear hf3 hn3 y0 y1 hne1 hne0
      generalize N.side (ff : Nat) = sf at *
      generalize N.side (tt : Nat) = st at *
      have hss2 : (sf == st) = false := by simp [hss]
      go_wp2_with fail
      go_quiet (fail)
      go_wp2_with fail
      (try simp only [Exit.inBlock, Exit.then])
      refine bodyPost_ret (v := .tuple #[.agg #[.int .i64 0, .int .i64 0, .string ⟨#[]⟩], .int .i64 15]) ?_ rfl ⟨rfl, HFL.out _ _ _ _⟩
      rw [results_cell_tmp rfl]
      go_simp
end Go.Proofs.Ytipclhklkngamaa
