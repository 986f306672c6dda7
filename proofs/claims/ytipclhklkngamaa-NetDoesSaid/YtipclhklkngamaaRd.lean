import Derived.Test.YtipclhklkngamaaRc
namespace Go.Proofs.Ytipclhklkngamaa
open Go.RowKit
set_option linter.unusedVariables false

set_option maxHeartbeats 4000000 in
set_option maxRecDepth 100000 in
theorem rtake_any {w : World} {B b : Nat} {N : Net} {v : Value} (h : RefAt w B b N v) (k : Int) (k0 : -9223372036854775808 ≤ k) (k1 : k ≤ 9223372036854775807) :
    Calls Try.prog 13 #[.pointer (some ⟨b, 0, none⟩), .int .i64 k] w fun e w' => e = .returned (.tuple #[letV (N.take k).2.1, .int .i64 (N.take k).2.2]) ∧ RTo w w' B b v (N.take k).1 := by
  have H := Lib.hid h
  cases hk : N.at' k with
  | none =>
    have e : N.take k = (N, Net.zeroL, 10) := by unfold Net.take; rw [hk]
    rw [e]
    unfold letV Net.zeroL
    have c0 := h.queue
    have hblt := h.lt
    obtain ⟨A, cap, rfl, h1, h2, h3⟩ := h.row.form
    have hml : (N.q.length : Int) ≤ 400 := by have := h.ok.many; omega
    have hout : k < 0 ∨ (0 ≤ k ∧ (N.q.length : Int) ≤ k) := by
      by_cases hin : 0 ≤ k ∧ k < (N.q.length : Int)
      · obtain ⟨kk, rfl⟩ : ∃ kk : Nat, k = (kk : Int) := ⟨k.toNat, by omega⟩
        rw [at_some (by omega)] at hk; cases hk
      · omega
    clear h h3 hk e
    have HT : Hid (∀ w', Below w.heap.size w w' → RTo w w' B b (.slice A N.q.length cap) N) := Lib.hid fun w' hb => RTo.from hb (H.out.below hb).stays
    clear H
    generalize N.q.length = n at *
    rcases hout with t0 | ⟨t0, t1⟩
    all_goals
      go_enter Try.func13, Try.ntmps13
      go_wp2_with fail
      (try simp only [Exit.inBlock, Exit.then])
      refine bodyPost_ret (v := .tuple #[.agg #[.int .i64 0, .int .i64 0, .string ⟨#[]⟩], .int .i64 10]) ?_ rfl ⟨rfl, HT.out _ ((Below.refl _ w).alloc (Nat.le_refl _) _)⟩
      rw [results_cell_tmp rfl]
      go_simp
  | some l =>
    have hok := h.ok.ok l (Net.at_mem hk)
    obtain ⟨n, rfl, hn, _, g, cap, rfl, hc, a0, a1, a2⟩ := h.letter hk
    have hn2 : (n : Int) < (N.q.length : Int) := by omega
    have hml : (N.q.length : Int) ≤ 400 := by have := h.ok.many; omega
    have c0 := h.queue
    have hblt := h.lt
    clear h
    have hgl : g < w.heap.size := (H.out.row.lt g rfl).2
    obtain ⟨W2, hW2⟩ : ∃ W2, (w.alloc (.cells #[.int .i64 0, .int .i64 0, .string ⟨#[]⟩] 32)).alloc (.cells #[.int .i64 l.f, .int .i64 l.t, .string l.b] 32) = W2 := ⟨_, rfl⟩
    have hb2 : Below w.heap.size w W2 := hW2 ▸ ((Below.refl _ w).alloc (Nat.le_refl _) _).alloc (by simp) _
    have hz2 : W2.heap.size = w.heap.size + 2 := by rw [← hW2]; simp
    have hx0 : W2.heap[w.heap.size]? = some (boxL Net.zeroL) := by rw [← hW2]; exact (Lib.alloc_old _ _ _ (by simp)).trans (heap_alloc_new w _)
    have hx1 : BoxAt W2 (w.heap.size + 1) l := ⟨by
      rw [← hW2]
      have := heap_alloc_new (w.alloc (.cells #[.int .i64 0, .int .i64 0, .string ⟨#[]⟩] 32)) (.cells #[.int .i64 l.f, .int .i64 l.t, .string l.b] 32)
      rw [World.size_alloc] at this
      exact this⟩
    have HW2 := Lib.hid hW2
    have HB2 := Lib.hid hb2
    have HZ2 := Lib.hid hz2
    have HX0 := Lib.hid hx0
    have HX1 := Lib.hid hx1
    have HR := Lib.hid (rdrop_any (H.out.below hb2) (n : Int) k0 k1)
    have hdr : N.drop (n : Int) = (N.rem (n : Int), 0) := by unfold Net.drop; rw [hk]
    rw [hdr] at HR
    have e : N.take (n : Int) = (N.rem (n : Int), if N.side l.f = N.side l.t then (l, 0) else (Net.zeroL, 15)) := by unfold Net.take; rw [hk]
    rw [e]
    obtain ⟨p0, p1, p2, p3⟩ := Net.ok_places hok
    obtain ⟨ff, hff⟩ : ∃ ff : Nat, l.f = (ff : Int) := ⟨l.f.toNat, by omega⟩
    obtain ⟨tt, htt⟩ : ∃ tt : Nat, l.t = (tt : Int) := ⟨l.t.toNat, by omega⟩
    have hf32 : ff < 32 := by omega
    have ht32 : tt < 32 := by omega
    have hfi : (ff : Int) < 32 := by omega
    have hti : (tt : Int) < 32 := by omega
    have HL : Hid (letV l = .agg #[.int .i64 (ff : Nat), .int .i64 (tt : Nat), .string l.b]) := Lib.hid (by unfold letV; rw [hff, htt])
    have HX1' : Hid (W2.heap[w.heap.size + 1]? = some (.cells #[.int .i64 (ff : Nat), .int .i64 (tt : Nat), .string l.b] 32 (0, 0))) := Lib.hid (by have := hx1.h; unfold boxL at this; rw [hff, htt] at this; exact this)
    rw [hff, htt] at hW2 ⊢
    have HW3 := Lib.hid hW2
    rw [hff] at a0
    rw [htt] at a1
    clear hW2 hb2 hz2 hx0 hx1 hk e hok p0 p1 p2 p3 HX1 HW2 hff htt
    generalize hbd : l.b = bd at *
    clear hbd
    have HRM : Hid ((N.rem (n : Int)).s = N.s) := Lib.hid rfl
    obtain ⟨bf, hbf⟩ : ∃ bf, bf = decide (N.side (ff : Nat) = 1) := ⟨_, rfl⟩
    obtain ⟨bt, hbt⟩ : ∃ bt, bt = decide (N.side (tt : Nat) = 1) := ⟨_, rfl⟩
    have hsd : ∀ i : Nat, i < 32 → N.side (i : Nat) = 0 ∨ N.side (i : Nat) = 1 := fun i hi => by
      have hb := H.out.ok.bits
      have hl := H.out.ok.sides
      unfold Net.side
      rw [Int.toNat_natCast, List.getD_eq_getElem?_getD, List.getElem?_eq_getElem (by omega)]
      exact hb _ (List.getElem_mem _)
    have hq1 := hsd ff hf32
    have hq2 := hsd tt ht32
    clear hsd
    by_cases hss : N.side (ff : Nat) = N.side (tt : Nat)
    · rw [if_pos hss]
      rw [HL.out]
      generalize N.q.length = m at *
      go_enter Try.func13, Try.ntmps13
      go_wp2_with fail
      rw [HW3.out]
      refine HR.out.mono ?_
      rintro e w3 ⟨rfl, ht⟩
      have HT := Lib.hid ht
      obtain ⟨v3, hn3, _, hf3⟩ := ht
      have hne1 : ¬ (w.heap.size + 1 = b ∨ (Value.slice (some ⟨g, 0, none⟩) m cap).ownBlock = some (w.heap.size + 1)) := by
        rintro (q | q)
        · omega
        · injection q with q; simp at q; omega
      have hne0 : ¬ (w.heap.size = b ∨ (Value.slice (some ⟨g, 0, none⟩) m cap).ownBlock = some w.heap.size) := by
        rintro (q | q)
        · omega
        · injection q with q; simp at q; omega
      have y0 := (hf3.block (w.heap.size) (by have := HZ2.out; omega) hne0).trans HX0.out
      have y1 := (hf3.block (w.heap.size + 1) (by have := HZ2.out; omega) hne1).trans HX1'.out
      have b0 : w3.cell? ⟨w.heap.size + 1, 0, none⟩ = some (.int .i64 (ff : Nat)) := by rw [Lib.cell_of_heap y1]; rfl
      have b1 : w3.cell? ⟨w.heap.size + 1, 1, none⟩ = some (.int .i64 (tt : Nat)) := by rw [Lib.cell_of_heap y1]; rfl
      have b2 : w3.cell? ⟨w.heap.size + 1, 2, none⟩ = some (.string bd) := by rw [Lib.cell_of_heap y1]; rfl
      have r0 : w3.cell? ⟨w.heap.size, 0, none⟩ = some (.int .i64 0) := by rw [Lib.cell_of_heap y0]; rfl
      have r1 : w3.cell? ⟨w.heap.size, 1, none⟩ = some (.int .i64 0) := by rw [Lib.cell_of_heap y0]; rfl
      have r2 : w3.cell? ⟨w.heap.size, 2, none⟩ = some (.string ⟨#[]⟩) := by rw [Lib.cell_of_heap y0]; rfl
      have g0 : w3.frozen? ⟨w.heap.size, 0, none⟩ = false := Lib.frozen_of_heap y0 0
      have g1 : w3.frozen? ⟨w.heap.size, 1, none⟩ = false := Lib.frozen_of_heap y0 1
      have g2 : w3.frozen? ⟨w.heap.size, 2, none⟩ = false := Lib.frozen_of_heap y0 2
      have s0 := hn3.side hf32
      have s1 := hn3.side ht32
      replace s0 : w3.cell? ⟨b, 1 + ff, none⟩ = some (.bool bf) := by rw [hbf]; exact s0
      replace s1 : w3.cell? ⟨b, 1 + tt, none⟩ = some (.bool bt) := by rw [hbt]; exact s1
      have HFL : Hid (∀ nq u0 u1 u2, RTo w ((((w3.drewN nq).setCell ⟨w.heap.size, 0, none⟩ u0).setCell ⟨w.heap.size, 1, none⟩ u1).setCell ⟨w.heap.size, 2, none⟩ u2) B b (.slice (some ⟨g, 0, none⟩) m cap) (N.rem (n : Int))) := Lib.hid fun nq u0 u1 u2 =>
        RTo.fill HB2.out (HT.out.drewN nq) hblt (fun x hx => by injection hx with hx; simp at hx; omega) w.heap.size (Nat.le_refl _) (by have := HZ2.out; omega) u0 u1 u2
      have HF3 := Lib.hid hf3
      clear hf3 hn3 y0 y1 hne1 hne0
      have hbb : bf = bt := by rw [hbf, hbt, hss]
      subst hbb
      clear hbf hbt hss hq1 hq2
      cases bf
      all_goals
        go_wp2_with fail
        go_quiet (fail)
        go_wp2_with fail
        (try simp only [Exit.inBlock, Exit.then])
        refine bodyPost_ret (v := .tuple #[.agg #[.int .i64 (ff : Nat), .int .i64 (tt : Nat), .string bd], .int .i64 0]) ?_ rfl ⟨rfl, HFL.out _ _ _ _⟩
        rw [results_cell_tmp rfl]
        go_simp
    · rw [if_neg hss]
      unfold letV Net.zeroL
      generalize N.q.length = m at *
      go_enter Try.func13, Try.ntmps13
      go_wp2_with fail
      rw [HW3.out]
      refine HR.out.mono ?_
      rintro e w3 ⟨rfl, ht⟩
      have HT := Lib.hid ht
      obtain ⟨v3, hn3, _, hf3⟩ := ht
      have hne1 : ¬ (w.heap.size + 1 = b ∨ (Value.slice (some ⟨g, 0, none⟩) m cap).ownBlock = some (w.heap.size + 1)) := by
        rintro (q | q)
        · omega
        · injection q with q; simp at q; omega
      have hne0 : ¬ (w.heap.size = b ∨ (Value.slice (some ⟨g, 0, none⟩) m cap).ownBlock = some w.heap.size) := by
        rintro (q | q)
        · omega
        · injection q with q; simp at q; omega
      have y0 := (hf3.block (w.heap.size) (by have := HZ2.out; omega) hne0).trans HX0.out
      have y1 := (hf3.block (w.heap.size + 1) (by have := HZ2.out; omega) hne1).trans HX1'.out
      have b0 : w3.cell? ⟨w.heap.size + 1, 0, none⟩ = some (.int .i64 (ff : Nat)) := by rw [Lib.cell_of_heap y1]; rfl
      have b1 : w3.cell? ⟨w.heap.size + 1, 1, none⟩ = some (.int .i64 (tt : Nat)) := by rw [Lib.cell_of_heap y1]; rfl
      have b2 : w3.cell? ⟨w.heap.size + 1, 2, none⟩ = some (.string bd) := by rw [Lib.cell_of_heap y1]; rfl
      have r0 : w3.cell? ⟨w.heap.size, 0, none⟩ = some (.int .i64 0) := by rw [Lib.cell_of_heap y0]; rfl
      have r1 : w3.cell? ⟨w.heap.size, 1, none⟩ = some (.int .i64 0) := by rw [Lib.cell_of_heap y0]; rfl
      have r2 : w3.cell? ⟨w.heap.size, 2, none⟩ = some (.string ⟨#[]⟩) := by rw [Lib.cell_of_heap y0]; rfl
      have g0 : w3.frozen? ⟨w.heap.size, 0, none⟩ = false := Lib.frozen_of_heap y0 0
      have g1 : w3.frozen? ⟨w.heap.size, 1, none⟩ = false := Lib.frozen_of_heap y0 1
      have g2 : w3.frozen? ⟨w.heap.size, 2, none⟩ = false := Lib.frozen_of_heap y0 2
      have s0 := hn3.side hf32
      have s1 := hn3.side ht32
      replace s0 : w3.cell? ⟨b, 1 + ff, none⟩ = some (.bool bf) := by rw [hbf]; exact s0
      replace s1 : w3.cell? ⟨b, 1 + tt, none⟩ = some (.bool bt) := by rw [hbt]; exact s1
      have HFL : Hid (∀ nq u0 u1 u2, RTo w ((((w3.drewN nq).setCell ⟨w.heap.size, 0, none⟩ u0).setCell ⟨w.heap.size, 1, none⟩ u1).setCell ⟨w.heap.size, 2, none⟩ u2) B b (.slice (some ⟨g, 0, none⟩) m cap) (N.rem (n : Int))) := Lib.hid fun nq u0 u1 u2 =>
        RTo.fill HB2.out (HT.out.drewN nq) hblt (fun x hx => by injection hx with hx; simp at hx; omega) w.heap.size (Nat.le_refl _) (by have := HZ2.out; omega) u0 u1 u2
      have HF3 := Lib.hid hf3
      clear hf3 hn3 y0 y1 hne1 hne0
      have hbb : bt = !bf := by
        rw [hbf, hbt]
        rcases hq1 with q1 | q1 <;> rcases hq2 with q2 | q2 <;> simp_all
      subst hbb
      clear hbf hbt hss hq1 hq2
      cases bf
      all_goals
        go_wp2_with fail
        go_quiet (fail)
        go_wp2_with fail
        (try simp only [Exit.inBlock, Exit.then])
        refine bodyPost_ret (v := .tuple #[.agg #[.int .i64 0, .int .i64 0, .string ⟨#[]⟩], .int .i64 15]) ?_ rfl ⟨rfl, HFL.out _ _ _ _⟩
        rw [results_cell_tmp rfl]
        go_simp
end Go.Proofs.Ytipclhklkngamaa
