import Derived.Test.YtipclhklkngamaaRa
import Derived.Laws.ResultCell
namespace Go.Proofs.Ytipclhklkngamaa
open Go.RowKit
set_option linter.unusedVariables false

theorem rc0 (v : Value) (s : List Int) : (refCells v s)[0]? = some v := by simp [refCells]
/-- a row that was made anew is the queue now -/
theorem RefAt.made {w W w6 : World} {B b : Nat} {N : Net} {v v6 : Value} {q : List Let} (h : RefAt w B b N v) (hb : Below w.heap.size w W) (hq : (⟨q, N.s⟩ : Net).Ok) (ho : OwnL w6 W.heap.size v6 q) (h6 : Below W.heap.size W w6) :
    (∃ A c n, v6 = .slice A n c) ∧ (∃ u, w6.cell? ⟨b, 0, none⟩ = some u) ∧ w6.frozen? ⟨b, 0, none⟩ = false ∧ RTo w (w6.setCell ⟨b, 0, none⟩ v6) B b v ⟨q, N.s⟩ := by
  have hbx : w6.heap[b]? = w.heap[b]? := (h6.block b (by have := hb.size; have := h.lt; omega)).trans (hb.block b h.lt)
  have hbox := hbx.trans h.box
  obtain ⟨A, c, e, _⟩ := ho.form
  have hlo := h.low
  have hl := h.lt
  have hs := hb.size
  refine ⟨⟨A, c, _, e⟩, ⟨_, by rw [Lib.cell_of_heap hbox]; exact rc0 _ _⟩, Lib.frozen_of_heap hbox 0, v6, h.setQ hbx (ho.mono (by omega)) hq, fun g hg => .inr (by have := (ho.lt g hg).1; omega), ?_⟩
  exact ((Fr.of_below hb).trans (Fr.of_below (S := fun _ => False) h6) fun i q => q.elim).setCell (p := ⟨b, 0, none⟩) (.inl (.inl rfl)) _
set_option maxHeartbeats 4000000 in
set_option maxRecDepth 100000 in
theorem rsend_any {w : World} {B b : Nat} {N : Net} {v : Value} (h : RefAt w B b N v) (l : Let) (hf : Fit l) :
    Calls Try.prog 11 #[.pointer (some ⟨b, 0, none⟩), letV l] w fun e w' => e = .returned (.int .i64 (N.send l).2) ∧ RTo w w' B b v (N.send l).1 := by
  have c0 := h.queue
  have hblt := h.lt
  have H := Lib.hid h
  obtain ⟨A, cap, rfl, h1, h2, h3⟩ := h.row.form
  have hm := h.ok.many
  have hml : (N.q.length : Int) ≤ 400 := by omega
  have f0 := hf.f0
  have f1 := hf.f1
  have t0 := hf.t0
  have t1 := hf.t1
  obtain ⟨W, hW⟩ : ∃ W, w.alloc (boxL l) = W := ⟨_, rfl⟩
  have hb : Below w.heap.size w W := hW ▸ (Below.refl w.heap.size w).alloc (Nat.le_refl _) _
  have hx : BoxAt W w.heap.size l := ⟨by rw [← hW]; exact heap_alloc_new w _⟩
  have hz : W.heap.size = w.heap.size + 1 := by rw [← hW]; simp
  have d0 := hx.c0
  have d1 := hx.c1
  have d2 := hx.c2
  have q0 : W.cell? ⟨b, 0, none⟩ = some (.slice A N.q.length cap) := (hb.cell (p := ⟨b, 0, none⟩) hblt).trans c0
  have hblt2 : b < W.heap.size := by omega
  have hwlt : w.heap.size < W.heap.size := by omega
  have HC4 : Hid (∀ W' : World, Below W.heap.size W W' → W'.cell? ⟨w.heap.size, 0, none⟩ = some (.int .i64 l.f) ∧ W'.cell? ⟨w.heap.size, 1, none⟩ = some (.int .i64 l.t) ∧ W'.cell? ⟨w.heap.size, 2, none⟩ = some (.string l.b)) := Lib.hid fun W' hb' => by
    have := hx.below hb'
    exact ⟨this.c0, this.c1, this.c2⟩
  have HT : Hid (RTo w W B b (.slice A N.q.length cap) N) := Lib.hid (RTo.from hb (h.below hb).stays)
  have HB := Lib.hid hb
  have HW := Lib.hid hW
  have HLN1 : Hid (∀ q, q = N.q → ([] : List Let).length + q.length ≤ 1000000) := Lib.hid (by rintro q rfl; simp; omega)
  have HLN2 : Hid (∀ q, q = N.q → ([] ++ q).length + [l].length ≤ 1000000) := Lib.hid (by rintro q rfl; simp; omega)
  have HR : Hid (LsAt W (.slice A N.q.length cap) N.q _) := Lib.hid (h.row.belows hb).at'
  unfold letV
  unfold boxL at HW
  cases ho : Net.okL l with
  | false =>
    rw [Net.send_no ho]
    have hbad : l.f < 0 ∨ (0 ≤ l.f ∧ 31 < l.f) ∨ (0 ≤ l.f ∧ l.f ≤ 31 ∧ l.t < 0) ∨ (0 ≤ l.f ∧ l.f ≤ 31 ∧ 0 ≤ l.t ∧ 31 < l.t) := by
      simp only [Net.okL, Net.place, Bool.and_eq_false_iff, decide_eq_false_iff_not] at ho
      omega
    clear h hx hb hW h3 hz ho hm
    rcases hbad with p0 | ⟨p0, p1⟩ | ⟨p0, p1, p2⟩ | ⟨p0, p1, p2, p3⟩
    all_goals
      go_enter Try.func11, Try.ntmps11
      go_wp2_with fail
      rw [HW.out]
      go_wp2_with fail
      go_ret
      exact ⟨rfl, HT.out⟩
  | true =>
    obtain ⟨p0, p1, p2, p3⟩ := Net.ok_places ho
    have p1' : l.f ≤ 31 := by omega
    have p3' : l.t ≤ 31 := by omega
    by_cases hful : N.q.length = 400
    · have hs : N.send l = (N, 40) := by unfold Net.send Net.put; rw [if_pos ho, if_pos (by omega)]
      rw [hs]
      have hg : (400 : Int) ≤ (N.q.length : Int) := by omega
      clear h hx hb hW h3 hz ho hm hs hful
      generalize N.q.length = n at *
      go_enter Try.func11, Try.ntmps11
      go_wp2_with fail
      rw [HW.out]
      go_wp2_with fail
      go_ret
      exact ⟨rfl, HT.out⟩
    · rw [Net.send_yes ho (by omega)]
      have hg : ¬ (400 : Int) ≤ (N.q.length : Int) := by omega
      have hok := (Net.put_ok h.ok ho)
      rw [show (N.put l).1 = ⟨N.q ++ [l], N.s⟩ from by unfold Net.put; rw [if_neg (by omega)]] at hok
      have ST : Hid (∀ v6 w6, OwnL w6 W.heap.size v6 (N.q ++ [l]) → Below W.heap.size W w6 → (∃ A c n, v6 = .slice A n c) ∧ (∃ u, w6.cell? ⟨b, 0, none⟩ = some u) ∧ w6.frozen? ⟨b, 0, none⟩ = false ∧ RTo w (w6.setCell ⟨b, 0, none⟩ v6) B b (.slice A N.q.length cap) ⟨N.q ++ [l], N.s⟩) := Lib.hid fun v6 w6 k1 k2 => h.made hb hok k1 k2
      clear h hx hb hW h3 hz ho hm hful hok
      generalize hnn : N.q.length = n at *
      clear hnn
      go_enter Try.func11, Try.ntmps11
      go_wp2_with fail
      rw [HW.out]
      go_wp2_with fail
      go_region_law (first
        | ((refine step_appL (by rfl) (.tmp 35) (.tmp 37) (by rfl) W.heap.size W v5 _ (by rfl) (ho5.out.belows (by repeat (first | exact Below.refl _ _ | exact hb5.out | refine Below.drew ?_ | refine bel_alloc ?_ _))) _ [l] _ (by rfl) (LsAt.box1 (by first | exact hp_new (by first | rfl | simp) | exact (hg5.out.block _ (by first | (simp; done) | (simp; omega)) (by simp [Value.ownBlock])).trans (by first | exact hp_new (by first | rfl | simp) | exact hp_old (hp_new (by first | rfl | simp))))) (HLN2.out _ rfl) (by repeat (first | exact Below.refl _ _ | exact hb5.out | refine Below.drew ?_ | refine bel_alloc ?_ _)) (by have := hb5.out.size; simp; omega) ?_); intro v6 w6 ho6 hb6 hg6; obtain ⟨⟨A6, c6, n6, hv6⟩, ⟨u6, y6⟩, z6, TT⟩ := ST.out v6 w6 ho6.out hb6.out; subst hv6; have T6 := Lib.hid TT; clear TT)
        | ((refine step_appL (by rfl) (.tmp 30) (.tmp 34) (by rfl) W.heap.size W _ [] (by rfl) (OwnL.fresh (by first | exact hp_new (by first | rfl | simp) | exact hp_old (hp_new (by first | rfl | simp))) (by simp)) _ _ _ (by rfl) (HR.out.belows (by repeat (first | exact Below.refl _ _ | refine Below.drew ?_ | refine bel_alloc ?_ _))) (HLN1.out _ rfl) (by repeat (first | exact Below.refl _ _ | refine Below.drew ?_ | refine bel_alloc ?_ _)) (by first | (simp; done) | (simp; omega)) ?_); intro v5 w5 ho5 hb5 hg5; obtain ⟨d5, d6, d7⟩ := HC4.out _ hb5.out))
      all_goals
        clear d5 d6 d7
        go_wp2_with fail
        go_ret
        exact ⟨rfl, T6.out⟩
end Go.Proofs.Ytipclhklkngamaa
