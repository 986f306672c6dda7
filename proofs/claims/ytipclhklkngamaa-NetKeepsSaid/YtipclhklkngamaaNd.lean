import Derived.Test.YtipclhklkngamaaNc
namespace Go.Proofs.Ytipclhklkngamaa
open Go.RowKit
set_option linter.unusedVariables false

theorem step_app1 {T e sz bt : Nat} {z : Value} (hT : Try.prog.underlying T = some (.slice e)) (hin : (Try.prog.info? e).map (fun i => (i.zero, i.size, i.bytes)) = some (some z, sz, bt)) (hsz : 1 ≤ sz) (hz : z.cells.size = sz) (hbt : bt ≤ 64)
    {ops : Array Oper} {o : Oper} {a : Act} {K : Act → World → Prop} {Q : Exit → Act → World → Prop} {E : Prop} {w : World} (hgd : o.guard = none) (s x : Operand)
    (ho : o.op = .call { callee := .builtin .append, args := #[s, x], argTypes := #[T, T] })
    (base : Nat) (v : Value) (n : Nat) (xs : List Value) (hs : a.eval s = v) (hown : w.ownsRow base e sz v n xs) (k : Nat) (us : List Value) (hus : us.length = sz) (hu1 : ∀ u ∈ us, u.oneCell' = true) (c1 : Nat) (hx : a.eval x = .slice (some ⟨k, 0, none⟩) 1 c1)
    (hk : w.heap[k]? = some (.cells us.toArray e (0, 0)))
    (hlen : n ≤ 1000000000) (hbase : base ≤ w.heap.size)
    (h : ∀ v' w', w'.ownsRow base e sz v' (n + 1) (xs ++ us) → w.grownBy w' v.ownBlock → (v'.ownBlock = v.ownBlock ∨ v'.ownBlock = some w.heap.size) → K (a.put o.dst v') w') :
    if Region.wanted o (yielded ops a.tmps) = true then Oper.wp Try.prog o a w K Q else E := by
  have hw : Region.wanted o (yielded ops a.tmps) = true := by simp [Region.wanted, hgd]
  rw [if_pos hw]
  obtain ⟨i, hi, hz0, hz1, hz2⟩ := info_parts3 hin
  have hnews : ∀ j y, us[j]? = some y → w.cell? ((⟨k, 0, none⟩ : Addr).add j) = some y := by
    intro j y hy
    unfold Addr.add
    have hc : w.cell? ⟨k, j, none⟩ = some y := by
      rw [Lib.cell_of_heap hk]
      rw [← hy]
      show (us.toArray)[j]? = _
      simp
    split
    · subst j; exact hc
    · simpa using hc
  have hby : (n + 1) * bt ≤ 140737488355328 := by
    have : (n + 1) * bt ≤ (n + 1) * 64 := Nat.mul_le_mul_left _ hbt
    omega
  obtain ⟨v', w', hr, h2, h3, h4, h5⟩ := run_append_own_at (P := Try.prog) w base T o.type e i z sz bt hT hi hz0 hz1 hz2 hz (by omega) v n xs hown ⟨k, 0, none⟩ 1 c1 us (by rw [hus, Nat.one_mul]) hnews hu1 (by simp only [maxLen]; omega) hby hbase
  unfold Oper.wp execOp
  simp only [ho, resolve, invoke, builtin, Sem.run_bind, Sem.run_pure, Result.andThen_ok, List.map_toArray, List.map_cons, List.map_nil, hs, hx, hr]
  exact h v' w' h2 h3 h5
theorem own_same (A : Option Addr) (n k c c' : Nat) : (Value.slice A n c).ownBlock = (Value.slice A k c').ownBlock := by cases A <;> rfl
theorem nc0 (v : Value) (s : List Int) : (netCells v s)[0]? = some v := by simp [netCells]
theorem below_drewN {B : Nat} {a w : World} (h : Below B a w) (n : Nat) : Below B a (w.drewN n) := ⟨h.os, h.tape, h.output, h.size, h.block⟩
theorem letV_one (l : Let) : ∀ u ∈ [Value.int .i64 l.f, .int .i64 l.t, .string l.b], u.oneCell' = true := one_cell l
theorem put_ok {w w1 : World} {B b : Nat} {N : Net} {v v3 : Value} {l : Let} (h : NetAt w B b N v) (hl : Net.okL l = true) (hm : N.q.length < 400) {W : World} (hW : Below w.heap.size w W)
    (ow : w1.ownsRow B 32 3 v3 (N.q.length + 1) (flat N.q ++ [.int .i64 l.f, .int .i64 l.t, .string l.b])) (gr : W.grownBy w1 v.ownBlock) (bl : v3.ownBlock = v.ownBlock ∨ v3.ownBlock = some W.heap.size) :
    To w (w1.setCell ⟨b, 0, none⟩ v3) B b v (N.put l).1 := by
  have hblt := h.lt
  have ho : OwnL w1 B v3 (N.q ++ [l]) := by unfold OwnL; rw [flat_app, List.length_append]; exact ow
  have e : (N.put l).1 = ⟨N.q ++ [l], N.s⟩ := by unfold Net.put; rw [if_neg (by omega)]
  have hok : (N.put l).1.Ok := Net.put_ok h.ok hl
  rw [e] at hok
  rw [e]
  refine ⟨v3, h.setQ ?_ ho hok, fun g hg => ?_, ?_⟩
  · exact (gr.block b (by have := hW.size; omega) (fun q => h.apart q.symm)).trans (hW.block b hblt)
  · rcases bl with q | q
    · exact .inl (q ▸ hg)
    · rw [q] at hg; injection hg with hg; exact .inr (by have := hW.size; omega)
  · exact (((Fr.of_below hW).grown gr (fun k hk => .inl (.inr hk))).setCell (p := ⟨b, 0, none⟩) (.inl (.inl rfl)) _)
set_option maxHeartbeats 2000000 in
set_option maxRecDepth 100000 in
theorem put_any {w : World} {B b : Nat} {N : Net} {v : Value} (h : NetAt w B b N v) (l : Let) (hl : Net.okL l = true) :
    Calls Try.prog 23 #[.pointer (some ⟨b, 0, none⟩), letV l] w fun e w' => e = .returned (.int .i64 (N.put l).2) ∧ To w w' B b v (N.put l).1 := by
  have c0 := h.queue
  have hblt := h.lt
  have H := Lib.hid h
  obtain ⟨A, cap, rfl, h1, h2, h3⟩ := h.row.form
  have hm := h.ok.many
  have hml : (N.q.length : Int) ≤ 400 := by omega
  unfold letV
  have HT : Hid (∀ W, Below w.heap.size w W → To w W B b (.slice A N.q.length cap) N) := Lib.hid fun W hb => ⟨_, H.out.keep (hb.block b hblt) fun g hg => hb.block g (H.out.row.lt g hg).2, fun g hg => .inl hg, Fr.of_below hb⟩
  by_cases hf : N.q.length = 400
  · have hf2 : (400 : Int) ≤ (N.q.length : Int) := by omega
    have e : N.put l = (N, 40) := by unfold Net.put; rw [if_pos (by omega)]
    rw [e]
    clear h hf hml hm H e
    generalize N.q.length = n at *
    go_enter Try.func23, Try.ntmps23
    go_wp2_with fail
    go_ret
    exact ⟨rfl, HT.out _ ((Below.refl w.heap.size w).alloc (Nat.le_refl _) _)⟩
  · have hf2 : (N.q.length : Int) < 400 := by omega
    have e2 : (N.put l).2 = 0 := by unfold Net.put; rw [if_neg (by omega)]
    rw [e2]
    obtain ⟨W, hW⟩ : ∃ W, w.alloc (.cells #[.int .i64 l.f, .int .i64 l.t, .string l.b] 32) = W := ⟨_, rfl⟩
    have HW := Lib.hid hW
    have hb : Below w.heap.size w W := hW ▸ (Below.refl w.heap.size w).alloc (Nat.le_refl _) _
    have hx : W.heap[w.heap.size]? = some (.cells #[.int .i64 l.f, .int .i64 l.t, .string l.b] 32 (0, 0)) := by rw [← hW]; exact heap_alloc_new w _
    have hz : W.heap.size = w.heap.size + 1 := by rw [← hW]; simp
    have d0 : W.cell? ⟨w.heap.size, 0, none⟩ = some (.int .i64 l.f) := by rw [Lib.cell_of_heap hx]; rfl
    have d1 : W.cell? ⟨w.heap.size, 1, none⟩ = some (.int .i64 l.t) := by rw [Lib.cell_of_heap hx]; rfl
    have d2 : W.cell? ⟨w.heap.size, 2, none⟩ = some (.string l.b) := by rw [Lib.cell_of_heap hx]; rfl
    have q0 : W.cell? ⟨b, 0, none⟩ = some (.slice A N.q.length cap) := (hb.cell (p := ⟨b, 0, none⟩) hblt).trans c0
    have hblt2 : b < W.heap.size := by omega
    have F7 : W.frozen? ⟨b, 0, none⟩ = false := by rw [hb.frozen (p := ⟨b, 0, none⟩) hblt]; exact h.unfrozen 0
    have U1 : Hid (∀ u ∈ [Value.int .i64 l.f, .int .i64 l.t, .string l.b], u.oneCell' = true) := Lib.hid (letV_one l)
    have K1 : Hid ((W.alloc (.cells #[.int .i64 l.f, .int .i64 l.t, .string l.b] 32)).drew.heap[W.heap.size]? = some (.cells #[.int .i64 l.f, .int .i64 l.t, .string l.b] 32 (0, 0))) := Lib.hid (heap_alloc_new W _)
    have BB : Below W.heap.size W (W.alloc (.cells #[.int .i64 l.f, .int .i64 l.t, .string l.b] 32)).drew := ((Below.refl _ W).alloc (Nat.le_refl _) _).drew
    have O1 : Hid ((W.alloc (.cells #[.int .i64 l.f, .int .i64 l.t, .string l.b] 32)).drew.ownsRow B 32 3 (.slice A N.q.length cap) N.q.length (flat N.q)) := Lib.hid ((h.row.belows hb).belows BB)
    have S1 : Hid (B ≤ (W.alloc (.cells #[.int .i64 l.f, .int .i64 l.t, .string l.b] 32)).drew.heap.size) := Lib.hid (by have := h.low; have := BB.size; omega)
    have N1 : Hid (N.q.length ≤ 1000000000) := Lib.hid (by omega)
    have ST : Hid (∀ v3 w3, w3.ownsRow B 32 3 v3 (N.q.length + 1) (flat N.q ++ [.int .i64 l.f, .int .i64 l.t, .string l.b]) → (W.alloc (.cells #[.int .i64 l.f, .int .i64 l.t, .string l.b] 32)).drew.grownBy w3 (Value.slice A N.q.length cap).ownBlock → (v3.ownBlock = (Value.slice A N.q.length cap).ownBlock ∨ v3.ownBlock = some (W.alloc (.cells #[.int .i64 l.f, .int .i64 l.t, .string l.b] 32)).drew.heap.size) →
        (∃ A3 c3, v3 = .slice A3 (N.q.length + 1) c3) ∧ (∃ u, w3.cell? ⟨b, 0, none⟩ = some u) ∧ w3.frozen? ⟨b, 0, none⟩ = false ∧ To w (w3.setCell ⟨b, 0, none⟩ v3) B b (.slice A N.q.length cap) (N.put l).1) := Lib.hid (fun v3 w3 ow gr bl => by
      have hbox : w3.heap[b]? = w.heap[b]? := (gr.block b (by have := BB.size; omega) (fun q => H.out.apart q.symm)).trans ((BB.block b hblt2).trans (hb.block b hblt))
      have hbx := hbox.trans H.out.box
      have ho : OwnL w3 B v3 (N.q ++ [l]) := by unfold OwnL; rw [flat_app, List.length_append]; exact ow
      obtain ⟨A3, c3, e3, _⟩ := ho.form
      rw [List.length_append] at e3
      exact ⟨⟨A3, c3, e3⟩, ⟨_, by rw [Lib.cell_of_heap hbx]; exact nc0 _ _⟩, Lib.frozen_of_heap hbx 0, put_ok H.out hl (by omega) (hb.trans (BB.mono (by omega))) ow gr bl⟩)
    have y0 : (W.drew.alloc (.cells #[.int .i64 l.f, .int .i64 l.t, .string l.b] 32)).cell? ⟨b, 0, none⟩ = some (.slice A N.q.length cap) := (((Below.refl _ W).drew.alloc (Nat.le_refl _) _).cell (p := ⟨b, 0, none⟩) hblt2).trans q0
    clear hW hb hx hz h hl h3 e2 hm hml hf BB HT
    generalize N.q.length = n at *
    go_enter Try.func23, Try.ntmps23
    go_wp2_with fail
    rw [HW.out]
    go_region_law (first
        | ((refine step_app1 (T := 27) (e := 32) (sz := 3) (bt := 32) Try.underlying27 info32 (by omega) rfl (by omega) (by rfl) (.tmp 19) (.tmp 21) (by rfl) B (.slice A n cap) n _ (by rfl) O1.out W.heap.size [.int .i64 l.f, .int .i64 l.t, .string l.b] (by rfl) U1.out 1 (by rfl) K1.out N1.out S1.out ?_); intro v3 w3 own3 grow3 blk3; obtain ⟨⟨A3, c3, hv3⟩, ⟨u3, y3⟩, z3, TT⟩ := ST.out v3 w3 own3 grow3 blk3; subst hv3; have T3 := Lib.hid TT; clear own3 grow3 blk3 TT))
    all_goals
      go_wp2_with fail
      go_ret
      exact ⟨rfl, T3.out⟩
end Go.Proofs.Ytipclhklkngamaa
