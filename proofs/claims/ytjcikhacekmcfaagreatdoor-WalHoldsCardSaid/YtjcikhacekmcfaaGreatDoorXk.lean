import Derived.Test.YtjcikhacekmcfaaGreatDoorXj
namespace Go.Proofs.YtjcikhacekmcfaaGreatDoor
open Go.RowKit Go.Shelf
set_option linter.unusedVariables false
set_option maxRecDepth 100000

attribute [local go_sem] Oper.semAt_some

/-! ### slices.Collect over slices.Chunk -/
theorem chunk_stops (F : Fence) (n : Nat) (hf : F.fn 165) (hro : F.round = none) (hn : 1 ≤ n) (Bs Bn n₀ b L cap : Nat) (hL : L ≤ cap) (hcap : cap ≤ 9223372036854775807) (hL2 : L ≤ 1000000) (w : World) (hBs0 : Bs < n₀) (hBn0 : Bn < n₀) (hn₀ : n₀ ≤ w.heap.size)
    (hBs : w.cell? ⟨Bs, 0, none⟩ = some (.slice (some ⟨b, 0, none⟩) L cap)) (hBn : w.cell? ⟨Bn, 0, none⟩ = some (.int .i64 4096)) :
    SeqStopsK F n Tryz.prog 165 #[.pointer (some ⟨Bs, 0, none⟩), .pointer (some ⟨Bn, 0, none⟩)] (fun x : Nat × Nat => #[pcV b x]) (Below n₀) (fun ys => ys = pcs L (pcN L)) (fun pre => ∃ k, k ≤ pcN L ∧ pre = pcs L k) (pcN L) w := fun l J Jx W hW hJ _ hY h0 =>
  chunk1_in F n hf hro hn l Bs Bn n₀ b L cap hL hcap hL2 hBs0 hBn0 J Jx (fun pre V hj => hJ pre V V.drew none hj (⟨rfl, rfl, rfl, Nat.le_refl _, fun _ _ _ => rfl⟩) (fun r e => by cases e)) hY W
    ((hW.cell (p := ⟨Bs, 0, none⟩) (Nat.lt_of_lt_of_le hBs0 hn₀)).trans hBs) ((hW.cell (p := ⟨Bn, 0, none⟩) (Nat.lt_of_lt_of_le hBn0 hn₀)).trans hBn) h0
set_option maxHeartbeats 2000000 in
theorem appendSeq_in (F : Fence) (n : Nat) (h3 : F.fn 164) (hf : F.fn 165) (hro : F.round = none) (hn : 3 ≤ n) (Bs Bn b L cap : Nat) (hL : L ≤ cap) (hcap : cap ≤ 9223372036854775807) (hL2 : L ≤ 1000000) (w : World) (hBs0 : Bs < w.heap.size) (hBn0 : Bn < w.heap.size)
    (hBs : w.cell? ⟨Bs, 0, none⟩ = some (.slice (some ⟨b, 0, none⟩) L cap)) (hBn : w.cell? ⟨Bn, 0, none⟩ = some (.int .i64 4096)) :
    CallsIn F n Tryz.prog 164 #[.slice none 0 0, .func (.func 165) #[] #[.pointer (some ⟨Bs, 0, none⟩), .pointer (some ⟨Bn, 0, none⟩)]] w fun e W' => ∃ v, e = .returned v ∧ W'.ownsRow w.heap.size 60 1 v (pcs L (pcN L)).length ((pcs L (pcN L)).map (pcV b)) ∧ Below w.heap.size w W' := by
  have h1 : 1 ≤ n := by omega
  obtain ⟨i0, hi, hz0, hz1, hz2⟩ := Fm.info_parts3 Fm.info22
  refine callsIn_of_wp_marks Tryz.func164 rfl h3 ?_ hro
  simp only [Tryz.ntmps164, List.size_toArray, List.length_cons, List.length_nil, Nat.reduceAdd, Nat.reduceSub, Array.replicate_succ, Array.replicate_zero, List.push_toArray, List.append_toArray, List.nil_append, List.cons_append]
  gi_wp2
  have bO := Go.Boxed.new w 129 (.slice none 0 0)
  have hB0 : Below w.heap.size w (w.alloc (.cells #[.slice none 0 0] 129)) := (Below.refl _ w).alloc (Nat.le_refl _) _
  refine wpIn_rangeFunc_ownG hro h1 (gf := 165) (lb := #[.pointer (some ⟨Bs, 0, none⟩), .pointer (some ⟨Bn, 0, none⟩)]) rfl hf (enters_of Tryz.func165 (by kernel_rfl) rfl)
    (chunk_stops F (n - 1) hf hro (by omega) Bs Bn w.heap.size b L cap hL hcap hL2 _ hBs0 hBn0 (by simp) ((hB0.cell (p := ⟨Bs, 0, none⟩) hBs0).trans hBs) ((hB0.cell (p := ⟨Bn, 0, none⟩) hBn0).trans hBn)) belowK_t (belowK_b (by simp)) (Below.refl _ _) (fun _ => rfl)
    (fun pre W => (∃ v, Go.Boxed W w.heap.size 129 v ∧ W.ownsRow w.heap.size 60 1 v pre.length (pre.map (pcV b)) ∧ True) ∧ Below w.heap.size w W)
    (fun _ _ _ => False)
    (OwnFrom.and (Own.from (holdsRow_own w.heap.size w.heap.size 129 60 1 (fun pre : List (Nat × Nat) => pre.length) (fun pre : List (Nat × Nat) => pre.map (pcV b)) (fun _ _ => True)) _) (ownFrom_below (Nat.le_refl _) (by simp)))
    (fun _ _ _ _ _ hs _ _ => hs)
    ⟨⟨_, bO, World.ownsRow_nil _ _ _ _, trivial⟩, hB0⟩
    (fun x => { tmps := #[.slice none 0 0, .func (.func 165) #[] #[.pointer (some ⟨Bs, 0, none⟩), .pointer (some ⟨Bn, 0, none⟩)], .pointer (some ⟨w.heap.size, 0, none⟩), undef, .slice none 0 0, pcV b x, .func (.func 165) #[] #[.pointer (some ⟨Bs, 0, none⟩), .pointer (some ⟨Bn, 0, none⟩)], pcV b x, undef, undef, undef, undef, undef], defers := [] }) ?assign ?body ?done ?stop
  case assign =>
    intro l x W K hK
    gi_wp2
    exact hK
  case body =>
    rintro l pre x W ⟨⟨v, hv, hrow, _⟩, hB⟩ hlt
    have hc := hv.cell
    have hN : pcN L ≤ 1000000 := by unfold pcN; omega
    unfold pcV
    gi_wp2_with (gi_at_builtin; refine wpListIn_append_own _ rfl _ _ 129 rfl w.heap.size 60 i0 (.slice none 0 0) 1 24 Tryz.underlying129 hi hz0 hz1 hz2 rfl (by decide) _ _ _ rfl (hrow.alloc _) ⟨W.heap.size, 0, none⟩ 1 1 [pcV b x] rfl rfl (cell_one_new _ _ _) (by simp [Value.oneCell', pcV]) (by simp only [maxLen]; omega) (by omega) (by have := hB.size; simp; omega) ?_; intro v' w1 hown' hgrow _; obtain ⟨g', cap', rfl⟩ := ownsRow_succ hown'; obtain ⟨hv1, hv2, hr2, hk2, hb2⟩ := hv.appended (by decide) hrow hB.size (Nat.le_refl _) hown' hgrow; have hc1 := hv1.cell; have hf1 := hv1.frozen)
    exact ⟨hk2.from _, hb2, ⟨_, hv2, by have q := hr2; unfold pcV at q; simpa using q, trivial⟩, hB.trans hb2⟩
  case done =>
    rintro D ys W hD rfl ⟨⟨v, hv, hrow, _⟩, hB⟩ hK
    have hc := hv.cell
    gi_wp2
    refine ⟨by simp, .inl ⟨_, _, rfl, run_takeDeferred hK, ?_⟩⟩
    exact ⟨_, results_tmp rfl _ _ _, v, rfl, ownsRow_putObj hrow _ hK rfl, hB.trans (belowK_b (w := w) (Nat.le_refl _) W D _ _ (by simp at hD; omega) hK rfl rfl)⟩
  case stop =>
    rintro D c pre W _ _ h _
    exact h.elim
theorem appendSeq_any (Bs Bn b L cap : Nat) (hL : L ≤ cap) (hcap : cap ≤ 9223372036854775807) (hL2 : L ≤ 1000000) (w : World) (hBs0 : Bs < w.heap.size) (hBn0 : Bn < w.heap.size)
    (hBs : w.cell? ⟨Bs, 0, none⟩ = some (.slice (some ⟨b, 0, none⟩) L cap)) (hBn : w.cell? ⟨Bn, 0, none⟩ = some (.int .i64 4096)) :
    Calls Tryz.prog 164 #[.slice none 0 0, .func (.func 165) #[] #[.pointer (some ⟨Bs, 0, none⟩), .pointer (some ⟨Bn, 0, none⟩)]] w fun e W' => ∃ v, e = .returned v ∧ Fm.OwnV W' w.heap.size v ((pcs L (pcN L)).map (pcV b)) ∧ Below w.heap.size w W' :=
  ((callsIn_wide (n := 3)).1 (appendSeq_in _ 3 trivial trivial rfl (by omega) Bs Bn b L cap hL hcap hL2 w hBs0 hBn0 hBs hBn)).mono fun e W' ⟨v, h1, h2, h3⟩ => ⟨v, h1, by unfold Fm.OwnV; rw [List.length_map]; exact h2, h3⟩
theorem collect_any (Bs Bn b L cap : Nat) (hL : L ≤ cap) (hcap : cap ≤ 9223372036854775807) (hL2 : L ≤ 1000000) (w : World) (hBs0 : Bs < w.heap.size) (hBn0 : Bn < w.heap.size)
    (hBs : w.cell? ⟨Bs, 0, none⟩ = some (.slice (some ⟨b, 0, none⟩) L cap)) (hBn : w.cell? ⟨Bn, 0, none⟩ = some (.int .i64 4096)) :
    Calls Tryz.prog 125 #[.func (.func 165) #[] #[.pointer (some ⟨Bs, 0, none⟩), .pointer (some ⟨Bn, 0, none⟩)]] w fun e W' => ∃ v, e = .returned v ∧ Fm.OwnV W' w.heap.size v ((pcs L (pcN L)).map (pcV b)) ∧ Below w.heap.size w W' := by
  have HA := Lib.hid (appendSeq_any Bs Bn b L cap hL hcap hL2 w hBs0 hBn0 hBs hBn)
  go_enter Tryz.func125, Tryz.ntmps125
  go_wp2_with fail
  refine HA.out.mono ?_
  rintro e w1 ⟨v, rfl, h1, h2⟩
  obtain ⟨A, c, rfl, _⟩ := h1.form
  go_wp2_with fail
  go_ret
  exact ⟨_, rfl, by rw [List.length_map] at h1; exact h1, h2⟩
theorem chunk_any (b L cap : Nat) (w : World) :
    Calls Tryz.prog 126 #[.slice (some ⟨b, 0, none⟩) L cap, .int .i64 4096] w fun e W' => e = .returned (.func (.func 165) #[] #[.pointer (some ⟨w.heap.size, 0, none⟩), .pointer (some ⟨w.heap.size + 1, 0, none⟩)]) ∧ W'.cell? ⟨w.heap.size, 0, none⟩ = some (.slice (some ⟨b, 0, none⟩) L cap) ∧ W'.cell? ⟨w.heap.size + 1, 0, none⟩ = some (.int .i64 4096) ∧ w.heap.size + 1 < W'.heap.size ∧ Below w.heap.size w W' := by
  have hmf : ∀ (fn : Fn) (first cap : Array Value) (w : World), (Instr.makeFunc fn first cap).run Tryz.prog w = .ok (.func fn first cap) w := fun _ _ _ _ => rfl
  go_enter Tryz.func126, Tryz.ntmps126
  go_wp2_with fail
  go_ret
  refine ⟨rfl, ?_, ?_, ?_, ?_⟩
  · simp [go_sem]
  · simp [go_sem]
  · simp
  · exact ((below_new w _).alloc (by simp) _)
end Go.Proofs.YtjcikhacekmcfaaGreatDoor
