/- WalHolds holds of every input: for any room and any acts that may be read as data, with the library's own variables as the program's text lays them (tied), the law's call returns true, and the input reads afterwards as it read before. No condition of the prover's own. -/
import Derived.Test.YtjcikhacekmcfaaGreatDoorZk
import Derived.Test.YtjcikhacekmcfaaGreatDoorZl
import Derived.Test.YtjcikhacekmcfaaGreatDoorYe
import Derived.Test.YtjcikhacekmcfaaGreatDoorCards
import Derived.SevenTiedAt
namespace Go.Proofs.YtjcikhacekmcfaaGreatDoor.lawWalHolds
open Go.ChangeShapes Go.WideShapes Go.ChangeAt Go.RowKit Go.Deep
set_option linter.unusedVariables false
theorem own : ownKnob Tryz.prog.godebug = none := by kernel_rfl
theorem laidOut : laidOutB Tryz.prog = true := by kernel_rfl
theorem bytes40 : Tryz.prog.bytesOf 40 = 112 := by kernel_rfl
section
variable {H : Type} {enc : TypeId × Value → H} {W : World}
def EachP (W : World) (a : Addr) (i : Nat) (x : WAct) : Prop := ActFine x ∧ ∃ (A : Option Addr) (c : Nat) (B : Option Addr) (nb cb : Nat), (∀ (j : Nat) (u : Value), (actC x (.slice A x.e.length c) (.slice B nb cb))[j]? = some u → W.cell? ((a.add (i * 9)).add j) = some u) ∧ EntAt W A c x.e ∧ (∀ g off, x.e ≠ [] → A = some ⟨g, off, none⟩ → g < W.heap.size)
set_option maxRecDepth 100000 in
theorem open_wacts {fuel : Nat} {v : Value} {y : DataW H × List MemPlace} (h : DataW.trod enc Tryz.prog W 0 (fun _ => true) true fuel 22 [v] = some y) (hw : ∀ z ∈ y.1.weights Tryz.prog 22, z ≤ 140737488351232) :
    ∃ (xs : List WAct) (A : Option Addr) (c : Nat), v = .slice A xs.length c ∧ ActsAt W A xs ∧ (∀ x ∈ xs, ActFine x) ∧ xs.length ≤ 140737488351232 := by
  rcases open_slice Tryz.underlying22 h with ⟨hcs, hx⟩ | ⟨a, len, cap, m, n, D, Pl, hcs, _, hl, hm, hmm, hx, hi⟩
  · simp only [List.cons.injEq, and_true] at hcs
    exact ⟨[], none, 0, hcs, fun i x hx => by simp at hx, fun x hx => (by cases hx), Nat.zero_le _⟩
  · simp only [List.cons.injEq, and_true] at hcs
    simp only [if_true] at hmm
    subst hmm
    rw [cellsT40] at hi
    have each : ∀ i, i < len → ∃ x : WAct, EachP W a i x := by
      intro i hil
      obtain ⟨cs', hc, ht⟩ := hi i (by omega)
      obtain ⟨_, hcl, hat⟩ := World.cells?_some hc
      obtain ⟨k, t, nn, f, l, A, c, si, st, sd, B, nb, cb, rfl, l1, l2, f1, f2, f3, f4, f5, f6, f7, f8⟩ := open_wact ht (fun z hz => hw z (by
        rw [hx]
        show z ∈ DataW.weights Tryz.prog 22 (.slice _ _)
        rw [DataW.weights, Tryz.underlying22]
        refine List.mem_cons_of_mem _ (List.mem_append_left _ (weights_allZ (d := D i) ?_ z hz))
        exact List.mem_map.2 ⟨i, List.mem_range.2 hil, rfl⟩))
      refine ⟨⟨k, t, nn, f, l, si, st, sd⟩, ⟨f1, f2, f3, f4, f5, f6, f7, f8⟩, A, c, B, nb, cb, fun j u hu => ?_, l1, l2⟩
      have hj : j < 9 := by have := (Array.getElem?_eq_some_iff.1 hu).1; simpa [actC] using this
      have hjs : j = 0 ∨ j = 1 ∨ j = 2 ∨ j = 3 ∨ j = 4 ∨ j = 5 ∨ j = 6 ∨ j = 7 ∨ j = 8 := by omega
      have hc2 := hat j hj
      rcases hjs with rfl | rfl | rfl | rfl | rfl | rfl | rfl | rfl | rfl
      all_goals
        obtain rfl := Option.some.inj hu
        (simp at hc2; exact hc2)
    have hlen : len ≤ 140737488351232 := by
      have h1 := hw ((((List.range len).map D).length + ((List.range (m - len)).map fun j => D (len + j)).length) * Tryz.prog.bytesOf 40) (by rw [hx]; simp [DataW.weights, Tryz.underlying22])
      rw [bytes40] at h1
      simp only [List.length_map, List.length_range] at h1
      omega
    obtain ⟨l, hll, hla⟩ := pick (fun _ => True) len _ each
    refine ⟨l, some a, m, by rw [hll]; exact hcs, fun i x hx => ?_, fun x hx => ?_, by omega⟩
    · obtain ⟨_, A, c, B, nb, cb, q1, q2, q3⟩ := hla i x hx
      have hl0 : 0 < l.length := by have := (List.getElem?_eq_some_iff.1 hx).1; omega
      obtain ⟨_, _, _, _, _, _, q5, _⟩ := hla 0 _ (List.getElem?_eq_getElem hl0)
      have c0 := q5 0 _ rfl
      obtain ⟨b, off, spot⟩ := a
      have hspot : spot = none := by simpa [Addr.add] using World.cell?_spot c0
      subst hspot
      have q4 : ∀ (j : Nat) (u : Value), (actC x (.slice A x.e.length c) (.slice B nb cb))[j]? = some u → W.cell? ⟨b, off + i * 9 + j, none⟩ = some u := fun j u hu => by
        have := q1 j u hu
        rw [addr_add, addr_add] at this
        exact this
      exact ⟨b, off, rfl, World.block_lt_of_cell? W _ (q4 0 _ rfl), A, c, B, nb, cb, q4, q2, q3⟩
    · obtain ⟨i, hi'⟩ := List.getElem?_of_mem hx
      exact (hla i x hi').1
end
theorem door_met (os : Os) (args : Array Value) : laidMetH Tryz.prog Rows.walHoldsRow.laid ((World.doorLaid Tryz.prog 400 os).forCall (fun _ _ => 0) ⟨#[], args, []⟩).memory :=
  laidMetH_of_parts3 (fuel := 8) (laidMet_of_run' 8 (by kernel_rfl) (by kernel_rfl)) (by kernel_rfl) (by kernel_rfl)
set_option maxRecDepth 100000 in
theorem lifted (os : Os) (started : os.Started) (H : Type) (enc : TypeId × Value → H) :
    ReturnsInHanded {} Tryz.checked os 8 .any (fun w args => (Rows.walHoldsSpec.pre enc Tryz.prog Tryz.f8 [] false w args ∧ laidMetH Tryz.prog Rows.walHoldsRow.laid w) ∧ sizedMet enc Tryz.prog Tryz.f8 (OpenSpec.ofChange Rows.walHoldsSpec) false w args)
      (Rows.walHoldsSpec.post enc Tryz.prog Tryz.f8 false true false false) := by
  refine returnsInHanded_of_change_and (C := Tryz.checked) (X := fun w _ => laidMetH Tryz.prog Rows.walHoldsRow.laid w) (fun _ _ _ hh h => h.of_heap hh) own started (by kernel_rfl) Tryz.func8
    (ChangeSpec.witness_shaped (enc := enc) (C := Tryz.checked) (os := os) (X := fun w _ => laidMetH Tryz.prog Rows.walHoldsRow.laid w) false (World.doorLaid Tryz.prog 400 os) #[.int .i64 0, .slice none 0 0] 8 rfl (World.shaped_of_RefB (by kernel_rfl) (by kernel_rfl)) (by kernel_rfl) (by kernel_rfl) (by kernel_rfl) (door_met os _)) ?_
  intro W base args ds gs before hval0 hW _ hsz0 hL _
  have hsz : (DataW.weightsEach Tryz.prog (Tryz.f8.params.toList ++ Rows.walHoldsSpec.plain.varTypes Tryz.prog) (ds ++ gs)).all (· ≤ reachBytes) = true := hsz0
  clear hsz0
  have hval : ∀ (j : Nat) t v, Tryz.f8.params[j]? = some t → args[j]? = some v → Value.okWide Tryz.prog W .any base t v := hval0
  have hW' := hW
  obtain ⟨p, q, hA0, hV, rfl, hfz, hnd⟩ := hW
  have hA : DataW.TrodAll enc Tryz.prog W 0 (fun _ => true) true Tryz.f8.params.toList args.toList ds p := hA0
  rw [Tryz.params8] at hA hval hsz
  obtain ⟨v0, vs0, d0, ds0, p0, q0, hargs, rfl, rfl, h0, r0⟩ := trodAll_cons hA
  obtain ⟨v1, vs1, d1, ds1, p1, q1, rfl, rfl, rfl, h1, r1⟩ := trodAll_cons r0
  obtain ⟨rfl, rfl, rfl⟩ := trodAll_nil r1
  obtain rfl : args = #[v0, v1] := by cases args; simp_all
  obtain ⟨rfl, rfl⟩ := trodVars_none hV
  have hg := glob_of_laid hL
  have k1 := h1
  have lt1 : ∀ x ∈ p1, x.block < W.heap.size := by obtain ⟨m, hm⟩ := k1; exact DataW.trod_lt m _ _ _ hm
  have wt : ∀ {j : Nat} {t : TypeId} {d : DataW H}, ([3, 22] : List TypeId)[j]? = some t → ([d0, d1] : List (DataW H))[j]? = some d → ∀ z ∈ d.weights Tryz.prog t, z ≤ 140737488351232 := by
    intro j t d ht hd z hz
    have := List.all_eq_true.1 hsz z (DataW.weights_mem_each (j := j) (t := t) (d := d) ht hd z hz)
    have e : reachBytes = 140737488351232 := by decide
    rw [e] at this
    exact of_decide_eq_true this
  obtain ⟨z0, rfl, rfl, rfl, w0⟩ := open_int Tryz.underlying3 (hval 0 3 v0 rfl rfl) h0
  obtain ⟨A1, n1, c1, rfl⟩ := okWide_slice Tryz.underlying22 (hval 1 22 v1 rfl rfl)
  obtain ⟨fuel, hf⟩ := h1
  obtain ⟨l1, A2, c2, e2, a2, f2, b2⟩ := open_wacts hf (wt (j := 1) rfl rfl)
  injection e2 with e3 e4 e5
  subst e3 e5
  refine (law_holds z0 A1 n1 c1 l1 W (wf64 w0) hg e4 a2 f2 (by rw [e4]; exact b2)).mono fun e W' ⟨he, bel⟩ => ?_
  subst he
  exact ⟨_, rfl, _, _, _, [], _, [], hW', trodAll_mk1 (shut_bool Tryz.underlying4 _), trodAll_cons_mk (shut_int Tryz.underlying3 w0) (trodAll_cons_mk (Below.trod laidOut (by kernel_rfl) (of_decide_eq_true (by kernel_rfl)) k1 bel lt1) trodAll_mk0), rfl, bel.frame _, fun h => by cases h⟩
theorem said : Rows.WalHoldsSaid :=
  OpenClaim.holds_of_wide 8 Tryz.f8 rfl rfl rfl rfl rfl rfl rfl ⟨rfl, rfl, rfl, rfl, rfl⟩ rfl rfl rfl rfl rfl (by kernel_rfl) Tryz.func8 (by kernel_rfl)
    (of_decide_eq_true (by kernel_rfl)) (by unfold Func.isWrapper; first | (rw [if_pos (by decide +kernel)]; kernel_rfl) | (rw [if_neg (by decide +kernel)]; exact ⟨rfl, rfl⟩))
    (fun os started H enc _ => lifted os started H enc)
theorem proved : Rows.WalHoldsCardSaid :=
  Claim7.holds_tied_plain_at .later [] [.data, .data, .data, .sentinel, .sentinel] true Rows.walHoldsCard.stood.harness true
    said (fun _ h => by cases h) (by kernel_rfl) (fun _ h => by cases h) walHolds_row_tie rfl ⟨rfl, rfl⟩ (by kernel_rfl) rfl
    (fun f fn hf hfn => by
      obtain rfl : f = 8 := Option.some.inj ((show Tryz.prog.funcNamed Rows.walHoldsRow.func = some 8 by kernel_rfl).symm.trans hf) |>.symm
      obtain rfl : fn = Tryz.f8 := (Option.some.inj (Tryz.func8.symm.trans hfn)).symm
      exact ⟨by kernel_rfl, fun j t ht => by
        rw [Tryz.params8] at ht
        have hm : t ∈ [3, 22] := by simpa using Array.mem_of_getElem? ht
        have hall : ([3, 22].all fun u => !Tryz.prog.wantsStandIn u) = true := by kernel_rfl
        exact (show Tryz.prog.wantsStandIn t = false by simpa using List.all_eq_true.1 hall t hm)⟩)
    (by kernel_rfl)
#print axioms proved
end Go.Proofs.YtjcikhacekmcfaaGreatDoor.lawWalHolds
