import Derived.Test.YtphclpjekpdifaaTj
namespace Go.Proofs.Ytphclpjekpdifaa
set_option maxRecDepth 20000
open Go.RowKit
open SP
open Go.Proofs.Ytphclpjekpdifaa.Nm (str)
open Wi (RetBelow)
set_option linter.unusedVariables false
theorem index_nil (A : Option Addr) (cap P Q : Nat) (w : World) : Calls Try.prog 47 #[.slice A 0 cap, .func (.func 27) #[] #[.pointer (some ⟨P, 0, none⟩), .pointer (some ⟨Q, 0, none⟩)]] w fun e w' => e = .returned (.int .i64 (-1)) ∧ w = w' := by
  go_enter Try.func47, Try.ntmps47
  go_wp2_with fail
  go_loopw [8] (fun iV wr => iV = .int .i64 0 ∧ w = wr) (fun _ _ => 0)
  case atStart => exact ⟨rfl, rfl⟩
  case round =>
    obtain ⟨rfl, rfl⟩ := hrel
    go_wp2_with fail
    go_ret
    exact ⟨rfl, rfl⟩
theorem delete_nil (A : Option Addr) (cap P Q : Nat) (w : World) : Calls Try.prog 26 #[.slice A 0 cap, .func (.func 27) #[] #[.pointer (some ⟨P, 0, none⟩), .pointer (some ⟨Q, 0, none⟩)]] w fun e w' => e = .returned (.slice A 0 cap) ∧ w = w' := by
  go_enter Try.func26, Try.ntmps26
  go_wp2_with (go_at_call 47; (with_reducible refine (index_nil A cap P Q _).mono ?_); rintro e w1 ⟨rfl, rfl⟩)
  go_ret
  exact ⟨rfl, rfl⟩
def OwnSet (v : Value) (k : Nat) : Prop := v.ownBlock = some k
def ExpP (w : World) (b : Nat) (T : Tb) (S : Nat → Prop) (idle : Int) (e : Ending) (w' : World) : Prop := e = .returned (.int .i64 (expire T idle).2) ∧ TabTo w w' b (expire T idle).1 S
set_option maxHeartbeats 2000000 in
theorem expire_any {w : World} {b : Nat} {T : Tb} {S : Nat → Prop} (h0 : Tab w b T S) (hI : Inv T) (idle : Int) : Calls Try.prog 14 #[.pointer (some ⟨b, 0, none⟩), .int .i64 idle] w (ExpP w b T S idle) := by
  obtain ⟨v, h⟩ := h0
  have H := Lib.hid h
  have hlen := hI.len
  have hbl := h.lt b h.own
  obtain ⟨A, cap, hv, hrw, hcap, hcm, hA0⟩ := h.row.form
  have hne : ∀ k, v.ownBlock = some k → k ≠ b := h.ne
  have hol : ∀ k, v.ownBlock = some k → k < w.heap.size := fun k hk => h.lt k (h.ov k hk)
  have HB0 : Hid (Below w.heap.size w ((w.alloc (.cells #[.pointer (some ⟨b, 0, none⟩)] 29)).alloc (.cells #[.int .i64 idle] 2))) := Lib.hid (below_2 w _ _)
  have HP0 : Hid (((w.alloc (.cells #[.pointer (some ⟨b, 0, none⟩)] 29)).alloc (.cells #[.int .i64 idle] 2)).heap[w.heap.size]? = some (.cells #[.pointer (some ⟨b, 0, none⟩)] 29 (0, 0))) := Lib.hid ((Below.heap_alloc _ _ _ (by simp)).trans (heap_alloc_new _ _))
  have HQ0 : Hid (((w.alloc (.cells #[.pointer (some ⟨b, 0, none⟩)] 29)).alloc (.cells #[.int .i64 idle] 2)).heap[w.heap.size + 1]? = some (.cells #[.int .i64 idle] 2 (0, 0))) := Lib.hid (by rw [show w.heap.size + 1 = (w.alloc (.cells #[.pointer (some ⟨b, 0, none⟩)] 29)).heap.size from by simp]; exact heap_alloc_new _ _)
  have HSZ : Hid (((w.alloc (.cells #[.pointer (some ⟨b, 0, none⟩)] 29)).alloc (.cells #[.int .i64 idle] 2)).heap.size = w.heap.size + 2) := Lib.hid (by simp)
  obtain ⟨W, HW⟩ : ∃ W, Hid (W = ((w.alloc (.cells #[.pointer (some ⟨b, 0, none⟩)] 29)).alloc (.cells #[.int .i64 idle] 2))) := ⟨_, Lib.hid rfl⟩
  rw [← HW.out] at HB0 HP0 HQ0 HSZ
  have HXW : Hid (W.heap[b]? = some (.cells #[.int .i64 T.clk, .int .i64 T.lst, v] 49 (0, 0))) := Lib.hid ((HB0.out.block b hbl).trans h.box)
  have HCLK : Hid (∀ s ∈ T.L, 0 ≤ s.u ∧ s.u ≤ T.clk ∧ T.clk ≤ 4611686018427387904) := Lib.hid fun s hs => ⟨(hI.all s hs).u1, (hI.all s hs).u2, hI.c2⟩
  have HDEL : Hid (∀ X, Below W.heap.size W X → Calls Try.prog 26 #[.slice A T.L.length cap, .func (.func 27) #[] #[.pointer (some ⟨w.heap.size, 0, none⟩), .pointer (some ⟨w.heap.size + 1, 0, none⟩)]] X fun e Y => e = .returned (.slice A (keptL T idle).length cap) ∧ Own DS Y 0 (.slice A (keptL T idle).length cap) (keptL T idle) ∧ Fr (OwnSet v) X Y) := Lib.hid fun X hX => by
    have hro : Own DS X 0 v T.L := (h.row.below HB0.out).below hX
    rcases Nat.eq_zero_or_pos T.L.length with hz | hz
    · have hnil : T.L = [] := List.eq_nil_of_length_eq_zero hz
      have hk : keptL T idle = [] := by unfold keptL; rw [hnil]; rfl
      rw [hz, hk]
      refine (delete_nil A cap _ _ X).mono ?_
      rintro e Y ⟨rfl, rfl⟩
      rw [hnil] at hro
      rw [hv, hnil] at hro
      exact ⟨rfl, hro, Fr.refl _ _⟩
    · obtain ⟨g, cap', hv', _, hgl, ho⟩ := h.row.row (fun e => by rw [e] at hz; simp at hz)
      rw [hv] at hv'
      injection hv' with e1 _ e3
      subst e1 e3
      rw [hv] at hro
      have hS : ∀ k, k = g → OwnSet v k := fun k hk => by rw [hk]; exact ho
      have hgb : g ≠ b := hne g ho
      have hgw : g < w.heap.size := hol g ho
      refine (delete_any g T.L.length cap w.heap.size (w.heap.size + 1) T.L (old T idle) X hro rfl hcap (by omega) hcm (Lib.hid fun s Y hs hF => ?_)).mono ?_
      · have hz2 := HSZ.out
        have hXs := hX.size
        have k1 := (hF.block w.heap.size (by omega) (by omega)).trans ((hX.block w.heap.size (by omega)).trans HP0.out)
        have k2 := (hF.block (w.heap.size + 1) (by omega) (by omega)).trans ((hX.block (w.heap.size + 1) (by omega)).trans HQ0.out)
        have k3 := (hF.block b (by omega) (fun e => hgb e.symm)).trans ((hX.block b (by omega)).trans HXW.out)
        obtain ⟨q1, q2, q3⟩ := HCLK.out s hs
        exact clos44 w.heap.size (w.heap.size + 1) b T.clk idle s Y (cell_of_row Y _ 0 _ _ _ k1) (cell_of_row Y _ 0 _ _ _ k2) (tcells k3).1 q1 q2 q3
      · rintro e Y ⟨h1, h2, h3⟩
        exact ⟨h1, h2, h3.mono hS⟩
  have HEX : Hid (expire T idle = ({ T with L := keptL T idle }, (T.L.length : Int) - ((keptL T idle).length : Int))) := Lib.hid rfl
  have hkl : (keptL T idle).length ≤ T.L.length := List.length_filter_le _ _
  generalize keptL T idle = KL at *
  rw [hv] at HXW
  obtain ⟨c0, c1, c2, _⟩ := tcells ((show w.heap[b]? = some (.cells #[.int .i64 T.clk, .int .i64 T.lst, .slice A T.L.length cap] 49 (0, 0)) by rw [← hv]; exact h.box))
  generalize hn : T.L.length = n at *
  generalize hm : KL.length = m at *
  have HNE := Lib.hid hne
  have HOL := Lib.hid hol
  have HV := Lib.hid hv
  have HM := Lib.hid hm
  clear h hI hrw hne hol hv hm
  have hmf : ∀ (fn : Fn) (first cap : Array Value) (w : World), (Instr.makeFunc fn first cap).run Try.prog w = .ok (.func fn first cap) w := fun _ _ _ _ => rfl
  go_enter Try.func14, Try.ntmps14
  go_wp2_with fail
  rw [← HW.out]
  clear c0 c1 c2
  have HAF : Hid (∀ X Y, Below W.heap.size W X → Fr (OwnSet v) X Y → Y.heap[w.heap.size]? = some (.cells #[.pointer (some ⟨b, 0, none⟩)] 29 (0, 0)) ∧ Y.heap[b]? = some (.cells #[.int .i64 T.clk, .int .i64 T.lst, .slice A n cap] 49 (0, 0))) := Lib.hid fun X Y hX hF => by
    have hz2 := HSZ.out
    have hXs := hX.size
    exact ⟨(hF.block w.heap.size (by omega) (fun e => by have := HOL.out _ e; omega)).trans ((hX.block w.heap.size (by omega)).trans HP0.out), (hF.block b (by omega) (fun e => HNE.out b e rfl)).trans ((hX.block b (by omega)).trans HXW.out)⟩
  have HAB : ∀ k, (Value.slice A m cap).ownBlock = some k ↔ v.ownBlock = some k := fun k => by
    rw [HV.out]
    cases A <;> exact Iff.rfl
  have HAB := Lib.hid HAB
  have HEND : Hid (∀ Y, Own DS Y 0 (.slice A m cap) KL → Fr (OwnSet v) W.drew Y → TabTo w (Y.setCell ⟨b, 2, none⟩ (.slice A m cap)) b ⟨T.clk, T.lst, KL⟩ S) := Lib.hid fun Y hO hF => by
    have hY := (HAF.out W.drew Y (Below.refl _ W).drew hF).2
    have hsz := hF.size
    have hz2 := HSZ.out
    have hf2 : Fr S w (Y.setCell ⟨b, 2, none⟩ (.slice A m cap)) := (((Fr.of_below (S := S) HB0.out).drew.trans (hF.mono (S' := S) fun k hk => H.out.ov k hk) fun i q => .inl q)).setCell (.inl H.out.own) _
    refine ⟨S, ⟨.slice A m cap, ?_, ?_, H.out.own, fun k hk => H.out.ov k ((HAB.out k).1 hk), fun k hk => Nat.lt_of_lt_of_le (H.out.lt k hk) hf2.size, fun k hk => HNE.out k ((HAB.out k).1 hk)⟩, fun k hk => .inl hk, hf2⟩
    · rw [heap_set3 Y b 2 _ _ _ _ _ hY]; rfl
    · exact hO.keep fun g hg => Below.heap_setCell _ _ _ g (HNE.out g ((HAB.out g).1 hg))
  have HBX := Lib.hid (Below.refl W.heap.size W).drew
  obtain ⟨c0, c1, c2, _⟩ := tcells HXW.out
  have b0 := cell_of_row W _ 0 _ _ _ HP0.out
  go_region_with (first
    | (go_at_call 26; (with_reducible refine (HDEL.out _ HBX.out).mono ?_); rintro e w1 ⟨rfl, ho, hf⟩; have HO1 := Lib.hid ho; have HF1 := Lib.hid hf; have HA1 := Lib.hid (HAF.out _ _ HBX.out hf); obtain ⟨d0, d1, d2, f0, f1, f2⟩ := tcells HA1.out.2; have e0 := cell_of_row w1 _ 0 _ _ _ HA1.out.1; clear ho hf))
  all_goals go_wp2_with fail
  all_goals go_ret
  all_goals
    unfold ExpP
    rw [HEX.out]
    exact ⟨rfl, HEND.out _ HO1.out HF1.out⟩
end Go.Proofs.Ytphclpjekpdifaa
