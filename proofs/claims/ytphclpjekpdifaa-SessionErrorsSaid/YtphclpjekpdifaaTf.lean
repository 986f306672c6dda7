import Derived.Test.YtphclpjekpdifaaTe
import Derived.Deep.RegionLaw
namespace Go.Proofs.Ytphclpjekpdifaa
set_option maxRecDepth 20000
open Go.RowKit
open SP
open Go.Proofs.Ytphclpjekpdifaa.Nm (str)
open Wi (RetBelow)
set_option linter.unusedVariables false
/-! ### a session begins -/
set_option maxHeartbeats 2000000 in
theorem reg_any {w : World} {b : Nat} {T : Tb} {S : Nat → Prop} (h : Tab w b T S) (hI : Inv T) : Calls Try.prog 11 #[.pointer (some ⟨b, 0, none⟩)] w fun e w' => e = .returned (.tuple #[.int .i64 (reg T).2.1, .int .i64 (reg T).2.2]) ∧ TabTo w w' b (reg T).1 S := by
  have HT := Lib.hid h
  obtain ⟨v, h⟩ := h
  obtain ⟨c0, c1, c2, f0, f1, f2⟩ := tcells h.box
  have H := Lib.hid h
  have h2 := hI.l2
  have h1 := hI.l1
  have hlen := hI.len
  obtain ⟨A, cap, hv, _, hcap, hcm, _⟩ := h.row.form
  have HRG : Hid (reg T = if 32 ≤ T.L.length ∨ M ≤ T.lst then (T, 0, 3) else (⟨T.clk, T.lst + 1, T.L ++ [⟨T.lst + 1, 0, r0, T.clk⟩]⟩, T.lst + 1, 0)) := Lib.hid rfl
  have HM : Hid ((M : Int) = 4611686018427387904) := Lib.hid rfl
  clear h
  by_cases hL : 32 ≤ T.L.length
  · rw [if_pos (.inl hL)] at HRG
    have g1 : decide (32 ≤ (T.L.length : Int)) = true := by simp; omega
    have g2 : decide (32 ≤ T.L.length) = true := by simp; omega
    rw [hv] at c2
    generalize T.L.length = n at *
    go_enter Try.func11, Try.ntmps11
    go_wp2_with fail
    go_ret2
    rw [HRG.out]
    exact ⟨rfl, HT.out.to (Below.refl _ _)⟩
  · have g1 : decide (32 ≤ (T.L.length : Int)) = false := by simp; omega
    have g2 : decide (32 ≤ T.L.length) = false := by simp; omega
    by_cases hm : 4611686018427387904 ≤ T.lst
    · rw [if_pos (.inr (by rw [HM.out]; exact hm))] at HRG
      have g3 : decide (4611686018427387904 ≤ T.lst) = true := by simpa using hm
      rw [hv] at c2
      generalize T.L.length = n at *
      generalize T.lst = ls at *
      go_enter Try.func11, Try.ntmps11
      go_wp2_with fail
      go_ret2
      rw [HRG.out]
      exact ⟨rfl, HT.out.to (Below.refl _ _)⟩
    · rw [if_neg (by rw [HM.out]; omega)] at HRG
      have g3 : decide (4611686018427387904 ≤ T.lst) = false := by simpa using hm
      have HLN := Lib.hid hL
      rw [hv] at c2
      generalize hn : T.L.length = n at *
      go_enter Try.func11, Try.ntmps11
      go_wp2_with fail
      generalize hck : T.clk = ck at *
      generalize hls : T.lst = ls at *
      have HXW := Lib.hid (heap_set3 w b 1 (.int .i64 (ls + 1)) _ _ _ _ (show w.heap[b]? = some (.cells #[.int .i64 ck, .int .i64 ls, .slice A n cap] 49 (0, 0)) by rw [← hv, ← hck, ← hls]; exact H.out.box))
      have HOW : Hid (Own DS (w.setCell ⟨b, 1, none⟩ (.int .i64 (ls + 1))) 0 (.slice A n cap) T.L) := Lib.hid (by rw [← hv]; exact H.out.row.keep fun g hg => Below.heap_setCell _ _ _ g (H.out.ne g hg))
      have HFW : Hid (Fr S w (w.setCell ⟨b, 1, none⟩ (.int .i64 (ls + 1)))) := Lib.hid ((Fr.refl S w).setCell (.inl H.out.own) _)
      have HSW : Hid ((w.setCell ⟨b, 1, none⟩ (.int .i64 (ls + 1))).heap.size = w.heap.size) := Lib.hid (by simp [World.setCell])
      have HBL : Hid (b < (w.setCell ⟨b, 1, none⟩ (.int .i64 (ls + 1))).heap.size) := Lib.hid (by rw [HSW.out]; exact H.out.lt b H.out.own)
      have HOB : Hid (∀ g, (Value.slice A n cap).ownBlock = some g → S g ∧ g ≠ b ∧ g < w.heap.size) := Lib.hid fun g hg => (by rw [← hv] at hg; exact ⟨H.out.ov g hg, H.out.ne g hg, H.out.lt g (H.out.ov g hg)⟩)
      have HN := Lib.hid hn
      have HBD : ∀ X : World, (Instr.build 52 #[(0, .int .i64 (ls + 1)), (3, .int .i64 ck)]).run Try.prog X = .ok (.agg #[.int .i64 (ls + 1), .int .i64 0, .int .i64 0, .string ⟨#[]⟩, .int .i64 0, .int .i64 0, .int .i64 0, .int .i64 0, .int .i64 ck]) X := fun X => run_build X 52 _ _ (by kernel_rfl)
      generalize w.setCell ⟨b, 1, none⟩ (.int .i64 (ls + 1)) = W at *
      simp only [List.setIfInBounds_toArray, List.set_cons_zero, List.set_cons_succ] at HXW
      obtain ⟨d0, d1, d2, p0, p1, p2⟩ := tcells HXW.out
      have hlt := HBL.out
      have K1 : Hid ((W.alloc (.cells #[.int .i64 (ls + 1), .int .i64 0, .int .i64 0, .string ⟨#[]⟩, .int .i64 0, .int .i64 0, .int .i64 0, .int .i64 0, .int .i64 ck] 52)).drew.heap[W.heap.size]? = some (.cells #[.int .i64 (ls + 1), .int .i64 0, .int .i64 0, .string ⟨#[]⟩, .int .i64 0, .int .i64 0, .int .i64 0, .int .i64 0, .int .i64 ck] 52 (0, 0))) := Lib.hid (heap_alloc_new W _)
      have B1 : Hid (Below W.heap.size W (W.alloc (.cells #[.int .i64 (ls + 1), .int .i64 0, .int .i64 0, .string ⟨#[]⟩, .int .i64 0, .int .i64 0, .int .i64 0, .int .i64 0, .int .i64 ck] 52)).drew) := Lib.hid ((Below.refl _ W).alloc (Nat.le_refl _) _).drew
      have O1 : Hid (Own DS (W.alloc (.cells #[.int .i64 (ls + 1), .int .i64 0, .int .i64 0, .string ⟨#[]⟩, .int .i64 0, .int .i64 0, .int .i64 0, .int .i64 0, .int .i64 ck] 52)).drew 0 (.slice A n cap) T.L) := Lib.hid (HOW.out.below B1.out)
      have R1 : Hid (Rws DS (W.alloc (.cells #[.int .i64 (ls + 1), .int .i64 0, .int .i64 0, .string ⟨#[]⟩, .int .i64 0, .int .i64 0, .int .i64 0, .int .i64 0, .int .i64 ck] 52)).drew (W.alloc (.cells #[.int .i64 (ls + 1), .int .i64 0, .int .i64 0, .string ⟨#[]⟩, .int .i64 0, .int .i64 0, .int .i64 0, .int .i64 0, .int .i64 ck] 52)).drew.heap.size (some ⟨W.heap.size, 0, none⟩) [⟨ls + 1, 0, r0, ck⟩]) := Lib.hid (Rws.box (D := DS) (x := ⟨ls + 1, 0, r0, ck⟩) K1.out)
      have N1 : Hid (T.L.length + 1 ≤ 1000000) := Lib.hid (by have := HN.out; omega)
      have S1 : Hid (0 ≤ (W.alloc (.cells #[.int .i64 (ls + 1), .int .i64 0, .int .i64 0, .string ⟨#[]⟩, .int .i64 0, .int .i64 0, .int .i64 0, .int .i64 0, .int .i64 ck] 52)).drew.heap.size) := Lib.hid (Nat.zero_le _)
      have ST : Hid (∀ v3 w3, Own DS w3 0 v3 (T.L ++ [⟨ls + 1, 0, r0, ck⟩]) → (W.alloc (.cells #[.int .i64 (ls + 1), .int .i64 0, .int .i64 0, .string ⟨#[]⟩, .int .i64 0, .int .i64 0, .int .i64 0, .int .i64 0, .int .i64 ck] 52)).drew.grownBy w3 (Value.slice A n cap).ownBlock → (v3.ownBlock = (Value.slice A n cap).ownBlock ∨ v3.ownBlock = some (W.alloc (.cells #[.int .i64 (ls + 1), .int .i64 0, .int .i64 0, .string ⟨#[]⟩, .int .i64 0, .int .i64 0, .int .i64 0, .int .i64 0, .int .i64 ck] 52)).drew.heap.size) → w3.heap[b]? = some (.cells #[.int .i64 ck, .int .i64 (ls + 1), .slice A n cap] 49 (0, 0)) ∧ TabTo w (w3.setCell ⟨b, 2, none⟩ v3) b ⟨ck, ls + 1, T.L ++ [⟨ls + 1, 0, r0, ck⟩]⟩ S) := Lib.hid fun v3 w3 own3 grow3 blk3 => by
        have hb3 : w3.heap[b]? = some (.cells #[.int .i64 ck, .int .i64 (ls + 1), .slice A n cap] 49 (0, 0)) := (grow3.block b (Nat.lt_of_lt_of_le HBL.out B1.out.size) (fun e => (HOB.out b e.symm).2.1 rfl)).trans ((B1.out.block b HBL.out).trans HXW.out)
        have hf3 : Fr S w w3 := (HFW.out.trans (Fr.of_below (S := S) B1.out) fun i q => .inl q).grown grow3 fun k hk => .inl (HOB.out k hk).1
        have hsz : (W.alloc (.cells #[.int .i64 (ls + 1), .int .i64 0, .int .i64 0, .string ⟨#[]⟩, .int .i64 0, .int .i64 0, .int .i64 0, .int .i64 0, .int .i64 ck] 52)).drew.heap.size = W.heap.size + 1 := by simp [World.drew]
        have hs3 := grow3.size
        have hv3 : ∀ k, v3.ownBlock = some k → S k ∨ W.heap.size < k := fun k hk => by
          rcases blk3 with e | e
          · exact .inl (HOB.out k (by rw [← e]; exact hk)).1
          · rw [e] at hk; injection hk with hk; exact .inr (by omega)
        have hne3 : ∀ k, v3.ownBlock = some k → k ≠ b := fun k hk => by
          rcases blk3 with e | e
          · exact (HOB.out k (by rw [← e]; exact hk)).2.1
          · rw [e] at hk; injection hk with hk; have := HBL.out; omega
        refine ⟨hb3, fun k => S k ∨ v3.ownBlock = some k, ⟨v3, ?_, ?_, .inl H.out.own, fun k hk => .inr hk, ?_, hne3⟩, ?_, hf3.setCell (.inl H.out.own) _⟩
        · rw [heap_set3 w3 b 2 v3 _ _ _ _ hb3]; rfl
        · exact own3.keep fun g hg => Below.heap_setCell _ _ _ g (hne3 g hg)
        · intro k hk
          rcases hk with q | q
          · have := H.out.lt k q; have := hf3.size; simp [World.setCell]; omega
          · have := (own3.lt q).2; simpa [World.setCell] using this
        · intro k hk
          rcases hk with q | q
          · exact .inl q
          · rcases hv3 k q with q2 | q2
            · exact .inl q2
            · exact .inr ⟨by have := HSW.out; omega, by have := (own3.lt q).2; simpa [World.setCell] using this⟩
      have HLL : Hid ((T.L ++ [(⟨ls + 1, 0, r0, ck⟩ : Ses)]).length = n + 1) := Lib.hid (by rw [List.length_append, HN.out]; rfl)
      go_region_law (first
        | ((refine step_appX DS (by rfl) (.tmp 32) (.tmp 42) (by rfl) 0 (.slice A n cap) T.L (by rfl) O1.out (some ⟨W.heap.size, 0, none⟩) 1 1 _ [⟨ls + 1, 0, r0, ck⟩] (by rfl) (fun h => by cases h) R1.out rfl (Nat.le_refl _) N1.out S1.out ?_); intro v3 w3 own3 grow3 blk3; obtain ⟨HB3, TT⟩ := ST.out v3 w3 own3.out grow3.out blk3.out; obtain ⟨A3, c3, e3, _⟩ := own3.out.form; subst e3; rw [HLL.out] at TT; have T3 := Lib.hid TT; obtain ⟨x0, x1, x2, y0, y1, y2⟩ := tcells HB3; clear own3 grow3 blk3 TT HB3))
      all_goals go_wp2_with fail
      all_goals go_ret2
      all_goals rw [HRG.out]
      all_goals exact ⟨rfl, T3.out⟩
end Go.Proofs.Ytphclpjekpdifaa
