import Derived.Test.YtphclpjekpdifaaTg
namespace Go.Proofs.Ytphclpjekpdifaa
set_option maxRecDepth 20000
open Go.RowKit
open SP
open Go.Proofs.Ytphclpjekpdifaa.Nm (str)
open Wi (RetBelow)
set_option linter.unusedVariables false
/-! ### the sessions' numbers told -/
def DI : CT Int := ⟨fun n => [.int .i64 n], 1, 2, 45, .int .i64 0, 8, fun _ => rfl, fun x u h => by simp only [List.mem_cons, List.not_mem_nil, or_false] at h; subst h; rfl, by omega, by omega, by rfl, by omega, by kernel_rfl, Try.underlying45⟩
theorem meas_lt {j N : Nat} (h : j < N) : N - (intOf (.int .i64 ((j + 1 : Nat) : Int))).toNat < N - (intOf (.int .i64 (j : Int))).toNat := by simp only [intOf]; omega
set_option maxHeartbeats 4000000 in
theorem ids_at {w : World} {b : Nat} {T : Tb} {v : Value} {S : Nat → Prop} (h : TAt w b T v S) (hI : Inv T) : Calls Try.prog 15 #[.pointer (some ⟨b, 0, none⟩)] w fun e w' => ∃ u, e = .returned u ∧ Own DI w' w.heap.size u (ids T) ∧ Below w.heap.size w w' := by
  have hlen := hI.len
  have H := Lib.hid h
  obtain ⟨A, cap, hv, _, hcap, hcm, _⟩ := h.row.form
  obtain ⟨c0, c1, c2, _⟩ := tcells h.box
  have hbl := h.lt b h.own
  have HIL : Hid ((ids T).length = T.L.length) := Lib.hid (by unfold ids; rw [List.length_map])
  have HIG : Hid (∀ (j : Nat) (s : Ses), T.L[j]? = some s → (ids T)[j]? = some s.id) := Lib.hid fun j s q => by unfold ids; rw [List.getElem?_map, q]; rfl
  rw [hv] at c2
  generalize ids T = LI at *
  generalize hn : T.L.length = n at *
  have HN := Lib.hid hn
  have HV := Lib.hid hv
  clear h hI hn hv
  go_enter Try.func15, Try.ntmps15
  go_wp2_with fail
  clear c0 c1 c2
  go_loopw [3, 5, 13] (fun rV _ iV wr => ∃ (u : Value) (j : Nat), u = rV ∧ j ≤ n ∧ iV = .int .i64 j ∧ Own DI wr w.heap.size u (LI.take j) ∧ Below w.heap.size w wr) (fun _ _ iV _ => n - (intOf iV).toNat)
  case atStart => exact ⟨_, 0, rfl, Nat.zero_le _, rfl, Own.nil _ _ _, Below.refl _ _⟩
  case round =>
    obtain ⟨u, j, rfl, hj, rfl, hown, hbw⟩ := hrel
    have HBW := Lib.hid hbw
    have HO := Lib.hid hown
    clear hown hbw
    by_cases hlt : j < n
    · obtain ⟨s, hs⟩ : ∃ s, T.L[j]? = some s := ⟨_, List.getElem?_eq_getElem (by have := HN.out; omega)⟩
      have HLT := Lib.hid hlt
      have i1 : (j : Int) < (n : Int) := by omega
      obtain ⟨g, cp, hsl, ho, hg1, hcs⟩ := (H.out.below HBW.out).cells hs
      obtain ⟨g2, _, _, ho2, hg2, _⟩ := H.out.cells hs
      obtain rfl : g = g2 := by rw [ho] at ho2; injection ho2
      rw [HV.out] at hsl
      injection hsl with hA hLL hcp
      clear hLL
      subst hcp
      subst hA
      have e0 : wr.cell? ⟨g, j * 9, none⟩ = some (.int .i64 s.id) := (hcs 0 _ rfl).1
      have e1 := (hcs 1 _ rfl).1
      have e2 := (hcs 2 _ rfl).1
      have e3 := (hcs 3 _ rfl).1
      have e4 := (hcs 4 _ rfl).1
      have e5 := (hcs 5 _ rfl).1
      have e6 := (hcs 6 _ rfl).1
      have e7 := (hcs 7 _ rfl).1
      have e8 := (hcs 8 _ rfl).1
      have HST : Hid (LI.take (j + 1) = LI.take j ++ [s.id]) := Lib.hid (by rw [List.take_add_one, HIG.out j s hs]; rfl)
      have HFL : Hid ((LI.take j).length ≤ 1000) := Lib.hid (by rw [List.length_take, HIL.out]; omega)
      have HSZ := Lib.hid HBW.out.size
      clear hcs hs ho ho2 hg2
      obtain ⟨sid, sq, ⟨re, rs, ra, rb, rc, rn⟩, su⟩ := s
      dsimp only at *
      have B2 := Lib.hid (below_2 wr (.cells #[.int .i64 sid, .int .i64 sq, .int .i64 re, .string rs, .int .i64 ra, .int .i64 rb, .int .i64 rc, .int .i64 rn, .int .i64 su] 52) (.cells #[.int .i64 sid] 2))
      have K2 : Hid (((wr.alloc (.cells #[.int .i64 sid, .int .i64 sq, .int .i64 re, .string rs, .int .i64 ra, .int .i64 rb, .int .i64 rc, .int .i64 rn, .int .i64 su] 52)).alloc (.cells #[.int .i64 sid] 2)).heap[wr.heap.size + 1]? = some (.cells #[.int .i64 sid] 2 (0, 0))) := Lib.hid (by rw [show wr.heap.size + 1 = (wr.alloc (.cells #[.int .i64 sid, .int .i64 sq, .int .i64 re, .string rs, .int .i64 ra, .int .i64 rb, .int .i64 rc, .int .i64 rn, .int .i64 su] 52)).heap.size from by simp]; exact heap_alloc_new _ _)
      have O2 := Lib.hid (HO.out.below B2.out)
      have R2 := Lib.hid (Rws.box (D := DI) (x := sid) K2.out)
      go_wp2_with (at_builtin; (refine wp_appX DI rfl (.tmp 17) (.tmp 20) rfl w.heap.size u (LI.take j) rfl O2.out (some ⟨wr.heap.size + 1, 0, none⟩) 1 1 _ [sid] rfl (fun h => by cases h) R2.out rfl (Nat.le_refl _) ?hln ?hbs ?_))
      case hln => have := HFL.out; show _ + 1 ≤ _; omega
      case hbs => have := HSZ.out; have := B2.out.size; omega
      intro v2 w3 own2 grow2 blk2
      have A1 := Lib.hid own2
      have B1 := Lib.hid ((HBW.out.trans (B2.out.mono HSZ.out)).grown grow2 (by have := HSZ.out; have := B2.out.size; omega) (fun q hq => (HO.out.lt hq).1))
      clear own2 grow2 blk2
      go_wp2_with fail
      go_roundw
      case rel => exact ⟨v2, j + 1, rfl, Nat.succ_le_of_lt HLT.out, by go_num, by rw [HST.out]; exact A1.out, B1.out⟩
      case measure => exact meas_lt HLT.out
    · go_wp2_with fail
      obtain ⟨A2, C2, e2, _⟩ := HO.out.form
      go_ret
      refine ⟨u, rfl, ?_, HBW.out⟩
      have : LI.take j = LI := List.take_of_length_le (by have := HIL.out; omega)
      have ho := HO.out
      rw [this] at ho
      exact ho
end Go.Proofs.Ytphclpjekpdifaa
