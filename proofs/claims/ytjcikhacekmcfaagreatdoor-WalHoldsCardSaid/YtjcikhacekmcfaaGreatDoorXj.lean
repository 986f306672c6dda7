import Derived.BigRegionIn
import Derived.RangeFuncBox
import Derived.RangeFuncLeaves
import Derived.Shelf.Abstract
import Derived.WalkKit
import Derived.OwnWalkIn
import Derived.TacticsInMore
import Derived.LoopNIn
import Derived.LoopIn
import Derived.Maps.AppendAt
import Derived.Test.YtjcikhacekmcfaaGreatDoorOg
namespace Go.Proofs.YtjcikhacekmcfaaGreatDoor
open Go.RowKit Go.Shelf
set_option linter.unusedVariables false
set_option maxRecDepth 100000

attribute [local go_sem] Oper.semAt_some

/-! ### the pieces of a text: slices.Chunk and slices.Collect -/
def pc (L k : Nat) : Nat × Nat := (k * 4096, min 4096 (L - k * 4096))
def pcs (L k : Nat) : List (Nat × Nat) := (List.range k).map (pc L)
def pcN (L : Nat) : Nat := (L + 4095) / 4096
def pcV (b : Nat) (x : Nat × Nat) : Value := .slice (some ⟨b, x.1, none⟩) x.2 x.2
theorem pcs_succ (L k : Nat) : pcs L (k + 1) = pcs L k ++ [pc L k] := by simp [pcs, List.range_succ]
theorem pcs_length (L k : Nat) : (pcs L k).length = k := by simp [pcs]
theorem slice_pc (b L c i m : Nat) (h : i + m ≤ L) (hm : 0 < m) (hc : L ≤ c) (W : World) :
    (Instr.slice 60 (.slice (some ⟨b, 0, none⟩) L c) (some (.int .i64 (i : Nat))) (some (.int .i64 ((i : Int) + (m : Int)))) (some (.int .i64 ((i : Int) + (m : Int))))).run Tryz.prog W = .ok (.slice (some ⟨b, i, none⟩) m m) W := by
  have h0 : (0 : Int) ≤ (i : Int) := by omega
  have h1 : (0 : Int) ≤ (i : Int) + (m : Int) := by omega
  have h2 : (i : Int) ≤ (i : Int) + (m : Int) := by omega
  have h3 : (i : Int) + (m : Int) ≤ (c : Int) := by omega
  go_simp
  exact ⟨fun q => by omega, by omega⟩
theorem slice_fromC (b L c i : Nat) (h : i < L) (hc : L ≤ c) (W : World) :
    (Instr.slice 60 (.slice (some ⟨b, 0, none⟩) L c) (some (.int .i64 (i : Nat))) none none).run Tryz.prog W = .ok (.slice (some ⟨b, i, none⟩) (L - i) (c - i)) W := by
  have h0 : (0 : Int) ≤ (i : Int) := by omega
  have h2 : (i : Int) ≤ (L : Int) := by omega
  have h3 : (L : Int) ≤ (c : Int) := by omega
  go_simp
  omega
set_option maxHeartbeats 2000000 in
theorem chunk1_in (F : Fence) (n : Nat) (hf : F.fn 165) (hro : F.round = none) (hn : 1 ≤ n) (l Bs Bn n₀ b L cap : Nat) (hL : L ≤ cap) (hcap : cap ≤ 9223372036854775807) (hL2 : L ≤ 1000000) (hBs0 : Bs < n₀) (hBn0 : Bn < n₀) (J Jx : List (Nat × Nat) → World → Prop) (hJd : ∀ pre W, J pre W → J pre W.drew)
    (hY : ∀ pre x W, J pre W → pre.length < pcN L → YieldAt F (n - 1) Tryz.prog l #[pcV b x] W fun e W' =>
      (e = .returned (.bool true) ∧ J (pre ++ [x]) W' ∧ Below n₀ W W') ∨ (e = .returned (.bool false) ∧ Jx (pre ++ [x]) W'))
    (W : World) (hBs : W.cell? ⟨Bs, 0, none⟩ = some (.slice (some ⟨b, 0, none⟩) L cap)) (hBn : W.cell? ⟨Bn, 0, none⟩ = some (.int .i64 4096)) (h0 : J [] W) :
    CallsIn F n Tryz.prog 165 #[.func (.yield l) #[] #[], .pointer (some ⟨Bs, 0, none⟩), .pointer (some ⟨Bn, 0, none⟩)] W fun e W' => (∃ v, e = .returned v) ∧
      ((∃ ys, ys = pcs L (pcN L) ∧ J ys W') ∨ (∃ pre, (∃ k, k ≤ pcN L ∧ pre = pcs L k) ∧ Jx pre W')) := by
  refine callsIn_of_wp Tryz.func165 rfl hf ?_ hro
  simp only [Tryz.ntmps165, List.size_toArray, List.length_cons, List.length_nil, Nat.reduceAdd, Nat.reduceSub, Array.replicate_succ, Array.replicate_zero, List.push_toArray, List.append_toArray, List.nil_append, List.cons_append]
  gi_wp2
  gi_loopw [4] (fun i wr => ∃ k : Nat, k ≤ pcN L ∧ i = .int .i64 ((k * 4096 : Nat) : Int) ∧ J (pcs L k) wr ∧ Below n₀ W wr)
    (fun i _ => L - (intOf i).toNat)
  case atStart => exact ⟨0, Nat.zero_le _, rfl, h0, Below.refl _ _⟩
  case round =>
    obtain ⟨k, hk, rfl, hJs, hnx⟩ := hrel
    have hs := (hnx.cell (p := ⟨Bs, 0, none⟩) hBs0).trans hBs
    have hnn := (hnx.cell (p := ⟨Bn, 0, none⟩) hBn0).trans hBn
    by_cases hlt : k * 4096 < L
    · have hkN : k < pcN L := by unfold pcN; omega
      obtain ⟨fn, tmps, assign, body, hy, hR⟩ := hY _ (pc L k) wr.drew (hJd _ _ hJs) (by rw [pcs_length]; exact hkN)
      unfold pcV pc at hy
      dsimp only at hy
      obtain ⟨i, hi⟩ : ∃ i, i = k * 4096 := ⟨_, rfl⟩
      have HI := Lib.hid hi
      rw [← hi] at hlt hy ⊢
      obtain ⟨m, hm⟩ : ∃ m, m = min 4096 (L - i) := ⟨_, rfl⟩
      have HM := Lib.hid hm
      rw [← hm] at hy
      have hm0 : 0 < m := by omega
      have him : i + m ≤ L := by omega
      have hmin : min (4096 : Int) ((L - i : Nat) : Int) = (m : Int) := by omega
      have hsl := slice_pc b L cap i m him hm0 hL
      have hsf := slice_fromC b L cap i hlt hL
      have hlt2 : (i : Int) < (L : Int) := by omega
      have hwm : IntKind.i64.wrap ((i : Int) + (m : Int)) = (i : Int) + (m : Int) := IntWalk.i64_in _ (by omega)
      have hwn : IntKind.i64.wrap ((i : Int) + 4096) = (i : Int) + 4096 := IntWalk.i64_in _ (by omega)
      clear hi hm
      gi_wp2
      rename_i K hK
      have HK : K { tmps := #[.func (.yield l) #[] #[], .pointer (some ⟨Bs, 0, none⟩), .pointer (some ⟨Bn, 0, none⟩), undef, .int .i64 i, .int .i64 m, .int .i64 i, .slice (some ⟨b, 0, none⟩) L cap, .int .i64 L, .bool true, u10, u11, u12, .int .i64 4096, .slice (some ⟨b, 0, none⟩) L cap, .int .i64 i, .slice (some ⟨b, i, none⟩) (L - i) (cap - i), .int .i64 ((L - i : Nat) : Int), .int .i64 m, u19, u20, u21, u22, u23, u24, u25, u26, u27, u28, u29, u30], defers := [] } wr.drew := by
        refine hK _ _ ?_
        gi_wp2
        refine hR.mono ?_
        rintro e W3 (⟨rfl, hJ3, hk3⟩ | ⟨rfl, hJx3⟩)
        · have hnx3 := (hnx.trans (Below.refl n₀ wr).drew).trans hk3
          have hnn3 := (hnx3.cell (p := ⟨Bn, 0, none⟩) hBn0).trans hBn
          gi_wp2
          go_roundw
          case rel => exact ⟨k + 1, by omega, by rw [HI.out]; congr 1; omega, by rw [pcs_succ]; exact hJ3, hnx3⟩
          case measure => simp [intOf]; omega
        · gi_wp2
          refine bodyPost_ret (results_none rfl _ _ _) rfl ?_
          exact ⟨⟨_, rfl⟩, .inr ⟨_, ⟨k + 1, by omega, (pcs_succ _ _).symm⟩, hJx3⟩⟩
      clear hK hR hy
      gi_region
      all_goals exact HK
    · have hkN : k = pcN L := by unfold pcN at hk ⊢; omega
      have hle : (L : Int) ≤ (k : Int) * 4096 := by omega
      subst hkN
      gi_wp2
      go_end0
      exact ⟨⟨_, rfl⟩, .inl ⟨_, rfl, hJs⟩⟩
end Go.Proofs.YtjcikhacekmcfaaGreatDoor
