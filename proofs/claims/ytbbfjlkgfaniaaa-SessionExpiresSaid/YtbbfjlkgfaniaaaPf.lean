import Derived.Test.YtbbfjlkgfaniaaaPb
namespace Go.Proofs.Ytbbfjlkgfaniaaa.SP
set_option linter.unusedVariables false
/-! ### one session alone: used, let be, ended (plain) -/
/-- one session, of number id, which executed q last, k ticks ago -/
def Lone (T : Tb) (id q k : Int) : Prop := ∃ s, T.L = [s] ∧ s.id = id ∧ s.seq = q ∧ T.clk - s.u = k ∧ T.lst = id
theorem lone_tick {T : Tb} {id q k : Int} (h : Lone T id q k) (hc : T.clk < M) : Lone (tick T) id q (k + 1) ∧ (tick T).clk = T.clk + 1 := by
  obtain ⟨s, h1, h2, h3, h4, h5⟩ := h
  unfold tick
  rw [if_pos hc]
  exact ⟨⟨s, h1, h2, h3, by show T.clk + 1 - s.u = k + 1; omega, h5⟩, rfl⟩
theorem lone_stay {T : Tb} {id q k n : Int} (h : Lone T id q k) (hn : 0 < n) (hk : k < n) : expire T n = (T, 0) := by
  obtain ⟨s, h1, h2, h3, h4, h5⟩ := h
  have ho : old T n s = false := by unfold old; simp; omega
  have hL : keptL T n = T.L := by unfold keptL; rw [h1]; simp [ho]
  unfold expire
  rw [hL]
  cases T
  simp
theorem lone_gone {T : Tb} {id q k n : Int} (h : Lone T id q k) (hn : 0 < n) (hk : n ≤ k) : expire T n = (⟨T.clk, T.lst, []⟩, 1) := by
  obtain ⟨s, h1, h2, h3, h4, h5⟩ := h
  have ho : old T n s = true := by unfold old; simp; omega
  have hL : keptL T n = [] := by unfold keptL; rw [h1]; simp [ho]
  unfold expire
  rw [hL, h1]
  rfl
theorem none_check (c l id q : Int) : check ⟨c, l, []⟩ id q = (3, rE 20) := rfl
theorem none_reg {c l : Int} (h : l < M) : reg ⟨c, l, []⟩ = (⟨c, l + 1, [⟨l + 1, 0, r0, c⟩]⟩, l + 1, 0) := by
  unfold reg
  rw [if_neg (by simp; omega)]
  rfl
theorem lone_new (c l : Int) : Lone ⟨c, l + 1, [⟨l + 1, 0, r0, c⟩]⟩ (l + 1) 0 0 := ⟨_, rfl, rfl, rfl, by show c - c = 0; omega, rfl⟩
theorem lone_done {T : Tb} {id q k : Int} (h : Lone T id q k) (hq : 0 ≤ q) (hM : q < M) : (done T id (q + 1) ⟨0, ⟨#[]⟩, 0, 0, 0, q + 1⟩).2 = 0 ∧ Lone (done T id (q + 1) ⟨0, ⟨#[]⟩, 0, 0, 0, q + 1⟩).1 id (q + 1) 0 ∧ (done T id (q + 1) ⟨0, ⟨#[]⟩, 0, 0, 0, q + 1⟩).1.clk = T.clk := by
  obtain ⟨s, h1, h2, h3, h4, h5⟩ := h
  have hf : findS T.L id = some s := by unfold findS; rw [h1]; simp [h2]
  have hv : verd s.seq (q + 1) = 1 := by
    unfold verd
    rw [h3, if_neg (by omega), if_neg (by omega), if_pos rfl]
  have hp : mayP ⟨0, ⟨#[]⟩, 0, 0, 0, q + 1⟩ = true := rfl
  have hd : done T id (q + 1) ⟨0, ⟨#[]⟩, 0, 0, 0, q + 1⟩ = ({ T with L := setS T.L (did T s (q + 1) ⟨0, ⟨#[]⟩, 0, 0, 0, q + 1⟩) }, 0) := by
    unfold done
    rw [hf]
    dsimp only
    rw [if_neg (by omega), if_pos hp]
  have hx : did T s (q + 1) ⟨0, ⟨#[]⟩, 0, 0, 0, q + 1⟩ = ⟨s.id, q + 1, ⟨0, ⟨#[]⟩, 0, 0, 0, q + 1⟩, T.clk⟩ := by unfold did; rw [if_pos hv]
  have hS : setS T.L ⟨s.id, q + 1, ⟨0, ⟨#[]⟩, 0, 0, 0, q + 1⟩, T.clk⟩ = [⟨s.id, q + 1, ⟨0, ⟨#[]⟩, 0, 0, 0, q + 1⟩, T.clk⟩] := by unfold setS; rw [h1]; simp
  rw [hd, hx, hS]
  exact ⟨rfl, ⟨_, rfl, h2, rfl, by show T.clk - T.clk = 0; omega, h5⟩, rfl⟩
end Go.Proofs.Ytbbfjlkgfaniaaa.SP
