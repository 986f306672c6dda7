import Derived.Test.YtjcikhacekmcfaaGreatDoorZg
import Derived.Test.YtjcikhacekmcfaaGreatDoorZi
/- Plain: an act's step, and a round of WalHolds. -/
namespace Go.Proofs.YtjcikhacekmcfaaGreatDoor
open PlainDisk (File Disk)
open PWal (St Ent Chg)
set_option linter.unusedVariables false
set_option maxRecDepth 20000
def stepA (D : Disk) (s : St) (x : WAct) : Disk × St × Int :=
  if x.kind = 0 then PWal.vote D s x.term x.n
  else if x.kind = 1 then PWal.append D s (placeP x.frm s.last) x.e
  else if x.kind = 2 then ((PWal.sync D).1, s, (PWal.sync D).2)
  else if x.kind = 3 then PWal.snapshot D s (placeP x.si s.last) x.st x.sd
  else (D, s, 0)
section
variable {D : Disk} {s : St} {vs : List Bs} {qs : List (Nat × List Bs)}
theorem step_rep (h : Rep D s vs qs) (x : WAct) : ∃ vs' qs', Rep (stepA D s x).1 (stepA D s x).2.1 vs' qs' := by
  unfold stepA
  split
  · obtain ⟨D', s', e, vs', e1, r⟩ := votes_rep h x.term x.n
    rw [e1]; exact ⟨vs', qs, r⟩
  split
  · obtain ⟨D', s', e, qs', e1, r⟩ := append_rep h (placeP x.frm s.last) x.e
    rw [e1]; exact ⟨vs, qs', r⟩
  split
  · obtain ⟨D', e1, r, _⟩ := sync_rep h
    rw [e1]; exact ⟨vs, qs, r⟩
  split
  · obtain ⟨D', s', e, qs', e1, r⟩ := snapshot_rep h (placeP x.si s.last) x.st x.sd
    rw [e1]; exact ⟨vs, qs', r⟩
  · exact ⟨vs, qs, h⟩
theorem apply_log (c : Chg) (s : St) : (PWal.apply c s).log.length ≤ s.log.length + 1 := by
  unfold PWal.apply
  simp only [List.length_append, List.length_take]
  split
  · simp only [List.length_cons, List.length_nil]; omega
  · simp only [List.length_nil]; omega
theorem puts_log : ∀ (l : List Ent) (i : Int) (D : Disk) (s : St), (PWal.puts l i D s).2.1.log.length ≤ s.log.length + l.length := by
  intro l
  induction l with
  | nil => intro i D s; exact Nat.le_add_right _ _
  | cons a r ih =>
    intro i D s
    rw [PWal.puts]
    have := apply_log ⟨i, false, a⟩ s
    split
    · have := ih (i + 1) (PWal.write D (PWal.Chg.enc ⟨i, false, a⟩)).1 (PWal.apply ⟨i, false, a⟩ s)
      rw [List.length_cons]
      omega
    · rw [List.length_cons]; simp only; omega
theorem step_log (D : Disk) (s : St) (x : WAct) : (stepA D s x).2.1.log.length ≤ s.log.length + x.e.length := by
  unfold stepA
  split
  · unfold PWal.vote
    split
    · simp only; omega
    · simp only; split <;> (simp only; omega)
  split
  · unfold PWal.append
    split
    · exact puts_log _ _ _ _
    · simp only; omega
  split
  · simp only; omega
  split
  · have hc : (PWal.clearLog D s).2.1.log.length ≤ s.log.length := by
      unfold PWal.clearLog
      simp only
      split
      · unfold PWal.apply
        simp only [List.length_append, List.length_take]
        rw [if_neg (by simp)]
        simp only [List.length_nil]; omega
      · simp only; omega
    unfold PWal.snapshot
    split
    · simp only; omega
    split
    · simp only; omega
    simp only
    have hr : ∀ r : Disk × St × Int, r.2.1.log.length ≤ s.log.length → (if r.2.2 = 0 then
            if (PWal.replace r.1 PWal.snapN PWal.snapNewN (PWal.snapRec (placeP x.si s.last) x.st x.sd)).2 = 0 then
              ((PWal.dropOld (PWal.replace r.1 PWal.snapN PWal.snapNewN (PWal.snapRec (placeP x.si s.last) x.st x.sd)).1 (placeP x.si s.last)).1, ({ r.2.1 with sidx := placeP x.si s.last, sterm := x.st, sdata := x.sd, log := PWal.above r.2.1 (placeP x.si s.last) } : St), (PWal.dropOld (PWal.replace r.1 PWal.snapN PWal.snapNewN (PWal.snapRec (placeP x.si s.last) x.st x.sd)).1 (placeP x.si s.last)).2)
            else ((PWal.replace r.1 PWal.snapN PWal.snapNewN (PWal.snapRec (placeP x.si s.last) x.st x.sd)).1, r.2.1, (PWal.replace r.1 PWal.snapN PWal.snapNewN (PWal.snapRec (placeP x.si s.last) x.st x.sd)).2)
          else r).2.1.log.length ≤ s.log.length + x.e.length := by
      intro r hr
      split
      · split
        · unfold PWal.above; simp only [List.length_drop]; omega
        · simp only; omega
      · omega
    refine hr _ ?_
    split
    · exact Nat.le_refl _
    · exact hc
  · simp only; omega
theorem Rep.sidx1 (h : Rep D s vs qs) : s.sidx ≤ 4611686018427387904 := by
  rcases h.snap with ⟨_, q, _⟩ | ⟨q, _⟩
  · omega
  · unfold PWal.snapOf at q
    split at q
    · cases q
    · split at q
      · split at q
        · rename_i hh
          simp only [Option.some.injEq, Prod.mk.injEq] at q
          have := mayBe_is hh.1
          omega
        · cases q
      · cases q
end
end Go.Proofs.YtjcikhacekmcfaaGreatDoor
