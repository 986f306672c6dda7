import Derived.Test.YtjcikhacekmcfaaGreatDoorZa
/- Plain: the files that stand for a state; Open finds it. No program. -/
namespace Go.Proofs.YtjcikhacekmcfaaGreatDoor
open PlainDisk (File Disk)
open PWal (St Ent Chg voteN voteNewN snapN snapNewN)
open Fm.Fr (rcd Ok)
set_option linter.unusedVariables false
set_option maxRecDepth 20000
theorem may_names : may voteN = true ∧ may voteNewN = true ∧ may snapN = true ∧ may snapNewN = true := by decide +kernel
theorem no_segs : PWal.segNo voteN = 0 ∧ PWal.segNo voteNewN = 0 ∧ PWal.segNo snapN = 0 ∧ PWal.segNo snapNewN = 0 := by decide +kernel
theorem name_ne : voteN ≠ voteNewN ∧ voteN ≠ snapN ∧ voteN ≠ snapNewN ∧ voteNewN ≠ snapN ∧ voteNewN ≠ snapNewN ∧ snapN ≠ snapNewN := by decide +kernel
/-! ### what records make, one by one -/
def playF : List Bs → St → Option St
  | [], s => some s
  | p :: r, s => match PWal.chgOf p with
    | none => none
    | some c => if PWal.fits c s = true then playF r (PWal.apply c s) else none
theorem playF_append : ∀ (a b : List Bs) (s : St), playF (a ++ b) s = (playF a s).bind (playF b) := by
  intro a
  induction a with
  | nil => intro b s; rfl
  | cons p r ih =>
    intro b s
    simp only [List.cons_append, playF]
    cases PWal.chgOf p with
    | none => rfl
    | some c =>
      simp only
      split
      · exact ih b _
      · rfl
theorem play_replay : ∀ (l : List Bs) (s s1 : St) (g : Nat), playF l s = some s1 → PWal.replay l s g = (s1, g + (Fm.Fr.flat l).length) := by
  intro l
  induction l with
  | nil =>
    intro s s1 g h
    simp only [playF, Option.some.injEq] at h
    subst h
    rw [PWal.replay]; rfl
  | cons p r ih =>
    intro s s1 g h
    rw [playF] at h
    rw [PWal.replay]
    cases hc : PWal.chgOf p with
    | none => rw [hc] at h; cases h
    | some c =>
      rw [hc] at h
      simp only at h ⊢
      split at h
      · rename_i hf
        rw [if_pos hf, ih _ s1 _ h, Fm.Fr.flat_cons, List.length_append, Fm.Fr.rcd_length]
        congr 1
        omega
      · cases h
theorem scan_whole {ps : List Bs} (h : Ok ps) : Fm.Fr.scan (Fm.Fr.flat ps) = (ps, (Fm.Fr.flat ps).length) := by
  have := Fm.Fr.scan_flat ps h []
  rw [List.append_nil] at this
  rw [this, Fm.Fr.scan_short [] (by decide)]
  simp
theorem votes_only : ∀ (ps : List Bs) (s : St), PWal.votes ps s = { s with term := (PWal.votes ps s).term, vote := (PWal.votes ps s).vote } := by
  intro ps
  induction ps with
  | nil => intro s; rfl
  | cons p r ih =>
    intro s
    unfold PWal.votes
    rw [List.foldl_cons]
    cases hv : PWal.voteOf p with
    | none => exact ih s
    | some x => obtain ⟨t, v⟩ := x; exact ih _
/-! ### the files stand for the state -/
structure Rep (D : Disk) (s : St) (vs : List Bs) (qs : List (Nat × List Bs)) : Prop where
  well : Well D
  inv : PlainDisk.Inv may D
  vote : PWal.rdB D voteN = Fm.Fr.flat vs
  vsure : PWal.sureB D voteN = (Fm.Fr.flat vs).length
  vok : Ok vs
  vst : (PWal.votes vs St.new).term = s.term ∧ (PWal.votes vs St.new).vote = s.vote
  snap : (PlainDisk.find D.fs snapN = none ∧ s.sidx = 0 ∧ s.sterm = 0 ∧ s.sdata = []) ∨
    (PWal.snapOf (PWal.rdB D snapN) = some (s.sidx, s.sterm, s.sdata) ∧ PWal.sureB D snapN = (PWal.rdB D snapN).length ∧ 1 ≤ s.sidx ∧ PlainDisk.find D.fs snapN ≠ none)
  nov : PlainDisk.find D.fs voteNewN = none
  nos : PlainDisk.find D.fs snapNewN = none
  segs : PWal.segs D = qs.map (·.1)
  good : ∀ q ∈ qs, 1 ≤ q.1 ∧ q.1 ≤ 9999999999 ∧ PlainDisk.find D.fs (PWal.segN q.1) ≠ none ∧ PWal.rdB D (PWal.segN q.1) = Fm.Fr.flat q.2 ∧ Ok q.2
  play : playF (qs.flatMap (·.2)) { s with log := [] } = some s
  only : ∀ k, PlainDisk.find D.fs k ≠ none → k = voteN ∨ k = snapN ∨ ∃ q ∈ qs, k = PWal.segN q.1
theorem read_segs : ∀ (qs : List (Nat × List Bs)) (D : Disk) (s s1 : St), (∀ q ∈ qs, PWal.rdB D (PWal.segN q.1) = Fm.Fr.flat q.2 ∧ Ok q.2) → playF (qs.flatMap (·.2)) s = some s1 → PWal.readSegs (qs.map (·.1)) D s = (D, s1, 0) := by
  intro qs
  induction qs with
  | nil =>
    intro D s s1 _ h
    simp only [List.flatMap_nil, playF, Option.some.injEq] at h
    subst h
    rfl
  | cons q r ih =>
    intro D s s1 hg h
    obtain ⟨g1, g2⟩ := hg q (by simp)
    rw [List.flatMap_cons, playF_append] at h
    cases h1 : playF q.2 s with
    | none => rw [h1] at h; cases h
    | some s2 =>
      rw [h1] at h
      have h : playF (r.flatMap (·.2)) s2 = some s1 := h
      rw [List.map_cons, PWal.readSegs]
      simp only
      rw [g1, scan_whole g2, play_replay _ _ _ 0 h1]
      simp only [Nat.zero_add, if_true]
      exact ih D s2 s1 (fun x hx => hg x (by simp [hx])) h
theorem open_rep {D : Disk} {s : St} {vs : List Bs} {qs : List (Nat × List Bs)} (h : Rep D s vs qs) : PWal.openD D = (D, some s, 0) := by
  have h1 : PWal.dropNew D = (D, 0) := by
    unfold PWal.dropNew PWal.andThen PWal.dropF
    rw [if_pos h.nov]
    simp only [if_true]
    rw [if_pos h.nos]
  have h2 : PWal.readVote D St.new = (D, { St.new with term := s.term, vote := s.vote }, 0) := by
    unfold PWal.readVote PWal.trim
    rw [h.vote, scan_whole h.vok]
    simp only [Nat.le_refl, if_true]
    rw [votes_only vs St.new, h.vst.1, h.vst.2]
  have h3 : PWal.readSnap D { St.new with term := s.term, vote := s.vote } = (D, { s with log := [] }, 0) := by
    unfold PWal.readSnap
    rcases h.snap with ⟨q1, q2, q3, q4⟩ | ⟨q1, q2⟩
    · have : PWal.rdB D snapN = [] := by unfold PWal.rdB; rw [q1]; rfl
      rw [this, show PWal.snapOf [] = none from by decide +kernel]
      simp only
      unfold PWal.dropF
      rw [if_pos q1]
      obtain ⟨a, b, c, d, e, f⟩ := s
      simp only at q2 q3 q4
      subst q2 q3 q4
      rfl
    · rw [q1]
      rfl
  have h4 := read_segs qs D { s with log := [] } s (fun q hq => ⟨(h.good q hq).2.2.2.1, (h.good q hq).2.2.2.2⟩) h.play
  unfold PWal.openD
  rw [if_neg (by rw [h.well.1]; decide), h1]
  simp only [ne_eq, not_true_eq_false, if_false, h2, h3, h.segs, h4]
theorem rep_new (room : Nat) : Rep (PlainDisk.new room) St.new [] [] :=
  ⟨⟨rfl, rfl⟩, PlainDisk.inv_new _ room, rfl, rfl, fun p hp => (by cases hp), ⟨rfl, rfl⟩, .inl ⟨rfl, rfl, rfl, rfl⟩, rfl, rfl, rfl, fun q hq => (by cases hq), rfl, fun k hk => absurd rfl hk⟩
/-- a crash that loses nothing: the files' bytes stay -/
theorem find_crashL : ∀ (fs : List File) (l : List PlainDisk.Left) (k : Bs), PlainDisk.Sorted fs → ∃ x, PlainDisk.find (PlainDisk.crashL fs l) k = (PlainDisk.find fs k).map (PlainDisk.crashF x) := by
  intro fs
  induction fs with
  | nil => intro l k _; exact ⟨⟨0, false⟩, rfl⟩
  | cons f r ih =>
    intro l k hs
    simp only [PlainDisk.crashL, PlainDisk.find_cons]
    by_cases h : f.name = k
    · exact ⟨l.headD ⟨0, false⟩, by rw [if_pos h, if_pos (show (PlainDisk.crashF (l.headD ⟨0, false⟩) f).name = k from h)]; rfl⟩
    · obtain ⟨x, hx⟩ := ih l.tail k hs.2
      exact ⟨x, by rw [if_neg h, if_neg (show ¬ (PlainDisk.crashF (l.headD ⟨0, false⟩) f).name = k from h), hx]⟩
theorem segs_crash (D : Disk) (l : List PlainDisk.Left) : PWal.segs (PlainDisk.crash D l) = PWal.segs D := by
  unfold PWal.segs PlainDisk.crash
  simp only
  rw [PlainDisk.crashL_names]
end Go.Proofs.YtjcikhacekmcfaaGreatDoor
