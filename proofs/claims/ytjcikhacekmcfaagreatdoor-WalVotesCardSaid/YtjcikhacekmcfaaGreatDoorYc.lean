import Derived.Test.YtjcikhacekmcfaaGreatDoorOi
/- Plain: a wal that has votes alone, on a disk of 65536 bytes. No program. -/
namespace Go.Proofs.YtjcikhacekmcfaaGreatDoor
open PlainDisk (File Disk)
open PWal (St Ent Chg voteN voteNewN snapN snapNewN)
open Fm.Fr (rcd Ok)
set_option linter.unusedVariables false
set_option maxRecDepth 20000
def vFs (ps : List (List UInt8)) : List File := if ps = [] then [] else [⟨voteN, Fm.Fr.flat ps, (Fm.Fr.flat ps).length⟩]
def vD (ps : List (List UInt8)) : Disk := ⟨vFs ps, 65536, false, -1⟩
structure VInv (D : Disk) (s : St) (ps : List (List UInt8)) : Prop where
  d : D = vD ps
  ok : Ok ps
  st : PWal.votes ps St.new = s
  len : (Fm.Fr.flat ps).length ≤ 500
theorem may_vote : may voteN = true ∧ may voteNewN = true ∧ may snapN = true ∧ may snapNewN = true := by decide +kernel
theorem seg_vote : PWal.segNo voteN = 0 := by decide +kernel
theorem v_start : VInv (PlainDisk.new 65536) St.new [] := ⟨rfl, fun p hp => (by cases hp), rfl, by decide⟩
theorem rd_v (ps : List (List UInt8)) : PWal.rdB (vD ps) voteN = Fm.Fr.flat ps := by
  unfold PWal.rdB vD vFs
  by_cases h : ps = []
  · subst h; rfl
  · rw [if_neg h]; rfl
theorem find_v (ps : List (List UInt8)) (nm : List UInt8) (h : (voteN == nm) = false) : PlainDisk.find (vD ps).fs nm = none := by
  unfold vD vFs
  by_cases hp : ps = []
  · rw [if_pos hp]; rfl
  · rw [if_neg hp]
    rw [PlainDisk.find_cons, if_neg (by simpa using h)]; rfl
theorem segs_v (ps : List (List UInt8)) : PWal.segs (vD ps) = [] := by
  unfold PWal.segs PWal.segsOf vD vFs
  by_cases hp : ps = []
  · rw [if_pos hp]; rfl
  · rw [if_neg hp]
    simp [seg_vote]
theorem scan_v {ps : List (List UInt8)} (h : Ok ps) : Fm.Fr.scan (Fm.Fr.flat ps) = (ps, (Fm.Fr.flat ps).length) := by
  have := Fm.Fr.scan_flat ps h []
  rw [List.append_nil] at this
  rw [this, Fm.Fr.scan_short [] (by decide)]
  simp
theorem v_open {D : Disk} {s : St} {ps : List (List UInt8)} (h : VInv D s ps) : PWal.openD D = (D, some s, 0) := by
  obtain ⟨rfl, ok, st, _⟩ := h
  have h1 : PWal.dropNew (vD ps) = (vD ps, 0) := by
    unfold PWal.dropNew PWal.andThen PWal.dropF
    rw [if_pos (find_v ps _ (by decide +kernel))]
    simp only [if_true]
    rw [if_pos (find_v ps _ (by decide +kernel))]
  have h2 : PWal.readVote (vD ps) St.new = (vD ps, s, 0) := by
    unfold PWal.readVote PWal.trim
    rw [rd_v, scan_v ok]
    simp only [Nat.le_refl, if_true, st]
  have h3 : PWal.readSnap (vD ps) s = (vD ps, s, 0) := by
    unfold PWal.readSnap
    have : PWal.rdB (vD ps) snapN = [] := by
      unfold PWal.rdB
      rw [find_v ps _ (by decide +kernel)]; rfl
    rw [this, show PWal.snapOf [] = none from by decide +kernel]
    simp only
    unfold PWal.dropF
    rw [if_pos (find_v ps _ (by decide +kernel))]
  unfold PWal.openD
  rw [if_neg (show ¬ (vD ps).gone = true from fun h => Bool.false_ne_true h), h1]
  simp only [ne_eq, not_true_eq_false, if_false, h2, h3, segs_v, PWal.readSegs]
theorem v_crash {D : Disk} {s : St} {ps : List (List UInt8)} (h : VInv D s ps) : PlainDisk.crash D [] = D := by
  obtain ⟨rfl, ok, st, _⟩ := h
  unfold PlainDisk.crash vD vFs
  by_cases hp : ps = []
  · rw [if_pos hp]; rfl
  · rw [if_neg hp]
    simp only [PlainDisk.crashL, PlainDisk.crashF, PlainDisk.left, List.headD]
    simp
/-- a vote's payload -/
def vPay (t v : Int) : List UInt8 := (PWal.row [PWal.num t, PWal.num v]).enc
theorem vPay_len (t v : Int) : (vPay t v).length ≤ 40 := by
  unfold vPay PWal.row PWal.num
  have a := Wr.Pl.dgs_le (Wr.Pl.foldN t)
  have b := Wr.Pl.dgs_le (Wr.Pl.foldN v)
  have c := Wr.Pl.dgs_le 2
  simp [Wr.Pl.It.enc, Wr.Pl.encs, Wr.Pl.cntB_length]
  omega
theorem vPay_says (t v : Int) (h0 : 0 ≤ t) (h1 : t ≤ 4611686018427387904) (hv : PWal.mayVote v = true) : PWal.voteOf (vPay t v) = some (t, v) := by
  have hv2 : -1 ≤ v ∧ v < 7 := by unfold PWal.mayVote at hv; simpa using hv
  have hd : Wr.Pl.dec (vPay t v) = some (PWal.row [PWal.num t, PWal.num v]) := by
    refine (Wr.Pl.dec_iff _ _).2 ⟨?_, ?_, ?_, rfl⟩
    · have z : (⟨#[]⟩ : ByteArray).size = 0 := rfl
      simp [PWal.row, PWal.num, Wr.Pl.It.ok, Wr.Pl.oks, Wr.Pl.form, z]
      omega
    · simp [PWal.row, PWal.num, Wr.Pl.It.dep, Wr.Pl.deps]
    · simp [PWal.row, PWal.num, Wr.Pl.It.cnt, Wr.Pl.cnts]
  unfold PWal.voteOf
  have hp : (PWal.parts (vPay t v)).map PWal.say = [.num t, .num v] := by
    rw [show PWal.parts (vPay t v) = [PWal.num t, PWal.num v] from by unfold PWal.parts; rw [hd]; rfl]
    rfl
  rw [hp]
  simp only
  rw [if_pos ⟨h0, h1, hv⟩]
theorem votes_snoc (ps : List (List UInt8)) (s : St) {p : List UInt8} {t v : Int} (h : PWal.voteOf p = some (t, v)) : PWal.votes (ps ++ [p]) s = { PWal.votes ps s with term := t, vote := v } := by
  unfold PWal.votes
  rw [List.foldl_append]
  simp only [List.foldl_cons, List.foldl_nil, h]
theorem votes_same : ∀ (ps : List (List UInt8)) (s : St), (PWal.votes ps s).sidx = s.sidx ∧ (PWal.votes ps s).sterm = s.sterm ∧ (PWal.votes ps s).sdata = s.sdata ∧ (PWal.votes ps s).log = s.log := by
  intro ps
  induction ps with
  | nil => exact fun s => ⟨rfl, rfl, rfl, rfl⟩
  | cons p r ih =>
    intro s
    cases h : PWal.voteOf p with
    | none => rw [votes_none h]; exact ih s
    | some x => obtain ⟨t, v⟩ := x; rw [votes_some h]; exact ih _
theorem at_ok (D : Disk) (f : Disk → Disk × Int) : PWal.andThen (D, 0) f = f D := rfl
theorem w_ok (fs ok bad : List File) : PlainDisk.write ⟨fs, 65536, false, -1⟩ ok bad = (⟨ok, 65536, false, -1⟩, 0) := rfl
theorem app_v {fs : List File} {nm b : List UInt8} (hm : may nm = true) (h64 : fs.length < 64) (hu : PlainDisk.used fs + b.length ≤ 65536) : PlainDisk.append may ⟨fs, 65536, false, -1⟩ nm b = (⟨PlainDisk.upd (PlainDisk.made fs nm) nm (PlainDisk.grow b), 65536, false, -1⟩, 0) := by
  unfold PlainDisk.append
  rw [if_neg (fun h => Bool.false_ne_true h), if_neg (by rw [hm]; decide), if_neg (fun h => by have := h.2; simp only at this; omega), if_neg (by simp only; omega)]
  exact w_ok _ _ _
theorem syn_v {fs : List File} {nm : List UInt8} (hm : may nm = true) (hf : PlainDisk.find fs nm ≠ none) : PlainDisk.sync may ⟨fs, 65536, false, -1⟩ nm = (⟨PlainDisk.upd fs nm PlainDisk.syncF, 65536, false, -1⟩, 0) := by
  unfold PlainDisk.sync
  rw [if_neg (fun h => Bool.false_ne_true h), if_neg (by rw [hm]; decide), if_neg hf]
  exact w_ok _ _ _
theorem v_vote {D : Disk} {s : St} {ps : List (List UInt8)} (h : VInv D s ps) (t v : Int) (h0 : 0 ≤ t) (ht : s.term ≤ t) (h1 : t ≤ 4611686018427387904) (hv : PWal.mayVote v = true) :
    ∃ D' ps', PWal.vote D s t v = (D', { s with term := t, vote := v }, 0) ∧ VInv D' { s with term := t, vote := v } ps' := by
  obtain ⟨rfl, ok, st, hl⟩ := h
  have hp := vPay_says t v h0 h1 hv
  have hpl := vPay_len t v
  have hw : ∃ ps', PWal.writeVote (vD ps) (rcd (vPay t v)) = (vD ps', 0) ∧ Ok ps' ∧ PWal.votes ps' St.new = { s with term := t, vote := v } ∧ (Fm.Fr.flat ps').length ≤ 500 := by
    have hb : (rcd (vPay t v)).length = 8 + (vPay t v).length := Fm.Fr.rcd_length _
    obtain ⟨B, hB⟩ : ∃ B, rcd (vPay t v) = B := ⟨_, rfl⟩
    rw [hB] at hb
    unfold PWal.writeVote
    rw [rd_v, hB]
    by_cases hc : 400 < (Fm.Fr.flat ps).length
    · rw [if_pos hc]
      have hne : ps ≠ [] := fun e => by subst e; simp [Fm.Fr.flat_nil] at hc
      refine ⟨[vPay t v], ?_, fun p hp => ?_, ?_, ?_⟩
      · unfold PWal.replace vD
        rw [show vFs ps = [⟨voteN, Fm.Fr.flat ps, (Fm.Fr.flat ps).length⟩] from if_neg hne]
        rw [app_v may_vote.2.1 (by simp) (by simp [PlainDisk.used]; omega)]
        rw [at_ok]
        rw [show PlainDisk.upd (PlainDisk.made [⟨voteN, Fm.Fr.flat ps, (Fm.Fr.flat ps).length⟩] voteNewN) voteNewN (PlainDisk.grow B) = [⟨voteN, Fm.Fr.flat ps, (Fm.Fr.flat ps).length⟩, ⟨voteNewN, B, 0⟩] from rfl]
        rw [syn_v may_vote.2.1 (by intro h; cases h)]
        rw [at_ok]
        rw [show PlainDisk.upd [⟨voteN, Fm.Fr.flat ps, (Fm.Fr.flat ps).length⟩, ⟨voteNewN, B, 0⟩] voteNewN PlainDisk.syncF = [⟨voteN, Fm.Fr.flat ps, (Fm.Fr.flat ps).length⟩, ⟨voteNewN, B, B.length⟩] from rfl]
        unfold PlainDisk.move
        rw [if_neg (fun h => Bool.false_ne_true h), if_neg (by rw [may_vote.1, may_vote.2.1]; decide)]
        rw [show PlainDisk.find [⟨voteN, Fm.Fr.flat ps, (Fm.Fr.flat ps).length⟩, ⟨voteNewN, B, B.length⟩] voteNewN = some ⟨voteNewN, B, B.length⟩ from rfl]
        simp only
        rw [w_ok]
        rw [show PlainDisk.moved [⟨voteN, Fm.Fr.flat ps, (Fm.Fr.flat ps).length⟩, ⟨voteNewN, B, B.length⟩] ⟨voteNewN, B, B.length⟩ voteNewN voteN = [⟨voteN, B, B.length⟩] from rfl]
        rw [show vFs [vPay t v] = [⟨voteN, Fm.Fr.flat [vPay t v], (Fm.Fr.flat [vPay t v]).length⟩] from if_neg (by simp)]
        rw [show Fm.Fr.flat [vPay t v] = B from by rw [Fm.Fr.flat_cons, Fm.Fr.flat_nil, List.append_nil, hB]]
      · simp only [List.mem_singleton] at hp; subst hp; omega
      · rw [show [vPay t v] = [] ++ [vPay t v] from rfl, votes_snoc _ _ hp]
        have := votes_same ps St.new
        rw [st] at this
        obtain ⟨q1, q2, q3, q4⟩ := this
        obtain ⟨s1, s2, s3, s4, s5, s6⟩ := s
        simp only at q1 q2 q3 q4
        subst q1 q2 q3 q4
        rfl
      · rw [Fm.Fr.flat_cons, Fm.Fr.flat_nil, List.append_nil, hB]; omega
    · rw [if_neg hc]
      refine ⟨ps ++ [vPay t v], ?_, fun p hp => ?_, ?_, ?_⟩
      · have hfl : Fm.Fr.flat (ps ++ [vPay t v]) = Fm.Fr.flat ps ++ B := by rw [Fm.Fr.flat_snoc, hB]
        have hnew : vFs (ps ++ [vPay t v]) = [⟨voteN, Fm.Fr.flat ps ++ B, (Fm.Fr.flat ps ++ B).length⟩] := by
          unfold vFs
          rw [if_neg (by simp), hfl]
        unfold vD
        rw [hnew]
        by_cases he : ps = []
        · subst he
          rw [show vFs [] = [] from rfl]
          rw [app_v may_vote.1 (by simp) (by simp [PlainDisk.used]; omega)]
          rw [at_ok]
          rw [show PlainDisk.upd (PlainDisk.made [] voteN) voteN (PlainDisk.grow B) = [⟨voteN, Fm.Fr.flat [] ++ B, 0⟩] from rfl]
          rw [syn_v may_vote.1 (by intro h; cases h)]
          rfl
        · rw [show vFs ps = [⟨voteN, Fm.Fr.flat ps, (Fm.Fr.flat ps).length⟩] from if_neg he]
          rw [app_v may_vote.1 (by simp) (by simp [PlainDisk.used]; omega)]
          rw [at_ok]
          rw [show PlainDisk.upd (PlainDisk.made [⟨voteN, Fm.Fr.flat ps, (Fm.Fr.flat ps).length⟩] voteN) voteN (PlainDisk.grow B) = [⟨voteN, Fm.Fr.flat ps ++ B, (Fm.Fr.flat ps).length⟩] from rfl]
          rw [syn_v may_vote.1 (by intro h; cases h)]
          rfl
      · rcases List.mem_append.1 hp with q | q
        · exact ok p q
        · simp only [List.mem_singleton] at q; subst q; omega
      · rw [votes_snoc _ _ hp, st]
      · rw [Fm.Fr.flat_snoc, hB, List.length_append]; omega
  obtain ⟨ps', e1, e2, e3, e4⟩ := hw
  refine ⟨vD ps', ps', ?_, ⟨rfl, e2, e3, e4⟩⟩
  rw [vote_yes (by rintro (q | q | q); omega; omega; rw [hv] at q; cases q)]
  rw [show PWal.rcdOf [PWal.num t, PWal.num v] = rcd (vPay t v) from rfl, e1]
  rfl
end Go.Proofs.YtjcikhacekmcfaaGreatDoor
