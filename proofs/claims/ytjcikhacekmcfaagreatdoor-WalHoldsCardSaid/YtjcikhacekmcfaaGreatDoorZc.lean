import Derived.Test.YtjcikhacekmcfaaGreatDoorZb
/- Plain: Vote, Append, Sync keep the files true to the state. No program. -/
namespace Go.Proofs.YtjcikhacekmcfaaGreatDoor
open PlainDisk (File Disk)
open PWal (St Ent Chg voteN voteNewN snapN snapNewN)
open Fm.Fr (rcd Ok)
set_option linter.unusedVariables false
set_option maxRecDepth 20000
/-! ### payloads -/
def pay (c : Chg) : Bs := if c.trunc = true then (PWal.row [PWal.num c.index]).enc else (PWal.row [PWal.num c.index, PWal.num c.ent.term, PWal.txt c.ent.data]).enc
theorem enc_pay (c : Chg) : c.enc = rcd (pay c) := by
  unfold PWal.Chg.enc pay PWal.rcdOf
  split <;> rfl
theorem txt_size (d : Bs) : (⟨d.toArray⟩ : ByteArray).size = d.length := by
  show d.toArray.size = d.length
  simp
theorem pay_len {c : Chg} (h : c.ent.data.length ≤ 4000) : (pay c).length ≤ 4096 := by
  have a := Wr.Pl.dgs_le (Wr.Pl.foldN c.index)
  have b := Wr.Pl.dgs_le (Wr.Pl.foldN c.ent.term)
  have d := Wr.Pl.dgs_le c.ent.data.length
  have e := Wr.Pl.dgs_le 1
  have f := Wr.Pl.dgs_le 3
  unfold pay PWal.row PWal.num PWal.txt
  split
  · simp [Wr.Pl.It.enc, Wr.Pl.encs, Wr.Pl.cntB_length]; omega
  · simp [Wr.Pl.It.enc, Wr.Pl.encs, Wr.Pl.cntB_length, txt_size]; omega
theorem mayBe_is {n : Int} (h : PWal.mayBe n = true) : 1 ≤ n ∧ n ≤ 4611686018427387904 := by unfold PWal.mayBe PWal.maxI at h; simpa using h
theorem pay_says {c : Chg} (hi : PWal.mayBe c.index = true) (h : (c.trunc = true ∧ c.ent = ⟨0, []⟩) ∨ (c.trunc = false ∧ PWal.mayBe c.ent.term = true ∧ c.ent.data.length ≤ 4000)) : PWal.chgOf (pay c) = some c := by
  have hi2 := mayBe_is hi
  obtain ⟨i, tr, t, d⟩ := c
  have z : (⟨#[]⟩ : ByteArray).size = 0 := rfl
  simp only at hi2 h
  rcases h with ⟨rfl, h⟩ | ⟨rfl, ht, hd⟩
  · simp only [Ent.mk.injEq] at h
    obtain ⟨rfl, rfl⟩ := h
    have hdc : Wr.Pl.dec (pay ⟨i, true, ⟨0, []⟩⟩) = some (PWal.row [PWal.num i]) := by
      refine (Wr.Pl.dec_iff _ _).2 ⟨?_, ?_, ?_, rfl⟩
      · simp [PWal.row, PWal.num, Wr.Pl.It.ok, Wr.Pl.oks, Wr.Pl.form, z]; omega
      · simp [PWal.row, PWal.num, Wr.Pl.It.dep, Wr.Pl.deps]
      · simp [PWal.row, PWal.num, Wr.Pl.It.cnt, Wr.Pl.cnts]
    unfold PWal.chgOf
    rw [show (PWal.parts (pay ⟨i, true, ⟨0, []⟩⟩)).map PWal.say = [.num i] from by unfold PWal.parts; rw [hdc]; rfl]
  · have ht2 := mayBe_is ht
    have hdc : Wr.Pl.dec (pay ⟨i, false, ⟨t, d⟩⟩) = some (PWal.row [PWal.num i, PWal.num t, PWal.txt d]) := by
      refine (Wr.Pl.dec_iff _ _).2 ⟨?_, ?_, ?_, rfl⟩
      · simp [PWal.row, PWal.num, PWal.txt, Wr.Pl.It.ok, Wr.Pl.oks, Wr.Pl.form, z, txt_size]; omega
      · simp [PWal.row, PWal.num, PWal.txt, Wr.Pl.It.dep, Wr.Pl.deps]
      · simp [PWal.row, PWal.num, PWal.txt, Wr.Pl.It.cnt, Wr.Pl.cnts]
    unfold PWal.chgOf
    rw [show (PWal.parts (pay ⟨i, false, ⟨t, d⟩⟩)).map PWal.say = [.num i, .num t, .txt d] from by
      unfold PWal.parts; rw [hdc]
      simp [PWal.row, PWal.num, PWal.txt, PWal.say]]
def votePay (t v : Int) : Bs := (PWal.row [PWal.num t, PWal.num v]).enc
theorem votePay_len (t v : Int) : (votePay t v).length ≤ 40 := by
  unfold votePay PWal.row PWal.num
  have a := Wr.Pl.dgs_le (Wr.Pl.foldN t)
  have b := Wr.Pl.dgs_le (Wr.Pl.foldN v)
  have c := Wr.Pl.dgs_le 2
  simp [Wr.Pl.It.enc, Wr.Pl.encs, Wr.Pl.cntB_length]
  omega
theorem votePay_says (t v : Int) (h0 : 0 ≤ t) (h1 : t ≤ 4611686018427387904) (hv : PWal.mayVote v = true) : PWal.voteOf (votePay t v) = some (t, v) := by
  have hv2 : -1 ≤ v ∧ v < 7 := by unfold PWal.mayVote at hv; simpa using hv
  have hd : Wr.Pl.dec (votePay t v) = some (PWal.row [PWal.num t, PWal.num v]) := by
    refine (Wr.Pl.dec_iff _ _).2 ⟨?_, ?_, ?_, rfl⟩
    · have z : (⟨#[]⟩ : ByteArray).size = 0 := rfl
      simp [PWal.row, PWal.num, Wr.Pl.It.ok, Wr.Pl.oks, Wr.Pl.form, z]
      omega
    · simp [PWal.row, PWal.num, Wr.Pl.It.dep, Wr.Pl.deps]
    · simp [PWal.row, PWal.num, Wr.Pl.It.cnt, Wr.Pl.cnts]
  unfold PWal.voteOf
  rw [show (PWal.parts (votePay t v)).map PWal.say = [.num t, .num v] from by
    rw [show PWal.parts (votePay t v) = [PWal.num t, PWal.num v] from by unfold PWal.parts; rw [hd]; rfl]
    rfl]
  simp only
  rw [if_pos ⟨h0, h1, hv⟩]
theorem votes_add (ps : List Bs) (s : St) {p : Bs} {t v : Int} (h : PWal.voteOf p = some (t, v)) : PWal.votes (ps ++ [p]) s = { PWal.votes ps s with term := t, vote := v } := by
  unfold PWal.votes
  rw [List.foldl_append]
  simp only [List.foldl_cons, List.foldl_nil, h]
theorem playF_tv : ∀ (l : List Bs) (s : St) (t v : Int), playF l { s with term := t, vote := v } = (playF l s).map fun x => { x with term := t, vote := v } := by
  intro l
  induction l with
  | nil => intro s t v; rfl
  | cons p r ih =>
    intro s t v
    rw [playF, playF]
    cases PWal.chgOf p with
    | none => rfl
    | some c =>
      simp only
      rw [show PWal.fits c { s with term := t, vote := v } = PWal.fits c s from rfl, show PWal.apply c { s with term := t, vote := v } = { PWal.apply c s with term := t, vote := v } from rfl]
      split
      · exact ih _ t v
      · rfl
/-! ### segments of a disk -/
theorem seg_in {D : Disk} {nm : Bs} (h : 0 < PWal.segNo nm) (hf : PlainDisk.find D.fs nm ≠ none) : PWal.segNo nm ∈ PWal.segs D := by
  cases hq : PlainDisk.find D.fs nm with
  | none => exact absurd hq hf
  | some f =>
    unfold PWal.segs PWal.segsOf
    rw [List.mem_filter, List.mem_map]
    exact ⟨⟨nm, List.mem_map.2 ⟨f, PlainDisk.find_mem hq, PlainDisk.find_name hq⟩, rfl⟩, by simpa using h⟩
theorem segs_up : ∀ (fs : List File), PlainDisk.Sorted fs → (PWal.segsOf (fs.map (·.name))).Pairwise (· < ·) := by
  intro fs
  induction fs with
  | nil => intro _; exact List.Pairwise.nil
  | cons g r ih =>
    intro hs
    rw [List.map_cons, segsOf_cons]
    by_cases h : 0 < PWal.segNo g.name
    · rw [if_pos h]
      refine List.Pairwise.cons (fun n hn => ?_) (ih hs.2)
      obtain ⟨x, hx, rfl, h0⟩ := segsOf_mem hn
      obtain ⟨k, hk, rfl⟩ := List.mem_map.1 hx
      exact seg_lt h h0 (hs.1 k hk)
    · rw [if_neg h]; exact ih hs.2
theorem segN_ne {n : Nat} (h1 : 1 ≤ n) (h2 : n ≤ 9999999999) {nm : Bs} (h : PWal.segNo nm = 0) : PWal.segN n ≠ nm := by
  intro e
  have := segNo_segN h1 h2
  rw [e, h] at this
  omega
theorem segN_inj {n m : Nat} (h1 : 1 ≤ n) (h2 : n ≤ 9999999999) (h3 : 1 ≤ m) (h4 : m ≤ 9999999999) (h : PWal.segN n = PWal.segN m) : n = m := by
  rw [← segNo_segN h1 h2, ← segNo_segN h3 h4, h]
/-! ### Vote -/
section
variable {D : Disk} {s : St} {vs : List Bs} {qs : List (Nat × List Bs)}
theorem rep_vote (h : Rep D s vs qs) {D' : Disk} {vs' : List Bs} {t v : Int} (hw : Well D') (hi : PlainDisk.Inv may D') (hn : PlainDisk.find D'.fs voteNewN = none) (hk : ∀ k, k ≠ voteN → k ≠ voteNewN → PlainDisk.find D'.fs k = PlainDisk.find D.fs k)
    (hs : PWal.segs D' = PWal.segs D) (hr : PWal.rdB D' voteN = Fm.Fr.flat vs') (hsu : PWal.sureB D' voteN = (Fm.Fr.flat vs').length) (ho : Ok vs') (hv : (PWal.votes vs' St.new).term = t ∧ (PWal.votes vs' St.new).vote = v) : Rep D' { s with term := t, vote := v } vs' qs := by
  obtain ⟨n1, n2, n3, n4, n5, n6⟩ := name_ne
  have f1 := hk snapN n2.symm n4.symm
  have f2 := hk snapNewN n3.symm n5.symm
  have f3 : ∀ q ∈ qs, PlainDisk.find D'.fs (PWal.segN q.1) = PlainDisk.find D.fs (PWal.segN q.1) := fun q hq => hk _ (segN_ne (h.good q hq).1 (h.good q hq).2.1 no_segs.1) (segN_ne (h.good q hq).1 (h.good q hq).2.1 no_segs.2.1)
  refine ⟨hw, hi, hr, hsu, ho, hv, ?_, hn, f2.trans h.nos, hs.trans h.segs, fun q hq => ?_, ?_, fun k hkn => ?_⟩
  · unfold PWal.rdB PWal.sureB
    rw [f1]
    exact h.snap
  · have := h.good q hq
    unfold PWal.rdB at this ⊢
    rw [f3 q hq]
    exact this
  · have := playF_tv (qs.flatMap (·.2)) { s with log := [] } t v
    rw [h.play] at this
    exact this
  · by_cases k1 : k = voteN
    · exact .inl k1
    · by_cases k2 : k = voteNewN
      · rw [k2, hn] at hkn; exact absurd rfl hkn
      · rw [hk k k1 k2] at hkn; exact h.only k hkn
theorem vote_rep (h : Rep D s vs qs) (t v : Int) (h0 : 0 ≤ t) (h1 : t ≤ 4611686018427387904) (hv : PWal.mayVote v = true) :
    (∃ e, e ≠ 0 ∧ PWal.writeVote D (rcd (votePay t v)) = (D, e)) ∨ ∃ D' vs', PWal.writeVote D (rcd (votePay t v)) = (D', 0) ∧ Rep D' { s with term := t, vote := v } vs' qs := by
  obtain ⟨n1, n2, n3, n4, n5, n6⟩ := name_ne
  obtain ⟨m1, m2, m3, m4⟩ := may_names
  obtain ⟨g1, g2, g3, g4⟩ := no_segs
  have hp := votePay_says t v h0 h1 hv
  have hpl := votePay_len t v
  have hpo : Ok [votePay t v] := fun p hq => by simp only [List.mem_singleton] at hq; subst hq; omega
  have hb : Fm.Fr.flat [votePay t v] = rcd (votePay t v) := by rw [Fm.Fr.flat_cons, Fm.Fr.flat_nil, List.append_nil]
  obtain ⟨B, hB⟩ : ∃ B, rcd (votePay t v) = B := ⟨_, rfl⟩
  rw [hB] at hb ⊢
  have hvs : (PWal.votes [votePay t v] St.new).term = t ∧ (PWal.votes [votePay t v] St.new).vote = v := by
    rw [show [votePay t v] = [] ++ [votePay t v] from rfl, votes_add _ _ hp]; exact ⟨rfl, rfl⟩
  unfold PWal.writeVote
  by_cases hc : 400 < (PWal.rdB D voteN).length
  · rw [if_pos hc]
    unfold PWal.replace
    rcases app_well h.well m2 B with e | e | e
    · exact .inl ⟨3, by decide, by rw [e]; rfl⟩
    · exact .inl ⟨40, by decide, by rw [e]; rfl⟩
    · right
      have i1 : PlainDisk.Inv may (grown D voteNewN B) := by have := PlainDisk.inv_append h.inv voteNewN B; rw [e] at this; exact this
      have f1 : PlainDisk.find (grown D voteNewN B).fs voteNewN = some ⟨voteNewN, B, 0⟩ := by rw [find_grown h.inv.sorted, if_pos rfl, h.nov]; rfl
      have e2 := syn_well (well_grown h.well voteNewN B) m2 (by rw [f1]; simp)
      have i2 : PlainDisk.Inv may (synced (grown D voteNewN B) voteNewN) := by have := PlainDisk.inv_sync i1 voteNewN; rw [e2] at this; exact this
      have f2 : PlainDisk.find (synced (grown D voteNewN B) voteNewN).fs voteNewN = some ⟨voteNewN, B, B.length⟩ := by rw [find_synced, if_pos rfl, f1]; rfl
      have e3 := move_well (well_synced (well_grown h.well voteNewN B) voteNewN) m2 m1 f2
      have i3 := PlainDisk.inv_move i2 voteNewN voteN
      rw [e3] at i3
      have fm := fun k => find_moved i2.sorted ⟨voteNewN, B, B.length⟩ voteNewN voteN k
      refine ⟨_, [votePay t v], ?_, rep_vote h (D' := movedTo (synced (grown D voteNewN B) voteNewN) ⟨voteNewN, B, B.length⟩ voteNewN voteN) h.well i3 ?_ ?_ ?_ ?_ ?_ hpo hvs⟩
      · rw [e]
        unfold PWal.andThen
        simp only [if_true]
        rw [e2]
        simp only [if_true]
        exact e3
      · rw [fm, if_neg n1.symm, if_pos rfl]
      · intro k k1 k2
        rw [fm, if_neg k1, if_neg k2, find_synced, if_neg k2, find_grown h.inv.sorted, if_neg k2]
      · rw [segs_moved g2 g1, segs_synced, segs_grown_old _ (.inr g2)]
      · unfold PWal.rdB; rw [fm, if_pos rfl, hb]; rfl
      · unfold PWal.sureB; rw [fm, if_pos rfl, hb]; rfl
  · rw [if_neg hc]
    rcases app_well h.well m1 B with e | e | e
    · exact .inl ⟨3, by decide, by rw [e]; rfl⟩
    · exact .inl ⟨40, by decide, by rw [e]; rfl⟩
    · right
      have i1 : PlainDisk.Inv may (grown D voteN B) := by have := PlainDisk.inv_append h.inv voteN B; rw [e] at this; exact this
      have f1 : PlainDisk.find (grown D voteN B).fs voteN ≠ none := by rw [find_grown h.inv.sorted, if_pos rfl]; simp
      have e2 := syn_well (well_grown h.well voteN B) m1 f1
      have i2 : PlainDisk.Inv may (synced (grown D voteN B) voteN) := by have := PlainDisk.inv_sync i1 voteN; rw [e2] at this; exact this
      have hfl : Fm.Fr.flat (vs ++ [votePay t v]) = PWal.rdB D voteN ++ B := by rw [Fm.Fr.flat_snoc, hB, h.vote]
      refine ⟨synced (grown D voteN B) voteN, vs ++ [votePay t v], ?_, rep_vote h h.well i2 ?_ ?_ ?_ ?_ ?_ ?_ ?_⟩
      · rw [e]
        unfold PWal.andThen
        simp only [if_true]
        exact e2
      · rw [find_synced, if_neg n1.symm, find_grown h.inv.sorted, if_neg n1.symm]; exact h.nov
      · intro k k1 k2
        rw [find_synced, if_neg k1, find_grown h.inv.sorted, if_neg k1]
      · rw [segs_synced, segs_grown_old _ (.inr g1)]
      · rw [rd_synced, rd_grown h.inv.sorted, if_pos rfl, hfl]
      · rw [sure_synced, if_pos rfl, rd_grown h.inv.sorted, if_pos rfl, hfl]
      · intro p hq
        rcases List.mem_append.1 hq with q | q
        · exact h.vok p q
        · exact hpo p q
      · rw [votes_add _ _ hp]; exact ⟨rfl, rfl⟩
end
end Go.Proofs.YtjcikhacekmcfaaGreatDoor
