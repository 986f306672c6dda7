import Derived.Test.YtjcikhacekmcfaaGreatDoorZf
/- Plain: Snapshot, Vote and a crash keep the files true to the state. No program. -/
namespace Go.Proofs.YtjcikhacekmcfaaGreatDoor
open PlainDisk (File Disk)
open PWal (St Ent Chg voteN voteNewN snapN snapNewN)
open Fm.Fr (rcd Ok)
set_option linter.unusedVariables false
set_option maxRecDepth 20000
section
variable {D : Disk} {s : St} {vs : List Bs} {qs : List (Nat × List Bs)}
theorem rep_snap (h : Rep D s vs qs) {D' : Disk} {i t : Int} {d : Bs} (hi : s.sidx < i) (hw : Well D') (hv : PlainDisk.Inv may D') (hn : PlainDisk.find D'.fs snapNewN = none) (hk : ∀ k, k ≠ snapN → k ≠ snapNewN → PlainDisk.find D'.fs k = PlainDisk.find D.fs k)
    (hs : PWal.segs D' = PWal.segs D) {f : File} (hf : PlainDisk.find D'.fs snapN = some f) (hb : PWal.snapOf f.bytes = some (i, t, d)) (hsu : f.sure = f.bytes.length) : Rep D' (cutAt i t d s) vs qs := by
  obtain ⟨n1, n2, n3, n4, n5, n6⟩ := name_ne
  obtain ⟨g1, g2, g3, g4⟩ := no_segs
  have h0 := h.sidx0
  have f1 := hk voteN n2 n3
  have f2 := hk voteNewN n4 n5
  have f3 : ∀ q ∈ qs, PlainDisk.find D'.fs (PWal.segN q.1) = PlainDisk.find D.fs (PWal.segN q.1) := fun q hq => hk _ (segN_ne (h.good q hq).1 (h.good q hq).2.1 g3) (segN_ne (h.good q hq).1 (h.good q hq).2.1 g4)
  have r1 : PWal.rdB D' snapN = f.bytes := by unfold PWal.rdB; rw [hf]; rfl
  have r2 : PWal.sureB D' snapN = f.sure := by unfold PWal.sureB; rw [hf]; rfl
  refine ⟨hw, hv, ?_, ?_, h.vok, h.vst, .inr ⟨?_, ?_, ?_, ?_⟩, f2.trans h.nov, hn, hs.trans h.segs, fun q hq => ?_, ?_, fun k hkn => ?_⟩
  · have := h.vote; unfold PWal.rdB at this ⊢; rw [f1]; exact this
  · have := h.vsure; unfold PWal.sureB at this ⊢; rw [f1]; exact this
  · rw [r1, hb]; rfl
  · rw [r1, r2, hsu]
  · show 1 ≤ i; omega
  · rw [hf]; simp
  · have := h.good q hq
    unfold PWal.rdB at this ⊢
    rw [f3 q hq]
    exact this
  · have := play_cut (i := i) (t := t) (d := d) (qs.flatMap (·.2)) { s with log := [] } s (by show s.sidx ≤ i; omega) h.play
    rw [← this]
    congr 1
    unfold cutAt
    simp
  · by_cases k1 : k = snapN
    · exact .inr (.inl k1)
    · by_cases k2 : k = snapNewN
      · rw [k2, hn] at hkn; exact absurd rfl hkn
      · rw [hk k k1 k2] at hkn; exact h.only k hkn
theorem replace_rep (h : Rep D s vs qs) {i t : Int} {d : Bs} (hi : s.sidx < i) (h1 : PWal.mayBe i = true) (h2 : PWal.mayBe t = true) (hd : d.length ≤ 65536) :
    (∃ e, e ≠ 0 ∧ PWal.replace D snapN snapNewN (PWal.snapRec i t d) = (D, e)) ∨ ∃ D', PWal.replace D snapN snapNewN (PWal.snapRec i t d) = (D', 0) ∧ Rep D' (cutAt i t d s) vs qs := by
  obtain ⟨n1, n2, n3, n4, n5, n6⟩ := name_ne
  obtain ⟨m1, m2, m3, m4⟩ := may_names
  obtain ⟨g1, g2, g3, g4⟩ := no_segs
  have hsn := snap_says h1 h2 hd
  obtain ⟨B, hB⟩ : ∃ B, PWal.snapRec i t d = B := ⟨_, rfl⟩
  rw [hB] at hsn ⊢
  unfold PWal.replace
  rcases app_well h.well m4 B with e | e | e
  · exact .inl ⟨3, by decide, by rw [e]; rfl⟩
  · exact .inl ⟨40, by decide, by rw [e]; rfl⟩
  · right
    have i1 : PlainDisk.Inv may (grown D snapNewN B) := by have := PlainDisk.inv_append h.inv snapNewN B; rw [e] at this; exact this
    have f1 : PlainDisk.find (grown D snapNewN B).fs snapNewN = some ⟨snapNewN, B, 0⟩ := by rw [find_grown h.inv.sorted, if_pos rfl, h.nos]; rfl
    have e2 := syn_well (well_grown h.well snapNewN B) m4 (by rw [f1]; simp)
    have i2 : PlainDisk.Inv may (synced (grown D snapNewN B) snapNewN) := by have := PlainDisk.inv_sync i1 snapNewN; rw [e2] at this; exact this
    have f2 : PlainDisk.find (synced (grown D snapNewN B) snapNewN).fs snapNewN = some ⟨snapNewN, B, B.length⟩ := by rw [find_synced, if_pos rfl, f1]; rfl
    have e3 := move_well (well_synced (well_grown h.well snapNewN B) snapNewN) m4 m3 f2
    have i3 := PlainDisk.inv_move i2 snapNewN snapN
    rw [e3] at i3
    have fm := fun k => find_moved i2.sorted ⟨snapNewN, B, B.length⟩ snapNewN snapN k
    refine ⟨_, ?_, rep_snap h (D' := movedTo (synced (grown D snapNewN B) snapNewN) ⟨snapNewN, B, B.length⟩ snapNewN snapN) hi h.well i3 ?_ ?_ ?_ (by rw [fm, if_pos rfl]) hsn rfl⟩
    · rw [e]
      unfold PWal.andThen
      simp only [if_true]
      rw [e2]
      simp only [if_true]
      exact e3
    · rw [fm, if_neg n6.symm, if_pos rfl]
    · intro k k1 k2
      rw [fm, if_neg k1, if_neg k2, find_synced, if_neg k2, find_grown h.inv.sorted, if_neg k2]
    · rw [segs_moved g4 g3, segs_synced, segs_grown_old _ (.inr g4)]
theorem clear_rep (h : Rep D s vs qs) (hi : s.sidx + 1 ≤ 4611686018427387904) : ∃ D' s' e qs', PWal.clearLog D s = (D', s', e) ∧ Rep D' s' vs qs' ∧ s'.sidx = s.sidx := by
  have h0 := h.sidx0
  have hm : PWal.mayBe (s.sidx + 1) = true := by unfold PWal.mayBe PWal.maxI; simp; omega
  have hl : s.sidx ≤ s.last := by unfold St.last; omega
  have hf : PWal.fits ⟨s.sidx + 1, true, ⟨0, []⟩⟩ s = true := by
    unfold PWal.fits
    simp only [hm, Bool.true_or, Bool.and_true, Bool.true_and, decide_eq_true_eq]
    omega
  unfold PWal.clearLog
  simp only
  rw [enc_pay]
  rcases write_rep (fun n _ _ => may_seg n) h (pay_says (c := ⟨s.sidx + 1, true, ⟨0, []⟩⟩) hm (.inl ⟨rfl, rfl⟩)) (pay_len (c := ⟨s.sidx + 1, true, ⟨0, []⟩⟩) (by simp)) hf with ⟨D', e, e0, e1, r1⟩ | ⟨D', qs', e1, r1⟩
  · rw [e1]
    unfold PWal.andThen
    simp only [e0, if_false]
    exact ⟨D', s, e, qs, rfl, r1, rfl⟩
  · obtain ⟨D2, e2, r2, _⟩ := sync_rep r1
    rw [e1]
    unfold PWal.andThen
    simp only [if_true]
    rw [e2]
    simp only [if_true]
    exact ⟨D2, _, 0, qs', rfl, r2, rfl⟩
theorem snapshot_rep (h : Rep D s vs qs) (i t : Int) (d : Bs) : ∃ D' s' e qs', PWal.snapshot D s i t d = (D', s', e) ∧ Rep D' s' vs qs' := by
  unfold PWal.snapshot
  by_cases hc : i ≤ s.sidx ∨ PWal.mayBe i = false ∨ PWal.mayBe t = false
  · rw [if_pos hc]; exact ⟨D, s, 1, qs, rfl, h⟩
  · rw [if_neg hc]
    simp only [not_or, Int.not_le, Bool.not_eq_false] at hc
    obtain ⟨c1, c2, c3⟩ := hc
    by_cases hd : 65536 < d.length
    · rw [if_pos hd]; exact ⟨D, s, 3, qs, rfl, h⟩
    · rw [if_neg hd]
      have hi := mayBe_is c2
      simp only
      -- behind the clearing
      have key : ∀ (r : Disk × St × Int) (qs1 : List (Nat × List Bs)), Rep r.1 r.2.1 vs qs1 → r.2.1.sidx = s.sidx → ∃ D' s' e qs',
          (if r.2.2 = 0 then
            if (PWal.replace r.1 snapN snapNewN (PWal.snapRec i t d)).2 = 0 then
              ((PWal.dropOld (PWal.replace r.1 snapN snapNewN (PWal.snapRec i t d)).1 i).1, { r.2.1 with sidx := i, sterm := t, sdata := d, log := PWal.above r.2.1 i }, (PWal.dropOld (PWal.replace r.1 snapN snapNewN (PWal.snapRec i t d)).1 i).2)
            else ((PWal.replace r.1 snapN snapNewN (PWal.snapRec i t d)).1, r.2.1, (PWal.replace r.1 snapN snapNewN (PWal.snapRec i t d)).2)
          else r) = (D', s', e) ∧ Rep D' s' vs qs' := by
        rintro ⟨D1, s1, e1⟩ qs1 hr hs1
        simp only at hr hs1
        by_cases he : e1 = 0
        · simp only [he, if_true]
          rcases replace_rep (i := i) (t := t) (d := d) hr (by omega) c2 c3 (by omega) with ⟨e, e0, e2⟩ | ⟨D2, e2, r2⟩
          · rw [e2]
            simp only [e0, if_false]
            exact ⟨D1, s1, e, qs1, rfl, hr⟩
          · rw [e2]
            simp only [if_true]
            obtain ⟨D3, qs3, e3, r3⟩ := dropOld_rep r2
            have e3 : PWal.dropOld D2 i = (D3, 0) := e3
            rw [e3]
            refine ⟨D3, _, 0, qs3, rfl, ?_⟩
            have hab : PWal.above s1 i = s1.log.drop (i - s1.sidx).toNat := by
              unfold PWal.above St.last
              by_cases hm : i ≤ s1.sidx + s1.log.length
              · rw [Int.min_eq_left hm]
              · rw [Int.min_eq_right (by omega), List.drop_eq_nil_of_le (by omega), List.drop_eq_nil_of_le (by omega)]
            rw [hab]
            exact r3
        · simp only [he, if_false]
          exact ⟨D1, s1, e1, qs1, rfl, hr⟩
      by_cases hh : PWal.has s i t = true
      · rw [if_pos hh]
        exact key (D, s, 0) qs h rfl
      · rw [if_neg hh]
        obtain ⟨D1, s1, e1, qs1, e2, r1, r2⟩ := clear_rep h (by omega)
        rw [e2]
        exact key (D1, s1, e1) qs1 r1 r2
theorem votes_pos : ∀ (ps : List Bs) (x : St), 0 ≤ x.term → 0 ≤ (PWal.votes ps x).term := by
  intro ps
  induction ps with
  | nil => intro x h; exact h
  | cons p r ih =>
    intro x h
    unfold PWal.votes
    rw [List.foldl_cons]
    cases hv : PWal.voteOf p with
    | none => exact ih x h
    | some y =>
      obtain ⟨t, v⟩ := y
      refine ih _ ?_
      show 0 ≤ t
      unfold PWal.voteOf at hv
      split at hv
      · split at hv
        · rename_i q; simp only [Option.some.injEq, Prod.mk.injEq] at hv; rw [← hv.1]; exact q.1
        · cases hv
      · cases hv
theorem votes_rep (h : Rep D s vs qs) (t v : Int) : ∃ D' s' e vs', PWal.vote D s t v = (D', s', e) ∧ Rep D' s' vs' qs := by
  unfold PWal.vote
  by_cases hc : t < s.term ∨ PWal.maxI < t ∨ PWal.mayVote v = false
  · rw [if_pos hc]; exact ⟨D, s, 1, vs, rfl, h⟩
  · rw [if_neg hc]
    simp only [not_or, Int.not_lt, Bool.not_eq_false, PWal.maxI] at hc
    have h0 := votes_pos vs St.new (by decide)
    rw [h.vst.1] at h0
    have hb : PWal.rcdOf [PWal.num t, PWal.num v] = rcd (votePay t v) := rfl
    rw [hb]
    simp only
    rcases vote_rep h t v (by omega) hc.2.1 hc.2.2 with ⟨e, e0, e1⟩ | ⟨D', vs', e1, r1⟩
    · rw [e1]; simp only [e0, if_false]; exact ⟨D, s, e, vs, rfl, h⟩
    · rw [e1]; simp only [if_true]; exact ⟨D', _, 0, vs', rfl, r1⟩
/-! ### crashes -/
/-- all is sure: a crash with nothing kept changes nothing -/
theorem crash_sure (h : Rep D s vs qs) (ha : ∀ k, PlainDisk.find D.fs k ≠ none → PWal.sureB D k = (PWal.rdB D k).length) : PlainDisk.crash D [] = D := by
  have key : ∀ fs : List File, (∀ f ∈ fs, f.sure = f.bytes.length) → PlainDisk.crashL fs [] = fs := by
    intro fs
    induction fs with
    | nil => intro _; rfl
    | cons f r ih =>
      intro hf
      rw [PlainDisk.crashL]
      have h1 := hf f (by simp)
      have : PlainDisk.crashF ([].headD ⟨0, false⟩) f = f := by
        unfold PlainDisk.crashF PlainDisk.left
        obtain ⟨n, b, m⟩ := f
        simp only at h1
        subst h1
        simp
      rw [this]
      show f :: PlainDisk.crashL r [] = _
      rw [ih fun x hx => hf x (by simp [hx])]
  have h1 : PlainDisk.crashL D.fs [] = D.fs := key D.fs fun f hf => by
    have h2 := PlainDisk.find_of_mem h.inv.sorted hf
    have h3 := ha f.name (by rw [h2]; simp)
    unfold PWal.sureB PWal.rdB at h3
    rw [h2] at h3
    exact h3
  have hw := h.well
  unfold PlainDisk.crash
  rw [h1]
  obtain ⟨a, b, c, e⟩ := D
  obtain ⟨w1, w2⟩ := hw
  simp only at w1 w2
  subst w1 w2
  rfl
theorem used_mem : ∀ {fs : List File} {f : File}, f ∈ fs → f.bytes.length ≤ PlainDisk.used fs := by
  intro fs
  induction fs with
  | nil => intro f h; cases h
  | cons g r ih =>
    intro f h
    unfold PlainDisk.used at ih ⊢
    rw [List.map_cons, List.sum_cons]
    rcases List.mem_cons.1 h with rfl | h
    · omega
    · have := ih h; omega
/-- all is kept: the files' bytes stay, and are sure -/
theorem crash_all (h : Rep D s vs qs) {l : List PlainDisk.Left} (hl : ∀ x ∈ l, 1048576 ≤ x.keep) (hn : 64 ≤ l.length) (hr : D.room ≤ 1048576) : Rep (PlainDisk.crash D l) s vs qs := by
  have i := PlainDisk.inv_crash h.inv l
  have key : ∀ (fs : List File) (l : List PlainDisk.Left), (∀ x ∈ l, 1048576 ≤ x.keep) → fs.length ≤ l.length → (∀ f ∈ fs, f.bytes.length ≤ 1048576) → ∀ k, PlainDisk.find (PlainDisk.crashL fs l) k = (PlainDisk.find fs k).map PlainDisk.syncF := by
    intro fs
    induction fs with
    | nil => intro l _ _ _ k; rfl
    | cons f r ih =>
      intro l h1 h2 h3 k
      cases l with
      | nil => simp at h2
      | cons x l =>
        have hx := h1 x (by simp)
        have hf := h3 f (by simp)
        have he : PlainDisk.crashF x f = PlainDisk.syncF f := by
          have : PlainDisk.left x f = f.bytes := by
            unfold PlainDisk.left
            rw [List.take_of_length_le (i := x.keep.toNat) (by rw [List.length_drop]; omega), ← List.append_assoc, List.take_append_drop]
            split
            · rw [show (f.bytes.drop f.sure).length - x.keep.toNat = 0 from by rw [List.length_drop]; omega]; simp
            · simp
          unfold PlainDisk.crashF PlainDisk.syncF
          rw [this]
        rw [PlainDisk.crashL]
        show PlainDisk.find (PlainDisk.crashF x f :: PlainDisk.crashL r l) k = _
        rw [he, PlainDisk.find_cons, PlainDisk.find_cons]
        show (if f.name = k then _ else _) = _
        by_cases e : f.name = k
        · rw [if_pos e, if_pos e]; rfl
        · rw [if_neg e, if_neg e]
          exact ih l (fun y hy => h1 y (by simp [hy])) (by simpa using h2) (fun y hy => h3 y (by simp [hy])) k
  have hsize : ∀ f ∈ D.fs, f.bytes.length ≤ 1048576 := by
    intro f hf
    have h1 : f.bytes.length ≤ PlainDisk.used D.fs := used_mem hf
    have := h.inv.room
    omega
  have hk := key D.fs l hl (Nat.le_trans h.inv.many hn) hsize
  have hk : ∀ k, PlainDisk.find (PlainDisk.crash D l).fs k = (PlainDisk.find D.fs k).map PlainDisk.syncF := hk
  have hb : ∀ k, PWal.rdB (PlainDisk.crash D l) k = PWal.rdB D k := by
    intro k; unfold PWal.rdB; rw [hk]; cases PlainDisk.find D.fs k <;> rfl
  have hsu : ∀ k, PWal.sureB (PlainDisk.crash D l) k = (PWal.rdB D k).length := by
    intro k; unfold PWal.sureB PWal.rdB; rw [hk]; cases PlainDisk.find D.fs k <;> rfl
  have hno : ∀ k, PlainDisk.find (PlainDisk.crash D l).fs k = none ↔ PlainDisk.find D.fs k = none := by
    intro k; rw [hk]; cases PlainDisk.find D.fs k <;> simp
  refine ⟨⟨rfl, rfl⟩, i, (hb _).trans h.vote, by rw [hsu, h.vote], h.vok, h.vst, ?_, (hno _).2 h.nov, (hno _).2 h.nos, (segs_crash D l).trans h.segs, fun q hq => ?_, h.play, fun k hkn => h.only k fun e => hkn ((hno k).2 e)⟩
  · rcases h.snap with ⟨q1, q2⟩ | ⟨q1, q2, q3, q4⟩
    · exact .inl ⟨(hno _).2 q1, q2⟩
    · exact .inr ⟨by rw [hb]; exact q1, by rw [hb, hsu], q3, fun e => q4 ((hno _).1 e)⟩
  · obtain ⟨a1, a2, a3, a4, a5⟩ := h.good q hq
    exact ⟨a1, a2, fun e => a3 ((hno _).1 e), by rw [hb]; exact a4, a5⟩
end
end Go.Proofs.YtjcikhacekmcfaaGreatDoor
