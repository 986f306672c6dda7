import Derived.Test.YtjcikhacekmcfaaGreatDoorZc
/- Plain: Append and Sync keep the files true to the state. No program. -/
namespace Go.Proofs.YtjcikhacekmcfaaGreatDoor
open PlainDisk (File Disk)
open PWal (St Ent Chg voteN voteNewN snapN snapNewN)
open Fm.Fr (rcd Ok)
set_option linter.unusedVariables false
set_option maxRecDepth 20000
section
variable {D : Disk} {s : St} {vs : List Bs} {qs : List (Nat × List Bs)}
/-- another disk with the same votes and snapshot, other segments -/
theorem rep_segs (h : Rep D s vs qs) {D' : Disk} {s' : St} {qs' : List (Nat × List Bs)} (hw : Well D') (hi : PlainDisk.Inv may D') (hk : ∀ k, PWal.segNo k = 0 → PlainDisk.find D'.fs k = PlainDisk.find D.fs k) (hs : PWal.segs D' = qs'.map (·.1))
    (hg : ∀ q ∈ qs', 1 ≤ q.1 ∧ q.1 ≤ 9999999999 ∧ PlainDisk.find D'.fs (PWal.segN q.1) ≠ none ∧ PWal.rdB D' (PWal.segN q.1) = Fm.Fr.flat q.2 ∧ Ok q.2) (ho : ∀ k, PWal.segNo k ≠ 0 → PlainDisk.find D'.fs k ≠ none → ∃ q ∈ qs', k = PWal.segN q.1) (h1 : s' = { s with log := s'.log }) (hp : playF (qs'.flatMap (·.2)) { s with log := [] } = some s') : Rep D' s' vs qs' := by
  obtain ⟨g1, g2, g3, g4⟩ := no_segs
  have e1 := hk voteN g1
  have e2 := hk snapN g3
  refine ⟨hw, hi, ?_, ?_, h.vok, ?_, ?_, (hk _ g2).trans h.nov, (hk _ g4).trans h.nos, hs, hg, ?_, fun k hkn => ?_⟩
  · have := h.vote; unfold PWal.rdB at this ⊢; rw [e1]; exact this
  · have := h.vsure; unfold PWal.sureB at this ⊢; rw [e1]; exact this
  · rw [h1]; exact h.vst
  · have := h.snap
    unfold PWal.rdB PWal.sureB at this ⊢
    rw [e2, h1]
    exact this
  · rw [show ({ s' with log := [] } : St) = { s with log := [] } from by rw [h1]]; exact hp
  · by_cases hz : PWal.segNo k = 0
    · rw [hk k hz] at hkn
      rcases h.only k hkn with e | e | ⟨q, hq, e⟩
      · exact .inl e
      · exact .inr (.inl e)
      · exact absurd e.symm (segN_ne (h.good q hq).1 (h.good q hq).2.1 hz)
    · exact .inr (.inr (ho k hz hkn))
/-- a name of a segment that is there -/
theorem only_seg (h : Rep D s vs qs) {k : Bs} (hz : PWal.segNo k ≠ 0) (hk : PlainDisk.find D.fs k ≠ none) : ∃ q ∈ qs, k = PWal.segN q.1 := by
  rcases h.only k hk with e | e | e
  · rw [e] at hz; exact absurd no_segs.1 hz
  · rw [e] at hz; exact absurd no_segs.2.2.1 hz
  · exact e
theorem seg_name {n : Nat} (h1 : 1 ≤ n) (h2 : n ≤ 9999999999) : ∀ k, PWal.segNo k = 0 → k ≠ PWal.segN n := fun k hk e => segN_ne h1 h2 hk e.symm
/-- a segment made sure -/
theorem rep_synced (h : Rep D s vs qs) {n : Nat} (h1 : 1 ≤ n) (h2 : n ≤ 9999999999) (hi : PlainDisk.Inv may (synced D (PWal.segN n))) : Rep (synced D (PWal.segN n)) s vs qs := by
  refine rep_segs h h.well hi (fun k hk => by rw [find_synced, if_neg (seg_name h1 h2 k hk)]) ((segs_synced _ _).trans h.segs) (fun q hq => ?_) (fun k hz hk => only_seg h hz (fun e => hk (by rw [find_synced]; split; rw [e]; rfl; exact e))) rfl h.play
  obtain ⟨q1, q2, q3, q4, q5⟩ := h.good q hq
  refine ⟨q1, q2, ?_, ?_, q5⟩
  · rw [find_synced]
    split
    · intro e; exact q3 (by simpa using e)
    · exact q3
  · rw [rd_synced]; exact q4
theorem settle_rep (h : Rep D s vs qs) {n : Nat} (h1 : 1 ≤ n) (h2 : n ≤ 9999999999) (hm : may (PWal.segN n) = true) (hf : PlainDisk.find D.fs (PWal.segN n) ≠ none) :
    ∃ D', PWal.settle D (PWal.segN n) = (D', 0) ∧ Rep D' s vs qs ∧ PWal.sureB D' (PWal.segN n) = (PWal.rdB D' (PWal.segN n)).length ∧ (∀ k, PlainDisk.find D.fs k ≠ none → PlainDisk.find D'.fs k ≠ none) ∧ (∀ k, PlainDisk.find D.fs k = none → PlainDisk.find D'.fs k = none) ∧ (∀ k, PWal.sureB D k = (PWal.rdB D k).length → PWal.sureB D' k = (PWal.rdB D' k).length) ∧ (∀ k, PWal.rdB D' k = PWal.rdB D k) ∧ D'.room = D.room := by
  unfold PWal.settle
  by_cases hs : PWal.sureB D (PWal.segN n) = (PWal.rdB D (PWal.segN n)).length
  · rw [if_pos hs]
    exact ⟨D, rfl, h, hs, fun k hk => hk, fun k hk => hk, fun k hk => hk, fun k => rfl, rfl⟩
  · rw [if_neg hs]
    have e := syn_well h.well hm hf
    have i := PlainDisk.inv_sync h.inv (PWal.segN n)
    rw [e] at i
    refine ⟨synced D (PWal.segN n), e, rep_synced h h1 h2 i, ?_, fun k hk => ?_, fun k hk => ?_, fun k hk => ?_, fun k => rd_synced _ _ _, rfl⟩
    · rw [sure_synced, if_pos rfl, rd_synced]
    · rw [find_synced]; split
      · intro q; exact hk (by simpa using q)
      · exact hk
    · rw [find_synced]; split
      · rw [hk]; rfl
      · exact hk
    · rw [sure_synced, rd_synced]
      split
      · rename_i q; rw [q]
      · exact hk
theorem play_one (h : Rep D s vs qs) {c : Chg} {p : Bs} (hp : PWal.chgOf p = some c) (hf : PWal.fits c s = true) {qs' : List (Nat × List Bs)} (he : qs'.flatMap (·.2) = qs.flatMap (·.2) ++ [p]) : playF (qs'.flatMap (·.2)) { s with log := [] } = some (PWal.apply c s) := by
  rw [he, playF_append, h.play]
  show playF [p] s = _
  rw [playF, hp]
  simp only
  rw [if_pos hf]; rfl
/-- one record behind the last: as Append lays it -/
theorem write_rep (hmay : ∀ n, 1 ≤ n → n ≤ 9999999999 → may (PWal.segN n) = true) (h : Rep D s vs qs) {c : Chg} {p : Bs} (hp : PWal.chgOf p = some c) (hl : p.length ≤ 4096) (hf : PWal.fits c s = true) :
    (∃ D' e, e ≠ 0 ∧ PWal.write D (rcd p) = (D', e) ∧ Rep D' s vs qs) ∨ ∃ D' qs', PWal.write D (rcd p) = (D', 0) ∧ Rep D' (PWal.apply c s) vs qs' := by
  have hap : PWal.apply c s = { s with log := (PWal.apply c s).log } := rfl
  have okp : Ok [p] := fun x hx => by simp only [List.mem_singleton] at hx; subst hx; exact hl
  -- a new segment
  have fresh : ∀ (D0 : Disk) (n : Nat), Rep D0 s vs qs → 1 ≤ n → n ≤ 9999999999 → (∀ m ∈ PWal.segs D0, m < n) → (∃ e, e ≠ 0 ∧ PlainDisk.append may D0 (PWal.segN n) (rcd p) = (D0, e)) ∨ ∃ D' qs', PlainDisk.append may D0 (PWal.segN n) (rcd p) = (D', 0) ∧ Rep D' (PWal.apply c s) vs qs' := by
    intro D0 n h n1 n2 hlt
    have hnone : PlainDisk.find D0.fs (PWal.segN n) = none := by
      cases hq : PlainDisk.find D0.fs (PWal.segN n) with
      | none => rfl
      | some f =>
        have := seg_in (D := D0) (nm := PWal.segN n) (by rw [segNo_segN n1 n2]; omega) (by rw [hq]; simp)
        rw [segNo_segN n1 n2] at this
        have := hlt n this
        omega
    rcases app_well h.well (hmay n n1 n2) (rcd p) with e | e | e
    · exact .inl ⟨3, by decide, e⟩
    · exact .inl ⟨40, by decide, e⟩
    · right
      have i := PlainDisk.inv_append h.inv (PWal.segN n) (rcd p)
      rw [e] at i
      have hsg := segs_grown_new h.inv.sorted (rcd p) n1 n2 hnone hlt
      refine ⟨_, qs ++ [(n, [p])], e, rep_segs h h.well i (fun k hk => by rw [find_grown h.inv.sorted, if_neg (seg_name n1 n2 k hk)]) (by rw [hsg, h.segs]; simp) (fun q hq => ?_) (fun k hz hk => by
        rw [find_grown h.inv.sorted] at hk
        by_cases e : k = PWal.segN n
        · exact ⟨(n, [p]), by simp, e⟩
        · rw [if_neg e] at hk
          obtain ⟨q, hq, e2⟩ := only_seg h hz hk
          exact ⟨q, by simp [hq], e2⟩) hap (play_one h hp hf (by simp))⟩
      rcases List.mem_append.1 hq with hq | hq
      · obtain ⟨a1, a2, a3, a4, a5⟩ := h.good q hq
        have hne : PWal.segN q.1 ≠ PWal.segN n := fun x => by
          have hm : q.1 ∈ PWal.segs D0 := by rw [h.segs]; exact List.mem_map_of_mem hq
          have := hlt _ hm
          have := segN_inj a1 a2 n1 n2 x
          omega
        refine ⟨a1, a2, ?_, ?_, a5⟩
        · rw [find_grown h.inv.sorted, if_neg hne]; exact a3
        · rw [rd_grown h.inv.sorted, if_neg hne]; exact a4
      · simp only [List.mem_singleton] at hq
        subst hq
        refine ⟨n1, n2, ?_, ?_, okp⟩
        · rw [find_grown h.inv.sorted, if_pos rfl]; simp
        · rw [rd_grown h.inv.sorted, if_pos rfl]
          have : PWal.rdB D0 (PWal.segN n) = [] := by unfold PWal.rdB; rw [hnone]; rfl
          rw [this]
          simp [Fm.Fr.flat_cons, Fm.Fr.flat_nil]
  unfold PWal.write PWal.target
  cases hq : (PWal.segs D).getLast? with
  | none =>
    have he : PWal.segs D = [] := List.getLast?_eq_none_iff.1 hq
    simp only [PWal.andThen, if_true]
    rcases fresh D 1 h (by omega) (by omega) (fun m hm => by rw [he] at hm; cases hm) with ⟨e, e0, e1⟩ | ⟨D', qs', e1, e2⟩
    · exact .inl ⟨D, e, e0, e1, h⟩
    · exact .inr ⟨D', qs', e1, e2⟩
  | some n =>
    simp only
    -- the last one
    have hmem : n ∈ PWal.segs D := List.mem_of_getLast? hq
    obtain ⟨q0, hq0, hqn⟩ : ∃ q ∈ qs, q.1 = n := by rw [h.segs] at hmem; exact List.mem_map.1 hmem
    obtain ⟨a1, a2, a3, a4, a5⟩ := h.good q0 hq0
    have hlast : ∃ ini, qs = ini ++ [q0] := by
      rw [h.segs] at hq
      have hpw := segs_up D.fs h.inv.sorted
      change (PWal.segs D).Pairwise (· < ·) at hpw
      rw [h.segs] at hpw
      rcases List.eq_nil_or_concat qs with rfl | ⟨ini, z, rfl⟩
      · cases hq0
      · rw [List.concat_eq_append] at hq hq0 hpw ⊢
        refine ⟨ini, ?_⟩
        rw [List.map_append, List.map_cons, List.map_nil, List.getLast?_append] at hq
        simp only [List.getLast?_singleton, Option.some_or, Option.some.injEq] at hq
        rcases List.mem_append.1 hq0 with hx | hx
        · rw [List.map_append, List.pairwise_append] at hpw
          have := hpw.2.2 q0.1 (List.mem_map_of_mem hx) z.1 (by simp)
          omega
        · simp only [List.mem_singleton] at hx
          rw [hx]
    obtain ⟨ini, rfl⟩ := hlast
    have hmax : ∀ m ∈ PWal.segs D, m ≤ n := by
      intro m hm
      have hpw := segs_up D.fs h.inv.sorted
      change (PWal.segs D).Pairwise (· < ·) at hpw
      rw [h.segs, List.map_append, List.pairwise_append] at hpw
      rw [h.segs, List.map_append] at hm
      rcases List.mem_append.1 hm with hm | hm
      · have := hpw.2.2 m hm q0.1 (by simp); omega
      · simp at hm; omega
    subst hqn
    rw [a4, scan_whole a5]
    simp only
    by_cases h8 : q0.2.length < 8
    · rw [if_pos h8]
      simp only [PWal.andThen, if_true]
      rcases app_well h.well (hmay q0.1 a1 a2) (rcd p) with e | e | e
      · exact .inl ⟨D, 3, by decide, e, h⟩
      · exact .inl ⟨D, 40, by decide, e, h⟩
      · right
        have i := PlainDisk.inv_append h.inv (PWal.segN q0.1) (rcd p)
        rw [e] at i
        refine ⟨_, ini ++ [(q0.1, q0.2 ++ [p])], e, rep_segs h h.well i (fun k hk => by rw [find_grown h.inv.sorted, if_neg (seg_name a1 a2 k hk)]) (by rw [segs_grown_old _ (.inl a3), h.segs]; simp) (fun q hq => ?_) (fun k hz hk => by
          rw [find_grown h.inv.sorted] at hk
          by_cases e : k = PWal.segN q0.1
          · exact ⟨(q0.1, q0.2 ++ [p]), by simp, e⟩
          · rw [if_neg e] at hk
            obtain ⟨q, hq, e2⟩ := only_seg h hz hk
            rcases List.mem_append.1 hq with hq | hq
            · exact ⟨q, by simp [hq], e2⟩
            · simp only [List.mem_singleton] at hq; subst hq; exact absurd e2 e) hap (play_one h hp hf (by simp))⟩
        rcases List.mem_append.1 hq with hq | hq
        · obtain ⟨b1, b2, b3, b4, b5⟩ := h.good q (by simp [hq])
          have hne : PWal.segN q.1 ≠ PWal.segN q0.1 := fun x => by
            have hpw := segs_up D.fs h.inv.sorted
            change (PWal.segs D).Pairwise (· < ·) at hpw
            rw [h.segs, List.map_append, List.pairwise_append] at hpw
            have := hpw.2.2 q.1 (List.mem_map_of_mem hq) q0.1 (by simp)
            have := segN_inj b1 b2 a1 a2 x
            omega
          refine ⟨b1, b2, ?_, ?_, b5⟩
          · rw [find_grown h.inv.sorted, if_neg hne]; exact b3
          · rw [rd_grown h.inv.sorted, if_neg hne]; exact b4
        · simp only [List.mem_singleton] at hq
          subst hq
          refine ⟨a1, a2, ?_, ?_, fun x hx => ?_⟩
          · rw [find_grown h.inv.sorted, if_pos rfl]; simp
          · rw [rd_grown h.inv.sorted, if_pos rfl, a4, Fm.Fr.flat_snoc]
          · rcases List.mem_append.1 hx with hx | hx
            · exact a5 x hx
            · exact okp x hx
    · rw [if_neg h8]
      by_cases h9 : q0.1 = 9999999999
      · rw [if_pos h9]
        exact .inl ⟨D, 3, by decide, by simp [PWal.andThen], h⟩
      · rw [if_neg h9]
        obtain ⟨D1, e1, r1, _, _, _, _, _, _⟩ := settle_rep h a1 a2 (hmay q0.1 a1 a2) a3
        simp only [e1, PWal.andThen, if_true]
        rcases fresh D1 (q0.1 + 1) r1 (by omega) (by omega) (fun m hm => by
          have hm2 : m ∈ PWal.segs D := by rw [h.segs]; rw [r1.segs] at hm; exact hm
          have := hmax m hm2
          omega) with ⟨e, e0, e2⟩ | ⟨D', qs', e2, e3⟩
        · exact .inl ⟨D1, e, e0, e2, r1⟩
        · exact .inr ⟨D', qs', e2, e3⟩
end
end Go.Proofs.YtjcikhacekmcfaaGreatDoor
