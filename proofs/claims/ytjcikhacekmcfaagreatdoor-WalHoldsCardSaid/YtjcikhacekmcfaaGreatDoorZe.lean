import Derived.Test.YtjcikhacekmcfaaGreatDoorZd
/- Plain: Append and Sync as calls. No program. -/
namespace Go.Proofs.YtjcikhacekmcfaaGreatDoor
open PlainDisk (File Disk)
open PWal (St Ent Chg voteN voteNewN snapN snapNewN)
open Fm.Fr (rcd Ok)
set_option linter.unusedVariables false
set_option maxRecDepth 20000
/-! ### a segment's name is a name -/
theorem runes_ascii : ∀ l : List UInt8, (∀ c ∈ l, c.toNat < 128) → Pl.runes l = l.map fun c => (c.toNat, 1, true) := by
  intro l
  induction l with
  | nil => intro _; exact Pl.runes_nil
  | cons c r ih =>
    intro h
    have h0 : Pl.g (c :: r) 0 = c.toNat := rfl
    have hr : Pl.rune (c :: r) = (c.toNat, 1, true) := by
      unfold Pl.rune
      rw [h0, if_pos (h c (by simp))]
    rw [Pl.runes_cons (by simp), hr]
    show _ :: Pl.runes r = _
    rw [ih fun x hx => h x (by simp [hx])]
    rfl
theorem may_seg (n : Nat) : may (PWal.segN n) = true := by
  have hd : ∀ c ∈ PWal.digs n, 48 ≤ c.toNat ∧ c.toNat ≤ 57 := by
    intro c hc
    unfold PWal.digs at hc
    obtain ⟨k, _, rfl⟩ := List.mem_map.1 hc
    rw [dg_dig]
    omega
  have hr := runes_ascii (PWal.segN n) (by
    intro c hc
    unfold PWal.segN at hc
    rcases List.mem_cons.1 hc with rfl | hc
    · decide
    · have := hd c hc; omega)
  rw [may_iff, hr]
  unfold Pl.nums
  rw [hr]
  have hl : (PWal.segN n).length = 11 := by unfold PWal.segN PWal.digs; simp
  refine ⟨by rw [List.length_map, hl]; decide, by rw [List.length_map, hl]; decide, ?_, by show (115 : UInt8).toNat ≠ 45; decide⟩
  rw [List.map_map, List.all_eq_true]
  intro x hx
  obtain ⟨c, hc, rfl⟩ := List.mem_map.1 hx
  show alw c.toNat = true
  rw [alw_iff]
  unfold PWal.segN at hc
  rcases List.mem_cons.1 hc with rfl | hc
  · decide
  · have := hd c hc; omega
section
variable {D : Disk} {s : St} {vs : List Bs} {qs : List (Nat × List Bs)}
theorem Rep.sidx0 (h : Rep D s vs qs) : 0 ≤ s.sidx := by
  rcases h.snap with ⟨_, q, _⟩ | ⟨_, _, q, _⟩ <;> omega
/-- what Append has become: the files stand for the new state -/
theorem puts_rep : ∀ (l : List Ent) (i : Int) (D : Disk) (s : St) (qs : List (Nat × List Bs)), Rep D s vs qs → (∀ e ∈ l, PWal.mayBe e.term = true ∧ e.data.length ≤ 4000) → s.sidx < i → i ≤ s.last + 1 → i + l.length ≤ 4611686018427387905 →
    ∃ D' s' e qs', PWal.puts l i D s = (D', s', e) ∧ Rep D' s' vs qs' := by
  intro l
  induction l with
  | nil => intro i D s qs h _ _ _ _; exact ⟨D, s, 0, qs, rfl, h⟩
  | cons a r ih =>
    intro i D s qs h ha h1 h2 h3
    obtain ⟨a1, a2⟩ := ha a (by simp)
    have h0 := h.sidx0
    rw [List.length_cons] at h3
    have hi : PWal.mayBe i = true := by unfold PWal.mayBe PWal.maxI; simp; omega
    have hf : PWal.fits ⟨i, false, a⟩ s = true := by
      unfold PWal.fits
      simp only [hi, a1, a2, h2, decide_true, Bool.or_true, Bool.and_true]
    have hlast : (PWal.apply ⟨i, false, a⟩ s).last = i := by
      unfold St.last at h2 ⊢
      unfold PWal.apply
      simp only [h1, and_self, if_true, List.length_append, List.length_take, List.length_cons, List.length_nil]
      omega
    rw [PWal.puts]
    skip
    rw [enc_pay]
    rcases write_rep (fun n _ _ => may_seg n) h (pay_says (c := ⟨i, false, a⟩) hi (.inr ⟨rfl, a1, a2⟩)) (pay_len (c := ⟨i, false, a⟩) a2) hf with ⟨D', e, e0, e1, r1⟩ | ⟨D', qs', e1, r1⟩
    · rw [e1]
      simp only [e0, if_false]
      exact ⟨D', s, e, qs, rfl, r1⟩
    · rw [e1]
      simp only [if_true]
      exact ih (i + 1) D' _ qs' r1 (fun x hx => ha x (by simp [hx])) (by show s.sidx < i + 1; omega) (by rw [hlast]; omega) (by omega)
theorem append_rep (h : Rep D s vs qs) (i : Int) (l : List Ent) : ∃ D' s' e qs', PWal.append D s i l = (D', s', e) ∧ Rep D' s' vs qs' := by
  unfold PWal.append
  by_cases hc : PWal.check s i l = 0
  · rw [if_pos hc]
    unfold PWal.check at hc
    split at hc
    · cases hc
    · rename_i hn
      split at hc
      · cases hc
      · rename_i hm
        simp only [not_or, Int.not_le, Int.not_lt, PWal.maxI] at hn
        obtain ⟨n1, n2, n3, n4⟩ := hn
        refine puts_rep l i D s qs h (fun e he => ?_) n1 n2 (by omega)
        simp only [Bool.not_eq_true, List.any_eq_false, Bool.not_eq_eq_eq_not, Bool.not_true, Bool.not_eq_false, decide_eq_true_eq] at n4 hm
        have := n4 e he
        have := hm e he
        exact ⟨by simpa using n4 e he, by omega⟩
  · rw [if_neg hc]
    exact ⟨D, s, _, qs, rfl, h⟩
/-- Sync never fails on a well disk, and makes all segments sure -/
theorem settles_rep : ∀ (ns : List Nat) (D : Disk), Rep D s vs qs → (∀ n ∈ ns, n ∈ qs.map (·.1)) → ∃ D', PWal.settles ns D = (D', 0) ∧ Rep D' s vs qs ∧ (∀ n ∈ ns, PWal.sureB D' (PWal.segN n) = (PWal.rdB D' (PWal.segN n)).length) ∧ (∀ k, PWal.sureB D k = (PWal.rdB D k).length → PWal.sureB D' k = (PWal.rdB D' k).length) := by
  intro ns
  induction ns with
  | nil => intro D h _; exact ⟨D, rfl, h, fun n hn => (by cases hn), fun k hk => hk⟩
  | cons n r ih =>
    intro D h hn
    obtain ⟨q, hq, rfl⟩ := List.mem_map.1 (hn n (by simp))
    obtain ⟨a1, a2, a3, _⟩ := h.good q hq
    obtain ⟨D1, e1, r1, s1, _, _, k1, _⟩ := settle_rep h a1 a2 (may_seg _) a3
    obtain ⟨D2, e2, r2, s2, k2⟩ := ih D1 r1 fun m hm => hn m (by simp [hm])
    rw [PWal.settles, e1]
    refine ⟨D2, ?_, r2, fun m hm => ?_, fun k hk => k2 k (k1 k hk)⟩
    · unfold PWal.andThen; rw [if_pos rfl]; exact e2
    · rcases List.mem_cons.1 hm with rfl | hm
      · exact k2 _ s1
      · exact s2 m hm
theorem sync_rep (h : Rep D s vs qs) : ∃ D', PWal.sync D = (D', 0) ∧ Rep D' s vs qs ∧ ∀ k, PlainDisk.find D'.fs k ≠ none → PWal.sureB D' k = (PWal.rdB D' k).length := by
  obtain ⟨D', e, r, a, _⟩ := settles_rep (PWal.segs D) D h (fun n hn => by rw [h.segs] at hn; exact hn)
  refine ⟨D', e, r, fun k hk => ?_⟩
  rcases r.only k hk with rfl | rfl | ⟨q, hq, rfl⟩
  · rw [r.vsure, r.vote]
  · rcases r.snap with ⟨q, _⟩ | ⟨_, q, _⟩
    · exact absurd q hk
    · exact q
  · exact a q.1 (by rw [h.segs]; exact List.mem_map_of_mem hq)
end
end Go.Proofs.YtjcikhacekmcfaaGreatDoor
