import Derived.Test.YtjcikhacekmcfaaGreatDoorZe
/- Plain: a snapshot's record; the log cut at a snapshot; the first segments dropped. No program. -/
namespace Go.Proofs.YtjcikhacekmcfaaGreatDoor
open PlainDisk (File Disk)
open PWal (St Ent Chg voteN voteNewN snapN snapNewN)
open Fm.Fr (rcd Ok)
set_option linter.unusedVariables false
set_option maxRecDepth 20000
/-! ### a snapshot's record -/
theorem chunks_flat (n : Nat) (hn : 0 < n) : ∀ (f : Nat) (b : Bs), b.length ≤ f → (PWal.chunks n f b).flatten = b ∧ (∀ p ∈ PWal.chunks n f b, p.length ≤ n) ∧ (PWal.chunks n f b).length ≤ b.length := by
  intro f
  induction f with
  | zero => intro b h; obtain rfl : b = [] := List.length_eq_zero_iff.1 (by omega); exact ⟨rfl, fun p hp => (by cases hp), Nat.le_refl _⟩
  | succ f ih =>
    intro b h
    rw [PWal.chunks]
    by_cases he : b = []
    · rw [if_pos he, he]; exact ⟨rfl, fun p hp => (by cases hp), Nat.le_refl _⟩
    · rw [if_neg he]
      have hl : 0 < b.length := List.length_pos_iff.2 he
      have hd : (b.drop n).length ≤ f := by rw [List.length_drop]; omega
      obtain ⟨i1, i2, i3⟩ := ih (b.drop n) hd
      refine ⟨by rw [List.flatten_cons, i1, List.take_append_drop], fun p hp => ?_, ?_⟩
      · rcases List.mem_cons.1 hp with rfl | hp
        · rw [List.length_take]; omega
        · exact i2 p hp
      · rw [List.length_cons]; rw [List.length_drop] at i3; omega
def snapPay (i t n : Int) : Bs := (PWal.row [PWal.num i, PWal.num t, PWal.num n]).enc
theorem snapPay_len (i t n : Int) : (snapPay i t n).length ≤ 100 := by
  unfold snapPay PWal.row PWal.num
  have a := Wr.Pl.dgs_le (Wr.Pl.foldN i)
  have b := Wr.Pl.dgs_le (Wr.Pl.foldN t)
  have d := Wr.Pl.dgs_le (Wr.Pl.foldN n)
  have c := Wr.Pl.dgs_le 3
  simp [Wr.Pl.It.enc, Wr.Pl.encs, Wr.Pl.cntB_length]
  omega
theorem snapPay_says (i t n : Int) (hi : 1 ≤ i ∧ i ≤ 4611686018427387904) (ht : 1 ≤ t ∧ t ≤ 4611686018427387904) (hn : 0 ≤ n ∧ n ≤ 4611686018427387904) : (PWal.parts (snapPay i t n)).map PWal.say = [.num i, .num t, .num n] := by
  have hd : Wr.Pl.dec (snapPay i t n) = some (PWal.row [PWal.num i, PWal.num t, PWal.num n]) := by
    refine (Wr.Pl.dec_iff _ _).2 ⟨?_, ?_, ?_, rfl⟩
    · have z : (⟨#[]⟩ : ByteArray).size = 0 := rfl
      simp [PWal.row, PWal.num, Wr.Pl.It.ok, Wr.Pl.oks, Wr.Pl.form, z]
      omega
    · simp [PWal.row, PWal.num, Wr.Pl.It.dep, Wr.Pl.deps]
    · simp [PWal.row, PWal.num, Wr.Pl.It.cnt, Wr.Pl.cnts]
  unfold PWal.parts
  rw [hd]
  rfl
theorem snap_says {i t : Int} {d : Bs} (hi : PWal.mayBe i = true) (ht : PWal.mayBe t = true) (hd : d.length ≤ 65536) : PWal.snapOf (PWal.snapRec i t d) = some (i, t, d) := by
  obtain ⟨f1, f2, f3⟩ := chunks_flat 4096 (by decide) d.length d (Nat.le_refl _)
  have fe : PWal.pieces d = PWal.chunks 4096 d.length d := rfl
  rw [← fe] at f1 f2 f3
  have hr : PWal.snapRec i t d = Fm.Fr.flat (snapPay i t ((PWal.pieces d).length : Int) :: PWal.pieces d) := by
    rw [Fm.Fr.flat_cons]; rfl
  have hok : Ok (snapPay i t ((PWal.pieces d).length : Int) :: PWal.pieces d) := by
    intro p hp
    rcases List.mem_cons.1 hp with rfl | hp
    · have := snapPay_len i t ((PWal.pieces d).length : Int); omega
    · exact f2 p hp
  have hs := snapPay_says i t ((PWal.pieces d).length : Int) (mayBe_is hi) (mayBe_is ht) ⟨by omega, by omega⟩
  unfold PWal.snapOf
  rw [show (Fm.Fr.scan (PWal.snapRec i t d)).1 = snapPay i t ((PWal.pieces d).length : Int) :: PWal.pieces d from by rw [hr, scan_whole hok]]
  simp only
  rw [hs]
  simp only
  rw [f1, if_pos ⟨hi, ht, hd, rfl⟩]
/-! ### the log cut at a snapshot -/
/-- a state behind a snapshot -/
def cutAt (i t : Int) (d : Bs) (x : St) : St := { x with sidx := i, sterm := t, sdata := d, log := x.log.drop (i - x.sidx).toNat }
theorem fits_cut {i t : Int} {d : Bs} {c : Chg} {x : St} (hx : x.sidx ≤ i) (h : PWal.fits c x = true) : PWal.fits c (cutAt i t d x) = true := by
  have hl : x.last ≤ (cutAt i t d x).last := by
    unfold St.last cutAt
    simp only [List.length_drop]
    omega
  unfold PWal.fits at h ⊢
  simp only [Bool.and_eq_true, decide_eq_true_eq] at h ⊢
  exact ⟨⟨h.1.1, by have := h.1.2; omega⟩, h.2⟩
theorem apply_cut {i t : Int} {d : Bs} {c : Chg} {x : St} (hx : x.sidx ≤ i) (h : PWal.fits c x = true) : PWal.apply c (cutAt i t d x) = cutAt i t d (PWal.apply c x) := by
  have hb : c.index ≤ x.last + 1 := by
    unfold PWal.fits at h
    simp only [Bool.and_eq_true, decide_eq_true_eq] at h
    exact h.1.2
  unfold St.last at hb
  unfold PWal.apply cutAt
  simp only [St.mk.injEq, true_and]
  by_cases hc : c.index ≤ i
  · rw [show (c.index - i - 1).toNat = 0 from by omega, List.take_zero, List.nil_append, if_neg (by rintro ⟨_, q⟩; omega)]
    symm
    apply List.drop_eq_nil_of_le
    rw [List.length_append, List.length_take]
    split
    · rename_i q; simp only [List.length_cons, List.length_nil]; omega
    · simp only [List.length_nil]; omega
  · rw [List.drop_append_of_le_length (by rw [List.length_take]; omega)]
    congr 1
    · rw [List.drop_take]
      congr 1
      omega
    · by_cases ht : c.trunc = false
      · rw [if_pos ⟨ht, by omega⟩, if_pos ⟨ht, by omega⟩]
      · rw [if_neg (fun q => ht q.1), if_neg (fun q => ht q.1)]
theorem play_cut {i t : Int} {d : Bs} : ∀ (l : List Bs) (x y : St), x.sidx ≤ i → playF l x = some y → playF l (cutAt i t d x) = some (cutAt i t d y) := by
  intro l
  induction l with
  | nil => intro x y _ h; simp only [playF, Option.some.injEq] at h ⊢; rw [h]
  | cons p r ih =>
    intro x y hx h
    rw [playF] at h ⊢
    cases hc : PWal.chgOf p with
    | none => rw [hc] at h; cases h
    | some c =>
      rw [hc] at h
      simp only at h ⊢
      by_cases hf : PWal.fits c x = true
      · rw [if_pos hf] at h
        rw [if_pos (fits_cut hx hf), apply_cut hx hf]
        exact ih _ y hx h
      · rw [if_neg hf] at h; cases h
/-- old records change nothing behind a snapshot -/
theorem play_old : ∀ (l : List Bs) (x y : St), x.log = [] → l.all (PWal.oldP x.sidx) = true → playF l x = some y → y = x := by
  intro l
  induction l with
  | nil => intro x y _ _ h; simp only [playF, Option.some.injEq] at h; exact h.symm
  | cons p r ih =>
    intro x y hx ho h
    rw [playF] at h
    simp only [List.all_cons, Bool.and_eq_true] at ho
    cases hc : PWal.chgOf p with
    | none => rw [hc] at h; cases h
    | some c =>
      rw [hc] at h
      simp only at h
      have h1 : c.index ≤ x.sidx := by
        have := ho.1
        unfold PWal.oldP at this
        rw [hc] at this
        simpa using this
      have ha : PWal.apply c x = x := by
        unfold PWal.apply
        rw [if_neg (by rintro ⟨_, q⟩; omega), hx]
        obtain ⟨a, b, e, f, g, k⟩ := x
        simp only at hx
        subst hx
        simp
      split at h
      · rw [ha] at h; exact ih x y hx ho.2 h
      · cases h
section
variable {D : Disk} {s : St} {vs : List Bs} {qs : List (Nat × List Bs)}
/-- the first segment, all old, dropped -/
theorem drop_first {q : Nat × List Bs} (h : Rep D s vs (q :: qs)) (ho : q.2.all (PWal.oldP s.sidx) = true) : ∃ D', PWal.dropF D (PWal.segN q.1) = (D', 0) ∧ Rep D' s vs qs := by
  obtain ⟨a1, a2, a3, a4, a5⟩ := h.good q (by simp)
  have hp := h.play
  rw [List.flatMap_cons, playF_append] at hp
  cases h1 : playF q.2 { s with log := [] } with
  | none => rw [h1] at hp; cases hp
  | some s2 =>
    rw [h1] at hp
    have hp : playF (qs.flatMap (·.2)) s2 = some s := hp
    have he := play_old q.2 { s with log := [] } s2 rfl ho h1
    rw [he] at hp
    have e := drop_well h.well (may_seg q.1) a3
    have i := PlainDisk.inv_dropA h.inv (PWal.segN q.1)
    rw [e] at i
    have hg := h.segs
    rw [List.map_cons] at hg
    have hne : ∀ x ∈ qs, PWal.segN x.1 ≠ PWal.segN q.1 := fun x hx y => by
      have hpw := segs_up D.fs h.inv.sorted
      change (PWal.segs D).Pairwise (· < ·) at hpw
      rw [hg, List.pairwise_cons] at hpw
      have := hpw.1 x.1 (List.mem_map_of_mem hx)
      obtain ⟨b1, b2, _⟩ := h.good x (by simp [hx])
      have := segN_inj b1 b2 a1 a2 y
      omega
    unfold PWal.dropF
    rw [if_neg a3]
    refine ⟨_, e, rep_segs h (D' := dropped D (PWal.segN q.1)) h.well i (fun k hk => by rw [find_dropped, if_neg (seg_name a1 a2 k hk)]) (segs_dropped_first h.inv.sorted (segNo_segN a1 a2) hg a3) (fun x hx => ?_) (fun k hz hk => ?_) rfl hp⟩
    · obtain ⟨b1, b2, b3, b4, b5⟩ := h.good x (by simp [hx])
      refine ⟨b1, b2, ?_, ?_, b5⟩
      · rw [find_dropped, if_neg (hne x hx)]; exact b3
      · unfold PWal.rdB at b4 ⊢; rw [find_dropped, if_neg (hne x hx)]; exact b4
    · rw [find_dropped] at hk
      by_cases e : k = PWal.segN q.1
      · rw [if_pos e] at hk; exact absurd rfl hk
      · rw [if_neg e] at hk
        obtain ⟨x, hx, e2⟩ := only_seg h hz hk
        rcases List.mem_cons.1 hx with rfl | hx
        · exact absurd e2 e
        · exact ⟨x, hx, e2⟩
theorem drops_rep : ∀ (qa : List (Nat × List Bs)) (D : Disk), Rep D s vs (qa ++ qs) → (∀ q ∈ qa, q.2.all (PWal.oldP s.sidx) = true) → ∃ D', PWal.drops (qa.map (·.1)) D = (D', 0) ∧ Rep D' s vs qs := by
  intro qa
  induction qa with
  | nil => intro D h _; exact ⟨D, rfl, h⟩
  | cons q r ih =>
    intro D h ho
    obtain ⟨D1, e1, r1⟩ := drop_first h (ho q (by simp))
    obtain ⟨D2, e2, r2⟩ := ih D1 r1 fun x hx => ho x (by simp [hx])
    rw [List.map_cons, PWal.drops, e1]
    refine ⟨D2, ?_, r2⟩
    unfold PWal.andThen
    rw [if_pos rfl]
    exact e2
theorem takeWhile_map {f : Nat → Bool} : ∀ (l : List (Nat × List Bs)), ∃ a b, l = a ++ b ∧ (l.map (·.1)).takeWhile f = a.map (·.1) ∧ ∀ q ∈ a, f q.1 = true := by
  intro l
  induction l with
  | nil => exact ⟨[], [], rfl, rfl, fun q hq => (by cases hq)⟩
  | cons x r ih =>
    rw [List.map_cons, List.takeWhile_cons]
    by_cases hx : f x.1 = true
    · obtain ⟨a, b, e, e2, e3⟩ := ih
      rw [if_pos hx, e2]
      refine ⟨x :: a, b, by rw [e]; rfl, rfl, fun q hq => ?_⟩
      rcases List.mem_cons.1 hq with rfl | hq
      · exact hx
      · exact e3 q hq
    · rw [if_neg hx]
      exact ⟨[], x :: r, rfl, rfl, fun q hq => (by cases hq)⟩
theorem dropOld_rep (h : Rep D s vs qs) : ∃ D' qs', PWal.dropOld D s.sidx = (D', 0) ∧ Rep D' s vs qs' := by
  unfold PWal.dropOld PWal.oldOnes
  rw [h.segs, ← List.map_take]
  obtain ⟨a, b, e, e2, e3⟩ := takeWhile_map (f := PWal.isOld D s.sidx) (qs.take ((qs.map (·.1)).length - 1))
  rw [e2]
  have hq : qs = a ++ (b ++ qs.drop ((qs.map (·.1)).length - 1)) := by rw [← List.append_assoc, ← e, List.take_append_drop]
  rw [hq] at h
  obtain ⟨D', e4, r⟩ := drops_rep a D h fun q hq2 => by
    have := e3 q hq2
    unfold PWal.isOld at this
    obtain ⟨_, _, _, g4, g5⟩ := h.good q (by simp [hq2])
    rw [g4, scan_whole g5] at this
    exact this
  exact ⟨D', _, e4, r⟩
end
end Go.Proofs.YtjcikhacekmcfaaGreatDoor
