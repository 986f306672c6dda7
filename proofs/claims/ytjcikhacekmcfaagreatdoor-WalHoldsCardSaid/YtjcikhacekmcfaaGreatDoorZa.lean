import Derived.Test.YtjcikhacekmcfaaGreatDoorWl
/- Plain: names of segments in order; the steps of a disk whose writes go well. No program. -/
namespace Go.Proofs.YtjcikhacekmcfaaGreatDoor
open PlainDisk (File Disk bl)
open PWal (St Ent Chg)
set_option linter.unusedVariables false
set_option maxRecDepth 20000
abbrev Bs := List UInt8
/-! ### names of segments -/
def numA (x : Nat) (l : Bs) : Nat := l.foldl (fun n c => n * 10 + (c.toNat - 48)) x
theorem dig_iff (c : UInt8) : PWal.isDig c = true ↔ 48 ≤ c.toNat ∧ c.toNat ≤ 57 := by unfold PWal.isDig; simp
theorem numA_lt : ∀ (a b : Bs) (x y : Nat), a.length = b.length → a.all PWal.isDig = true → b.all PWal.isDig = true → (x < y ∨ (x = y ∧ bl a b = true)) → numA x a < numA y b := by
  intro a
  induction a with
  | nil =>
    intro b x y hl _ _ h
    cases b with
    | cons c r => cases hl
    | nil =>
      rcases h with h | ⟨_, h⟩
      · exact h
      · cases h
  | cons c r ih =>
    intro b x y hl ha hb h
    cases b with
    | nil => cases hl
    | cons d s =>
      simp only [List.all_cons, Bool.and_eq_true] at ha hb
      have h1 := (dig_iff c).1 ha.1
      have h2 := (dig_iff d).1 hb.1
      unfold numA
      rw [List.foldl_cons, List.foldl_cons]
      refine ih s _ _ (by simpa using hl) ha.2 hb.2 ?_
      rcases h with h | ⟨rfl, h⟩
      · left; omega
      · have h9 : (decide (c < d) || (c == d && bl r s)) = true := h
        clear h
        simp only [Bool.or_eq_true, Bool.and_eq_true, decide_eq_true_eq, beq_iff_eq, UInt8.lt_iff_toNat_lt] at h9
        rcases h9 with q | ⟨e, q⟩
        · left; omega
        · right; subst e; exact ⟨rfl, q⟩
/-- two segments' names stand as their numbers -/
theorem seg_lt {x y : Bs} (hx : 0 < PWal.segNo x) (hy : 0 < PWal.segNo y) (h : bl x y = true) : PWal.segNo x < PWal.segNo y := by
  unfold PWal.segNo at hx hy ⊢
  split at hx
  · rename_i h1
    split at hy
    · rename_i h2
      rw [if_pos h1, if_pos h2]
      cases x with
      | nil => cases h1.1
      | cons a r =>
        cases y with
        | nil => cases h2.1
        | cons b s =>
          simp only [List.head?_cons, Option.some.injEq, List.tail_cons] at h1 h2
          obtain ⟨rfl, h1, h3⟩ := h1
          obtain ⟨rfl, h2, h4⟩ := h2
          have h : (decide ((115 : UInt8) < 115) || ((115 : UInt8) == 115 && bl r s)) = true := h
          have h : bl r s = true := by simpa using h
          exact numA_lt r s 0 0 (by omega) h3 h4 (.inr ⟨rfl, h⟩)
    · omega
  · omega
theorem dg_dig (u j : Nat) : (Lib.dg u j).toNat = 48 + u / 10 ^ j % 10 := by
  unfold Lib.dg
  rw [UInt8.toNat_ofNat']
  omega
theorem digs_num (m : Nat) : ∀ k, numA 0 ((List.range k).map fun j => Lib.dg m (k - 1 - j)) = m % 10 ^ k := by
  intro k
  induction k generalizing m with
  | zero => simp [numA]; omega
  | succ k ih =>
    rw [List.range_succ, List.map_append]
    unfold numA
    rw [List.foldl_append]
    have h1 : (List.range k).map (fun j => Lib.dg m (k + 1 - 1 - j)) = (List.range k).map fun j => Lib.dg (m / 10) (k - 1 - j) := by
      apply List.map_congr_left
      intro j hj
      have hj := List.mem_range.1 hj
      rw [show k + 1 - 1 - j = (k - 1 - j) + 1 from by omega]
      unfold Lib.dg
      rw [Nat.pow_succ, Nat.mul_comm, ← Nat.div_div_eq_div_mul]
    rw [h1]
    have h2 := ih (m / 10)
    unfold numA at h2
    rw [h2]
    simp only [List.map_cons, List.map_nil, List.foldl_cons, List.foldl_nil, dg_dig]
    rw [show k + 1 - 1 - k = 0 from by omega, Nat.pow_zero, Nat.div_one, Nat.pow_succ, Nat.mul_comm (10 ^ k), Nat.mod_mul]
    omega
theorem segNo_segN {n : Nat} (h1 : 1 ≤ n) (h2 : n ≤ 9999999999) : PWal.segNo (PWal.segN n) = n := by
  unfold PWal.segNo PWal.segN
  have hd : (PWal.digs n).length = 10 := by simp [PWal.digs]
  have ha : (PWal.digs n).all PWal.isDig = true := by
    rw [List.all_eq_true]
    intro c hc
    simp only [PWal.digs, List.mem_map] at hc
    obtain ⟨j, _, rfl⟩ := hc
    rw [dig_iff, dg_dig]
    omega
  rw [if_pos ⟨rfl, hd, ha⟩]
  have := digs_num n 10
  show numA 0 (PWal.digs n) = n
  rw [show PWal.digs n = (List.range 10).map fun j => Lib.dg n (10 - 1 - j) from rfl, this]
  omega
/-! ### numbers of segments in a list of names -/
theorem segsOf_nil : PWal.segsOf [] = [] := rfl
theorem segsOf_cons (x : Bs) (l : List Bs) : PWal.segsOf (x :: l) = (if 0 < PWal.segNo x then [PWal.segNo x] else []) ++ PWal.segsOf l := by
  unfold PWal.segsOf
  rw [List.map_cons, List.filter_cons]
  by_cases h : 0 < PWal.segNo x
  · simp [h]
  · simp [h]
theorem segsOf_mem {l : List Bs} {n : Nat} (h : n ∈ PWal.segsOf l) : ∃ x ∈ l, PWal.segNo x = n ∧ 0 < n := by
  unfold PWal.segsOf at h
  rw [List.mem_filter, List.mem_map] at h
  obtain ⟨⟨x, hx, rfl⟩, h0⟩ := h
  exact ⟨x, hx, rfl, by simpa using h0⟩
/-- a name that is no segment's: none more -/
theorem segs_put_no {f : File} (h : PWal.segNo f.name = 0) : ∀ fs : List File, PWal.segsOf ((PlainDisk.put f fs).map (·.name)) = PWal.segsOf (fs.map (·.name)) := by
  intro fs
  induction fs with
  | nil => simp [PlainDisk.put, segsOf_cons, segsOf_nil, h]
  | cons g r ih =>
    unfold PlainDisk.put
    split
    · rw [List.map_cons, segsOf_cons, h]; simp
    · rw [List.map_cons, segsOf_cons, ih, List.map_cons, segsOf_cons]
/-- a segment above all others -/
theorem segs_put {f : File} (h : 0 < PWal.segNo f.name) : ∀ fs : List File, PlainDisk.Sorted fs → (∀ n ∈ PWal.segsOf (fs.map (·.name)), n < PWal.segNo f.name) → PWal.segsOf ((PlainDisk.put f fs).map (·.name)) = PWal.segsOf (fs.map (·.name)) ++ [PWal.segNo f.name] := by
  intro fs
  induction fs with
  | nil => intro _ _; simp [PlainDisk.put, segsOf_cons, segsOf_nil, h]
  | cons g r ih =>
    intro hs ha
    unfold PlainDisk.put
    split
    · rename_i hb
      have he : PWal.segsOf ((g :: r).map (·.name)) = [] := by
        cases hq : PWal.segsOf ((g :: r).map (·.name)) with
        | nil => rfl
        | cons n t =>
          have hn : n ∈ PWal.segsOf ((g :: r).map (·.name)) := by rw [hq]; simp
          have hlt := ha n hn
          obtain ⟨x, hx, e, h0⟩ := segsOf_mem hn
          obtain ⟨k, hk, rfl⟩ := List.mem_map.1 hx
          have hbk : bl f.name k.name = true := by
            rcases List.mem_cons.1 hk with rfl | hk
            · exact hb
            · exact PlainDisk.bl_trans _ _ _ hb (hs.1 k hk)
          have := seg_lt h (by omega) hbk
          omega
      rw [List.map_cons, segsOf_cons, if_pos h, he]; rfl
    · rw [List.map_cons, segsOf_cons, ih hs.2 (fun n hn => ha n (by rw [List.map_cons, segsOf_cons]; exact List.mem_append_right _ hn)), List.map_cons, segsOf_cons, List.append_assoc]
theorem segs_drop_no {nm : Bs} (h : PWal.segNo nm = 0) : ∀ fs : List File, PWal.segsOf ((PlainDisk.drop fs nm).map (·.name)) = PWal.segsOf (fs.map (·.name)) := by
  intro fs
  induction fs with
  | nil => rfl
  | cons g r ih =>
    rw [PlainDisk.drop_cons]
    split
    · rename_i e
      rw [ih, List.map_cons, segsOf_cons, e, h]; simp
    · rw [List.map_cons, segsOf_cons, ih, List.map_cons, segsOf_cons]
/-! ### steps -/
def Well (D : Disk) : Prop := D.gone = false ∧ D.good = -1
theorem write_well {D : Disk} (h : Well D) (ok bad : List File) : PlainDisk.write D ok bad = ({ D with fs := ok }, 0) := by
  obtain ⟨fs, room, gone, good⟩ := D
  obtain ⟨h1, h2⟩ := h
  simp only at h1 h2
  subst h1 h2
  rfl
def grown (D : Disk) (nm b : Bs) : Disk := { D with fs := PlainDisk.upd (PlainDisk.made D.fs nm) nm (PlainDisk.grow b) }
def synced (D : Disk) (nm : Bs) : Disk := { D with fs := PlainDisk.upd D.fs nm PlainDisk.syncF }
theorem app_well {D : Disk} (h : Well D) {nm : Bs} (hm : may nm = true) (b : Bs) : PlainDisk.append may D nm b = (D, 3) ∨ PlainDisk.append may D nm b = (D, 40) ∨ PlainDisk.append may D nm b = (grown D nm b, 0) := by
  unfold PlainDisk.append
  rw [if_neg (by rw [h.1]; decide), if_neg (by rw [hm]; decide)]
  split
  · exact .inl rfl
  · split
    · exact .inr (.inl rfl)
    · exact .inr (.inr (write_well h _ _))
theorem syn_well {D : Disk} (h : Well D) {nm : Bs} (hm : may nm = true) (hf : PlainDisk.find D.fs nm ≠ none) : PlainDisk.sync may D nm = (synced D nm, 0) := by
  unfold PlainDisk.sync
  rw [if_neg (by rw [h.1]; decide), if_neg (by rw [hm]; decide), if_neg hf]
  exact write_well h _ _
theorem well_grown {D : Disk} (h : Well D) (nm b : Bs) : Well (grown D nm b) := h
theorem well_synced {D : Disk} (h : Well D) (nm : Bs) : Well (synced D nm) := h
theorem find_grown {D : Disk} (hs : PlainDisk.Sorted D.fs) (nm b k : Bs) : PlainDisk.find (grown D nm b).fs k = if k = nm then some (PlainDisk.grow b ((PlainDisk.find D.fs nm).getD ⟨nm, [], 0⟩)) else PlainDisk.find D.fs k := by
  unfold grown
  simp only
  rw [PlainDisk.find_upd (t := PlainDisk.grow b) (fun _ => rfl), PlainDisk.find_made hs]
  by_cases h : k = nm
  · subst h; simp
  · rw [if_neg h, if_neg h, if_neg h]
theorem find_synced (D : Disk) (nm k : Bs) : PlainDisk.find (synced D nm).fs k = if k = nm then (PlainDisk.find D.fs k).map PlainDisk.syncF else PlainDisk.find D.fs k := PlainDisk.find_upd (t := PlainDisk.syncF) (fun _ => rfl) k
theorem rd_grown {D : Disk} (hs : PlainDisk.Sorted D.fs) (nm b k : Bs) : PWal.rdB (grown D nm b) k = if k = nm then PWal.rdB D nm ++ b else PWal.rdB D k := by
  unfold PWal.rdB
  rw [find_grown hs]
  by_cases h : k = nm
  · rw [if_pos h, if_pos h]
    cases PlainDisk.find D.fs nm <;> rfl
  · rw [if_neg h, if_neg h]
theorem sure_grown {D : Disk} (hs : PlainDisk.Sorted D.fs) (nm b k : Bs) : PWal.sureB (grown D nm b) k = PWal.sureB D k := by
  unfold PWal.sureB
  rw [find_grown hs]
  by_cases h : k = nm
  · rw [if_pos h, h]
    cases PlainDisk.find D.fs nm <;> rfl
  · rw [if_neg h]
theorem rd_synced (D : Disk) (nm k : Bs) : PWal.rdB (synced D nm) k = PWal.rdB D k := by
  unfold PWal.rdB
  rw [find_synced]
  by_cases h : k = nm
  · rw [if_pos h]; cases PlainDisk.find D.fs k <;> rfl
  · rw [if_neg h]
theorem sure_synced (D : Disk) (nm k : Bs) : PWal.sureB (synced D nm) k = if k = nm then (PWal.rdB D nm).length else PWal.sureB D k := by
  unfold PWal.sureB PWal.rdB
  rw [find_synced]
  by_cases h : k = nm
  · rw [if_pos h, if_pos h, h]; cases PlainDisk.find D.fs nm <;> rfl
  · rw [if_neg h, if_neg h]
theorem segs_synced (D : Disk) (nm : Bs) : PWal.segs (synced D nm) = PWal.segs D := by
  unfold PWal.segs synced
  simp only
  rw [PlainDisk.upd_name (t := PlainDisk.syncF) (fun _ => rfl)]
theorem segs_grown_old {D : Disk} {nm : Bs} (b : Bs) (h : PlainDisk.find D.fs nm ≠ none ∨ PWal.segNo nm = 0) : PWal.segs (grown D nm b) = PWal.segs D := by
  unfold PWal.segs grown
  simp only
  rw [PlainDisk.upd_name (t := PlainDisk.grow b) (fun _ => rfl)]
  unfold PlainDisk.made
  split
  · rename_i hn
    exact segs_put_no (by rcases h with h | h; exact absurd hn h; exact h) D.fs
  · rfl
theorem segs_grown_new {D : Disk} (hs : PlainDisk.Sorted D.fs) {n : Nat} (b : Bs) (h1 : 1 ≤ n) (h2 : n ≤ 9999999999) (hf : PlainDisk.find D.fs (PWal.segN n) = none) (ha : ∀ m ∈ PWal.segs D, m < n) : PWal.segs (grown D (PWal.segN n) b) = PWal.segs D ++ [n] := by
  unfold PWal.segs grown
  simp only
  rw [PlainDisk.upd_name (t := PlainDisk.grow b) (fun _ => rfl)]
  unfold PlainDisk.made
  rw [if_pos hf]
  have hn := segNo_segN h1 h2
  have := segs_put (f := ⟨PWal.segN n, [], 0⟩) (by simp only; omega) D.fs hs (fun m hm => by simp only; rw [hn]; exact ha m hm)
  simp only [hn] at this
  exact this
/-- a file that is moved -/
def movedTo (D : Disk) (f : File) (a b : Bs) : Disk := { D with fs := PlainDisk.moved D.fs f a b }
theorem move_well {D : Disk} (h : Well D) {a b : Bs} (ha : may a = true) (hb : may b = true) {f : File} (hf : PlainDisk.find D.fs a = some f) : PlainDisk.move may D a b = (movedTo D f a b, 0) := by
  unfold PlainDisk.move
  rw [if_neg (by rw [h.1]; decide), if_neg (by rw [ha, hb]; decide), hf]
  exact write_well h _ _
theorem find_moved {D : Disk} (hs : PlainDisk.Sorted D.fs) (f : File) (a b k : Bs) : PlainDisk.find (movedTo D f a b).fs k = if k = b then some { f with name := b } else if k = a then none else PlainDisk.find D.fs k := by
  unfold movedTo PlainDisk.moved
  have h2 := PlainDisk.sorted_drop b (PlainDisk.sorted_drop a hs)
  rw [PlainDisk.find_put h2 (by rw [PlainDisk.find_drop, if_pos rfl])]
  by_cases h : k = b
  · rw [if_pos h, if_pos h]
  · rw [if_neg h, if_neg h, PlainDisk.find_drop, if_neg h, PlainDisk.find_drop]
theorem segs_moved {D : Disk} {f : File} {a b : Bs} (ha : PWal.segNo a = 0) (hb : PWal.segNo b = 0) : PWal.segs (movedTo D f a b) = PWal.segs D := by
  unfold PWal.segs movedTo PlainDisk.moved
  simp only
  rw [segs_put_no (f := { f with name := b }) hb, segs_drop_no hb, segs_drop_no ha]
def dropped (D : Disk) (nm : Bs) : Disk := { D with fs := PlainDisk.drop D.fs nm }
theorem drop_well {D : Disk} (h : Well D) {nm : Bs} (hm : may nm = true) (hf : PlainDisk.find D.fs nm ≠ none) : PlainDisk.dropA may D nm = (dropped D nm, 0) := by
  unfold PlainDisk.dropA
  rw [if_neg (by rw [h.1]; decide), if_neg (by rw [hm]; decide), if_neg hf]
  exact write_well h _ _
theorem find_dropped (D : Disk) (nm k : Bs) : PlainDisk.find (dropped D nm).fs k = if k = nm then none else PlainDisk.find D.fs k := PlainDisk.find_drop _ _ _
/-- the first segment dropped -/
theorem segs_dropped_first {D : Disk} (hs : PlainDisk.Sorted D.fs) {n : Nat} {r : List Nat} {nm : Bs} (hn : PWal.segNo nm = n) (h : PWal.segs D = n :: r) (hf : PlainDisk.find D.fs nm ≠ none) : PWal.segs (dropped D nm) = r := by
  unfold PWal.segs dropped at *
  have key : ∀ (fs : List File), PlainDisk.Sorted fs → PlainDisk.find fs nm ≠ none → ∀ r, PWal.segsOf (fs.map (·.name)) = n :: r → PWal.segsOf ((PlainDisk.drop fs nm).map (·.name)) = r := by
    intro fs
    induction fs with
    | nil => intro _ hf; exact absurd rfl hf
    | cons g t ih =>
      intro hs hf r hr
      rw [PlainDisk.find_cons] at hf
      rw [PlainDisk.drop_cons]
      rw [List.map_cons, segsOf_cons] at hr
      by_cases e : g.name = nm
      · rw [if_pos e]
        have h0 : 0 < n := by
          have : n ∈ PWal.segsOf ((g :: t).map (·.name)) := by rw [List.map_cons, segsOf_cons, hr]; simp
          obtain ⟨_, _, _, h0⟩ := segsOf_mem this
          exact h0
        rw [e, hn, if_pos h0] at hr
        have hr : PWal.segsOf (t.map (·.name)) = r := by simpa using hr
        rw [PlainDisk.drop_none]
        · exact hr
        · unfold PlainDisk.find
          rw [List.find?_eq_none]
          intro x hx q
          exact PlainDisk.bl_ne (hs.1 x hx) (e.trans (beq_iff_eq.1 q).symm)
      · rw [if_neg e] at hf ⊢
        by_cases h0 : 0 < PWal.segNo g.name
        · rw [if_pos h0] at hr
          simp only [List.cons_append, List.nil_append, List.cons.injEq] at hr
          exfalso
          cases hq : PlainDisk.find t nm with
          | none => exact hf hq
          | some f =>
            have h1 := hs.1 f (PlainDisk.find_mem hq)
            rw [PlainDisk.find_name hq] at h1
            have := seg_lt h0 (by rw [hn]; omega) h1
            omega
        · rw [if_neg h0] at hr
          rw [List.map_cons, segsOf_cons, if_neg h0]
          exact ih hs.2 hf r hr
  exact key D.fs hs hf r h
end Go.Proofs.YtjcikhacekmcfaaGreatDoor
