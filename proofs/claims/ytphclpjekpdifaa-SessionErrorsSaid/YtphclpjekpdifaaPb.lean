import Derived.Test.YtphclpjekpdifaaPa
namespace Go.Proofs.Ytphclpjekpdifaa.SP
set_option linter.unusedVariables false
/-! ### acts, and what the laws say of them, plain -/
structure Act where
  k : Int
  id : Int
  q : Int
  n : Int
  r : Rp
def play (T : Tb) (x : Act) : Tb :=
  if x.k = 0 then (reg T).1 else if x.k = 1 then tick T else if x.k = 2 ∨ x.k = 3 then (done T x.id x.q x.r).1 else if x.k = 4 then (expire T x.n).1 else T
def run (T : Tb) : List Act → Tb
  | [] => T
  | x :: r => run (play T x) r
theorem run_snoc (T : Tb) (l : List Act) (x : Act) : run T (l ++ [x]) = play (run T l) x := by
  induction l generalizing T with
  | nil => rfl
  | cons y r ih => exact ih _
theorem inv_play {T : Tb} (h : Inv T) (x : Act) (hx : RpI x.r) : Inv (play T x) := by
  unfold play
  split
  · exact inv_reg h
  · split
    · exact inv_tick h
    · split
      · exact inv_done h _ _ hx
      · split
        · exact inv_expire h _
        · exact h
theorem lst_play (T : Tb) (x : Act) : (play T x).lst ≤ T.lst + 1 ∧ T.lst ≤ (play T x).lst := by
  unfold play
  split
  · unfold reg; split <;> (dsimp only; omega)
  · split
    · unfold tick
      split
      · show T.lst ≤ _ ∧ _ ≤ T.lst; omega
      · omega
    · split
      · unfold done
        split
        · show T.lst ≤ _ ∧ _ ≤ T.lst; omega
        · split
          · show T.lst ≤ _ ∧ _ ≤ T.lst; omega
          · split
            · show T.lst ≤ _ ∧ _ ≤ T.lst; omega
            · show T.lst ≤ _ ∧ _ ≤ T.lst; omega
      · split
        · show T.lst ≤ _ ∧ _ ≤ T.lst; omega
        · omega
theorem lst_keep {T : Tb} {x : Act} (h : x.k ≠ 0) : (play T x).lst = T.lst := by
  unfold play
  rw [if_neg h]
  split
  · unfold tick; split <;> rfl
  · split
    · unfold done
      split
      · rfl
      · split
        · rfl
        · split <;> rfl
    · split <;> rfl
/-! checks -/
theorem check_err (T : Tb) (id q : Int) : (check T id q).1 = 1 ∨ (check T id q).1 = 2 ∨ (check T id q).1 = 3 ∨ (check T id q).1 = 4 := by
  unfold check
  split
  · exact .inr (.inr (.inl rfl))
  · split
    · exact .inl rfl
    · split
      · exact .inr (.inl rfl)
      · exact .inr (.inr (.inr rfl))
theorem done_no {T : Tb} {id q : Int} {r : Rp} (h : 2 < (check T id q).1) : done T id q r = (T, (check T id q).2.e) := by
  unfold check at h ⊢
  unfold done
  cases e : findS T.L id with
  | none => rfl
  | some s =>
    rw [e] at h
    dsimp only at h ⊢
    split at h
    · omega
    · split at h
      · omega
      · rename_i h1 h2
        rw [if_neg h1, if_neg h2]
        have := verd_or s.seq q
        rw [if_pos (by omega)]
        rfl
theorem done_form {T : Tb} {id q : Int} {r : Rp} (h : ¬ 2 < (check T id q).1) (hp : mayP r = false) : done T id q r = (T, 4) := by
  unfold check at h
  unfold done
  cases e : findS T.L id with
  | none => rw [e] at h; exact absurd (show (2 : Int) < 3 by omega) h
  | some s =>
    rw [e] at h
    dsimp only at h ⊢
    have := verd_or s.seq q
    split at h
    · rw [if_neg (by omega), hp]; rfl
    · split at h
      · rw [if_neg (by omega), hp]; rfl
      · exact absurd (by omega) h
theorem check_some {T : Tb} {id : Int} {s : Ses} (q : Int) (h : findS T.L id = some s) : check T id q = if verd s.seq q = 1 then (1, r0) else if verd s.seq q = 2 then (2, s.r) else (4, rE 21) := by
  unfold check
  rw [h]
theorem check_none {T : Tb} {id : Int} (q : Int) (h : findS T.L id = none) : check T id q = (3, rE 20) := by
  unfold check
  rw [h]
theorem verd_self {q : Int} (h0 : 0 < q) (hM : q ≤ M) : verd q q = 2 := by
  unfold verd
  rw [if_neg (by omega), if_pos ⟨h0, rfl⟩]
theorem done_new {T : Tb} (hI : Inv T) {id q : Int} {r : Rp} (h : (check T id q).1 = 1) (hp : mayP r = true) : ∃ s, findS T.L id = some s ∧ q = s.seq + 1 ∧ 0 < q ∧ q ≤ M ∧ done T id q r = ({ T with L := setS T.L ⟨s.id, q, r, T.clk⟩ }, 0) ∧ findS (setS T.L ⟨s.id, q, r, T.clk⟩) id = some ⟨s.id, q, r, T.clk⟩ := by
  cases e : findS T.L id with
  | none => rw [check_none q e] at h; exact absurd h (by decide)
  | some s =>
    rw [check_some q e] at h
    have hv : verd s.seq q = 1 := by
      have := verd_or s.seq q
      split at h
      · assumption
      · split at h
        · exact absurd (show (2 : Int) = 1 from h) (by decide)
        · exact absurd (show (4 : Int) = 1 from h) (by decide)
    obtain ⟨hm, hid⟩ := find_mem e
    have := verd_1 hv
    have := (hI.all s hm).sq1
    refine ⟨s, rfl, by omega, by omega, by omega, ?_, find_set_self e hid⟩
    unfold done did
    rw [e]
    dsimp only
    rw [if_neg (by omega), if_pos hp, if_pos hv]
theorem done_again {T : Tb} {id q : Int} {r : Rp} (h : (check T id q).1 = 2) (hp : mayP r = true) : ∃ s, findS T.L id = some s ∧ verd s.seq q = 2 ∧ check T id q = (2, s.r) ∧ done T id q r = ({ T with L := setS T.L ⟨s.id, s.seq, s.r, T.clk⟩ }, 0) ∧ findS (setS T.L ⟨s.id, s.seq, s.r, T.clk⟩) id = some ⟨s.id, s.seq, s.r, T.clk⟩ := by
  cases e : findS T.L id with
  | none => rw [check_none q e] at h; exact absurd h (by decide)
  | some s =>
    rw [check_some q e] at h
    have hv : verd s.seq q = 2 := by
      have := verd_or s.seq q
      split at h
      · exact absurd h (by decide)
      · split at h
        · assumption
        · exact absurd (show (4 : Int) = 2 from h) (by decide)
    obtain ⟨hm, hid⟩ := find_mem e
    refine ⟨s, rfl, hv, by rw [check_some q e, if_neg (by omega), if_pos hv], ?_, find_set_self e hid⟩
    unfold done did
    rw [e]
    dsimp only
    rw [if_neg (by omega), if_pos hp, if_neg (by omega)]
theorem done_yes {T : Tb} (hI : Inv T) {id q : Int} {r : Rp} (h : ¬ 2 < (check T id q).1) (hp : mayP r = true) :
    (done T id q r).2 = 0 ∧ (check (done T id q r).1 id q).1 = 2 ∧ ((check T id q).1 = 1 ∧ (check (done T id q r).1 id q).2 = r ∨ (check T id q).1 = 2 ∧ (check (done T id q r).1 id q).2 = (check T id q).2) := by
  rcases check_err T id q with h1 | h1 | h1 | h1
  · obtain ⟨s, e, _, h0, hM, hd, hf⟩ := done_new hI h1 hp
    rw [hd]
    have hc := check_some q (T := { T with L := setS T.L ⟨s.id, q, r, T.clk⟩ }) hf
    rw [if_neg (by rw [verd_self h0 hM]; decide), if_pos (verd_self h0 hM)] at hc
    exact ⟨rfl, by rw [hc], .inl ⟨h1, by rw [hc]⟩⟩
  · obtain ⟨s, e, hv, hk, hd, hf⟩ := done_again (r := r) h1 hp
    rw [hd]
    have hc := check_some q (T := { T with L := setS T.L ⟨s.id, s.seq, s.r, T.clk⟩ }) hf
    have hv' : verd (Ses.mk s.id s.seq s.r T.clk).seq q = 2 := hv
    rw [if_neg (by rw [hv']; decide), if_pos hv'] at hc
    exact ⟨rfl, by rw [hc], .inr ⟨h1, by rw [hc, hk]⟩⟩
  · omega
  · omega
/-! a tick changes the clock alone -/
theorem check_tick (T : Tb) (id q : Int) : check (tick T) id q = check T id q := by
  unfold tick
  split <;> rfl
/-! others' acts -/
theorem check_L {T T' : Tb} {id : Int} (q : Int) (h : findS T'.L id = findS T.L id) : check T' id q = check T id q := by
  unfold check
  rw [h]
theorem find_done {T : Tb} {id id' q : Int} {r : Rp} (h : id' ≠ id) : findS (done T id' q r).1.L id = findS T.L id := by
  unfold done
  cases e : findS T.L id' with
  | none => rfl
  | some s =>
    dsimp only
    split
    · rfl
    · split
      · exact find_set_other (by rw [did_id, (find_mem e).2]; exact h)
      · rfl
theorem find_play {T : Tb} {id : Int} {x : Act} (h : x.id ≠ id) (h1 : 1 ≤ x.k) (h3 : x.k ≤ 3) : findS (play T x).L id = findS T.L id := by
  unfold play
  rw [if_neg (by omega)]
  split
  · unfold tick; split <;> rfl
  · rw [if_pos (by omega)]
    exact find_done h
/-! what is done is never new again -/
structure Onc (id q : Int) (r : Rp) (T : Tb) : Prop where
  inv : Inv T
  le : id ≤ T.lst
  f : ∀ s, findS T.L id = some s → q ≤ s.seq ∧ (s.seq = q → s.r = r)
def rk (id q : Int) (T : Tb) : Int :=
  match findS T.L id with
  | none => 2
  | some s => if s.seq = q then 0 else 1
theorem onc_new {T : Tb} (hI : Inv T) {id q : Int} {r : Rp} (hr : RpI r) (h : (check T id q).1 = 1) (hd0 : (done T id q r).2 = 0) : Onc id q r (done T id q r).1 ∧ 0 < q ∧ q ≤ M := by
  have hp : mayP r = true := by
    cases hp : mayP r with
    | true => rfl
    | false => rw [done_form (by omega) hp] at hd0; exact absurd (show (4 : Int) = 0 from hd0) (by decide)
  obtain ⟨s, e, hq, h0, hM, hd, hf⟩ := done_new hI h hp
  have hi := inv_done hI id q hr
  rw [hd] at hi ⊢
  obtain ⟨hm, hid⟩ := find_mem e
  refine ⟨⟨hi, by rw [← hid]; exact (hI.all s hm).id2, fun s' hs' => ?_⟩, h0, hM⟩
  have : findS (setS T.L ⟨s.id, q, r, T.clk⟩) id = some s' := hs'
  rw [hf] at this
  cases this
  exact ⟨Int.le_refl _, fun _ => rfl⟩
/-- what an act makes of a session -/
theorem find_any (T : Tb) (hI : Inv T) (x : Act) (id : Int) (hle : id ≤ T.lst) : findS (play T x).L id = none ∨ ∃ s s', findS T.L id = some s ∧ findS (play T x).L id = some s' ∧ (s'.seq = s.seq ∧ s'.r = s.r ∨ s'.seq = s.seq + 1) := by
  have same : ∀ T' : Tb, findS T'.L id = findS T.L id → findS T'.L id = none ∨ ∃ s s', findS T.L id = some s ∧ findS T'.L id = some s' ∧ (s'.seq = s.seq ∧ s'.r = s.r ∨ s'.seq = s.seq + 1) := fun T' h => by
    cases e : findS T.L id with
    | none => exact .inl (h.trans e)
    | some s => exact .inr ⟨s, s, rfl, h.trans e, .inl ⟨rfl, rfl⟩⟩
  unfold play
  split
  · refine same _ ?_
    unfold reg
    split
    · rfl
    · show findS (T.L ++ _) id = _
      unfold findS
      rw [List.find?_append]
      cases T.L.find? fun s => s.id == id with
      | some s => rfl
      | none =>
        have : ¬ T.lst + 1 = id := by omega
        simp [this]
  · split
    · refine same _ ?_
      unfold tick; split <;> rfl
    · split
      · by_cases hx : x.id = id
        · unfold done
          rw [hx]
          cases e : findS T.L id with
          | none => exact .inl e
          | some s =>
            dsimp only
            split
            · exact .inr ⟨s, s, rfl, e, .inl ⟨rfl, rfl⟩⟩
            · split
              · rename_i hv hp
                have hf := find_set_self (x := did T s x.q x.r) e (by rw [did_id]; exact (find_mem e).2)
                refine .inr ⟨s, _, rfl, hf, ?_⟩
                unfold did
                split
                · rename_i h1
                  exact .inr (verd_1 h1).1
                · exact .inl ⟨rfl, rfl⟩
              · exact .inr ⟨s, s, rfl, e, .inl ⟨rfl, rfl⟩⟩
        · exact same _ (find_done hx)
      · split
        · unfold expire keptL
          dsimp only
          cases e : findS (T.L.filter fun s => !old T x.n s) id with
          | none => exact .inl rfl
          | some s' =>
            obtain ⟨hm, hid⟩ := find_mem e
            obtain ⟨k, hk, hx⟩ := List.getElem_of_mem (List.mem_filter.1 hm).1
            exact .inr ⟨s', s', find_split hI.srt (k := k) (by rw [← hx]; exact List.getElem?_eq_getElem hk) hid, rfl, .inl ⟨rfl, rfl⟩⟩
        · exact same _ rfl
theorem onc_play {T : Tb} {id q : Int} {r : Rp} (h : Onc id q r T) (x : Act) (hx : RpI x.r) : Onc id q r (play T x) ∧ rk id q T ≤ rk id q (play T x) := by
  have hl := (lst_play T x).2
  have hi := inv_play h.inv x hx
  have hle := h.le
  rcases find_any T h.inv x id hle with e | ⟨s, s', e, e', hs⟩
  · refine ⟨⟨hi, by omega, fun s hs => by rw [e] at hs; cases hs⟩, ?_⟩
    have : rk id q (play T x) = 2 := by unfold rk; rw [e]
    rw [this]
    unfold rk
    split
    · omega
    · split <;> omega
  · obtain ⟨f1, f2⟩ := h.f s e
    refine ⟨⟨hi, by omega, fun s2 hs2 => ?_⟩, ?_⟩
    · rw [e'] at hs2
      cases hs2
      rcases hs with ⟨a, b⟩ | a
      · exact ⟨by omega, fun q => by rw [b]; exact f2 (by omega)⟩
      · exact ⟨by omega, fun q => by omega⟩
    · unfold rk
      rw [e, e']
      dsimp only
      split
      · split <;> omega
      · rename_i hne
        have : ¬ s'.seq = q := by
          rcases hs with ⟨a, b⟩ | a
          · omega
          · omega
        rw [if_neg this]
        omega
/-- what is told of it -/
theorem onc_check {T : Tb} {id q : Int} {r : Rp} (h : Onc id q r T) (h0 : 0 < q) (hM : q ≤ M) :
    (rk id q T = 0 ∧ check T id q = (2, r)) ∨ (rk id q T = 1 ∧ (check T id q).1 = 4 ∧ ((check T id (q + 1)).1 = 2 ∨ (check T id (q + 1)).1 = 4)) ∨ (rk id q T = 2 ∧ (check T id q).1 = 3) := by
  unfold rk
  cases e : findS T.L id with
  | none => exact .inr (.inr ⟨rfl, by rw [check_none q e]⟩)
  | some s =>
    obtain ⟨f1, f2⟩ := h.f s e
    dsimp only
    by_cases hs : s.seq = q
    · rw [if_pos hs]
      refine .inl ⟨rfl, ?_⟩
      have hv : verd s.seq q = 2 := by rw [hs]; exact verd_self h0 hM
      rw [check_some q e, if_neg (by omega), if_pos hv, f2 hs]
    · rw [if_neg hs]
      refine .inr (.inl ⟨rfl, ?_, ?_⟩)
      · have hv : verd s.seq q = 4 := by
          unfold verd
          rw [if_neg (by omega), if_neg (by omega), if_neg (by omega)]
        rw [check_some q e, if_neg (by omega), if_neg (by omega)]
      · have hv : verd s.seq (q + 1) = 2 ∨ verd s.seq (q + 1) = 4 := by
          rcases verd_or s.seq (q + 1) with v | v | v
          · have := verd_1 v; omega
          · exact .inl v
          · exact .inr v
        rw [check_some (q + 1) e]
        rcases hv with v | v
        · rw [if_neg (by omega), if_pos v]; exact .inl rfl
        · rw [if_neg (by omega), if_neg (by omega)]; exact .inr rfl
end Go.Proofs.Ytphclpjekpdifaa.SP
