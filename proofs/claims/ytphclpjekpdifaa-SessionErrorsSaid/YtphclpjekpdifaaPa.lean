import Derived.Test.YtphclpjekpdifaaMl
namespace Go.Proofs.Ytphclpjekpdifaa.SP
set_option linter.unusedVariables false
open Go.Proofs.Ytphclpjekpdifaa.Wi.Pl (It)
/-! ### a table of sessions, plain -/
structure Rp where
  e : Int
  s : ByteArray
  a : Int
  b : Int
  c : Int
  n : Int
structure Ses where
  id : Int
  seq : Int
  r : Rp
  u : Int
structure Tb where
  clk : Int
  lst : Int
  L : List Ses
def r0 : Rp := ⟨0, ⟨#[]⟩, 0, 0, 0, 0⟩
def rE (e : Int) : Rp := ⟨e, ⟨#[]⟩, 0, 0, 0, 0⟩
def M : Int := 4611686018427387904
def t0 : Tb := ⟨0, 0, []⟩
def findS (L : List Ses) (id : Int) : Option Ses := L.find? fun s => s.id == id
def verd (seq q : Int) : Int := if q > M then 4 else if q > 0 ∧ q = seq then 2 else if q = seq + 1 then 1 else 4
def check (T : Tb) (id q : Int) : Int × Rp :=
  match findS T.L id with
  | none => (3, rE 20)
  | some s => if verd s.seq q = 1 then (1, r0) else if verd s.seq q = 2 then (2, s.r) else (4, rE 21)
def mayP (r : Rp) : Bool := Wi.mayR r.e r.s
def setS (L : List Ses) (x : Ses) : List Ses := L.map fun s => if s.id = x.id then x else s
def did (T : Tb) (s : Ses) (q : Int) (r : Rp) : Ses := if verd s.seq q = 1 then ⟨s.id, q, r, T.clk⟩ else ⟨s.id, s.seq, s.r, T.clk⟩
def done (T : Tb) (id q : Int) (r : Rp) : Tb × Int :=
  match findS T.L id with
  | none => (T, 20)
  | some s => if verd s.seq q = 4 then (T, 21) else if mayP r = true then ({ T with L := setS T.L (did T s q r) }, 0) else (T, 4)
def tick (T : Tb) : Tb := if T.clk < M then { T with clk := T.clk + 1 } else T
def reg (T : Tb) : Tb × Int × Int := if 32 ≤ T.L.length ∨ M ≤ T.lst then (T, 0, 3) else (⟨T.clk, T.lst + 1, T.L ++ [⟨T.lst + 1, 0, r0, T.clk⟩]⟩, T.lst + 1, 0)
def old (T : Tb) (idle : Int) (s : Ses) : Bool := decide (max idle 0 ≤ T.clk - s.u)
def keptL (T : Tb) (idle : Int) : List Ses := T.L.filter fun s => !old T idle s
def expire (T : Tb) (idle : Int) : Tb × Int := ({ T with L := keptL T idle }, (T.L.length : Int) - ((keptL T idle).length : Int))
def ids (T : Tb) : List Int := T.L.map fun s => s.id
/-! ### what always holds -/
def I64 (n : Int) : Prop := -9223372036854775808 ≤ n ∧ n ≤ 9223372036854775807
structure RpI (r : Rp) : Prop where
  a : I64 r.a
  b : I64 r.b
  c : I64 r.c
  n : I64 r.n
structure SInv (T : Tb) (s : Ses) : Prop where
  id1 : 1 ≤ s.id
  id2 : s.id ≤ T.lst
  sq1 : 0 ≤ s.seq
  sq2 : s.seq ≤ M
  u1 : 0 ≤ s.u
  u2 : s.u ≤ T.clk
  z : s.seq = 0 → s.r = r0
  p : mayP s.r = true
  i : RpI s.r
structure Inv (T : Tb) : Prop where
  c1 : 0 ≤ T.clk
  c2 : T.clk ≤ M
  l1 : 0 ≤ T.lst
  l2 : T.lst ≤ M
  len : T.L.length ≤ 32
  srt : T.L.Pairwise fun a b => a.id < b.id
  all : ∀ s ∈ T.L, SInv T s
theorem i64_0 : I64 0 := by unfold I64; omega
theorem rpI_0 : RpI r0 := ⟨i64_0, i64_0, i64_0, i64_0⟩
theorem mayP_0 : mayP r0 = true := by decide
theorem inv_t0 : Inv t0 := ⟨by simp [t0], by simp [t0, M], by simp [t0], by simp [t0, M], by simp [t0], List.Pairwise.nil, fun s h => by cases h⟩
theorem inv_tick {T : Tb} (h : Inv T) : Inv (tick T) := by
  unfold tick
  split
  · rename_i hc
    exact ⟨by have := h.c1; show 0 ≤ T.clk + 1; omega, by show T.clk + 1 ≤ M; omega, h.l1, h.l2, h.len, h.srt, fun s hs => by
      have q := h.all s hs
      exact ⟨q.id1, q.id2, q.sq1, q.sq2, q.u1, by have := q.u2; show s.u ≤ T.clk + 1; omega, q.z, q.p, q.i⟩⟩
  · exact h
theorem inv_reg {T : Tb} (h : Inv T) : Inv (reg T).1 := by
  unfold reg
  split
  · exact h
  · rename_i hc
    have hl := h.l1
    have hc1 := h.c1
    have : ¬ 32 ≤ T.L.length ∧ ¬ M ≤ T.lst := ⟨fun q => hc (.inl q), fun q => hc (.inr q)⟩
    refine ⟨h.c1, h.c2, by show 0 ≤ T.lst + 1; omega, by show T.lst + 1 ≤ M; omega, by show (T.L ++ _).length ≤ 32; rw [List.length_append]; simp; omega, ?_, ?_⟩
    · show (T.L ++ _).Pairwise _
      rw [List.pairwise_append]
      refine ⟨h.srt, by simp, fun a ha b hb => ?_⟩
      obtain rfl := List.mem_singleton.1 hb
      have := (h.all a ha).id2
      show a.id < T.lst + 1
      omega
    · intro s hs
      rcases List.mem_append.1 hs with hs | hs
      · have q := h.all s hs
        exact ⟨q.id1, by have := q.id2; show s.id ≤ T.lst + 1; omega, q.sq1, q.sq2, q.u1, q.u2, q.z, q.p, q.i⟩
      · obtain rfl := List.mem_singleton.1 hs
        exact ⟨by show 1 ≤ T.lst + 1; omega, by show T.lst + 1 ≤ T.lst + 1; omega, by simp, by simp [M], h.c1, by simp, fun _ => rfl, mayP_0, rpI_0⟩
theorem inv_expire {T : Tb} (h : Inv T) (idle : Int) : Inv (expire T idle).1 :=
  ⟨h.c1, h.c2, h.l1, h.l2, Nat.le_trans (List.length_filter_le _ _) h.len, List.Pairwise.filter _ h.srt, fun s hs => by
    have q := h.all s (List.mem_filter.1 hs).1
    exact ⟨q.id1, q.id2, q.sq1, q.sq2, q.u1, q.u2, q.z, q.p, q.i⟩⟩
theorem find_mem {L : List Ses} {id : Int} {s : Ses} (h : findS L id = some s) : s ∈ L ∧ s.id = id :=
  ⟨List.mem_of_find?_eq_some h, by have := List.find?_some h; simpa using this⟩
theorem setS_ids (L : List Ses) (x : Ses) : (setS L x).map (fun s => s.id) = L.map fun s => s.id := by
  unfold setS
  rw [List.map_map]
  refine List.map_congr_left fun s hs => ?_
  show (if s.id = x.id then x else s).id = s.id
  split
  · rename_i h; exact h.symm
  · rfl
theorem pw_ids {L : List Ses} : L.Pairwise (fun a b => a.id < b.id) ↔ (L.map fun s => s.id).Pairwise (· < ·) := by
  rw [List.pairwise_map]
theorem did_id (T : Tb) (s : Ses) (q : Int) (r : Rp) : (did T s q r).id = s.id := by unfold did; split <;> rfl
theorem verd_1 {seq q : Int} (h : verd seq q = 1) : q = seq + 1 ∧ q ≤ M := by
  unfold verd at h
  split at h
  · omega
  · split at h
    · omega
    · split at h
      · omega
      · omega
theorem verd_2 {seq q : Int} (h : verd seq q = 2) : q = seq ∧ 0 < q ∧ q ≤ M := by
  unfold verd at h
  split at h
  · omega
  · split at h
    · omega
    · split at h
      · omega
      · omega
theorem verd_or (seq q : Int) : verd seq q = 1 ∨ verd seq q = 2 ∨ verd seq q = 4 := by
  unfold verd
  split
  · exact .inr (.inr rfl)
  · split
    · exact .inr (.inl rfl)
    · split
      · exact .inl rfl
      · exact .inr (.inr rfl)
theorem inv_set {T : Tb} (h : Inv T) {x : Ses} (hx : SInv T x) : Inv { T with L := setS T.L x } := by
  refine ⟨h.c1, h.c2, h.l1, h.l2, by show (setS T.L x).length ≤ 32; unfold setS; rw [List.length_map]; exact h.len, ?_, fun s hs => ?_⟩
  · show (setS T.L x).Pairwise _
    rw [pw_ids, setS_ids, ← pw_ids]
    exact h.srt
  · have hs : s ∈ setS T.L x := hs
    unfold setS at hs
    obtain ⟨y, hy, rfl⟩ := List.mem_map.1 hs
    split
    · exact ⟨hx.id1, hx.id2, hx.sq1, hx.sq2, hx.u1, hx.u2, hx.z, hx.p, hx.i⟩
    · have q := h.all y hy
      exact ⟨q.id1, q.id2, q.sq1, q.sq2, q.u1, q.u2, q.z, q.p, q.i⟩
theorem inv_done {T : Tb} (h : Inv T) (id q : Int) {r : Rp} (hr : RpI r) : Inv (done T id q r).1 := by
  unfold done
  cases hf : findS T.L id with
  | none => exact h
  | some s =>
    obtain ⟨hm, _⟩ := find_mem hf
    have hs := h.all s hm
    dsimp only
    split
    · exact h
    · split
      · rename_i hv hp
        refine inv_set h ?_
        have hc := h.c1
        unfold did
        split
        · rename_i h1
          have := verd_1 h1
          have := hs.sq1
          exact ⟨hs.id1, hs.id2, by show 0 ≤ q; omega, by show q ≤ M; omega, hc, by simp, fun e => by have e : q = 0 := e; omega, hp, hr⟩
        · exact ⟨hs.id1, hs.id2, hs.sq1, hs.sq2, hc, by simp, hs.z, hs.p, hs.i⟩
      · exact h
/-! ### found by its number -/
theorem find_split {L : List Ses} (hs : L.Pairwise fun a b => a.id < b.id) {id : Int} {k : Nat} {s : Ses} (hk : L[k]? = some s) (he : s.id = id) : findS L id = some s := by
  unfold findS
  rw [List.find?_eq_some_iff_getElem]
  obtain ⟨hl, hx⟩ := List.getElem?_eq_some_iff.1 hk
  refine ⟨by simp [he], k, hl, hx, fun j hj => ?_⟩
  have := (List.pairwise_iff_getElem.1 hs) j k (by omega) hl hj
  rw [hx, he] at this
  have hne : ¬ L[j].id = id := by omega
  simp [hne]
theorem find_none' {L : List Ses} {id : Int} (h : ∀ s ∈ L, s.id ≠ id) : findS L id = none := by
  unfold findS
  rw [List.find?_eq_none]
  intro s hs
  simp [h s hs]
theorem find_place {L : List Ses} {id : Int} {s : Ses} (h : findS L id = some s) : ∃ k : Nat, L[k]? = some s := by
  obtain ⟨hm, _⟩ := find_mem h
  obtain ⟨k, hk, hx⟩ := List.getElem_of_mem hm
  exact ⟨k, by rw [← hx]; exact List.getElem?_eq_getElem hk⟩
theorem setS_at {L : List Ses} (hs : L.Pairwise fun a b => a.id < b.id) {k : Nat} {s x : Ses} (hk : L[k]? = some s) (hx : x.id = s.id) : setS L x = L.set k x := by
  obtain ⟨hl, hq⟩ := List.getElem?_eq_some_iff.1 hk
  unfold setS
  apply List.ext_getElem
  · simp
  · intro i h1 h2
    rw [List.getElem_map, List.getElem_set]
    have hi : i < L.length := by simpa using h1
    by_cases e : k = i
    · subst e
      simp [hq, hx]
    · rw [if_neg e]
      have : L[i].id ≠ x.id := by
        rw [hx, ← hq]
        rcases Nat.lt_or_gt_of_ne e with q | q
        · have := (List.pairwise_iff_getElem.1 hs) k i hl hi q; omega
        · have := (List.pairwise_iff_getElem.1 hs) i k hi hl q; omega
      rw [if_neg this]
theorem find_set_self {L : List Ses} {id : Int} {s x : Ses} (h : findS L id = some s) (hx : x.id = id) : findS (setS L x) id = some x := by
  unfold findS setS at *
  induction L with
  | nil => cases h
  | cons y r ih =>
    rw [List.map_cons, List.find?_cons]
    rw [List.find?_cons] at h
    by_cases e : y.id = id
    · rw [if_pos (by rw [e, hx])]
      simp [hx]
    · rw [if_neg (by rw [hx]; exact e)]
      simp only [beq_eq_false_iff_ne.2 e] at h ⊢
      exact ih h
theorem find_set_other {L : List Ses} {id : Int} {x : Ses} (hx : x.id ≠ id) : findS (setS L x) id = findS L id := by
  unfold findS setS
  induction L with
  | nil => rfl
  | cons y r ih =>
    rw [List.map_cons, List.find?_cons, List.find?_cons, ih]
    by_cases e : y.id = x.id
    · rw [if_pos e]
      simp only [beq_eq_false_iff_ne.2 hx, beq_eq_false_iff_ne.2 (e.symm ▸ hx : y.id ≠ id)]
    · rw [if_neg e]
end Go.Proofs.Ytphclpjekpdifaa.SP
