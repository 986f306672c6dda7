import Derived.Test.YtipclhklkngamaaRows
import Derived.WalkKit
import Derived.ProofKit
import Derived.WalkLawsBesides
import Derived.Outline
import Derived.Deep.QuietTactic
import Derived.BigQuiet
import Derived.Lib.Hide
import Derived.Lib.AppendStr
import Derived.LoopTactic
import Derived.Laws.AppendOwnNone
import Derived.StillTailTactics
namespace Go.Proofs.Ytipclhklkngamaa
open Go.RowKit
set_option linter.unusedVariables false

/-! ### a plain net -/
structure Let where
  f : Int
  t : Int
  b : ByteArray
deriving DecidableEq

structure Net where
  q : List Let
  s : List Int

namespace Net
def place (i : Int) : Bool := decide (0 ≤ i) && decide (i < 32)
def okL (l : Let) : Bool := place l.f && place l.t
def zeroL : Let := ⟨0, 0, ⟨#[]⟩⟩
def new : Net := ⟨[], List.replicate 32 0⟩
def side (N : Net) (i : Int) : Int := N.s.getD i.toNat 0
def put (N : Net) (l : Let) : Net × Int := if 400 ≤ N.q.length then (N, 40) else (⟨N.q ++ [l], N.s⟩, 0)
def send (N : Net) (l : Let) : Net × Int := if okL l = true then N.put l else (N, 1)
def at' (N : Net) (k : Int) : Option Let := if 0 ≤ k then N.q[k.toNat]? else none
def rem (N : Net) (k : Int) : Net := ⟨N.q.eraseIdx k.toNat, N.s⟩
def take (N : Net) (k : Int) : Net × Let × Int := match N.at' k with
  | none => (N, zeroL, 10)
  | some l => (N.rem k, if N.side l.f = N.side l.t then (l, 0) else (zeroL, 15))
def copy (N : Net) (k : Int) : Net × Int := match N.at' k with
  | none => (N, 10)
  | some l => N.put l
def drop (N : Net) (k : Int) : Net × Int := match N.at' k with
  | none => (N, 10)
  | some _ => (N.rem k, 0)
def bit (s : Int) (i : Nat) : Int := s / (2 ^ i : Nat) % 2
def split (N : Net) (s : Int) : Net := ⟨N.q, (List.range 32).map (bit s)⟩
structure Ok (N : Net) : Prop where
  ok : ∀ l ∈ N.q, okL l = true
  many : N.q.length ≤ 400
  sides : N.s.length = 32
  bits : ∀ x ∈ N.s, x = 0 ∨ x = 1
theorem new_ok : new.Ok := ⟨fun l h => (by cases h), by simp [new], by simp [new], fun x h => by simp [new] at h; exact .inl h⟩
theorem put_ok {N : Net} (h : N.Ok) {l : Let} (hl : okL l = true) : (N.put l).1.Ok := by
  unfold put
  split
  · exact h
  · refine ⟨fun x hx => ?_, by simp; omega, h.sides, h.bits⟩
    rcases List.mem_append.1 hx with hx | hx
    · exact h.ok x hx
    · simp only [List.mem_cons, List.not_mem_nil, or_false] at hx
      rw [hx]; exact hl
theorem send_ok {N : Net} (h : N.Ok) (l : Let) : (N.send l).1.Ok := by
  unfold send
  split
  · exact put_ok h (by assumption)
  · exact h
theorem at_mem {N : Net} {k : Int} {l : Let} (h : N.at' k = some l) : l ∈ N.q := by
  unfold at' at h
  split at h
  · exact List.mem_of_getElem? h
  · cases h
theorem rem_ok {N : Net} (h : N.Ok) (k : Int) : (N.rem k).Ok :=
  ⟨fun x hx => h.ok x (List.mem_of_mem_eraseIdx hx), by have := List.length_eraseIdx_le N.q k.toNat; have := h.many; show (N.q.eraseIdx k.toNat).length ≤ 400; omega, h.sides, h.bits⟩
theorem take_ok {N : Net} (h : N.Ok) (k : Int) : (N.take k).1.Ok := by
  unfold take
  split
  · exact h
  · exact rem_ok h k
theorem copy_ok {N : Net} (h : N.Ok) (k : Int) : (N.copy k).1.Ok := by
  unfold copy
  split
  · exact h
  · rename_i l hl
    exact put_ok h (h.ok l (at_mem hl))
theorem drop_ok {N : Net} (h : N.Ok) (k : Int) : (N.drop k).1.Ok := by
  unfold drop
  split
  · exact h
  · exact rem_ok h k
theorem bit_is (s : Int) (i : Nat) : bit s i = 0 ∨ bit s i = 1 := by
  unfold bit
  have := Int.emod_nonneg (s / (2 ^ i : Nat)) (show (2 : Int) ≠ 0 by decide)
  have := Int.emod_lt_of_pos (s / (2 ^ i : Nat)) (show (0 : Int) < 2 by decide)
  omega
theorem split_ok {N : Net} (h : N.Ok) (s : Int) : (N.split s).Ok := ⟨h.ok, h.many, by simp [split], fun x hx => by
  simp only [split, List.mem_map] at hx
  obtain ⟨i, _, rfl⟩ := hx
  exact bit_is s i⟩
theorem ok_places {l : Let} (h : okL l = true) : 0 ≤ l.f ∧ l.f < 32 ∧ 0 ≤ l.t ∧ l.t < 32 := by
  simp only [okL, place, Bool.and_eq_true, decide_eq_true_eq] at h
  exact ⟨h.1.1, h.1.2, h.2.1, h.2.2⟩
end Net

/-! ### letters in memory -/
theorem info32 : (Try.prog.info? 32).map (fun i => (i.zero, i.size, i.bytes)) = some (some (.agg #[.int .i64 0, .int .i64 0, .string ⟨#[]⟩]), 3, 32) := by kernel_rfl
theorem info_parts3 {P : Program} {t : TypeId} {z : Value} {n m : Nat} (h : (P.info? t).map (fun i => (i.zero, i.size, i.bytes)) = some (some z, n, m)) : ∃ i, P.info? t = some i ∧ i.zero = some z ∧ i.size = n ∧ i.bytes = m := by
  obtain ⟨i, hi, e⟩ := Option.map_eq_some_iff.1 h
  simp only [Prod.mk.injEq] at e
  exact ⟨i, hi, e.1, e.2.1, e.2.2⟩
def cells1 (l : Let) : List Value := [.int .i64 l.f, .int .i64 l.t, .string l.b]
def letV (l : Let) : Value := .agg #[.int .i64 l.f, .int .i64 l.t, .string l.b]
def flat : List Let → List Value
  | [] => []
  | p :: r => cells1 p ++ flat r
theorem flat_len (ps : List Let) : (flat ps).length = ps.length * 3 := by
  induction ps with
  | nil => rfl
  | cons p r ih => simp only [flat, List.length_append, ih, List.length_cons, cells1, List.length_nil]; omega
theorem flat_app (a b : List Let) : flat (a ++ b) = flat a ++ flat b := by
  induction a with
  | nil => rfl
  | cons p r ih => simp only [List.cons_append, flat, ih, List.append_assoc]
theorem flat_drop (n : Nat) (q : List Let) : flat (q.drop n) = (flat q).drop (n * 3) := by
  induction n generalizing q with
  | zero => simp
  | succ n ih =>
    cases q with
    | nil => simp [flat]
    | cons x r => rw [List.drop_succ_cons, ih, show (n + 1) * 3 = n * 3 + 3 by omega]; simp [flat, cells1]
theorem flat_take (n : Nat) (q : List Let) : flat (q.take n) = (flat q).take (n * 3) := by
  induction n generalizing q with
  | zero => simp [flat]
  | succ n ih =>
    cases q with
    | nil => simp [flat]
    | cons x r => rw [List.take_succ_cons, flat, ih, show (n + 1) * 3 = n * 3 + 3 by omega]; simp [flat, cells1]
theorem flat_at {ps : List Let} {i : Nat} {p : Let} (h : ps[i]? = some p) : (flat ps)[3 * i]? = some (.int .i64 p.f) ∧ (flat ps)[3 * i + 1]? = some (.int .i64 p.t) ∧ (flat ps)[3 * i + 2]? = some (.string p.b) := by
  induction ps generalizing i with
  | nil => simp at h
  | cons q r ih =>
    cases i with
    | zero =>
      simp only [List.getElem?_cons_zero, Option.some.injEq] at h
      subst h
      simp [flat, cells1]
    | succ i =>
      rw [List.getElem?_cons_succ] at h
      obtain ⟨a, b, c⟩ := ih h
      have e : ∀ j, (flat (q :: r))[3 * (i + 1) + j]? = (flat r)[3 * i + j]? := by
        intro j
        rw [flat, List.getElem?_append_right (by simp [cells1]; omega)]
        congr 1
        simp [cells1]; omega
      exact ⟨(e 0).trans a, (e 1).trans b, (e 2).trans c⟩
theorem one_cell (l : Let) : ∀ u ∈ cells1 l, u.oneCell' = true := by
  intro u hu
  simp only [cells1, List.mem_cons, List.not_mem_nil, or_false] at hu
  rcases hu with rfl | rfl | rfl <;> rfl
theorem flat_cell (q : List Let) : ∀ u ∈ flat q, u.oneCell' = true := by
  induction q with
  | nil => intro u hu; cases hu
  | cons x r ih =>
    intro u hu
    rcases List.mem_append.1 hu with h | h
    · exact one_cell x u h
    · exact ih u h
/-- a row of letters of the call's own -/
def OwnL (w : World) (base : Nat) (v : Value) (q : List Let) : Prop := w.ownsRow base 32 3 v q.length (flat q)
theorem OwnL.alloc {w : World} {base : Nat} {v : Value} {q : List Let} (h : OwnL w base v q) (o : Obj) : OwnL (w.alloc o) base v q := World.ownsRow.alloc h o
theorem OwnL.lt {w : World} {base : Nat} {v : Value} {q : List Let} (h : OwnL w base v q) : ∀ k, v.ownBlock = some k → base ≤ k ∧ k < w.heap.size := World.ownsRow.lt h
theorem OwnL.mono {w : World} {base base' : Nat} {v : Value} {q : List Let} (h : OwnL w base v q) (hb : base' ≤ base) : OwnL w base' v q := by
  refine ⟨h.1, ?_⟩
  rcases h.2 with h2 | ⟨g, cap, cur, e, hb, r⟩
  · exact .inl h2
  · exact .inr ⟨g, cap, cur, e, by omega, r⟩
theorem OwnL.block {w : World} {base : Nat} {v : Value} {q : List Let} (h : OwnL w base v q) : ∀ g, v.ownBlock = some g → ∃ cs, w.heap[g]? = some (.cells cs 32 (0, 0)) := by
  intro g hg
  rcases h.2 with ⟨e, _⟩ | ⟨k, cap, cur, e, hb, hk, r⟩
  · rw [e] at hg; cases hg
  · rw [e] at hg; cases hg; exact ⟨cur, hk⟩
theorem OwnL.keep {w w' : World} {base : Nat} {v : Value} {q : List Let} (h : OwnL w base v q) (hk : ∀ g, v.ownBlock = some g → w'.heap[g]? = w.heap[g]?) : OwnL w' base v q := by
  refine ⟨h.1, ?_⟩
  rcases h.2 with hn | ⟨g, cap, cur, rfl, hb, hg, r⟩
  · exact .inl hn
  · exact .inr ⟨g, cap, cur, rfl, hb, (hk g rfl).trans hg, r⟩
theorem OwnL.nil (w : World) (base : Nat) : OwnL w base (.slice none 0 0) [] := World.ownsRow_nil w base 32 3
/-- letters that are read: in a block of which P holds -/
def LsAt (w : World) (v : Value) (q : List Let) (P : Nat → Prop) : Prop :=
  ∃ A c, v = .slice A q.length c ∧ q.length ≤ c ∧ c ≤ 9223372036854775807 ∧ (A = none → c = 0) ∧
    (q ≠ [] → ∃ g off cs fz, A = some ⟨g, off, none⟩ ∧ P g ∧ w.heap[g]? = some (.cells cs 32 fz) ∧ ∀ j u, (flat q)[j]? = some u → cs[off + j]? = some u)
theorem LsAt.keep {w w' : World} {v : Value} {q : List Let} {P : Nat → Prop} (h : LsAt w v q P) (hk : ∀ g, P g → g < w.heap.size → (∃ cs fz, w.heap[g]? = some (.cells cs 32 fz)) → w'.heap[g]? = w.heap[g]?) : LsAt w' v q P := by
  obtain ⟨A, c, h1, h2, h3, h4, h5⟩ := h
  refine ⟨A, c, h1, h2, h3, h4, fun hne => ?_⟩
  obtain ⟨b, off, cs, fz, e1, e2, e3, e4⟩ := h5 hne
  exact ⟨b, off, cs, fz, e1, e2, (hk b e2 (Array.getElem?_eq_some_iff.1 e3).1 ⟨cs, fz, e3⟩).trans e3, e4⟩
theorem LsAt.mono {w : World} {v : Value} {q : List Let} {P P' : Nat → Prop} (h : LsAt w v q P) (hP : ∀ b, P b → P' b) : LsAt w v q P' := by
  obtain ⟨A, c, h1, h2, h3, h4, h5⟩ := h
  refine ⟨A, c, h1, h2, h3, h4, fun hne => ?_⟩
  obtain ⟨b, off, cs, fz, e1, e2, e3, e4⟩ := h5 hne
  exact ⟨b, off, cs, fz, e1, hP b e2, e3, e4⟩
theorem LsAt.empty (w : World) (P : Nat → Prop) : LsAt w (.slice none 0 0) [] P := ⟨none, 0, rfl, by simp, by omega, fun _ => rfl, fun h => absurd rfl h⟩
theorem OwnL.at' {w : World} {base : Nat} {v : Value} {q : List Let} (h : OwnL w base v q) : LsAt w v q (fun k => v.ownBlock = some k) := by
  rcases h.2 with ⟨rfl, hn⟩ | ⟨g, cap, cur, rfl, hb, hg, hc, hm, hs, ht⟩
  · obtain rfl : q = [] := List.eq_nil_of_length_eq_zero hn
    exact LsAt.empty w _
  · refine ⟨some ⟨g, 0, none⟩, cap, rfl, hc, by simp only [maxLen] at hm; omega, fun e => (by cases e), fun hne => ⟨g, 0, cur, (0, 0), rfl, rfl, hg, fun j u hu => ?_⟩⟩
    rw [← ht, List.getElem?_take] at hu
    split at hu
    · simpa using hu
    · cases hu
theorem OwnL.form {w : World} {base : Nat} {v : Value} {q : List Let} (h : OwnL w base v q) : ∃ A cap, v = .slice A q.length cap ∧ q.length ≤ cap ∧ cap ≤ 9223372036854775807 ∧ (A = none → cap = 0) := by
  rcases h.2 with ⟨e, hn⟩ | ⟨g, cap, cur, e, hb, hg, hc, hm, _⟩
  · exact ⟨_, _, by rw [e, hn], by omega, by omega, fun _ => rfl⟩
  · exact ⟨_, _, e, hc, by simp only [maxLen] at hm; omega, fun q => (by cases q)⟩
/-- one letter of a row -/
theorem LsAt.one {w : World} {v : Value} {q : List Let} {P : Nat → Prop} (h : LsAt w v q P) {i : Nat} {l : Let} (hi : q[i]? = some l) : ∃ g off c, v = .slice (some ⟨g, off, none⟩) q.length c ∧ P g ∧ g < w.heap.size ∧
    w.cell? ⟨g, off + i * 3, none⟩ = some (.int .i64 l.f) ∧ w.cell? ⟨g, off + i * 3 + 1, none⟩ = some (.int .i64 l.t) ∧ w.cell? ⟨g, off + i * 3 + 2, none⟩ = some (.string l.b) := by
  obtain ⟨A, c, rfl, h2, h3, h4, h5⟩ := h
  obtain ⟨g, off, cs, fz, rfl, e2, e3, e4⟩ := h5 (fun e => by rw [e] at hi; simp at hi)
  obtain ⟨a0, a1, a2⟩ := flat_at hi
  refine ⟨g, off, c, rfl, e2, (Array.getElem?_eq_some_iff.1 e3).1, ?_, ?_, ?_⟩
  · rw [cell_of_row w g _ cs 32 fz e3]; exact (by rw [show off + i * 3 = off + 3 * i by omega]; exact e4 _ _ a0)
  · rw [cell_of_row w g _ cs 32 fz e3]; exact (by rw [show off + i * 3 + 1 = off + (3 * i + 1) by omega]; exact e4 _ _ a1)
  · rw [cell_of_row w g _ cs 32 fz e3]; exact (by rw [show off + i * 3 + 2 = off + (3 * i + 2) by omega]; exact e4 _ _ a2)
end Go.Proofs.Ytipclhklkngamaa
