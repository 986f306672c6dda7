import Derived.Test.YtggndipfholllaaKc
import Derived.Test.YtggndipfholllaaKd
import Derived.Laws.AppendOwnNone
import Derived.StillTailTactics
namespace Go.Proofs.Ytggndipfholllaa
open Go.RowKit
open PlainDisk (File Disk Left)
set_option linter.unusedVariables false

/-! ### a frame: but for the blocks of S, and new ones, all is as it was -/
structure Fr (S : Nat → Prop) (w w' : World) : Prop where
  os : w'.os = w.os
  tape : w'.tape = w.tape
  output : w'.output = w.output
  size : w.heap.size ≤ w'.heap.size
  block : ∀ k, k < w.heap.size → ¬ S k → w'.heap[k]? = w.heap[k]?
theorem Fr.refl (S : Nat → Prop) (w : World) : Fr S w w := ⟨rfl, rfl, rfl, Nat.le_refl _, fun _ _ _ => rfl⟩
theorem Fr.trans {S S' : Nat → Prop} {a b c : World} (h : Fr S a b) (k : Fr S' b c) (hS : ∀ i, S' i → S i ∨ a.heap.size ≤ i) : Fr S a c :=
  ⟨k.os.trans h.os, k.tape.trans h.tape, k.output.trans h.output, Nat.le_trans h.size k.size, fun i hi hn =>
    (k.block i (Nat.lt_of_lt_of_le hi h.size) (fun q => (hS i q).elim hn (fun q => by omega))).trans (h.block i hi hn)⟩
theorem Fr.drew {S : Nat → Prop} {a w : World} (h : Fr S a w) : Fr S a w.drew := ⟨h.os, h.tape, h.output, h.size, h.block⟩
theorem Fr.alloc {S : Nat → Prop} {a w : World} (h : Fr S a w) (o : Obj) : Fr S a (w.alloc o) :=
  ⟨h.os, h.tape, h.output, by simp; have := h.size; omega, fun k hk hn => (Below.heap_alloc w o k (by have := h.size; omega)).trans (h.block k hk hn)⟩
theorem Fr.setCell {S : Nat → Prop} {a w : World} (h : Fr S a w) {p : Addr} (hp : S p.block ∨ a.heap.size ≤ p.block) (u : Value) : Fr S a (w.setCell p u) :=
  ⟨h.os, h.tape, h.output, by simp [World.setCell]; exact h.size, fun k hk hn => (Below.heap_setCell w p u k (by rintro rfl; exact hp.elim hn (fun q => by omega))).trans (h.block k hk hn)⟩
theorem Fr.grown {S : Nat → Prop} {a w w' : World} {row : Option Nat} (h : Fr S a w) (hg : w.grownBy w' row) (hr : ∀ k, row = some k → S k ∨ a.heap.size ≤ k) : Fr S a w' :=
  ⟨hg.os.trans h.os, hg.tape.trans h.tape, hg.output.trans h.output, Nat.le_trans h.size hg.size, fun k hk hn =>
    (hg.block k (Nat.lt_of_lt_of_le hk h.size) (fun e => (hr k e.symm).elim hn (fun q => by omega))).trans (h.block k hk hn)⟩
theorem Fr.of_below {S : Nat → Prop} {a b : World} (h : Below a.heap.size a b) : Fr S a b := ⟨h.os, h.tape, h.output, h.size, fun k hk _ => h.block k hk⟩
theorem Fr.below {S : Nat → Prop} {a b : World} (h : Fr S a b) {B : Nat} (hB : B ≤ a.heap.size) (hS : ∀ k, S k → B ≤ k) : Below B a b :=
  ⟨h.os, h.tape, h.output, h.size, fun k hk => h.block k (by omega) (fun q => by have := hS k q; omega)⟩

/-! ### bytes in a block of S -/
def BAt (w : World) (v : Value) (bs : List UInt8) (S : Nat → Prop) : Prop :=
  ∃ A c, v = .slice A bs.length c ∧ bs.length ≤ c ∧ c ≤ 9223372036854775807 ∧ (A = none → c = 0) ∧
    (bs ≠ [] → ∃ b off cs fz, A = some ⟨b, off, none⟩ ∧ S b ∧ w.heap[b]? = some (.cells cs 5 fz) ∧ ∀ j u, bs[j]? = some u → cs[off + j]? = some (.int .u8 (u.toNat : Int)))
theorem BAt.keep {w w' : World} {v : Value} {bs : List UInt8} {S : Nat → Prop} (h : BAt w v bs S) (hk : ∀ b, S b → b < w.heap.size → (∃ cs fz, w.heap[b]? = some (.cells cs 5 fz)) → w'.heap[b]? = w.heap[b]?) : BAt w' v bs S := by
  obtain ⟨A, c, h1, h2, h3, h4, h5⟩ := h
  refine ⟨A, c, h1, h2, h3, h4, fun hne => ?_⟩
  obtain ⟨b, off, cs, fz, e1, e2, e3, e4⟩ := h5 hne
  exact ⟨b, off, cs, fz, e1, e2, (hk b e2 (Array.getElem?_eq_some_iff.1 e3).1 ⟨cs, fz, e3⟩).trans e3, e4⟩
theorem BAt.mono {w : World} {v : Value} {bs : List UInt8} {S S' : Nat → Prop} (h : BAt w v bs S) (hS : ∀ b, S b → S' b) : BAt w v bs S' := by
  obtain ⟨A, c, h1, h2, h3, h4, h5⟩ := h
  refine ⟨A, c, h1, h2, h3, h4, fun hne => ?_⟩
  obtain ⟨b, off, cs, fz, e1, e2, e3, e4⟩ := h5 hne
  exact ⟨b, off, cs, fz, e1, hS b e2, e3, e4⟩

/-! ### the reference's disk in memory -/
theorem info74 : (Try.prog.info? 76).map (fun i => (i.size, i.bytes)) = some (3, 48) := by kernel_rfl
theorem cells74 : Try.prog.cellsOf 76 = 3 := by kernel_rfl
abbrev FV := File × Value
def cellsOf1 (p : FV) : List Value := [.string (str p.1.name), p.2, .int .i64 (p.1.sure : Nat)]
def flat : List FV → List Value
  | [] => []
  | p :: r => cellsOf1 p ++ flat r
theorem flat_len (ps : List FV) : (flat ps).length = ps.length * 3 := by
  induction ps with
  | nil => rfl
  | cons p r ih => simp only [flat, List.length_append, ih, List.length_cons, cellsOf1, List.length_nil]; omega
theorem flat_at {ps : List FV} {i : Nat} {p : FV} (h : ps[i]? = some p) : (flat ps)[3 * i]? = some (.string (str p.1.name)) ∧ (flat ps)[3 * i + 1]? = some p.2 ∧ (flat ps)[3 * i + 2]? = some (.int .i64 (p.1.sure : Nat)) := by
  induction ps generalizing i with
  | nil => cases h
  | cons q r ih =>
    cases i with
    | zero => cases h; exact ⟨rfl, rfl, rfl⟩
    | succ i =>
      have := ih (i := i) (by simpa using h)
      have e : flat (q :: r) = cellsOf1 q ++ flat r := rfl
      have l : (cellsOf1 q).length = 3 := rfl
      rw [e, List.getElem?_append_right (by omega), List.getElem?_append_right (by omega), List.getElem?_append_right (by omega), l,
        show 3 * (i + 1) - 3 = 3 * i by omega, show 3 * (i + 1) + 1 - 3 = 3 * i + 1 by omega, show 3 * (i + 1) + 2 - 3 = 3 * i + 2 by omega]
      exact this
/-- the row of files, value by value -/
structure RowF (w : World) (Lv : Value) (ps : List FV) (S : Nat → Prop) : Prop where
  own : w.ownsRow 0 76 3 Lv ps.length (flat ps)
  mine : ∀ g, Lv.ownBlock = some g → S g
  bytes : ∀ p ∈ ps, BAt w p.2 p.1.bytes S
def RefAt (w : World) (b : Nat) (D : Disk) (S : Nat → Prop) : Prop :=
  ∃ Lv ps, w.heap[b]? = some (.cells #[Lv, .int .i64 (D.room : Nat), .bool D.gone, .int .i64 D.good] 40 (0, 0)) ∧ S b ∧ D.fs = ps.map (·.1) ∧ RowF w Lv ps S
theorem RowF.form {w : World} {Lv : Value} {ps : List FV} {S : Nat → Prop} (h : RowF w Lv ps S) : ∃ A cap, Lv = .slice A ps.length cap ∧ ps.length ≤ cap ∧ cap ≤ 9223372036854775807 ∧
    (0 < ps.length → ∃ g cs, A = some ⟨g, 0, none⟩ ∧ S g ∧ w.heap[g]? = some (.cells cs 76 (0, 0)) ∧ cs.size = cap * 3 ∧
      ∀ i p, ps[i]? = some p → w.cell? ⟨g, i * 3, none⟩ = some (.string (str p.1.name)) ∧ w.cell? ⟨g, i * 3 + 1, none⟩ = some p.2 ∧ w.cell? ⟨g, i * 3 + 2, none⟩ = some (.int .i64 (p.1.sure : Nat))) := by
  rcases h.own.2 with ⟨e, hn⟩ | ⟨g, cap, cur, e, hb, hh, hc, hm, hs, ht⟩
  · exact ⟨none, 0, by rw [e, hn], by omega, by omega, fun q => by omega⟩
  · refine ⟨some ⟨g, 0, none⟩, cap, e, hc, by simpa [maxLen] using hm, fun _ => ⟨g, cur, rfl, h.mine g (by rw [e]; rfl), hh, hs, fun i p hp => ?_⟩⟩
    have hi : i < ps.length := (List.getElem?_eq_some_iff.1 hp).1
    obtain ⟨f0, f1, f2⟩ := flat_at hp
    have key : ∀ j v, (flat ps)[j]? = some v → w.cell? ⟨g, j, none⟩ = some v := by
      intro j v hv
      rw [Lib.cell_of_heap hh]
      rw [← ht, List.getElem?_take] at hv
      split at hv
      · rw [← Array.getElem?_toList]; exact hv
      · cases hv
    rw [Nat.mul_comm 3 i] at f0 f1 f2
    exact ⟨key _ _ f0, key _ _ f1, key _ _ f2⟩
end Go.Proofs.Ytggndipfholllaa
namespace Go.Proofs.Ytggndipfholllaa
open Go.RowKit
open PlainDisk (File Disk Left)
set_option linter.unusedVariables false

def numOf : Value → Int
  | .int _ q => q
  | _ => 0
/-- a file's place; -1: it isn't there -/
def place (nm : List UInt8) : List FV → Int
  | [] => -1
  | p :: r => if p.1.name = nm then 0 else if place nm r < 0 then -1 else place nm r + 1
theorem place_form (nm : List UInt8) (ps : List FV) : (place nm ps = -1 ∧ ∀ p ∈ ps, p.1.name ≠ nm) ∨ (∃ i p, place nm ps = (i : Nat) ∧ ps[i]? = some p ∧ p.1.name = nm ∧ ∀ j q, j < i → ps[j]? = some q → q.1.name ≠ nm) := by
  induction ps with
  | nil => exact .inl ⟨rfl, fun p hp => by cases hp⟩
  | cons p r ih =>
    unfold place
    by_cases h : p.1.name = nm
    · rw [if_pos h]
      exact .inr ⟨0, p, rfl, rfl, h, fun j q hj => by omega⟩
    · rw [if_neg h]
      rcases ih with ⟨h1, h2⟩ | ⟨i, q, h1, h2, h3, h4⟩
      · rw [if_pos (by omega)]
        refine .inl ⟨rfl, fun q hq => ?_⟩
        rcases List.mem_cons.1 hq with rfl | hq
        · exact h
        · exact h2 q hq
      · rw [if_neg (by omega)]
        refine .inr ⟨i + 1, q, by rw [h1]; rfl, h2, h3, fun j x hj hx => ?_⟩
        cases j with
        | zero => cases hx; exact h
        | succ j => exact h4 j x (by omega) hx
theorem ret64 {a b : Int} (h : a = b) : Ending.returned (.int .i64 a) = .returned (.int .i64 b) := by rw [h]
theorem cell_eq {a b : List UInt8} : ((str a).toList == (str b).toList) = decide (a = b) := by
  rw [ByteArray.toList_eq, ByteArray.toList_eq, list_str, list_str]
  by_cases h : a = b
  · subst h; simp
  · rw [decide_eq_false h, beq_eq_false_iff_ne]; exact h

set_option maxHeartbeats 1000000 in
set_option maxRecDepth 100000 in
theorem refFind_any (b : Nat) (nm : List UInt8) (Lv : Value) (ps : List FV) (r1 r2 r3 : Value) (S : Nat → Prop) (w : World) (hb : w.heap[b]? = some (.cells #[Lv, r1, r2, r3] 40 (0, 0))) (hr : RowF w Lv ps S) :
    Calls Try.prog 42 #[.pointer (some ⟨b, 0, none⟩), .string (str nm)] w fun e w' => e = .returned (.int .i64 (place nm ps)) ∧ w = w' := by
  obtain ⟨A, cap, rfl, hc, hm, hrow⟩ := hr.form
  have c0 : w.cell? ⟨b, 0, none⟩ = some (.slice A ps.length cap) := by rw [Lib.cell_of_heap hb]; rfl
  have HR := Lib.hid hrow
  have HF := Lib.hid (place_form nm ps)
  have hn : (ps.length : Int) ≤ 9223372036854775807 := by omega
  clear hrow hr hb
  go_enter Try.func42, Try.ntmps42
  go_wp2_with fail
  go_loop [5] (fun v => ∃ i : Nat, v = .int .i64 (i : Nat) ∧ i ≤ ps.length ∧ ∀ j q, j < i → ps[j]? = some q → q.1.name ≠ nm) (fun v => ps.length - (numOf v).toNat)
  case atStart => exact ⟨0, rfl, by omega, fun j q hj => by omega⟩
  case round =>
    obtain ⟨i, rfl, hi, hno⟩ := hrel
    have HN := Lib.hid hno
    clear hno
    by_cases hlt : i < ps.length
    · obtain ⟨g, cs, rfl, hS, hg, hsz, hat⟩ := HR.out (by omega)
      obtain ⟨p, hp⟩ : ∃ p, ps[i]? = some p := ⟨_, List.getElem?_eq_getElem hlt⟩
      obtain ⟨d0, d1, d2⟩ := hat i p hp
      have HP := Lib.hid hp
      have hk := cell_eq (a := p.1.name) (b := nm)
      clear hat hp d1 d2 hg
      go_wp2_with fail
      · have hq : p.1.name = nm := by assumption
        go_ret
        refine ⟨ret64 ?_, rfl⟩
        rcases HF.out with ⟨h1, h2⟩ | ⟨k, q, h1, h2, h3, h4⟩
        · exact absurd hq (h2 p (List.mem_of_getElem? HP.out))
        · rw [h1]
          have e1 : ¬ i < k := fun e => h4 i p e HP.out hq
          have e2 : ¬ k < i := fun e => HN.out k q e h2 h3
          omega
      · have hq : ¬ p.1.name = nm := by assumption
        refine ⟨⟨i + 1, rfl, by omega, fun j q hj hjq => ?_⟩, by simp [numOf]; omega⟩
        by_cases e : j = i
        · subst e
          rw [HP.out] at hjq
          cases hjq
          exact hq
        · exact HN.out j q (by omega) hjq
    · go_wp2_with fail
      go_ret
      refine ⟨ret64 ?_, rfl⟩
      rcases HF.out with ⟨h1, h2⟩ | ⟨k, q, h1, h2, h3, h4⟩
      · rw [h1]
      · have hk : k < ps.length := (List.getElem?_eq_some_iff.1 h2).1
        exact absurd h3 (HN.out k q (by omega) h2)

/-! ### how much is used -/
set_option maxHeartbeats 1000000 in
set_option maxRecDepth 100000 in
theorem refUsed_any (b : Nat) (Lv : Value) (ps : List FV) (r1 r2 r3 : Value) (S : Nat → Prop) (w : World) (hb : w.heap[b]? = some (.cells #[Lv, r1, r2, r3] 40 (0, 0))) (hr : RowF w Lv ps S) (hu : PlainDisk.used (ps.map (·.1)) ≤ 1048576) :
    Calls Try.prog 44 #[.pointer (some ⟨b, 0, none⟩)] w fun e w' => e = .returned (.int .i64 (PlainDisk.used (ps.map (·.1)) : Nat)) ∧ w = w' := by
  obtain ⟨A, cap, rfl, hc, hm, hrow⟩ := hr.form
  have c0 : w.cell? ⟨b, 0, none⟩ = some (.slice A ps.length cap) := by rw [Lib.cell_of_heap hb]; rfl
  have HR := Lib.hid hrow
  have HBy := Lib.hid hr.bytes
  have hn : (ps.length : Int) ≤ 9223372036854775807 := by omega
  generalize hU : PlainDisk.used (ps.map (·.1)) = U at *
  have HU := Lib.hid hU
  clear hrow hr hb hU
  go_enter Try.func44, Try.ntmps44
  go_wp2_with fail
  go_loop [3, 4] (fun v u => ∃ i n : Nat, v = .int .i64 (n : Nat) ∧ u = .int .i64 (i : Nat) ∧ i ≤ ps.length ∧ n + PlainDisk.used ((ps.drop i).map (·.1)) = U) (fun _ u => ps.length - (numOf u).toNat)
  case atStart => exact ⟨0, 0, rfl, rfl, by omega, by rw [List.drop_zero, HU.out]; omega⟩
  case round =>
    obtain ⟨i, n, rfl, rfl, hi, hsum⟩ := hrel
    by_cases hlt : i < ps.length
    · obtain ⟨g, cs, rfl, hS, hg, hsz, hat⟩ := HR.out (by omega)
      obtain ⟨p, hp⟩ : ∃ p, ps[i]? = some p := ⟨_, List.getElem?_eq_getElem hlt⟩
      obtain ⟨d0, d1, d2⟩ := hat i p hp
      have hpm : p ∈ ps := List.mem_of_getElem? hp
      obtain ⟨A2, c2, e2, k1, k2, _⟩ := HBy.out p hpm
      rw [e2] at d1
      have e3 : ps.drop i = p :: ps.drop (i + 1) := by
        rw [List.drop_eq_getElem_cons hlt]
        congr 1
        rw [List.getElem?_eq_getElem hlt] at hp
        exact Option.some.inj hp
      rw [e3, List.map_cons, PlainDisk.used_cons] at hsum
      have HS := Lib.hid hsum
      have hb1 : (n : Int) + (p.1.bytes.length : Int) ≤ 1048576 := by omega
      clear hat hp d0 d2 hg hsum e3 e2
      go_wp2_with fail
      go_round
      case rel => exact ⟨i + 1, n + p.1.bytes.length, rfl, rfl, by omega, by have := HS.out; omega⟩
      case measure => simp [numOf]; omega
    · go_wp2_with fail
      go_ret
      refine ⟨ret64 ?_, rfl⟩
      rw [List.drop_eq_nil_of_le (by omega)] at hsum
      have : PlainDisk.used (List.map (·.1) ([] : List FV)) = 0 := rfl
      omega

/-! ### does a write fail? -/
def failW (b : Nat) (good : Int) (w : World) : World := if good = 0 then w.setCell ⟨b, 2, none⟩ (.bool true) else if 0 < good then w.setCell ⟨b, 3, none⟩ (.int .i64 (good - 1)) else w
set_option maxHeartbeats 1000000 in
set_option maxRecDepth 100000 in
theorem refFails_any (b : Nat) (good : Int) (r0 r1 r2 : Value) (w : World) (hb : w.heap[b]? = some (.cells #[r0, r1, r2, .int .i64 good] 40 (0, 0))) (g0 : -1 ≤ good) (g1 : good ≤ 9223372036854775807) :
    Calls Try.prog 56 #[.pointer (some ⟨b, 0, none⟩)] w fun e w' => e = .returned (.bool (decide (good = 0))) ∧ w' = failW b good w := by
  have c3 : w.cell? ⟨b, 3, none⟩ = some (.int .i64 good) := by rw [Lib.cell_of_heap hb]; rfl
  have c2 : w.cell? ⟨b, 2, none⟩ = some r2 := by rw [Lib.cell_of_heap hb]; rfl
  have f2 : w.frozen? ⟨b, 2, none⟩ = false := Lib.frozen_of_heap hb 2
  have f3 : w.frozen? ⟨b, 3, none⟩ = false := Lib.frozen_of_heap hb 3
  clear hb
  unfold failW
  by_cases h0 : good = 0
  · subst h0
    go_enter Try.func56, Try.ntmps56
    go_wp2_with fail
    go_ret
    exact ⟨rfl, rfl⟩
  rw [if_neg h0, decide_eq_false h0]
  have h0' : (good == 0) = false := beq_eq_false_iff_ne.2 h0
  by_cases h1 : 0 < good
  · rw [if_pos h1]
    go_enter Try.func56, Try.ntmps56
    go_wp2_with fail
    go_ret
    exact ⟨rfl, rfl⟩
  · rw [if_neg h1]
    have h1' : good ≤ 0 := by omega
    go_enter Try.func56, Try.ntmps56
    go_wp2_with fail
    go_ret
    exact ⟨rfl, rfl⟩

/-! ### what bars a call -/
set_option maxHeartbeats 1000000 in
set_option maxRecDepth 100000 in
theorem refBarred_any (b : Nat) (gone : Bool) (r0 r1 r3 : Value) (x y : List UInt8) (w : World) (hb : w.heap[b]? = some (.cells #[r0, r1, .bool gone, r3] 40 (0, 0))) (hx : x.length ≤ 281474976710656) (hy : y.length ≤ 281474976710656) :
    Calls Try.prog 54 #[.pointer (some ⟨b, 0, none⟩), .string (str x), .string (str y)] w fun e w' => e = .returned (.int .i64 (if gone = true then 41 else if may x = false ∨ may y = false then 5 else 0)) ∧ w = w' := by
  have c2 : w.cell? ⟨b, 2, none⟩ = some (.bool gone) := by rw [Lib.cell_of_heap hb]; rfl
  clear hb
  have C1 := Lib.hid (refMay_str x w hx)
  have C2 := Lib.hid (refMay_str y w hy)
  generalize str x = X at *
  generalize str y = Y at *
  generalize may x = mx at *
  generalize may y = my at *
  cases gone with
  | true =>
    go_enter Try.func54, Try.ntmps54
    go_wp2_with fail
    go_ret
    exact ⟨rfl, rfl⟩
  | false =>
    cases mx with
    | false =>
      go_enter Try.func54, Try.ntmps54
      go_wp2_with fail
      refine C1.out.mono ?_
      rintro e w' ⟨rfl, rfl⟩
      go_wp2_with fail
      go_ret
      exact ⟨rfl, rfl⟩
    | true =>
      cases my with
      | false =>
        go_enter Try.func54, Try.ntmps54
        go_wp2_with fail
        refine C1.out.mono ?_
        rintro e w' ⟨rfl, rfl⟩
        go_wp2_with fail
        refine C2.out.mono ?_
        rintro e w' ⟨rfl, rfl⟩
        go_wp2_with fail
        go_ret
        exact ⟨rfl, rfl⟩
      | true =>
        go_enter Try.func54, Try.ntmps54
        go_wp2_with fail
        refine C1.out.mono ?_
        rintro e w' ⟨rfl, rfl⟩
        go_wp2_with fail
        refine C2.out.mono ?_
        rintro e w' ⟨rfl, rfl⟩
        go_wp2_with fail
        go_ret
        exact ⟨rfl, rfl⟩
end Go.Proofs.Ytggndipfholllaa
