import Derived.Test.YtjcikhacekmcfaaGreatDoorKc
import Derived.Test.YtjcikhacekmcfaaGreatDoorKd
import Derived.Laws.AppendOwnNone
import Derived.StillTailTactics
import Derived.Lib.AppendStr
import Derived.BigQuiet
import Derived.Deep.QuietTactic
namespace Go.Proofs.YtjcikhacekmcfaaGreatDoor
set_option maxRecDepth 20000
open Go.RowKit
open PlainDisk (File Disk Left)
set_option linter.unusedVariables false

/-! ### a frame: but for the blocks of S, and new ones, all is as it was -/
structure Fr (S : Nat → Prop) (w w' : World) : Prop where
  os : w'.os = w.os
  tape : w'.tape = w.tape
  output : w'.output = w.output
  size : w.heap.size ≤ w'.heap.size
  block : ∀ k, k < w.heap.size → ¬ S k → w'.heap[k]? = w.heap[k]?
theorem Fr.refl (S : Nat → Prop) (w : World) : Fr S w w := ⟨rfl, rfl, rfl, Nat.le_refl _, fun _ _ _ => rfl⟩
theorem Fr.trans {S S' : Nat → Prop} {a b c : World} (h : Fr S a b) (k : Fr S' b c) (hS : ∀ i, S' i → S i ∨ a.heap.size ≤ i) : Fr S a c :=
  ⟨k.os.trans h.os, k.tape.trans h.tape, k.output.trans h.output, Nat.le_trans h.size k.size, fun i hi hn =>
    (k.block i (Nat.lt_of_lt_of_le hi h.size) (fun q => (hS i q).elim hn (fun q => by omega))).trans (h.block i hi hn)⟩
theorem Fr.drew {S : Nat → Prop} {a w : World} (h : Fr S a w) : Fr S a w.drew := ⟨h.os, h.tape, h.output, h.size, h.block⟩
theorem Fr.alloc {S : Nat → Prop} {a w : World} (h : Fr S a w) (o : Obj) : Fr S a (w.alloc o) :=
  ⟨h.os, h.tape, h.output, by simp; have := h.size; omega, fun k hk hn => (Below.heap_alloc w o k (by have := h.size; omega)).trans (h.block k hk hn)⟩
theorem Fr.setCell {S : Nat → Prop} {a w : World} (h : Fr S a w) {p : Addr} (hp : S p.block ∨ a.heap.size ≤ p.block) (u : Value) : Fr S a (w.setCell p u) :=
  ⟨h.os, h.tape, h.output, by simp [World.setCell]; exact h.size, fun k hk hn => (Below.heap_setCell w p u k (by rintro rfl; exact hp.elim hn (fun q => by omega))).trans (h.block k hk hn)⟩
theorem Fr.grown {S : Nat → Prop} {a w w' : World} {row : Option Nat} (h : Fr S a w) (hg : w.grownBy w' row) (hr : ∀ k, row = some k → S k ∨ a.heap.size ≤ k) : Fr S a w' :=
  ⟨hg.os.trans h.os, hg.tape.trans h.tape, hg.output.trans h.output, Nat.le_trans h.size hg.size, fun k hk hn =>
    (hg.block k (Nat.lt_of_lt_of_le hk h.size) (fun e => (hr k e.symm).elim hn (fun q => by omega))).trans (h.block k hk hn)⟩
theorem Fr.of_below {S : Nat → Prop} {a b : World} (h : Below a.heap.size a b) : Fr S a b := ⟨h.os, h.tape, h.output, h.size, fun k hk _ => h.block k hk⟩
theorem Fr.below {S : Nat → Prop} {a b : World} (h : Fr S a b) {B : Nat} (hB : B ≤ a.heap.size) (hS : ∀ k, S k → B ≤ k) : Below B a b :=
  ⟨h.os, h.tape, h.output, h.size, fun k hk => h.block k (by omega) (fun q => by have := hS k q; omega)⟩

/-! ### bytes in a block of S -/
def BAt (w : World) (v : Value) (bs : List UInt8) (S : Nat → Prop) : Prop :=
  ∃ A c, v = .slice A bs.length c ∧ bs.length ≤ c ∧ c ≤ 9223372036854775807 ∧ (A = none → c = 0) ∧
    (bs ≠ [] → ∃ b off cs fz, A = some ⟨b, off, none⟩ ∧ S b ∧ w.heap[b]? = some (.cells cs 5 fz) ∧ ∀ j u, bs[j]? = some u → cs[off + j]? = some (.int .u8 (u.toNat : Int)))
theorem BAt.keep {w w' : World} {v : Value} {bs : List UInt8} {S : Nat → Prop} (h : BAt w v bs S) (hk : ∀ b, S b → b < w.heap.size → (∃ cs fz, w.heap[b]? = some (.cells cs 5 fz)) → w'.heap[b]? = w.heap[b]?) : BAt w' v bs S := by
  obtain ⟨A, c, h1, h2, h3, h4, h5⟩ := h
  refine ⟨A, c, h1, h2, h3, h4, fun hne => ?_⟩
  obtain ⟨b, off, cs, fz, e1, e2, e3, e4⟩ := h5 hne
  exact ⟨b, off, cs, fz, e1, e2, (hk b e2 (Array.getElem?_eq_some_iff.1 e3).1 ⟨cs, fz, e3⟩).trans e3, e4⟩
theorem BAt.mono {w : World} {v : Value} {bs : List UInt8} {S S' : Nat → Prop} (h : BAt w v bs S) (hS : ∀ b, S b → S' b) : BAt w v bs S' := by
  obtain ⟨A, c, h1, h2, h3, h4, h5⟩ := h
  refine ⟨A, c, h1, h2, h3, h4, fun hne => ?_⟩
  obtain ⟨b, off, cs, fz, e1, e2, e3, e4⟩ := h5 hne
  exact ⟨b, off, cs, fz, e1, hS b e2, e3, e4⟩

/-! ### the reference's disk in memory -/
theorem info74 : (Tryz.prog.info? 104).map (fun i => (i.size, i.bytes)) = some (3, 48) := by kernel_rfl
theorem cells74 : Tryz.prog.cellsOf 104 = 3 := by kernel_rfl
abbrev FV := File × Value
def cellsOf1 (p : FV) : List Value := [.string (str p.1.name), p.2, .int .i64 (p.1.sure : Nat)]
def flat : List FV → List Value
  | [] => []
  | p :: r => cellsOf1 p ++ flat r
theorem flat_len (ps : List FV) : (flat ps).length = ps.length * 3 := by
  induction ps with
  | nil => rfl
  | cons p r ih => simp only [flat, List.length_append, ih, List.length_cons, cellsOf1, List.length_nil]; omega
theorem flat_at {ps : List FV} {i : Nat} {p : FV} (h : ps[i]? = some p) : (flat ps)[3 * i]? = some (.string (str p.1.name)) ∧ (flat ps)[3 * i + 1]? = some p.2 ∧ (flat ps)[3 * i + 2]? = some (.int .i64 (p.1.sure : Nat)) := by
  induction ps generalizing i with
  | nil => cases h
  | cons q r ih =>
    cases i with
    | zero => cases h; exact ⟨rfl, rfl, rfl⟩
    | succ i =>
      have := ih (i := i) (by simpa using h)
      have e : flat (q :: r) = cellsOf1 q ++ flat r := rfl
      have l : (cellsOf1 q).length = 3 := rfl
      rw [e, List.getElem?_append_right (by omega), List.getElem?_append_right (by omega), List.getElem?_append_right (by omega), l,
        show 3 * (i + 1) - 3 = 3 * i by omega, show 3 * (i + 1) + 1 - 3 = 3 * i + 1 by omega, show 3 * (i + 1) + 2 - 3 = 3 * i + 2 by omega]
      exact this
/-- the row of files, value by value -/
structure RowF (w : World) (Lv : Value) (ps : List FV) (S : Nat → Prop) : Prop where
  own : w.ownsRow 0 104 3 Lv ps.length (flat ps)
  mine : ∀ g, Lv.ownBlock = some g → S g
  bytes : ∀ p ∈ ps, BAt w p.2 p.1.bytes S
def RefAt (w : World) (b : Nat) (D : Disk) (S : Nat → Prop) : Prop :=
  ∃ Lv ps, w.heap[b]? = some (.cells #[Lv, .int .i64 (D.room : Nat), .bool D.gone, .int .i64 D.good] 89 (0, 0)) ∧ S b ∧ D.fs = ps.map (·.1) ∧ RowF w Lv ps S
theorem RowF.form {w : World} {Lv : Value} {ps : List FV} {S : Nat → Prop} (h : RowF w Lv ps S) : ∃ A cap, Lv = .slice A ps.length cap ∧ ps.length ≤ cap ∧ cap ≤ 9223372036854775807 ∧
    (0 < ps.length → ∃ g cs, A = some ⟨g, 0, none⟩ ∧ S g ∧ w.heap[g]? = some (.cells cs 104 (0, 0)) ∧ cs.size = cap * 3 ∧
      ∀ i p, ps[i]? = some p → w.cell? ⟨g, i * 3, none⟩ = some (.string (str p.1.name)) ∧ w.cell? ⟨g, i * 3 + 1, none⟩ = some p.2 ∧ w.cell? ⟨g, i * 3 + 2, none⟩ = some (.int .i64 (p.1.sure : Nat))) := by
  rcases h.own.2 with ⟨e, hn⟩ | ⟨g, cap, cur, e, hb, hh, hc, hm, hs, ht⟩
  · exact ⟨none, 0, by rw [e, hn], by omega, by omega, fun q => by omega⟩
  · refine ⟨some ⟨g, 0, none⟩, cap, e, hc, by simpa [maxLen] using hm, fun _ => ⟨g, cur, rfl, h.mine g (by rw [e]; rfl), hh, hs, fun i p hp => ?_⟩⟩
    have hi : i < ps.length := (List.getElem?_eq_some_iff.1 hp).1
    obtain ⟨f0, f1, f2⟩ := flat_at hp
    have key : ∀ j v, (flat ps)[j]? = some v → w.cell? ⟨g, j, none⟩ = some v := by
      intro j v hv
      rw [Lib.cell_of_heap hh]
      rw [← ht, List.getElem?_take] at hv
      split at hv
      · rw [← Array.getElem?_toList]; exact hv
      · cases hv
    rw [Nat.mul_comm 3 i] at f0 f1 f2
    exact ⟨key _ _ f0, key _ _ f1, key _ _ f2⟩
end Go.Proofs.YtjcikhacekmcfaaGreatDoor
namespace Go.Proofs.YtjcikhacekmcfaaGreatDoor
set_option maxRecDepth 20000
open Go.RowKit
open PlainDisk (File Disk Left)
set_option linter.unusedVariables false

def numOf : Value → Int
  | .int _ q => q
  | _ => 0
/-- a file's place; -1: it isn't there -/
def place (nm : List UInt8) : List FV → Int
  | [] => -1
  | p :: r => if p.1.name = nm then 0 else if place nm r < 0 then -1 else place nm r + 1
theorem place_form (nm : List UInt8) (ps : List FV) : (place nm ps = -1 ∧ ∀ p ∈ ps, p.1.name ≠ nm) ∨ (∃ i p, place nm ps = (i : Nat) ∧ ps[i]? = some p ∧ p.1.name = nm ∧ ∀ j q, j < i → ps[j]? = some q → q.1.name ≠ nm) := by
  induction ps with
  | nil => exact .inl ⟨rfl, fun p hp => by cases hp⟩
  | cons p r ih =>
    unfold place
    by_cases h : p.1.name = nm
    · rw [if_pos h]
      exact .inr ⟨0, p, rfl, rfl, h, fun j q hj => by omega⟩
    · rw [if_neg h]
      rcases ih with ⟨h1, h2⟩ | ⟨i, q, h1, h2, h3, h4⟩
      · rw [if_pos (by omega)]
        refine .inl ⟨rfl, fun q hq => ?_⟩
        rcases List.mem_cons.1 hq with rfl | hq
        · exact h
        · exact h2 q hq
      · rw [if_neg (by omega)]
        refine .inr ⟨i + 1, q, by rw [h1]; rfl, h2, h3, fun j x hj hx => ?_⟩
        cases j with
        | zero => cases hx; exact h
        | succ j => exact h4 j x (by omega) hx
theorem ret64 {a b : Int} (h : a = b) : Ending.returned (.int .i64 a) = .returned (.int .i64 b) := by rw [h]
theorem cell_eq {a b : List UInt8} : ((str a).toList == (str b).toList) = decide (a = b) := by
  rw [ByteArray.toList_eq, ByteArray.toList_eq, list_str, list_str]
  by_cases h : a = b
  · subst h; simp
  · rw [decide_eq_false h, beq_eq_false_iff_ne]; exact h

set_option maxHeartbeats 1000000 in
set_option maxRecDepth 100000 in
theorem refFind_any (b : Nat) (nm : List UInt8) (Lv : Value) (ps : List FV) (r1 r2 r3 : Value) (S : Nat → Prop) (w : World) (hb : w.heap[b]? = some (.cells #[Lv, r1, r2, r3] 89 (0, 0))) (hr : RowF w Lv ps S) :
    Calls Tryz.prog 61 #[.pointer (some ⟨b, 0, none⟩), .string (str nm)] w fun e w' => e = .returned (.int .i64 (place nm ps)) ∧ w = w' := by
  obtain ⟨A, cap, rfl, hc, hm, hrow⟩ := hr.form
  have c0 : w.cell? ⟨b, 0, none⟩ = some (.slice A ps.length cap) := by rw [Lib.cell_of_heap hb]; rfl
  have HR := Lib.hid hrow
  have HF := Lib.hid (place_form nm ps)
  have hn : (ps.length : Int) ≤ 9223372036854775807 := by omega
  clear hrow hr hb
  go_enter Tryz.func61, Tryz.ntmps61
  go_wp2_with fail
  go_loop [5] (fun v => ∃ i : Nat, v = .int .i64 (i : Nat) ∧ i ≤ ps.length ∧ ∀ j q, j < i → ps[j]? = some q → q.1.name ≠ nm) (fun v => ps.length - (numOf v).toNat)
  case atStart => exact ⟨0, rfl, by omega, fun j q hj => by omega⟩
  case round =>
    obtain ⟨i, rfl, hi, hno⟩ := hrel
    have HN := Lib.hid hno
    clear hno
    by_cases hlt : i < ps.length
    · obtain ⟨g, cs, rfl, hS, hg, hsz, hat⟩ := HR.out (by omega)
      obtain ⟨p, hp⟩ : ∃ p, ps[i]? = some p := ⟨_, List.getElem?_eq_getElem hlt⟩
      obtain ⟨d0, d1, d2⟩ := hat i p hp
      have HP := Lib.hid hp
      have hk := cell_eq (a := p.1.name) (b := nm)
      clear hat hp d1 d2 hg
      go_wp2_with fail
      · have hq : p.1.name = nm := by assumption
        go_ret
        refine ⟨ret64 ?_, rfl⟩
        rcases HF.out with ⟨h1, h2⟩ | ⟨k, q, h1, h2, h3, h4⟩
        · exact absurd hq (h2 p (List.mem_of_getElem? HP.out))
        · rw [h1]
          have e1 : ¬ i < k := fun e => h4 i p e HP.out hq
          have e2 : ¬ k < i := fun e => HN.out k q e h2 h3
          omega
      · have hq : ¬ p.1.name = nm := by assumption
        refine ⟨⟨i + 1, rfl, by omega, fun j q hj hjq => ?_⟩, by simp [numOf]; omega⟩
        by_cases e : j = i
        · subst e
          rw [HP.out] at hjq
          cases hjq
          exact hq
        · exact HN.out j q (by omega) hjq
    · go_wp2_with fail
      go_ret
      refine ⟨ret64 ?_, rfl⟩
      rcases HF.out with ⟨h1, h2⟩ | ⟨k, q, h1, h2, h3, h4⟩
      · rw [h1]
      · have hk : k < ps.length := (List.getElem?_eq_some_iff.1 h2).1
        exact absurd h3 (HN.out k q (by omega) h2)

/-! ### how much is used -/
set_option maxHeartbeats 1000000 in
set_option maxRecDepth 100000 in
theorem refUsed_any (b : Nat) (Lv : Value) (ps : List FV) (r1 r2 r3 : Value) (S : Nat → Prop) (w : World) (hb : w.heap[b]? = some (.cells #[Lv, r1, r2, r3] 89 (0, 0))) (hr : RowF w Lv ps S) (hu : PlainDisk.used (ps.map (·.1)) ≤ 1048576) :
    Calls Tryz.prog 54 #[.pointer (some ⟨b, 0, none⟩)] w fun e w' => e = .returned (.int .i64 (PlainDisk.used (ps.map (·.1)) : Nat)) ∧ w = w' := by
  obtain ⟨A, cap, rfl, hc, hm, hrow⟩ := hr.form
  have c0 : w.cell? ⟨b, 0, none⟩ = some (.slice A ps.length cap) := by rw [Lib.cell_of_heap hb]; rfl
  have HR := Lib.hid hrow
  have HBy := Lib.hid hr.bytes
  have hn : (ps.length : Int) ≤ 9223372036854775807 := by omega
  generalize hU : PlainDisk.used (ps.map (·.1)) = U at *
  have HU := Lib.hid hU
  clear hrow hr hb hU
  go_enter Tryz.func54, Tryz.ntmps54
  go_wp2_with fail
  go_loop [3, 4] (fun v u => ∃ i n : Nat, v = .int .i64 (n : Nat) ∧ u = .int .i64 (i : Nat) ∧ i ≤ ps.length ∧ n + PlainDisk.used ((ps.drop i).map (·.1)) = U) (fun _ u => ps.length - (numOf u).toNat)
  case atStart => exact ⟨0, 0, rfl, rfl, by omega, by rw [List.drop_zero, HU.out]; omega⟩
  case round =>
    obtain ⟨i, n, rfl, rfl, hi, hsum⟩ := hrel
    by_cases hlt : i < ps.length
    · obtain ⟨g, cs, rfl, hS, hg, hsz, hat⟩ := HR.out (by omega)
      obtain ⟨p, hp⟩ : ∃ p, ps[i]? = some p := ⟨_, List.getElem?_eq_getElem hlt⟩
      obtain ⟨d0, d1, d2⟩ := hat i p hp
      have hpm : p ∈ ps := List.mem_of_getElem? hp
      obtain ⟨A2, c2, e2, k1, k2, _⟩ := HBy.out p hpm
      rw [e2] at d1
      have e3 : ps.drop i = p :: ps.drop (i + 1) := by
        rw [List.drop_eq_getElem_cons hlt]
        congr 1
        rw [List.getElem?_eq_getElem hlt] at hp
        exact Option.some.inj hp
      rw [e3, List.map_cons, PlainDisk.used_cons] at hsum
      have HS := Lib.hid hsum
      have hb1 : (n : Int) + (p.1.bytes.length : Int) ≤ 1048576 := by omega
      clear hat hp d0 d2 hg hsum e3 e2
      go_wp2_with fail
      go_round
      case rel => exact ⟨i + 1, n + p.1.bytes.length, rfl, rfl, by omega, by have := HS.out; omega⟩
      case measure => simp [numOf]; omega
    · go_wp2_with fail
      go_ret
      refine ⟨ret64 ?_, rfl⟩
      rw [List.drop_eq_nil_of_le (by omega)] at hsum
      have : PlainDisk.used (List.map (·.1) ([] : List FV)) = 0 := rfl
      omega

/-! ### does a write fail? -/
def failW (b : Nat) (good : Int) (w : World) : World := if good = 0 then w.setCell ⟨b, 2, none⟩ (.bool true) else if 0 < good then w.setCell ⟨b, 3, none⟩ (.int .i64 (good - 1)) else w
set_option maxHeartbeats 1000000 in
set_option maxRecDepth 100000 in
theorem refFails_any (b : Nat) (good : Int) (r0 r1 r2 : Value) (w : World) (hb : w.heap[b]? = some (.cells #[r0, r1, r2, .int .i64 good] 89 (0, 0))) (g0 : -1 ≤ good) (g1 : good ≤ 9223372036854775807) :
    Calls Tryz.prog 63 #[.pointer (some ⟨b, 0, none⟩)] w fun e w' => e = .returned (.bool (decide (good = 0))) ∧ w' = failW b good w := by
  have c3 : w.cell? ⟨b, 3, none⟩ = some (.int .i64 good) := by rw [Lib.cell_of_heap hb]; rfl
  have c2 : w.cell? ⟨b, 2, none⟩ = some r2 := by rw [Lib.cell_of_heap hb]; rfl
  have f2 : w.frozen? ⟨b, 2, none⟩ = false := Lib.frozen_of_heap hb 2
  have f3 : w.frozen? ⟨b, 3, none⟩ = false := Lib.frozen_of_heap hb 3
  clear hb
  unfold failW
  by_cases h0 : good = 0
  · subst h0
    go_enter Tryz.func63, Tryz.ntmps63
    go_wp2_with fail
    go_ret
    exact ⟨rfl, rfl⟩
  rw [if_neg h0, decide_eq_false h0]
  have h0' : (good == 0) = false := beq_eq_false_iff_ne.2 h0
  by_cases h1 : 0 < good
  · rw [if_pos h1]
    go_enter Tryz.func63, Tryz.ntmps63
    go_wp2_with fail
    go_ret
    exact ⟨rfl, rfl⟩
  · rw [if_neg h1]
    have h1' : good ≤ 0 := by omega
    go_enter Tryz.func63, Tryz.ntmps63
    go_wp2_with fail
    go_ret
    exact ⟨rfl, rfl⟩

/-! ### what bars a call -/
set_option maxHeartbeats 1000000 in
set_option maxRecDepth 100000 in
theorem refBarred_any (b : Nat) (gone : Bool) (r0 r1 r3 : Value) (x y : List UInt8) (w : World) (hb : w.heap[b]? = some (.cells #[r0, r1, .bool gone, r3] 89 (0, 0))) (hx : x.length ≤ 281474976710656) (hy : y.length ≤ 281474976710656) :
    Calls Tryz.prog 60 #[.pointer (some ⟨b, 0, none⟩), .string (str x), .string (str y)] w fun e w' => e = .returned (.int .i64 (if gone = true then 41 else if may x = false ∨ may y = false then 5 else 0)) ∧ w = w' := by
  have c2 : w.cell? ⟨b, 2, none⟩ = some (.bool gone) := by rw [Lib.cell_of_heap hb]; rfl
  clear hb
  have C1 := Lib.hid (refMay_str x w hx)
  have C2 := Lib.hid (refMay_str y w hy)
  generalize str x = X at *
  generalize str y = Y at *
  generalize may x = mx at *
  generalize may y = my at *
  cases gone with
  | true =>
    go_enter Tryz.func60, Tryz.ntmps60
    go_wp2_with fail
    go_ret
    exact ⟨rfl, rfl⟩
  | false =>
    cases mx with
    | false =>
      go_enter Tryz.func60, Tryz.ntmps60
      go_wp2_with fail
      refine C1.out.mono ?_
      rintro e w' ⟨rfl, rfl⟩
      go_wp2_with fail
      go_ret
      exact ⟨rfl, rfl⟩
    | true =>
      cases my with
      | false =>
        go_enter Tryz.func60, Tryz.ntmps60
        go_wp2_with fail
        refine C1.out.mono ?_
        rintro e w' ⟨rfl, rfl⟩
        go_wp2_with fail
        refine C2.out.mono ?_
        rintro e w' ⟨rfl, rfl⟩
        go_wp2_with fail
        go_ret
        exact ⟨rfl, rfl⟩
      | true =>
        go_enter Tryz.func60, Tryz.ntmps60
        go_wp2_with fail
        refine C1.out.mono ?_
        rintro e w' ⟨rfl, rfl⟩
        go_wp2_with fail
        refine C2.out.mono ?_
        rintro e w' ⟨rfl, rfl⟩
        go_wp2_with fail
        go_ret
        exact ⟨rfl, rfl⟩
end Go.Proofs.YtjcikhacekmcfaaGreatDoor
namespace Go.Proofs.YtjcikhacekmcfaaGreatDoor
set_option maxRecDepth 20000
open Go.RowKit
open PlainDisk (File Disk Left)
set_option linter.unusedVariables false

theorem info74' : (Tryz.prog.info? 104).map (fun i => (i.zero, i.size, i.bytes)) = some (some (.agg #[.string ⟨#[]⟩, .slice none 0 0, .int .i64 0]), 3, 48) := by kernel_rfl
def fileV (p : FV) : Value := .agg #[.string (str p.1.name), p.2, .int .i64 (p.1.sure : Nat)]
theorem info_parts3 {P : Program} {t : TypeId} {z : Value} {n m : Nat} (h : (P.info? t).map (fun i => (i.zero, i.size, i.bytes)) = some (some z, n, m)) : ∃ i, P.info? t = some i ∧ i.zero = some z ∧ i.size = n ∧ i.bytes = m := by
  obtain ⟨i, hi, e⟩ := Option.map_eq_some_iff.1 h
  simp only [Prod.mk.injEq] at e
  exact ⟨i, hi, e.1, e.2.1, e.2.2⟩
theorem flat_app (a b : List FV) : flat (a ++ b) = flat a ++ flat b := by
  induction a with
  | nil => rfl
  | cons p r ih => simp only [List.cons_append, flat, ih, List.append_assoc]
def IsSl (v : Value) : Prop := ∃ A n c, v = .slice A n c
theorem one_cell {p : FV} (h : IsSl p.2) : ∀ u ∈ cellsOf1 p, u.oneCell' = true := by
  obtain ⟨A, n, c, e⟩ := h
  intro u hu
  unfold cellsOf1 at hu
  rw [e] at hu
  simp only [List.mem_cons, List.not_mem_nil, or_false] at hu
  rcases hu with rfl | rfl | rfl <;> rfl
/-- a row of files of the call's own -/
def OwnF (w : World) (base : Nat) (v : Value) (qs : List FV) : Prop := w.ownsRow base 104 3 v qs.length (flat qs)
theorem OwnF.alloc {w : World} {base : Nat} {v : Value} {qs : List FV} (h : OwnF w base v qs) (o : Obj) : OwnF (w.alloc o) base v qs := World.ownsRow.alloc h o
theorem OwnF.lt {w : World} {base : Nat} {v : Value} {qs : List FV} (h : OwnF w base v qs) : ∀ k, v.ownBlock = some k → base ≤ k ∧ k < w.heap.size := World.ownsRow.lt h
theorem OwnF.form {w : World} {base : Nat} {v : Value} {qs : List FV} (h : OwnF w base v qs) : ∃ A n cap, v = .slice A n cap := by
  rcases h.2 with ⟨e, _⟩ | ⟨g, cap, cur, e, _⟩
  · exact ⟨_, _, _, e⟩
  · exact ⟨_, _, _, e⟩
theorem OwnF.down {w : World} {B : Nat} {v : Value} {qs : List FV} (h : OwnF w (B + 1) v qs) : OwnF w B v qs := by
  refine ⟨h.1, ?_⟩
  rcases h.2 with h2 | ⟨g, cap, cur, e, hb, r⟩
  · exact .inl h2
  · exact .inr ⟨g, cap, cur, e, by omega, r⟩
/-- append of one file to a row of the call's own -/
theorem wp_appF {ops : Array Oper} {rest : List Oper} {o : Oper} {a : Act} {Q : Exit → Act → World → Prop} {w : World} (hgd : o.guard = none) (s x : Operand)
    (ho : o.op = .call { callee := .builtin .append, args := #[s, x], argTypes := #[87, 87] })
    (base : Nat) (v : Value) (qs : List FV) (hs : a.eval s = v) (hown : OwnF w base v qs) (k : Nat) (p : FV) (hsl : IsSl p.2) (hx : a.eval x = .slice (some ⟨k, 0, none⟩) 1 1)
    (hk : w.heap[k]? = some (.cells #[.string (str p.1.name), p.2, .int .i64 (p.1.sure : Nat)] 104 (0, 0)))
    (hlen : qs.length ≤ 1000) (hbase : base ≤ w.heap.size)
    (h : ∀ v' w', OwnF w' base v' (qs ++ [p]) → w.grownBy w' v.ownBlock → wpList Tryz.prog ops Q rest (a.put o.dst v') w') : wpList Tryz.prog ops Q (o :: rest) a w := by
  obtain ⟨i, hi, hz, hz1, hz2⟩ := info_parts3 info74'
  refine wpList_append_own w hgd s x 87 ho base 104 i _ 3 48 Tryz.underlying87 hi hz hz1 hz2 rfl (by omega) v qs.length (flat qs) hs hown ⟨k, 0, none⟩ 1 1 (cellsOf1 p) hx rfl ?_ (one_cell hsl) (by simp only [maxLen]; omega) (by omega) hbase ?_
  · intro j u hu
    unfold Addr.add
    have hc : w.cell? ⟨k, j, none⟩ = some u := by
      rw [Lib.cell_of_heap hk]
      rw [← hu]
      show (cellsOf1 p).toArray[j]? = _
      simp
    split
    · subst j; exact hc
    · simpa using hc
  · intro v' w' h2 h3 _
    refine h v' w' ?_ h3
    unfold OwnF
    rw [flat_app, List.length_append]
    exact h2

def putF (p : FV) : List FV → List FV
  | [] => [p]
  | q :: r => if PlainDisk.bl p.1.name q.1.name = true then p :: q :: r else q :: putF p r
theorem putF_fst (p : FV) (ps : List FV) : (putF p ps).map (·.1) = PlainDisk.put p.1 (ps.map (·.1)) := by
  induction ps with
  | nil => rfl
  | cons q r ih =>
    simp only [putF, List.map_cons, PlainDisk.put]
    split
    · rfl
    · simp only [List.map_cons, ih]
theorem mem_putF {p q : FV} {ps : List FV} (h : q ∈ putF p ps) : q = p ∨ q ∈ ps := by
  induction ps with
  | nil => simp [putF] at h; exact .inl h
  | cons x r ih =>
    unfold putF at h
    split at h
    · simpa using h
    · rcases List.mem_cons.1 h with rfl | h
      · simp
      · rcases ih h with h | h
        · exact .inl h
        · exact .inr (by simp [h])
theorem below_drewN {B : Nat} {a w : World} (h : Below B a w) (n : Nat) : Below B a (w.drewN n) := ⟨h.os, h.tape, h.output, h.size, h.block⟩
theorem keep_grown {w w2 : World} {row : Option Nat} {o x : Obj} {k : Nat} (hg : (w.alloc o).grownBy w2 row) (hk : w.heap[k]? = some x) (hne : some k ≠ row) : w2.heap[k]? = some x := by
  have hlt := (Array.getElem?_eq_some_iff.1 hk).1
  rw [hg.block k (by simp; omega) hne, Lib.alloc_old w o k hlt]
  exact hk
theorem below_step {a w w2 : World} {B : Nat} {v : Value} {o : Obj} {qs : List FV} (h : Below B a w) (hB : B ≤ w.heap.size) (hown : OwnF w (B + 1) v qs) (hg : (w.alloc o).grownBy w2 v.ownBlock) : Below B a w2 :=
  (h.alloc hB o).grown hg (by simp; omega) (fun k hk => by have := (hown.lt k hk).1; omega)
theorem own_ne {w : World} {B : Nat} {v : Value} {qs : List FV} (hown : OwnF w (B + 1) v qs) : some B ≠ v.ownBlock := fun h => by
  have := (hown.lt B h.symm).1
  omega
theorem name_lt (a b : List UInt8) : Op.bytesLess (str a).toList (str b).toList = PlainDisk.bl a b := by
  rw [ByteArray.toList_eq, ByteArray.toList_eq, list_str, list_str]

set_option maxHeartbeats 1000000 in
set_option maxRecDepth 100000 in
theorem refPut_any (b : Nat) (p : FV) (Lv : Value) (ps : List FV) (r1 r2 r3 : Value) (S : Nat → Prop) (w : World) (hb : w.heap[b]? = some (.cells #[Lv, r1, r2, r3] 89 (0, 0))) (hr : RowF w Lv ps S) (hn : ps.length ≤ 100) (hsl : IsSl p.2) :
    Calls Tryz.prog 62 #[.pointer (some ⟨b, 0, none⟩), fileV p] w fun e w' => e = .returned (.tuple #[]) ∧ ∃ l w1, w' = w1.setCell ⟨b, 0, none⟩ l ∧ Below w.heap.size w w1 ∧ OwnF w1 w.heap.size l (putF p ps) := by
  obtain ⟨A, cap, rfl, hc, hm, hrow⟩ := hr.form
  have c0 : w.cell? ⟨b, 0, none⟩ = some (.slice A ps.length cap) := by rw [Lib.cell_of_heap hb]; rfl
  have hblt : b < w.heap.size := (Array.getElem?_eq_some_iff.1 hb).1
  have HR := Lib.hid hrow
  have HBy := Lib.hid hr.bytes
  have HB := Lib.hid hb
  clear hrow hr hb
  unfold fileV
  go_enter Tryz.func62, Tryz.ntmps62
  go_wp2_with fail
  go_loopw [4, 5, 6] (fun lV dV iV wr => ∃ (i : Nat) (done : Bool) (l : Value) (qs : List FV), l = lV ∧ dV = .bool done ∧ iV = .int .i64 (i : Nat) ∧ i ≤ ps.length ∧ qs.length ≤ 2 * i + 1 ∧
    OwnF wr (w.heap.size + 1) l qs ∧ (if done = true then putF p ps = qs ++ ps.drop i else putF p ps = qs ++ putF p (ps.drop i)) ∧ Below w.heap.size w wr ∧
    wr.heap[w.heap.size]? = some (.cells #[.string (str p.1.name), p.2, .int .i64 (p.1.sure : Nat)] 104 (0, 0))) (fun _ _ iV _ => ps.length - (numOf iV).toNat)
  case atStart =>
    refine ⟨0, false, _, [], rfl, rfl, rfl, by omega, by simp, ?_, by simp, ((Below.refl _ w).alloc (Nat.le_refl _) _).alloc (by simp) _, ?_⟩
    · have := World.ownsRow_made (w.alloc (.cells #[.string (str p.1.name), p.2, .int .i64 (p.1.sure : Nat)] 104)) (base := w.heap.size + 1) (e := 104) (size := 3) #[] 0 (by simp) (by decide) rfl
      rw [World.size_alloc] at this
      exact this
    · refine (Lib.alloc_old _ _ _ (by simp)).trans ?_
      exact heap_alloc_new w _
  case round =>
    obtain ⟨i, done, l, qs, rfl, rfl, rfl, hi, hq, hown, hput, hbw, hbox⟩ := hrel
    by_cases hlt : i < ps.length
    · obtain ⟨g, cs, rfl, hS, hg, hsz, hat⟩ := HR.out (by omega)
      obtain ⟨q, hp⟩ : ∃ q, ps[i]? = some q := ⟨_, List.getElem?_eq_getElem hlt⟩
      obtain ⟨d0, d1, d2⟩ := hat i q hp
      have hglt : g < w.heap.size := (Array.getElem?_eq_some_iff.1 hg).1
      have c0r : wr.cell? ⟨b, 0, none⟩ = some (.slice (some ⟨g, 0, none⟩) ps.length cap) := (hbw.cell hblt).trans c0
      have d0r : wr.cell? ⟨g, i * 3, none⟩ = _ := (hbw.cell hglt).trans d0
      have d1r : wr.cell? ⟨g, i * 3 + 1, none⟩ = _ := (hbw.cell hglt).trans d1
      have d2r : wr.cell? ⟨g, i * 3 + 2, none⟩ = _ := (hbw.cell hglt).trans d2
      have x0 : wr.cell? ⟨w.heap.size, 0, none⟩ = some (.string (str p.1.name)) := by rw [Lib.cell_of_heap hbox]; rfl
      have x1 : wr.cell? ⟨w.heap.size, 1, none⟩ = some p.2 := by rw [Lib.cell_of_heap hbox]; rfl
      have x2 : wr.cell? ⟨w.heap.size, 2, none⟩ = some (.int .i64 (p.1.sure : Nat)) := by rw [Lib.cell_of_heap hbox]; rfl
      have HO := Lib.hid hown
      have HP := Lib.hid hput
      have HW := Lib.hid hbw
      have HX := Lib.hid hbox
      have HDD := Lib.hid (And.intro d0 (And.intro d1 d2))
      clear hown hput hbw hbox hat d0 d1 d2 hg
      have hslq : IsSl q.2 := by
        obtain ⟨A2, c2, e2, _⟩ := HBy.out q (List.mem_of_getElem? hp)
        exact ⟨_, _, _, e2⟩
      have hws : w.heap.size + 1 ≤ wr.heap.size := by have := (Array.getElem?_eq_some_iff.1 HX.out).1; omega
      have hdrop : ps.drop i = q :: ps.drop (i + 1) := by
        rw [List.drop_eq_getElem_cons hlt]
        congr 1
        rw [List.getElem?_eq_getElem hlt] at hp
        exact Option.some.inj hp
      have HDR := Lib.hid hdrop
      clear hdrop hp
      cases done with
      | true =>
        go_wp2_with fail
        go_quiet (fail)
        go_wp2_with (at_builtin; (refine wp_appF rfl (.tmp 36) (.tmp 44) rfl (w.heap.size + 1) l qs rfl (HO.out.alloc _) wr.heap.size q hslq rfl ?hk ?hl ?hbs ?_))
        case hk => exact heap_alloc_new (wr.drewN nq) _
        case hl => omega
        case hbs => simp; omega
        intro v' w2 hown2 hgrow
        have hbw2 := below_step (below_drewN HW.out nq) (show w.heap.size ≤ (wr.drewN nq).heap.size by show w.heap.size ≤ wr.heap.size; omega) HO.out hgrow
        have hbx2 := keep_grown (w := wr.drewN nq) hgrow HX.out (own_ne HO.out)
        go_wp2_with fail
        go_roundw
        case rel =>
          refine ⟨i + 1, true, v', qs ++ [q], rfl, rfl, rfl, by omega, by simp; omega, hown2, ?_, hbw2, hbx2⟩
          have h : putF p ps = qs ++ ps.drop i := by simpa using HP.out
          rw [HDR.out] at h
          show putF p ps = _
          rw [h, List.append_assoc]
          rfl
        case measure => simp [numOf]; omega
      | false =>
        have hlt2 := name_lt p.1.name q.1.name
        cases hcc : PlainDisk.bl p.1.name q.1.name with
        | false =>
          rw [hcc] at hlt2
          have HPR := Lib.hid (show putF p (q :: ps.drop (i + 1)) = q :: putF p (ps.drop (i + 1)) by rw [putF, if_neg (by rw [hcc]; simp)])
          go_wp2_with fail
          go_quiet (fail)
          go_wp2_with (at_builtin; (refine wp_appF rfl (.tmp 36) (.tmp 44) rfl (w.heap.size + 1) l qs rfl (HO.out.alloc _) wr.heap.size q hslq rfl ?hk ?hl ?hbs ?_))
          case hk => exact heap_alloc_new (wr.drewN nq) _
          case hl => omega
          case hbs => simp; omega
          intro v' w2 hown2 hgrow
          have hbw2 := below_step (below_drewN HW.out nq) (show w.heap.size ≤ (wr.drewN nq).heap.size by show w.heap.size ≤ wr.heap.size; omega) HO.out hgrow
          have hbx2 := keep_grown (w := wr.drewN nq) hgrow HX.out (own_ne HO.out)
          go_wp2_with fail
          go_roundw
          case rel =>
            refine ⟨i + 1, false, v', qs ++ [q], rfl, rfl, rfl, by omega, by simp; omega, hown2, ?_, hbw2, hbx2⟩
            have h : putF p ps = qs ++ putF p (ps.drop i) := by simpa using HP.out
            rw [HDR.out, HPR.out] at h
            show putF p ps = _
            rw [h, List.append_assoc]
            rfl
          case measure => simp [numOf]; omega
        | true =>
          rw [hcc] at hlt2
          have HPR := Lib.hid (show putF p (q :: ps.drop (i + 1)) = p :: q :: ps.drop (i + 1) by rw [putF, if_pos hcc])
          go_wp2_with fail
          go_quiet (fail)
          go_wp2_with (at_builtin; (refine wp_appF rfl (.tmp 32) (.tmp 34) rfl (w.heap.size + 1) l qs rfl (HO.out.alloc _) wr.heap.size p hsl rfl ?hk ?hl ?hbs ?_))
          case hk => exact heap_alloc_new (wr.drewN nq) _
          case hl => omega
          case hbs => simp; omega
          intro v' w2 hown2 hgrow
          have hbw2 := below_step (below_drewN HW.out nq) (show w.heap.size ≤ (wr.drewN nq).heap.size by show w.heap.size ≤ wr.heap.size; omega) HO.out hgrow
          have hbx2 := keep_grown (w := wr.drewN nq) hgrow HX.out (own_ne HO.out)
          have c0s : w2.cell? ⟨b, 0, none⟩ = some (.slice (some ⟨g, 0, none⟩) ps.length cap) := (hbw2.cell hblt).trans c0
          have d0s : w2.cell? ⟨g, i * 3, none⟩ = _ := (hbw2.cell hglt).trans HDD.out.1
          have d1s : w2.cell? ⟨g, i * 3 + 1, none⟩ = _ := (hbw2.cell hglt).trans HDD.out.2.1
          have d2s : w2.cell? ⟨g, i * 3 + 2, none⟩ = _ := (hbw2.cell hglt).trans HDD.out.2.2
          have HW2 := Lib.hid hbw2
          have HX2 := Lib.hid hbx2
          have HO2 := Lib.hid hown2
          have hs2 : w.heap.size + 1 ≤ w2.heap.size := by have := (Array.getElem?_eq_some_iff.1 hbx2).1; omega
          clear hbw2 hbx2 hown2 c0r d0r d1r d2r
          go_wp2_with (at_builtin; (refine wp_appF rfl (.tmp 36) (.tmp 44) rfl (w.heap.size + 1) v' (qs ++ [p]) rfl (HO2.out.alloc _) w2.heap.size q hslq rfl ?hk ?hl ?hbs ?_))
          case hk => exact heap_alloc_new w2 _
          case hl => simp; omega
          case hbs => simp; omega
          intro v3 w3 hown3 hgrow3
          have hbw3 := below_step HW2.out (show w.heap.size ≤ w2.heap.size by omega) HO2.out hgrow3
          have hbx3 := keep_grown (w := w2) hgrow3 HX2.out (own_ne HO2.out)
          go_wp2_with fail
          go_roundw
          case rel =>
            refine ⟨i + 1, true, v3, qs ++ [p, q], rfl, rfl, rfl, by omega, by simp; omega, hown3, ?_, hbw3, hbx3⟩
            have h : putF p ps = qs ++ putF p (ps.drop i) := by simpa using HP.out
            rw [HDR.out, HPR.out] at h
            show putF p ps = _
            rw [h]
            simp
          case measure => simp [numOf]; omega
    · have HO := Lib.hid hown
      have HP := Lib.hid hput
      have HW := Lib.hid hbw
      have HX := Lib.hid hbox
      have c0r : wr.cell? ⟨b, 0, none⟩ = _ := (hbw.cell hblt).trans c0
      have f0r : wr.frozen? ⟨b, 0, none⟩ = false := by rw [hbw.frozen hblt]; exact Lib.frozen_of_heap HB.out 0
      have x0 : wr.cell? ⟨w.heap.size, 0, none⟩ = some (.string (str p.1.name)) := by rw [Lib.cell_of_heap hbox]; rfl
      have x1 : wr.cell? ⟨w.heap.size, 1, none⟩ = some p.2 := by rw [Lib.cell_of_heap hbox]; rfl
      have x2 : wr.cell? ⟨w.heap.size, 2, none⟩ = some (.int .i64 (p.1.sure : Nat)) := by rw [Lib.cell_of_heap hbox]; rfl
      have hws : w.heap.size + 1 ≤ wr.heap.size := by have := (Array.getElem?_eq_some_iff.1 hbox).1; omega
      have hnil : ps.drop i = [] := List.drop_eq_nil_of_le (by omega)
      have HNL := Lib.hid hnil
      clear hown hput hbw hbox hnil
      cases done with
      | true =>
        obtain ⟨A3, n3, cap3, rfl⟩ := HO.out.form
        go_wp2_with fail
        go_end0
        refine ⟨rfl, _, wr, rfl, HW.out, ?_⟩
        have h : putF p ps = qs ++ ps.drop i := by simpa using HP.out
        rw [HNL.out, List.append_nil] at h
        rw [h]
        exact HO.out.down
      | false =>
        go_wp2_with (at_builtin; (refine wp_appF rfl (.tmp 48) (.tmp 50) rfl (w.heap.size + 1) l qs rfl (HO.out.alloc _) wr.heap.size p hsl rfl ?hk ?hl ?hbs ?_))
        case hk => exact heap_alloc_new wr _
        case hl => omega
        case hbs => simp; omega
        intro v' w2 hown2 hgrow
        have hbw2 := below_step HW.out (show w.heap.size ≤ wr.heap.size by omega) HO.out hgrow
        have c0s : w2.cell? ⟨b, 0, none⟩ = _ := (hbw2.cell hblt).trans c0
        have f0s : w2.frozen? ⟨b, 0, none⟩ = false := by rw [hbw2.frozen hblt]; exact Lib.frozen_of_heap HB.out 0
        have HW2 := Lib.hid hbw2
        have HO2 := Lib.hid hown2
        clear hbw2 hown2
        obtain ⟨A3, n3, cap3, rfl⟩ := HO2.out.form
        go_wp2_with fail
        go_end0
        refine ⟨rfl, _, w2, rfl, HW2.out, ?_⟩
        have h : putF p ps = qs ++ putF p (ps.drop i) := by simpa using HP.out
        rw [HNL.out] at h
        rw [h]
        exact HO2.out.down
end Go.Proofs.YtjcikhacekmcfaaGreatDoor
namespace Go.Proofs.YtjcikhacekmcfaaGreatDoor
set_option maxRecDepth 20000
open Go.RowKit
open PlainDisk (File Disk Left)
set_option linter.unusedVariables false

def dropF (nm : List UInt8) : List FV → List FV
  | [] => []
  | q :: r => if q.1.name = nm then dropF nm r else q :: dropF nm r
theorem dropF_fst (nm : List UInt8) (ps : List FV) : (dropF nm ps).map (·.1) = PlainDisk.drop (ps.map (·.1)) nm := by
  induction ps with
  | nil => rfl
  | cons q r ih =>
    rw [List.map_cons, PlainDisk.drop_cons, dropF]
    split
    · exact ih
    · rw [List.map_cons, ih]
theorem mem_dropF {nm : List UInt8} {q : FV} {ps : List FV} (h : q ∈ dropF nm ps) : q ∈ ps := by
  induction ps with
  | nil => cases h
  | cons x r ih =>
    unfold dropF at h
    split at h
    · simp [ih h]
    · rcases List.mem_cons.1 h with rfl | h
      · simp
      · simp [ih h]
theorem dropF_len (nm : List UInt8) (ps : List FV) : (dropF nm ps).length ≤ ps.length := by
  induction ps with
  | nil => exact Nat.le_refl _
  | cons x r ih =>
    unfold dropF
    split
    · simp only [List.length_cons]; omega
    · simp only [List.length_cons]; omega

theorem below_step0 {a w w2 : World} {B : Nat} {v : Value} {o : Obj} {qs : List FV} (h : Below B a w) (hB : B ≤ w.heap.size) (hown : OwnF w B v qs) (hg : (w.alloc o).grownBy w2 v.ownBlock) : Below B a w2 :=
  (h.alloc hB o).grown hg (by simp; omega) (fun k hk => (hown.lt k hk).1)

set_option maxHeartbeats 1000000 in
set_option maxRecDepth 100000 in
theorem refDrop_any (b : Nat) (nm : List UInt8) (Lv : Value) (ps : List FV) (r1 r2 r3 : Value) (S : Nat → Prop) (w : World) (hb : w.heap[b]? = some (.cells #[Lv, r1, r2, r3] 89 (0, 0))) (hr : RowF w Lv ps S) (hn : ps.length ≤ 100) :
    Calls Tryz.prog 91 #[.pointer (some ⟨b, 0, none⟩), .string (str nm)] w fun e w' => e = .returned (.tuple #[]) ∧ ∃ l w1, w' = w1.setCell ⟨b, 0, none⟩ l ∧ Below w.heap.size w w1 ∧ OwnF w1 w.heap.size l (dropF nm ps) := by
  obtain ⟨A, cap, rfl, hc, hm, hrow⟩ := hr.form
  have c0 : w.cell? ⟨b, 0, none⟩ = some (.slice A ps.length cap) := by rw [Lib.cell_of_heap hb]; rfl
  have hblt : b < w.heap.size := (Array.getElem?_eq_some_iff.1 hb).1
  have HR := Lib.hid hrow
  have HBy := Lib.hid hr.bytes
  have HB := Lib.hid hb
  clear hrow hr hb
  go_enter Tryz.func91, Tryz.ntmps91
  go_wp2_with fail
  go_loopw [4, 5] (fun lV iV wr => ∃ (i : Nat) (l : Value) (qs : List FV), l = lV ∧ iV = .int .i64 (i : Nat) ∧ i ≤ ps.length ∧ qs.length ≤ i ∧
    OwnF wr w.heap.size l qs ∧ dropF nm ps = qs ++ dropF nm (ps.drop i) ∧ Below w.heap.size w wr) (fun _ iV _ => ps.length - (numOf iV).toNat)
  case atStart =>
    refine ⟨0, _, [], rfl, rfl, by omega, by simp, ?_, by simp, (Below.refl _ w).alloc (Nat.le_refl _) _⟩
    exact World.ownsRow_made w (base := w.heap.size) (e := 104) (size := 3) #[] 0 (Nat.le_refl _) (by decide) rfl
  case round =>
    obtain ⟨i, l, qs, rfl, rfl, hi, hq, hown, hput, hbw⟩ := hrel
    have HO := Lib.hid hown
    have HP := Lib.hid hput
    have HW := Lib.hid hbw
    have hws : w.heap.size ≤ wr.heap.size := hbw.size
    by_cases hlt : i < ps.length
    · obtain ⟨g, cs, rfl, hS, hg, hsz, hat⟩ := HR.out (by omega)
      obtain ⟨q, hp⟩ : ∃ q, ps[i]? = some q := ⟨_, List.getElem?_eq_getElem hlt⟩
      obtain ⟨d0, d1, d2⟩ := hat i q hp
      have hglt : g < w.heap.size := (Array.getElem?_eq_some_iff.1 hg).1
      have c0r : wr.cell? ⟨b, 0, none⟩ = some (.slice (some ⟨g, 0, none⟩) ps.length cap) := (hbw.cell hblt).trans c0
      have d0r : wr.cell? ⟨g, i * 3, none⟩ = _ := (hbw.cell hglt).trans d0
      have d1r : wr.cell? ⟨g, i * 3 + 1, none⟩ = _ := (hbw.cell hglt).trans d1
      have d2r : wr.cell? ⟨g, i * 3 + 2, none⟩ = _ := (hbw.cell hglt).trans d2
      have hslq : IsSl q.2 := by
        obtain ⟨A2, c2, e2, _⟩ := HBy.out q (List.mem_of_getElem? hp)
        exact ⟨_, _, _, e2⟩
      have hdrop : ps.drop i = q :: ps.drop (i + 1) := by
        rw [List.drop_eq_getElem_cons hlt]
        congr 1
        rw [List.getElem?_eq_getElem hlt] at hp
        exact Option.some.inj hp
      have HDR := Lib.hid hdrop
      have hk := cell_eq (a := q.1.name) (b := nm)
      clear hown hput hbw hat d0 d1 d2 hg hdrop hp
      by_cases he : q.1.name = nm
      · rw [decide_eq_true he] at hk
        have HE := Lib.hid (show dropF nm (q :: ps.drop (i + 1)) = dropF nm (ps.drop (i + 1)) by rw [dropF, if_pos he])
        clear he
        go_wp2_with fail
        go_roundw
        case rel =>
          exact ⟨i + 1, l, qs, rfl, rfl, by omega, by omega, HO.out, by rw [HP.out, HDR.out, HE.out], HW.out⟩
        case measure => simp [numOf]; omega
      · rw [decide_eq_false he] at hk
        have HE := Lib.hid (show dropF nm (q :: ps.drop (i + 1)) = q :: dropF nm (ps.drop (i + 1)) by rw [dropF, if_neg he])
        clear he
        go_wp2_with (at_builtin; (refine wp_appF rfl (.tmp 26) (.tmp 34) rfl w.heap.size l qs rfl (HO.out.alloc _) wr.heap.size q hslq rfl ?hk ?hl ?hbs ?_))
        case hk => exact heap_alloc_new wr _
        case hl => omega
        case hbs => simp; omega
        intro v' w2 hown2 hgrow
        have hbw2 := below_step0 HW.out hws HO.out hgrow
        go_wp2_with fail
        go_roundw
        case rel =>
          exact ⟨i + 1, v', qs ++ [q], rfl, rfl, by omega, by simp; omega, hown2, by rw [HP.out, HDR.out, HE.out]; simp, hbw2⟩
        case measure => simp [numOf]; omega
    · have c0r : wr.cell? ⟨b, 0, none⟩ = _ := (hbw.cell hblt).trans c0
      have f0r : wr.frozen? ⟨b, 0, none⟩ = false := by rw [hbw.frozen hblt]; exact Lib.frozen_of_heap HB.out 0
      have hnil : ps.drop i = [] := List.drop_eq_nil_of_le (by omega)
      have HNL := Lib.hid hnil
      clear hown hput hbw hnil
      obtain ⟨A3, n3, cap3, rfl⟩ := HO.out.form
      go_wp2_with fail
      go_end0
      refine ⟨rfl, _, wr, rfl, HW.out, ?_⟩
      have h := HP.out
      rw [HNL.out, show dropF nm [] = [] from rfl, List.append_nil] at h
      rw [h]
      exact HO.out
end Go.Proofs.YtjcikhacekmcfaaGreatDoor
