import Derived.Test.YtlimjfnolidbmaaTm
import Derived.Deep.RegionWith
namespace Go.Proofs.Ytlimjfnolidbmaa
set_option maxRecDepth 20000
open Go.RowKit RL
set_option linter.unusedVariables false
/-! ### what is refused; what is cut off -/
theorem heap_set3 (w : World) (b k : Nat) (u : Value) (a0 a1 a2 : Value) (t : TypeId) (h : w.heap[b]? = some (.cells #[a0, a1, a2] t (0, 0))) : (w.setCell ⟨b, k, none⟩ u).heap[b]? = some (.cells ((#[a0, a1, a2] : Array Value).setIfInBounds k u) t (0, 0)) := by
  simp only [World.setCell]
  rw [Array.getElem?_modify, if_pos rfl, h]
  rfl
theorem refuse_any {w : World} {b : Nat} {T : Lg} {S : Nat → Prop} (h : Log w b T S) (hI : Inv T) {p t : Int} {n : Nat} (hp : I64 p) (hn : n ≤ 1000000) : Calls Try.prog 35 #[.pointer (some ⟨b, 0, none⟩), .int .i64 p, .int .i64 t, .int .i64 n] w (RetBelow (.int .i64 (T.refuse p t n)) w) := by
  have HBS : Hid (Calls Try.prog 31 #[.pointer (some ⟨b, 0, none⟩)] w (RetBelow (.tuple #[.int .i64 T.i, .int .i64 T.t]) w)) := Lib.hid (base_any h)
  have HTM : Hid (∀ X, Below w.heap.size w X → Calls Try.prog 18 #[.pointer (some ⟨b, 0, none⟩), .int .i64 p] X (RetBelow (.tuple #[.int .i64 ((T.term p).getD 0), .bool (T.term p).isSome]) X)) := Lib.hid fun X hX => term_any (h.below hX) hI hp
  have HW : Hid (∀ X, Calls Try.prog 32 #[.int .i64 p, .int .i64 (n : Int)] X (RetSame (.bool (decide (p ≤ 4611686018427387904 - (n : Int)))) X)) := Lib.hid fun X => within_any p n (by omega) X
  have i0 := hI.i0
  have i1 := hI.i1
  obtain ⟨p1, p2⟩ := hp
  have HR : Hid (T.refuse p t n = if p < 0 ∨ 4611686018427387904 - (n : Int) < p then 2 else if p < T.i ∧ p + n ≤ T.i then 32 else if T.i ≤ p ∧ T.term p ≠ some t then 10 else 0) := Lib.hid rfl
  clear h hI
  generalize T.refuse p t n = R at *
  generalize hto : T.term p = TO at *
  clear hto
  by_cases q1 : p < 0
  · have g1 : decide (p < 0) = true := by simpa using q1
    rw [if_pos (.inl q1)] at HR
    go_enter Try.func35, Try.ntmps35
    go_wp2_with (first
      | (go_at_call 31; (with_reducible refine HBS.out.mono ?_); rintro e w1 ⟨rfl, hb1⟩)
      | (go_at_call 18; (with_reducible refine (HTM.out _ hb1).mono ?_); rintro e w2 ⟨rfl, hb2⟩))
    go_ret
    exact ⟨by rw [HR.out]; rfl, hb1.trans (hb2.mono hb1.size)⟩
  · have g1 : decide (p < 0) = false := by simpa using q1
    by_cases q2 : 4611686018427387904 - (n : Int) < p
    · have g2 : decide (p ≤ 4611686018427387904 - (n : Int)) = false := by simpa using q2
      rw [g2] at HW
      rw [if_pos (.inr q2)] at HR
      go_enter Try.func35, Try.ntmps35
      go_wp2_with (first
        | (go_at_call 31; (with_reducible refine HBS.out.mono ?_); rintro e w1 ⟨rfl, hb1⟩)
        | (go_at_call 18; (with_reducible refine (HTM.out _ hb1).mono ?_); rintro e w2 ⟨rfl, hb2⟩)
        | (go_at_call 32; (with_reducible refine (HW.out _).mono ?_); rintro e w3 ⟨rfl, rfl⟩))
      go_ret
      exact ⟨by rw [HR.out]; rfl, hb1.trans (hb2.mono hb1.size)⟩
    · have g2 : decide (p ≤ 4611686018427387904 - (n : Int)) = true := by simp; omega
      rw [g2] at HW
      rw [if_neg (by omega)] at HR
      have hwr : IntKind.i64.wrap (p + (n : Int)) = p + (n : Int) := by rw [IntKind.wrap_i64]; omega
      by_cases q3 : p < T.i
      · have g3 : decide (p < T.i) = true := by simpa using q3
        have g3' : decide (T.i ≤ p) = false := by simpa using q3
        by_cases q4 : p + n ≤ T.i
        · have g4 : decide (p + (n : Int) ≤ T.i) = true := by simpa using q4
          rw [if_pos ⟨q3, q4⟩] at HR
          go_enter Try.func35, Try.ntmps35
          go_wp2_with (first
            | (go_at_call 31; (with_reducible refine HBS.out.mono ?_); rintro e w1 ⟨rfl, hb1⟩)
            | (go_at_call 18; (with_reducible refine (HTM.out _ hb1).mono ?_); rintro e w2 ⟨rfl, hb2⟩)
            | (go_at_call 32; (with_reducible refine (HW.out _).mono ?_); rintro e w3 ⟨rfl, rfl⟩))
          go_ret
          exact ⟨by rw [HR.out]; rfl, hb1.trans (hb2.mono hb1.size)⟩
        · have g4 : decide (p + (n : Int) ≤ T.i) = false := by simpa using q4
          rw [if_neg (fun h => q4 h.2), if_neg (fun h => by omega)] at HR
          go_enter Try.func35, Try.ntmps35
          go_wp2_with (first
            | (go_at_call 31; (with_reducible refine HBS.out.mono ?_); rintro e w1 ⟨rfl, hb1⟩)
            | (go_at_call 18; (with_reducible refine (HTM.out _ hb1).mono ?_); rintro e w2 ⟨rfl, hb2⟩)
            | (go_at_call 32; (with_reducible refine (HW.out _).mono ?_); rintro e w3 ⟨rfl, rfl⟩))
          go_ret
          exact ⟨by rw [HR.out]; rfl, hb1.trans (hb2.mono hb1.size)⟩
      · have g3 : decide (p < T.i) = false := by simpa using q3
        have g3' : decide (T.i ≤ p) = true := by simp; omega
        rw [if_neg (fun h => q3 h.1)] at HR
        cases TO with
        | none =>
          rw [if_pos ⟨by omega, by simp⟩] at HR
          go_enter Try.func35, Try.ntmps35
          go_wp2_with (first
            | (go_at_call 31; (with_reducible refine HBS.out.mono ?_); rintro e w1 ⟨rfl, hb1⟩)
            | (go_at_call 18; (with_reducible refine (HTM.out _ hb1).mono ?_); rintro e w2 ⟨rfl, hb2⟩)
            | (go_at_call 32; (with_reducible refine (HW.out _).mono ?_); rintro e w3 ⟨rfl, rfl⟩))
          go_ret
          exact ⟨by rw [HR.out]; rfl, hb1.trans (hb2.mono hb1.size)⟩
        | some u =>
          by_cases q5 : u = t
          · subst q5
            rw [if_neg (by simp)] at HR
            go_enter Try.func35, Try.ntmps35
            go_wp2_with (first
              | (go_at_call 31; (with_reducible refine HBS.out.mono ?_); rintro e w1 ⟨rfl, hb1⟩)
              | (go_at_call 18; (with_reducible refine (HTM.out _ hb1).mono ?_); rintro e w2 ⟨rfl, hb2⟩)
              | (go_at_call 32; (with_reducible refine (HW.out _).mono ?_); rintro e w3 ⟨rfl, rfl⟩))
            go_ret
            exact ⟨by rw [HR.out]; rfl, hb1.trans (hb2.mono hb1.size)⟩
          · have g5 : (u == t) = false := by simpa using q5
            rw [if_pos ⟨by omega, by simpa using q5⟩] at HR
            go_enter Try.func35, Try.ntmps35
            go_wp2_with (first
              | (go_at_call 31; (with_reducible refine HBS.out.mono ?_); rintro e w1 ⟨rfl, hb1⟩)
              | (go_at_call 18; (with_reducible refine (HTM.out _ hb1).mono ?_); rintro e w2 ⟨rfl, hb2⟩)
              | (go_at_call 32; (with_reducible refine (HW.out _).mono ?_); rintro e w3 ⟨rfl, rfl⟩))
            go_ret
            exact ⟨by rw [HR.out]; rfl, hb1.trans (hb2.mono hb1.size)⟩
/-- the same cells in another world -/
theorem OwnS.turn {α : Type} {D : CT α} {w w' : World} {S : Nat → Prop} {g off n cap : Nat} {L : List α} (h : OwnS D w S (.slice (some ⟨g, off, none⟩) n cap) L) {cur cur' : Array Value} (hg : w.heap[g]? = some (.cells cur D.e (0, 0))) (hg' : w'.heap[g]? = some (.cells cur' D.e (0, 0))) (hz : cur'.size = cur.size) (ht : (cur'.toList.drop off).take (L.length * D.m) = (cur.toList.drop off).take (L.length * D.m)) : OwnS D w' S (.slice (some ⟨g, off, none⟩) n cap) L := by
  obtain ⟨cur0, hg0, rfl, hs, hc, hm, hz0, ht0⟩ := h.put_off
  rw [hg] at hg0
  obtain rfl : cur = cur0 := by injection hg0 with e; injection e
  exact .inr ⟨g, off, cap, cur', rfl, hs, hg', hc, hm, by rw [hz]; exact hz0, by rw [ht]; exact ht0⟩
theorem zeroE (w : World) : (zeroValue DE.e).run Try.prog w = .ok DE.z w := by kernel_rfl
theorem zeroE1 : ∀ i : Nat, i < DE.m → (DE.z.cells[i]!).oneCell' = true := by
  intro i hi
  have : i = 0 ∨ i = 1 := by have : i < 2 := hi; omega
  rcases this with rfl | rfl <;> rfl
theorem clear_tail {w : World} {b : Nat} {T : Lg} {S : Nat → Prop} {g off cap : Nat} (h : LgAt w b T (.slice (some ⟨g, off, none⟩) T.L.length cap) S) {k : Nat} (hk : k ≤ T.L.length) :
    ∃ w', (∀ ty, (Builtin.clear_ #[22] ty #[.slice (some ⟨g, off + k * 2, none⟩) (T.L.length - k) (cap - k)]).run Try.prog w = .ok (.tuple #[]) w') ∧ Fr S w w' ∧ w'.heap[b]? = w.heap[b]? ∧ OwnS DE w' (fun k => S k ∧ k ≠ b) (.slice (some ⟨g, off, none⟩) k cap) (T.L.take k) := by
  obtain ⟨cur, hg, hl, hs, hc, hm, hz, ht⟩ := h.row.put_off
  have hm2 : DE.m = 2 := rfl
  rw [hm2] at hz
  obtain ⟨vs, hv, hr⟩ := run_clear (D := DE) (c := cap - k) (n := T.L.length - k) (off := off + k * 2) hg (by rw [hm2]; omega) zeroE zeroE1
  rw [hm2] at hv hr
  have hA := take_app_drop (l := cur.toList) (a := off + k * 2) (b := (T.L.length - k) * 2) vs (by rw [Array.length_toList]; omega) hv
  refine ⟨_, hr, Fr.row hs.1 _, setRow_other w g b _ (fun e => hs.2 e.symm), (h.row.take hk).turn hg (setRow_heap w g cur _ 32 _ hg) ?_ ?_⟩
  · rw [List.size_toArray, hA.2.2, Array.length_toList]
  · have hlk : (T.L.take k).length = k := by rw [List.length_take]; omega
    rw [hlk, hm2]
    have e : ∀ l : List Value, (l.drop off).take (k * 2) = (l.take (off + k * 2)).drop off := fun l => by rw [List.drop_take]; congr 1; omega
    rw [e, e]
    exact congrArg _ hA.1
theorem clear_head {w : World} {b : Nat} {T : Lg} {S : Nat → Prop} {g off cap c : Nat} (h : LgAt w b T (.slice (some ⟨g, off, none⟩) T.L.length cap) S) {n : Nat} (hn : n ≤ T.L.length) :
    ∃ w', (∀ ty, (Builtin.clear_ #[22] ty #[.slice (some ⟨g, off, none⟩) n c]).run Try.prog w = .ok (.tuple #[]) w') ∧ Fr S w w' ∧ w'.heap[b]? = w.heap[b]? ∧ OwnS DE w' (fun k => S k ∧ k ≠ b) (.slice (some (if cap = n then ⟨g, off, none⟩ else ⟨g, off + n * 2, none⟩)) (T.L.length - n) (cap - n)) (T.L.drop n) := by
  obtain ⟨cur, hg, hl, hs, hc, hm, hz, ht⟩ := h.row.put_off
  have hm2 : DE.m = 2 := rfl
  rw [hm2] at hz
  obtain ⟨vs, hv, hr⟩ := run_clear (D := DE) (c := c) (n := n) (off := off) hg (by rw [hm2]; omega) zeroE zeroE1
  rw [hm2] at hv hr
  have hA := take_app_drop (l := cur.toList) (a := off) (b := n * 2) vs (by rw [Array.length_toList]; omega) hv
  refine ⟨_, hr, Fr.row hs.1 _, setRow_other w g b _ (fun e => hs.2 e.symm), ?_⟩
  have hd := h.row.drop hn
  rw [hm2] at hd
  by_cases hcn : cap = n
  · rw [if_pos hcn] at hd ⊢
    refine hd.turn hg (setRow_heap w g cur _ 32 _ hg) (by rw [List.size_toArray, hA.2.2, Array.length_toList]) ?_
    have : (T.L.drop n).length = 0 := by rw [List.length_drop]; omega
    rw [this, Nat.zero_mul, List.take_zero, List.take_zero]
  · rw [if_neg hcn] at hd ⊢
    refine hd.turn hg (setRow_heap w g cur _ 32 _ hg) (by rw [List.size_toArray, hA.2.2, Array.length_toList]) ?_
    exact congrArg _ hA.2.1
theorem fr_lt {S S' : Nat → Prop} {a b : World} (h : Fr S a b) : a.heap.size ≤ b.heap.size := h.size
/-- its entries from an index on are cut off -/
theorem trunc_any {w : World} {b : Nat} {T : Lg} {S : Nat → Prop} (h : Log w b T S) (hI : Inv T) {k : Nat} (hk : k ≤ T.L.length) : Calls Try.prog 36 #[.pointer (some ⟨b, 0, none⟩), .int .i64 (T.i + 1 + (k : Int))] w fun e w' => e = .returned (.tuple #[]) ∧ LogTo w w' b ⟨T.i, T.t, T.L.take k⟩ S := by
  have H := Lib.hid h
  have HI := Lib.hid hI
  have i0 := hI.i0
  have iM := hI.iM
  have HA := Lib.hid (fun (X : World) (hX : X.cell? ⟨b, 0, none⟩ = some (.int .i64 T.i)) => at_any (T.i + 1 + (k : Int)) hX i0 (by omega) (by omega))
  rw [show T.i + 1 + (k : Int) - T.i - 1 = (k : Int) by omega] at HA
  obtain ⟨v, h⟩ := h
  have HL := Lib.hid h
  obtain ⟨c0, c1, c2, f0, f1, f2⟩ := lcells h.box
  have kI : (k : Int) ≤ (T.L.length : Int) := by omega
  generalize T.i + 1 + (k : Int) = ki at *
  rcases h.row with ⟨rfl, hL⟩ | ⟨g, off, cap, cur, rfl, hs, hg, hc, hm, hz, ht⟩
  · obtain rfl : k = 0 := by rw [hL] at hk; simpa using hk
    have HLN := Lib.hid hL
    have hcl : ∀ (w : World) (n c : Nat) ty, (Builtin.clear_ #[22] ty #[.slice none n c]).run Try.prog w = .ok (.tuple #[]) w := fun w n c ty => by simp [Builtin.clear_, run_underlying Try.underlying22]
    clear h hI hL iM
    go_enter Try.func36, Try.ntmps36
    go_wp2_with (go_at_call 38; (with_reducible refine (HA.out _ ?_).mono ?_); exact c0; rintro e w1 ⟨rfl, rfl⟩)
    go_end0
    refine ⟨rfl, S, ⟨.slice none 0 0, ?_, ?_, HL.out.own, ?_⟩, fun k hk => .inl hk, (Fr.refl S _).setCell (.inl HL.out.own) _⟩
    · rw [heap_set3 _ b 2 _ _ _ _ _ HL.out.box]; rfl
    · rw [HLN.out]; exact OwnS.nil _ _ _
    · intro k hk
      have := HL.out.lt k hk
      simpa [World.setCell] using this
  · obtain ⟨w2, hcl, hf, hb, ho⟩ := clear_tail h hk
    have HF := Lib.hid hf
    have HO := Lib.hid ho
    have HBX := Lib.hid (hb.trans h.box)
    obtain ⟨d0, d1, d2, e0, e1, e2⟩ := lcells HBX.out
    have kc : (k : Int) ≤ (cap : Int) := by omega
    have kc2 : k ≤ cap := by omega
    have hm2 : cap ≤ 9223372036854775807 := by simp only [maxLen] at hm; omega
    have fin : Hid (LogTo w (w2.setCell ⟨b, 2, none⟩ (.slice (some ⟨g, off, none⟩) k cap)) b ⟨T.i, T.t, T.L.take k⟩ S) := Lib.hid (by
      have hf2 := hf.setCell (p := ⟨b, 2, none⟩) (.inl h.own) (.slice (some ⟨g, off, none⟩) k cap)
      refine ⟨S, ⟨.slice (some ⟨g, off, none⟩) k cap, ?_, ?_, h.own, fun k hk => Nat.lt_of_lt_of_le (h.lt k hk) hf2.size⟩, fun k hk => .inl hk, hf2⟩
      · rw [heap_set3 w2 b 2 _ _ _ _ _ HBX.out]; rfl
      · exact ho.keep fun k _ q => Below.heap_setCell _ _ _ k q.2)
    by_cases hck : cap = k
    · subst hck
      have hl0 : T.L.length = cap := by omega
      have hcl0 : ∀ (w : World) (a : Option Addr) (c : Nat) ty, (Builtin.clear_ #[22] ty #[.slice a 0 c]).run Try.prog w = .ok (.tuple #[]) w := fun w a c ty => by cases a <;> simp [Builtin.clear_, run_underlying Try.underlying22]
      rw [hl0] at c2 kI
      have fin2 : Hid (LogTo w (w.setCell ⟨b, 2, none⟩ (.slice (some ⟨g, off, none⟩) cap cap)) b ⟨T.i, T.t, T.L.take cap⟩ S) := Lib.hid (by
        have hf2 := (Fr.refl S w).setCell (p := ⟨b, 2, none⟩) (.inl h.own) (.slice (some ⟨g, off, none⟩) cap cap)
        refine ⟨S, ⟨.slice (some ⟨g, off, none⟩) cap cap, ?_, ?_, h.own, fun k hk => Nat.lt_of_lt_of_le (h.lt k hk) hf2.size⟩, fun k hk => .inl hk, hf2⟩
        · rw [heap_set3 w b 2 _ _ _ _ _ h.box]; rfl
        · have := h.row
          rw [hl0] at this
          exact (this.take hk).keep fun k _ q => Below.heap_setCell _ _ _ k q.2)
      clear h hI hg hz ht hc hm hf hb ho iM hcl d0 d1 d2 e0 e1 e2 fin HBX HO HL hl0 kc
      go_enter Try.func36, Try.ntmps36
      go_wp2_with (go_at_call 38; (with_reducible refine (HA.out _ ?_).mono ?_); exact c0; rintro e w1 ⟨rfl, rfl⟩)
      go_end0
      exact ⟨rfl, fin2.out⟩
    · have hck2 : ¬ k = cap := fun e => hck e.symm
      clear h hI hg hz ht hc hm hf hb ho iM
      go_enter Try.func36, Try.ntmps36
      go_wp2_with (go_at_call 38; (with_reducible refine (HA.out _ ?_).mono ?_); exact c0; rintro e w1 ⟨rfl, rfl⟩)
      go_end0
      exact ⟨rfl, fin.out⟩
end Go.Proofs.Ytlimjfnolidbmaa
