import Derived.Test.YtipclhklkngamaaNb
import Derived.Maps.AppendAt
import Derived.Deep.RegionLaw
import Derived.Deep.RegionHeld3
import Derived.Deep.RegionWith
namespace Go.Proofs.Ytipclhklkngamaa
open Go.RowKit
set_option linter.unusedVariables false

theorem isPlace_any (i : Int) (w : World) (i0 : -9223372036854775808 ≤ i) (i1 : i ≤ 9223372036854775807) : Calls Try.prog 22 #[.int .i64 i] w fun e w' => e = .returned (.bool (Net.place i)) ∧ w = w' := by
  unfold Net.place
  by_cases h : 0 ≤ i
  · have h1 : decide (0 ≤ i) = true := decide_eq_true h
    rw [h1, Bool.true_and]
    go_enter Try.func22, Try.ntmps22
    go_wp2_with fail
    go_ret
    exact ⟨rfl, rfl⟩
  · have h1 : decide (0 ≤ i) = false := decide_eq_false h
    rw [h1, Bool.false_and]
    go_enter Try.func22, Try.ntmps22
    go_wp2_with fail
    go_ret
    exact ⟨rfl, rfl⟩
theorem at_none {N : Net} {k : Int} (h : k < 0 ∨ (N.q.length : Int) ≤ k) : N.at' k = none := by
  unfold Net.at'
  split
  · exact List.getElem?_eq_none (by omega)
  · rfl
theorem at_some {N : Net} {k : Nat} (h : k < N.q.length) : N.at' (k : Int) = some N.q[k] := by
  unfold Net.at'
  rw [if_pos (by omega), Int.toNat_natCast]
  exact List.getElem?_eq_getElem h
theorem has_any {w : World} {B b : Nat} {N : Net} {v : Value} (h : NetAt w B b N v) (k : Int) (k0 : -9223372036854775808 ≤ k) (k1 : k ≤ 9223372036854775807) :
    Calls Try.prog 24 #[.pointer (some ⟨b, 0, none⟩), .int .i64 k] w fun e w' => e = .returned (.bool (N.at' k).isSome) ∧ w = w' := by
  have c0 := h.queue
  obtain ⟨A, cap, rfl, h1, h2, h3⟩ := h.row.form
  have hm := h.ok.many
  have hml : (N.q.length : Int) ≤ 400 := by omega
  by_cases hk : 0 ≤ k
  · by_cases hl : k < N.q.length
    · have e : (N.at' k).isSome = true := by
        obtain ⟨n, rfl⟩ : ∃ n : Nat, k = (n : Int) := ⟨k.toNat, by omega⟩
        rw [at_some (by omega)]; rfl
      rw [e]
      clear h e
      go_enter Try.func24, Try.ntmps24
      go_wp2_with fail
      go_ret
      exact ⟨rfl, rfl⟩
    · have e : (N.at' k).isSome = false := by rw [at_none (.inr (by omega))]; rfl
      rw [e]
      clear h e
      go_enter Try.func24, Try.ntmps24
      go_wp2_with fail
      go_ret
      exact ⟨rfl, rfl⟩
  · have e : (N.at' k).isSome = false := by rw [at_none (.inl (by omega))]; rfl
    rw [e]
    clear h e
    go_enter Try.func24, Try.ntmps24
    go_wp2_with fail
    go_ret
    exact ⟨rfl, rfl⟩

/-! ### slices.Clone, Way -/
theorem OwnL.new (w : World) : OwnL (w.alloc (.cells #[] 32)) w.heap.size (.slice (some ⟨w.heap.size, 0, none⟩) 0 0) [] :=
  World.ownsRow_made w #[] 0 (Nat.le_refl _) (by decide) rfl
theorem eq_slice_none (A : Option Addr) (n c : Nat) (w : World) : (binOp .eql 27 (.slice A n c) (.slice none 0 0)).run Try.prog w = .ok (.bool A.isNone) w := by
  simp only [binOp]
  simp [run_equal_slice_nil w 27 32 A n c Try.underlying27]
/-- append of letters to a row of the call's own -/
theorem wp_appL {ops : Array Oper} {rest : List Oper} {o : Oper} {a : Act} {Q : Exit → Act → World → Prop} {w : World} (hgd : o.guard = none) (s x : Operand)
    (ho : o.op = .call { callee := .builtin .append, args := #[s, x], argTypes := #[27, 27] })
    (base : Nat) (v : Value) (l : List Let) (hs : a.eval s = v) (hown : OwnL w base v l) (V : Value) (q : List Let) (P : Nat → Prop) (hx : a.eval x = V) (hq : LsAt w V q P)
    (hlen : l.length + q.length ≤ 1000000) (hbase : base ≤ w.heap.size)
    (h : ∀ v' w', OwnL w' base v' (l ++ q) → w.grownBy w' v.ownBlock → (∀ g, v'.ownBlock = some g → v.ownBlock = some g ∨ w.heap.size ≤ g) → wpList Try.prog ops Q rest (a.put o.dst v') w') : wpList Try.prog ops Q (o :: rest) a w := by
  obtain ⟨i, hi, hz, hz1, hz2⟩ := info_parts3 info32
  obtain ⟨A, c, rfl, h2, h3, h4, h5⟩ := hq
  cases A with
  | none =>
    have hc0 := h4 rfl
    subst hc0
    obtain rfl : q = [] := List.eq_nil_of_length_eq_zero (by omega)
    refine wpList_append_own_none hgd s x 27 ho base 32 i 3 Try.underlying27 hi v l.length (flat l) hs hown hx (h v w ?_ ⟨rfl, rfl, rfl, Nat.le_refl _, fun _ _ _ => rfl⟩ fun g hg => .inl hg)
    rw [List.append_nil]; exact hown
  | some ad =>
    refine wpList_append_own_at w hgd s x 27 ho base 32 i _ 3 32 Try.underlying27 hi hz hz1 hz2 rfl (by omega) v l.length (flat l) hs hown ad q.length c (flat q) hx (flat_len q) ?_ (flat_cell q) (by simp only [maxLen]; omega) (by omega) hbase ?_
    · intro j u hu
      have hne : q ≠ [] := fun e => by rw [e] at hu; simp [flat] at hu
      obtain ⟨g, off, cs, fz, e1, _, e3, e4⟩ := h5 hne
      injection e1 with e1
      subst e1
      have := e4 j u hu
      rw [← cell_of_row w g (off + j) cs 32 fz e3] at this
      unfold Addr.add
      split
      · subst j; simpa using this
      · exact this
    · intro v' w' h2 h3 _ h5
      refine h v' w' ?_ h3 ?_
      · unfold OwnL
        rw [flat_app, List.length_append]
        exact h2
      · intro g hg
        rcases h5 with h5 | h5
        · exact .inl (h5 ▸ hg)
        · rw [h5] at hg
          injection hg with hg
          exact .inr (by omega)
theorem OwnL.belows {w w' : World} {base : Nat} {v : Value} {q : List Let} (h : OwnL w base v q) (hb : Below w.heap.size w w') : OwnL w' base v q := h.keep fun g hg => hb.block g (h.lt g hg).2
theorem LsAt.belows {w w' : World} {v : Value} {q : List Let} {P : Nat → Prop} (h : LsAt w v q P) (hb : Below w.heap.size w w') : LsAt w' v q P := h.keep fun g _ hg _ => hb.block g hg
set_option maxHeartbeats 1000000 in
set_option maxRecDepth 100000 in
theorem clone_any {w : World} {V : Value} {q : List Let} {P : Nat → Prop} (hL : LsAt w V q P) (hn : q.length ≤ 100000) :
    Calls Try.prog 26 #[V] w fun e w' => ∃ v, e = .returned v ∧ OwnL w' w.heap.size v q ∧ Below w.heap.size w w' := by
  obtain ⟨A, c, rfl, h2, h3, h4, h5⟩ := id hL
  cases A with
  | none =>
    have hc0 := h4 rfl
    subst hc0
    obtain rfl : q = [] := List.eq_nil_of_length_eq_zero (by omega)
    rw [List.length_nil]
    have he := fun W => eq_slice_none none 0 0 W
    rw [show (none : Option Addr).isNone = true from rfl] at he
    clear hL h5
    go_enter Try.func26, Try.ntmps26
    go_wp2_with fail
    go_ret
    exact ⟨_, rfl, OwnL.nil _ _, Below.refl _ _⟩
  | some a =>
    have HL := Lib.hid hL
    clear hL h5
    have he := fun W => eq_slice_none (some a) q.length c W
    rw [show (some a).isNone = false from rfl] at he
    go_enter Try.func26, Try.ntmps26
    go_wp2_with (at_builtin; (refine wp_appL rfl (.tmp 5) (.tmp 6) rfl w.heap.size _ [] rfl (OwnL.new w) (.slice (some a) q.length c) q P rfl (HL.out.belows ((Below.refl _ w).alloc (Nat.le_refl _) _)) ?hl ?hbs ?_))
    case hl => simp; omega
    case hbs => simp
    intro v' w2 hown2 hgrow _
    have hbw2 : Below w.heap.size w w2 := ((Below.refl _ w).alloc (Nat.le_refl _) _).grown hgrow (by simp) (fun k hk => by simp [Value.ownBlock] at hk; omega)
    go_wp2_with fail
    go_ret
    exact ⟨v', rfl, hown2, hbw2⟩
theorem way_any {w : World} {B b : Nat} {N : Net} {v : Value} (h : NetAt w B b N v) :
    Calls Try.prog 20 #[.pointer (some ⟨b, 0, none⟩)] w fun e w' => ∃ v', e = .returned v' ∧ OwnL w' w.heap.size v' N.q ∧ Below w.heap.size w w' := by
  have c0 := h.queue
  have HC := Lib.hid (clone_any h.row.at' (by have := h.ok.many; omega))
  obtain ⟨A, cap, rfl, _⟩ := h.row.form
  clear h
  go_enter Try.func20, Try.ntmps20
  go_wp2_with fail
  refine HC.out.mono ?_
  rintro e w2 ⟨v', rfl, ho, hb⟩
  go_wp2_with fail
  go_ret
  exact ⟨v', rfl, ho, hb⟩
end Go.Proofs.Ytipclhklkngamaa
