import Derived.Test.YtjpnkecfoealoaaVOwn
import Derived.Test.YtjpnkecfoealoaaVPd
namespace Go.Proofs.Ytjpnkecfoealoaa.Vc
set_option maxRecDepth 20000
open Go.RowKit
set_option linter.unusedVariables false
/-- digits as cells -/
def dC (l : List Nat) : List Value := l.map fun (b : Nat) => Value.int .i64 (b : Int)
theorem dC_length (l : List Nat) : (dC l).length = l.length := by simp [dC]
theorem dC_append (a b : List Nat) : dC (a ++ b) = dC a ++ dC b := by simp [dC]
theorem dC_oneCell (l : List Nat) : ∀ u ∈ dC l, u.oneCell' = true := by
  intro u hu; simp only [dC, List.mem_map] at hu; obtain ⟨b, _, rfl⟩ := hu; rfl
theorem info3 : (Try.prog.info? 3).map (fun i => (i.zero, i.size, i.bytes)) = some (some (.int .i64 0), 1, 8) := by kernel_rfl
def OwnD (w : World) (base : Nat) (v : Value) (l : List Nat) : Prop := w.ownsRow base 3 1 v l.length (dC l)
theorem OwnD.below {w w' : World} {base : Nat} {v : Value} {l : List Nat} (h : OwnD w base v l) (hb : Below w.heap.size w w') : OwnD w' base v l := by
  refine ⟨h.1, ?_⟩
  rcases h.2 with hn | ⟨g, cap, cur, rfl, hg, hgg, r⟩
  · exact .inl hn
  · exact .inr ⟨g, cap, cur, rfl, hg, by rw [hb.block g (Array.getElem?_eq_some_iff.1 hgg).1]; exact hgg, r⟩
theorem OwnD.nil (w : World) (base : Nat) : OwnD w base (.slice none 0 0) [] := ⟨rfl, .inl ⟨rfl, rfl⟩⟩
theorem OwnD.new (w : World) : OwnD (w.alloc (.cells #[] 3)) w.heap.size (.slice (some ⟨w.heap.size, 0, none⟩) 0 0) [] := World.ownsRow_made w #[] 0 (Nat.le_refl _) (by simp [maxLen]) (by simp)
theorem OwnD.mono {w : World} {base base' : Nat} {v : Value} {l : List Nat} (h : OwnD w base v l) (hb : base' ≤ base) : OwnD w base' v l := by
  refine ⟨h.1, ?_⟩
  rcases h.2 with hn | ⟨g, cap, cur, rfl, hg, r⟩
  · exact .inl hn
  · exact .inr ⟨g, cap, cur, rfl, by omega, r⟩
/-- a slice of digits that reads as ds, in a block below B -/
def DigsAt (w : World) (B : Nat) (A : Option Addr) (ds : List Nat) : Prop :=
  ds ≠ [] → ∃ b off, A = some ⟨b, off, none⟩ ∧ b < B ∧ ∀ (j u : Nat), ds[j]? = some u → w.cell? ⟨b, off + j, none⟩ = some (.int .i64 (u : Int))
theorem DigsAt.on {w w' : World} {A : Option Addr} {ds : List Nat} (h : DigsAt w w.heap.size A ds) (hb : Below w.heap.size w w') : DigsAt w' w'.heap.size A ds := fun hne => by
  obtain ⟨b, off, h1, h2, h3⟩ := h hne
  exact ⟨b, off, h1, by have := hb.size; omega, fun j u hu => (hb.cell (p := ⟨b, _, none⟩) h2).trans (h3 j u hu)⟩
theorem DigsAt.nil (w : World) (B : Nat) (A : Option Addr) : DigsAt w B A [] := fun h => absurd rfl h
theorem DigsAt.take {w : World} {B : Nat} {A : Option Addr} {ds : List Nat} (h : DigsAt w B A ds) (n : Nat) : DigsAt w B A (ds.take n) := fun hne => by
  obtain ⟨b, off, h1, h2, h3⟩ := h (fun e => hne (by rw [e]; simp))
  refine ⟨b, off, h1, h2, fun j u hu => h3 j u ?_⟩
  rw [List.getElem?_take] at hu
  split at hu
  · exact hu
  · cases hu
theorem OwnD.form {w : World} {base : Nat} {v : Value} {l : List Nat} (h : OwnD w base v l) : ∃ A cap, v = .slice A l.length cap ∧ DigsAt w w.heap.size A l ∧ l.length ≤ cap ∧ cap ≤ 9223372036854775807 ∧ (A = none → cap = 0) := by
  have h0 := h
  rcases h.2 with ⟨rfl, hn⟩ | ⟨g, cap, cur, rfl, hb, hh, hc, hm, _⟩
  · have : l = [] := List.eq_nil_of_length_eq_zero hn
    subst this
    exact ⟨none, 0, rfl, DigsAt.nil _ _ _, by simp, by omega, fun _ => rfl⟩
  · refine ⟨some ⟨g, 0, none⟩, cap, rfl, fun hne => ⟨g, 0, rfl, (Array.getElem?_eq_some_iff.1 hh).1, fun j u hu => ?_⟩, hc, by simp only [maxLen] at hm; omega, fun h => by cases h⟩
    have := h0.cells (g := g) rfl j (.int .i64 (u : Int)) (by simp [dC, hu])
    unfold Addr.add at this
    split at this
    · subst j; simpa using this
    · simpa using this
theorem digs_new (w : World) (ds : List Nat) : DigsAt (w.alloc (.cells (dC ds).toArray 3)) (w.alloc (.cells (dC ds).toArray 3)).heap.size (some ⟨w.heap.size, 0, none⟩) ds := fun _ =>
  ⟨w.heap.size, 0, rfl, by simp, fun j u hu => by
    rw [Nat.zero_add, cell_of_row _ _ j _ _ _ (heap_alloc_new w _)]
    simp [dC, hu]⟩
/-- append of digits that stand in memory, or of none -/
theorem wp_appD {ops : Array Oper} {rest : List Oper} {o : Oper} {a : Act} {Q : Exit → Act → World → Prop} {w : World} (hgd : o.guard = none) (s x : Operand)
    (ho : o.op = .call { callee := .builtin .append, args := #[s, x], argTypes := #[30, 30] })
    (base : Nat) (v : Value) (l : List Nat) (hs : a.eval s = v) (hown : OwnD w base v l) (A : Option Addr) (n c B : Nat) (bs : List Nat) (hx : a.eval x = .slice A n c) (hA : A = none → c = 0) (hb : DigsAt w B A bs) (hn : bs.length = n) (hnc : n ≤ c)
    (hlen : l.length + n ≤ 1000000) (hbase : base ≤ w.heap.size)
    (h : ∀ v' w', OwnD w' base v' (l ++ bs) → Below base w w' → wpList Try.prog ops Q rest (a.put o.dst v') w') : wpList Try.prog ops Q (o :: rest) a w := by
  obtain ⟨i5, hi5, hz0, hz1, hz2⟩ := info_parts info3
  cases A with
  | none =>
    have hc0 := hA rfl
    subst hc0
    obtain rfl : n = 0 := by omega
    have hbs : bs = [] := List.eq_nil_of_length_eq_zero hn
    subst hbs
    refine wpList_append_own_none hgd s x 30 ho base 3 i5 1 Try.underlying30 hi5 v l.length (dC l) hs hown hx (h v w ?_ (Below.refl _ _))
    rw [List.append_nil]; exact hown
  | some ad =>
    refine wpList_append_own w hgd s x 30 ho base 3 i5 _ 1 8 Try.underlying30 hi5 hz0 hz1 hz2 rfl (by omega) v l.length (dC l) hs hown ad n c (dC bs) hx (by rw [dC_length]; omega) ?_ (dC_oneCell _) (by simp only [maxLen]; omega) (by omega) hbase ?_
    · intro j u hu
      have hne : bs ≠ [] := fun e => by rw [e] at hu; simp [dC] at hu
      obtain ⟨b, off, h1, _, h3⟩ := hb hne
      injection h1 with h1
      subst h1
      simp only [dC, List.getElem?_map, Option.map_eq_some_iff] at hu
      obtain ⟨y, hy, rfl⟩ := hu
      have := h3 j y hy
      unfold Addr.add
      split
      · subst j; simpa using this
      · exact this
    · intro v' w' h2 h3 _
      refine h v' w' ?_ ((Below.refl _ _).grown h3 hbase fun k hk => (hown.lt k hk).1)
      unfold OwnD
      rw [dC_append, List.length_append, hn]
      exact h2
/-- digit -/
theorem digit_any (D : List Nat) (A : Option Addr) (n cap i : Nat) (w : World) (hb : DigsAt w w.heap.size A D) (hn : D.length = n) (hl : n ≤ 1000000) (hi : i ≤ 1000000) :
    Calls Try.prog 57 #[.slice A n cap, .int .i64 (i : Int)] w fun e w' => e = .returned (.int .i64 (Pd.dg D i : Nat)) ∧ w = w' := by
  have HN := Lib.hid hn
  by_cases hlt : i < n
  · have hil : i < D.length := by rw [HN.out]; exact hlt
    obtain ⟨b, off, rfl, hb1, hb2⟩ := hb (fun e => by rw [e] at hil; simp at hil)
    have hc := hb2 i D[i] (List.getElem?_eq_getElem hil)
    rw [show Pd.dg D i = D[i] from Pd.dg_at hil]
    generalize D[i] = d at *
    have h1 : (i : Int) < n := by omega
    clear hb2 hn hil
    go_enter Try.func57, Try.ntmps57
    go_wp2_with fail
    go_ret
    exact ⟨rfl, rfl⟩
  · rw [show Pd.dg D i = 0 from Pd.dg_ge (by rw [HN.out]; omega)]
    have hd : decide (i < n) = false := by simpa using hlt
    clear hn hb
    go_enter Try.func57, Try.ntmps57
    go_wp2_with fail
    go_ret
    exact ⟨rfl, rfl⟩
end Go.Proofs.Ytjpnkecfoealoaa.Vc
