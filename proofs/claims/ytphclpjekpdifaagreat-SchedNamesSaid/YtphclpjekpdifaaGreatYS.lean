import Derived.Test.YtphclpjekpdifaaGreatYL
import Derived.Laws.AppendOwnNone
import Derived.Test.YtphclpjekpdifaaGreatYJ
import Derived.Test.YtphclpjekpdifaaGreatYF
import Derived.Test.YtphclpjekpdifaaGreatYK
namespace Go.Proofs.YtphclpjekpdifaaGreat
set_option maxRecDepth 20000
open Go.RowKit
set_option linter.unusedVariables false
structure CT (α : Type) where
  C : α → List Value
  m : Nat
  e : TypeId
  t : TypeId
  z : Value
  by_ : Nat
  len : ∀ x, (C x).length = m
  one : ∀ x, ∀ u ∈ C x, u.oneCell' = true
  pos : 0 < m
  small : m ≤ 20
  zs : z.cells.size = m
  bsmall : by_ ≤ 200
  info : (Tryz.prog.info? e).map (fun i => (i.zero, i.size, i.bytes)) = some (some z, m, by_)
  und : Tryz.prog.underlying t = some (.slice e)
def flat {α : Type} (D : CT α) : List α → List Value
  | [] => []
  | x :: r => D.C x ++ flat D r
theorem flat_length {α : Type} (D : CT α) : ∀ L : List α, (flat D L).length = L.length * D.m
  | [] => by simp [flat]
  | x :: r => by rw [flat, List.length_append, flat_length D r, List.length_cons, D.len, Nat.succ_mul, Nat.add_comm]
theorem flat_append {α : Type} (D : CT α) : ∀ a b : List α, flat D (a ++ b) = flat D a ++ flat D b
  | [], b => rfl
  | x :: r, b => by rw [List.cons_append, flat, flat, flat_append D r b, List.append_assoc]
theorem flat_one {α : Type} (D : CT α) : ∀ L : List α, ∀ u ∈ flat D L, u.oneCell' = true
  | [], u, h => by cases h
  | x :: r, u, h => by
    rw [flat, List.mem_append] at h
    rcases h with h | h
    · exact D.one x u h
    · exact flat_one D r u h
theorem flat_at {α : Type} (D : CT α) : ∀ (L : List α) (j : Nat) (u : Value), (flat D L)[j]? = some u → ∃ i q x, L[i]? = some x ∧ q < D.m ∧ j = i * D.m + q ∧ (D.C x)[q]? = some u
  | [], j, u, h => by simp [flat] at h
  | x :: r, j, u, h => by
    rw [flat, List.getElem?_append] at h
    split at h
    · rename_i hj
      rw [D.len] at hj
      exact ⟨0, j, x, rfl, hj, by omega, h⟩
    · rename_i hj
      rw [D.len] at h hj
      obtain ⟨i, q, y, h1, h2, h3, h4⟩ := flat_at D r _ u h
      exact ⟨i + 1, q, y, h1, h2, by rw [Nat.succ_mul]; omega, h4⟩
theorem flat_get {α : Type} (D : CT α) : ∀ (L : List α) (i : Nat) (x : α), L[i]? = some x → ∀ q u, (D.C x)[q]? = some u → (flat D L)[i * D.m + q]? = some u
  | [], i, x, h => by simp at h
  | y :: r, 0, x, h => by
    intro q u hu
    obtain rfl : y = x := by simpa using h
    have hq : q < (D.C y).length := (List.getElem?_eq_some_iff.1 hu).1
    rw [flat, Nat.zero_mul, Nat.zero_add, List.getElem?_append_left hq]
    exact hu
  | y :: r, i + 1, x, h => by
    intro q u hu
    rw [flat, List.getElem?_append_right (by rw [D.len, Nat.succ_mul]; omega), D.len, show (i + 1) * D.m + q - D.m = i * D.m + q by rw [Nat.succ_mul]; omega]
    exact flat_get D r i x (by simpa using h) q u hu
def Rws {α : Type} (D : CT α) (w : World) (B : Nat) (A : Option Addr) (L : List α) : Prop :=
  L ≠ [] → ∃ b off, A = some ⟨b, off, none⟩ ∧ b < B ∧ ∀ (i : Nat) (x : α), L[i]? = some x → ∀ q u, (D.C x)[q]? = some u → w.cell? ⟨b, off + i * D.m + q, none⟩ = some u
theorem Rws.on {α : Type} {D : CT α} {w w' : World} {B : Nat} {A : Option Addr} {L : List α} (h : Rws D w B A L) (hb : Below B w w') : Rws D w' B A L := fun hne => by
  obtain ⟨b, off, h1, h2, h3⟩ := h hne
  exact ⟨b, off, h1, h2, fun i x hx q u hu => (hb.cell (p := ⟨b, off + i * D.m + q, none⟩) h2).trans (h3 i x hx q u hu)⟩
theorem Rws.mono {α : Type} {D : CT α} {w : World} {B B' : Nat} {A : Option Addr} {L : List α} (h : Rws D w B A L) (hB : B ≤ B') : Rws D w B' A L := fun hne => by
  obtain ⟨b, off, h1, h2, h3⟩ := h hne
  exact ⟨b, off, h1, by omega, h3⟩
theorem Rws.nil {α : Type} (D : CT α) (w : World) (B : Nat) (A : Option Addr) : Rws D w B A [] := fun h => absurd rfl h
theorem Rws.at_ {α : Type} {D : CT α} {w : World} {B : Nat} {A : Option Addr} {L : List α} (h : Rws D w B A L) {i : Nat} {x : α} (hx : L[i]? = some x) :
    ∃ b off, A = some ⟨b, off, none⟩ ∧ b < B ∧ ∀ q u, (D.C x)[q]? = some u → w.cell? ⟨b, off + i * D.m + q, none⟩ = some u := by
  obtain ⟨b, off, h1, h2, h3⟩ := h (fun e => by rw [e] at hx; simp at hx)
  exact ⟨b, off, h1, h2, h3 i x hx⟩
def Own {α : Type} (D : CT α) (w : World) (base : Nat) (v : Value) (L : List α) : Prop := w.ownsRow base D.e D.m v L.length (flat D L)
theorem Own.nil {α : Type} (D : CT α) (w : World) (base : Nat) : Own D w base (.slice none 0 0) [] := World.ownsRow_nil _ _ _ _
theorem Own.mono {α : Type} {D : CT α} {w : World} {base base' : Nat} {v : Value} {L : List α} (h : Own D w base v L) (hb : base' ≤ base) : Own D w base' v L := by
  refine ⟨h.1, ?_⟩
  rcases h.2 with hn | ⟨g, cap, cur, rfl, hg, r⟩
  · exact .inl hn
  · exact .inr ⟨g, cap, cur, rfl, by omega, r⟩
theorem Own.keep {α : Type} {D : CT α} {w w' : World} {base : Nat} {v : Value} {L : List α} (h : Own D w base v L) (hk : ∀ g, v.ownBlock = some g → w'.heap[g]? = w.heap[g]?) : Own D w' base v L := by
  refine ⟨h.1, ?_⟩
  rcases h.2 with hn | ⟨g, cap, cur, rfl, hg, hgg, r⟩
  · exact .inl hn
  · exact .inr ⟨g, cap, cur, rfl, hg, (hk g rfl).trans hgg, r⟩
theorem Own.lt {α : Type} {D : CT α} {w : World} {base : Nat} {v : Value} {L : List α} (h : Own D w base v L) {g : Nat} (hg : v.ownBlock = some g) : base ≤ g ∧ g < w.heap.size := by
  rcases h.2 with ⟨rfl, hn⟩ | ⟨g', cap, cur, rfl, hg', hgg, r⟩
  · cases hg
  · obtain rfl : g' = g := by simpa [Value.ownBlock] using hg
    exact ⟨hg', (Array.getElem?_eq_some_iff.1 hgg).1⟩
theorem Own.below {α : Type} {D : CT α} {w w' : World} {base : Nat} {v : Value} {L : List α} (h : Own D w base v L) (hb : Below w.heap.size w w') : Own D w' base v L :=
  h.keep fun g hg => hb.block g (h.lt hg).2
theorem Own.form {α : Type} {D : CT α} {w : World} {base : Nat} {v : Value} {L : List α} (h : Own D w base v L) : ∃ A cap, v = .slice A L.length cap ∧ Rws D w w.heap.size A L ∧ L.length ≤ cap ∧ cap ≤ 9223372036854775807 ∧ (A = none → cap = 0) := by
  have h0 := h
  rcases h.2 with ⟨rfl, hn⟩ | ⟨g, cap, cur, rfl, hb, hh, hc, hm, _⟩
  · have : L = [] := List.eq_nil_of_length_eq_zero hn
    subst this
    exact ⟨none, 0, rfl, fun h => absurd rfl h, by simp, by omega, fun _ => rfl⟩
  · refine ⟨some ⟨g, 0, none⟩, cap, rfl, fun hne => ⟨g, 0, rfl, (Array.getElem?_eq_some_iff.1 hh).1, fun j n hn q u hu => ?_⟩, hc, by simp only [maxLen] at hm; omega, fun h => by cases h⟩
    have := h0.cells (g := g) rfl (j * D.m + q) u (flat_get D L j n hn q u hu)
    unfold Addr.add at this
    split at this
    · rename_i e
      rw [Nat.zero_add, e]
      exact this
    · rw [Nat.zero_add]
      simpa using this
theorem Own.row {α : Type} {D : CT α} {w : World} {base : Nat} {v : Value} {L : List α} (h : Own D w base v L) (hne : L ≠ []) : ∃ g cap, v = .slice (some ⟨g, 0, none⟩) L.length cap ∧ base ≤ g ∧ g < w.heap.size ∧ v.ownBlock = some g := by
  rcases h.2 with ⟨rfl, hn⟩ | ⟨g, cap, cur, rfl, hb, hh, hc, hm, _⟩
  · exact absurd (List.eq_nil_of_length_eq_zero hn) hne
  · exact ⟨g, cap, rfl, hb, (Array.getElem?_eq_some_iff.1 hh).1, rfl⟩
theorem append_rows {α : Type} {D : CT α} {w : World} {s : Nat} {base : Nat} {v : Value} {l : List α} (hown : Own D w base v l) {A : Option Addr} {n c B : Nat} {bs : List α} (hA : A = none → c = 0) (hb : Rws D w B A bs) (hn : bs.length = n) (hnc : n ≤ c) (hlen : l.length + n ≤ 1000000) (hbase : base ≤ w.heap.size) :
    ∃ v' w', (Builtin.append_ #[D.t, D.t] s #[v, .slice A n c]).run Tryz.prog w = .ok v' w' ∧ Own D w' base v' (l ++ bs) ∧ w.grownBy w' v.ownBlock ∧ (v'.ownBlock = v.ownBlock ∨ v'.ownBlock = some w.heap.size) := by
  obtain ⟨i5, hi5, hz0, hz1, hz2⟩ := info_parts D.info
  have hsm := D.small
  have hbs2 := D.bsmall
  cases A with
  | none =>
    have hc0 := hA rfl
    subst hc0
    obtain rfl : n = 0 := by omega
    have hbs : bs = [] := List.eq_nil_of_length_eq_zero hn
    subst hbs
    refine ⟨v, w, ?_, by rw [List.append_nil]; exact hown, ⟨rfl, rfl, rfl, Nat.le_refl _, fun _ _ _ => rfl⟩, .inl rfl⟩
    rcases hown.2 with ⟨rfl, hn⟩ | ⟨g, cap, cur, rfl, hbg, hg, hnc, hcm, _⟩
    · simp [Builtin.append_, run_underlying D.und, sizeOf, typeInfo, hi5, Builtin.lenOf, Builtin.firstCells]
    · simp [Builtin.append_, run_underlying D.und, sizeOf, typeInfo, hi5, Builtin.lenOf, Builtin.firstCells, loadCells, hnc, storeCells]
  | some ad =>
    obtain ⟨v', w', hr, k2, k3, k4⟩ := run_append_own_at (P := Tryz.prog) w base D.t s D.e i5 _ D.m D.by_ D.und hi5 hz0 hz1 hz2 D.zs D.pos v l.length (flat D l) hown ad n c (flat D bs) (by rw [flat_length, hn]) (by
      intro j u hu
      have hne : bs ≠ [] := fun e => by rw [e] at hu; simp [flat] at hu
      obtain ⟨b, off, h1, _, h3⟩ := hb hne
      injection h1 with h1
      subst h1
      obtain ⟨i, q, y, hy, hq, rfl, hu2⟩ := flat_at D bs j u hu
      have := h3 i y hy q u hu2
      unfold Addr.add
      split
      · rename_i e
        rw [show off + i * D.m + q = off by omega] at this
        exact this
      · rw [Nat.add_assoc] at this
        exact this) (flat_one D _) (by simp only [maxLen]; omega) (by
        have h1 : (l.length + n) * D.by_ ≤ 1000000 * 200 := Nat.mul_le_mul hlen hbs2
        omega) hbase
    refine ⟨v', w', hr, ?_, k3, k4.2⟩
    unfold Own
    rw [flat_append, List.length_append, hn]
    exact k2
theorem wp_appX {α : Type} (D : CT α) {ops : Array Oper} {rest : List Oper} {o : Oper} {a : Act} {Q : Exit → Act → World → Prop} {w : World} (hgd : o.guard = none) (s x : Operand)
    (ho : o.op = .call { callee := .builtin .append, args := #[s, x], argTypes := #[D.t, D.t] })
    (base : Nat) (v : Value) (l : List α) (hs : a.eval s = v) (hown : Own D w base v l) (A : Option Addr) (n c B : Nat) (bs : List α) (hx : a.eval x = .slice A n c) (hA : A = none → c = 0) (hb : Rws D w B A bs) (hn : bs.length = n) (hnc : n ≤ c)
    (hlen : l.length + n ≤ 1000000) (hbase : base ≤ w.heap.size)
    (h : ∀ v' w', Own D w' base v' (l ++ bs) → w.grownBy w' v.ownBlock → (v'.ownBlock = v.ownBlock ∨ v'.ownBlock = some w.heap.size) → wpList Tryz.prog ops Q rest (a.put o.dst v') w') : wpList Tryz.prog ops Q (o :: rest) a w := by
  obtain ⟨v', w', hr, h1, h2, h3⟩ := append_rows (s := o.type) hown hA hb hn hnc hlen hbase
  refine wpList_plain hgd fun K hK => ?_
  unfold Oper.wp
  simp [execOp, ho, resolve, invoke, builtin, hs, hx, hr, Result.andThen]
  exact hK _ _ (h v' w' h1 h2 h3)
theorem Rws.box {α : Type} {D : CT α} {w : World} {g : Nat} {x : α} {fz : Nat × Nat} (hg : w.heap[g]? = some (.cells (D.C x).toArray D.e fz)) : Rws D w w.heap.size (some ⟨g, 0, none⟩) [x] := fun _ => by
  refine ⟨g, 0, rfl, (Array.getElem?_eq_some_iff.1 hg).1, fun i y hy q u hu => ?_⟩
  match i, hy with
  | 0, hy =>
    obtain rfl : x = y := by simpa using hy
    rw [Nat.zero_mul, Nat.zero_add]
    simp only [World.cell?, hg]
    simpa using hu
  | i + 1, hy => simp at hy
end Go.Proofs.YtphclpjekpdifaaGreat
namespace Go.Proofs.YtphclpjekpdifaaGreat
set_option maxRecDepth 20000
open Go.RowKit
open PS (Tx)
open Go.Proofs.YtphclpjekpdifaaGreat.Nm (str Gr)
open Go.Proofs.YtphclpjekpdifaaGreat.Vc (RetBelow)
set_option linter.unusedVariables false
def cmpK (a b : Tx) : Int := if a = b then 0 else if Nm.Pl.less a b = true then -1 else 1
theorem str_tl (a b : Tx) : ((str a).toList == (str b).toList) = decide (a = b) := by
  rw [Bool.eq_iff_iff, beq_iff_eq, decide_eq_true_eq, Wi.toList_iff, Nm.str_inj]
theorem str_beq (a b : Tx) : (str a == str b) = decide (a = b) := (beq_toListBytes _ _).trans (str_tl a b)
theorem cmp_key (a b : Tx) (w : World) (ha : a.length ≤ 281474976710656) (hb : b.length ≤ 281474976710656) :
    Calls Tryz.prog 93 #[.string (str a), .string (str b)] w fun e w' => e = .returned (.int .i64 (cmpK a b)) ∧ Gr w w' := by
  have HL := Lib.hid (fun X => Nm.less_str a b X ha hb)
  have hq := str_beq a b
  unfold cmpK
  clear ha hb
  by_cases h : a = b
  · rw [if_pos h]
    rw [decide_eq_true h] at hq
    generalize str a = A at *
    generalize str b = B at *
    have hq2 : (A.toList == B.toList) = true := by rw [← beq_toListBytes]; exact hq
    clear h
    go_enter Tryz.func93, Tryz.ntmps93
    go_wp2_with fail
    go_ret
    exact ⟨rfl, Below.refl _ _, Nat.le_refl _⟩
  · rw [if_neg h]
    rw [decide_eq_false h] at hq
    generalize Nm.Pl.less a b = L at *
    generalize str a = A at *
    generalize str b = B at *
    have hq2 : (A.toList == B.toList) = false := by rw [← beq_toListBytes]; exact hq
    clear h
    cases L with
    | true =>
      go_enter Tryz.func93, Tryz.ntmps93
      go_wp2_with (go_at_call 128; (with_reducible refine (HL.out _).mono ?_); rintro e w1 ⟨rfl, hg⟩)
      go_ret
      exact ⟨rfl, hg⟩
    | false =>
      go_enter Tryz.func93, Tryz.ntmps93
      go_wp2_with (go_at_call 128; (with_reducible refine (HL.out _).mono ?_); rintro e w1 ⟨rfl, hg⟩)
      go_ret
      exact ⟨rfl, hg⟩
abbrev Key : Type := {k : Tx // k.length ≤ 1000000}
instance : Inhabited Key := ⟨⟨[], by simp⟩⟩
def encK (x : Key) : Value := .string (str x.1)
def cfK (x y : Key) : Int := cmpK x.1 y.1
theorem ltK (x y : Key) : Go.Proofs.ltOf cfK x y = Nm.Pl.less x.1 y.1 := by
  unfold Go.Proofs.ltOf cfK cmpK
  by_cases h : x.1 = y.1
  · rw [if_pos h, h]
    unfold Nm.Pl.less
    rw [Nm.Pl.lt_self]; rfl
  · rw [if_neg h]
    cases Nm.Pl.less x.1 y.1 <;> rfl
theorem less_ntrans {a b c : Tx} (h1 : Nm.Pl.less a b = false) (h2 : Nm.Pl.less b c = false) : Nm.Pl.less a c = false := by
  unfold Nm.Pl.less at *
  by_cases hab : Nm.Pl.lt (Nm.Pl.nums b) (Nm.Pl.nums a) = true
  · by_cases hac : Nm.Pl.lt (Nm.Pl.nums a) (Nm.Pl.nums c) = true
    · rw [Nm.Pl.lt_trans _ _ _ hab hac] at h2; cases h2
    · exact Bool.eq_false_iff.2 hac
  · rw [Nm.Pl.lt_total _ _ h1 (Bool.eq_false_iff.2 hab)]
    exact h2
theorem swoK : Go.Sort.SWO (Go.Proofs.ltOf cfK) where
  irrefl x := by rw [ltK]; exact Nm.Pl.lt_self _
  trans x y z h1 h2 := by rw [ltK] at *; exact Nm.Pl.lt_trans _ _ _ h1 h2
  ntrans x y z h1 h2 := by rw [ltK] at *; exact less_ntrans h1 h2
theorem encK_one : Go.Proofs.OneCell encK := fun _ => rfl
def RowK (W : World) (g : Nat) (d : List Tx) : Prop := ∀ j k, d[j]? = some k → W.cell? ⟨g, j, none⟩ = some (.string (str k)) ∧ W.frozen? ⟨g, j, none⟩ = false
theorem sort_keys (w : World) (g cap : Nat) (d : List Tx) (hd : ∀ k ∈ d, k.length ≤ 1000000) (hr : RowK w g d) (hg : g < w.heap.size) (hl : d.length ≤ 1000000) :
    Calls Tryz.prog 92 #[.slice (some ⟨g, 0, none⟩) d.length cap, .func (.func 93) #[] #[]] w fun e w' => e = .returned (.tuple #[]) ∧
      ∃ d' : List Tx, d'.Perm d ∧ d'.Pairwise (fun i j => Nm.Pl.less j i = false) ∧ (∀ j k, d'[j]? = some k → w'.cell? ⟨g, j, none⟩ = some (.string (str k))) ∧ w.heap.size ≤ w'.heap.size ∧ (∀ k, k ≤ g → Below k w w') ∧ (∀ k, k < w.heap.size → k ≠ g → w'.heap[k]? = w.heap[k]?) := by
  let D : Array Key := (d.pmap (fun u h => (⟨u, h⟩ : Key)) hd).toArray
  have hsz : D.size = d.length := by simp [D]
  have hmap : D.toList.map Subtype.val = d := by
    simp only [D, List.map_pmap]
    simp
  have hget : ∀ j u, d[j]? = some u → ∃ h : j < D.size, D[j]!.val = u := by
    intro j u hu
    have hj : j < d.length := by rw [List.getElem?_eq_some_iff] at hu; exact hu.1
    refine ⟨by rw [hsz]; exact hj, ?_⟩
    rw [← hmap, List.getElem?_map, Array.getElem?_toList] at hu
    rw [getElem!_pos D j (by rw [hsz]; exact hj)]
    rw [Array.getElem?_eq_getElem (by rw [hsz]; exact hj)] at hu
    simpa using hu
  have hH : Go.Sort.Holds encK w g 0 D := by
    intro j hj
    have hj' : j < d.length := by rw [← hsz]; exact hj
    obtain ⟨_, hv⟩ := hget j d[j] (List.getElem?_eq_getElem hj')
    have := hr j d[j] (List.getElem?_eq_getElem hj')
    rw [Nat.zero_add]
    unfold encK
    rw [hv]
    exact this
  have eg : ∀ args W, (callFunc 93 args).run Tryz.prog W = .ok (.enter 93 args) W := enters_of Tryz.func93 (by kernel_rfl) rfl
  have hcmp : Go.Proofs.CmpLays1 Tryz.prog 93 #[] encK cfK g 0 D.size w := by
    intro m os dk hs x y
    exact (cmp_key x.1 y.1 _ (by have := x.2; omega) (by have := y.2; omega)).mono fun e w' ⟨h1, h2⟩ => ⟨h1, gr_grow h2⟩
  have hcon := Go.Proofs.Any.slices_SortFunc Go.Proofs.Tryz.laysSlF6_f92 encK encK_one cfK swoK 93 #[] g 0 cap D w eg hcmp hH hg (by rw [hsz]; omega)
  change Calls Tryz.prog 92 _ _ _ at hcon
  rw [hsz] at hcon
  refine hcon.mono ?_
  rintro e w' ⟨rfl, D', n, os, hp, hs, rfl⟩
  refine ⟨rfl, D'.toList.map Subtype.val, ?_, ?_, ?_, sw_size _ _ _ _ _ _ _, fun k hk => sw_below _ _ _ _ _ _ _ k hk (by omega), fun k h1 h2 => sw_heap _ _ _ _ _ _ _ k h1 h2⟩
  · obtain ⟨h1, _, h3⟩ := hp
    rw [← hsz] at h3
    have e1 : D.extract 0 D.size = D := Array.extract_size
    have e2 : D'.extract 0 D.size = D' := by rw [hsz, ← hsz, ← h1]; exact Array.extract_size
    rw [e1, e2] at h3
    have := h3.map Subtype.val
    rwa [hmap] at this
  · rw [List.pairwise_map]
    rw [List.pairwise_iff_getElem]
    intro i j hi hj hij
    have hD : D'.size = d.length := by rw [hp.1, hsz]
    have := hs i j (Nat.zero_le _) hij (by simpa [hD] using hj)
    rw [ltK] at this
    rw [getElem!_pos D' i (by simpa using hi), getElem!_pos D' j (by simpa using hj)] at this
    simpa using this
  · have hD : D'.size = D.size := hp.1
    have hh := Go.Proofs.holds_sortWorld encK w g 0 n D D' os hg hH hD
    intro j u hu
    rw [List.getElem?_map, Array.getElem?_toList] at hu
    have hj : j < D'.size := by
      rw [← Nat.not_le]
      intro h
      rw [Array.getElem?_eq_none h] at hu
      cases hu
    have := hh j hj
    rw [Nat.zero_add, getElem!_pos D' j hj] at this
    rw [Array.getElem?_eq_getElem hj] at hu
    simp only [Option.map_some, Option.some.injEq] at hu
    unfold encK at this
    rw [hu] at this
    exact this.1
theorem lays92 : Go.Proofs.SlLaysF0.n6 Tryz.prog Go.Proofs.Tryz.laysSlF6_f92_ren := { Go.Proofs.Tryz.laysSlF6_f92 with }
theorem sort_nokeys (w : World) (A : Option Addr) (cap : Nat) : Calls Tryz.prog 92 #[.slice A 0 cap, .func (.func 93) #[] #[]] w fun e w' => e = .returned (.tuple #[]) ∧ w' = w := by
  have hc := Go.Proofs.AnyF.slices_SortFunc_none lays92 A cap (.func (.func 93) #[] #[]) w
  change Calls Tryz.prog 92 _ _ _ at hc
  exact hc
end Go.Proofs.YtphclpjekpdifaaGreat
namespace Go.Proofs.YtphclpjekpdifaaGreat
set_option maxRecDepth 20000
open Go.RowKit
open PS (Tx putM dropM setM findM Nod Ten Jb kOf)
open Go.Proofs.YtphclpjekpdifaaGreat.Nm (str)
open Go.Proofs.YtphclpjekpdifaaGreat.Vc (RetBelow)
set_option linter.unusedVariables false
def DK : CT Tx := ⟨fun k => [.string (str k)], 1, 9, 66, .string ⟨#[]⟩, 16, fun _ => rfl, fun x u h => by simp at h; subst h; rfl, by omega, by omega, by rfl, by omega, by kernel_rfl, Tryz.underlying66⟩
def nodC (n : Nod) : List Value := [.string (str n.s), .int .i64 n.a, .int .i64 n.b, .int .i64 n.c, .int .i64 n.x, .int .i64 n.y, .int .i64 n.z, .int .i64 n.n, .bool n.d]
def DN : CT Nod := ⟨nodC, 9, 99, 94, nodV PS.zn, 80, fun _ => rfl, fun x u h => by simp only [nodC, List.mem_cons, List.not_mem_nil, or_false] at h; rcases h with rfl | rfl | rfl | rfl | rfl | rfl | rfl | rfl | rfl <;> rfl, by omega, by omega, by rfl, by omega, by kernel_rfl, Tryz.underlying94⟩
def tenC (n : Ten) : List Value := [.string (str n.s), .int .i64 n.a, .int .i64 n.b, .int .i64 n.c, .int .i64 n.x, .int .i64 n.y, .int .i64 n.z, .int .i64 n.n]
def DT : CT Ten := ⟨tenC, 8, 104, 101, tenV PS.zt, 72, fun _ => rfl, fun x u h => by simp only [tenC, List.mem_cons, List.not_mem_nil, or_false] at h; rcases h with rfl | rfl | rfl | rfl | rfl | rfl | rfl | rfl <;> rfl, by omega, by omega, by rfl, by omega, by kernel_rfl, Tryz.underlying101⟩
def jobC (n : Jb) : List Value := [.string (str n.s), .string (str n.t), .int .i64 n.p, .int .i64 n.q, .int .i64 n.r, .string (str n.on), .int .i64 n.st]
def DJ : CT Jb := ⟨jobC, 7, 46, 34, jobV PS.zj, 80, fun _ => rfl, fun x u h => by simp only [jobC, List.mem_cons, List.not_mem_nil, or_false] at h; rcases h with rfl | rfl | rfl | rfl | rfl | rfl | rfl <;> rfl, by omega, by omega, by rfl, by omega, by kernel_rfl, Tryz.underlying34⟩
theorem less_total {a b : Tx} (ha : Nm.Pl.okay a = true) (hb : Nm.Pl.okay b = true) (h : Nm.Pl.less a b = false) (k : Nm.Pl.less b a = false) : a = b := Nm.Pl.nums_inj a b ha hb (Nm.Pl.lt_total _ _ h k)
theorem insK_perm (k : Tx) : ∀ l, (PS.insK k l).Perm (k :: l)
  | [] => List.Perm.refl _
  | x :: r => by
    unfold PS.insK
    split
    · exact List.Perm.refl _
    · exact ((insK_perm k r).cons x).trans (List.Perm.swap k x r)
theorem sortK_perm : ∀ l, (PS.sortK l).Perm l
  | [] => List.Perm.refl _
  | x :: r => (insK_perm x (PS.sortK r)).trans ((sortK_perm r).cons x)
theorem insK_sorted (k : Tx) : ∀ l, l.Pairwise (fun i j => Nm.Pl.less j i = false) → (PS.insK k l).Pairwise (fun i j => Nm.Pl.less j i = false)
  | [], _ => by simp [PS.insK]
  | x :: r, h => by
    unfold PS.insK
    rw [List.pairwise_cons] at h
    split
    · rename_i hk
      have hxk : Nm.Pl.less x k = false := by
        have := Nm.Pl.lt_asymm (Nm.Pl.nums x) (Nm.Pl.nums k)
        unfold Nm.Pl.less at *
        rw [hk, Bool.and_true] at this
        exact this
      refine List.Pairwise.cons (fun y hy => ?_) (List.Pairwise.cons h.1 h.2)
      rcases List.mem_cons.1 hy with rfl | hy
      · exact hxk
      · exact less_ntrans (h.1 y hy) hxk
    · rename_i hk
      refine List.Pairwise.cons (fun y hy => ?_) (insK_sorted k r h.2)
      rcases List.mem_cons.1 ((insK_perm k r).mem_iff.1 hy) with rfl | hy
      · exact Bool.eq_false_iff.2 hk
      · exact h.1 y hy
theorem sortK_sorted : ∀ l, (PS.sortK l).Pairwise (fun i j => Nm.Pl.less j i = false)
  | [] => List.Pairwise.nil
  | x :: r => insK_sorted x _ (sortK_sorted r)
theorem sorted_keys : ∀ (a b : List Tx), (∀ k ∈ a, Nm.Pl.okay k = true) → a.Perm b → a.Pairwise (fun i j => Nm.Pl.less j i = false) → b.Pairwise (fun i j => Nm.Pl.less j i = false) → a = b
  | [], b, _, hp, _, _ => (List.nil_perm.1 hp).symm
  | x :: r, b, ho, hp, ha, hb => by
    cases b with
    | nil => exact absurd hp.length_eq (by simp)
    | cons y s =>
      rw [List.pairwise_cons] at ha hb
      have hob : ∀ k ∈ y :: s, Nm.Pl.okay k = true := fun k hk => ho k (hp.mem_iff.2 hk)
      have hxy : x = y := by
        rcases List.mem_cons.1 (hp.mem_iff.1 (List.mem_cons_self (a := x) (l := r))) with h | h
        · exact h
        · rcases List.mem_cons.1 (hp.mem_iff.2 (List.mem_cons_self (a := y) (l := s))) with h2 | h2
          · exact h2.symm
          · exact less_total (ho x (by simp)) (hob y (by simp)) (hb.1 x h) (ha.1 y h2)
      subst hxy
      rw [sorted_keys r s (fun k hk => ho k (by simp [hk])) (List.perm_cons x |>.1 hp) ha.2 hb.2]
theorem sorted_is {ks d : List Tx} (ho : ∀ k ∈ ks, Nm.Pl.okay k = true) (hp : d.Perm ks) (hs : d.Pairwise (fun i j => Nm.Pl.less j i = false)) : d = PS.sortK ks :=
  sorted_keys d _ (fun k hk => ho k (hp.mem_iff.1 hk)) (hp.trans (sortK_perm ks).symm) hs (sortK_sorted ks)
theorem find_some {α : Type} {l : List (Tx × α)} {k : Tx} (h : k ∈ l.map (·.1)) : ∃ x, findM l k = some x := by
  cases hf : findM l k with
  | some x => exact ⟨x, rfl⟩
  | none =>
    unfold findM at hf
    rw [Option.map_eq_none_iff] at hf
    obtain ⟨e, he, rfl⟩ := List.mem_map.1 h
    exact absurd (List.find?_eq_none.1 hf e he) (by simp)
theorem filterMap_step {α : Type} {l : List (Tx × α)} {d : List Tx} {j : Nat} {k : Tx} {x : α} (hk : d[j]? = some k) (hx : findM l k = some x) : (d.take (j + 1)).filterMap (findM l) = (d.take j).filterMap (findM l) ++ [x] := by
  rw [List.take_add_one, List.filterMap_append, hk]
  simp [hx]
theorem Own.rowK {w : World} {base : Nat} {v : Value} {L : List Tx} (h : Own DK w base v L) (hne : L ≠ []) : ∃ g cap, v = .slice (some ⟨g, 0, none⟩) L.length cap ∧ base ≤ g ∧ g < w.heap.size ∧ v.ownBlock = some g ∧ RowK w g L := by
  obtain ⟨g, cap, h1, h2, h3, h4⟩ := h.row hne
  refine ⟨g, cap, h1, h2, h3, h4, fun j k hk => ?_⟩
  have h0 := h
  rcases h.2 with ⟨e, hn⟩ | ⟨g', cap', cur, e, hb, hh, hc, hm, hs, ht⟩
  · exact absurd (List.eq_nil_of_length_eq_zero hn) hne
  · rw [h1] at e
    injection e with e1 e2 e3
    injection e1 with e1
    injection e1 with e1
    subst e1
    refine ⟨?_, Lib.frozen_of_heap hh j⟩
    have := h0.cells (g := g) h4 j (.string (str k)) (by
      have := flat_get DK L j k hk 0 (.string (str k)) rfl
      rwa [show j * DK.m + 0 = j from by show j * 1 + 0 = j; omega] at this)
    unfold Addr.add at this
    split at this
    · rename_i e
      rw [e]
      exact this
    · simpa using this
end Go.Proofs.YtphclpjekpdifaaGreat
namespace Go.Proofs.YtphclpjekpdifaaGreat
set_option maxRecDepth 20000
open PS (Tx St Nod byName krow rankF)
open Go.Proofs.YtphclpjekpdifaaGreat.Vc (fitB I64)
set_option linter.unusedVariables false
theorem foldR_perm (b : Nat → Nat → Bool) : ∀ l : List Nat, (l.foldr (insR b) []).Perm l
  | [] => List.Perm.refl _
  | x :: r => (insR_perm b x _).trans ((foldR_perm b r).cons x)
theorem foldR_sorted {b : Nat → Nat → Bool} (hi : ∀ i, b i i = false) (ht : ∀ i j k, b i j = true → b j k = true → b i k = true) : ∀ l : List Nat, (l.foldr (insR b) []).Pairwise (fun x y => b y x = false)
  | [] => List.Pairwise.nil
  | x :: r => insR_sorted hi ht x _ (foldR_sorted hi ht r)
theorem rankF_rank (L : List Nd) (p q r : Int) : RankOf L p q r (rankF L p q r) := ⟨foldR_perm _ _, foldR_sorted (fun i => bef_irrefl _ _ i) (fun i j k => bef_trans) _⟩
theorem chosen_head {L : List Nd} {p q r : Int} {i e : Nat} (h : Chosen L p q r i e) :
    (e ≠ 0 ∧ (fitB 0 0 0 p q r = false ∨ rankF L p q r = [])) ∨ (e = 0 ∧ fitB 0 0 0 p q r = true ∧ ∃ t, rankF L p q r = i :: t ∧ i < L.length) := by
  have hr := rankF_rank L p q r
  rcases h with ⟨h1, h2, h3⟩ | ⟨h1, h2, h3, h4⟩ | ⟨h1, h2, h3, h4⟩
  · exact .inl ⟨by omega, .inl h1⟩
  · refine .inl ⟨by omega, .inr ?_⟩
    have := hr.1
    rw [h2] at this
    exact List.perm_nil.1 this
  · refine .inr ⟨h2, h1, ?_⟩
    cases hf : rankF L p q r with
    | nil =>
      have := hr.1
      rw [hf] at this
      rw [List.nil_perm.1 this] at h3
      cases h3
    | cons i' t =>
      have hp := hr.1
      have hs := hr.2
      rw [hf] at hp hs
      rw [List.pairwise_cons] at hs
      have hi' : i' ∈ cand L p q r L.length := hp.mem_iff.1 (by simp)
      have hc : Chosen L p q r i' 0 := .inr (.inr ⟨h1, rfl, hi', fun j hj => by
        rcases List.mem_cons.1 (hp.mem_iff.2 hj) with rfl | hj
        · exact bef_irrefl _ _ _
        · exact hs.1 j hj⟩)
      obtain ⟨rfl, _⟩ := chosen_one (.inr (.inr ⟨h1, h2, h3, h4⟩)) hc
      exact ⟨t, rfl, cand_lt _ _ _ _ _ _ h3⟩
theorem choose_of {S : St} {p q r : Int} {i e : Nat} (h : Chosen ((byName S.N).map krow) p q r i e) :
    (e ≠ 0 ∧ PS.choose S p q r = none) ∨ (e = 0 ∧ ∃ n, (byName S.N)[i]? = some n ∧ PS.choose S p q r = some n) := by
  unfold PS.choose
  rcases chosen_head h with ⟨h1, h2 | h2⟩ | ⟨h1, h2, t, h3, h4⟩
  · exact .inl ⟨h1, by rw [h2]; rfl⟩
  · refine .inl ⟨h1, ?_⟩
    rw [h2]
    split <;> rfl
  · rw [List.length_map] at h4
    refine .inr ⟨h1, (byName S.N)[i], List.getElem?_eq_getElem h4, ?_⟩
    rw [if_pos h2, h3]
    exact List.getElem?_eq_getElem h4
end Go.Proofs.YtphclpjekpdifaaGreat
