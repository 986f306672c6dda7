import Derived.Test.YtjcikhacekmcfaaGreatDoorNa
import Derived.Deep.AppendLies
import Derived.Deep.RegionLaw
import Derived.Deep.RegionHeld3
namespace Go.Proofs.YtjcikhacekmcfaaGreatDoor
set_option maxRecDepth 20000
open Go.RowKit
open PlainDisk (File Disk Left)
set_option linter.unusedVariables false

/-- own bytes -/
def vB (l : List UInt8) : List Value := l.map fun b => .int .u8 (b.toNat : Int)
theorem vB_length (l : List UInt8) : (vB l).length = l.length := by simp [vB]
theorem vB_append (a b : List UInt8) : vB (a ++ b) = vB a ++ vB b := by simp [vB]
theorem vB_one (l : List UInt8) : ∀ u ∈ vB l, u.oneCell' = true := by
  intro u hu; simp only [vB, List.mem_map] at hu; obtain ⟨b, _, rfl⟩ := hu; rfl
theorem info5 : (Tryz.prog.info? 5).map (fun i => (i.zero, i.size, i.bytes)) = some (some (.int .u8 0), 1, 1) := by kernel_rfl
def OwnB (w : World) (base : Nat) (v : Value) (l : List UInt8) : Prop := w.ownsRow base 5 1 v l.length (vB l)

theorem OwnB.alloc {w : World} {base : Nat} {v : Value} {l : List UInt8} (h : OwnB w base v l) (o : Obj) : OwnB (w.alloc o) base v l := World.ownsRow.alloc h o
theorem OwnB.lt {w : World} {base : Nat} {v : Value} {l : List UInt8} (h : OwnB w base v l) : ∀ k, v.ownBlock = some k → base ≤ k ∧ k < w.heap.size := World.ownsRow.lt h
theorem OwnB.new (w : World) : OwnB (w.alloc (.cells #[] 5)) w.heap.size (.slice (some ⟨w.heap.size, 0, none⟩) 0 0) [] :=
  World.ownsRow_made w (base := w.heap.size) (e := 5) (size := 1) #[] 0 (Nat.le_refl _) (by decide) rfl
/-- bytes that stand at a slice's place -/
def Lies (w : World) (A : Option Addr) (c : Nat) (bs : List UInt8) : Prop :=
  (A = none → c = 0) ∧ (bs ≠ [] → ∃ b off, A = some ⟨b, off, none⟩ ∧ ∀ j u, bs[j]? = some u → w.cell? ⟨b, off + j, none⟩ = some (.int .u8 (u.toNat : Int)))
theorem BAt.lies {w : World} {v : Value} {bs : List UInt8} {S : Nat → Prop} (h : BAt w v bs S) : ∃ A c, v = .slice A bs.length c ∧ bs.length ≤ c ∧ c ≤ 9223372036854775807 ∧ Lies w A c bs := by
  obtain ⟨A, c, h1, h2, h3, h4, h5⟩ := h
  refine ⟨A, c, h1, h2, h3, h4, fun hne => ?_⟩
  obtain ⟨b, off, cs, fz, e1, e2, e3, e4⟩ := h5 hne
  exact ⟨b, off, e1, fun j u hu => by rw [Lib.cell_of_heap e3]; exact e4 j u hu⟩
/-- what lies in old blocks lies there behind all that only lays new ones -/
theorem Lies.keep {w w' : World} {A : Option Addr} {c : Nat} {bs : List UInt8} (h : Lies w A c bs) (hk : ∀ k, k < w.heap.size → w'.heap[k]? = w.heap[k]?) : Lies w' A c bs := by
  refine ⟨h.1, fun hne => ?_⟩
  obtain ⟨b, off, e1, e2⟩ := h.2 hne
  refine ⟨b, off, e1, fun j u hu => ?_⟩
  have := e2 j u hu
  have hb : b < w.heap.size := World.block_lt_of_cell? w _ this
  exact (World.cell?_of_block (w := w) (hk b hb)).trans this
theorem grown_refl (w : World) (r : Option Nat) : w.grownBy w r := ⟨rfl, rfl, rfl, Nat.le_refl _, fun _ _ _ => rfl⟩
set_option maxRecDepth 20000 in
/-- append of bytes that lie somewhere to bytes of the call's own -/
theorem wp_appX {ops : Array Oper} {rest : List Oper} {o : Oper} {a : Act} {Q : Exit → Act → World → Prop} {w : World} (hgd : o.guard = none) (s x : Operand)
    (ho : o.op = .call { callee := .builtin .append, args := #[s, x], argTypes := #[60, 60] })
    (base : Nat) (v : Value) (l : List UInt8) (hs : a.eval s = v) (hown : OwnB w base v l) (A : Option Addr) (n c : Nat) (bs : List UInt8) (hx : a.eval x = .slice A n c) (hb : Lies w A c bs) (hn : n = bs.length) (hnc : bs.length ≤ c)
    (hlen : l.length + bs.length ≤ 140737488355328) (hbase : base ≤ w.heap.size)
    (h : ∀ v' w', OwnB w' base v' (l ++ bs) → w.grownBy w' v.ownBlock → wpList Tryz.prog ops Q rest (a.put o.dst v') w') : wpList Tryz.prog ops Q (o :: rest) a w := by
  subst hn
  obtain ⟨i5, hi5, hz0, hz1, hz2⟩ := info_parts3 info5
  cases A with
  | none =>
    have hc0 := hb.1 rfl
    subst hc0
    have hbs : bs = [] := List.eq_nil_of_length_eq_zero (by omega)
    subst hbs
    refine wpList_append_own_none hgd s x 60 ho base 5 i5 1 Tryz.underlying60 hi5 v l.length (vB l) hs hown hx (h v w (by rw [List.append_nil]; exact hown) (grown_refl w _))
  | some ad =>
    refine wpList_append_own w hgd s x 60 ho base 5 i5 _ 1 1 Tryz.underlying60 hi5 hz0 hz1 hz2 rfl (by omega) v l.length (vB l) hs hown ad bs.length c (vB bs) hx (by rw [vB_length]; omega) ?_ (vB_one _) (by simp only [maxLen]; omega) (by omega) hbase ?_
    · intro j u hu
      have hne : bs ≠ [] := fun e => by rw [e] at hu; simp [vB] at hu
      obtain ⟨b, off, h1, h3⟩ := hb.2 hne
      injection h1 with h1
      subst h1
      simp only [vB, List.getElem?_map, Option.map_eq_some_iff] at hu
      obtain ⟨y, hy, rfl⟩ := hu
      have := h3 j y hy
      unfold Addr.add
      split
      · subst j; exact this
      · exact this
    · intro v' w' h2 h3 _
      refine h v' w' ?_ h3
      unfold OwnB
      rw [vB_append, List.length_append]
      exact h2

set_option maxHeartbeats 1000000 in
set_option maxRecDepth 100000 in
theorem refRead_any (b : Nat) (nm : List UInt8) (Lv : Value) (ps : List FV) (r1 r2 r3 : Value) (S : Nat → Prop) (w : World) (hb : w.heap[b]? = some (.cells #[Lv, r1, r2, r3] 89 (0, 0))) (hr : RowF w Lv ps S) (hu : ∀ p ∈ ps, p.1.bytes.length ≤ 1048576) :
    Calls Tryz.prog 40 #[.pointer (some ⟨b, 0, none⟩), .string (str nm)] w fun e w' => Below w.heap.size w w' ∧ ((place nm ps = -1 ∧ e = .returned (.tuple #[.slice none 0 0, .int .i64 10])) ∨ ∃ i p v, place nm ps = (i : Nat) ∧ ps[i]? = some p ∧ e = .returned (.tuple #[v, .int .i64 0]) ∧ OwnB w' w.heap.size v p.1.bytes) := by
  have C1 := Lib.hid (refFind_any b nm Lv ps r1 r2 r3 S w hb hr)
  obtain ⟨A, cap, rfl, hc, hm, hrow⟩ := hr.form
  have c0 : w.cell? ⟨b, 0, none⟩ = some (.slice A ps.length cap) := by rw [Lib.cell_of_heap hb]; rfl
  have hblt : b < w.heap.size := (Array.getElem?_eq_some_iff.1 hb).1
  have HR := Lib.hid hrow
  have HBy := Lib.hid hr.bytes
  have HB := Lib.hid hb
  rcases place_form nm ps with ⟨h1, h2⟩ | ⟨i, p, h1, h2, h3, h4⟩
  · rw [h1] at C1
    clear hrow hr hb
    go_enter Tryz.func40, Tryz.ntmps40
    go_wp2_with fail
    refine C1.out.mono ?_
    rintro e w' ⟨rfl, rfl⟩
    go_wp2_with fail
    go_ret2
    exact ⟨Below.refl _ _, .inl ⟨h1, rfl⟩⟩
  · rw [h1] at C1
    have hi : i < ps.length := (List.getElem?_eq_some_iff.1 h2).1
    obtain ⟨g, cs, rfl, hS, hg, hsz, hat⟩ := hrow (by omega)
    obtain ⟨d0, d1, d2⟩ := hat i p h2
    obtain ⟨A2, c2, e2, k1, k2, k3⟩ := (hr.bytes p (List.mem_of_getElem? h2)).lies
    rw [e2] at d1
    have hglt : g < w.heap.size := (Array.getElem?_eq_some_iff.1 hg).1
    have hul := hu p (List.mem_of_getElem? h2)
    have HL := Lib.hid k3
    have HP := Lib.hid (And.intro h1 h2)
    clear hrow hr hb hat h1 h2 h3 h4 k3 hu
    go_enter Tryz.func40, Tryz.ntmps40
    go_wp2_with fail
    refine C1.out.mono ?_
    rintro e w' ⟨rfl, rfl⟩
    go_wp2_with (at_builtin; (refine wp_appX rfl (.tmp 12) (.tmp 20) rfl w.heap.size _ [] rfl (OwnB.new w) A2 p.1.bytes.length c2 p.1.bytes rfl (HL.out.keep fun k hk => Below.heap_alloc _ _ _ hk) rfl k1 ?hl ?hbs ?_))
    case hl => simp; omega
    case hbs => simp
    intro v' w2 hown2 hgrow
    have hbw2 : Below w.heap.size w w2 := ((Below.refl _ w).alloc (Nat.le_refl _) _).grown hgrow (by simp) (fun k hk => by simp [Value.ownBlock] at hk; omega)
    go_wp2_with fail
    go_ret2
    refine ⟨hbw2, .inr ⟨i, p, v', HP.out.1, HP.out.2, rfl, ?_⟩⟩
    exact hown2
end Go.Proofs.YtjcikhacekmcfaaGreatDoor
namespace Go.Proofs.YtjcikhacekmcfaaGreatDoor
set_option maxRecDepth 20000
open Go.RowKit
open PlainDisk (File Disk Left)
set_option linter.unusedVariables false

set_option maxRecDepth 20000 in
theorem ow_appX {o : Oper} {a : Act} {K : Act → World → Prop} {Q : Exit → Act → World → Prop} {w : World} (s x : Operand)
    (ho : o.op = .call { callee := .builtin .append, args := #[s, x], argTypes := #[60, 60] })
    (base : Nat) (v : Value) (l : List UInt8) (hs : a.eval s = v) (hown : OwnB w base v l) (A : Option Addr) (n c : Nat) (bs : List UInt8) (hx : a.eval x = .slice A n c) (hb : Lies w A c bs) (hn : n = bs.length) (hnc : bs.length ≤ c)
    (hlen : l.length + bs.length ≤ 140737488355328) (hbase : base ≤ w.heap.size)
    (h : ∀ v' w', OwnB w' base v' (l ++ bs) → w.grownBy w' v.ownBlock → K (a.put o.dst v') w') : Oper.wp Tryz.prog o a w K Q := by
  subst hn
  obtain ⟨i5, hi5, hz0, hz1, hz2⟩ := info_parts3 info5
  cases A with
  | none =>
    have hc0 := hb.1 rfl
    subst hc0
    have hbs : bs = [] := List.eq_nil_of_length_eq_zero (by omega)
    subst hbs
    have hrun := run_append_owned_none (P := Tryz.prog) (w := w) base 60 o.type 5 i5 1 Tryz.underlying60 hi5 v l.length (vB l) hown
    unfold Oper.wp
    simp only [execOp, ho, resolve, invoke, builtin, Sem.run_bind, Sem.run_pure, Result.andThen_ok, List.map_toArray, List.map_cons, List.map_nil, hs, hx, List.length_nil, hrun]
    exact h v w (by rw [List.append_nil]; exact hown) (grown_refl w _)
  | some ad =>
    refine wp_append_own w s x 60 ho base 5 i5 _ 1 1 Tryz.underlying60 hi5 hz0 hz1 hz2 rfl (by omega) v l.length (vB l) hs hown ad bs.length c (vB bs) hx (by rw [vB_length]; omega) ?_ (vB_one _) (by simp only [maxLen]; omega) (by omega) hbase ?_
    · intro j u hu
      have hne : bs ≠ [] := fun e => by rw [e] at hu; simp [vB] at hu
      obtain ⟨b, off, h1, h3⟩ := hb.2 hne
      injection h1 with h1
      subst h1
      simp only [vB, List.getElem?_map, Option.map_eq_some_iff] at hu
      obtain ⟨y, hy, rfl⟩ := hu
      have := h3 j y hy
      unfold Addr.add
      split
      · subst j; exact this
      · exact this
    · intro v' w' h2 h3 _
      refine h v' w' ?_ h3
      unfold OwnB
      rw [vB_append, List.length_append]
      exact h2
theorem step_appX {ops : Array Oper} {o : Oper} {a : Act} {K : Act → World → Prop} {Q : Exit → Act → World → Prop} {E : Prop} {w : World} (hgd : o.guard = none) (s x : Operand)
    (ho : o.op = .call { callee := .builtin .append, args := #[s, x], argTypes := #[60, 60] })
    (base : Nat) (v : Value) (l : List UInt8) (hs : a.eval s = v) (hown : OwnB w base v l) (A : Option Addr) (n c : Nat) (bs : List UInt8) (hx : a.eval x = .slice A n c) (hb : Lies w A c bs) (hn : n = bs.length) (hnc : bs.length ≤ c)
    (hlen : l.length + bs.length ≤ 140737488355328) (hbase : base ≤ w.heap.size)
    (h : ∀ v' w', OwnB w' base v' (l ++ bs) → w.grownBy w' v.ownBlock → K (a.put o.dst v') w') :
    if Region.wanted o (yielded ops a.tmps) = true then Oper.wp Tryz.prog o a w K Q else E := by
  have hw : Region.wanted o (yielded ops a.tmps) = true := by simp [Region.wanted, hgd]
  rw [if_pos hw]
  exact ow_appX s x ho base v l hs hown A n c bs hx hb hn hnc hlen hbase h
theorem OwnB.form {w : World} {base : Nat} {v : Value} {l : List UInt8} (h : OwnB w base v l) : ∃ A n cap, v = .slice A n cap := by
  rcases h.2 with ⟨e, _⟩ | ⟨g, cap, cur, e, _⟩
  · exact ⟨_, _, _, e⟩
  · exact ⟨_, _, _, e⟩

end Go.Proofs.YtjcikhacekmcfaaGreatDoor
namespace Go.Proofs.YtjcikhacekmcfaaGreatDoor
set_option maxRecDepth 20000
open Go.RowKit
open PlainDisk (File Disk Left)
set_option linter.unusedVariables false

/-! ### what the disk's memory is behind each kind of step -/
/-- the blocks of S, and those that are new -/
def Up (S : Nat → Prop) (w w' : World) : Nat → Prop := fun k => S k ∨ (w.heap.size ≤ k ∧ k < w'.heap.size)
theorem Up.old {S : Nat → Prop} {w w' : World} {k : Nat} (h : S k) : Up S w w' k := .inl h

theorem OwnB.bat {w : World} {base : Nat} {v : Value} {l : List UInt8} {S : Nat → Prop} (h : OwnB w base v l) (hS : ∀ k, base ≤ k → k < w.heap.size → S k) : BAt w v l S := by
  rcases h.2 with ⟨e, hn⟩ | ⟨g, cap, cur, e, hb, hh, hc, hm, hs, ht⟩
  · have : l = [] := List.eq_nil_of_length_eq_zero hn
    subst this
    exact ⟨none, 0, e, by simp, by omega, fun _ => rfl, fun q => absurd rfl q⟩
  · refine ⟨some ⟨g, 0, none⟩, cap, e, hc, by simpa [maxLen] using hm, fun q => (by cases q), fun hne => ⟨g, 0, cur, (0, 0), rfl, hS g hb (Array.getElem?_eq_some_iff.1 hh).1, hh, fun j u hu => ?_⟩⟩
    have hj : (vB l)[j]? = some (.int .u8 (u.toNat : Int)) := by simp [vB, hu]
    rw [← ht, List.getElem?_take] at hj
    rw [Nat.zero_add]
    split at hj
    · rw [← Array.getElem?_toList]; exact hj
    · cases hj
/-- old bytes stay, if blocks of bytes among S stay -/
theorem BAt.below {w w' : World} {v : Value} {bs : List UInt8} {S : Nat → Prop} (h : BAt w v bs S) (hb : ∀ k, k < w.heap.size → (∃ cs fz, w.heap[k]? = some (.cells cs 5 fz)) → w'.heap[k]? = w.heap[k]?) : BAt w' v bs S :=
  h.keep fun b _ hlt hc => hb b hlt hc

/-- put, drop: the row is new, the disk's cell has it -/
theorem row_new {w w1 : World} {b : Nat} {Lv l r1 r2 r3 : Value} {ps qs : List FV} {S : Nat → Prop} (hb : w.heap[b]? = some (.cells #[Lv, r1, r2, r3] 89 (0, 0))) (hS : S b) (hbw : Below w.heap.size w w1) (hown : OwnF w1 w.heap.size l qs)
    (hby : ∀ p ∈ qs, BAt w p.2 p.1.bytes S) :
    (w1.setCell ⟨b, 0, none⟩ l).heap[b]? = some (.cells #[l, r1, r2, r3] 89 (0, 0)) ∧ RowF (w1.setCell ⟨b, 0, none⟩ l) l qs (Up S w w1) ∧ Fr S w (w1.setCell ⟨b, 0, none⟩ l) ∧ (w1.setCell ⟨b, 0, none⟩ l).heap.size = w1.heap.size := by
  have hlt : b < w.heap.size := (Array.getElem?_eq_some_iff.1 hb).1
  have hb1 : w1.heap[b]? = some (.cells #[Lv, r1, r2, r3] 89 (0, 0)) := (hbw.block b hlt).trans hb
  have hz : (w1.setCell ⟨b, 0, none⟩ l).heap.size = w1.heap.size := by simp [World.setCell]
  refine ⟨by simp [World.setCell, Array.getElem?_modify, hb1], ⟨⟨hown.1, ?_⟩, ?_, ?_⟩, (Fr.of_below hbw).setCell (.inl hS) _, hz⟩
  · rcases hown.2 with h | ⟨g, cap, cur, e, hg, hh, r⟩
    · exact .inl h
    · exact .inr ⟨g, cap, cur, e, Nat.zero_le _, (Below.heap_setCell _ _ _ g (by show g ≠ b; omega)).trans hh, r⟩
  · intro g hg
    have := hown.lt g hg
    exact .inr this
  · intro p hp
    refine ((hby p hp).mono fun k hk => Up.old hk).below fun k hk hc => ?_
    have hne : k ≠ b := by
      rintro rfl
      obtain ⟨cs, fz, hc⟩ := hc
      rw [hb] at hc
      cases hc
    rw [Below.heap_setCell _ _ _ k hne]
    exact hbw.block k hk

theorem flat_take (ps : List FV) (i : Nat) : (flat ps).take (3 * i) = flat (ps.take i) := by
  induction ps generalizing i with
  | nil => simp [flat]
  | cons p r ih =>
    cases i with
    | zero => rfl
    | succ i =>
      have e : flat (p :: r) = cellsOf1 p ++ flat r := rfl
      have l : (cellsOf1 p).length = 3 := rfl
      rw [e, List.take_append, l, List.take_of_length_le (by omega), show 3 * (i + 1) - 3 = 3 * i by omega, ih, List.take_succ_cons]
      rfl
theorem flat_set1 {ps : List FV} {i : Nat} {p : FV} (h : ps[i]? = some p) (f : File) (v : Value) (hn : f.name = p.1.name) (hs : f.sure = p.1.sure) : (flat ps).set (i * 3 + 1) v = flat (ps.set i (f, v)) := by
  induction ps generalizing i with
  | nil => cases h
  | cons q r ih =>
    cases i with
    | zero =>
      have hq : q = p := by simpa using h
      subst hq
      show (cellsOf1 q ++ flat r).set 1 v = cellsOf1 (f, v) ++ flat r
      unfold cellsOf1
      dsimp only
      rw [hn, hs]
      rfl
    | succ i =>
      have e : flat (q :: r) = cellsOf1 q ++ flat r := rfl
      have l : (cellsOf1 q).length = 3 := rfl
      rw [e, List.set_append_right _ _ (by omega), l, show (i + 1) * 3 + 1 - 3 = i * 3 + 1 by omega, ih (by simpa using h), List.set_cons_succ]
      rfl
theorem flat_set2 {ps : List FV} {i : Nat} {p : FV} (h : ps[i]? = some p) (n : Nat) : (flat ps).set (i * 3 + 2) (.int .i64 (n : Int)) = flat (ps.set i ({ p.1 with sure := n }, p.2)) := by
  induction ps generalizing i with
  | nil => cases h
  | cons q r ih =>
    cases i with
    | zero => cases h; rfl
    | succ i =>
      have e : flat (q :: r) = cellsOf1 q ++ flat r := rfl
      have l : (cellsOf1 q).length = 3 := rfl
      rw [e, List.set_append_right _ _ (by omega), l, show (i + 1) * 3 + 2 - 3 = i * 3 + 2 by omega, ih (by simpa using h), List.set_cons_succ]
      rfl
/-- a cell of the row is written -/
theorem own_set {w : World} {g n cap : Nat} {ps qs : List FV} {base j : Nat} {v : Value} (h : w.ownsRow base 104 3 (.slice (some ⟨g, 0, none⟩) n cap) ps.length (flat ps)) (he : (flat ps).set j v = flat qs) (hl : qs.length = ps.length) :
    (w.setCell ⟨g, j, none⟩ v).ownsRow base 104 3 (.slice (some ⟨g, 0, none⟩) n cap) qs.length (flat qs) := by
  have hn : n = ps.length := by
    rcases h.2 with ⟨h1, _⟩ | ⟨_, _, _, h1, _⟩
    · cases h1
    · injection h1
  subst hn
  have := (World.ownsRow.stored h j v).1
  rw [he] at this
  rw [hl]
  exact this
end Go.Proofs.YtjcikhacekmcfaaGreatDoor
namespace Go.Proofs.YtjcikhacekmcfaaGreatDoor
set_option maxRecDepth 20000
open Go.RowKit
open PlainDisk (File Disk Left)
set_option linter.unusedVariables false

theorem RowF.block {w : World} {Lv : Value} {ps : List FV} {S : Nat → Prop} (h : RowF w Lv ps S) {g : Nat} (hg : Lv.ownBlock = some g) : ∃ cs, w.heap[g]? = some (.cells cs 104 (0, 0)) := by
  rcases h.own.2 with ⟨e, _⟩ | ⟨g', cap, cur, e, hb, hh, r⟩
  · rw [e] at hg; simp [Value.ownBlock] at hg
  · rw [e] at hg
    simp [Value.ownBlock] at hg
    subst hg
    exact ⟨cur, hh⟩
/-- a file's bytes are new ones -/
theorem row_set1 {wd w3 : World} {b g n cap i : Nat} {x1 r1 r2 r3 : Value} {ps : List FV} {S : Nat → Prop} {p : FV} {l : List UInt8} {v : Value} (hb : wd.heap[b]? = some (.cells #[x1, r1, r2, r3] 89 (0, 0)))
    (hr : RowF wd (.slice (some ⟨g, 0, none⟩) n cap) ps S) (h2 : ps[i]? = some p) (hbw : Below wd.heap.size wd w3) (hown : OwnB w3 wd.heap.size v l) :
    (w3.setCell ⟨g, i * 3 + 1, none⟩ v).heap[b]? = some (.cells #[x1, r1, r2, r3] 89 (0, 0)) ∧ RowF (w3.setCell ⟨g, i * 3 + 1, none⟩ v) (.slice (some ⟨g, 0, none⟩) n cap) (ps.set i ({ p.1 with bytes := l }, v)) (Up S wd w3) ∧
      Fr S wd (w3.setCell ⟨g, i * 3 + 1, none⟩ v) ∧ (w3.setCell ⟨g, i * 3 + 1, none⟩ v).heap.size = w3.heap.size := by
  obtain ⟨cs, hg⟩ := hr.block (g := g) rfl
  have hbl : b < wd.heap.size := (Array.getElem?_eq_some_iff.1 hb).1
  have hgl : g < wd.heap.size := (Array.getElem?_eq_some_iff.1 hg).1
  have hbg : b ≠ g := by rintro rfl; rw [hb] at hg; cases hg
  have hz : (w3.setCell ⟨g, i * 3 + 1, none⟩ v).heap.size = w3.heap.size := by simp [World.setCell]
  have hil : i < ps.length := (List.getElem?_eq_some_iff.1 h2).1
  have hother : ∀ k, k < wd.heap.size → k ≠ g → (w3.setCell ⟨g, i * 3 + 1, none⟩ v).heap[k]? = wd.heap[k]? := fun k hk hn => (Below.heap_setCell _ _ _ k hn).trans (hbw.block k hk)
  have hown3 : w3.ownsRow 0 104 3 (.slice (some ⟨g, 0, none⟩) n cap) ps.length (flat ps) := by
    refine ⟨hr.own.1, ?_⟩
    rcases hr.own.2 with h | ⟨g', cap', cur, e, h1, h3, r⟩
    · exact .inl h
    · refine .inr ⟨g', cap', cur, e, h1, ?_, r⟩
      injection e with e1
      injection e1 with e1
      injection e1 with e1
      subst e1
      exact (hbw.block g hgl).trans h3
  refine ⟨(hother b hbl hbg).trans hb, ⟨own_set hown3 (flat_set1 h2 { p.1 with bytes := l } v rfl rfl) (by rw [List.length_set]), ?_, ?_⟩, (Fr.of_below hbw).setCell (.inl (hr.mine g rfl)) _, hz⟩
  · intro k hk
    exact Up.old (hr.mine k hk)
  · intro q hq
    obtain ⟨j, hj⟩ := List.getElem?_of_mem hq
    by_cases e : i = j
    · subst e
      rw [List.getElem?_set_self hil] at hj
      cases hj
      have hb3 := hown.bat (S := Up S wd w3) (fun k h1 h2 => .inr ⟨h1, h2⟩)
      refine hb3.below fun k hk hc => Below.heap_setCell _ _ _ k ?_
      rintro rfl
      obtain ⟨c2, f2, hc⟩ := hc
      rw [hbw.block k hgl, hg] at hc
      cases hc
    · rw [List.getElem?_set_ne e] at hj
      have hqb := hr.bytes q (List.mem_of_getElem? hj)
      refine (hqb.mono fun k hk => Up.old hk).below fun k hk hc => hother k hk ?_
      rintro rfl
      obtain ⟨c2, f2, hc⟩ := hc
      rw [hg] at hc
      cases hc
/-- how many of a file's bytes are sure is another number -/
theorem row_set2 {w : World} {b g n cap i : Nat} {x1 r1 r2 r3 : Value} {ps : List FV} {S : Nat → Prop} {p : FV} {m : Nat} (hb : w.heap[b]? = some (.cells #[x1, r1, r2, r3] 89 (0, 0)))
    (hr : RowF w (.slice (some ⟨g, 0, none⟩) n cap) ps S) (h2 : ps[i]? = some p) :
    (w.setCell ⟨g, i * 3 + 2, none⟩ (.int .i64 (m : Nat))).heap[b]? = some (.cells #[x1, r1, r2, r3] 89 (0, 0)) ∧ RowF (w.setCell ⟨g, i * 3 + 2, none⟩ (.int .i64 (m : Nat))) (.slice (some ⟨g, 0, none⟩) n cap) (ps.set i ({ p.1 with sure := m }, p.2)) S ∧
      Fr S w (w.setCell ⟨g, i * 3 + 2, none⟩ (.int .i64 (m : Nat))) ∧ (w.setCell ⟨g, i * 3 + 2, none⟩ (.int .i64 (m : Nat))).heap.size = w.heap.size := by
  obtain ⟨cs, hg⟩ := hr.block (g := g) rfl
  have hbg : b ≠ g := by rintro rfl; rw [hb] at hg; cases hg
  have hil : i < ps.length := (List.getElem?_eq_some_iff.1 h2).1
  have hother : ∀ k, k ≠ g → (w.setCell ⟨g, i * 3 + 2, none⟩ (.int .i64 (m : Nat))).heap[k]? = w.heap[k]? := fun k hn => Below.heap_setCell _ _ _ k hn
  refine ⟨(hother b hbg).trans hb, ⟨own_set hr.own (flat_set2 h2 m) (by rw [List.length_set]), hr.mine, ?_⟩, (Fr.refl S w).setCell (.inl (hr.mine g rfl)) _, by simp [World.setCell]⟩
  have key : ∀ q : FV, BAt w q.2 q.1.bytes S → BAt (w.setCell ⟨g, i * 3 + 2, none⟩ (.int .i64 (m : Nat))) q.2 q.1.bytes S := by
    intro q hqb
    refine hqb.below fun k hk hc => hother k ?_
    rintro rfl
    obtain ⟨c2, f2, hc⟩ := hc
    rw [hg] at hc
    cases hc
  intro q hq
  obtain ⟨j, hj⟩ := List.getElem?_of_mem hq
  by_cases e : i = j
  · subst e
    rw [List.getElem?_set_self hil] at hj
    cases hj
    exact key ({ p.1 with sure := m }, p.2) (hr.bytes p (List.mem_of_getElem? h2))
  · rw [List.getElem?_set_ne e] at hj
    exact key q (hr.bytes q (List.mem_of_getElem? hj))
/-- the plain files behind it -/
theorem set_upd {ps : List FV} {i : Nat} {p : FV} (hs : PlainDisk.Sorted (ps.map (·.1))) (h2 : ps[i]? = some p) (t : File → File) (v : Value) : (ps.set i (t p.1, v)).map (·.1) = PlainDisk.upd (ps.map (·.1)) p.1.name t := by
  induction ps generalizing i with
  | nil => cases h2
  | cons q r ih =>
    cases i with
    | zero =>
      have hq : q = p := by simpa using h2
      subst hq
      have hn : PlainDisk.find (r.map (·.1)) q.1.name = none := by
        unfold PlainDisk.find
        rw [List.find?_eq_none]
        intro x hx e
        exact PlainDisk.bl_ne (hs.1 x hx) (beq_iff_eq.1 e).symm
      have := PlainDisk.upd_none (t := t) hn
      simp only [List.set_cons_zero, List.map_cons]
      show _ = (if q.1.name = q.1.name then t q.1 else q.1) :: PlainDisk.upd (r.map (·.1)) q.1.name t
      rw [if_pos rfl, this]
    | succ i =>
      have h3 : r[i]? = some p := by simpa using h2
      have hm : p.1 ∈ r.map (·.1) := List.mem_map_of_mem (List.mem_of_getElem? h3)
      have hne : q.1.name ≠ p.1.name := PlainDisk.bl_ne (hs.1 p.1 hm)
      simp only [List.set_cons_succ, List.map_cons]
      rw [ih hs.2 h3]
      show _ = (if q.1.name = p.1.name then t q.1 else q.1) :: PlainDisk.upd (r.map (·.1)) p.1.name t
      rw [if_neg hne]
theorem place_find {nm : List UInt8} {ps : List FV} : (place nm ps = -1 ∧ PlainDisk.find (ps.map (·.1)) nm = none) ∨ (∃ i p, place nm ps = (i : Nat) ∧ ps[i]? = some p ∧ p.1.name = nm ∧ PlainDisk.find (ps.map (·.1)) nm = some p.1) := by
  induction ps with
  | nil => exact .inl ⟨rfl, rfl⟩
  | cons q r ih =>
    rw [List.map_cons, PlainDisk.find_cons, place]
    by_cases h : q.1.name = nm
    · rw [if_pos h, if_pos h]
      exact .inr ⟨0, q, rfl, rfl, h, rfl⟩
    · rw [if_neg h, if_neg h]
      rcases ih with ⟨h1, h2⟩ | ⟨i, p, h1, h2, h3, h4⟩
      · rw [if_pos (by omega)]; exact .inl ⟨rfl, h2⟩
      · rw [if_neg (by omega)]; exact .inr ⟨i + 1, p, by rw [h1]; rfl, h2, h3, h4⟩
end Go.Proofs.YtjcikhacekmcfaaGreatDoor
namespace Go.Proofs.YtjcikhacekmcfaaGreatDoor
set_option maxRecDepth 20000
open Go.RowKit
open PlainDisk (File Disk Left)
set_option linter.unusedVariables false

theorem RowF.otherBlock {w w' : World} {Lv : Value} {ps : List FV} {S : Nat → Prop} (h : RowF w Lv ps S) (hk : ∀ k, k < w.heap.size → (∃ cs t fz, w.heap[k]? = some (.cells cs t fz) ∧ (t = 104 ∨ t = 5)) → w'.heap[k]? = w.heap[k]?) : RowF w' Lv ps S := by
  refine ⟨⟨h.own.1, ?_⟩, h.mine, fun p hp => (h.bytes p hp).below fun k hk' ⟨cs, fz, hc⟩ => hk k hk' ⟨cs, 5, fz, hc, .inr rfl⟩⟩
  rcases h.own.2 with q | ⟨g, cap, cur, e, hb, hh, r⟩
  · exact .inl q
  · exact .inr ⟨g, cap, cur, e, hb, (hk g (Array.getElem?_eq_some_iff.1 hh).1 ⟨cur, 104, (0, 0), hh, .inl rfl⟩).trans hh, r⟩
theorem failW_is {w : World} {b : Nat} {good : Int} {gone : Bool} {Lv r1 : Value} {ps : List FV} {S : Nat → Prop} (hb : w.heap[b]? = some (.cells #[Lv, r1, .bool gone, .int .i64 good] 89 (0, 0))) (hS : S b) (hr : RowF w Lv ps S) :
    (failW b good w).heap[b]? = some (.cells #[Lv, r1, .bool (if good = 0 then true else gone), .int .i64 (if 0 < good then good - 1 else good)] 89 (0, 0)) ∧ RowF (failW b good w) Lv ps S ∧ Fr S w (failW b good w) ∧ (failW b good w).heap.size = w.heap.size := by
  have hother : ∀ k, k ≠ b → (failW b good w).heap[k]? = w.heap[k]? := by
    intro k hk
    unfold failW
    split
    · exact Below.heap_setCell _ _ _ k hk
    split
    · exact Below.heap_setCell _ _ _ k hk
    · rfl
  refine ⟨?_, hr.otherBlock fun k hk ⟨cs, t, fz, hc, ht⟩ => hother k ?_, ?_, ?_⟩
  · unfold failW
    split
    · rename_i h; subst h; simp [World.setCell, Array.getElem?_modify, hb]
    split
    · simp [World.setCell, Array.getElem?_modify, hb]
    · exact hb
  · rintro rfl
    rw [hb] at hc
    cases hc
    rcases ht with h | h <;> cases h
  · unfold failW
    split
    · exact (Fr.refl S w).setCell (.inl hS) _
    split
    · exact (Fr.refl S w).setCell (.inl hS) _
    · exact Fr.refl S w
  · unfold failW
    split
    · simp [World.setCell]
    split
    · simp [World.setCell]
    · rfl

/-- the reference's disk stands in memory -/
def RefIs (w : World) (b : Nat) (D : Disk) (S : Nat → Prop) : Prop :=
  ∃ Lv ps, w.heap[b]? = some (.cells #[Lv, .int .i64 (D.room : Nat), .bool D.gone, .int .i64 D.good] 89 (0, 0)) ∧ S b ∧ D.fs = ps.map (·.1) ∧ RowF w Lv ps S
/-- it has become D', and nothing else was touched -/
def RefTo (w w' : World) (b : Nat) (D' : Disk) (S : Nat → Prop) : Prop := ∃ S', RefIs w' b D' S' ∧ (∀ k, S' k → Up S w w' k) ∧ Fr S w w'
theorem RefTo.drew {w w' : World} {b : Nat} {D : Disk} {S : Nat → Prop} (h : RefTo w w' b D S) : RefTo w w'.drew b D S := by
  obtain ⟨S', ⟨Lv, ps, h1, h2, h3, h4⟩, h5, h6⟩ := h
  exact ⟨S', ⟨Lv, ps, h1, h2, h3, ⟨h4.own, h4.mine, h4.bytes⟩⟩, h5, h6.drew⟩
structure Fine (D : Disk) : Prop where
  inv : PlainDisk.Inv may D
  room : D.room ≤ 1048576
  good : D.good ≤ 9223372036854775807
theorem RefIs.stays {w : World} {b : Nat} {D : Disk} {S : Nat → Prop} (h : RefIs w b D S) : RefTo w w b D S := ⟨S, h, fun k hk => .inl hk, Fr.refl S w⟩

set_option maxHeartbeats 2000000 in
set_option maxRecDepth 100000 in
theorem refSync_any (b : Nat) (nm : List UInt8) (D : Disk) (S : Nat → Prop) (w : World) (hd : RefIs w b D S) (hF : Fine D) (hnm : nm.length ≤ 281474976710656) :
    Calls Tryz.prog 105 #[.pointer (some ⟨b, 0, none⟩), .string (str nm)] w fun e w' => e = .returned (.int .i64 (PlainDisk.sync may D nm).2) ∧ RefTo w w' b (PlainDisk.sync may D nm).1 S := by
  have hd0 := hd
  obtain ⟨Lv, ps, hb, hS, hfs, hr⟩ := hd
  have C1 := Lib.hid (refBarred_any b D.gone Lv (.int .i64 (D.room : Nat)) (.int .i64 D.good) nm nm w hb hnm hnm)
  have C2 := Lib.hid (refFind_any b nm Lv ps _ _ _ S w hb hr)
  have HD := Lib.hid hd0.stays
  unfold PlainDisk.sync
  by_cases hg : D.gone = true
  · rw [if_pos hg]
    rw [if_pos hg] at C1
    generalize place nm ps = pl at *
    clear hb hr hfs hd0
    go_enter Tryz.func105, Tryz.ntmps105
    go_wp2_with fail
    refine C1.out.mono ?_
    rintro e w' ⟨rfl, rfl⟩
    go_wp2_with fail
    refine C2.out.mono ?_
    rintro e w' ⟨rfl, rfl⟩
    go_wp2_with fail
    go_ret
    exact ⟨rfl, HD.out⟩
  rw [if_neg hg]
  rw [if_neg hg] at C1
  by_cases hm : may nm = false
  · rw [if_pos hm]
    rw [if_pos (.inl hm)] at C1
    generalize place nm ps = pl at *
    clear hb hr hfs hd0
    go_enter Tryz.func105, Tryz.ntmps105
    go_wp2_with fail
    refine C1.out.mono ?_
    rintro e w' ⟨rfl, rfl⟩
    go_wp2_with fail
    refine C2.out.mono ?_
    rintro e w' ⟨rfl, rfl⟩
    go_wp2_with fail
    go_ret
    exact ⟨rfl, HD.out⟩
  rw [if_neg hm]
  rw [if_neg (by simp [hm])] at C1
  rcases place_find (nm := nm) (ps := ps) with ⟨h1, h2⟩ | ⟨i, p, h1, h2, h3, h4⟩
  · rw [hfs, if_pos h2]
    rw [h1] at C2
    clear hb hr hfs hd0 h1 h2
    go_enter Tryz.func105, Tryz.ntmps105
    go_wp2_with fail
    refine C1.out.mono ?_
    rintro e w' ⟨rfl, rfl⟩
    go_wp2_with fail
    refine C2.out.mono ?_
    rintro e w' ⟨rfl, rfl⟩
    go_wp2_with fail
    go_ret
    exact ⟨rfl, HD.out⟩
  rw [hfs, if_neg (by rw [h4]; simp)]
  rw [h1] at C2
  have hga := hF.inv.armed
  have hgb := hF.good
  have C3 := Lib.hid (refFails_any b D.good Lv (.int .i64 (D.room : Nat)) (.bool D.gone) w hb hga hgb)
  obtain ⟨e1, e2, e3, e4⟩ := failW_is hb hS hr
  unfold PlainDisk.write
  by_cases h0 : D.good = 0
  · rw [if_pos h0]
    have HF2 := Lib.hid (show RefTo w (failW b D.good w) b { D with fs := ps.map (·.1), gone := true } S from ⟨S, ⟨Lv, ps, by rw [if_pos h0, if_neg (by omega)] at e1; exact e1, hS, rfl, e2⟩, fun k hk => .inl hk, e3⟩)
    rw [decide_eq_true h0] at C3
    clear hb hr hfs hd0 h1 h2 e1 e2 e3 e4
    generalize failW b D.good w = wf at *
    go_enter Tryz.func105, Tryz.ntmps105
    go_wp2_with fail
    refine C1.out.mono ?_
    rintro e w' ⟨rfl, rfl⟩
    go_wp2_with fail
    refine C2.out.mono ?_
    rintro e w' ⟨rfl, rfl⟩
    go_wp2_with fail
    refine C3.out.mono ?_
    rintro e w' ⟨rfl, rfl⟩
    go_wp2_with fail
    go_ret
    exact ⟨rfl, HF2.out⟩
  · rw [if_neg h0]
    rw [if_neg h0] at e1
    rw [decide_eq_false h0] at C3
    have hs := hF.inv.sorted
    rw [hfs] at hs
    have HUP := Lib.hid (set_upd hs h2 PlainDisk.syncF p.2)
    rw [h3] at HUP
    generalize failW b D.good w = wf at *
    obtain ⟨A, cap, rfl, hc, hm2, hrow⟩ := e2.form
    have hil : i < ps.length := (List.getElem?_eq_some_iff.1 h2).1
    obtain ⟨g, cs, rfl, hSg, hgb2, hsz, hat⟩ := hrow (by omega)
    obtain ⟨d0, d1, d2⟩ := hat i p h2
    obtain ⟨A2, c2, q2, k1, k2, k3⟩ := (e2.bytes p (List.mem_of_getElem? h2)).lies
    rw [q2] at d1
    have c0 : wf.cell? ⟨b, 0, none⟩ = some (.slice (some ⟨g, 0, none⟩) ps.length cap) := by rw [Lib.cell_of_heap e1]; rfl
    have f2 : wf.frozen? ⟨g, i * 3 + 2, none⟩ = false := Lib.frozen_of_heap hgb2 _
    obtain ⟨a1, a2, a3, a4⟩ := row_set2 (m := p.1.bytes.length) e1 e2 h2
    have HF2 : RefTo w (wf.setCell ⟨g, i * 3 + 2, none⟩ (.int .i64 (p.1.bytes.length : Nat))) b { D with fs := PlainDisk.upd (ps.map (·.1)) nm PlainDisk.syncF, good := if 0 < D.good then D.good - 1 else D.good } S :=
      ⟨S, ⟨_, ps.set i (PlainDisk.syncF p.1, p.2), a1, hS, HUP.out.symm, a2⟩, fun k hk => .inl hk, e3.trans a3 (fun i hi => .inl hi)⟩
    dsimp only
    generalize ({ D with fs := PlainDisk.upd (ps.map (·.1)) nm PlainDisk.syncF, good := if 0 < D.good then D.good - 1 else D.good } : Disk) = D' at *
    have HF3 := Lib.hid HF2
    clear a1 a2 a3 a4 HF2
    clear hb hr hfs hd0 h1 h2 e1 e2 e3 e4 hat hrow hs k3 d0 hsz hgb2 HD
    go_enter Tryz.func105, Tryz.ntmps105
    go_wp2_with fail
    refine C1.out.mono ?_
    rintro e w' ⟨rfl, rfl⟩
    go_wp2_with fail
    refine C2.out.mono ?_
    rintro e w' ⟨rfl, rfl⟩
    go_wp2_with fail
    refine C3.out.mono ?_
    rintro e w' ⟨rfl, rfl⟩
    go_wp2_with fail
    go_region
    all_goals
      go_wp2_with fail
      go_ret
      exact ⟨rfl, HF3.out.drew⟩
end Go.Proofs.YtjcikhacekmcfaaGreatDoor
namespace Go.Proofs.YtjcikhacekmcfaaGreatDoor
set_option maxRecDepth 20000
open Go.RowKit
open PlainDisk (File Disk Left)
set_option linter.unusedVariables false


set_option maxHeartbeats 2000000 in
set_option maxRecDepth 100000 in
theorem refDropA_any (b : Nat) (nm : List UInt8) (D : Disk) (S : Nat → Prop) (w : World) (hd : RefIs w b D S) (hF : Fine D) (hnm : nm.length ≤ 281474976710656) :
    Calls Tryz.prog 41 #[.pointer (some ⟨b, 0, none⟩), .string (str nm)] w fun e w' => e = .returned (.int .i64 (PlainDisk.dropA may D nm).2) ∧ RefTo w w' b (PlainDisk.dropA may D nm).1 S := by
  have hd0 := hd
  obtain ⟨Lv, ps, hb, hS, hfs, hr⟩ := hd
  have C1 := Lib.hid (refBarred_any b D.gone Lv (.int .i64 (D.room : Nat)) (.int .i64 D.good) nm nm w hb hnm hnm)
  have C2 := Lib.hid (refFind_any b nm Lv ps _ _ _ S w hb hr)
  have HD := Lib.hid hd0.stays
  unfold PlainDisk.dropA
  by_cases hg : D.gone = true
  · rw [if_pos hg]
    rw [if_pos hg] at C1
    generalize place nm ps = pl at *
    clear hb hr hfs hd0
    go_enter Tryz.func41, Tryz.ntmps41
    go_wp2_with fail
    refine C1.out.mono ?_
    rintro e w' ⟨rfl, rfl⟩
    go_wp2_with fail
    go_ret
    exact ⟨rfl, HD.out⟩
  rw [if_neg hg]
  rw [if_neg hg] at C1
  by_cases hm : may nm = false
  · rw [if_pos hm]
    rw [if_pos (.inl hm)] at C1
    generalize place nm ps = pl at *
    clear hb hr hfs hd0
    go_enter Tryz.func41, Tryz.ntmps41
    go_wp2_with fail
    refine C1.out.mono ?_
    rintro e w' ⟨rfl, rfl⟩
    go_wp2_with fail
    go_ret
    exact ⟨rfl, HD.out⟩
  rw [if_neg hm]
  rw [if_neg (by simp [hm])] at C1
  rcases place_find (nm := nm) (ps := ps) with ⟨h1, h2⟩ | ⟨i, p, h1, h2, h3, h4⟩
  · rw [hfs, if_pos h2]
    rw [h1] at C2
    clear hb hr hfs hd0 h1 h2
    go_enter Tryz.func41, Tryz.ntmps41
    go_wp2_with fail
    refine C1.out.mono ?_
    rintro e w' ⟨rfl, rfl⟩
    go_wp2_with fail
    refine C2.out.mono ?_
    rintro e w' ⟨rfl, rfl⟩
    go_wp2_with fail
    go_ret
    exact ⟨rfl, HD.out⟩
  rw [hfs, if_neg (by rw [h4]; simp)]
  rw [h1] at C2
  have hga := hF.inv.armed
  have hgb := hF.good
  have C3 := Lib.hid (refFails_any b D.good Lv (.int .i64 (D.room : Nat)) (.bool D.gone) w hb hga hgb)
  obtain ⟨e1, e2, e3, e4⟩ := failW_is hb hS hr
  unfold PlainDisk.write
  by_cases h0 : D.good = 0
  · rw [if_pos h0]
    have HF2 := Lib.hid (show RefTo w (failW b D.good w) b { D with fs := ps.map (·.1), gone := true } S from ⟨S, ⟨Lv, ps, by rw [if_pos h0, if_neg (by omega)] at e1; exact e1, hS, rfl, e2⟩, fun k hk => .inl hk, e3⟩)
    rw [decide_eq_true h0] at C3
    clear hb hr hfs hd0 h1 h2 e1 e2 e3 e4
    generalize failW b D.good w = wf at *
    go_enter Tryz.func41, Tryz.ntmps41
    go_wp2_with fail
    refine C1.out.mono ?_
    rintro e w' ⟨rfl, rfl⟩
    go_wp2_with fail
    refine C2.out.mono ?_
    rintro e w' ⟨rfl, rfl⟩
    go_wp2_with fail
    refine C3.out.mono ?_
    rintro e w' ⟨rfl, rfl⟩
    go_wp2_with fail
    go_ret
    exact ⟨rfl, HF2.out⟩
  · rw [if_neg h0]
    rw [if_neg h0] at e1
    rw [decide_eq_false h0] at C3
    have hmany := hF.inv.many
    rw [hfs, List.length_map] at hmany
    generalize failW b D.good w = wf at *
    have C4 := Lib.hid (refDrop_any b nm Lv ps _ _ _ S wf e1 e2 (by omega))
    have HT := Lib.hid (show ∀ l w1, Below wf.heap.size wf w1 → OwnF w1 wf.heap.size l (dropF nm ps) → RefTo w (w1.setCell ⟨b, 0, none⟩ l) b { D with fs := PlainDisk.drop (ps.map (·.1)) nm, good := if 0 < D.good then D.good - 1 else D.good } S by
      intro l w1 hbw hown
      obtain ⟨a1, a2, a3, a4⟩ := row_new (ps := ps) e1 hS hbw hown (fun q hq => e2.bytes q (mem_dropF hq))
      refine ⟨Up S wf w1, ⟨l, dropF nm ps, a1, .inl hS, (dropF_fst nm ps).symm, a2⟩, fun k hk => ?_, e3.trans a3 (fun i hi => .inl hi)⟩
      rcases hk with hk | ⟨h5, h6⟩
      · exact .inl hk
      · exact .inr ⟨by omega, by rw [a4]; exact h6⟩)
    dsimp only
    generalize ({ D with fs := PlainDisk.drop (ps.map (·.1)) nm, good := if 0 < D.good then D.good - 1 else D.good } : Disk) = D' at *
    clear hb hr hfs hd0 h1 h2 e1 e2 e3 e4 HD
    go_enter Tryz.func41, Tryz.ntmps41
    go_wp2_with fail
    refine C1.out.mono ?_
    rintro e w' ⟨rfl, rfl⟩
    go_wp2_with fail
    refine C2.out.mono ?_
    rintro e w' ⟨rfl, rfl⟩
    go_wp2_with fail
    refine C3.out.mono ?_
    rintro e w' ⟨rfl, rfl⟩
    go_wp2_with fail
    refine C4.out.mono ?_
    rintro e w' ⟨rfl, l, w1, rfl, hbw, hown⟩
    go_wp2_with fail
    go_ret
    exact ⟨rfl, HT.out l w1 hbw hown⟩
end Go.Proofs.YtjcikhacekmcfaaGreatDoor
namespace Go.Proofs.YtjcikhacekmcfaaGreatDoor
set_option maxRecDepth 20000
open Go.RowKit
open PlainDisk (File Disk Left)
set_option linter.unusedVariables false

theorem Up_trans {S : Nat → Prop} {a b c d : World} {k : Nat} (h : Up (Up S a b) c d k) (h1 : a.heap.size ≤ c.heap.size) (h2 : b.heap.size ≤ d.heap.size) : Up S a d k := by
  rcases h with (h | ⟨h3, h4⟩) | ⟨h3, h4⟩
  · exact .inl h
  · exact .inr ⟨h3, by omega⟩
  · exact .inr ⟨by omega, h4⟩
theorem Up_new {S : Nat → Prop} {a b : World} : ∀ i, Up S a b i → S i ∨ a.heap.size ≤ i := fun i h => h.elim .inl fun h => .inr h.1
theorem bat_new {w w1 : World} {b : Nat} {Lv l r1 r2 r3 v : Value} {bs : List UInt8} {S : Nat → Prop} (hb : w.heap[b]? = some (.cells #[Lv, r1, r2, r3] 89 (0, 0))) (hbw : Below w.heap.size w w1) (h : BAt w v bs S) : BAt (w1.setCell ⟨b, 0, none⟩ l) v bs (Up S w w1) := by
  refine (h.mono fun k hk => Up.old hk).below fun k hk hc => ?_
  have hne : k ≠ b := by
    rintro rfl
    obtain ⟨cs, fz, hc⟩ := hc
    rw [hb] at hc
    cases hc
  rw [Below.heap_setCell _ _ _ k hne]
  exact hbw.block k hk

set_option maxHeartbeats 2000000 in
set_option maxRecDepth 100000 in
theorem refMove_any (b : Nat) (nm to : List UInt8) (D : Disk) (S : Nat → Prop) (w : World) (hd : RefIs w b D S) (hF : Fine D) (hnm : nm.length ≤ 281474976710656) (hto : to.length ≤ 281474976710656) :
    Calls Tryz.prog 106 #[.pointer (some ⟨b, 0, none⟩), .string (str nm), .string (str to)] w fun e w' => e = .returned (.int .i64 (PlainDisk.move may D nm to).2) ∧ RefTo w w' b (PlainDisk.move may D nm to).1 S := by
  have hd0 := hd
  obtain ⟨Lv, ps, hb, hS, hfs, hr⟩ := hd
  have C1 := Lib.hid (refBarred_any b D.gone Lv (.int .i64 (D.room : Nat)) (.int .i64 D.good) nm to w hb hnm hto)
  have C2 := Lib.hid (refFind_any b nm Lv ps _ _ _ S w hb hr)
  have HD := Lib.hid hd0.stays
  unfold PlainDisk.move
  by_cases hg : D.gone = true
  · rw [if_pos hg]
    rw [if_pos hg] at C1
    generalize place nm ps = pl at *
    clear hb hr hfs hd0
    go_enter Tryz.func106, Tryz.ntmps106
    go_wp2_with fail
    refine C1.out.mono ?_
    rintro e w' ⟨rfl, rfl⟩
    go_wp2_with fail
    refine C2.out.mono ?_
    rintro e w' ⟨rfl, rfl⟩
    go_wp2_with fail
    go_ret
    exact ⟨rfl, HD.out⟩
  rw [if_neg hg]
  rw [if_neg hg] at C1
  by_cases hm : may nm = false ∨ may to = false
  · rw [if_pos hm]
    rw [if_pos hm] at C1
    generalize place nm ps = pl at *
    clear hb hr hfs hd0
    go_enter Tryz.func106, Tryz.ntmps106
    go_wp2_with fail
    refine C1.out.mono ?_
    rintro e w' ⟨rfl, rfl⟩
    go_wp2_with fail
    refine C2.out.mono ?_
    rintro e w' ⟨rfl, rfl⟩
    go_wp2_with fail
    go_ret
    exact ⟨rfl, HD.out⟩
  rw [if_neg hm]
  rw [if_neg hm] at C1
  rcases place_find (nm := nm) (ps := ps) with ⟨h1, h2⟩ | ⟨i, p, h1, h2, h3, h4⟩
  · rw [hfs, h2]
    rw [h1] at C2
    dsimp only
    clear hb hr hfs hd0 h1 h2
    go_enter Tryz.func106, Tryz.ntmps106
    go_wp2_with fail
    refine C1.out.mono ?_
    rintro e w' ⟨rfl, rfl⟩
    go_wp2_with fail
    refine C2.out.mono ?_
    rintro e w' ⟨rfl, rfl⟩
    go_wp2_with fail
    go_ret
    exact ⟨rfl, HD.out⟩
  rw [hfs, h4]
  dsimp only
  rw [h1] at C2
  have hga := hF.inv.armed
  have hgb := hF.good
  have C3 := Lib.hid (refFails_any b D.good Lv (.int .i64 (D.room : Nat)) (.bool D.gone) w hb hga hgb)
  obtain ⟨e1, e2, e3, e4⟩ := failW_is hb hS hr
  unfold PlainDisk.write
  by_cases h0 : D.good = 0
  · rw [if_pos h0]
    have HF2 := Lib.hid (show RefTo w (failW b D.good w) b { D with fs := ps.map (·.1), gone := true } S from ⟨S, ⟨Lv, ps, by rw [if_pos h0, if_neg (by omega)] at e1; exact e1, hS, rfl, e2⟩, fun k hk => .inl hk, e3⟩)
    rw [decide_eq_true h0] at C3
    clear hb hr hfs hd0 h1 h2 e1 e2 e3 e4
    generalize failW b D.good w = wf at *
    go_enter Tryz.func106, Tryz.ntmps106
    go_wp2_with fail
    refine C1.out.mono ?_
    rintro e w' ⟨rfl, rfl⟩
    go_wp2_with fail
    refine C2.out.mono ?_
    rintro e w' ⟨rfl, rfl⟩
    go_wp2_with fail
    refine C3.out.mono ?_
    rintro e w' ⟨rfl, rfl⟩
    go_wp2_with fail
    go_ret
    exact ⟨rfl, HF2.out⟩
  · rw [if_neg h0]
    rw [if_neg h0] at e1
    rw [decide_eq_false h0] at C3
    have hmany := hF.inv.many
    rw [hfs, List.length_map] at hmany
    generalize failW b D.good w = wf at *
    have hn1 := dropF_len nm ps
    have hn2 := dropF_len to (dropF nm ps)
    have hslp : IsSl p.2 := by
      obtain ⟨A2, c2, q2, _⟩ := e2.bytes p (List.mem_of_getElem? h2)
      exact ⟨_, _, _, q2⟩
    -- the three steps, behind f's own block
    obtain ⟨A2, n2, c2, q2⟩ := hslp
    have hblt : b < wf.heap.size := (Array.getElem?_eq_some_iff.1 e1).1
    have x1 : (wf.alloc (.cells #[.string (str to), .slice A2 n2 c2, .int .i64 (p.1.sure : Nat)] 104)).heap[b]? = _ := (Lib.alloc_old wf _ b hblt).trans e1
    have x2 : RowF (wf.alloc (.cells #[.string (str to), .slice A2 n2 c2, .int .i64 (p.1.sure : Nat)] 104)) Lv ps S := e2.otherBlock fun k hk _ => Lib.alloc_old wf _ k hk
    have x3 : Fr S wf (wf.alloc (.cells #[.string (str to), .slice A2 n2 c2, .int .i64 (p.1.sure : Nat)] 104)) := (Fr.refl S wf).alloc _
    have x4 : (wf.alloc (.cells #[.string (str to), .slice A2 n2 c2, .int .i64 (p.1.sure : Nat)] 104)).heap[wf.heap.size]? = some (.cells #[.string (str to), .slice A2 n2 c2, .int .i64 (p.1.sure : Nat)] 104 (0, 0)) := heap_alloc_new wf _
    have x5 : (wf.alloc (.cells #[.string (str to), .slice A2 n2 c2, .int .i64 (p.1.sure : Nat)] 104)).heap.size = wf.heap.size + 1 := by simp
    obtain ⟨wx, hwx⟩ : ∃ wx, wx = wf.alloc (.cells #[.string (str to), .slice A2 n2 c2, .int .i64 (p.1.sure : Nat)] 104) := ⟨_, rfl⟩
    rw [← hwx] at x1 x2 x3 x4 x5
    have C4 := Lib.hid (refDrop_any b nm Lv ps _ _ _ S wx x1 x2 (by omega))
    have HT := Lib.hid (show ∀ l1 w1, Below wx.heap.size wx w1 → OwnF w1 wx.heap.size l1 (dropF nm ps) →
        Calls Tryz.prog 91 #[.pointer (some ⟨b, 0, none⟩), .string (str to)] (w1.setCell ⟨b, 0, none⟩ l1) fun e w2 => e = .returned (.tuple #[]) ∧
          w2.heap[wf.heap.size]? = some (.cells #[.string (str to), .slice A2 n2 c2, .int .i64 (p.1.sure : Nat)] 104 (0, 0)) ∧
          (Calls Tryz.prog 62 #[.pointer (some ⟨b, 0, none⟩), .agg #[.string (str to), .slice A2 n2 c2, .int .i64 (p.1.sure : Nat)]] w2 fun e w3 => e = .returned (.tuple #[]) ∧ RefTo w w3 b { D with fs := PlainDisk.moved (ps.map (·.1)) p.1 nm to, good := if 0 < D.good then D.good - 1 else D.good } S) by
      intro l1 w1 hb1 ho1
      obtain ⟨a1, a2, a3, a4⟩ := row_new (ps := ps) x1 hS hb1 ho1 (fun q hq => x2.bytes q (mem_dropF hq))
      refine (refDrop_any b to l1 (dropF nm ps) _ _ _ _ _ a1 a2 (by omega)).mono ?_
      rintro e w' ⟨rfl, l2, w2, rfl, hb2, ho2⟩
      obtain ⟨b1, b2, b3, b4⟩ := row_new (ps := dropF nm ps) a1 (Up.old hS) hb2 ho2 (fun q hq => a2.bytes q (mem_dropF hq))
      have z1 := hb1.size
      have z2 := hb2.size
      have hxb : (w2.setCell ⟨b, 0, none⟩ l2).heap[wf.heap.size]? = some (.cells #[.string (str to), .slice A2 n2 c2, .int .i64 (p.1.sure : Nat)] 104 (0, 0)) := by
        rw [Below.heap_setCell _ _ _ _ (show wf.heap.size ≠ b by omega), hb2.block _ (by omega), Below.heap_setCell _ _ _ _ (show wf.heap.size ≠ b by omega), hb1.block _ (by omega)]
        exact x4
      refine ⟨rfl, hxb, ?_⟩
      have hput := refPut_any b ({ p.1 with name := to }, p.2) l2 (dropF to (dropF nm ps)) _ _ _ _ _ b1 b2 (by omega) ⟨A2, n2, c2, q2⟩
      unfold fileV at hput
      dsimp only at hput
      rw [q2] at hput
      refine hput.mono ?_
      rintro e w' ⟨rfl, l3, w3, rfl, hb3, ho3⟩
      have hpb := bat_new (l := l2) a1 hb2 (bat_new (l := l1) x1 hb1 (x2.bytes p (List.mem_of_getElem? h2)))
      rw [q2] at hpb
      obtain ⟨f1, f2, f3, f4⟩ := row_new (ps := dropF to (dropF nm ps)) b1 (Up.old (Up.old hS)) hb3 ho3 (fun q hq => by
        rcases mem_putF hq with rfl | hq
        · exact hpb
        · exact b2.bytes q hq)
      have z3 := hb3.size
      refine ⟨rfl, _, ⟨l3, _, f1, Up.old (Up.old (Up.old hS)), ?_, f2⟩, fun k hk => ?_, ?_⟩
      · rw [putF_fst, dropF_fst, dropF_fst]; rfl
      · have g1 := Up_trans (Up_trans hk (by omega) (by omega)) (by omega) (by omega)
        rcases g1 with g1 | ⟨g1, g2⟩
        · exact .inl g1
        · exact .inr ⟨by omega, by omega⟩
      · exact (e3.trans x3 (fun i hi => .inl hi)).trans ((a3.trans b3 Up_new).trans f3 fun i hi => (Up_new i hi).elim (fun q => (Up_new i q).elim .inl .inr) (fun q => .inr (by omega))) (fun i hi => .inl hi))
    dsimp only
    generalize ({ D with fs := PlainDisk.moved (ps.map (·.1)) p.1 nm to, good := if 0 < D.good then D.good - 1 else D.good } : Disk) = D' at *
    obtain ⟨A, cap, rfl, hc, hm2, hrow⟩ := e2.form
    have hil : i < ps.length := (List.getElem?_eq_some_iff.1 h2).1
    obtain ⟨g, cs, rfl, hSg, hgb2, hsz, hat⟩ := hrow (by omega)
    obtain ⟨d0, d1, d2⟩ := hat i p h2
    have c0 : wf.cell? ⟨b, 0, none⟩ = some (.slice (some ⟨g, 0, none⟩) ps.length cap) := by rw [Lib.cell_of_heap e1]; rfl
    rw [q2] at d1
    rw [h3] at d0
    have HWX := Lib.hid hwx
    have hblt2 : b < wf.heap.size := hblt
    clear hb hr hfs hd0 h1 h2 e1 e2 e3 e4 HD hat hrow hsz hgb2 x1 x2 x3 x4 x5 hwx
    go_enter Tryz.func106, Tryz.ntmps106
    go_wp2_with fail
    refine C1.out.mono ?_
    rintro e w' ⟨rfl, rfl⟩
    go_wp2_with fail
    refine C2.out.mono ?_
    rintro e w' ⟨rfl, rfl⟩
    go_wp2_with fail
    refine C3.out.mono ?_
    rintro e w' ⟨rfl, rfl⟩
    go_wp2_with fail
    rw [← HWX.out]
    refine C4.out.mono ?_
    rintro e w' ⟨rfl, l1, w1, rfl, hb1, ho1⟩
    have HT2 := Lib.hid (HT.out l1 w1 hb1 ho1)
    clear hb1 ho1
    go_wp2_with fail
    refine HT2.out.mono ?_
    rintro e w2 ⟨rfl, hx, hc3⟩
    have y0 : w2.cell? ⟨w'.heap.size, 0, none⟩ = some (.string (str to)) := by rw [Lib.cell_of_heap hx]; rfl
    have y1 : w2.cell? ⟨w'.heap.size, 1, none⟩ = some (.slice A2 n2 c2) := by rw [Lib.cell_of_heap hx]; rfl
    have y2 : w2.cell? ⟨w'.heap.size, 2, none⟩ = some (.int .i64 (p.1.sure : Nat)) := by rw [Lib.cell_of_heap hx]; rfl
    have HC3 := Lib.hid hc3
    clear hx hc3
    go_wp2_with fail
    refine HC3.out.mono ?_
    rintro e w3 ⟨rfl, hto3⟩
    have HTO := Lib.hid hto3
    clear hto3
    go_wp2_with fail
    go_ret
    exact ⟨rfl, HTO.out⟩
end Go.Proofs.YtjcikhacekmcfaaGreatDoor
namespace Go.Proofs.YtjcikhacekmcfaaGreatDoor
set_option maxRecDepth 20000
open Go.RowKit
open PlainDisk (File Disk Left)
set_option linter.unusedVariables false

/-! ### reading, arming, a new disk -/
set_option maxHeartbeats 1000000 in
set_option maxRecDepth 100000 in
theorem refSure_any (b : Nat) (nm : List UInt8) (D : Disk) (S : Nat → Prop) (w : World) (hd : RefIs w b D S) :
    Calls Tryz.prog 109 #[.pointer (some ⟨b, 0, none⟩), .string (str nm)] w fun e w' => e = .returned (.int .i64 (((PlainDisk.find D.fs nm).map (·.sure)).getD 0 : Nat)) ∧ w = w' := by
  obtain ⟨Lv, ps, hb, hS, hfs, hr⟩ := hd
  have C2 := Lib.hid (refFind_any b nm Lv ps _ _ _ S w hb hr)
  rw [hfs]
  rcases place_find (nm := nm) (ps := ps) with ⟨h1, h2⟩ | ⟨i, p, h1, h2, h3, h4⟩
  · rw [h2]
    rw [h1] at C2
    clear hb hr hfs h1 h2
    go_enter Tryz.func109, Tryz.ntmps109
    go_wp2_with fail
    refine C2.out.mono ?_
    rintro e w' ⟨rfl, rfl⟩
    go_wp2_with fail
    go_ret
    exact ⟨rfl, rfl⟩
  · rw [h4]
    rw [h1] at C2
    have hil : i < ps.length := (List.getElem?_eq_some_iff.1 h2).1
    obtain ⟨A, cap, rfl, hc, hm2, hrow⟩ := hr.form
    obtain ⟨g, cs, rfl, hSg, hgb2, hsz, hat⟩ := hrow (by omega)
    obtain ⟨d0, d1, d2⟩ := hat i p h2
    have c0 : w.cell? ⟨b, 0, none⟩ = some (.slice (some ⟨g, 0, none⟩) ps.length cap) := by rw [Lib.cell_of_heap hb]; rfl
    clear hb hr hfs h1 h2 hat hrow hgb2 hsz d0 d1
    go_enter Tryz.func109, Tryz.ntmps109
    go_wp2_with fail
    refine C2.out.mono ?_
    rintro e w' ⟨rfl, rfl⟩
    go_wp2_with fail
    go_ret
    exact ⟨rfl, rfl⟩

set_option maxHeartbeats 1000000 in
set_option maxRecDepth 100000 in
theorem refArm_any (b : Nat) (n : Int) (D : Disk) (S : Nat → Prop) (w : World) (hd : RefIs w b D S) (n0 : -9223372036854775808 ≤ n) (n1 : n ≤ 9223372036854775807) :
    Calls Tryz.prog 19 #[.pointer (some ⟨b, 0, none⟩), .int .i64 n] w fun e w' => e = .returned (.tuple #[]) ∧ RefTo w w' b (PlainDisk.arm D n) S := by
  obtain ⟨Lv, ps, hb, hS, hfs, hr⟩ := hd
  have c3 : w.cell? ⟨b, 3, none⟩ = some (.int .i64 D.good) := by rw [Lib.cell_of_heap hb]; rfl
  have f3 : w.frozen? ⟨b, 3, none⟩ = false := Lib.frozen_of_heap hb 3
  have key : ∀ m : Int, RefTo w (w.setCell ⟨b, 3, none⟩ (.int .i64 m)) b { D with good := m } S := fun m => by
    have hother : ∀ k, k ≠ b → (w.setCell ⟨b, 3, none⟩ (.int .i64 m)).heap[k]? = w.heap[k]? := fun k hk => Below.heap_setCell _ _ _ k hk
    refine ⟨S, ⟨Lv, ps, by simp [World.setCell, Array.getElem?_modify, hb], hS, hfs, hr.otherBlock fun k hk ⟨cs, t, fz, hc, ht⟩ => hother k ?_⟩, fun k hk => .inl hk, (Fr.refl S w).setCell (.inl hS) _⟩
    rintro rfl
    rw [hb] at hc
    cases hc
    rcases ht with h | h <;> cases h
  have key2 : ∀ m k : Int, RefTo w ((w.setCell ⟨b, 3, none⟩ (.int .i64 m)).setCell ⟨b, 3, none⟩ (.int .i64 k)) b { D with good := k } S := fun m k => by
    have hother : ∀ i, i ≠ b → ((w.setCell ⟨b, 3, none⟩ (.int .i64 m)).setCell ⟨b, 3, none⟩ (.int .i64 k)).heap[i]? = w.heap[i]? := fun i hi => (Below.heap_setCell _ _ _ i hi).trans (Below.heap_setCell _ _ _ i hi)
    refine ⟨S, ⟨Lv, ps, by simp [World.setCell, Array.getElem?_modify, hb], hS, hfs, hr.otherBlock fun i hi ⟨cs, t, fz, hc, ht⟩ => hother i ?_⟩, fun k hk => .inl hk, ((Fr.refl S w).setCell (.inl hS) _).setCell (.inl hS) _⟩
    rintro rfl
    rw [hb] at hc
    cases hc
    rcases ht with h | h <;> cases h
  have HK2 := Lib.hid key2
  have HK := Lib.hid key
  unfold PlainDisk.arm
  clear hb hr key key2
  by_cases hn : n < 0
  · rw [if_pos hn]
    go_enter Tryz.func19, Tryz.ntmps19
    go_wp2_with fail
    go_end0
    exact ⟨rfl, HK2.out n (-1)⟩
  · rw [if_neg hn]
    have hn2 : 0 ≤ n := by omega
    go_enter Tryz.func19, Tryz.ntmps19
    go_wp2_with fail
    go_end0
    exact ⟨rfl, by have := HK.out n; rw [← hfs]; exact this⟩
end Go.Proofs.YtjcikhacekmcfaaGreatDoor
namespace Go.Proofs.YtjcikhacekmcfaaGreatDoor
set_option maxRecDepth 20000
open Go.RowKit
open PlainDisk (File Disk Left)
set_option linter.unusedVariables false

/-! ### a new disk -/
theorem RowF.none (w : World) (S : Nat → Prop) : RowF w (.slice Option.none 0 0) [] S :=
  ⟨⟨rfl, .inl ⟨rfl, rfl⟩⟩, (fun g h => by cases h), (fun p hp => by cases hp)⟩
set_option maxHeartbeats 1000000 in
set_option maxRecDepth 100000 in
theorem refNew_no (room : Int) (w : World) (n0 : -9223372036854775808 ≤ room) (n1 : room ≤ 9223372036854775807) (hr : room < 0 ∨ 1048576 < room) :
    Calls Tryz.prog 11 #[.int .i64 room] w fun e w' => e = .returned (.pointer Option.none) ∧ w' = w := by
  rcases hr with hr | hr
  · go_enter Tryz.func11, Tryz.ntmps11
    go_wp2_with fail
    go_ret
    exact ⟨rfl, rfl⟩
  · have h0 : 0 ≤ room := by omega
    go_enter Tryz.func11, Tryz.ntmps11
    go_wp2_with fail
    go_ret
    exact ⟨rfl, rfl⟩
set_option maxHeartbeats 1000000 in
set_option maxRecDepth 100000 in
theorem refNew_yes (room : Nat) (w : World) (h : room ≤ 1048576) :
    Calls Tryz.prog 11 #[.int .i64 (room : Nat)] w fun e w' => e = .returned (.pointer (some ⟨w.heap.size, 0, Option.none⟩)) ∧ RefIs w' w.heap.size (PlainDisk.new room) (fun k => k = w.heap.size) ∧ Below w.heap.size w w' := by
  have h0 : 0 ≤ (room : Int) := by omega
  have h1 : (room : Int) ≤ 1048576 := by omega
  go_enter Tryz.func11, Tryz.ntmps11
  go_wp2_with fail
  go_ret
  refine ⟨rfl, ⟨_, [], heap_alloc_new w _, rfl, rfl, RowF.none _ _⟩, (Below.refl _ w).alloc (Nat.le_refl _) _⟩
end Go.Proofs.YtjcikhacekmcfaaGreatDoor
namespace Go.Proofs.YtjcikhacekmcfaaGreatDoor
set_option maxRecDepth 20000
open Go.RowKit
open PlainDisk (File Disk Left)
set_option linter.unusedVariables false

/-! ### the names -/
theorem info9 : (Tryz.prog.info? 9).map (fun i => (i.zero, i.size, i.bytes)) = some (some (.string ⟨#[]⟩), 1, 16) := by kernel_rfl
def sV (l : List (List UInt8)) : List Value := l.map fun n => .string (str n)
/-- a row of texts of the call's own -/
def OwnS (w : World) (base : Nat) (v : Value) (l : List (List UInt8)) : Prop := w.ownsRow base 9 1 v l.length (sV l)
theorem OwnS.alloc {w : World} {base : Nat} {v : Value} {l : List (List UInt8)} (h : OwnS w base v l) (o : Obj) : OwnS (w.alloc o) base v l := World.ownsRow.alloc h o
theorem OwnS.lt {w : World} {base : Nat} {v : Value} {l : List (List UInt8)} (h : OwnS w base v l) : ∀ k, v.ownBlock = some k → base ≤ k ∧ k < w.heap.size := World.ownsRow.lt h
theorem OwnS.form {w : World} {base : Nat} {v : Value} {l : List (List UInt8)} (h : OwnS w base v l) : ∃ A n cap, v = .slice A n cap := by
  rcases h.2 with ⟨e, _⟩ | ⟨g, cap, cur, e, _⟩
  · exact ⟨_, _, _, e⟩
  · exact ⟨_, _, _, e⟩
theorem wp_appS {ops : Array Oper} {rest : List Oper} {o : Oper} {a : Act} {Q : Exit → Act → World → Prop} {w : World} (hgd : o.guard = none) (s x : Operand)
    (ho : o.op = .call { callee := .builtin .append, args := #[s, x], argTypes := #[93, 93] })
    (base : Nat) (v : Value) (l : List (List UInt8)) (hs : a.eval s = v) (hown : OwnS w base v l) (k : Nat) (nm : List UInt8) (hx : a.eval x = .slice (some ⟨k, 0, none⟩) 1 1)
    (hk : w.heap[k]? = some (.cells #[.string (str nm)] 9 (0, 0)))
    (hlen : l.length ≤ 1000) (hbase : base ≤ w.heap.size)
    (h : ∀ v' w', OwnS w' base v' (l ++ [nm]) → w.grownBy w' v.ownBlock → wpList Tryz.prog ops Q rest (a.put o.dst v') w') : wpList Tryz.prog ops Q (o :: rest) a w := by
  obtain ⟨i, hi, hz, hz1, hz2⟩ := info_parts3 info9
  refine wpList_append_own w hgd s x 93 ho base 9 i _ 1 16 Tryz.underlying93 hi hz hz1 hz2 rfl (by omega) v l.length (sV l) hs hown ⟨k, 0, none⟩ 1 1 [.string (str nm)] hx rfl ?_ ?_ (by simp only [maxLen]; omega) (by omega) hbase ?_
  · intro j u hu
    unfold Addr.add
    have hc : w.cell? ⟨k, j, none⟩ = some u := by
      rw [Lib.cell_of_heap hk]
      rw [← hu]
      show (#[Value.string (str nm)] : Array Value)[j]? = _
      simp
    split
    · subst j; exact hc
    · simpa using hc
  · intro u hu
    rw [List.mem_singleton] at hu
    subst hu
    rfl
  · intro v' w' h2 h3 _
    refine h v' w' ?_ h3
    unfold OwnS
    rw [show sV (l ++ [nm]) = sV l ++ [.string (str nm)] by simp [sV], List.length_append]
    exact h2

set_option maxHeartbeats 1000000 in
set_option maxRecDepth 100000 in
theorem refFiles_any (b : Nat) (D : Disk) (S : Nat → Prop) (w : World) (hd : RefIs w b D S) (hn : D.fs.length ≤ 100) :
    Calls Tryz.prog 96 #[.pointer (some ⟨b, 0, none⟩)] w fun e w' => ∃ v, e = .returned v ∧ OwnS w' w.heap.size v (D.fs.map (·.name)) ∧ Below w.heap.size w w' := by
  obtain ⟨Lv, ps, hb, hS, hfs, hr⟩ := hd
  obtain ⟨A, cap, rfl, hc, hm, hrow⟩ := hr.form
  rw [hfs] at hn ⊢
  rw [List.length_map] at hn
  have c0 : w.cell? ⟨b, 0, none⟩ = some (.slice A ps.length cap) := by rw [Lib.cell_of_heap hb]; rfl
  have hblt : b < w.heap.size := (Array.getElem?_eq_some_iff.1 hb).1
  have HR := Lib.hid hrow
  clear hrow hr hb hfs
  go_enter Tryz.func96, Tryz.ntmps96
  go_wp2_with fail
  go_loopw [3, 4] (fun lV iV wr => ∃ (i : Nat) (l : Value), l = lV ∧ iV = .int .i64 (i : Nat) ∧ i ≤ ps.length ∧ OwnS wr w.heap.size l ((ps.take i).map (·.1.name)) ∧ Below w.heap.size w wr) (fun _ iV _ => ps.length - (numOf iV).toNat)
  case atStart =>
    refine ⟨0, _, rfl, rfl, by omega, ?_, (Below.refl _ w).alloc (Nat.le_refl _) _⟩
    exact World.ownsRow_made w (base := w.heap.size) (e := 9) (size := 1) #[] 0 (by simp) (by decide) rfl
  case round =>
    obtain ⟨i, l, rfl, rfl, hi, hown, hbw⟩ := hrel
    by_cases hlt : i < ps.length
    · obtain ⟨g, cs, rfl, hSg, hg, hsz, hat⟩ := HR.out (by omega)
      obtain ⟨q, hp⟩ : ∃ q, ps[i]? = some q := ⟨_, List.getElem?_eq_getElem hlt⟩
      obtain ⟨d0, d1, d2⟩ := hat i q hp
      have hglt : g < w.heap.size := (Array.getElem?_eq_some_iff.1 hg).1
      have c0r : wr.cell? ⟨b, 0, none⟩ = some (.slice (some ⟨g, 0, none⟩) ps.length cap) := (hbw.cell hblt).trans c0
      have d0r : wr.cell? ⟨g, i * 3, none⟩ = _ := (hbw.cell hglt).trans d0
      have htk : (ps.take (i + 1)).map (·.1.name) = (ps.take i).map (·.1.name) ++ [q.1.name] := by
        rw [List.take_add_one, hp, List.map_append]
        rfl
      have hln : ((ps.take i).map (·.1.name)).length ≤ 1000 := by rw [List.length_map, List.length_take]; omega
      have HO := Lib.hid hown
      have HW := Lib.hid hbw
      have HT := Lib.hid htk
      have HLN := Lib.hid hln
      clear hown hbw hat d0 d1 d2 hg hp htk hln
      go_wp2_with (at_builtin; (refine wp_appS rfl (.tmp 15) (.tmp 24) rfl w.heap.size l _ rfl (HO.out.alloc _) wr.heap.size q.1.name rfl ?hk HLN.out ?hbs ?_))
      case hk => first | exact heap_alloc_new wr _ | exact (Array.getElem?_eq_some_iff.1 (heap_alloc_new wr _)).2
      case hbs => have := HW.out.size; simp; omega
      intro v' w2 hown2 hgrow
      have hbw2 := (HW.out.alloc HW.out.size _).grown hgrow (by have := HW.out.size; simp; omega) (fun k hk => (HO.out.lt k hk).1)
      go_wp2_with fail
      go_roundw
      case rel =>
        refine ⟨i + 1, v', rfl, rfl, by omega, ?_, hbw2⟩
        rw [HT.out]
        rw [List.map_take]
        exact hown2
      case measure => simp [numOf]; omega
    · have c0r : wr.cell? ⟨b, 0, none⟩ = _ := (hbw.cell hblt).trans c0
      have hie : i = ps.length := by omega
      rw [hie, List.take_length] at hown
      have HO := Lib.hid hown
      have HW := Lib.hid hbw
      clear hown hbw
      go_wp2_with fail
      go_ret
      exact ⟨_, rfl, by rw [List.map_map]; exact HO.out, HW.out⟩
end Go.Proofs.YtjcikhacekmcfaaGreatDoor
namespace Go.Proofs.YtjcikhacekmcfaaGreatDoor
set_option maxRecDepth 20000
open Go.RowKit
set_option linter.unusedVariables false

/-- bytes that are read out of some block, but for block b -/
def Src (w : World) (v : Value) (bs : List UInt8) (b : Nat) : Prop :=
  ∃ A c, v = .slice A bs.length c ∧ bs.length ≤ c ∧ c ≤ 9223372036854775807 ∧ (A = none → c = 0) ∧
    (bs ≠ [] → ∃ k off, A = some ⟨k, off, none⟩ ∧ k ≠ b ∧ ∀ j u, bs[j]? = some u → w.cell? ⟨k, off + j, none⟩ = some (.int .u8 (u.toNat : Int)))
theorem Src.lies {w : World} {v : Value} {bs : List UInt8} {b : Nat} (h : Src w v bs b) : ∃ A c, v = .slice A bs.length c ∧ bs.length ≤ c ∧ c ≤ 9223372036854775807 ∧ Lies w A c bs := by
  obtain ⟨A, c, h1, h2, h3, h4, h5⟩ := h
  refine ⟨A, c, h1, h2, h3, h4, fun hne => ?_⟩
  obtain ⟨k, off, e1, e2, e3⟩ := h5 hne
  exact ⟨k, off, e1, e3⟩
theorem Src.keep {w w' : World} {v : Value} {bs : List UInt8} {b : Nat} (h : Src w v bs b) (hk : ∀ k, k < w.heap.size → k ≠ b → w'.heap[k]? = w.heap[k]?) : Src w' v bs b := by
  obtain ⟨A, c, h1, h2, h3, h4, h5⟩ := h
  refine ⟨A, c, h1, h2, h3, h4, fun hne => ?_⟩
  obtain ⟨k, off, e1, e2, e3⟩ := h5 hne
  refine ⟨k, off, e1, e2, fun j u hu => ?_⟩
  have q := e3 j u hu
  exact (World.cell?_of_block (w := w) (hk k (World.block_lt_of_cell? w _ q) e2)).trans q
theorem Src.otherThan {w w' : World} {v : Value} {bs : List UInt8} {b : Nat} {cs : Array Value} {t : TypeId} {fz : Nat × Nat} (h : Src w v bs b) (hb : w.heap[b]? = some (.cells cs t fz)) (hk : ∀ k, k < w.heap.size → k ≠ b → w'.heap[k]? = w.heap[k]?) : Src w' v bs b := h.keep hk
end Go.Proofs.YtjcikhacekmcfaaGreatDoor
