import Derived.Test.YtggndipfholllaaKr
namespace Go.Proofs.Ytggndipfholllaa
open Go.RowKit
open PlainDisk (File Disk Left)
set_option linter.unusedVariables false

theorem RefIs.frame {w w' : World} {b : Nat} {D : Disk} {S : Nat → Prop} (h : RefIs w b D S) (hk : ∀ k x, w.heap[k]? = some x → S k → w'.heap[k]? = some x) : RefIs w' b D S := by
  obtain ⟨Lv, ps, h1, h2, h3, h4⟩ := h
  refine ⟨Lv, ps, hk b _ h1 h2, h2, h3, ⟨⟨h4.own.1, ?_⟩, h4.mine, fun p hp => (h4.bytes p hp).keep fun k hS hlt ⟨cs, fz, hc⟩ => (hk k _ hc hS).trans hc.symm⟩⟩
  rcases h4.own.2 with q | ⟨g, cap, cur, e, hb, hh, r⟩
  · exact .inl q
  · exact .inr ⟨g, cap, cur, e, hb, hk g _ hh (h4.mine g (by rw [e]; rfl)), r⟩
theorem RefIs.at0 {w w0 : World} {b : Nat} {D : Disk} {S : Nat → Prop} (h : RefIs w b D S) (hb : Below w.heap.size w w0) : RefIs w0 b D S :=
  h.frame fun k x hx _ => (hb.block k (Array.getElem?_eq_some_iff.1 hx).1).trans hx
theorem RefIs.below {w w' : World} {b : Nat} {D : Disk} {S : Nat → Prop} (h : RefIs w b D S) (hb : Below w.heap.size w w') : RefTo w w' b D S :=
  ⟨S, h.at0 hb, fun k hk => .inl hk, Fr.of_below hb⟩
theorem RefTo.before {w w0 w' : World} {b : Nat} {D : Disk} {S : Nat → Prop} (h : RefTo w0 w' b D S) (hb : Below w.heap.size w w0) : RefTo w w' b D S := by
  obtain ⟨S2, h1, h2, h3⟩ := h
  refine ⟨S2, h1, fun k hk => ?_, (Fr.of_below hb).trans h3 fun i hi => .inl hi⟩
  rcases h2 k hk with q | q
  · exact .inl q
  · exact .inr ⟨Nat.le_trans hb.size q.1, q.2⟩
theorem crashL_take (fs : List File) (l : List PlainDisk.Left) (n : Nat) (h : fs.length ≤ n) : PlainDisk.crashL fs (l.take n) = PlainDisk.crashL fs l := by
  induction fs generalizing l n with
  | nil => rfl
  | cons f r ih =>
    cases n with
    | zero => simp at h
    | succ n =>
      cases l with
      | nil => rfl
      | cons x l =>
        simp only [List.take_succ_cons, PlainDisk.crashL, List.headD_cons, List.tail_cons]
        rw [ih l n (by simpa using h)]
theorem crash_take (D : Disk) (l : List PlainDisk.Left) (n : Nat) (h : D.fs.length ≤ n) : PlainDisk.crash D (l.take n) = PlainDisk.crash D l := by
  unfold PlainDisk.crash
  rw [crashL_take _ _ _ h]

/-! ### a row of what a crash leaves, that the call has built -/
def leftC (x : PlainDisk.Left) : List Value := [.int .i64 x.keep, .bool x.zero]
def flatL : List PlainDisk.Left → List Value
  | [] => []
  | x :: r => leftC x ++ flatL r
theorem flatL_app (a b : List PlainDisk.Left) : flatL (a ++ b) = flatL a ++ flatL b := by
  induction a with
  | nil => rfl
  | cons p r ih => simp only [List.cons_append, flatL, ih, List.append_assoc]
theorem flatL_at {ls : List PlainDisk.Left} {i : Nat} {x : PlainDisk.Left} (h : ls[i]? = some x) : (flatL ls)[i * 2]? = some (.int .i64 x.keep) ∧ (flatL ls)[i * 2 + 1]? = some (.bool x.zero) := by
  induction ls generalizing i with
  | nil => simp at h
  | cons y r ih =>
    have e : flatL (y :: r) = leftC y ++ flatL r := rfl
    have l : (leftC y).length = 2 := rfl
    cases i with
    | zero =>
      have h : y = x := by simpa using h
      subst h
      exact ⟨rfl, rfl⟩
    | succ i =>
      obtain ⟨h1, h2⟩ := ih (i := i) (by simpa using h)
      rw [e, List.getElem?_append_right (by omega), List.getElem?_append_right (by omega), l, show (i + 1) * 2 - 2 = i * 2 by omega, show (i + 1) * 2 + 1 - 2 = i * 2 + 1 by omega]
      exact ⟨h1, h2⟩
def OwnL (w : World) (base : Nat) (v : Value) (ls : List PlainDisk.Left) : Prop := w.ownsRow base 68 2 v ls.length (flatL ls)
theorem OwnL.alloc {w : World} {base : Nat} {v : Value} {qs : List PlainDisk.Left} (h : OwnL w base v qs) (o : Obj) : OwnL (w.alloc o) base v qs := World.ownsRow.alloc h o
theorem OwnL.lt {w : World} {base : Nat} {v : Value} {qs : List PlainDisk.Left} (h : OwnL w base v qs) : ∀ k, v.ownBlock = some k → base ≤ k ∧ k < w.heap.size := World.ownsRow.lt h
theorem OwnL.lat {w : World} {base : Nat} {v : Value} {ls : List PlainDisk.Left} (h : OwnL w base v ls) (hl : ∀ x ∈ ls, -9223372036854775808 ≤ x.keep ∧ x.keep ≤ 9223372036854775807) : LAt w v ls (fun k => base ≤ k ∧ k < w.heap.size) := by
  rcases h.2 with ⟨e, hn⟩ | ⟨g, cap, cur, e, hb, hh, hc, hm, hs, ht⟩
  · have : ls = [] := List.eq_nil_of_length_eq_zero hn
    subst this
    exact ⟨none, 0, e, by simp, by omega, hl, fun q => absurd rfl q⟩
  · refine ⟨some ⟨g, 0, none⟩, cap, e, hc, by simpa [maxLen] using hm, hl, fun _ => ⟨g, 0, rfl, ⟨hb, (Array.getElem?_eq_some_iff.1 hh).1⟩, fun i x hx => ?_⟩⟩
    obtain ⟨f0, f1⟩ := flatL_at hx
    have key : ∀ j v, (flatL ls)[j]? = some v → w.cell? ⟨g, j, none⟩ = some v := by
      intro j v hv
      rw [Lib.cell_of_heap hh]
      rw [← ht, List.getElem?_take] at hv
      split at hv
      · rw [← Array.getElem?_toList]; exact hv
      · cases hv
    simp only [Nat.zero_add]
    exact ⟨key _ _ f0, key _ _ f1⟩
theorem info68 : (Try.prog.info? 68).map (fun i => (i.zero, i.size, i.bytes)) = some (some (.agg #[.int .i64 0, .bool false]), 2, 16) := by kernel_rfl
theorem build68 (x : Int) (z : Bool) (w : World) : (Instr.build 68 #[(0, .int .i64 x), (1, .bool z)]).run Try.prog w = .ok (.agg #[.int .i64 x, .bool z]) w := by kernel_rfl
theorem step_appL {ops : Array Oper} {o : Oper} {a : Act} {K : Act → World → Prop} {Q : Exit → Act → World → Prop} {E : Prop} {w : World} (hgd : o.guard = none) (s x : Operand)
    (ho : o.op = .call { callee := .builtin .append, args := #[s, x], argTypes := #[67, 67] })
    (base : Nat) (v : Value) (qs : List PlainDisk.Left) (hs : a.eval s = v) (hown : OwnL w base v qs) (k : Nat) (p : PlainDisk.Left) (hx : a.eval x = .slice (some ⟨k, 0, none⟩) 1 1)
    (hk : w.heap[k]? = some (.cells #[.int .i64 p.keep, .bool p.zero] 68 (0, 0)))
    (hlen : qs.length ≤ 1000) (hbase : base ≤ w.heap.size)
    (h : ∀ v' w', OwnL w' base v' (qs ++ [p]) → w.grownBy w' v.ownBlock → K (a.put o.dst v') w') :
    if Region.wanted o (yielded ops a.tmps) = true then Oper.wp Try.prog o a w K Q else E := by
  have hw : Region.wanted o (yielded ops a.tmps) = true := by simp [Region.wanted, hgd]
  rw [if_pos hw]
  obtain ⟨i, hi, hz, hz1, hz2⟩ := info_parts3 info68
  refine wp_append_own w s x 67 ho base 68 i _ 2 16 Try.underlying67 hi hz hz1 hz2 rfl (by omega) v qs.length (flatL qs) hs hown ⟨k, 0, none⟩ 1 1 (leftC p) hx rfl ?_ ?_ (by simp only [maxLen]; omega) (by omega) hbase ?_
  · intro j u hu
    unfold Addr.add
    have hc : w.cell? ⟨k, j, none⟩ = some u := by
      rw [Lib.cell_of_heap hk]
      rw [← hu]
      show (leftC p).toArray[j]? = _
      simp
    split
    · subst j; exact hc
    · simpa using hc
  · intro u hu
    simp only [leftC, List.mem_cons, List.not_mem_nil, or_false] at hu
    rcases hu with rfl | rfl <;> rfl
  · intro v' w' h2 h3 _
    refine h v' w' ?_ h3
    unfold OwnL
    rw [flatL_app, List.length_append]
    exact h2

set_option maxHeartbeats 2000000 in
set_option maxRecDepth 100000 in
theorem plain_k0 (b : Nat) (x : PlainDisk.Act) (vb vl : Value) (F : Nat → Prop) (D : Disk) (S : Nat → Prop) (w : World) (hd : RefIs w b D S) (hF : Fine D) (hx : Okay x) (hvb : Src w vb x.b b) (hvl : LAt w vl x.l F) (hFS : ∀ k, F k → k < w.heap.size ∧ ¬ S k) (hk : x.kind = 0) :
    Calls Try.prog 14 #[.pointer (some ⟨b, 0, none⟩), actV x vb vl] w fun e w' => e = .returned (.int .i64 (PlainDisk.step may D x).2) ∧ RefTo w w' b (PlainDisk.step may D x).1 S := by
  have hst : PlainDisk.step may D x = PlainDisk.append may D x.a x.b := by unfold PlainDisk.step; simp [hk]
  rw [hst]
  obtain ⟨x0, x1, x2, x3, x4, x5⟩ := hx
  obtain ⟨A1, c1, e1, _, _, _, _⟩ := id hvb
  obtain ⟨A2, c2, e2, _, _, _, _⟩ := id hvl
  have hbl : Below w.heap.size w (w.alloc (.cells #[.int .i64 x.kind, .string (str x.a), .string (str x.to), vb, .int .i64 x.n, vl] 31)) := (Below.refl _ _).alloc (Nat.le_refl _) _
  have HBL := Lib.hid hbl
  have HC := Lib.hid (refAppend_any b x.a x.b vb D S _ (hd.at0 hbl) hF x4 (hvb.keep (fun k hk _ => hbl.block k hk)))
  subst e1 e2
  unfold actV
  rw [hk] at *
  try dsimp only
  go_enter Try.func14, Try.ntmps14
  go_wp2_with fail
  refine HC.out.mono ?_
  rintro e w' ⟨rfl, hto⟩
  have HT := Lib.hid (hto.before HBL.out)
  clear hto
  go_wp2_with fail
  go_ret
  exact ⟨rfl, HT.out⟩

set_option maxHeartbeats 2000000 in
set_option maxRecDepth 100000 in
theorem plain_k1 (b : Nat) (x : PlainDisk.Act) (vb vl : Value) (F : Nat → Prop) (D : Disk) (S : Nat → Prop) (w : World) (hd : RefIs w b D S) (hF : Fine D) (hx : Okay x) (hvb : Src w vb x.b b) (hvl : LAt w vl x.l F) (hFS : ∀ k, F k → k < w.heap.size ∧ ¬ S k) (hk : x.kind = 1) :
    Calls Try.prog 14 #[.pointer (some ⟨b, 0, none⟩), actV x vb vl] w fun e w' => e = .returned (.int .i64 (PlainDisk.step may D x).2) ∧ RefTo w w' b (PlainDisk.step may D x).1 S := by
  have hst : PlainDisk.step may D x = PlainDisk.sync may D x.a := by unfold PlainDisk.step; simp [hk]
  rw [hst]
  obtain ⟨x0, x1, x2, x3, x4, x5⟩ := hx
  obtain ⟨A1, c1, e1, _, _, _, _⟩ := id hvb
  obtain ⟨A2, c2, e2, _, _, _, _⟩ := id hvl
  have hbl : Below w.heap.size w (w.alloc (.cells #[.int .i64 x.kind, .string (str x.a), .string (str x.to), vb, .int .i64 x.n, vl] 31)) := (Below.refl _ _).alloc (Nat.le_refl _) _
  have HBL := Lib.hid hbl
  have HC := Lib.hid (refSync_any b x.a D S _ (hd.at0 hbl) hF x4)
  subst e1 e2
  unfold actV
  rw [hk] at *
  try dsimp only
  go_enter Try.func14, Try.ntmps14
  go_wp2_with fail
  refine HC.out.mono ?_
  rintro e w' ⟨rfl, hto⟩
  have HT := Lib.hid (hto.before HBL.out)
  clear hto
  go_wp2_with fail
  go_ret
  exact ⟨rfl, HT.out⟩

set_option maxHeartbeats 2000000 in
set_option maxRecDepth 100000 in
theorem plain_k2 (b : Nat) (x : PlainDisk.Act) (vb vl : Value) (F : Nat → Prop) (D : Disk) (S : Nat → Prop) (w : World) (hd : RefIs w b D S) (hF : Fine D) (hx : Okay x) (hvb : Src w vb x.b b) (hvl : LAt w vl x.l F) (hFS : ∀ k, F k → k < w.heap.size ∧ ¬ S k) (hk : x.kind = 2) :
    Calls Try.prog 14 #[.pointer (some ⟨b, 0, none⟩), actV x vb vl] w fun e w' => e = .returned (.int .i64 (PlainDisk.step may D x).2) ∧ RefTo w w' b (PlainDisk.step may D x).1 S := by
  have hst : PlainDisk.step may D x = PlainDisk.cut may D x.a x.n := by unfold PlainDisk.step; simp [hk]
  rw [hst]
  obtain ⟨x0, x1, x2, x3, x4, x5⟩ := hx
  obtain ⟨A1, c1, e1, _, _, _, _⟩ := id hvb
  obtain ⟨A2, c2, e2, _, _, _, _⟩ := id hvl
  have hbl : Below w.heap.size w (w.alloc (.cells #[.int .i64 x.kind, .string (str x.a), .string (str x.to), vb, .int .i64 x.n, vl] 31)) := (Below.refl _ _).alloc (Nat.le_refl _) _
  have HBL := Lib.hid hbl
  have HC := Lib.hid (refCut_any b x.a x.n D S _ (hd.at0 hbl) hF x4 x2 x3)
  subst e1 e2
  unfold actV
  rw [hk] at *
  try dsimp only
  go_enter Try.func14, Try.ntmps14
  go_wp2_with fail
  refine HC.out.mono ?_
  rintro e w' ⟨rfl, hto⟩
  have HT := Lib.hid (hto.before HBL.out)
  clear hto
  go_wp2_with fail
  go_ret
  exact ⟨rfl, HT.out⟩

set_option maxHeartbeats 2000000 in
set_option maxRecDepth 100000 in
theorem plain_k3 (b : Nat) (x : PlainDisk.Act) (vb vl : Value) (F : Nat → Prop) (D : Disk) (S : Nat → Prop) (w : World) (hd : RefIs w b D S) (hF : Fine D) (hx : Okay x) (hvb : Src w vb x.b b) (hvl : LAt w vl x.l F) (hFS : ∀ k, F k → k < w.heap.size ∧ ¬ S k) (hk : x.kind = 3) :
    Calls Try.prog 14 #[.pointer (some ⟨b, 0, none⟩), actV x vb vl] w fun e w' => e = .returned (.int .i64 (PlainDisk.step may D x).2) ∧ RefTo w w' b (PlainDisk.step may D x).1 S := by
  have hst : PlainDisk.step may D x = PlainDisk.move may D x.a x.to := by unfold PlainDisk.step; simp [hk]
  rw [hst]
  obtain ⟨x0, x1, x2, x3, x4, x5⟩ := hx
  obtain ⟨A1, c1, e1, _, _, _, _⟩ := id hvb
  obtain ⟨A2, c2, e2, _, _, _, _⟩ := id hvl
  have hbl : Below w.heap.size w (w.alloc (.cells #[.int .i64 x.kind, .string (str x.a), .string (str x.to), vb, .int .i64 x.n, vl] 31)) := (Below.refl _ _).alloc (Nat.le_refl _) _
  have HBL := Lib.hid hbl
  have HC := Lib.hid (refMove_any b x.a x.to D S _ (hd.at0 hbl) hF x4 x5)
  subst e1 e2
  unfold actV
  rw [hk] at *
  try dsimp only
  go_enter Try.func14, Try.ntmps14
  go_wp2_with fail
  refine HC.out.mono ?_
  rintro e w' ⟨rfl, hto⟩
  have HT := Lib.hid (hto.before HBL.out)
  clear hto
  go_wp2_with fail
  go_ret
  exact ⟨rfl, HT.out⟩

set_option maxHeartbeats 2000000 in
set_option maxRecDepth 100000 in
theorem plain_k4 (b : Nat) (x : PlainDisk.Act) (vb vl : Value) (F : Nat → Prop) (D : Disk) (S : Nat → Prop) (w : World) (hd : RefIs w b D S) (hF : Fine D) (hx : Okay x) (hvb : Src w vb x.b b) (hvl : LAt w vl x.l F) (hFS : ∀ k, F k → k < w.heap.size ∧ ¬ S k) (hk : x.kind = 4) :
    Calls Try.prog 14 #[.pointer (some ⟨b, 0, none⟩), actV x vb vl] w fun e w' => e = .returned (.int .i64 (PlainDisk.step may D x).2) ∧ RefTo w w' b (PlainDisk.step may D x).1 S := by
  have hst : PlainDisk.step may D x = PlainDisk.dropA may D x.a := by unfold PlainDisk.step; simp [hk]
  rw [hst]
  obtain ⟨x0, x1, x2, x3, x4, x5⟩ := hx
  obtain ⟨A1, c1, e1, _, _, _, _⟩ := id hvb
  obtain ⟨A2, c2, e2, _, _, _, _⟩ := id hvl
  have hbl : Below w.heap.size w (w.alloc (.cells #[.int .i64 x.kind, .string (str x.a), .string (str x.to), vb, .int .i64 x.n, vl] 31)) := (Below.refl _ _).alloc (Nat.le_refl _) _
  have HBL := Lib.hid hbl
  have HC := Lib.hid (refDropA_any b x.a D S _ (hd.at0 hbl) hF x4)
  subst e1 e2
  unfold actV
  rw [hk] at *
  try dsimp only
  go_enter Try.func14, Try.ntmps14
  go_wp2_with fail
  refine HC.out.mono ?_
  rintro e w' ⟨rfl, hto⟩
  have HT := Lib.hid (hto.before HBL.out)
  clear hto
  go_wp2_with fail
  go_ret
  exact ⟨rfl, HT.out⟩

set_option maxHeartbeats 2000000 in
set_option maxRecDepth 100000 in
theorem plain_k5 (b : Nat) (x : PlainDisk.Act) (vb vl : Value) (F : Nat → Prop) (D : Disk) (S : Nat → Prop) (w : World) (hd : RefIs w b D S) (hF : Fine D) (hx : Okay x) (hvb : Src w vb x.b b) (hvl : LAt w vl x.l F) (hFS : ∀ k, F k → k < w.heap.size ∧ ¬ S k) (hk : x.kind = 5) :
    Calls Try.prog 14 #[.pointer (some ⟨b, 0, none⟩), actV x vb vl] w fun e w' => e = .returned (.int .i64 (PlainDisk.step may D x).2) ∧ RefTo w w' b (PlainDisk.step may D x).1 S := by
  have hst : PlainDisk.step may D x = (PlainDisk.arm D x.n, 0) := by unfold PlainDisk.step; simp [hk]
  rw [hst]
  obtain ⟨x0, x1, x2, x3, x4, x5⟩ := hx
  obtain ⟨A1, c1, e1, _, _, _, _⟩ := id hvb
  obtain ⟨A2, c2, e2, _, _, _, _⟩ := id hvl
  have hbl : Below w.heap.size w (w.alloc (.cells #[.int .i64 x.kind, .string (str x.a), .string (str x.to), vb, .int .i64 x.n, vl] 31)) := (Below.refl _ _).alloc (Nat.le_refl _) _
  have HBL := Lib.hid hbl
  have HC := Lib.hid (refArm_any b x.n D S _ (hd.at0 hbl) x2 x3)
  subst e1 e2
  unfold actV
  rw [hk] at *
  try dsimp only
  go_enter Try.func14, Try.ntmps14
  go_wp2_with fail
  refine HC.out.mono ?_
  rintro e w' ⟨rfl, hto⟩
  have HT := Lib.hid (hto.before HBL.out)
  clear hto
  go_wp2_with fail
  go_ret
  exact ⟨rfl, HT.out⟩

set_option maxHeartbeats 2000000 in
set_option maxRecDepth 100000 in
theorem plain_other (b : Nat) (x : PlainDisk.Act) (vb vl : Value) (F : Nat → Prop) (D : Disk) (S : Nat → Prop) (w : World) (hd : RefIs w b D S) (hF : Fine D) (hx : Okay x) (hvb : Src w vb x.b b) (hvl : LAt w vl x.l F) (hFS : ∀ k, F k → k < w.heap.size ∧ ¬ S k) (hk : x.kind < 0 ∨ 6 < x.kind) :
    Calls Try.prog 14 #[.pointer (some ⟨b, 0, none⟩), actV x vb vl] w fun e w' => e = .returned (.int .i64 (PlainDisk.step may D x).2) ∧ RefTo w w' b (PlainDisk.step may D x).1 S := by
  have hst : PlainDisk.step may D x = (D, 0) := by unfold PlainDisk.step; rw [if_neg (by omega), if_neg (by omega), if_neg (by omega), if_neg (by omega), if_neg (by omega), if_neg (by omega), if_neg (by omega)]
  rw [hst]
  obtain ⟨x0, x1, x2, x3, x4, x5⟩ := hx
  obtain ⟨A1, c1, e1, _, _, _, _⟩ := id hvb
  obtain ⟨A2, c2, e2, _, _, _, _⟩ := id hvl
  have hbl : Below w.heap.size w (w.alloc (.cells #[.int .i64 x.kind, .string (str x.a), .string (str x.to), vb, .int .i64 x.n, vl] 31)) := (Below.refl _ _).alloc (Nat.le_refl _) _
  have HBL := Lib.hid hbl
  have HT := Lib.hid (hd.below hbl)
  subst e1 e2
  unfold actV
  have q0 : (x.kind == 0) = false := beq_eq_false_iff_ne.2 (by omega)
  have q1 : (x.kind == 1) = false := beq_eq_false_iff_ne.2 (by omega)
  have q2 : (x.kind == 2) = false := beq_eq_false_iff_ne.2 (by omega)
  have q3 : (x.kind == 3) = false := beq_eq_false_iff_ne.2 (by omega)
  have q4 : (x.kind == 4) = false := beq_eq_false_iff_ne.2 (by omega)
  have q5 : (x.kind == 5) = false := beq_eq_false_iff_ne.2 (by omega)
  have q6 : (x.kind == 6) = false := beq_eq_false_iff_ne.2 (by omega)
  try dsimp only
  go_enter Try.func14, Try.ntmps14
  go_wp2_with fail
  go_ret
  exact ⟨rfl, HT.out⟩

set_option maxHeartbeats 4000000 in
set_option maxRecDepth 100000 in
theorem plain_k6 (b : Nat) (x : PlainDisk.Act) (vb vl : Value) (F : Nat → Prop) (D : Disk) (S : Nat → Prop) (w : World) (hd : RefIs w b D S) (hF : Fine D) (hx : Okay x) (hvb : Src w vb x.b b) (hvl : LAt w vl x.l F) (hFS : ∀ k, F k → k < w.heap.size ∧ ¬ S k) (hSS : ∀ k, S k → k < w.heap.size) (hk : x.kind = 6) :
    Calls Try.prog 14 #[.pointer (some ⟨b, 0, none⟩), actV x vb vl] w fun e w' => e = .returned (.int .i64 (PlainDisk.step may D x).2) ∧ RefTo w w' b (PlainDisk.step may D x).1 S := by
  have hst : PlainDisk.step may D x = (PlainDisk.crash D x.l, 0) := by unfold PlainDisk.step; simp [hk]
  rw [hst]
  obtain ⟨x0, x1, x2, x3, x4, x5⟩ := hx
  obtain ⟨A1, c1, e1, _, _, _, _⟩ := id hvb
  obtain ⟨A2, c2, e2, l1, l2, l3, l4⟩ := id hvl
  have hbl : Below w.heap.size w (w.alloc (.cells #[.int .i64 x.kind, .string (str x.a), .string (str x.to), vb, .int .i64 x.n, vl] 31)) := (Below.refl _ _).alloc (Nat.le_refl _) _
  have hbx := heap_alloc_new w (.cells #[.int .i64 x.kind, .string (str x.a), .string (str x.to), vb, .int .i64 x.n, vl] 31)
  have HM := Lib.hid hF.inv.many
  have HL3 := Lib.hid l3
  have HL4 := Lib.hid l4
  have HD := Lib.hid hd
  have HF := Lib.hid hF
  have HSS := Lib.hid hSS
  subst e1 e2
  unfold actV
  rw [hk] at *
  dsimp only
  obtain ⟨W0, hW0⟩ : ∃ W0, W0 = w.alloc (.cells #[.int .i64 6, .string (str x.a), .string (str x.to), .slice A1 x.b.length c1, .int .i64 x.n, .slice A2 x.l.length c2] 31) := ⟨_, rfl⟩
  rw [← hW0] at hbl hbx
  have HBL := Lib.hid hbl
  have HBX := Lib.hid hbx
  have HZ := Lib.hid (show W0.heap.size = w.heap.size + 1 by rw [hW0]; simp)
  have HW := Lib.hid hW0
  clear hbl hbx l3 l4 hd hF hvb hvl hFS hSS hW0 hst
  go_enter Try.func14, Try.ntmps14
  go_wp2_with fail
  rw [← HW.out]
  go_loopw [5, 6] (fun s5 s6 wq => ∃ (i : Nat) (v : Value), v = s5 ∧ s6 = .int .i64 (i : Nat) ∧ i ≤ 100 ∧ i ≤ x.l.length ∧ OwnL wq (w.heap.size + 1) v (x.l.take i) ∧ Below (w.heap.size + 1) W0 wq) (fun _ s6 _ => 100 - (numOf s6).toNat)
  case atStart =>
    refine ⟨0, _, rfl, rfl, by omega, by omega, ?_, (Below.refl _ _).alloc (Nat.le_of_eq HZ.out.symm) _⟩
    have q := own_mono (base' := w.heap.size + 1) (World.ownsRow_made W0 (base := W0.heap.size) (e := 68) (size := 2) #[] 0 (by simp) (by decide) rfl) (Nat.le_of_eq HZ.out.symm)
    rw [HZ.out] at q
    exact q
  case round =>
    obtain ⟨i, v, rfl, rfl, hi, hi2, ho, hb⟩ := hrel
    have HO := Lib.hid ho
    have HB := Lib.hid hb
    have hbn : Below w.heap.size w wr := HBL.out.trans (hb.mono (Nat.le_succ _))
    have HBN := Lib.hid hbn
    have hbox : wr.heap[w.heap.size]? = some (.cells #[.int .i64 6, .string (str x.a), .string (str x.to), .slice A1 x.b.length c1, .int .i64 x.n, .slice A2 x.l.length c2] 31 (0, 0)) := (hb.block _ (Nat.lt_succ_self _)).trans HBX.out
    have b5 : wr.cell? ⟨w.heap.size, 5, none⟩ = some (.slice A2 x.l.length c2) := by rw [Lib.cell_of_heap hbox]; rfl
    have hbsz : w.heap.size < wr.heap.size := (Array.getElem?_eq_some_iff.1 hbox).1
    clear ho hb hbn hbox
    by_cases hil : i < x.l.length ∧ i < 100
    · obtain ⟨hil, hil2⟩ := hil
      obtain ⟨y, hy⟩ : ∃ y, x.l[i]? = some y := ⟨_, List.getElem?_eq_getElem hil⟩
      obtain ⟨k, off, e1, _, e3⟩ := HL4.out (fun e => by rw [e] at hil; simp at hil)
      obtain ⟨e4, e5⟩ := e3 i y hy
      subst e1
      have hkl : k < w.heap.size := World.block_lt_of_cell? w _ e4
      have g0 : wr.cell? ⟨k, off + i * 2, none⟩ = some (.int .i64 y.keep) := (HBN.out.cell hkl).trans e4
      have g1 : wr.cell? ⟨k, off + i * 2 + 1, none⟩ = some (.bool y.zero) := (HBN.out.cell hkl).trans e5
      have hkl2 : k < wr.heap.size := by omega
      have hkk := HL3.out y (List.mem_of_getElem? hy)
      have hk0 := hkk.1
      have hk1 := hkk.2
      have HTK : Hid (x.l.take (i + 1) = x.l.take i ++ [y]) := Lib.hid (by rw [List.take_add_one, hy]; rfl)
      have O1 : Hid (OwnL (wr.alloc (.cells #[.int .i64 y.keep, .bool y.zero] 68)).drew (w.heap.size + 1) v (x.l.take i)) := Lib.hid (HO.out.alloc _)
      have K1 : Hid ((wr.alloc (.cells #[.int .i64 y.keep, .bool y.zero] 68)).drew.heap[wr.heap.size]? = some (.cells #[.int .i64 y.keep, .bool y.zero] 68 (0, 0))) := Lib.hid (heap_alloc_new wr _)
      have N1 : Hid ((x.l.take i).length ≤ 1000) := Lib.hid (by rw [List.length_take]; omega)
      have S1 : Hid (w.heap.size + 1 ≤ (wr.alloc (.cells #[.int .i64 y.keep, .bool y.zero] 68)).drew.heap.size) := Lib.hid (by show w.heap.size + 1 ≤ (wr.alloc _).heap.size; simp; omega)
      have B1 : Hid (Below (w.heap.size + 1) W0 (wr.alloc (.cells #[.int .i64 y.keep, .bool y.zero] 68)).drew) := Lib.hid (HB.out.alloc hbsz _).drew
      have BU := build68 y.keep y.zero
      clear hy e3 e4 e5 hkk HB
      go_upto_region 19 with fail
      go_region_law (first
        | ((refine step_appL (by rfl) (.tmp 65) (.tmp 79) (by rfl) (w.heap.size + 1) v _ (by rfl) O1.out wr.heap.size y (by rfl) K1.out N1.out S1.out ?_); intro v3 w3 hown3 hg3; (have hb3 : Below (w.heap.size + 1) W0 w3 := B1.out.grown hg3 S1.out (fun k hk => (O1.out.lt k hk).1)); (have O3 := Lib.hid hown3); (have B3 := Lib.hid hb3); (clear hown3 hb3 hg3)))
      all_goals
        go_wp2_with fail
        go_roundw
        case rel => exact ⟨i + 1, _, rfl, rfl, by omega, by omega, by rw [HTK.out]; exact O3.out, B3.out⟩
        case measure => simp [numOf]; omega
    · have htk : x.l.take i = x.l.take 100 := by
        by_cases h : i = 100
        · rw [h]
        · have hl : x.l.length = i := by omega
          rw [List.take_of_length_le (by omega), List.take_of_length_le (by omega)]
      have hlat := HO.out.lat (fun z hz => HL3.out z (List.mem_of_mem_take hz))
      rw [htk] at hlat
      have hcr := refCrash_any b (x.l.take 100) v _ D S wr (HD.out.at0 HBN.out) HF.out hlat (fun k hk => ⟨hk.2, fun q => by have := HSS.out k q; omega⟩)
      rw [crash_take D x.l 100 (by have := HM.out; omega)] at hcr
      have HCR := Lib.hid hcr
      have hil2 : (x.l.length : Int) ≤ (i : Int) ∨ ((i : Int) < (x.l.length : Int) ∧ (100 : Int) ≤ (i : Int)) := by omega
      clear hcr hlat htk hil
      rcases hil2 with h1 | ⟨h1, h2⟩
      all_goals
        go_wp2_with fail
        refine HCR.out.mono ?_
        rintro e w' ⟨rfl, hto⟩
        have HT := Lib.hid (hto.before HBN.out)
        clear hto
        go_wp2_with fail
        go_ret
        exact ⟨rfl, HT.out⟩
theorem plain_act (b : Nat) (x : PlainDisk.Act) (vb vl : Value) (F : Nat → Prop) (D : Disk) (S : Nat → Prop) (w : World) (hd : RefIs w b D S) (hF : Fine D) (hx : Okay x) (hvb : Src w vb x.b b) (hvl : LAt w vl x.l F) (hFS : ∀ k, F k → k < w.heap.size ∧ ¬ S k) (hSS : ∀ k, S k → k < w.heap.size) :
    Calls Try.prog 14 #[.pointer (some ⟨b, 0, none⟩), actV x vb vl] w fun e w' => e = .returned (.int .i64 (PlainDisk.step may D x).2) ∧ RefTo w w' b (PlainDisk.step may D x).1 S := by
  by_cases h : x.kind < 0 ∨ 6 < x.kind
  · exact plain_other b x vb vl F D S w hd hF hx hvb hvl hFS h
  have : x.kind = 0 ∨ x.kind = 1 ∨ x.kind = 2 ∨ x.kind = 3 ∨ x.kind = 4 ∨ x.kind = 5 ∨ x.kind = 6 := by omega
  rcases this with q | q | q | q | q | q | q
  · exact plain_k0 b x vb vl F D S w hd hF hx hvb hvl hFS q
  · exact plain_k1 b x vb vl F D S w hd hF hx hvb hvl hFS q
  · exact plain_k2 b x vb vl F D S w hd hF hx hvb hvl hFS q
  · exact plain_k3 b x vb vl F D S w hd hF hx hvb hvl hFS q
  · exact plain_k4 b x vb vl F D S w hd hF hx hvb hvl hFS q
  · exact plain_k5 b x vb vl F D S w hd hF hx hvb hvl hFS q
  · exact plain_k6 b x vb vl F D S w hd hF hx hvb hvl hFS hSS q
end Go.Proofs.Ytggndipfholllaa
