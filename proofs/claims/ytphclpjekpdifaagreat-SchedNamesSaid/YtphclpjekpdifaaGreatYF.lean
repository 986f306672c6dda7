import Derived.Test.YtphclpjekpdifaaGreatYB
import Derived.Test.YtphclpjekpdifaaGreatYC
import Derived.Test.YtphclpjekpdifaaGreatYE
import Derived.LoopN
import Derived.Deep.RegionHeld3
import Derived.StillTailTactics
import Derived.RegionTactic
import Derived.Below
namespace Go.Proofs.YtphclpjekpdifaaGreat.Wi
open Go.RowKit Pl
set_option maxRecDepth 20000
set_option linter.unusedVariables false
set_option maxRecDepth 20000
def cV (o : Int) (s t : ByteArray) (a b c n : Int) : Value := .agg #[.int .i64 o, .string s, .string t, .int .i64 a, .int .i64 b, .int .i64 c, .int .i64 n]
def rV (o : Int) (s : ByteArray) (a b c n : Int) : Value := .agg #[.int .i64 o, .string s, .int .i64 a, .int .i64 b, .int .i64 c, .int .i64 n]
def eqV (a b c x y z : Int) : Bool := a == x && (b == y && c == z)
theorem eqV_iff {a b c x y z : Int} : eqV a b c x y z = true ↔ a = x ∧ b = y ∧ c = z := by simp [eqV]
theorem eq23 (d : Nat) (a b c x y z : Int) (w : World) : (Op.equalIn (d + 2) 28 (.agg #[.int .i64 a, .int .i64 b, .int .i64 c]) (.agg #[.int .i64 x, .int .i64 y, .int .i64 z])).run Tryz.prog w = .ok (eqV a b c x y z) w := by
  have u3 := Tryz.underlying2
  have a3 := Tryz.isAgg2
  have z3 := Tryz.sizeOf2
  rw [Op.equalIn]
  simp only [Sem.run_bind, run_underlying Tryz.underlying28, Result.andThen_ok]
  simp only [Std.Legacy.Range.forIn_eq_forIn_range', Std.Legacy.Range.size, Nat.sub_zero, Nat.add_sub_cancel, Nat.div_one, List.range'_succ, List.range'_zero, List.forIn_cons, List.forIn_nil]
  unfold eqV
  go_simp
  by_cases h1 : a = x <;> by_cases h2 : b = y <;> by_cases h3 : c = z <;> simp [h1, h2, h3]
def eqC (o : Int) (s t : ByteArray) (a b c n : Int) (o' : Int) (s' t' : ByteArray) (a' b' c' n' : Int) : Bool := o == o' && (s == s' && (t == t' && (eqV a b c a' b' c' && n == n')))
theorem beq_str (x y : ByteArray) : (x.toList == y.toList) = (x == y) := (beq_toListBytes x y).symm
theorem toList_iff (x y : ByteArray) : x.toList = y.toList ↔ x = y := by
  have h := beq_str x y
  have h2 : (x == y) = true ↔ x = y := by
    obtain ⟨⟨x⟩⟩ := x
    obtain ⟨⟨y⟩⟩ := y
    show ((⟨x⟩ : Array UInt8) == ⟨y⟩) = true ↔ _
    simp
  rw [← h2, ← h, beq_iff_eq]
theorem eq25 (o : Int) (s t : ByteArray) (a b c n : Int) (o' : Int) (s' t' : ByteArray) (a' b' c' n' : Int) (w : World) : (Op.equalIn 10000 33 (cV o s t a b c n) (cV o' s' t' a' b' c' n')).run Tryz.prog w = .ok (eqC o s t a b c n o' s' t' a' b' c' n') w := by
  have u2 := Tryz.underlying2
  have a2 := Tryz.isAgg2
  have z2 := Tryz.sizeOf2
  have u3 := Tryz.underlying3
  have a3 := Tryz.isAgg3
  have z3 := Tryz.sizeOf3
  have u9 := Tryz.underlying9
  have a9 := Tryz.isAgg9
  have z9 := Tryz.sizeOf9
  have a23 := Tryz.isAgg28
  have z23 := Tryz.sizeOf28
  have e23 := eq23 9997 a b c a' b' c' w
  have hu : Tryz.prog.underlying 33 = some (.struct (Tryz.prog.fieldsOf 33)) := by kernel_rfl
  rw [show (10000 : Nat) = 9999 + 1 from rfl, cV, cV, run_equalIn_struct w 9999 33 _ _ hu (by kernel_rfl)]
  simp only [Program.fieldsOf, Tryz.underlying33]
  unfold eqC
  generalize eqV a b c a' b' c' = E at *
  go_simp
  have hb := beq_str s s'
  have hc := beq_str t t'
  rw [← hb, ← hc]
  clear hb hc e23 hu
  generalize s.toList = S at *
  generalize t.toList = T at *
  by_cases h1 : o = o' <;> by_cases h2 : S = s'.toList <;> by_cases h3 : T = t'.toList <;> cases E <;> by_cases h4 : n = n' <;> simp [h1, h2, h3, h4]
def eqR (o : Int) (s : ByteArray) (a b c n : Int) (o' : Int) (s' : ByteArray) (a' b' c' n' : Int) : Bool := o == o' && (s == s' && (eqV a b c a' b' c' && n == n'))
theorem eqR_iff {o : Int} {s : ByteArray} {a b c n : Int} {o' : Int} {s' : ByteArray} {a' b' c' n' : Int} : eqR o s a b c n o' s' a' b' c' n' = true ↔ o = o' ∧ s = s' ∧ (a = a' ∧ b = b' ∧ c = c') ∧ n = n' := by
  have hs : ∀ x y : ByteArray, (x == y) = true ↔ x = y := fun x y => by
    obtain ⟨⟨x⟩⟩ := x
    obtain ⟨⟨y⟩⟩ := y
    show ((⟨x⟩ : Array UInt8) == ⟨y⟩) = true ↔ _
    simp
  simp [eqR, eqV, hs]
theorem eq34 (o : Int) (s : ByteArray) (a b c n : Int) (o' : Int) (s' : ByteArray) (a' b' c' n' : Int) (w : World) : (Op.equalIn 10000 30 (rV o s a b c n) (rV o' s' a' b' c' n')).run Tryz.prog w = .ok (eqR o s a b c n o' s' a' b' c' n') w := by
  have u2 := Tryz.underlying2
  have a2 := Tryz.isAgg2
  have z2 := Tryz.sizeOf2
  have u3 := Tryz.underlying26
  have a3 := Tryz.isAgg26
  have z3 := Tryz.sizeOf26
  have u9 := Tryz.underlying9
  have a9 := Tryz.isAgg9
  have z9 := Tryz.sizeOf9
  have a23 := Tryz.isAgg28
  have z23 := Tryz.sizeOf28
  have e23 := eq23 9997 a b c a' b' c' w
  have hu : Tryz.prog.underlying 30 = some (.struct (Tryz.prog.fieldsOf 30)) := by kernel_rfl
  rw [show (10000 : Nat) = 9999 + 1 from rfl, rV, rV, run_equalIn_struct w 9999 30 _ _ hu (by kernel_rfl)]
  simp only [Program.fieldsOf, Tryz.underlying30]
  unfold eqR
  generalize eqV a b c a' b' c' = E at *
  go_simp
  have hb := beq_str s s'
  rw [← hb]
  clear hb e23 hu
  generalize s.toList = S at *
  by_cases h1 : o = o' <;> by_cases h2 : S = s'.toList <;> cases E <;> by_cases h4 : n = n' <;> simp [h1, h2, h4]
theorem cnum_any (n : Int) (w : World) : Calls Tryz.prog 52 #[.int .i64 n] w (RetBelow (.agg #[.int .i64 1, .int .i64 n, .string ⟨#[]⟩, .slice none 0 0]) w) := by
  go_enter Tryz.func52, Tryz.ntmps52
  go_wp2_with fail
  refine bodyPost_ret (v := .agg #[.int .i64 1, .int .i64 n, .string ⟨#[]⟩, .slice none 0 0]) (by simp [results, Tryz.results52, go_sem]) rfl ⟨rfl, ?_⟩
  exact (Below.refl _ _).alloc (Nat.le_refl _) _
theorem ctxt_any (s : ByteArray) (w : World) : Calls Tryz.prog 54 #[.string s] w (RetBelow (.agg #[.int .i64 2, .int .i64 0, .string s, .slice none 0 0]) w) := by
  go_enter Tryz.func54, Tryz.ntmps54
  go_wp2_with fail
  refine bodyPost_ret (v := .agg #[.int .i64 2, .int .i64 0, .string s, .slice none 0 0]) (by simp [results, Tryz.results54, go_sem]) rfl ⟨rfl, ?_⟩
  exact (Below.refl _ _).alloc (Nat.le_refl _) _
theorem clist_any (a : Option Addr) (m c : Nat) (w : World) : Calls Tryz.prog 53 #[.slice a m c] w (RetBelow (.agg #[.int .i64 3, .int .i64 0, .string ⟨#[]⟩, .slice a m c]) w) := by
  go_enter Tryz.func53, Tryz.ntmps53
  go_wp2_with fail
  refine bodyPost_ret (v := .agg #[.int .i64 3, .int .i64 0, .string ⟨#[]⟩, .slice a m c]) (by simp [results, Tryz.results53, go_sem]) rfl ⟨rfl, ?_⟩
  exact (Below.refl _ _).alloc (Nat.le_refl _) _
def nIt (n : Int) : It := .mk 1 n ⟨#[]⟩ []
def sIt (s : ByteArray) : It := .mk 2 0 s []
def vIt (a b c : Int) : It := .mk 3 0 ⟨#[]⟩ [nIt a, nIt b, nIt c]
theorem rounds_forget {P : Program} {c : Code} {Q : Exit → Act → World → Prop} {n : Nat} {a : Act} {W : World} (p : World → Prop) (h : p W) (k : ∀ W', p W' → Code.rounds P c Q n a W') : Code.rounds P c Q n a W := k W h
def ItPost (t : It) (w : World) (e : Ending) (w' : World) : Prop := ∃ v, e = .returned v ∧ Below w.heap.size w w' ∧ IsIt w' (NewB w w') t v
def AmSt (w : World) (ts : List It) (v : Value) (wr : World) : Prop :=
  ∃ xs, wr.ownsRow (w.heap.size + 2) 111 4 v ts.length xs ∧ ItsIn wr (fun _ => False) ts xs ∧ Below w.heap.size w wr ∧ w.heap.size + 2 ≤ wr.heap.size
theorem amSt_snoc {w wr w2 w3 : World} {ts : List It} {v v' : Value} {n : Int} {o : Obj} (hn : InR n) {xs : List Value} (hI : ItsIn wr (fun _ => False) ts xs) (hb : Below w.heap.size w wr) (hs : w.heap.size + 2 ≤ wr.heap.size)
    (h2 : Below wr.heap.size wr w2) (hown : w3.ownsRow (w.heap.size + 2) 111 4 v' (ts.length + 1) (xs ++ [.int .i64 1, .int .i64 n, .string ⟨#[]⟩, .slice none 0 0]))
    (hov : ∀ q, v.ownBlock = some q → w.heap.size + 2 ≤ q ∧ q < wr.heap.size) (hg : (w2.alloc o).grownBy w3 v.ownBlock) (hv : v'.ownBlock = v.ownBlock ∨ v'.ownBlock = some (w2.alloc o).heap.size) : AmSt w (ts ++ [nIt n]) v' w3 := by
  have hs2 := h2.size
  have hsA : (w2.alloc o).heap.size = w2.heap.size + 1 := by simp
  have hs3 := hg.size
  have hA : Below wr.heap.size wr (w2.alloc o) := h2.alloc hs2 _
  refine ⟨xs ++ [.int .i64 1, .int .i64 n, .string ⟨#[]⟩, .slice none 0 0], by simpa using hown, ItsIn.snoc ?_ (ItsIn.keep ?_ ?_ hI), ?_, by omega⟩
  · exact ⟨none, 0, rfl, ⟨by omega, by omega⟩, hn, by simp [zero_size], by simp, trivial⟩
  · intro q hq; exact hq.elim
  · intro q hq; exact hq.elim
  · exact Below.grown (hb.trans (hA.mono (by omega))) hg (by omega) fun q hq => by have := hov q hq; omega
theorem own_lt {w : World} {B e z n : Nat} {v : Value} {xs : List Value} (h : w.ownsRow B e z v n xs) : ∀ q, v.ownBlock = some q → B ≤ q ∧ q < w.heap.size := fun q hq => by
  have := h.lt q hq
  exact ⟨this.1, this.2⟩
def w4 (w : World) (R : Nat) (a b c d : Value) : World := (((w.setCell ⟨R, 0, none⟩ a).setCell ⟨R, 1, none⟩ b).setCell ⟨R, 2, none⟩ c).setCell ⟨R, 3, none⟩ d
theorem w4_row (w : World) (R : Nat) (a b c d z0 z1 z2 z3 : Value) (t : TypeId) (h : w.heap[R]? = some (.cells #[z0, z1, z2, z3] t (0, 0))) : (w4 w R a b c d).heap[R]? = some (.cells #[a, b, c, d] t (0, 0)) :=
  heap_set _ R 3 _ _ _ (heap_set _ R 2 _ _ _ (heap_set _ R 1 _ _ _ (heap_set w R 0 a _ _ h)))
theorem w4_far (w : World) (R : Nat) (a b c d : Value) (q : Nat) (h : q ≠ R) : (w4 w R a b c d).heap[q]? = w.heap[q]? :=
  (Below.heap_setCell _ _ _ q h).trans ((Below.heap_setCell _ _ _ q h).trans ((Below.heap_setCell _ _ _ q h).trans (Below.heap_setCell _ _ _ q h)))
theorem w4_size (w : World) (R : Nat) (a b c d : Value) : (w4 w R a b c d).heap.size = w.heap.size := by simp [w4, World.setCell]
theorem w4_below (w : World) (B R : Nat) (a b c d : Value) (h : B ≤ R) : Below B w (w4 w R a b c d) :=
  (((((Below.refl B w).setCell (p := ⟨R, 0, none⟩) h a).setCell (p := ⟨R, 1, none⟩) h b).setCell (p := ⟨R, 2, none⟩) h c).setCell (p := ⟨R, 3, none⟩) h d)
theorem keepR {w wr w2 w3 : World} {o o' : Obj} {v : Value} (hs : w.heap.size + 2 ≤ wr.heap.size) (h2 : Below wr.heap.size wr w2) (hr : wr.heap[w.heap.size + 1]? = some o') (hg : (w2.alloc o).grownBy w3 v.ownBlock)
    (hov : ∀ q, v.ownBlock = some q → w.heap.size + 2 ≤ q ∧ q < wr.heap.size) : w3.heap[w.heap.size + 1]? = some o' := by
  have hs2 := h2.size
  have hsA : (w2.alloc o).heap.size = w2.heap.size + 1 := by simp
  refine (hg.block _ (by omega) (fun e => ?_)).trans ((Below.heap_alloc _ _ _ (by omega)).trans ((h2.block _ (by omega)).trans hr))
  have := hov _ e.symm
  omega
theorem amounts_any (a b c : Int) (w : World) (ha : InR a) (hb : InR b) (hc : InR c) : Calls Tryz.prog 55 #[.agg #[.int .i64 a, .int .i64 b, .int .i64 c]] w (ItPost (vIt a b c) w) := by
  have x0 : ∀ w : World, (Instr.index 28 (.agg #[.int .i64 a, .int .i64 b, .int .i64 c]) (.int .i64 0)).run Tryz.prog w = .ok (.int .i64 a) w := fun _ => by kernel_rfl
  have x1 : ∀ w : World, (Instr.index 28 (.agg #[.int .i64 a, .int .i64 b, .int .i64 c]) (.int .i64 1)).run Tryz.prog w = .ok (.int .i64 b) w := fun _ => by kernel_rfl
  have x2 : ∀ w : World, (Instr.index 28 (.agg #[.int .i64 a, .int .i64 b, .int .i64 c]) (.int .i64 2)).run Tryz.prog w = .ok (.int .i64 c) w := fun _ => by kernel_rfl
  have Ha := Lib.hid ha
  have Hb := Lib.hid hb
  have Hc := Lib.hid hc
  clear ha hb hc
  go_enter Tryz.func55, Tryz.ntmps55
  go_wp2_with fail
  refine wp_loop_rounds 4 ?_
  refine rounds_forget (fun W => AmSt w [] (.slice none 0 0) W ∧ W.heap[w.heap.size + 1]? = some (.cells zeroItem 111 (0, 0))) ⟨⟨[], World.ownsRow_nil _ _ _ _, rfl, ?_, ?_⟩, ?_⟩ ?_
  · exact ((Below.refl _ _).alloc (Nat.le_refl _) _).alloc (by simp) _
  · simp
  · rw [show w.heap.size + 1 = (w.alloc (.cells #[.int .i64 a, .int .i64 b, .int .i64 c] 28)).heap.size from by simp]; exact heap_alloc_new _ _
  rintro W0 ⟨⟨xs0, o0, I0, B0, s0⟩, r0⟩
  rw [rounds_succ]
  go_wp2_with (first
    | (go_at_call 52; (refine (cnum_any _ _).mono ?_); rintro e w1 ⟨rfl, hb1⟩; have hz1 := hb1.size)
    | (at_builtin; (refine wp_app4 rfl (.tmp 10) (.tmp 13) rfl (w.heap.size + 2) (.slice none 0 0) 0 xs0 rfl (ownsRow_keep o0 fun q hq => (Below.heap_alloc _ _ q (Nat.lt_of_lt_of_le (own_lt o0 q hq).2 hb1.size)).trans (hb1.block q (own_lt o0 q hq).2)) ⟨w1.heap.size, 0, none⟩ 1 rfl (.int .i64 1) (.int .i64 a) (.string ⟨#[]⟩) (.slice none 0 0) (by go_simp) (by go_simp) (by go_simp) (by go_simp) rfl rfl rfl rfl (by omega) (by have := hb1.size; simp; omega) ?_); (intro v1 w3 p1 p2 p3); (have A1 := amSt_snoc (ts := []) Ha.out I0 B0 s0 hb1 p1 (fun q hq => own_lt o0 q hq) p2 p3); (have R1 := keepR s0 hb1 r0 p2 (fun q hq => own_lt o0 q hq)); (have A1 := Lib.hid A1); (have R1 := Lib.hid R1); clear p1 p2 p3 hb1))
  refine rounds_forget (fun W => AmSt w [nIt a] v1 W ∧ W.heap[w.heap.size + 1]? = some (.cells zeroItem 111 (0, 0))) ⟨A1.out, R1.out⟩ ?_
  rintro W1 ⟨⟨xs1, o1, I1, B1, s1⟩, r1⟩
  rw [rounds_succ]
  go_wp2_with (first
    | (go_at_call 52; (refine (cnum_any _ _).mono ?_); rintro e w1 ⟨rfl, hb1⟩; have hz1 := hb1.size)
    | (at_builtin; (refine wp_app4 rfl (.tmp 10) (.tmp 13) rfl (w.heap.size + 2) v1 1 xs1 rfl (ownsRow_keep o1 fun q hq => (Below.heap_alloc _ _ q (Nat.lt_of_lt_of_le (own_lt o1 q hq).2 hb1.size)).trans (hb1.block q (own_lt o1 q hq).2)) ⟨w1.heap.size, 0, none⟩ 1 rfl (.int .i64 1) (.int .i64 b) (.string ⟨#[]⟩) (.slice none 0 0) (by go_simp) (by go_simp) (by go_simp) (by go_simp) rfl rfl rfl rfl (by omega) (by have := hb1.size; simp; omega) ?_); (intro v2 w3 p1 p2 p3); (have A2 := amSt_snoc (ts := [nIt a]) Hb.out I1 B1 s1 hb1 p1 (fun q hq => own_lt o1 q hq) p2 p3); (have R2 := keepR s1 hb1 r1 p2 (fun q hq => own_lt o1 q hq)); (have A2 := Lib.hid A2); (have R2 := Lib.hid R2); clear p1 p2 p3 hb1))
  refine rounds_forget (fun W => AmSt w [nIt a, nIt b] v2 W ∧ W.heap[w.heap.size + 1]? = some (.cells zeroItem 111 (0, 0))) ⟨A2.out, R2.out⟩ ?_
  rintro W2 ⟨⟨xs2, o2, I2, B2, s2⟩, r2⟩
  rw [rounds_succ]
  go_wp2_with (first
    | (go_at_call 52; (refine (cnum_any _ _).mono ?_); rintro e w1 ⟨rfl, hb1⟩; have hz1 := hb1.size)
    | (at_builtin; (refine wp_app4 rfl (.tmp 10) (.tmp 13) rfl (w.heap.size + 2) v2 2 xs2 rfl (ownsRow_keep o2 fun q hq => (Below.heap_alloc _ _ q (Nat.lt_of_lt_of_le (own_lt o2 q hq).2 hb1.size)).trans (hb1.block q (own_lt o2 q hq).2)) ⟨w1.heap.size, 0, none⟩ 1 rfl (.int .i64 1) (.int .i64 c) (.string ⟨#[]⟩) (.slice none 0 0) (by go_simp) (by go_simp) (by go_simp) (by go_simp) rfl rfl rfl rfl (by omega) (by have := hb1.size; simp; omega) ?_); (intro v3 w3 p1 p2 p3); (have A3 := amSt_snoc (ts := [nIt a, nIt b]) Hc.out I2 B2 s2 hb1 p1 (fun q hq => own_lt o2 q hq) p2 p3); (have R3 := keepR s2 hb1 r2 p2 (fun q hq => own_lt o2 q hq)); (have A3 := Lib.hid A3); (have R3 := Lib.hid R3); clear p1 p2 p3 hb1))
  refine rounds_forget (fun W => AmSt w [nIt a, nIt b, nIt c] v3 W ∧ W.heap[w.heap.size + 1]? = some (.cells zeroItem 111 (0, 0))) ⟨A3.out, R3.out⟩ ?_
  rintro W3 ⟨⟨xs3, o3, I3, B3, s3⟩, r3⟩
  rw [rounds_succ]
  have H3 := Lib.hid o3
  have HI := Lib.hid I3
  have HB := Lib.hid B3
  have f3 := fun q hq => own_lt o3 q hq
  have F3 := Lib.hid f3
  rcases o3.2 with ⟨_, hn⟩ | ⟨g, cap, cur, rfl, ug, uh, uc, um, _⟩
  · simp at hn
  have hlen : ([nIt a, nIt b, nIt c] : List It).length = 3 := rfl
  rw [hlen] at H3
  clear I3 B3 f3 o3 ug uh um
  obtain ⟨q0, q1, q2, q3, _⟩ := row4 r3
  go_wp2_with (go_at_call 53; (refine (clist_any _ _ _ _).mono ?_); rintro e w4 ⟨rfl, hb4⟩; have hz4 := hb4.size; have r4 := (hb4.block _ (by omega)).trans r3; obtain ⟨j0, j1, j2, j3, k0, k1, k2, k3⟩ := row4 r4; have R4 := Lib.hid r4; have B4 := Lib.hid hb4; clear r4 hb4 r3 q0 q1 q2 q3)
  have W4 := w4_row w4 (w.heap.size + 1) (.int .i64 3) (.int .i64 0) (.string ⟨#[]⟩) (.slice (some ⟨g, 0, none⟩) 3 cap) _ _ _ _ 111 R4.out
  have WF := w4_far w4 (w.heap.size + 1) (.int .i64 3) (.int .i64 0) (.string ⟨#[]⟩) (.slice (some ⟨g, 0, none⟩) 3 cap)
  have WS := w4_size w4 (w.heap.size + 1) (.int .i64 3) (.int .i64 0) (.string ⟨#[]⟩) (.slice (some ⟨g, 0, none⟩) 3 cap)
  have WB := w4_below w4 w.heap.size (w.heap.size + 1) (.int .i64 3) (.int .i64 0) (.string ⟨#[]⟩) (.slice (some ⟨g, 0, none⟩) 3 cap) (by omega)
  change bodyPost Tryz.prog Tryz.f55 (ItPost (vIt a b c) w) Exit.ret _ (Go.Proofs.YtphclpjekpdifaaGreat.Wi.w4 w4 (w.heap.size + 1) (.int .i64 3) (.int .i64 0) (.string ⟨#[]⟩) (.slice (some ⟨g, 0, none⟩) 3 cap))
  generalize Go.Proofs.YtphclpjekpdifaaGreat.Wi.w4 w4 (w.heap.size + 1) (.int .i64 3) (.int .i64 0) (.string ⟨#[]⟩) (.slice (some ⟨g, 0, none⟩) 3 cap) = W at *
  obtain ⟨m0, m1, m2, m3, _⟩ := row4 W4
  have HBW : Below w.heap.size w W := (HB.out.trans (B4.out.mono (by omega))).trans WB
  have hsW := HBW.size
  have hg := F3.out g rfl
  refine bodyPost_ret (v := .agg #[.int .i64 3, .int .i64 0, .string ⟨#[]⟩, .slice (some ⟨g, 0, none⟩) 3 cap]) (by simp [results, Tryz.results55, go_sem, m0, m1, m2, m3]) rfl ⟨_, rfl, HBW, ?_⟩
  refine ⟨some ⟨g, 0, none⟩, cap, rfl, ⟨by omega, by omega⟩, ⟨by omega, by omega⟩, by simp [zero_size], by simp [maxLen], ?_⟩
  have keepg : ∀ q, q < W3.heap.size → q ≠ w.heap.size + 1 → W.heap[q]? = W3.heap[q]? := fun q hq hne => (WF q hne).trans (B4.out.block q hq)
  refine ItsIn.are (b := g) (w := W) ⟨by omega, by omega⟩ (ItsIn.keep (w := W3) (S := fun _ => False) (fun q hq => hq.elim) (fun q hq => hq.elim) HI.out) ?_
  intro j u hu
  have := H3.out.cells (g := g) rfl j u hu
  rw [show ((⟨g, 0, none⟩ : Addr).add j) = ⟨g, j, none⟩ from by unfold Addr.add; split <;> simp_all] at this
  rw [Nat.zero_mul, Nat.zero_add, ← this]
  exact World.cell?_of_block (w := W3) (keepg g (by omega) (by omega))
theorem isIt_nIt (w : World) (S : Nat → Prop) (n : Int) (h : InR n) : IsIt w S (nIt n) (.agg #[.int .i64 1, .int .i64 n, .string ⟨#[]⟩, .slice none 0 0]) := isIt_num w S 1 n ⟨by omega, by omega⟩ h
theorem isIt_sIt (w : World) (S : Nat → Prop) (s : ByteArray) (h : s.size ≤ maxLen) : IsIt w S (sIt s) (.agg #[.int .i64 2, .int .i64 0, .string s, .slice none 0 0]) := isIt_str w S s h
theorem isIt_row (w : World) (S : Nat → Prop) (ts : List It) (A : Option Addr) (c : Nat) (hl : ts.length ≤ maxLen) (h : AreIts w S ts A 0) : IsIt w S (.mk 3 0 ⟨#[]⟩ ts) (.agg #[.int .i64 3, .int .i64 0, .string ⟨#[]⟩, .slice A ts.length c]) := by
  rw [IsIt]
  exact ⟨A, c, rfl, ⟨by omega, by omega⟩, ⟨by omega, by omega⟩, by simp [zero_size], hl, h⟩
end Go.Proofs.YtphclpjekpdifaaGreat.Wi
namespace Go.Proofs.YtphclpjekpdifaaGreat.Wi
open Go.RowKit Pl
set_option maxRecDepth 20000
set_option linter.unusedVariables false
theorem wd_le : ∀ (n : Nat) (l : List UInt8), l.length ≤ n → Nm.Pl.wd (Nm.Pl.runes l) ≤ 4 * (Nm.Pl.runes l).length := by
  intro n
  induction n with
  | zero => intro l h; obtain rfl := List.eq_nil_of_length_eq_zero (Nat.le_zero.1 h); simp [Nm.Pl.runes_nil, Nm.Pl.wd]
  | succ n ih =>
    intro l h
    by_cases hl : l = []
    · subst hl; simp [Nm.Pl.runes_nil, Nm.Pl.wd]
    · obtain ⟨h1, h2, h3, _⟩ := Nm.Pl.rune_bd l hl
      rw [Nm.Pl.runes_cons hl]
      have := ih (l.drop (Nm.Pl.rune l).2.1) (by rw [List.length_drop]; omega)
      simp only [Nm.Pl.wd, List.length_cons]
      omega
theorem may_len {l : List UInt8} (h : Nm.may l = true) : l.length ≤ 96 := by
  rw [Nm.may_iff] at h
  have := wd_le l.length l (Nat.le_refl _)
  rw [Nm.Pl.wd_all] at this
  omega
theorem errOf_of {t : It} (h1 : t.cnt ≤ 4096) (h2 : t.dep ≤ 12) (h3 : t.long = false) (h4 : t.good = true) : errOf t = 0 := by
  have : fits t 0 1 = true := by unfold fits; rw [h3]; simp; omega
  unfold errOf
  rw [if_pos this, if_pos h4]
theorem enc_small {t : It} (h : errOf t = 0) : t.enc.length ≤ 17203200 := by
  obtain ⟨h1, h2⟩ := errOf_zero h
  unfold fits at h1
  simp at h1
  have := enc_le t h2 h1.2
  omega
end Go.Proofs.YtphclpjekpdifaaGreat.Wi
namespace Go.Proofs.YtphclpjekpdifaaGreat.Wi
open Go.RowKit Pl
set_option maxRecDepth 20000
set_option linter.unusedVariables false
set_option maxRecDepth 20000
def txt (t : It) : ByteArray := if errOf t = 0 then Nm.str t.enc else ⟨#[]⟩
def TxtPost (t : It) (w : World) (e : Ending) (w' : World) : Prop := e = .returned (.tuple #[.string (txt t), .int .i64 (errOf t)]) ∧ Below w.heap.size w w'
theorem encoding_any (ts : List It) (A : Option Addr) (c n : Nat) (w : World) (hn : ts.length = n) (hl : ts.length ≤ maxLen) (h : AreIts w (· < w.heap.size) ts A 0) :
    Calls Tryz.prog 56 #[.slice A n c] w (TxtPost (.mk 3 0 ⟨#[]⟩ ts) w) := by
  subst hn
  have HI := Lib.hid (isIt_row w _ ts A c hl h)
  clear h
  have HL := Lib.hid hl
  clear hl
  generalize hm : ts.length = m at *
  generalize ht : It.mk 3 0 ⟨#[]⟩ ts = t at *
  clear ht hm
  go_enter Tryz.func56, Tryz.ntmps56
  go_wp2_with (go_at_call 53; (refine (clist_any _ _ _ _).mono ?_); rintro e w1 ⟨rfl, hb1⟩)
  have hs1 := hb1.size
  refine (encode_any t _ w1 (IsIt.mono (fun q hq => Nat.lt_of_lt_of_le hq hs1) t (HI.out.below hb1)) (fun he => Nat.le_trans (enc_small he) (by omega))).mono ?_
  rintro e w2 ⟨v2, rfl, hb2, hown⟩
  have hbb := hb1.trans (hb2.mono hs1)
  have HB := Lib.hid hbb
  have hc : (convert 114 9 v2).run Tryz.prog w2 = .ok (.string (txt t)) w2 := by
    rw [conv_own hown]
    unfold txt Nm.str
    split <;> rfl
  clear hown hb1 hb2 hbb
  go_wp2_with fail
  go_ret2
  exact ⟨rfl, HB.out⟩
end Go.Proofs.YtphclpjekpdifaaGreat.Wi
namespace Go.Proofs.YtphclpjekpdifaaGreat
open Go.RowKit
set_option linter.unusedVariables false
def putAll : Act → List Nat → List Value → Act
  | a, s :: ss, z :: zs => putAll (a.put (some s) z) ss zs
  | a, _, _ => a
theorem cons_of {x : List Value} {n : Nat} (h : x.length = n + 1) : ∃ a y, x = a :: y ∧ y.length = n := by
  cases x with
  | nil => cases h
  | cons a y => exact ⟨a, y, rfl, by simpa using h⟩
theorem nil_of {x : List Value} (h : x.length = 0) : x = [] := List.eq_nil_of_length_eq_zero h
def Steps (P : Program) (ops : Array Oper) (Q : Exit → Act → World → Prop) (n : Nat) (A : List Value → Act) (V : Nat → Value → World → Prop) (C : World → Prop) : Nat → List Oper → Prop
  | _, [] => True
  | i, o :: rest => (∀ (K' : Act → World → Prop) (x : List Value), x.length = n → ∀ w, C w → (∀ j, Region.waitsFor .any ops i j = true → V j (x.getD j undef) w) →
      (∀ v w', V i v w' → C w' → Below w.heap.size w w' → K' (A (x.set i v)) w') → if Region.wanted o (yielded ops (A x).tmps) = true then Oper.wp P o (A x) w K' Q else K' ((A x).put o.dst undef) w) ∧ Steps P ops Q n A V C (i + 1) rest
theorem Steps.at_ {P : Program} {ops : Array Oper} {Q : Exit → Act → World → Prop} {n : Nat} {A : List Value → Act} {V : Nat → Value → World → Prop} {C : World → Prop} : ∀ {l : List Oper} {k : Nat}, Steps P ops Q n A V C k l → (∀ j, j < l.length → l[j]? = ops[k + j]?) → ∀ i, i < l.length → ∀ x, x.length = n → ∀ w, C w → (∀ j, Region.waitsFor .any ops (k + i) j = true → V j (x.getD j undef) w) →
    wpOp P ops Q (k + i) (fun a' w' => ∃ v, a' = A (x.set (k + i) v) ∧ V (k + i) v w' ∧ C w' ∧ Below w.heap.size w w') (A x) w
  | [], k, h, hl, i, hi, _, _, _, _, _ => absurd hi (Nat.not_lt_zero _)
  | o :: rest, k, h, hl, 0, hi, x, hx, w, hC, hd => by
    have ho : ops[k + 0]? = some o := by rw [← hl 0 hi]; rfl
    exact wpOp_step ho fun K' hK => h.1 K' x hx w hC hd fun v w' h1 h2 h3 => hK _ _ ⟨v, rfl, h1, h2, h3⟩
  | o :: rest, k, h, hl, i + 1, hi, x, hx, w, hC, hd => by
    have := Steps.at_ h.2 (fun j hj => by rw [show k + 1 + j = k + (j + 1) by omega, ← hl (j + 1) (by simpa using hj)]; simp) i (by simpa using hi) x hx w hC (by rw [show k + 1 + i = k + (i + 1) by omega]; exact hd)
    rw [show k + 1 + i = k + (i + 1) by omega] at this
    exact this
def cntU (listed : Array Bool) : Nat → Nat
  | 0 => 0
  | k + 1 => (if listed.getD k false = true then 0 else 1) + cntU listed k
theorem cntU_set {listed : Array Bool} {i : Nat} (hs : i < listed.size) (hu : listed.getD i false = false) : ∀ n, (i < n → cntU (listed.setIfInBounds i true) n + 1 = cntU listed n) ∧ (n ≤ i → cntU (listed.setIfInBounds i true) n = cntU listed n)
  | 0 => ⟨fun h => absurd h (Nat.not_lt_zero _), fun _ => rfl⟩
  | k + 1 => by
    have ih := cntU_set hs hu k
    constructor
    · intro h
      by_cases hk : i = k
      · subst hk
        rw [cntU, cntU, ih.2 (Nat.le_refl _), hu]
        have : (listed.setIfInBounds i true).getD i false = true := by simp [hs]
        rw [this]; simp; omega
      · have := ih.1 (by omega)
        rw [cntU, cntU, getD_set_ne false hk]
        omega
    · intro h
      rw [cntU, cntU, ih.2 (by omega), getD_set_ne false (by omega)]
theorem cntU_zero {listed : Array Bool} : ∀ n, cntU listed n = 0 → ∀ i, i < n → listed.getD i false = true
  | 0, _, i, h => absurd h (Nat.not_lt_zero _)
  | k + 1, h, i, hi => by
    rw [cntU] at h
    by_cases hk : i = k
    · subst hk
      split at h
      · assumption
      · omega
    · exact cntU_zero k (by omega) i (by omega)
theorem cntU_some {listed : Array Bool} : ∀ n, cntU listed n ≠ 0 → ∃ i, i < n ∧ listed.getD i false = false ∧ ∀ j, j < i → listed.getD j false = true
  | 0, h => absurd rfl h
  | k + 1, h => by
    by_cases hk : cntU listed k = 0
    · refine ⟨k, by omega, ?_, cntU_zero k hk⟩
      rw [cntU, hk] at h
      cases hq : listed.getD k false with
      | false => rfl
      | true => rw [hq] at h; simp at h
    · obtain ⟨i, h1, h2⟩ := cntU_some k hk
      exact ⟨i, by omega, h2⟩
def Region.backB (ops : Array Oper) : Bool := (List.range ops.size).all fun i => match ops[i]? with
  | some o => o.after.all fun e => decide (e.on < i)
  | none => true
theorem backB_spec {ops : Array Oper} (h : Region.backB ops = true) {i : Nat} {o : Oper} (ho : ops[i]? = some o) : ∀ e ∈ o.after, e.on < i := by
  have hi : i < ops.size := (Array.getElem?_eq_some_iff.1 ho).1
  have := List.all_eq_true.1 h i (List.mem_range.2 hi)
  rw [ho] at this
  intro e he
  have := Array.all_eq_true'.1 this e he
  simpa using this
def fullA (m n : Nat) : Array Bool := (List.ofFn fun i : Fin m => decide (i.val < n)).toArray
theorem full_eq {listed : Array Bool} {m n : Nat} (hs : listed.size = m) (h1 : ∀ i, i < n → listed.getD i false = true) (h2 : ∀ t, n ≤ t → t < m → listed.getD t true = false) : listed = fullA m n := by
  apply Array.ext
  · simp [fullA, hs]
  · intro i hi hi2
    simp only [fullA, List.getElem_toArray, List.getElem_ofFn]
    by_cases h : i < n
    · have := h1 i h
      simp [hi] at this
      simp [this, h]
    · have := h2 i (by omega) (by omega)
      simp [hi] at this
      simp [this, h]
theorem steps_cons {P : Program} {ops : Array Oper} {Q : Exit → Act → World → Prop} {n : Nat} {A : List Value → Act} {V : Nat → Value → World → Prop} {C : World → Prop} {i : Nat} {o : Oper} {rest : List Oper}
    (h : ∀ (K' : Act → World → Prop) (x : List Value), x.length = n → ∀ w, C w → (∀ j, Region.waitsFor .any ops i j = true → V j (x.getD j undef) w) →
      (∀ v w', V i v w' → C w' → Below w.heap.size w w' → K' (A (x.set i v)) w') → if Region.wanted o (yielded ops (A x).tmps) = true then Oper.wp P o (A x) w K' Q else K' ((A x).put o.dst undef) w)
    (k : Steps P ops Q n A V C (i + 1) rest) : Steps P ops Q n A V C i (o :: rest) := ⟨h, k⟩
section
variable {P : Program} {ops : Array Oper} {Q : Exit → Act → World → Prop}
theorem mono_any {n : Nat} {A : List Value → Act} {V : Nat → Value → World → Prop} {C : World → Prop}
    (hs : Region.sinkB .any ops n = true) (hc : Region.chainB .any ops n = true) (hn : n < ops.size) (hb : Region.backB ops = true)
    (hseq : Region.seqB .any ops (ops.size - n) n (fullA ops.size n) = true)
    (hV : ∀ i v w w', C w → V i v w → Below w.heap.size w w' → V i v w')
    (step : ∀ i, i < n → ∀ x, x.length = n → ∀ w, C w → (∀ j, Region.waitsFor .any ops i j = true → V j (x.getD j undef) w) → wpOp P ops Q i (fun a' w' => ∃ v, a' = A (x.set i v) ∧ V i v w' ∧ C w' ∧ Below w.heap.size w w') (A x) w)
    (tail : ∀ x, x.length = n → ∀ w, C w → (∀ j, j < n → V j (x.getD j undef) w) → wpList P ops Q (ops.toList.drop n) (A x) w) :
    ∀ (f : Nat) (listed : Array Bool) (x : List Value) (w : World), x.length = n → cntU listed n = f → HeadInv .any ops n listed → C w → (∀ j, j < n → listed.getD j false = true → V j (x.getD j undef) w) → wpAny P .any ops Q (f + (ops.size - n)) listed (A x) w := by
  intro f
  induction f with
  | zero =>
    intro listed x w hxl hf inv hC hx
    have hall := cntU_zero n hf
    have hfull := full_eq inv.size hall inv.tail
    rw [Nat.zero_add]
    have hl : (ops.toList.drop n).length = ops.size - n := by simp
    rw [← hl]
    refine wpAny_of_seq (ops.toList.drop n) n listed (A x) w (fun j => by simp) (by rw [hl, hfull]; exact hseq) (tail x hxl w hC fun j hj => hx j hj (hall j hj))
  | succ f ih =>
    intro listed x w hxl hf inv hC hx
    rw [show f + 1 + (ops.size - n) = (f + (ops.size - n)) + 1 by omega]
    obtain ⟨i0, hi0, hu0, hmin⟩ := cntU_some n (by rw [hf]; omega)
    have hrd0 : i0 ∈ Region.ready .any ops listed := by
      obtain ⟨o, ho⟩ : ∃ o, ops[i0]? = some o := ⟨_, Array.getElem?_eq_getElem (by omega)⟩
      exact mem_ready.2 ⟨getD_in (by rw [inv.size]; omega) hu0, o, ho, fun e he _ => hmin _ (backB_spec hb ho e he)⟩
    refine ⟨fun h0 => (by rw [h0] at hrd0; cases hrd0), fun i hi => ?_⟩
    have hin : i < n := by
      rcases Nat.lt_or_ge i n with h | h
      · exact h
      · exact absurd hi (tail_waits hs hc hn inv _ i0 rfl hi0 (getD_in (by rw [inv.size]; omega) hu0) i h)
    obtain ⟨hun, oi, hoi, hall⟩ := mem_ready.1 hi
    refine wpOp_mono ?_ (step i hin x hxl w hC fun j hj => ?_)
    · rintro a' w' ⟨v, rfl, hv, hC', hB⟩
      refine ih _ _ _ (by rw [List.length_set]; exact hxl) ?_ (inv.set hi hin) hC' fun j hj hl => ?_
      · have := (cntU_set (listed := listed) (i := i) (by rw [inv.size]; omega) (getD_both hun) n).1 hin
        omega
      · by_cases hji : j = i
        · subst hji
          have : (x.set j v).getD j undef = v := by simp [List.getD_eq_getElem?_getD, hxl, hj]
          rw [this]
          exact hv
        · have : (x.set i v).getD j undef = x.getD j undef := by simp [List.getD_eq_getElem?_getD, List.getElem?_set_ne (fun e => hji e.symm)]
          rw [this]
          rw [getD_set_ne false (fun e => hji e.symm)] at hl
          exact hV _ _ _ _ hC (hx j hj hl) hB
    · obtain ⟨oj, hoj, e, he, hbnd, hon⟩ := Region.waitsFor_spec hj
      have : oj = oi := Option.some.inj (hoj.symm.trans hoi)
      subst this
      have h1 := hall e he hbnd
      rw [hon] at h1
      refine hx j ?_ h1
      have := backB_spec hb hoj e he
      omega
end
def Region.monoB (ops : Array Oper) (n : Nat) : Bool := Region.sinkB .any ops n && (Region.chainB .any ops n && (decide (n < ops.size) && (Region.backB ops && Region.seqB .any ops (ops.size - n) n (fullA ops.size n))))
theorem wp_region_mono {P : Program} {l : List Oper} {Q : Exit → Act → World → Prop} {id : Nat} {w0 : World} {a0 : Act} (n : Nat) (S : List Nat) (V : Nat → Value → World → Prop) (C : World → Prop) (x0 : List Value)
    (hm : P.follows .mixedOrders = true) (hB : Region.monoB l.toArray n = true) (h0 : a0 = putAll a0 S x0) (hx0 : x0.length = n) (hC : C w0.drew)
    (hV : ∀ i v w w', C w → V i v w → Below w.heap.size w w' → V i v w')
    (step : Steps P l.toArray Q n (putAll a0 S) V C 0 (l.take n))
    (tail : ∀ x, x.length = n → ∀ w, C w → (∀ j, j < n → V j (x.getD j undef) w) → wpList P l.toArray Q (l.drop n) (putAll a0 S x) w) : (Code.region id l.toArray true).wp P Q a0 w0 := by
  simp only [Region.monoB, Bool.and_eq_true, decide_eq_true_eq] at hB
  obtain ⟨hs, hc, hn, hb, hseq⟩ := hB
  have hn' : n < l.length := by simpa using hn
  have htl : (l.take n).length = n := by simp; omega
  have hcnt : ∀ m, cntU (Array.replicate l.toArray.size false) m = m := fun m => by
    induction m with
    | zero => rfl
    | succ m ih => rw [cntU, ih, getD_replicate_false]; simp; omega
  refine wp_region_any hm ?_
  have := mono_any (P := P) (Q := Q) (A := putAll a0 S) (V := V) (C := C) hs hc hn hb hseq hV (fun i hi x hx w hC hd => by
    have h1 := step.at_ (fun j hj => by
      have : j < n := by rw [htl] at hj; exact hj
      simp [this]) i (by rw [htl]; exact hi) x hx w hC (by rw [Nat.zero_add]; exact hd)
    rw [Nat.zero_add] at h1
    exact h1) (by simpa using tail) n (Array.replicate l.toArray.size false) x0 w0.drew hx0 (hcnt n)
    ⟨by simp, fun j oj _ hl => (by rw [getD_replicate_false] at hl; cases hl), fun t _ ht => getD_in (by simpa using ht) (getD_replicate_false _ _)⟩ hC (fun j _ hl => (by rw [getD_replicate_false] at hl; cases hl))
  have hsz : n + (l.toArray.size - n) = l.toArray.size := by omega
  rw [hsz, ← h0] at this
  exact this
end Go.Proofs.YtphclpjekpdifaaGreat
namespace Go.Proofs.YtphclpjekpdifaaGreat.Wi
open Go.RowKit Pl
set_option maxRecDepth 20000
set_option linter.unusedVariables false
def Ran (B : Nat) (w : World) (q : Nat) : Prop := B ≤ q ∧ q < w.heap.size
theorem AreIts.far {B : Nat} {w w' : World} {ts : List It} {A : Option Addr} {i : Nat} (h : AreIts w (Ran B w) ts A i) (hb : Below w.heap.size w w') : AreIts w' (Ran B w') ts A i :=
  AreIts.mono (fun q hq => ⟨hq.1, Nat.lt_of_lt_of_le hq.2 hb.size⟩) ts (AreIts.keep (fun q hq => hb.block q hq.2) ts h)
theorem IsIt.far {B : Nat} {w w' : World} {t : It} {v : Value} (h : IsIt w (Ran B w) t v) (hb : Below w.heap.size w w') : IsIt w' (Ran B w') t v :=
  IsIt.mono (fun q hq => ⟨hq.1, Nat.lt_of_lt_of_le hq.2 hb.size⟩) t (IsIt.keep (fun q hq => hb.block q hq.2) t h)
def ItRow (B : Nat) (w : World) (v : Value) (ts : List It) : Prop := ∃ xs, w.ownsRow B 111 4 v ts.length xs ∧ ItsIn w (fun q => Ran B w q ∧ v.ownBlock ≠ some q) ts xs
theorem ItRow.nil (B : Nat) (w : World) : ItRow B w (.slice none 0 0) [] := ⟨[], World.ownsRow_nil _ _ _ _, rfl⟩
theorem ItRow.below {B : Nat} {w w' : World} {v : Value} {ts : List It} (h : ItRow B w v ts) (hb : Below w.heap.size w w') : ItRow B w' v ts := by
  obtain ⟨xs, h1, h2⟩ := h
  exact ⟨xs, ownsRow_keep h1 fun q hq => hb.block q (own_lt h1 q hq).2, ItsIn.keep (fun q hq => hb.block q hq.1.2) (fun q hq => ⟨⟨hq.1.1, Nat.lt_of_lt_of_le hq.1.2 hb.size⟩, hq.2⟩) h2⟩
theorem ItRow.form {B : Nat} {w : World} {v : Value} {ts : List It} (h : ItRow B w v ts) : ∃ A c, v = .slice A ts.length c ∧ AreIts w (Ran B w) ts A 0 := by
  obtain ⟨xs, h1, h2⟩ := h
  rcases h1.2 with ⟨rfl, hn⟩ | ⟨g, cap, cur, rfl, hg, hh, hc, hm, _⟩
  · have : ts = [] := List.eq_nil_of_length_eq_zero hn
    subst this
    exact ⟨none, 0, rfl, by rw [AreIts]; trivial⟩
  · refine ⟨some ⟨g, 0, none⟩, cap, rfl, ItsIn.are (b := g) (w := w) ⟨hg, (Array.getElem?_eq_some_iff.1 hh).1⟩ (ItsIn.keep (fun _ _ => rfl) (fun q hq => hq.1) h2) fun j u hu => ?_⟩
    have := h1.cells (g := g) rfl j u hu
    rw [show ((⟨g, 0, none⟩ : Addr).add j) = ⟨g, j, none⟩ from by unfold Addr.add; split <;> simp_all] at this
    rw [Nat.zero_mul, Nat.zero_add]
    exact this
theorem ItRow.snoc {B : Nat} {w w3 : World} {v v' : Value} {ts : List It} {x : It} {u0 u1 u2 u3 : Value} {xs : List Value} (hown : w.ownsRow B 111 4 v ts.length xs) (hI : ItsIn w (fun q => Ran B w q ∧ v.ownBlock ≠ some q) ts xs)
    (hx : IsIt w (fun q => Ran B w q ∧ v.ownBlock ≠ some q) x (.agg #[u0, u1, u2, u3])) (hB : B ≤ w.heap.size)
    (ho : w3.ownsRow B 111 4 v' (ts.length + 1) (xs ++ [u0, u1, u2, u3])) (hg : w.grownBy w3 v.ownBlock) (hv : v'.ownBlock = v.ownBlock ∨ v'.ownBlock = some w.heap.size) : ItRow B w3 v' (ts ++ [x]) := by
  have hk : ∀ q, Ran B w q ∧ v.ownBlock ≠ some q → w3.heap[q]? = w.heap[q]? := fun q hq => hg.block q hq.1.2 (fun e => hq.2 e.symm)
  have hm : ∀ q, Ran B w q ∧ v.ownBlock ≠ some q → Ran B w3 q ∧ v'.ownBlock ≠ some q := fun q hq => by
    refine ⟨⟨hq.1.1, Nat.lt_of_lt_of_le hq.1.2 hg.size⟩, ?_⟩
    rcases hv with e | e
    · rw [e]; exact hq.2
    · rw [e]
      intro e2
      injection e2 with e2
      have := hq.1.2
      omega
  exact ⟨_, by simpa using ho, ItsIn.snoc (IsIt.mono hm x (IsIt.keep hk x hx)) (ItsIn.keep hk hm hI)⟩
theorem are3 {w : World} {S : Nat → Prop} {b : Nat} {t0 t1 t2 : It} {a0 a1 a2 a3 b0 b1 b2 b3 c0 c1 c2 c3 : Value} {t : TypeId} {fz : Nat × Nat} (hb : S b) (h : w.heap[b]? = some (.cells #[a0, a1, a2, a3, b0, b1, b2, b3, c0, c1, c2, c3] t fz))
    (h0 : IsIt w S t0 (.agg #[a0, a1, a2, a3])) (h1 : IsIt w S t1 (.agg #[b0, b1, b2, b3])) (h2 : IsIt w S t2 (.agg #[c0, c1, c2, c3])) : AreIts w S [t0, t1, t2] (some ⟨b, 0, none⟩) 0 := by
  refine ItsIn.are (us := [a0, a1, a2, a3, b0, b1, b2, b3, c0, c1, c2, c3]) hb ⟨_, _, _, _, _, rfl, h0, _, _, _, _, _, rfl, h1, _, _, _, _, _, rfl, h2, rfl⟩ fun j u hu => ?_
  rw [Nat.zero_mul, Nat.zero_add]
  simp only [World.cell?, h]
  simpa using hu
theorem are2 {w : World} {S : Nat → Prop} {b : Nat} {t0 t1 : It} {a0 a1 a2 a3 b0 b1 b2 b3 : Value} {t : TypeId} {fz : Nat × Nat} (hb : S b) (h : w.heap[b]? = some (.cells #[a0, a1, a2, a3, b0, b1, b2, b3] t fz))
    (h0 : IsIt w S t0 (.agg #[a0, a1, a2, a3])) (h1 : IsIt w S t1 (.agg #[b0, b1, b2, b3])) : AreIts w S [t0, t1] (some ⟨b, 0, none⟩) 0 := by
  refine ItsIn.are (us := [a0, a1, a2, a3, b0, b1, b2, b3]) hb ⟨_, _, _, _, _, rfl, h0, _, _, _, _, _, rfl, h1, rfl⟩ fun j u hu => ?_
  rw [Nat.zero_mul, Nat.zero_add]
  simp only [World.cell?, h]
  simpa using hu
theorem are5 {w : World} {S : Nat → Prop} {b : Nat} {t0 t1 t2 t3 t4 : It} {a0 a1 a2 a3 b0 b1 b2 b3 c0 c1 c2 c3 d0 d1 d2 d3 e0 e1 e2 e3 : Value} {t : TypeId} {fz : Nat × Nat} (hb : S b) (h : w.heap[b]? = some (.cells #[a0, a1, a2, a3, b0, b1, b2, b3, c0, c1, c2, c3, d0, d1, d2, d3, e0, e1, e2, e3] t fz))
    (h0 : IsIt w S t0 (.agg #[a0, a1, a2, a3])) (h1 : IsIt w S t1 (.agg #[b0, b1, b2, b3])) (h2 : IsIt w S t2 (.agg #[c0, c1, c2, c3])) (h3 : IsIt w S t3 (.agg #[d0, d1, d2, d3])) (h4 : IsIt w S t4 (.agg #[e0, e1, e2, e3])) : AreIts w S [t0, t1, t2, t3, t4] (some ⟨b, 0, none⟩) 0 := by
  refine ItsIn.are (us := [a0, a1, a2, a3, b0, b1, b2, b3, c0, c1, c2, c3, d0, d1, d2, d3, e0, e1, e2, e3]) hb ⟨_, _, _, _, _, rfl, h0, _, _, _, _, _, rfl, h1, _, _, _, _, _, rfl, h2, _, _, _, _, _, rfl, h3, _, _, _, _, _, rfl, h4, rfl⟩ fun j u hu => ?_
  rw [Nat.zero_mul, Nat.zero_add]
  simp only [World.cell?, h]
  simpa using hu
end Go.Proofs.YtphclpjekpdifaaGreat.Wi
