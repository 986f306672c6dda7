import Derived.Test.YtebacdegjmcnlaaGreatMa
import Derived.LoopN
namespace Go.Proofs.YtebacdegjmcnlaaGreat
open Go.RowKit Pl
set_option linter.unusedVariables false
set_option maxRecDepth 20000
theorem cnum_any (n : Int) (w : World) : Calls Tryz.prog 18 #[.int .i64 n] w (RetBelow (.agg #[.int .i64 1, .int .i64 n, .string ⟨#[]⟩, .slice none 0 0]) w) := by
  go_enter Tryz.func18, Tryz.ntmps18
  go_wp2_with fail
  refine bodyPost_ret (v := .agg #[.int .i64 1, .int .i64 n, .string ⟨#[]⟩, .slice none 0 0]) (by simp [results, Tryz.results18, go_sem]) rfl ⟨rfl, ?_⟩
  exact (Below.refl _ _).alloc (Nat.le_refl _) _
theorem ctxt_any (s : ByteArray) (w : World) : Calls Tryz.prog 19 #[.string s] w (RetBelow (.agg #[.int .i64 2, .int .i64 0, .string s, .slice none 0 0]) w) := by
  go_enter Tryz.func19, Tryz.ntmps19
  go_wp2_with fail
  refine bodyPost_ret (v := .agg #[.int .i64 2, .int .i64 0, .string s, .slice none 0 0]) (by simp [results, Tryz.results19, go_sem]) rfl ⟨rfl, ?_⟩
  exact (Below.refl _ _).alloc (Nat.le_refl _) _
theorem clist_any (a : Option Addr) (m c : Nat) (w : World) : Calls Tryz.prog 31 #[.slice a m c] w (RetBelow (.agg #[.int .i64 3, .int .i64 0, .string ⟨#[]⟩, .slice a m c]) w) := by
  go_enter Tryz.func31, Tryz.ntmps31
  go_wp2_with fail
  refine bodyPost_ret (v := .agg #[.int .i64 3, .int .i64 0, .string ⟨#[]⟩, .slice a m c]) (by simp [results, Tryz.results31, go_sem]) rfl ⟨rfl, ?_⟩
  exact (Below.refl _ _).alloc (Nat.le_refl _) _
/-- the item of a number, of a text, of three numbers, of a command, of a reply -/
def nIt (n : Int) : It := .mk 1 n ⟨#[]⟩ []
def sIt (s : ByteArray) : It := .mk 2 0 s []
def vIt (a b c : Int) : It := .mk 3 0 ⟨#[]⟩ [nIt a, nIt b, nIt c]
def cIt (o : Int) (s t : ByteArray) (a b c n : Int) : It := .mk 3 0 ⟨#[]⟩ [nIt o, sIt s, sIt t, vIt a b c, nIt n]
def rIt (o : Int) (s : ByteArray) (a b c n : Int) : It := .mk 3 0 ⟨#[]⟩ [nIt o, sIt s, vIt a b c, nIt n]
theorem rounds_forget {P : Program} {c : Code} {Q : Exit → Act → World → Prop} {n : Nat} {a : Act} {W : World} (p : World → Prop) (h : p W) (k : ∀ W', p W' → Code.rounds P c Q n a W') : Code.rounds P c Q n a W := k W h
/-- an item made by a call: what it leads to is new -/
def ItPost (t : It) (w : World) (e : Ending) (w' : World) : Prop := ∃ v, e = .returned v ∧ Below w.heap.size w w' ∧ IsIt w' (NewB w w') t v
/-- a row of own items, behind the block R -/
def AmSt (w : World) (ts : List It) (v : Value) (wr : World) : Prop :=
  ∃ xs, wr.ownsRow (w.heap.size + 2) 50 4 v ts.length xs ∧ ItsIn wr (fun _ => False) ts xs ∧ Below w.heap.size w wr ∧ w.heap.size + 2 ≤ wr.heap.size
theorem amSt_snoc {w wr w2 w3 : World} {ts : List It} {v v' : Value} {n : Int} {o : Obj} (hn : InR n) {xs : List Value} (hI : ItsIn wr (fun _ => False) ts xs) (hb : Below w.heap.size w wr) (hs : w.heap.size + 2 ≤ wr.heap.size)
    (h2 : Below wr.heap.size wr w2) (hown : w3.ownsRow (w.heap.size + 2) 50 4 v' (ts.length + 1) (xs ++ [.int .i64 1, .int .i64 n, .string ⟨#[]⟩, .slice none 0 0]))
    (hov : ∀ q, v.ownBlock = some q → w.heap.size + 2 ≤ q ∧ q < wr.heap.size) (hg : (w2.alloc o).grownBy w3 v.ownBlock) (hv : v'.ownBlock = v.ownBlock ∨ v'.ownBlock = some (w2.alloc o).heap.size) : AmSt w (ts ++ [nIt n]) v' w3 := by
  have hs2 := h2.size
  have hsA : (w2.alloc o).heap.size = w2.heap.size + 1 := by simp
  have hs3 := hg.size
  have hA : Below wr.heap.size wr (w2.alloc o) := h2.alloc hs2 _
  refine ⟨xs ++ [.int .i64 1, .int .i64 n, .string ⟨#[]⟩, .slice none 0 0], by simpa using hown, ItsIn.snoc ?_ (ItsIn.keep ?_ ?_ hI), ?_, by omega⟩
  · exact ⟨none, 0, rfl, ⟨by omega, by omega⟩, hn, by simp [zero_size], by simp, trivial⟩
  · intro q hq; exact hq.elim
  · intro q hq; exact hq.elim
  · exact Below.grown (hb.trans (hA.mono (by omega))) hg (by omega) fun q hq => by have := hov q hq; omega
theorem own_lt {w : World} {B e z n : Nat} {v : Value} {xs : List Value} (h : w.ownsRow B e z v n xs) : ∀ q, v.ownBlock = some q → B ≤ q ∧ q < w.heap.size := fun q hq => by
  have := h.lt q hq
  exact ⟨this.1, this.2⟩
def mk1 (n : Int) : List Value := [.int .i64 1, .int .i64 n, .string ⟨#[]⟩, .slice none 0 0]
def mk2 (s : ByteArray) : List Value := [.int .i64 2, .int .i64 0, .string s, .slice none 0 0]
/-- a struct of four cells written whole -/
def w4 (w : World) (R : Nat) (a b c d : Value) : World := (((w.setCell ⟨R, 0, none⟩ a).setCell ⟨R, 1, none⟩ b).setCell ⟨R, 2, none⟩ c).setCell ⟨R, 3, none⟩ d
theorem w4_row (w : World) (R : Nat) (a b c d z0 z1 z2 z3 : Value) (t : TypeId) (h : w.heap[R]? = some (.cells #[z0, z1, z2, z3] t (0, 0))) : (w4 w R a b c d).heap[R]? = some (.cells #[a, b, c, d] t (0, 0)) :=
  heap_set _ R 3 _ _ _ (heap_set _ R 2 _ _ _ (heap_set _ R 1 _ _ _ (heap_set w R 0 a _ _ h)))
theorem w4_far (w : World) (R : Nat) (a b c d : Value) (q : Nat) (h : q ≠ R) : (w4 w R a b c d).heap[q]? = w.heap[q]? :=
  (Below.heap_setCell _ _ _ q h).trans ((Below.heap_setCell _ _ _ q h).trans ((Below.heap_setCell _ _ _ q h).trans (Below.heap_setCell _ _ _ q h)))
theorem w4_size (w : World) (R : Nat) (a b c d : Value) : (w4 w R a b c d).heap.size = w.heap.size := by simp [w4, World.setCell]
theorem w4_below (w : World) (B R : Nat) (a b c d : Value) (h : B ≤ R) : Below B w (w4 w R a b c d) :=
  (((((Below.refl B w).setCell (p := ⟨R, 0, none⟩) h a).setCell (p := ⟨R, 1, none⟩) h b).setCell (p := ⟨R, 2, none⟩) h c).setCell (p := ⟨R, 3, none⟩) h d)
theorem keepR {w wr w2 w3 : World} {o o' : Obj} {v : Value} (hs : w.heap.size + 2 ≤ wr.heap.size) (h2 : Below wr.heap.size wr w2) (hr : wr.heap[w.heap.size + 1]? = some o') (hg : (w2.alloc o).grownBy w3 v.ownBlock)
    (hov : ∀ q, v.ownBlock = some q → w.heap.size + 2 ≤ q ∧ q < wr.heap.size) : w3.heap[w.heap.size + 1]? = some o' := by
  have hs2 := h2.size
  have hsA : (w2.alloc o).heap.size = w2.heap.size + 1 := by simp
  refine (hg.block _ (by omega) (fun e => ?_)).trans ((Below.heap_alloc _ _ _ (by omega)).trans ((h2.block _ (by omega)).trans hr))
  have := hov _ e.symm
  omega
theorem amounts_any (a b c : Int) (w : World) (ha : InR a) (hb : InR b) (hc : InR c) : Calls Tryz.prog 29 #[.agg #[.int .i64 a, .int .i64 b, .int .i64 c]] w (ItPost (vIt a b c) w) := by
  have x0 : ∀ w : World, (Instr.index 30 (.agg #[.int .i64 a, .int .i64 b, .int .i64 c]) (.int .i64 0)).run Tryz.prog w = .ok (.int .i64 a) w := fun _ => by kernel_rfl
  have x1 : ∀ w : World, (Instr.index 30 (.agg #[.int .i64 a, .int .i64 b, .int .i64 c]) (.int .i64 1)).run Tryz.prog w = .ok (.int .i64 b) w := fun _ => by kernel_rfl
  have x2 : ∀ w : World, (Instr.index 30 (.agg #[.int .i64 a, .int .i64 b, .int .i64 c]) (.int .i64 2)).run Tryz.prog w = .ok (.int .i64 c) w := fun _ => by kernel_rfl
  have Ha := Lib.hid ha
  have Hb := Lib.hid hb
  have Hc := Lib.hid hc
  clear ha hb hc
  go_enter Tryz.func29, Tryz.ntmps29
  go_wp2_with fail
  refine wp_loop_rounds 4 ?_
  refine rounds_forget (fun W => AmSt w [] (.slice none 0 0) W ∧ W.heap[w.heap.size + 1]? = some (.cells zeroItem 50 (0, 0))) ⟨⟨[], World.ownsRow_nil _ _ _ _, rfl, ?_, ?_⟩, ?_⟩ ?_
  · exact ((Below.refl _ _).alloc (Nat.le_refl _) _).alloc (by simp) _
  · simp
  · rw [show w.heap.size + 1 = (w.alloc (.cells #[.int .i64 a, .int .i64 b, .int .i64 c] 30)).heap.size from by simp]; exact heap_alloc_new _ _
  rintro W0 ⟨⟨xs0, o0, I0, B0, s0⟩, r0⟩
  rw [rounds_succ]
  go_wp2_with (first
    | (go_at_call 18; (refine (cnum_any _ _).mono ?_); rintro e w1 ⟨rfl, hb1⟩; have hz1 := hb1.size)
    | (at_builtin; (refine wp_app4 rfl (.tmp 10) (.tmp 13) rfl (w.heap.size + 2) (.slice none 0 0) 0 xs0 rfl (ownsRow_keep o0 fun q hq => (Below.heap_alloc _ _ q (Nat.lt_of_lt_of_le (own_lt o0 q hq).2 hb1.size)).trans (hb1.block q (own_lt o0 q hq).2)) ⟨w1.heap.size, 0, none⟩ 1 rfl (.int .i64 1) (.int .i64 a) (.string ⟨#[]⟩) (.slice none 0 0) (by go_simp) (by go_simp) (by go_simp) (by go_simp) rfl rfl rfl rfl (by omega) (by have := hb1.size; simp; omega) ?_); (intro v1 w3 p1 p2 p3); (have A1 := amSt_snoc (ts := []) Ha.out I0 B0 s0 hb1 p1 (fun q hq => own_lt o0 q hq) p2 p3); (have R1 := keepR s0 hb1 r0 p2 (fun q hq => own_lt o0 q hq)); (have A1 := Lib.hid A1); (have R1 := Lib.hid R1); clear p1 p2 p3 hb1))
  refine rounds_forget (fun W => AmSt w [nIt a] v1 W ∧ W.heap[w.heap.size + 1]? = some (.cells zeroItem 50 (0, 0))) ⟨A1.out, R1.out⟩ ?_
  rintro W1 ⟨⟨xs1, o1, I1, B1, s1⟩, r1⟩
  rw [rounds_succ]
  go_wp2_with (first
    | (go_at_call 18; (refine (cnum_any _ _).mono ?_); rintro e w1 ⟨rfl, hb1⟩; have hz1 := hb1.size)
    | (at_builtin; (refine wp_app4 rfl (.tmp 10) (.tmp 13) rfl (w.heap.size + 2) v1 1 xs1 rfl (ownsRow_keep o1 fun q hq => (Below.heap_alloc _ _ q (Nat.lt_of_lt_of_le (own_lt o1 q hq).2 hb1.size)).trans (hb1.block q (own_lt o1 q hq).2)) ⟨w1.heap.size, 0, none⟩ 1 rfl (.int .i64 1) (.int .i64 b) (.string ⟨#[]⟩) (.slice none 0 0) (by go_simp) (by go_simp) (by go_simp) (by go_simp) rfl rfl rfl rfl (by omega) (by have := hb1.size; simp; omega) ?_); (intro v2 w3 p1 p2 p3); (have A2 := amSt_snoc (ts := [nIt a]) Hb.out I1 B1 s1 hb1 p1 (fun q hq => own_lt o1 q hq) p2 p3); (have R2 := keepR s1 hb1 r1 p2 (fun q hq => own_lt o1 q hq)); (have A2 := Lib.hid A2); (have R2 := Lib.hid R2); clear p1 p2 p3 hb1))
  refine rounds_forget (fun W => AmSt w [nIt a, nIt b] v2 W ∧ W.heap[w.heap.size + 1]? = some (.cells zeroItem 50 (0, 0))) ⟨A2.out, R2.out⟩ ?_
  rintro W2 ⟨⟨xs2, o2, I2, B2, s2⟩, r2⟩
  rw [rounds_succ]
  go_wp2_with (first
    | (go_at_call 18; (refine (cnum_any _ _).mono ?_); rintro e w1 ⟨rfl, hb1⟩; have hz1 := hb1.size)
    | (at_builtin; (refine wp_app4 rfl (.tmp 10) (.tmp 13) rfl (w.heap.size + 2) v2 2 xs2 rfl (ownsRow_keep o2 fun q hq => (Below.heap_alloc _ _ q (Nat.lt_of_lt_of_le (own_lt o2 q hq).2 hb1.size)).trans (hb1.block q (own_lt o2 q hq).2)) ⟨w1.heap.size, 0, none⟩ 1 rfl (.int .i64 1) (.int .i64 c) (.string ⟨#[]⟩) (.slice none 0 0) (by go_simp) (by go_simp) (by go_simp) (by go_simp) rfl rfl rfl rfl (by omega) (by have := hb1.size; simp; omega) ?_); (intro v3 w3 p1 p2 p3); (have A3 := amSt_snoc (ts := [nIt a, nIt b]) Hc.out I2 B2 s2 hb1 p1 (fun q hq => own_lt o2 q hq) p2 p3); (have R3 := keepR s2 hb1 r2 p2 (fun q hq => own_lt o2 q hq)); (have A3 := Lib.hid A3); (have R3 := Lib.hid R3); clear p1 p2 p3 hb1))
  refine rounds_forget (fun W => AmSt w [nIt a, nIt b, nIt c] v3 W ∧ W.heap[w.heap.size + 1]? = some (.cells zeroItem 50 (0, 0))) ⟨A3.out, R3.out⟩ ?_
  rintro W3 ⟨⟨xs3, o3, I3, B3, s3⟩, r3⟩
  rw [rounds_succ]
  have H3 := Lib.hid o3
  have HI := Lib.hid I3
  have HB := Lib.hid B3
  have f3 := fun q hq => own_lt o3 q hq
  have F3 := Lib.hid f3
  rcases o3.2 with ⟨_, hn⟩ | ⟨g, cap, cur, rfl, ug, uh, uc, um, _⟩
  · simp at hn
  have hlen : ([nIt a, nIt b, nIt c] : List It).length = 3 := rfl
  rw [hlen] at H3
  clear I3 B3 f3 o3 ug uh um
  obtain ⟨q0, q1, q2, q3, _⟩ := row4 r3
  go_wp2_with (go_at_call 31; (refine (clist_any _ _ _ _).mono ?_); rintro e w4 ⟨rfl, hb4⟩; have hz4 := hb4.size; have r4 := (hb4.block _ (by omega)).trans r3; obtain ⟨j0, j1, j2, j3, k0, k1, k2, k3⟩ := row4 r4; have R4 := Lib.hid r4; have B4 := Lib.hid hb4; clear r4 hb4 r3 q0 q1 q2 q3)
  have W4 := w4_row w4 (w.heap.size + 1) (.int .i64 3) (.int .i64 0) (.string ⟨#[]⟩) (.slice (some ⟨g, 0, none⟩) 3 cap) _ _ _ _ 50 R4.out
  have WF := w4_far w4 (w.heap.size + 1) (.int .i64 3) (.int .i64 0) (.string ⟨#[]⟩) (.slice (some ⟨g, 0, none⟩) 3 cap)
  have WS := w4_size w4 (w.heap.size + 1) (.int .i64 3) (.int .i64 0) (.string ⟨#[]⟩) (.slice (some ⟨g, 0, none⟩) 3 cap)
  have WB := w4_below w4 w.heap.size (w.heap.size + 1) (.int .i64 3) (.int .i64 0) (.string ⟨#[]⟩) (.slice (some ⟨g, 0, none⟩) 3 cap) (by omega)
  change bodyPost Tryz.prog Tryz.f29 (ItPost (vIt a b c) w) Exit.ret _ (Go.Proofs.YtebacdegjmcnlaaGreat.w4 w4 (w.heap.size + 1) (.int .i64 3) (.int .i64 0) (.string ⟨#[]⟩) (.slice (some ⟨g, 0, none⟩) 3 cap))
  generalize Go.Proofs.YtebacdegjmcnlaaGreat.w4 w4 (w.heap.size + 1) (.int .i64 3) (.int .i64 0) (.string ⟨#[]⟩) (.slice (some ⟨g, 0, none⟩) 3 cap) = W at *
  obtain ⟨m0, m1, m2, m3, _⟩ := row4 W4
  have HBW : Below w.heap.size w W := (HB.out.trans (B4.out.mono (by omega))).trans WB
  have hsW := HBW.size
  have hg := F3.out g rfl
  refine bodyPost_ret (v := .agg #[.int .i64 3, .int .i64 0, .string ⟨#[]⟩, .slice (some ⟨g, 0, none⟩) 3 cap]) (by simp [results, Tryz.results29, go_sem, m0, m1, m2, m3]) rfl ⟨_, rfl, HBW, ?_⟩
  refine ⟨some ⟨g, 0, none⟩, cap, rfl, ⟨by omega, by omega⟩, ⟨by omega, by omega⟩, by simp [zero_size], by simp [maxLen], ?_⟩
  have keepg : ∀ q, q < W3.heap.size → q ≠ w.heap.size + 1 → W.heap[q]? = W3.heap[q]? := fun q hq hne => (WF q hne).trans (B4.out.block q hq)
  refine ItsIn.are (b := g) (w := W) ⟨by omega, by omega⟩ (ItsIn.keep (w := W3) (S := fun _ => False) (fun q hq => hq.elim) (fun q hq => hq.elim) HI.out) ?_
  intro j u hu
  have := H3.out.cells (g := g) rfl j u hu
  rw [show ((⟨g, 0, none⟩ : Addr).add j) = ⟨g, j, none⟩ from by unfold Addr.add; split <;> simp_all] at this
  rw [Nat.zero_mul, Nat.zero_add, ← this]
  exact World.cell?_of_block (w := W3) (keepg g (by omega) (by omega))
end Go.Proofs.YtebacdegjmcnlaaGreat
