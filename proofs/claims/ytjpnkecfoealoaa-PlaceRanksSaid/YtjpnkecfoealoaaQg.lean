import Derived.Test.YtjpnkecfoealoaaQf
namespace Go.Proofs.Ytjpnkecfoealoaa
set_option maxRecDepth 20000
open Go.RowKit
open Go.Proofs.Ytjpnkecfoealoaa.Nm (Gr)
open Go.Proofs.Ytjpnkecfoealoaa.Vc (I64 OwnD DigsAt dC fitB RetBelow)
set_option linter.unusedVariables false

theorem sc_takes {L : List Nd} {p q r : Int} {i : Nat} {n : Nd} (hn : L[i]? = some n) : scL L p q r i = nscore n p q r := by
  unfold scL; rw [hn]; rfl
theorem shV_pos (a b c x y z : Int) : 0 ≤ Vc.shV a b c x y z := by
  unfold Vc.shV
  have h : ∀ x y, x ≤ Vc.mx x y := fun x y => by unfold Vc.mx; split <;> omega
  exact Int.le_trans (Int.le_trans (h 0 _) (h _ _)) (h _ _)
theorem nscore_ne {n : Nd} {p q r : Int} : (nscore n p q r != -1) = ntakes n p q r := by
  unfold nscore
  cases ntakes n p q r with
  | false => rfl
  | true =>
    rw [if_pos rfl, bne_iff_ne]
    have := shV_pos (n.x + p) (n.y + q) (n.z + r) n.a n.b n.c
    omega
theorem cand_mem {L : List Nd} {p q r : Int} {i : Nat} : i ∈ cand L p q r L.length ↔ ∃ n, L[i]? = some n ∧ ntakes n p q r = true := by
  unfold cand
  rw [List.mem_filter, List.mem_range]
  constructor
  · rintro ⟨h1, h2⟩
    refine ⟨L[i], List.getElem?_eq_getElem h1, ?_⟩
    rw [sc_takes (List.getElem?_eq_getElem h1), nscore_ne] at h2
    exact h2
  · rintro ⟨n, h1, h2⟩
    refine ⟨(List.getElem?_eq_some_iff.1 h1).1, ?_⟩
    rw [sc_takes h1, nscore_ne]
    exact h2
/-- what Choose answers -/
def Chosen (L : List Nd) (p q r : Int) (i e : Nat) : Prop :=
  (fitB 0 0 0 p q r = false ∧ i = 0 ∧ e = 1) ∨ (fitB 0 0 0 p q r = true ∧ cand L p q r L.length = [] ∧ i = 0 ∧ e = 12) ∨
    (fitB 0 0 0 p q r = true ∧ e = 0 ∧ i ∈ cand L p q r L.length ∧ ∀ j ∈ cand L p q r L.length, bef (scL L p q r) (nmL L) j i = false)
theorem chosen_one {L : List Nd} {p q r : Int} {i e i' e' : Nat} (h : Chosen L p q r i e) (h' : Chosen L p q r i' e') : i = i' ∧ e = e' := by
  rcases h with ⟨a, b, c⟩ | ⟨a, b, c, d⟩ | ⟨a, b, c, d⟩ <;> rcases h' with ⟨a', b', c'⟩ | ⟨a', b', c', d'⟩ | ⟨a', b', c', d'⟩
  · exact ⟨b.trans b'.symm, c.trans c'.symm⟩
  · rw [a] at a'; cases a'
  · rw [a] at a'; cases a'
  · rw [a] at a'; cases a'
  · exact ⟨c.trans c'.symm, d.trans d'.symm⟩
  · rw [b] at c'; cases c'
  · rw [a] at a'; cases a'
  · rw [b'] at c; cases c
  · exact ⟨bef_total (d' i c) (d i' c'), b.trans b'.symm⟩
set_option maxHeartbeats 1000000 in
theorem choose_any (L : List Nd) (A : Option Addr) (N c : Nat) (p q r : Int) (w : World) (hA : NodesAt w w.heap.size A L) (hN : L.length = N) (h1000 : N ≤ 1000) (hok : ∀ n ∈ L, Nok n) (bp : I64 p) (bq : I64 q) (br : I64 r) :
    Calls Try.prog 10 #[.slice A N c, .agg #[.int .i64 p, .int .i64 q, .int .i64 r]] w fun e w' => ∃ i er : Nat, e = .returned (.tuple #[.int .i64 (i : Nat), .int .i64 (er : Nat)]) ∧ Chosen L p q r i er ∧ Below w.heap.size w w' := by
  have k1 := Lib.hid fun W : World => Vc.may_any p q r W
  have k2 := Lib.hid fun (W : World) (h : Below w.heap.size w W) => rank_any L A N c p q r W ((hA.on h).mono h.size) hN h1000 hok bp bq br
  have V := Lib.hid (Vc.BK.new w p q r)
  have B := Lib.hid ((Below.refl w.heap.size w).alloc (Nat.le_refl _) (.cells #[.int .i64 p, .int .i64 q, .int .i64 r] 24))
  clear hA hok bp bq br
  cases hv : fitB 0 0 0 p q r with
  | false =>
    have HV := Lib.hid hv
    rw [hv] at k1
    clear hv
    go_enter Try.func10, Try.ntmps10
    go_wp2_with (go_at_call 20; (with_reducible refine (k1.out _).mono ?_); rintro e w1 ⟨rfl, hb⟩; have B1 := Lib.hid (B.out.trans (hb.mono B.out.size)); clear hb)
    go_ret2
    exact ⟨0, 1, rfl, .inl ⟨HV.out, rfl, rfl⟩, B1.out⟩
  | true =>
    have HV := Lib.hid hv
    rw [hv] at k1
    clear hv
    have HC : ∀ W : World, Below (w.alloc (.cells #[.int .i64 p, .int .i64 q, .int .i64 r] 24)).heap.size (w.alloc (.cells #[.int .i64 p, .int .i64 q, .int .i64 r] 24)) W → Vc.C3 W w.heap.size p q r := fun W h => (V.out.on h (by simp)).c3
    have HC := Lib.hid HC
    obtain ⟨v0, v1, v2⟩ := V.out.c3
    go_enter Try.func10, Try.ntmps10
    go_wp2_with (go_at_call 20; (with_reducible refine (k1.out _).mono ?_); rintro e w1 ⟨rfl, hb⟩; have B1 := Lib.hid (B.out.trans (hb.mono B.out.size)); obtain ⟨v0, v1, v2⟩ := HC.out _ hb; clear hb)
    refine (k2.out _ B1.out).mono ?_
    rintro e w2 ⟨A', cap', R, rfl, hR, hD, hb⟩
    have B2 := Lib.hid (B1.out.trans (hb.mono B1.out.size))
    have HR := Lib.hid hR
    clear hb hR
    cases R with
    | nil =>
      simp only [List.length_nil]
      go_wp2_with fail
      go_ret2
      refine ⟨0, 12, rfl, .inr (.inl ⟨HV.out, ?_, rfl, rfl⟩), B2.out⟩
      exact List.Perm.eq_nil HR.out.1.symm
    | cons i R =>
      obtain ⟨b, off, rfl, hbl, hcell⟩ := hD (by simp)
      have hc0 := hcell 0 i rfl
      rw [Nat.add_zero] at hc0
      have hl0 : ((((i :: R).length : Nat) : Int) == 0) = false := by simp <;> omega
      have hl1 : (0 : Int) < (((i :: R).length : Nat) : Int) := by simp <;> omega
      generalize hm : (i :: R).length = m at *
      clear hcell
      go_wp2_with fail
      go_ret2
      refine ⟨i, 0, rfl, .inr (.inr ⟨HV.out, rfl, HR.out.1.mem_iff.1 (by simp), fun j hj => ?_⟩), B2.out⟩
      have hj' := HR.out.1.mem_iff.2 hj
      have hp := List.pairwise_cons.1 HR.out.2
      rcases List.mem_cons.1 hj' with rfl | h
      · exact bef_irrefl _ _ _
      · exact hp.1 j h

/-! awake -/
def nA : Nd := ⟨[97], 4, 0, 0, 2, 0, 0, false⟩
def nB : Nd := ⟨[98], 4, 0, 0, 1, 0, 0, false⟩
def nZ : Nd := ⟨[], 0, 0, 0, 0, 0, 0, false⟩
theorem i64s (x : Int) (h : -10 ≤ x ∧ x ≤ 10) : I64 x := ⟨by omega, by omega⟩
theorem okA : Nok nA := ⟨by decide, i64s _ (by decide), i64s _ (by decide), i64s _ (by decide), i64s _ (by decide), i64s _ (by decide), i64s _ (by decide)⟩
theorem okB : Nok nB := ⟨by decide, i64s _ (by decide), i64s _ (by decide), i64s _ (by decide), i64s _ (by decide), i64s _ (by decide), i64s _ (by decide)⟩
theorem okAB : ∀ n ∈ [nA, nB], Nok n := by
  intro n hn
  simp only [List.mem_cons, List.not_mem_nil, or_false] at hn
  rcases hn with rfl | rfl
  · exact okA
  · exact okB
theorem ch1 : Chosen [nA, nB] 1 0 0 1 0 := .inr (.inr (by decide +kernel))
theorem ch2 : Chosen [nA, nB] 4 0 0 0 12 := .inr (.inl (by decide +kernel))
theorem ch3 : Chosen [nA, nB] (-1) 0 0 0 1 := .inl (by decide +kernel)
theorem aw1 : nmay nA = true := by decide +kernel
theorem aw2 : nmay nZ = false := by decide +kernel
theorem aw3 : ntakes nA 2 0 0 = true := by decide +kernel
theorem aw4 : ntakes nA 3 0 0 = false := by decide +kernel
theorem aw5 : nscore nB 1 0 0 = 500 := by decide +kernel
theorem awc (A : Option Addr) (p : Int) (hp : -10 ≤ p ∧ p ≤ 10) (i e : Nat) (hc : Chosen [nA, nB] p 0 0 i e) (W : World) (h : NodesAt W W.heap.size A [nA, nB]) :
    Calls Try.prog 10 #[.slice A 2 2, .agg #[.int .i64 p, .int .i64 0, .int .i64 0]] W (RetBelow (.tuple #[.int .i64 (i : Nat), .int .i64 (e : Nat)]) W) :=
  (choose_any [nA, nB] A 2 2 p 0 0 W h rfl (by omega) okAB (i64s _ hp) (i64s _ (by decide)) (i64s _ (by decide))).mono (by
    rintro e' w' ⟨i', er, rfl, h1, h2⟩
    obtain ⟨rfl, rfl⟩ := chosen_one hc h1
    exact ⟨rfl, h2⟩)
theorem build33_3 (s : ByteArray) (a b c x y z : Int) (w : World) : (Instr.build 33 #[(0, .string s), (1, .agg #[.int .i64 a, .int .i64 b, .int .i64 c]), (2, .agg #[.int .i64 x, .int .i64 y, .int .i64 z])]).run Try.prog w = .ok (.agg #[.string s, .int .i64 a, .int .i64 b, .int .i64 c, .int .i64 x, .int .i64 y, .int .i64 z, .bool false]) w := run_build w 33 _ _ (by kernel_rfl)
theorem build33_0 (w : World) : (Instr.build 33 #[]).run Try.prog w = .ok (.agg #[.string ⟨#[]⟩, .int .i64 0, .int .i64 0, .int .i64 0, .int .i64 0, .int .i64 0, .int .i64 0, .bool false]) w := run_build w 33 _ _ (by kernel_rfl)
def LB (W : World) (g : Nat) : Prop := W.heap[g]? = some (.cells #[.string ⟨#[97]⟩, .int .i64 4, .int .i64 0, .int .i64 0, .int .i64 2, .int .i64 0, .int .i64 0, .bool false, .string ⟨#[98]⟩, .int .i64 4, .int .i64 0, .int .i64 0, .int .i64 1, .int .i64 0, .int .i64 0, .bool false] 33 (0, 0))
theorem LB.nodes {W : World} {g : Nat} (h : LB W g) : NodesAt W W.heap.size (some ⟨g, 0, none⟩) [nA, nB] := fun _ => by
  refine ⟨g, 0, rfl, (Array.getElem?_eq_some_iff.1 h).1, ?_⟩
  unfold LB at h
  intro j n hn
  match j, hn with
  | 0, hn =>
    obtain rfl : nA = n := by simpa using hn
    constructor <;> simp [World.cell?, h, nA, Nm.str]
  | 1, hn =>
    obtain rfl : nB = n := by simpa using hn
    constructor <;> simp [World.cell?, h, nB, Nm.str]
  | k + 2, hn => simp at hn
structure LC (W : World) (g : Nat) : Prop where
  c0 : W.cell? ⟨g, 0, none⟩ = some (.string ⟨#[97]⟩)
  c1 : W.cell? ⟨g, 1, none⟩ = some (.int .i64 4)
  c2 : W.cell? ⟨g, 2, none⟩ = some (.int .i64 0)
  c3 : W.cell? ⟨g, 3, none⟩ = some (.int .i64 0)
  c4 : W.cell? ⟨g, 4, none⟩ = some (.int .i64 2)
  c5 : W.cell? ⟨g, 5, none⟩ = some (.int .i64 0)
  c6 : W.cell? ⟨g, 6, none⟩ = some (.int .i64 0)
  c7 : W.cell? ⟨g, 7, none⟩ = some (.bool false)
  c8 : W.cell? ⟨g, 8, none⟩ = some (.string ⟨#[98]⟩)
  c9 : W.cell? ⟨g, 9, none⟩ = some (.int .i64 4)
  c10 : W.cell? ⟨g, 10, none⟩ = some (.int .i64 0)
  c11 : W.cell? ⟨g, 11, none⟩ = some (.int .i64 0)
  c12 : W.cell? ⟨g, 12, none⟩ = some (.int .i64 1)
  c13 : W.cell? ⟨g, 13, none⟩ = some (.int .i64 0)
  c14 : W.cell? ⟨g, 14, none⟩ = some (.int .i64 0)
  c15 : W.cell? ⟨g, 15, none⟩ = some (.bool false)
theorem LB.cells {W : World} {g : Nat} (h : LB W g) : LC W g := by
  unfold LB at h
  constructor <;> simp [World.cell?, h]
theorem LB.on {W W' : World} {g : Nat} (h : LB W g) (hb : Below W.heap.size W W') : LB W' g := (hb.block g (Array.getElem?_eq_some_iff.1 h).1).trans h
set_option maxHeartbeats 2000000 in
theorem awake_any (w : World) : Calls Try.prog 9 #[] w (RetBelow (.bool true) w) := by
  have b1 := Vc.build23_1
  have b3 := build33_3
  have b0 := build33_0
  have B := (Below.refl w.heap.size w).alloc (Nat.le_refl _) (.cells #[.string ⟨#[97]⟩, .int .i64 4, .int .i64 0, .int .i64 0, .int .i64 2, .int .i64 0, .int .i64 0, .bool false, .string ⟨#[98]⟩, .int .i64 4, .int .i64 0, .int .i64 0, .int .i64 1, .int .i64 0, .int .i64 0, .bool false] 33)
  have L0 : LB (w.alloc (.cells #[.string ⟨#[97]⟩, .int .i64 4, .int .i64 0, .int .i64 0, .int .i64 2, .int .i64 0, .int .i64 0, .bool false, .string ⟨#[98]⟩, .int .i64 4, .int .i64 0, .int .i64 0, .int .i64 1, .int .i64 0, .int .i64 0, .bool false] 33)) w.heap.size := heap_alloc_new w _
  have k1 := Lib.hid fun W h => awc (some ⟨w.heap.size, 0, none⟩) 1 (by decide) 1 0 ch1 W h
  have k2 := Lib.hid fun W h => awc (some ⟨w.heap.size, 0, none⟩) 4 (by decide) 0 12 ch2 W h
  have k3 := Lib.hid fun W h => awc (some ⟨w.heap.size, 0, none⟩) (-1) (by decide) 0 1 ch3 W h
  have k4 : ∀ W : World, Calls Try.prog 15 #[.agg #[.string ⟨#[97]⟩, .int .i64 4, .int .i64 0, .int .i64 0, .int .i64 2, .int .i64 0, .int .i64 0, .bool false]] W (RetBelow (.bool true) W) := fun W => by
    have := pmay_any nA W (by decide); rw [aw1] at this; exact this
  have k5 : ∀ W : World, Calls Try.prog 15 #[.agg #[.string ⟨#[]⟩, .int .i64 0, .int .i64 0, .int .i64 0, .int .i64 0, .int .i64 0, .int .i64 0, .bool false]] W (RetBelow (.bool false) W) := fun W => by
    have := pmay_any nZ W (by decide); rw [aw2] at this; exact this
  have k6 : ∀ W : World, Calls Try.prog 19 #[.agg #[.string ⟨#[97]⟩, .int .i64 4, .int .i64 0, .int .i64 0, .int .i64 2, .int .i64 0, .int .i64 0, .bool false], .agg #[.int .i64 2, .int .i64 0, .int .i64 0]] W (RetBelow (.bool true) W) := fun W => by
    have := takes_any nA 2 0 0 W okA (i64s _ (by decide)) (i64s _ (by decide)) (i64s _ (by decide)); rw [aw3] at this; exact this
  have k7 : ∀ W : World, Calls Try.prog 19 #[.agg #[.string ⟨#[97]⟩, .int .i64 4, .int .i64 0, .int .i64 0, .int .i64 2, .int .i64 0, .int .i64 0, .bool false], .agg #[.int .i64 3, .int .i64 0, .int .i64 0]] W (RetBelow (.bool false) W) := fun W => by
    have := takes_any nA 3 0 0 W okA (i64s _ (by decide)) (i64s _ (by decide)) (i64s _ (by decide)); rw [aw4] at this; exact this
  have k8 : ∀ W : World, Calls Try.prog 17 #[.agg #[.string ⟨#[98]⟩, .int .i64 4, .int .i64 0, .int .i64 0, .int .i64 1, .int .i64 0, .int .i64 0, .bool false], .agg #[.int .i64 1, .int .i64 0, .int .i64 0]] W (RetBelow (.int .i64 500) W) := fun W => by
    have := score_any nB 1 0 0 W okB (i64s _ (by decide)) (i64s _ (by decide)) (i64s _ (by decide)); rw [aw5] at this; exact this
  have k4 := Lib.hid k4
  have k5 := Lib.hid k5
  have k6 := Lib.hid k6
  have k7 := Lib.hid k7
  have k8 := Lib.hid k8
  have B0 := Lib.hid B
  have L0 := Lib.hid L0
  clear B
  go_enter Try.func9, Try.ntmps9
  go_wp2_with (first | (go_at_call 10; (with_reducible refine (k1.out _ L0.out.nodes).mono ?_); rintro e w1 ⟨rfl, hb⟩; have B1 := Lib.hid (B0.out.trans (hb.mono B0.out.size)); have L1 := Lib.hid (L0.out.on hb); clear hb; obtain ⟨c0, c1, c2, c3, c4, c5, c6, c7, c8, c9, c10, c11, c12, c13, c14, c15⟩ := L1.out.cells) | (go_at_call 10; (with_reducible refine (k2.out _ L1.out.nodes).mono ?_); rintro e w2 ⟨rfl, hb⟩; have B2 := Lib.hid (B1.out.trans (hb.mono B1.out.size)); have L2 := Lib.hid (L1.out.on hb); clear hb; obtain ⟨c0, c1, c2, c3, c4, c5, c6, c7, c8, c9, c10, c11, c12, c13, c14, c15⟩ := L2.out.cells) | (go_at_call 10; (with_reducible refine (k3.out _ L2.out.nodes).mono ?_); rintro e w3 ⟨rfl, hb⟩; have B3 := Lib.hid (B2.out.trans (hb.mono B2.out.size)); have L3 := Lib.hid (L2.out.on hb); clear hb; obtain ⟨c0, c1, c2, c3, c4, c5, c6, c7, c8, c9, c10, c11, c12, c13, c14, c15⟩ := L3.out.cells) | (go_at_call 15; (with_reducible refine (k4.out _).mono ?_); rintro e w4 ⟨rfl, hb⟩; have B4 := Lib.hid (B3.out.trans (hb.mono B3.out.size)); have L4 := Lib.hid (L3.out.on hb); clear hb; obtain ⟨c0, c1, c2, c3, c4, c5, c6, c7, c8, c9, c10, c11, c12, c13, c14, c15⟩ := L4.out.cells) | (go_at_call 15; (with_reducible refine (k5.out _).mono ?_); rintro e w5 ⟨rfl, hb⟩; have B5 := Lib.hid (B4.out.trans (hb.mono B4.out.size)); have L5 := Lib.hid (L4.out.on hb); clear hb; obtain ⟨c0, c1, c2, c3, c4, c5, c6, c7, c8, c9, c10, c11, c12, c13, c14, c15⟩ := L5.out.cells) | (go_at_call 19; (with_reducible refine (k6.out _).mono ?_); rintro e w6 ⟨rfl, hb⟩; have B6 := Lib.hid (B5.out.trans (hb.mono B5.out.size)); have L6 := Lib.hid (L5.out.on hb); clear hb; obtain ⟨c0, c1, c2, c3, c4, c5, c6, c7, c8, c9, c10, c11, c12, c13, c14, c15⟩ := L6.out.cells) | (go_at_call 19; (with_reducible refine (k7.out _).mono ?_); rintro e w7 ⟨rfl, hb⟩; have B7 := Lib.hid (B6.out.trans (hb.mono B6.out.size)); have L7 := Lib.hid (L6.out.on hb); clear hb; obtain ⟨c0, c1, c2, c3, c4, c5, c6, c7, c8, c9, c10, c11, c12, c13, c14, c15⟩ := L7.out.cells) | (go_at_call 17; (with_reducible refine (k8.out _).mono ?_); rintro e w8 ⟨rfl, hb⟩; have B8 := Lib.hid (B7.out.trans (hb.mono B7.out.size)); have L8 := Lib.hid (L7.out.on hb); clear hb; obtain ⟨c0, c1, c2, c3, c4, c5, c6, c7, c8, c9, c10, c11, c12, c13, c14, c15⟩ := L8.out.cells))
  go_ret
  exact ⟨rfl, B8.out⟩
end Go.Proofs.Ytjpnkecfoealoaa
