import Derived.Test.YtjpnkecfoealoaaQi
import Derived.Test.YtjpnkecfoealoaaLFits
import Derived.Deep.RegionLaw
namespace Go.Proofs.Ytjpnkecfoealoaa
set_option maxRecDepth 20000
open Go.RowKit
open Go.Proofs.Ytjpnkecfoealoaa.Vc (I64 fitB RetBelow)
set_option linter.unusedVariables false
attribute [local irreducible] wpQuiet

theorem sc_app {L : List Nd} {n : Nd} {p q r : Int} {i : Nat} (h : i < L.length) : scL (L ++ [n]) p q r i = scL L p q r i := by
  unfold scL; rw [List.getElem?_append_left h]
theorem nm_app {L : List Nd} {n : Nd} {i : Nat} (h : i < L.length) : nmL (L ++ [n]) i = nmL L i := by
  unfold nmL; rw [List.getElem?_append_left h]
theorem bef_app {L : List Nd} {n : Nd} {p q r : Int} {i j : Nat} (hi : i < L.length) (hj : j < L.length) : bef (scL (L ++ [n]) p q r) (nmL (L ++ [n])) i j = bef (scL L p q r) (nmL L) i j := by
  unfold bef; rw [sc_app hi, sc_app hj, nm_app hi, nm_app hj]
theorem cand_app {L : List Nd} {n : Nd} {p q r : Int} {i : Nat} : i ∈ cand (L ++ [n]) p q r (L ++ [n]).length ↔ i ∈ cand L p q r L.length ∨ (i = L.length ∧ ntakes n p q r = true) := by
  rw [cand_mem, cand_mem]
  constructor
  · rintro ⟨m, h1, h2⟩
    by_cases h : i < L.length
    · rw [List.getElem?_append_left h] at h1
      exact .inl ⟨m, h1, h2⟩
    · have hl := (List.getElem?_eq_some_iff.1 h1).1
      rw [List.length_append, List.length_singleton] at hl
      have e : i = L.length := by omega
      subst e
      rw [List.getElem?_append_right (Nat.le_refl _), Nat.sub_self] at h1
      obtain rfl : n = m := by simpa using h1
      exact .inr ⟨rfl, h2⟩
  · rintro (⟨m, h1, h2⟩ | ⟨rfl, h2⟩)
    · exact ⟨m, by rw [List.getElem?_append_left (List.getElem?_eq_some_iff.1 h1).1]; exact h1, h2⟩
    · exact ⟨n, by rw [List.getElem?_append_right (Nat.le_refl _), Nat.sub_self]; rfl, h2⟩
theorem cand_len_lt {L : List Nd} {p q r : Int} {i : Nat} (h : i ∈ cand L p q r L.length) : i < L.length := cand_lt L p q r L.length i h
theorem more_no {L : List Nd} {n : Nd} {p q r : Int} {i e : Nat} (h : Chosen L p q r i e) (hn : ntakes n p q r = false) : Chosen (L ++ [n]) p q r i e := by
  have hc : ∀ j, j ∈ cand (L ++ [n]) p q r (L ++ [n]).length ↔ j ∈ cand L p q r L.length := fun j => by rw [cand_app, hn]; simp
  rcases h with h | ⟨a, b, c, d⟩ | ⟨a, b, c, d⟩
  · exact .inl h
  · refine .inr (.inl ⟨a, ?_, c, d⟩)
    rw [List.eq_nil_iff_forall_not_mem]
    intro j hj
    rw [hc, b] at hj
    cases hj
  · refine .inr (.inr ⟨a, b, (hc i).2 c, fun j hj => ?_⟩)
    have hj := (hc j).1 hj
    rw [bef_app (cand_len_lt hj) (cand_len_lt c)]
    exact d j hj
theorem more_yes {L : List Nd} {n : Nd} {p q r : Int} {i e j f : Nat} (h : Chosen L p q r i e) (h' : Chosen (L ++ [n]) p q r j f) (hn : ntakes n p q r = true) :
    f = 0 ∧ ((j = L.length ∧ e = 12) ∨ (j = L.length ∧ e = 0 ∧ ∃ m, L[i]? = some m ∧ nscore n p q r ≤ nscore m p q r) ∨ (j < L.length ∧ e = 0 ∧ j = i)) := by
  have hv := (takes_may hn).2.2.1
  have hmem : L.length ∈ cand (L ++ [n]) p q r (L ++ [n]).length := cand_app.2 (.inr ⟨rfl, hn⟩)
  rcases h' with ⟨a, _⟩ | ⟨_, b, _⟩ | ⟨_, b, c, d⟩
  · rw [hv] at a; cases a
  · rw [b] at hmem; cases hmem
  · refine ⟨b, ?_⟩
    rcases cand_app.1 c with hc | ⟨rfl, _⟩
    · have hj := cand_len_lt hc
      have hL : Chosen L p q r j 0 := .inr (.inr ⟨hv, rfl, hc, fun k hk => by rw [← bef_app (n := n) (cand_len_lt hk) hj]; exact d k (cand_app.2 (.inl hk))⟩)
      obtain ⟨e1, e2⟩ := chosen_one h hL
      exact .inr (.inr ⟨hj, e2, e1.symm⟩)
    · rcases h with ⟨a, _⟩ | ⟨_, _, _, e3⟩ | ⟨_, e1, e2, e3⟩
      · rw [hv] at a; cases a
      · exact .inl ⟨rfl, e3⟩
      · refine .inr (.inl ⟨rfl, e1, ?_⟩)
        obtain ⟨m, hm, _⟩ := cand_mem.1 e2
        refine ⟨m, hm, ?_⟩
        have hb := d i (cand_app.2 (.inl e2))
        unfold bef at hb
        have s1 : scL (L ++ [n]) p q r i = nscore m p q r := by rw [sc_app (cand_len_lt e2), sc_takes hm]
        have s2 : scL (L ++ [n]) p q r L.length = nscore n p q r := sc_takes (by rw [List.getElem?_append_right (Nat.le_refl _), Nat.sub_self]; rfl)
        rw [s1, s2] at hb
        by_cases e : nscore m p q r = nscore n p q r
        · omega
        · rw [if_neg e, decide_eq_false_iff_not] at hb
          omega
/-- the rows of the law: the node's and the demand's box -/
structure LM (w X : World) (n : Nd) (p q r : Int) : Prop where
  b : Below w.heap.size w X
  n : NK X w.heap.size n
  v : Vc.BK X (w.heap.size + 1) p q r
theorem LM.on {w X Y : World} {n : Nd} {p q r : Int} (h : LM w X n p q r) (hb : Below X.heap.size X Y) : LM w Y n p q r :=
  ⟨h.b.trans (hb.mono h.b.size), h.n.on hb h.n.lt, h.v.on hb h.v.lt⟩
theorem LM.new (w : World) (s0 : List UInt8) (a1 a2 a3 u1 u2 u3 : Int) (d0 : Bool) (p q r : Int) : LM w ((w.alloc (.cells #[.string (Nm.str s0), .int .i64 a1, .int .i64 a2, .int .i64 a3, .int .i64 u1, .int .i64 u2, .int .i64 u3, .bool d0] 33)).alloc (.cells #[.int .i64 p, .int .i64 q, .int .i64 r] 24)) (⟨s0, a1, a2, a3, u1, u2, u3, d0⟩ : Nd) p q r :=
  ⟨below2 w _ _, (NK.new w (⟨s0, a1, a2, a3, u1, u2, u3, d0⟩ : Nd)).alloc _, by have := Vc.BK.new (w.alloc (.cells #[.string (Nm.str s0), .int .i64 a1, .int .i64 a2, .int .i64 a3, .int .i64 u1, .int .i64 u2, .int .i64 u3, .bool d0] 33)) p q r; rw [World.size_alloc] at this; exact this⟩
theorem LM.all {w X : World} {s0 : List UInt8} {a1 a2 a3 u1 u2 u3 : Int} {d0 : Bool} {p q r : Int} (h : LM w X (⟨s0, a1, a2, a3, u1, u2, u3, d0⟩ : Nd) p q r) : X.cell? ⟨w.heap.size, 0, none⟩ = some (.string (Nm.str s0)) ∧ X.cell? ⟨w.heap.size, 1, none⟩ = some (.int .i64 a1) ∧ X.cell? ⟨w.heap.size, 2, none⟩ = some (.int .i64 a2) ∧ X.cell? ⟨w.heap.size, 3, none⟩ = some (.int .i64 a3) ∧ X.cell? ⟨w.heap.size, 4, none⟩ = some (.int .i64 u1) ∧ X.cell? ⟨w.heap.size, 5, none⟩ = some (.int .i64 u2) ∧ X.cell? ⟨w.heap.size, 6, none⟩ = some (.int .i64 u3) ∧ X.cell? ⟨w.heap.size, 7, none⟩ = some (.bool d0) ∧ X.cell? ⟨w.heap.size + 1, 0, none⟩ = some (.int .i64 p) ∧ X.cell? ⟨w.heap.size + 1, 1, none⟩ = some (.int .i64 q) ∧ X.cell? ⟨w.heap.size + 1, 2, none⟩ = some (.int .i64 r) :=
  ⟨h.n.cells.c0, h.n.cells.c1, h.n.cells.c2, h.n.cells.c3, h.n.cells.c4, h.n.cells.c5, h.n.cells.c6, h.n.cells.c7, h.v.c3.1, h.v.c3.2.1, h.v.c3.2.2⟩

set_option maxHeartbeats 2000000 in
theorem law_more (L : List Nd) (A : Option Addr) (N c : Nat) (n : Nd) (p q r : Int) (w : World) (hA : NodesAt w w.heap.size A L) (hN : L.length = N) (hNc : N ≤ c) (hc : c ≤ 9223372036854775807) (hok : ∀ n ∈ L, Nok n) (hno : A = none → c = 0) (ok : Nok n) (bp : I64 p) (bq : I64 q) (br : I64 r) :
    Calls Try.prog 6 #[.slice A N c, nodeV n, .agg #[.int .i64 p, .int .i64 q, .int .i64 r]] w (RetBelow (.bool true) w) := by
  obtain ⟨s0, a1, a2, a3, u1, u2, u3, d0⟩ := n
  have k0 := Lib.hid awake_any
  have KT := Lib.hid fun W : World => takes_any (⟨s0, a1, a2, a3, u1, u2, u3, d0⟩ : Nd) p q r W ok bp bq br
  have KS := Lib.hid fun W : World => score_any (⟨s0, a1, a2, a3, u1, u2, u3, d0⟩ : Nd) p q r W ok bp bq br
  have KL := Lib.hid fun (m : Nd) (hm : m ∈ L) (W : World) => score_any m p q r W (hok m hm) bp bq br
  have X0 := Lib.hid (LM.new w s0 a1 a2 a3 u1 u2 u3 d0 p q r)
  have hok2 : ∀ m ∈ L ++ [(⟨s0, a1, a2, a3, u1, u2, u3, d0⟩ : Nd)], Nok m := fun m hm => by
    rcases List.mem_append.1 hm with h | h
    · exact hok m h
    · obtain rfl : m = (⟨s0, a1, a2, a3, u1, u2, u3, d0⟩ : Nd) := by simpa using h
      exact ok
  by_cases h40 : N ≤ 40
  · have KC := Lib.hid fun (X : World) (h : Below w.heap.size w X) => choose_int L A N c p q r X ((hA.on h).mono h.size) hN (by omega) hok bp bq br
    have KD := Lib.hid fun (B : Option Addr) (m k : Nat) (X : World) (h : NodesAt X X.heap.size B (L ++ [(⟨s0, a1, a2, a3, u1, u2, u3, d0⟩ : Nd)])) (hm : (L ++ [(⟨s0, a1, a2, a3, u1, u2, u3, d0⟩ : Nd)]).length = m) => choose_int (L ++ [(⟨s0, a1, a2, a3, u1, u2, u3, d0⟩ : Nd)]) B m k p q r X h hm (by rw [← hm, List.length_append, List.length_singleton]; omega) hok2 bp bq br
    have HA := Lib.hid hA
    have HN := Lib.hid hN
    have HNC := Lib.hid hNc
    have HNO := Lib.hid hno
    have h41 : decide (40 < N) = false := by simpa using h40
    have h42 : decide ((40 : Int) < N) = false := by simp; omega
    have H40 := Lib.hid h40
    unfold nodeV nodeC at KT KS
    clear hA hN hNc hc hok hno bp bq br h40 ok hok2
    obtain ⟨c0, c1, c2, c3, c4, c5, c6, c7, v0, v1, v2⟩ := X0.out.all
    unfold nodeV nodeC
    go_enter Try.func6, Try.ntmps6
    go_wp2_with (go_at_call 9; (with_reducible refine (k0.out _).mono ?_); rintro e w1 ⟨rfl, hb⟩; have X1 := Lib.hid (X0.out.on hb); clear hb; obtain ⟨c0, c1, c2, c3, c4, c5, c6, c7, v0, v1, v2⟩ := X1.out.all)
    rename_i K hK
    have HK : ∀ (w6 : World) (A6 : Option Addr) (M cq : Nat) (z17 z19 z21 : Value), Hid (LM w w6 (⟨s0, a1, a2, a3, u1, u2, u3, d0⟩ : Nd) p q r) → Hid (NodesAt w6 w6.heap.size A6 (L ++ [(⟨s0, a1, a2, a3, u1, u2, u3, d0⟩ : Nd)])) → Hid ((L ++ [(⟨s0, a1, a2, a3, u1, u2, u3, d0⟩ : Nd)]).length = M) → K { tmps := #[.slice A N c, .agg #[.string (Nm.str s0), .int .i64 a1, .int .i64 a2, .int .i64 a3, .int .i64 u1, .int .i64 u2, .int .i64 u3, .bool d0], .agg #[.int .i64 p, .int .i64 q, .int .i64 r], undef, .pointer (some ⟨w.heap.size, 0, none⟩), .pointer (some ⟨w.heap.size + 1, 0, none⟩), .bool false, .slice A6 M cq, undef, undef, undef, undef, .bool true, .bool false, .slice A N c, .int .i64 (N : Int), .bool false, z17, .slice A N c, z19, .agg #[.string (Nm.str s0), .int .i64 a1, .int .i64 a2, .int .i64 a3, .int .i64 u1, .int .i64 u2, .int .i64 u3, .bool d0], z21, .slice A6 M cq, undef, undef, undef, undef, undef, undef, undef, undef, undef, undef, undef, undef, undef, undef, undef, undef, undef, undef, undef, undef, undef, undef, undef, undef, undef, undef, undef, undef, undef, undef, undef, undef, undef, undef, undef, undef, undef, undef, undef, undef, undef, undef, undef, undef, undef, undef, undef, undef, undef, undef, undef, undef, undef, undef, undef, undef, undef], defers := [] } w6 := by
      intro w6 A6 M cq z17 z19 z21 X6 HN6 HM
      refine hK _ _ ?_
      obtain ⟨c0, c1, c2, c3, c4, c5, c6, c7, v0, v1, v2⟩ := X6.out.all
      go_wp2_with fail
      refine (KC.out _ X6.out.b).mono ?_
      rintro e w7 ⟨I1, E1, i, er, rfl, hI1, hE1, hC1, hb⟩
      have X7 := Lib.hid (X6.out.on hb)
      have HI1 := Lib.hid hI1
      have HE1 := Lib.hid hE1
      have HC1 := Lib.hid hC1
      clear hI1 hE1 hC1
      have HN7 := Lib.hid ((HN6.out.on hb).mono hb.size)
      clear hb
      obtain ⟨c0, c1, c2, c3, c4, c5, c6, c7, v0, v1, v2⟩ := X7.out.all
      go_wp2_with fail
      refine (KD.out A6 M cq w7 HN7.out HM.out).mono ?_
      rintro e w8 ⟨I2, E2, j, fr, rfl, hI2, hE2, hC2, hb⟩
      have X8 := Lib.hid (X7.out.on hb)
      clear hb HN7 HN6
      obtain ⟨c0, c1, c2, c3, c4, c5, c6, c7, v0, v1, v2⟩ := X8.out.all
      have HC2 := Lib.hid hC2
      clear hC2
      cases ht : ntakes (⟨s0, a1, a2, a3, u1, u2, u3, d0⟩ : Nd) p q r with
      | false =>
        rw [ht] at KT
        obtain ⟨e1, e2⟩ := chosen_one (more_no HC1.out ht) HC2.out
        subst e1 e2
        obtain rfl : I1 = I2 := HI1.out.trans hI2.symm
        obtain rfl : E1 = E2 := HE1.out.trans hE2.symm
        have q1 : (I1 == I1) = true := beq_self_eq_true _
        have q2 : (E1 == E1) = true := beq_self_eq_true _
        clear ht hI2 hE2 HI1 HE1
        go_wp2_with (go_at_call 19; (with_reducible refine (KT.out _).mono ?_); rintro e w9 ⟨rfl, hb⟩; have X9 := Lib.hid (X8.out.on hb); clear hb)
        go_ret
        exact ⟨rfl, X9.out.b⟩
      | true =>
        rw [ht] at KT
        obtain ⟨hf, hcase⟩ := more_yes HC1.out HC2.out ht
        obtain rfl : E2 = 0 := by omega
        have HCS := Lib.hid hcase
        have HI2 := Lib.hid hI2
        clear hcase hI2 hE2 hf ht
        go_wp2_with (go_at_call 19; (with_reducible refine (KT.out _).mono ?_); rintro e w9 ⟨rfl, hb⟩; have X9 := Lib.hid (X8.out.on hb); clear hb)
        have X9d : Hid (LM w w9.drew (⟨s0, a1, a2, a3, u1, u2, u3, d0⟩ : Nd) p q r) := Lib.hid (X9.out.on (Below.refl _ w9).drew)
        have hI1 := HI1.out
        have hI2 := HI2.out
        have hE1 := HE1.out
        have HNQ := HN.out
        rcases HCS.out with ⟨hj, he⟩ | ⟨hj, he, m, hm, hle⟩ | ⟨hj, he, hji⟩
        · obtain rfl : E1 = 12 := by omega
          obtain rfl : I2 = (N : Int) := by omega
          have q1 : (((N : Nat) : Int) == N) = true := beq_self_eq_true _
          clear hI1 hI2 hE1 hj he HNQ
          have c0 : ∀ Z : Wd (fun X => LM w X (⟨s0, a1, a2, a3, u1, u2, u3, d0⟩ : Nd) p q r), Z.X.cell? ⟨w.heap.size, 0, none⟩ = some (.string (Nm.str s0)) := fun Z => Z.ok.all.1
          have c1 : ∀ Z : Wd (fun X => LM w X (⟨s0, a1, a2, a3, u1, u2, u3, d0⟩ : Nd) p q r), Z.X.cell? ⟨w.heap.size, 1, none⟩ = some (.int .i64 a1) := fun Z => Z.ok.all.2.1
          have c2 : ∀ Z : Wd (fun X => LM w X (⟨s0, a1, a2, a3, u1, u2, u3, d0⟩ : Nd) p q r), Z.X.cell? ⟨w.heap.size, 2, none⟩ = some (.int .i64 a2) := fun Z => Z.ok.all.2.2.1
          have c3 : ∀ Z : Wd (fun X => LM w X (⟨s0, a1, a2, a3, u1, u2, u3, d0⟩ : Nd) p q r), Z.X.cell? ⟨w.heap.size, 3, none⟩ = some (.int .i64 a3) := fun Z => Z.ok.all.2.2.2.1
          have c4 : ∀ Z : Wd (fun X => LM w X (⟨s0, a1, a2, a3, u1, u2, u3, d0⟩ : Nd) p q r), Z.X.cell? ⟨w.heap.size, 4, none⟩ = some (.int .i64 u1) := fun Z => Z.ok.all.2.2.2.2.1
          have c5 : ∀ Z : Wd (fun X => LM w X (⟨s0, a1, a2, a3, u1, u2, u3, d0⟩ : Nd) p q r), Z.X.cell? ⟨w.heap.size, 5, none⟩ = some (.int .i64 u2) := fun Z => Z.ok.all.2.2.2.2.2.1
          have c6 : ∀ Z : Wd (fun X => LM w X (⟨s0, a1, a2, a3, u1, u2, u3, d0⟩ : Nd) p q r), Z.X.cell? ⟨w.heap.size, 6, none⟩ = some (.int .i64 u3) := fun Z => Z.ok.all.2.2.2.2.2.2.1
          have c7 : ∀ Z : Wd (fun X => LM w X (⟨s0, a1, a2, a3, u1, u2, u3, d0⟩ : Nd) p q r), Z.X.cell? ⟨w.heap.size, 7, none⟩ = some (.bool d0) := fun Z => Z.ok.all.2.2.2.2.2.2.2.1
          have v0 : ∀ Z : Wd (fun X => LM w X (⟨s0, a1, a2, a3, u1, u2, u3, d0⟩ : Nd) p q r), Z.X.cell? ⟨w.heap.size + 1, 0, none⟩ = some (.int .i64 p) := fun Z => Z.ok.all.2.2.2.2.2.2.2.2.1
          have v1 : ∀ Z : Wd (fun X => LM w X (⟨s0, a1, a2, a3, u1, u2, u3, d0⟩ : Nd) p q r), Z.X.cell? ⟨w.heap.size + 1, 1, none⟩ = some (.int .i64 q) := fun Z => Z.ok.all.2.2.2.2.2.2.2.2.2.1
          have v2 : ∀ Z : Wd (fun X => LM w X (⟨s0, a1, a2, a3, u1, u2, u3, d0⟩ : Nd) p q r), Z.X.cell? ⟨w.heap.size + 1, 2, none⟩ = some (.int .i64 r) := fun Z => Z.ok.all.2.2.2.2.2.2.2.2.2.2
          refine wp_region_class (fun X => LM w X (⟨s0, a1, a2, a3, u1, u2, u3, d0⟩ : Nd) p q r) (by kernel_rfl) (by kernel_rfl) X9d.out (fun hne => ?_)
          haveI := hne
          iterate 34 (quiet_step (fail))
          refine wpQuiet_nil ?_
          intro z1 hz1
          obtain ⟨⟨zz, E1'⟩, rfl⟩ := hz1
          have E1' := Lib.hid E1'
          go_wp2_with fail
          go_ret
          exact ⟨rfl, E1'.out.b⟩
        · obtain rfl : E1 = 0 := by omega
          obtain rfl : I2 = (N : Int) := by omega
          obtain rfl : I1 = (i : Int) := hI1
          have q1 : (((N : Nat) : Int) == N) = true := beq_self_eq_true _
          have hiL := (List.getElem?_eq_some_iff.1 hm).1
          obtain ⟨b0, off0, rfl, _, _⟩ := HA.out (fun e => by rw [e] at hiL; cases hiL)
          have hiN : (i : Int) < N := by omega
          have HM := Lib.hid hm
          have ks := KL.out m (List.mem_of_getElem? hm)
          unfold nodeV nodeC at ks
          have CN := Lib.hid fun Z : Wd (fun X => LM w X (⟨s0, a1, a2, a3, u1, u2, u3, d0⟩ : Nd) p q r) => Calls.in_class Z (KS.out Z.X) (fun X h1 h2 => LM.on h1 h2)
          have CI := Lib.hid fun Z : Wd (fun X => LM w X (⟨s0, a1, a2, a3, u1, u2, u3, d0⟩ : Nd) p q r) => Calls.in_class Z (ks Z.X) (fun X h1 h2 => LM.on h1 h2)
          have hdec : decide (nscore (⟨s0, a1, a2, a3, u1, u2, u3, d0⟩ : Nd) p q r ≤ nscore m p q r) = true := decide_eq_true hle
          generalize nscore (⟨s0, a1, a2, a3, u1, u2, u3, d0⟩ : Nd) p q r = S1 at *
          generalize nscore m p q r = S2 at *
          clear hI2 hE1 hj he HNQ hm ks hle hiL
          have y0 : ∀ Z : Wd (fun X => LM w X (⟨s0, a1, a2, a3, u1, u2, u3, d0⟩ : Nd) p q r), Z.X.cell? ⟨b0, off0 + i * 8, none⟩ = some (.string (Nm.str m.s)) := fun Z => (HA.out.at Z.ok.b HM.out).c0
          have y1 : ∀ Z : Wd (fun X => LM w X (⟨s0, a1, a2, a3, u1, u2, u3, d0⟩ : Nd) p q r), Z.X.cell? ⟨b0, off0 + i * 8 + 1, none⟩ = some (.int .i64 m.a) := fun Z => (HA.out.at Z.ok.b HM.out).c1
          have y2 : ∀ Z : Wd (fun X => LM w X (⟨s0, a1, a2, a3, u1, u2, u3, d0⟩ : Nd) p q r), Z.X.cell? ⟨b0, off0 + i * 8 + 2, none⟩ = some (.int .i64 m.b) := fun Z => (HA.out.at Z.ok.b HM.out).c2
          have y3 : ∀ Z : Wd (fun X => LM w X (⟨s0, a1, a2, a3, u1, u2, u3, d0⟩ : Nd) p q r), Z.X.cell? ⟨b0, off0 + i * 8 + 3, none⟩ = some (.int .i64 m.c) := fun Z => (HA.out.at Z.ok.b HM.out).c3
          have y4 : ∀ Z : Wd (fun X => LM w X (⟨s0, a1, a2, a3, u1, u2, u3, d0⟩ : Nd) p q r), Z.X.cell? ⟨b0, off0 + i * 8 + 4, none⟩ = some (.int .i64 m.x) := fun Z => (HA.out.at Z.ok.b HM.out).c4
          have y5 : ∀ Z : Wd (fun X => LM w X (⟨s0, a1, a2, a3, u1, u2, u3, d0⟩ : Nd) p q r), Z.X.cell? ⟨b0, off0 + i * 8 + 5, none⟩ = some (.int .i64 m.y) := fun Z => (HA.out.at Z.ok.b HM.out).c5
          have y6 : ∀ Z : Wd (fun X => LM w X (⟨s0, a1, a2, a3, u1, u2, u3, d0⟩ : Nd) p q r), Z.X.cell? ⟨b0, off0 + i * 8 + 6, none⟩ = some (.int .i64 m.z) := fun Z => (HA.out.at Z.ok.b HM.out).c6
          have y7 : ∀ Z : Wd (fun X => LM w X (⟨s0, a1, a2, a3, u1, u2, u3, d0⟩ : Nd) p q r), Z.X.cell? ⟨b0, off0 + i * 8 + 7, none⟩ = some (.bool m.d) := fun Z => (HA.out.at Z.ok.b HM.out).c7
          have c0 : ∀ Z : Wd (fun X => LM w X (⟨s0, a1, a2, a3, u1, u2, u3, d0⟩ : Nd) p q r), Z.X.cell? ⟨w.heap.size, 0, none⟩ = some (.string (Nm.str s0)) := fun Z => Z.ok.all.1
          have c1 : ∀ Z : Wd (fun X => LM w X (⟨s0, a1, a2, a3, u1, u2, u3, d0⟩ : Nd) p q r), Z.X.cell? ⟨w.heap.size, 1, none⟩ = some (.int .i64 a1) := fun Z => Z.ok.all.2.1
          have c2 : ∀ Z : Wd (fun X => LM w X (⟨s0, a1, a2, a3, u1, u2, u3, d0⟩ : Nd) p q r), Z.X.cell? ⟨w.heap.size, 2, none⟩ = some (.int .i64 a2) := fun Z => Z.ok.all.2.2.1
          have c3 : ∀ Z : Wd (fun X => LM w X (⟨s0, a1, a2, a3, u1, u2, u3, d0⟩ : Nd) p q r), Z.X.cell? ⟨w.heap.size, 3, none⟩ = some (.int .i64 a3) := fun Z => Z.ok.all.2.2.2.1
          have c4 : ∀ Z : Wd (fun X => LM w X (⟨s0, a1, a2, a3, u1, u2, u3, d0⟩ : Nd) p q r), Z.X.cell? ⟨w.heap.size, 4, none⟩ = some (.int .i64 u1) := fun Z => Z.ok.all.2.2.2.2.1
          have c5 : ∀ Z : Wd (fun X => LM w X (⟨s0, a1, a2, a3, u1, u2, u3, d0⟩ : Nd) p q r), Z.X.cell? ⟨w.heap.size, 5, none⟩ = some (.int .i64 u2) := fun Z => Z.ok.all.2.2.2.2.2.1
          have c6 : ∀ Z : Wd (fun X => LM w X (⟨s0, a1, a2, a3, u1, u2, u3, d0⟩ : Nd) p q r), Z.X.cell? ⟨w.heap.size, 6, none⟩ = some (.int .i64 u3) := fun Z => Z.ok.all.2.2.2.2.2.2.1
          have c7 : ∀ Z : Wd (fun X => LM w X (⟨s0, a1, a2, a3, u1, u2, u3, d0⟩ : Nd) p q r), Z.X.cell? ⟨w.heap.size, 7, none⟩ = some (.bool d0) := fun Z => Z.ok.all.2.2.2.2.2.2.2.1
          have v0 : ∀ Z : Wd (fun X => LM w X (⟨s0, a1, a2, a3, u1, u2, u3, d0⟩ : Nd) p q r), Z.X.cell? ⟨w.heap.size + 1, 0, none⟩ = some (.int .i64 p) := fun Z => Z.ok.all.2.2.2.2.2.2.2.2.1
          have v1 : ∀ Z : Wd (fun X => LM w X (⟨s0, a1, a2, a3, u1, u2, u3, d0⟩ : Nd) p q r), Z.X.cell? ⟨w.heap.size + 1, 1, none⟩ = some (.int .i64 q) := fun Z => Z.ok.all.2.2.2.2.2.2.2.2.2.1
          have v2 : ∀ Z : Wd (fun X => LM w X (⟨s0, a1, a2, a3, u1, u2, u3, d0⟩ : Nd) p q r), Z.X.cell? ⟨w.heap.size + 1, 2, none⟩ = some (.int .i64 r) := fun Z => Z.ok.all.2.2.2.2.2.2.2.2.2.2
          refine wp_region_class (fun X => LM w X (⟨s0, a1, a2, a3, u1, u2, u3, d0⟩ : Nd) p q r) (by kernel_rfl) (by kernel_rfl) X9d.out (fun hne => ?_)
          haveI := hne
          iterate 34 (quiet_step ((first | (go_at_call 17; with_reducible exact CN.out _) | (go_at_call 17; with_reducible exact CI.out _))))
          refine wpQuiet_nil ?_
          intro z1 hz1
          obtain ⟨⟨zz, E1'⟩, rfl⟩ := hz1
          have E1' := Lib.hid E1'
          go_wp2_with fail
          go_ret
          exact ⟨rfl, E1'.out.b⟩
        · obtain rfl : E1 = 0 := by omega
          obtain rfl : I2 = I1 := by omega
          have q1 : (I2 == (N : Int)) = false := by rw [beq_eq_false_iff_ne]; omega
          have q2 : (I2 == I2) = true := beq_self_eq_true _
          clear hI1 hI2 hE1 hj he hji HNQ
          have c0 : ∀ Z : Wd (fun X => LM w X (⟨s0, a1, a2, a3, u1, u2, u3, d0⟩ : Nd) p q r), Z.X.cell? ⟨w.heap.size, 0, none⟩ = some (.string (Nm.str s0)) := fun Z => Z.ok.all.1
          have c1 : ∀ Z : Wd (fun X => LM w X (⟨s0, a1, a2, a3, u1, u2, u3, d0⟩ : Nd) p q r), Z.X.cell? ⟨w.heap.size, 1, none⟩ = some (.int .i64 a1) := fun Z => Z.ok.all.2.1
          have c2 : ∀ Z : Wd (fun X => LM w X (⟨s0, a1, a2, a3, u1, u2, u3, d0⟩ : Nd) p q r), Z.X.cell? ⟨w.heap.size, 2, none⟩ = some (.int .i64 a2) := fun Z => Z.ok.all.2.2.1
          have c3 : ∀ Z : Wd (fun X => LM w X (⟨s0, a1, a2, a3, u1, u2, u3, d0⟩ : Nd) p q r), Z.X.cell? ⟨w.heap.size, 3, none⟩ = some (.int .i64 a3) := fun Z => Z.ok.all.2.2.2.1
          have c4 : ∀ Z : Wd (fun X => LM w X (⟨s0, a1, a2, a3, u1, u2, u3, d0⟩ : Nd) p q r), Z.X.cell? ⟨w.heap.size, 4, none⟩ = some (.int .i64 u1) := fun Z => Z.ok.all.2.2.2.2.1
          have c5 : ∀ Z : Wd (fun X => LM w X (⟨s0, a1, a2, a3, u1, u2, u3, d0⟩ : Nd) p q r), Z.X.cell? ⟨w.heap.size, 5, none⟩ = some (.int .i64 u2) := fun Z => Z.ok.all.2.2.2.2.2.1
          have c6 : ∀ Z : Wd (fun X => LM w X (⟨s0, a1, a2, a3, u1, u2, u3, d0⟩ : Nd) p q r), Z.X.cell? ⟨w.heap.size, 6, none⟩ = some (.int .i64 u3) := fun Z => Z.ok.all.2.2.2.2.2.2.1
          have c7 : ∀ Z : Wd (fun X => LM w X (⟨s0, a1, a2, a3, u1, u2, u3, d0⟩ : Nd) p q r), Z.X.cell? ⟨w.heap.size, 7, none⟩ = some (.bool d0) := fun Z => Z.ok.all.2.2.2.2.2.2.2.1
          have v0 : ∀ Z : Wd (fun X => LM w X (⟨s0, a1, a2, a3, u1, u2, u3, d0⟩ : Nd) p q r), Z.X.cell? ⟨w.heap.size + 1, 0, none⟩ = some (.int .i64 p) := fun Z => Z.ok.all.2.2.2.2.2.2.2.2.1
          have v1 : ∀ Z : Wd (fun X => LM w X (⟨s0, a1, a2, a3, u1, u2, u3, d0⟩ : Nd) p q r), Z.X.cell? ⟨w.heap.size + 1, 1, none⟩ = some (.int .i64 q) := fun Z => Z.ok.all.2.2.2.2.2.2.2.2.2.1
          have v2 : ∀ Z : Wd (fun X => LM w X (⟨s0, a1, a2, a3, u1, u2, u3, d0⟩ : Nd) p q r), Z.X.cell? ⟨w.heap.size + 1, 2, none⟩ = some (.int .i64 r) := fun Z => Z.ok.all.2.2.2.2.2.2.2.2.2.2
          refine wp_region_class (fun X => LM w X (⟨s0, a1, a2, a3, u1, u2, u3, d0⟩ : Nd) p q r) (by kernel_rfl) (by kernel_rfl) X9d.out (fun hne => ?_)
          haveI := hne
          iterate 34 (quiet_step (fail))
          refine wpQuiet_nil ?_
          intro z1 hz1
          obtain ⟨⟨zz, E1'⟩, rfl⟩ := hz1
          have E1' := Lib.hid E1'
          go_wp2_with fail
          go_ret
          exact ⟨rfl, E1'.out.b⟩
    clear hK
    have HK := Lib.hid HK
    have hlt0 := X1.out.n.lt
    have XE : LM w (w1.drew.alloc (.cells #[] 33)) (⟨s0, a1, a2, a3, u1, u2, u3, d0⟩ : Nd) p q r := X1.out.on (bel_alloc (Below.refl _ w1).drew _)
    obtain ⟨x0, x1, x2, x3, x4, x5, x6, x7, z0, z1, z2⟩ := XE.all
    clear XE
    have XF : LM w w1.drew (⟨s0, a1, a2, a3, u1, u2, u3, d0⟩ : Nd) p q r := X1.out.on (Below.refl _ w1).drew
    obtain ⟨c0, c1, c2, c3, c4, c5, c6, c7, v0, v1, v2⟩ := XF.all
    clear XF
    have X1d : Hid (LM w w1.drew (⟨s0, a1, a2, a3, u1, u2, u3, d0⟩ : Nd) p q r) := Lib.hid (X1.out.on (Below.refl _ w1).drew)
    go_region_law (first
      | ((refine step_appN (by rfl) (.tmp 19) (.tmp 21) (by rfl) w1.heap.size w1 v5 _ (by rfl) (ho5.out.below (by repeat (first | exact Below.refl _ _ | refine Below.drew ?_ | refine bel_alloc ?_ _))) _ 1 1 _ [(⟨s0, a1, a2, a3, u1, u2, u3, d0⟩ : Nd)] (by rfl) (fun h => by cases h) (nodes_box (n := (⟨s0, a1, a2, a3, u1, u2, u3, d0⟩ : Nd)) (by first | exact hp_new (by first | rfl | simp) | exact (hg5.out.block _ (by first | (simp; done) | (simp; omega)) (by simp [Value.ownBlock])).trans (by first | exact hp_new (by first | rfl | simp) | exact hp_old (hp_new (by first | rfl | simp))))) rfl (by omega) (by have := HN.out; have := H40.out; simp; omega) (by repeat (first | exact Below.refl _ _ | exact hb5.out | refine Below.drew ?_ | refine bel_alloc ?_ _)) (by have := hb5.out.size; simp; omega) ?_); intro v6 w6 ho6 hb6 hg6)
      | ((refine step_appN (by rfl) (.tmp 17) (.tmp 18) (by rfl) w1.heap.size w1 _ [] (by rfl) (OwnN.fresh (by first | exact hp_new (by first | rfl | simp) | exact hp_old (hp_new (by first | rfl | simp))) (by simp)) A N c w.heap.size L (by rfl) HNO.out (HA.out.on (X1.out.b.trans (Below.mono (B := w1.heap.size) (by repeat (first | exact Below.refl _ _ | refine Below.drew ?_ | refine bel_alloc ?_ _)) X1.out.b.size))) HN.out HNC.out (by have := H40.out; simp; omega) (by repeat (first | exact Below.refl _ _ | refine Below.drew ?_ | refine bel_alloc ?_ _)) (by first | (simp; done) | (simp; omega)) ?_); intro v5 w5 ho5 hb5 hg5; obtain ⟨c0, c1, c2, c3, c4, c5, c6, c7, v0, v1, v2⟩ := (X1.out.on hb5.out).all))
    all_goals
      have HO : OwnN w6 w1.heap.size v6 (L ++ [(⟨s0, a1, a2, a3, u1, u2, u3, d0⟩ : Nd)]) := by have := ho6.out; rwa [List.nil_append] at this
      have X6 := Lib.hid (X1.out.on hb6.out)
      obtain ⟨A6, cq, rfl, hN6, _, _, _⟩ := HO.form
      exact HK.out w6 A6 _ cq _ _ _ X6 (Lib.hid hN6) (Lib.hid rfl)
  · have h41 : (40 : Int) < N := by omega
    clear hA hN hNc hc hok hno bp bq br h40 ok hok2 KT KS KL
    unfold nodeV nodeC
    go_enter Try.func6, Try.ntmps6
    go_wp2_with (go_at_call 9; (with_reducible refine (k0.out _).mono ?_); rintro e w1 ⟨rfl, hb⟩; have X1 := Lib.hid (X0.out.on hb); clear hb)
    go_ret
    exact ⟨rfl, X1.out.b⟩
end Go.Proofs.Ytjpnkecfoealoaa
