import Derived.Test.YtjpnkecfoealoaaQh
namespace Go.Proofs.Ytjpnkecfoealoaa
set_option maxRecDepth 20000
open Go.RowKit
open Go.Proofs.Ytjpnkecfoealoaa.Vc (I64 fitB RetBelow)
set_option linter.unusedVariables false

theorem takes_err {L : List Nd} {p q r : Int} {i e : Nat} (h : Chosen L p q r i e) (he : e ≠ 0) {k : Nat} {n : Nd} (hn : L[k]? = some n) : ntakes n p q r = false := by
  rcases h with ⟨a, _, _⟩ | ⟨_, b, _, _⟩ | ⟨_, b, _⟩
  · unfold ntakes; rw [a]; cases n.d <;> rfl
  · rw [← Bool.not_eq_true]
    intro ht
    have := cand_mem.2 ⟨n, hn, ht⟩
    rw [b] at this
    cases this
  · exact absurd b he
/-- the rows of a law: the demand's box, the nodes -/
structure LA (w X : World) (A : Option Addr) (L : List Nd) (p q r : Int) : Prop where
  b : Below w.heap.size w X
  v : Vc.BK X w.heap.size p q r
theorem LA.on {w X Y : World} {A : Option Addr} {L : List Nd} {p q r : Int} (h : LA w X A L p q r) (hb : Below X.heap.size X Y) : LA w Y A L p q r :=
  ⟨h.b.trans (hb.mono h.b.size), h.v.on hb h.v.lt⟩
theorem LA.new (w : World) (A : Option Addr) (L : List Nd) (p q r : Int) : LA w (w.alloc (.cells #[.int .i64 p, .int .i64 q, .int .i64 r] 24)) A L p q r :=
  ⟨(Below.refl _ _).alloc (Nat.le_refl _) _, Vc.BK.new w p q r⟩
/-- with the node that is altered -/
structure LX (w w2 X : World) (L : List Nd) (p q r : Int) (n : Nd) : Prop where
  b : Below w.heap.size w X
  v : Vc.BK X w.heap.size p q r
  n : NK X w2.heap.size n
theorem LX.on {w w2 X Y : World} {L : List Nd} {p q r : Int} {n : Nd} (h : LX w w2 X L p q r n) (hb : Below X.heap.size X Y) : LX w w2 Y L p q r n :=
  ⟨h.b.trans (hb.mono h.b.size), h.v.on hb h.v.lt, h.n.on hb h.n.lt⟩
theorem LX.mk5 {w w2 X : World} {A : Option Addr} {L : List Nd} {p q r a b c : Int} {n : Nd} (h : LA w X A L p q r) (hn : NK (((X.setCell ⟨w2.heap.size, 4, none⟩ (.int .i64 a)).setCell ⟨w2.heap.size, 5, none⟩ (.int .i64 b)).setCell ⟨w2.heap.size, 6, none⟩ (.int .i64 c)) w2.heap.size n) (hw : w.heap.size < w2.heap.size) :
    LX w w2 (((X.setCell ⟨w2.heap.size, 4, none⟩ (.int .i64 a)).setCell ⟨w2.heap.size, 5, none⟩ (.int .i64 b)).setCell ⟨w2.heap.size, 6, none⟩ (.int .i64 c)) L p q r n where
  b := ((h.b.setCell (p := ⟨w2.heap.size, 4, none⟩) (Nat.le_of_lt hw) _).setCell (p := ⟨w2.heap.size, 5, none⟩) (Nat.le_of_lt hw) _).setCell (p := ⟨w2.heap.size, 6, none⟩) (Nat.le_of_lt hw) _
  v := by
    show _ = _
    rw [Below.heap_setCell _ _ _ _ (by show w.heap.size ≠ w2.heap.size; omega), Below.heap_setCell _ _ _ _ (by show w.heap.size ≠ w2.heap.size; omega), Below.heap_setCell _ _ _ _ (by show w.heap.size ≠ w2.heap.size; omega)]
    exact h.v
  n := hn
theorem NodesAt.at {w X : World} {b0 off0 : Nat} {L : List Nd} (h : NodesAt w w.heap.size (some ⟨b0, off0, none⟩) L) (hb : Below w.heap.size w X) {j : Nat} {n : Nd} (hn : L[j]? = some n) : NCo X b0 (off0 + j * 8) n := by
  obtain ⟨g, off, h1, h2, h3⟩ := h (fun e => by rw [e] at hn; simp at hn)
  injection h1 with h1
  injection h1 with h4 h5
  subst h4 h5
  exact (h3 j n hn).keep (hb.block _ h2)
theorem takes_may {n : Nd} {p q r : Int} (h : ntakes n p q r = true) : nmay ⟨n.s, n.a, n.b, n.c, n.x + p, n.y + q, n.z + r, n.d⟩ = true ∧ n.d = false ∧ fitB 0 0 0 p q r = true ∧ nmay n = true ∧ fitB (n.x + p) (n.y + q) (n.z + r) n.a n.b n.c = true := by
  unfold ntakes at h
  simp only [Bool.and_eq_true, Bool.not_eq_true'] at h
  have hm := h.2.2.1
  have hm0 := hm
  have hf := h.2.2.2
  have hv := h.2.1
  unfold nmay at hm
  simp only [Bool.and_eq_true] at hm
  refine ⟨?_, h.1, hv, hm0, hf⟩
  unfold nmay
  simp only [Bool.and_eq_true]
  refine ⟨hm.1, hm.2.1, ?_, hf⟩
  have h1 := hm.2.2.1
  simp only [fitB, Bool.and_eq_true, decide_eq_true_eq] at h1 hv ⊢
  omega
theorem best_score {L : List Nd} {p q r : Int} {i k : Nat} {n m : Nd} (hn : L[i]? = some n) (hm : L[k]? = some m) (ht : ntakes m p q r = true) (hle : ∀ j ∈ cand L p q r L.length, bef (scL L p q r) (nmL L) j i = false) : nscore n p q r ≤ nscore m p q r := by
  have h := hle k (cand_mem.2 ⟨m, hm, ht⟩)
  unfold bef at h
  rw [sc_takes hn, sc_takes hm] at h
  by_cases e : nscore m p q r = nscore n p q r
  · omega
  · rw [if_neg e, decide_eq_false_iff_not] at h
    omega
theorem NK.frozen {W : World} {g : Nat} {n : Nd} (h : NK W g n) (k : Nat) : W.frozen? ⟨g, k, none⟩ = false := by
  unfold NK at h
  simp [World.frozen?, h]
theorem NK.set3 {W : World} {g : Nat} {n : Nd} (h : NK W g n) (X Y Z : Int) : NK (((W.setCell ⟨g, 4, none⟩ (.int .i64 X)).setCell ⟨g, 5, none⟩ (.int .i64 Y)).setCell ⟨g, 6, none⟩ (.int .i64 Z)) g ⟨n.s, n.a, n.b, n.c, X, Y, Z, n.d⟩ := by
  unfold NK nodeC at h ⊢
  simp [World.setCell, Array.getElem?_modify, h]
theorem choose_int (L : List Nd) (A : Option Addr) (N c : Nat) (p q r : Int) (w : World) (hA : NodesAt w w.heap.size A L) (hN : L.length = N) (h1000 : N ≤ 1000) (hok : ∀ n ∈ L, Nok n) (bp : I64 p) (bq : I64 q) (br : I64 r) :
    Calls Try.prog 10 #[.slice A N c, .agg #[.int .i64 p, .int .i64 q, .int .i64 r]] w fun e w' => ∃ (I E : Int) (i er : Nat), e = .returned (.tuple #[.int .i64 I, .int .i64 E]) ∧ I = (i : Int) ∧ E = (er : Int) ∧ Chosen L p q r i er ∧ Below w.heap.size w w' :=
  (choose_any L A N c p q r w hA hN h1000 hok bp bq br).mono (by rintro e w' ⟨i, er, rfl, h⟩; exact ⟨_, _, i, er, rfl, rfl, rfl, h⟩)
set_option maxHeartbeats 2000000 in
theorem law_fits (L : List Nd) (A : Option Addr) (N c : Nat) (p q r : Int) (w : World) (hA : NodesAt w w.heap.size A L) (hN : L.length = N) (hNc : N ≤ c) (hc : c ≤ 9223372036854775807) (hok : ∀ n ∈ L, Nok n) (hno : A = none → c = 0) (bp : I64 p) (bq : I64 q) (br : I64 r) :
    Calls Try.prog 5 #[.slice A N c, .agg #[.int .i64 p, .int .i64 q, .int .i64 r]] w (RetBelow (.bool true) w) := by
  have k0 := Lib.hid awake_any
  have KM := Lib.hid fun W : World => Vc.may_any p q r W
  have KT := Lib.hid fun (n : Nd) (hn : n ∈ L) (W : World) => takes_any n p q r W (hok n hn) bp bq br
  have KS := Lib.hid fun (n : Nd) (hn : n ∈ L) (W : World) => score_any n p q r W (hok n hn) bp bq br
  have KA := Lib.hid fun (n : Nd) (hn : n ∈ L) (W : World) => Vc.add_ret n.x n.y n.z p q r W (hok n hn).x (hok n hn).y (hok n hn).z bp bq br
  have KP := Lib.hid fun (n : Nd) (hn : n ∈ L) (W : World) => pmay_any ⟨n.s, n.a, n.b, n.c, n.x + p, n.y + q, n.z + r, n.d⟩ W (hok n hn).s
  have HK := Lib.hid hok
  have X0 := Lib.hid (LA.new w A L p q r)
  by_cases h40 : N ≤ 40
  · have KC := Lib.hid fun (X : World) (h : Below w.heap.size w X) => choose_int L A N c p q r X ((hA.on h).mono h.size) hN (by omega) hok bp bq br
    have HA := Lib.hid hA
    have HN := Lib.hid hN
    have h41 : decide (40 < N) = false := by simpa using h40
    have h42 : decide ((40 : Int) < N) = false := by simp; omega
    have H40 := Lib.hid h40
    clear hA hN hNc hc hok hno bp bq br h40
    obtain ⟨v0, v1, v2⟩ := X0.out.v.c3
    go_enter Try.func5, Try.ntmps5
    go_wp2_with (go_at_call 9; (with_reducible refine (k0.out _).mono ?_); rintro e w1 ⟨rfl, hb⟩; have X1 := Lib.hid (X0.out.on hb); clear hb; obtain ⟨v0, v1, v2⟩ := X1.out.v.c3)
    refine (KC.out _ X1.out.b).mono ?_
    rintro e w2 ⟨I, E, i, er, rfl, hI, hE, hC, hb⟩
    have X2 := Lib.hid (X1.out.on hb)
    have hCC := Lib.hid hC
    clear hb
    rcases hC with ⟨hv, rfl, rfl⟩ | ⟨hv, hcn, rfl, rfl⟩ | ⟨hv, rfl, hmi, hle⟩
    · obtain rfl : E = 1 := by omega
      have HE := Lib.hid fun (j : Nat) (n : Nd) (hn : L[j]? = some n) => takes_err (k := j) hCC.out (by omega) hn
      obtain ⟨v0, v1, v2⟩ := X2.out.v.c3
      have HV := Lib.hid hv
      clear hCC hv hE
      obtain rfl : I = 0 := by omega
      clear hI
      go_wp2_with fail
      go_loopw [27] (fun t27 wr => ∃ k : Nat, k ≤ N ∧ t27 = .int .i64 k ∧ LA w wr A L p q r) (fun t27 _ => N - (intOf t27).toNat)
      case atStart => exact ⟨0, Nat.zero_le _, rfl, X2.out⟩
      case round =>
      obtain ⟨k, hk, rfl, hZ⟩ := hrel
      have HZ := Lib.hid hZ
      clear hZ
      by_cases hp : k < N
      · have hkl : k < L.length := by rw [HN.out]; exact hp
        obtain ⟨b0, off0, rfl, hb0, _⟩ := HA.out (fun e => by rw [e] at hkl; cases hkl)
        have hn := List.getElem?_eq_getElem hkl
        generalize hnd : L[k] = n at *
        have hmem : n ∈ L := by rw [← hnd]; exact List.getElem_mem hkl
        obtain ⟨c0, c1, c2, c3, c4, c5, c6, c7⟩ := HA.out.at HZ.out.b hn
        obtain ⟨v0, v1, v2⟩ := HZ.out.v.c3
        have hp' : (k : Int) < N := by omega
        have h40 := H40.out
        have kn := KT.out n hmem
        rw [HE.out k n hn] at kn
        unfold nodeV nodeC at kn
        have KN := Lib.hid kn
        clear kn hnd hmem hn
        go_wp2_with fail
        go_still_tail 5, (by kernel_rfl)
        change wpList _ _ _ _ _ wr.drew
        have XD := Lib.hid (HZ.out.on (Below.refl _ wr).drew)
        go_wp2_with (go_at_call 19; (with_reducible refine (KN.out _).mono ?_); rintro e w3 ⟨rfl, hb⟩; have Z3 := Lib.hid (XD.out.on hb); clear hb)
        go_roundw
        case rel => exact ⟨k + 1, by omega, by go_num, Z3.out⟩
        case measure => simp [intOf] <;> omega
      · obtain rfl : k = N := by omega
        have hd8 : decide ((k : Int) < k) = false := by simp
        have hd9 : decide (k < k) = false := by simp
        obtain ⟨v0, v1, v2⟩ := HZ.out.v.c3
        have km := KM.out
        rw [HV.out] at km
        have km := Lib.hid km
        go_wp2_with (go_at_call 20; (with_reducible refine (km.out _).mono ?_); rintro e w3 ⟨rfl, hb⟩; have Z3 := Lib.hid (HZ.out.on hb); clear hb)
        go_ret
        exact ⟨rfl, Z3.out.b⟩
    · obtain rfl : E = 12 := by omega
      have HE := Lib.hid fun (j : Nat) (n : Nd) (hn : L[j]? = some n) => takes_err (k := j) hCC.out (by omega) hn
      obtain ⟨v0, v1, v2⟩ := X2.out.v.c3
      have HV := Lib.hid hv
      clear hCC hv hE hcn
      obtain rfl : I = 0 := by omega
      clear hI
      go_wp2_with fail
      go_loopw [27] (fun t27 wr => ∃ k : Nat, k ≤ N ∧ t27 = .int .i64 k ∧ LA w wr A L p q r) (fun t27 _ => N - (intOf t27).toNat)
      case atStart => exact ⟨0, Nat.zero_le _, rfl, X2.out⟩
      case round =>
      obtain ⟨k, hk, rfl, hZ⟩ := hrel
      have HZ := Lib.hid hZ
      clear hZ
      by_cases hp : k < N
      · have hkl : k < L.length := by rw [HN.out]; exact hp
        obtain ⟨b0, off0, rfl, hb0, _⟩ := HA.out (fun e => by rw [e] at hkl; cases hkl)
        have hn := List.getElem?_eq_getElem hkl
        generalize hnd : L[k] = n at *
        have hmem : n ∈ L := by rw [← hnd]; exact List.getElem_mem hkl
        obtain ⟨c0, c1, c2, c3, c4, c5, c6, c7⟩ := HA.out.at HZ.out.b hn
        obtain ⟨v0, v1, v2⟩ := HZ.out.v.c3
        have hp' : (k : Int) < N := by omega
        have h40 := H40.out
        have kn := KT.out n hmem
        rw [HE.out k n hn] at kn
        unfold nodeV nodeC at kn
        have KN := Lib.hid kn
        clear kn hnd hmem hn
        go_wp2_with fail
        go_still_tail 5, (by kernel_rfl)
        change wpList _ _ _ _ _ wr.drew
        have XD := Lib.hid (HZ.out.on (Below.refl _ wr).drew)
        go_wp2_with (go_at_call 19; (with_reducible refine (KN.out _).mono ?_); rintro e w3 ⟨rfl, hb⟩; have Z3 := Lib.hid (XD.out.on hb); clear hb)
        go_roundw
        case rel => exact ⟨k + 1, by omega, by go_num, Z3.out⟩
        case measure => simp [intOf] <;> omega
      · obtain rfl : k = N := by omega
        have hd8 : decide ((k : Int) < k) = false := by simp
        have hd9 : decide (k < k) = false := by simp
        obtain ⟨v0, v1, v2⟩ := HZ.out.v.c3
        go_wp2_with fail
        go_ret
        exact ⟨rfl, HZ.out.b⟩
    · obtain rfl : E = 0 := by omega
      obtain ⟨⟨s0, a1, a2, a3, u1, u2, u3, d0⟩, hn, ht⟩ := cand_mem.1 hmi
      have hd0 : d0 = false := (takes_may ht).2.1
      subst hd0
      have hil := (List.getElem?_eq_some_iff.1 hn).1
      have hiN : i < N := by rw [← HN.out]; exact hil
      obtain ⟨b0, off0, rfl, hb0, _⟩ := HA.out (fun e => by rw [e] at hil; cases hil)
      have hmem : ⟨s0, a1, a2, a3, u1, u2, u3, false⟩ ∈ L := List.mem_of_getElem? hn
      have hTM := takes_may ht
      have hI64 := takes_i64 (HK.out _ hmem) hTM.2.2.1 hTM.2.2.2.1 hTM.2.2.2.2
      obtain ⟨c0, c1, c2, c3, c4, c5, c6, c7⟩ := HA.out.at X2.out.b hn
      obtain ⟨v0, v1, v2⟩ := X2.out.v.c3
      subst hI
      have g1 : decide ((i : Int) < 0) = false := by simp
      have g2 : decide ((N : Int) ≤ (i : Int)) = false := by simp; omega
      have g2b : decide (N ≤ i) = false := by simp; omega
      have g3 : (i : Int) < N := by omega
      have g4 : ¬ (N : Int) ≤ (i : Int) := by omega
      have g5 : ¬ (N ≤ i) := by omega
      have kAdd := KA.out _ hmem
      unfold Vc.outV Vc.vecV at kAdd
      rw [if_pos hI64] at kAdd
      have KAdd := Lib.hid kAdd
      have kMay := KP.out _ hmem
      rw [hTM.1] at kMay
      unfold nodeV nodeC at kMay
      have kMay : ∀ W : World, Calls Try.prog 15 #[.agg #[.string (Nm.str s0), .int .i64 a1, .int .i64 a2, .int .i64 a3, .int .i64 (u1 + p), .int .i64 (u2 + q), .int .i64 (u3 + r), .bool false]] W (RetBelow (.bool true) W) := kMay
      have KMay := Lib.hid kMay
      have kSn := KS.out _ hmem
      unfold nodeV nodeC at kSn
      have KSn := Lib.hid kSn
      have HNI := Lib.hid hn
      have HB := Lib.hid fun (k : Nat) (m : Nd) (hm : L[k]? = some m) (ht : ntakes m p q r = true) => best_score hn hm ht hle
      have NB := NK.new w2 ⟨s0, a1, a2, a3, u1, u2, u3, false⟩
      have BB := (Below.refl w2.heap.size w2).alloc (Nat.le_refl _) (.cells #[.string (Nm.str s0), .int .i64 a1, .int .i64 a2, .int .i64 a3, .int .i64 u1, .int .i64 u2, .int .i64 u3, .bool false] 33)
      have X3 := Lib.hid (X2.out.on BB)
      unfold nodeC at NB
      have nb := NB.cells
      obtain ⟨n0, n1, n2, n3, n4, n5, n6, n7⟩ := nb
      have NBH := Lib.hid NB
      have BBH := Lib.hid BB
      clear hCC hv hE hmi hle hn hmem hTM hI64 kAdd kMay kSn NB BB ht hil
      obtain ⟨v0, v1, v2⟩ := X3.out.v.c3
      go_wp2_with fail
      refine (KAdd.out _).mono ?_
      rintro e w3 ⟨rfl, hb3⟩
      have hsz2 : w2.heap.size < (w2.alloc (.cells #[.string (Nm.str s0), .int .i64 a1, .int .i64 a2, .int .i64 a3, .int .i64 u1, .int .i64 u2, .int .i64 u3, .bool false] 33)).heap.size := by simp
      have N3 := NK.on (n := ⟨s0, a1, a2, a3, u1, u2, u3, false⟩) NBH.out hb3 hsz2
      have f4 := N3.frozen 4
      have f5 := N3.frozen 5
      have f6 := N3.frozen 6
      obtain ⟨m0, m1, m2, m3, m4, m5, m6, m7⟩ := N3.cells
      have hw23 : w2.heap.size < w3.heap.size := Nat.lt_of_lt_of_le hsz2 hb3.size
      have hwb : w.heap.size < w2.heap.size := by have := X2.out.v.lt; omega
      have L5 : LX w w2 ((((w3.setCell ⟨w2.heap.size, 4, none⟩ (.int .i64 (u1 + p))).setCell ⟨w2.heap.size, 5, none⟩ (.int .i64 (u2 + q))).setCell ⟨w2.heap.size, 6, none⟩ (.int .i64 (u3 + r))).alloc (.cells #[.int .i64 (u1 + p), .int .i64 (u2 + q), .int .i64 (u3 + r)] 24)) L p q r ⟨s0, a1, a2, a3, u1 + p, u2 + q, u3 + r, false⟩ := (LX.mk5 (X3.out.on hb3) (NK.set3 (n := ⟨s0, a1, a2, a3, u1, u2, u3, false⟩) N3 (u1 + p) (u2 + q) (u3 + r)) hwb).on ((Below.refl _ _).alloc (Nat.le_refl _) _)
      have L5 := Lib.hid L5
      have HW3 := Lib.hid hw23
      clear hb3 N3 hsz2
      go_wp2_with fail
      generalize ((((w3.setCell ⟨w2.heap.size, 4, none⟩ (.int .i64 (u1 + p))).setCell ⟨w2.heap.size, 5, none⟩ (.int .i64 (u2 + q))).setCell ⟨w2.heap.size, 6, none⟩ (.int .i64 (u3 + r))).alloc (.cells #[.int .i64 (u1 + p), .int .i64 (u2 + q), .int .i64 (u3 + r)] 24)) = w5 at *
      go_loopw [78] (fun t78 wr => ∃ k : Nat, k ≤ N ∧ t78 = .int .i64 k ∧ LX w w2 wr L p q r ⟨s0, a1, a2, a3, u1 + p, u2 + q, u3 + r, false⟩) (fun t78 _ => N - (intOf t78).toNat)
      case atStart => exact ⟨0, Nat.zero_le _, rfl, L5.out⟩
      case round =>
      obtain ⟨k, hk, rfl, hZ⟩ := hrel
      have HZ := Lib.hid hZ
      clear hZ
      by_cases hp : k < N
      · have hkl : k < L.length := by rw [HN.out]; exact hp
        have hn := List.getElem?_eq_getElem hkl
        generalize hnd : L[k] = m at *
        have hmem : m ∈ L := by rw [← hnd]; exact List.getElem_mem hkl
        have E0 : Hid (LX w w2 wr.drew L p q r ⟨s0, a1, a2, a3, u1 + p, u2 + q, u3 + r, false⟩) := Lib.hid (HZ.out.on (Below.refl _ wr).drew)
        have HX : ∀ X : World, LX w w2 X L p q r ⟨s0, a1, a2, a3, u1 + p, u2 + q, u3 + r, false⟩ → (X.cell? ⟨b0, off0 + k * 8, none⟩ = some (.string (Nm.str m.s)) ∧ X.cell? ⟨b0, off0 + k * 8 + 1, none⟩ = some (.int .i64 m.a) ∧ X.cell? ⟨b0, off0 + k * 8 + 2, none⟩ = some (.int .i64 m.b) ∧ X.cell? ⟨b0, off0 + k * 8 + 3, none⟩ = some (.int .i64 m.c) ∧ X.cell? ⟨b0, off0 + k * 8 + 4, none⟩ = some (.int .i64 m.x) ∧ X.cell? ⟨b0, off0 + k * 8 + 5, none⟩ = some (.int .i64 m.y) ∧ X.cell? ⟨b0, off0 + k * 8 + 6, none⟩ = some (.int .i64 m.z) ∧ X.cell? ⟨b0, off0 + k * 8 + 7, none⟩ = some (.bool m.d) ∧ X.cell? ⟨b0, off0 + i * 8, none⟩ = some (.string (Nm.str s0)) ∧ X.cell? ⟨b0, off0 + i * 8 + 1, none⟩ = some (.int .i64 a1) ∧ X.cell? ⟨b0, off0 + i * 8 + 2, none⟩ = some (.int .i64 a2) ∧ X.cell? ⟨b0, off0 + i * 8 + 3, none⟩ = some (.int .i64 a3) ∧ X.cell? ⟨b0, off0 + i * 8 + 4, none⟩ = some (.int .i64 u1) ∧ X.cell? ⟨b0, off0 + i * 8 + 5, none⟩ = some (.int .i64 u2) ∧ X.cell? ⟨b0, off0 + i * 8 + 6, none⟩ = some (.int .i64 u3) ∧ X.cell? ⟨b0, off0 + i * 8 + 7, none⟩ = some (.bool false) ∧ X.cell? ⟨w.heap.size, 0, none⟩ = some (.int .i64 p) ∧ X.cell? ⟨w.heap.size, 1, none⟩ = some (.int .i64 q) ∧ X.cell? ⟨w.heap.size, 2, none⟩ = some (.int .i64 r)) := by
          intro X hX
          have h1 := HA.out.at hX.b hn
          have h2 := HA.out.at hX.b HNI.out
          have h3 := hX.v.c3
          exact ⟨h1.c0, h1.c1, h1.c2, h1.c3, h1.c4, h1.c5, h1.c6, h1.c7, h2.c0, h2.c1, h2.c2, h2.c3, h2.c4, h2.c5, h2.c6, h2.c7, h3.1, h3.2.1, h3.2.2⟩
        have HX := Lib.hid HX
        have hp' : (k : Int) < N := by omega
        have h40 := H40.out
        have kn := KT.out m hmem
        have ks := KS.out m hmem
        have hbs := HB.out k m hn
        unfold nodeV nodeC at kn ks
        have ks := Lib.hid ks
        obtain ⟨y0, y1, y2, y3, y4, y5, y6, y7, c0, c1, c2, c3, c4, c5, c6, c7, v0, v1, v2⟩ := HX.out _ E0.out
        clear hnd hmem hn
        cases htm : ntakes m p q r with
        | false =>
          rw [htm] at kn
          have KN := Lib.hid kn
          clear kn htm hbs
          go_wp2_with fail
          have y0 : ∀ Z : Wd (fun X => LX w w2 X L p q r ⟨s0, a1, a2, a3, u1 + p, u2 + q, u3 + r, false⟩), Z.X.cell? ⟨b0, off0 + k * 8, none⟩ = some (.string (Nm.str m.s)) := fun Z => (HX.out _ Z.ok).1
          have y1 : ∀ Z : Wd (fun X => LX w w2 X L p q r ⟨s0, a1, a2, a3, u1 + p, u2 + q, u3 + r, false⟩), Z.X.cell? ⟨b0, off0 + k * 8 + 1, none⟩ = some (.int .i64 m.a) := fun Z => (HX.out _ Z.ok).2.1
          have y2 : ∀ Z : Wd (fun X => LX w w2 X L p q r ⟨s0, a1, a2, a3, u1 + p, u2 + q, u3 + r, false⟩), Z.X.cell? ⟨b0, off0 + k * 8 + 2, none⟩ = some (.int .i64 m.b) := fun Z => (HX.out _ Z.ok).2.2.1
          have y3 : ∀ Z : Wd (fun X => LX w w2 X L p q r ⟨s0, a1, a2, a3, u1 + p, u2 + q, u3 + r, false⟩), Z.X.cell? ⟨b0, off0 + k * 8 + 3, none⟩ = some (.int .i64 m.c) := fun Z => (HX.out _ Z.ok).2.2.2.1
          have y4 : ∀ Z : Wd (fun X => LX w w2 X L p q r ⟨s0, a1, a2, a3, u1 + p, u2 + q, u3 + r, false⟩), Z.X.cell? ⟨b0, off0 + k * 8 + 4, none⟩ = some (.int .i64 m.x) := fun Z => (HX.out _ Z.ok).2.2.2.2.1
          have y5 : ∀ Z : Wd (fun X => LX w w2 X L p q r ⟨s0, a1, a2, a3, u1 + p, u2 + q, u3 + r, false⟩), Z.X.cell? ⟨b0, off0 + k * 8 + 5, none⟩ = some (.int .i64 m.y) := fun Z => (HX.out _ Z.ok).2.2.2.2.2.1
          have y6 : ∀ Z : Wd (fun X => LX w w2 X L p q r ⟨s0, a1, a2, a3, u1 + p, u2 + q, u3 + r, false⟩), Z.X.cell? ⟨b0, off0 + k * 8 + 6, none⟩ = some (.int .i64 m.z) := fun Z => (HX.out _ Z.ok).2.2.2.2.2.2.1
          have y7 : ∀ Z : Wd (fun X => LX w w2 X L p q r ⟨s0, a1, a2, a3, u1 + p, u2 + q, u3 + r, false⟩), Z.X.cell? ⟨b0, off0 + k * 8 + 7, none⟩ = some (.bool m.d) := fun Z => (HX.out _ Z.ok).2.2.2.2.2.2.2.1
          have v0 : ∀ Z : Wd (fun X => LX w w2 X L p q r ⟨s0, a1, a2, a3, u1 + p, u2 + q, u3 + r, false⟩), Z.X.cell? ⟨w.heap.size, 0, none⟩ = some (.int .i64 p) := fun Z => (HX.out _ Z.ok).2.2.2.2.2.2.2.2.2.2.2.2.2.2.2.2.1
          have v1 : ∀ Z : Wd (fun X => LX w w2 X L p q r ⟨s0, a1, a2, a3, u1 + p, u2 + q, u3 + r, false⟩), Z.X.cell? ⟨w.heap.size, 1, none⟩ = some (.int .i64 q) := fun Z => (HX.out _ Z.ok).2.2.2.2.2.2.2.2.2.2.2.2.2.2.2.2.2.1
          have v2 : ∀ Z : Wd (fun X => LX w w2 X L p q r ⟨s0, a1, a2, a3, u1 + p, u2 + q, u3 + r, false⟩), Z.X.cell? ⟨w.heap.size, 2, none⟩ = some (.int .i64 r) := fun Z => (HX.out _ Z.ok).2.2.2.2.2.2.2.2.2.2.2.2.2.2.2.2.2.2
          obtain ⟨t, ht⟩ : ∃ t, t = false := ⟨false, rfl⟩
          have KN2 := KN.out
          rw [← ht] at KN2
          have KN2 := Lib.hid KN2
          have HT := Lib.hid ht
          clear ht KN
          have CT := Lib.hid fun Z : Wd (fun X => LX w w2 X L p q r ⟨s0, a1, a2, a3, u1 + p, u2 + q, u3 + r, false⟩) => Calls.in_class Z (KN2.out Z.X) (fun X h1 h2 => LX.on h1 h2)
          refine wp_region_class (fun X => LX w w2 X L p q r ⟨s0, a1, a2, a3, u1 + p, u2 + q, u3 + r, false⟩) (by kernel_rfl) (by kernel_rfl) E0.out (fun hne => ?_)
          haveI := hne
          iterate 5 (quiet_step (fail))
          quiet_step ((go_at_call 19; with_reducible exact CT.out _))
          quiet_step (fail)
          iterate 13 (refine wpQuiet_struck (by cases HT.out; kernel_rfl) ?_; simp only [Act.put, List.setIfInBounds_toArray, List.set_cons_zero, List.set_cons_succ])
          refine wpQuiet_step (fun K hK => ?_)
          cases HT.out
          go_simp
          refine hK _ ?_
          clear hK K
          refine wpQuiet_nil ?_
          intro z1 hz1
          obtain ⟨⟨zz, E1⟩, rfl⟩ := hz1
          have E1 := Lib.hid E1
          go_wp2_with fail
          go_roundw
          case rel => exact ⟨k + 1, by omega, by go_num, E1.out⟩
          case measure => simp [intOf] <;> omega
        | true =>
          rw [htm] at kn
          have KN := Lib.hid kn
          have hsc : decide (nscore m p q r < nscore ⟨s0, a1, a2, a3, u1, u2, u3, false⟩ p q r) = false := by
            have := hbs htm
            simp; omega
          generalize nscore m p q r = S1 at *
          generalize nscore ⟨s0, a1, a2, a3, u1, u2, u3, false⟩ p q r = S2 at *
          clear kn htm hbs
          go_wp2_with fail
          go_region_held3 (fun X => X.cell? ⟨b0, off0 + k * 8, none⟩ = some (.string (Nm.str m.s)) ∧ X.cell? ⟨b0, off0 + k * 8 + 1, none⟩ = some (.int .i64 m.a) ∧ X.cell? ⟨b0, off0 + k * 8 + 2, none⟩ = some (.int .i64 m.b) ∧ X.cell? ⟨b0, off0 + k * 8 + 3, none⟩ = some (.int .i64 m.c) ∧ X.cell? ⟨b0, off0 + k * 8 + 4, none⟩ = some (.int .i64 m.x) ∧ X.cell? ⟨b0, off0 + k * 8 + 5, none⟩ = some (.int .i64 m.y) ∧ X.cell? ⟨b0, off0 + k * 8 + 6, none⟩ = some (.int .i64 m.z) ∧ X.cell? ⟨b0, off0 + k * 8 + 7, none⟩ = some (.bool m.d) ∧ X.cell? ⟨b0, off0 + i * 8, none⟩ = some (.string (Nm.str s0)) ∧ X.cell? ⟨b0, off0 + i * 8 + 1, none⟩ = some (.int .i64 a1) ∧ X.cell? ⟨b0, off0 + i * 8 + 2, none⟩ = some (.int .i64 a2) ∧ X.cell? ⟨b0, off0 + i * 8 + 3, none⟩ = some (.int .i64 a3) ∧ X.cell? ⟨b0, off0 + i * 8 + 4, none⟩ = some (.int .i64 u1) ∧ X.cell? ⟨b0, off0 + i * 8 + 5, none⟩ = some (.int .i64 u2) ∧ X.cell? ⟨b0, off0 + i * 8 + 6, none⟩ = some (.int .i64 u3) ∧ X.cell? ⟨b0, off0 + i * 8 + 7, none⟩ = some (.bool false) ∧ X.cell? ⟨w.heap.size, 0, none⟩ = some (.int .i64 p) ∧ X.cell? ⟨w.heap.size, 1, none⟩ = some (.int .i64 q) ∧ X.cell? ⟨w.heap.size, 2, none⟩ = some (.int .i64 r)) (first | exact HX.out _ E3.out | exact HX.out _ E2.out | exact HX.out _ E1.out | exact HX.out _ E0.out) (first | (go_at_call 17; (with_reducible refine (KSn.out _).mono ?_); rintro e z3 ⟨rfl, hb⟩; have E3 : Hid (LX w w2 z3 L p q r ⟨s0, a1, a2, a3, u1 + p, u2 + q, u3 + r, false⟩) := Lib.hid (E2.out.on hb); clear hb; obtain ⟨y0, y1, y2, y3, y4, y5, y6, y7, c0, c1, c2, c3, c4, c5, c6, c7, v0, v1, v2⟩ := HX.out _ E3.out) | (go_at_call 17; (with_reducible refine (ks.out _).mono ?_); rintro e z2 ⟨rfl, hb⟩; have E2 : Hid (LX w w2 z2 L p q r ⟨s0, a1, a2, a3, u1 + p, u2 + q, u3 + r, false⟩) := Lib.hid (E1.out.on hb); clear hb; obtain ⟨y0, y1, y2, y3, y4, y5, y6, y7, c0, c1, c2, c3, c4, c5, c6, c7, v0, v1, v2⟩ := HX.out _ E2.out) | (go_at_call 19; (with_reducible refine (KN.out _).mono ?_); rintro e z1 ⟨rfl, hb⟩; have E1 : Hid (LX w w2 z1 L p q r ⟨s0, a1, a2, a3, u1 + p, u2 + q, u3 + r, false⟩) := Lib.hid (E0.out.on hb); clear hb; obtain ⟨y0, y1, y2, y3, y4, y5, y6, y7, c0, c1, c2, c3, c4, c5, c6, c7, v0, v1, v2⟩ := HX.out _ E1.out))
          go_wp2_with fail
          go_roundw
          case rel => exact ⟨k + 1, by omega, by go_num, E3.out⟩
          case measure => simp [intOf] <;> omega
      · obtain rfl : k = N := by omega
        have hd8 : decide ((k : Int) < k) = false := by simp
        have hd9 : decide (k < k) = false := by simp
        obtain ⟨m0, m1, m2, m3, m4, m5, m6, m7⟩ := HZ.out.n.cells
        go_wp2_with (go_at_call 15; (with_reducible refine (KMay.out _).mono ?_); rintro e z1 ⟨rfl, hb⟩; have Z1 := Lib.hid (HZ.out.on hb); clear hb)
        go_ret
        exact ⟨rfl, Z1.out.b⟩
  · have h41 : (40 : Int) < N := by omega
    clear hA hN hNc hc hok hno bp bq br h40
    go_enter Try.func5, Try.ntmps5
    go_wp2_with (go_at_call 9; (with_reducible refine (k0.out _).mono ?_); rintro e w1 ⟨rfl, hb⟩; have X1 := Lib.hid (X0.out.on hb); clear hb)
    go_ret
    exact ⟨rfl, X1.out.b⟩
end Go.Proofs.Ytjpnkecfoealoaa
