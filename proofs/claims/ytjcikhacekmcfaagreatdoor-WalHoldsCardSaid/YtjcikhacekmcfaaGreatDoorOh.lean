import Derived.Lib.AtoiErrMem
import Derived.Test.YtjcikhacekmcfaaGreatDoorXk
namespace Go.Proofs.YtjcikhacekmcfaaGreatDoor
open Go.RowKit
open PlainDisk (File Disk)
open PWal (St Ent Chg)
set_option linter.unusedVariables false
set_option maxRecDepth 100000

/-! ### a snapshot's records -/
theorem chunks_at (f : Nat) : ∀ (b : List UInt8) (j : Nat), b.length ≤ f → (PWal.chunks 4096 f b)[j]? = if j * 4096 < b.length then some ((b.drop (j * 4096)).take 4096) else none := by
  induction f with
  | zero =>
    intro b j hb
    rw [if_neg (by omega)]
    rfl
  | succ f ih =>
    intro b j hb
    rw [PWal.chunks]
    by_cases hn : b = []
    · rw [if_pos hn, if_neg (by rw [hn]; simp)]
      rfl
    · have hl : 0 < b.length := List.length_pos_iff.2 hn
      rw [if_neg hn]
      cases j with
      | zero => rw [if_pos (by omega)]; simp
      | succ j =>
        have := ih (b.drop 4096) j (by rw [List.length_drop]; omega)
        rw [List.getElem?_cons_succ, this, List.length_drop, List.drop_drop]
        by_cases q : j * 4096 < b.length - 4096
        · rw [if_pos q, if_pos (by omega), show 4096 + j * 4096 = (j + 1) * 4096 by omega]
        · rw [if_neg q, if_neg (by omega)]
theorem pieces_at (d : List UInt8) (j : Nat) : (PWal.pieces d)[j]? = if j * 4096 < d.length then some ((d.drop (j * 4096)).take 4096) else none := chunks_at _ d j (Nat.le_refl _)
theorem pieces_len (d : List UInt8) : (PWal.pieces d).length = pcN d.length := by
  apply Nat.le_antisymm
  · rw [← List.getElem?_eq_none_iff, pieces_at, if_neg]
    unfold pcN; omega
  · apply Nat.le_of_not_lt
    intro h
    have := pieces_at d (PWal.pieces d).length
    rw [List.getElem?_eq_none (Nat.le_refl _), if_pos (by unfold pcN at h; omega)] at this
    cases this
theorem pcs_at {L N j : Nat} (h : j < N) : (pcs L N)[j]? = some (pc L j) := by
  unfold pcs
  rw [List.getElem?_map, List.getElem?_range h]
  rfl
theorem piece_bytes {w : World} {k B : Nat} {d : List UInt8} (hk : k < B) (h : ∀ r u, d[r]? = some u → w.cell? ⟨k, r, none⟩ = some (.int .u8 (u.toNat : Int))) (i : Nat) : Fm.BytesAt w B (some ⟨k, i, none⟩) ((d.drop i).take 4096) := fun _ =>
  ⟨k, i, rfl, hk, fun r u hu => by
    rw [List.getElem?_take] at hu
    split at hu
    · rw [List.getElem?_drop] at hu
      exact h _ _ hu
    · cases hu⟩
def SnRel (b0 : List UInt8) (ls : List (List UInt8)) (B : Nat) (w : World) (rV jV : Value) (wr : World) : Prop :=
  ∃ (j g : Nat) (bs : List UInt8), j ≤ ls.length ∧ jV = .int .i64 j ∧ bs = b0 ++ Fm.Fr.flat (ls.take j) ∧ rV = .slice (some ⟨g, 0, none⟩) bs.length bs.length ∧ B ≤ g ∧ g < wr.heap.size ∧ Fm.RowIs wr g bs ∧ bs.length ≤ 100 + j * 4104 ∧ Below w.heap.size w wr
theorem numOf_nat (j : Nat) : (numOf (.int .i64 (j : Int))).toNat = j := by simp [numOf]
set_option maxHeartbeats 4000000 in
theorem snapRecords_any (i t : Int) (d : List UInt8) (hi : Wr.InR i) (ht : Wr.InR t) (hd : d.length ≤ 65536) (w : World) :
    Calls Tryz.prog 75 #[.agg #[.int .i64 i, .int .i64 t, .string (str d)]] w (RecP (PWal.snapRec i t d) w) := by
  obtain ⟨W0, hW0⟩ : ∃ W, w.alloc (.cells #[.int .i64 i, .int .i64 t, .string (str d)] 37) = W := ⟨_, rfl⟩
  have HW0 := Lib.hid hW0
  have hb0 : Below w.heap.size w W0 := hW0 ▸ below_new w _
  have hx0 : W0.heap[w.heap.size]? = some (.cells #[.int .i64 i, .int .i64 t, .string (str d)] 37 (0, 0)) := by rw [← hW0]; exact heap_alloc_new w _
  have B0 := Lib.hid hb0
  have HX0 := Lib.hid hx0
  have BOX : Hid (∀ V, Below W0.heap.size W0 V → V.cell? ⟨w.heap.size, 0, none⟩ = some (.int .i64 i) ∧ V.cell? ⟨w.heap.size, 1, none⟩ = some (.int .i64 t)) := Lib.hid (fun V hb => by
    have hv := (hb.block _ (Array.getElem?_eq_some_iff.1 HX0.out).1).trans HX0.out
    refine ⟨?_, ?_⟩ <;> (rw [Lib.cell_of_heap hv]; rfl))
  have p2 : W0.cell? ⟨w.heap.size, 2, none⟩ = some (.string (str d)) := by rw [Lib.cell_of_heap hx0]; rfl
  have hcv := Lib.run_convert_string_bytes (P := Tryz.prog) W0 9 60 5 (str d) Tryz.underlying9 Tryz.underlying60 Tryz.underlying5
  have hss : (str d).size = d.length := str_size d
  rw [hss] at hcv
  obtain ⟨cp, hcp⟩ : ∃ cp, grownCap W0 d.length 0 5 = cp := ⟨_, rfl⟩
  have hcp1 : d.length ≤ cp := hcp ▸ grownCap_ge _ _ _ _
  have hcp2 : cp ≤ 9223372036854775807 := by
    have := grownCap_le_maxLen W0 d.length 0 5 (by simp only [maxLen]; omega)
    simp only [maxLen] at this; omega
  rw [hcp] at hcv
  obtain ⟨W1, hW1⟩ : ∃ W1, Lib.bytesWorld W0 5 (str d) = W1 := ⟨_, rfl⟩
  have hb1 : Below W0.heap.size W0 W1 := hW1 ▸ Lib.bytesWorld_below W0 5 (str d)
  have B1 := Lib.hid hb1
  have CEL : Hid (∀ V, Below W1.heap.size W1 V → ∀ r u, d[r]? = some u → V.cell? ⟨W0.heap.size, r, none⟩ = some (.int .u8 (u.toNat : Int))) := Lib.hid (fun V hb r u hu => by
    have hr := (List.getElem?_eq_some_iff.1 hu).1
    have hc : W1.cell? ⟨W0.heap.size, r, none⟩ = some (.int .u8 (u.toNat : Int)) := by
      rw [← hW1, Lib.bytesWorld_cell W0 5 (str d) r (by rw [hss]; exact hr)]
      show some (Value.int .u8 ((d.getD r 0).toNat : Int)) = _
      rw [List.getD_eq_getElem?_getD, hu]; rfl
    exact (hb.cell (p := ⟨W0.heap.size, r, none⟩) (by rw [← hW1, Lib.bytesWorld_size]; show W0.heap.size < _; omega)).trans hc)
  rw [hW1] at hcv
  have HCH := Lib.hid (chunk_any W0.heap.size d.length cp W1)
  have HCO := Lib.hid (fun Bs Bn V a1 a2 a3 a4 => collect_any Bs Bn W0.heap.size d.length cp hcp1 hcp2 (by omega) V a1 a2 a3 a4)
  obtain ⟨N, hN⟩ : ∃ N, N = pcN d.length := ⟨_, rfl⟩
  have hN2 : N ≤ 16 := by rw [hN]; unfold pcN; omega
  have HN := Lib.hid hN
  rw [← hN] at HCO
  have HPL : Hid ((PWal.pieces d).length = N) := Lib.hid (by rw [hN]; exact pieces_len d)
  have HZ1 : Hid (W0.heap.size < W1.heap.size) := Lib.hid (by rw [← hW1, Lib.bytesWorld_size]; omega)
  have HR := Lib.hid (fun (w0 w1 : World) (g : Nat) (hb : Below w0.heap.size w0 w1) (hg : w1.heap[g]? = some (.cells #[.int .i64 1, .int .i64 i, .string ⟨#[]⟩, .slice none 0 0, .int .i64 1, .int .i64 t, .string ⟨#[]⟩, .slice none 0 0, .int .i64 1, .int .i64 (N : Int), .string ⟨#[]⟩, .slice none 0 0] 161 (0, 0))) =>
    show Calls Tryz.prog 127 #[.slice (some ⟨g, 0, none⟩) 3 3] w1 (RecP (PWal.rcdOf [PWal.num i, PWal.num t, PWal.num (N : Int)]) w0) from (rec_any [PWal.num i, PWal.num t, PWal.num (N : Int)] (some ⟨g, 0, none⟩) 3 w1 (row_atoms hg (by intro x hx; simp at hx; rcases hx with rfl | rfl | rfl; exact atom_num hi; exact atom_num ht; exact atom_num ⟨by omega, by omega⟩) (by simp)) (err_snap i t _)
      (by have := row_len [PWal.num i, PWal.num t, PWal.num (N : Int)]; have := num_len i; have := num_len t; have := num_len (N : Int); rw [encs_cons, encs_cons, encs_cons, encs_nil] at *; omega)).mono
      (R' := RecP (PWal.rcdOf [PWal.num i, PWal.num t, PWal.num (N : Int)]) w0) fun e w' ⟨g, h1, h2, h3, h4⟩ => ⟨g, h1, Nat.le_trans hb.size h2, h3, hb.trans (h4.mono hb.size)⟩)
  have HRL : Hid ((PWal.rcdOf [PWal.num i, PWal.num t, PWal.num (N : Int)]).length ≤ 100) := Lib.hid (by
    unfold PWal.rcdOf
    rw [Fm.Fr.rcd_length]
    have := row_len [PWal.num i, PWal.num t, PWal.num (N : Int)]; have := num_len i; have := num_len t; have := num_len (N : Int)
    rw [encs_cons, encs_cons, encs_cons, encs_nil] at *; omega)
  have HSR : Hid (PWal.snapRec i t d = PWal.rcdOf [PWal.num i, PWal.num t, PWal.num (N : Int)] ++ Fm.Fr.flat (PWal.pieces d)) := Lib.hid (by unfold PWal.snapRec; rw [hN, ← pieces_len])
  have HNU := Lib.hid (fun n W => number_any n W)
  unfold numV at HNU
  generalize PWal.rcdOf [PWal.num i, PWal.num t, PWal.num (N : Int)] = b0 at *
  have HDL : Hid (d.length ≤ 65536) := Lib.hid hd
  obtain ⟨L, hL⟩ : ∃ L, L = d.length := ⟨_, rfl⟩
  have HL := Lib.hid hL
  rw [← hL] at hcv HCH HN hcp1
  rw [← hL] at HCO
  obtain ⟨q0, q1⟩ := BOX.out _ (Below.refl _ W0)
  clear hW0 hb0 hx0 hss hcp hW1 hb1 hN hd hi ht hL
  go_enter Tryz.func75, Tryz.ntmps75
  go_wp2_with fail
  rw [HW0.out]
  go_wp2_with fail
  rw [hcv]
  go_wp2_with fail
  refine HCH.out.mono ?_
  rintro e w2 ⟨rfl, k1, k2, k3, b2⟩
  have B2 := Lib.hid b2
  have HC2 := Lib.hid (HCO.out W1.heap.size (W1.heap.size + 1) w2 (by omega) k3 k1 k2)
  clear k1 k2 k3 b2
  go_wp2_with fail
  refine HC2.out.mono ?_
  rintro e w3 ⟨v, rfl, own, b3⟩
  have OV := Lib.hid own
  have B3 : Hid (Below W1.heap.size W1 w3) := Lib.hid (B2.out.trans (b3.mono B2.out.size))
  have BA0 : Hid (Below W0.heap.size W0 w3.drew) := Lib.hid (B1.out.trans (B3.out.mono B1.out.size)).drew
  obtain ⟨A, c, rfl, hvc, hvc2⟩ := own.form
  rw [List.length_map, pcs_length] at *
  clear own b3 hcv p2
  go_wp2_with fail
  rename_i K hK
  have HK : ∀ (g : Nat) (V : World) (z0 z1 z2 z5 z6 z7 z8 z9 z10 z11 z12 z13 z14 z15 z16 z17 z18 z19 z20 z21 z22 z23 z24 z25 z26 z27 z28 z29 z30 z31 z32 z33 z34 z35 z36 : Value), Hid (Fm.RowIs V g b0) → w3.heap.size ≤ g → Hid (Below w3.heap.size w3 V) → K { tmps := #[z0, z1, z2, .slice A N c, .slice (some ⟨g, 0, none⟩) b0.length b0.length, z5, z6, z7, z8, z9, z10, z11, z12, z13, z14, z15, z16, z17, z18, z19, z20, z21, z22, z23, z24, z25, z26, z27, z28, z29, z30, z31, z32, z33, z34, z35, z36], defers := [] } V := by
    intro g V z0 z1 z2 z5 z6 z7 z8 z9 z10 z11 z12 z13 z14 z15 z16 z17 z18 z19 z20 z21 z22 z23 z24 z25 z26 z27 z28 z29 z30 z31 z32 z33 z34 z35 z36 hrow hg hbv
    refine hK _ _ ?_
    clear hK
    go_wp2_with fail
    go_loopw [4, 25] (SnRel b0 (PWal.pieces d) w3.heap.size w3) (fun _ jV _ => N - (numOf jV).toNat)
    case atStart => exact ⟨0, g, b0, Nat.zero_le _, rfl, by simp [Fm.Fr.flat], rfl, hg, hrow.out.lt, hrow.out, by have := HRL.out; omega, hbv.out⟩
    case round =>
      clear hrow hg hbv
      obtain ⟨j, g, bs, hj, rfl, hbs, rfl, hBg, hgl, hrow, hlen, hb⟩ := hrel
      rw [HPL.out] at hj
      by_cases hlt : j < N
      · have hlt2 : (j : Int) < (N : Int) := by omega
        obtain ⟨ga, hA, hc⟩ := (OV.out.belows hb).at (i := j) (v := pcV W0.heap.size (pc L j)) (by rw [List.getElem?_map, pcs_at hlt]; rfl)
        unfold pcV pc at hc
        dsimp only at hc
        obtain ⟨m, hm⟩ : ∃ m, m = min 4096 (L - j * 4096) := ⟨_, rfl⟩
        obtain ⟨i0, hi0⟩ : ∃ i0, i0 = j * 4096 := ⟨_, rfl⟩
        rw [← hm, ← hi0] at hc
        have hjl : i0 < d.length := by have := HN.out; have := HL.out; unfold pcN at *; omega
        obtain ⟨p, hp⟩ : ∃ p, p = (d.drop i0).take 4096 := ⟨_, rfl⟩
        have HPI : Hid ((PWal.pieces d)[j]? = some p) := Lib.hid (by rw [pieces_at, if_pos (by omega), hp, hi0])
        have hpl : p.length = m := by rw [hp, List.length_take, List.length_drop, hm]; have := HL.out; omega
        have hB3 : Below W1.heap.size W1 wr := B3.out.trans (hb.mono B3.out.size)
        have hbp : Fm.BytesAt wr wr.heap.size (some ⟨W0.heap.size, i0, none⟩) p := hp ▸ piece_bytes (by have := HZ1.out; have := hB3.size; omega) (CEL.out wr hB3) i0
        have hbb : Fm.BytesAt wr wr.heap.size (some ⟨g, 0, none⟩) bs := by have := hrow.bytes hgl 0; rwa [List.drop_zero] at this
        have HP := Lib.hid (Fm.put_any bs p (some ⟨g, 0, none⟩) (some ⟨W0.heap.size, i0, none⟩) bs.length bs.length m m wr hbb rfl (by omega) (Nat.le_refl _) (by omega) hbp hpl (by omega) (Nat.le_refl _) (by omega))
        have HBS := Lib.hid hbs
        have HB := Lib.hid hb
        have HLE := Lib.hid hlen
        have HPLN : Hid (p.length ≤ 4096) := Lib.hid (by omega)
        have HTK : Hid (Fm.Fr.flat ((PWal.pieces d).take (j + 1)) = Fm.Fr.flat ((PWal.pieces d).take j) ++ Fm.Fr.rcd p) := Lib.hid (by
          rw [List.take_add_one, HPI.out]
          exact Fm.Fr.flat_snoc _ _)
        have HBG : Hid (w3.heap.size ≤ wr.heap.size) := Lib.hid hb.size
        subst hA
        obtain ⟨q, hq⟩ : ∃ q, q = bs.length := ⟨_, rfl⟩
        rw [← hq] at HP ⊢
        clear hrow hb hbs hlen hp hpl hbp hbb hm hi0 hjl hB3 hq hBg hgl
        go_wp2_with fail
        refine HP.out.mono ?_
        rintro e w5 ⟨rfl, row, b5⟩
        have ROW := Lib.hid row
        have B5 := Lib.hid b5
        obtain ⟨q2, hq2⟩ : ∃ q2, q2 = (bs ++ Fm.Fr.rcd p).length := ⟨_, rfl⟩
        have HQ2 := Lib.hid hq2
        rw [← hq2]
        clear row b5 hq2
        go_wp2_with fail
        go_roundw
        case rel => exact ⟨j + 1, wr.heap.size, bs ++ Fm.Fr.rcd p, by rw [HPL.out]; omega, by go_num, by rw [HBS.out, HTK.out, List.append_assoc], by rw [HQ2.out], HBG.out, ROW.out.lt, ROW.out, by rw [List.length_append, Fm.Fr.rcd_length]; have := HLE.out; have := HPLN.out; omega, HB.out.trans (B5.out.mono HBG.out)⟩
        case measure => simp [numOf]; omega
      · have hjn : j = N := by omega
        subst hjn
        have HEND : Hid (PWal.snapRec i t d = bs) := Lib.hid (by rw [HSR.out, hbs, List.take_of_length_le (by rw [HPL.out]; exact Nat.le_refl _)])
        have HROW := Lib.hid hrow
        have HB : Hid (Below w.heap.size w wr) := Lib.hid (B0.out.trans ((B1.out.trans ((B3.out.trans (hb.mono B3.out.size)).mono B1.out.size)).mono B0.out.size))
        have HG : Hid (w.heap.size ≤ g) := Lib.hid (by have := B0.out.size; have := B1.out.size; have := B3.out.size; omega)
        obtain ⟨q, hq⟩ : ∃ q, q = bs.length := ⟨_, rfl⟩
        have HQ := Lib.hid hq
        rw [← hq]
        clear hrow hb hbs hlen hq hBg hgl
        go_wp2_with fail
        go_ret
        exact ⟨g, by rw [HEND.out, ← HQ.out]; rfl, HG.out, by rw [HEND.out]; exact HROW.out, HB.out⟩
  clear hK
  have E0 : Hid (Below w3.heap.size w3 w3.drew) := Lib.hid (Below.refl _ w3).drew
  have HA3 : Hid (∀ V, Below w3.heap.size w3 V → V.cell? ⟨w.heap.size, 0, none⟩ = some (.int .i64 i) ∧ V.cell? ⟨w.heap.size, 1, none⟩ = some (.int .i64 t)) := Lib.hid (fun V hv => BOX.out V (B1.out.trans ((B3.out.trans (hv.mono B3.out.size)).mono B1.out.size)))
  clear q0 q1
  obtain ⟨e1, e2⟩ := HA3.out _ E0.out
  go_region_held3 (fun V => V.cell? ⟨w.heap.size, 0, none⟩ = some (.int .i64 i) ∧ V.cell? ⟨w.heap.size, 1, none⟩ = some (.int .i64 t))
    (first | exact HA3.out _ BD.out | exact HA3.out _ (BC.out.alloc BC.out.size _) | exact HA3.out _ BC.out | exact HA3.out _ BB.out | exact HA3.out _ BA.out | exact HA3.out _ E0.out)
    (first
      | (go_at_call 127; (with_reducible refine (HR.out w3 _ _ (BC.out.alloc BC.out.size _) (heap_alloc_new wc _)).mono ?_); rintro e w5 ⟨g, rfl, h2, h3, h4⟩; have H3 := Lib.hid h3; have BD : Hid (Below w3.heap.size w3 w5) := Lib.hid h4; clear h3 h4)
      | (go_at_call 128; (with_reducible refine (HNU.out _ _).mono ?_); rintro e wc ⟨rfl, b2⟩; have BC : Hid (Below w3.heap.size w3 wc) := Lib.hid (BB.out.trans (b2.mono BB.out.size)); clear b2; obtain ⟨i1, i2⟩ := HA3.out wc BC.out)
      | (go_at_call 128; (with_reducible refine (HNU.out _ _).mono ?_); rintro e wb ⟨rfl, b2⟩; have BB : Hid (Below w3.heap.size w3 wb) := Lib.hid (BA.out.trans (b2.mono BA.out.size)); clear b2; obtain ⟨g1, g2⟩ := HA3.out wb BB.out)
      | (go_at_call 128; (with_reducible refine (HNU.out _ _).mono ?_); rintro e wa ⟨rfl, b2⟩; have BA : Hid (Below w3.heap.size w3 wa) := Lib.hid (E0.out.trans (b2.mono E0.out.size)); clear b2; obtain ⟨f1, f2⟩ := HA3.out wa BA.out))
  all_goals exact HK g w5 _ _ _ _ _ _ _ _ _ _ _ _ _ _ _ _ _ _ _ _ _ _ _ _ _ _ _ _ _ _ _ _ _ _ _ H3 h2 BD
end Go.Proofs.YtjcikhacekmcfaaGreatDoor
namespace Go.Proofs.YtjcikhacekmcfaaGreatDoor
open Go.RowKit
open PlainDisk (File Disk)
open PWal (St Ent Chg)
set_option linter.unusedVariables false
set_option maxRecDepth 100000

/-! ### Snapshot -/
theorem snap_no {D : Disk} {s : St} {i t : Int} {d : List UInt8} (h : i ≤ s.sidx ∨ PWal.mayBe i = false ∨ PWal.mayBe t = false) : PWal.snapshot D s i t d = (D, s, 1) := by unfold PWal.snapshot; exact if_pos h
theorem snap_long {D : Disk} {s : St} {i t : Int} {d : List UInt8} (h : ¬ (i ≤ s.sidx ∨ PWal.mayBe i = false ∨ PWal.mayBe t = false)) (hd : 65536 < d.length) : PWal.snapshot D s i t d = (D, s, 3) := by unfold PWal.snapshot; rw [if_neg h]; exact if_pos hd
/-- behind the log's clearing -/
def snapTail (i t : Int) (d : List UInt8) (D : Disk) (s : St) : Disk × St × Int :=
  if (PWal.replace D PWal.snapN PWal.snapNewN (PWal.snapRec i t d)).2 = 0 then
    ((PWal.dropOld (PWal.replace D PWal.snapN PWal.snapNewN (PWal.snapRec i t d)).1 i).1, { s with sidx := i, sterm := t, sdata := d, log := PWal.above s i }, (PWal.dropOld (PWal.replace D PWal.snapN PWal.snapNewN (PWal.snapRec i t d)).1 i).2)
  else ((PWal.replace D PWal.snapN PWal.snapNewN (PWal.snapRec i t d)).1, s, (PWal.replace D PWal.snapN PWal.snapNewN (PWal.snapRec i t d)).2)
theorem snap_has {D : Disk} {s : St} {i t : Int} {d : List UInt8} (h : ¬ (i ≤ s.sidx ∨ PWal.mayBe i = false ∨ PWal.mayBe t = false)) (hd : ¬ 65536 < d.length) (hh : PWal.has s i t = true) : PWal.snapshot D s i t d = snapTail i t d D s := by
  unfold PWal.snapshot
  rw [if_neg h, if_neg hd]
  simp only [hh, if_true]
  rfl
theorem snap_clear {D : Disk} {s : St} {i t : Int} {d : List UInt8} (h : ¬ (i ≤ s.sidx ∨ PWal.mayBe i = false ∨ PWal.mayBe t = false)) (hd : ¬ 65536 < d.length) (hh : PWal.has s i t = false) : PWal.snapshot D s i t d = if (PWal.clearLog D s).2.2 = 0 then snapTail i t d (PWal.clearLog D s).1 (PWal.clearLog D s).2.1 else PWal.clearLog D s := by
  unfold PWal.snapshot
  rw [if_neg h, if_neg hd]
  simp only [hh]
  rfl
theorem mayBe_iff {n : Int} (h : PWal.mayBe n = true) : 1 ≤ n ∧ n ≤ 4611686018427387904 := by
  unfold PWal.mayBe PWal.maxI at h
  simp only [Bool.and_eq_true, decide_eq_true_eq] at h
  exact h
theorem flat_le : ∀ (l : List (List UInt8)), (∀ p ∈ l, p.length ≤ 4096) → (Fm.Fr.flat l).length ≤ l.length * 4104 := by
  intro l
  induction l with
  | nil => intro _; simp [Fm.Fr.flat]
  | cons p r ih =>
    intro h
    have h1 := ih fun x hx => h x (List.mem_cons_of_mem _ hx)
    have h2 := h p (List.mem_cons_self ..)
    rw [Fm.Fr.flat_cons, List.length_append, Fm.Fr.rcd_length, List.length_cons]
    omega
theorem piece_small {d p : List UInt8} (h : p ∈ PWal.pieces d) : p.length ≤ 4096 := by
  obtain ⟨j, hj⟩ := List.mem_iff_getElem?.1 h
  rw [pieces_at] at hj
  split at hj
  · injection hj with hj
    rw [← hj, List.length_take]; omega
  · cases hj
theorem snapRec_len (i t : Int) {d : List UInt8} (hd : d.length ≤ 65536) : (PWal.snapRec i t d).length ≤ 1000000 := by
  unfold PWal.snapRec
  have h1 := flat_le (PWal.pieces d) fun p hp => piece_small hp
  have h2 := pieces_len d
  have h3 : pcN d.length ≤ 16 := by unfold pcN; omega
  have h4 : (PWal.rcdOf [PWal.num i, PWal.num t, PWal.num ((PWal.pieces d).length : Int)]).length ≤ 100 := by
    unfold PWal.rcdOf
    rw [Fm.Fr.rcd_length]
    have := row_len [PWal.num i, PWal.num t, PWal.num ((PWal.pieces d).length : Int)]; have := num_len i; have := num_len t; have := num_len ((PWal.pieces d).length : Int)
    rw [encs_cons, encs_cons, encs_cons, encs_nil] at *; omega
  rw [List.length_append]
  omega
theorem clear_sidx (D : Disk) (s : St) : (PWal.clearLog D s).2.1.sidx = s.sidx := by
  rw [clear_eq]
  split <;> rfl
theorem snap_fine {s : St} (f : FineS s) (i t : Int) (d : List UInt8) (i0 : 0 ≤ i) (i1 : i ≤ 4611686018427387904) (ht : Wr.InR t) (hd : d.length ≤ 65536) : FineS { s with sidx := i, sterm := t, sdata := d, log := PWal.above s i } :=
  ⟨i0, i1, by have := f.len; show (PWal.above s i).length ≤ _; unfold PWal.above; rw [List.length_drop]; omega, f.t, f.v, ht, hd, fun x hx => f.e x (by have hx : x ∈ PWal.above s i := hx; unfold PWal.above at hx; exact List.mem_of_mem_drop hx)⟩
theorem snap_sat {w wa : World} {bw b : Nat} {s : St} {lv lv' : Value} (h : SAt w bw b s lv) (hb : Below w.heap.size w wa) (i t : Int) (d : List UInt8) (l : List Ent) (ho : OwnE wa w.heap.size lv' l) (hF : FineS { s with sidx := i, sterm := t, sdata := d, log := l }) :
    SatTo w ((((wa.setCell ⟨bw, 3, none⟩ (.int .i64 i)).setCell ⟨bw, 4, none⟩ (.int .i64 t)).setCell ⟨bw, 5, none⟩ (.string (str d))).setCell ⟨bw, 6, none⟩ lv') bw b { s with sidx := i, sterm := t, sdata := d, log := l } lv lv' := by
  have hc := (h.below hb).cells
  have hlt := h.lt
  have hge := fun k hk => (World.ownsRow.lt ho k hk).1
  have ho0 : OwnE wa 0 lv' l := by
    refine ⟨ho.1, ?_⟩
    rcases ho.2 with q | ⟨g, cap, cur, q1, q2, q3⟩
    · exact .inl q
    · exact .inr ⟨g, cap, cur, q1, Nat.zero_le _, q3⟩
  refine ⟨⟨Fm.heap_set _ bw 6 lv' _ _ (Fm.heap_set _ bw 5 (.string (str d)) _ _ (Fm.heap_set _ bw 4 (.int .i64 t) _ _ (Fm.heap_set wa bw 3 (.int .i64 i) _ _ hc))), ?_, hF⟩, fun k hk => .inr (hge k hk), ?_⟩
  · refine own_frame ho0 fun k hk => ?_
    have hne : k ≠ bw := by have := hge k hk; omega
    rw [Below.heap_setCell _ _ _ _ hne, Below.heap_setCell _ _ _ _ hne, Below.heap_setCell _ _ _ _ hne, Below.heap_setCell _ _ _ _ hne]
  · exact ((((Fr.of_below hb).setCell (p := ⟨bw, 3, none⟩) (.inl (.inl rfl)) _).setCell (p := ⟨bw, 4, none⟩) (.inl (.inl rfl)) _).setCell (p := ⟨bw, 5, none⟩) (.inl (.inl rfl)) _).setCell (p := ⟨bw, 6, none⟩) (.inl (.inl rfl)) _
set_option maxHeartbeats 4000000 in
theorem snapshot_any {w : World} {bw b : Nat} {D : Disk} {s : St} {T : Nat → Prop} (h : Wal w bw b D s T) (i t : Int) (d : List UInt8) (hi : Wr.InR i) (ht : Wr.InR t) (hd : d.length ≤ 1000000000) (hl : s.log.length < 10000000) :
    Calls Tryz.prog 30 #[.pointer (some ⟨bw, 0, none⟩), .agg #[.int .i64 i, .int .i64 t, .string (str d)]] w (CallP (PWal.snapshot D s i t d) bw b T w) := by
  have HW := Lib.hid h
  obtain ⟨⟨lv, S, hwl⟩, hT⟩ := h
  have HWL := Lib.hid hwl
  have HT := Lib.hid hT
  have hbwl := hwl.sat.lt
  obtain ⟨W0, hW0⟩ : ∃ W, w.alloc (.cells #[.int .i64 i, .int .i64 t, .string (str d)] 37) = W := ⟨_, rfl⟩
  have HW0 := Lib.hid hW0
  have hb0 : Below w.heap.size w W0 := hW0 ▸ below_new w _
  have hx0 : W0.heap[w.heap.size]? = some (.cells #[.int .i64 i, .int .i64 t, .string (str d)] 37 (0, 0)) := by rw [← hW0]; exact heap_alloc_new w _
  have B0 := Lib.hid hb0
  have HX0 := Lib.hid hx0
  have HZ0 : Hid (w.heap.size < W0.heap.size) := Lib.hid (Array.getElem?_eq_some_iff.1 hx0).1
  have BOX : Hid (∀ V : World, V.heap[w.heap.size]? = W0.heap[w.heap.size]? → V.cell? ⟨w.heap.size, 0, none⟩ = some (.int .i64 i) ∧ V.cell? ⟨w.heap.size, 1, none⟩ = some (.int .i64 t) ∧ V.cell? ⟨w.heap.size, 2, none⟩ = some (.string (str d))) := Lib.hid (fun V hb => by
    have hv := hb.trans HX0.out
    refine ⟨?_, ?_, ?_⟩ <;> (rw [Lib.cell_of_heap hv]; rfl))
  -- what is read where a region is drawn: the box and the state's index
  have RD : Hid (∀ V, Below W0.heap.size W0 V → V.cell? ⟨w.heap.size, 0, none⟩ = some (.int .i64 i) ∧ V.cell? ⟨w.heap.size, 1, none⟩ = some (.int .i64 t) ∧ V.cell? ⟨w.heap.size, 2, none⟩ = some (.string (str d)) ∧ V.cell? ⟨bw, 3, none⟩ = some (.int .i64 s.sidx)) := Lib.hid (fun V hb => by
    obtain ⟨a1, a2, a3⟩ := BOX.out V (hb.block _ HZ0.out)
    exact ⟨a1, a2, a3, ((HWL.out.below (B0.out.trans (hb.mono B0.out.size))).sat.at).2.2.2.1⟩)
  have HMS := Lib.hid (fun V => maySnap_any i t (str d) V)
  have STAY : Hid (∀ V, Below W0.heap.size W0 V → WalTo w V bw b D s T) := Lib.hid (fun V hb => HW.out.stays (B0.out.trans (hb.mono B0.out.size)))
  have E0 : Hid (Below W0.heap.size W0 W0.drew) := Lib.hid (Below.refl _ W0).drew
  by_cases h1 : i ≤ s.sidx
  · have HR := Lib.hid (snap_no (D := D) (s := s) (t := t) (d := d) (.inl h1))
    obtain ⟨a1, a2, a3, a4⟩ := RD.out _ (Below.refl _ W0)
    clear hwl hT hW0 hb0 hx0 hl hd hi ht
    go_enter Tryz.func30, Tryz.ntmps30
    go_wp2_with fail
    rw [HW0.out]
    go_wp2_with fail
    go_quiet (fail)
    go_wp2_with fail
    go_ret
    exact ⟨by rw [HR.out]; rfl, by rw [HR.out]; exact STAY.out _ (below_drewN (Below.refl _ W0) _)⟩
  · have hdec : decide (i ≤ s.sidx) = false := decide_eq_false h1
    cases hm : (PWal.mayBe i && PWal.mayBe t) with
    | false =>
      have HR := Lib.hid (snap_no (D := D) (s := s) (d := d) (.inr (show PWal.mayBe i = false ∨ PWal.mayBe t = false by
        cases q : PWal.mayBe i with
        | false => exact .inl rfl
        | true => rw [q] at hm; exact .inr hm)))
      rw [hm] at HMS
      obtain ⟨a1, a2, a3, a4⟩ := RD.out _ E0.out
      clear hwl hT hW0 hb0 hx0 hl hd hi ht hm
      go_enter Tryz.func30, Tryz.ntmps30
      go_wp2_with fail
      rw [HW0.out]
      go_wp2_with fail
      go_region_held3 (fun V => V.cell? ⟨w.heap.size, 0, none⟩ = some (.int .i64 i) ∧ V.cell? ⟨w.heap.size, 1, none⟩ = some (.int .i64 t) ∧ V.cell? ⟨w.heap.size, 2, none⟩ = some (.string (str d)) ∧ V.cell? ⟨bw, 3, none⟩ = some (.int .i64 s.sidx))
        (first | exact RD.out _ BA.out | exact RD.out _ E0.out)
        (first | (go_at_call 71; (with_reducible refine (HMS.out _).mono ?_); rintro e wa ⟨rfl, b2⟩; have BA : Hid (Below W0.heap.size W0 wa) := Lib.hid (E0.out.trans b2); clear b2; obtain ⟨f1, f2, f3, f4⟩ := RD.out wa BA.out))
      all_goals
        go_wp2_with fail
        go_ret
        exact ⟨by rw [HR.out]; rfl, by rw [HR.out]; exact STAY.out _ BA.out⟩
    | true =>
      rw [hm] at HMS
      rw [Bool.and_eq_true] at hm
      have hno : ¬ (i ≤ s.sidx ∨ PWal.mayBe i = false ∨ PWal.mayBe t = false) := by rw [hm.1, hm.2]; simp; omega
      obtain ⟨i0, i1⟩ := mayBe_iff hm.1
      obtain ⟨t0, t1⟩ := mayBe_iff hm.2
      have HNO := Lib.hid hno
      have HL := Lib.hid hl
      have HD := Lib.hid hd
      have HI := Lib.hid hi
      have HTT := Lib.hid ht
      have HS0 := Lib.hid hwl.sat.fine.i0
      have HRS := Lib.hid (fun V (hd2 : d.length ≤ 65536) => snapRecords_any i t d hi ht hd2 V)
      obtain ⟨a1, a2, a3, a4⟩ := RD.out _ E0.out
      clear hwl hT hW0 hb0 hx0 hl hd hi ht hm hno
      go_enter Tryz.func30, Tryz.ntmps30
      go_wp2_with fail
      rw [HW0.out]
      go_wp2_with fail
      rename_i K hK
      have HK : ∀ (V : World) (z1 z2 z4 z5 z6 z7 z8 z9 z10 z11 z12 z13 z14 z15 z16 z17 z18 z19 z20 z21 z23 z24 z25 z26 z27 z28 z29 z30 z31 z32 z33 z34 z35 z36 z37 z38 z39 z40 z41 z42 z43 z44 z45 z46 z47 z48 z49 z50 z51 z52 z53 z54 z55 z56 z57 z58 z59 z60 z61 z62 z63 z64 : Value), Hid (Below W0.heap.size W0 V) → K { tmps := #[.pointer (some ⟨bw, 0, none⟩), z1, z2, .pointer (some ⟨w.heap.size, 0, none⟩), z4, z5, z6, z7, z8, z9, z10, z11, z12, z13, z14, z15, z16, z17, z18, z19, z20, z21, .bool false, z23, z24, z25, z26, z27, z28, z29, z30, z31, z32, z33, z34, z35, z36, z37, z38, z39, z40, z41, z42, z43, z44, z45, z46, z47, z48, z49, z50, z51, z52, z53, z54, z55, z56, z57, z58, z59, z60, z61, z62, z63, z64], defers := [] } V := by
        intro V z1 z2 z4 z5 z6 z7 z8 z9 z10 z11 z12 z13 z14 z15 z16 z17 z18 z19 z20 z21 z23 z24 z25 z26 z27 z28 z29 z30 z31 z32 z33 z34 z35 z36 z37 z38 z39 z40 z41 z42 z43 z44 z45 z46 z47 z48 z49 z50 z51 z52 z53 z54 z55 z56 z57 z58 z59 z60 z61 z62 z63 z64 BV
        refine hK _ _ ?_
        clear hK a1 a2 a3 a4
        obtain ⟨a1, a2, a3, a4⟩ := RD.out V BV.out
        have hsz : (str d).size = d.length := str_size d
        by_cases hlong : 65536 < d.length
        · have HR := Lib.hid (snap_long (D := D) HNO.out hlong)
          have hlong2 : (65536 : Int) < ((str d).size : Int) := by omega
          clear hlong
          go_wp2_with fail
          go_ret
          exact ⟨by rw [HR.out]; rfl, by rw [HR.out]; exact STAY.out _ BV.out⟩
        · have hlong2 : ((str d).size : Int) ≤ 65536 := by omega
          go_wp2_with fail
          rename_i K2 hK2 K7 hK7
          have hd2 : d.length ≤ 65536 := by omega
          have HK2 : ∀ (V : World) (D1 : Disk) (s1 : St) (x1 x2 x4 x5 x6 x7 x8 x9 x10 x11 x12 x13 x14 x15 x16 x17 x18 x19 x20 x21 x22 x23 x24 x25 x26 x27 x28 x29 x30 x31 x32 x33 x34 x35 x36 x37 x38 x39 x40 x41 x42 x43 x44 x45 x46 x47 x48 x49 x50 x51 x52 x53 x54 x55 x56 x57 x58 x59 x60 x61 x62 x63 x64 : Value), Hid (WalTo W0 V bw b D1 s1 T) → Hid (V.heap[w.heap.size]? = W0.heap[w.heap.size]?) → s1.sidx = s.sidx → Hid (PWal.snapshot D s i t d = snapTail i t d D1 s1) → K2 { tmps := #[.pointer (some ⟨bw, 0, none⟩), x1, x2, .pointer (some ⟨w.heap.size, 0, none⟩), x4, x5, x6, x7, x8, x9, x10, x11, x12, x13, x14, x15, x16, x17, x18, x19, x20, x21, x22, x23, x24, x25, x26, x27, x28, x29, x30, x31, x32, x33, x34, x35, x36, x37, x38, x39, x40, x41, x42, x43, x44, x45, x46, x47, x48, x49, x50, x51, x52, x53, x54, x55, x56, x57, x58, x59, x60, x61, x62, x63, x64], defers := [] } V := by
            intro V D1 s1 x1 x2 x4 x5 x6 x7 x8 x9 x10 x11 x12 x13 x14 x15 x16 x17 x18 x19 x20 x21 x22 x23 x24 x25 x26 x27 x28 x29 x30 x31 x32 x33 x34 x35 x36 x37 x38 x39 x40 x41 x42 x43 x44 x45 x46 x47 x48 x49 x50 x51 x52 x53 x54 x55 x56 x57 x58 x59 x60 x61 x62 x63 x64 hto hbx hsx hres
            refine hK2 _ _ ?_
            clear hK2 hK7
            obtain ⟨T1, ⟨⟨lv1, S1, wl1⟩, hT1⟩, hu1, hf1⟩ := hto.out
            have W1 := Lib.hid wl1
            have HT1 := Lib.hid hT1
            have U1 := Lib.hid hu1
            have F1 := Lib.hid hf1
            have HZV : Hid (w.heap.size < V.heap.size) := Lib.hid (by have := hf1.size; have := HZ0.out; omega)
            have NBX : Hid (¬ T1 w.heap.size) := Lib.hid (fun q => (hu1 _ q).elim (fun r => by have := (HT.out _ r).2; omega) (fun r => by have := r.1; have := HZ0.out; omega))
            have HSX : Hid (s1.sidx < i) := Lib.hid (by rw [hsx]; exact h1)
            have HLEN := Lib.hid (snapRec_len i t hd2)
            have HRES := Lib.hid hres.out
            unfold snapTail at HRES
            obtain ⟨g1, g2, g3⟩ := BOX.out V hbx.out
            generalize PWal.snapRec i t d = rc at *
            clear wl1 hT1 hu1 hf1 a1 a2 a3 a4 hsx hres
            go_wp2_with fail
            refine (HRS.out V hd2).mono ?_
            rintro e w2 ⟨g, rfl, hg, row, b2⟩
            have B2 := Lib.hid b2
            have HRP : Hid (Calls Tryz.prog 74 #[.pointer (some ⟨bw, 0, none⟩), .string ⟨#[115, 110, 97, 112]⟩, .slice (some ⟨g, 0, none⟩) rc.length rc.length] w2 (StepP (PWal.replace D1 PWal.snapN PWal.snapNewN rc) b S1 w2)) := Lib.hid (replace_any ((W1.out.below b2).ws) PWal.snapN (by decide) rc _ (RecP.src (b := b) W1.out.dk.lt hg row (by have := HLEN.out; omega)))
            obtain ⟨rl, hrl⟩ : ∃ rl, rl = rc.length := ⟨_, rfl⟩
            rw [← hrl] at HRP ⊢
            clear b2 row hg hrl g1 g2 g3
            go_wp2_with fail
            refine HRP.out.mono ?_
            rintro e w3 ⟨rfl, t3⟩
            obtain ⟨S3, T3, wl3, hT3, upS3, upT3, fr3⟩ := (W1.out.below B2.out).disk (fun k hk => ⟨(HT1.out k hk).1, Nat.lt_of_lt_of_le (HT1.out k hk).2 B2.out.size⟩) t3
            have W3 := Lib.hid wl3
            have R3 := Lib.hid hT3
            have F3 := Lib.hid fr3
            have U3 := Lib.hid upT3
            generalize PWal.replace D1 PWal.snapN PWal.snapNewN rc = r at *
            obtain ⟨D3, e3⟩ := r
            clear t3 wl3 hT3 upS3 upT3 fr3
            by_cases he : e3 = 0
            · subst he
              rw [if_pos rfl] at HRES
              have HB3 : Hid (w3.heap[w.heap.size]? = W0.heap[w.heap.size]?) := Lib.hid (((F3.out.block _ (by have := HZV.out; have := B2.out.size; omega) NBX.out).trans (B2.out.block _ HZV.out)).trans hbx.out)
              have HZ3 : Hid (w.heap.size < w3.heap.size) := Lib.hid (by have := HZV.out; have := B2.out.size; have := F3.out.size; omega)
              have D4 : Hid (Below w3.heap.size w3 w3.drew) := Lib.hid (Below.refl _ w3).drew
              have RB : Hid (∀ V', Below w3.heap.size w3 V' → V'.cell? ⟨w.heap.size, 0, none⟩ = some (.int .i64 i) ∧ V'.cell? ⟨w.heap.size, 1, none⟩ = some (.int .i64 t) ∧ V'.cell? ⟨w.heap.size, 2, none⟩ = some (.string (str d))) := Lib.hid (fun V' hb => BOX.out V' ((hb.block _ HZ3.out).trans HB3.out))
              have RC : Hid (∀ V', Below w3.heap.size w3 V' → V'.heap[bw]? = some (.cells (stC b s1 lv1) 91 (0, 0))) := Lib.hid (fun V' hb => ((W3.out.below hb).sat).cells)
              have RF : Hid (∀ V', Below w3.heap.size w3 V' → (V'.cell? ⟨bw, 3, none⟩ = some (.int .i64 s1.sidx) ∧ V'.cell? ⟨bw, 4, none⟩ = some (.int .i64 s1.sterm) ∧ V'.cell? ⟨bw, 5, none⟩ = some (.string (str s1.sdata)) ∧ V'.cell? ⟨bw, 6, none⟩ = some lv1) ∧ V'.frozen? ⟨bw, 3, none⟩ = false ∧ V'.frozen? ⟨bw, 4, none⟩ = false ∧ V'.frozen? ⟨bw, 5, none⟩ = false ∧ V'.frozen? ⟨bw, 6, none⟩ = false) := Lib.hid (fun V' hb => by
                have hc := RC.out V' hb
                refine ⟨⟨?_, ?_, ?_, ?_⟩, Lib.frozen_of_heap hc 3, Lib.frozen_of_heap hc 4, Lib.frozen_of_heap hc 5, Lib.frozen_of_heap hc 6⟩ <;> (rw [Lib.cell_of_heap hc]; rfl))
              have HNE : Hid (w.heap.size ≠ bw) := Lib.hid (by omega)
              have SC3 : Hid (∀ (wa : World) (v1 v2 v3 : Value), Below w3.heap.size w3 wa → (((wa.setCell ⟨bw, 3, none⟩ v1).setCell ⟨bw, 4, none⟩ v2).setCell ⟨bw, 5, none⟩ v3).cell? ⟨w.heap.size, 0, none⟩ = some (.int .i64 i) ∧ (((wa.setCell ⟨bw, 3, none⟩ v1).setCell ⟨bw, 4, none⟩ v2).setCell ⟨bw, 5, none⟩ v3).cell? ⟨w.heap.size, 1, none⟩ = some (.int .i64 t) ∧ (((wa.setCell ⟨bw, 3, none⟩ v1).setCell ⟨bw, 4, none⟩ v2).setCell ⟨bw, 5, none⟩ v3).cell? ⟨w.heap.size, 2, none⟩ = some (.string (str d))) := Lib.hid (fun wa v1 v2 v3 hb => BOX.out _ (by
                rw [Below.heap_setCell _ _ _ _ HNE.out, Below.heap_setCell _ _ _ _ HNE.out, Below.heap_setCell _ _ _ _ HNE.out]
                exact (hb.block _ HZ3.out).trans HB3.out))
              have SC4 : Hid (∀ (wa : World) (v1 v2 v3 v4 : Value), Below w3.heap.size w3 wa → ((((wa.setCell ⟨bw, 3, none⟩ v1).setCell ⟨bw, 4, none⟩ v2).setCell ⟨bw, 5, none⟩ v3).setCell ⟨bw, 6, none⟩ v4).cell? ⟨w.heap.size, 0, none⟩ = some (.int .i64 i) ∧ ((((wa.setCell ⟨bw, 3, none⟩ v1).setCell ⟨bw, 4, none⟩ v2).setCell ⟨bw, 5, none⟩ v3).setCell ⟨bw, 6, none⟩ v4).cell? ⟨w.heap.size, 1, none⟩ = some (.int .i64 t) ∧ ((((wa.setCell ⟨bw, 3, none⟩ v1).setCell ⟨bw, 4, none⟩ v2).setCell ⟨bw, 5, none⟩ v3).setCell ⟨bw, 6, none⟩ v4).cell? ⟨w.heap.size, 2, none⟩ = some (.string (str d))) := Lib.hid (fun wa v1 v2 v3 v4 hb => BOX.out _ (by
                rw [Below.heap_setCell _ _ _ _ HNE.out, Below.heap_setCell _ _ _ _ HNE.out, Below.heap_setCell _ _ _ _ HNE.out, Below.heap_setCell _ _ _ _ HNE.out]
                exact (hb.block _ HZ3.out).trans HB3.out))
              have HAB := Lib.hid (above_any ((W3.out.below D4.out).sat) i HSX.out i1)
              have SNF := Lib.hid (snap_fine W3.out.sat.fine i t d (by omega) i1 HTT.out hd2)
              obtain ⟨g1, g2, g3⟩ := RB.out _ D4.out
              go_wp2_with fail
              go_region_held3 (fun V' => V'.cell? ⟨w.heap.size, 0, none⟩ = some (.int .i64 i) ∧ V'.cell? ⟨w.heap.size, 1, none⟩ = some (.int .i64 t) ∧ V'.cell? ⟨w.heap.size, 2, none⟩ = some (.string (str d)))
                (first | with_reducible exact RB.out _ BA.out | with_reducible exact RB.out _ D4.out | with_reducible exact SC3.out _ _ _ _ BA.out | with_reducible exact SC4.out _ _ _ _ _ BA.out)
                (first | (go_at_call 76; (with_reducible refine HAB.out.mono ?_); rintro e wa ⟨A, c, rfl, ho, b2⟩; have BA : Hid (Below w3.heap.size w3 wa) := Lib.hid (D4.out.trans b2); have OW := Lib.hid ho; have B5 := Lib.hid b2; clear b2 ho; obtain ⟨f1, f2, f3⟩ := RB.out wa BA.out; obtain ⟨⟨m3, m4, m5, m6⟩, k3, k4, k5, k6⟩ := RF.out wa BA.out))
              all_goals
                obtain ⟨wl5, fr5⟩ := (W3.out.below D4.out).sat_to (snap_sat ((W3.out.below D4.out).sat) B5.out i t d _ OW.out SNF.out)
                have HT5 := Lib.hid (fun k (hk : Up T3 w3.drew ((((wa.setCell ⟨bw, 3, none⟩ (.int .i64 i)).setCell ⟨bw, 4, none⟩ (.int .i64 t)).setCell ⟨bw, 5, none⟩ (.string (str d))).setCell ⟨bw, 6, none⟩ (.slice A (PWal.above s1 i).length c)) k) => (by
                  have g3 := W3.out.dk.glob.size
                  rcases hk with q | q
                  · exact ⟨(R3.out k q).1, Nat.lt_of_lt_of_le (R3.out k q).2 fr5.size⟩
                  · exact ⟨by have : w3.drew.heap.size = w3.heap.size := rfl; omega, q.2⟩ : 3 ≤ k ∧ k < ((((wa.setCell ⟨bw, 3, none⟩ (.int .i64 i)).setCell ⟨bw, 4, none⟩ (.int .i64 t)).setCell ⟨bw, 5, none⟩ (.string (str d))).setCell ⟨bw, 6, none⟩ (.slice A (PWal.above s1 i).length c)).heap.size))
                have W5 := Lib.hid wl5
                have F5 := Lib.hid fr5
                have HDO := Lib.hid (dropOld_any wl5)
                dsimp only at HDO
                generalize ((((wa.setCell ⟨bw, 3, none⟩ (.int .i64 i)).setCell ⟨bw, 4, none⟩ (.int .i64 t)).setCell ⟨bw, 5, none⟩ (.string (str d))).setCell ⟨bw, 6, none⟩ (.slice A (PWal.above s1 i).length c)) = w5 at *
                clear wl5 fr5 f1 f2 f3 m3 m4 m5 m6 k3 k4 k5 k6
                go_wp2_with fail
                refine HDO.out.mono ?_
                rintro e w6 ⟨rfl, t6⟩
                obtain ⟨S6, T6, wl6, hT6, upS6, upT6, fr6⟩ := W5.out.disk HT5.out t6
                have FIN := Lib.hid (WalTo.before B0.out (WalTo.go U1.out F1.out (WalTo.before B2.out (WalTo.go U3.out F3.out (WalTo.before D4.out (WalTo.go (fun k hk => hk) F5.out ⟨T6, ⟨⟨_, _, wl6⟩, hT6⟩, upT6, fr6⟩))))))
                generalize PWal.dropOld D3 i = r at *
                obtain ⟨D6, e6⟩ := r
                clear t6 wl6 hT6 upS6 upT6 fr6
                go_wp2_with fail
                go_ret
                exact ⟨by rw [HRES.out]; rfl, by rw [HRES.out]; exact FIN.out⟩
            · rw [if_neg he] at HRES
              have FIN : Hid (WalTo w w3 bw b D3 s1 T) := Lib.hid (WalTo.before B0.out (WalTo.go U1.out F1.out (WalTo.before B2.out ⟨T3, ⟨⟨_, _, W3.out⟩, R3.out⟩, U3.out, F3.out⟩)))
              go_wp2_with fail
              go_ret
              exact ⟨by rw [HRES.out]; rfl, by rw [HRES.out]; exact FIN.out⟩
          clear hK2
          have HHAS := Lib.hid (fun V (hb : Below W0.heap.size W0 V) => has_any ((HWL.out.below (B0.out.trans (hb.mono B0.out.size))).sat) i t (by omega) i1)
          have E1 : Hid (Below W0.heap.size W0 V.drew) := Lib.hid BV.out.drew
          obtain ⟨c1, c2, c3, c4⟩ := RD.out _ E1.out
          cases hh : PWal.has s i t with
          | true =>
            rw [hh] at HHAS
            have HK7 : ∀ (V2 : World) (x1 x2 x4 x5 x6 x7 x8 x9 x10 x11 x12 x13 x14 x15 x16 x17 x18 x19 x20 x21 x22 x23 x24 x25 x26 x27 x28 x29 x30 x31 x32 x33 x34 x36 x37 x38 x39 x40 x41 x42 x43 x44 x45 x46 x47 x48 x49 x50 x51 x52 x53 x54 x55 x56 x57 x58 x59 x60 x61 x62 x63 x64 : Value), Hid (Below W0.heap.size W0 V2) → K7 { tmps := #[.pointer (some ⟨bw, 0, none⟩), x1, x2, .pointer (some ⟨w.heap.size, 0, none⟩), x4, x5, x6, x7, x8, x9, x10, x11, x12, x13, x14, x15, x16, x17, x18, x19, x20, x21, x22, x23, x24, x25, x26, x27, x28, x29, x30, x31, x32, x33, x34, .bool false, x36, x37, x38, x39, x40, x41, x42, x43, x44, x45, x46, x47, x48, x49, x50, x51, x52, x53, x54, x55, x56, x57, x58, x59, x60, x61, x62, x63, x64], defers := [] } V2 := by
              intro V2 x1 x2 x4 x5 x6 x7 x8 x9 x10 x11 x12 x13 x14 x15 x16 x17 x18 x19 x20 x21 x22 x23 x24 x25 x26 x27 x28 x29 x30 x31 x32 x33 x34 x36 x37 x38 x39 x40 x41 x42 x43 x44 x45 x46 x47 x48 x49 x50 x51 x52 x53 x54 x55 x56 x57 x58 x59 x60 x61 x62 x63 x64 BV2
              refine hK7 _ _ ?_
              clear hK7
              go_wp2_with fail
              exact HK2 V2 D s _ _ _ _ _ _ _ _ _ _ _ _ _ _ _ _ _ _ _ _ _ _ _ _ _ _ _ _ _ _ _ _ _ _ _ _ _ _ _ _ _ _ _ _ _ _ _ _ _ _ _ _ _ _ _ _ _ _ _ _ _ _ _ (Lib.hid ((HW.out.below B0.out).stays BV2.out)) (Lib.hid (BV2.out.block _ HZ0.out)) rfl (Lib.hid (snap_has HNO.out (by omega) hh))
            clear hK7 hh
            go_region_held3 (fun V => V.cell? ⟨w.heap.size, 0, none⟩ = some (.int .i64 i) ∧ V.cell? ⟨w.heap.size, 1, none⟩ = some (.int .i64 t) ∧ V.cell? ⟨w.heap.size, 2, none⟩ = some (.string (str d)) ∧ V.cell? ⟨bw, 3, none⟩ = some (.int .i64 s.sidx))
              (first | exact RD.out _ BA.out | exact RD.out _ E1.out)
              (first | (go_at_call 72; (with_reducible refine (HHAS.out _ E1.out).mono ?_); rintro e wa ⟨rfl, b2⟩; have BA : Hid (Below W0.heap.size W0 wa) := Lib.hid (E1.out.trans (b2.mono E1.out.size)); clear b2; obtain ⟨f1, f2, f3, f4⟩ := RD.out wa BA.out))
            all_goals exact HK7 wa _ _ _ _ _ _ _ _ _ _ _ _ _ _ _ _ _ _ _ _ _ _ _ _ _ _ _ _ _ _ _ _ _ _ _ _ _ _ _ _ _ _ _ _ _ _ _ _ _ _ _ _ _ _ _ _ _ _ _ _ _ _ BA
          | false =>
            rw [hh] at HHAS
            have HK7 : ∀ (V2 : World) (x1 x2 x4 x5 x6 x7 x8 x9 x10 x11 x12 x13 x14 x15 x16 x17 x18 x19 x20 x21 x22 x23 x24 x25 x26 x27 x28 x29 x30 x31 x32 x33 x34 x36 x37 x38 x39 x40 x41 x42 x43 x44 x45 x46 x47 x48 x49 x50 x51 x52 x53 x54 x55 x56 x57 x58 x59 x60 x61 x62 x63 x64 : Value), Hid (Below W0.heap.size W0 V2) → K7 { tmps := #[.pointer (some ⟨bw, 0, none⟩), x1, x2, .pointer (some ⟨w.heap.size, 0, none⟩), x4, x5, x6, x7, x8, x9, x10, x11, x12, x13, x14, x15, x16, x17, x18, x19, x20, x21, x22, x23, x24, x25, x26, x27, x28, x29, x30, x31, x32, x33, x34, .bool true, x36, x37, x38, x39, x40, x41, x42, x43, x44, x45, x46, x47, x48, x49, x50, x51, x52, x53, x54, x55, x56, x57, x58, x59, x60, x61, x62, x63, x64], defers := [] } V2 := by
              intro V2 x1 x2 x4 x5 x6 x7 x8 x9 x10 x11 x12 x13 x14 x15 x16 x17 x18 x19 x20 x21 x22 x23 x24 x25 x26 x27 x28 x29 x30 x31 x32 x33 x34 x36 x37 x38 x39 x40 x41 x42 x43 x44 x45 x46 x47 x48 x49 x50 x51 x52 x53 x54 x55 x56 x57 x58 x59 x60 x61 x62 x63 x64 BV2
              refine hK7 _ _ ?_
              clear hK7
              have BW2 : Hid (Below w.heap.size w V2) := Lib.hid (B0.out.trans (BV2.out.mono B0.out.size))
              have HCL := Lib.hid (clearLog_any (HW.out.below BW2.out) (by omega) HL.out)
              have HSC := Lib.hid (snap_clear (D := D) HNO.out (by omega) hh)
              have HSX := Lib.hid (clear_sidx D s)
              generalize PWal.clearLog D s = r at *
              obtain ⟨D1, s1, e1⟩ := r
              go_wp2_with fail
              refine HCL.out.mono ?_
              rintro e w4 ⟨rfl, to4⟩
              have TO4 : Hid (WalTo W0 w4 bw b D1 s1 T) := Lib.hid (WalTo.before BV2.out to4)
              have HBX4 : Hid (w4.heap[w.heap.size]? = W0.heap[w.heap.size]?) := Lib.hid (by
                obtain ⟨T4, _, _, fr4⟩ := to4
                exact (fr4.block _ (by have := HZ0.out; have := BV2.out.size; omega) (fun q => by have := (HT.out _ q).2; omega)).trans (BV2.out.block _ HZ0.out))
              clear to4
              by_cases he : e1 = 0
              · subst he
                rw [if_pos rfl] at HSC
                go_wp2_with fail
                exact HK2 w4 D1 s1 _ _ _ _ _ _ _ _ _ _ _ _ _ _ _ _ _ _ _ _ _ _ _ _ _ _ _ _ _ _ _ _ _ _ _ _ _ _ _ _ _ _ _ _ _ _ _ _ _ _ _ _ _ _ _ _ _ _ _ _ _ _ _ TO4 HBX4 HSX.out HSC
              · rw [if_neg he] at HSC
                go_wp2_with fail
                go_ret
                exact ⟨by rw [HSC.out]; rfl, by rw [HSC.out]; exact WalTo.before B0.out TO4.out⟩
            clear hK7 hh
            go_region_held3 (fun V => V.cell? ⟨w.heap.size, 0, none⟩ = some (.int .i64 i) ∧ V.cell? ⟨w.heap.size, 1, none⟩ = some (.int .i64 t) ∧ V.cell? ⟨w.heap.size, 2, none⟩ = some (.string (str d)) ∧ V.cell? ⟨bw, 3, none⟩ = some (.int .i64 s.sidx))
              (first | exact RD.out _ BA.out | exact RD.out _ E1.out)
              (first | (go_at_call 72; (with_reducible refine (HHAS.out _ E1.out).mono ?_); rintro e wa ⟨rfl, b2⟩; have BA : Hid (Below W0.heap.size W0 wa) := Lib.hid (E1.out.trans (b2.mono E1.out.size)); clear b2; obtain ⟨f1, f2, f3, f4⟩ := RD.out wa BA.out))
            all_goals exact HK7 wa _ _ _ _ _ _ _ _ _ _ _ _ _ _ _ _ _ _ _ _ _ _ _ _ _ _ _ _ _ _ _ _ _ _ _ _ _ _ _ _ _ _ _ _ _ _ _ _ _ _ _ _ _ _ _ _ _ _ _ _ _ _ BA
      clear hK
      go_region_held3 (fun V => V.cell? ⟨w.heap.size, 0, none⟩ = some (.int .i64 i) ∧ V.cell? ⟨w.heap.size, 1, none⟩ = some (.int .i64 t) ∧ V.cell? ⟨w.heap.size, 2, none⟩ = some (.string (str d)) ∧ V.cell? ⟨bw, 3, none⟩ = some (.int .i64 s.sidx))
        (first | exact RD.out _ BA.out | exact RD.out _ E0.out)
        (first | (go_at_call 71; (with_reducible refine (HMS.out _).mono ?_); rintro e wa ⟨rfl, b2⟩; have BA : Hid (Below W0.heap.size W0 wa) := Lib.hid (E0.out.trans b2); clear b2; obtain ⟨f1, f2, f3, f4⟩ := RD.out wa BA.out))
      all_goals exact HK wa _ _ _ _ _ _ _ _ _ _ _ _ _ _ _ _ _ _ _ _ _ _ _ _ _ _ _ _ _ _ _ _ _ _ _ _ _ _ _ _ _ _ _ _ _ _ _ _ _ _ _ _ _ _ _ _ _ _ _ _ _ _ BA
end Go.Proofs.YtjcikhacekmcfaaGreatDoor
