import Derived.Test.YtjpnkecfoealoaaRb
import Derived.Test.YtjpnkecfoealoaaQl
namespace Go.Proofs.Ytjpnkecfoealoaa
set_option maxRecDepth 20000
open Go.RowKit
open Go.Proofs.Ytjpnkecfoealoaa.Vc (I64 fitB RetBelow OwnD DigsAt dC)
set_option linter.unusedVariables false
attribute [local irreducible] wpQuiet

theorem LA.onB {w X Y : World} {A : Option Addr} {L : List Nd} {p q r : Int} {B : Nat} (h : LA w X A L p q r) (hb : Below B X Y) (hB : w.heap.size + 1 ≤ B) : LA w Y A L p q r :=
  ⟨h.b.trans (hb.mono (by omega)), h.v.on hb (by omega)⟩
theorem digs_onB {X Y : World} {A : Option Addr} {ds : List Nat} {B : Nat} (h : DigsAt X X.heap.size A ds) (hb : Below B X Y) (hA : ∀ b o, A = some ⟨b, o, none⟩ → ds ≠ [] → b < B) : DigsAt Y Y.heap.size A ds := fun hne => by
  obtain ⟨b, off, h1, h2, h3⟩ := h hne
  exact ⟨b, off, h1, by have := hb.size; omega, fun j u hu => (hb.cell (p := ⟨b, _, none⟩) (hA b off h1 hne)).trans (h3 j u hu)⟩

set_option maxHeartbeats 4000000 in
theorem refRank_any (L : List Nd) (A : Option Addr) (N c : Nat) (p q r : Int) (w : World) (hA : NodesAt w w.heap.size A L) (hN : L.length = N) (h1000 : N ≤ 1000) (hok : ∀ n ∈ L, Nok n) (bp : I64 p) (bq : I64 q) (br : I64 r) :
    Calls Try.prog 14 #[.slice A N c, .agg #[.int .i64 p, .int .i64 q, .int .i64 r]] w fun e w' => ∃ A' cap' R, e = .returned (.slice A' R.length cap') ∧ RankOf L p q r R ∧ DigsAt w' w'.heap.size A' R ∧ Below w.heap.size w w' := by
  have KS := Lib.hid fun (n : Nd) (hn : n ∈ L) (W : World) => refScore_any n p q r W (hok n hn) bp bq br
  have KB := Lib.hid fun (b0 off0 i j : Nat) (X : World) (h : NodesAt X X.heap.size (some ⟨b0, off0, none⟩) L) (hi : i < L.length) (hj : j < L.length) => before_any L b0 off0 N c i j p q r X h hi hj hN h1000 hok bp bq br
  have X0 := Lib.hid ((LA.new w A L p q r).on ((Below.refl _ _).alloc (Nat.le_refl _) (.cells #[] 3)))
  have O0 := Lib.hid ((Vc.OwnD.new (w.alloc (.cells #[.int .i64 p, .int .i64 q, .int .i64 r] 24))).mono (show w.heap.size + 1 ≤ (w.alloc (.cells #[.int .i64 p, .int .i64 q, .int .i64 r] 24)).heap.size by simp))
  have HA := Lib.hid hA
  have HN := Lib.hid hN
  clear hA hN hok bp bq br
  go_enter Try.func14, Try.ntmps14
  go_wp2_with fail
  simp only [World.size_alloc] at O0
  generalize (w.alloc (.cells #[.int .i64 p, .int .i64 q, .int .i64 r] 24)).alloc (.cells #[] 3) = w1 at *
  go_loopw [5, 6] (fun t5 t6 wr => ∃ (k : Nat) (v : Value) (out : List Nat), k ≤ N ∧ t5 = v ∧ t6 = .int .i64 k ∧ LA w wr A L p q r ∧ OwnD wr (w.heap.size + 1) v out ∧ out.Perm (cand L p q r k) ∧ out.Pairwise (fun i j => bef (scL L p q r) (nmL L) j i = false)) (fun _ t6 _ => N - (intOf t6).toNat)
  case atStart => exact ⟨0, _, [], Nat.zero_le _, rfl, rfl, X0.out, O0.out, List.Perm.refl _, List.Pairwise.nil⟩
  case round =>
  obtain ⟨k, v, out, hk, rfl, rfl, hX, hO, hP, hS⟩ := hrel
  have HX := Lib.hid hX
  have HO := Lib.hid hO
  have HP := Lib.hid hP
  have HS := Lib.hid hS
  clear hX hO hP hS
  by_cases hp : k < N
  · have hkl : k < L.length := by rw [HN.out]; exact hp
    obtain ⟨b0, off0, rfl, hb0, _⟩ := HA.out (fun e => by rw [e] at hkl; cases hkl)
    have hn := List.getElem?_eq_getElem hkl
    generalize hnd : L[k] = n at *
    have hmem : n ∈ L := by rw [← hnd]; exact List.getElem_mem hkl
    have hp' : (k : Int) < N := by omega
    obtain ⟨c0, c1, c2, c3, c4, c5, c6, c7⟩ := HA.out.at HX.out.b hn
    obtain ⟨v0, v1, v2⟩ := HX.out.v.c3
    have ks := KS.out n hmem
    unfold nodeV nodeC at ks
    have ks := Lib.hid ks
    have HNK := Lib.hid hn
    have CS := Lib.hid (cand_succ L p q r k)
    have hsc : Hid (scL L p q r k = nscore n p q r) := Lib.hid (sc_takes hn)
    clear hnd hmem hn
    have XD := Lib.hid (HX.out.on (Below.refl _ wr).drew)
    have OD := Lib.hid (HO.out.below (Below.refl _ wr).drew)
    cases ht : ntakes n p q r with
    | false =>
      have hs1 : nscore n p q r = -1 := by unfold nscore; rw [ht]; rfl
      rw [hs1] at ks
      have hc1 : Hid (cand L p q r (k + 1) = cand L p q r k) := Lib.hid (by rw [CS.out, hsc.out, hs1]; simp)
      clear hs1 ht
      go_wp2_with fail
      go_still_tail 5, (by kernel_rfl)
      change wpList _ _ _ _ _ wr.drew
      go_wp2_with (go_at_call 18; (with_reducible refine (ks.out _).mono ?_); rintro e w3 ⟨rfl, hb⟩; have X3 := Lib.hid (XD.out.on hb); have O3 := Lib.hid (OD.out.below hb); clear hb)
      go_roundw
      case rel => exact ⟨k + 1, _, out, by omega, rfl, by go_num, X3.out, O3.out, by rw [hc1.out]; exact HP.out, HS.out⟩
      case measure => simp [intOf] <;> omega
    | true =>
      have hge : 0 ≤ nscore n p q r := by unfold nscore; rw [if_pos ht]; exact shV_pos _ _ _ _ _ _
      have hc1 : Hid (cand L p q r (k + 1) = cand L p q r k ++ [k]) := Lib.hid (by rw [CS.out, hsc.out, show (nscore n p q r != -1) = true by rw [bne_iff_ne]; omega]; rfl)
      have hd1 : decide (nscore n p q r < 0) = false := by simp; omega
      generalize nscore n p q r = S at *
      clear hge ht hsc
      obtain ⟨A5, cap5, rfl, hD5, _, _, _⟩ := HO.out.form
      have hD5 := Lib.hid hD5
      generalize hm : out.length = M at *
      have HM := Lib.hid hm
      clear hm
      go_wp2_with fail
      go_still_tail 5, (by kernel_rfl)
      change wpList _ _ _ _ _ wr.drew
      go_wp2_with (go_at_call 18; (with_reducible refine (ks.out _).mono ?_); rintro e w3 ⟨rfl, hb⟩; have X3 := Lib.hid (XD.out.on hb); have D3 := Lib.hid ((hD5.out.on (Below.refl _ wr).drew).on hb); clear hb)
      have hB7 : w.heap.size + 1 ≤ w3.heap.size := by have := X3.out.v.lt; omega
      have X4 := Lib.hid (X3.out.on ((Below.refl _ w3).alloc (Nat.le_refl _) (.cells #[] 3)))
      have D4 := Lib.hid (D3.out.on ((Below.refl _ w3).alloc (Nat.le_refl _) (.cells #[] 3)))
      obtain ⟨B7, hB⟩ : ∃ B, B = w3.heap.size := ⟨_, rfl⟩
      have O4 := Lib.hid (show OwnD (w3.alloc (.cells #[] 3)) B7 (.slice (some ⟨w3.heap.size, 0, none⟩) 0 0) [] by rw [hB]; exact Vc.OwnD.new w3)
      have HBQ := Lib.hid (show w.heap.size + 1 ≤ B7 by omega)
      have D3B : ∀ ba oa, A5 = some ⟨ba, oa, none⟩ → out ≠ [] → ba < B7 := fun ba oa e hne => by
        obtain ⟨b', o', e1, e2, _⟩ := D3.out hne
        rw [e] at e1
        injection e1 with e1
        injection e1 with e1
        omega
      have D3B := Lib.hid D3B
      have HB4 := Lib.hid (show B7 ≤ (w3.alloc (.cells #[] 3)).heap.size by simp; omega)
      have HM' := HM.out
      have hM40 : M ≤ 1000 := by
        have h1 := HP.out.length_eq
        have h2 := cand_len L p q r k
        omega
      have HM40 := Lib.hid hM40
      generalize w3.alloc (.cells #[] 3) = w4 at *
      clear hB7 hB HM' hM40
      go_loopw [7, 8, 9] (fun t7 t8 t9 wi => ∃ (j : Nat) (v7 : Value) (own : List Nat) (d : Bool), j ≤ M ∧ t7 = v7 ∧ t8 = .bool d ∧ t9 = .int .i64 j ∧ LA w wi (some ⟨b0, off0, none⟩) L p q r ∧ OwnD wi B7 v7 own ∧ DigsAt wi wi.heap.size A5 out ∧ own.length ≤ j + 1 ∧ B7 ≤ wi.heap.size ∧
        (d = true → own ++ out.drop j = insR (bef (scL L p q r) (nmL L)) k out) ∧ (d = false → own = out.take j ∧ insR (bef (scL L p q r) (nmL L)) k out = out.take j ++ insR (bef (scL L p q r) (nmL L)) k (out.drop j))) (fun _ _ t9 _ => M - (intOf t9).toNat)
      case atStart => exact ⟨0, _, [], false, Nat.zero_le _, rfl, rfl, rfl, X4.out, O4.out, D4.out, by simp, HB4.out, fun h => (by cases h), fun _ => ⟨by rw [List.take_zero], by rw [List.take_zero, List.drop_zero]; rfl⟩⟩
      case round =>
      obtain ⟨j, v7, own, d, hj, rfl, rfl, rfl, hI, hOI, hDI, hlen, hbw, ht1, ht2⟩ := hrel
      have HI := Lib.hid hI
      have OI := Lib.hid hOI
      have DI := Lib.hid hDI
      have HLEN := Lib.hid hlen
      have HB7 := Lib.hid hbw
      have T1 := Lib.hid ht1
      have T2 := Lib.hid ht2
      clear hI hOI hDI hlen hbw ht1 ht2
      obtain ⟨v0, v1, v2⟩ := HI.out.v.c3
      by_cases hjm : j < M
      · have hjl : j < out.length := by rw [HM.out]; exact hjm
        obtain ⟨ba, oa, rfl, hla2, hca⟩ := DI.out (fun e => by rw [e] at hjl; cases hjl)
        have ho := List.getElem?_eq_getElem hjl
        have hco := hca j out[j] ho
        have hoc := cand_lt L p q r k _ (HP.out.mem_iff.1 (List.getElem_mem hjl))
        have HOJ := Lib.hid ho
        clear hca ho
        generalize out[j] = o at *
        clear hjl
        have hj1 : (j : Int) < M := by omega
        have h1000' := h1000
        have hM40 := HM40.out
        cases d with
        | true =>
          go_wp2_with fail
          have co : ∀ Z : Wd (fun X => Below wr.heap.size wr X), Z.X.cell? ⟨ba, oa + j, none⟩ = some (.int .i64 (o : Nat)) := fun Z => (Z.ok.cell (p := ⟨ba, oa + j, none⟩) hla2).trans hco
          have u0 : ∀ Z : Wd (fun X => Below wr.heap.size wr X), Z.X.cell? ⟨w.heap.size, 0, none⟩ = some (.int .i64 p) := fun Z => (Z.ok.cell (p := ⟨w.heap.size, 0, none⟩) HI.out.v.lt).trans v0
          have u1 : ∀ Z : Wd (fun X => Below wr.heap.size wr X), Z.X.cell? ⟨w.heap.size, 1, none⟩ = some (.int .i64 q) := fun Z => (Z.ok.cell (p := ⟨w.heap.size, 1, none⟩) HI.out.v.lt).trans v1
          have u2 : ∀ Z : Wd (fun X => Below wr.heap.size wr X), Z.X.cell? ⟨w.heap.size, 2, none⟩ = some (.int .i64 r) := fun Z => (Z.ok.cell (p := ⟨w.heap.size, 2, none⟩) HI.out.v.lt).trans v2
          refine wp_region_class (fun X => Below wr.heap.size wr X) (by kernel_rfl) (by kernel_rfl) (Below.refl _ wr).drew (fun hne => ?_)
          haveI := hne
          iterate 12 (quiet_step (fail))
          refine wpQuiet_nil ?_
          intro z1 hz1
          obtain ⟨⟨zz, EZ⟩, rfl⟩ := hz1
          have EZ := Lib.hid EZ
          have HZ := Lib.hid (HI.out.on EZ.out)
          have DZ := Lib.hid (DI.out.on EZ.out)
          have OZ := Lib.hid (OI.out.below EZ.out)
          have hcz := (EZ.out.cell (p := ⟨ba, oa + j, none⟩) hla2).trans hco
          clear co u0 u1 u2
          have HBZ := Lib.hid (show B7 ≤ z1.heap.size by have := HB7.out; have := EZ.out.size; omega)
          have V1 := Lib.hid (Vc.digs_new z1 [o])
          have W1 := Lib.hid (OZ.out.below ((Below.refl _ z1).alloc (Nat.le_refl _) (.cells (dC [o]).toArray 3)))
          have L1 := Lib.hid (show (own).length + 1 ≤ 1000000 by have := HLEN.out; simp; omega)
          have S1 := Lib.hid (show B7 ≤ (z1.alloc (.cells (dC [o]).toArray 3)).heap.size by have := HBZ.out; simp; omega)
          go_wp2_with (at_builtin; (refine Vc.wp_appD rfl (.tmp 47) (.tmp 52) rfl B7 _ own rfl W1.out (some ⟨z1.heap.size, 0, none⟩) 1 1 _ [o] rfl (fun h => by cases h) V1.out rfl (by omega) L1.out S1.out ?_); intro y1 x1 own1 hbx1; have P1 := Lib.hid own1; have Q1 := Lib.hid hbx1; clear own1 hbx1)
          have EE := Lib.hid (((Below.refl _ z1).alloc HBZ.out (.cells (dC [o]).toArray 3)).trans Q1.out)
          have HB5 : Hid (B7 ≤ x1.heap.size) := Lib.hid (by have := EE.out.size; have := HBZ.out; omega)
          have X5 := Lib.hid (HZ.out.onB EE.out HBQ.out)
          have D5 := Lib.hid (digs_onB DZ.out EE.out D3B.out)
          have T5 := Lib.hid (insR_on HOJ.out (T1.out (by first | rfl | trivial)))
          go_roundw
          case rel => exact ⟨j + 1, _, own ++ [o], true, by omega, rfl, rfl, by go_num, X5.out, P1.out, D5.out, by have := HLEN.out; simp; omega, HB5.out, fun _ => T5.out, fun h => (by cases h)⟩
          case measure => simp [intOf] <;> omega
        | false =>
          have hbaB := Lib.hid (show ba < B7 from D3B.out ba oa rfl (fun e => by have h1 := HOJ.out; rw [e] at h1; cases h1))
          have hT := T2.out (by first | rfl | trivial)
          have HOT := Lib.hid hT.1
          have HIN := Lib.hid hT.2
          clear hT
          have CLB := Lib.hid fun Z : Wd (fun X => Below wr.heap.size wr X) => Calls.in_class Z (KB.out b0 off0 k o Z.X (NodesAt.mono (HA.out.on (HI.out.b.trans (Z.ok.mono HI.out.b.size))) (HI.out.b.trans (Z.ok.mono HI.out.b.size)).size) hkl (by have h1 := HN.out; omega)) (fun X h1 h2 => h1.trans (h2.mono h1.size))
          have BB := Lib.hid (rfl : bef (scL L p q r) (nmL L) k o = bef (scL L p q r) (nmL L) k o)
          generalize hbb : bef (scL L p q r) (nmL L) k o = bb at CLB
          have HBB := Lib.hid hbb
          clear hbb BB
          go_wp2_with fail
          cases bb with
          | false =>
            have co : ∀ Z : Wd (fun X => Below wr.heap.size wr X), Z.X.cell? ⟨ba, oa + j, none⟩ = some (.int .i64 (o : Nat)) := fun Z => (Z.ok.cell (p := ⟨ba, oa + j, none⟩) hla2).trans hco
            have u0 : ∀ Z : Wd (fun X => Below wr.heap.size wr X), Z.X.cell? ⟨w.heap.size, 0, none⟩ = some (.int .i64 p) := fun Z => (Z.ok.cell (p := ⟨w.heap.size, 0, none⟩) HI.out.v.lt).trans v0
            have u1 : ∀ Z : Wd (fun X => Below wr.heap.size wr X), Z.X.cell? ⟨w.heap.size, 1, none⟩ = some (.int .i64 q) := fun Z => (Z.ok.cell (p := ⟨w.heap.size, 1, none⟩) HI.out.v.lt).trans v1
            have u2 : ∀ Z : Wd (fun X => Below wr.heap.size wr X), Z.X.cell? ⟨w.heap.size, 2, none⟩ = some (.int .i64 r) := fun Z => (Z.ok.cell (p := ⟨w.heap.size, 2, none⟩) HI.out.v.lt).trans v2
            refine wp_region_class (fun X => Below wr.heap.size wr X) (by kernel_rfl) (by kernel_rfl) (Below.refl _ wr).drew (fun hne => ?_)
            haveI := hne
            iterate 12 (quiet_step ((go_at_call 27; with_reducible exact CLB.out _)))
            refine wpQuiet_nil ?_
            intro z1 hz1
            obtain ⟨⟨zz, EZ⟩, rfl⟩ := hz1
            have EZ := Lib.hid EZ
            have HZ := Lib.hid (HI.out.on EZ.out)
            have DZ := Lib.hid (DI.out.on EZ.out)
            have OZ := Lib.hid (OI.out.below EZ.out)
            have hcz := (EZ.out.cell (p := ⟨ba, oa + j, none⟩) hla2).trans hco
            clear co u0 u1 u2
            have HBZ := Lib.hid (show B7 ≤ z1.heap.size by have := HB7.out; have := EZ.out.size; omega)
            have V1 := Lib.hid (Vc.digs_new z1 [o])
            have W1 := Lib.hid (OZ.out.below ((Below.refl _ z1).alloc (Nat.le_refl _) (.cells (dC [o]).toArray 3)))
            have L1 := Lib.hid (show (own).length + 1 ≤ 1000000 by have := HLEN.out; simp; omega)
            have S1 := Lib.hid (show B7 ≤ (z1.alloc (.cells (dC [o]).toArray 3)).heap.size by have := HBZ.out; simp; omega)
            go_wp2_with (at_builtin; (refine Vc.wp_appD rfl (.tmp 47) (.tmp 52) rfl B7 _ own rfl W1.out (some ⟨z1.heap.size, 0, none⟩) 1 1 _ [o] rfl (fun h => by cases h) V1.out rfl (by omega) L1.out S1.out ?_); intro y1 x1 own1 hbx1; have P1 := Lib.hid own1; have Q1 := Lib.hid hbx1; clear own1 hbx1)
            have EE := Lib.hid (((Below.refl _ z1).alloc HBZ.out (.cells (dC [o]).toArray 3)).trans Q1.out)
            have HB5 : Hid (B7 ≤ x1.heap.size) := Lib.hid (by have := EE.out.size; have := HBZ.out; omega)
            have X5 := Lib.hid (HZ.out.onB EE.out HBQ.out)
            have D5 := Lib.hid (digs_onB DZ.out EE.out D3B.out)
            have T5 : Hid (own ++ [o] = out.take (j + 1)) := Lib.hid (by rw [HOT.out, List.take_add_one, HOJ.out]; rfl)
            have T6 := Lib.hid (insR_skip HOJ.out HBB.out HIN.out)
            go_roundw
            case rel => exact ⟨j + 1, _, own ++ [o], false, by omega, rfl, rfl, by go_num, X5.out, P1.out, D5.out, by have := HLEN.out; simp; omega, HB5.out, fun h => (by cases h), fun _ => ⟨T5.out, T6.out⟩⟩
            case measure => simp [intOf] <;> omega
          | true =>
            have co : ∀ Z : Wd (fun X => Below wr.heap.size wr X), Z.X.cell? ⟨ba, oa + j, none⟩ = some (.int .i64 (o : Nat)) := fun Z => (Z.ok.cell (p := ⟨ba, oa + j, none⟩) hla2).trans hco
            have u0 : ∀ Z : Wd (fun X => Below wr.heap.size wr X), Z.X.cell? ⟨w.heap.size, 0, none⟩ = some (.int .i64 p) := fun Z => (Z.ok.cell (p := ⟨w.heap.size, 0, none⟩) HI.out.v.lt).trans v0
            have u1 : ∀ Z : Wd (fun X => Below wr.heap.size wr X), Z.X.cell? ⟨w.heap.size, 1, none⟩ = some (.int .i64 q) := fun Z => (Z.ok.cell (p := ⟨w.heap.size, 1, none⟩) HI.out.v.lt).trans v1
            have u2 : ∀ Z : Wd (fun X => Below wr.heap.size wr X), Z.X.cell? ⟨w.heap.size, 2, none⟩ = some (.int .i64 r) := fun Z => (Z.ok.cell (p := ⟨w.heap.size, 2, none⟩) HI.out.v.lt).trans v2
            refine wp_region_class (fun X => Below wr.heap.size wr X) (by kernel_rfl) (by kernel_rfl) (Below.refl _ wr).drew (fun hne => ?_)
            haveI := hne
            iterate 12 (quiet_step ((go_at_call 27; with_reducible exact CLB.out _)))
            refine wpQuiet_nil ?_
            intro z1 hz1
            obtain ⟨⟨zz, EZ⟩, rfl⟩ := hz1
            have EZ := Lib.hid EZ
            have HZ := Lib.hid (HI.out.on EZ.out)
            have DZ := Lib.hid (DI.out.on EZ.out)
            have OZ := Lib.hid (OI.out.below EZ.out)
            have hcz := (EZ.out.cell (p := ⟨ba, oa + j, none⟩) hla2).trans hco
            clear co u0 u1 u2
            have HBZ := Lib.hid (show B7 ≤ z1.heap.size by have := HB7.out; have := EZ.out.size; omega)
            have V1 := Lib.hid (Vc.digs_new z1 [k])
            have W1 := Lib.hid (OZ.out.below ((Below.refl _ z1).alloc (Nat.le_refl _) (.cells (dC [k]).toArray 3)))
            have L1 := Lib.hid (show (own).length + 1 ≤ 1000000 by have := HLEN.out; simp; omega)
            have S1 := Lib.hid (show B7 ≤ (z1.alloc (.cells (dC [k]).toArray 3)).heap.size by have := HBZ.out; simp; omega)
            have HOL := Lib.hid (show own.length ≤ M by rw [HOT.out]; simp; omega)
            go_wp2_with (first | (at_builtin; (refine Vc.wp_appD rfl (.tmp 43) (.tmp 45) rfl B7 _ own rfl W1.out (some ⟨z1.heap.size, 0, none⟩) 1 1 _ [k] rfl (fun h => by cases h) V1.out rfl (by omega) L1.out S1.out ?_); intro y1 x1 own1 hbx1; have P1 := Lib.hid own1; have EE := Lib.hid (((Below.refl _ z1).alloc HBZ.out (.cells (dC [k]).toArray 3)).trans hbx1); have hcx := (EE.out.cell (p := ⟨ba, oa + j, none⟩) hbaB.out).trans hcz; have HX1 := Lib.hid (show B7 ≤ x1.heap.size by have := EE.out.size; have := HBZ.out; omega); have V2 := Lib.hid (Vc.digs_new x1 [o]); have W2 := Lib.hid (P1.out.below ((Below.refl _ x1).alloc (Nat.le_refl _) (.cells (dC [o]).toArray 3))); have L2 := Lib.hid (show (own ++ [k]).length + 1 ≤ 1000000 by have := HOL.out; simp; omega); have S2 := Lib.hid (show B7 ≤ (x1.alloc (.cells (dC [o]).toArray 3)).heap.size by have := HX1.out; simp; omega); clear own1 hbx1) | (at_builtin; (refine Vc.wp_appD rfl (.tmp 47) (.tmp 52) rfl B7 _ (own ++ [k]) rfl W2.out (some ⟨x1.heap.size, 0, none⟩) 1 1 _ [o] rfl (fun h => by cases h) V2.out rfl (by omega) L2.out S2.out ?_); intro y2 x2 own2 hbx2; have P2 := Lib.hid own2; have Q2 := Lib.hid hbx2; clear own2 hbx2))
            have EF := Lib.hid ((EE.out.trans ((Below.refl _ x1).alloc HX1.out (.cells (dC [o]).toArray 3))).trans Q2.out)
            have HB5 : Hid (B7 ≤ x2.heap.size) := Lib.hid (by have := EF.out.size; have := HBZ.out; omega)
            have X5 := Lib.hid (HZ.out.onB EF.out HBQ.out)
            have D5 := Lib.hid (digs_onB DZ.out EF.out D3B.out)
            have T5 : Hid (own ++ [k] ++ [o] ++ out.drop (j + 1) = insR (bef (scL L p q r) (nmL L)) k out) := Lib.hid (by rw [HOT.out]; exact insR_here HOJ.out HBB.out HIN.out)
            go_roundw
            case rel => exact ⟨j + 1, _, own ++ [k] ++ [o], true, by omega, rfl, rfl, by go_num, X5.out, P2.out, D5.out, by have := HOL.out; have h1 : own.length ≤ j := (by rw [HOT.out]; simp; omega); simp; omega, HB5.out, fun _ => T5.out, fun h => (by cases h)⟩
            case measure => simp [intOf] <;> omega
      · have hjM : j = M := by omega
        subst hjM
        have hd8 : decide ((j : Int) < j) = false := by simp
        have hd9 : decide (j < j) = false := by simp
        have hdr : out.drop j = [] := List.drop_eq_nil_of_le (by rw [HM.out]; exact Nat.le_refl _)
        have htk : out.take j = out := List.take_of_length_le (by rw [HM.out]; exact Nat.le_refl _)
        have NP := Lib.hid (show (insR (bef (scL L p q r) (nmL L)) k out).Perm (cand L p q r (k + 1)) by rw [hc1.out]; exact (insR_perm _ k out).trans ((HP.out.cons k).trans (List.perm_append_singleton k _).symm))
        have NS := Lib.hid (insR_sorted (b := bef (scL L p q r) (nmL L)) (fun i => bef_irrefl _ _ i) (fun i j k h1 h2 => bef_trans h1 h2) k out HS.out)
        have hM40 := HM40.out
        cases d with
        | true =>
          have T5 : Hid (own = insR (bef (scL L p q r) (nmL L)) k out) := Lib.hid (by have h1 := T1.out (by first | rfl | trivial); rw [hdr, List.append_nil] at h1; exact h1)
          clear hdr htk
          go_wp2_with fail
          go_roundw
          case rel => exact ⟨k + 1, _, insR (bef (scL L p q r) (nmL L)) k out, by omega, rfl, by go_num, HI.out, by rw [← T5.out]; exact OI.out.mono HBQ.out, NP.out, NS.out⟩
          case measure => simp [intOf] <;> omega
        | false =>
          have T5 : Hid (own ++ [k] = insR (bef (scL L p q r) (nmL L)) k out) := Lib.hid (by have h1 := T2.out (by first | rfl | trivial); rw [hdr, htk] at h1; rw [h1.1, h1.2]; rfl)
          clear hdr htk
          have HLW := Lib.hid (show B7 ≤ wr.heap.size from HB7.out)
          have V1 := Lib.hid (Vc.digs_new wr [k])
          have W1 := Lib.hid (OI.out.below ((Below.refl _ wr).alloc (Nat.le_refl _) (.cells (dC [k]).toArray 3)))
          have L1 := Lib.hid (show own.length + 1 ≤ 1000000 by have := HLEN.out; omega)
          have S1 := Lib.hid (show B7 ≤ (wr.alloc (.cells (dC [k]).toArray 3)).heap.size by have := HB7.out; simp; omega)
          go_wp2_with (at_builtin; (refine Vc.wp_appD rfl (.tmp 56) (.tmp 58) rfl B7 _ own rfl W1.out (some ⟨wr.heap.size, 0, none⟩) 1 1 _ [k] rfl (fun h => by cases h) V1.out rfl (by omega) L1.out S1.out ?_); intro y1 x1 own1 hbx1; have P1 := Lib.hid own1; have EE := Lib.hid (((Below.refl _ wr).alloc HB7.out (.cells (dC [k]).toArray 3)).trans hbx1); clear own1 hbx1)
          have X5 := Lib.hid (HI.out.onB EE.out HBQ.out)
          go_roundw
          case rel => exact ⟨k + 1, _, insR (bef (scL L p q r) (nmL L)) k out, by omega, rfl, by go_num, X5.out, by rw [← T5.out]; exact P1.out.mono HBQ.out, NP.out, NS.out⟩
          case measure => simp [intOf] <;> omega
  · obtain rfl : k = N := by omega
    have hd8 : decide ((k : Int) < k) = false := by simp
    have hd9 : decide (k < k) = false := by simp
    obtain ⟨A5, cap5, rfl, hD5, _, _, _⟩ := HO.out.form
    have hD5 := Lib.hid hD5
    go_wp2_with fail
    go_ret
    exact ⟨A5, cap5, out, rfl, ⟨by rw [HN.out]; exact HP.out, HS.out⟩, hD5.out, HX.out.b⟩
end Go.Proofs.Ytjpnkecfoealoaa
