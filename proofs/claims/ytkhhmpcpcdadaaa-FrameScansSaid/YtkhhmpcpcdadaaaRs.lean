import Derived.Test.YtkhhmpcpcdadaaaLPuts
import Derived.Test.YtkhhmpcpcdadaaaFf
import Derived.IntWalk
namespace Go.Proofs.Ytkhhmpcpcdadaaa
open Go.RowKit
set_option linter.unusedVariables false

theorem Fr.first_ref {X : List UInt8} (h8 : 8 ≤ X.length) (h1 : Fr.lenOf X ≤ 4096) (h2 : 8 + Fr.lenOf X ≤ X.length) :
    Fr.first X = if (Fr.rcd ((X.take (8 + Fr.lenOf X)).drop 8)).take 4 = X.take 4 then some ((X.take (8 + Fr.lenOf X)).drop 8) else none := by
  have hp : ((X.take (8 + Fr.lenOf X)).drop 8).length = Fr.lenOf X := by rw [List.length_drop, List.length_take]; omega
  have e8 : (X.take 8).drop 4 = Fr.be (Fr.lenOf X) := by unfold Fr.lenOf; rw [Fr.be_num _ (by rw [List.length_drop, List.length_take]; omega)]
  have eb : (X.take (8 + Fr.lenOf X)).drop 4 = Fr.body ((X.take (8 + Fr.lenOf X)).drop 8) := by
    unfold Fr.body
    rw [hp, ← e8, List.drop_take, List.drop_take, List.drop_take, show 8 + Fr.lenOf X - 8 = Fr.lenOf X by omega, show 8 + Fr.lenOf X - 4 = 4 + Fr.lenOf X by omega, show 8 - 4 = 4 by omega, List.take_add, List.drop_drop]
  rw [Fr.first_eq, if_neg (by omega), if_neg (by omega), eb, Fr.rcd_take]
  have e4 : (X.take 4).length = 4 := by rw [List.length_take]; omega
  by_cases h : Fr.num (X.take 4) = Pl.sum (Fr.body ((X.take (8 + Fr.lenOf X)).drop 8))
  · rw [if_pos h, if_pos (by rw [← h, Fr.be_num _ e4])]
  · rw [if_neg h, if_neg (fun e => h (by rw [← e, Fr.num_be (Pl.sum (Fr.body ((X.take (8 + Fr.lenOf X)).drop 8))) (Pl.more_lt _ _)]))]
theorem Fr.lenOf_eq {X : List UInt8} {a b c d : UInt8} (ha : X[4]? = some a) (hb : X[5]? = some b) (hc : X[6]? = some c) (hd : X[7]? = some d) : Fr.lenOf X = a.toNat * 16777216 + b.toNat * 65536 + c.toNat * 256 + d.toNat := by
  have e : (X.take 8).drop 4 = [a, b, c, d] := by
    apply List.ext_getElem?
    intro i
    rw [List.getElem?_drop, List.getElem?_take]
    have : i = 0 ∨ i = 1 ∨ i = 2 ∨ i = 3 ∨ 4 ≤ i := by omega
    rcases this with rfl | rfl | rfl | rfl | h
    · rw [if_pos (by omega)]; exact ha
    · rw [if_pos (by omega)]; exact hb
    · rw [if_pos (by omega)]; exact hc
    · rw [if_pos (by omega)]; exact hd
    · rw [if_neg (by omega), List.getElem?_eq_none (by simp; omega)]
  unfold Fr.lenOf
  rw [e]
  show ((((0 * 256 + a.toNat) * 256 + b.toNat) * 256 + c.toNat) * 256 + d.toNat) = _
  omega
/-- a slice is cut at both ends -/
theorem slice_seg {w : World} {A : Option Addr} {c n B : Nat} {bs : List UInt8} (hb : BytesAt w B A bs) (l h q : Nat) (hn : bs.length = n) (h1 : l + q = h) (h2 : h ≤ n) (h3 : n ≤ c) (hA : A = none → c = 0) :
    ∃ A', (∀ W : World, (Instr.slice 22 (.slice A n c) (some (.int .i64 (l : Nat))) (some (.int .i64 (h : Nat))) none).run Try.prog W = .ok (.slice A' q (c - l)) W) ∧ BytesAt w B A' ((bs.take h).drop l) ∧ (A' = none → c - l = 0) ∧ ((bs.take h).drop l).length = q := by
  have e1 : (0 : Int) ≤ (l : Int) := by omega
  have e2 : (l : Int) ≤ (h : Int) := by omega
  have e3 : (h : Int) ≤ (c : Int) := by omega
  have e4 : h - l = q := by omega
  refine ⟨if c = l then A else A.map (·.add (l * 1)), fun W => ?_, ?_, ?_, by rw [List.length_drop, List.length_take]; omega⟩
  · clear hn h1 h2 hA
    go_simp
  · split
    · rename_i e
      rw [List.drop_of_length_le (by rw [List.length_take]; omega)]
      exact BytesAt.nil _ _ _
    · rw [Nat.mul_one]; exact (hb.take h).drop' l
  · intro e
    split at e
    · omega
    · cases A with
      | none => have := hA rfl; omega
      | some ad => cases e
def RSRel (bs : List UInt8) (w : World) (lv sv : Value) (wr : World) : Prop :=
  ∃ (k : Nat) (ls : List (List UInt8)) (vs : List Value), k ≤ bs.length ∧ 8 * ls.length ≤ k ∧ sv = .int .i64 k ∧ OwnV wr w.heap.size lv vs ∧ Was wr w.heap.size ls vs ∧ Below w.heap.size w wr ∧
    (Fr.scan bs).1 = ls ++ (Fr.scan (bs.drop k)).1 ∧ (Fr.scan bs).2 = k + (Fr.scan (bs.drop k)).2
theorem Fr.lenOf_int {X : List UInt8} {a b c d : UInt8} (ha : X[4]? = some a) (hb : X[5]? = some b) (hc : X[6]? = some c) (hd : X[7]? = some d) : ((Fr.lenOf X : Nat) : Int) = (a.toNat : Int) * 16777216 + (b.toNat : Int) * 65536 + (c.toNat : Int) * 256 + (d.toNat : Int) := by
  rw [Fr.lenOf_eq ha hb hc hd, Int.natCast_add, Int.natCast_add, Int.natCast_add, Int.natCast_mul, Int.natCast_mul, Int.natCast_mul]
  rfl
theorem wrapI (x : Int) (h0 : 0 ≤ x) (h1 : x ≤ 9223372036854775807) : IntKind.i64.wrap x = x := IntWalk.i64_in _ ⟨by omega, by omega⟩
theorem lift (x : Int) (h : 0 ≤ x) : ∃ n : Nat, (n : Int) = x := ⟨x.toNat, Int.toNat_of_nonneg h⟩
theorem wrapN (n : Nat) (h : n ≤ 9223372036854775807) : IntKind.i64.wrap ((n : Nat) : Int) = (n : Int) := IntWalk.i64_in _ ⟨by omega, by omega⟩
set_option maxRecDepth 100000 in
set_option maxHeartbeats 1000000 in
theorem refScan_any (bs : List UInt8) (A : Option Addr) (m cap : Nat) (w : World) (hb : BytesAt w w.heap.size A bs) (hn : bs.length = m) (hnm : m ≤ 1000000) (hnc : m ≤ cap) (hc : cap ≤ 9223372036854775807) (hA : A = none → cap = 0) :
    Calls Try.prog 14 #[.slice A m cap] w (ScanAt (Fr.scan bs).1 (Fr.scan bs).2 (Fr.scan bs).1.length w) := by
  have HB := Lib.hid hb
  have HN := Lib.hid hn
  have HA := Lib.hid hA
  have OV0 := Lib.hid (OwnV.new w)
  clear hb hn hA
  go_enter Try.func14, Try.ntmps14
  go_wp2_with fail
  go_loopw [4, 5] (RSRel bs w) (fun _ i _ => m - (intOf i).toNat)
  case atStart => exact ⟨0, [], [], by omega, by simp, rfl, OV0.out, ⟨rfl, fun i l h => by simp at h⟩, (Below.refl _ _).alloc (Nat.le_refl _) _, by rw [List.drop_zero, List.nil_append], by rw [List.drop_zero, Nat.zero_add]⟩
  case round =>
    obtain ⟨k, ls, vs, hk, hk8, rfl, own, was, bel, s1, s2⟩ := hrel
    have hkn : k ≤ m := by rw [HN.out] at hk; exact hk
    have OV := Lib.hid own
    have WA := Lib.hid was
    have BE := Lib.hid bel
    have S1 := Lib.hid s1
    have S2 := Lib.hid s2
    have HL : Hid ((bs.drop k).length = m - k) := Lib.hid (by rw [List.length_drop, HN.out])
    have HBR := Lib.hid (HB.out.below BE.out)
    have HLV : Hid (vs.length = ls.length) := Lib.hid WA.out.1.symm
    clear hk own was bel s1 s2
    by_cases h8 : m < k + 8
    · have hfn : Fr.first (bs.drop k) = none := by unfold Fr.first; rw [if_pos (by rw [HL.out]; omega)]
      rw [Fr.scan_none hfn, List.append_nil] at S1
      rw [Fr.scan_none hfn, Nat.add_zero] at S2
      clear hfn
      obtain ⟨Av, cv, rfl, hv1, hv2⟩ := OV.out.form
      have h8i : ¬ (k : Int) + 8 ≤ m := by omega
      have RA := Lib.hid (OV.out.rowsAt (ls := ls) WA.out.rows)
      have HV0 : Hid (Av = none → cv = 0) := Lib.hid (fun e => by
        subst e
        rcases OV.out.2 with ⟨q, _⟩ | ⟨g, cap, cur, q, _⟩
        · injection q
        · injection q with q; cases q)
      go_wp2_with fail
      go_ret2
      refine ⟨BE.out, Av, cv, ?_, ?_, HV0.out, by rw [S1.out]; exact RA.out⟩
      · rw [S1.out, S2.out, ← HLV.out]; rfl
      · rw [S1.out, ← HLV.out]; exact hv1
    · have hXl : 8 ≤ (bs.drop k).length := by rw [HL.out]; omega
      have hne : bs ≠ [] := fun e => by rw [e] at hXl; simp at hXl
      obtain ⟨b, off, rfl, hblt, hat⟩ := HBR.out hne
      have g : ∀ j, j < 8 → ∃ x : UInt8, (bs.drop k)[j]? = some x ∧ wr.cell? ⟨b, off + (k + j), none⟩ = some (.int .u8 (x.toNat : Int)) := fun j hj => by
        have e : (bs.drop k)[j]? = some (bs.drop k)[j] := List.getElem?_eq_getElem (by omega)
        refine ⟨_, e, hat (k + j) _ ?_⟩
        rw [List.getElem?_drop] at e
        exact e
      obtain ⟨x4, e4, c4⟩ := g 4 (by omega)
      obtain ⟨x5, e5, c5⟩ := g 5 (by omega)
      obtain ⟨x6, e6, c6⟩ := g 6 (by omega)
      obtain ⟨x7, e7, c7⟩ := g 7 (by omega)
      have hlen := Fr.lenOf_int e4 e5 e6 e7
      have l4 : (x4.toNat : Int) ≤ 255 := by have := x4.toNat_lt; omega
      have l5 : (x5.toNat : Int) ≤ 255 := by have := x5.toNat_lt; omega
      have l6 : (x6.toNat : Int) ≤ 255 := by have := x6.toNat_lt; omega
      have l7 : (x7.toNat : Int) ≤ 255 := by have := x7.toNat_lt; omega
      obtain ⟨q, hq⟩ : ∃ q, q = Fr.lenOf (bs.drop k) := ⟨_, rfl⟩
      rw [← hq] at hlen
      have HQ := Lib.hid hq
      clear g e4 e5 e6 e7 hat hq hne
      generalize x4.toNat = y4 at *
      generalize x5.toNat = y5 at *
      generalize x6.toNat = y6 at *
      generalize x7.toNat = y7 at *
      have k4 : IntKind.i64.wrap ((k : Int) + 4) = ((k + 4 : Nat) : Int) := by rw [wrapI _ (by omega) (by omega)]; rfl
      have k5 : IntKind.i64.wrap ((k : Int) + 5) = ((k + 5 : Nat) : Int) := by rw [wrapI _ (by omega) (by omega)]; rfl
      have k6 : IntKind.i64.wrap ((k : Int) + 6) = ((k + 6 : Nat) : Int) := by rw [wrapI _ (by omega) (by omega)]; rfl
      have k7 : IntKind.i64.wrap ((k : Int) + 7) = ((k + 7 : Nat) : Int) := by rw [wrapI _ (by omega) (by omega)]; rfl
      have i4 : ((k + 4 : Nat) : Int) < m := by omega
      have i5 : ((k + 5 : Nat) : Int) < m := by omega
      have i6 : ((k + 6 : Nat) : Int) < m := by omega
      have i7 : ((k + 7 : Nat) : Int) < m := by omega
      obtain ⟨z4, hz4⟩ := lift ((y4 : Int) * 16777216) (by omega)
      obtain ⟨z5, hz5⟩ := lift ((y5 : Int) * 65536) (by omega)
      obtain ⟨z6, hz6⟩ := lift ((y6 : Int) * 256) (by omega)
      obtain ⟨z2, hz2⟩ := lift ((z4 : Int) + (z5 : Int)) (by omega)
      obtain ⟨z3, hz3⟩ := lift ((z2 : Int) + (z6 : Int)) (by omega)
      have hqz : (q : Int) = (z3 : Int) + (y7 : Int) := by omega
      have p4 : IntKind.i64.wrap ((y4 : Int) * 16777216) = (z4 : Int) := by rw [← hz4]; exact wrapI _ (by omega) (by omega)
      have p5 : IntKind.i64.wrap ((y5 : Int) * 65536) = (z5 : Int) := by rw [← hz5]; exact wrapI _ (by omega) (by omega)
      have p6 : IntKind.i64.wrap ((y6 : Int) * 256) = (z6 : Int) := by rw [← hz6]; exact wrapI _ (by omega) (by omega)
      have t1 : IntKind.i64.wrap ((z4 : Int) + (z5 : Int)) = (z2 : Int) := by rw [← hz2]; exact wrapI _ (by omega) (by omega)
      have t2 : IntKind.i64.wrap ((z2 : Int) + (z6 : Int)) = (z3 : Int) := by rw [← hz3]; exact wrapI _ (by omega) (by omega)
      have t3 : IntKind.i64.wrap ((z3 : Int) + (y7 : Int)) = (q : Int) := by rw [← hqz]; exact wrapI _ (by omega) (by omega)
      have hq32 : (q : Int) < 4294967296 := by omega
      clear hlen hz4 hz5 hz6 hz2 hz3 hqz
      have K4 : k + 4 ≤ m := by omega
      generalize k + 5 = f5 at *
      generalize k + 6 = f6 at *
      generalize k + 7 = f7 at *
      obtain ⟨f4, hf4⟩ : ∃ f4, f4 = k + 4 := ⟨_, rfl⟩
      rw [← hf4] at k4 i4 c4 K4
      have HF4 := Lib.hid hf4
      clear hf4
      have h8i : (k : Int) + 8 ≤ m := by omega
      have hXL := Lib.hid hXl
      clear hXl
      go_wp2_with fail
      go_quiet (fail)
      have bd : Below wr.heap.size wr (wr.drewN nq) := ⟨rfl, rfl, rfl, Nat.le_refl _, fun _ _ => rfl⟩
      have OVd := Lib.hid (OV.out.belows bd)
      have WAd := Lib.hid (WA.out.belows bd)
      have BEd := Lib.hid (BE.out.trans (bd.mono BE.out.size))
      have HBd := Lib.hid (HBR.out.below bd)
      clear bd k5 k6 k7 i5 i6 i7 c4 c5 c6 c7 p4 p5 p6 t1 t2 t3 OV WA BE HBR
      generalize wr.drewN nq = wd at *
      have hqQ : ¬ (4096 < q ∨ m < k + 8 + q) ∨ (4096 < q ∨ m < k + 8 + q) := by omega
      by_cases hbad : 4096 < q ∨ m < k + 8 + q
      · have hfn : Fr.first (bs.drop k) = none := by
          rw [Fr.first_eq, ← HQ.out, HL.out]
          split
          · rfl
          · rw [if_pos (by omega)]
        rw [Fr.scan_none hfn, List.append_nil] at S1
        rw [Fr.scan_none hfn, Nat.add_zero] at S2
        obtain ⟨Av, cv, rfl, hv1, hv2⟩ := OVd.out.form
        have RA := Lib.hid (OVd.out.rowsAt (ls := ls) WAd.out.rows)
        have HV0 : Hid (Av = none → cv = 0) := Lib.hid (fun e => by
          subst e
          rcases OVd.out.2 with ⟨q, _⟩ | ⟨g, cap, cur, q, _⟩
          · injection q
          · injection q with q; cases q)
        clear hfn hqQ
        by_cases hq1 : 4096 < q
        · clear hbad
          have hq1' : (4096 : Int) < q := by omega
          go_wp2_with fail
          go_ret2
          refine ⟨BEd.out, Av, cv, ?_, ?_, HV0.out, by rw [S1.out]; exact RA.out⟩
          · rw [S1.out, S2.out, ← HLV.out]; rfl
          · rw [S1.out, ← HLV.out]; exact hv1
        · have hq2 : (m : Int) < (k : Int) + 8 + q := by omega
          have hq1' : ¬ (4096 : Int) < q := by omega
          clear hbad
          go_wp2_with fail
          go_ret2
          refine ⟨BEd.out, Av, cv, ?_, ?_, HV0.out, by rw [S1.out]; exact RA.out⟩
          · rw [S1.out, S2.out, ← HLV.out]; rfl
          · rw [S1.out, ← HLV.out]; exact hv1
      · have hq1 : ¬ (4096 : Int) < q := by omega
        have hq2 : ¬ (m : Int) < (k : Int) + 8 + q := by omega
        obtain ⟨L, hLk⟩ : ∃ L, L = k + 8 := ⟨_, rfl⟩
        obtain ⟨H, hHk⟩ : ∃ H, H = k + 8 + q := ⟨_, rfl⟩
        have hLi : (k : Int) + 8 = (L : Int) := by omega
        have hHi : (L : Int) + q = (H : Int) := by omega
        have hHm : ¬ (m : Int) < (H : Int) := by omega
        obtain ⟨A7, hs7, hb7, hn7, hl7⟩ := slice_seg (c := cap) HBd.out L H q HN.out (by omega) (by omega) hnc HA.out
        obtain ⟨A8, hs8, hb8, hn8, hl8⟩ := slice_seg (c := cap) HBd.out k f4 4 HN.out (by have := HF4.out; omega) (by have := HF4.out; omega) hnc HA.out
        have hfr := Fr.first_ref (X := bs.drop k) (by rw [HL.out]; omega) (by rw [← HQ.out]; omega) (by rw [← HQ.out, HL.out]; omega)
        rw [← HQ.out] at hfr
        have ep : (((bs.drop k).take (8 + q)).drop 8) = (bs.take H).drop L := by
          rw [hHk, hLk, List.drop_take, List.drop_take, List.drop_drop, show 8 + q - 8 = q by omega, show k + 8 + q - (k + 8) = q by omega]
        have e4 : (bs.drop k).take 4 = (bs.take f4).drop k := by
          rw [List.drop_take, HF4.out, show k + 4 - k = 4 by omega]
        rw [ep, e4] at hfr
        have HFR := Lib.hid hfr
        have HB7 := Lib.hid (hb7.below ((Below.refl wd.heap.size wd).alloc (Nat.le_refl _) (.cells #[] 5)))
        have HN7 := Lib.hid hn7
        have HL7 := Lib.hid hl7
        have HB8 := Lib.hid hb8
        have HL8 := Lib.hid hl8
        have OWN := Lib.hid (OwnB.new wd)
        have HLK := Lib.hid hLk
        have HHK := Lib.hid hHk
        have hq4 : q ≤ 4096 := by omega
        have hHm2 : H ≤ m := by omega
        have hLm : L ≤ m := by omega
        have hqc : q ≤ cap - L := by omega
        clear hqQ hbad hq2 hLk hHk hb7 hn7 hl7 hb8 hn8 hl8 hfr ep e4
        generalize (bs.take H).drop L = p at *
        generalize (bs.take f4).drop k = y at *
        obtain ⟨Av, cv, rfl, hv1, hv2⟩ := OVd.out.form
        go_wp2_with (first
          | (at_builtin; (refine wp_appB rfl (.tmp 57) (.tmp 65) rfl wd.heap.size _ [] rfl OWN.out A7 q (cap - L) _ p rfl HN7.out HB7.out HL7.out hqc (by simp; omega) (by rw [World.size_alloc]; omega) ?_); intro v3 w3 own3 bel3
             rw [List.nil_append] at own3
             obtain ⟨A3, c3, e3, hb3, h3, h3', hn3⟩ := own3.parts
             rw [HL7.out] at e3 h3
             subst e3
             have O3 := Lib.hid own3
             have HB3 := Lib.hid hb3
             have HN3 := Lib.hid hn3
             have B3 := Lib.hid (((Below.refl wd.heap.size wd).alloc (Nat.le_refl _) (.cells #[] 5)).trans bel3)
             clear own3 bel3 hb3 hn3))
        have hs3 := B3.out.size
        have C19 := Lib.hid (fun (W : World) (h : Below w3.heap.size w3 W) => record_any p A3 q c3 W (HB3.out.below h) HL7.out h3 h3' HN3.out (by omega))
        have SK := Lib.hid (fun (W : World) (h : Below wd.heap.size wd W) => (conv_str (HB8.out.below h) 4 (cap - k) HL8.out : Sem.run Try.prog (convert 22 9 (.slice A8 4 (cap - k))) W = .ok (.string ⟨y.toArray⟩) W))
        have D0 : Hid (Below w3.heap.size w3 w3.drew) := Lib.hid ((Below.refl _ w3).drew)
        have e0 := SK.out _ (B3.out.trans (D0.out.mono hs3))
        obtain ⟨z, hz⟩ : ∃ z, z = (Fr.rcd p).length := ⟨_, rfl⟩
        have hz8 : z = 8 + q := by rw [hz, Fr.rcd_length, HL7.out]
        have C20 : Hid (∀ W : World, Below w3.heap.size w3 W → Calls Try.prog 19 #[.slice A3 q c3] W fun e w' => ∃ A9 c9, e = .returned (.slice A9 z c9) ∧ (4 : Int) ≤ (c9 : Int) ∧ Below W.heap.size W w' ∧ Sem.run Try.prog (convert 22 9 (.slice A9 4 c9)) w' = .ok (.string ⟨((Fr.rcd p).take 4).toArray⟩) w') := Lib.hid (fun W h => (C19.out W h).mono (by
          rintro e w' ⟨A9, c9, rfl, own9, bel9⟩
          obtain ⟨x, y, e, h1, h2, _⟩ := own9.form
          injection e with e1 e2 e3
          subst e1 e3
          exact ⟨A9, c9, by rw [hz], by omega, bel9, conv_str (h1.take 4) 4 c9 (by rw [List.length_take]; omega)⟩))
        clear hz hz8
        generalize (Fr.rcd p).take 4 = r4 at *
        by_cases heq : r4 = y
        · subst heq
          rw [if_pos rfl] at HFR
          go_region_with ((go_at_call 19; (with_reducible refine (C20.out _ D0.out).mono ?_); rintro e w5 ⟨A9, c9, rfl, h94, hb5, hcr⟩; have B5 : Hid (Below w3.heap.size w3 w5) := Lib.hid (D0.out.trans hb5); have e5 := SK.out _ (B3.out.trans (B5.out.mono hs3)); clear hb5))
          all_goals
            simp only [Act.put, List.getElem_toArray, List.getElem_cons_succ, List.getElem_cons_zero, List.setIfInBounds_toArray, List.set_cons_zero, List.set_cons_succ]
            have B6 := Lib.hid (B3.out.trans (B5.out.mono hs3))
            have hs6 := B6.out.size
            have hs0 := BEd.out.size
            clear e0 e5 hcr k4
            obtain ⟨s1, s2⟩ := Fr.scan_step S1.out S2.out HFR.out
            rw [HL7.out] at s1 s2
            have S1' := Lib.hid s1
            have S2' := Lib.hid s2
            clear s1 s2
            have OV5 := Lib.hid (OVd.out.belows B6.out)
            have WA5 := Lib.hid (WAd.out.belows B6.out)
            have O5 : Hid (OwnB w5 w.heap.size (.slice A3 q c3) p) := Lib.hid ((O3.out.below B5.out).mono hs0)
            have BE5 := Lib.hid (BEd.out.trans (B6.out.mono hs0))
            have OV6 : Hid (OwnV (w5.alloc (.cells #[.slice A3 q c3] 22)) w.heap.size (.slice Av vs.length cv) vs) := Lib.hid (OV5.out.belows ((Below.refl _ _).alloc (Nat.le_refl _) _))
            have WA6 : Hid (Was (w5.alloc (.cells #[.slice A3 q c3] 22)) w.heap.size ls vs) := Lib.hid (WA5.out.belows ((Below.refl _ _).alloc (Nat.le_refl _) _))
            have O6 : Hid (OwnB (w5.alloc (.cells #[.slice A3 q c3] 22)) w.heap.size (.slice A3 q c3) p) := Lib.hid (O5.out.below ((Below.refl _ _).alloc (Nat.le_refl _) _))
            have hvl : vs.length ≤ 1000000 := by have := HLV.out; omega
            have H8 : Hid (8 * (ls ++ [p]).length ≤ k + (8 + q)) := Lib.hid (by rw [List.length_append, List.length_singleton]; omega)
            have HK : Hid (k + (8 + q) ≤ bs.length) := Lib.hid (by rw [HN.out]; have := HHK.out; omega)
            go_wp2_with (first
              | (with_reducible refine wp_appV rfl (.tmp 80) (.tmp 82) rfl w.heap.size (.slice Av vs.length cv) vs rfl OV6.out w5.heap.size (.slice A3 q c3) ⟨_, _, _, rfl⟩ rfl (heap_alloc_new w5 _) hvl (by rw [World.size_alloc]; omega) ?_; rintro v7 w7 own7 gr7
                 have OV7 := Lib.hid own7
                 have W7 : Hid (Was w7 w.heap.size (ls ++ [p]) (vs ++ [.slice A3 q c3])) := Lib.hid (by
                   have h1 := WA6.out.grown OV6.out gr7
                   have h2 := O6.out.grown OV6.out gr7
                   rw [← HL7.out] at h2 ⊢
                   exact h1.add h2)
                 have B7 : Hid (Below w.heap.size w w7) := Lib.hid ((BE5.out.alloc BE5.out.size _).grown gr7 (by rw [World.size_alloc]; omega) fun g hg => (OV6.out.lt g hg).1)
                 clear own7 gr7))
            go_roundw
            case rel => exact ⟨k + (8 + q), ls ++ [p], _, HK.out, H8.out, by go_num, OV7.out, W7.out, B7.out, S1'.out, S2'.out⟩
            case measure => have := HHK.out; simp [intOf]; omega
        · rw [if_neg heq] at HFR
          have t1 : (r4 == y) = false := by rw [beq_eq_false_iff_ne]; exact heq
          have t2 : (!r4 == y) = true := by rw [t1]; rfl
          clear heq
          go_region_with ((go_at_call 19; (with_reducible refine (C20.out _ D0.out).mono ?_); rintro e w5 ⟨A9, c9, rfl, h94, hb5, hcr⟩; have B5 : Hid (Below w3.heap.size w3 w5) := Lib.hid (D0.out.trans hb5); have e5 := SK.out _ (B3.out.trans (B5.out.mono hs3)); clear hb5))
          all_goals
            simp only [Act.put, List.getElem_toArray, List.getElem_cons_succ, List.getElem_cons_zero, List.setIfInBounds_toArray, List.set_cons_zero, List.set_cons_succ]
            have B6 := Lib.hid (B3.out.trans (B5.out.mono hs3))
            have hs6 := B6.out.size
            have hs0 := BEd.out.size
            clear e0 e5 hcr k4
            rw [Fr.scan_none HFR.out, List.append_nil] at S1
            rw [Fr.scan_none HFR.out, Nat.add_zero] at S2
            have OV5 := Lib.hid (OVd.out.belows B6.out)
            have RA := Lib.hid (OV5.out.rowsAt (ls := ls) (WAd.out.belows B6.out).rows)
            have HV0 : Hid (Av = none → cv = 0) := Lib.hid (fun e => by
              subst e
              rcases OV5.out.2 with ⟨q, _⟩ | ⟨g, cap, cur, q, _⟩
              · injection q
              · injection q with q; cases q)
            have BE5 := Lib.hid (BEd.out.trans (B6.out.mono hs0))
            go_wp2_with fail
            go_ret2
            refine ⟨BE5.out, Av, cv, ?_, ?_, HV0.out, by rw [S1.out]; exact RA.out⟩
            · rw [S1.out, S2.out, ← HLV.out]; rfl
            · rw [S1.out, ← HLV.out]; exact hv1
end Go.Proofs.Ytkhhmpcpcdadaaa
