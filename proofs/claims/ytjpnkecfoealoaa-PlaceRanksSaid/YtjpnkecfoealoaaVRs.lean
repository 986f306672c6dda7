import Derived.Test.YtjpnkecfoealoaaVNu
import Derived.Deep.RegionLaw
namespace Go.Proofs.Ytjpnkecfoealoaa.Vc
set_option maxRecDepth 20000
open Go.RowKit
set_option linter.unusedVariables false
theorem GK.put {W : World} {g : Nat} {bl : Bool} {v : Value} (h : GK W g bl v) (b' : Bool) (u : Value) : GK ((W.setCell ⟨g, 0, none⟩ (.bool b')).setCell ⟨g, 1, none⟩ u) g b' u := by
  unfold GK at h ⊢
  simp [World.setCell, Array.getElem?_modify, h]
theorem BK.two {W : World} {b g : Nat} {x y z : Int} (h : BK W b x y z) (hne : b ≠ g) (u v : Value) : BK ((W.setCell ⟨g, 0, none⟩ u).setCell ⟨g, 1, none⟩ v) b x y z := (heap_two W g u v b hne).trans h
theorem zero45 (W : World) : Sem.run Try.prog (zeroValue 69) W = .ok (.agg #[.bool false, .slice none 0 0]) W := by kernel_rfl
/-- the head of the inner loop: what stands behind k Vecs -/
def InRel (w : World) (f : List V3 → Int) (L : List V3) (gs : Nat) (o0 o1 o2 : Int) (i : Value) (wr : World) : Prop :=
  ∃ (k : Nat) (bl : Bool) (A : Option Addr) (n cap : Nat) (D : List Nat), k ≤ L.length ∧ i = .int .i64 (k : Int) ∧ GK wr gs bl (.slice A n cap) ∧ Row wr A n cap D ∧ worth bl D = f (L.take k) ∧ n ≤ 20 + k ∧ Below w.heap.size w wr ∧ BK wr w.heap.size 0 0 0 ∧ BK wr (w.heap.size + 1) o0 o1 o2
theorem outV_no {X Y Z : Int} (h : ¬ (I64 X ∧ I64 Y ∧ I64 Z)) : outV X Y Z = .tuple #[.agg #[.int .i64 0, .int .i64 0, .int .i64 0], .int .i64 6] := by unfold outV; rw [if_neg h]; rfl
theorem BK.set0 {W : World} {b : Nat} {x y z : Int} (h : BK W b x y z) (u : Int) : BK (W.setCell ⟨b, 0, none⟩ (.int .i64 u)) b u y z := by
  unfold BK at h ⊢
  simp [World.setCell, Array.getElem?_modify, h]
theorem BK.set1 {W : World} {b : Nat} {x y z : Int} (h : BK W b x y z) (u : Int) : BK (W.setCell ⟨b, 1, none⟩ (.int .i64 u)) b x u z := by
  unfold BK at h ⊢
  simp [World.setCell, Array.getElem?_modify, h]
theorem BK.set2 {W : World} {b : Nat} {x y z : Int} (h : BK W b x y z) (u : Int) : BK (W.setCell ⟨b, 2, none⟩ (.int .i64 u)) b x y u := by
  unfold BK at h ⊢
  simp [World.setCell, Array.getElem?_modify, h]
theorem BK.other {W : World} {b g k : Nat} {x y z : Int} (h : BK W b x y z) (hne : b ≠ g) (v : Value) : BK (W.setCell ⟨g, k, none⟩ v) b x y z := (Below.heap_setCell W _ v b hne).trans h
theorem Row.nil (W : World) : Row W none 0 0 [] := ⟨DigsAt.nil _ _ _, rfl, by omega, by omega, fun _ => rfl, by simp [Pd.Dig], by omega⟩
set_option maxHeartbeats 4000000 in
theorem refSum_any (L : List V3) (A : Option Addr) (n cap : Nat) (w : World) (hb : VecsAt w w.heap.size A L) (hn : L.length = n) (hok : ∀ v ∈ L, Vok v) (hl : n ≤ 60) :
    Calls Try.prog 45 #[.slice A n cap] w (RetBelow (outV (sX L) (sY L) (sZ L)) w) := by
  have HN := Lib.hid hn
  have HB := Lib.hid hb
  have HO := Lib.hid hok
  clear hn hb hok
  have hz := build23_0
  have hz2 := build45_0
  go_enter Try.func45, Try.ntmps45
  go_wp2_with fail
  have R1 := (BK.new w 0 0 0).alloc (.cells #[.int .i64 0, .int .i64 0, .int .i64 0] 24)
  have O1 := BK.new (w.alloc (.cells #[.int .i64 0, .int .i64 0, .int .i64 0] 24)) 0 0 0
  have B1 := ((Below.refl _ w).alloc (Nat.le_refl _) (.cells #[.int .i64 0, .int .i64 0, .int .i64 0] 24)).alloc (by simp) (.cells #[.int .i64 0, .int .i64 0, .int .i64 0] 24)
  simp only [World.size_alloc] at O1
  refine wp_loop_rounds 4 ?_
  refine rounds_forget (fun W => BK W w.heap.size 0 0 0 ∧ BK W (w.heap.size + 1) 0 0 0 ∧ Below w.heap.size w W) ⟨R1, O1, B1⟩ ?_
  clear R1 O1 B1
  rintro W ⟨R, O, B⟩
  have hWs := O.lt
  have R := Lib.hid R
  have O := Lib.hid O
  have B := Lib.hid B
  rw [rounds_succ]
  go_wp2_with fail
  go_loopw [7] (InRel w sX L W.heap.size 0 0 0) (fun i _ => n - (intOf i).toNat)
  case atStart => exact ⟨0, false, none, 0, 0, [], by omega, rfl, GK.new _ _ _, Row.nil _, by simp [worth, Pd.val, Pd.V, sX, sumI], by omega, below_box B.out _, R.out.alloc _, O.out.alloc _⟩
  case round =>
    clear R O
    obtain ⟨k, bl, A1, n1, c1, D, hk, rfl, hg, row, hw, hn1, bel, res, out⟩ := hrel
    have HG := Lib.hid hg
    have HR := Lib.hid row
    have HW := Lib.hid hw
    have BE := Lib.hid bel
    have RS := Lib.hid res
    have OU := Lib.hid out
    obtain ⟨g0, g1⟩ := hg.c
    have gf0 := hg.f 0
    have gf1 := hg.f 1
    clear hg row hw bel res out
    by_cases hlt : k < n
    · have hkl : k < L.length := by rw [HN.out]; exact hlt
      have hkn : (k : Int) < n := by omega
      have hdk : decide (k < n) = true := by simpa using hlt
      obtain ⟨b, off, rfl, hb1, hb2⟩ := HB.out (fun e => by rw [e] at hkl; simp at hkl)
      have hcl := (BE.out.cell (p := ⟨b, _, none⟩) hb1).trans (hb2 k L[k] (List.getElem?_eq_getElem hkl)).1
      have hsn := Lib.hid (s_snoc L k _ (List.getElem?_eq_getElem hkl))
      have hvk := (HO.out L[k] (List.getElem_mem hkl)).1
      have HS := Lib.hid (show sX (L.take (k + 1)) = sX (L.take k) + L[k].x from hsn.out.1)
      generalize L[k].x = x at *
      have CO := Lib.hid fun W' : World => of_any x W' hvk
      have CA := Lib.hid fun (W' : World) (bl4 : Bool) (A4 : Option Addr) (n4 c4 : Nat) (D4 : List Nat) (r1 : Row W' A1 n1 c1 D) (r4 : Row W' A4 n4 c4 D4) (h4 : n4 ≤ 20) => add_big bl bl4 D D4 A1 A4 n1 c1 n4 c4 (20 + k) W' r1 r4 (by omega) (by omega) (by omega)
      clear hb2 hsn hvk
      go_wp2_with fail
      go_region_law (first
        | (go_simp; go_at_call 46; (refine (CO.out _).mono ?_); (rintro e w4 ⟨bl4, A4, n4, c4, D4, rfl, row4, hx4, hn4, hb4⟩); (have b4 : Hid (Below wr.heap.size wr w4) := Lib.hid (((Below.refl _ wr).drew).trans hb4); have g4 := HG.out.on b4.out HG.out.lt; obtain ⟨p0, p1⟩ := g4.c; have R4 := Lib.hid row4; have X4 := Lib.hid hx4; have G4 := Lib.hid g4; clear hb4 row4 hx4 g4))
        | (go_simp; go_at_call 55; (refine (CA.out _ bl4 A4 n4 c4 D4 (HR.out.on b4.out) R4.out hn4).mono ?_); (rintro e w5 ⟨bl5, A5, n5, c5, D5, rfl, row5, hw5, hn5, hb5⟩); (have b5 : Hid (Below wr.heap.size wr w5) := Lib.hid (b4.out.trans (hb5.mono b4.out.size)); have g5 := HG.out.on b5.out HG.out.lt; obtain ⟨q0, q1⟩ := g5.c; have qf0 := g5.f 0; have qf1 := g5.f 1; have R5 := Lib.hid row5; have X5 := Lib.hid hw5; have G5 := Lib.hid g5; clear hb5 row5 hw5 g5)))
      all_goals
        (go_wp2_with fail
         go_roundw
         case rel => exact ⟨k + 1, bl5, A5, n5, c5, D5, by omega, by go_num, G5.out.put _ _, R5.out.two G5.out _ _, by have h7 := X5.out; have h8 := X4.out; have h9 := HW.out; have h10 := HS.out; unfold worth at h7 h9 ⊢; omega, by omega, ((BE.out.trans (b5.out.mono BE.out.size)).setCell (p := ⟨W.heap.size, 0, none⟩) B.out.size _).setCell (p := ⟨W.heap.size, 1, none⟩) B.out.size _, (RS.out.on b5.out RS.out.lt).two (by omega) _ _, (OU.out.on b5.out OU.out.lt).two (by omega) _ _⟩
         case measure => simp [intOf]; omega)
    · obtain rfl : n = k := by have := HN.out; omega
      have hfl : worth bl D = sX L := by rw [HW.out, List.take_of_length_le (by rw [HN.out]; exact Nat.le_refl _)]
      have CN := Lib.hid (num_any bl D A1 n1 c1 wr HR.out)
      rw [hfl] at CN
      clear hfl
      by_cases hI : I64 (sX L)
      · rw [show numV (sX L) = .tuple #[.int .i64 (sX L), .bool true] from by unfold numV; rw [if_pos hI]] at CN
        have HI0 := Lib.hid hI
        clear hI
        go_wp2_with fail
        refine CN.out.mono ?_
        rintro _ w6 ⟨rfl, hb6⟩
        have R6 := Lib.hid (RS.out.on hb6 RS.out.lt)
        have O6 := Lib.hid (OU.out.on hb6 OU.out.lt)
        have B6 := Lib.hid (below_step BE.out hb6)
        obtain ⟨u0, u1, u2⟩ := O6.out.c3
        have uf := O6.out.f0 0
        clear hb6 g0 g1 gf0 gf1 HG HR HW BE RS OU CN
        go_wp2_with fail
        refine rounds_forget (fun W => BK W w.heap.size 0 0 0 ∧ BK W (w.heap.size + 1) (sX L) 0 0 ∧ Below w.heap.size w W) ⟨R6.out.other (by omega) _, O6.out.set0 _, B6.out.setCell (p := ⟨w.heap.size + 1, 0, none⟩) (by show w.heap.size ≤ w.heap.size + 1; omega) _⟩ ?_
        clear u0 u1 u2 uf R6 O6 B6 B
        rintro W ⟨R, O, B⟩
        have hWs := O.lt
        have R := Lib.hid R
        have O := Lib.hid O
        have B := Lib.hid B
        rw [rounds_succ]
        go_wp2_with fail
        go_loopw [7] (InRel w sY L W.heap.size (sX L) 0 0) (fun i _ => n - (intOf i).toNat)
        case atStart => exact ⟨0, false, none, 0, 0, [], by omega, rfl, GK.new _ _ _, Row.nil _, by simp [worth, Pd.val, Pd.V, sY, sumI], by omega, below_box B.out _, R.out.alloc _, O.out.alloc _⟩
        case round =>
          clear R O
          obtain ⟨k, bl, A1, n1, c1, D, hk, rfl, hg, row, hw, hn1, bel, res, out⟩ := hrel
          have HG := Lib.hid hg
          have HR := Lib.hid row
          have HW := Lib.hid hw
          have BE := Lib.hid bel
          have RS := Lib.hid res
          have OU := Lib.hid out
          obtain ⟨g0, g1⟩ := hg.c
          have gf0 := hg.f 0
          have gf1 := hg.f 1
          clear hg row hw bel res out
          by_cases hlt : k < n
          · have hkl : k < L.length := by rw [HN.out]; exact hlt
            have hkn : (k : Int) < n := by omega
            have hdk : decide (k < n) = true := by simpa using hlt
            obtain ⟨b, off, rfl, hb1, hb2⟩ := HB.out (fun e => by rw [e] at hkl; simp at hkl)
            have hcl := (BE.out.cell (p := ⟨b, _, none⟩) hb1).trans (hb2 k L[k] (List.getElem?_eq_getElem hkl)).2.1
            have hsn := Lib.hid (s_snoc L k _ (List.getElem?_eq_getElem hkl))
            have hvk := (HO.out L[k] (List.getElem_mem hkl)).2.1
            have HS := Lib.hid (show sY (L.take (k + 1)) = sY (L.take k) + L[k].y from hsn.out.2.1)
            generalize L[k].y = x at *
            have CO := Lib.hid fun W' : World => of_any x W' hvk
            have CA := Lib.hid fun (W' : World) (bl4 : Bool) (A4 : Option Addr) (n4 c4 : Nat) (D4 : List Nat) (r1 : Row W' A1 n1 c1 D) (r4 : Row W' A4 n4 c4 D4) (h4 : n4 ≤ 20) => add_big bl bl4 D D4 A1 A4 n1 c1 n4 c4 (20 + k) W' r1 r4 (by omega) (by omega) (by omega)
            clear hb2 hsn hvk
            go_wp2_with fail
            go_region_law (first
              | (go_simp; go_at_call 46; (refine (CO.out _).mono ?_); (rintro e w4 ⟨bl4, A4, n4, c4, D4, rfl, row4, hx4, hn4, hb4⟩); (have b4 : Hid (Below wr.heap.size wr w4) := Lib.hid (((Below.refl _ wr).drew).trans hb4); have g4 := HG.out.on b4.out HG.out.lt; obtain ⟨p0, p1⟩ := g4.c; have R4 := Lib.hid row4; have X4 := Lib.hid hx4; have G4 := Lib.hid g4; clear hb4 row4 hx4 g4))
              | (go_simp; go_at_call 55; (refine (CA.out _ bl4 A4 n4 c4 D4 (HR.out.on b4.out) R4.out hn4).mono ?_); (rintro e w5 ⟨bl5, A5, n5, c5, D5, rfl, row5, hw5, hn5, hb5⟩); (have b5 : Hid (Below wr.heap.size wr w5) := Lib.hid (b4.out.trans (hb5.mono b4.out.size)); have g5 := HG.out.on b5.out HG.out.lt; obtain ⟨q0, q1⟩ := g5.c; have qf0 := g5.f 0; have qf1 := g5.f 1; have R5 := Lib.hid row5; have X5 := Lib.hid hw5; have G5 := Lib.hid g5; clear hb5 row5 hw5 g5)))
            all_goals
              (go_wp2_with fail
               go_roundw
               case rel => exact ⟨k + 1, bl5, A5, n5, c5, D5, by omega, by go_num, G5.out.put _ _, R5.out.two G5.out _ _, by have h7 := X5.out; have h8 := X4.out; have h9 := HW.out; have h10 := HS.out; unfold worth at h7 h9 ⊢; omega, by omega, ((BE.out.trans (b5.out.mono BE.out.size)).setCell (p := ⟨W.heap.size, 0, none⟩) B.out.size _).setCell (p := ⟨W.heap.size, 1, none⟩) B.out.size _, (RS.out.on b5.out RS.out.lt).two (by omega) _ _, (OU.out.on b5.out OU.out.lt).two (by omega) _ _⟩
               case measure => simp [intOf]; omega)
          · obtain rfl : n = k := by have := HN.out; omega
            have hfl : worth bl D = sY L := by rw [HW.out, List.take_of_length_le (by rw [HN.out]; exact Nat.le_refl _)]
            have CN := Lib.hid (num_any bl D A1 n1 c1 wr HR.out)
            rw [hfl] at CN
            clear hfl
            by_cases hI : I64 (sY L)
            · rw [show numV (sY L) = .tuple #[.int .i64 (sY L), .bool true] from by unfold numV; rw [if_pos hI]] at CN
              have HI1 := Lib.hid hI
              clear hI
              go_wp2_with fail
              refine CN.out.mono ?_
              rintro _ w6 ⟨rfl, hb6⟩
              have R6 := Lib.hid (RS.out.on hb6 RS.out.lt)
              have O6 := Lib.hid (OU.out.on hb6 OU.out.lt)
              have B6 := Lib.hid (below_step BE.out hb6)
              obtain ⟨u0, u1, u2⟩ := O6.out.c3
              have uf := O6.out.f0 1
              clear hb6 g0 g1 gf0 gf1 HG HR HW BE RS OU CN
              go_wp2_with fail
              refine rounds_forget (fun W => BK W w.heap.size 0 0 0 ∧ BK W (w.heap.size + 1) (sX L) (sY L) 0 ∧ Below w.heap.size w W) ⟨R6.out.other (by omega) _, O6.out.set1 _, B6.out.setCell (p := ⟨w.heap.size + 1, 1, none⟩) (by show w.heap.size ≤ w.heap.size + 1; omega) _⟩ ?_
              clear u0 u1 u2 uf R6 O6 B6 B
              rintro W ⟨R, O, B⟩
              have hWs := O.lt
              have R := Lib.hid R
              have O := Lib.hid O
              have B := Lib.hid B
              rw [rounds_succ]
              go_wp2_with fail
              go_loopw [7] (InRel w sZ L W.heap.size (sX L) (sY L) 0) (fun i _ => n - (intOf i).toNat)
              case atStart => exact ⟨0, false, none, 0, 0, [], by omega, rfl, GK.new _ _ _, Row.nil _, by simp [worth, Pd.val, Pd.V, sZ, sumI], by omega, below_box B.out _, R.out.alloc _, O.out.alloc _⟩
              case round =>
                clear R O
                obtain ⟨k, bl, A1, n1, c1, D, hk, rfl, hg, row, hw, hn1, bel, res, out⟩ := hrel
                have HG := Lib.hid hg
                have HR := Lib.hid row
                have HW := Lib.hid hw
                have BE := Lib.hid bel
                have RS := Lib.hid res
                have OU := Lib.hid out
                obtain ⟨g0, g1⟩ := hg.c
                have gf0 := hg.f 0
                have gf1 := hg.f 1
                clear hg row hw bel res out
                by_cases hlt : k < n
                · have hkl : k < L.length := by rw [HN.out]; exact hlt
                  have hkn : (k : Int) < n := by omega
                  have hdk : decide (k < n) = true := by simpa using hlt
                  obtain ⟨b, off, rfl, hb1, hb2⟩ := HB.out (fun e => by rw [e] at hkl; simp at hkl)
                  have hcl := (BE.out.cell (p := ⟨b, _, none⟩) hb1).trans (hb2 k L[k] (List.getElem?_eq_getElem hkl)).2.2
                  have hsn := Lib.hid (s_snoc L k _ (List.getElem?_eq_getElem hkl))
                  have hvk := (HO.out L[k] (List.getElem_mem hkl)).2.2
                  have HS := Lib.hid (show sZ (L.take (k + 1)) = sZ (L.take k) + L[k].z from hsn.out.2.2)
                  generalize L[k].z = x at *
                  have CO := Lib.hid fun W' : World => of_any x W' hvk
                  have CA := Lib.hid fun (W' : World) (bl4 : Bool) (A4 : Option Addr) (n4 c4 : Nat) (D4 : List Nat) (r1 : Row W' A1 n1 c1 D) (r4 : Row W' A4 n4 c4 D4) (h4 : n4 ≤ 20) => add_big bl bl4 D D4 A1 A4 n1 c1 n4 c4 (20 + k) W' r1 r4 (by omega) (by omega) (by omega)
                  clear hb2 hsn hvk
                  go_wp2_with fail
                  go_region_law (first
                    | (go_simp; go_at_call 46; (refine (CO.out _).mono ?_); (rintro e w4 ⟨bl4, A4, n4, c4, D4, rfl, row4, hx4, hn4, hb4⟩); (have b4 : Hid (Below wr.heap.size wr w4) := Lib.hid (((Below.refl _ wr).drew).trans hb4); have g4 := HG.out.on b4.out HG.out.lt; obtain ⟨p0, p1⟩ := g4.c; have R4 := Lib.hid row4; have X4 := Lib.hid hx4; have G4 := Lib.hid g4; clear hb4 row4 hx4 g4))
                    | (go_simp; go_at_call 55; (refine (CA.out _ bl4 A4 n4 c4 D4 (HR.out.on b4.out) R4.out hn4).mono ?_); (rintro e w5 ⟨bl5, A5, n5, c5, D5, rfl, row5, hw5, hn5, hb5⟩); (have b5 : Hid (Below wr.heap.size wr w5) := Lib.hid (b4.out.trans (hb5.mono b4.out.size)); have g5 := HG.out.on b5.out HG.out.lt; obtain ⟨q0, q1⟩ := g5.c; have qf0 := g5.f 0; have qf1 := g5.f 1; have R5 := Lib.hid row5; have X5 := Lib.hid hw5; have G5 := Lib.hid g5; clear hb5 row5 hw5 g5)))
                  all_goals
                    (go_wp2_with fail
                     go_roundw
                     case rel => exact ⟨k + 1, bl5, A5, n5, c5, D5, by omega, by go_num, G5.out.put _ _, R5.out.two G5.out _ _, by have h7 := X5.out; have h8 := X4.out; have h9 := HW.out; have h10 := HS.out; unfold worth at h7 h9 ⊢; omega, by omega, ((BE.out.trans (b5.out.mono BE.out.size)).setCell (p := ⟨W.heap.size, 0, none⟩) B.out.size _).setCell (p := ⟨W.heap.size, 1, none⟩) B.out.size _, (RS.out.on b5.out RS.out.lt).two (by omega) _ _, (OU.out.on b5.out OU.out.lt).two (by omega) _ _⟩
                     case measure => simp [intOf]; omega)
                · obtain rfl : n = k := by have := HN.out; omega
                  have hfl : worth bl D = sZ L := by rw [HW.out, List.take_of_length_le (by rw [HN.out]; exact Nat.le_refl _)]
                  have CN := Lib.hid (num_any bl D A1 n1 c1 wr HR.out)
                  rw [hfl] at CN
                  clear hfl
                  by_cases hI : I64 (sZ L)
                  · rw [show numV (sZ L) = .tuple #[.int .i64 (sZ L), .bool true] from by unfold numV; rw [if_pos hI]] at CN
                    have HI2 := Lib.hid hI
                    clear hI
                    go_wp2_with fail
                    refine CN.out.mono ?_
                    rintro _ w6 ⟨rfl, hb6⟩
                    have R6 := Lib.hid (RS.out.on hb6 RS.out.lt)
                    have O6 := Lib.hid (OU.out.on hb6 OU.out.lt)
                    have B6 := Lib.hid (below_step BE.out hb6)
                    obtain ⟨u0, u1, u2⟩ := O6.out.c3
                    have uf := O6.out.f0 2
                    clear hb6 g0 g1 gf0 gf1 HG HR HW BE RS OU CN
                    go_wp2_with fail
                    refine rounds_forget (fun W => BK W w.heap.size 0 0 0 ∧ BK W (w.heap.size + 1) (sX L) (sY L) (sZ L) ∧ Below w.heap.size w W) ⟨R6.out.other (by omega) _, O6.out.set2 _, B6.out.setCell (p := ⟨w.heap.size + 1, 2, none⟩) (by show w.heap.size ≤ w.heap.size + 1; omega) _⟩ ?_
                    clear u0 u1 u2 uf R6 O6 B6 B
                    rintro W ⟨R, O, B⟩
                    have hWs := O.lt
                    have R := Lib.hid R
                    have O := Lib.hid O
                    have B := Lib.hid B
                    rw [rounds_succ]
                    have OK := Lib.hid (outV_ok ⟨HI0.out, HI1.out, HI2.out⟩)
                    obtain ⟨u0, u1, u2⟩ := O.out.c3
                    obtain ⟨r0, r1, r2⟩ := R.out.c3
                    have uf0 := R.out.f0 0
                    have uf1 := R.out.f0 1
                    have uf2 := R.out.f0 2
                    go_wp2_with fail
                    exact bodyPost_ret (v := .tuple #[.agg #[.int .i64 (sX L), .int .i64 (sY L), .int .i64 (sZ L)], .int .i64 0]) (by simp [results, Try.results45, go_sem, r0, r1, r2]) rfl
                      ⟨by rw [OK.out], ((B.out.setCell (p := ⟨w.heap.size, 0, none⟩) (Nat.le_refl _) _).setCell (p := ⟨w.heap.size, 1, none⟩) (Nat.le_refl _) _).setCell (p := ⟨w.heap.size, 2, none⟩) (Nat.le_refl _) _⟩
                  · rw [show numV (sZ L) = .tuple #[.int .i64 0, .bool false] from by unfold numV; rw [if_neg hI]] at CN
                    have ON := Lib.hid (outV_no (X := sX L) (Y := sY L) (Z := sZ L) (fun h => hI h.2.2))
                    go_wp2_with fail
                    refine CN.out.mono ?_
                    rintro _ w6 ⟨rfl, hb6⟩
                    have R6 := Lib.hid (RS.out.on hb6 RS.out.lt)
                    have B6 := Lib.hid (below_step BE.out hb6)
                    obtain ⟨u0, u1, u2⟩ := R6.out.c3
                    have uf0 := R6.out.f0 0
                    have uf1 := R6.out.f0 1
                    have uf2 := R6.out.f0 2
                    clear hb6 g0 g1 gf0 gf1 HG HR HW BE RS OU CN
                    go_wp2_with fail
                    exact bodyPost_ret (v := .tuple #[.agg #[.int .i64 0, .int .i64 0, .int .i64 0], .int .i64 6]) (by simp [results, Try.results45, go_sem, u0, u1, u2]) rfl
                      ⟨by rw [ON.out], ((B6.out.setCell (p := ⟨w.heap.size, 0, none⟩) (Nat.le_refl _) _).setCell (p := ⟨w.heap.size, 1, none⟩) (Nat.le_refl _) _).setCell (p := ⟨w.heap.size, 2, none⟩) (Nat.le_refl _) _⟩
            · rw [show numV (sY L) = .tuple #[.int .i64 0, .bool false] from by unfold numV; rw [if_neg hI]] at CN
              have ON := Lib.hid (outV_no (X := sX L) (Y := sY L) (Z := sZ L) (fun h => hI h.2.1))
              go_wp2_with fail
              refine CN.out.mono ?_
              rintro _ w6 ⟨rfl, hb6⟩
              have R6 := Lib.hid (RS.out.on hb6 RS.out.lt)
              have B6 := Lib.hid (below_step BE.out hb6)
              obtain ⟨u0, u1, u2⟩ := R6.out.c3
              have uf0 := R6.out.f0 0
              have uf1 := R6.out.f0 1
              have uf2 := R6.out.f0 2
              clear hb6 g0 g1 gf0 gf1 HG HR HW BE RS OU CN
              go_wp2_with fail
              exact bodyPost_ret (v := .tuple #[.agg #[.int .i64 0, .int .i64 0, .int .i64 0], .int .i64 6]) (by simp [results, Try.results45, go_sem, u0, u1, u2]) rfl
                ⟨by rw [ON.out], ((B6.out.setCell (p := ⟨w.heap.size, 0, none⟩) (Nat.le_refl _) _).setCell (p := ⟨w.heap.size, 1, none⟩) (Nat.le_refl _) _).setCell (p := ⟨w.heap.size, 2, none⟩) (Nat.le_refl _) _⟩
      · rw [show numV (sX L) = .tuple #[.int .i64 0, .bool false] from by unfold numV; rw [if_neg hI]] at CN
        have ON := Lib.hid (outV_no (X := sX L) (Y := sY L) (Z := sZ L) (fun h => hI h.1))
        go_wp2_with fail
        refine CN.out.mono ?_
        rintro _ w6 ⟨rfl, hb6⟩
        have R6 := Lib.hid (RS.out.on hb6 RS.out.lt)
        have B6 := Lib.hid (below_step BE.out hb6)
        obtain ⟨u0, u1, u2⟩ := R6.out.c3
        have uf0 := R6.out.f0 0
        have uf1 := R6.out.f0 1
        have uf2 := R6.out.f0 2
        clear hb6 g0 g1 gf0 gf1 HG HR HW BE RS OU CN
        go_wp2_with fail
        exact bodyPost_ret (v := .tuple #[.agg #[.int .i64 0, .int .i64 0, .int .i64 0], .int .i64 6]) (by simp [results, Try.results45, go_sem, u0, u1, u2]) rfl
          ⟨by rw [ON.out], ((B6.out.setCell (p := ⟨w.heap.size, 0, none⟩) (Nat.le_refl _) _).setCell (p := ⟨w.heap.size, 1, none⟩) (Nat.le_refl _) _).setCell (p := ⟨w.heap.size, 2, none⟩) (Nat.le_refl _) _⟩
end Go.Proofs.Ytjpnkecfoealoaa.Vc
