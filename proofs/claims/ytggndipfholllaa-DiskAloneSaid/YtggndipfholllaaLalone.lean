import Derived.Test.YtggndipfholllaaLread
namespace Go.Proofs.Ytggndipfholllaa
open Go.RowKit
open PlainDisk (File Disk)
set_option linter.unusedVariables false

set_option maxHeartbeats 8000000 in
set_option maxRecDepth 100000 in
theorem law_alone (room : Int) (v : Value) (xs : List PlainDisk.Act) (na : List UInt8) (v2 : Value) (ys : List PlainDisk.Act) (w : World) (r0 : -9223372036854775808 ≤ room) (r1 : room ≤ 9223372036854775807) (hx : ActsAt w v xs w.heap.size) (hna0 : na.length ≤ 140737488351232) (hy : ActsAt w v2 ys w.heap.size) :
    Calls Try.prog 8 #[.int .i64 room, v, .string (str na), v2] w (RetBelow (.bool true) w) := by
  have hna : na.length ≤ 281474976710656 := by omega
  clear hna0
  have HAW := Lib.hid (awake_any w)
  obtain ⟨A, c, rfl, l1, l2⟩ := hx.form
  obtain ⟨Ay, cy, rfl, l3, l4⟩ := hy.form
  have HX := Lib.hid hx
  have HY := Lib.hid hy
  clear hx hy
  by_cases hr : room < 0 ∨ 1048576 < room
  · have HN := Lib.hid (fun W => new_no room W r0 r1 hr)
    have hr2 : room < 0 ∨ (0 ≤ room ∧ 1048576 < room) := by omega
    rcases hr2 with hr2 | ⟨hr2, hr3⟩
    all_goals
      go_enter Try.func8, Try.ntmps8
      go_wp2_with fail
      refine HAW.out.mono ?_
      rintro e w1 ⟨rfl, hb1⟩
      go_wp2_with fail
      refine (HN.out _).mono ?_
      rintro e w' ⟨rfl, rfl⟩
      go_wp2_with fail
      go_ret
      exact ⟨rfl, hb1⟩
  · obtain ⟨R, rfl⟩ : ∃ R : Nat, room = (R : Int) := ⟨room.toNat, by omega⟩
    have hR : R ≤ 1048576 := by omega
    have HN := Lib.hid (fun W => new_ch R W hR)
    go_enter Try.func8, Try.ntmps8
    go_wp2_with fail
    refine HAW.out.mono ?_
    rintro e w1 ⟨rfl, hb1⟩
    have HB1 := Lib.hid hb1
    clear hb1
    go_wp2_with fail
    refine (HN.out _).mono ?_
    rintro e w2 ⟨rfl, hch⟩
    have HC0 : Hid (Ch w w2 w1.heap.size (PlainDisk.new R)) := Lib.hid (by
      obtain ⟨⟨S, q1, q2⟩, q3, q4⟩ := hch
      exact ⟨⟨S, q1, fun k hk => ⟨Nat.le_trans HB1.out.size (q2 k hk).1, (q2 k hk).2⟩⟩, HB1.out.trans (q3.mono HB1.out.size), q4⟩)
    clear hch
    generalize w1.heap.size = b at *
    go_wp2_with fail
    go_loopw [10] (fun iV wr => ∃ (i : Nat) (D : Disk), iV = .int .i64 (i : Nat) ∧ i ≤ 80 ∧ Ch w wr b D) (fun iV _ => 80 - (numOf iV).toNat)
    case atStart => exact ⟨0, _, rfl, by omega, HC0.out⟩
    case round =>
      obtain ⟨i, D, rfl, hi, hch⟩ := hrel
      have HC := Lib.hid hch
      clear hch HC0
      by_cases hil : i < xs.length ∧ i < 80
      · obtain ⟨hil, hi80⟩ := hil
        obtain ⟨x, hx⟩ : ∃ x, xs[i]? = some x := ⟨_, List.getElem?_eq_getElem hil⟩
        obtain ⟨k, off, Ab, cb, Al, cl, o⟩ := HX.out.one HC.out.below hx
        have HA := Lib.hid (o.act HC.out)
        obtain ⟨rfl, _, c0, c1, c2, c3, c4, c5, _, _, _⟩ := o
        clear hx
        generalize PlainDisk.step may D x = st at *
        obtain ⟨D2, code⟩ := st
        dsimp only at HA
        go_wp2_with fail
        refine HA.out.mono ?_
        rintro e w3 ⟨rfl, hc3⟩
        have HC3 := Lib.hid hc3
        clear hc3 c0 c1 c2 c3 c4 c5 HC HA
        go_wp2_with fail
        go_roundw
        case rel => exact ⟨i + 1, D2, rfl, by omega, HC3.out⟩
        case measure => simp [numOf]; omega
      · have hil2 : (xs.length : Int) ≤ (i : Int) ∨ ((i : Int) < (xs.length : Int) ∧ (80 : Int) ≤ (i : Int)) := by omega
        have HRA := Lib.hid (read_all HC.out na hna)
        have HSM : Hid (∀ D2 : Disk, PlainDisk.find D2.fs na = PlainDisk.find D.fs na → rdB D2 na = rdB D na ∧ rdE D2 na = rdE D na ∧ sureOf D2 na = sureOf D na) := Lib.hid (fun D2 q => by unfold rdB rdE sureOf; rw [q]; exact ⟨rfl, rfl, rfl⟩)
        have HSA := Lib.hid (fun (W : World) (h : Ch w W b D) => sure_ch h na hna)
        generalize rdB D na = bs at *
        generalize rdE D na = ce at *
        generalize sureOf D na = su at *
        rcases hil2 with h1 | ⟨h1, h2⟩
        all_goals
          go_wp2_with fail
          refine HRA.out.mono ?_
          rintro e w3 ⟨A3, c3, rfl, ho3, hb3⟩
          have HC3 := Lib.hid (HC.out.hold hb3)
          have HO3 := Lib.hid (ho3.held (H := fun k => wr.heap.size ≤ k ∧ k < w3.heap.size) fun k h1 h2 => ⟨h1, h2⟩)
          generalize (fun k => wr.heap.size ≤ k ∧ k < w3.heap.size) = H at *
          clear ho3 hb3 HRA
          go_wp2_with fail
          refine (HSA.out _ HC3.out.ch).mono ?_
          rintro e w' ⟨rfl, rfl⟩
          go_wp2_with fail
          go_loopw [14] (fun jV wq => ∃ (j : Nat) (D2 : Disk), jV = .int .i64 (j : Nat) ∧ j ≤ 80 ∧ Cx w wq b D2 H ∧ HeldB H wq (.slice A3 bs.length c3) bs ∧ PlainDisk.find D2.fs na = PlainDisk.find D.fs na) (fun jV _ => 80 - (numOf jV).toNat)
          case atStart => exact ⟨0, _, rfl, by omega, HC3.out, HO3.out, rfl⟩
          case round =>
            obtain ⟨j, D2, rfl, hj, hcj, hoj, hfj⟩ := hrel
            have HCJ := Lib.hid hcj
            have HOJ := Lib.hid hoj
            have HFJ := Lib.hid hfj
            clear hcj hoj hfj HC3 HO3
            by_cases hjl : j < ys.length ∧ j < 80
            · obtain ⟨hjl, hj80⟩ := hjl
              obtain ⟨y, hy⟩ : ∃ y, ys[j]? = some y := ⟨_, List.getElem?_eq_getElem hjl⟩
              obtain ⟨k, off, Ab, cb, Al, cl, o⟩ := HY.out.one HCJ.out.below hy
              have HOO := Lib.hid o
              obtain ⟨rfl, _, c0, c1, c2, c3, c4, c5, ok, _, _⟩ := o
              have k0 := ok.k0
              have k1 := ok.k1
              clear hy ok
              by_cases ha : y.a = na
              · have hsa : ((str y.a).toList == (str na).toList) = true := by rw [cell_eq]; simpa using ha
                have hsa2 : (str y.a).toList = (str na).toList := by rw [ha]
                go_wp2_with fail
                go_roundw
                case rel => exact ⟨j + 1, D2, rfl, by omega, HCJ.out.next (below_alloc _ _), HOJ.out.belows (below_alloc _ _), HFJ.out⟩
                case measure => simp [numOf]; omega
              · have hsa : ((str y.a).toList == (str na).toList) = false := by rw [cell_eq]; simpa using ha
                have hsa2 : ¬ (str y.a).toList = (str na).toList := by rw [ByteArray.toList_eq, ByteArray.toList_eq, list_str, list_str]; exact ha
                have hsa3 : (!(str y.a).toList == (str na).toList) = true := by rw [hsa]; rfl
                by_cases ht : y.to = na
                · have hst : ((str y.to).toList == (str na).toList) = true := by rw [cell_eq]; simpa using ht
                  have hst2 : (str y.to).toList = (str na).toList := by rw [ht]
                  go_wp2_with fail
                  go_roundw
                  case rel => exact ⟨j + 1, D2, rfl, by omega, HCJ.out.next (below_alloc _ _), HOJ.out.belows (below_alloc _ _), HFJ.out⟩
                  case measure => simp [numOf]; omega
                · have hst : ((str y.to).toList == (str na).toList) = false := by rw [cell_eq]; simpa using ht
                  have hst2 : ¬ (str y.to).toList = (str na).toList := by rw [ByteArray.toList_eq, ByteArray.toList_eq, list_str, list_str]; exact ht
                  have hst3 : (!(str y.to).toList == (str na).toList) = true := by rw [hst]; rfl
                  have hk : y.kind = 6 ∨ y.kind ≠ 6 := by omega
                  rcases hk with hk | hk
                  · go_wp2_with fail
                    go_roundw
                    case rel => exact ⟨j + 1, D2, rfl, by omega, HCJ.out.next (below_alloc _ _), HOJ.out.belows (below_alloc _ _), HFJ.out⟩
                    case measure => simp [numOf]; omega
                  · have HAL := Lib.hid (PlainDisk.alone_step (may := may) HCJ.out.fine.inv ha ht hk)
                    have HAY := Lib.hid (fun W (hb : Below wr.heap.size wr W) => (HOO.out.next HCJ.out.below.size hb).actx (HCJ.out.next hb))
                    generalize PlainDisk.step may D2 y = st at *
                    obtain ⟨D3, code⟩ := st
                    dsimp only at HAL HAY
                    go_wp2_with fail
                    refine (HAY.out _ (below_alloc _ _)).mono ?_
                    rintro e w5 ⟨rfl, hc5, hk5⟩
                    have HC5 := Lib.hid hc5
                    have HO5 := Lib.hid ((HOJ.out.belows (below_alloc _ _)).same hk5)
                    clear hc5 hk5 c0 c1 c2 c3 c4 c5 HAY HCJ HOJ
                    go_wp2_with fail
                    go_roundw
                    case rel => exact ⟨j + 1, D3, rfl, by omega, HC5.out, HO5.out, HAL.out.trans HFJ.out⟩
                    case measure => simp [numOf]; omega
            · have hjl2 : (ys.length : Int) ≤ (j : Int) ∨ ((j : Int) < (ys.length : Int) ∧ (80 : Int) ≤ (j : Int)) := by omega
              obtain ⟨g1, g2, g3⟩ := HSM.out D2 HFJ.out
              have HRF := Lib.hid (read_all HCJ.out.ch na hna)
              rw [g1, g2] at HRF
              have HSF := Lib.hid (fun (W : World) (h : Ch w W b D2) => sure_ch h na hna)
              rw [g3] at HSF
              clear g1 g2 g3
              rcases hjl2 with h1 | ⟨h1, h2⟩
              all_goals
                go_wp2_with fail
                refine HRF.out.mono ?_
                rintro e w5 ⟨A5, c5, rfl, ho5, hb5⟩
                have HC5 := Lib.hid (HCJ.out.next hb5)
                have hcs1 := (HOJ.out.belows hb5).conv
                have hcs2 := conv_own ho5
                clear ho5 hb5 HRF
                go_wp2_with fail
                refine (HSF.out _ HC5.out.ch).mono ?_
                rintro e w' ⟨rfl, rfl⟩
                go_wp2_with fail
                go_ret
                exact ⟨rfl, HC5.out.below⟩
end Go.Proofs.Ytggndipfholllaa
