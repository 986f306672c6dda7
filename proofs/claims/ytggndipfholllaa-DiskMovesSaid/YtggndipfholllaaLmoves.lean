import Derived.Test.YtggndipfholllaaLread
namespace Go.Proofs.Ytggndipfholllaa
open Go.RowKit
open PlainDisk (File Disk)
set_option linter.unusedVariables false

set_option maxHeartbeats 8000000 in
set_option maxRecDepth 100000 in
theorem law_moves (room : Int) (v : Value) (xs : List PlainDisk.Act) (na nb : List UInt8) (w : World) (r0 : -9223372036854775808 ≤ room) (r1 : room ≤ 9223372036854775807) (hx : ActsAt w v xs w.heap.size) (hna0 : na.length ≤ 140737488351232) (hnb0 : nb.length ≤ 140737488351232) :
    Calls Try.prog 7 #[.int .i64 room, v, .string (str na), .string (str nb)] w (RetBelow (.bool true) w) := by
  have hna : na.length ≤ 281474976710656 := by omega
  have hnb : nb.length ≤ 281474976710656 := by omega
  clear hna0 hnb0
  have HAW := Lib.hid (awake_any w)
  obtain ⟨A, c, rfl, l1, l2⟩ := hx.form
  have HX := Lib.hid hx
  clear hx
  by_cases hr : room < 0 ∨ 1048576 < room
  · have HN := Lib.hid (fun W => new_no room W r0 r1 hr)
    have hr2 : room < 0 ∨ (0 ≤ room ∧ 1048576 < room) := by omega
    rcases hr2 with hr2 | ⟨hr2, hr3⟩
    all_goals
      go_enter Try.func7, Try.ntmps7
      go_wp2_with fail
      refine HAW.out.mono ?_
      rintro e w1 ⟨rfl, hb1⟩
      go_wp2_with fail
      refine (HN.out _).mono ?_
      rintro e w' ⟨rfl, rfl⟩
      go_wp2_with fail
      go_ret
      exact ⟨rfl, hb1⟩
  · obtain ⟨R, rfl⟩ : ∃ R : Nat, room = (R : Int) := ⟨room.toNat, by omega⟩
    have hR : R ≤ 1048576 := by omega
    have HN := Lib.hid (fun W => new_ch R W hR)
    go_enter Try.func7, Try.ntmps7
    go_wp2_with fail
    refine HAW.out.mono ?_
    rintro e w1 ⟨rfl, hb1⟩
    have HB1 := Lib.hid hb1
    clear hb1
    go_wp2_with fail
    refine (HN.out _).mono ?_
    rintro e w2 ⟨rfl, hch⟩
    have HC0 : Hid (Ch w w2 w1.heap.size (PlainDisk.new R)) := Lib.hid (by
      obtain ⟨⟨S, q1, q2⟩, q3, q4⟩ := hch
      exact ⟨⟨S, q1, fun k hk => ⟨Nat.le_trans HB1.out.size (q2 k hk).1, (q2 k hk).2⟩⟩, HB1.out.trans (q3.mono HB1.out.size), q4⟩)
    clear hch
    generalize w1.heap.size = b at *
    go_wp2_with fail
    go_loopw [10] (fun iV wr => ∃ (i : Nat) (D : Disk), iV = .int .i64 (i : Nat) ∧ i ≤ 80 ∧ Ch w wr b D ∧ D.gone = false ∧ D.good = -1) (fun iV _ => 80 - (numOf iV).toNat)
    case atStart => exact ⟨0, _, rfl, by omega, HC0.out, rfl, rfl⟩
    case round =>
      obtain ⟨i, D, rfl, hi, hch, hfree⟩ := hrel
      have HC := Lib.hid hch
      have HFR := Lib.hid hfree
      clear hch hfree HC0
      by_cases hil : i < xs.length ∧ i < 80
      · obtain ⟨hil, hi80⟩ := hil
        obtain ⟨x, hx⟩ : ∃ x, xs[i]? = some x := ⟨_, List.getElem?_eq_getElem hil⟩
        obtain ⟨k, off, Ab, cb, Al, cl, o⟩ := HX.out.one HC.out.below hx
        have HA := Lib.hid (o.act HC.out)
        obtain ⟨rfl, _, c0, c1, c2, c3, c4, c5, ok, _, _⟩ := o
        have k0 := ok.k0
        have k1 := ok.k1
        clear ok hx
        have hk : x.kind = 5 ∨ x.kind ≠ 5 := by omega
        rcases hk with hk | hk
        · go_wp2_with fail
          go_roundw
          case rel => exact ⟨i + 1, D, rfl, by omega, HC.out, HFR.out⟩
          case measure => simp [numOf]; omega
        · have HFR2 := Lib.hid (PlainDisk.free_step (may := may) HFR.out hk)
          generalize PlainDisk.step may D x = st at *
          obtain ⟨D2, code⟩ := st
          dsimp only at HA HFR2
          go_wp2_with fail
          refine HA.out.mono ?_
          rintro e w3 ⟨rfl, hc3⟩
          have HC3 := Lib.hid hc3
          clear hc3 c0 c1 c2 c3 c4 c5 HC HA
          go_wp2_with fail
          go_roundw
          case rel => exact ⟨i + 1, D2, rfl, by omega, HC3.out, HFR2.out⟩
          case measure => simp [numOf]; omega
      · have hil2 : (xs.length : Int) ≤ (i : Int) ∨ ((i : Int) < (xs.length : Int) ∧ (80 : Int) ≤ (i : Int)) := by omega
        rcases hil2 with h1 | ⟨h1, h2⟩
        all_goals
          rcases move_free HFR.out na nb with ⟨hm, _⟩ | ⟨hm, hf, _⟩ | ⟨f, hf, ma, mb, hm⟩
          · have HRA := Lib.hid (read_all HC.out na hna)
            go_wp2_with fail
            refine HRA.out.mono ?_
            rintro e w3 ⟨A3, c3, rfl, ho3, hb3⟩
            have HC3 := Lib.hid (HC.out.next hb3)
            have HO3 := Lib.hid ho3
            clear ho3 hb3
            have HSA := Lib.hid (sure_ch HC3.out na hna)
            go_wp2_with fail
            refine HSA.out.mono ?_
            rintro e w' ⟨rfl, rfl⟩
            have HRB := Lib.hid (read_all HC3.out nb hnb)
            go_wp2_with fail
            refine HRB.out.mono ?_
            rintro e w4 ⟨A4, c4, rfl, ho4, hb4⟩
            have HC4 := Lib.hid (HC3.out.next hb4)
            have HO4 := Lib.hid (HO3.out.belows hb4)
            clear ho4 hb4 HO3 HRB
            go_wp2_with fail
            refine (used_ch HC4.out).mono ?_
            rintro e w5 ⟨rfl, hb5⟩
            have HC5 := Lib.hid (HC4.out.next hb5)
            have HO5 := Lib.hid (HO4.out.belows hb5)
            clear hb5 HO4
            have HM := Lib.hid (move_ch HC5.out na nb hna hnb)
            rw [hm] at HM
            clear hm
            dsimp only at HM
            go_wp2_with fail
            refine HM.out.mono ?_
            rintro e w6 ⟨rfl, hc6⟩
            have HC6 := Lib.hid hc6
            clear hc6 HM
            go_wp2_with fail
            go_ret
            exact ⟨rfl, HC6.out.below⟩
          · have HRA := Lib.hid (read_all HC.out na hna)
            rw [(rd_none hf).1, (rd_none hf).2] at HRA
            go_wp2_with fail
            refine HRA.out.mono ?_
            rintro e w3 ⟨A3, c3, rfl, ho3, hb3⟩
            have HC3 := Lib.hid (HC.out.next hb3)
            have HO3 := Lib.hid ho3
            clear ho3 hb3
            have HSA := Lib.hid (sure_ch HC3.out na hna)
            go_wp2_with fail
            refine HSA.out.mono ?_
            rintro e w' ⟨rfl, rfl⟩
            have HRB := Lib.hid (read_all HC3.out nb hnb)
            go_wp2_with fail
            refine HRB.out.mono ?_
            rintro e w4 ⟨A4, c4, rfl, ho4, hb4⟩
            have HC4 := Lib.hid (HC3.out.next hb4)
            have HO4 := Lib.hid (HO3.out.belows hb4)
            clear ho4 hb4 HO3 HRB
            go_wp2_with fail
            refine (used_ch HC4.out).mono ?_
            rintro e w5 ⟨rfl, hb5⟩
            have HC5 := Lib.hid (HC4.out.next hb5)
            have HO5 := Lib.hid (HO4.out.belows hb5)
            clear hb5 HO4
            have HM := Lib.hid (move_ch HC5.out na nb hna hnb)
            rw [hm] at HM
            clear hm
            dsimp only at HM
            go_wp2_with fail
            refine HM.out.mono ?_
            rintro e w6 ⟨rfl, hc6⟩
            have HC6 := Lib.hid hc6
            clear hc6 HM
            go_wp2_with fail
            refine (used_ch HC6.out).mono ?_
            rintro e w7 ⟨rfl, hb7⟩
            have HC7 := Lib.hid (HC6.out.next hb7)
            clear hb7
            go_wp2_with fail
            go_ret
            exact ⟨rfl, HC7.out.below⟩
          · have HRA := Lib.hid (read_all HC.out na hna)
            rw [(rd_some hf).1, (rd_some hf).2] at HRA
            have hfb : PlainDisk.find (PlainDisk.moved D.fs f na nb) nb = some { f with name := nb } := by rw [PlainDisk.find_moved HC.out.sorted, if_pos rfl]
            have hfa : na ≠ nb → PlainDisk.find (PlainDisk.moved D.fs f na nb) na = none := fun q => by rw [PlainDisk.find_moved HC.out.sorted, if_neg q, if_pos rfl]
            have hback : na ≠ nb → PlainDisk.find D.fs nb = none → PlainDisk.move may { D with fs := PlainDisk.moved D.fs f na nb } nb na = (D, 0) ∧ PlainDisk.used (PlainDisk.moved D.fs f na nb) = PlainDisk.used D.fs := by
              intro q hn
              refine ⟨?_, PlainDisk.move_used HC.out.sorted hf hn⟩
              rcases move_free (D := { D with fs := PlainDisk.moved D.fs f na nb }) HFR.out nb na with ⟨_, h2⟩ | ⟨_, h2, _⟩ | ⟨g, h2, _, _, h3⟩
              · rw [ma, mb] at h2; rcases h2 with h2 | h2 <;> cases h2
              · rw [show PlainDisk.find ({ D with fs := PlainDisk.moved D.fs f na nb } : Disk).fs nb = some { f with name := nb } from hfb] at h2; cases h2
              · rw [show PlainDisk.find ({ D with fs := PlainDisk.moved D.fs f na nb } : Disk).fs nb = some { f with name := nb } from hfb] at h2
                injection h2 with h2
                subst h2
                rw [h3]
                dsimp only
                rw [PlainDisk.move_back HC.out.sorted hf hn]
            clear ma mb
            go_wp2_with fail
            refine HRA.out.mono ?_
            rintro e w3 ⟨A3, c3, rfl, ho3, hb3⟩
            have HC3 := Lib.hid (HC.out.hold hb3)
            have HO3 := Lib.hid (ho3.held (H := fun k => wr.heap.size ≤ k ∧ k < w3.heap.size) fun k h1 h2 => ⟨h1, h2⟩)
            clear ho3 hb3 HRA
            have HSA := Lib.hid (sure_ch HC3.out.ch na hna)
            rw [sureOf_at hf] at HSA
            generalize (fun k => wr.heap.size ≤ k ∧ k < w3.heap.size) = H at *
            go_wp2_with fail
            refine HSA.out.mono ?_
            rintro e w' ⟨rfl, rfl⟩
            have HRB := Lib.hid (read_all HC3.out.ch nb hnb)
            have HM0 := Lib.hid hm
            have HFB := Lib.hid hfb
            have HFA := Lib.hid hfa
            have HBK := Lib.hid hback
            clear hm hfb hfa hback HSA
            have hcas : na = nb ∨ (na ≠ nb ∧ ∃ g, PlainDisk.find D.fs nb = some g) ∨ (na ≠ nb ∧ PlainDisk.find D.fs nb = none) := by
              by_cases q : na = nb
              · exact .inl q
              · cases hq : PlainDisk.find D.fs nb with
                | none => exact .inr (.inr ⟨q, rfl⟩)
                | some g => exact .inr (.inl ⟨q, g, rfl⟩)
            have hcode : (∃ g, PlainDisk.find D.fs nb = some g) → rdE D nb = 0 := fun ⟨g, q⟩ => (rd_some q).2
            have hcode2 : PlainDisk.find D.fs nb = none → rdE D nb = 10 := fun q => (rd_none q).2
            generalize rdE D nb = eb at *
            generalize rdB D nb = bb at *
            go_wp2_with fail
            refine HRB.out.mono ?_
            rintro e w4 ⟨A4, c4, rfl, _, hb4⟩
            have HC4 := Lib.hid (HC3.out.next hb4)
            have HO4 := Lib.hid (HO3.out.belows hb4)
            clear hb4 HO3 HRB HC3
            go_wp2_with fail
            refine (used_ch HC4.out.ch).mono ?_
            rintro e w5 ⟨rfl, hb5⟩
            have HC5 := Lib.hid (HC4.out.next hb5)
            have HO5 := Lib.hid (HO4.out.belows hb5)
            clear hb5 HO4 HC4
            have HM := Lib.hid (move_cx HC5.out na nb hna hnb)
            rw [HM0.out] at HM
            dsimp only at HM
            go_wp2_with fail
            refine HM.out.mono ?_
            rintro e w6 ⟨rfl, hc6, hk6⟩
            have HC6 := Lib.hid hc6
            have HO6 := Lib.hid (HO5.out.same hk6)
            clear hc6 hk6 HM HO5 HC5
            have HR7 := Lib.hid (read_all HC6.out.ch nb hnb)
            rw [(rd_some (D := { D with fs := PlainDisk.moved D.fs f na nb }) HFB.out).1, (rd_some (D := { D with fs := PlainDisk.moved D.fs f na nb }) HFB.out).2] at HR7
            dsimp only at HR7
            go_wp2_with fail
            refine HR7.out.mono ?_
            rintro e w7 ⟨A7, c7, rfl, ho7, hb7⟩
            have HC7 := Lib.hid (HC6.out.next hb7)
            have HO7 := Lib.hid (HO6.out.belows hb7)
            have hcs1 := HO7.out.conv
            have hcs2 := conv_own ho7
            have HS7 := Lib.hid (sure_ch HC7.out.ch nb hnb)
            rw [sureOf_at (D := { D with fs := PlainDisk.moved D.fs f na nb }) HFB.out] at HS7
            dsimp only at HS7
            clear ho7 hb7 HC6 HO6 HR7
            go_wp2_with fail
            refine HS7.out.mono ?_
            rintro e w' ⟨rfl, rfl⟩
            clear hcs1 hcs2 HS7
            rcases hcas with hab | ⟨hne, hg⟩ | ⟨hne, hn⟩
            · subst hab
              go_wp2_with fail
              go_ret
              exact ⟨rfl, HC7.out.below⟩
            · have he0 := hcode hg
              subst he0
              have hsne : ¬ (str na).toList = (str nb).toList := by rw [ByteArray.toList_eq, ByteArray.toList_eq, list_str, list_str]; exact hne
              clear hcode hcode2 hne hg
              go_wp2_with fail
              go_ret
              exact ⟨rfl, HC7.out.below⟩
            · have he0 := hcode2 hn
              subst he0
              have hsne : ¬ (str na).toList = (str nb).toList := by rw [ByteArray.toList_eq, ByteArray.toList_eq, list_str, list_str]; exact hne
              have hsn2 : ((str na).toList == (str nb).toList) = false := by rw [cell_eq]; simpa using hne
              have hsn3 : (!(str na).toList == (str nb).toList) = true := by rw [hsn2]; rfl
              obtain ⟨hb1, hb2⟩ := HBK.out hne hn
              have hfa := HFA.out hne
              have HR8 := Lib.hid (read_all HC7.out.ch na hna)
              rw [(rd_none (D := { D with fs := PlainDisk.moved D.fs f na nb }) hfa).1, (rd_none (D := { D with fs := PlainDisk.moved D.fs f na nb }) hfa).2] at HR8
              have HB1 := Lib.hid hb1
              have HB2 := Lib.hid hb2
              have HFF := Lib.hid hf
              clear hcode hcode2 hne hn hb1 hb2 hfa HFA HFB HBK hf
              go_wp2_with fail
              refine HR8.out.mono ?_
              rintro e w8 ⟨A8, c8, rfl, _, hb8⟩
              have HC8 := Lib.hid (HC7.out.next hb8)
              have HO8 := Lib.hid (HO7.out.belows hb8)
              clear hb8 HC7 HO7 HR8
              have HU := Lib.hid (used_ch HC8.out.ch)
              dsimp only at HU
              rw [HB2.out] at HU
              go_wp2_with fail
              refine HU.out.mono ?_
              rintro e w9 ⟨rfl, hb9⟩
              have HC9 := Lib.hid (HC8.out.next hb9)
              have HO9 := Lib.hid (HO8.out.belows hb9)
              clear hb9 HC8 HO8 HU
              have HM2 := Lib.hid (move_cx HC9.out nb na hnb hna)
              rw [HB1.out] at HM2
              dsimp only at HM2
              go_wp2_with fail
              refine HM2.out.mono ?_
              rintro e w10 ⟨rfl, hc10, hk10⟩
              have HC10 := Lib.hid hc10
              have HO10 := Lib.hid (HO9.out.same hk10)
              clear hc10 hk10 HM2 HO9 HC9
              have HR11 := Lib.hid (read_all HC10.out.ch na hna)
              rw [(rd_some HFF.out).1, (rd_some HFF.out).2] at HR11
              go_wp2_with fail
              refine HR11.out.mono ?_
              rintro e w11 ⟨A11, c11, rfl, ho11, hb11⟩
              have HC11 := Lib.hid (HC10.out.next hb11)
              have HO11 := Lib.hid (HO10.out.belows hb11)
              have hcs1 := HO11.out.conv
              have hcs2 := conv_own ho11
              have HS11 := Lib.hid (sure_ch HC11.out.ch na hna)
              rw [sureOf_at HFF.out] at HS11
              clear ho11 hb11 HC10 HO10 HR11
              go_wp2_with fail
              refine HS11.out.mono ?_
              rintro e w' ⟨rfl, rfl⟩
              go_wp2_with fail
              go_ret
              exact ⟨rfl, HC11.out.below⟩
end Go.Proofs.Ytggndipfholllaa
