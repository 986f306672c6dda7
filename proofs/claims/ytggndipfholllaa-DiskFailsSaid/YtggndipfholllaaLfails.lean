import Derived.Test.YtggndipfholllaaLread
namespace Go.Proofs.Ytggndipfholllaa
open Go.RowKit
open PlainDisk (File Disk)
set_option linter.unusedVariables false

theorem one_any (W : World) : Calls Try.prog 26 #[.int .u8 1] W fun e w' => e = .returned (.slice (some ⟨W.heap.size, 0, none⟩) 1 1) ∧ w' = W.alloc (.cells #[.int .u8 1] 5) := by
  go_enter Try.func26, Try.ntmps26
  go_wp2_with fail
  go_ret
  exact ⟨rfl, rfl⟩
set_option maxHeartbeats 8000000 in
set_option maxRecDepth 100000 in
theorem law_fails (room : Int) (n : Int) (v : Value) (xs : List PlainDisk.Act) (w : World) (r0 : -9223372036854775808 ≤ room) (r1 : room ≤ 9223372036854775807) (n0 : 0 ≤ n) (n1 : n ≤ 255) (hx : ActsAt w v xs w.heap.size) :
    Calls Try.prog 6 #[.int .i64 room, .int .u8 n, v] w (RetBelow (.bool true) w) := by
  have HAW := Lib.hid (awake_any w)
  obtain ⟨A, c, rfl, l1, l2⟩ := hx.form
  have HX := Lib.hid hx
  clear hx
  by_cases hr : room < 0 ∨ 1048576 < room
  · have HN := Lib.hid (fun W => new_no room W r0 r1 hr)
    have hr2 : room < 0 ∨ (0 ≤ room ∧ 1048576 < room) := by omega
    rcases hr2 with hr2 | ⟨hr2, hr3⟩
    all_goals
      go_enter Try.func6, Try.ntmps6
      go_wp2_with fail
      refine HAW.out.mono ?_
      rintro e w1 ⟨rfl, hb1⟩
      go_wp2_with fail
      refine (HN.out _).mono ?_
      rintro e w' ⟨rfl, rfl⟩
      go_wp2_with fail
      refine (HN.out _).mono ?_
      rintro e w' ⟨rfl, rfl⟩
      go_wp2_with fail
      go_ret
      exact ⟨rfl, hb1⟩
  · obtain ⟨R, rfl⟩ : ∃ R : Nat, room = (R : Int) := ⟨room.toNat, by omega⟩
    have hR : R ≤ 1048576 := by omega
    have HN := Lib.hid (fun W => new_ch R W hR)
    go_enter Try.func6, Try.ntmps6
    go_wp2_with fail
    refine HAW.out.mono ?_
    rintro e w1 ⟨rfl, hb1⟩
    have HB1 := Lib.hid hb1
    clear hb1
    go_wp2_with fail
    refine (HN.out _).mono ?_
    rintro e w2 ⟨rfl, hch⟩
    have HC0 : Hid (Ch w w2 w1.heap.size (PlainDisk.new R)) := Lib.hid (by
      obtain ⟨⟨S, q1, q2⟩, q3, q4⟩ := hch
      exact ⟨⟨S, q1, fun k hk => ⟨Nat.le_trans HB1.out.size (q2 k hk).1, (q2 k hk).2⟩⟩, HB1.out.trans (q3.mono HB1.out.size), q4⟩)
    clear hch
    generalize w1.heap.size = b at *
    go_wp2_with fail
    refine (HN.out _).mono ?_
    rintro e w3 ⟨rfl, hch⟩
    have HT0 := Lib.hid (Two.mk HC0.out hch)
    clear hch HC0
    generalize w2.heap.size = b2 at *
    obtain ⟨g, hg⟩ : ∃ g : Nat, n % 80 = (g : Int) := ⟨(n % 80).toNat, by omega⟩
    have hg80 : g < 80 := by omega
    have HAR := Lib.hid (HT0.out.to fun H hc => arm_cx hc (g : Int) (by omega) (by omega))
    have HTW0 : Hid (PlainDisk.Twin (PlainDisk.arm (PlainDisk.new R) (g : Int)) (PlainDisk.new R) ∧ (PlainDisk.arm (PlainDisk.new R) (g : Int)).good = (g : Int)) := Lib.hid (by
      have e : (PlainDisk.arm (PlainDisk.new R) (g : Int)).good = (g : Int) := by unfold PlainDisk.arm; dsimp only; rw [if_neg (by omega)]
      exact ⟨⟨rfl, rfl, rfl, rfl, rfl, by rw [e]; omega⟩, e⟩)
    generalize PlainDisk.arm (PlainDisk.new R) (g : Int) = E1 at *
    generalize PlainDisk.new R = E2 at *
    go_wp2_with fail
    rw [hg]
    refine HAR.out.mono ?_
    rintro e w4 ⟨rfl, ht⟩
    have HT := Lib.hid ht
    clear ht HT0 HAR
    go_wp2_with fail
    go_loopw [10, 11] (fun dV iV wr => ∃ (dn i : Nat) (D1 D2 : Disk), dV = .int .i64 (dn : Nat) ∧ iV = .int .i64 (i : Nat) ∧ i ≤ 80 ∧ Two w wr b D1 b2 D2 ∧ PlainDisk.Twin D1 D2 ∧ (dn : Int) + D1.good = (g : Int)) (fun _ iV _ => 80 - (numOf iV).toNat)
    case atStart => exact ⟨0, 0, E1, E2, rfl, rfl, by omega, HT.out, HTW0.out.1, by rw [HTW0.out.2]; omega⟩
    case round =>
      obtain ⟨dn, i, D1, D2, rfl, rfl, hi, hti, htw, hsum⟩ := hrel
      have HTI := Lib.hid hti
      have HTW := Lib.hid htw
      have HSU := Lib.hid hsum
      have hdg : dn ≤ g := by have := htw.armed; omega
      clear hti htw hsum HT HTW0
      by_cases hil : i < xs.length ∧ i < 80
      · obtain ⟨hil, hi80⟩ := hil
        obtain ⟨x, hx⟩ : ∃ x, xs[i]? = some x := ⟨_, List.getElem?_eq_getElem hil⟩
        obtain ⟨k, off, Ab, cb, Al, cl, o⟩ := HX.out.one HTI.out.below hx
        have HOO := Lib.hid o
        obtain ⟨rfl, _, c0, c1, c2, c3, c4, c5, ok, _, _⟩ := o
        have k0 := ok.k0
        have k1 := ok.k1
        clear hx ok
        have hk : 4 < x.kind ∨ x.kind ≤ 4 := by omega
        rcases hk with hk | hk
        · go_wp2_with fail
          go_roundw
          case rel => exact ⟨dn, i + 1, D1, D2, rfl, rfl, by omega, HTI.out, HTW.out, HSU.out⟩
          case measure => simp [numOf]; omega
        · have HA := Lib.hid (HTI.out.to fun H hc => HOO.out.actx hc)
          have hts := PlainDisk.twin_step (may := may) HTW.out hk
          have HA2 := Lib.hid (fun (W : World) (D3 : Disk) (h : Two w W b D3 b2 D2) => h.swap.to fun H hc => (HOO.out.up HTI.out.below h.below).actx hc)
          unfold PlainDisk.TwinStep at hts
          generalize PlainDisk.step may D1 x = st at *
          obtain ⟨D3, code⟩ := st
          generalize PlainDisk.step may D2 x = st2 at *
          obtain ⟨D4, code2⟩ := st2
          dsimp only at HA hts HA2
          rcases hts with ⟨hg0, rfl, hgone⟩ | ⟨rfl, htw2, hng, hcase⟩
          · have hdn : dn = g := by have := HSU.out; omega
            have HGO := Lib.hid hgone
            go_wp2_with fail
            refine HA.out.mono ?_
            rintro e w5 ⟨rfl, ht5⟩
            have HC5 := Lib.hid ht5.ch
            clear ht5 HA HA2 c0 c1 c2 c3 c4 c5
            have HDN := Lib.hid (down_ch HC5.out)
            rw [hgone] at HDN
            clear hgone
            go_wp2_with fail
            refine HDN.out.mono ?_
            rintro e w' ⟨rfl, rfl⟩
            go_wp2_with fail
            subst hdn
            go_wp2_with fail
            refine (one_any _).mono ?_
            rintro e w' ⟨rfl, rfl⟩
            have HAP := Lib.hid (append_ch (HC5.out.next (below_alloc w5 (.cells #[.int .u8 1] 5))) [97] [1] (.slice (some ⟨w5.heap.size, 0, none⟩) 1 1) (by decide) (src_new w5 [1] _ _ _ rfl HC5.out.lt (by decide)))
            rw [append_gone HGO.out] at HAP
            dsimp only at HAP
            go_wp2_with fail
            refine HAP.out.mono ?_
            rintro e w6 ⟨rfl, hc6⟩
            have HSY := Lib.hid (sync_ch hc6 [97] (by decide))
            rw [sync_gone HGO.out] at HSY
            dsimp only at HSY
            clear hc6 HAP
            go_wp2_with fail
            refine HSY.out.mono ?_
            rintro e w7 ⟨rfl, hc7⟩
            have HDR := Lib.hid (drop_ch hc7 [97] (by decide))
            rw [drop_gone HGO.out] at HDR
            dsimp only at HDR
            clear hc7 HSY
            go_wp2_with fail
            refine HDR.out.mono ?_
            rintro e w8 ⟨rfl, hc8⟩
            have HC8 := Lib.hid hc8
            clear hc8 HDR
            go_wp2_with fail
            go_ret
            exact ⟨rfl, HC8.out.below⟩
          · go_wp2_with fail
            refine HA.out.mono ?_
            rintro e w5 ⟨rfl, ht5⟩
            have HT5 := Lib.hid ht5
            have HDN := Lib.hid (down_ch ht5.ch)
            rw [hng] at HDN
            clear ht5 HA c0 c1 c2 c3 c4 c5
            go_wp2_with fail
            refine HDN.out.mono ?_
            rintro e w' ⟨rfl, rfl⟩
            obtain ⟨_, _, c0, c1, c2, c3, c4, c5, _, _, _⟩ := HOO.out.up HTI.out.below HT5.out.below
            have HB2 := Lib.hid (HA2.out _ _ HT5.out)
            go_wp2_with fail
            refine HB2.out.mono ?_
            rintro e w6 ⟨rfl, ht6⟩
            have HT6 := Lib.hid ht6.swap
            have HTW2 := Lib.hid htw2
            clear ht6 HB2 HDN c0 c1 c2 c3 c4 c5 HA2
            obtain ⟨_, _, c0, c1, c2, c3, c4, c5, _, _, _⟩ := HOO.out.up HTI.out.below HT6.out.below
            rcases hcase with ⟨rfl, hk0, hg1, hgd⟩ | ⟨hno, hgd⟩
            · go_wp2_with fail
              go_roundw
              case rel => exact ⟨dn + 1, i + 1, D3, D4, rfl, rfl, by omega, HT6.out, HTW2.out, by rw [hgd]; have := HSU.out; omega⟩
              case measure => simp [numOf]; omega
            · have hno2 : code ≠ 0 ∨ (code = 0 ∧ x.kind < 0) := by
                by_cases q : code = 0
                · refine .inr ⟨q, ?_⟩
                  by_cases q2 : 0 ≤ x.kind
                  · exact absurd ⟨q, q2⟩ hno
                  · omega
                · exact .inl q
              clear hno
              rcases hno2 with hno | ⟨rfl, hno⟩
              all_goals
                go_wp2_with fail
                go_roundw
                case rel => exact ⟨dn, i + 1, D3, D4, rfl, rfl, by omega, HT6.out, HTW2.out, by rw [hgd]; exact HSU.out⟩
                case measure => simp [numOf]; omega
      · have hil2 : (xs.length : Int) ≤ (i : Int) ∨ ((i : Int) < (xs.length : Int) ∧ (80 : Int) ≤ (i : Int)) := by omega
        have hdg2 : (dn : Int) ≤ (g : Int) := by omega
        rcases hil2 with h1 | ⟨h1, h2⟩
        all_goals
          go_wp2_with fail
          go_ret
          exact ⟨rfl, HTI.out.below⟩
end Go.Proofs.Ytggndipfholllaa
