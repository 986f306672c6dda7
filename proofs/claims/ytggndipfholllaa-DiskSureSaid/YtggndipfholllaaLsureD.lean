import Derived.Test.YtggndipfholllaaLrow
namespace Go.Proofs.Ytggndipfholllaa
open Go.RowKit
open PlainDisk (File Disk)
set_option linter.unusedVariables false

set_option maxHeartbeats 8000000 in
set_option maxRecDepth 100000 in
theorem law_sure_BB (room : Int) (v : Value) (xs : List PlainDisk.Act) (v2 : Value) (ys : List PlainDisk.Act) (w : World) (r0 : -9223372036854775808 ≤ room) (r1 : room ≤ 9223372036854775807) (hx : ActsAt w v xs w.heap.size) (hy : ActsAt w v2 ys w.heap.size) (hx80 : 80 < xs.length) (hy80 : 80 < ys.length) :
    Calls Try.prog 4 #[.int .i64 room, v, v2] w (RetBelow (.bool true) w) := by
  have HX80 := Lib.hid hx80
  have HY80 := Lib.hid hy80
  clear hx80 hy80
  have HAW := Lib.hid (awake_any w)
  obtain ⟨A, c, rfl, l1, l2⟩ := hx.form
  obtain ⟨Ay, cy, rfl, l3, l4⟩ := hy.form
  have HX := Lib.hid hx
  have HY := Lib.hid hy
  clear hx hy
  by_cases hr : room < 0 ∨ 1048576 < room
  · have HN := Lib.hid (fun W => new_no room W r0 r1 hr)
    have hr2 : room < 0 ∨ (0 ≤ room ∧ 1048576 < room) := by omega
    rcases hr2 with hr2 | ⟨hr2, hr3⟩
    all_goals
      go_enter Try.func4, Try.ntmps4
      go_wp2_with fail
      refine HAW.out.mono ?_
      rintro e w1 ⟨rfl, hb1⟩
      go_wp2_with fail
      refine (HN.out _).mono ?_
      rintro e w' ⟨rfl, rfl⟩
      go_wp2_with fail
      go_ret
      exact ⟨rfl, hb1⟩
  · obtain ⟨R, rfl⟩ : ∃ R : Nat, room = (R : Int) := ⟨room.toNat, by omega⟩
    have hR : R ≤ 1048576 := by omega
    have HN := Lib.hid (fun W => new_ch R W hR)
    go_enter Try.func4, Try.ntmps4
    go_wp2_with fail
    refine HAW.out.mono ?_
    rintro e w1 ⟨rfl, hb1⟩
    have HB1 := Lib.hid hb1
    clear hb1
    go_wp2_with fail
    refine (HN.out _).mono ?_
    rintro e w2 ⟨rfl, hch⟩
    have HC0 : Hid (Ch w w2 w1.heap.size (PlainDisk.new R)) := Lib.hid (by
      obtain ⟨⟨S, q1, q2⟩, q3, q4⟩ := hch
      exact ⟨⟨S, q1, fun k hk => ⟨Nat.le_trans HB1.out.size (q2 k hk).1, (q2 k hk).2⟩⟩, HB1.out.trans (q3.mono HB1.out.size), q4⟩)
    clear hch
    generalize w1.heap.size = b at *
    go_wp2_with fail
    go_loopw [8] (fun iV wr => ∃ (i : Nat) (D : Disk), iV = .int .i64 (i : Nat) ∧ i ≤ 80 ∧ Ch w wr b D) (fun iV _ => 80 - (numOf iV).toNat)
    case atStart => exact ⟨0, _, rfl, by omega, HC0.out⟩
    case round =>
      obtain ⟨i, D, rfl, hi, hch⟩ := hrel
      have HC := Lib.hid hch
      clear hch HC0
      by_cases hil : i < xs.length ∧ i < 80
      · obtain ⟨hil, hi80⟩ := hil
        obtain ⟨x, hx⟩ : ∃ x, xs[i]? = some x := ⟨_, List.getElem?_eq_getElem hil⟩
        obtain ⟨k, off, Ab, cb, Al, cl, o⟩ := HX.out.one HC.out.below hx
        have HA := Lib.hid (o.act HC.out)
        obtain ⟨rfl, _, c0, c1, c2, c3, c4, c5, _, _, _⟩ := o
        clear hx
        generalize PlainDisk.step may D x = st at *
        obtain ⟨D2, code⟩ := st
        dsimp only at HA
        go_wp2_with fail
        refine HA.out.mono ?_
        rintro e w3 ⟨rfl, hc3⟩
        have HC3 := Lib.hid hc3
        clear hc3 c0 c1 c2 c3 c4 c5 HC HA
        go_wp2_with fail
        go_roundw
        case rel => exact ⟨i + 1, D2, rfl, by omega, HC3.out⟩
        case measure => simp [numOf]; omega
      · have hil2 : (xs.length : Int) ≤ (i : Int) ∨ ((i : Int) < (xs.length : Int) ∧ (80 : Int) ≤ (i : Int)) := by omega
        have hlen : (D.fs.length : Int) ≤ 64 := by have := HC.out.fine.inv.many; omega
        have h1 : (i : Int) < (xs.length : Int) ∧ (80 : Int) ≤ (i : Int) := by have := HX80.out; omega
        obtain ⟨h1, h2⟩ := h1
        all_goals
          go_wp2_with fail
          refine (files_at HC.out).mono ?_
          rintro e w4 ⟨An, cn, rfl, hn, hb4⟩
          have HC4 := Lib.hid (HC.out.next hb4)
          have HB4 := Lib.hid hb4
          have HN4 := Lib.hid hn
          clear hn hb4
          go_wp2_with fail
          obtain ⟨w0, hw0⟩ : ∃ q, q = wr := ⟨_, rfl⟩
          subst hw0
          have HL0 : Hid (D.fs.length ≤ 1000) := Lib.hid (by omega)
          go_loopw [10, 53] (fun lV jV wr => ∃ (j : Nat) (l : Value) (vs : List Value), l = lV ∧ jV = .int .i64 (j : Nat) ∧ j ≤ D.fs.length ∧ vs.length = j ∧ OwnV wr w4.heap.size l vs ∧ Was wr w0.heap.size ((D.fs.take j).map fun f => f.bytes.take f.sure) vs ∧ Below w4.heap.size w4 wr) (fun _ jV _ => D.fs.length - (numOf jV).toNat)
          case atStart =>
            refine ⟨0, _, [], rfl, rfl, by omega, rfl, ?_, ⟨rfl, fun i l hl => by simp at hl⟩, (Below.refl _ w4).alloc (Nat.le_refl _) _⟩
            exact World.ownsRow_made w4 (base := w4.heap.size) (e := 28) (size := 1) #[] 0 (by simp) (by decide) rfl
          case round =>
            obtain ⟨j, l, vs, rfl, rfl, hj, hvl, hov, hwas, hbq⟩ := hrel
            have HBQ := Lib.hid hbq
            have HCQ := Lib.hid (HC4.out.next hbq)
            have HOV := Lib.hid hov
            have HWS := Lib.hid hwas
            have hnq := HN4.out.belows hbq
            clear hov hwas hbq
            by_cases hjl : j < D.fs.length
            · obtain ⟨f, hf⟩ : ∃ f, D.fs[j]? = some f := ⟨_, List.getElem?_eq_getElem hjl⟩
              have hfm := List.mem_of_getElem? hf
              have HNM := Lib.hid (show (D.fs.map (·.name))[j]? = some f.name by rw [List.getElem?_map, hf]; rfl)
              obtain ⟨gf, hg1, hg2⟩ := hnq.at2 HNM.out
              subst hg1
              have hfind := HCQ.out.find hfm
              have hsh := HCQ.out.short hfm
              have HRD := Lib.hid (read_at HCQ.out hfind hsh)
              have HSU := Lib.hid (fun (W : World) (h : Ch w W b D) => sure_ch h f.name hsh)
              rw [sureOf_at hfind] at HSU
              have hsl := HCQ.out.fine.inv.sure f hfm
              have hsl2 : (f.sure : Int) ≤ (f.bytes.length : Int) := by omega
              have HSL := Lib.hid hsl
              have HTS := Lib.hid (take_sure HCQ.out.fine.inv hfm)
              have HTK : Hid ((D.fs.take (j + 1)).map (fun f => f.bytes.take f.sure) = (D.fs.take j).map (fun f => f.bytes.take f.sure) ++ [f.bytes.take f.sure]) := Lib.hid (by
                rw [List.take_add_one, hf, List.map_append]
                rfl)
              have HNQ := Lib.hid hnq
              have hvl2 : vs.length ≤ 1000 := by omega
              have HVL := Lib.hid hvl2
              clear hf hfm hfind hsl hnq hvl2
              go_wp2_with fail
              refine HRD.out.mono ?_
              rintro e w5 ⟨A5, c5, rfl, ho5, hb5⟩
              have HC5 := Lib.hid (HCQ.out.next hb5)
              obtain ⟨_, _, hsl5, hcap5, hcap6, _⟩ := ho5.slice
              have hcap : f.bytes.length ≤ c5 := by injection hsl5 with _ _ q; subst q; exact hcap5
              have hcap2 : (f.sure : Int) ≤ (c5 : Int) := by omega
              obtain ⟨gf5, hg3, hg4⟩ := (HNQ.out.belows hb5).at2 HNM.out
              injection hg3 with hg3
              injection hg3 with hg3
              subst hg3
              have HBW := Lib.hid (HBQ.out.trans (hb5.mono HBQ.out.size))
              have HOV5 := Lib.hid (HOV.out.belows hb5)
              have HWS5 := Lib.hid (HWS.out.belows hb5)
              have HO5 : Hid (OwnB w5 w0.heap.size (.slice A5 (f.bytes.take f.sure).length c5) (f.bytes.take f.sure)) := Lib.hid (by
                rw [HTS.out]
                exact (ho5.take HSL.out).mono (Nat.le_trans HB4.out.size HBQ.out.size))
              clear ho5 hb5 hsl5 hcap5 hcap6 HOV HWS HCQ HRD
              go_wp2_with fail
              refine (HSU.out _ HC5.out).mono ?_
              rintro e w' ⟨rfl, rfl⟩
              clear HSU
              go_wp2_with (at_builtin; (refine wp_appV rfl (.tmp 79) (.tmp 83) rfl w4.heap.size l vs rfl (World.ownsRow.alloc HOV5.out _) w5.heap.size (.slice A5 f.sure c5) ⟨_, _, _, rfl⟩ rfl ?hk HVL.out ?hbs ?_))
              case hk => first | exact heap_alloc_new w5 _ | exact (Array.getElem?_eq_some_iff.1 (heap_alloc_new w5 _)).2
              case hbs => have := HBW.out.size; simp; omega
              intro v' w6 hown6 hgrow
              have HO6 := Lib.hid hown6
              have HB6 := Lib.hid ((HBW.out.alloc HBW.out.size _).grown hgrow (by have := HBW.out.size; simp; omega) (fun k hk => (HOV5.out.lt k hk).1))
              have HW6 : Hid (Was w6 w0.heap.size ((D.fs.take (j + 1)).map fun f => f.bytes.take f.sure) (vs ++ [.slice A5 f.sure c5])) := Lib.hid (by
                have q := ((HWS5.out.add HO5.out).belows (below_alloc _ _)).grown (World.ownsRow.alloc HOV5.out _) hgrow
                rw [HTS.out] at q
                rw [HTK.out]
                exact q)
              clear hown6 hgrow
              go_wp2_with fail
              go_roundw
              case rel => exact ⟨j + 1, v', vs ++ [.slice A5 f.sure c5], rfl, rfl, by omega, by simp; omega, HO6.out, HW6.out, HB6.out⟩
              case measure => simp [numOf]; omega
            · have hje : j = D.fs.length := by omega
              have HW1 : Hid (Was wr w0.heap.size (D.fs.map fun f => f.bytes.take f.sure) vs) := Lib.hid (by
                have q := HWS.out
                rw [hje, List.take_length] at q
                exact q)
              obtain ⟨Ag, cg, rfl, hv1, hv2⟩ := HOV.out.form
              have HVN : Hid (vs.length = D.fs.length) := Lib.hid (by omega)
              have HCX := Lib.hid (HC.out.hold (HB4.out.trans (HBQ.out.mono HB4.out.size)))
              have HKF : Hid (∀ W, Kp (fun k => w0.heap.size ≤ k ∧ k < wr.heap.size) wr W → OwnS W w0.heap.size (.slice An D.fs.length cn) (D.fs.map (·.name)) ∧ OwnV W w4.heap.size (.slice Ag vs.length cg) vs ∧ Was W w0.heap.size (D.fs.map fun f => f.bytes.take f.sure) vs) := Lib.hid (fun W hk =>
                ⟨own_kp hnq fun k h1 h2 => hk k ⟨h1, h2⟩, own_kp HOV.out fun k h1 h2 => hk k ⟨Nat.le_trans HB4.out.size h1, h2⟩, HW1.out.kp fun k h1 h2 => hk k ⟨h1, h2⟩⟩)
              generalize (fun k => w0.heap.size ≤ k ∧ k < wr.heap.size) = H at *
              clear hnq HOV HWS HW1 HCQ HBQ hje hv1 hvl
              go_wp2_with fail
              obtain ⟨W1, hw1⟩ : ∃ q, q = wr := ⟨_, rfl⟩
              subst hw1
              go_loopw [15] (fun kV wq => ∃ (k : Nat) (D2 : Disk), kV = .int .i64 (k : Nat) ∧ k ≤ 80 ∧ Cx w wq b D2 H ∧ Kp H W1 wq ∧ ∀ f ∈ D.fs, PlainDisk.Has D2 f.name (f.bytes.take f.sure)) (fun kV _ => 80 - (numOf kV).toNat)
              case atStart => exact ⟨0, D, rfl, by omega, HCX.out, fun _ _ => rfl, fun f hf => Has_self HC.out.fine.inv hf⟩
              case round =>
                obtain ⟨k, D2, rfl, hk, hcx, hkp, hhas⟩ := hrel
                have HCX2 := Lib.hid hcx
                have HKP := Lib.hid hkp
                have HHS := Lib.hid hhas
                clear hcx hkp hhas
                by_cases hkl : k < ys.length ∧ k < 80
                · obtain ⟨hkl, hk80⟩ := hkl
                  obtain ⟨y, hy⟩ : ∃ y, ys[k]? = some y := ⟨_, List.getElem?_eq_getElem hkl⟩
                  obtain ⟨ky, off, Ab, cb, Al, cl, o⟩ := HY.out.one HCX2.out.below hy
                  have HA := Lib.hid (o.actx HCX2.out)
                  obtain ⟨rfl, _, c0, c1, c2, c3, c4, c5, ok, _, _⟩ := o
                  have k0 := ok.k0
                  have k1 := ok.k1
                  clear hy ok
                  have hkd : (2 ≤ y.kind ∧ y.kind ≤ 4) ∨ y.kind < 2 ∨ (2 ≤ y.kind ∧ 4 < y.kind) := by omega
                  rcases hkd with ⟨q1, q2⟩ | q1 | ⟨q1, q2⟩
                  · go_wp2_with fail
                    go_roundw
                    case rel => exact ⟨k + 1, D2, rfl, by omega, HCX2.out, HKP.out, HHS.out⟩
                    case measure => simp [numOf]; omega
                  all_goals
                    have HHS3 : Hid (∀ f ∈ D.fs, PlainDisk.Has (PlainDisk.step may D2 y).1 f.name (f.bytes.take f.sure)) := Lib.hid (fun f hf => PlainDisk.has_step HCX2.out.fine.inv (by omega) (HHS.out f hf))
                    generalize PlainDisk.step may D2 y = st at *
                    obtain ⟨D3, code⟩ := st
                    dsimp only at HA HHS3
                    go_wp2_with fail
                    refine HA.out.mono ?_
                    rintro e w6 ⟨rfl, hc6, hk6⟩
                    have HC6 := Lib.hid hc6
                    have HK6 := Lib.hid (HKP.out.trans hk6)
                    clear hc6 hk6 c0 c1 c2 c3 c4 c5 HA HCX2 HKP
                    go_wp2_with fail
                    go_roundw
                    case rel => exact ⟨k + 1, D3, rfl, by omega, HC6.out, HK6.out, HHS3.out⟩
                    case measure => simp [numOf]; omega
                · have hkl2 : (ys.length : Int) ≤ (k : Int) ∨ ((k : Int) < (ys.length : Int) ∧ (80 : Int) ≤ (k : Int)) := by omega
                  have h1 : (k : Int) < (ys.length : Int) ∧ (80 : Int) ≤ (k : Int) := by have := HY80.out; omega
                  obtain ⟨h1, h2⟩ := h1
                  all_goals
                    go_wp2_with fail
                    go_loopw [115] (fun jV wq => ∃ (j : Nat), jV = .int .i64 (j : Nat) ∧ j ≤ D.fs.length ∧ Cx w wq b D2 H ∧ Kp H W1 wq) (fun jV _ => D.fs.length - (numOf jV).toNat)
                    case atStart => exact ⟨0, rfl, by omega, HCX2.out, HKP.out⟩
                    case round =>
                      obtain ⟨j, rfl, hj, hcx, hkp⟩ := hrel
                      have HCX3 := Lib.hid hcx
                      have HKP3 := Lib.hid hkp
                      clear hcx hkp HCX2 HKP
                      by_cases hjl : j < D.fs.length
                      · obtain ⟨f, hf⟩ : ∃ f, D.fs[j]? = some f := ⟨_, List.getElem?_eq_getElem hjl⟩
                        have hfm := List.mem_of_getElem? hf
                        have HNM := Lib.hid (show (D.fs.map (·.name))[j]? = some f.name by rw [List.getElem?_map, hf]; rfl)
                        have HLM := Lib.hid (show (D.fs.map fun f => f.bytes.take f.sure)[j]? = some (f.bytes.take f.sure) by rw [List.getElem?_map, hf]; rfl)
                        have hsh := HC.out.short hfm
                        obtain ⟨f2, h21, h22, h23⟩ := HHS.out f hfm
                        have hs2 := HCX3.out.fine.inv.sure f2 (PlainDisk.find_mem h21)
                        generalize f.bytes.take f.sure = wl at *
                        obtain ⟨x1, x2, x3⟩ := HKF.out _ HKP3.out
                        obtain ⟨gf, hg1, hg2⟩ := x1.at2 HNM.out
                        subst hg1
                        obtain ⟨Aw, cw, y1, y2⟩ := x3.2 j wl HLM.out
                        obtain ⟨gw, hg3, hg4⟩ := x2.at y1
                        subst hg3
                        have HRD := Lib.hid (read_at HCX3.out.ch h21 hsh)
                        have HSU := Lib.hid (fun (W : World) (h : Ch w W b D2) => sure_ch h f.name hsh)
                        rw [sureOf_at h21] at HSU
                        have HL := Lib.hid (show wl.length ≤ f2.bytes.length by omega)
                        have HTK := Lib.hid h23
                        have hle1 : (wl.length : Int) ≤ (f2.bytes.length : Int) := by omega
                        have hle2 : (wl.length : Int) ≤ (f2.sure : Int) := by omega
                        have hjv : j < vs.length := by have := HVN.out; omega
                        clear x1 x2 x3 y1 y2 h21 h22 h23 hs2 hf hfm
                        go_wp2_with fail
                        refine HRD.out.mono ?_
                        rintro e w7 ⟨A7, c7, rfl, ho7, hb7⟩
                        have hb7d : Below wr.heap.size wr w7.drew := hb7.drew
                        have HC7 := Lib.hid (HCX3.out.next hb7d)
                        have HK7 := Lib.hid (HKP3.out.trans (HCX3.out.kp hb7d))
                        obtain ⟨_, _, hsl7, hcap7, hcap8, _⟩ := ho7.slice
                        have hcap : f2.bytes.length ≤ c7 := by injection hsl7 with _ _ q; subst q; exact hcap7
                        have hcap2 : (wl.length : Int) ≤ (c7 : Int) := by omega
                        obtain ⟨x1, x2, x3⟩ := HKF.out _ HK7.out
                        obtain ⟨gf2, hg5, hg6⟩ := x1.at2 HNM.out
                        injection hg5 with hg5
                        injection hg5 with hg5
                        subst hg5
                        obtain ⟨Aw2, cw2, y1, y2⟩ := x3.2 j wl HLM.out
                        obtain ⟨gw2, hg7, hg8⟩ := x2.at y1
                        injection hg7 with hg7
                        injection hg7 with hg7
                        subst hg7
                        have hcs1 := conv_own y2
                        have ho7d : OwnB w7.drew wr.heap.size (.slice A7 f2.bytes.length c7) f2.bytes := ho7
                        have hcs2 := conv_own (ho7d.take HL.out)
                        rw [HTK.out] at hcs2
                        have HSD := Lib.hid (HSU.out _ HC7.out.ch)
                        have HY2 := Lib.hid y2
                        have HO7 := Lib.hid ho7d
                        clear x1 x2 x3 y1 y2 hsl7 hcap7 hcap8 hb7 hb7d ho7 ho7d HRD HCX3 HKP3 HSU
                        have hg6w : w7.cell? ⟨gf, j, none⟩ = some (.string (str f.name)) := hg6
                        have hg8w : w7.cell? ⟨gw, j, none⟩ = some (.slice Aw2 wl.length cw2) := hg8
                        have hcs1w : (convert 28 9 (.slice Aw2 wl.length cw2)).run Try.prog w7 = .ok (.string (str wl)) w7 := conv_own (show OwnB w7 w0.heap.size (.slice Aw2 wl.length cw2) wl from HY2.out)
                        have hcs2w : (convert 28 9 (.slice A7 wl.length c7)).run Try.prog w7 = .ok (.string (str wl)) w7 := by
                          have q := conv_own (show OwnB w7 wr.heap.size (.slice A7 wl.length c7) (f2.bytes.take wl.length) from HO7.out.take HL.out)
                          rw [HTK.out] at q
                          exact q
                        have hsc : Calls Try.prog 17 #[.pointer (some ⟨b, 0, none⟩), .string (str f.name)] w7.drew fun e w'' => e = .returned (.int .i64 (f2.sure : Nat)) ∧ w'' = w7.drew := HSD.out.mono fun _ _ h => ⟨h.1, h.2.symm⟩
                        have HSC := Lib.hid hsc
                        have hdc1 : decide (f2.bytes.length < wl.length) = false := by simp; omega
                        have hdc2 : decide (f2.sure < wl.length) = false := by simp; omega
                        have hcap3 : wl.length ≤ c7 := by omega
                        clear hsc hcs1w hcs2w hg6w hg8w
                        go_wp2_with fail
                        refine wp_region_still_lit (by kernel_rfl) (by kernel_rfl) ?_
                        change wpStill _ _ (World.drew _) _ _ _
                        repeat still_step
                        try simp only [hdc1]
                        repeat still_step
                        still_call HSC.out
                        repeat still_step
                        try simp only [hdc2]
                        repeat still_step
                        refine wpStill_nil ?_
                        change Exit.then _ _ _ _ (World.drew _)
                        clear hcs1 hcs2 hg6 hg8 hdc1
                        go_wp2_with fail
                        go_roundw
                        case rel => exact ⟨j + 1, rfl, by omega, HC7.out, HK7.out⟩
                        case measure => simp [numOf]; omega
                      · go_wp2_with fail
                        go_ret
                        exact ⟨rfl, HCX3.out.below⟩
end Go.Proofs.Ytggndipfholllaa
