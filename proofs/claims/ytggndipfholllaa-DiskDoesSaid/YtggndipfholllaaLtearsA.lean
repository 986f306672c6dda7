import Derived.Test.YtggndipfholllaaLrws
import Derived.Test.YtggndipfholllaaLnames
namespace Go.Proofs.Ytggndipfholllaa
open Go.RowKit
open PlainDisk (File Disk)
set_option linter.unusedVariables false

theorem OwnV.free {w : World} {base g n c : Nat} {vs : List Value} (h : OwnV w base (.slice (some ⟨g, 0, none⟩) n c) vs) (j : Nat) : w.frozen? ⟨g, j, none⟩ = false := by
  rcases h.2 with ⟨q, _⟩ | ⟨g1, cap, cur, e, hb, hh, _⟩
  · cases q
  · injection e with e
    injection e with e
    injection e with e
    subst e
    exact Lib.frozen_of_heap hh j
theorem lat_nil {w : World} : LAt w (.slice none 0 0) [] (fun _ => False) := ⟨none, 0, rfl, by simp, by omega, fun x hx => by simp at hx, fun q => absurd rfl q⟩
theorem crash_get (fs : List File) (l : List PlainDisk.Left) {j : Nat} {f : File} (h : fs[j]? = some f) : (PlainDisk.crashL fs l)[j]? = some (PlainDisk.crashF (l[j]?.getD dark) f) := by
  induction fs generalizing l j with
  | nil => simp at h
  | cons g r ih =>
    cases j with
    | zero =>
      have h : g = f := by simpa using h
      subst h
      cases l <;> simp [PlainDisk.crashL, dark]
    | succ j =>
      have h : r[j]? = some f := by simpa using h
      have := ih l.tail h
      simp only [PlainDisk.crashL, List.getElem?_cons_succ]
      rw [this]
      cases l <;> simp
theorem set_new {ls : List (List UInt8)} {F : Nat → Option (List UInt8)} {j i : Nat} {b b0 : List UInt8} (h : ∀ i, i < j → ls[i]? = F i) (hb : F j = some b) (h0 : ls[j]? = some b0) (hi : i < j + 1) : (ls.set j b)[i]? = F i := by
  by_cases e : i = j
  · subst e
    rw [List.getElem?_set_self (List.getElem?_eq_some_iff.1 h0).1, hb]
  · rw [List.getElem?_set_ne (fun q => e q.symm)]
    exact h i (by omega)

set_option maxHeartbeats 8000000 in
set_option maxRecDepth 100000 in
theorem law_tears_A (room : Int) (v : Value) (xs : List PlainDisk.Act) (v2 : Value) (lv : List PlainDisk.Left) (w : World) (r0 : -9223372036854775808 ≤ room) (r1 : room ≤ 9223372036854775807) (hx : ActsAt w v xs w.heap.size) (hy : LAt w v2 lv (fun k => k < w.heap.size)) (hx80 : xs.length ≤ 80) :
    Calls Try.prog 9 #[.int .i64 room, v, v2] w (RetBelow (.bool true) w) := by
  have HX80 := Lib.hid hx80
  clear hx80
  have HAW := Lib.hid (awake_any w)
  obtain ⟨A, c, rfl, l1, l2⟩ := hx.form
  have HX := Lib.hid hx
  have HY := Lib.hid hy
  clear hx hy
  by_cases hr : room < 0 ∨ 1048576 < room
  · have HN := Lib.hid (fun W => new_no room W r0 r1 hr)
    have hr2 : room < 0 ∨ (0 ≤ room ∧ 1048576 < room) := by omega
    rcases hr2 with hr2 | ⟨hr2, hr3⟩
    all_goals
      go_enter Try.func9, Try.ntmps9
      go_wp2_with fail
      refine HAW.out.mono ?_
      rintro e w1 ⟨rfl, hb1⟩
      go_wp2_with fail
      refine (HN.out _).mono ?_
      rintro e w' ⟨rfl, rfl⟩
      go_wp2_with fail
      go_ret
      exact ⟨rfl, hb1⟩
  · obtain ⟨R, rfl⟩ : ∃ R : Nat, room = (R : Int) := ⟨room.toNat, by omega⟩
    have hR : R ≤ 1048576 := by omega
    have HN := Lib.hid (fun W => new_ch R W hR)
    go_enter Try.func9, Try.ntmps9
    go_wp2_with fail
    refine HAW.out.mono ?_
    rintro e w1 ⟨rfl, hb1⟩
    have HB1 := Lib.hid hb1
    clear hb1
    go_wp2_with fail
    refine (HN.out _).mono ?_
    rintro e w2 ⟨rfl, hch⟩
    have HC0 : Hid (Ch w w2 w1.heap.size (PlainDisk.new R)) := Lib.hid (by
      obtain ⟨⟨S, q1, q2⟩, q3, q4⟩ := hch
      exact ⟨⟨S, q1, fun k hk => ⟨Nat.le_trans HB1.out.size (q2 k hk).1, (q2 k hk).2⟩⟩, HB1.out.trans (q3.mono HB1.out.size), q4⟩)
    clear hch
    generalize w1.heap.size = b at *
    go_wp2_with fail
    go_loopw [8] (fun iV wr => ∃ (i : Nat) (D : Disk), iV = .int .i64 (i : Nat) ∧ i ≤ 80 ∧ Ch w wr b D) (fun iV _ => 80 - (numOf iV).toNat)
    case atStart => exact ⟨0, _, rfl, by omega, HC0.out⟩
    case round =>
      obtain ⟨i, D, rfl, hi, hch⟩ := hrel
      have HC := Lib.hid hch
      clear hch HC0
      by_cases hil : i < xs.length ∧ i < 80
      · obtain ⟨hil, hi80⟩ := hil
        obtain ⟨x, hx⟩ : ∃ x, xs[i]? = some x := ⟨_, List.getElem?_eq_getElem hil⟩
        obtain ⟨k, off, Ab, cb, Al, cl, o⟩ := HX.out.one HC.out.below hx
        have HA := Lib.hid (o.act HC.out)
        obtain ⟨rfl, _, c0, c1, c2, c3, c4, c5, _, _, _⟩ := o
        clear hx
        generalize PlainDisk.step may D x = st at *
        obtain ⟨D2, code⟩ := st
        dsimp only at HA
        go_wp2_with fail
        refine HA.out.mono ?_
        rintro e w3 ⟨rfl, hc3⟩
        have HC3 := Lib.hid hc3
        clear hc3 c0 c1 c2 c3 c4 c5 HC HA
        go_wp2_with fail
        go_roundw
        case rel => exact ⟨i + 1, D2, rfl, by omega, HC3.out⟩
        case measure => simp [numOf]; omega
      · have hil2 : (xs.length : Int) ≤ (i : Int) ∨ ((i : Int) < (xs.length : Int) ∧ (80 : Int) ≤ (i : Int)) := by omega
        have hlen : (D.fs.length : Int) ≤ 64 := by have := HC.out.fine.inv.many; omega
        have h1 : (xs.length : Int) ≤ (i : Int) := by have := HX80.out; omega
        all_goals
          go_wp2_with fail
          refine (files_at HC.out).mono ?_
          rintro e w4 ⟨An, cn, rfl, hn, hb4⟩
          have HC4 := Lib.hid (HC.out.next hb4)
          have HB4 := Lib.hid hb4
          have HN4 := Lib.hid hn
          clear hn hb4
          go_wp2_with fail
          obtain ⟨w0, hw0⟩ : ∃ q, q = wr := ⟨_, rfl⟩
          subst hw0
          have HL0 : Hid (D.fs.length ≤ 1000) := Lib.hid (by omega)
          go_loopw [10, 11, 57] (fun lV sV jV wq => ∃ (j : Nat) (l sl : Value) (vs : List Value), l = lV ∧ sl = sV ∧ jV = .int .i64 (j : Nat) ∧ j ≤ D.fs.length ∧ vs.length = j ∧ OwnV wq w4.heap.size l vs ∧ OwnI wq w4.heap.size sl ((D.fs.take j).map (·.sure)) ∧ Was wq w0.heap.size ((D.fs.take j).map (·.bytes)) vs ∧ Below w4.heap.size w4 wq) (fun _ _ jV _ => D.fs.length - (numOf jV).toNat)
          case atStart =>
            refine ⟨0, _, _, [], rfl, rfl, rfl, by omega, rfl, ?_, ?_, ⟨rfl, fun i l hl => by simp at hl⟩, ((Below.refl _ w4).alloc (Nat.le_refl _) _).alloc (by simp) _⟩
            · exact World.ownsRow.alloc (World.ownsRow_made w4 (base := w4.heap.size) (e := 28) (size := 1) #[] 0 (by simp) (by decide) rfl) _
            · have q := own_mono (base' := w4.heap.size) (World.ownsRow_made (w4.alloc (.cells #[] 28)) (base := w4.heap.size + 1) (e := 3) (size := 1) #[] 0 (by simp) (by decide) rfl) (Nat.le_succ _)
              rw [World.size_alloc] at q
              exact q
          case round =>
            obtain ⟨j, l, sl, vs, rfl, rfl, rfl, hj, hvl, hov, hoi, hwas, hbq⟩ := hrel
            have HBQ := Lib.hid hbq
            have HCQ := Lib.hid (HC4.out.next hbq)
            have HOV := Lib.hid hov
            have HOI := Lib.hid hoi
            have HWS := Lib.hid hwas
            have hnq := HN4.out.belows hbq
            have HVJ := Lib.hid hvl
            clear hov hoi hwas hbq hvl
            by_cases hjl : j < D.fs.length
            · obtain ⟨f, hf⟩ : ∃ f, D.fs[j]? = some f := ⟨_, List.getElem?_eq_getElem hjl⟩
              have hfm := List.mem_of_getElem? hf
              have HNM := Lib.hid (show (D.fs.map (·.name))[j]? = some f.name by rw [List.getElem?_map, hf]; rfl)
              obtain ⟨gf, hg1, hg2⟩ := hnq.at2 HNM.out
              subst hg1
              have hfind := HCQ.out.find hfm
              have hsh := HCQ.out.short hfm
              have HRD := Lib.hid (read_at HCQ.out hfind hsh)
              have HSU := Lib.hid (fun (W : World) (h : Ch w W b D) => sure_ch h f.name hsh)
              rw [sureOf_at hfind] at HSU
              have HTK : Hid ((D.fs.take (j + 1)).map (·.bytes) = (D.fs.take j).map (·.bytes) ++ [f.bytes]) := Lib.hid (by rw [List.take_add_one, hf, List.map_append]; rfl)
              have HTS : Hid ((D.fs.take (j + 1)).map (·.sure) = (D.fs.take j).map (·.sure) ++ [f.sure]) := Lib.hid (by rw [List.take_add_one, hf, List.map_append]; rfl)
              have HNQ := Lib.hid hnq
              have HVL := Lib.hid (show vs.length ≤ 1000 by have := HVJ.out; omega)
              have HSLN := Lib.hid (show ((D.fs.take j).map (·.sure)).length ≤ 1000 by rw [List.length_map, List.length_take]; omega)
              clear hf hfm hfind hnq
              go_wp2_with fail
              refine HRD.out.mono ?_
              rintro e w5 ⟨A5, c5, rfl, ho5, hb5⟩
              have HBW := Lib.hid (HBQ.out.trans (hb5.mono HBQ.out.size))
              have HOV5 := Lib.hid (HOV.out.belows hb5)
              have HOI5 : Hid (OwnI w5 w4.heap.size sl ((D.fs.take j).map (·.sure))) := Lib.hid (own_kp HOI.out fun k _ h2 => hb5.block k h2)
              have HWS5 := Lib.hid (HWS.out.belows hb5)
              have HNQ5 := Lib.hid (HNQ.out.belows hb5)
              have HO5 : Hid (OwnB w5 w0.heap.size (.slice A5 f.bytes.length c5) f.bytes) := Lib.hid (ho5.mono (Nat.le_trans HB4.out.size HBQ.out.size))
              clear ho5 hb5 HOV HOI HWS HCQ HRD
              go_wp2_with (at_builtin; (refine wp_appV rfl (.tmp 69) (.tmp 71) rfl w4.heap.size l vs rfl (World.ownsRow.alloc HOV5.out _) w5.heap.size (.slice A5 f.bytes.length c5) ⟨_, _, _, rfl⟩ rfl ?hk HVL.out ?hbs ?_))
              case hk => first | exact heap_alloc_new w5 _ | exact (Array.getElem?_eq_some_iff.1 (heap_alloc_new w5 _)).2
              case hbs => have := HBW.out.size; simp; omega
              intro v' w6 hown6 hgrow
              have HRV : Hid ((w5.alloc (.cells #[.slice A5 f.bytes.length c5] 28)).ownsRow w4.heap.size 28 1 l vs.length vs) := Lib.hid (World.ownsRow.alloc HOV5.out _)
              have HO6 := Lib.hid hown6
              have HB6 := Lib.hid ((HBW.out.alloc HBW.out.size _).grown hgrow (by have := HBW.out.size; simp; omega) (fun k hk => (HOV5.out.lt k hk).1))
              have HI6 : Hid (OwnI w6 w4.heap.size sl ((D.fs.take j).map (·.sure))) := Lib.hid (own_grown (World.ownsRow.alloc HOI5.out _) HRV.out (by decide) hgrow)
              have hn6 : OwnS w6 w0.heap.size (.slice (some ⟨gf, 0, none⟩) D.fs.length cn) (D.fs.map (·.name)) := own_grown (World.ownsRow.alloc HNQ5.out _) HRV.out (by decide) hgrow
              have HW6 : Hid (Was w6 w0.heap.size ((D.fs.take (j + 1)).map (·.bytes)) (vs ++ [.slice A5 f.bytes.length c5])) := Lib.hid (by
                rw [HTK.out]
                exact ((HWS5.out.add HO5.out).belows (below_alloc _ _)).otherGrown HRV.out (by decide) hgrow)
              have HC6 := Lib.hid (HC4.out.next HB6.out)
              obtain ⟨gf5, hg3, hg4⟩ := hn6.at2 HNM.out
              injection hg3 with hg3
              injection hg3 with hg3
              subst hg3
              clear hown6 hgrow hn6 hg2 HOV5 HOI5 HWS5 HRV HNQ HNQ5
              go_wp2_with fail
              refine (HSU.out _ HC6.out).mono ?_
              rintro e w' ⟨rfl, rfl⟩
              clear HSU
              go_wp2_with (at_builtin; (refine wp_appI rfl (.tmp 73) (.tmp 80) rfl w4.heap.size sl _ rfl (World.ownsRow.alloc HI6.out _) w6.heap.size f.sure rfl ?hk HSLN.out ?hbs ?_))
              case hk => first | exact heap_alloc_new w6 _ | exact (Array.getElem?_eq_some_iff.1 (heap_alloc_new w6 _)).2
              case hbs => have := HB6.out.size; simp; omega
              intro v'' w8 hown8 hgrow8
              have HRI : Hid ((w6.alloc (.cells #[.int .i64 (f.sure : Nat)] 3)).ownsRow w4.heap.size 3 1 sl ((D.fs.take j).map (·.sure)).length (iV ((D.fs.take j).map (·.sure)))) := Lib.hid (World.ownsRow.alloc HI6.out _)
              have HI8 : Hid (OwnI w8 w4.heap.size v'' ((D.fs.take (j + 1)).map (·.sure))) := Lib.hid (by rw [HTS.out, List.map_take]; exact hown8)
              have HB8 := Lib.hid ((HB6.out.alloc HB6.out.size _).grown hgrow8 (by have := HB6.out.size; simp; omega) (fun k hk => (HI6.out.lt k hk).1))
              have HO8 : Hid (OwnV w8 w4.heap.size v' (vs ++ [.slice A5 f.bytes.length c5])) := Lib.hid (own_grown (World.ownsRow.alloc HO6.out _) HRI.out (by decide) hgrow8)
              have HW8 : Hid (Was w8 w0.heap.size ((D.fs.take (j + 1)).map (·.bytes)) (vs ++ [.slice A5 f.bytes.length c5])) := Lib.hid ((HW6.out.belows (below_alloc _ _)).otherGrown HRI.out (by decide) hgrow8)
              clear hown8 hgrow8 HRI
              go_wp2_with fail
              go_roundw
              case rel => exact ⟨j + 1, v', v'', vs ++ [.slice A5 f.bytes.length c5], rfl, rfl, rfl, by omega, by have := HVJ.out; simp; omega, HO8.out, HI8.out, HW8.out, HB8.out⟩
              case measure => simp [numOf]; omega
            · have hje : j = D.fs.length := by omega
              have HW1 : Hid (Was wr w0.heap.size (D.fs.map (·.bytes)) vs) := Lib.hid (by
                have q := HWS.out
                rw [hje, List.take_length] at q
                exact q)
              have HI1 : Hid (OwnI wr w4.heap.size sl (D.fs.map (·.sure))) := Lib.hid (by
                have q := HOI.out
                rw [hje, List.take_length] at q
                exact q)
              have HVN : Hid (vs.length = D.fs.length) := Lib.hid (by have := HVJ.out; omega)
              obtain ⟨Ag, cg, rfl, hv1, hv2⟩ := HOV.out.form
              obtain ⟨As, cs, rfl, hs1, hs2⟩ := HI1.out.form
              rw [List.length_map] at HI1 hs1 ⊢
              have HCX := Lib.hid (HC.out.hold (HB4.out.trans (HBQ.out.mono HB4.out.size)))
              have HRW := Lib.hid (Rws.made hnq HOV.out HI1.out HW1.out HB4.out.size)
              have HLV : Hid (LAt wr v2 lv (fun k => k < w.heap.size)) := Lib.hid (HY.out.keep fun k hk => HCX.out.below.block k hk)
              have HCR := Lib.hid (crash_cx HCX.out lv v2 _ HLV.out (fun k hk => hk))
              have HHW : Hid (∀ k, (fun k => w0.heap.size ≤ k ∧ k < wr.heap.size) k → w.heap.size ≤ k) := Lib.hid fun k q => Nat.le_trans HC.out.below.size q.1
              generalize (fun k => w0.heap.size ≤ k ∧ k < wr.heap.size) = H at *
              clear hnq HOV HOI HWS HW1 HI1 HCQ HBQ hje hv1 hs1
              go_wp2_with fail
              refine HCR.out.mono ?_
              rintro e w9 ⟨rfl, hc9, hk9⟩
              have HC9 := Lib.hid hc9
              have HR9 := Lib.hid (HRW.out.kp hk9)
              clear hc9 hk9 HCR HCX HRW
              go_wp2_with fail
              go_loopw [88] (fun jV wq => ∃ (j : Nat) (vs2 : List Value) (ls2 : List (List UInt8)) (H2 : Nat → Prop), jV = .int .i64 (j : Nat) ∧ j ≤ D.fs.length ∧ Cx w wq b (PlainDisk.crash D lv) H2 ∧ Rws wq H2 (.slice An D.fs.length cn) (.slice Ag vs.length cg) (.slice As D.fs.length cs) (D.fs.map (·.name)) vs2 (D.fs.map (·.sure)) ls2 ∧ vs2.length = vs.length ∧ (∀ k, H2 k → w.heap.size ≤ k) ∧ (∀ i, i < j → ls2[i]? = ((PlainDisk.crash D lv).fs[i]?).map (·.bytes)) ∧ ∀ i, j ≤ i → ls2[i]? = (D.fs[i]?).map (·.bytes)) (fun jV _ => D.fs.length - (numOf jV).toNat)
              case atStart => exact ⟨0, vs, _, H, rfl, by omega, HC9.out, HR9.out, rfl, HHW.out, fun i hi => absurd hi (by omega), fun i _ => by rw [List.getElem?_map]⟩
              case round =>
                obtain ⟨j, vs2, ls2, H2, rfl, hj, hcj, hrj, hvl2, hhw2, hnew, hold⟩ := hrel
                have HHW2 := Lib.hid hhw2
                have HCJ := Lib.hid hcj
                have HRJ := Lib.hid hrj
                have HVL2 := Lib.hid hvl2
                have HNW := Lib.hid hnew
                have HOLD := Lib.hid hold
                clear hcj hrj hvl2 hhw2 hnew hold HC9 HR9 HHW
                by_cases hjl : j < D.fs.length
                · obtain ⟨f, hf⟩ : ∃ f, D.fs[j]? = some f := ⟨_, List.getElem?_eq_getElem hjl⟩
                  have hfm := List.mem_of_getElem? hf
                  have hsf := HC.out.fine.inv.sure f hfm
                  have hfind := crash_at HC.out.sorted lv hf
                  obtain ⟨m, ht⟩ := torn_left (lv[j]?.getD dark) f hsf
                  have HT := Lib.hid ht
                  have hsh := HC.out.short hfm
                  have hfl : f.bytes.length ≤ 1048576 := by
                    have q1 := PlainDisk.used_drop HC.out.sorted (PlainDisk.find_of_mem HC.out.sorted hfm)
                    have q2 := HC.out.fine.inv.room
                    have q3 := HC.out.fine.room
                    omega
                  have HNM := Lib.hid (show (D.fs.map (·.name))[j]? = some f.name by rw [List.getElem?_map, hf]; rfl)
                  have HSM := Lib.hid (show (D.fs.map (·.sure))[j]? = some f.sure by rw [List.getElem?_map, hf]; rfl)
                  have HLS : Hid (ls2[j]? = some f.bytes) := Lib.hid (by rw [HOLD.out j (Nat.le_refl _), hf]; rfl)
                  obtain ⟨gf, hg1, hg2⟩ := HRJ.out.n.at2 HNM.out
                  subst hg1
                  obtain ⟨gs, hg3, hg4⟩ := HRJ.out.i.at HSM.out
                  subst hg3
                  obtain ⟨Aw, cw, hv1, hv2, hv3⟩ := HRJ.out.el j f.bytes HLS.out
                  obtain ⟨gw, hg5, hg6⟩ := HRJ.out.v.at hv1
                  subst hg5
                  have HRD := Lib.hid (read_at HCJ.out.ch (D := PlainDisk.crash D lv) hfind hsh)
                  have HSU := Lib.hid (fun (W : World) (h : Ch w W b (PlainDisk.crash D lv)) => sure_ch h f.name hsh)
                  rw [sureOf_at (D := PlainDisk.crash D lv) hfind] at HSU
                  simp only [PlainDisk.crashF] at HRD HSU
                  have HBL : Hid (((PlainDisk.crash D lv).fs[j]?).map (·.bytes) = some (PlainDisk.left (lv[j]?.getD dark) f)) := Lib.hid (by
                    show Option.map (·.bytes) (PlainDisk.crashL D.fs lv)[j]? = _
                    rw [crash_get D.fs lv hf]
                    rfl)
                  generalize PlainDisk.left (lv[j]?.getD dark) f = bl at *
                  have hle1 : bl.length ≤ f.bytes.length := ht.len
                  have hle2 : f.sure ≤ bl.length := Nat.le_trans ht.sure ht.le
                  have hjv : j < vs.length := by have := HVN.out; omega
                  have hd1 : decide (f.bytes.length < bl.length) = false := decide_eq_false (by omega)
                  have hd2 : decide (bl.length < f.sure) = false := decide_eq_false (by omega)
                  clear hv1 hv2 hv3 hf hfm hsf hfind ht hsh
                  go_wp2_with fail
                  refine HRD.out.mono ?_
                  rintro e w10 ⟨A10, c10, rfl, ho10, hb10⟩
                  have HC10 := Lib.hid (HCJ.out.hold hb10)
                  have HR10 := Lib.hid ((HRJ.out.belows hb10).wider (H' := fun k => H2 k ∨ (wr.heap.size ≤ k ∧ k < w10.heap.size)) fun k q => .inl q)
                  have HO10 : Hid (OwnB w10 0 (.slice A10 bl.length c10) bl ∧ In (fun k => H2 k ∨ (wr.heap.size ≤ k ∧ k < w10.heap.size)) (.slice A10 bl.length c10)) := Lib.hid ⟨ho10.zero, fun k q => .inr (ho10.lt k q)⟩
                  have HHW3 : Hid (∀ k, (fun k => H2 k ∨ (wr.heap.size ≤ k ∧ k < w10.heap.size)) k → w.heap.size ≤ k) := Lib.hid fun k q => q.elim (HHW2.out k) fun q => Nat.le_trans HCJ.out.below.size q.1
                  generalize (fun k => H2 k ∨ (wr.heap.size ≤ k ∧ k < w10.heap.size)) = H3 at *
                  clear ho10 hb10 HRD hg2 hg4 hg6 HCJ HRJ
                  obtain ⟨gf2, hg1, hg2⟩ := HR10.out.n.at2 HNM.out
                  injection hg1 with hg1
                  injection hg1 with hg1
                  subst hg1
                  obtain ⟨gs2, hg3, hg4⟩ := HR10.out.i.at HSM.out
                  injection hg3 with hg3
                  injection hg3 with hg3
                  subst hg3
                  obtain ⟨Aw2, cw2, hv1, hv2, hv3⟩ := HR10.out.el j f.bytes HLS.out
                  obtain ⟨gw2, hg5, hg6⟩ := HR10.out.v.at hv1
                  injection hg5 with hg5
                  injection hg5 with hg5
                  subst hg5
                  have HV10 := Lib.hid hv2
                  clear hv1 hv2 hv3
                  go_wp2_with fail
                  refine (HSU.out _ HC10.out.ch).mono ?_
                  rintro e w' ⟨rfl, rfl⟩
                  go_wp2_with fail
                  obtain ⟨w11, hw11⟩ : ∃ q, q = w10 := ⟨_, rfl⟩
                  go_loopw [18] (fun kV wq => ∃ (k : Nat), kV = .int .i64 (k : Nat) ∧ k ≤ bl.length ∧ Below w10.heap.size w10 wq) (fun kV _ => bl.length - (numOf kV).toNat)
                  case atStart => exact ⟨0, rfl, by omega, Below.refl _ _⟩
                  case round =>
                    obtain ⟨k, rfl, hk, hbk⟩ := hrel
                    have HBK := Lib.hid hbk
                    have HRK := Lib.hid (HR10.out.belows hbk.drew)
                    have HOK : Hid (OwnB wr.drew 0 (.slice A10 bl.length c10) bl) := Lib.hid (HO10.out.1.belows hbk.drew)
                    obtain ⟨Aw3, cw3, hv1, hv2, hv3⟩ := HRK.out.el j f.bytes HLS.out
                    obtain ⟨gw3, hg5k, hg6k⟩ := HRK.out.v.at hv1
                    injection hg5k with hg5k
                    injection hg5k with hg5k
                    subst hg5k
                    by_cases hst : k < bl.length ∧ bl[k]? = f.bytes[k]?
                    · obtain ⟨hkl, hxy⟩ := hst
                      obtain ⟨x, hx⟩ : ∃ x, bl[k]? = some x := ⟨_, List.getElem?_eq_getElem hkl⟩
                      have hy : f.bytes[k]? = some x := by rw [← hxy]; exact hx
                      obtain ⟨gb, hb1, hb2⟩ := HOK.out.byteAt hx
                      subst hb1
                      obtain ⟨gy, hy1, hy2⟩ := hv2.byteAt hy
                      subst hy1
                      have hkf : k < f.bytes.length := by omega
                      have hdk : decide (k < bl.length) = true := decide_eq_true hkl
                      clear hbk hv1 hv2 hv3 hx hy hxy
                      go_wp2_with fail
                      go_still (by kernel_rfl)
                      change Exit.then _ _ _ _ (World.drew _)
                      go_wp2_with fail
                      go_roundw
                      case rel => exact ⟨k + 1, rfl, by omega, HBK.out.drew⟩
                      case measure => simp [numOf]; omega
                    · have HMK : Hid (m ≤ k) := Lib.hid (HT.out.count hk (by
                        by_cases q : k = bl.length
                        · exact .inl q
                        · exact .inr fun r => hst ⟨by omega, r⟩))
                      have hw : bl.length ≤ k ∨ (k < bl.length ∧ bl[k]? ≠ f.bytes[k]?) := by
                        by_cases q : k < bl.length
                        · exact .inr ⟨q, fun r => hst ⟨q, r⟩⟩
                        · exact .inl (by omega)
                      clear hst
                      rcases hw with hw | ⟨hkl, hxy⟩
                      · have hdk : decide (k < bl.length) = false := decide_eq_false (by omega)
                        clear hbk hv1 hv2 hv3
                        go_wp2_with fail
                        go_quiet (fail)
                        have HBQ : Hid (Below w10.heap.size w10 (wr.drewN nq)) := Lib.hid (below_drewN HBK.out nq)
                        generalize wr.drewN nq = wz at *
                        clear HBK HRK HOK
                        go_wp2_with fail
                        go_loopw [19] (fun jV wq => ∃ (jj : Nat), jV = .int .i64 (jj : Nat) ∧ k ≤ jj ∧ jj ≤ bl.length ∧ Below w10.heap.size w10 wq) (fun jV _ => bl.length - (numOf jV).toNat)
                        case atStart => exact ⟨k, rfl, Nat.le_refl _, by omega, HBQ.out⟩
                        case round =>
                          obtain ⟨jj, rfl, hkj, hjb, hbj⟩ := hrel
                          have HBJ := Lib.hid hbj
                          have HRJ := Lib.hid (HR10.out.belows hbj)
                          have HOJ := Lib.hid (HO10.out.1.belows hbj)
                          by_cases hjjl : jj < bl.length
                          · obtain ⟨gz, e, q⟩ := HOJ.out.byteAt (HT.out.zero jj (Nat.le_trans HMK.out hkj) hjjl)
                            first
                              | subst e
                              | (injection e with e; injection e with e; subst e)
                            have q0 : wr.cell? ⟨_, jj, none⟩ = some (.int .u8 0) := q
                            clear q hbj
                            go_wp2_with fail
                            go_roundw
                            case rel => exact ⟨jj + 1, rfl, by omega, by omega, HBJ.out⟩
                            case measure => simp [numOf]; omega
                          · obtain ⟨Aw4, cw4, hv1, hv2, hv3⟩ := HRJ.out.el j f.bytes HLS.out
                            obtain ⟨gw4, hg5k, hg6k⟩ := HRJ.out.v.at hv1
                            injection hg5k with hg5k
                            injection hg5k with hg5k
                            subst hg5k
                            obtain ⟨gs4, hg3k, hg4k⟩ := HRJ.out.i.at HSM.out
                            injection hg3k with hg3k
                            injection hg3k with hg3k
                            subst hg3k
                            have hks : decide (k < f.sure) = false := decide_eq_false (by have := HMK.out; have := HT.out.sure; omega)
                            have f0 := HRJ.out.v.free j
                            have hc28 := cells28
                            have HHG : Hid (H3 gw) := Lib.hid (HRJ.out.vH gw rfl)
                            have HCS := Lib.hid ((HC10.out.next HBJ.out).store (o := j) (u := .slice A10 bl.length c10) HHG.out (HHW3.out gw HHG.out))
                            have HRS := Lib.hid (HRJ.out.stored (j := j) HVL2.out.symm HOJ.out HO10.out.2 hjv)
                            have HBL2 := Lib.hid HBL.out
                            clear hv1 hv2 hv3 hbj HC10 HR10 HO10 HRJ HOJ
                            by_cases hkb : k < bl.length
                            · exact absurd hkb (by omega)
                            · have hkb2 : decide (k < bl.length) = false := decide_eq_false hkb
                              go_wp2_with fail
                              go_roundw
                              case rel =>
                                refine ⟨j + 1, vs2.set j _, ls2.set j bl, H3, rfl, by omega, HCS.out, HRS.out, by rw [List.length_set]; exact HVL2.out, HHW3.out, fun i hi => ?_, fun i hi => ?_⟩
                                · exact set_new HNW.out HBL2.out HLS.out hi
                                · rw [List.getElem?_set_ne (by omega)]; exact HOLD.out i (by omega)
                              case measure => simp [numOf]; omega
                      · obtain ⟨x, hx⟩ : ∃ x, bl[k]? = some x := ⟨_, List.getElem?_eq_getElem hkl⟩
                        have hkf : k < f.bytes.length := by omega
                        obtain ⟨y, hy⟩ : ∃ y, f.bytes[k]? = some y := ⟨_, List.getElem?_eq_getElem hkf⟩
                        have hne : ((x.toNat : Int) == (y.toNat : Int)) = false := by
                          simp only [beq_eq_false_iff_ne, ne_eq, Int.ofNat_inj]
                          intro q
                          exact hxy (by rw [hx, hy, UInt8.toNat_inj.1 q])
                        obtain ⟨gb, hb1, hb2⟩ := HOK.out.byteAt hx
                        subst hb1
                        obtain ⟨gy, hy1, hy2⟩ := hv2.byteAt hy
                        subst hy1
                        have hdk : decide (k < bl.length) = true := decide_eq_true hkl
                        clear hbk hv1 hv2 hv3 hx hy hxy
                        go_wp2_with fail
                        go_still (by kernel_rfl)
                        change Exit.then _ _ _ _ (World.drew _)
                        have HBQ : Hid (Below w10.heap.size w10 (World.drew wr)) := Lib.hid HBK.out.drew
                        clear hg6k hb2 hy2
                        generalize World.drew wr = wz at *
                        clear HBK HRK HOK
                        go_wp2_with fail
                        go_loopw [19] (fun jV wq => ∃ (jj : Nat), jV = .int .i64 (jj : Nat) ∧ k ≤ jj ∧ jj ≤ bl.length ∧ Below w10.heap.size w10 wq) (fun jV _ => bl.length - (numOf jV).toNat)
                        case atStart => exact ⟨k, rfl, Nat.le_refl _, by omega, HBQ.out⟩
                        case round =>
                          obtain ⟨jj, rfl, hkj, hjb, hbj⟩ := hrel
                          have HBJ := Lib.hid hbj
                          have HRJ := Lib.hid (HR10.out.belows hbj)
                          have HOJ := Lib.hid (HO10.out.1.belows hbj)
                          by_cases hjjl : jj < bl.length
                          · obtain ⟨gz, e, q⟩ := HOJ.out.byteAt (HT.out.zero jj (Nat.le_trans HMK.out hkj) hjjl)
                            first
                              | subst e
                              | (injection e with e; injection e with e; subst e)
                            have q0 : wr.cell? ⟨_, jj, none⟩ = some (.int .u8 0) := q
                            clear q hbj
                            go_wp2_with fail
                            go_roundw
                            case rel => exact ⟨jj + 1, rfl, by omega, by omega, HBJ.out⟩
                            case measure => simp [numOf]; omega
                          · obtain ⟨Aw4, cw4, hv1, hv2, hv3⟩ := HRJ.out.el j f.bytes HLS.out
                            obtain ⟨gw4, hg5k, hg6k⟩ := HRJ.out.v.at hv1
                            injection hg5k with hg5k
                            injection hg5k with hg5k
                            subst hg5k
                            obtain ⟨gs4, hg3k, hg4k⟩ := HRJ.out.i.at HSM.out
                            injection hg3k with hg3k
                            injection hg3k with hg3k
                            subst hg3k
                            have hks : decide (k < f.sure) = false := decide_eq_false (by have := HMK.out; have := HT.out.sure; omega)
                            have f0 := HRJ.out.v.free j
                            have hc28 := cells28
                            have HHG : Hid (H3 gw) := Lib.hid (HRJ.out.vH gw rfl)
                            have HCS := Lib.hid ((HC10.out.next HBJ.out).store (o := j) (u := .slice (some ⟨gb, 0, none⟩) bl.length c10) HHG.out (HHW3.out gw HHG.out))
                            have HRS := Lib.hid (HRJ.out.stored (j := j) HVL2.out.symm HOJ.out HO10.out.2 hjv)
                            have HBL2 := Lib.hid HBL.out
                            clear hv1 hv2 hv3 hbj HC10 HR10 HO10 HRJ HOJ
                            by_cases hkb : k < bl.length
                            · have hlen2 : ((bl.length : Int) != (f.bytes.length : Int)) = false := by
                                have := HT.out.whole (Nat.lt_of_le_of_lt HMK.out hkb)
                                simp [this]
                              have hkb2 : decide (k < bl.length) = true := decide_eq_true hkb
                              go_wp2_with fail
                              go_roundw
                              case rel =>
                                refine ⟨j + 1, vs2.set j _, ls2.set j bl, H3, rfl, by omega, HCS.out, HRS.out, by rw [List.length_set]; exact HVL2.out, HHW3.out, fun i hi => ?_, fun i hi => ?_⟩
                                · exact set_new HNW.out HBL2.out HLS.out hi
                                · rw [List.getElem?_set_ne (by omega)]; exact HOLD.out i (by omega)
                              case measure => simp [numOf]; omega
                            · exact absurd hkl hkb
                · have hje : j = D.fs.length := by omega
                  have HCN := Lib.hid (crash_cx HCJ.out [] (.slice none 0 0) (fun _ => False) lat_nil (fun k hk => hk.elim))
                  go_wp2_with fail
                  refine HCN.out.mono ?_
                  rintro e w12 ⟨rfl, hc12, hk12⟩
                  have HC12 := Lib.hid hc12
                  have HR12 := Lib.hid (HRJ.out.kp hk12)
                  clear hc12 hk12 HCN HCJ HRJ
                  go_wp2_with fail
                  go_loopw [195] (fun jV wq => ∃ (i3 : Nat), jV = .int .i64 (i3 : Nat) ∧ i3 ≤ D.fs.length ∧ Cx w wq b (PlainDisk.crash (PlainDisk.crash D lv) []) H2 ∧ Rws wq H2 (.slice An D.fs.length cn) (.slice Ag vs.length cg) (.slice As D.fs.length cs) (D.fs.map (·.name)) vs2 (D.fs.map (·.sure)) ls2) (fun jV _ => D.fs.length - (numOf jV).toNat)
                  case atStart => exact ⟨0, rfl, by omega, HC12.out, HR12.out⟩
                  case round =>
                    obtain ⟨i3, rfl, hi3, hc3, hr3⟩ := hrel
                    have HC3 := Lib.hid hc3
                    have HR3 := Lib.hid hr3
                    clear hc3 hr3 HC12 HR12
                    by_cases hil3 : i3 < D.fs.length
                    · obtain ⟨f, hf⟩ : ∃ f, D.fs[i3]? = some f := ⟨_, List.getElem?_eq_getElem hil3⟩
                      have hfm := List.mem_of_getElem? hf
                      have hsh := HC.out.short hfm
                      have hfind := crash_at HC.out.sorted lv hf
                      have hls : ls2[i3]? = some (PlainDisk.left (lv[i3]?.getD dark) f) := by
                        rw [HNW.out i3 (by omega)]
                        show Option.map (·.bytes) (PlainDisk.crashL D.fs lv)[i3]? = _
                        rw [crash_get D.fs lv hf]
                        rfl
                      have HNM := Lib.hid (show (D.fs.map (·.name))[i3]? = some f.name by rw [List.getElem?_map, hf]; rfl)
                      have HRD := Lib.hid (read_at HC3.out.ch (D := PlainDisk.crash (PlainDisk.crash D lv) []) (f := PlainDisk.crashF (lv[i3]?.getD dark) f) (by rw [crash_nil]; exact hfind) hsh)
                      simp only [PlainDisk.crashF] at HRD
                      generalize PlainDisk.left (lv[i3]?.getD dark) f = bl at *
                      have HLS := Lib.hid hls
                      obtain ⟨gf, hg1, hg2⟩ := HR3.out.n.at2 HNM.out
                      subst hg1
                      clear hf hfm hfind hls
                      go_wp2_with fail
                      refine HRD.out.mono ?_
                      rintro e w13 ⟨A13, c13, rfl, ho13, hb13⟩
                      have HC13 := Lib.hid (HC3.out.next hb13)
                      have HR13 := Lib.hid (HR3.out.belows hb13)
                      have HR13d := Lib.hid (HR13.out.belows (Below.refl _ _).drew)
                      obtain ⟨Aw2, cw2, hv1, hv2, hv3⟩ := HR13d.out.el i3 bl HLS.out
                      obtain ⟨gw2, hg5, hg6⟩ := HR13d.out.v.at hv1
                      subst hg5
                      have ho13d := ho13.belows (Below.refl _ _).drew
                      have hcs1 := conv_own ho13d
                      have hcs2 := conv_own hv2
                      have hiv : i3 < vs.length := by have := HVN.out; omega
                      clear ho13 ho13d hb13 HRD hv1 hv2 hv3 hg2 HC3 HR3
                      go_wp2_with fail
                      refine wp_region_still_lit (by kernel_rfl) (by kernel_rfl) ?_
                      change wpStill _ _ (World.drew _) _ _ _
                      repeat still_step
                      refine wpStill_nil ?_
                      change Exit.then _ _ _ _ (World.drew _)
                      go_wp2_with fail
                      go_roundw
                      case rel => exact ⟨i3 + 1, rfl, by omega, HC13.out.next (Below.refl _ _).drew, HR13d.out⟩
                      case measure => simp [numOf]; omega
                    · have HDN := Lib.hid (down_ch HC3.out.ch)
                      rw [show (PlainDisk.crash (PlainDisk.crash D lv) []).gone = false from rfl] at HDN
                      have HFS := Lib.hid (files_at HC3.out.ch)
                      go_wp2_with fail
                      refine HDN.out.mono ?_
                      rintro e w' ⟨rfl, rfl⟩
                      go_wp2_with fail
                      refine HFS.out.mono ?_
                      rintro e w14 ⟨A14, c14, rfl, ho14, hb14⟩
                      have hns : (PlainDisk.crash (PlainDisk.crash D lv) []).fs.map (·.name) = D.fs.map (·.name) := by
                        rw [crash_nil]
                        exact PlainDisk.crashL_names D.fs lv
                      rw [hns] at ho14
                      have HBL3 := Lib.hid (HC3.out.below.trans (hb14.mono HC3.out.below.size))
                      have HSN := Lib.hid (names_same w14 _ _ _ _ _ ho14 (HR3.out.n.belows hb14) (by rw [List.length_map]; omega))
                      clear ho14 hb14 hns HFS HDN
                      go_wp2_with fail
                      refine HSN.out.mono ?_
                      rintro e w15 ⟨rfl, hb15⟩
                      have HB15 := Lib.hid (HBL3.out.trans (hb15.mono HBL3.out.size))
                      clear hb15
                      go_wp2_with fail
                      go_ret
                      exact ⟨rfl, HB15.out⟩
end Go.Proofs.Ytggndipfholllaa
