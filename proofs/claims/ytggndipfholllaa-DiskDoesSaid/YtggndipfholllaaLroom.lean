import Derived.Test.YtggndipfholllaaKn
namespace Go.Proofs.Ytggndipfholllaa
open Go.RowKit
open PlainDisk (File Disk)
set_option linter.unusedVariables false

theorem read_at {w wi : World} {b : Nat} {D : Disk} (h : Ch w wi b D) {nm : List UInt8} {f : File} (hf : PlainDisk.find D.fs nm = some f) (hnm : nm.length ≤ 281474976710656) :
    Calls Try.prog 15 #[.pointer (some ⟨b, 0, none⟩), .string (str nm)] wi fun e w' => ∃ A c, e = .returned (.tuple #[.slice A f.bytes.length c, .int .i64 0]) ∧ OwnB w' wi.heap.size (.slice A f.bytes.length c) f.bytes ∧ Below wi.heap.size wi w' := by
  refine (read_ch h nm hnm).mono ?_
  rintro e w' ⟨hb, hc⟩
  rcases hc with ⟨e1, _⟩ | ⟨g, v, e1, rfl, ho⟩
  · rw [hf] at e1; cases e1
  · rw [hf] at e1
    injection e1 with e1
    subst e1
    obtain ⟨A, c, rfl, _⟩ := ho.slice
    exact ⟨A, c, rfl, ho, hb⟩
theorem read_no {w wi : World} {b : Nat} {D : Disk} (h : Ch w wi b D) {nm : List UInt8} (hf : PlainDisk.find D.fs nm = none) (hnm : nm.length ≤ 281474976710656) :
    Calls Try.prog 15 #[.pointer (some ⟨b, 0, none⟩), .string (str nm)] wi fun e w' => e = .returned (.tuple #[.slice none 0 0, .int .i64 10]) ∧ Below wi.heap.size wi w' := by
  refine (read_ch h nm hnm).mono ?_
  rintro e w' ⟨hb, hc⟩
  rcases hc with ⟨_, rfl⟩ | ⟨g, v, e1, _⟩
  · exact ⟨rfl, hb⟩
  · rw [hf] at e1; cases e1
theorem files_at {w wi : World} {b : Nat} {D : Disk} (h : Ch w wi b D) :
    Calls Try.prog 21 #[.pointer (some ⟨b, 0, none⟩)] wi fun e w' => ∃ A c, e = .returned (.slice A D.fs.length c) ∧ OwnS w' wi.heap.size (.slice A D.fs.length c) (D.fs.map (·.name)) ∧ Below wi.heap.size wi w' := by
  refine (files_ch h).mono ?_
  rintro e w' ⟨v, rfl, ho, hb⟩
  obtain ⟨A, c, rfl, _⟩ := ho.slice
  rw [List.length_map] at *
  exact ⟨A, c, rfl, ho, hb⟩
theorem OwnS.at2 {w : World} {base : Nat} {A : Option Addr} {n c : Nat} {l : List (List UInt8)} (h : OwnS w base (.slice A n c) l) {i : Nat} {nm : List UInt8} (hi : l[i]? = some nm) : ∃ g, A = some ⟨g, 0, none⟩ ∧ w.cell? ⟨g, i, none⟩ = some (.string (str nm)) := by
  obtain ⟨g, c', e, h2⟩ := h.at hi
  injection e with e1
  exact ⟨g, e1, h2⟩
theorem OwnS.belows {w w' : World} {base : Nat} {v : Value} {l : List (List UInt8)} (h : OwnS w base v l) (hb : Below w.heap.size w w') : OwnS w' base v l :=
  h.keep fun k cs hk => hb.block k (Array.getElem?_eq_some_iff.1 hk).1
theorem drop_at {fs : List File} {j : Nat} {f : File} (h : fs[j]? = some f) : PlainDisk.used (fs.drop j) = f.bytes.length + PlainDisk.used (fs.drop (j + 1)) := by
  have hj := (List.getElem?_eq_some_iff.1 h).1
  rw [List.drop_eq_getElem_cons hj, PlainDisk.used_cons]
  have : fs[j] = f := (List.getElem?_eq_some_iff.1 h).2
  rw [this]
set_option maxHeartbeats 8000000 in
set_option maxRecDepth 100000 in
theorem law_room (room : Int) (v : Value) (xs : List PlainDisk.Act) (w : World) (r0 : -9223372036854775808 ≤ room) (r1 : room ≤ 9223372036854775807) (hx : ActsAt w v xs w.heap.size) :
    Calls Try.prog 5 #[.int .i64 room, v] w (RetBelow (.bool true) w) := by
  have HAW := Lib.hid (awake_any w)
  obtain ⟨A, c, rfl, l1, l2⟩ := hx.form
  have HX := Lib.hid hx
  clear hx
  by_cases hr : room < 0 ∨ 1048576 < room
  · have HN := Lib.hid (fun W => new_no room W r0 r1 hr)
    have hr2 : room < 0 ∨ (0 ≤ room ∧ 1048576 < room) := by omega
    rcases hr2 with hr2 | ⟨hr2, hr3⟩
    all_goals
      go_enter Try.func5, Try.ntmps5
      go_wp2_with fail
      refine HAW.out.mono ?_
      rintro e w1 ⟨rfl, hb1⟩
      go_wp2_with fail
      refine (HN.out _).mono ?_
      rintro e w' ⟨rfl, rfl⟩
      go_wp2_with fail
      go_ret
      exact ⟨rfl, hb1⟩
  · obtain ⟨R, rfl⟩ : ∃ R : Nat, room = (R : Int) := ⟨room.toNat, by omega⟩
    have hR : R ≤ 1048576 := by omega
    have HN := Lib.hid (fun W => new_ch R W hR)
    go_enter Try.func5, Try.ntmps5
    go_wp2_with fail
    refine HAW.out.mono ?_
    rintro e w1 ⟨rfl, hb1⟩
    have HB1 := Lib.hid hb1
    clear hb1
    go_wp2_with fail
    refine (HN.out _).mono ?_
    rintro e w2 ⟨rfl, hch⟩
    have HC0 : Hid (Ch w w2 w1.heap.size (PlainDisk.new R)) := Lib.hid (by
      obtain ⟨⟨S, q1, q2⟩, q3, q4⟩ := hch
      exact ⟨⟨S, q1, fun k hk => ⟨Nat.le_trans HB1.out.size (q2 k hk).1, (q2 k hk).2⟩⟩, HB1.out.trans (q3.mono HB1.out.size), q4⟩)
    clear hch
    generalize w1.heap.size = b at *
    go_wp2_with fail
    go_loopw [6] (fun iV wr => ∃ (i : Nat) (D : Disk), iV = .int .i64 (i : Nat) ∧ i ≤ 80 ∧ Ch w wr b D ∧ D.room = R) (fun iV _ => 80 - (numOf iV).toNat)
    case atStart => exact ⟨0, _, rfl, by omega, HC0.out, rfl⟩
    case round =>
      obtain ⟨i, D, rfl, hi, hch, hroom⟩ := hrel
      have HC := Lib.hid hch
      have HRM := Lib.hid hroom
      clear hch hroom HC0
      by_cases hil : i < xs.length ∧ i < 80
      · obtain ⟨hil, hi80⟩ := hil
        obtain ⟨x, hx⟩ : ∃ x, xs[i]? = some x := ⟨_, List.getElem?_eq_getElem hil⟩
        obtain ⟨k, off, Ab, cb, Al, cl, o⟩ := HX.out.one HC.out.below hx
        have HA := Lib.hid (o.act HC.out)
        obtain ⟨rfl, _, c0, c1, c2, c3, c4, c5, _, _, _⟩ := o
        have HRM2 := Lib.hid (show (PlainDisk.step may D x).1.room = R by rw [step_room]; exact HRM.out)
        clear hx
        generalize PlainDisk.step may D x = st at *
        obtain ⟨D2, code⟩ := st
        dsimp only at HA HRM2
        go_wp2_with fail
        refine HA.out.mono ?_
        rintro e w3 ⟨rfl, hc3⟩
        have HC3 := Lib.hid hc3
        clear hc3 c0 c1 c2 c3 c4 c5 HC HA
        go_wp2_with fail
        refine (files_at HC3.out).mono ?_
        rintro e w4 ⟨An, cn, rfl, hn, hb4⟩
        have HC4 := Lib.hid (HC3.out.next hb4)
        have HN4 := Lib.hid hn.zero
        clear hn hb4
        have HF := Lib.hid HC3.out.fine
        have HU : Hid (PlainDisk.used D2.fs ≤ R ∧ D2.fs.length ≤ 64) := Lib.hid ⟨by rw [← HRM2.out]; exact HF.out.inv.room, HF.out.inv.many⟩
        have hlen : (D2.fs.length : Int) ≤ 64 := by have := HU.out.2; omega
        go_wp2_with fail
        go_loopw [7, 43] (fun nV jV wr => ∃ (j n : Nat), nV = .int .i64 (n : Nat) ∧ jV = .int .i64 (j : Nat) ∧ j ≤ D2.fs.length ∧ n + PlainDisk.used (D2.fs.drop j) = PlainDisk.used D2.fs ∧ Ch w wr b D2 ∧ OwnS wr 0 (.slice An D2.fs.length cn) (D2.fs.map (·.name))) (fun _ jV _ => D2.fs.length - (numOf jV).toNat)
        case atStart => exact ⟨0, 0, rfl, rfl, by omega, by rw [List.drop_zero]; omega, HC4.out, HN4.out⟩
        case round =>
          obtain ⟨j, n, rfl, rfl, hj, hsum, hcj, hnj⟩ := hrel
          have HCJ := Lib.hid hcj
          have HNJ := Lib.hid hnj
          have HSM := Lib.hid hsum
          clear hcj hnj hsum HC4 HN4
          by_cases hjl : j < D2.fs.length
          · obtain ⟨f, hf⟩ : ∃ f, D2.fs[j]? = some f := ⟨_, List.getElem?_eq_getElem hjl⟩
            have hfm := List.mem_of_getElem? hf
            obtain ⟨g, hg1, hg2⟩ := HNJ.out.at2 (show (D2.fs.map (·.name))[j]? = some f.name by rw [List.getElem?_map, hf]; rfl)
            subst hg1
            have hfind := HCJ.out.find hfm
            have hsh := HCJ.out.short hfm
            have HRD := Lib.hid (read_at HCJ.out hfind hsh)
            have HMY := Lib.hid (fun W => refMay_str f.name W hsh)
            have hmy := HF.out.inv.names f hfm
            rw [hmy] at HMY
            have hda := drop_at hf
            have HSN : Hid (n + f.bytes.length + PlainDisk.used (D2.fs.drop (j + 1)) = PlainDisk.used D2.fs) := Lib.hid (by have := HSM.out; omega)
            have hb1 : (n : Int) + (f.bytes.length : Int) ≤ 1048576 := by have := HSN.out; have := HU.out.1; omega
            have hsu := HF.out.inv.sure f hfm
            have hsu2 : (f.sure : Int) ≤ (f.bytes.length : Int) := by omega
            have HSU := Lib.hid (fun (W : World) (h : Ch w W b D2) => sure_ch h f.name hsh)
            rw [sureOf_at hfind] at HSU
            clear hda hsu hmy hfind hf hfm
            go_wp2_with fail
            refine HRD.out.mono ?_
            rintro e w5 ⟨A5, c5, rfl, _, hb5⟩
            have HC5 := Lib.hid (HCJ.out.next hb5)
            have HN5 := Lib.hid (HNJ.out.belows hb5)
            clear hb5
            go_wp2_with fail
            refine (HMY.out _).mono ?_
            rintro e w' ⟨rfl, rfl⟩
            go_wp2_with fail
            refine (HSU.out _ HC5.out).mono ?_
            rintro e w' ⟨rfl, rfl⟩
            go_wp2_with fail
            refine (HSU.out _ HC5.out).mono ?_
            rintro e w' ⟨rfl, rfl⟩
            go_wp2_with fail
            go_roundw
            case rel => exact ⟨j + 1, n + f.bytes.length, rfl, rfl, by omega, HSN.out, HC5.out, HN5.out⟩
            case measure => simp [numOf]; omega
          · have hje : j = D2.fs.length := by omega
            have hnu : n = PlainDisk.used D2.fs := by
              have := HSM.out
              rw [hje, List.drop_length] at this
              simpa [PlainDisk.used] using this
            have HUS := Lib.hid (used_ch HCJ.out)
            rw [← hnu] at HUS
            have hnR : (n : Int) ≤ (R : Int) := by have := HU.out.1; omega
            clear hje hnu HSM
            go_wp2_with fail
            refine HUS.out.mono ?_
            rintro e w6 ⟨rfl, hb6⟩
            have HC6 := Lib.hid (HCJ.out.next hb6)
            clear hb6
            go_wp2_with fail
            refine (files_at HC6.out).mono ?_
            rintro e w7 ⟨A7, c7, rfl, _, hb7⟩
            have HC7 := Lib.hid (HC6.out.next hb7)
            clear hb7
            go_wp2_with fail
            go_roundw
            case rel => exact ⟨i + 1, D2, rfl, by omega, HC7.out, HRM2.out⟩
            case measure => simp [numOf]; omega
      · have hil2 : (xs.length : Int) ≤ (i : Int) ∨ ((i : Int) < (xs.length : Int) ∧ (80 : Int) ≤ (i : Int)) := by omega
        rcases hil2 with h1 | ⟨h1, h2⟩
        all_goals
          go_wp2_with fail
          go_ret
          exact ⟨rfl, HC.out.below⟩
end Go.Proofs.Ytggndipfholllaa
