import Derived.Test.YtjcikhacekmcfaaGreatDoorKj
import Derived.IntWalk
import Derived.Lib.SliceRun
namespace Go.Proofs.YtjcikhacekmcfaaGreatDoor
set_option maxRecDepth 20000
open Go.RowKit
open PlainDisk (File Disk Left)
set_option linter.unusedVariables false
theorem wrap_room (a b : Nat) (ha : a ≤ 1048576) (hb : b ≤ 1048576) : IntKind.i64.wrap ((a : Int) - (b : Int)) = (a : Int) - (b : Int) := by
  exact IntWalk.i64_in _ (by omega)

set_option maxHeartbeats 2000000 in
set_option maxRecDepth 100000 in
theorem append_full (b : Nat) (nm bs : List UInt8) (vb : Value) (D : Disk) (S : Nat → Prop) (w : World) (hd : DiskIs w b D S) (hF : Fine D) (hnm : nm.length ≤ 281474976710656) (hB : Src w vb bs b)
    (hbar : barCode D.gone nm = 0) (hmany : ¬ (PlainDisk.find D.fs nm = none ∧ 64 ≤ D.fs.length)) (hfull : D.room < PlainDisk.used D.fs + bs.length) :
    Calls Tryz.prog 25 #[.pointer (some ⟨b, 0, none⟩), .string (str nm), vb] w fun e w' => e = .returned (.int .i64 (PlainDisk.append may D nm bs).2) ∧ DiskTo w w' b (PlainDisk.append may D nm bs).1 S := by
  have hB0 := hB
  have HD := Lib.hid hd
  obtain ⟨mv, ar, lf, ps, hb, hS, hfs, har, hfl⟩ := hd
  have C0 := Lib.hid (check_any nm hb hnm)
  rw [hbar] at C0
  rw [append_good hbar, if_neg hmany]
  have hblt : b < w.heap.size := (Array.getElem?_eq_some_iff.1 hb).1
  have HAT := Lib.hid (show At w w b mv D.gone ar lf D.room ps S from ⟨hb, hfl, Fr.refl S w⟩)
  have hcl : ps.length ≤ 1000 := by have := hF.inv.many; rw [hfs, List.length_map] at this; omega
  obtain ⟨f1, f2⟩ := fileAt_len hF hfs nm
  have hroom := hF.room
  have hused := hF.inv.room
  have hsrt := hF.inv.sorted
  obtain ⟨A, c, hA, k1, k2, k3⟩ := (fileAt_own hfl nm).slice
  have HLK := Lib.hid (fun (W : World) (h : At w W b mv D.gone ar lf D.room ps S) => look_at h hnm)
  rw [valOf, hA] at HLK
  have HUS := Lib.hid (fun (W : World) (h : At w W b mv D.gone ar lf D.room ps S) => used_at h (by rw [← hfs]; exact hsrt) (by rw [← hfs]; omega))
  rw [← hfs] at HUS
  have HFL := Lib.hid (fileAt_own hfl nm)
  have hfn := fileAt_name ps nm
  have hff := fun x => fileAt_fs (ps := ps) (by rw [← hfs]; exact hsrt) nm x
  rw [← hfs] at hff
  have hfm := fileAt_mine hfl nm
  have hfa := fileAt_apart hfl nm
  obtain ⟨Ab, cb, rfl, j1, j2, j3⟩ := hB0.lies
  generalize hFV : fileAt ps nm = P at *
  generalize hUU : PlainDisk.used D.fs = U at *
  have hcase : (findV ps nm).isSome = true ∨ ((findV ps nm).isSome = false ∧ (ps.length : Int) < 64) := by
    have e := findV_fst ps nm
    rw [← hfs] at e
    cases h : findV ps nm with
    | some p => exact .inl rfl
    | none =>
      rw [h] at e
      refine .inr ⟨rfl, ?_⟩
      have : ¬ 64 ≤ D.fs.length := fun q => hmany ⟨e.symm, q⟩
      rw [hfs, List.length_map] at this
      omega
  rw [if_pos hfull]
  have hfull2 : (D.room : Int) - (U : Int) < (bs.length : Int) := by omega
  dsimp only
  rcases hcase with hfd | ⟨hfd, h64⟩
  all_goals
    rw [hfd] at HLK
    clear hb hfl hfs hfd hfull hff hfm hfa hmany f1 f2 hA k3 j3 hsrt hFV hUU
    go_enter Tryz.func25, Tryz.ntmps25
    go_wp2_with fail
    refine C0.out.mono ?_
    rintro e w1 ⟨rfl, hb1⟩
    have HB1 := Lib.hid hb1
    have HX : Hid (Below w1.heap.size w1 (w1.alloc (.cells #[.slice A P.1.bytes.length c, .int .i64 (P.1.sure : Nat)] 100))) := Lib.hid ((Below.refl _ w1).alloc (Nat.le_refl _) _)
    have hat := HAT.out.below hb1
    have c1 : w1.cell? ⟨b, 1, none⟩ = some (.map mv) := by rw [Lib.cell_of_heap hat.cells]; rfl
    have hlk := HLK.out w1 hat
    have hat2 := hat.alloc (.cells #[.slice A P.1.bytes.length c, .int .i64 (P.1.sure : Nat)] 100)
    have c12 : (w1.alloc (.cells #[.slice A P.1.bytes.length c, .int .i64 (P.1.sure : Nat)] 100)).cell? ⟨b, 1, none⟩ = some (.map mv) := by rw [Lib.cell_of_heap hat2.cells]; rfl
    have hln := fun ty => files_len hat2.files.maps ty
    have HBX := Lib.hid (heap_alloc_new w1 (.cells #[.slice A P.1.bytes.length c, .int .i64 (P.1.sure : Nat)] 100))
    have hz1 : w.heap.size ≤ w1.heap.size := hb1.size
    have HB2 : Hid (Below w.heap.size w (w1.alloc (.cells #[.slice A P.1.bytes.length c, .int .i64 (P.1.sure : Nat)] 100))) := Lib.hid (hb1.alloc hb1.size _)
    have HZ2 : Hid ((w1.alloc (.cells #[.slice A P.1.bytes.length c, .int .i64 (P.1.sure : Nat)] 100)).heap.size = w1.heap.size + 1) := Lib.hid (by simp)
    have HAT2 := Lib.hid hat2
    clear hb1 hat hat2
    go_wp2_with fail
    generalize (w1.alloc (.cells #[.slice A P.1.bytes.length c, .int .i64 (P.1.sure : Nat)] 100)) = W0 at *
    clear hln c12 hlk c1
    have e1 : W0.drew.cell? ⟨b, 0, none⟩ = some (.int .i64 (D.room : Nat)) := Eq.trans (Lib.cell_of_heap HAT2.out.drew.cells _) rfl
    have CU := Lib.hid (fun (W : World) (h : Below W0.heap.size W0 W) => HUS.out W (HAT2.out.below h))
    have KS := Lib.hid (fun (W : World) (h : Below W0.heap.size W0 W) => (Eq.trans (Lib.cell_of_heap (HAT2.out.below h).cells _) rfl : W.cell? ⟨b, 0, none⟩ = some (.int .i64 (D.room : Nat))))
    have D0 : Hid (Below W0.heap.size W0 W0.drew) := Lib.hid (Below.refl _ W0).drew
    have hwr := wrap_room D.room U (by omega) (by omega)
    go_region_held3 (fun W => W.cell? ⟨b, 0, none⟩ = some (.int .i64 (D.room : Nat))) (first | exact e1 | exact g1)
      ((go_at_call 53; (with_reducible refine (CU.out _ D0.out).mono ?_); rintro e w8 ⟨rfl, hb8⟩; have B8 : Hid (Below W0.heap.size W0 w8) := Lib.hid (D0.out.trans hb8); clear hb8; have g1 := KS.out _ B8.out))
    all_goals
      go_wp2_with fail
      go_ret
      exact ⟨rfl, (HD.out.stays.andBelow HB1.out).andBelow ((show Below w1.heap.size w1 W0 from ⟨HX.out.os, HX.out.tape, HX.out.output, HX.out.size, HX.out.block⟩).trans (B8.out.mono (by have := HZ2.out; omega)))⟩
end Go.Proofs.YtjcikhacekmcfaaGreatDoor
namespace Go.Proofs.YtjcikhacekmcfaaGreatDoor
set_option maxRecDepth 20000
open Go.RowKit
open PlainDisk (File Disk Left)
set_option linter.unusedVariables false
def LenIs (l : List UInt8) (n : Nat) : Prop := l.length = n
theorem lies_take {w : World} {A : Option Addr} {c : Nat} {bs : List UInt8} (h : Lies w A c bs) (k : Nat) : Lies w A c (bs.take k) := by
  refine ⟨h.1, fun hne => ?_⟩
  obtain ⟨b', off, q1, q2⟩ := h.2 (fun e => hne (by rw [e]; simp))
  refine ⟨b', off, q1, fun j u hu => q2 j u ?_⟩
  rw [List.getElem?_take] at hu
  split at hu
  · exact hu
  · cases hu

set_option maxHeartbeats 4000000 in
set_option maxRecDepth 100000 in
theorem append_ok (b : Nat) (nm bs : List UInt8) (vb : Value) (D : Disk) (S : Nat → Prop) (w : World) (hd : DiskIs w b D S) (hF : Fine D) (hnm : nm.length ≤ 281474976710656) (hB : Src w vb bs b)
    (hbar : barCode D.gone nm = 0) (hmany : ¬ (PlainDisk.find D.fs nm = none ∧ 64 ≤ D.fs.length)) (hfull : ¬ D.room < PlainDisk.used D.fs + bs.length) (h0 : ¬ D.good = 0) :
    Calls Tryz.prog 25 #[.pointer (some ⟨b, 0, none⟩), .string (str nm), vb] w fun e w' => e = .returned (.int .i64 (PlainDisk.append may D nm bs).2) ∧ DiskTo w w' b (PlainDisk.append may D nm bs).1 S := by
  have hB0 := hB
  have HD := Lib.hid hd
  obtain ⟨mv, ar, lf, ps, hb, hS, hfs, har, hfl⟩ := hd
  have C0 := Lib.hid (check_any nm hb hnm)
  rw [hbar] at C0
  rw [append_good hbar, if_neg hmany]
  have hblt : b < w.heap.size := (Array.getElem?_eq_some_iff.1 hb).1
  have HAT := Lib.hid (show At w w b mv D.gone ar lf D.room ps S from ⟨hb, hfl, Fr.refl S w⟩)
  have hcl : ps.length ≤ 1000 := by have := hF.inv.many; rw [hfs, List.length_map] at this; omega
  obtain ⟨f1, f2⟩ := fileAt_len hF hfs nm
  have hroom := hF.room
  have hused := hF.inv.room
  have hsrt := hF.inv.sorted
  obtain ⟨A, c, hA, k1, k2, k3⟩ := (fileAt_own hfl nm).slice
  have HLK := Lib.hid (fun (W : World) (h : At w W b mv D.gone ar lf D.room ps S) => look_at h hnm)
  rw [valOf, hA] at HLK
  have HUS := Lib.hid (fun (W : World) (h : At w W b mv D.gone ar lf D.room ps S) => used_at h (by rw [← hfs]; exact hsrt) (by rw [← hfs]; omega))
  rw [← hfs] at HUS
  have HFL := Lib.hid (fileAt_own hfl nm)
  have hfn := fileAt_name ps nm
  have hff := fun x => fileAt_fs (ps := ps) (by rw [← hfs]; exact hsrt) nm x
  rw [← hfs] at hff
  have hfm := fileAt_mine hfl nm
  have hfa := fileAt_apart hfl nm
  have HFO := Lib.hid (fun (W : World) (h : FilesAt W mv ps S) => fileAt_own h nm)
  obtain ⟨Ab, cb, rfl, j1, j2, j3⟩ := hB0.lies
  have HBA := Lib.hid hB
  generalize hFV : fileAt ps nm = P at *
  generalize hUU : PlainDisk.used D.fs = U at *
  rw [hA] at HFO hfm hfa
  subst hfn
  have hcase : (findV ps P.1.name).isSome = true ∨ ((findV ps P.1.name).isSome = false ∧ (ps.length : Int) < 64) := by
    have e := findV_fst ps P.1.name
    rw [← hfs] at e
    cases h : findV ps P.1.name with
    | some p => exact .inl rfl
    | none =>
      rw [h] at e
      refine .inr ⟨rfl, ?_⟩
      have : ¬ 64 ≤ D.fs.length := fun q => hmany ⟨e.symm, q⟩
      rw [hfs, List.length_map] at this
      omega
  rw [if_neg hfull]
  unfold PlainDisk.write
  rw [if_neg h0]
  have HXL : Hid (LenIs bs bs.length) := Lib.hid rfl
  have hfull2 : (bs.length : Int) ≤ (D.room : Int) - (U : Int) := by omega
  have hln1 : P.1.bytes.length + bs.length ≤ 1048576 := by omega
  have HW := Lib.hid (fun (W : World) (h : At w W b mv D.gone ar lf D.room ps S) => write_at h hS har hF.good)
  simp only [h0, if_false] at HW
  have HSB := Lib.hid hS
  have HT := Lib.hid (fun (W w' : World) (v : Value) (S' : Nat → Prop) (h : AtB w W b mv D.gone ar (lfOf ar lf) D.room ps S' P.1.name) (hS' : S' b) (hu : ∀ k, S' k → Up S w W k) (hv : OwnB W 0 v (P.1.bytes ++ (bs))) (hmine : ∀ g, v.ownBlock = some g → S' g) (hap : ∀ q ∈ ps, q.1.name ≠ P.1.name → v.ownBlock = none ∨ v.ownBlock ≠ q.2.ownBlock) hput =>
    AtB.put (f := PlainDisk.grow (bs) P.1) (D' := { D with fs := PlainDisk.upd (PlainDisk.made D.fs P.1.name) P.1.name (PlainDisk.grow bs), good := if 0 < D.good then D.good - 1 else D.good }) (w' := w') (v := v) h hS' hu hput hv hmine hap rfl rfl (armed_next har h0) (by rw [← hfs]; exact (hff _).symm))
  have HP := Lib.hid (fun (W : World) (S' : Nat → Prop) (h : AtB w W b mv D.gone ar (lfOf ar lf) D.room ps S' P.1.name) (A' : Option Addr) (c' n' : Nat) => put_files (nm := P.1.name) (PlainDisk.grow (bs) P.1, .slice A' n' c') rfl rfl h.cells h.files.maps hnm hcl)
  have hsu : (PlainDisk.grow (bs) P.1).sure = P.1.sure := rfl
  simp only [hsu] at HP
  dsimp only
  generalize ({ D with fs := PlainDisk.upd (PlainDisk.made D.fs P.1.name) P.1.name (PlainDisk.grow bs), good := if 0 < D.good then D.good - 1 else D.good } : Disk) = D' at *
  rcases hcase with hfd | ⟨hfd, h64⟩
  all_goals
    rw [hfd] at HLK
    clear hb hfl hfs hfd hfull hff hmany f1 f2 hA k3 j3 hsrt hFV hUU hsu
    go_enter Tryz.func25, Tryz.ntmps25
    go_wp2_with fail
    refine C0.out.mono ?_
    rintro e w1 ⟨rfl, hb1⟩
    have HB1 := Lib.hid hb1
    have hat := HAT.out.below hb1
    have c1 : w1.cell? ⟨b, 1, none⟩ = some (.map mv) := by rw [Lib.cell_of_heap hat.cells]; rfl
    have hlk := HLK.out w1 hat
    have hat2 := hat.alloc (.cells #[.slice A P.1.bytes.length c, .int .i64 (P.1.sure : Nat)] 100)
    have c12 : (w1.alloc (.cells #[.slice A P.1.bytes.length c, .int .i64 (P.1.sure : Nat)] 100)).cell? ⟨b, 1, none⟩ = some (.map mv) := by rw [Lib.cell_of_heap hat2.cells]; rfl
    have hln := fun ty => files_len hat2.files.maps ty
    have HBX := Lib.hid (heap_alloc_new w1 (.cells #[.slice A P.1.bytes.length c, .int .i64 (P.1.sure : Nat)] 100))
    have hz1 : w.heap.size ≤ w1.heap.size := hb1.size
    have HB2 : Hid (Below w.heap.size w (w1.alloc (.cells #[.slice A P.1.bytes.length c, .int .i64 (P.1.sure : Nat)] 100))) := Lib.hid (hb1.alloc hb1.size _)
    have HZ2 : Hid ((w1.alloc (.cells #[.slice A P.1.bytes.length c, .int .i64 (P.1.sure : Nat)] 100)).heap.size = w1.heap.size + 1) := Lib.hid (by simp)
    have HAT2 := Lib.hid hat2
    clear hb1 hat hat2
    go_wp2_with fail
    generalize (w1.alloc (.cells #[.slice A P.1.bytes.length c, .int .i64 (P.1.sure : Nat)] 100)) = W0 at *
    clear hln c12 hlk c1
    have e1 : W0.drew.cell? ⟨b, 0, none⟩ = some (.int .i64 (D.room : Nat)) := Eq.trans (Lib.cell_of_heap HAT2.out.drew.cells _) rfl
    have CU := Lib.hid (fun (W : World) (h : Below W0.heap.size W0 W) => HUS.out W (HAT2.out.below h))
    have KS := Lib.hid (fun (W : World) (h : Below W0.heap.size W0 W) => (Eq.trans (Lib.cell_of_heap (HAT2.out.below h).cells _) rfl : W.cell? ⟨b, 0, none⟩ = some (.int .i64 (D.room : Nat))))
    have D0 : Hid (Below W0.heap.size W0 W0.drew) := Lib.hid (Below.refl _ W0).drew
    have hwr := wrap_room D.room U (by omega) (by omega)
    go_region_held3 (fun W => W.cell? ⟨b, 0, none⟩ = some (.int .i64 (D.room : Nat))) (first | exact e1 | exact g1)
      ((go_at_call 53; (with_reducible refine (CU.out _ D0.out).mono ?_); rintro e w8 ⟨rfl, hb8⟩; have B8 : Hid (Below W0.heap.size W0 w8) := Lib.hid (D0.out.trans hb8); clear hb8; have g1 := KS.out _ B8.out))
    all_goals
      go_wp2_with fail
      refine (HW.out _ (HAT2.out.below B8.out)).mono ?_
      rintro e w9 ⟨rfl, hw9, hat9⟩
      have hbox : w9.heap[w1.heap.size]? = some (.cells #[.slice A P.1.bytes.length c, .int .i64 (P.1.sure : Nat)] 100 (0, 0)) := by
        rw [hw9, armedW_other _ _ _ _ _ (by omega)]
        exact (B8.out.block _ (by have := HZ2.out; omega)).trans HBX.out
      have hba9 : Src w9 (.slice Ab bs.length cb) bs b := HBA.out.keep fun k hk hkb => by
        rw [hw9, armedW_other _ _ _ _ _ hkb, B8.out.block k (by have := HB2.out.size; omega)]
        exact HB2.out.block k hk
      obtain ⟨Ab', cb', eb, _, _, hl9⟩ := hba9.lies
      obtain ⟨rfl, rfl⟩ : Ab = Ab' ∧ cb = cb' := by injection eb with q1 q2 q3; exact ⟨q1, q3⟩
      have HL9 := Lib.hid (hl9)
      have HO9 := Lib.hid (HFO.out w9 hat9.files)
      have HA9 := Lib.hid hat9
      have a0 : w9.cell? ⟨w1.heap.size, 0, none⟩ = some (.slice A P.1.bytes.length c) := by rw [Lib.cell_of_heap hbox]; rfl
      have HB9 := Lib.hid hbox
      clear hba9 eb hl9 hbox hat9 hw9 g1
      go_wp2_with (at_builtin; (refine wp_appO rfl (.tmp 56) (.tmp 57) rfl _ P.1.bytes rfl HO9.out Ab bs.length cb (bs) rfl HL9.out (Eq.symm HXL.out) (by rw [show (bs).length = bs.length from HXL.out]; omega) (by rw [show (bs).length = bs.length from HXL.out]; omega) ?_))
      intro A' c' w10 hown hgrow hloc
      try rw [show (bs).length = bs.length from HXL.out] at hown hloc ⊢
      have hbox10 : w10.heap[w1.heap.size]? = some (.cells #[.slice A P.1.bytes.length c, .int .i64 (P.1.sure : Nat)] 100 (0, 0)) :=
        (hgrow.block _ (Array.getElem?_eq_some_iff.1 HB9.out).1 (HO9.out.ne_block HB9.out (fun cs e => by injection e with _ e2; exact absurd e2 (by decide)))).trans HB9.out
      have b0 : w10.cell? ⟨w1.heap.size, 0, none⟩ = some (.slice A P.1.bytes.length c) := by rw [Lib.cell_of_heap hbox10]; rfl
      have b1 : w10.cell? ⟨w1.heap.size, 1, none⟩ = some (.int .i64 (P.1.sure : Nat)) := by rw [Lib.cell_of_heap hbox10]; rfl
      have ff0 := Lib.frozen_of_heap hbox10 0
      have hlt10 : ∀ g, (Value.slice A' (P.1.bytes.length + bs.length) c').ownBlock = some g → g < w10.heap.size := fun g hg => (hown.lt g hg).2
      have hz9 := HA9.out.fr.size
      have HAB := Lib.hid (((HA9.out.grown HO9.out hfm hfa hgrow).box hbox10 (by decide) (by decide) hz1 0 (.slice A' (P.1.bytes.length + bs.length) c')).mono (S' := Up S w (w10.setCell ⟨w1.heap.size, 0, none⟩ (.slice A' (P.1.bytes.length + bs.length) c'))) (fun k hk => .inl hk))
      have HO11 : Hid (OwnB (w10.setCell ⟨w1.heap.size, 0, none⟩ (.slice A' (P.1.bytes.length + bs.length) c')) 0 (.slice A' (P.1.bytes.length + bs.length) c') (P.1.bytes ++ (bs))) := Lib.hid (hown.keep fun g hg => Below.heap_setCell _ _ _ g (by
        rintro rfl
        obtain ⟨cs, q⟩ := hown.block hg
        rw [hbox10] at q
        injection q with q
        injection q with _ e2
        exact absurd e2 (by decide)))
      have HMI : Hid (∀ g, (Value.slice A' (P.1.bytes.length + bs.length) c').ownBlock = some g → Up S w (w10.setCell ⟨w1.heap.size, 0, none⟩ (.slice A' (P.1.bytes.length + bs.length) c')) g) := Lib.hid (fun g hg => by
        rcases hloc with e | e
        · exact .inl (hfm g (e.symm.trans hg))
        · refine .inr ⟨?_, ?_⟩
          · rw [e] at hg
            injection hg with hg
            omega
          · have := hlt10 g hg
            simp only [World.setCell, Array.size_modify]
            exact this)
      have HAP : Hid (∀ q ∈ ps, q.1.name ≠ P.1.name → (Value.slice A' (P.1.bytes.length + bs.length) c').ownBlock = none ∨ (Value.slice A' (P.1.bytes.length + bs.length) c').ownBlock ≠ q.2.ownBlock) := Lib.hid (fun q hq hn => by
        rcases hloc with e | e
        · rw [e]; exact hfa q hq hn
        · refine .inr fun e2 => ?_
          rw [e] at e2
          have := ((HA9.out.files.bytes q hq).lt _ e2.symm).2
          omega)
      have HKP := Lib.hid (fun w' hput => HT.out _ w' _ _ HAB.out (.inl HSB.out) (fun k hk => hk) HO11.out HMI.out HAP.out hput)
      have HPP := Lib.hid (HP.out _ _ HAB.out A' c' (P.1.bytes.length + bs.length))
      clear hown hgrow hloc hbox10 hlt10 hz9 a0 e1
      go_wp2_with fail
      refine HPP.out.mono ?_
      rintro e w12 ⟨rfl, hput⟩
      have HK := Lib.hid (HKP.out w12 hput)
      clear hput
      go_wp2_with fail
      go_ret
      exact ⟨rfl, HK.out⟩
end Go.Proofs.YtjcikhacekmcfaaGreatDoor
namespace Go.Proofs.YtjcikhacekmcfaaGreatDoor
set_option maxRecDepth 20000
open Go.RowKit
open PlainDisk (File Disk Left)
set_option linter.unusedVariables false

set_option maxHeartbeats 4000000 in
set_option maxRecDepth 100000 in
theorem append_fail (b : Nat) (nm bs : List UInt8) (vb : Value) (D : Disk) (S : Nat → Prop) (w : World) (hd : DiskIs w b D S) (hF : Fine D) (hnm : nm.length ≤ 281474976710656) (hB : Src w vb bs b)
    (hbar : barCode D.gone nm = 0) (hmany : ¬ (PlainDisk.find D.fs nm = none ∧ 64 ≤ D.fs.length)) (hfull : ¬ D.room < PlainDisk.used D.fs + bs.length) (h0 : D.good = 0) :
    Calls Tryz.prog 25 #[.pointer (some ⟨b, 0, none⟩), .string (str nm), vb] w fun e w' => e = .returned (.int .i64 (PlainDisk.append may D nm bs).2) ∧ DiskTo w w' b (PlainDisk.append may D nm bs).1 S := by
  have hB0 := hB
  have HD := Lib.hid hd
  obtain ⟨mv, ar, lf, ps, hb, hS, hfs, har, hfl⟩ := hd
  have C0 := Lib.hid (check_any nm hb hnm)
  rw [hbar] at C0
  rw [append_good hbar, if_neg hmany]
  have hblt : b < w.heap.size := (Array.getElem?_eq_some_iff.1 hb).1
  have HAT := Lib.hid (show At w w b mv D.gone ar lf D.room ps S from ⟨hb, hfl, Fr.refl S w⟩)
  have hcl : ps.length ≤ 1000 := by have := hF.inv.many; rw [hfs, List.length_map] at this; omega
  obtain ⟨f1, f2⟩ := fileAt_len hF hfs nm
  have hroom := hF.room
  have hused := hF.inv.room
  have hsrt := hF.inv.sorted
  obtain ⟨A, c, hA, k1, k2, k3⟩ := (fileAt_own hfl nm).slice
  have HLK := Lib.hid (fun (W : World) (h : At w W b mv D.gone ar lf D.room ps S) => look_at h hnm)
  rw [valOf, hA] at HLK
  have HUS := Lib.hid (fun (W : World) (h : At w W b mv D.gone ar lf D.room ps S) => used_at h (by rw [← hfs]; exact hsrt) (by rw [← hfs]; omega))
  rw [← hfs] at HUS
  have HFL := Lib.hid (fileAt_own hfl nm)
  have hfn := fileAt_name ps nm
  have hff := fun x => fileAt_fs (ps := ps) (by rw [← hfs]; exact hsrt) nm x
  rw [← hfs] at hff
  have hfm := fileAt_mine hfl nm
  have hfa := fileAt_apart hfl nm
  have HFO := Lib.hid (fun (W : World) (h : FilesAt W mv ps S) => fileAt_own h nm)
  obtain ⟨Ab, cb, rfl, j1, j2, j3⟩ := hB0.lies
  have HBA := Lib.hid hB
  generalize hFV : fileAt ps nm = P at *
  generalize hUU : PlainDisk.used D.fs = U at *
  rw [hA] at HFO hfm hfa
  subst hfn
  have hcase : (findV ps P.1.name).isSome = true ∨ ((findV ps P.1.name).isSome = false ∧ (ps.length : Int) < 64) := by
    have e := findV_fst ps P.1.name
    rw [← hfs] at e
    cases h : findV ps P.1.name with
    | some p => exact .inl rfl
    | none =>
      rw [h] at e
      refine .inr ⟨rfl, ?_⟩
      have : ¬ 64 ≤ D.fs.length := fun q => hmany ⟨e.symm, q⟩
      rw [hfs, List.length_map] at this
      omega
  rw [if_neg hfull]
  unfold PlainDisk.write
  rw [if_pos h0]
  obtain ⟨m, hm⟩ : ∃ m, m = bs.length / 2 := ⟨_, rfl⟩
  rw [← hm]
  have hm1 : (bs.length : Int) / 2 = (m : Int) := by omega
  have hm2 : (m : Int) ≤ (bs.length : Int) := by omega
  have hm3 : (m : Int) ≤ (cb : Int) := by omega
  have hm4 : (0 : Int) ≤ (m : Int) := by omega
  have hm5 : m ≤ bs.length := by omega
  have HXL : Hid (LenIs (bs.take m) m) := Lib.hid (by show (bs.take m).length = m; rw [List.length_take]; omega)
  clear hm
  have hfull2 : (bs.length : Int) ≤ (D.room : Int) - (U : Int) := by omega
  have hln1 : P.1.bytes.length + bs.length ≤ 1048576 := by omega
  have HW := Lib.hid (fun (W : World) (h : At w W b mv D.gone ar lf D.room ps S) => write_at h hS har hF.good)
  simp only [h0, if_true] at HW
  have HSB := Lib.hid hS
  have HT := Lib.hid (fun (W w' : World) (v : Value) (S' : Nat → Prop) (h : AtB w W b mv true ar (lfOf ar lf) D.room ps S' P.1.name) (hS' : S' b) (hu : ∀ k, S' k → Up S w W k) (hv : OwnB W 0 v (P.1.bytes ++ (bs.take m))) (hmine : ∀ g, v.ownBlock = some g → S' g) (hap : ∀ q ∈ ps, q.1.name ≠ P.1.name → v.ownBlock = none ∨ v.ownBlock ≠ q.2.ownBlock) hput =>
    AtB.put (f := PlainDisk.grow (bs.take m) P.1) (D' := { D with fs := PlainDisk.upd (PlainDisk.made D.fs P.1.name) P.1.name (PlainDisk.grow (bs.take m)), gone := true }) (w' := w') (v := v) h hS' hu hput hv hmine hap rfl rfl (armed_stay har h0) (by rw [← hfs]; exact (hff _).symm))
  have HP := Lib.hid (fun (W : World) (S' : Nat → Prop) (h : AtB w W b mv true ar (lfOf ar lf) D.room ps S' P.1.name) (A' : Option Addr) (c' n' : Nat) => put_files (nm := P.1.name) (PlainDisk.grow (bs.take m) P.1, .slice A' n' c') rfl rfl h.cells h.files.maps hnm hcl)
  have hsu : (PlainDisk.grow (bs.take m) P.1).sure = P.1.sure := rfl
  simp only [hsu] at HP
  dsimp only
  generalize ({ D with fs := PlainDisk.upd (PlainDisk.made D.fs P.1.name) P.1.name (PlainDisk.grow (bs.take m)), gone := true } : Disk) = D' at *
  rcases hcase with hfd | ⟨hfd, h64⟩
  all_goals
    rw [hfd] at HLK
    clear hb hfl hfs hfd hfull hff hmany f1 f2 hA k3 j3 hsrt hFV hUU hsu
    go_enter Tryz.func25, Tryz.ntmps25
    go_wp2_with fail
    refine C0.out.mono ?_
    rintro e w1 ⟨rfl, hb1⟩
    have HB1 := Lib.hid hb1
    have hat := HAT.out.below hb1
    have c1 : w1.cell? ⟨b, 1, none⟩ = some (.map mv) := by rw [Lib.cell_of_heap hat.cells]; rfl
    have hlk := HLK.out w1 hat
    have hat2 := hat.alloc (.cells #[.slice A P.1.bytes.length c, .int .i64 (P.1.sure : Nat)] 100)
    have c12 : (w1.alloc (.cells #[.slice A P.1.bytes.length c, .int .i64 (P.1.sure : Nat)] 100)).cell? ⟨b, 1, none⟩ = some (.map mv) := by rw [Lib.cell_of_heap hat2.cells]; rfl
    have hln := fun ty => files_len hat2.files.maps ty
    have HBX := Lib.hid (heap_alloc_new w1 (.cells #[.slice A P.1.bytes.length c, .int .i64 (P.1.sure : Nat)] 100))
    have hz1 : w.heap.size ≤ w1.heap.size := hb1.size
    have HB2 : Hid (Below w.heap.size w (w1.alloc (.cells #[.slice A P.1.bytes.length c, .int .i64 (P.1.sure : Nat)] 100))) := Lib.hid (hb1.alloc hb1.size _)
    have HZ2 : Hid ((w1.alloc (.cells #[.slice A P.1.bytes.length c, .int .i64 (P.1.sure : Nat)] 100)).heap.size = w1.heap.size + 1) := Lib.hid (by simp)
    have HAT2 := Lib.hid hat2
    clear hb1 hat hat2
    go_wp2_with fail
    generalize (w1.alloc (.cells #[.slice A P.1.bytes.length c, .int .i64 (P.1.sure : Nat)] 100)) = W0 at *
    clear hln c12 hlk c1
    have e1 : W0.drew.cell? ⟨b, 0, none⟩ = some (.int .i64 (D.room : Nat)) := Eq.trans (Lib.cell_of_heap HAT2.out.drew.cells _) rfl
    have CU := Lib.hid (fun (W : World) (h : Below W0.heap.size W0 W) => HUS.out W (HAT2.out.below h))
    have KS := Lib.hid (fun (W : World) (h : Below W0.heap.size W0 W) => (Eq.trans (Lib.cell_of_heap (HAT2.out.below h).cells _) rfl : W.cell? ⟨b, 0, none⟩ = some (.int .i64 (D.room : Nat))))
    have D0 : Hid (Below W0.heap.size W0 W0.drew) := Lib.hid (Below.refl _ W0).drew
    have hwr := wrap_room D.room U (by omega) (by omega)
    go_region_held3 (fun W => W.cell? ⟨b, 0, none⟩ = some (.int .i64 (D.room : Nat))) (first | exact e1 | exact g1)
      ((go_at_call 53; (with_reducible refine (CU.out _ D0.out).mono ?_); rintro e w8 ⟨rfl, hb8⟩; have B8 : Hid (Below W0.heap.size W0 w8) := Lib.hid (D0.out.trans hb8); clear hb8; have g1 := KS.out _ B8.out))
    all_goals
      go_wp2_with fail
      refine (HW.out _ (HAT2.out.below B8.out)).mono ?_
      rintro e w9 ⟨rfl, hw9, hat9⟩
      have hbox : w9.heap[w1.heap.size]? = some (.cells #[.slice A P.1.bytes.length c, .int .i64 (P.1.sure : Nat)] 100 (0, 0)) := by
        rw [hw9, armedW_other _ _ _ _ _ (by omega)]
        exact (B8.out.block _ (by have := HZ2.out; omega)).trans HBX.out
      have hba9 : Src w9 (.slice Ab bs.length cb) bs b := HBA.out.keep fun k hk hkb => by
        rw [hw9, armedW_other _ _ _ _ _ hkb, B8.out.block k (by have := HB2.out.size; omega)]
        exact HB2.out.block k hk
      obtain ⟨Ab', cb', eb, _, _, hl9⟩ := hba9.lies
      obtain ⟨rfl, rfl⟩ : Ab = Ab' ∧ cb = cb' := by injection eb with q1 q2 q3; exact ⟨q1, q3⟩
      have HL9 := Lib.hid (lies_take hl9 m)
      have HO9 := Lib.hid (HFO.out w9 hat9.files)
      have HA9 := Lib.hid hat9
      have a0 : w9.cell? ⟨w1.heap.size, 0, none⟩ = some (.slice A P.1.bytes.length c) := by rw [Lib.cell_of_heap hbox]; rfl
      have HB9 := Lib.hid hbox
      clear hba9 eb hl9 hbox hat9 hw9 g1
      go_wp2_with (at_builtin; (refine wp_appO rfl (.tmp 56) (.tmp 57) rfl _ P.1.bytes rfl HO9.out Ab m cb (bs.take m) rfl HL9.out (Eq.symm HXL.out) (by rw [show (bs.take m).length = m from HXL.out]; omega) (by rw [show (bs.take m).length = m from HXL.out]; omega) ?_))
      intro A' c' w10 hown hgrow hloc
      try rw [show (bs.take m).length = m from HXL.out] at hown hloc ⊢
      have hbox10 : w10.heap[w1.heap.size]? = some (.cells #[.slice A P.1.bytes.length c, .int .i64 (P.1.sure : Nat)] 100 (0, 0)) :=
        (hgrow.block _ (Array.getElem?_eq_some_iff.1 HB9.out).1 (HO9.out.ne_block HB9.out (fun cs e => by injection e with _ e2; exact absurd e2 (by decide)))).trans HB9.out
      have b0 : w10.cell? ⟨w1.heap.size, 0, none⟩ = some (.slice A P.1.bytes.length c) := by rw [Lib.cell_of_heap hbox10]; rfl
      have b1 : w10.cell? ⟨w1.heap.size, 1, none⟩ = some (.int .i64 (P.1.sure : Nat)) := by rw [Lib.cell_of_heap hbox10]; rfl
      have ff0 := Lib.frozen_of_heap hbox10 0
      have hlt10 : ∀ g, (Value.slice A' (P.1.bytes.length + m) c').ownBlock = some g → g < w10.heap.size := fun g hg => (hown.lt g hg).2
      have hz9 := HA9.out.fr.size
      have HAB := Lib.hid (((HA9.out.grown HO9.out hfm hfa hgrow).box hbox10 (by decide) (by decide) hz1 0 (.slice A' (P.1.bytes.length + m) c')).mono (S' := Up S w (w10.setCell ⟨w1.heap.size, 0, none⟩ (.slice A' (P.1.bytes.length + m) c'))) (fun k hk => .inl hk))
      have HO11 : Hid (OwnB (w10.setCell ⟨w1.heap.size, 0, none⟩ (.slice A' (P.1.bytes.length + m) c')) 0 (.slice A' (P.1.bytes.length + m) c') (P.1.bytes ++ (bs.take m))) := Lib.hid (hown.keep fun g hg => Below.heap_setCell _ _ _ g (by
        rintro rfl
        obtain ⟨cs, q⟩ := hown.block hg
        rw [hbox10] at q
        injection q with q
        injection q with _ e2
        exact absurd e2 (by decide)))
      have HMI : Hid (∀ g, (Value.slice A' (P.1.bytes.length + m) c').ownBlock = some g → Up S w (w10.setCell ⟨w1.heap.size, 0, none⟩ (.slice A' (P.1.bytes.length + m) c')) g) := Lib.hid (fun g hg => by
        rcases hloc with e | e
        · exact .inl (hfm g (e.symm.trans hg))
        · refine .inr ⟨?_, ?_⟩
          · rw [e] at hg
            injection hg with hg
            omega
          · have := hlt10 g hg
            simp only [World.setCell, Array.size_modify]
            exact this)
      have HAP : Hid (∀ q ∈ ps, q.1.name ≠ P.1.name → (Value.slice A' (P.1.bytes.length + m) c').ownBlock = none ∨ (Value.slice A' (P.1.bytes.length + m) c').ownBlock ≠ q.2.ownBlock) := Lib.hid (fun q hq hn => by
        rcases hloc with e | e
        · rw [e]; exact hfa q hq hn
        · refine .inr fun e2 => ?_
          rw [e] at e2
          have := ((HA9.out.files.bytes q hq).lt _ e2.symm).2
          omega)
      have HKP := Lib.hid (fun w' hput => HT.out _ w' _ _ HAB.out (.inl HSB.out) (fun k hk => hk) HO11.out HMI.out HAP.out hput)
      have HPP := Lib.hid (HP.out _ _ HAB.out A' c' (P.1.bytes.length + m))
      clear hown hgrow hloc hbox10 hlt10 hz9 a0 e1
      go_wp2_with fail
      refine HPP.out.mono ?_
      rintro e w12 ⟨rfl, hput⟩
      have HK := Lib.hid (HKP.out w12 hput)
      clear hput
      go_wp2_with fail
      go_ret
      exact ⟨rfl, HK.out⟩
end Go.Proofs.YtjcikhacekmcfaaGreatDoor
namespace Go.Proofs.YtjcikhacekmcfaaGreatDoor
set_option maxRecDepth 20000
open Go.RowKit
open PlainDisk (File Disk Left)
set_option linter.unusedVariables false
theorem append_act (b : Nat) (nm bs : List UInt8) (vb : Value) (D : Disk) (S : Nat → Prop) (w : World) (hd : DiskIs w b D S) (hF : Fine D) (hnm : nm.length ≤ 281474976710656) (hB : Src w vb bs b) :
    Calls Tryz.prog 25 #[.pointer (some ⟨b, 0, none⟩), .string (str nm), vb] w fun e w' => e = .returned (.int .i64 (PlainDisk.append may D nm bs).2) ∧ DiskTo w w' b (PlainDisk.append may D nm bs).1 S := by
  by_cases h1 : barCode D.gone nm = 0
  · by_cases h2 : PlainDisk.find D.fs nm = none ∧ 64 ≤ D.fs.length
    · exact append_early b nm bs vb D S w hd hF hnm hB (.inr h2)
    · by_cases h3 : D.room < PlainDisk.used D.fs + bs.length
      · exact append_full b nm bs vb D S w hd hF hnm hB h1 h2 h3
      · by_cases h4 : D.good = 0
        · exact append_fail b nm bs vb D S w hd hF hnm hB h1 h2 h3 h4
        · exact append_ok b nm bs vb D S w hd hF hnm hB h1 h2 h3 h4
  · exact append_early b nm bs vb D S w hd hF hnm hB (.inl h1)
end Go.Proofs.YtjcikhacekmcfaaGreatDoor
namespace Go.Proofs.YtjcikhacekmcfaaGreatDoor
set_option maxRecDepth 20000
open Go.RowKit
open PlainDisk (File Disk Left)
set_option linter.unusedVariables false

/-! ### what a crash leaves of one file -/
def keptN (keep : Int) (su len : Nat) : Nat := su + min keep.toNat (len - su)
theorem left_kept (x : PlainDisk.Left) (f : File) (h : f.sure ≤ f.bytes.length) : PlainDisk.left x f = f.bytes.take (keptN x.keep f.sure f.bytes.length) ++ (if x.zero = true then List.replicate (f.bytes.length - keptN x.keep f.sure f.bytes.length) 0 else []) := by
  unfold PlainDisk.left keptN
  rw [← List.append_assoc]
  have e1 : f.bytes.take f.sure ++ (f.bytes.drop f.sure).take x.keep.toNat = f.bytes.take (f.sure + min x.keep.toNat (f.bytes.length - f.sure)) := by
    rw [List.take_add, ← List.length_drop, ← List.take_eq_take_min]
  rw [e1]
  congr 1
  split
  · congr 1
    rw [List.length_drop]
    omega
  · rfl
theorem clear_none (w : World) (p : Option Addr) (c : Nat) (ty : TypeId) : (Builtin.clear_ #[60] ty #[.slice p 0 c]).run Tryz.prog w = .ok (.tuple #[]) w := by
  cases p <;> simp [Builtin.clear_, run_underlying Tryz.underlying60]
theorem zero5 (w : World) : (zeroValue 5).run Tryz.prog w = .ok (.int .u8 0) w := by kernel_rfl
/-- cells set one behind the other -/
theorem own_setCells {g n cap : Nat} (vs : List Value) : ∀ (o : Nat) (w : World) (xs : List Value), w.ownsRow 0 5 1 (.slice (some ⟨g, 0, none⟩) n cap) n xs → o + vs.length = n → (w.setCells g o vs).ownsRow 0 5 1 (.slice (some ⟨g, 0, none⟩) n cap) n (xs.take o ++ vs) := by
  induction vs with
  | nil =>
    intro o w xs h ho
    have hl := h.1
    rw [List.length_nil, Nat.add_zero] at ho
    rw [List.append_nil, List.take_of_length_le (by omega)]
    exact h
  | cons v r ih =>
    intro o w xs h ho
    have hl := h.1
    rw [List.length_cons] at ho
    have h1 := (World.ownsRow.stored h o v).1
    have h2 := ih (o + 1) _ _ h1 (by omega)
    have e : (xs.set o v).take (o + 1) ++ r = xs.take o ++ v :: r := by
      rw [List.take_succ_eq_append_getElem (by simp; omega), List.take_set_of_le (Nat.le_refl _)]
      simp
    rw [e] at h2
    exact h2
theorem vB_zeros (n : Nat) : vB (List.replicate n 0) = List.replicate n (.int .u8 0) := by simp [vB]
theorem grown_setCells (w : World) (g o : Nat) (vs : List Value) : w.grownBy (w.setCells g o vs) (some g) := by
  induction vs generalizing w o with
  | nil => exact ⟨rfl, rfl, rfl, Nat.le_refl _, fun _ _ _ => rfl⟩
  | cons v r ih =>
    have h := ih (w.setCell ⟨g, o, none⟩ v) (o + 1)
    refine ⟨h.os, h.tape, h.output, by have := h.size; simp only [World.setCell, Array.size_modify] at this; exact this, fun i hi hne => (h.block i (by simp only [World.setCell, Array.size_modify]; exact hi) hne).trans (Below.heap_setCell _ _ _ i (fun e => hne (by rw [e])))⟩
/-- the last bytes become 0 -/
theorem own_zeros {w : World} {g n cap k : Nat} {l : List UInt8} (h : OwnB w 0 (.slice (some ⟨g, 0, none⟩) n cap) l) (hk : k ≤ l.length) :
    OwnB (w.setCells g k (List.replicate (l.length - k) (.int .u8 0))) 0 (.slice (some ⟨g, 0, none⟩) n cap) (l.take k ++ List.replicate (l.length - k) 0) := by
  have hn : n = l.length := by
    obtain ⟨A, c, e, _⟩ := h.slice
    injection e
  subst hn
  have h1 := own_setCells (List.replicate (l.length - k) (.int .u8 0)) k w (vB l) h (by simp; omega)
  unfold OwnB
  rw [vB_append, vB_zeros, List.length_append, List.length_take, List.length_replicate, show min k l.length + (l.length - k) = l.length by omega]
  have e : (vB l).take k = vB (l.take k) := by simp [vB, List.map_take]
  rw [e] at h1
  exact h1
end Go.Proofs.YtjcikhacekmcfaaGreatDoor
namespace Go.Proofs.YtjcikhacekmcfaaGreatDoor
set_option maxRecDepth 20000
open Go.RowKit
open PlainDisk (File Disk)
set_option linter.unusedVariables false
theorem kept_int (keep : Int) (su len : Nat) (h : su ≤ len) : (su : Int) + max 0 (min keep ((len : Int) - (su : Int))) = (keptN keep su len : Int) ∧ keptN keep su len ≤ len := by
  unfold keptN
  omega
/-- the two boxes and the result's cells, at the start of crashed -/
theorem three_at (w : World) (a0 a1 b0 b1 : Value) : ∃ W0, W0 = ((w.alloc (.cells #[a0, a1] 100)).alloc (.cells #[b0, b1] 65)).alloc (.cells #[.slice none 0 0, .int .i64 0] 100) ∧ Below w.heap.size w W0 ∧ W0.heap.size = w.heap.size + 3 ∧
    W0.heap[w.heap.size]? = some (.cells #[a0, a1] 100 (0, 0)) ∧ W0.heap[w.heap.size + 2]? = some (.cells #[.slice none 0 0, .int .i64 0] 100 (0, 0)) := by
  refine ⟨_, rfl, (((Below.refl _ _).alloc (Nat.le_refl _) _).alloc (by simp) _).alloc (by simp; omega) _, by simp, ?_, ?_⟩
  · rw [Below.heap_alloc _ _ _ (by simp; omega), Below.heap_alloc _ _ _ (by simp)]
    exact heap_alloc_new w _
  · have := heap_alloc_new ((w.alloc (.cells #[a0, a1] 100)).alloc (.cells #[b0, b1] 65)) (.cells #[.slice none 0 0, .int .i64 0] 100)
    simpa using this
set_option maxHeartbeats 2000000 in
set_option maxRecDepth 100000 in
theorem crashed_zero {w : World} {g cap su : Nat} {keep : Int} {bs : List UInt8} (hown : OwnB w 0 (.slice (some ⟨g, 0, none⟩) bs.length cap) bs) (hcap : bs.length ≤ cap) (hcap2 : cap ≤ 9223372036854775807) (hn : bs.length ≤ 1048576) (hsu : su ≤ bs.length) (hk : keptN keep su bs.length < bs.length) :
    Calls Tryz.prog 47 #[.agg #[.slice (some ⟨g, 0, none⟩) bs.length cap, .int .i64 (su : Nat)], .agg #[.int .i64 keep, .bool true]] w fun e w' =>
      e = .returned (.agg #[.slice (some ⟨g, 0, none⟩) bs.length cap, .int .i64 (bs.length : Nat)]) ∧ OwnB w' 0 (.slice (some ⟨g, 0, none⟩) bs.length cap) (bs.take (keptN keep su bs.length) ++ List.replicate (bs.length - keptN keep su bs.length) 0) ∧ w.grownBy w' (some g) := by
  have hbld := build71
  obtain ⟨he, hkb⟩ := kept_int keep su bs.length hsu
  generalize keptN keep su bs.length = k at *
  have hk1 : (k : Int) < (bs.length : Int) := by omega
  have hk0 : (0 : Int) ≤ (k : Int) := by omega
  have hc1 : (bs.length : Int) ≤ (cap : Int) := by omega
  have hkc : (k : Int) < (cap : Int) := by omega
  have hs1 : (su : Int) ≤ (bs.length : Int) := by omega
  obtain ⟨W0, hW0, hB0, hz0, hx0, hr0⟩ := three_at w (.slice (some ⟨g, 0, none⟩) bs.length cap) (.int .i64 (su : Nat)) (.int .i64 keep) (.bool true)
  have hglt : g < w.heap.size := (hown.lt g rfl).2
  have hown0 : OwnB W0 0 (.slice (some ⟨g, 0, none⟩) bs.length cap) bs := hown.keep fun q hq => by cases hq; exact hB0.block g hglt
  have hclr := fun ty => Lib.run_clear_slice (P := Tryz.prog) W0 60 5 ty (.int .u8 0) Tryz.underlying60 zero5 rfl rfl g k (bs.length - k) (cap - k) (by omega)
    (fun j hj => by
      rw [World.ownsRow.cellAt hown0 (k + j) (by omega)]
      have : (vB bs)[k + j]? = some ((vB bs)[k + j]'(by rw [vB_length]; omega)) := List.getElem?_eq_getElem _
      rw [this]; rfl)
    (fun j hj => World.ownsRow.frozenAt hown0 (k + j))
  have hown1 := own_zeros hown0 (by omega : k ≤ bs.length)
  have hg1 := grown_setCells W0 g k (List.replicate (bs.length - k) (.int .u8 0))
  generalize W0.setCells g k (List.replicate (bs.length - k) (.int .u8 0)) = W1 at *
  have hx1 := (hg1.block _ (by omega) (by simp; omega)).trans hx0
  have hr1 := (hg1.block _ (by omega) (by simp; omega)).trans hr0
  have a0 : W1.cell? ⟨w.heap.size, 0, none⟩ = some (.slice (some ⟨g, 0, none⟩) bs.length cap) := by rw [Lib.cell_of_heap hx1]; rfl
  have m0 : W1.cell? ⟨w.heap.size + 2, 0, none⟩ = some (.slice none 0 0) := by rw [Lib.cell_of_heap hr1]; rfl
  have m1 : W1.cell? ⟨w.heap.size + 2, 1, none⟩ = some (.int .i64 0) := by rw [Lib.cell_of_heap hr1]; rfl
  have f0 := Lib.frozen_of_heap hr1 0
  have f1 := Lib.frozen_of_heap hr1 1
  have HO := Lib.hid (hown1.two hr1 (by decide) (.slice (some ⟨g, 0, none⟩) bs.length cap) (.int .i64 (bs.length : Nat)))
  have hgw : w.grownBy W1 (some g) := ⟨hg1.os.trans hB0.os, hg1.tape.trans hB0.tape, hg1.output.trans hB0.output, by have := hg1.size; omega, fun i hi hne => (hg1.block i (by omega) hne).trans (hB0.block i hi)⟩
  have HG : Hid (w.grownBy ((W1.setCell ⟨w.heap.size + 2, 0, none⟩ (.slice (some ⟨g, 0, none⟩) bs.length cap)).setCell ⟨w.heap.size + 2, 1, none⟩ (.int .i64 (bs.length : Nat))) (some g)) := Lib.hid
    ⟨hgw.os, hgw.tape, hgw.output, by simp only [World.setCell, Array.size_modify]; exact hgw.size, fun i hi hne => (heap_two W1 (w.heap.size + 2) _ _ i (by omega)).trans (hgw.block i hi hne)⟩
  subst hW0
  clear hown hown0 hown1 hg1 hgw hx0 hr0 hx1 hr1 hB0 hz0
  go_enter Tryz.func47, Tryz.ntmps47
  go_wp2_with fail
  exact bodyPost_ret (v := .agg #[.slice (some ⟨g, 0, none⟩) bs.length cap, .int .i64 (bs.length : Nat)]) (by simp [results, Tryz.results47, go_sem, m0, m1]) rfl ⟨rfl, HO.out, HG.out⟩
end Go.Proofs.YtjcikhacekmcfaaGreatDoor
namespace Go.Proofs.YtjcikhacekmcfaaGreatDoor
set_option maxRecDepth 20000
open Go.RowKit
open PlainDisk (File Disk)
set_option linter.unusedVariables false
set_option maxHeartbeats 2000000 in
set_option maxRecDepth 100000 in
theorem crashed_whole {w : World} {A : Option Addr} {cap su : Nat} {keep : Int} {bs : List UInt8} (hown : OwnB w 0 (.slice A bs.length cap) bs) (hcap : bs.length ≤ cap) (hcap2 : cap ≤ 9223372036854775807) (hn : bs.length ≤ 1048576) (hsu : su ≤ bs.length) (hk : keptN keep su bs.length = bs.length) (hA : A = none ∨ ∃ g, A = some ⟨g, 0, none⟩) :
    Calls Tryz.prog 47 #[.agg #[.slice A bs.length cap, .int .i64 (su : Nat)], .agg #[.int .i64 keep, .bool true]] w fun e w' =>
      e = .returned (.agg #[.slice A bs.length cap, .int .i64 (bs.length : Nat)]) ∧ OwnB w' 0 (.slice A bs.length cap) bs ∧ Below w.heap.size w w' := by
  have hbld := build71
  obtain ⟨he, hkb⟩ := kept_int keep su bs.length hsu
  rw [hk] at he
  have hc1 : (bs.length : Int) ≤ (cap : Int) := by omega
  have hs1 : (su : Int) ≤ (bs.length : Int) := by omega
  obtain ⟨W0, hW0, hB0, hz0, hx0, hr0⟩ := three_at w (.slice A bs.length cap) (.int .i64 (su : Nat)) (.int .i64 keep) (.bool true)
  have hown0 : OwnB W0 0 (.slice A bs.length cap) bs := hown.keep fun q hq => hB0.block q (hown.lt q hq).2
  have hclr := fun p c ty => clear_none W0 p c ty
  have HG : Hid (Below w.heap.size w (((w.alloc (.cells #[.slice A bs.length cap, .int .i64 (su : Nat)] 100)).alloc (.cells #[.int .i64 keep, .bool true] 65)).alloc (.cells #[.slice A bs.length cap, .int .i64 (bs.length : Nat)] 100))) := Lib.hid ((((Below.refl _ _).alloc (Nat.le_refl _) _).alloc (by simp) _).alloc (by simp; omega) _)
  have HO : Hid (OwnB (((w.alloc (.cells #[.slice A bs.length cap, .int .i64 (su : Nat)] 100)).alloc (.cells #[.int .i64 keep, .bool true] 65)).alloc (.cells #[.slice A bs.length cap, .int .i64 (bs.length : Nat)] 100)) 0 (.slice A bs.length cap) bs) := Lib.hid (hown.keep fun q hq => HG.out.block q (hown.lt q hq).2)
  subst hW0
  clear hown hown0 hx0 hr0 hB0 hz0
  rcases hA with rfl | ⟨g, rfl⟩
  · go_enter Tryz.func47, Tryz.ntmps47
    go_wp2_with fail
    exact bodyPost_ret (v := .agg #[.slice none bs.length cap, .int .i64 (bs.length : Nat)]) (by simp [results, Tryz.results47, go_sem]) rfl ⟨rfl, HO.out, HG.out⟩
  · by_cases hcc : cap = bs.length
    · subst hcc
      go_enter Tryz.func47, Tryz.ntmps47
      go_wp2_with fail
      exact bodyPost_ret (v := .agg #[.slice (some ⟨g, 0, none⟩) bs.length bs.length, .int .i64 (bs.length : Nat)]) (by simp [results, Tryz.results47, go_sem]) rfl ⟨rfl, HO.out, HG.out⟩
    · have hcc2 : (bs.length : Int) < (cap : Int) := by omega
      go_enter Tryz.func47, Tryz.ntmps47
      go_wp2_with fail
      exact bodyPost_ret (v := .agg #[.slice (some ⟨g, 0, none⟩) bs.length cap, .int .i64 (bs.length : Nat)]) (by simp [results, Tryz.results47, go_sem]) rfl ⟨rfl, HO.out, HG.out⟩
set_option maxHeartbeats 2000000 in
set_option maxRecDepth 100000 in
theorem crashed_first {w : World} {A : Option Addr} {cap su : Nat} {keep : Int} {bs : List UInt8} (hown : OwnB w 0 (.slice A bs.length cap) bs) (hcap : bs.length ≤ cap) (hcap2 : cap ≤ 9223372036854775807) (hn : bs.length ≤ 1048576) (hsu : su ≤ bs.length) :
    Calls Tryz.prog 47 #[.agg #[.slice A bs.length cap, .int .i64 (su : Nat)], .agg #[.int .i64 keep, .bool false]] w fun e w' =>
      ∃ v, e = .returned (.agg #[v, .int .i64 (keptN keep su bs.length : Nat)]) ∧ OwnB w' w.heap.size v (bs.take (keptN keep su bs.length)) ∧ Below w.heap.size w w' := by
  have hbld := build71
  obtain ⟨he, hkb⟩ := kept_int keep su bs.length hsu
  generalize keptN keep su bs.length = k at *
  have hc1 : (bs.length : Int) ≤ (cap : Int) := by omega
  have hs1 : (su : Int) ≤ (bs.length : Int) := by omega
  obtain ⟨W0, hW0, hB0, hz0, hx0, hr0⟩ := three_at w (.slice A bs.length cap) (.int .i64 (su : Nat)) (.int .i64 keep) (.bool false)
  have hown0 : OwnB W0 0 (.slice A bs.length cap) bs := hown.keep fun q hq => hB0.block q (hown.lt q hq).2
  obtain ⟨A', c', e', _, _, hL⟩ := hown0.slice
  obtain ⟨rfl, rfl⟩ : A = A' ∧ cap = c' := by injection e' with q1 q2 q3; exact ⟨q1, q3⟩
  have HF := Lib.hid (first_any A cap k su bs W0 hL hcap hcap2 hn hkb (by omega))
  have HX := Lib.hid hx0
  have HR := Lib.hid hr0
  have HB := Lib.hid hB0
  have HZ := Lib.hid hz0
  have hlen : (bs.take k).length = k := by rw [List.length_take]; omega
  have HLN := Lib.hid hlen
  subst hW0
  clear hown hown0 hx0 hr0 hB0 hz0 hL e' hlen
  go_enter Tryz.func47, Tryz.ntmps47
  go_wp2_with fail
  refine HF.out.mono ?_
  rintro e w1 ⟨v, rfl, hv, hb1⟩
  obtain ⟨A2, c2, hv2, _⟩ := hv.slice
  rw [HLN.out] at hv2
  subst hv2
  have hx1 := (hb1.block _ (by have := HZ.out; omega)).trans HX.out
  have hr1 := (hb1.block _ (by have := HZ.out; omega)).trans HR.out
  have x0 : w1.cell? ⟨w.heap.size, 0, none⟩ = some (.slice A bs.length cap) := by rw [Lib.cell_of_heap hx1]; rfl
  have x1 : w1.cell? ⟨w.heap.size, 1, none⟩ = some (.int .i64 (su : Nat)) := by rw [Lib.cell_of_heap hx1]; rfl
  have g0 := Lib.frozen_of_heap hx1 0
  have g1 := Lib.frozen_of_heap hx1 1
  have m0 : w1.cell? ⟨w.heap.size + 2, 0, none⟩ = some (.slice none 0 0) := by rw [Lib.cell_of_heap hr1]; rfl
  have m1 : w1.cell? ⟨w.heap.size + 2, 1, none⟩ = some (.int .i64 0) := by rw [Lib.cell_of_heap hr1]; rfl
  have f0 := Lib.frozen_of_heap hr1 0
  have f1 := Lib.frozen_of_heap hr1 1
  have hr2 : ((w1.setCell ⟨w.heap.size, 0, none⟩ (.slice A2 k c2)).setCell ⟨w.heap.size, 1, none⟩ (.int .i64 (min su k : Nat))).heap[w.heap.size + 2]? = some (.cells #[.slice none 0 0, .int .i64 0] 100 (0, 0)) := (heap_two w1 _ _ _ _ (by omega)).trans hr1
  have HO := Lib.hid (((hv.base (B' := w.heap.size) (by have := HZ.out; omega)).two hx1 (by decide) (.slice A2 k c2) (.int .i64 (min su k : Nat))).two hr2 (by decide) (.slice A2 k c2) (.int .i64 (k : Nat)))
  have HG := Lib.hid (((((HB.out.trans (hb1.mono (by have := HZ.out; omega))).setCell (p := ⟨w.heap.size, 0, none⟩) (Nat.le_refl _) (.slice A2 k c2)).setCell (p := ⟨w.heap.size, 1, none⟩) (Nat.le_refl _) (.int .i64 (min su k : Nat))).setCell (p := ⟨w.heap.size + 2, 0, none⟩) (by show w.heap.size ≤ w.heap.size + 2; omega) (.slice A2 k c2)).setCell (p := ⟨w.heap.size + 2, 1, none⟩) (by show w.heap.size ≤ w.heap.size + 2; omega) (.int .i64 (k : Nat)))
  clear hx1 hr1 hr2 hv hb1
  go_wp2_with fail
  exact bodyPost_ret (v := .agg #[.slice A2 k c2, .int .i64 (k : Nat)]) (by simp [results, Tryz.results47, go_sem, m0, m1]) rfl ⟨_, rfl, HO.out, HG.out⟩
end Go.Proofs.YtjcikhacekmcfaaGreatDoor
namespace Go.Proofs.YtjcikhacekmcfaaGreatDoor
set_option maxRecDepth 20000
open Go.RowKit
open PlainDisk (File Disk)
set_option linter.unusedVariables false

/-- what a crash leaves of a file, in the program -/
theorem crashed_any {w : World} {A : Option Addr} {cap : Nat} (f : File) (x : PlainDisk.Left) (hown : OwnB w 0 (.slice A f.bytes.length cap) f.bytes) (hn : f.bytes.length ≤ 1048576) (hsu : f.sure ≤ f.bytes.length) :
    Calls Tryz.prog 47 #[.agg #[.slice A f.bytes.length cap, .int .i64 (f.sure : Nat)], .agg #[.int .i64 x.keep, .bool x.zero]] w fun e w' =>
      ∃ A' c', e = .returned (.agg #[.slice A' (PlainDisk.crashF x f).bytes.length c', .int .i64 ((PlainDisk.crashF x f).sure : Nat)]) ∧ OwnB w' 0 (.slice A' (PlainDisk.crashF x f).bytes.length c') (PlainDisk.crashF x f).bytes ∧
        w.grownBy w' (Value.slice A f.bytes.length cap).ownBlock ∧ ((Value.slice A' (PlainDisk.crashF x f).bytes.length c').ownBlock = (Value.slice A f.bytes.length cap).ownBlock ∨ ∀ g, (Value.slice A' (PlainDisk.crashF x f).bytes.length c').ownBlock = some g → w.heap.size ≤ g) := by
  obtain ⟨A1, c1, e1, k1, k2, _⟩ := hown.slice
  have hc : f.bytes.length ≤ cap ∧ cap ≤ 9223372036854775807 := by injection e1 with _ _ q; subst q; exact ⟨k1, k2⟩
  have hA : A = none ∨ ∃ g, A = some ⟨g, 0, none⟩ := by
    rcases hown.2 with ⟨e, _⟩ | ⟨g, _, _, e, _⟩
    · injection e with q; exact .inl q
    · injection e with q; exact .inr ⟨g, q⟩
  have hkb := (kept_int x.keep f.sure f.bytes.length hsu).2
  have hleft := left_kept x f hsu
  show Calls _ _ _ _ fun e w' => ∃ A' c', e = .returned (.agg #[.slice A' (PlainDisk.left x f).length c', .int .i64 ((PlainDisk.left x f).length : Nat)]) ∧ OwnB w' 0 (.slice A' (PlainDisk.left x f).length c') (PlainDisk.left x f) ∧ w.grownBy w' (Value.slice A f.bytes.length cap).ownBlock ∧
    ((Value.slice A' (PlainDisk.left x f).length c').ownBlock = (Value.slice A f.bytes.length cap).ownBlock ∨ ∀ g, (Value.slice A' (PlainDisk.left x f).length c').ownBlock = some g → w.heap.size ≤ g)
  cases hz : x.zero with
  | false =>
    rw [hz, if_neg (by simp), List.append_nil] at hleft
    have hlen : (PlainDisk.left x f).length = keptN x.keep f.sure f.bytes.length := by rw [hleft, List.length_take]; omega
    refine (crashed_first hown hc.1 hc.2 hn hsu).mono ?_
    rintro e w' ⟨v, rfl, hv, hb⟩
    obtain ⟨A2, c2, rfl, _⟩ := hv.slice
    rw [← hleft] at hv ⊢
    rw [hlen] at hv ⊢
    refine ⟨A2, c2, rfl, hv.zero, ⟨hb.os, hb.tape, hb.output, hb.size, fun i hi _ => hb.block i hi⟩, .inr fun g hg => (hv.lt g hg).1⟩
  | true =>
    rw [hz, if_pos rfl] at hleft
    have hlen : (PlainDisk.left x f).length = f.bytes.length := by rw [hleft, List.length_append, List.length_take, List.length_replicate]; omega
    by_cases hk : keptN x.keep f.sure f.bytes.length = f.bytes.length
    · rw [hk, Nat.sub_self, List.take_length] at hleft
      have hleft : PlainDisk.left x f = f.bytes := by rw [hleft]; simp
      refine (crashed_whole hown hc.1 hc.2 hn hsu hk hA).mono ?_
      rintro e w' ⟨rfl, hv, hb⟩
      rw [hleft]
      exact ⟨A, cap, rfl, hv, ⟨hb.os, hb.tape, hb.output, hb.size, fun i hi _ => hb.block i hi⟩, .inl rfl⟩
    · have hk2 : keptN x.keep f.sure f.bytes.length < f.bytes.length := by omega
      rcases hA with rfl | ⟨g, rfl⟩
      · have : f.bytes.length = 0 := by
          rcases hown.2 with ⟨_, q⟩ | ⟨_, _, _, e, _⟩
          · exact q
          · cases e
        omega
      refine (crashed_zero hown hc.1 hc.2 hn hsu hk2).mono ?_
      rintro e w' ⟨rfl, hv, hb⟩
      rw [← hleft] at hv
      rw [hlen]
      exact ⟨some ⟨g, 0, none⟩, cap, rfl, hv, hb, .inl rfl⟩

/-! ### plain: the files crash one by one -/
def dark : PlainDisk.Left := ⟨0, false⟩
def crashI (i : Nat) (fs : List File) (l : List PlainDisk.Left) : List File := PlainDisk.crashL (fs.take i) l ++ fs.drop i
theorem crashL_snoc (a : List File) (f : File) (l : List PlainDisk.Left) : PlainDisk.crashL (a ++ [f]) l = PlainDisk.crashL a l ++ [PlainDisk.crashF (l[a.length]?.getD dark) f] := by
  induction a generalizing l with
  | nil =>
    show [PlainDisk.crashF (l.headD ⟨0, false⟩) f] = [PlainDisk.crashF (l[0]?.getD dark) f]
    cases l <;> rfl
  | cons g r ih =>
    show PlainDisk.crashF _ g :: PlainDisk.crashL (r ++ [f]) l.tail = PlainDisk.crashF _ g :: (PlainDisk.crashL r l.tail ++ _)
    rw [ih]
    cases l <;> simp
theorem crashI_zero (fs : List File) (l : List PlainDisk.Left) : crashI 0 fs l = fs := by simp [crashI, PlainDisk.crashL]
theorem crashI_all (fs : List File) (l : List PlainDisk.Left) : crashI fs.length fs l = PlainDisk.crashL fs l := by simp [crashI]
theorem crashI_names (i : Nat) (fs : List File) (l : List PlainDisk.Left) : (crashI i fs l).map (·.name) = fs.map (·.name) := by
  unfold crashI
  rw [List.map_append, PlainDisk.crashL_names, ← List.map_append, List.take_append_drop]
theorem crashI_sorted {fs : List File} (h : PlainDisk.Sorted fs) (i : Nat) (l : List PlainDisk.Left) : PlainDisk.Sorted (crashI i fs l) := PlainDisk.sorted_names (crashI_names i fs l).symm h
theorem crashI_find {fs : List File} (h : PlainDisk.Sorted fs) {i : Nat} {f : File} (hf : fs[i]? = some f) (l : List PlainDisk.Left) : PlainDisk.find (crashI i fs l) f.name = some f := by
  refine PlainDisk.find_of_mem (crashI_sorted h i l) ?_
  unfold crashI
  refine List.mem_append_right _ ?_
  have hi := (List.getElem?_eq_some_iff.1 hf).1
  rw [List.drop_eq_getElem_cons hi]
  have : fs[i] = f := (List.getElem?_eq_some_iff.1 hf).2
  rw [this]; simp
theorem upd_mid (a r : List File) (f : File) (t : File → File) (ha : ∀ g ∈ a, g.name ≠ f.name) (hr : ∀ g ∈ r, g.name ≠ f.name) : PlainDisk.upd (a ++ f :: r) f.name t = a ++ t f :: r := by
  unfold PlainDisk.upd
  rw [List.map_append, List.map_cons, if_pos rfl]
  have h : ∀ l : List File, (∀ g ∈ l, g.name ≠ f.name) → l.map (fun g => if g.name = f.name then t g else g) = l := fun l hl => by
    rw [List.map_congr_left (g := id) (fun g hg => by rw [if_neg (hl g hg)]; rfl), List.map_id]
  rw [h a ha, h r hr]
theorem sorted_mid {a r : List File} {f : File} (h : PlainDisk.Sorted (a ++ f :: r)) : (∀ g ∈ a, g.name ≠ f.name) ∧ (∀ g ∈ r, g.name ≠ f.name) := by
  induction a with
  | nil => exact ⟨fun g hg => (by cases hg), fun g hg => fun e => PlainDisk.bl_ne (h.1 g hg) e.symm⟩
  | cons x a ih =>
    obtain ⟨h1, h2⟩ := ih h.2
    refine ⟨fun g hg => ?_, h2⟩
    rcases List.mem_cons.1 hg with rfl | hg
    · exact PlainDisk.bl_ne (h.1 f (by simp))
    · exact h1 g hg
theorem crashI_step {fs : List File} (h : PlainDisk.Sorted fs) {i : Nat} {f : File} (hf : fs[i]? = some f) (l : List PlainDisk.Left) : PlainDisk.upd (crashI i fs l) f.name (PlainDisk.crashF (l[i]?.getD dark)) = crashI (i + 1) fs l := by
  have hi := (List.getElem?_eq_some_iff.1 hf).1
  have he : fs[i] = f := (List.getElem?_eq_some_iff.1 hf).2
  have hs := crashI_sorted h i l
  unfold crashI at *
  rw [List.drop_eq_getElem_cons hi, he] at hs ⊢
  obtain ⟨h1, h2⟩ := sorted_mid hs
  rw [upd_mid _ _ _ _ h1 h2, List.take_succ_eq_append_getElem hi, he, crashL_snoc, List.length_take, Nat.min_eq_left (Nat.le_of_lt hi)]
  simp
end Go.Proofs.YtjcikhacekmcfaaGreatDoor
namespace Go.Proofs.YtjcikhacekmcfaaGreatDoor
set_option maxRecDepth 20000
open Go.RowKit
open PlainDisk (File Disk)
set_option linter.unusedVariables false

/-- a row of what a crash leaves, in a block of F -/
def LAt (w : World) (v : Value) (l : List PlainDisk.Left) (F : Nat → Prop) : Prop :=
  ∃ A c, v = .slice A l.length c ∧ l.length ≤ c ∧ c ≤ 9223372036854775807 ∧ (∀ x ∈ l, -9223372036854775808 ≤ x.keep ∧ x.keep ≤ 9223372036854775807) ∧
    (l ≠ [] → ∃ k off, A = some ⟨k, off, none⟩ ∧ F k ∧ ∀ i x, l[i]? = some x → w.cell? ⟨k, off + i * 2, none⟩ = some (.int .i64 x.keep) ∧ w.cell? ⟨k, off + i * 2 + 1, none⟩ = some (.bool x.zero))
theorem LAt.keep {w w' : World} {v : Value} {l : List PlainDisk.Left} {F : Nat → Prop} (h : LAt w v l F) (hk : ∀ k, F k → w'.heap[k]? = w.heap[k]?) : LAt w' v l F := by
  obtain ⟨A, c, h1, h2, h3, h4, h5⟩ := h
  refine ⟨A, c, h1, h2, h3, h4, fun hne => ?_⟩
  obtain ⟨k, off, e1, e2, e3⟩ := h5 hne
  refine ⟨k, off, e1, e2, fun i x hx => ?_⟩
  obtain ⟨q1, q2⟩ := e3 i x hx
  exact ⟨(World.cell?_of_block (w := w) (hk k e2)).trans q1, (World.cell?_of_block (w := w) (hk k e2)).trans q2⟩
theorem OwnS.keep {w w' : World} {base : Nat} {v : Value} {l : List (List UInt8)} (h : OwnS w base v l) (hk : ∀ (k : Nat) (cs : Array Value), w.heap[k]? = some (Obj.cells cs 9 (0, 0)) → w'.heap[k]? = w.heap[k]?) : OwnS w' base v l := by
  refine ⟨h.1, ?_⟩
  rcases h.2 with q | ⟨g, cap, cur, e, hb, hh, r⟩
  · exact .inl q
  · exact .inr ⟨g, cap, cur, e, hb, (hk g cur hh).trans hh, r⟩
theorem OwnS.at {w : World} {base : Nat} {v : Value} {l : List (List UInt8)} (h : OwnS w base v l) {i : Nat} {nm : List UInt8} (hi : l[i]? = some nm) : ∃ g c, v = .slice (some ⟨g, 0, none⟩) l.length c ∧ w.cell? ⟨g, i, none⟩ = some (.string (str nm)) := by
  have hlt := (List.getElem?_eq_some_iff.1 hi).1
  rcases h.2 with ⟨_, hn⟩ | ⟨g, cap, cur, e, hb, hh, hc, hm, hs, ht⟩
  · omega
  · refine ⟨g, cap, e, ?_⟩
    have hj : (sV l)[i]? = some (.string (str nm)) := by simp [sV, hi]
    rw [← ht, List.getElem?_take] at hj
    rw [Lib.cell_of_heap hh]
    split at hj
    · rw [← Array.getElem?_toList]; exact hj
    · cases hj
theorem OwnS.slice {w : World} {base : Nat} {v : Value} {l : List (List UInt8)} (h : OwnS w base v l) : ∃ A c, v = .slice A l.length c ∧ l.length ≤ c ∧ c ≤ 9223372036854775807 := by
  rcases h.2 with ⟨e, hn⟩ | ⟨g, cap, cur, e, hb, hh, hc, hm, r⟩
  · exact ⟨none, 0, by rw [e, hn], by omega, by omega⟩
  · exact ⟨_, cap, e, hc, by simpa [maxLen] using hm⟩
theorem OwnS.zero {w : World} {base : Nat} {v : Value} {l : List (List UInt8)} (h : OwnS w base v l) : OwnS w 0 v l := by
  refine ⟨h.1, ?_⟩
  rcases h.2 with q | ⟨g, cap, cur, e, hq, r⟩
  · exact .inl q
  · exact .inr ⟨g, cap, cur, e, Nat.zero_le _, r⟩
theorem DiskTo.andTo {w w1 w2 : World} {S : Nat → Prop} {b : Nat} {D D2 : Disk} (h : DiskTo w w1 b D S) (hk : ∀ S1, DiskIs w1 b D S1 → (∀ k, S1 k → Up S w w1 k) → DiskTo w1 w2 b D2 S1) : DiskTo w w2 b D2 S := by
  obtain ⟨S1, h1, h2, h3⟩ := h
  exact DiskTo.go h2 h3 (hk S1 h1 h2)
theorem files_is {w : World} {b : Nat} {D : Disk} {S : Nat → Prop} (hd : DiskIs w b D S) (hs : PlainDisk.Sorted D.fs) (hl : D.fs.length ≤ 1000) :
    Calls Tryz.prog 45 #[.pointer (some ⟨b, 0, none⟩)] w fun e w' => ∃ v, e = .returned v ∧ OwnS w' w.heap.size v (D.fs.map (·.name)) ∧ Below w.heap.size w w' := by
  obtain ⟨mv, ar, lf, ps, hb, hS, hfs, har, hfl⟩ := hd
  rw [hfs] at hs hl ⊢
  rw [List.map_map]
  exact files_files hb hfl.maps hs (by rw [List.length_map] at hl; exact hl) hfl.slices
theorem crash_end {w : World} {b : Nat} {D : Disk} {S : Nat → Prop} (hd : DiskIs w b D S) : (∃ x, w.cell? ⟨b, 2, none⟩ = some (.bool x)) ∧ (∃ x, w.cell? ⟨b, 3, none⟩ = some (.bool x)) ∧ w.frozen? ⟨b, 2, none⟩ = false ∧ w.frozen? ⟨b, 3, none⟩ = false ∧
    DiskTo w ((w.setCell ⟨b, 2, none⟩ (.bool false)).setCell ⟨b, 3, none⟩ (.bool false)) b { D with gone := false, good := -1 } S := by
  obtain ⟨mv, ar, lf, ps, hb, hS, hfs, har, hfl⟩ := hd
  refine ⟨⟨D.gone, by rw [Lib.cell_of_heap hb]; rfl⟩, ⟨ar, by rw [Lib.cell_of_heap hb]; rfl⟩, Lib.frozen_of_heap hb 2, Lib.frozen_of_heap hb 3, S, ⟨mv, false, lf, ps, ?_, hS, hfs, .inl ⟨rfl, rfl⟩, hfl.keep fun k x hx hk hne => ?_⟩, fun k hk => .inl hk, ((Fr.refl S w).setCell (p := ⟨b, 2, none⟩) (.inl hS) _).setCell (p := ⟨b, 3, none⟩) (.inl hS) _⟩
  · simp [World.setCell, Array.getElem?_modify, hb]
  · have hkb : k ≠ b := by
      rintro rfl
      rw [hb] at hx
      cases hx
      exact not65 hne (by decide) rfl
    rw [Below.heap_setCell _ _ _ k hkb, Below.heap_setCell _ _ _ k hkb]
    exact hx
theorem OwnS.through {w w0 w1 w2 : World} {b m1 : Nat} {mv : Option Nat} {v vo : Value} {names : List (List UInt8)} {lo : List UInt8} {cs : Array Value} (h : OwnS w 0 v names) (hb : Below w.heap.size w w0) (hvo : OwnB w0 0 vo lo) (hg : w0.grownBy w1 vo.ownBlock)
    (hc : w1.heap[b]? = some (.cells cs 86 (0, 0))) (hm : mv = none ∨ ∃ m es c, mv = some m ∧ w1.heap[m]? = some (.map es c)) (hf : Fr (fun k => k = b ∨ mv = some k) w1 w2) : OwnS w2 0 v names := by
  have h0 : OwnS w0 0 v names := h.keep fun k cs hk => hb.block k (Array.getElem?_eq_some_iff.1 hk).1
  have h1 : OwnS w1 0 v names := h0.keep fun k cs hk => hg.block k (Array.getElem?_eq_some_iff.1 hk).1 (hvo.ne_block hk (fun cs' e => by injection e with _ e2; exact absurd e2 (by decide)))
  refine h1.keep fun k cs' hk => hf.block k (Array.getElem?_eq_some_iff.1 hk).1 ?_
  rintro (rfl | e)
  · rw [hc] at hk
    injection hk with hk
    injection hk with _ e2
    exact absurd e2 (by decide)
  · rcases hm with q | ⟨m, es, c, q, hq⟩
    · rw [q] at e; cases e
    · rw [q] at e
      injection e with e
      subst e
      rw [hq] at hk
      cases hk
theorem AtB.map {w0 W : World} {b m : Nat} {gone ar : Bool} {lf : Int} {room : Nat} {ps : List FV} {S : Nat → Prop} {nm : List UInt8} (h : AtB w0 W b (some m) gone ar lf room ps S nm) : MapAt W m ps := by
  rcases h.files.map with ⟨e, _⟩ | ⟨m', e, _, hm⟩
  · cases e
  · injection e with e; subst e; exact hm
theorem put_same {w : World} {b m k : Nat} {r0 r2 r3 r4 : Value} {ps : List FV} {nm : List UInt8} (p : FV) (hp : p.1.name = nm) {A : Option Addr} {n c : Nat} (hA : p.2 = .slice A n c) {u v : Value}
    (hb : w.heap[b]? = some (.cells #[r0, .map (some m), r2, r3, r4] 86 (0, 0))) (hm : MapAt w m ps) (hn : nm.length ≤ maxLen) (hl : ps.length ≤ 1000) (hk : w.heap[k]? = some (.cells #[u, v] 65 (0, 0))) :
    Calls Tryz.prog 46 #[.pointer (some ⟨b, 0, none⟩), .string (str nm), .agg #[.slice A n c, .int .i64 (p.1.sure : Nat)]] w fun e w' => e = .returned (.tuple #[]) ∧
      (w'.cell? ⟨b, 1, none⟩ = some (.map (some m)) ∧ w'.cell? ⟨k, 0, none⟩ = some u ∧ w'.cell? ⟨k, 1, none⟩ = some v) ∧
      ∃ m', w'.heap[b]? = some (.cells #[r0, .map (some m'), r2, r3, r4] 86 (0, 0)) ∧ MapAt w' m' (putF p (dropF nm ps)) ∧ Fr (fun k => k = b ∨ some m = some k) w w' ∧ (some m = some m' ∨ (w.heap.size ≤ m' ∧ m' < w'.heap.size)) := by
  refine (put_some p hp hA hb hm hn hl).mono ?_
  rintro e w' ⟨he, h1, h2, h3⟩
  have hkm : k ≠ m := by
    rintro rfl
    obtain ⟨es, cc, q⟩ := hm.block
    rw [hk] at q
    cases q
  have hk' := (h3.block k (Array.getElem?_eq_some_iff.1 hk).1 hkm).trans hk
  exact ⟨he, ⟨by rw [Lib.cell_of_heap h1]; rfl, by rw [Lib.cell_of_heap hk']; rfl, by rw [Lib.cell_of_heap hk']; rfl⟩, m, h1, h2, ⟨h3.os, h3.tape, h3.output, h3.size, fun k hk hs => h3.block k hk fun q => hs (.inr (by rw [q]))⟩, .inl rfl⟩
set_option maxHeartbeats 4000000 in
set_option maxRecDepth 100000 in
theorem crash_act (b : Nat) (l : List PlainDisk.Left) (vl : Value) (F : Nat → Prop) (D : Disk) (S : Nat → Prop) (w : World) (hd : DiskIs w b D S) (hF : Fine D) (hl : LAt w vl l F) (hFS : ∀ k, F k → k < w.heap.size ∧ ¬ S k) :
    Calls Tryz.prog 15 #[.pointer (some ⟨b, 0, none⟩), vl] w fun e w' => e = .returned (.tuple #[]) ∧ DiskTo w w' b (PlainDisk.crash D l) S := by
  have HD := Lib.hid hd
  have HSRT := Lib.hid hF.inv.sorted
  have hmany := hF.inv.many
  have C0 := Lib.hid (files_is hd hF.inv.sorted (by omega))
  obtain ⟨A, c, rfl, l1, l2, l3, l4⟩ := id hl
  have HL := Lib.hid hl
  have hnl : (D.fs.map (·.name)).length = D.fs.length := by simp
  have HNL := Lib.hid hnl
  have hnm : ∀ (i : Nat) (f : File), D.fs[i]? = some f → (D.fs.map (·.name))[i]? = some f.name := fun i f h => by rw [List.getElem?_map, h]; rfl
  have HNM := Lib.hid hnm
  have HFN := Lib.hid hF
  generalize D.fs.map (·.name) = names at *
  clear hd hl l3 l4 hnl hnm
  go_enter Tryz.func15, Tryz.ntmps15
  go_wp2_with fail
  refine C0.out.mono ?_
  rintro e w1 ⟨v, rfl, hown, hb1⟩
  obtain ⟨Av, cv, rfl, v1, v2⟩ := hown.slice
  rw [HNL.out] at *
  have HB1 := Lib.hid hb1
  have HOW := Lib.hid hown.zero
  clear hown hb1
  go_wp2_with fail
  go_loopw [12] (fun iV wr => ∃ i : Nat, iV = .int .i64 (i : Nat) ∧ i ≤ D.fs.length ∧ DiskTo w wr b { D with fs := crashI i D.fs l } S ∧ OwnS wr 0 (.slice Av D.fs.length cv) names) (fun iV _ => D.fs.length - (numOf iV).toNat)
  case atStart => exact ⟨0, rfl, by omega, by rw [crashI_zero]; exact HD.out.stays.andBelow HB1.out, HOW.out⟩
  case round =>
    obtain ⟨i, rfl, hi, hto, how⟩ := hrel
    have HTO := Lib.hid hto
    have HOS := Lib.hid how
    clear hto how
    by_cases hlt : i < D.fs.length
    · obtain ⟨f, hf⟩ : ∃ f, D.fs[i]? = some f := ⟨_, List.getElem?_eq_getElem hlt⟩
      obtain ⟨g, c', hq, hg2⟩ := HOS.out.at (HNM.out i f hf)
      have hg1 : Av = some ⟨g, 0, none⟩ := by injection hq
      clear hq
      have HFL := Lib.hid hf
      have hwr : LAt wr (.slice A l.length c) l F := HL.out.keep fun k hk => by
        obtain ⟨S1, _, _, hfr⟩ := HTO.out
        exact hfr.block k (hFS k hk).1 (hFS k hk).2
      subst hg1
      have hx : ∃ x : PlainDisk.Left, x = l[i]?.getD dark ∧ -9223372036854775808 ≤ x.keep ∧ x.keep ≤ 9223372036854775807 ∧ ((l.length ≤ i ∧ x = dark) ∨ (i < l.length ∧ ∃ k off, A = some ⟨k, off, none⟩ ∧ wr.cell? ⟨k, off + i * 2, none⟩ = some (.int .i64 x.keep) ∧ wr.cell? ⟨k, off + i * 2 + 1, none⟩ = some (.bool x.zero))) := by
        refine ⟨_, rfl, ?_⟩
        obtain ⟨A', c', e1, _, _, e2, e3⟩ := hwr
        have e1 : A = A' := by injection e1
        subst e1
        by_cases hil : i < l.length
        · rw [List.getElem?_eq_getElem hil]
          show _ ≤ l[i].keep ∧ _
          obtain ⟨k, off, q1, _, q3⟩ := e3 (fun e => by rw [e] at hil; simp at hil)
          obtain ⟨r1, r2⟩ := q3 i l[i] (List.getElem?_eq_getElem hil)
          exact ⟨(e2 _ (List.getElem_mem hil)).1, (e2 _ (List.getElem_mem hil)).2, .inr ⟨hil, k, off, q1, r1, r2⟩⟩
        · rw [List.getElem?_eq_none (by omega)]
          exact ⟨by decide, by decide, .inl ⟨by omega, rfl⟩⟩
      obtain ⟨x, hxe, x0, x1, hxc⟩ := hx
      have HXE := Lib.hid hxe
      clear hxe hf hwr
      have hzw : (wr.alloc (.cells #[.int .i64 x.keep, .bool x.zero] 65)).heap.size = wr.heap.size + 1 := by simp
      have hto2 := HTO.out.andBelow ((Below.refl wr.heap.size wr).alloc (Nat.le_refl _) (.cells #[.int .i64 x.keep, .bool x.zero] 65))
      have hbx := heap_alloc_new wr (.cells #[.int .i64 x.keep, .bool x.zero] 65)
      have hbl : Below wr.heap.size wr (wr.alloc (.cells #[.int .i64 x.keep, .bool x.zero] 65)) := (Below.refl wr.heap.size wr).alloc (Nat.le_refl _) _
      obtain ⟨W0, hW0⟩ : ∃ W0, W0 = wr.alloc (.cells #[.int .i64 x.keep, .bool x.zero] 65) := ⟨_, rfl⟩
      rw [← hW0] at hzw hto2 hbx hbl
      obtain ⟨S1, hd1, hu1, hfr1⟩ := hto2
      obtain ⟨mv, ar, lf, ps1, hb1, hS1, hfs1, har1, hfl1⟩ := hd1
      have hfs1 : crashI i D.fs l = ps1.map (·.1) := hfs1
      have hAT : At W0 W0 b mv D.gone ar lf D.room ps1 S1 := ⟨hb1, hfl1, Fr.refl S1 W0⟩
      have hfind := crashI_find HSRT.out HFL.out l
      rw [hfs1, ← findV_fst] at hfind
      obtain ⟨p, hp, hpf⟩ := Option.map_eq_some_iff.1 hfind
      have hpm := findV_mem hp
      obtain ⟨m, rfl, hmap1⟩ := hfl1.some hpm
      obtain ⟨Ap, cp, hAp, p1, p2, _⟩ := (hfl1.bytes p hpm).slice
      subst hpf
      obtain ⟨z1, z2⟩ := HFN.out.small (List.mem_of_getElem? HFL.out)
      have hcl : ps1.length ≤ 1000 := by
        have := congrArg List.length hfs1
        rw [List.length_map, ← List.length_map (f := (·.name)), crashI_names, List.length_map] at this
        omega
      have hnml : p.1.name.length ≤ maxLen := strKeys_le hmap1 Tryz.underlying9 p.1.name (by rw [enc_keys]; exact List.mem_map_of_mem hpm)
      have HC := Lib.hid hAT.cells
      have HM := Lib.hid hfl1.maps
      have HBX := Lib.hid hbx
      have SK := Lib.hid (fun (W : World) (q1 : W.heap[b]? = some (.cells #[.int .i64 (D.room : Nat), .map (some m), .bool D.gone, .bool ar, .int .i64 lf] 86 (0, 0))) (q3 : W.heap[wr.heap.size]? = some (.cells #[.int .i64 x.keep, .bool x.zero] 65 (0, 0))) =>
        (show W.cell? ⟨b, 1, none⟩ = some (.map (some m)) ∧ W.cell? ⟨wr.heap.size, 0, none⟩ = some (.int .i64 x.keep) ∧ W.cell? ⟨wr.heap.size, 1, none⟩ = some (.bool x.zero) from
          ⟨by rw [Lib.cell_of_heap q1]; rfl, by rw [Lib.cell_of_heap q3]; rfl, by rw [Lib.cell_of_heap q3]; rfl⟩))
      have hlk : (Instr.lookup 84 (.map (some m)) (.string (str p.1.name)) false).run Tryz.prog W0.drew = .ok (.agg #[.slice Ap p.1.bytes.length cp, .int .i64 (p.1.sure : Nat)]) W0.drew := by
        have := files_look (w := W0.drew) hAT.drew.files.maps hnml false
        rw [if_neg (by simp), hp, valAt_some, hAp] at this
        exact this
      have hown0 := hfl1.bytes p hpm
      rw [hAp] at hown0
      have CP := Lib.hid (fun (W : World) (h : Below W0.heap.size W0 W) => crashed_any p.1 x (w := W) (hown0.keep fun g hg => h.block g (hown0.lt g hg).2) z1 z2)
      have hmine := hfl1.mine p hpm
      have hapart : ∀ q ∈ ps1, q.1.name ≠ p.1.name → p.2.ownBlock = none ∨ p.2.ownBlock ≠ q.2.ownBlock := fun q hq hne => hfl1.apart p hpm q hq (fun e => hne e.symm)
      rw [hAp] at hmine hapart
      have GR := Lib.hid (fun (w8 : World) (hg : W0.drew.grownBy w8 (Value.slice Ap p.1.bytes.length cp).ownBlock) => hAT.drew.grown (nm := p.1.name) hown0 hmine hapart hg)
      have BX := Lib.hid (fun (w8 : World) (hg : W0.drew.grownBy w8 (Value.slice Ap p.1.bytes.length cp).ownBlock) => ((hg.block wr.heap.size (Array.getElem?_eq_some_iff.1 hbx).1 (hown0.ne_block hbx (fun cs e => by injection e with _ e2; exact absurd e2 (by decide)))).trans hbx : w8.heap[wr.heap.size]? = some (.cells #[.int .i64 x.keep, .bool x.zero] 65 (0, 0))))
      have PP := Lib.hid (fun (w8 : World) (A8 : Option Addr) (c8 : Nat) (h : AtB W0 w8 b (some m) D.gone ar lf D.room ps1 S1 p.1.name) (hbk : w8.heap[wr.heap.size]? = some (.cells #[.int .i64 x.keep, .bool x.zero] 65 (0, 0))) => put_same (nm := p.1.name) (PlainDisk.crashF x p.1, .slice A8 (PlainDisk.crashF x p.1).bytes.length c8) rfl rfl h.cells (h.map) hnml hcl hbk)
      have hupd : crashI (i + 1) D.fs l = PlainDisk.put (PlainDisk.crashF x p.1) (PlainDisk.drop (ps1.map (·.1)) p.1.name) := by
        rw [← crashI_step HSRT.out HFL.out l, ← HXE.out, ← hfs1]
        exact (put_upd (t := PlainDisk.crashF x) (crashI_sorted HSRT.out i l) (fun _ => rfl) (crashI_find HSRT.out HFL.out l)).symm
      have FIN := Lib.hid (fun (w8 w9 : World) (A8 : Option Addr) (c8 : Nat) (h : AtB W0 w8 b (some m) D.gone ar lf D.room ps1 S1 p.1.name) (hv : OwnB w8 0 (.slice A8 (PlainDisk.crashF x p.1).bytes.length c8) (PlainDisk.crashF x p.1).bytes)
        (ha : (Value.slice A8 (PlainDisk.crashF x p.1).bytes.length c8).ownBlock = (Value.slice Ap p.1.bytes.length cp).ownBlock ∨ ∀ g, (Value.slice A8 (PlainDisk.crashF x p.1).bytes.length c8).ownBlock = some g → W0.drew.heap.size ≤ g) hput =>
        (show DiskTo w w9 b { D with fs := crashI (i + 1) D.fs l } S from DiskTo.go hu1 hfr1 ((h.mono (S' := Up S1 W0 w8) (fun k hk => .inl hk)).put (f := PlainDisk.crashF x p.1) (D' := { D with fs := crashI (i + 1) D.fs l }) (.inl hS1) (fun k hk => hk) hput hv
          (fun g hg => by
            rcases ha with e | e
            · exact .inl (hmine g (e.symm.trans hg))
            · exact .inr ⟨e g hg, (hv.lt g hg).2⟩)
          (fun q hq hne => by
            rcases ha with e | e
            · rw [e]; exact hapart q hq hne
            · cases e8 : (Value.slice A8 (PlainDisk.crashF x p.1).bytes.length c8).ownBlock with
              | none => exact .inl rfl
              | some g =>
                refine .inr fun e2 => ?_
                have h1 : W0.heap.size ≤ g := e g e8
                have h2 := ((hfl1.bytes q hq).lt g e2.symm).2
                omega)
          rfl rfl har1 hupd)))
      have OWS := Lib.hid (fun (w8 w9 : World) (hg : W0.drew.grownBy w8 (Value.slice Ap p.1.bytes.length cp).ownBlock) (h : AtB W0 w8 b (some m) D.gone ar lf D.room ps1 S1 p.1.name) (hf : Fr (fun k => k = b ∨ (some m) = some k) w8 w9) =>
        (HOS.out.through (m1 := 0) hbl hown0 (show W0.grownBy w8 (Value.slice Ap p.1.bytes.length cp).ownBlock from ⟨hg.os, hg.tape, hg.output, hg.size, hg.block⟩) h.cells (by
          rcases h.files.map with ⟨e, _⟩ | ⟨m, e, _, hm⟩
          · exact .inl e
          · obtain ⟨es, cc, q⟩ := hm.block
            exact .inr ⟨m, es, cc, e, q⟩) hf))
      clear hAT hmap1 hfl1 hown0 hmine hapart hupd hbx hb1 hfs1 hfind hnml hAp hp hpm
      rcases hxc with ⟨hil, hxd⟩ | ⟨hil, k, off, rfl, d0, d1⟩
      · have hW1 : wr.alloc (.cells #[.int .i64 0, .bool false] 65) = W0 := by rw [hW0, hxd]; rfl
        have HW1 := Lib.hid hW1
        have hil2 : (l.length : Int) ≤ (i : Int) := by omega
        clear hW0 hW1 hxd
        go_wp2_with fail
        rw [HW1.out]
        have D0 : Hid (Below W0.heap.size W0 W0.drew) := Lib.hid (Below.refl _ W0).drew
        obtain ⟨e1, e2, e3⟩ := SK.out W0.drew HC.out HBX.out
        go_region_held3 (fun W => W.cell? ⟨b, 1, none⟩ = some (.map (some m)) ∧ W.cell? ⟨wr.heap.size, 0, none⟩ = some (.int .i64 x.keep) ∧ W.cell? ⟨wr.heap.size, 1, none⟩ = some (.bool x.zero))
          (first | exact ⟨e1, e2, e3⟩ | exact ⟨g1, g2, g3⟩ | exact h1)
          (first
            | (go_at_call 47; (with_reducible refine (CP.out _ D0.out).mono ?_); rintro e w8 ⟨A8, c8, rfl, hv8, hg8, ha8⟩; have AB := Lib.hid (GR.out w8 hg8); obtain ⟨g1, g2, g3⟩ := SK.out w8 AB.out.cells (BX.out w8 hg8); have BX8 := Lib.hid (BX.out w8 hg8); have HV := Lib.hid hv8; have HG := Lib.hid hg8; have HA := Lib.hid ha8; clear hv8 hg8 ha8)
            | (go_at_call 46; (with_reducible refine (PP.out w8 A8 c8 AB.out BX8.out).mono ?_); rintro e w9 ⟨rfl, h1, hput⟩; have HPT := Lib.hid hput; clear hput))
        all_goals
          have HK := Lib.hid (FIN.out w8 w9 A8 c8 AB.out HV.out HA.out HPT.out)
          have HOS2 := Lib.hid (OWS.out w8 w9 HG.out AB.out HPT.out.choose_spec.2.2.1)
          go_wp2_with fail
          go_roundw
          case rel => exact ⟨i + 1, rfl, by omega, HK.out, HOS2.out⟩
          case measure => simp [numOf]; omega
      · have HW1 := Lib.hid hW0
        have hkl : k < wr.heap.size := World.block_lt_of_cell? wr _ d0
        clear hW0
        go_wp2_with fail
        rw [← HW1.out]
        have D0 : Hid (Below W0.heap.size W0 W0.drew) := Lib.hid (Below.refl _ W0).drew
        obtain ⟨e1, e2, e3⟩ := SK.out W0.drew HC.out HBX.out
        go_region_held3 (fun W => W.cell? ⟨b, 1, none⟩ = some (.map (some m)) ∧ W.cell? ⟨wr.heap.size, 0, none⟩ = some (.int .i64 x.keep) ∧ W.cell? ⟨wr.heap.size, 1, none⟩ = some (.bool x.zero))
          (first | exact ⟨e1, e2, e3⟩ | exact ⟨g1, g2, g3⟩ | exact h1)
          (first
            | (go_at_call 47; (with_reducible refine (CP.out _ D0.out).mono ?_); rintro e w8 ⟨A8, c8, rfl, hv8, hg8, ha8⟩; have AB := Lib.hid (GR.out w8 hg8); obtain ⟨g1, g2, g3⟩ := SK.out w8 AB.out.cells (BX.out w8 hg8); have BX8 := Lib.hid (BX.out w8 hg8); have HV := Lib.hid hv8; have HG := Lib.hid hg8; have HA := Lib.hid ha8; clear hv8 hg8 ha8)
            | (go_at_call 46; (with_reducible refine (PP.out w8 A8 c8 AB.out BX8.out).mono ?_); rintro e w9 ⟨rfl, h1, hput⟩; have HPT := Lib.hid hput; clear hput))
        all_goals
          have HK := Lib.hid (FIN.out w8 w9 A8 c8 AB.out HV.out HA.out HPT.out)
          have HOS2 := Lib.hid (OWS.out w8 w9 HG.out AB.out HPT.out.choose_spec.2.2.1)
          go_wp2_with fail
          go_roundw
          case rel => exact ⟨i + 1, rfl, by omega, HK.out, HOS2.out⟩
          case measure => simp [numOf]; omega
    · have hie : i = D.fs.length := by omega
      subst hie
      obtain ⟨S1, q1, q2, q3⟩ := HTO.out
      obtain ⟨⟨x2, c2⟩, ⟨x3, c3⟩, f2, f3, hend⟩ := crash_end q1
      rw [crashI_all] at hend
      have HE : Hid (DiskTo w ((wr.setCell ⟨b, 2, none⟩ (.bool false)).setCell ⟨b, 3, none⟩ (.bool false)) b (PlainDisk.crash D l) S) := Lib.hid (DiskTo.go q2 q3 hend)
      clear hend q1 q2 q3
      go_wp2_with fail
      go_end0
      exact ⟨rfl, HE.out⟩
end Go.Proofs.YtjcikhacekmcfaaGreatDoor
namespace Go.Proofs.YtjcikhacekmcfaaGreatDoor
set_option maxRecDepth 20000
open Go.RowKit
open PlainDisk (File Disk)
set_option linter.unusedVariables false

/-! ### an act that came in -/
theorem DiskTo.before {w w0 w' : World} {b : Nat} {D : Disk} {S : Nat → Prop} (h : DiskTo w0 w' b D S) (hb : Below w.heap.size w w0) : DiskTo w w' b D S :=
  DiskTo.go (fun k hk => .inl hk) (Fr.of_below hb) h
theorem DiskIs.at0 {w w0 : World} {b : Nat} {D : Disk} {S : Nat → Prop} (h : DiskIs w b D S) (hb : Below w.heap.size w w0) : DiskIs w0 b D S :=
  h.frame fun k x hx _ => (hb.block k (Array.getElem?_eq_some_iff.1 hx).1).trans hx
theorem DiskIs.mine {w : World} {b : Nat} {D : Disk} {S : Nat → Prop} (h : DiskIs w b D S) : S b := by
  obtain ⟨mv, ar, lf, ps, hb, hS, _⟩ := h
  exact hS

end Go.Proofs.YtjcikhacekmcfaaGreatDoor
namespace Go.Proofs.YtjcikhacekmcfaaGreatDoor
set_option maxRecDepth 20000
open Go.RowKit
open PlainDisk (File Disk)
set_option linter.unusedVariables false

/-! ### acts keep what is fine -/
theorem write_room (d : Disk) (ok bad : List File) : (PlainDisk.write d ok bad).1.room = d.room := by unfold PlainDisk.write; split <;> rfl
theorem write_good (d : Disk) (ok bad : List File) (h : d.good ≤ 9223372036854775807) : (PlainDisk.write d ok bad).1.good ≤ 9223372036854775807 := by
  unfold PlainDisk.write
  split
  · exact h
  · dsimp only; split <;> omega
theorem step_room (d : Disk) (x : PlainDisk.Act) : (PlainDisk.step may d x).1.room = d.room := by
  unfold PlainDisk.step PlainDisk.append PlainDisk.sync PlainDisk.cut PlainDisk.move PlainDisk.dropA
  repeat' split
  all_goals first
    | rfl
    | exact write_room _ _ _
theorem step_good (d : Disk) (x : PlainDisk.Act) (h : d.good ≤ 9223372036854775807) (hx : x.n ≤ 9223372036854775807) : (PlainDisk.step may d x).1.good ≤ 9223372036854775807 := by
  unfold PlainDisk.step PlainDisk.append PlainDisk.sync PlainDisk.cut PlainDisk.move PlainDisk.dropA PlainDisk.arm PlainDisk.crash
  repeat' split
  all_goals first
    | exact h
    | exact write_good _ _ _ h
    | (dsimp only; omega)
    | (dsimp only; split <;> omega)
theorem fine_step {d : Disk} (hF : Fine d) {x : PlainDisk.Act} (hx : x.n ≤ 9223372036854775807) : Fine (PlainDisk.step may d x).1 :=
  ⟨PlainDisk.inv_step hF.inv x, by rw [step_room]; exact hF.room, step_good d x hF.good hx⟩
theorem fine_new (room : Nat) (h : room ≤ 1048576) : Fine (PlainDisk.new room) := ⟨PlainDisk.inv_new _ room, h, show (-1 : Int) ≤ 9223372036854775807 by decide⟩

/-! ### a disk in memory that is new since w -/
structure Ch (w wi : World) (b : Nat) (D : Disk) : Prop where
  is : ∃ S, DiskIs wi b D S ∧ ∀ k, S k → w.heap.size ≤ k ∧ k < wi.heap.size
  below : Below w.heap.size w wi
  fine : Fine D
theorem Ch.next {w wi w' : World} {b : Nat} {D : Disk} (h : Ch w wi b D) (hb : Below wi.heap.size wi w') : Ch w w' b D := by
  obtain ⟨⟨S, h1, h2⟩, h3, h4⟩ := h
  exact ⟨⟨S, h1.at0 hb, fun k hk => ⟨(h2 k hk).1, Nat.lt_of_lt_of_le (h2 k hk).2 hb.size⟩⟩, h3.trans (hb.mono h3.size), h4⟩
theorem Ch.to {w wi w' : World} {b : Nat} {D D' : Disk} (h : Ch w wi b D) {S : Nat → Prop} (hS : ∀ k, S k → w.heap.size ≤ k ∧ k < wi.heap.size) (ht : DiskTo wi w' b D' S) (hF : Fine D') : Ch w w' b D' := by
  obtain ⟨S', q1, q2, q3⟩ := ht
  refine ⟨⟨S', q1, fun k hk => ?_⟩, h.below.trans (q3.below (Nat.le_trans h.below.size (Nat.le_refl _)) (fun k hk => (hS k hk).1)), hF⟩
  rcases q2 k hk with q | q
  · exact ⟨(hS k q).1, Nat.lt_of_lt_of_le (hS k q).2 q3.size⟩
  · exact ⟨Nat.le_trans h.below.size q.1, q.2⟩
theorem Ch.ge {w wi : World} {b : Nat} {D : Disk} (h : Ch w wi b D) : w.heap.size ≤ b := by
  obtain ⟨⟨S, h1, h2⟩, _, _⟩ := h
  exact (h2 b h1.mine).1
theorem Ch.sorted {w wi : World} {b : Nat} {D : Disk} (h : Ch w wi b D) : PlainDisk.Sorted D.fs := h.fine.inv.sorted
section
variable {w wi : World} {b : Nat} {D : Disk}
theorem append_ch (h : Ch w wi b D) (nm bs : List UInt8) (vb : Value) (hnm : nm.length ≤ 281474976710656) (hvb : Src wi vb bs b) :
    Calls Tryz.prog 25 #[.pointer (some ⟨b, 0, none⟩), .string (str nm), vb] wi fun e w' => e = .returned (.int .i64 (PlainDisk.append may D nm bs).2) ∧ Ch w w' b (PlainDisk.append may D nm bs).1 := by
  obtain ⟨S, h1, h2⟩ := h.is
  refine (append_act b nm bs vb D S wi h1 h.fine hnm hvb).mono ?_
  rintro e w' ⟨rfl, ht⟩
  have hf := fine_step h.fine (x := ⟨0, nm, [], bs, 0, []⟩) (show (0 : Int) ≤ 9223372036854775807 by decide)
  exact ⟨rfl, h.to h2 ht hf⟩
theorem sync_ch (h : Ch w wi b D) (nm : List UInt8) (hnm : nm.length ≤ 281474976710656) :
    Calls Tryz.prog 162 #[.pointer (some ⟨b, 0, none⟩), .string (str nm)] wi fun e w' => e = .returned (.int .i64 (PlainDisk.sync may D nm).2) ∧ Ch w w' b (PlainDisk.sync may D nm).1 := by
  obtain ⟨S, h1, h2⟩ := h.is
  refine (sync_act b nm D S wi h1 h.fine hnm).mono ?_
  rintro e w' ⟨rfl, ht⟩
  have hf := fine_step h.fine (x := ⟨1, nm, [], [], 0, []⟩) (show (0 : Int) ≤ 9223372036854775807 by decide)
  exact ⟨rfl, h.to h2 ht hf⟩
theorem drop_ch (h : Ch w wi b D) (nm : List UInt8) (hnm : nm.length ≤ 281474976710656) :
    Calls Tryz.prog 133 #[.pointer (some ⟨b, 0, none⟩), .string (str nm)] wi fun e w' => e = .returned (.int .i64 (PlainDisk.dropA may D nm).2) ∧ Ch w w' b (PlainDisk.dropA may D nm).1 := by
  obtain ⟨S, h1, h2⟩ := h.is
  refine (drop_act b nm D S wi h1 h.fine hnm).mono ?_
  rintro e w' ⟨rfl, ht⟩
  have hf := fine_step h.fine (x := ⟨4, nm, [], [], 0, []⟩) (show (0 : Int) ≤ 9223372036854775807 by decide)
  exact ⟨rfl, h.to h2 ht hf⟩
theorem move_ch (h : Ch w wi b D) (nm to : List UInt8) (hnm : nm.length ≤ 281474976710656) (hto : to.length ≤ 281474976710656) :
    Calls Tryz.prog 163 #[.pointer (some ⟨b, 0, none⟩), .string (str nm), .string (str to)] wi fun e w' => e = .returned (.int .i64 (PlainDisk.move may D nm to).2) ∧ Ch w w' b (PlainDisk.move may D nm to).1 := by
  obtain ⟨S, h1, h2⟩ := h.is
  refine (move_act b nm to D S wi h1 h.fine hnm hto).mono ?_
  rintro e w' ⟨rfl, ht⟩
  have hf := fine_step h.fine (x := ⟨3, nm, to, [], 0, []⟩) (show (0 : Int) ≤ 9223372036854775807 by decide)
  exact ⟨rfl, h.to h2 ht hf⟩
theorem arm_ch (h : Ch w wi b D) (n : Int) (n0 : -9223372036854775808 ≤ n) (n1 : n ≤ 9223372036854775807) :
    Calls Tryz.prog 18 #[.pointer (some ⟨b, 0, none⟩), .int .i64 n] wi fun e w' => e = .returned (.tuple #[]) ∧ Ch w w' b (PlainDisk.arm D n) := by
  obtain ⟨S, h1, h2⟩ := h.is
  refine (arm_any b n D S wi h1 n0 n1).mono ?_
  rintro e w' ⟨rfl, ht⟩
  have hf := fine_step h.fine (x := ⟨5, [], [], [], n, []⟩) n1
  exact ⟨rfl, h.to h2 ht hf⟩
theorem crash_ch {w' : World} (h : Ch w wi b D) (hb : Below wi.heap.size wi w') (l : List PlainDisk.Left) (vl : Value) (F : Nat → Prop) (hvl : LAt w' vl l F) (hF : ∀ k, F k → k < w'.heap.size ∧ (k < w.heap.size ∨ wi.heap.size ≤ k)) :
    Calls Tryz.prog 15 #[.pointer (some ⟨b, 0, none⟩), vl] w' fun e w2 => e = .returned (.tuple #[]) ∧ Ch w w2 b (PlainDisk.crash D l) := by
  obtain ⟨S, h1, h2⟩ := h.is
  have h3 : ∀ k, S k → w.heap.size ≤ k ∧ k < w'.heap.size := fun k hk => ⟨(h2 k hk).1, Nat.lt_of_lt_of_le (h2 k hk).2 hb.size⟩
  refine (crash_act b l vl F D S w' (h1.at0 hb) h.fine hvl fun k hk => ⟨(hF k hk).1, fun q => by have := h2 k q; have := (hF k hk).2; omega⟩).mono ?_
  rintro e w2 ⟨rfl, ht⟩
  have hf := fine_step h.fine (x := ⟨6, [], [], [], 0, l⟩) (show (0 : Int) ≤ 9223372036854775807 by decide)
  exact ⟨rfl, (h.next hb).to h3 ht hf⟩
theorem new_ch (room : Nat) (w : World) (h : room ≤ 1048576) :
    Calls Tryz.prog 10 #[.int .i64 (room : Nat)] w fun e w' => e = .returned (.pointer (some ⟨w.heap.size, 0, none⟩)) ∧ Ch w w' w.heap.size (PlainDisk.new room) := by
  refine (new_yes room w h).mono ?_
  rintro e w' ⟨rfl, h1, h2⟩
  exact ⟨rfl, ⟨_, h1, fun k hk => hk⟩, h2, fine_new room h⟩
theorem read_ch (h : Ch w wi b D) (nm : List UInt8) (hnm : nm.length ≤ 281474976710656) :
    Calls Tryz.prog 55 #[.pointer (some ⟨b, 0, none⟩), .string (str nm)] wi fun e w' => Below wi.heap.size wi w' ∧ ((PlainDisk.find D.fs nm = none ∧ e = .returned (.tuple #[.slice none 0 0, .int .i64 10])) ∨ ∃ f v, PlainDisk.find D.fs nm = some f ∧ e = .returned (.tuple #[v, .int .i64 0]) ∧ OwnB w' wi.heap.size v f.bytes) := by
  obtain ⟨S, ⟨mv, ar, lf, ps, hb, hS, hfs, har, hfl⟩, h2⟩ := h.is
  refine (read_any (nm := nm) hb hfl.maps hfl.bytes (fun p hp => (h.fine.small (f := p.1) (by rw [hfs]; exact List.mem_map_of_mem hp)).1) hnm).mono ?_
  rintro e w' ⟨hbw, hc⟩
  refine ⟨hbw, ?_⟩
  rw [hfs, ← findV_fst]
  rcases hc with ⟨e1, e2⟩ | ⟨p, v, e1, e2, e3⟩
  · exact .inl ⟨by rw [e1]; rfl, e2⟩
  · exact .inr ⟨p.1, v, by rw [e1]; rfl, e2, e3⟩
def sureOf (D : Disk) (nm : List UInt8) : Nat := ((PlainDisk.find D.fs nm).map (·.sure)).getD 0
theorem sure_ch (h : Ch w wi b D) (nm : List UInt8) (hnm : nm.length ≤ 281474976710656) :
    Calls Tryz.prog 56 #[.pointer (some ⟨b, 0, none⟩), .string (str nm)] wi fun e w' => e = .returned (.int .i64 (sureOf D nm : Nat)) ∧ wi = w' := by
  obtain ⟨S, ⟨mv, ar, lf, ps, hb, hS, hfs, har, hfl⟩, h2⟩ := h.is
  refine (sure_any (nm := nm) hb hfl.maps hfl.sl hnm).mono ?_
  rintro e w' ⟨rfl, rfl⟩
  refine ⟨?_, rfl⟩
  unfold sureOf
  rw [hfs, ← findV_fst, Option.map_map]; rfl
theorem used_ch (h : Ch w wi b D) :
    Calls Tryz.prog 53 #[.pointer (some ⟨b, 0, none⟩)] wi fun e w' => e = .returned (.int .i64 (PlainDisk.used D.fs : Nat)) ∧ Below wi.heap.size wi w' := by
  obtain ⟨S, ⟨mv, ar, lf, ps, hb, hS, hfs, har, hfl⟩, h2⟩ := h.is
  have h3 := h.fine.inv.sorted
  have h4 := h.fine.inv.room
  have h5 := h.fine.room
  rw [hfs] at h3 h4 ⊢
  exact used_files hb hfl.maps (names_of_sorted h3) hfl.slices (by omega)
theorem files_ch (h : Ch w wi b D) :
    Calls Tryz.prog 45 #[.pointer (some ⟨b, 0, none⟩)] wi fun e w' => ∃ v, e = .returned v ∧ OwnS w' wi.heap.size v (D.fs.map (·.name)) ∧ Below wi.heap.size wi w' := by
  obtain ⟨S, h1, h2⟩ := h.is
  exact files_is h1 h.fine.inv.sorted (by have := h.fine.inv.many; omega)
theorem down_ch (h : Ch w wi b D) :
    Calls Tryz.prog 35 #[.pointer (some ⟨b, 0, none⟩)] wi fun e w' => e = .returned (.bool D.gone) ∧ wi = w' := by
  obtain ⟨S, ⟨mv, ar, lf, ps, hb, hS, hfs, har, hfl⟩, h2⟩ := h.is
  exact down_any hb
end
end Go.Proofs.YtjcikhacekmcfaaGreatDoor
