import Derived.Test.YtggndipfholllaaKj
import Derived.IntWalk
namespace Go.Proofs.Ytggndipfholllaa
open Go.RowKit
open PlainDisk (File Disk Left)
set_option linter.unusedVariables false
theorem wrap_room (a b : Nat) (ha : a ≤ 1048576) (hb : b ≤ 1048576) : IntKind.i64.wrap ((a : Int) - (b : Int)) = (a : Int) - (b : Int) := by
  exact IntWalk.i64_in _ (by omega)

set_option maxHeartbeats 2000000 in
set_option maxRecDepth 100000 in
theorem append_full (b : Nat) (nm bs : List UInt8) (vb : Value) (D : Disk) (S : Nat → Prop) (w : World) (hd : DiskIs w b D S) (hF : Fine D) (hnm : nm.length ≤ 281474976710656) (hB : Src w vb bs b)
    (hbar : barCode D.gone nm = 0) (hmany : ¬ (PlainDisk.find D.fs nm = none ∧ 64 ≤ D.fs.length)) (hfull : D.room < PlainDisk.used D.fs + bs.length) :
    Calls Try.prog 25 #[.pointer (some ⟨b, 0, none⟩), .string (str nm), vb] w fun e w' => e = .returned (.int .i64 (PlainDisk.append may D nm bs).2) ∧ DiskTo w w' b (PlainDisk.append may D nm bs).1 S := by
  have hB0 := hB
  have HD := Lib.hid hd
  obtain ⟨mv, ar, lf, ps, hb, hS, hfs, har, hfl⟩ := hd
  have C0 := Lib.hid (check_any nm hb hnm)
  rw [hbar] at C0
  rw [append_good hbar, if_neg hmany]
  have hblt : b < w.heap.size := (Array.getElem?_eq_some_iff.1 hb).1
  have HAT := Lib.hid (show At w w b mv D.gone ar lf D.room ps S from ⟨hb, hfl, Fr.refl S w⟩)
  have hcl : ps.length ≤ 1000 := by have := hF.inv.many; rw [hfs, List.length_map] at this; omega
  obtain ⟨f1, f2⟩ := fileAt_len hF hfs nm
  have hroom := hF.room
  have hused := hF.inv.room
  have hsrt := hF.inv.sorted
  obtain ⟨A, c, hA, k1, k2, k3⟩ := (fileAt_own hfl nm).slice
  have HLK := Lib.hid (fun (W : World) (h : At w W b mv D.gone ar lf D.room ps S) => look_at h hnm)
  rw [valOf, hA] at HLK
  have HUS := Lib.hid (fun (W : World) (h : At w W b mv D.gone ar lf D.room ps S) => used_at h (by rw [← hfs]; exact hsrt) (by rw [← hfs]; omega))
  rw [← hfs] at HUS
  have HFL := Lib.hid (fileAt_own hfl nm)
  have hfn := fileAt_name ps nm
  have hff := fun x => fileAt_fs (ps := ps) (by rw [← hfs]; exact hsrt) nm x
  rw [← hfs] at hff
  have hfm := fileAt_mine hfl nm
  have hfa := fileAt_apart hfl nm
  obtain ⟨Ab, cb, rfl, j1, j2, j3⟩ := hB0.lies
  generalize hFV : fileAt ps nm = P at *
  generalize hUU : PlainDisk.used D.fs = U at *
  have hcase : (findV ps nm).isSome = true ∨ ((findV ps nm).isSome = false ∧ (ps.length : Int) < 64) := by
    have e := findV_fst ps nm
    rw [← hfs] at e
    cases h : findV ps nm with
    | some p => exact .inl rfl
    | none =>
      rw [h] at e
      refine .inr ⟨rfl, ?_⟩
      have : ¬ 64 ≤ D.fs.length := fun q => hmany ⟨e.symm, q⟩
      rw [hfs, List.length_map] at this
      omega
  rw [if_pos hfull]
  have hfull2 : (D.room : Int) - (U : Int) < (bs.length : Int) := by omega
  dsimp only
  rcases hcase with hfd | ⟨hfd, h64⟩
  all_goals
    rw [hfd] at HLK
    clear hb hfl hfs hfd hfull hff hfm hfa hmany f1 f2 hA k3 j3 hsrt hFV hUU
    go_enter Try.func25, Try.ntmps25
    go_wp2_with fail
    refine C0.out.mono ?_
    rintro e w1 ⟨rfl, hb1⟩
    have HB1 := Lib.hid hb1
    have HX : Hid (Below w1.heap.size w1 (w1.alloc (.cells #[.slice A P.1.bytes.length c, .int .i64 (P.1.sure : Nat)] 71))) := Lib.hid ((Below.refl _ w1).alloc (Nat.le_refl _) _)
    have hat := HAT.out.below hb1
    have c1 : w1.cell? ⟨b, 1, none⟩ = some (.map mv) := by rw [Lib.cell_of_heap hat.cells]; rfl
    have hlk := HLK.out w1 hat
    have hat2 := hat.alloc (.cells #[.slice A P.1.bytes.length c, .int .i64 (P.1.sure : Nat)] 71)
    have c12 : (w1.alloc (.cells #[.slice A P.1.bytes.length c, .int .i64 (P.1.sure : Nat)] 71)).cell? ⟨b, 1, none⟩ = some (.map mv) := by rw [Lib.cell_of_heap hat2.cells]; rfl
    have hln := fun ty => files_len hat2.files.maps ty
    have HBX := Lib.hid (heap_alloc_new w1 (.cells #[.slice A P.1.bytes.length c, .int .i64 (P.1.sure : Nat)] 71))
    have hz1 : w.heap.size ≤ w1.heap.size := hb1.size
    have HB2 : Hid (Below w.heap.size w (w1.alloc (.cells #[.slice A P.1.bytes.length c, .int .i64 (P.1.sure : Nat)] 71))) := Lib.hid (hb1.alloc hb1.size _)
    have HZ2 : Hid ((w1.alloc (.cells #[.slice A P.1.bytes.length c, .int .i64 (P.1.sure : Nat)] 71)).heap.size = w1.heap.size + 1) := Lib.hid (by simp)
    have HAT2 := Lib.hid hat2
    clear hb1 hat hat2
    go_wp2_with fail
    generalize (w1.alloc (.cells #[.slice A P.1.bytes.length c, .int .i64 (P.1.sure : Nat)] 71)) = W0 at *
    clear hln c12 hlk c1
    have e1 : W0.drew.cell? ⟨b, 0, none⟩ = some (.int .i64 (D.room : Nat)) := Eq.trans (Lib.cell_of_heap HAT2.out.drew.cells _) rfl
    have CU := Lib.hid (fun (W : World) (h : Below W0.heap.size W0 W) => HUS.out W (HAT2.out.below h))
    have KS := Lib.hid (fun (W : World) (h : Below W0.heap.size W0 W) => (Eq.trans (Lib.cell_of_heap (HAT2.out.below h).cells _) rfl : W.cell? ⟨b, 0, none⟩ = some (.int .i64 (D.room : Nat))))
    have D0 : Hid (Below W0.heap.size W0 W0.drew) := Lib.hid (Below.refl _ W0).drew
    have hwr := wrap_room D.room U (by omega) (by omega)
    go_region_held3 (fun W => W.cell? ⟨b, 0, none⟩ = some (.int .i64 (D.room : Nat))) (first | exact e1 | exact g1)
      ((go_at_call 23; (with_reducible refine (CU.out _ D0.out).mono ?_); rintro e w8 ⟨rfl, hb8⟩; have B8 : Hid (Below W0.heap.size W0 w8) := Lib.hid (D0.out.trans hb8); clear hb8; have g1 := KS.out _ B8.out))
    all_goals
      go_wp2_with fail
      go_ret
      exact ⟨rfl, (HD.out.stays.andBelow HB1.out).andBelow ((show Below w1.heap.size w1 W0 from ⟨HX.out.os, HX.out.tape, HX.out.output, HX.out.size, HX.out.block⟩).trans (B8.out.mono (by have := HZ2.out; omega)))⟩
end Go.Proofs.Ytggndipfholllaa
namespace Go.Proofs.Ytggndipfholllaa
open Go.RowKit
open PlainDisk (File Disk Left)
set_option linter.unusedVariables false
def LenIs (l : List UInt8) (n : Nat) : Prop := l.length = n
theorem lies_take {w : World} {A : Option Addr} {c : Nat} {bs : List UInt8} (h : Lies w A c bs) (k : Nat) : Lies w A c (bs.take k) := by
  refine ⟨h.1, fun hne => ?_⟩
  obtain ⟨b', off, q1, q2⟩ := h.2 (fun e => hne (by rw [e]; simp))
  refine ⟨b', off, q1, fun j u hu => q2 j u ?_⟩
  rw [List.getElem?_take] at hu
  split at hu
  · exact hu
  · cases hu

set_option maxHeartbeats 4000000 in
set_option maxRecDepth 100000 in
theorem append_ok (b : Nat) (nm bs : List UInt8) (vb : Value) (D : Disk) (S : Nat → Prop) (w : World) (hd : DiskIs w b D S) (hF : Fine D) (hnm : nm.length ≤ 281474976710656) (hB : Src w vb bs b)
    (hbar : barCode D.gone nm = 0) (hmany : ¬ (PlainDisk.find D.fs nm = none ∧ 64 ≤ D.fs.length)) (hfull : ¬ D.room < PlainDisk.used D.fs + bs.length) (h0 : ¬ D.good = 0) :
    Calls Try.prog 25 #[.pointer (some ⟨b, 0, none⟩), .string (str nm), vb] w fun e w' => e = .returned (.int .i64 (PlainDisk.append may D nm bs).2) ∧ DiskTo w w' b (PlainDisk.append may D nm bs).1 S := by
  have hB0 := hB
  have HD := Lib.hid hd
  obtain ⟨mv, ar, lf, ps, hb, hS, hfs, har, hfl⟩ := hd
  have C0 := Lib.hid (check_any nm hb hnm)
  rw [hbar] at C0
  rw [append_good hbar, if_neg hmany]
  have hblt : b < w.heap.size := (Array.getElem?_eq_some_iff.1 hb).1
  have HAT := Lib.hid (show At w w b mv D.gone ar lf D.room ps S from ⟨hb, hfl, Fr.refl S w⟩)
  have hcl : ps.length ≤ 1000 := by have := hF.inv.many; rw [hfs, List.length_map] at this; omega
  obtain ⟨f1, f2⟩ := fileAt_len hF hfs nm
  have hroom := hF.room
  have hused := hF.inv.room
  have hsrt := hF.inv.sorted
  obtain ⟨A, c, hA, k1, k2, k3⟩ := (fileAt_own hfl nm).slice
  have HLK := Lib.hid (fun (W : World) (h : At w W b mv D.gone ar lf D.room ps S) => look_at h hnm)
  rw [valOf, hA] at HLK
  have HUS := Lib.hid (fun (W : World) (h : At w W b mv D.gone ar lf D.room ps S) => used_at h (by rw [← hfs]; exact hsrt) (by rw [← hfs]; omega))
  rw [← hfs] at HUS
  have HFL := Lib.hid (fileAt_own hfl nm)
  have hfn := fileAt_name ps nm
  have hff := fun x => fileAt_fs (ps := ps) (by rw [← hfs]; exact hsrt) nm x
  rw [← hfs] at hff
  have hfm := fileAt_mine hfl nm
  have hfa := fileAt_apart hfl nm
  have HFO := Lib.hid (fun (W : World) (h : FilesAt W mv ps S) => fileAt_own h nm)
  obtain ⟨Ab, cb, rfl, j1, j2, j3⟩ := hB0.lies
  have HBA := Lib.hid hB
  generalize hFV : fileAt ps nm = P at *
  generalize hUU : PlainDisk.used D.fs = U at *
  rw [hA] at HFO hfm hfa
  subst hfn
  have hcase : (findV ps P.1.name).isSome = true ∨ ((findV ps P.1.name).isSome = false ∧ (ps.length : Int) < 64) := by
    have e := findV_fst ps P.1.name
    rw [← hfs] at e
    cases h : findV ps P.1.name with
    | some p => exact .inl rfl
    | none =>
      rw [h] at e
      refine .inr ⟨rfl, ?_⟩
      have : ¬ 64 ≤ D.fs.length := fun q => hmany ⟨e.symm, q⟩
      rw [hfs, List.length_map] at this
      omega
  rw [if_neg hfull]
  unfold PlainDisk.write
  rw [if_neg h0]
  have HXL : Hid (LenIs bs bs.length) := Lib.hid rfl
  have hfull2 : (bs.length : Int) ≤ (D.room : Int) - (U : Int) := by omega
  have hln1 : P.1.bytes.length + bs.length ≤ 1048576 := by omega
  have HW := Lib.hid (fun (W : World) (h : At w W b mv D.gone ar lf D.room ps S) => write_at h hS har hF.good)
  simp only [h0, if_false] at HW
  have HSB := Lib.hid hS
  have HT := Lib.hid (fun (W w' : World) (v : Value) (S' : Nat → Prop) (h : AtB w W b mv D.gone ar (lfOf ar lf) D.room ps S' P.1.name) (hS' : S' b) (hu : ∀ k, S' k → Up S w W k) (hv : OwnB W 0 v (P.1.bytes ++ (bs))) (hmine : ∀ g, v.ownBlock = some g → S' g) (hap : ∀ q ∈ ps, q.1.name ≠ P.1.name → v.ownBlock = none ∨ v.ownBlock ≠ q.2.ownBlock) hput =>
    AtB.put (f := PlainDisk.grow (bs) P.1) (D' := { D with fs := PlainDisk.upd (PlainDisk.made D.fs P.1.name) P.1.name (PlainDisk.grow bs), good := if 0 < D.good then D.good - 1 else D.good }) (w' := w') (v := v) h hS' hu hput hv hmine hap rfl rfl (armed_next har h0) (by rw [← hfs]; exact (hff _).symm))
  have HP := Lib.hid (fun (W : World) (S' : Nat → Prop) (h : AtB w W b mv D.gone ar (lfOf ar lf) D.room ps S' P.1.name) (A' : Option Addr) (c' n' : Nat) => put_files (nm := P.1.name) (PlainDisk.grow (bs) P.1, .slice A' n' c') rfl rfl h.cells h.files.maps hnm hcl)
  have hsu : (PlainDisk.grow (bs) P.1).sure = P.1.sure := rfl
  simp only [hsu] at HP
  dsimp only
  generalize ({ D with fs := PlainDisk.upd (PlainDisk.made D.fs P.1.name) P.1.name (PlainDisk.grow bs), good := if 0 < D.good then D.good - 1 else D.good } : Disk) = D' at *
  rcases hcase with hfd | ⟨hfd, h64⟩
  all_goals
    rw [hfd] at HLK
    clear hb hfl hfs hfd hfull hff hmany f1 f2 hA k3 j3 hsrt hFV hUU hsu
    go_enter Try.func25, Try.ntmps25
    go_wp2_with fail
    refine C0.out.mono ?_
    rintro e w1 ⟨rfl, hb1⟩
    have HB1 := Lib.hid hb1
    have hat := HAT.out.below hb1
    have c1 : w1.cell? ⟨b, 1, none⟩ = some (.map mv) := by rw [Lib.cell_of_heap hat.cells]; rfl
    have hlk := HLK.out w1 hat
    have hat2 := hat.alloc (.cells #[.slice A P.1.bytes.length c, .int .i64 (P.1.sure : Nat)] 71)
    have c12 : (w1.alloc (.cells #[.slice A P.1.bytes.length c, .int .i64 (P.1.sure : Nat)] 71)).cell? ⟨b, 1, none⟩ = some (.map mv) := by rw [Lib.cell_of_heap hat2.cells]; rfl
    have hln := fun ty => files_len hat2.files.maps ty
    have HBX := Lib.hid (heap_alloc_new w1 (.cells #[.slice A P.1.bytes.length c, .int .i64 (P.1.sure : Nat)] 71))
    have hz1 : w.heap.size ≤ w1.heap.size := hb1.size
    have HB2 : Hid (Below w.heap.size w (w1.alloc (.cells #[.slice A P.1.bytes.length c, .int .i64 (P.1.sure : Nat)] 71))) := Lib.hid (hb1.alloc hb1.size _)
    have HZ2 : Hid ((w1.alloc (.cells #[.slice A P.1.bytes.length c, .int .i64 (P.1.sure : Nat)] 71)).heap.size = w1.heap.size + 1) := Lib.hid (by simp)
    have HAT2 := Lib.hid hat2
    clear hb1 hat hat2
    go_wp2_with fail
    generalize (w1.alloc (.cells #[.slice A P.1.bytes.length c, .int .i64 (P.1.sure : Nat)] 71)) = W0 at *
    clear hln c12 hlk c1
    have e1 : W0.drew.cell? ⟨b, 0, none⟩ = some (.int .i64 (D.room : Nat)) := Eq.trans (Lib.cell_of_heap HAT2.out.drew.cells _) rfl
    have CU := Lib.hid (fun (W : World) (h : Below W0.heap.size W0 W) => HUS.out W (HAT2.out.below h))
    have KS := Lib.hid (fun (W : World) (h : Below W0.heap.size W0 W) => (Eq.trans (Lib.cell_of_heap (HAT2.out.below h).cells _) rfl : W.cell? ⟨b, 0, none⟩ = some (.int .i64 (D.room : Nat))))
    have D0 : Hid (Below W0.heap.size W0 W0.drew) := Lib.hid (Below.refl _ W0).drew
    have hwr := wrap_room D.room U (by omega) (by omega)
    go_region_held3 (fun W => W.cell? ⟨b, 0, none⟩ = some (.int .i64 (D.room : Nat))) (first | exact e1 | exact g1)
      ((go_at_call 23; (with_reducible refine (CU.out _ D0.out).mono ?_); rintro e w8 ⟨rfl, hb8⟩; have B8 : Hid (Below W0.heap.size W0 w8) := Lib.hid (D0.out.trans hb8); clear hb8; have g1 := KS.out _ B8.out))
    all_goals
      go_wp2_with fail
      refine (HW.out _ (HAT2.out.below B8.out)).mono ?_
      rintro e w9 ⟨rfl, hw9, hat9⟩
      have hbox : w9.heap[w1.heap.size]? = some (.cells #[.slice A P.1.bytes.length c, .int .i64 (P.1.sure : Nat)] 71 (0, 0)) := by
        rw [hw9, armedW_other _ _ _ _ _ (by omega)]
        exact (B8.out.block _ (by have := HZ2.out; omega)).trans HBX.out
      have hba9 : Src w9 (.slice Ab bs.length cb) bs b := HBA.out.keep fun k hk hkb => by
        rw [hw9, armedW_other _ _ _ _ _ hkb, B8.out.block k (by have := HB2.out.size; omega)]
        exact HB2.out.block k hk
      obtain ⟨Ab', cb', eb, _, _, hl9⟩ := hba9.lies
      obtain ⟨rfl, rfl⟩ : Ab = Ab' ∧ cb = cb' := by injection eb with q1 q2 q3; exact ⟨q1, q3⟩
      have HL9 := Lib.hid (hl9)
      have HO9 := Lib.hid (HFO.out w9 hat9.files)
      have HA9 := Lib.hid hat9
      have a0 : w9.cell? ⟨w1.heap.size, 0, none⟩ = some (.slice A P.1.bytes.length c) := by rw [Lib.cell_of_heap hbox]; rfl
      have HB9 := Lib.hid hbox
      clear hba9 eb hl9 hbox hat9 hw9 g1
      go_wp2_with (at_builtin; (refine wp_appO rfl (.tmp 56) (.tmp 57) rfl _ P.1.bytes rfl HO9.out Ab bs.length cb (bs) rfl HL9.out (Eq.symm HXL.out) (by rw [show (bs).length = bs.length from HXL.out]; omega) (by rw [show (bs).length = bs.length from HXL.out]; omega) ?_))
      intro A' c' w10 hown hgrow hloc
      try rw [show (bs).length = bs.length from HXL.out] at hown hloc ⊢
      have hbox10 : w10.heap[w1.heap.size]? = some (.cells #[.slice A P.1.bytes.length c, .int .i64 (P.1.sure : Nat)] 71 (0, 0)) :=
        (hgrow.block _ (Array.getElem?_eq_some_iff.1 HB9.out).1 (HO9.out.ne_block HB9.out (fun cs e => by injection e with _ e2; exact absurd e2 (by decide)))).trans HB9.out
      have b0 : w10.cell? ⟨w1.heap.size, 0, none⟩ = some (.slice A P.1.bytes.length c) := by rw [Lib.cell_of_heap hbox10]; rfl
      have b1 : w10.cell? ⟨w1.heap.size, 1, none⟩ = some (.int .i64 (P.1.sure : Nat)) := by rw [Lib.cell_of_heap hbox10]; rfl
      have ff0 := Lib.frozen_of_heap hbox10 0
      have hlt10 : ∀ g, (Value.slice A' (P.1.bytes.length + bs.length) c').ownBlock = some g → g < w10.heap.size := fun g hg => (hown.lt g hg).2
      have hz9 := HA9.out.fr.size
      have HAB := Lib.hid (((HA9.out.grown HO9.out hfm hfa hgrow).box hbox10 (by decide) (by decide) hz1 0 (.slice A' (P.1.bytes.length + bs.length) c')).mono (S' := Up S w (w10.setCell ⟨w1.heap.size, 0, none⟩ (.slice A' (P.1.bytes.length + bs.length) c'))) (fun k hk => .inl hk))
      have HO11 : Hid (OwnB (w10.setCell ⟨w1.heap.size, 0, none⟩ (.slice A' (P.1.bytes.length + bs.length) c')) 0 (.slice A' (P.1.bytes.length + bs.length) c') (P.1.bytes ++ (bs))) := Lib.hid (hown.keep fun g hg => Below.heap_setCell _ _ _ g (by
        rintro rfl
        obtain ⟨cs, q⟩ := hown.block hg
        rw [hbox10] at q
        injection q with q
        injection q with _ e2
        exact absurd e2 (by decide)))
      have HMI : Hid (∀ g, (Value.slice A' (P.1.bytes.length + bs.length) c').ownBlock = some g → Up S w (w10.setCell ⟨w1.heap.size, 0, none⟩ (.slice A' (P.1.bytes.length + bs.length) c')) g) := Lib.hid (fun g hg => by
        rcases hloc with e | e
        · exact .inl (hfm g (e.symm.trans hg))
        · refine .inr ⟨?_, ?_⟩
          · rw [e] at hg
            injection hg with hg
            omega
          · have := hlt10 g hg
            simp only [World.setCell, Array.size_modify]
            exact this)
      have HAP : Hid (∀ q ∈ ps, q.1.name ≠ P.1.name → (Value.slice A' (P.1.bytes.length + bs.length) c').ownBlock = none ∨ (Value.slice A' (P.1.bytes.length + bs.length) c').ownBlock ≠ q.2.ownBlock) := Lib.hid (fun q hq hn => by
        rcases hloc with e | e
        · rw [e]; exact hfa q hq hn
        · refine .inr fun e2 => ?_
          rw [e] at e2
          have := ((HA9.out.files.bytes q hq).lt _ e2.symm).2
          omega)
      have HKP := Lib.hid (fun w' hput => HT.out _ w' _ _ HAB.out (.inl HSB.out) (fun k hk => hk) HO11.out HMI.out HAP.out hput)
      have HPP := Lib.hid (HP.out _ _ HAB.out A' c' (P.1.bytes.length + bs.length))
      clear hown hgrow hloc hbox10 hlt10 hz9 a0 e1
      go_wp2_with fail
      refine HPP.out.mono ?_
      rintro e w12 ⟨rfl, hput⟩
      have HK := Lib.hid (HKP.out w12 hput)
      clear hput
      go_wp2_with fail
      go_ret
      exact ⟨rfl, HK.out⟩
end Go.Proofs.Ytggndipfholllaa
namespace Go.Proofs.Ytggndipfholllaa
open Go.RowKit
open PlainDisk (File Disk Left)
set_option linter.unusedVariables false

set_option maxHeartbeats 4000000 in
set_option maxRecDepth 100000 in
theorem append_fail (b : Nat) (nm bs : List UInt8) (vb : Value) (D : Disk) (S : Nat → Prop) (w : World) (hd : DiskIs w b D S) (hF : Fine D) (hnm : nm.length ≤ 281474976710656) (hB : Src w vb bs b)
    (hbar : barCode D.gone nm = 0) (hmany : ¬ (PlainDisk.find D.fs nm = none ∧ 64 ≤ D.fs.length)) (hfull : ¬ D.room < PlainDisk.used D.fs + bs.length) (h0 : D.good = 0) :
    Calls Try.prog 25 #[.pointer (some ⟨b, 0, none⟩), .string (str nm), vb] w fun e w' => e = .returned (.int .i64 (PlainDisk.append may D nm bs).2) ∧ DiskTo w w' b (PlainDisk.append may D nm bs).1 S := by
  have hB0 := hB
  have HD := Lib.hid hd
  obtain ⟨mv, ar, lf, ps, hb, hS, hfs, har, hfl⟩ := hd
  have C0 := Lib.hid (check_any nm hb hnm)
  rw [hbar] at C0
  rw [append_good hbar, if_neg hmany]
  have hblt : b < w.heap.size := (Array.getElem?_eq_some_iff.1 hb).1
  have HAT := Lib.hid (show At w w b mv D.gone ar lf D.room ps S from ⟨hb, hfl, Fr.refl S w⟩)
  have hcl : ps.length ≤ 1000 := by have := hF.inv.many; rw [hfs, List.length_map] at this; omega
  obtain ⟨f1, f2⟩ := fileAt_len hF hfs nm
  have hroom := hF.room
  have hused := hF.inv.room
  have hsrt := hF.inv.sorted
  obtain ⟨A, c, hA, k1, k2, k3⟩ := (fileAt_own hfl nm).slice
  have HLK := Lib.hid (fun (W : World) (h : At w W b mv D.gone ar lf D.room ps S) => look_at h hnm)
  rw [valOf, hA] at HLK
  have HUS := Lib.hid (fun (W : World) (h : At w W b mv D.gone ar lf D.room ps S) => used_at h (by rw [← hfs]; exact hsrt) (by rw [← hfs]; omega))
  rw [← hfs] at HUS
  have HFL := Lib.hid (fileAt_own hfl nm)
  have hfn := fileAt_name ps nm
  have hff := fun x => fileAt_fs (ps := ps) (by rw [← hfs]; exact hsrt) nm x
  rw [← hfs] at hff
  have hfm := fileAt_mine hfl nm
  have hfa := fileAt_apart hfl nm
  have HFO := Lib.hid (fun (W : World) (h : FilesAt W mv ps S) => fileAt_own h nm)
  obtain ⟨Ab, cb, rfl, j1, j2, j3⟩ := hB0.lies
  have HBA := Lib.hid hB
  generalize hFV : fileAt ps nm = P at *
  generalize hUU : PlainDisk.used D.fs = U at *
  rw [hA] at HFO hfm hfa
  subst hfn
  have hcase : (findV ps P.1.name).isSome = true ∨ ((findV ps P.1.name).isSome = false ∧ (ps.length : Int) < 64) := by
    have e := findV_fst ps P.1.name
    rw [← hfs] at e
    cases h : findV ps P.1.name with
    | some p => exact .inl rfl
    | none =>
      rw [h] at e
      refine .inr ⟨rfl, ?_⟩
      have : ¬ 64 ≤ D.fs.length := fun q => hmany ⟨e.symm, q⟩
      rw [hfs, List.length_map] at this
      omega
  rw [if_neg hfull]
  unfold PlainDisk.write
  rw [if_pos h0]
  obtain ⟨m, hm⟩ : ∃ m, m = bs.length / 2 := ⟨_, rfl⟩
  rw [← hm]
  have hm1 : (bs.length : Int) / 2 = (m : Int) := by omega
  have hm2 : (m : Int) ≤ (bs.length : Int) := by omega
  have hm3 : (m : Int) ≤ (cb : Int) := by omega
  have hm4 : (0 : Int) ≤ (m : Int) := by omega
  have hm5 : m ≤ bs.length := by omega
  have HXL : Hid (LenIs (bs.take m) m) := Lib.hid (by show (bs.take m).length = m; rw [List.length_take]; omega)
  clear hm
  have hfull2 : (bs.length : Int) ≤ (D.room : Int) - (U : Int) := by omega
  have hln1 : P.1.bytes.length + bs.length ≤ 1048576 := by omega
  have HW := Lib.hid (fun (W : World) (h : At w W b mv D.gone ar lf D.room ps S) => write_at h hS har hF.good)
  simp only [h0, if_true] at HW
  have HSB := Lib.hid hS
  have HT := Lib.hid (fun (W w' : World) (v : Value) (S' : Nat → Prop) (h : AtB w W b mv true ar (lfOf ar lf) D.room ps S' P.1.name) (hS' : S' b) (hu : ∀ k, S' k → Up S w W k) (hv : OwnB W 0 v (P.1.bytes ++ (bs.take m))) (hmine : ∀ g, v.ownBlock = some g → S' g) (hap : ∀ q ∈ ps, q.1.name ≠ P.1.name → v.ownBlock = none ∨ v.ownBlock ≠ q.2.ownBlock) hput =>
    AtB.put (f := PlainDisk.grow (bs.take m) P.1) (D' := { D with fs := PlainDisk.upd (PlainDisk.made D.fs P.1.name) P.1.name (PlainDisk.grow (bs.take m)), gone := true }) (w' := w') (v := v) h hS' hu hput hv hmine hap rfl rfl (armed_stay har h0) (by rw [← hfs]; exact (hff _).symm))
  have HP := Lib.hid (fun (W : World) (S' : Nat → Prop) (h : AtB w W b mv true ar (lfOf ar lf) D.room ps S' P.1.name) (A' : Option Addr) (c' n' : Nat) => put_files (nm := P.1.name) (PlainDisk.grow (bs.take m) P.1, .slice A' n' c') rfl rfl h.cells h.files.maps hnm hcl)
  have hsu : (PlainDisk.grow (bs.take m) P.1).sure = P.1.sure := rfl
  simp only [hsu] at HP
  dsimp only
  generalize ({ D with fs := PlainDisk.upd (PlainDisk.made D.fs P.1.name) P.1.name (PlainDisk.grow (bs.take m)), gone := true } : Disk) = D' at *
  rcases hcase with hfd | ⟨hfd, h64⟩
  all_goals
    rw [hfd] at HLK
    clear hb hfl hfs hfd hfull hff hmany f1 f2 hA k3 j3 hsrt hFV hUU hsu
    go_enter Try.func25, Try.ntmps25
    go_wp2_with fail
    refine C0.out.mono ?_
    rintro e w1 ⟨rfl, hb1⟩
    have HB1 := Lib.hid hb1
    have hat := HAT.out.below hb1
    have c1 : w1.cell? ⟨b, 1, none⟩ = some (.map mv) := by rw [Lib.cell_of_heap hat.cells]; rfl
    have hlk := HLK.out w1 hat
    have hat2 := hat.alloc (.cells #[.slice A P.1.bytes.length c, .int .i64 (P.1.sure : Nat)] 71)
    have c12 : (w1.alloc (.cells #[.slice A P.1.bytes.length c, .int .i64 (P.1.sure : Nat)] 71)).cell? ⟨b, 1, none⟩ = some (.map mv) := by rw [Lib.cell_of_heap hat2.cells]; rfl
    have hln := fun ty => files_len hat2.files.maps ty
    have HBX := Lib.hid (heap_alloc_new w1 (.cells #[.slice A P.1.bytes.length c, .int .i64 (P.1.sure : Nat)] 71))
    have hz1 : w.heap.size ≤ w1.heap.size := hb1.size
    have HB2 : Hid (Below w.heap.size w (w1.alloc (.cells #[.slice A P.1.bytes.length c, .int .i64 (P.1.sure : Nat)] 71))) := Lib.hid (hb1.alloc hb1.size _)
    have HZ2 : Hid ((w1.alloc (.cells #[.slice A P.1.bytes.length c, .int .i64 (P.1.sure : Nat)] 71)).heap.size = w1.heap.size + 1) := Lib.hid (by simp)
    have HAT2 := Lib.hid hat2
    clear hb1 hat hat2
    go_wp2_with fail
    generalize (w1.alloc (.cells #[.slice A P.1.bytes.length c, .int .i64 (P.1.sure : Nat)] 71)) = W0 at *
    clear hln c12 hlk c1
    have e1 : W0.drew.cell? ⟨b, 0, none⟩ = some (.int .i64 (D.room : Nat)) := Eq.trans (Lib.cell_of_heap HAT2.out.drew.cells _) rfl
    have CU := Lib.hid (fun (W : World) (h : Below W0.heap.size W0 W) => HUS.out W (HAT2.out.below h))
    have KS := Lib.hid (fun (W : World) (h : Below W0.heap.size W0 W) => (Eq.trans (Lib.cell_of_heap (HAT2.out.below h).cells _) rfl : W.cell? ⟨b, 0, none⟩ = some (.int .i64 (D.room : Nat))))
    have D0 : Hid (Below W0.heap.size W0 W0.drew) := Lib.hid (Below.refl _ W0).drew
    have hwr := wrap_room D.room U (by omega) (by omega)
    go_region_held3 (fun W => W.cell? ⟨b, 0, none⟩ = some (.int .i64 (D.room : Nat))) (first | exact e1 | exact g1)
      ((go_at_call 23; (with_reducible refine (CU.out _ D0.out).mono ?_); rintro e w8 ⟨rfl, hb8⟩; have B8 : Hid (Below W0.heap.size W0 w8) := Lib.hid (D0.out.trans hb8); clear hb8; have g1 := KS.out _ B8.out))
    all_goals
      go_wp2_with fail
      refine (HW.out _ (HAT2.out.below B8.out)).mono ?_
      rintro e w9 ⟨rfl, hw9, hat9⟩
      have hbox : w9.heap[w1.heap.size]? = some (.cells #[.slice A P.1.bytes.length c, .int .i64 (P.1.sure : Nat)] 71 (0, 0)) := by
        rw [hw9, armedW_other _ _ _ _ _ (by omega)]
        exact (B8.out.block _ (by have := HZ2.out; omega)).trans HBX.out
      have hba9 : Src w9 (.slice Ab bs.length cb) bs b := HBA.out.keep fun k hk hkb => by
        rw [hw9, armedW_other _ _ _ _ _ hkb, B8.out.block k (by have := HB2.out.size; omega)]
        exact HB2.out.block k hk
      obtain ⟨Ab', cb', eb, _, _, hl9⟩ := hba9.lies
      obtain ⟨rfl, rfl⟩ : Ab = Ab' ∧ cb = cb' := by injection eb with q1 q2 q3; exact ⟨q1, q3⟩
      have HL9 := Lib.hid (lies_take hl9 m)
      have HO9 := Lib.hid (HFO.out w9 hat9.files)
      have HA9 := Lib.hid hat9
      have a0 : w9.cell? ⟨w1.heap.size, 0, none⟩ = some (.slice A P.1.bytes.length c) := by rw [Lib.cell_of_heap hbox]; rfl
      have HB9 := Lib.hid hbox
      clear hba9 eb hl9 hbox hat9 hw9 g1
      go_wp2_with (at_builtin; (refine wp_appO rfl (.tmp 56) (.tmp 57) rfl _ P.1.bytes rfl HO9.out Ab m cb (bs.take m) rfl HL9.out (Eq.symm HXL.out) (by rw [show (bs.take m).length = m from HXL.out]; omega) (by rw [show (bs.take m).length = m from HXL.out]; omega) ?_))
      intro A' c' w10 hown hgrow hloc
      try rw [show (bs.take m).length = m from HXL.out] at hown hloc ⊢
      have hbox10 : w10.heap[w1.heap.size]? = some (.cells #[.slice A P.1.bytes.length c, .int .i64 (P.1.sure : Nat)] 71 (0, 0)) :=
        (hgrow.block _ (Array.getElem?_eq_some_iff.1 HB9.out).1 (HO9.out.ne_block HB9.out (fun cs e => by injection e with _ e2; exact absurd e2 (by decide)))).trans HB9.out
      have b0 : w10.cell? ⟨w1.heap.size, 0, none⟩ = some (.slice A P.1.bytes.length c) := by rw [Lib.cell_of_heap hbox10]; rfl
      have b1 : w10.cell? ⟨w1.heap.size, 1, none⟩ = some (.int .i64 (P.1.sure : Nat)) := by rw [Lib.cell_of_heap hbox10]; rfl
      have ff0 := Lib.frozen_of_heap hbox10 0
      have hlt10 : ∀ g, (Value.slice A' (P.1.bytes.length + m) c').ownBlock = some g → g < w10.heap.size := fun g hg => (hown.lt g hg).2
      have hz9 := HA9.out.fr.size
      have HAB := Lib.hid (((HA9.out.grown HO9.out hfm hfa hgrow).box hbox10 (by decide) (by decide) hz1 0 (.slice A' (P.1.bytes.length + m) c')).mono (S' := Up S w (w10.setCell ⟨w1.heap.size, 0, none⟩ (.slice A' (P.1.bytes.length + m) c'))) (fun k hk => .inl hk))
      have HO11 : Hid (OwnB (w10.setCell ⟨w1.heap.size, 0, none⟩ (.slice A' (P.1.bytes.length + m) c')) 0 (.slice A' (P.1.bytes.length + m) c') (P.1.bytes ++ (bs.take m))) := Lib.hid (hown.keep fun g hg => Below.heap_setCell _ _ _ g (by
        rintro rfl
        obtain ⟨cs, q⟩ := hown.block hg
        rw [hbox10] at q
        injection q with q
        injection q with _ e2
        exact absurd e2 (by decide)))
      have HMI : Hid (∀ g, (Value.slice A' (P.1.bytes.length + m) c').ownBlock = some g → Up S w (w10.setCell ⟨w1.heap.size, 0, none⟩ (.slice A' (P.1.bytes.length + m) c')) g) := Lib.hid (fun g hg => by
        rcases hloc with e | e
        · exact .inl (hfm g (e.symm.trans hg))
        · refine .inr ⟨?_, ?_⟩
          · rw [e] at hg
            injection hg with hg
            omega
          · have := hlt10 g hg
            simp only [World.setCell, Array.size_modify]
            exact this)
      have HAP : Hid (∀ q ∈ ps, q.1.name ≠ P.1.name → (Value.slice A' (P.1.bytes.length + m) c').ownBlock = none ∨ (Value.slice A' (P.1.bytes.length + m) c').ownBlock ≠ q.2.ownBlock) := Lib.hid (fun q hq hn => by
        rcases hloc with e | e
        · rw [e]; exact hfa q hq hn
        · refine .inr fun e2 => ?_
          rw [e] at e2
          have := ((HA9.out.files.bytes q hq).lt _ e2.symm).2
          omega)
      have HKP := Lib.hid (fun w' hput => HT.out _ w' _ _ HAB.out (.inl HSB.out) (fun k hk => hk) HO11.out HMI.out HAP.out hput)
      have HPP := Lib.hid (HP.out _ _ HAB.out A' c' (P.1.bytes.length + m))
      clear hown hgrow hloc hbox10 hlt10 hz9 a0 e1
      go_wp2_with fail
      refine HPP.out.mono ?_
      rintro e w12 ⟨rfl, hput⟩
      have HK := Lib.hid (HKP.out w12 hput)
      clear hput
      go_wp2_with fail
      go_ret
      exact ⟨rfl, HK.out⟩
end Go.Proofs.Ytggndipfholllaa
namespace Go.Proofs.Ytggndipfholllaa
open Go.RowKit
open PlainDisk (File Disk Left)
set_option linter.unusedVariables false
theorem append_act (b : Nat) (nm bs : List UInt8) (vb : Value) (D : Disk) (S : Nat → Prop) (w : World) (hd : DiskIs w b D S) (hF : Fine D) (hnm : nm.length ≤ 281474976710656) (hB : Src w vb bs b) :
    Calls Try.prog 25 #[.pointer (some ⟨b, 0, none⟩), .string (str nm), vb] w fun e w' => e = .returned (.int .i64 (PlainDisk.append may D nm bs).2) ∧ DiskTo w w' b (PlainDisk.append may D nm bs).1 S := by
  by_cases h1 : barCode D.gone nm = 0
  · by_cases h2 : PlainDisk.find D.fs nm = none ∧ 64 ≤ D.fs.length
    · exact append_early b nm bs vb D S w hd hF hnm hB (.inr h2)
    · by_cases h3 : D.room < PlainDisk.used D.fs + bs.length
      · exact append_full b nm bs vb D S w hd hF hnm hB h1 h2 h3
      · by_cases h4 : D.good = 0
        · exact append_fail b nm bs vb D S w hd hF hnm hB h1 h2 h3 h4
        · exact append_ok b nm bs vb D S w hd hF hnm hB h1 h2 h3 h4
  · exact append_early b nm bs vb D S w hd hF hnm hB (.inl h1)
end Go.Proofs.Ytggndipfholllaa
