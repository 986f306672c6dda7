import Derived.Test.YtggndipfholllaaKt
import Derived.Test.YtggndipfholllaaLnames
namespace Go.Proofs.Ytggndipfholllaa
open Go.RowKit
open PlainDisk (File Disk Left)
set_option linter.unusedVariables false

theorem below_into {a b c : World} (h : Below a.heap.size a b) (k : Below b.heap.size b c) : Below a.heap.size a c := h.trans (k.mono h.size)
set_option maxHeartbeats 4000000 in
set_option maxRecDepth 100000 in
theorem same_any (w wi : World) (b1 b2 : Nat) (D : Disk) (K : Nat → Prop) (h : Duo w wi b1 D b2 D K) :
    Calls Try.prog 20 #[.pointer (some ⟨b1, 0, none⟩), .pointer (some ⟨b2, 0, none⟩)] wi fun e w' => e = .returned (.bool true) ∧ Below wi.heap.size wi w' := by
  have HD := Lib.hid h
  have HFL := Lib.hid (files_at h.ch)
  have hmany : D.fs.length ≤ 64 := h.fine.inv.many
  clear h
  go_enter Try.func20, Try.ntmps20
  go_wp2_with fail
  refine HFL.out.mono ?_
  rintro e w4 ⟨A4, c4, rfl, ho4, hb4⟩
  have HB4 := Lib.hid hb4
  have HO4 := Lib.hid ho4.zero
  have HD4 := Lib.hid (HD.out.next hb4)
  obtain ⟨S2, hrf⟩ := HD4.out.ref
  have HRF := Lib.hid hrf
  have hnl : (D.fs.map (·.name)).length = D.fs.length := by simp
  have C43 : Hid (∀ (W : World), Below w4.heap.size w4 W → Calls Try.prog 43 #[.pointer (some ⟨b2, 0, none⟩)] W fun e w' => ∃ A c, e = .returned (.slice A D.fs.length c) ∧ OwnS w' 0 (.slice A D.fs.length c) (D.fs.map (·.name)) ∧ Below w4.heap.size w4 w') := Lib.hid (fun W hb => (refFiles_any b2 D S2 W (hrf.at0 hb) (by omega)).mono (by
    rintro e w' ⟨v, rfl, ho, hb2⟩
    obtain ⟨A, c, rfl, _, _⟩ := ho.slice
    rw [hnl] at ho ⊢
    exact ⟨A, c, rfl, ho.zero, below_into hb hb2⟩))
  have C31 : Hid (∀ (W : World) (A : Option Addr) (c : Nat), Below w4.heap.size w4 W → OwnS W 0 (.slice A D.fs.length c) (D.fs.map (·.name)) → Calls Try.prog 31 #[.slice A4 D.fs.length c4, .slice A D.fs.length c] W fun e w' => e = .returned (.bool true) ∧ Below w4.heap.size w4 w') := Lib.hid (fun W A c hb ho => (names_same W 0 0 _ _ _ (own_kp HO4.out fun k _ hk => hb.block k hk) ho (by rw [hnl]; omega)).mono (by
    rintro e w' ⟨rfl, hb2⟩
    exact ⟨rfl, below_into hb hb2⟩))
  have C23 : Hid (∀ (W : World), Below w4.heap.size w4 W → Calls Try.prog 23 #[.pointer (some ⟨b1, 0, none⟩)] W fun e w' => e = .returned (.int .i64 (PlainDisk.used D.fs : Nat)) ∧ Below w4.heap.size w4 w') := Lib.hid (fun W hb => (used_ch (HD4.out.next hb).ch).mono (by
    rintro e w' ⟨rfl, hb2⟩
    exact ⟨rfl, below_into hb hb2⟩))
  have C44 := Lib.hid (fun (W : World) (hb : Below w4.heap.size w4 W) => refused_is (hrf.at0 hb) HD4.out.fine)
  have C19 := Lib.hid (fun (W : World) (hb : Below w4.heap.size w4 W) => down_ch (HD4.out.next hb).ch)
  have SK := Lib.hid (fun (W : World) (hb : Below w4.heap.size w4 W) => ((hb.cell (p := ⟨b2, 2, none⟩) hrf.cell2.2).trans hrf.cell2.1 : W.cell? ⟨b2, 2, none⟩ = some (.bool D.gone)))
  have B0 : Hid (Below w4.heap.size w4 w4.drew) := Lib.hid (Below.refl _ _).drew
  have e0 := SK.out _ B0.out
  clear hb4 ho4 hrf HFL
  go_wp2_with fail
  go_region_held3 (fun W => W.cell? ⟨b2, 2, none⟩ = some (.bool D.gone))
    (first | exact e0 | exact e5 | exact e6 | exact e7)
    (first
      | (go_at_call 43; (with_reducible refine (C43.out _ B0.out).mono ?_); rintro e w5 ⟨A5, c5, rfl, ho5, hb5⟩; have B5 := Lib.hid hb5; have O5 := Lib.hid ho5; have e5 := SK.out _ hb5; clear hb5 ho5)
      | (go_at_call 31; (with_reducible refine (C31.out _ _ _ B5.out O5.out).mono ?_); rintro e w6 ⟨rfl, hb6⟩; have B6 := Lib.hid hb6; have e6 := SK.out _ hb6; clear hb6)
      | (go_at_call 23; (with_reducible refine (C23.out _ B6.out).mono ?_); rintro e w7 ⟨rfl, hb7⟩; have B7 := Lib.hid hb7; have e7 := SK.out _ hb7; clear hb7)
      | (go_at_call 44; (with_reducible refine (C44.out _ B7.out).mono ?_); rintro e w' ⟨rfl, rfl⟩)
      | (go_at_call 19; (with_reducible refine (C19.out _ B7.out).mono ?_); rintro e w' ⟨rfl, rfl⟩))
  go_wp2_with fail
  go_loopw [36] (fun jV wq => ∃ (i : Nat), jV = .int .i64 (i : Nat) ∧ i ≤ D.fs.length ∧ Below w4.heap.size w4 wq) (fun jV _ => D.fs.length - (numOf jV).toNat)
  case atStart => exact ⟨0, rfl, by omega, B7.out⟩
  case round =>
    obtain ⟨i, rfl, hi, hb⟩ := hrel
    have HB := Lib.hid hb
    have HDR := Lib.hid (HD4.out.next hb)
    have hsn : OwnS wr 0 (.slice A4 D.fs.length c4) (D.fs.map (·.name)) := own_kp HO4.out fun k _ hk => hb.block k hk
    clear e0 e5 e6 e7 hb
    by_cases hil : i < D.fs.length
    · obtain ⟨f, hf⟩ : ∃ f, D.fs[i]? = some f := ⟨_, List.getElem?_eq_getElem hil⟩
      have hfm := List.mem_of_getElem? hf
      have hfind := HDR.out.ch.find hfm
      have hsh := HDR.out.ch.short hfm
      have hnm : (D.fs.map (·.name))[i]? = some f.name := by rw [List.getElem?_map, hf]; rfl
      obtain ⟨gf, hg1, hg2⟩ := hsn.at2 hnm
      subst hg1
      have HRD := Lib.hid (read_at HDR.out.ch hfind hsh)
      have HRR : Hid (∀ W, Below wr.heap.size wr W → Calls Try.prog 16 #[.pointer (some ⟨b2, 0, none⟩), .string (str f.name)] W fun e w' => ∃ A c, e = .returned (.tuple #[.slice A f.bytes.length c, .int .i64 0]) ∧ OwnB w' W.heap.size (.slice A f.bytes.length c) f.bytes ∧ Below W.heap.size W w') := Lib.hid (fun W hb => by
        obtain ⟨S3, h3⟩ := (HDR.out.next hb).ref
        have q := refread_all h3 HDR.out.fine f.name
        rw [(rd_some hfind).1, (rd_some hfind).2] at q
        exact q)
      have HS1 : Hid (∀ W, Below wr.heap.size wr W → Calls Try.prog 17 #[.pointer (some ⟨b1, 0, none⟩), .string (str f.name)] W fun e w' => e = .returned (.int .i64 (f.sure : Nat)) ∧ w' = W) := Lib.hid (fun W hb => by
        have q := sure_ch (HDR.out.next hb).ch f.name hsh
        rw [sureOf_at hfind] at q
        exact q.mono fun _ _ h => ⟨h.1, h.2.symm⟩)
      have HS2 : Hid (∀ W, Below wr.heap.size wr W → Calls Try.prog 18 #[.pointer (some ⟨b2, 0, none⟩), .string (str f.name)] W fun e w' => e = .returned (.int .i64 (f.sure : Nat)) ∧ w' = W) := Lib.hid (fun W hb => by
        obtain ⟨S3, h3⟩ := (HDR.out.next hb).ref
        have q := refsure_is h3 f.name
        rw [sureOf_at hfind] at q
        exact q.mono fun _ _ h => ⟨h.1, h.2.symm⟩)
      have hgl : gf < wr.heap.size := World.block_lt_of_cell? wr _ hg2
      clear hf hfm hfind hnm hsn
      go_wp2_with fail
      refine HRD.out.mono ?_
      rintro e w8 ⟨A8, c8, rfl, ho8, hb8⟩
      have HB8 := Lib.hid hb8
      have hg8 : w8.cell? ⟨gf, i, none⟩ = some (.string (str f.name)) := (hb8.cell hgl).trans hg2
      clear hb8 HRD
      go_wp2_with fail
      refine (HRR.out _ HB8.out).mono ?_
      rintro e w9 ⟨A9, c9, rfl, ho9, hb9⟩
      have HB9 := Lib.hid (below_into HB8.out hb9)
      have hg9 : w9.drew.cell? ⟨gf, i, none⟩ = some (.string (str f.name)) := (HB9.out.drew.cell hgl).trans hg2
      have ho8d := (ho8.belows hb9).belows (Below.refl _ _).drew
      have ho9d := ho9.belows (Below.refl _ _).drew
      have hcs1 := conv_own ho8d
      have hcs2 := conv_own ho9d
      have HQ1 := Lib.hid (HS1.out w9.drew HB9.out.drew)
      have HQ2 := Lib.hid (HS2.out w9.drew HB9.out.drew)
      clear hb9 ho8 ho9 ho8d ho9d HRR HS1 HS2 hg2 hg8
      go_wp2_with fail
      refine wp_region_still_lit (by kernel_rfl) (by kernel_rfl) ?_
      change wpStill _ _ (World.drew _) _ _ _
      repeat still_step
      still_call HQ1.out
      repeat still_step
      still_call HQ2.out
      repeat still_step
      refine wpStill_nil ?_
      change Exit.then _ _ _ _ (World.drew _)
      clear hcs1 hcs2 hg9
      go_wp2_with fail
      go_roundw
      case rel => exact ⟨i + 1, rfl, by omega, HB.out.trans (HB9.out.drew.mono HB.out.size)⟩
      case measure => simp [numOf]; omega
    · clear hsn
      go_wp2_with fail
      go_ret
      exact ⟨rfl, below_into HB4.out HB.out⟩
end Go.Proofs.Ytggndipfholllaa
