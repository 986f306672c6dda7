import Derived.Test.YtggndipfholllaaKo
namespace Go.Proofs.Ytggndipfholllaa
open Go.RowKit
open PlainDisk (File Disk Left)
set_option linter.unusedVariables false
set_option maxHeartbeats 4000000 in
set_option maxRecDepth 100000 in
theorem refAppend_found1 (b : Nat) (nm bs : List UInt8) (vb : Value) (D : Disk) (S : Nat → Prop) (w : World) (hd : RefIs w b D S) (hF : Fine D) (hnm : nm.length ≤ 281474976710656) (hB : Src w vb bs b) (hg : ¬ D.gone = true) (hm : ¬ may nm = false) (hmany : ∃ f, PlainDisk.find D.fs nm = some f) (hfull : ¬ D.room < PlainDisk.used D.fs + bs.length) (h0 : ¬ D.good = 0) :
    Calls Try.prog 33 #[.pointer (some ⟨b, 0, none⟩), .string (str nm), vb] w fun e w' => e = .returned (.int .i64 (PlainDisk.append may D nm bs).2) ∧ RefTo w w' b (PlainDisk.append may D nm bs).1 S := by
  obtain ⟨Lv, ps, hb, hS, hfs, hr⟩ := hd
  obtain ⟨Ab, cb, rfl, hcb, hcb2, hLb⟩ := hB.lies
  have hub := hF.inv.room
  have hroom := hF.room
  have hga := hF.inv.armed
  have hgb := hF.good
  have hs := hF.inv.sorted
  have hg2 : D.gone = false := by simpa using hg
  have C1 := Lib.hid (refBarred_any b D.gone Lv (.int .i64 (D.room : Nat)) (.int .i64 D.good) nm nm w hb hnm hnm)
  have C2 := Lib.hid (refFind_any b nm Lv ps _ _ _ S w hb hr)
  obtain ⟨f, hf⟩ := hmany
  unfold PlainDisk.append PlainDisk.write PlainDisk.made
  rw [if_neg hg, if_neg hm, if_neg (by rw [hf]; simp), if_neg hfull, if_neg h0]
  dsimp only
  rw [if_neg (show ¬ PlainDisk.find D.fs nm = none by rw [hf]; simp)]
  rw [if_neg hg, if_neg (by simp [hm])] at C1
  rw [hfs] at hub hs hf hfull ⊢
  have C3 := Lib.hid (fun n => (refUsed_any b _ ps _ _ _ S (w.drewN n) hb ⟨hr.own, hr.mine, hr.bytes⟩ (by omega)).mono fun e w' h => And.intro h.1 h.2.symm)
  have C4 := Lib.hid (fun n => refFails_any b D.good Lv (.int .i64 (D.room : Nat)) (.bool D.gone) (w.drewN n) hb hga hgb)
  rw [decide_eq_false h0] at C4
  have F4 := Lib.hid (fun n => failW_is (w := w.drewN n) hb hS ⟨hr.own, hr.mine, hr.bytes⟩)
  have BF := Lib.hid (fun n => (Src.otherThan (w := w.drewN n) (w' := failW b D.good (w.drewN n)) (v := .slice Ab bs.length cb) (bs := bs) hB hb (fun k _ hk => failW_other b D.good _ k hk)))
  obtain ⟨A, cap, rfl, hc, hmx, hrow0⟩ := hr.form
  obtain ⟨i, p, h1, h2, h3, h4⟩ : ∃ (i : Nat) (p : FV), place nm ps = (i : Nat) ∧ ps[i]? = some p ∧ p.1.name = nm ∧ PlainDisk.find (ps.map (·.1)) nm = some p.1 := by
    rcases place_find (nm := nm) (ps := ps) with ⟨h1, h2⟩ | h
    · rw [h2] at hf; cases hf
    · exact h
  have hil : i < ps.length := (List.getElem?_eq_some_iff.1 h2).1
  obtain ⟨g, cs0, rfl, _, _, _, hat0⟩ := hrow0 (by omega)
  have c00 : w.cell? ⟨b, 0, none⟩ = some (.slice (some ⟨g, 0, none⟩) ps.length cap) := by rw [Lib.cell_of_heap hb]; rfl
  have c1 : w.cell? ⟨b, 1, none⟩ = some (.int .i64 (D.room : Nat)) := by rw [Lib.cell_of_heap hb]; rfl
  have hul : p.1.bytes.length ≤ 1048576 := by
    have q1 := PlainDisk.used_drop (fs := ps.map (·.1)) hs (nm := nm) (f := p.1) h4
    omega
  rw [h1] at C2
  obtain ⟨D', hD'⟩ : ∃ D', D' = ({ D with fs := PlainDisk.upd (ps.map (·.1)) nm (PlainDisk.grow bs), good := if 0 < D.good then D.good - 1 else D.good } : Disk) := ⟨_, rfl⟩
  rw [← hD']
  have HDD := Lib.hid hD'
  have HS := Lib.hid hs
  have HH2 := Lib.hid h2
  generalize hU : PlainDisk.used (ps.map (·.1)) = U at *
  have hro : (bs.length : Int) ≤ (D.room : Int) - (U : Int) := by omega
  have hro2 : (D.room : Int) ≤ 1048576 := by omega
  have hro3 : (U : Int) ≤ (D.room : Int) := by omega
  have hn3 : (ps.length : Int) ≤ 9223372036854775807 := by omega
  have hn4 : (bs.length : Int) ≤ 9223372036854775807 := by omega
  have hi3 : (i : Int) ≤ 9223372036854775807 := by omega
  clear hb hr hfs hB hLb hrow0 h1 hU hub hf hfull hat0 hs hD' h2 h4
  go_enter Try.func33, Try.ntmps33
  go_wp2_with fail
  refine C1.out.mono ?_
  rintro e w' ⟨rfl, rfl⟩
  go_wp2_with fail
  refine C2.out.mono ?_
  rintro e w' ⟨rfl, rfl⟩
  go_wp2_with fail
  go_quiet (first | (go_at_call 44; refine Calls.quiet_of_same (C3.out _)))
  go_wp2_with fail
  refine (C4.out _).mono ?_
  rintro e w' ⟨rfl, rfl⟩
  obtain ⟨e1, e2, e3, e4⟩ := F4.out nq
  have hB2 := BF.out nq
  clear C1 C2 C3 C4 F4 BF
  rw [if_neg h0] at e1
  have e5 : Fr S w (failW b D.good (w.drewN nq)) := ⟨e3.os, e3.tape, e3.output, e3.size, e3.block⟩
  generalize failW b D.good (w.drewN nq) = wf at *
  obtain ⟨A', cap', q5, _, _, hrow⟩ := e2.form
  cases q5
  obtain ⟨g', cs, q6, hSg, hgb2, hsz, hat⟩ := hrow (by omega)
  cases q6
  obtain ⟨d0, d1, d2⟩ := hat i p HH2.out
  obtain ⟨A2, c2, q2, k1, k2, k3⟩ := (e2.bytes p (List.mem_of_getElem? HH2.out)).lies
  rw [q2] at d1
  obtain ⟨Ab', cb', q7, _, _, hLf⟩ := hB2.lies
  cases q7
  have c0 : wf.cell? ⟨b, 0, none⟩ = some (.slice (some ⟨g, 0, none⟩) ps.length cap) := by rw [Lib.cell_of_heap e1]; rfl
  have f1 : wf.frozen? ⟨g, i * 3 + 1, none⟩ = false := Lib.frozen_of_heap hgb2 _
  have hblt : b < wf.heap.size := (Array.getElem?_eq_some_iff.1 e1).1
  have hglt : g < wf.heap.size := (Array.getElem?_eq_some_iff.1 hgb2).1
  have HG := Lib.hid (fun w3 v (q1 : Below wf.heap.size wf w3) (q2 : OwnB w3 wf.heap.size v (p.1.bytes ++ bs)) => RefTo.go (w := w) (S := S) (fun k hk => .inl hk) e5 (grown_ref e1 hS e2 HS.out HH2.out h3 q1 q2))
  clear c00 hSg hsz d0 d2 e2 e3 e4 e5 hrow hat hB2 hgb2 e1
  have o1 : OwnB (wf.alloc (.cells #[] 5)).drew wf.heap.size (.slice (some ⟨wf.heap.size, 0, none⟩) 0 0) [] := OwnB.new wf
  have l1 : Lies (wf.alloc (.cells #[] 5)).drew A2 c2 p.1.bytes := k3.keep fun k hk => Below.heap_alloc wf _ _ hk
  have b1 : Below wf.heap.size wf (wf.alloc (.cells #[] 5)).drew := ((Below.refl _ wf).alloc (Nat.le_refl _) _).drew
  have z1 : ([] : List UInt8).length + p.1.bytes.length ≤ 140737488355328 := by simp; omega
  have z2 : p.1.bytes.length + bs.length ≤ 140737488355328 := by omega
  have H3 := Lib.hid hLf
  have O1 := Lib.hid o1
  have L1 := Lib.hid l1
  have B1 := Lib.hid b1
  have Z1 := Lib.hid z1
  have Z2 := Lib.hid z2
  clear o1 l1 b1 z1 z2
  clear hLf k3
  go_wp2_with fail
  go_region_law (first
        | ((refine step_appX (by rfl) (.tmp 78) (.tmp 86) (by rfl) wf.heap.size (.slice (some ⟨wf.heap.size, 0, none⟩) 0 0) [] (by rfl) O1.out A2 p.1.bytes.length c2 p.1.bytes (by rfl) L1.out rfl k1 Z1.out B1.out.size ?_); intro v2 w2 hown2 hg2; (have hb2 : Below wf.heap.size wf w2 := B1.out.grown hg2 B1.out.size (fun k hk => (O1.out.lt k hk).1)); (have hb2l : b < w2.heap.size := Nat.lt_of_lt_of_le hblt hb2.size); (have hg2l : g < w2.heap.size := Nat.lt_of_lt_of_le hglt hb2.size); (have c02 : w2.cell? ⟨b, 0, none⟩ = some (.slice (some ⟨g, 0, none⟩) ps.length cap) := (hb2.cell hblt).trans c0); (have O2 := Lib.hid hown2); (have B2 := Lib.hid hb2); (clear hown2 hb2 hg2))
        | ((refine step_appX (by rfl) (.tmp 87) (.tmp 88) (by rfl) wf.heap.size v2 p.1.bytes (by rfl) O2.out Ab bs.length cb bs (by rfl) (H3.out.keep fun k hk => B2.out.block k hk) rfl hcb Z2.out B2.out.size ?_); intro v3 w3 hown3 hg3; (obtain ⟨A3, n3, cap3, rfl⟩ := hown3.form); (have hb3 : Below wf.heap.size wf w3 := B2.out.grown hg3 B2.out.size (fun k hk => (O2.out.lt k hk).1)); (have hb3l : b < w3.heap.size := Nat.lt_of_lt_of_le hblt hb3.size); (have hg3l : g < w3.heap.size := Nat.lt_of_lt_of_le hglt hb3.size); (have c03 : w3.cell? ⟨b, 0, none⟩ = some (.slice (some ⟨g, 0, none⟩) ps.length cap) := (hb3.cell hblt).trans c0); (have d13 : w3.cell? ⟨g, i * 3 + 1, none⟩ = some (.slice A2 p.1.bytes.length c2) := (hb3.cell hglt).trans d1); (have f13 : w3.frozen? ⟨g, i * 3 + 1, none⟩ = false := (hb3.frozen hglt).trans f1); (have O3 := Lib.hid hown3); (have B3 := Lib.hid hb3); (clear hown3 hb3 hg3)))
  all_goals
    have HQ := Lib.hid (show RefTo w (w3.setCell ⟨g, i * 3 + 1, none⟩ (.slice A3 n3 cap3)) b D' S by
      rw [HDD.out]
      exact HG.out w3 _ B3.out O3.out)
    go_wp2_with fail
    go_ret
    exact ⟨rfl, HQ.out⟩
end Go.Proofs.Ytggndipfholllaa
namespace Go.Proofs.Ytggndipfholllaa
open Go.RowKit
open PlainDisk (File Disk Left)
set_option linter.unusedVariables false
set_option maxHeartbeats 4000000 in
set_option maxRecDepth 100000 in
theorem refAppend_found0 (b : Nat) (nm bs : List UInt8) (vb : Value) (D : Disk) (S : Nat → Prop) (w : World) (hd : RefIs w b D S) (hF : Fine D) (hnm : nm.length ≤ 281474976710656) (hB : Src w vb bs b) (hg : ¬ D.gone = true) (hm : ¬ may nm = false) (hmany : ∃ f, PlainDisk.find D.fs nm = some f) (hfull : ¬ D.room < PlainDisk.used D.fs + bs.length) (h0 : D.good = 0) :
    Calls Try.prog 33 #[.pointer (some ⟨b, 0, none⟩), .string (str nm), vb] w fun e w' => e = .returned (.int .i64 (PlainDisk.append may D nm bs).2) ∧ RefTo w w' b (PlainDisk.append may D nm bs).1 S := by
  obtain ⟨Lv, ps, hb, hS, hfs, hr⟩ := hd
  obtain ⟨Ab, cb, rfl, hcb, hcb2, hLb⟩ := hB.lies
  have hub := hF.inv.room
  have hroom := hF.room
  have hga := hF.inv.armed
  have hgb := hF.good
  have hs := hF.inv.sorted
  have hg2 : D.gone = false := by simpa using hg
  have C1 := Lib.hid (refBarred_any b D.gone Lv (.int .i64 (D.room : Nat)) (.int .i64 D.good) nm nm w hb hnm hnm)
  have C2 := Lib.hid (refFind_any b nm Lv ps _ _ _ S w hb hr)
  obtain ⟨f, hf⟩ := hmany
  unfold PlainDisk.append PlainDisk.write PlainDisk.made
  rw [if_neg hg, if_neg hm, if_neg (by rw [hf]; simp), if_neg hfull, if_pos h0]
  dsimp only
  rw [if_neg (show ¬ PlainDisk.find D.fs nm = none by rw [hf]; simp)]
  rw [if_neg hg, if_neg (by simp [hm])] at C1
  rw [hfs] at hub hs hf hfull ⊢
  have C3 := Lib.hid (fun n => (refUsed_any b _ ps _ _ _ S (w.drewN n) hb ⟨hr.own, hr.mine, hr.bytes⟩ (by omega)).mono fun e w' h => And.intro h.1 h.2.symm)
  have C4 := Lib.hid (fun n => refFails_any b D.good Lv (.int .i64 (D.room : Nat)) (.bool D.gone) (w.drewN n) hb hga hgb)
  rw [decide_eq_true h0] at C4
  have F4 := Lib.hid (fun n => failW_is (w := w.drewN n) hb hS ⟨hr.own, hr.mine, hr.bytes⟩)
  have BF := Lib.hid (fun n => (Src.otherThan (w := w.drewN n) (w' := failW b D.good (w.drewN n)) (v := .slice Ab bs.length cb) (bs := bs) hB hb (fun k _ hk => failW_other b D.good _ k hk)))
  obtain ⟨A, cap, rfl, hc, hmx, hrow0⟩ := hr.form
  obtain ⟨i, p, h1, h2, h3, h4⟩ : ∃ (i : Nat) (p : FV), place nm ps = (i : Nat) ∧ ps[i]? = some p ∧ p.1.name = nm ∧ PlainDisk.find (ps.map (·.1)) nm = some p.1 := by
    rcases place_find (nm := nm) (ps := ps) with ⟨h1, h2⟩ | h
    · rw [h2] at hf; cases hf
    · exact h
  have hil : i < ps.length := (List.getElem?_eq_some_iff.1 h2).1
  obtain ⟨g, cs0, rfl, _, _, _, hat0⟩ := hrow0 (by omega)
  have c00 : w.cell? ⟨b, 0, none⟩ = some (.slice (some ⟨g, 0, none⟩) ps.length cap) := by rw [Lib.cell_of_heap hb]; rfl
  have c1 : w.cell? ⟨b, 1, none⟩ = some (.int .i64 (D.room : Nat)) := by rw [Lib.cell_of_heap hb]; rfl
  have hul : p.1.bytes.length ≤ 1048576 := by
    have q1 := PlainDisk.used_drop (fs := ps.map (·.1)) hs (nm := nm) (f := p.1) h4
    omega
  rw [h1] at C2
  obtain ⟨m, hmd⟩ : ∃ m : Nat, m = bs.length / 2 := ⟨_, rfl⟩
  rw [← hmd]
  obtain ⟨D', hD'⟩ : ∃ D', D' = ({ D with fs := PlainDisk.upd (ps.map (·.1)) nm (PlainDisk.grow (bs.take m)), gone := true } : Disk) := ⟨_, rfl⟩
  rw [← hD']
  have HDD := Lib.hid hD'
  have HS := Lib.hid hs
  have HH2 := Lib.hid h2
  generalize hU : PlainDisk.used (ps.map (·.1)) = U at *
  have hro : (bs.length : Int) ≤ (D.room : Int) - (U : Int) := by omega
  have hro2 : (D.room : Int) ≤ 1048576 := by omega
  have hro3 : (U : Int) ≤ (D.room : Int) := by omega
  have hn3 : (ps.length : Int) ≤ 9223372036854775807 := by omega
  have hn4 : (bs.length : Int) ≤ 9223372036854775807 := by omega
  have hi3 : (i : Int) ≤ 9223372036854775807 := by omega
  clear hb hr hfs hB hLb hrow0 h1 hU hub hf hfull hat0 hs hD' h2 h4
  go_enter Try.func33, Try.ntmps33
  go_wp2_with fail
  refine C1.out.mono ?_
  rintro e w' ⟨rfl, rfl⟩
  go_wp2_with fail
  refine C2.out.mono ?_
  rintro e w' ⟨rfl, rfl⟩
  go_wp2_with fail
  go_quiet (first | (go_at_call 44; refine Calls.quiet_of_same (C3.out _)))
  go_wp2_with fail
  refine (C4.out _).mono ?_
  rintro e w' ⟨rfl, rfl⟩
  obtain ⟨e1, e2, e3, e4⟩ := F4.out nq
  have hB2 := BF.out nq
  clear C1 C2 C3 C4 F4 BF
  rw [if_pos h0, if_neg (by omega)] at e1
  have e5 : Fr S w (failW b D.good (w.drewN nq)) := ⟨e3.os, e3.tape, e3.output, e3.size, e3.block⟩
  generalize failW b D.good (w.drewN nq) = wf at *
  obtain ⟨A', cap', q5, _, _, hrow⟩ := e2.form
  cases q5
  obtain ⟨g', cs, q6, hSg, hgb2, hsz, hat⟩ := hrow (by omega)
  cases q6
  obtain ⟨d0, d1, d2⟩ := hat i p HH2.out
  obtain ⟨A2, c2, q2, k1, k2, k3⟩ := (e2.bytes p (List.mem_of_getElem? HH2.out)).lies
  rw [q2] at d1
  obtain ⟨Ab', cb', q7, _, _, hLf⟩ := hB2.lies
  cases q7
  have c0 : wf.cell? ⟨b, 0, none⟩ = some (.slice (some ⟨g, 0, none⟩) ps.length cap) := by rw [Lib.cell_of_heap e1]; rfl
  have f1 : wf.frozen? ⟨g, i * 3 + 1, none⟩ = false := Lib.frozen_of_heap hgb2 _
  have hblt : b < wf.heap.size := (Array.getElem?_eq_some_iff.1 e1).1
  have hglt : g < wf.heap.size := (Array.getElem?_eq_some_iff.1 hgb2).1
  have HG := Lib.hid (fun w3 v (q1 : Below wf.heap.size wf w3) (q2 : OwnB w3 wf.heap.size v (p.1.bytes ++ bs.take m)) => RefTo.go (w := w) (S := S) (fun k hk => .inl hk) e5 (grown_ref e1 hS e2 HS.out HH2.out h3 q1 q2))
  clear c00 hSg hsz d0 d2 e2 e3 e4 e5 hrow hat hB2 hgb2 e1
  have o1 : OwnB (wf.alloc (.cells #[] 5)).drew wf.heap.size (.slice (some ⟨wf.heap.size, 0, none⟩) 0 0) [] := OwnB.new wf
  have l1 : Lies (wf.alloc (.cells #[] 5)).drew A2 c2 p.1.bytes := k3.keep fun k hk => Below.heap_alloc wf _ _ hk
  have b1 : Below wf.heap.size wf (wf.alloc (.cells #[] 5)).drew := ((Below.refl _ wf).alloc (Nat.le_refl _) _).drew
  have z1 : ([] : List UInt8).length + p.1.bytes.length ≤ 140737488355328 := by simp; omega
  have htk : m = (bs.take m).length := by rw [List.length_take]; omega
  have z2 : p.1.bytes.length + (bs.take m).length ≤ 140737488355328 := by rw [← htk]; omega
  have hm3 : (bs.length : Int) / 2 = (m : Int) := by omega
  have hm4 : (m : Int) ≤ (cb : Int) := by omega
  have hm5 : 0 ≤ (m : Int) := by omega
  have hm6 : IntKind.i64.wrap (m : Int) = (m : Int) := by rw [IntKind.wrap_i64]; omega
  have z3 : (bs.take m).length ≤ cb := by rw [← htk]; omega
  have H3 := Lib.hid (hLf.take m)
  have HTK := Lib.hid htk
  have Z3 := Lib.hid z3
  clear htk z3 hmd
  have O1 := Lib.hid o1
  have L1 := Lib.hid l1
  have B1 := Lib.hid b1
  have Z1 := Lib.hid z1
  have Z2 := Lib.hid z2
  clear o1 l1 b1 z1 z2
  clear hLf k3
  go_wp2_with fail
  go_region_law (first
        | ((refine step_appX (by rfl) (.tmp 55) (.tmp 63) (by rfl) wf.heap.size (.slice (some ⟨wf.heap.size, 0, none⟩) 0 0) [] (by rfl) O1.out A2 p.1.bytes.length c2 p.1.bytes (by rfl) L1.out rfl k1 Z1.out B1.out.size ?_); intro v2 w2 hown2 hg2; (have hb2 : Below wf.heap.size wf w2 := B1.out.grown hg2 B1.out.size (fun k hk => (O1.out.lt k hk).1)); (have hb2l : b < w2.heap.size := Nat.lt_of_lt_of_le hblt hb2.size); (have hg2l : g < w2.heap.size := Nat.lt_of_lt_of_le hglt hb2.size); (have c02 : w2.cell? ⟨b, 0, none⟩ = some (.slice (some ⟨g, 0, none⟩) ps.length cap) := (hb2.cell hblt).trans c0); (have O2 := Lib.hid hown2); (have B2 := Lib.hid hb2); (clear hown2 hb2 hg2))
        | ((refine step_appX (by rfl) (.tmp 64) (.tmp 69) (by rfl) wf.heap.size v2 p.1.bytes (by rfl) O2.out Ab m cb (bs.take m) (by rfl) (H3.out.keep fun k hk => B2.out.block k hk) HTK.out Z3.out Z2.out B2.out.size ?_); intro v3 w3 hown3 hg3; (obtain ⟨A3, n3, cap3, rfl⟩ := hown3.form); (have hb3 : Below wf.heap.size wf w3 := B2.out.grown hg3 B2.out.size (fun k hk => (O2.out.lt k hk).1)); (have hb3l : b < w3.heap.size := Nat.lt_of_lt_of_le hblt hb3.size); (have hg3l : g < w3.heap.size := Nat.lt_of_lt_of_le hglt hb3.size); (have c03 : w3.cell? ⟨b, 0, none⟩ = some (.slice (some ⟨g, 0, none⟩) ps.length cap) := (hb3.cell hblt).trans c0); (have d13 : w3.cell? ⟨g, i * 3 + 1, none⟩ = some (.slice A2 p.1.bytes.length c2) := (hb3.cell hglt).trans d1); (have f13 : w3.frozen? ⟨g, i * 3 + 1, none⟩ = false := (hb3.frozen hglt).trans f1); (have O3 := Lib.hid hown3); (have B3 := Lib.hid hb3); (clear hown3 hb3 hg3)))
  all_goals
    have HQ := Lib.hid (show RefTo w (w3.setCell ⟨g, i * 3 + 1, none⟩ (.slice A3 n3 cap3)) b D' S by
      rw [HDD.out]
      exact HG.out w3 _ B3.out O3.out)
    go_wp2_with fail
    go_ret
    exact ⟨rfl, HQ.out⟩
end Go.Proofs.Ytggndipfholllaa
