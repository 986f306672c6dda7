import Derived.Test.YtggndipfholllaaKg
namespace Go.Proofs.Ytggndipfholllaa
open Go.RowKit
open PlainDisk (File Disk Left)
set_option linter.unusedVariables false

theorem Lies.take {w : World} {A : Option Addr} {c : Nat} {bs : List UInt8} (h : Lies w A c bs) (n : Nat) : Lies w A c (bs.take n) := by
  refine ⟨h.1, fun hne => ?_⟩
  obtain ⟨b, off, e1, e2⟩ := h.2 (fun e => hne (by rw [e]; simp))
  refine ⟨b, off, e1, fun j u hu => e2 j u ?_⟩
  rw [List.getElem?_take] at hu
  split at hu
  · exact hu
  · cases hu

set_option maxHeartbeats 4000000 in
set_option maxRecDepth 100000 in
theorem refCut_any (b : Nat) (nm : List UInt8) (n : Int) (D : Disk) (S : Nat → Prop) (w : World) (hd : RefIs w b D S) (hF : Fine D) (hnm : nm.length ≤ 281474976710656) (n0 : -9223372036854775808 ≤ n) (n1 : n ≤ 9223372036854775807) :
    Calls Try.prog 35 #[.pointer (some ⟨b, 0, none⟩), .string (str nm), .int .i64 n] w fun e w' => e = .returned (.int .i64 (PlainDisk.cut may D nm n).2) ∧ RefTo w w' b (PlainDisk.cut may D nm n).1 S := by
  have hd0 := hd
  obtain ⟨Lv, ps, hb, hS, hfs, hr⟩ := hd
  have C1 := Lib.hid (refBarred_any b D.gone Lv (.int .i64 (D.room : Nat)) (.int .i64 D.good) nm nm w hb hnm hnm)
  have C2 := Lib.hid (refFind_any b nm Lv ps _ _ _ S w hb hr)
  have HD := Lib.hid hd0.stays
  unfold PlainDisk.cut
  by_cases hg : D.gone = true
  · rw [if_pos hg]
    rw [if_pos hg] at C1
    generalize place nm ps = pl at *
    clear hb hr hfs hd0
    go_enter Try.func35, Try.ntmps35
    go_wp2_with fail
    refine C1.out.mono ?_
    rintro e w' ⟨rfl, rfl⟩
    go_wp2_with fail
    refine C2.out.mono ?_
    rintro e w' ⟨rfl, rfl⟩
    go_wp2_with fail
    go_ret
    exact ⟨rfl, HD.out⟩
  rw [if_neg hg]
  rw [if_neg hg] at C1
  by_cases hm : may nm = false
  · rw [if_pos hm]
    rw [if_pos (.inl hm)] at C1
    generalize place nm ps = pl at *
    clear hb hr hfs hd0
    go_enter Try.func35, Try.ntmps35
    go_wp2_with fail
    refine C1.out.mono ?_
    rintro e w' ⟨rfl, rfl⟩
    go_wp2_with fail
    refine C2.out.mono ?_
    rintro e w' ⟨rfl, rfl⟩
    go_wp2_with fail
    go_ret
    exact ⟨rfl, HD.out⟩
  rw [if_neg hm]
  rw [if_neg (by simp [hm])] at C1
  rcases place_find (nm := nm) (ps := ps) with ⟨h1, h2⟩ | ⟨i, p, h1, h2, h3, h4⟩
  · rw [hfs, h2]
    rw [h1] at C2
    dsimp only
    clear hb hr hfs hd0 h1 h2
    go_enter Try.func35, Try.ntmps35
    go_wp2_with fail
    refine C1.out.mono ?_
    rintro e w' ⟨rfl, rfl⟩
    go_wp2_with fail
    refine C2.out.mono ?_
    rintro e w' ⟨rfl, rfl⟩
    go_wp2_with fail
    go_ret
    exact ⟨rfl, HD.out⟩
  rw [hfs, h4]
  dsimp only
  rw [h1] at C2
  have hil : i < ps.length := (List.getElem?_eq_some_iff.1 h2).1
  by_cases hrg : n < 0 ∨ (p.1.bytes.length : Int) < n
  · rw [if_pos hrg]
    obtain ⟨A, cap, rfl, hc, hm2, hrow⟩ := hr.form
    obtain ⟨g, cs, rfl, hSg, hgb2, hsz, hat⟩ := hrow (by omega)
    obtain ⟨d0, d1, d2⟩ := hat i p h2
    obtain ⟨A2, c2, q2, k1, k2, k3⟩ := (hr.bytes p (List.mem_of_getElem? h2)).lies
    rw [q2] at d1
    have c0 : w.cell? ⟨b, 0, none⟩ = some (.slice (some ⟨g, 0, none⟩) ps.length cap) := by rw [Lib.cell_of_heap hb]; rfl
    clear hb hr hfs hd0 h1 h2 hat hrow hgb2 hsz k3
    rcases hrg with hrg | hrg
    · go_enter Try.func35, Try.ntmps35
      go_wp2_with fail
      refine C1.out.mono ?_
      rintro e w' ⟨rfl, rfl⟩
      go_wp2_with fail
      refine C2.out.mono ?_
      rintro e w' ⟨rfl, rfl⟩
      go_wp2_with fail
      go_ret
      exact ⟨rfl, HD.out⟩
    · have hrn : ¬ n < 0 := by omega
      go_enter Try.func35, Try.ntmps35
      go_wp2_with fail
      refine C1.out.mono ?_
      rintro e w' ⟨rfl, rfl⟩
      go_wp2_with fail
      refine C2.out.mono ?_
      rintro e w' ⟨rfl, rfl⟩
      go_wp2_with fail
      go_ret
      exact ⟨rfl, HD.out⟩
  rw [if_neg hrg]
  have hga := hF.inv.armed
  have hgb := hF.good
  have C3 := Lib.hid (refFails_any b D.good Lv (.int .i64 (D.room : Nat)) (.bool D.gone) w hb hga hgb)
  obtain ⟨e1, e2, e3, e4⟩ := failW_is hb hS hr
  have rn0 : 0 ≤ n := by omega
  have rn1 : n ≤ (p.1.bytes.length : Int) := by omega
  obtain ⟨n, rfl⟩ := Int.eq_ofNat_of_zero_le rn0
  unfold PlainDisk.write
  by_cases h0 : D.good = 0
  · rw [if_pos h0]
    have HF2 := Lib.hid (show RefTo w (failW b D.good w) b { D with fs := ps.map (·.1), gone := true } S from ⟨S, ⟨Lv, ps, by rw [if_pos h0, if_neg (by omega)] at e1; exact e1, hS, rfl, e2⟩, fun k hk => .inl hk, e3⟩)
    rw [decide_eq_true h0] at C3
    obtain ⟨A, cap, rfl, hc, hm2, hrow⟩ := hr.form
    obtain ⟨g, cs, rfl, hSg, hgb2, hsz, hat⟩ := hrow (by omega)
    obtain ⟨d0, d1, d2⟩ := hat i p h2
    obtain ⟨A2, c2, q2, k1, k2, k3⟩ := (hr.bytes p (List.mem_of_getElem? h2)).lies
    rw [q2] at d1
    have c0 : w.cell? ⟨b, 0, none⟩ = some (.slice (some ⟨g, 0, none⟩) ps.length cap) := by rw [Lib.cell_of_heap hb]; rfl
    clear hb hr hfs hd0 h1 h2 e1 e2 e3 e4 hat hrow hgb2 hsz k3
    generalize failW b D.good w = wf at *
    go_enter Try.func35, Try.ntmps35
    go_wp2_with fail
    refine C1.out.mono ?_
    rintro e w' ⟨rfl, rfl⟩
    go_wp2_with fail
    refine C2.out.mono ?_
    rintro e w' ⟨rfl, rfl⟩
    go_wp2_with fail
    refine C3.out.mono ?_
    rintro e w' ⟨rfl, rfl⟩
    go_wp2_with fail
    go_ret
    exact ⟨rfl, HF2.out⟩
  · rw [if_neg h0]
    rw [if_neg h0] at e1
    rw [decide_eq_false h0] at C3
    have hs := hF.inv.sorted
    rw [hfs] at hs
    obtain ⟨A, cap, e5, hc, hm2, hrow0⟩ := hr.form
    obtain ⟨g0, cs0, e6, hSg0, hgb0, hsz0, hat0⟩ := hrow0 (by omega)
    obtain ⟨d00, d10, d20⟩ := hat0 i p h2
    obtain ⟨A20, c20, q20, k10, k20, k30⟩ := (hr.bytes p (List.mem_of_getElem? h2)).lies
    rw [q20] at d10
    subst e5
    subst e6
    have c00 : w.cell? ⟨b, 0, none⟩ = some (.slice (some ⟨g0, 0, none⟩) ps.length cap) := by rw [Lib.cell_of_heap hb]; rfl
    generalize failW b D.good w = wf at *
    obtain ⟨A', cap', e5, _, _, hrow⟩ := e2.form
    obtain ⟨g, cs, e6, hSg, hgb2, hsz, hat⟩ := hrow (by omega)
    subst e6
    cases e5
    obtain ⟨d0, d1, d2⟩ := hat i p h2
    obtain ⟨A2, c2, q2, k1, k2, k3⟩ := (e2.bytes p (List.mem_of_getElem? h2)).lies
    rw [q2] at d1
    have c0 : wf.cell? ⟨b, 0, none⟩ = some (.slice (some ⟨g0, 0, none⟩) ps.length cap) := by rw [Lib.cell_of_heap e1]; rfl
    have f1 : wf.frozen? ⟨g0, i * 3 + 1, none⟩ = false := Lib.frozen_of_heap hgb2 _
    have f2 : wf.frozen? ⟨g0, i * 3 + 2, none⟩ = false := Lib.frozen_of_heap hgb2 _
    have hblt : b < wf.heap.size := (Array.getElem?_eq_some_iff.1 e1).1
    have hglt : g0 < wf.heap.size := (Array.getElem?_eq_some_iff.1 hgb2).1
    have H2 := Lib.hid k3
    have E1 := Lib.hid e1
    have E2 := Lib.hid e2
    have E3 := Lib.hid e3
    have HH2 := Lib.hid h2
    have HS := Lib.hid hs
    have HFS := Lib.hid hfs
    have HG2 := Lib.hid hgb2
    clear hb hr hfs hd0 h1 h2 e1 e2 e3 e4 hat hrow hsz hgb2 k3 HD hs hat0 hrow0 hgb0 hsz0 k30 d00 d20 d0 hSg0 hSg
    dsimp only
    obtain ⟨D', hD'⟩ : ∃ D', D' = ({ D with fs := PlainDisk.upd (ps.map (·.1)) nm (PlainDisk.cutF (n : Int).toNat), good := if 0 < D.good then D.good - 1 else D.good } : Disk) := ⟨_, rfl⟩
    rw [← hD']
    rw [Int.toNat_natCast] at hD'
    have HDD := Lib.hid hD'
    clear hD'
    have htk : (p.1.bytes.take n).length = n := by rw [List.length_take]; omega
    have o1 : OwnB (wf.alloc (.cells #[] 5)).drew wf.heap.size (.slice (some ⟨wf.heap.size, 0, none⟩) 0 0) [] := OwnB.new wf
    have b1 : Below wf.heap.size wf (wf.alloc (.cells #[] 5)).drew := ((Below.refl _ wf).alloc (Nat.le_refl _) _).drew
    have l1 : Lies (wf.alloc (.cells #[] 5)).drew A2 c2 (p.1.bytes.take n) := (H2.out.take n).keep fun k hk => Below.heap_alloc wf _ _ hk
    have hub := hF.inv.room
    have hroom := hF.room
    have hul : p.1.bytes.length ≤ 1048576 := by
      have q1 := PlainDisk.used_drop (fs := D.fs) hF.inv.sorted (nm := nm) (f := p.1) (by rw [HFS.out]; exact h4)
      omega
    have z1 : ([] : List UInt8).length + (p.1.bytes.take n).length ≤ 140737488355328 := by simp; omega
    have z3 : (p.1.bytes.take n).length ≤ c2 := by omega
    have O1 := Lib.hid o1
    have L1 := Lib.hid l1
    have B1 := Lib.hid b1
    have Z1 := Lib.hid z1
    have Z3 := Lib.hid z3
    have HTK := Lib.hid htk.symm
    have hn2 : (n : Int) ≤ (c2 : Int) := by omega
    have hk2 : (c2 : Int) ≤ 9223372036854775807 := by omega
    clear o1 l1 b1 z1 z3 htk hub
    rcases A2 with _ | ad
    · obtain rfl : c2 = 0 := H2.out.1 rfl
      obtain rfl : n = 0 := by omega
      have hp0 : p.1.bytes.length = 0 := by omega
      rw [hp0] at d1
      have hsn0 : ((0 : Nat) : Int) = 0 := rfl
      go_enter Try.func35, Try.ntmps35
      go_wp2_with fail
      refine C1.out.mono ?_
      rintro e w' ⟨rfl, rfl⟩
      go_wp2_with fail
      refine C2.out.mono ?_
      rintro e w' ⟨rfl, rfl⟩
      go_wp2_with fail
      refine C3.out.mono ?_
      rintro e w' ⟨rfl, rfl⟩
      go_wp2_with fail
      go_region_law (first
        | ((refine step_appX (by rfl) (.tmp 54) (.tmp 64) (by rfl) w'.heap.size (.slice (some ⟨w'.heap.size, 0, none⟩) 0 0) [] (by rfl) O1.out none 0 0 (p.1.bytes.take 0) (by rfl) L1.out HTK.out Z3.out Z1.out B1.out.size ?_); intro v3 w3 hown3 hg3; (obtain ⟨A3, n3, cap3, rfl⟩ := hown3.form); (have hb3 : Below w'.heap.size w' w3 := B1.out.grown hg3 B1.out.size (fun k hk => (O1.out.lt k hk).1)); (have hb3l : b < w3.heap.size := Nat.lt_of_lt_of_le hblt hb3.size); (have hg3l : g0 < w3.heap.size := Nat.lt_of_lt_of_le hglt hb3.size); (have c03 : w3.cell? ⟨b, 0, none⟩ = some (.slice (some ⟨g0, 0, none⟩) ps.length cap) := (hb3.cell hblt).trans c0); (have d13 : w3.cell? ⟨g0, i * 3 + 1, none⟩ = some (.slice none 0 0) := (hb3.cell hglt).trans d1); (have d23 : w3.cell? ⟨g0, i * 3 + 2, none⟩ = some (.int .i64 (p.1.sure : Nat)) := (hb3.cell hglt).trans d2); (have f13 : w3.frozen? ⟨g0, i * 3 + 1, none⟩ = false := (hb3.frozen hglt).trans f1); (have f23 : w3.frozen? ⟨g0, i * 3 + 2, none⟩ = false := (hb3.frozen hglt).trans f2); (have O3 := Lib.hid hown3); (have B3 := Lib.hid hb3); (clear hown3 hb3 hg3)))
      all_goals
        obtain ⟨a1, a2, a3, a4⟩ := row_set1 (l := p.1.bytes.take 0) E1.out E2.out HH2.out B3.out O3.out
        have HFR := Lib.hid (E3.out.trans a3 (fun i hi => .inl hi))
        have hz4 : w'.heap.size ≤ w3.heap.size := B3.out.size
        generalize w3.setCell ⟨g0, i * 3 + 1, none⟩ (.slice A3 n3 cap3) = w4 at *
        have hset : (ps.set i (({ p.1 with bytes := p.1.bytes.take 0 } : File), .slice A3 n3 cap3))[i]? = some (({ p.1 with bytes := p.1.bytes.take 0 } : File), .slice A3 n3 cap3) := List.getElem?_set_self hil
        have c04 : w4.cell? ⟨b, 0, none⟩ = some (.slice (some ⟨g0, 0, none⟩) ps.length cap) := by rw [Lib.cell_of_heap a1]; rfl
        obtain ⟨cs4, hg4⟩ := a2.block (g := g0) rfl
        obtain ⟨A4, cap4, e4, _, _, hrow4⟩ := a2.form
        rw [List.length_set] at e4 hrow4
        cases e4
        obtain ⟨g4, cs5, e5, _, _, _, hat4⟩ := hrow4 (by omega)
        cases e5
        have d24 : w4.cell? ⟨g0, i * 3 + 2, none⟩ = some (.int .i64 (p.1.sure : Nat)) := (hat4 i _ hset).2.2
        have f24 : w4.frozen? ⟨g0, i * 3 + 2, none⟩ = false := Lib.frozen_of_heap hg4 _
        have HA1 := Lib.hid a1
        have HA2 := Lib.hid a2
        have HST := Lib.hid hset
        have HUP := Lib.hid (fun v => set_upd HS.out HH2.out (PlainDisk.cutF 0) v)
        clear a1 a2 a3 hset hat4 hrow4 hg4
        by_cases hsn : 0 < p.1.sure
        · have hsn2 : ((0 : Nat) : Int) < (p.1.sure : Int) := by omega
          obtain ⟨q1, q2, q3, q4⟩ := row_set2 (m := 0) HA1.out HA2.out HST.out
          have HQ := Lib.hid (show RefTo w (w4.setCell ⟨g0, i * 3 + 2, none⟩ (.int .i64 ((0 : Nat) : Int))) b D' S by
            rw [HDD.out]
            refine ⟨_, ⟨_, _, q1, Up.old hS, ?_, q2⟩, fun k hk => ?_, HFR.out.trans q3 (fun i hi => Up_new i hi |>.elim .inl fun h => .inr (by have := E3.out.size; omega))⟩
            · rw [List.set_set, ← h3, ← HUP.out (.slice A3 n3 cap3)]
              unfold PlainDisk.cutF
              rw [Nat.min_eq_right (by omega)]
            · rcases hk with hk | ⟨h5, h6⟩
              · exact .inl hk
              · exact .inr ⟨by have := E3.out.size; omega, by rw [q4, a4]; exact h6⟩)
          clear q1 q2 q3 q4
          go_wp2_with fail
          go_ret
          exact ⟨rfl, HQ.out⟩
        · have HQ := Lib.hid (show RefTo w w4 b D' S by
            rw [HDD.out]
            refine ⟨_, ⟨_, _, HA1.out, Up.old hS, ?_, HA2.out⟩, fun k hk => ?_, HFR.out⟩
            · rw [← h3, ← HUP.out (.slice A3 n3 cap3)]
              unfold PlainDisk.cutF
              rw [Nat.min_eq_left (by omega)]
            · rcases hk with hk | ⟨h5, h6⟩
              · exact .inl hk
              · exact .inr ⟨by have := E3.out.size; omega, by rw [a4]; exact h6⟩)
          have hsn2 : (p.1.sure : Int) ≤ ((0 : Nat) : Int) := by omega
          go_wp2_with fail
          go_ret
          exact ⟨rfl, HQ.out⟩
    · go_enter Try.func35, Try.ntmps35
      go_wp2_with fail
      refine C1.out.mono ?_
      rintro e w' ⟨rfl, rfl⟩
      go_wp2_with fail
      refine C2.out.mono ?_
      rintro e w' ⟨rfl, rfl⟩
      go_wp2_with fail
      refine C3.out.mono ?_
      rintro e w' ⟨rfl, rfl⟩
      go_wp2_with fail
      go_region_law (first
        | ((refine step_appX (by rfl) (.tmp 54) (.tmp 64) (by rfl) w'.heap.size (.slice (some ⟨w'.heap.size, 0, none⟩) 0 0) [] (by rfl) O1.out (some ad) n c2 (p.1.bytes.take n) (by rfl) L1.out HTK.out Z3.out Z1.out B1.out.size ?_); intro v3 w3 hown3 hg3; (obtain ⟨A3, n3, cap3, rfl⟩ := hown3.form); (have hb3 : Below w'.heap.size w' w3 := B1.out.grown hg3 B1.out.size (fun k hk => (O1.out.lt k hk).1)); (have hb3l : b < w3.heap.size := Nat.lt_of_lt_of_le hblt hb3.size); (have hg3l : g0 < w3.heap.size := Nat.lt_of_lt_of_le hglt hb3.size); (have c03 : w3.cell? ⟨b, 0, none⟩ = some (.slice (some ⟨g0, 0, none⟩) ps.length cap) := (hb3.cell hblt).trans c0); (have d13 : w3.cell? ⟨g0, i * 3 + 1, none⟩ = some (.slice (some ad) p.1.bytes.length c2) := (hb3.cell hglt).trans d1); (have d23 : w3.cell? ⟨g0, i * 3 + 2, none⟩ = some (.int .i64 (p.1.sure : Nat)) := (hb3.cell hglt).trans d2); (have f13 : w3.frozen? ⟨g0, i * 3 + 1, none⟩ = false := (hb3.frozen hglt).trans f1); (have f23 : w3.frozen? ⟨g0, i * 3 + 2, none⟩ = false := (hb3.frozen hglt).trans f2); (have O3 := Lib.hid hown3); (have B3 := Lib.hid hb3); (clear hown3 hb3 hg3)))
      all_goals
        obtain ⟨a1, a2, a3, a4⟩ := row_set1 (l := p.1.bytes.take n) E1.out E2.out HH2.out B3.out O3.out
        have HFR := Lib.hid (E3.out.trans a3 (fun i hi => .inl hi))
        have hz4 : w'.heap.size ≤ w3.heap.size := B3.out.size
        generalize w3.setCell ⟨g0, i * 3 + 1, none⟩ (.slice A3 n3 cap3) = w4 at *
        have hset : (ps.set i (({ p.1 with bytes := p.1.bytes.take n } : File), .slice A3 n3 cap3))[i]? = some (({ p.1 with bytes := p.1.bytes.take n } : File), .slice A3 n3 cap3) := List.getElem?_set_self hil
        have c04 : w4.cell? ⟨b, 0, none⟩ = some (.slice (some ⟨g0, 0, none⟩) ps.length cap) := by rw [Lib.cell_of_heap a1]; rfl
        obtain ⟨cs4, hg4⟩ := a2.block (g := g0) rfl
        obtain ⟨A4, cap4, e4, _, _, hrow4⟩ := a2.form
        rw [List.length_set] at e4 hrow4
        cases e4
        obtain ⟨g4, cs5, e5, _, _, _, hat4⟩ := hrow4 (by omega)
        cases e5
        have d24 : w4.cell? ⟨g0, i * 3 + 2, none⟩ = some (.int .i64 (p.1.sure : Nat)) := (hat4 i _ hset).2.2
        have f24 : w4.frozen? ⟨g0, i * 3 + 2, none⟩ = false := Lib.frozen_of_heap hg4 _
        have HA1 := Lib.hid a1
        have HA2 := Lib.hid a2
        have HST := Lib.hid hset
        have HUP := Lib.hid (fun v => set_upd HS.out HH2.out (PlainDisk.cutF n) v)
        clear a1 a2 a3 hset hat4 hrow4 hg4
        by_cases hsn : n < p.1.sure
        · have hsn2 : (n : Int) < (p.1.sure : Int) := by omega
          obtain ⟨q1, q2, q3, q4⟩ := row_set2 (m := n) HA1.out HA2.out HST.out
          have HQ := Lib.hid (show RefTo w (w4.setCell ⟨g0, i * 3 + 2, none⟩ (.int .i64 (n : Nat))) b D' S by
            rw [HDD.out]
            refine ⟨_, ⟨_, _, q1, Up.old hS, ?_, q2⟩, fun k hk => ?_, HFR.out.trans q3 (fun i hi => Up_new i hi |>.elim .inl fun h => .inr (by have := E3.out.size; omega))⟩
            · rw [List.set_set, ← h3, ← HUP.out (.slice A3 n3 cap3)]
              unfold PlainDisk.cutF
              rw [Nat.min_eq_right (by omega)]
            · rcases hk with hk | ⟨h5, h6⟩
              · exact .inl hk
              · exact .inr ⟨by have := E3.out.size; omega, by rw [q4, a4]; exact h6⟩)
          clear q1 q2 q3 q4
          go_wp2_with fail
          go_ret
          exact ⟨rfl, HQ.out⟩
        · have HQ := Lib.hid (show RefTo w w4 b D' S by
            rw [HDD.out]
            refine ⟨_, ⟨_, _, HA1.out, Up.old hS, ?_, HA2.out⟩, fun k hk => ?_, HFR.out⟩
            · rw [← h3, ← HUP.out (.slice A3 n3 cap3)]
              unfold PlainDisk.cutF
              rw [Nat.min_eq_left (by omega)]
            · rcases hk with hk | ⟨h5, h6⟩
              · exact .inl hk
              · exact .inr ⟨by have := E3.out.size; omega, by rw [a4]; exact h6⟩)
          have hsn2 : (p.1.sure : Int) ≤ (n : Int) := by omega
          go_wp2_with fail
          go_ret
          exact ⟨rfl, HQ.out⟩
end Go.Proofs.Ytggndipfholllaa
namespace Go.Proofs.Ytggndipfholllaa
open Go.RowKit
open PlainDisk (File Disk Left)
set_option linter.unusedVariables false

/-! ### Append -/
theorem RefTo.go {w w1 w2 : World} {S S1 : Nat → Prop} {b : Nat} {D2 : Disk} (hu : ∀ k, S1 k → Up S w w1 k) (hf : Fr S w w1) (h : RefTo w1 w2 b D2 S1) : RefTo w w2 b D2 S := by
  obtain ⟨S2, h1, h2, h3⟩ := h
  refine ⟨S2, h1, fun k hk => ?_, hf.trans h3 (fun i hi => Up_new i (hu i hi))⟩
  rcases h2 k hk with h | ⟨h, h'⟩
  · rcases hu k h with h | ⟨h4, h5⟩
    · exact .inl h
    · exact .inr ⟨h4, by have := h3.size; omega⟩
  · exact .inr ⟨by have := hf.size; omega, h'⟩
theorem failW_other (b : Nat) (good : Int) (w : World) : ∀ k, k ≠ b → (failW b good w).heap[k]? = w.heap[k]? := by
  intro k hk
  unfold failW
  split
  · exact Below.heap_setCell _ _ _ k hk
  split
  · exact Below.heap_setCell _ _ _ k hk
  · rfl
theorem grown_ref {wf w3 : World} {b g n cap i room : Nat} {gone : Bool} {good : Int} {ps : List FV} {S : Nat → Prop} {p : FV} {x nm : List UInt8} {v : Value} (hb : wf.heap[b]? = some (.cells #[.slice (some ⟨g, 0, none⟩) n cap, .int .i64 (room : Nat), .bool gone, .int .i64 good] 40 (0, 0))) (hS : S b)
    (hr : RowF wf (.slice (some ⟨g, 0, none⟩) n cap) ps S) (hs : PlainDisk.Sorted (ps.map (·.1))) (h2 : ps[i]? = some p) (h3 : p.1.name = nm) (hbw : Below wf.heap.size wf w3) (hown : OwnB w3 wf.heap.size v (p.1.bytes ++ x)) :
    RefTo wf (w3.setCell ⟨g, i * 3 + 1, none⟩ v) b ⟨PlainDisk.upd (ps.map (·.1)) nm (PlainDisk.grow x), room, gone, good⟩ S := by
  obtain ⟨a1, a2, a3, a4⟩ := row_set1 hb hr h2 hbw hown
  refine ⟨_, ⟨_, _, a1, Up.old hS, ?_, a2⟩, fun k hk => ?_, a3⟩
  · rw [← h3, ← set_upd hs h2 (PlainDisk.grow x) v]
    rfl
  · rcases hk with hk | ⟨h5, h6⟩
    · exact .inl hk
    · exact .inr ⟨h5, by rw [a4]; exact h6⟩
theorem RefTo.drewN {w w' : World} {b : Nat} {D : Disk} {S : Nat → Prop} (h : RefTo w w' b D S) (n : Nat) : RefTo w (w'.drewN n) b D S := by
  obtain ⟨S', ⟨Lv, ps, h1, h2, h3, h4⟩, h5, h6⟩ := h
  exact ⟨S', ⟨Lv, ps, h1, h2, h3, ⟨h4.own, h4.mine, h4.bytes⟩⟩, h5, ⟨h6.os, h6.tape, h6.output, h6.size, h6.block⟩⟩
set_option maxHeartbeats 4000000 in
set_option maxRecDepth 100000 in
theorem refAppend_down (b : Nat) (nm bs : List UInt8) (vb : Value) (D : Disk) (S : Nat → Prop) (w : World) (hd : RefIs w b D S) (hF : Fine D) (hnm : nm.length ≤ 281474976710656) (hB : Src w vb bs b) (hg : D.gone = true ∨ may nm = false) :
    Calls Try.prog 33 #[.pointer (some ⟨b, 0, none⟩), .string (str nm), vb] w fun e w' => e = .returned (.int .i64 (PlainDisk.append may D nm bs).2) ∧ RefTo w w' b (PlainDisk.append may D nm bs).1 S := by
  have HD := Lib.hid hd.stays
  obtain ⟨Lv, ps, hb, hS, hfs, hr⟩ := hd
  obtain ⟨Ab, cb, rfl, hcb, hcb2, hLb⟩ := hB.lies
  have C1 := Lib.hid (refBarred_any b D.gone Lv (.int .i64 (D.room : Nat)) (.int .i64 D.good) nm nm w hb hnm hnm)
  unfold PlainDisk.append
  clear hb hr hfs hB hLb
  by_cases hg1 : D.gone = true
  · rw [if_pos hg1]
    rw [if_pos hg1] at C1
    go_enter Try.func33, Try.ntmps33
    go_wp2_with fail
    refine C1.out.mono ?_
    rintro e w' ⟨rfl, rfl⟩
    go_wp2_with fail
    go_ret
    exact ⟨rfl, HD.out⟩
  · have hm : may nm = false := hg.resolve_left hg1
    rw [if_neg hg1, if_pos hm]
    rw [if_neg hg1, if_pos (.inl hm)] at C1
    go_enter Try.func33, Try.ntmps33
    go_wp2_with fail
    refine C1.out.mono ?_
    rintro e w' ⟨rfl, rfl⟩
    go_wp2_with fail
    go_ret
    exact ⟨rfl, HD.out⟩
set_option maxHeartbeats 4000000 in
set_option maxRecDepth 100000 in
theorem refAppend_many (b : Nat) (nm bs : List UInt8) (vb : Value) (D : Disk) (S : Nat → Prop) (w : World) (hd : RefIs w b D S) (hF : Fine D) (hnm : nm.length ≤ 281474976710656) (hB : Src w vb bs b) (hg : ¬ D.gone = true) (hm : ¬ may nm = false) (hmany : PlainDisk.find D.fs nm = none ∧ 64 ≤ D.fs.length) :
    Calls Try.prog 33 #[.pointer (some ⟨b, 0, none⟩), .string (str nm), vb] w fun e w' => e = .returned (.int .i64 (PlainDisk.append may D nm bs).2) ∧ RefTo w w' b (PlainDisk.append may D nm bs).1 S := by
  have HD := Lib.hid hd.stays
  obtain ⟨Lv, ps, hb, hS, hfs, hr⟩ := hd
  obtain ⟨Ab, cb, rfl, hcb, hcb2, hLb⟩ := hB.lies
  have C1 := Lib.hid (refBarred_any b D.gone Lv (.int .i64 (D.room : Nat)) (.int .i64 D.good) nm nm w hb hnm hnm)
  have C2 := Lib.hid (refFind_any b nm Lv ps _ _ _ S w hb hr)
  unfold PlainDisk.append
  rw [if_neg hg, if_neg hm, if_pos hmany]
  rw [if_neg hg, if_neg (by simp [hm])] at C1
  obtain ⟨hm1, hm2⟩ := hmany
  rw [hfs, List.length_map] at hm2
  obtain ⟨A, cap, rfl, hc, hmx, hrow⟩ := hr.form
  have c0 : w.cell? ⟨b, 0, none⟩ = some (.slice A ps.length cap) := by rw [Lib.cell_of_heap hb]; rfl
  have h1 : place nm ps = -1 := by
    rcases place_find (nm := nm) (ps := ps) with ⟨h1, h2⟩ | ⟨i, p, h1, h2, h3, h4⟩
    · exact h1
    · rw [hfs, h4] at hm1; cases hm1
  rw [h1] at C2
  have hn2 : (64 : Int) ≤ (ps.length : Int) := by omega
  have hn3 : (ps.length : Int) ≤ 9223372036854775807 := by omega
  clear hb hr hfs hB hLb hrow h1
  go_enter Try.func33, Try.ntmps33
  go_wp2_with fail
  refine C1.out.mono ?_
  rintro e w' ⟨rfl, rfl⟩
  go_wp2_with fail
  refine C2.out.mono ?_
  rintro e w' ⟨rfl, rfl⟩
  go_wp2_with fail
  go_ret
  exact ⟨rfl, HD.out⟩
set_option maxHeartbeats 4000000 in
set_option maxRecDepth 100000 in
theorem refAppend_fullfound (b : Nat) (nm bs : List UInt8) (vb : Value) (D : Disk) (S : Nat → Prop) (w : World) (hd : RefIs w b D S) (hF : Fine D) (hnm : nm.length ≤ 281474976710656) (hB : Src w vb bs b) (hg : ¬ D.gone = true) (hm : ¬ may nm = false) (hmany : ∃ f, PlainDisk.find D.fs nm = some f) (hfull : D.room < PlainDisk.used D.fs + bs.length) :
    Calls Try.prog 33 #[.pointer (some ⟨b, 0, none⟩), .string (str nm), vb] w fun e w' => e = .returned (.int .i64 (PlainDisk.append may D nm bs).2) ∧ RefTo w w' b (PlainDisk.append may D nm bs).1 S := by
  have HD := Lib.hid (fun n => RefTo.drewN hd.stays n)
  obtain ⟨Lv, ps, hb, hS, hfs, hr⟩ := hd
  obtain ⟨Ab, cb, rfl, hcb, hcb2, hLb⟩ := hB.lies
  have hub := hF.inv.room
  have hroom := hF.room
  rw [hfs] at hub
  have C1 := Lib.hid (refBarred_any b D.gone Lv (.int .i64 (D.room : Nat)) (.int .i64 D.good) nm nm w hb hnm hnm)
  have C2 := Lib.hid (refFind_any b nm Lv ps _ _ _ S w hb hr)
  have C3 := Lib.hid (fun n => (refUsed_any b _ ps _ _ _ S (w.drewN n) hb ⟨hr.own, hr.mine, hr.bytes⟩ (by omega)).mono fun e w' h => And.intro h.1 h.2.symm)
  unfold PlainDisk.append
  obtain ⟨f, hf⟩ := hmany
  rw [if_neg hg, if_neg hm, if_neg (by rw [hf]; simp), if_pos hfull]
  rw [if_neg hg, if_neg (by simp [hm])] at C1
  obtain ⟨A, cap, rfl, hc, hmx, hrow⟩ := hr.form
  have c0 : w.cell? ⟨b, 0, none⟩ = some (.slice A ps.length cap) := by rw [Lib.cell_of_heap hb]; rfl
  have c1 : w.cell? ⟨b, 1, none⟩ = some (.int .i64 (D.room : Nat)) := by rw [Lib.cell_of_heap hb]; rfl
  rw [hfs] at hf hfull
  obtain ⟨i, h1⟩ : ∃ i : Nat, place nm ps = (i : Nat) ∧ i < ps.length := by
    rcases place_find (nm := nm) (ps := ps) with ⟨h1, h2⟩ | ⟨i, p, h1, h2, h3, h4⟩
    · rw [h2] at hf; cases hf
    · exact ⟨i, h1, (List.getElem?_eq_some_iff.1 h2).1⟩
  obtain ⟨h1, hil⟩ := h1
  have hi3 : (i : Int) ≤ 9223372036854775807 := by omega
  rw [h1] at C2
  generalize hU : PlainDisk.used (ps.map (·.1)) = U at *
  have hro : (D.room : Int) - (U : Int) < (bs.length : Int) := by omega
  have hro2 : (D.room : Int) ≤ 1048576 := by omega
  have hro3 : (U : Int) ≤ (D.room : Int) := by omega
  have hn3 : (ps.length : Int) ≤ 9223372036854775807 := by omega
  have hn4 : (bs.length : Int) ≤ 9223372036854775807 := by omega
  clear hb hr hfs hB hLb hrow h1 hU hub hf hfull
  go_enter Try.func33, Try.ntmps33
  go_wp2_with fail
  refine C1.out.mono ?_
  rintro e w' ⟨rfl, rfl⟩
  go_wp2_with fail
  refine C2.out.mono ?_
  rintro e w' ⟨rfl, rfl⟩
  go_wp2_with fail
  go_quiet (first | (go_at_call 44; refine Calls.quiet_of_same (C3.out _)))
  go_wp2_with fail
  go_ret
  exact ⟨rfl, HD.out _⟩
set_option maxHeartbeats 4000000 in
set_option maxRecDepth 100000 in
theorem refAppend_fullnone (b : Nat) (nm bs : List UInt8) (vb : Value) (D : Disk) (S : Nat → Prop) (w : World) (hd : RefIs w b D S) (hF : Fine D) (hnm : nm.length ≤ 281474976710656) (hB : Src w vb bs b) (hg : ¬ D.gone = true) (hm : ¬ may nm = false) (hmany : PlainDisk.find D.fs nm = none ∧ D.fs.length < 64) (hfull : D.room < PlainDisk.used D.fs + bs.length) :
    Calls Try.prog 33 #[.pointer (some ⟨b, 0, none⟩), .string (str nm), vb] w fun e w' => e = .returned (.int .i64 (PlainDisk.append may D nm bs).2) ∧ RefTo w w' b (PlainDisk.append may D nm bs).1 S := by
  have HD := Lib.hid (fun n => RefTo.drewN hd.stays n)
  obtain ⟨Lv, ps, hb, hS, hfs, hr⟩ := hd
  obtain ⟨Ab, cb, rfl, hcb, hcb2, hLb⟩ := hB.lies
  have hub := hF.inv.room
  have hroom := hF.room
  rw [hfs] at hub
  have C1 := Lib.hid (refBarred_any b D.gone Lv (.int .i64 (D.room : Nat)) (.int .i64 D.good) nm nm w hb hnm hnm)
  have C2 := Lib.hid (refFind_any b nm Lv ps _ _ _ S w hb hr)
  have C3 := Lib.hid (fun n => (refUsed_any b _ ps _ _ _ S (w.drewN n) hb ⟨hr.own, hr.mine, hr.bytes⟩ (by omega)).mono fun e w' h => And.intro h.1 h.2.symm)
  unfold PlainDisk.append
  rw [if_neg hg, if_neg hm, if_neg (by omega), if_pos hfull]
  obtain ⟨hf, hl64⟩ := hmany
  rw [hfs, List.length_map] at hl64
  rw [if_neg hg, if_neg (by simp [hm])] at C1
  obtain ⟨A, cap, rfl, hc, hmx, hrow⟩ := hr.form
  have c0 : w.cell? ⟨b, 0, none⟩ = some (.slice A ps.length cap) := by rw [Lib.cell_of_heap hb]; rfl
  have c1 : w.cell? ⟨b, 1, none⟩ = some (.int .i64 (D.room : Nat)) := by rw [Lib.cell_of_heap hb]; rfl
  rw [hfs] at hf hfull
  have h1 : place nm ps = -1 := by
    rcases place_find (nm := nm) (ps := ps) with ⟨h1, h2⟩ | ⟨i, p, h1, h2, h3, h4⟩
    · exact h1
    · rw [h4] at hf; cases hf
  have hn2 : (ps.length : Int) < 64 := by omega
  rw [h1] at C2
  generalize hU : PlainDisk.used (ps.map (·.1)) = U at *
  have hro : (D.room : Int) - (U : Int) < (bs.length : Int) := by omega
  have hro2 : (D.room : Int) ≤ 1048576 := by omega
  have hro3 : (U : Int) ≤ (D.room : Int) := by omega
  have hn3 : (ps.length : Int) ≤ 9223372036854775807 := by omega
  have hn4 : (bs.length : Int) ≤ 9223372036854775807 := by omega
  clear hb hr hfs hB hLb hrow h1 hU hub hf hfull
  go_enter Try.func33, Try.ntmps33
  go_wp2_with fail
  refine C1.out.mono ?_
  rintro e w' ⟨rfl, rfl⟩
  go_wp2_with fail
  refine C2.out.mono ?_
  rintro e w' ⟨rfl, rfl⟩
  go_wp2_with fail
  go_quiet (first | (go_at_call 44; refine Calls.quiet_of_same (C3.out _)))
  go_wp2_with fail
  go_ret
  exact ⟨rfl, HD.out _⟩
end Go.Proofs.Ytggndipfholllaa
