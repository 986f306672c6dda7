import Derived.Test.YtjcikhacekmcfaaGreatDoorYa
namespace Go.Proofs.YtjcikhacekmcfaaGreatDoor
open Go.RowKit
open PlainDisk (File Disk)
open PWal (St Ent Chg)
set_option linter.unusedVariables false
set_option maxRecDepth 20000
/-! ### the plain run of awake -/
def aD0 : Disk := PlainDisk.new 4000
def aL1 : List Ent := [⟨1, [97]⟩, ⟨1, [98]⟩]
def aL2 : List Ent := [⟨2, [99]⟩]
def aO : Disk × Option St × Int := PWal.openD aD0
def aOs : St := aO.2.1.getD St.new
def aV : Disk × St × Int := PWal.vote aO.1 aOs 1 2
def aA : Disk × St × Int := PWal.append aV.1 aV.2.1 1 aL1
def aS : Disk × Int := PWal.sync aA.1
def aB : Disk × St × Int := PWal.append aS.1 aA.2.1 2 aL2
def aC : Disk := PlainDisk.crash aB.1 []
def aP : Disk × Option St × Int := PWal.openD aC
def aPs : St := aP.2.1.getD St.new
def aN : Disk × St × Int := PWal.snapshot aP.1 aPs 2 1 [120]
theorem aO_is : PWal.openD aD0 = (aO.1, some aOs, 0) := open_is (r := aO) (by decide +kernel) (by decide +kernel)
theorem aV_is : (PWal.vote aO.1 aOs 1 2).2.2 = 0 := by decide +kernel
theorem aA_is : (PWal.append aV.1 aV.2.1 1 aL1).2.2 = 0 := by decide +kernel
theorem aS_is : (PWal.sync aA.1).2 = 0 := by decide +kernel
theorem aB_is : (PWal.append aS.1 aA.2.1 2 aL2).2.2 = 0 := by decide +kernel
theorem aP_is : PWal.openD aC = (aP.1, some aPs, 0) := open_is (r := aP) (by decide +kernel) (by decide +kernel)
theorem aN_is : (PWal.snapshot aP.1 aPs 2 1 [120]).2.2 = 0 := by decide +kernel
theorem len0 : aV.2.1.log.length = 0 ∧ aA.2.1.log.length = 2 ∧ aB.2.1.log.length = 2 ∧ aPs.log.length = 2 ∧ aN.2.1.log.length = 0 := by decide +kernel
theorem dat1 : (aB.2.1.log[1]?).map (·.data) = some [99] := by decide +kernel
theorem dat2 : (aPs.log[1]?).map (·.data) = some [98] := by decide +kernel
theorem tell2 : aPs.term = 1 ∧ aPs.vote = 2 := by decide +kernel
theorem tell3 : aN.2.1.sdata = [120] := by decide +kernel
section
variable {H : Nat → Prop} {w wi w' : World} {bw b : Nat} {D : Disk} {s : St}
theorem r0 : Wr.InR 0 := ⟨by omega, by omega⟩
theorem r1 : Wr.InR 1 := ⟨by omega, by omega⟩
theorem r2 : Wr.InR 2 := ⟨by omega, by omega⟩
theorem code_is {r : Disk × St × Int} {e : Ending} (h : CaP H r bw b w wi e w') (h0 : r.2.2 = 0) : e = .returned (.int .i64 0) ∧ WCh H w w' bw b r.1 r.2.1 ∧ Kept H wi w' := ⟨by rw [h.1, h0], h.2⟩
theorem aw_vote (h : WCh H w wi bw b aO.1 aOs) : Calls Tryz.prog 34 #[.pointer (some ⟨bw, 0, none⟩), .int .i64 1, .int .i64 2] wi fun e w' => e = .returned (.int .i64 0) ∧ WCh H w w' bw b aV.1 aV.2.1 ∧ Kept H wi w' :=
  (vote_ch h 1 2 r1 r2).mono fun e w' hh => code_is hh aV_is
theorem lt_alloc (w : World) (o : Obj) : w.heap.size < (w.alloc o).heap.size := by simp
theorem bel_alloc (w : World) (o : Obj) : Below w.heap.size w (w.alloc o) := (Below.refl _ _).alloc (Nat.le_refl _) _
theorem aw_app1 (h : WCh H w wi bw b aV.1 aV.2.1) : Calls Tryz.prog 27 #[.pointer (some ⟨bw, 0, none⟩), .int .i64 1, .slice (some ⟨wi.heap.size, 0, none⟩) 2 2] (wi.alloc (.cells #[.int .i64 1, .string ⟨#[97]⟩, .int .i64 1, .string ⟨#[98]⟩] 75)) fun e w' => e = .returned (.int .i64 0) ∧ WCh H w w' bw b aA.1 aA.2.1 ∧ Kept H (wi.alloc (.cells #[.int .i64 1, .string ⟨#[97]⟩, .int .i64 1, .string ⟨#[98]⟩] 75)) w' :=
  (append_ch' h (bel_alloc _ _) 1 r1 aL1 _ 2 2 rfl (ent_new wi aL1 _ 2 rfl rfl (by omega)) (by decide) (fun g off e => by injection e with e; injection e with e _; exact .inr (Nat.le_of_eq e)) (by rw [len0.1]; decide)).mono fun e w' hh => code_is hh aA_is
theorem aw_sync (h : WCh H w wi bw b aA.1 aA.2.1) : Calls Tryz.prog 28 #[.pointer (some ⟨bw, 0, none⟩)] wi fun e w' => e = .returned (.int .i64 0) ∧ WCh H w w' bw b aS.1 aA.2.1 ∧ Kept H wi w' :=
  (sync_ch' h).mono fun e w' hh => code_is hh aS_is
theorem aw_app2 (h : WCh H w wi bw b aS.1 aA.2.1) : Calls Tryz.prog 27 #[.pointer (some ⟨bw, 0, none⟩), .int .i64 2, .slice (some ⟨wi.heap.size, 0, none⟩) 1 1] (wi.alloc (.cells #[.int .i64 2, .string ⟨#[99]⟩] 75)) fun e w' => e = .returned (.int .i64 0) ∧ WCh H w w' bw b aB.1 aB.2.1 ∧ Kept H (wi.alloc (.cells #[.int .i64 2, .string ⟨#[99]⟩] 75)) w' :=
  (append_ch' h (bel_alloc _ _) 2 r2 aL2 _ 1 1 rfl (ent_new wi aL2 _ 1 rfl rfl (by omega)) (by decide) (fun g off e => by injection e with e; injection e with e _; exact .inr (Nat.le_of_eq e)) (by rw [len0.2.1]; decide)).mono fun e w' hh => code_is hh aB_is
/-- a state with two entries, told -/
def Told2 (s : St) (z : ByteArray) (H : Nat → Prop) (w wi : World) (bw b : Nat) (D : Disk) (e : Ending) (w' : World) : Prop :=
  ∃ (g c : Nat) (cs : Array Value), e = .returned (.agg #[.int .i64 s.term, .int .i64 s.vote, .int .i64 s.sidx, .int .i64 s.sterm, .string (str s.sdata), .slice (some ⟨g, 0, none⟩) 2 c]) ∧ w'.heap[g]? = some (.cells cs 75 (0, 0)) ∧ cs[3]? = some (.string z) ∧ WCh (fun k => H k ∨ k = g) w w' bw b D s ∧ Kept H wi w'
theorem told2 (h : WCh H w wi bw b D s) (h2 : s.log.length = 2) (d : List UInt8) (z : ByteArray) (hz : str d = z) (hd : (s.log[1]?).map (·.data) = some d) : Calls Tryz.prog 24 #[.pointer (some ⟨bw, 0, none⟩)] wi (Told2 s z H w wi bw b D) := by
  refine (state_ch h).mono ?_
  rintro e w' ⟨A, c, rfl, ho, hb⟩
  have hne : s.log ≠ [] := fun e => by rw [e] at h2; cases h2
  obtain ⟨g, cs, rfl, g1, g2, g3, g4⟩ := log_row ho hne
  obtain ⟨q1, q2⟩ := h.hold hb g g1 g2
  obtain ⟨x, hx⟩ : ∃ x, s.log[1]? = some x := ⟨_, List.getElem?_eq_getElem (by omega)⟩
  rw [hx] at hd
  simp only [Option.map_some, Option.some.injEq] at hd
  refine ⟨g, c, cs, by rw [h2]; rfl, g3, ?_, q1, q2⟩
  rw [← hz, ← hd]
  exact g4 3 _ (entC_at hx).2
theorem aw_state1 (h : WCh H w wi bw b aB.1 aB.2.1) : Calls Tryz.prog 24 #[.pointer (some ⟨bw, 0, none⟩)] wi (Told2 aB.2.1 ⟨#[99]⟩ H w wi bw b aB.1) := told2 h len0.2.2.1 [99] _ rfl dat1
theorem aw_state2 (h : WCh H w wi bw b aP.1 aPs) : Calls Tryz.prog 24 #[.pointer (some ⟨bw, 0, none⟩)] wi (Told2 aPs ⟨#[98]⟩ H w wi bw b aP.1) := told2 h len0.2.2.2.1 [98] _ rfl dat2
theorem aw_snap (h : WCh H w wi bw b aP.1 aPs) : Calls Tryz.prog 30 #[.pointer (some ⟨bw, 0, none⟩), .agg #[.int .i64 2, .int .i64 1, .string ⟨#[120]⟩]] wi fun e w' => e = .returned (.int .i64 0) ∧ WCh H w w' bw b aN.1 aN.2.1 ∧ Kept H wi w' :=
  (snapshot_ch h 2 1 [120] r2 r1 (by decide) (by rw [len0.2.2.2.1]; decide)).mono fun e w' hh => code_is hh aN_is
theorem aw_state3 (h : WCh H w wi bw b aN.1 aN.2.1) : Calls Tryz.prog 24 #[.pointer (some ⟨bw, 0, none⟩)] wi fun e w' => ∃ (t v i x : Int) (A : Option Addr) (c : Nat), e = .returned (.agg #[.int .i64 t, .int .i64 v, .int .i64 i, .int .i64 x, .string ⟨#[120]⟩, .slice A 0 c]) ∧ WCh H w w' bw b aN.1 aN.2.1 ∧ Kept H wi w' := by
  refine (state_ch h).mono ?_
  rintro e w' ⟨A, c, rfl, ho, hb⟩
  obtain ⟨q1, q2⟩ := h.next hb
  refine ⟨aN.2.1.term, aN.2.1.vote, aN.2.1.sidx, aN.2.1.sterm, A, c, ?_, q1, q2⟩
  unfold stV
  rw [tell3, len0.2.2.2.2]
  rfl
theorem aw_open1 (h : DCh H w wi b aD0) : Calls Tryz.prog 12 #[.pointer (some ⟨b, 0, none⟩)] wi fun e w' => ∃ bw, e = .returned (.tuple #[.pointer (some ⟨bw, 0, none⟩), .int .i64 0]) ∧ WCh H w w' bw b aO.1 aOs ∧ Kept H wi w' := open_some h aO_is
theorem aw_open2 (h : DCh H w wi b aC) : Calls Tryz.prog 12 #[.pointer (some ⟨b, 0, none⟩)] wi fun e w' => ∃ bw, e = .returned (.tuple #[.pointer (some ⟨bw, 0, none⟩), .int .i64 0]) ∧ WCh H w w' bw b aP.1 aPs ∧ Kept H wi w' := open_some h aP_is
theorem aw_crash (h : WCh H w wi bw b aB.1 aB.2.1) : Calls Tryz.prog 15 #[.pointer (some ⟨b, 0, none⟩), .slice none 0 0] wi fun e w' => e = .returned (.tuple #[]) ∧ DCh H w w' b aC ∧ Kept H wi w' := crash_nil h.dch
end
theorem bld37a (w : World) : (Instr.build 37 #[(0, .int .i64 2), (1, .int .i64 1), (2, .string ⟨#[120]⟩)]).run Tryz.prog w = .ok (.agg #[.int .i64 2, .int .i64 1, .string ⟨#[120]⟩]) w := run_build w 37 _ _ (by kernel_rfl)
theorem cell_of {w : World} {b k : Nat} {cs : Array Value} {t : TypeId} {v : Value} (h : w.heap[b]? = some (.cells cs t (0, 0))) (hk : cs[k]? = some v) : w.cell? ⟨b, k, none⟩ = some v := (cell_of_row w b k _ _ _ h).trans hk
theorem keepA {W : World} {q : Nat} {o : Obj} (p : Obj) (h : W.heap[q]? = some o) : (W.alloc p).heap[q]? = some o := (Below.heap_alloc _ _ q (Array.getElem?_eq_some_iff.1 h).1).trans h
/-- a state's box, held -/
theorem box_hold {H : Nat → Prop} {w wi : World} {bw b : Nat} {D : Disk} {s : St} (h : WCh H w wi bw b D s) (o : Obj) : WCh (fun k => H k ∨ k = wi.heap.size) w (wi.alloc o) bw b D s := (h.hold (bel_alloc _ _) wi.heap.size (Nat.le_refl _) (lt_alloc _ _)).1
set_option maxHeartbeats 4000000 in
theorem awake_w (w : World) (hg : Glob w) : Calls Tryz.prog 9 #[] w (RetBelow (.bool true) w) := by
  have HG := Lib.hid hg
  have HN := Lib.hid (new_dch 4000 w w (by omega) hg (Below.refl _ _))
  have qb := bld37a
  have hst : aPs.term = 1 ∧ aPs.vote = 2 := tell2
  have HT := Lib.hid hst
  clear hg hst
  go_enter Tryz.func9, Tryz.ntmps9
  go_wp2_with fail
  refine HN.out.mono ?_
  rintro e w1 ⟨b, rfl, h1⟩
  have D1 := Lib.hid h1
  clear h1
  go_wp2_with fail
  refine (aw_open1 D1.out).mono ?_
  rintro e w2 ⟨bw, rfl, h, _⟩
  have W2 := Lib.hid h
  clear h
  go_wp2_with fail
  refine (aw_vote W2.out).mono ?_
  rintro e w3 ⟨rfl, h, _⟩
  have W3 := Lib.hid h
  clear h
  go_wp2_with fail
  refine (aw_app1 W3.out).mono ?_
  rintro e w4 ⟨rfl, h, _⟩
  have W4 := Lib.hid h
  clear h
  go_wp2_with fail
  refine (aw_sync W4.out).mono ?_
  rintro e w5 ⟨rfl, h, _⟩
  have W5 := Lib.hid h
  clear h
  go_wp2_with fail
  refine (aw_app2 W5.out).mono ?_
  rintro e w6 ⟨rfl, h, _⟩
  have W6 := Lib.hid h
  clear h
  go_wp2_with fail
  refine (aw_state1 W6.out).mono ?_
  rintro e w7 ⟨g1, c1, cs1, rfl, hr1, hc1, h, _⟩
  have W7 := Lib.hid h
  have R1 := Lib.hid hr1
  have C1 := Lib.hid hc1
  clear h hr1 hc1
  generalize aB.2.1.term = t1 at *
  generalize aB.2.1.vote = v1 at *
  generalize aB.2.1.sidx = i1 at *
  generalize aB.2.1.sterm = x1 at *
  generalize str aB.2.1.sdata = z1 at *
  go_wp2_with fail
  refine (aw_crash (box_hold W7.out _)).mono ?_
  rintro e w8 ⟨rfl, h, hk⟩
  have D8 := Lib.hid h
  have BX1 := Lib.hid ((hk w7.heap.size (.inr rfl)).trans (heap_alloc_new w7 _))
  have RG1 := Lib.hid ((hk g1 (.inl (.inr rfl))).trans (keepA _ R1.out))
  clear h hk
  go_wp2_with fail
  refine (aw_open2 D8.out).mono ?_
  rintro e w9 ⟨bv, rfl, h, hk⟩
  have W9 := Lib.hid h
  have BX2 := Lib.hid ((hk w7.heap.size (.inr rfl)).trans BX1.out)
  have RG2 := Lib.hid ((hk g1 (.inl (.inr rfl))).trans RG1.out)
  clear h hk
  go_wp2_with fail
  refine (aw_state2 W9.out).mono ?_
  rintro e w10 ⟨g2, c2, cs2, rfl, hr2, hc2, h, hk⟩
  have W10 := Lib.hid h
  have R2 := Lib.hid hr2
  have C2 := Lib.hid hc2
  have BX3 := Lib.hid ((hk w7.heap.size (.inr rfl)).trans BX2.out)
  have RG3 := Lib.hid ((hk g1 (.inl (.inr rfl))).trans RG2.out)
  clear h hr2 hc2 hk
  rw [HT.out.1, HT.out.2]
  generalize aPs.sidx = i2 at *
  generalize aPs.sterm = x2 at *
  generalize str aPs.sdata = z2 at *
  go_wp2_with fail
  refine (aw_snap (box_hold W10.out _)).mono ?_
  rintro e w11 ⟨rfl, h, hk⟩
  have W11 := Lib.hid h
  have BY1 := Lib.hid ((hk w10.heap.size (.inr rfl)).trans (heap_alloc_new w10 _))
  have RH1 := Lib.hid ((hk g2 (.inl (.inr rfl))).trans (keepA _ R2.out))
  have BX4 := Lib.hid ((hk w7.heap.size (.inl (.inl (.inr rfl)))).trans (keepA _ BX3.out))
  have RG4 := Lib.hid ((hk g1 (.inl (.inl (.inl (.inr rfl))))).trans (keepA _ RG3.out))
  clear h hk
  go_wp2_with fail
  refine (aw_state3 W11.out).mono ?_
  rintro e w12 ⟨t3, v3, i3, x3, A3, c3, rfl, h, hk⟩
  have W12 := Lib.hid h
  have y1 := (hk w10.heap.size (.inr rfl)).trans BY1.out
  have y2 := (hk g2 (.inl (.inr rfl))).trans RH1.out
  have y3 := (hk w7.heap.size (.inl (.inl (.inr rfl)))).trans BX4.out
  have y4 := (hk g1 (.inl (.inl (.inl (.inr rfl))))).trans RG4.out
  have l1 := (Array.getElem?_eq_some_iff.1 y1).1
  have l2 := (Array.getElem?_eq_some_iff.1 y2).1
  have l3 := (Array.getElem?_eq_some_iff.1 y3).1
  have l4 := (Array.getElem?_eq_some_iff.1 y4).1
  have k1 : w12.cell? ⟨w10.heap.size, 0, none⟩ = some (.int .i64 1) := cell_of y1 rfl
  have k2 : w12.cell? ⟨w10.heap.size, 1, none⟩ = some (.int .i64 2) := cell_of y1 rfl
  have k3 : w12.cell? ⟨w10.heap.size, 5, none⟩ = some (.slice (some ⟨g2, 0, none⟩) 2 c2) := cell_of y1 rfl
  have k4 : w12.cell? ⟨g2, 3, none⟩ = some (.string ⟨#[98]⟩) := cell_of y2 C2.out
  have k5 : w12.cell? ⟨w7.heap.size, 5, none⟩ = some (.slice (some ⟨g1, 0, none⟩) 2 c1) := cell_of y3 rfl
  have k6 : w12.cell? ⟨g1, 3, none⟩ = some (.string ⟨#[99]⟩) := cell_of y4 C1.out
  clear h hk y1 y2 y3 y4
  go_wp2_with fail
  go_ret
  exact ⟨rfl, W12.out.below.alloc W12.out.below.size _⟩
end Go.Proofs.YtjcikhacekmcfaaGreatDoor
