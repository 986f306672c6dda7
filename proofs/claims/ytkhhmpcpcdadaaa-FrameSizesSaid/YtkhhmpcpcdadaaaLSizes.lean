import Derived.Test.YtkhhmpcpcdadaaaCom
namespace Go.Proofs.Ytkhhmpcpcdadaaa
open Go.RowKit
set_option linter.unusedVariables false

/-- the rows that aren't too long -/
def good (ls : List (List UInt8)) : List (List UInt8) := ls.filter fun l => decide (l.length ≤ 4096)
theorem good_ok (ls : List (List UInt8)) : Fr.Ok (good ls) := fun p hp => by
  have := (List.mem_filter.1 hp).2
  exact of_decide_eq_true this
theorem good_yes {ls : List (List UInt8)} {k : Nat} {l : List UInt8} (h : ls[k]? = some l) (hl : l.length ≤ 4096) : Fr.flat (good (ls.take (k + 1))) = Fr.flat (good (ls.take k)) ++ Fr.rcd l := by
  obtain ⟨hk, rfl⟩ := List.getElem?_eq_some_iff.1 h
  unfold good
  rw [List.take_succ_eq_append_getElem hk, List.filter_append, List.filter_cons, List.filter_nil, if_pos (decide_eq_true hl), Fr.flat_snoc]
theorem good_no {ls : List (List UInt8)} {k : Nat} {l : List UInt8} (h : ls[k]? = some l) (hl : 4096 < l.length) : Fr.flat (good (ls.take (k + 1))) = Fr.flat (good (ls.take k)) := by
  obtain ⟨hk, rfl⟩ := List.getElem?_eq_some_iff.1 h
  unfold good
  rw [List.take_succ_eq_append_getElem hk, List.filter_append, List.filter_cons, List.filter_nil, if_neg (by simp; omega), List.append_nil]
theorem tot_good (ls : List (List UInt8)) : Fr.tot (good ls) ≤ Fr.tot ls ∧ (good ls).length ≤ ls.length := by
  induction ls with
  | nil => exact ⟨Nat.le_refl _, Nat.le_refl _⟩
  | cons l ls ih =>
    have e : Fr.tot (l :: ls) = l.length + Fr.tot ls := by simp [Fr.tot]
    unfold good at ih ⊢
    rw [List.filter_cons, e, List.length_cons]
    split
    · have e2 : ∀ m : List (List UInt8), Fr.tot (l :: m) = l.length + Fr.tot m := fun m => by simp [Fr.tot]
      rw [e2, List.length_cons]
      omega
    · omega
theorem good_bd (ls : List (List UInt8)) (k : Nat) (hn : ls.length ≤ 60) (ht : Fr.tot ls ≤ 65536) : (Fr.flat (good (ls.take k))).length ≤ 66016 := by
  have h1 := tot_good (ls.take k)
  have h2 := Fr.tot_take ls k
  have h3 : (ls.take k).length ≤ ls.length := by rw [List.length_take]; omega
  rw [Fr.flat_length]
  omega
def SzRel (ls : List (List UInt8)) (n : Nat) (w : World) (bv nv i : Value) (wr : World) : Prop :=
  ∃ k : Nat, k ≤ n ∧ i = .int .i64 k ∧ OwnB wr w.heap.size bv (Fr.flat (good (ls.take k))) ∧ nv = .int .i64 ((Fr.flat (good (ls.take k))).length : Nat) ∧ Below w.heap.size w wr

set_option maxRecDepth 20000 in
theorem law_sizes (ls : List (List UInt8)) (A : Option Addr) (n c : Nat) (w : World) (h1 : RoArg w A n c ls) :
    Calls Try.prog 9 #[.slice A n c] w (RetBelow (.bool true) w) := by
  have hnc := h1.le
  have hcc := h1.cap
  have H1 := Lib.hid h1
  clear h1
  go_enter Try.func9, Try.ntmps9
  go_wp2_with fail
  refine (awake_any _).mono ?_
  rintro e w1 ⟨rfl, hb1⟩
  have B1 := Lib.hid hb1
  have h1 := H1.out.below hb1
  have I1 := Lib.hid h1
  clear hb1 h1 H1
  by_cases q1 : 60 < n
  · go_wp2_with fail
    go_ret
    exact ⟨rfl, B1.out⟩
  by_cases q3 : 65536 < Fr.tot ls
  · have hT := total_big (c := c) I1.out.at_ I1.out.len (by omega) q3
    clear q3
    go_wp2_with (go_at_call 16; refine hT.mono ?_; rintro e w' ⟨rfl, t, ht, rfl⟩)
    go_ret
    exact ⟨rfl, B1.out⟩
  have hT := total_small (c := c) I1.out.at_ I1.out.len (by omega) (by omega)
  have htot : (Fr.tot ls : Int) ≤ 65536 := by omega
  have HTOT : Hid (Fr.tot ls ≤ 65536) := Lib.hid (by omega)
  have hn60 : n ≤ 60 := by omega
  have OW := Lib.hid (OwnB.new w1)
  clear q3 q1
  have hz60 : ¬ (60 : Int) < n := by omega
  have hd60 : decide ((60 : Int) < n) = false := by simp; omega
  generalize hTT : Fr.tot ls = T at hT htot
  have hdT : decide ((65536 : Int) < T) = false := by simp; omega
  clear hTT
  go_wp2_with (go_at_call 16; refine hT.mono ?_; rintro e w' ⟨rfl, rfl⟩)
  clear hT
  go_loopw [3, 4, 23] (SzRel ls n w1) (fun _ _ i _ => n - (intOf i).toNat)
  case atStart => exact ⟨0, by omega, rfl, OW.out, rfl, (Below.refl _ _).alloc (Nat.le_refl _) _⟩
  case round =>
    obtain ⟨k, hk, rfl, own, rfl, bel⟩ := hrel
    have OW := Lib.hid own
    have BE := Lib.hid bel
    clear own bel
    obtain ⟨Ab, cb, rfl, hbb, hcb, hcb2⟩ := OW.out.form
    have HBB := Lib.hid hbb
    have hfl := good_bd ls k (by rw [I1.out.len]; exact hn60) HTOT.out
    clear hbb
    by_cases hlt : k < n
    · have hkl : k < ls.length := by rw [I1.out.len]; exact hlt
      have hl : ls[k]? = some ls[k] := List.getElem?_eq_getElem hkl
      have hne : ls ≠ [] := fun e => by rw [e] at hkl; simp at hkl
      obtain ⟨b, off, rfl, hb, hat⟩ := (I1.out.at_.keep fun q hq => BE.out.block q hq) hne
      obtain ⟨v, x1, A2, c2, rfl, h2, h3, h4, h5⟩ := hat k _ hl
      have HP := Lib.hid (h5.mono BE.out.size)
      have GY := Lib.hid (fun h => good_yes hl h)
      have GN := Lib.hid (fun h => good_no hl h)
      clear hat hl hne h4 h5
      generalize ls[k] = l at *
      clear hkl
      by_cases hbig : 4096 < l.length
      · have HG := Lib.hid (GN.out hbig)
        generalize Fr.flat (good (ls.take k)) = fl at *
        obtain ⟨q, hq⟩ : ∃ q, q = l.length := ⟨_, rfl⟩
        obtain ⟨m, hm⟩ : ∃ m, m = fl.length := ⟨_, rfl⟩
        rw [← hq] at hbig h2 x1
        rw [← hm] at OW hcb hfl ⊢
        have HM : Hid (m = fl.length) := Lib.hid hm
        have hb' : (4096 : Int) < q := by omega
        clear hq hm GY GN
        go_wp2_with fail
        refine (put_no Ab A2 m cb q c2 wr hbig (by omega)).mono ?_
        rintro e w2 ⟨rfl, rfl⟩
        have hbne : (((3 : Int) == 0) != decide ((q : Int) ≤ 4096)) = false := by
          have : decide ((q : Int) ≤ 4096) = false := by simp; omega
          rw [this]; rfl
        go_wp2_with fail
        go_roundw
        case rel => exact ⟨k + 1, by omega, by go_num, by rw [HG.out]; exact OW.out, by rw [HG.out, ← HM.out], BE.out⟩
        case measure => simp [intOf]; omega
      · have HG := Lib.hid (GY.out (by omega))
        generalize Fr.flat (good (ls.take k)) = fl at *
        have hp := put_any fl l Ab A2 fl.length cb l.length c2 wr HBB.out rfl (by omega) hcb hcb2 HP.out rfl (by omega) h2 h3
        have HF : Hid ((fl ++ Fr.rcd l).length ≤ 140737488355328) := Lib.hid (by rw [List.length_append, Fr.rcd_length]; omega)
        have HF2 : Hid ((fl ++ Fr.rcd l).length = fl.length + (8 + l.length)) := Lib.hid (by rw [List.length_append, Fr.rcd_length])
        clear GY GN
        generalize l.length = q at *
        generalize fl.length = m at *
        have hb' : (q : Int) ≤ 4096 := by omega
        go_wp2_with fail
        refine hp.mono ?_
        rintro e w2 ⟨rfl, row, bel1⟩
        have O1 := Lib.hid (row.own (base := w1.heap.size) BE.out.size HF.out)
        have B2 := Lib.hid (BE.out.trans (bel1.mono BE.out.size))
        have HGL := Lib.hid (congrArg List.length HG.out)
        have x2 := (bel1.cell (p := ⟨b, off + k, none⟩) (Nat.lt_of_lt_of_le hb BE.out.size)).trans x1
        have hbd : decide ((q : Int) ≤ 4096) = true := by simp; omega
        clear row bel1 hp
        generalize (fl ++ Fr.rcd l).length = z at *
        rw [← HG.out] at O1
        go_wp2_with fail
        go_roundw
        case rel => exact ⟨k + 1, by omega, by go_num, O1.out, by rw [HGL.out, HF2.out]; go_num, B2.out⟩
        case measure => simp [intOf]; omega
    · obtain rfl : k = n := by omega
      have e : ls.take k = ls := List.take_of_length_le (by rw [I1.out.len]; omega)
      rw [e] at OW HBB hcb hfl ⊢
      have hsc := Fr.scan_flat (good ls) (good_ok ls) []
      rw [Fr.scan_short [] (by simp), List.append_nil, List.append_nil, Nat.add_zero] at hsc
      have SC := Lib.hid hsc
      clear hsc e
      obtain ⟨m, hm⟩ : ∃ m, m = (Fr.flat (good ls)).length := ⟨_, rfl⟩
      rw [← hm] at OW hcb hfl SC ⊢
      have HM : Hid ((Fr.flat (good ls)).length = m) := Lib.hid hm.symm
      clear hm
      go_wp2_with fail
      refine (scan_at HBB.out HM.out (by omega) hcb hcb2 SC.out rfl).mono ?_
      rintro e w2 ⟨bel5, A6, c6, rfl, _, _, hr6⟩
      have B2 := Lib.hid (B1.out.trans ((BE.out.trans (bel5.mono BE.out.size)).mono B1.out.size))
      clear hr6 bel5
      go_wp2_with fail
      go_ret
      exact ⟨rfl, B2.out⟩
end Go.Proofs.Ytkhhmpcpcdadaaa
