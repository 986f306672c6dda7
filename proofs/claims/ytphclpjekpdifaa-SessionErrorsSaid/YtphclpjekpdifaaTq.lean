import Derived.Test.YtphclpjekpdifaaTp
import Derived.Laws.IdiomStrings
namespace Go.Proofs.Ytphclpjekpdifaa
set_option maxRecDepth 20000
open Go.RowKit
open SP
open Go.Proofs.Ytphclpjekpdifaa.Nm (str)
open Wi (RetBelow)
open Wi.Pl (It dec)
set_option linter.unusedVariables false
/-! ### a table loaded -/
theorem restore_any {w : World} {b : Nat} {S : Nat → Prop} (h : Tab w b t0 S) {Q : Nat → Prop} (hQ : ∀ q, Q q → q < w.heap.size) (hQS : ∀ q, Q q → ¬ S q) {t : It} {v : Value} (hz : Okz t) (hv : Wi.IsIt w Q t v) : Calls Try.prog 25 #[.pointer (some ⟨b, 0, none⟩), v] w (RestP w b S (restore t)) := by
  obtain ⟨vv, h⟩ := h
  obtain ⟨u0, i0, q0⟩ := part_k hQ 0 hv
  obtain ⟨u1, i1, q1⟩ := part_k hQ 1 hv
  obtain ⟨u2, i2, q2⟩ := part_k hQ 2 hv
  obtain ⟨kk, ss, AA, cc, rfl, _⟩ := IsIt.form hv
  obtain ⟨k0, s0, A0, c0, rfl, _⟩ := IsIt.form i0
  obtain ⟨k1, s1, A1, c1, rfl, _⟩ := IsIt.form i1
  obtain ⟨k2, s2, A2, c2, rfl, _, _, _, _, hal⟩ := IsIt.form i2
  have hkp : ∀ Y, Fr S w Y → Kp Q w Y := fun Y hY => ⟨hY.size, fun q hq => hY.block q (hQ q hq) (hQS q hq)⟩
  exact rest_core kk (num t) ss AA (els t).length cc k0 (num (part t 0)) s0 A0 (els (part t 0)).length c0 k1 (num (part t 1)) s1 A1 (els (part t 1)).length c1 k2 (num (part t 2)) s2 A2 (els (part t 2)).length c2 b vv S Q (els (part t 2)) w (Lib.hid h) (Lib.hid fun q hq => ⟨hQ q hq, hQS q hq⟩) (Lib.hid rfl) (Lib.hid fun x hx => by
    obtain ⟨j, hj, rfl⟩ := List.getElem_of_mem hx
    exact (okz_part hz 2).el (List.getElem?_eq_getElem hj)) (Lib.hid hal) (restore t) (Lib.hid rfl) (Lib.hid fun Y hY => q0 Y (hkp Y hY)) (Lib.hid fun Y hY => q1 Y (hkp Y hY)) (Lib.hid fun Y hY => q2 Y (hkp Y hY))
def LoadP (l : List UInt8) (w : World) (e : Ending) (w' : World) : Prop :=
  (SP.load l = none ∧ e = .returned (.tuple #[.pointer none, .int .i64 4]) ∧ Below w.heap.size w w') ∨
    (∃ T b S, SP.load l = some T ∧ e = .returned (.tuple #[.pointer (some ⟨b, 0, none⟩), .int .i64 0]) ∧ Tab w' b T S ∧ (∀ k, S k → w.heap.size ≤ k) ∧ Below w.heap.size w w' ∧ Inv T)
set_option maxHeartbeats 4000000 in
theorem load_any (l : List UInt8) (w : World) (hs : l.length ≤ 281474976710656) : Calls Try.prog 12 #[.string (str l)] w (LoadP l w) := by
  have hsz : (Nm.str l).size = l.length := Nm.str_size l
  have hcv : ∀ W : World, (convert 9 66 (.string (Nm.str l))).run Try.prog W = .ok (.slice (some ⟨W.heap.size, 0, none⟩) l.length (grownCap W (Nm.str l).size 0 5)) (W.drew.alloc (.cells (bytesRow (Nm.str l) (grownCap W (Nm.str l).size 0 5)) 5 ((bytesRow (Nm.str l) (grownCap W (Nm.str l).size 0 5)).size, (bytesRow (Nm.str l) (grownCap W (Nm.str l).size 0 5)).size + 1))) := fun W => by
    have := run_bytes_of_string (P := Try.prog) W 9 66 5 (Nm.str l) Try.underlying9 Try.underlying66 Try.underlying5
    rw [hsz] at this
    rw [hsz]
    exact this
  obtain ⟨C, hC⟩ : ∃ C, C = grownCap w (Nm.str l).size 0 5 := ⟨_, rfl⟩
  have h7 := hcv w
  rw [← hC] at h7
  have hg := Wi.RowAt.new w l C
  have hCge : l.length ≤ C := by rw [hC, ← hsz]; exact grownCap_ge _ _ _ _
  have hCle : C ≤ 9223372036854775807 := by have := grownCap_le_maxLen w (Nm.str l).size 0 5 (by rw [hsz]; simp only [maxLen]; omega); rw [hC]; simpa [maxLen] using this
  obtain ⟨W, hW⟩ : ∃ W, W = w.drew.alloc (.cells (bytesRow (Nm.str l) C) 5 ((bytesRow (Nm.str l) C).size, (bytesRow (Nm.str l) C).size + 1)) := ⟨_, rfl⟩
  rw [← hW] at h7 hg
  have hB : Below w.heap.size w W := by rw [hW]; exact (Below.refl _ w).drew.alloc (by simp) _
  have hsW : W.heap.size = w.heap.size + 1 := by rw [hW]; simp
  have HG := Lib.hid (hg.bytes (B := W.heap.size) (by omega))
  have HB := Lib.hid hB
  have HL := Lib.hid hCge
  have HM := Lib.hid hCle
  have HLD : Hid (SP.load l = match dec l with
    | none => none
    | some i => match restore i with
      | none => none
      | some T => if save T = str l then some T else none) := Lib.hid rfl
  clear hcv hC hg hCge hCle hW hB hsW hsz hs
  generalize hn : l.length = n at *
  have HN := Lib.hid hn
  clear hn
  have HIFF := Lib.hid (fun t (h : dec l = some t) => ((Wi.Pl.dec_iff l t).1 h).1)
  obtain ⟨TL, hTL⟩ : ∃ TL, TL = str l := ⟨_, rfl⟩
  have HTL := Lib.hid hTL
  rw [← hTL] at h7 HLD ⊢
  clear hTL
  cases hd : dec l with
  | none =>
    have HD := Lib.hid hd
    rw [hd] at HLD
    clear hd
    go_enter Try.func12, Try.ntmps12
    go_wp2_with (first | (go_at_call 24; (with_reducible refine (Wi.decode_any l _ n C W HG.out HN.out HL.out HM.out).mono ?_); rintro e w1 ⟨hb1, _, hno⟩; obtain rfl := hno HD.out; have B1 := Lib.hid hb1; clear hb1 hno; unfold Wi.zeroItem))
    go_ret2
    exact .inl ⟨HLD.out, rfl, (HB.out.trans (B1.out.mono HB.out.size)).alloc (HB.out.trans (B1.out.mono HB.out.size)).size _⟩
  | some t =>
    have HD := Lib.hid hd
    have HOK := Lib.hid (HIFF.out t hd)
    rw [hd] at HLD
    dsimp only at HLD
    clear hd
    cases hr : restore t with
    | none =>
      have HR := Lib.hid hr
      rw [hr] at HLD
      dsimp only at HLD
      clear hr
      go_enter Try.func12, Try.ntmps12
      go_wp2_with (first | (go_at_call 24; (with_reducible refine (Wi.decode_any l _ n C W HG.out HN.out HL.out HM.out).mono ?_); rintro e w1 ⟨hb1, hyes, _⟩; obtain ⟨v, rfl, hv⟩ := hyes _ HD.out; have B1 := Lib.hid (HB.out.trans (hb1.mono HB.out.size)); have HV := Lib.hid hv; obtain ⟨k, s, A, c, rfl, _⟩ := IsIt.form hv; have HN1 := Lib.hid (heap_alloc_new w1 (.cells #[.int .i64 k, .int .i64 (num t), .string s, .slice A (els t).length c] 56)); have B2 := Lib.hid (B1.out.alloc B1.out.size (.cells #[.int .i64 k, .int .i64 (num t), .string s, .slice A (els t).length c] 56)); clear hb1 hyes hv))
      (with_reducible refine (empty_any _).mono ?_)
      rintro e w2 ⟨b, rfl, hbge, hsc, hb2⟩
      have hsa : (w1.alloc (.cells #[.int .i64 k, .int .i64 (num t), .string s, .slice A (els t).length c] 56)).heap.size = w1.heap.size + 1 := by simp
      have hb2s := hb2.size
      rw [hsa] at hb2s hbge
      have B3 := Lib.hid (B2.out.trans (hb2.mono B2.out.size))
      have hk2 := fun q (hq : q < w1.heap.size) => (hb2.block q (by omega)).trans (Below.heap_alloc w1 (.cells #[.int .i64 k, .int .i64 (num t), .string s, .slice A (els t).length c] 56) q hq)
      have HRS := Lib.hid (restore_any hsc (Q := Wi.NewB W w1) (fun q hq => Nat.lt_of_lt_of_le hq.2 (by omega)) (fun q hq e => by have := hq.2; omega) (.inl HOK.out) (Wi.IsIt.keep (fun q hq => hk2 q hq.2) t HV.out))
      obtain ⟨y0, y1, y2, y3, _⟩ := Wi.row4 ((hb2.block w1.heap.size (by omega)).trans HN1.out)
      have HBG := Lib.hid (show w.heap.size ≤ b by have := B1.out.size; omega)
      have hyl : w1.heap.size < w2.heap.size := by omega
      clear hb2 hk2 hbge hsc hsa hb2s
      go_wp2_with fail
      (with_reducible refine HRS.out.mono ?_)
      rintro e w3 ⟨he, T', hT', hto⟩
      rw [HR.out] at he
      simp only [Option.isSome_none] at he
      subst he
      have B4 := Lib.hid (TabTo.below (B := w.heap.size) hto (fun q hq => by rw [hq]; exact HBG.out) B3.out.size)
      clear hto hT'
      go_wp2_with fail
      go_ret2
      exact .inl ⟨HLD.out, rfl, B3.out.trans B4.out⟩
    | some T =>
      have HR := Lib.hid hr
      have HTI := Lib.hid (restore_inv hr)
      rw [hr] at HLD
      dsimp only at HLD
      clear hr
      obtain ⟨TX, hTX⟩ : ∃ TX, save T = TX := ⟨_, rfl⟩
      have HTX := Lib.hid hTX
      rw [hTX] at HLD
      clear hTX
      by_cases hq : TX = TL
      · rw [if_pos hq] at HLD
        subst hq
        have g1 : (TX.toList == TX.toList) = true := beq_self_eq_true _
        have g2 : (TX == TX) = true := (beq_toListBytes _ _).trans g1
        go_enter Try.func12, Try.ntmps12
        go_wp2_with (first | (go_at_call 24; (with_reducible refine (Wi.decode_any l _ n C W HG.out HN.out HL.out HM.out).mono ?_); rintro e w1 ⟨hb1, hyes, _⟩; obtain ⟨v, rfl, hv⟩ := hyes _ HD.out; have B1 := Lib.hid (HB.out.trans (hb1.mono HB.out.size)); have HV := Lib.hid hv; obtain ⟨k, s, A, c, rfl, _⟩ := IsIt.form hv; have HN1 := Lib.hid (heap_alloc_new w1 (.cells #[.int .i64 k, .int .i64 (num t), .string s, .slice A (els t).length c] 56)); have B2 := Lib.hid (B1.out.alloc B1.out.size (.cells #[.int .i64 k, .int .i64 (num t), .string s, .slice A (els t).length c] 56)); clear hb1 hyes hv))
        (with_reducible refine (empty_any _).mono ?_)
        rintro e w2 ⟨b, rfl, hbge, hsc, hb2⟩
        have hsa : (w1.alloc (.cells #[.int .i64 k, .int .i64 (num t), .string s, .slice A (els t).length c] 56)).heap.size = w1.heap.size + 1 := by simp
        have hb2s := hb2.size
        rw [hsa] at hb2s hbge
        have B3 := Lib.hid (B2.out.trans (hb2.mono B2.out.size))
        have hk2 := fun q (hq : q < w1.heap.size) => (hb2.block q (by omega)).trans (Below.heap_alloc w1 (.cells #[.int .i64 k, .int .i64 (num t), .string s, .slice A (els t).length c] 56) q hq)
        have HRS := Lib.hid (restore_any hsc (Q := Wi.NewB W w1) (fun q hq => Nat.lt_of_lt_of_le hq.2 (by omega)) (fun q hq e => by have := hq.2; omega) (.inl HOK.out) (Wi.IsIt.keep (fun q hq => hk2 q hq.2) t HV.out))
        obtain ⟨y0, y1, y2, y3, _⟩ := Wi.row4 ((hb2.block w1.heap.size (by omega)).trans HN1.out)
        have HBG := Lib.hid (show w.heap.size ≤ b by have := B1.out.size; omega)
        have hyl : w1.heap.size < w2.heap.size := by omega
        clear hb2 hk2 hbge hsc hsa hb2s
        go_wp2_with fail
        (with_reducible refine HRS.out.mono ?_)
        rintro e w3 ⟨he, T', hT', hto⟩
        rw [HR.out] at he
        simp only [Option.isSome_some] at he
        subst he
        have B4 := Lib.hid (TabTo.below (B := w.heap.size) hto (fun q hq => by rw [hq]; exact HBG.out) B3.out.size)
        obtain rfl : T' = T := hT' T HR.out
        obtain ⟨S3, htab, hup, hfr⟩ := hto
        have HTAB := Lib.hid htab
        have HUP := Lib.hid hup
        clear hT' htab hup hfr y0 y1 y2 y3
        go_wp2_with fail
        obtain ⟨tv, htv⟩ := HTAB.out
        (refine (save_at htv HTI.out).mono ?_)
        rintro e w4 ⟨he, hb4⟩
        rw [HTX.out] at he
        subst he
        have B5 := Lib.hid hb4
        clear hb4 htv
        go_wp2_with fail
        go_ret2
        refine .inr ⟨T', b, S3, HLD.out, rfl, HTAB.out.below B5.out, fun k hk => ?_, (B3.out.trans B4.out).trans (B5.out.mono (B3.out.trans B4.out).size), HTI.out⟩
        rcases HUP.out k hk with q | q
        · rw [q]; exact HBG.out
        · exact Nat.le_trans B3.out.size q.1
      · rw [if_neg hq] at HLD
        have g1 : (TX.toList == TL.toList) = false := by rw [beq_eq_false_iff_ne, ne_eq, Wi.toList_iff]; exact hq
        have g2 : (TX == TL) = false := (beq_toListBytes _ _).trans g1
        clear hq
        go_enter Try.func12, Try.ntmps12
        go_wp2_with (first | (go_at_call 24; (with_reducible refine (Wi.decode_any l _ n C W HG.out HN.out HL.out HM.out).mono ?_); rintro e w1 ⟨hb1, hyes, _⟩; obtain ⟨v, rfl, hv⟩ := hyes _ HD.out; have B1 := Lib.hid (HB.out.trans (hb1.mono HB.out.size)); have HV := Lib.hid hv; obtain ⟨k, s, A, c, rfl, _⟩ := IsIt.form hv; have HN1 := Lib.hid (heap_alloc_new w1 (.cells #[.int .i64 k, .int .i64 (num t), .string s, .slice A (els t).length c] 56)); have B2 := Lib.hid (B1.out.alloc B1.out.size (.cells #[.int .i64 k, .int .i64 (num t), .string s, .slice A (els t).length c] 56)); clear hb1 hyes hv))
        (with_reducible refine (empty_any _).mono ?_)
        rintro e w2 ⟨b, rfl, hbge, hsc, hb2⟩
        have hsa : (w1.alloc (.cells #[.int .i64 k, .int .i64 (num t), .string s, .slice A (els t).length c] 56)).heap.size = w1.heap.size + 1 := by simp
        have hb2s := hb2.size
        rw [hsa] at hb2s hbge
        have B3 := Lib.hid (B2.out.trans (hb2.mono B2.out.size))
        have hk2 := fun q (hq : q < w1.heap.size) => (hb2.block q (by omega)).trans (Below.heap_alloc w1 (.cells #[.int .i64 k, .int .i64 (num t), .string s, .slice A (els t).length c] 56) q hq)
        have HRS := Lib.hid (restore_any hsc (Q := Wi.NewB W w1) (fun q hq => Nat.lt_of_lt_of_le hq.2 (by omega)) (fun q hq e => by have := hq.2; omega) (.inl HOK.out) (Wi.IsIt.keep (fun q hq => hk2 q hq.2) t HV.out))
        obtain ⟨y0, y1, y2, y3, _⟩ := Wi.row4 ((hb2.block w1.heap.size (by omega)).trans HN1.out)
        have HBG := Lib.hid (show w.heap.size ≤ b by have := B1.out.size; omega)
        have hyl : w1.heap.size < w2.heap.size := by omega
        clear hb2 hk2 hbge hsc hsa hb2s
        go_wp2_with fail
        (with_reducible refine HRS.out.mono ?_)
        rintro e w3 ⟨he, T', hT', hto⟩
        rw [HR.out] at he
        simp only [Option.isSome_some] at he
        subst he
        have B4 := Lib.hid (TabTo.below (B := w.heap.size) hto (fun q hq => by rw [hq]; exact HBG.out) B3.out.size)
        obtain rfl : T' = T := hT' T HR.out
        obtain ⟨S3, htab, hup, hfr⟩ := hto
        have HTAB := Lib.hid htab
        have HUP := Lib.hid hup
        clear hT' htab hup hfr y0 y1 y2 y3
        go_wp2_with fail
        obtain ⟨tv, htv⟩ := HTAB.out
        (refine (save_at htv HTI.out).mono ?_)
        rintro e w4 ⟨he, hb4⟩
        rw [HTX.out] at he
        subst he
        have B5 := Lib.hid hb4
        clear hb4 htv
        go_wp2_with fail
        go_ret2
        exact .inl ⟨HLD.out, rfl, (B3.out.trans B4.out).trans (B5.out.mono (B3.out.trans B4.out).size)⟩
end Go.Proofs.Ytphclpjekpdifaa
