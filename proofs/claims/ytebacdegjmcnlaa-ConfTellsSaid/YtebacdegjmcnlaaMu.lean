import Derived.Test.YtebacdegjmcnlaaMs
import Derived.Test.YtebacdegjmcnlaaMt
namespace Go.Proofs.Ytebacdegjmcnlaa
open Go.RowKit Pl
set_option linter.unusedVariables false
set_option maxRecDepth 20000
def vC7 (x : T7) : Value := .agg #[.int .i64 x.1, .string x.2.1, .string x.2.2.1, .int .i64 x.2.2.2.1, .int .i64 x.2.2.2.2.1, .int .i64 x.2.2.2.2.2.1, .int .i64 x.2.2.2.2.2.2]
def vR6 (x : T6) : Value := .agg #[.int .i64 x.1, .string x.2.1, .int .i64 x.2.2.1, .int .i64 x.2.2.2.1, .int .i64 x.2.2.2.2.1, .int .i64 x.2.2.2.2.2]
def OptP (r : Option Value) (w : World) (e : Ending) (w' : World) : Prop := (e = match r with | some v => .returned v | none => .panicked CP) ∧ Below w.heap.size w w'
theorem ok_size {x : It} (h : x.ok = true) : (tx x).size ≤ 281474976710656 := by
  obtain ⟨k, n, s, l⟩ := x
  simp only [It.ok, Bool.and_eq_true, decide_eq_true_eq] at h
  obtain ⟨⟨⟨⟨h1, _⟩, h3⟩, _⟩, _⟩ := h
  simp only [tx]
  unfold form at h1
  simp only [Bool.or_eq_true, Bool.and_eq_true, beq_iff_eq] at h1
  rcases h1 with (h1 | h1) | h1
  · omega
  · have := h3 h1.1.1; omega
  · omega
theorem orOpt {b : Bool} {v : Value} {w w' : World} {e : Ending} (h : OrP b v w e w') : OptP (if b = true then some v else none) w e w' := by
  refine ⟨?_, h.2⟩
  rw [h.1]
  cases b <;> rfl
theorem commandOf_any (l : List UInt8) (w : World) (hs : l.length ≤ 281474976710656) : Calls Try.prog 71 #[.string (Nm.str l)] w (OptP ((resC l).map vC7) w) := by
  have HB0 := Lib.hid ((Below.refl w.heap.size w).alloc (Nat.le_refl _) (.cells #[.int .i64 0, .string ⟨#[]⟩, .string ⟨#[]⟩, .int .i64 0, .int .i64 0, .int .i64 0, .int .i64 0] 41))
  cases hd : dec l with
  | none =>
    have HS := Lib.hid hs
    have HD := Lib.hid hd
    clear hs hd
    go_enter Try.func71, Try.ntmps71
    go_wp2_with (go_at_call 82; (with_reducible refine (itemOf_any l _ HS.out).mono ?_); rintro e w1 ⟨hb1, _, hno⟩; obtain rfl := hno HD.out)
    exact ⟨rfl, by rw [resC, HD.out]; rfl, HB0.out.trans (hb1.mono HB0.out.size)⟩
  | some t =>
    obtain ⟨k, m, z, q⟩ := t
    by_cases h3 : k = 3 ∧ q.length = 5
    · obtain ⟨rfl, hl⟩ := h3
      match q, hl with
      | [i0, i1, i2, i3, i4], _ =>
        obtain ⟨hok, _, _, _⟩ := (dec_iff l _).1 hd
        obtain ⟨rfl, rfl, h5⟩ := ok_row hok
        simp only [oks, Bool.and_eq_true] at h5
        refine (cmd_five l 0 ⟨#[]⟩ i0 i1 i2 i3 i4 hd w hs (ok_size h5.2.1) (ok_size h5.2.2.1)).mono fun e w' h => ?_
        have h6 := orOpt h
        rw [resC, hd]
        change OptP (Option.map vC7 (asC (.mk 3 0 ⟨#[]⟩ [i0, i1, i2, i3, i4]))) w e w'
        rw [show asC (.mk 3 0 ⟨#[]⟩ [i0, i1, i2, i3, i4]) = (if (five5 i0 i1 i2 i3 i4 && mayC (num i0) (tx i1) (tx i2) (vA i3) (vB3 i3) (vC i3) (num i4)) = true then some (num i0, tx i1, tx i2, vA i3, vB3 i3, vC i3, num i4) else none) from rfl]
        revert h6
        generalize (five5 i0 i1 i2 i3 i4 && mayC (num i0) (tx i1) (tx i2) (vA i3) (vB3 i3) (vC i3) (num i4)) = Q
        cases Q
        · exact fun h6 => h6
        · exact fun h6 => h6
    · have hk : k ≠ 3 ∨ (q.length : Int) ≠ 5 := by
        by_cases e : k = 3
        · right; intro h; exact h3 ⟨e, by omega⟩
        · exact .inl e
      have hr : (resC l).map vC7 = none := by
        rw [resC, hd]
        show Option.map vC7 (asC (.mk k m z q)) = none
        unfold asC
        simp only [els, knd]
        split
        · rcases hk with hk | hk
          · simp [hk]
          · simp at hk
        · rfl
      have HS := Lib.hid hs
      have HD := Lib.hid hd
      have HK := Lib.hid hk
      have HR := Lib.hid hr
      clear hs hd h3 hk hr
      go_enter Try.func71, Try.ntmps71
      go_wp2_with (first
        | (go_at_call 81; (with_reducible refine (els_no _ _ _ _ _ _ _ HK.out _).mono ?_); rintro e w2 ⟨rfl, hb2⟩)
        | (go_at_call 82; (with_reducible refine (itemOf_any l _ HS.out).mono ?_); rintro e w1 ⟨hb1, hyes, hnn⟩; clear hnn; obtain ⟨v, rfl, hv⟩ := hyes _ HD.out; rw [IsIt] at hv; obtain ⟨A, cc, rfl, hv1, hv2, hv3, hv4, hal⟩ := hv; clear hv1 hv2 hv3 hv4; have B1 := Lib.hid hb1; clear hal hb1 hyes))
      exact ⟨rfl, by rw [HR.out], HB0.out.trans ((B1.out.trans (hb2.mono B1.out.size)).mono HB0.out.size)⟩
end Go.Proofs.Ytebacdegjmcnlaa
