import Derived.Test.YtphclpjekpdifaaMr
import Derived.Recover
namespace Go.Proofs.Ytphclpjekpdifaa.Wi
open Go.RowKit Pl
set_option maxRecDepth 20000
set_option linter.unusedVariables false
theorem ok_num {x : It} (h : x.ok = true) (hk : knd x = 1) : x = nIt (num x) ∧ InR (num x) := by
  obtain ⟨k, n, s, l⟩ := x
  simp only [knd] at hk
  subst hk
  simp only [It.ok, Bool.and_eq_true, decide_eq_true_eq] at h
  obtain ⟨⟨⟨⟨h1, h2⟩, _⟩, _⟩, _⟩ := h
  simp [form] at h1
  obtain ⟨hs, hl⟩ := h1
  refine ⟨?_, h2 trivial⟩
  simp only [nIt, num, It.mk.injEq, true_and]
  exact ⟨size_zero (by simpa using hs), by simpa using hl⟩
theorem ok_txt {x : It} (h : x.ok = true) (hk : knd x = 2) : x = sIt (tx x) ∧ (tx x).size ≤ 4096 := by
  obtain ⟨k, n, s, l⟩ := x
  simp only [knd] at hk
  subst hk
  simp only [It.ok, Bool.and_eq_true, decide_eq_true_eq] at h
  obtain ⟨⟨⟨⟨h1, _⟩, h3⟩, _⟩, _⟩ := h
  simp [form] at h1
  obtain ⟨hs, hl⟩ := h1
  refine ⟨?_, h3 trivial⟩
  simp only [sIt, tx, It.mk.injEq, true_and]
  exact ⟨by simpa using hs, by simpa using hl⟩
theorem ok_row {n : Int} {s : ByteArray} {l : List It} (h : (It.mk 3 n s l).ok = true) : n = 0 ∧ s = ⟨#[]⟩ ∧ oks l = true := by
  simp only [It.ok, Bool.and_eq_true, decide_eq_true_eq] at h
  obtain ⟨⟨⟨⟨h1, _⟩, _⟩, _⟩, h5⟩ := h
  simp [form] at h1
  exact ⟨by simpa using h1.1, size_zero (by simpa using h1.2), h5⟩
theorem ok_vec {x : It} (h : x.ok = true) (hk : isV x = true) : x = vIt (vA x) (vB3 x) (vC x) ∧ InR (vA x) ∧ InR (vB3 x) ∧ InR (vC x) := by
  obtain ⟨k, n, s, l⟩ := x
  simp only [isV, knd, els, Bool.and_eq_true, beq_iff_eq] at hk
  obtain ⟨rfl, hk⟩ := hk
  obtain ⟨rfl, rfl, h5⟩ := ok_row h
  split at hk
  · rename_i x y z
    simp only [Bool.and_eq_true, beq_iff_eq] at hk
    simp only [oks, Bool.and_eq_true] at h5
    obtain ⟨e1, r1⟩ := ok_num h5.1 hk.1
    obtain ⟨e2, r2⟩ := ok_num h5.2.1 hk.2.1
    obtain ⟨e3, r3⟩ := ok_num h5.2.2.1 hk.2.2
    refine ⟨?_, r1, r2, r3⟩
    simp only [vIt, vA, vB3, vC, els]
    rw [← e1, ← e2, ← e3]
  · cases hk
abbrev T6 := Int × ByteArray × Int × Int × Int × Int
def asR (t : It) : Option T6 := match els t with
  | [i0, i1, i2, i3] => if (knd t == 3 && (four4 i0 i1 i2 i3 && mayR (num i0) (tx i1))) = true then some (num i0, tx i1, vA i2, vB3 i2, vC i2, num i3) else none
  | _ => none
def resR (l : List UInt8) : Option T6 := (dec l).bind asR
theorem isV_vIt (a b c : Int) : isV (vIt a b c) = true := by simp [isV, vIt, knd, els, nIt]
theorem asR_rIt (o : Int) (s : ByteArray) (a b c n : Int) (h : mayR o s = true) : asR (rIt o s a b c n) = some (o, s, a, b, c, n) := by
  have h5 : four4 (nIt o) (sIt s) (vIt a b c) (nIt n) = true := by unfold four4; rw [isV_vIt]; rfl
  show (if ((3 : Int) == 3 && (four4 (nIt o) (sIt s) (vIt a b c) (nIt n) && mayR o s)) = true then some (o, s, a, b, c, n) else none) = _
  rw [h5, h]; rfl
theorem rIt_dec (o : Int) (s : ByteArray) (a b c n : Int) (ho : InR o) (ha : InR a) (hb : InR b) (hc : InR c) (hn : InR n) (hs : s.size ≤ 4096) : dec (rIt o s a b c n).enc = some (rIt o s a b c n) := by
  rw [dec_iff]
  refine ⟨?_, ?_, ?_, rfl⟩
  · obtain ⟨o1, o2⟩ := ho
    obtain ⟨a1, a2⟩ := ha
    obtain ⟨b1, b2⟩ := hb
    obtain ⟨c1, c2⟩ := hc
    obtain ⟨n1, n2⟩ := hn
    simp [rIt, vIt, nIt, sIt, It.ok, oks, form, zero_size, *]
  · simp [rIt, vIt, nIt, sIt, It.dep, deps]
  · simp [rIt, vIt, nIt, sIt, It.cnt, cnts]
theorem asR_is {x : It} (hx : x.ok = true) {o : Int} {s : ByteArray} {a b c n : Int} (h : asR x = some (o, s, a, b, c, n)) : x = rIt o s a b c n ∧ mayR o s = true ∧ InR o ∧ InR a ∧ InR b ∧ InR c ∧ InR n := by
  obtain ⟨k, m, z, l⟩ := x
  unfold asR at h
  split at h
  · rename_i i0 i1 i2 i3 he
    simp only [els] at he
    subst he
    split at h
    · rename_i hb
      · simp only [Bool.and_eq_true, four4, beq_iff_eq, knd] at hb
        obtain ⟨rfl, ⟨q0, q1, q2, q3⟩, hm⟩ := hb
        obtain ⟨rfl, rfl, h5⟩ := ok_row hx
        simp only [Option.some.injEq, Prod.mk.injEq] at h
        obtain ⟨rfl, rfl, rfl, rfl, rfl, rfl⟩ := h
        simp only [oks, Bool.and_eq_true] at h5
        obtain ⟨e0, r0⟩ := ok_num h5.1 q0
        obtain ⟨e1, _⟩ := ok_txt h5.2.1 q1
        obtain ⟨e2, r3, r4, r5⟩ := ok_vec h5.2.2.1 q2
        obtain ⟨e3, r6⟩ := ok_num h5.2.2.2.1 q3
        refine ⟨?_, hm, r0, r3, r4, r5, r6⟩
        unfold rIt
        rw [← e0, ← e1, ← e2, ← e3]
    · cases h
  · cases h
theorem resR_iff (l : List UInt8) (o : Int) (s : ByteArray) (a b c n : Int) : resR l = some (o, s, a, b, c, n) ↔ (mayR o s = true ∧ InR o ∧ InR a ∧ InR b ∧ InR c ∧ InR n ∧ l = (rIt o s a b c n).enc) := by
  constructor
  · intro h
    unfold resR at h
    cases hd : dec l with
    | none => rw [hd] at h; cases h
    | some x =>
      rw [hd] at h
      obtain ⟨hx, _, _, hl⟩ := (dec_iff l x).1 hd
      obtain ⟨rfl, hm, r1, r2, r3, r4, r5⟩ := asR_is hx h
      exact ⟨hm, r1, r2, r3, r4, r5, hl⟩
  · rintro ⟨hm, r1, r2, r3, r4, r5, rfl⟩
    obtain ⟨_, _, s1⟩ := mayR_size hm
    unfold resR
    rw [rIt_dec o s a b c n r1 r2 r3 r4 r5 (by omega)]
    exact asR_rIt o s a b c n hm
end Go.Proofs.Ytphclpjekpdifaa.Wi
namespace Go.Proofs.Ytphclpjekpdifaa.Wi
open Go.RowKit Pl
set_option maxRecDepth 20000
set_option linter.unusedVariables false
set_option maxRecDepth 20000
def zr : Array Value := #[.int .i64 0, .string ⟨#[]⟩, .int .i64 0, .int .i64 0, .int .i64 0, .int .i64 0]
def CaughtR (B p q : Nat) (older : List PanicEntry) (w : World) (e : Ending) (u' : FrameMode) (w' : World) : Prop :=
  e = .returned (.tuple #[]) ∧ u' = .panicking ({ v := .iface 23 (.int .i64 4), recovered := true } :: older) ∧ w'.heap[p]? = some (.cells zr 27 (0, 0)) ∧ w'.heap[q]? = some (.cells #[.int .i64 4] 23 (0, 0)) ∧ Below B w w'
theorem catchR_panicking (B p q : Nat) (a0 a1 a2 a3 a4 a5 b0 : Value) (older : List PanicEntry) (w : World) (hp : w.heap[p]? = some (.cells #[a0, a1, a2, a3, a4, a5] 27 (0, 0))) (hq : w.heap[q]? = some (.cells #[b0] 23 (0, 0))) (hBp : B ≤ p) (hBq : B ≤ q) (hne : p ≠ q) (hB : B ≤ w.heap.size) :
    CallsD Try.prog 67 #[.pointer (some ⟨p, 0, none⟩), .pointer (some ⟨q, 0, none⟩)] (.panicking ({ v := .iface 23 (.int .i64 4), recovered := false } :: older)) w (CaughtR B p q older w) := by
  have hz0 : (Instr.build 27 #[]).run Try.prog w = .ok (.agg #[.int .i64 0, .string ⟨#[]⟩, .int .i64 0, .int .i64 0, .int .i64 0, .int .i64 0]) w := run_build w 27 _ _ (by kernel_rfl)
  refine callsD_of_wpS Try.func67 rfl fun c₀ cs hu => ?_
  apply wpS_seq
  apply wpS_region
  simp [wpOpsS, go_sem, recoverD, hu, Try.ntmps67, Exit.thenS]
  refine wpS_of_wp ?_
  rw [show (#[Value.pointer (some ⟨p, 0, none⟩), Value.pointer (some ⟨q, 0, none⟩)] ++ ((Array.replicate 3 undef).setIfInBounds 0 (Value.iface 23 (Value.int IntKind.i64 4))).setIfInBounds 1 (Value.bool true)) =
    #[Value.pointer (some ⟨p, 0, none⟩), Value.pointer (some ⟨q, 0, none⟩), Value.iface 23 (Value.int IntKind.i64 4), Value.bool true, undef] from rfl]
  obtain ⟨x0, x1, x2, x3, x4, x5⟩ := row6 hp
  obtain ⟨f0, f1, f2, f3, f4, f5⟩ := row6f hp
  have s0 : w.cell? ⟨q, 0, none⟩ = some b0 := cell_of_row w q 0 _ _ _ hq
  have y0 : w.frozen? ⟨q, 0, none⟩ = false := by simp [World.frozen?, hq]
  have HP := Lib.hid hp
  have HQ := Lib.hid hq
  clear hp hq hu
  go_wp2_with fail
  have R1 := w6_row w p (.int .i64 0) (.string ⟨#[]⟩) (.int .i64 0) (.int .i64 0) (.int .i64 0) (.int .i64 0) _ _ _ _ _ _ 27 HP.out
  have F1 := w6_far w p (.int .i64 0) (.string ⟨#[]⟩) (.int .i64 0) (.int .i64 0) (.int .i64 0) (.int .i64 0) q (Ne.symm hne)
  have B1 := w6_below (Below.refl B w) p (.int .i64 0) (.string ⟨#[]⟩) (.int .i64 0) (.int .i64 0) (.int .i64 0) (.int .i64 0) hBp
  refine ⟨rfl, _, rfl, .tuple #[], by simp [results, Try.results67], rfl, rfl, ?_, ?_, ?_⟩
  · exact (Below.heap_setCell _ _ _ _ hne).trans R1
  · exact heap_set _ q 0 (.int .i64 4) _ _ (F1.trans HQ.out)
  · exact B1.setCell hBq _
theorem catchR_idle (p q : Value) (w : World) : CallsD Try.prog 67 #[p, q] .returning w fun e u' w' => e = .returned (.tuple #[]) ∧ u' = .returning ∧ w = w' := by
  refine callsD_of_wpS Try.func67 rfl fun c₀ cs hu => ?_
  apply wpS_seq
  apply wpS_region
  simp [wpOpsS, go_sem, recoverD, hu, Try.ntmps67, Exit.thenS]
  refine wpS_of_wp ?_
  rw [show (#[p, q] ++ ((Array.replicate 3 undef).setIfInBounds 0 Value.nilIface).setIfInBounds 1 (Value.bool false)) = #[p, q, Value.nilIface, Value.bool false, undef] from rfl]
  go_wp2_with fail
  cases c₀
  simp_all [bodyPostS, results, Try.results67]
end Go.Proofs.Ytphclpjekpdifaa.Wi
namespace Go.Proofs.Ytphclpjekpdifaa.Wi
open Go.RowKit Pl
set_option maxRecDepth 20000
set_option linter.unusedVariables false
set_option maxRecDepth 20000
def vR6 (x : T6) : Value := .agg #[.int .i64 x.1, .string x.2.1, .int .i64 x.2.2.1, .int .i64 x.2.2.2.1, .int .i64 x.2.2.2.2.1, .int .i64 x.2.2.2.2.2]
def OptP (r : Option Value) (w : World) (e : Ending) (w' : World) : Prop := (e = match r with | some v => .returned v | none => .panicked CP) ∧ Below w.heap.size w w'
theorem ok_size {x : It} (h : x.ok = true) : (tx x).size ≤ 281474976710656 := by
  obtain ⟨k, n, s, l⟩ := x
  simp only [It.ok, Bool.and_eq_true, decide_eq_true_eq] at h
  obtain ⟨⟨⟨⟨h1, _⟩, h3⟩, _⟩, _⟩ := h
  simp only [tx]
  unfold form at h1
  simp only [Bool.or_eq_true, Bool.and_eq_true, beq_iff_eq] at h1
  rcases h1 with (h1 | h1) | h1
  · omega
  · have := h3 h1.1.1; omega
  · omega
theorem orOpt {b : Bool} {v : Value} {w w' : World} {e : Ending} (h : OrP b v w e w') : OptP (if b = true then some v else none) w e w' := by
  refine ⟨?_, h.2⟩
  rw [h.1]
  cases b <;> rfl
theorem replyOf_any (l : List UInt8) (w : World) (hs : l.length ≤ 281474976710656) : Calls Try.prog 68 #[.string (Nm.str l)] w (OptP ((resR l).map vR6) w) := by
  have HB0 := Lib.hid ((Below.refl w.heap.size w).alloc (Nat.le_refl _) (.cells #[.int .i64 0, .string ⟨#[]⟩, .int .i64 0, .int .i64 0, .int .i64 0, .int .i64 0] 27))
  cases hd : dec l with
  | none =>
    have HS := Lib.hid hs
    have HD := Lib.hid hd
    clear hs hd
    go_enter Try.func68, Try.ntmps68
    go_wp2_with (go_at_call 72; (with_reducible refine (itemOf_any l _ HS.out).mono ?_); rintro e w1 ⟨hb1, _, hno⟩; obtain rfl := hno HD.out)
    exact ⟨rfl, by rw [resR, HD.out]; rfl, HB0.out.trans (hb1.mono HB0.out.size)⟩
  | some t =>
    obtain ⟨k, m, z, q⟩ := t
    by_cases h3 : k = 3 ∧ q.length = 4
    · obtain ⟨rfl, hl⟩ := h3
      match q, hl with
      | [i0, i1, i2, i3], _ =>
        obtain ⟨hok, _, _, _⟩ := (dec_iff l _).1 hd
        obtain ⟨rfl, rfl, h5⟩ := ok_row hok
        simp only [oks, Bool.and_eq_true] at h5
        refine (reply_four l 0 ⟨#[]⟩ i0 i1 i2 i3 hd w hs).mono fun e w' h => ?_
        have h6 := orOpt h
        rw [resR, hd]
        change OptP (Option.map vR6 (asR (.mk 3 0 ⟨#[]⟩ [i0, i1, i2, i3]))) w e w'
        rw [show asR (.mk 3 0 ⟨#[]⟩ [i0, i1, i2, i3]) = (if (four4 i0 i1 i2 i3 && mayR (num i0) (tx i1)) = true then some (num i0, tx i1, vA i2, vB3 i2, vC i2, num i3) else none) from rfl]
        revert h6
        generalize (four4 i0 i1 i2 i3 && mayR (num i0) (tx i1)) = Q
        cases Q
        · exact fun h6 => h6
        · exact fun h6 => h6
    · have hk : k ≠ 3 ∨ (q.length : Int) ≠ 4 := by
        by_cases e : k = 3
        · right; intro h; exact h3 ⟨e, by omega⟩
        · exact .inl e
      have hr : (resR l).map vR6 = none := by
        rw [resR, hd]
        show Option.map vR6 (asR (.mk k m z q)) = none
        unfold asR
        simp only [els, knd]
        split
        · rcases hk with hk | hk
          · simp [hk]
          · simp at hk
        · rfl
      have HS := Lib.hid hs
      have HD := Lib.hid hd
      have HK := Lib.hid hk
      have HR := Lib.hid hr
      clear hs hd h3 hk hr
      go_enter Try.func68, Try.ntmps68
      go_wp2_with (first
        | (go_at_call 71; (with_reducible refine (els_no _ _ _ _ _ _ _ HK.out _).mono ?_); rintro e w2 ⟨rfl, hb2⟩)
        | (go_at_call 72; (with_reducible refine (itemOf_any l _ HS.out).mono ?_); rintro e w1 ⟨hb1, hyes, hnn⟩; clear hnn; obtain ⟨v, rfl, hv⟩ := hyes _ HD.out; rw [IsIt] at hv; obtain ⟨A, cc, rfl, hv1, hv2, hv3, hv4, hal⟩ := hv; clear hv1 hv2 hv3 hv4; have B1 := Lib.hid hb1; clear hal hb1 hyes))
      exact ⟨rfl, by rw [HR.out], HB0.out.trans ((B1.out.trans (hb2.mono B1.out.size)).mono HB0.out.size)⟩
end Go.Proofs.Ytphclpjekpdifaa.Wi
