import Derived.Test.YtnnakfhkejdfcaaSame
namespace Go.Proofs.Ytnnakfhkejdfcaa
open Go.RowKit Pl
set_option linter.unusedVariables false

/-- append of bytes that stand in memory -/
theorem wp_appL {ops : Array Oper} {rest : List Oper} {o : Oper} {a : Act} {Q : Exit → Act → World → Prop} {w : World} (hgd : o.guard = none) (s x : Operand)
    (ho : o.op = .call { callee := .builtin .append, args := #[s, x], argTypes := #[22, 22] })
    (base : Nat) (v : Value) (l : List UInt8) (hs : a.eval s = v) (hown : OwnB w base v l) (ad : Addr) (n c B : Nat) (bs : List UInt8) (hx : a.eval x = .slice (some ad) n c) (hb : BytesAt w B (some ad) bs) (hne : bs ≠ []) (hn : bs.length = n)
    (hlen : l.length + n ≤ 70368744177664) (hbase : base ≤ w.heap.size)
    (h : ∀ v' w', OwnB w' base v' (l ++ bs) → Below base w w' → wpList Try.prog ops Q rest (a.put o.dst v') w') : wpList Try.prog ops Q (o :: rest) a w := by
  obtain ⟨i5, hi5, hz0, hz1, hz2⟩ := info_parts info5
  refine wpList_append_own w hgd s x 22 ho base 5 i5 _ 1 1 Try.underlying22 hi5 hz0 hz1 hz2 rfl (by omega) v l.length (vB l) hs hown ad n c (vB bs) hx (by rw [vB_length]; omega) ?_ (vB_oneCell _) (by simp only [maxLen]; omega) (by omega) hbase ?_
  · intro j u hu
    obtain ⟨b, off, h1, _, h3⟩ := hb hne
    injection h1 with h1
    subst h1
    simp only [vB, List.getElem?_map, Option.map_eq_some_iff] at hu
    obtain ⟨y, hy, rfl⟩ := hu
    have := h3 j y hy
    unfold Addr.add
    split
    · subst j; simpa using this
    · exact this
  · intro v' w' h2 h3 _
    refine h v' w' ?_ ((Below.refl _ _).grown h3 hbase fun k hk => (hown.lt k hk).1)
    unfold OwnB
    rw [vB_append, List.length_append, hn]
    exact h2

theorem xor_ne (x : UInt8) (t : Int) (h0 : 0 ≤ t) (h1 : t ≤ 255) (ht : t ≠ 0) : ∃ y : UInt8, bits .xor .u8 (x.toNat : Int) t = (y.toNat : Int) ∧ y ≠ x := by
  obtain ⟨m, rfl⟩ := Int.eq_ofNat_of_zero_le h0
  have hx := x.toNat_lt
  rw [u8_xor_nat _ _ (by omega) (by omega)]
  have hlt : x.toNat ^^^ m < 256 := Nat.xor_lt_two_pow (n := 8) (by omega) (by omega)
  refine ⟨UInt8.ofNat (x.toNat ^^^ m), ?_, fun e => ?_⟩
  · rw [UInt8.toNat_ofNat', Nat.mod_eq_of_lt hlt]
  · have h2 := congrArg UInt8.toNat e
    rw [UInt8.toNat_ofNat', Nat.mod_eq_of_lt hlt] at h2
    have h3 : x.toNat ^^^ (x.toNat ^^^ m) = x.toNat ^^^ x.toNat := by rw [h2]
    rw [← Nat.xor_assoc, Nat.xor_self, Nat.zero_xor] at h3
    omega

theorem OwnB.form' {w : World} {base : Nat} {v : Value} {l : List UInt8} (h : OwnB w base v l) (hne : l ≠ []) : ∃ g cap, v = .slice (some ⟨g, 0, none⟩) l.length cap ∧ base ≤ g ∧ g < w.heap.size ∧ l.length ≤ cap ∧ cap ≤ 9223372036854775807 := by
  rcases h.2 with ⟨rfl, hn⟩ | ⟨g, cap, cur, rfl, hb, hh, hc, hm, _⟩
  · exact absurd (List.eq_nil_of_length_eq_zero hn) hne
  · exact ⟨g, cap, rfl, hb, (Array.getElem?_eq_some_iff.1 hh).1, hc, by simp only [maxLen] at hm; omega⟩
theorem OwnB.set {w : World} {base g n cap : Nat} {l : List UInt8} (h : OwnB w base (.slice (some ⟨g, 0, none⟩) n cap) l) (j : Nat) (y : UInt8) : OwnB (w.setCell ⟨g, j, none⟩ (.int .u8 (y.toNat : Int))) base (.slice (some ⟨g, 0, none⟩) n cap) (l.set j y) := by
  have hn : n = l.length := by
    rcases h.2 with ⟨h1, _⟩ | ⟨_, _, _, h1, _⟩
    · cases h1
    · injection h1
  subst hn
  have := (World.ownsRow.stored h j (.int .u8 (y.toNat : Int))).1
  unfold OwnB
  rw [List.length_set, show vB (l.set j y) = (vB l).set j (.int .u8 (y.toNat : Int)) from by simp [vB, List.map_set]]
  exact this

theorem OwnB.at' {w : World} {base g n cap : Nat} {l : List UInt8} (h : OwnB w base (.slice (some ⟨g, 0, none⟩) n cap) l) {j : Nat} {x : UInt8} (hx : l[j]? = some x) : w.cell? ⟨g, j, none⟩ = some (.int .u8 (x.toNat : Int)) ∧ w.frozen? ⟨g, j, none⟩ = false := by
  have hn : n = l.length := by
    rcases h.2 with ⟨h1, _⟩ | ⟨_, _, _, h1, _⟩
    · cases h1
    · injection h1
  subst hn
  refine ⟨?_, World.ownsRow.frozenAt h j⟩
  have := World.ownsRow.cells h (g := g) rfl j (.int .u8 (x.toNat : Int)) (by simp [vB, hx])
  unfold Addr.add at this
  split at this
  · subst j; simpa using this
  · simpa using this

/-- one box, and all that came in as it was -/
def BSt (w : World) (x0 x1 x2 x3 : Value) (wi : World) : Prop := Below w.heap.size w wi ∧ w.heap.size + 1 ≤ wi.heap.size ∧ wi.heap[w.heap.size]? = some (.cells #[x0, x1, x2, x3] 26 (0, 0))
theorem BSt.start (w : World) (x0 x1 x2 x3 : Value) : BSt w x0 x1 x2 x3 (w.alloc (.cells #[x0, x1, x2, x3] 26)) := ⟨(Below.refl _ _).alloc (Nat.le_refl _) _, by simp, heap_alloc_new _ _⟩
theorem BSt.step {w wi wj : World} {x0 x1 x2 x3 : Value} (h : BSt w x0 x1 x2 x3 wi) (hb : Below wi.heap.size wi wj) : BSt w x0 x1 x2 x3 wj :=
  ⟨h.1.trans (hb.mono h.1.size), Nat.le_trans h.2.1 hb.size, (hb.block _ (by have := h.2.1; omega)).trans h.2.2⟩
theorem BSt.facts {w wi : World} {x0 x1 x2 x3 : Value} (h : BSt w x0 x1 x2 x3 wi) :
    w.heap.size < wi.heap.size ∧ wi.cell? ⟨w.heap.size, 0, none⟩ = some x0 ∧ wi.cell? ⟨w.heap.size, 1, none⟩ = some x1 ∧ wi.cell? ⟨w.heap.size, 2, none⟩ = some x2 ∧ wi.cell? ⟨w.heap.size, 3, none⟩ = some x3 := by
  obtain ⟨a0, a1, a2, a3, _⟩ := row4 h.2.2
  exact ⟨h.2.1, a0, a1, a2, a3⟩

set_option maxRecDepth 20000 in
theorem law_turned (t1 : It) (v1 : Value) (at_ turn : Int) (w : World) (h1 : IsIt w (· < w.heap.size) t1 v1) (ha0 : 0 ≤ at_) (ha1 : at_ ≤ 65535) (ht0 : 0 ≤ turn) (ht1 : turn ≤ 255) : Calls Try.prog 6 #[v1, .int .u16 at_, .int .u8 turn] w (RetBelow (.bool true) w) := by
  obtain ⟨m, rfl⟩ := Int.eq_ofNat_of_zero_le ha0
  have p1 := h1
  obtain ⟨k1, n1, s1, l1⟩ := t1
  rw [IsIt] at p1
  obtain ⟨a1, c1, rfl, _⟩ := p1
  generalize ht1' : It.mk k1 n1 s1 l1 = t1 at *
  generalize l1.length = m1 at *
  have H1 := Lib.hid h1
  clear ht1' h1
  go_enter Try.func6, Try.ntmps6
  go_wp2_with fail
  have S0 := BSt.start w (.int .i64 k1) (.int .i64 n1) (.string s1) (.slice a1 m1 c1)
  refine (awake_any _).mono ?_
  rintro e w1 ⟨rfl, hb1⟩
  have S1 := S0.step hb1
  obtain ⟨lt1, x0, x1, x2, x3⟩ := S1.facts
  have I1 := Lib.hid S1
  clear S0 S1 hb1
  go_wp2_with fail
  refine (items_all t1.cnt t1 _ 2000 1 w1 (Nat.le_refl _) (H1.out.at I1.out.1) (by omega) (by omega) (by omega) (by omega)).mono ?_
  rintro e w2 ⟨n, d, rfl, hb2, q1, q2, q3, q4, q5⟩
  have S2 := I1.out.step hb2
  clear lt1 x0 x1 x2 x3
  obtain ⟨lt1, x0, x1, x2, x3⟩ := S2.facts
  have I2 := Lib.hid S2
  have Q5 := Lib.hid q5
  clear S2 hb2 q5
  have hcs : 2000 < n ∨ (n ≤ 2000 ∧ 12 < d) ∨ (n ≤ 2000 ∧ d ≤ 12) := by omega
  rcases hcs with hc | ⟨g1, hc⟩ | ⟨g1, g2⟩
  iterate 2
    go_wp2_with fail
    go_ret
    exact ⟨rfl, I2.out.1⟩
  go_wp2_with fail
  refine (texts_all t1.cnt t1 _ w2 (Nat.le_refl _) (H1.out.at I2.out.1)).mono ?_
  rintro e w4 ⟨z1, rfl, hb4⟩
  have S4 := I2.out.step hb4
  clear lt1 x0 x1 x2 x3
  obtain ⟨lt1, x0, x1, x2, x3⟩ := S4.facts
  have I4 := Lib.hid S4
  clear S4 hb4
  by_cases hz1 : 65536 < z1
  · go_wp2_with fail
    go_ret
    exact ⟨rfl, I4.out.1⟩
  go_wp2_with fail
  refine (encode_any t1 _ w4 (H1.out.at I4.out.1) (fun h => by have := errOf_len h; omega)).mono ?_
  rintro e w6 ⟨v6, rfl, hb6, hown6⟩
  have S6 := I4.out.step hb6
  clear lt1 x0 x1 x2 x3
  obtain ⟨lt1, x0, x1, x2, x3⟩ := S6.facts
  have I6 := Lib.hid S6
  have O6 := Lib.hid hown6
  clear S6 hb6 hown6
  by_cases he : errOf t1 = 0
  · by_cases htz : turn = 0
    · rw [he]
      have htz' : (turn == 0) = true := by simpa using htz
      clear he htz
      go_wp2_with fail
      go_ret
      exact ⟨rfl, I6.out.1⟩
    have htz' : (turn == 0) = false := by simpa using htz
    have hlen := errOf_len he
    have ho6 := O6.out
    rw [if_pos he] at ho6
    have hne : t1.enc ≠ [] := by
      obtain ⟨k, n, s, l⟩ := t1
      rw [It.enc]; split
      · simp
      · split <;> simp
    obtain ⟨A6, cap6, rfl, hb6, hc6, _⟩ := ho6.form
    obtain ⟨b6, off6, rfl, hb6l, hb6c⟩ := hb6 hne
    have HB6 := Lib.hid hb6
    have HN := Lib.hid hne
    have HT := Lib.hid htz
    have HE := Lib.hid he
    rw [he]
    clear he htz hne ho6 hb6 hb6c
    generalize hE : t1.enc = E at *
    have HEE := Lib.hid hE
    clear hE
    have hnew : OwnB (w6.alloc (.cells #[] 5)) w6.heap.size (.slice (some ⟨w6.heap.size, 0, none⟩) 0 0) [] := World.ownsRow_made w6 #[] 0 (Nat.le_refl _) (by simp [maxLen]) (by simp)
    have hsrc : BytesAt (w6.alloc (.cells #[] 5)) w6.heap.size (some ⟨b6, off6, none⟩) E := HB6.out.keep fun q hq => Below.heap_alloc _ _ q hq
    have hEl : 0 < E.length := by
      rcases Nat.eq_zero_or_pos E.length with h | h
      · exact absurd (List.eq_nil_of_length_eq_zero h) HN.out
      · exact h
    have hil : m % E.length < E.length := Nat.mod_lt _ hEl
    obtain ⟨x, hx⟩ : ∃ x, E[m % E.length]? = some x := ⟨_, List.getElem?_eq_getElem hil⟩
    obtain ⟨y, hxor, hyx⟩ := xor_ne x turn ht0 ht1 HT.out
    have hyb : (y.toNat : Int) ≤ 255 := by have := y.toNat_lt; omega
    have hxb : (x.toNat : Int) ≤ 255 := by have := x.toNat_lt; omega
    have HXX := Lib.hid hx
    have HYX := Lib.hid hyx
    clear hx hyx
    have HNEW := Lib.hid hnew
    have HSRC := Lib.hid hsrc
    clear hnew hsrc
    go_wp2_with (at_builtin; (refine wp_appL rfl (.tmp 43) (.tmp 44) rfl w6.heap.size _ [] rfl HNEW.out _ _ _ w6.heap.size E rfl HSRC.out HN.out rfl (by simp; omega) (by simp) ?_); intro v7 w7 hown7 hb7; obtain ⟨g7, cap7, rfl, hg7, hg7', hc7, hcm7⟩ := hown7.form' HN.out; obtain ⟨hcx, hfx⟩ := hown7.at' HXX.out)
    have hown8 := hown7.set (m % E.length) y
    have hb67 : Below w6.heap.size w6 w7 := ((Below.refl _ _).alloc (Nat.le_refl _) _).trans hb7
    have hb68 : Below w6.heap.size w6 (w7.setCell ⟨g7, m % E.length, none⟩ (.int .u8 (y.toNat : Int))) := hb67.setCell hg7 _
    have S8 := I6.out.step hb68
    generalize w7.setCell ⟨g7, m % E.length, none⟩ (.int .u8 (y.toNat : Int)) = w8 at *
    clear lt1 x0 x1 x2 x3
    obtain ⟨lt1, x0, x1, x2, x3⟩ := S8.facts
    have I8 := Lib.hid S8
    obtain ⟨A8, cap8, he8, hb8, hc8, hcm8⟩ := hown8.form
    injection he8 with e1 e2 e3
    subst e1 e3
    have hdne : ∀ t', dec (E.set (m % E.length) y) = some t' → t1 ≠ t' := by
      intro t' ht' heq
      subst heq
      have h2 := ((dec_iff _ _).1 ht').2.2.2
      rw [HEE.out] at h2
      have h3 : (E.set (m % E.length) y)[m % E.length]? = E[m % E.length]? := by rw [h2]
      rw [HXX.out, List.getElem?_set_self hil] at h3
      simp only [Option.some.injEq] at h3
      exact HYX.out h3
    have HDN := Lib.hid hdne
    rw [List.length_set] at hc8
    clear S8 hown8 hown7 hb67 hb68 hb7 hcx hfx hxor hdne
    refine (decode_any (E.set (m % E.length) y) _ E.length cap7 w8 hb8 (by rw [List.length_set]) hc8 hcm8).mono ?_
    rintro e w9 ⟨hb9, hy, hz⟩
    have S9 := I8.out.step hb9
    clear lt1 x0 x1 x2 x3
    obtain ⟨lt1, x0, x1, x2, x3⟩ := S9.facts
    have I9 := Lib.hid S9
    clear S9
    cases hdc : dec (E.set (m % E.length) y) with
    | none =>
      obtain rfl := hz hdc
      clear hb9 hy hz hdc hb8
      unfold zeroItem
      go_wp2_with fail
      go_ret
      exact ⟨rfl, I9.out.1.alloc I9.out.1.size _⟩
    | some t2 =>
      obtain ⟨v9, rfl, hv9⟩ := hy t2 hdc
      have hv9' := hv9
      have hne12 := HDN.out t2 hdc
      have hv := IsIt.mono (fun q hq => hq.2) t2 hv9
      obtain ⟨k2, n2, s2, l2⟩ := t2
      rw [IsIt] at hv9'
      obtain ⟨a2, c2, rfl, _⟩ := hv9'
      generalize It.mk k2 n2 s2 l2 = t2 at *
      generalize l2.length = m2 at *
      have HV := Lib.hid hv
      have HNE := Lib.hid hne12
      clear hb9 hy hz hdc hb8 hv9 hv hne12
      go_wp2_with fail
      have hal : Below w9.heap.size w9 (w9.alloc (.cells #[.int .i64 k2, .int .i64 n2, .string s2, .slice a2 m2 c2] 26)) := (Below.refl _ _).alloc (Nat.le_refl _) _
      have S10 := I9.out.step hal
      have hv2 := HV.out.at hal
      generalize w9.alloc (.cells #[.int .i64 k2, .int .i64 n2, .string s2, .slice a2 m2 c2] 26) = w10 at *
      refine (same_all t1.cnt t1 t2 _ _ w10 (Nat.le_refl _) (H1.out.at S10.1) hv2).mono ?_
      rintro e w11 ⟨b, rfl, hbi, hb11⟩
      have S11 := S10.step hb11
      have I11 := Lib.hid S11
      have hbf : b = false := by
        cases b
        · rfl
        · exact absurd (hbi.1 rfl) HNE.out
      subst hbf
      clear S10 S11 hv2 hal hb11 hbi
      go_wp2_with fail
      go_ret
      exact ⟨rfl, I11.out.1⟩
  · have hne : (errOf t1 != 0) = true := by simpa using he
    clear he
    generalize errOf t1 = E at *
    go_wp2_with fail
    go_ret
    exact ⟨rfl, I6.out.1⟩
end Go.Proofs.Ytnnakfhkejdfcaa
