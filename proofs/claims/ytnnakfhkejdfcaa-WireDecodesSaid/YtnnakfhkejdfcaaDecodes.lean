import Derived.Test.YtnnakfhkejdfcaaRl
import Derived.Test.YtnnakfhkejdfcaaTurned
import Derived.Laws.AppendOwnNone
namespace Go.Proofs.Ytnnakfhkejdfcaa
open Go.RowKit Pl
set_option linter.unusedVariables false

/-- append of bytes that stand in memory, or of none -/
theorem wp_appB {ops : Array Oper} {rest : List Oper} {o : Oper} {a : Act} {Q : Exit → Act → World → Prop} {w : World} (hgd : o.guard = none) (s x : Operand)
    (ho : o.op = .call { callee := .builtin .append, args := #[s, x], argTypes := #[22, 22] })
    (base : Nat) (v : Value) (l : List UInt8) (hs : a.eval s = v) (hown : OwnB w base v l) (A : Option Addr) (n c B : Nat) (bs : List UInt8) (hx : a.eval x = .slice A n c) (hA : A = none → c = 0) (hb : BytesAt w B A bs) (hn : bs.length = n) (hnc : n ≤ c)
    (hlen : l.length + n ≤ 140737488355328) (hbase : base ≤ w.heap.size)
    (h : ∀ v' w', OwnB w' base v' (l ++ bs) → Below base w w' → wpList Try.prog ops Q rest (a.put o.dst v') w') : wpList Try.prog ops Q (o :: rest) a w := by
  obtain ⟨i5, hi5, hz0, hz1, hz2⟩ := info_parts info5
  cases A with
  | none =>
    have hc0 := hA rfl
    subst hc0
    obtain rfl : n = 0 := by omega
    have hbs : bs = [] := List.eq_nil_of_length_eq_zero hn
    subst hbs
    refine wpList_append_own_none hgd s x 22 ho base 5 i5 1 Try.underlying22 hi5 v l.length (vB l) hs hown hx (h v w ?_ (Below.refl _ _))
    rw [List.append_nil]; exact hown
  | some ad =>
    refine wpList_append_own w hgd s x 22 ho base 5 i5 _ 1 1 Try.underlying22 hi5 hz0 hz1 hz2 rfl (by omega) v l.length (vB l) hs hown ad n c (vB bs) hx (by rw [vB_length]; omega) ?_ (vB_oneCell _) (by simp only [maxLen]; omega) (by omega) hbase ?_
    · intro j u hu
      have hne : bs ≠ [] := fun e => by rw [e] at hu; simp [vB] at hu
      obtain ⟨b, off, h1, _, h3⟩ := hb hne
      injection h1 with h1
      subst h1
      simp only [vB, List.getElem?_map, Option.map_eq_some_iff] at hu
      obtain ⟨y, hy, rfl⟩ := hu
      have := h3 j y hy
      unfold Addr.add
      split
      · subst j; simpa using this
      · exact this
    · intro v' w' h2 h3 _
      refine h v' w' ?_ ((Below.refl _ _).grown h3 hbase fun k hk => (hown.lt k hk).1)
      unfold OwnB
      rw [vB_append, List.length_append, hn]
      exact h2

def zeroT : It := .mk 0 0 ⟨#[]⟩ []
def decTC (bs : List UInt8) : It × Int := match dec bs with | some t => (t, 0) | none => (zeroT, 4)
theorem dec_form {bs : List UInt8} {w w' : World} {e : Ending} (h : DecPost bs w e w') : Below w.heap.size w w' ∧ ∃ v, e = .returned (.tuple #[v, .int .i64 (decTC bs).2]) ∧ IsIt w' (NewB w w') (decTC bs).1 v := by
  obtain ⟨hb, hy, hz⟩ := h
  refine ⟨hb, ?_⟩
  unfold decTC
  cases hd : dec bs with
  | some t => exact hy t hd
  | none =>
    refine ⟨_, hz hd, ?_⟩
    simp only [zeroT, zeroItem]
    rw [IsIt]
    exact ⟨none, 0, rfl, ⟨by omega, by omega⟩, ⟨by omega, by omega⟩, Nat.zero_le _, Nat.zero_le _, by rw [AreIts]; trivial⟩

set_option maxRecDepth 20000 in
theorem law_decodes (bs : List UInt8) (A : Option Addr) (n cap : Nat) (w : World) (hb : BytesAt w w.heap.size A bs) (hA : A = none → cap = 0) (hn : bs.length = n) (hc : n ≤ cap) (hcm : cap ≤ 9223372036854775807) (hreach : n ≤ 140737488351232) :
    Calls Try.prog 3 #[.slice A n cap] w (RetBelow (.bool true) w) := by
  have HB := Lib.hid hb
  have HN := Lib.hid hn
  have HA := Lib.hid hA
  clear hb hn hA
  go_enter Try.func3, Try.ntmps3
  go_wp2_with fail
  refine (awake_any _).mono ?_
  rintro e w1 ⟨rfl, hb1⟩
  have hnew : OwnB (w1.alloc (.cells #[] 5)) w1.heap.size (.slice (some ⟨w1.heap.size, 0, none⟩) 0 0) [] := World.ownsRow_made w1 #[] 0 (Nat.le_refl _) (by simp [maxLen]) (by simp)
  have hsrc : BytesAt (w1.alloc (.cells #[] 5)) w.heap.size A bs := (HB.out.keep fun q hq => hb1.block q hq).keep fun q hq => Below.heap_alloc _ _ q (by have := hb1.size; omega)
  have HNEW := Lib.hid hnew
  have HSRC := Lib.hid hsrc
  have HB1 := Lib.hid hb1
  clear hnew hsrc hb1
  go_wp2_with (at_builtin; (refine wp_appB rfl (.tmp 10) (.tmp 11) rfl w1.heap.size _ [] rfl HNEW.out A n cap w.heap.size bs rfl HA.out HSRC.out HN.out hc (by simp; omega) (by simp) ?_); intro v2 w2 hown2 hb2; obtain ⟨A2, cap2, rfl, hbt2, hc2, hcm2⟩ := hown2.form)
  simp only [List.nil_append] at hown2 hbt2 hc2
  have hb12 : Below w.heap.size w w2 := HB1.out.trans ((((Below.refl _ _).alloc (Nat.le_refl _) _).trans hb2).mono HB1.out.size)
  have HB2 := Lib.hid hb12
  have HBT2 := Lib.hid hbt2
  clear hb2 hown2 hb12 hbt2 HNEW HSRC
  refine (decode_any bs A2 bs.length cap2 w2 HBT2.out rfl hc2 hcm2).mono ?_
  rintro e w3 hd3
  obtain ⟨hb3, v3, rfl, hv3⟩ := dec_form hd3
  have hv3' := hv3
  have HV3 := Lib.hid (IsIt.mono (fun q hq => hq.2) _ hv3 : IsIt w3 (· < w3.heap.size) (decTC bs).1 v3)
  generalize htc : decTC bs = tc at *
  obtain ⟨t, code⟩ := tc
  have HTC := Lib.hid htc
  obtain ⟨k, m, s, tl⟩ := t
  simp only [] at hv3'
  rw [IsIt] at hv3'
  obtain ⟨ta, tcap, rfl, _⟩ := hv3'
  have HB3 := Lib.hid hb3
  clear hd3 hb3 hv3 htc
  simp only [] at HV3
  generalize htt : It.mk k m s tl = t at *
  generalize tl.length = tn at *
  clear htt
  go_wp2_with fail
  have hal : Below w3.heap.size w3 (w3.alloc (.cells #[.int .i64 k, .int .i64 m, .string s, .slice ta tn tcap] 26)) := (Below.refl _ _).alloc (Nat.le_refl _) _
  have S0 := BSt.start w3 (.int .i64 k) (.int .i64 m) (.string s) (.slice ta tn tcap)
  have hb23 : Below w2.heap.size w2 (w3.alloc (.cells #[.int .i64 k, .int .i64 m, .string s, .slice ta tn tcap] 26)) := HB3.out.trans (hal.mono HB3.out.size)
  have hb24 : Below w.heap.size w (w3.alloc (.cells #[.int .i64 k, .int .i64 m, .string s, .slice ta tn tcap] 26)) := HB2.out.trans (hb23.mono HB2.out.size)
  have hv4 := HV3.out.at hal
  change Calls Try.prog 9 _ (w3.alloc (.cells #[.int .i64 k, .int .i64 m, .string s, .slice ta tn tcap] 26)) _
  generalize w3.alloc (.cells #[.int .i64 k, .int .i64 m, .string s, .slice ta tn tcap] 26) = w4 at *
  have HB24 := Lib.hid hb24
  have HB23 := Lib.hid hb23
  have HV4 := Lib.hid hv4
  have HS4 := Lib.hid S0
  clear hal hb23 hb24 hv4 S0
  refine (rdecode_any bs A n cap w4 (fun hne => by
    obtain ⟨b, off, e1, e2, e3⟩ := HB.out hne
    exact ⟨b, off, e1, Nat.lt_of_lt_of_le e2 HB24.out.size, fun j u hu => (HB24.out.cell (p := ⟨b, off + j, none⟩) e2).trans (e3 j u hu)⟩) HN.out hc hcm).mono ?_
  rintro e w5 hd5
  obtain ⟨hb5, v5, rfl, hv5⟩ := dec_form hd5
  rw [HTC.out] at hv5
  rw [HTC.out]
  simp only [] at hv5
  have hv5' := hv5
  have HV5 := Lib.hid (IsIt.mono (fun q hq => hq.2) _ hv5 : IsIt w5 (· < w5.heap.size) t v5)
  obtain ⟨k2, m2, s2, l2⟩ := t
  rw [IsIt] at hv5'
  obtain ⟨ta2, tcap2, rfl, _⟩ := hv5'
  have S5 := HS4.out.step hb5
  obtain ⟨lt5, x0, x1, x2, x3⟩ := S5.facts
  have HB5 := Lib.hid hb5
  clear hd5 hb5 hv5 S5
  generalize htt : It.mk k2 m2 s2 l2 = t at *
  generalize l2.length = tn2 at *
  clear htt
  go_wp2_with fail
  have hal : Below w5.heap.size w5 (w5.alloc (.cells #[.int .i64 k2, .int .i64 m2, .string s2, .slice ta2 tn2 tcap2] 26)) := (Below.refl _ _).alloc (Nat.le_refl _) _
  have hb46 := HB5.out.trans (hal.mono HB5.out.size)
  have hv46 := HV4.out.at hb46
  have hv56 := HV5.out.at hal
  generalize w5.alloc (.cells #[.int .i64 k2, .int .i64 m2, .string s2, .slice ta2 tn2 tcap2] 26) = w6 at *
  refine (same_all t.cnt t t _ _ w6 (Nat.le_refl _) hv46 hv56).mono ?_
  rintro e w7 ⟨b, rfl, hbi, hb7⟩
  obtain rfl : b = true := hbi.2 rfl
  have hb47 := hb46.trans (hb7.mono hb46.size)
  have hb27 := HB23.out.trans (hb47.mono HB23.out.size)
  have hb07 := HB24.out.trans (hb47.mono HB24.out.size)
  have hcv1 := conv_str (w := w7) (HBT2.out.keep fun q hq => hb27.block q hq) bs.length cap2 rfl
  have hcv2 := conv_str (w := w7) (HB.out.keep fun q hq => hb07.block q hq) n cap HN.out
  have HB07 := Lib.hid hb07
  generalize (⟨bs.toArray⟩ : ByteArray) = st at *
  clear hal hb46 hv46 hv56 hb7 hb47 hb27 hb07 hbi x0 x1 x2 x3 lt5
  go_wp2_with fail
  go_ret
  exact ⟨rfl, HB07.out⟩
end Go.Proofs.Ytnnakfhkejdfcaa
