import Derived.Test.YtnnakfhkejdfcaaMeas
namespace Go.Proofs.Ytnnakfhkejdfcaa
open Go.RowKit Pl
set_option linter.unusedVariables false

theorem strCells_vB (s : ByteArray) : Lib.strCells s = vB s.data.toList := rfl

/-- append of a text's bytes -/
theorem wp_appS {ops : Array Oper} {rest : List Oper} {o : Oper} {a : Act} {Q : Exit → Act → World → Prop} {w : World} (hgd : o.guard = none) (sl x : Operand)
    (ho : o.op = .call { callee := .builtin .append, args := #[sl, x], argTypes := #[22, 9] })
    (base : Nat) (v : Value) (l : List UInt8) (hs : a.eval sl = v) (hown : OwnB w base v l) (s : ByteArray) (hx : a.eval x = .string s)
    (hlen : l.length + s.size ≤ 70368744177664) (hbase : base ≤ w.heap.size)
    (h : ∀ v' w', OwnB w' base v' (l ++ s.data.toList) → Below base w w' → wpList Try.prog ops Q rest (a.put o.dst v') w') : wpList Try.prog ops Q (o :: rest) a w := by
  obtain ⟨i5, hi5, hz0, hz1, hz2⟩ := info_parts info5
  refine Lib.wpList_append_own_string w hgd sl x 22 9 ho base 5 i5 Try.underlying22 Try.underlying9 hi5 hz0 hz1 hz2 v l.length (vB l) hs hown s hx (by simp only [maxLen]; omega) (by omega) hbase ?_
  intro v' w' h2 h3 _
  refine h v' w' ?_ ((Below.refl _ _).grown h3 hbase fun k hk => (hown.lt k hk).1)
  unfold OwnB
  rw [vB_append, ← strCells_vB, List.length_append, show s.data.toList.length = s.size by simp only [Array.length_toList]; rfl]
  exact h2

theorem OwnB.belowB {w w' : World} {base : Nat} {v : Value} {l : List UInt8} (h : OwnB w base v l) (hb : Below w.heap.size w w') : OwnB w' base v l := h.below hb

set_option maxRecDepth 20000 in
theorem appItem_num (base : Nat) (v : Value) (xs : List UInt8) (n : Int) (s : ByteArray) (a : Option Addr) (c : Nat) (w : World) (hn : InR n) (hs : s.size = 0) (hown : OwnB w base v xs) (hb : base ≤ w.heap.size) (hl : xs.length ≤ 1099511627775) :
    Calls Try.prog 25 #[v, .agg #[.int .i64 1, .int .i64 n, .string s, .slice a 0 c]] w (AppPost base (xs ++ 1 :: cntB (foldN n)) w) := by
  have hf := foldN_lt' n hn.1 hn.2
  go_enter Try.func25, Try.ntmps25
  go_wp2_with fail
  refine (meaning_any _ _ _ _ _ _ _).mono ?_
  rintro e w1 ⟨rfl, hb1⟩
  have hb2 : Below w.heap.size w w1 := ((Below.refl _ _).alloc (Nat.le_refl _) _).trans (hb1.mono (by simp))
  have hown1 := hown.below hb2
  have hb3 := hb2.mono hb
  have hsz := hb2.size
  have HB := Lib.hid hb3
  have t1 := fun W => ta22 n W
  rw [show mean 1 n s 0 (.slice a 0 c) = .iface 2 (.int .i64 n) from by simp [mean, hs]]
  clear hb1 hb2 hb3 hown hs
  go_wp2_with (first
    | (at_builtin; (refine wp_app1 rfl (.tmp 22) (.tmp 23) rfl base v xs rfl (hown1.below ((Below.refl _ _).alloc (Nat.le_refl _) _)) _ _ rfl _ (by simp [go_sem]; rfl) ⟨by omega, by omega⟩ (by omega) (by simp; omega) ?_); intro v2 w2 hown2 hb2)
    | (go_at_call 37; refine (fold_any _ _ (by exact hn.1) (by exact hn.2)).mono ?_; rintro e w' ⟨rfl, rfl⟩))
  have hb5 := HB.out.trans (((Below.refl _ _).alloc (by omega) _).trans hb2)
  have hsz2 := hb5.size
  have HB5 := Lib.hid hb5
  clear hb2 hb5
  refine (appendCount_any base v2 _ _ _ hown2 (by simp; omega) (by omega) (by omega) (by omega)).mono ?_
  rintro e w3 ⟨v3, rfl, hown3, hb6⟩
  go_wp2_with fail
  go_ret
  refine ⟨v3, rfl, ?_, HB5.out.trans hb6⟩
  simpa using hown3

set_option maxRecDepth 20000 in
theorem appItem_text (base : Nat) (v : Value) (xs : List UInt8) (n : Int) (s : ByteArray) (a : Option Addr) (c : Nat) (w : World) (hn : n = 0) (hs : s.size ≤ 4096) (hown : OwnB w base v xs) (hb : base ≤ w.heap.size) (hl : xs.length ≤ 1099511627775) :
    Calls Try.prog 25 #[v, .agg #[.int .i64 2, .int .i64 n, .string s, .slice a 0 c]] w (AppPost base (xs ++ 2 :: (cntB s.size ++ s.data.toList)) w) := by
  subst hn
  go_enter Try.func25, Try.ntmps25
  go_wp2_with fail
  refine (meaning_any _ _ _ _ _ _ _).mono ?_
  rintro e w1 ⟨rfl, hb1⟩
  have hb2 : Below w.heap.size w w1 := ((Below.refl _ _).alloc (Nat.le_refl _) _).trans (hb1.mono (by simp))
  have hown1 := hown.below hb2
  have hb3 := hb2.mono hb
  have hsz := hb2.size
  have HB := Lib.hid hb3
  have t1 := fun W => ta92 s W
  have t2 := fun W => ta99 s W
  rw [show mean 2 0 s 0 (.slice a 0 c) = .iface 9 (.string s) from by simp [mean]]
  clear hb1 hb2 hb3 hown
  go_wp2_with (first
    | (at_builtin; (refine wp_app1 rfl (.tmp 34) (.tmp 35) rfl base v xs rfl (hown1.below ((Below.refl _ _).alloc (Nat.le_refl _) _)) _ _ rfl _ (by simp [go_sem]; rfl) ⟨by omega, by omega⟩ (by omega) (by simp; omega) ?_); intro v2 w2 hown2 hb2))
  have hb5 := HB.out.trans (((Below.refl _ _).alloc (by omega) _).trans hb2)
  have hsz2 := hb5.size
  have HB5 := Lib.hid hb5
  clear hb2 hb5
  refine (appendCount_any base v2 _ _ _ hown2 (by simp; omega) (by omega) (by omega) (by omega)).mono ?_
  rintro e w3 ⟨v3, rfl, hown3, hb6⟩
  have hb7 := HB5.out.trans hb6
  have hsz3 := hb7.size
  have HB7 := Lib.hid hb7
  clear hb7 hb6
  have hd := dgs_le s.size
  go_wp2_with (at_builtin; (refine wp_appS rfl (.tmp 41) (.tmp 42) rfl base v3 _ rfl hown3 s rfl (by simp [cntB_length]; omega) (by omega) ?_); intro v4 w4 hown4 hb8)
  go_ret
  refine ⟨v4, rfl, ?_, HB7.out.trans hb8⟩
  simpa using hown4
def AppItemAll (N : Nat) : Prop := ∀ (t : It) (base : Nat) (v iv : Value) (xs : List UInt8) (w : World), t.cnt ≤ N → t.good = true → t.long = false → IsIt w (· < base) t iv → OwnB w base v xs → base ≤ w.heap.size → xs.length + t.enc.length ≤ 1099511627775 →
    Calls Try.prog 25 #[v, iv] w (AppPost base (xs ++ t.enc) w)

def AppRel (base : Nat) (xs : List UInt8) (l : List It) (w : World) (u i : Value) (wr : World) : Prop :=
  ∃ j : Nat, j ≤ l.length ∧ i = .int .i64 j ∧ OwnB wr base u (xs ++ encs (l.take j)) ∧ Below base w wr

set_option maxRecDepth 20000 in
theorem appItem_list (N : Nat) (ih : AppItemAll N) (base : Nat) (v : Value) (xs : List UInt8) (n : Int) (s : ByteArray) (l : List It) (a : Option Addr) (c : Nat) (w : World) (hn : n = 0) (hs : s.size = 0) (hN : cnts l ≤ N) (hgd : goods l = true) (hlo : longs l = false)
    (hal : AreIts w (· < base) l a 0) (hown : OwnB w base v xs) (hb : base ≤ w.heap.size) (hl : xs.length + 2 + dgs l.length + (encs l).length ≤ 1099511627775) (hll : l.length ≤ 9223372036854775807) :
    Calls Try.prog 25 #[v, .agg #[.int .i64 3, .int .i64 n, .string s, .slice a l.length c]] w (AppPost base (xs ++ 3 :: (cntB l.length ++ encs l)) w) := by
  subst hn
  have hd := dgs_le l.length
  have HL := Lib.hid hal
  have HI := Lib.hid ih
  have HGD := Lib.hid hgd
  have HLO := Lib.hid hlo
  clear hal ih hgd hlo
  go_enter Try.func25, Try.ntmps25
  go_wp2_with fail
  refine (meaning_any _ _ _ _ _ _ _).mono ?_
  rintro e w1 ⟨rfl, hb1⟩
  have hb2 : Below w.heap.size w w1 := ((Below.refl _ _).alloc (Nat.le_refl _) _).trans (hb1.mono (by simp))
  have hown1 := hown.below hb2
  have hb3 := hb2.mono hb
  have hsz := hb2.size
  have HB := Lib.hid hb3
  have t1 := fun W => ta242 a l.length c W
  have t2 := fun W => ta249 a l.length c W
  have t3 := fun W => ta2424 a l.length c W
  rw [show mean 3 0 s l.length (.slice a l.length c) = .iface 24 (.slice a l.length c) from by simp [mean, hs]]
  clear hb1 hb2 hb3 hown hs
  go_wp2_with (first
    | (at_builtin; (refine wp_app1 rfl (.tmp 50) (.tmp 51) rfl base v xs rfl (hown1.below ((Below.refl _ _).alloc (Nat.le_refl _) _)) _ _ rfl _ (by simp [go_sem]; rfl) ⟨by omega, by omega⟩ (by omega) (by simp; omega) ?_); intro v2 w2 hown2 hb2))
  have hb5 := HB.out.trans (((Below.refl _ _).alloc (by omega) _).trans hb2)
  have hsz2 := hb5.size
  have HB5 := Lib.hid hb5
  clear hb2 hb5
  refine (appendCount_any base v2 _ _ _ hown2 (by simp; omega) (by omega) (by omega) (by omega)).mono ?_
  rintro e w3 ⟨v3, rfl, hown3, hb6⟩
  have hb7 := HB5.out.trans hb6
  have hsz3 := hb7.size
  have HB7 := Lib.hid hb7
  have HO3 := Lib.hid hown3
  clear hb7 hb6 hown3 hown2 hown1
  go_wp2_with fail
  go_loopw [0, 59] (fun u i wr => AppRel base (xs ++ 3 :: cntB l.length) l w u i wr) (fun _ i _ => (l.length - (intOf i).toNat))
  case atStart => exact ⟨0, by omega, rfl, by simpa [encs] using HO3.out, HB7.out⟩
  case round =>
    obtain ⟨j, hj, rfl, hownr, hbr⟩ := hrel
    have hbs := hbr.size
    by_cases hlt : j < l.length
    · obtain ⟨bk, off, u0, u1, u2, u3, rfl, hSb, k0, k1, k2, k3, hx⟩ := (AreIts.keep (fun q hq => hbr.block q hq) l HL.out).at_ (k := j) (x := l[j]) (List.getElem?_eq_getElem hlt)
      have hts := take_succ' l j l[j] (List.getElem?_eq_getElem hlt)
      have hmc := mem_cnt (List.getElem?_eq_getElem hlt)
      generalize l[j] = x at hx hts hmc
      have hxg := goods_take hts HGD.out
      have hxl := longs_take hts HLO.out
      have hxe := encs_take hts
      obtain ⟨qk, qn, qs, qa, qm, qc, rfl, rfl, rfl, rfl⟩ := hx.parts
      have HX := Lib.hid hx
      have HTS := Lib.hid hts
      have HBR := Lib.hid hbr
      have HOW := Lib.hid hownr
      have HXG := Lib.hid hxg
      have HXL := Lib.hid hxl
      clear hx hts hbr hownr hxg hxl
      rw [Nat.zero_add] at k0 k1 k2 k3
      go_wp2_with fail
      refine (HI.out x base _ _ _ _ (by omega) HXG.out HXL.out (HX.out.below ((Below.refl _ _).alloc (by omega) _)) (HOW.out.below ((Below.refl _ _).alloc (Nat.le_refl _) _)) (by simp; omega) (by simp [cntB_length]; omega)).mono ?_
      rintro e w4 ⟨v4, rfl, hown4, hb8⟩
      have hb9 := HBR.out.trans (((Below.refl _ _).alloc (by omega) _).trans hb8)
      have HB9 := Lib.hid hb9
      have HO4 := Lib.hid hown4
      clear hb8 hb9 hown4
      go_wp2_with fail
      go_roundw
      case rel => exact ⟨j + 1, by omega, by go_num, by rw [HTS.out, encs_append, encs_one, ← List.append_assoc]; exact HO4.out, HB9.out⟩
      case measure => simp [intOf]; omega
    · have ej : j = l.length := by omega
      rw [ej, List.take_length] at hownr
      have HOW := Lib.hid hownr
      clear hownr
      go_wp2_with fail
      go_ret
      exact ⟨_, rfl, by simpa using HOW.out, hbr⟩

theorem appItem_all : ∀ N, AppItemAll N := by
  intro N
  induction N with
  | zero => intro t _ _ _ _ _ h; have := cnt_pos t; omega
  | succ N ih =>
    intro t base v iv xs w hN hg hlo hv hown hb hl
    obtain ⟨k, n, s, l⟩ := t
    rw [IsIt] at hv
    obtain ⟨a, c, rfl, hk, hn, hs, hll, hal⟩ := hv
    rw [cnt_mk] at hN
    rw [good_mk, Bool.and_eq_true] at hg
    have hle := enc_length hg.1
    have hf := hg.1
    simp only [form, Bool.or_eq_true, Bool.and_eq_true, beq_iff_eq] at hf
    simp only [It.long, Bool.or_eq_false_iff] at hlo
    rcases hf with (⟨⟨rfl, a2⟩, a3⟩ | ⟨⟨rfl, a2⟩, a3⟩) | ⟨⟨rfl, a2⟩, a3⟩
    · have : l = [] := List.eq_nil_of_length_eq_zero a3
      subst this
      have he : (It.mk 1 n s []).enc = 1 :: cntB (foldN n) := by simp [It.enc]
      rw [he] at hl ⊢
      simp only [List.length_cons] at hl
      exact appItem_num base v xs n s a c w hn a2 hown hb (by omega)
    · have : l = [] := List.eq_nil_of_length_eq_zero a3
      subst this
      have he : (It.mk 2 n s []).enc = 2 :: (cntB s.size ++ s.data.toList) := by simp [It.enc]
      rw [he] at hl ⊢
      simp only [List.length_cons] at hl
      exact appItem_text base v xs n s a c w a2 (by have := hlo.1; simp at this; omega) hown hb (by omega)
    · have he : (It.mk 3 n s l).enc = 3 :: (cntB l.length ++ encs l) := by simp [It.enc]
      have ho : own 3 n s l.length = 2 + dgs l.length := by simp [own]
      rw [hle, ho] at hl
      rw [he]
      exact appItem_list N ih base v xs n s l a c w a2 a3 (by omega) hg.2 hlo.2 hal hown hb (by omega) (by simp only [maxLen] at hll; omega)
end Go.Proofs.Ytnnakfhkejdfcaa
