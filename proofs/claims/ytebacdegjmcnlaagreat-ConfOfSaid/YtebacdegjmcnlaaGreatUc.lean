import Derived.Test.YtebacdegjmcnlaaGreatUa
import Derived.Test.YtebacdegjmcnlaaGreatUb
import Derived.Test.YtebacdegjmcnlaaGreatMj
namespace Go.Proofs.YtebacdegjmcnlaaGreat
open Go.RowKit Pl
set_option linter.unusedVariables false
theorem ownB_nil (w : World) (base : Nat) : OwnB w base (.slice none 0 0) [] := World.ownsRow_nil _ _ _ _
theorem kp_row {w w' : World} {q : Nat} {cs : Array Value} {k n : Int} {s : ByteArray} {u : Value} (h : Kp w w') (hq : w.heap[q]? = some (.cells #[.int .i64 k, .int .i64 n, .string s, u] 50 (0, 0))) :
    w'.cell? ⟨q, 0, none⟩ = some (.int .i64 k) ∧ w'.cell? ⟨q, 1, none⟩ = some (.int .i64 n) ∧ w'.cell? ⟨q, 2, none⟩ = some (.string s) ∧ w'.cell? ⟨q, 3, none⟩ = some u := by
  have := h q _ _ _ (by decide) hq
  exact ⟨cell_of_row w' _ 0 _ _ _ this, cell_of_row w' _ 1 _ _ _ this, cell_of_row w' _ 2 _ _ _ this, cell_of_row w' _ 3 _ _ _ this⟩
set_option maxRecDepth 20000 in
theorem rb_num (base : Nat) (v : Value) (xs : List UInt8) (n : Int) (s : ByteArray) (a : Option Addr) (c : Nat) (w : World) (hn : InR n) (hown : OwnB w base v xs) (hb : base ≤ w.heap.size) (hl : xs.length ≤ 1099511627775) :
    Calls Tryz.prog 70 #[v, .agg #[.int .i64 1, .int .i64 n, .string s, .slice a 0 c]] w (AppK base (xs ++ 1 :: cntB (foldN n)) w) := by
  obtain ⟨n1, n2⟩ := hn
  have HR := Lib.hid (heap_alloc_new w (.cells #[.int .i64 1, .int .i64 n, .string s, .slice a 0 c] 50 (0, 0)))
  by_cases h0 : 0 ≤ n
  · obtain ⟨m, rfl⟩ := Int.eq_ofNat_of_zero_le h0
    have hf : foldN (m : Int) = m + m := by unfold foldN; rw [if_neg (by omega)]; omega
    rw [hf]
    clear hf
    go_enter Tryz.func70, Tryz.ntmps70
    go_wp2_with (first
      | (at_builtin; (refine wp_app1k rfl (.tmp 8) (.tmp 12) rfl base v xs rfl (hown.below (((Below.refl _ _).alloc (Nat.le_refl _) _).alloc (by simp) _)) _ _ rfl _ (by simp [go_sem]; rfl) ⟨by omega, by omega⟩ (by omega) (by simp; omega) ?_); intro v2 w2 hown2 hb2 hk2; obtain ⟨e0, e1, e2, e3⟩ := kp_row (cs := #[]) hk2 ((Below.heap_alloc _ _ _ (by simp)).trans HR.out)))
    have hb5 : Below base w w2 := (((Below.refl _ _).alloc (by omega) _).alloc (by simp; omega) _).trans hb2
    have hk5 : Kp w w2 := (((Kp.refl _).alloc _).alloc _).trans hk2
    have hsz := hb5.size
    have e : ((m : Int) + m) = ((m + m : Nat) : Int) := by omega
    rw [e]
    clear e
    refine (rcount_any base v2 _ (m + m) _ hown2 (by simp; omega) (by omega) (by omega)).mono ?_
    rintro e w3 ⟨v3, rfl, hown3, hb3, hk3⟩
    go_wp2_with fail
    go_ret
    exact ⟨v3, rfl, by simpa using hown3, hb5.trans hb3, hk5.trans hk3⟩
  · obtain ⟨p, hp⟩ := Int.eq_ofNat_of_zero_le (show 0 ≤ -n by omega)
    have hf : foldN n = p + p - 1 := by unfold foldN; rw [if_pos (by omega)]; omega
    rw [hf]
    have hlt : ¬ 0 ≤ n := h0
    have hw1 : IntKind.u64.wrap n = 18446744073709551616 - p := by rw [show n = -(p : Int) from by omega]; simp [IntKind.wrap, IntKind.bits, IntKind.signed]; omega
    have hw2 : IntKind.u64.wrap (-(18446744073709551616 - (p : Int))) = p := by simp [IntKind.wrap, IntKind.bits, IntKind.signed]; omega
    clear hf
    by_cases hpp : p = 9223372036854775808
    · subst hpp
      obtain rfl : n = -9223372036854775808 := by omega
      clear hw1 hw2 hp hlt h0
      go_enter Tryz.func70, Tryz.ntmps70
      go_wp2_with (first
        | (at_builtin; (refine wp_app1k rfl (.tmp 8) (.tmp 12) rfl base v xs rfl (hown.below (((Below.refl _ _).alloc (Nat.le_refl _) _).alloc (by simp) _)) _ _ rfl _ (by simp [go_sem]; rfl) ⟨by omega, by omega⟩ (by omega) (by simp; omega) ?_); intro v2 w2 hown2 hb2 hk2; obtain ⟨e0, e1, e2, e3⟩ := kp_row (cs := #[]) hk2 ((Below.heap_alloc _ _ _ (by simp)).trans HR.out)))
      have hb5 : Below base w w2 := (((Below.refl _ _).alloc (by omega) _).alloc (by simp; omega) _).trans hb2
      have hk5 : Kp w w2 := (((Kp.refl _).alloc _).alloc _).trans hk2
      have hsz := hb5.size
      refine (rcount_any base v2 _ (9223372036854775808 + 9223372036854775808 - 1) _ hown2 (by simp; omega) (by omega) (by omega)).mono ?_
      rintro e w3 ⟨v3, rfl, hown3, hb3, hk3⟩
      go_wp2_with fail
      go_ret
      exact ⟨v3, rfl, by simpa using hown3, hb5.trans hb3, hk5.trans hk3⟩
    · go_enter Tryz.func70, Tryz.ntmps70
      go_wp2_with (first
        | (at_builtin; (refine wp_app1k rfl (.tmp 8) (.tmp 12) rfl base v xs rfl (hown.below (((Below.refl _ _).alloc (Nat.le_refl _) _).alloc (by simp) _)) _ _ rfl _ (by simp [go_sem]; rfl) ⟨by omega, by omega⟩ (by omega) (by simp; omega) ?_); intro v2 w2 hown2 hb2 hk2; obtain ⟨e0, e1, e2, e3⟩ := kp_row (cs := #[]) hk2 ((Below.heap_alloc _ _ _ (by simp)).trans HR.out)))
      have hb5 : Below base w w2 := (((Below.refl _ _).alloc (by omega) _).alloc (by simp; omega) _).trans hb2
      have hk5 : Kp w w2 := (((Kp.refl _).alloc _).alloc _).trans hk2
      have hsz := hb5.size
      have e : ((p : Int) + p - 1) = ((p + p - 1 : Nat) : Int) := by omega
      rw [e]
      clear e
      refine (rcount_any base v2 _ (p + p - 1) _ hown2 (by simp; omega) (by omega) (by omega)).mono ?_
      rintro e w3 ⟨v3, rfl, hown3, hb3, hk3⟩
      go_wp2_with fail
      go_ret
      exact ⟨v3, rfl, by simpa using hown3, hb5.trans hb3, hk5.trans hk3⟩
set_option maxRecDepth 20000 in
theorem rb_text (base : Nat) (v : Value) (xs : List UInt8) (n : Int) (s : ByteArray) (a : Option Addr) (c : Nat) (w : World) (hs : s.size ≤ 4096) (hown : OwnB w base v xs) (hb : base ≤ w.heap.size) (hl : xs.length ≤ 1099511627775) :
    Calls Tryz.prog 70 #[v, .agg #[.int .i64 2, .int .i64 n, .string s, .slice a 0 c]] w (AppK base (xs ++ 2 :: (cntB s.size ++ s.data.toList)) w) := by
  have HR := Lib.hid (heap_alloc_new w (.cells #[.int .i64 2, .int .i64 n, .string s, .slice a 0 c] 50 (0, 0)))
  go_enter Tryz.func70, Tryz.ntmps70
  go_wp2_with (first
    | (at_builtin; (refine wp_app1k rfl (.tmp 8) (.tmp 12) rfl base v xs rfl (hown.below (((Below.refl _ _).alloc (Nat.le_refl _) _).alloc (by simp) _)) _ _ rfl _ (by simp [go_sem]; rfl) ⟨by omega, by omega⟩ (by omega) (by simp; omega) ?_); intro v2 w2 hown2 hb2 hk2; obtain ⟨e0, e1, e2, e3⟩ := kp_row (cs := #[]) hk2 ((Below.heap_alloc _ _ _ (by simp)).trans HR.out)))
  have hb5 : Below base w w2 := (((Below.refl _ _).alloc (by omega) _).alloc (by simp; omega) _).trans hb2
  have hk5 : Kp w w2 := (((Kp.refl _).alloc _).alloc _).trans hk2
  have HR2 := Lib.hid (hk2 _ _ _ _ (by decide) ((Below.heap_alloc _ _ _ (by simp)).trans HR.out))
  have hsz := hb5.size
  have HB5 := Lib.hid hb5
  have HK5 := Lib.hid hk5
  refine (rcount_any base v2 _ s.size _ hown2 (by simp; omega) (by omega) (by omega)).mono ?_
  clear hb2 hk2 hb5 hk5
  rintro e w3 ⟨v3, rfl, hown3, hb3, hk3⟩
  obtain ⟨f0, f1, f2, f3⟩ := kp_row (cs := #[]) hk3 HR2.out
  have HB6 := Lib.hid (HB5.out.trans hb3)
  have HK6 := Lib.hid (HK5.out.trans hk3)
  have hsz3 := HB6.out.size
  have hd := dgs_le s.size
  clear hb3 hk3
  go_wp2_with (at_builtin; (refine wp_appSk rfl (.tmp 45) (.tmp 47) rfl base v3 _ rfl hown3 s rfl (by simp [cntB_length]; omega) (by omega) ?_); intro v4 w4 hown4 hb8 hk8)
  go_ret
  exact ⟨v4, rfl, by simpa using hown4, HB6.out.trans hb8, HK6.out.trans hk8⟩
def RbAll (N : Nat) : Prop := ∀ (t : It) (base : Nat) (v iv : Value) (xs : List UInt8) (w : World), t.cnt ≤ N → t.good = true → t.long = false → IsIt w (· < base) t iv → OwnB w base v xs → base ≤ w.heap.size → xs.length + t.enc.length ≤ 1099511627775 →
    Calls Tryz.prog 70 #[v, iv] w (AppK base (xs ++ t.enc) w)
def RbRel (base : Nat) (xs : List UInt8) (l : List It) (w : World) (u i : Value) (wr : World) : Prop :=
  ∃ j : Nat, j ≤ l.length ∧ i = .int .i64 j ∧ OwnB wr base u (xs ++ encs (l.take j)) ∧ Below base w wr ∧ Kp w wr
set_option maxRecDepth 20000 in
set_option maxHeartbeats 1000000 in
theorem rb_list (N : Nat) (ih : RbAll N) (base : Nat) (v : Value) (xs : List UInt8) (n : Int) (s : ByteArray) (l : List It) (a : Option Addr) (c : Nat) (w : World) (hN : cnts l ≤ N) (hgd : goods l = true) (hlo : longs l = false)
    (hal : AreIts w (· < base) l a 0) (hown : OwnB w base v xs) (hb : base ≤ w.heap.size) (hl : xs.length + 2 + dgs l.length + (encs l).length ≤ 1099511627775) (hll : l.length ≤ 9223372036854775807) :
    Calls Tryz.prog 70 #[v, .agg #[.int .i64 3, .int .i64 n, .string s, .slice a l.length c]] w (AppK base (xs ++ 3 :: (cntB l.length ++ encs l)) w) := by
  have hd := dgs_le l.length
  have HL := Lib.hid hal
  have HI := Lib.hid ih
  have HGD := Lib.hid hgd
  have HLO := Lib.hid hlo
  have HR := Lib.hid (heap_alloc_new w (.cells #[.int .i64 3, .int .i64 n, .string s, .slice a l.length c] 50 (0, 0)))
  clear hal ih hgd hlo
  go_enter Tryz.func70, Tryz.ntmps70
  go_wp2_with (first
    | (at_builtin; (refine wp_app1k rfl (.tmp 8) (.tmp 12) rfl base v xs rfl (hown.below (((Below.refl _ _).alloc (Nat.le_refl _) _).alloc (by simp) _)) _ _ rfl _ (by simp [go_sem]; rfl) ⟨by omega, by omega⟩ (by omega) (by simp; omega) ?_); intro v2 w2 hown2 hb2 hk2; obtain ⟨e0, e1, e2, e3⟩ := kp_row (cs := #[]) hk2 ((Below.heap_alloc _ _ _ (by simp)).trans HR.out)))
  have hb5 : Below base w w2 := (((Below.refl _ _).alloc (by omega) _).alloc (by simp; omega) _).trans hb2
  have hk5 : Kp w w2 := (((Kp.refl _).alloc _).alloc _).trans hk2
  have HR2 := Lib.hid (hk2 _ _ _ _ (by decide) ((Below.heap_alloc _ _ _ (by simp)).trans HR.out))
  have hsz := hb5.size
  have HB5 := Lib.hid hb5
  have HK5 := Lib.hid hk5
  refine (rcount_any base v2 _ l.length _ hown2 (by simp; omega) (by omega) (by omega)).mono ?_
  clear hb2 hk2 hb5 hk5
  rintro e w3 ⟨v3, rfl, hown3, hb3, hk3⟩
  have HR3 := Lib.hid (hk3 _ _ _ _ (by decide) HR2.out)
  have HB6 := Lib.hid (HB5.out.trans hb3)
  have HK6 := Lib.hid (HK5.out.trans hk3)
  have HO3 := Lib.hid hown3
  clear hb3 hk3 hown3 e0 e1 e2 e3 hown2
  go_wp2_with fail
  go_loopw [0, 7] (fun u i wr => RbRel base (xs ++ 3 :: cntB l.length) l w3 u i wr) (fun _ i _ => (l.length - (intOf i).toNat))
  case atStart => exact ⟨0, by omega, rfl, by simpa [encs] using HO3.out, Below.refl _ _, Kp.refl _⟩
  case round =>
    obtain ⟨j, hj, rfl, hownr, hbr0, hkr⟩ := hrel
    have hbr := HB6.out.trans hbr0
    have hbs := hbr.size
    obtain ⟨f0, f1, f2, f3⟩ := kp_row (cs := #[]) hkr HR3.out
    by_cases hlt : j < l.length
    · obtain ⟨bk, off, u0, u1, u2, u3, rfl, hSb, k0, k1, k2, k3, hx⟩ := (AreIts.keep (fun q hq => hbr.block q hq) l HL.out).at_ (k := j) (x := l[j]) (List.getElem?_eq_getElem hlt)
      have hts := take_succ' l j l[j] (List.getElem?_eq_getElem hlt)
      have hmc := mem_cnt (List.getElem?_eq_getElem hlt)
      generalize l[j] = x at hx hts hmc
      have hxg := goods_take hts HGD.out
      have hxl := longs_take hts HLO.out
      have hxe := encs_take hts
      obtain ⟨qk, qn, qs, qa, qm, qc, rfl, rfl, rfl, rfl⟩ := hx.parts
      have HX := Lib.hid hx
      have HTS := Lib.hid hts
      have HBR := Lib.hid hbr0
      have HKR := Lib.hid hkr
      have HOW := Lib.hid hownr
      have HXG := Lib.hid hxg
      have HXL := Lib.hid hxl
      clear hx hts hbr hbr0 hkr hownr hxg hxl
      rw [Nat.zero_add] at k0 k1 k2 k3
      go_wp2_with fail
      refine (HI.out x base _ _ _ _ (by omega) HXG.out HXL.out HX.out HOW.out (by omega) (by simp [cntB_length]; omega)).mono ?_
      rintro e w4 ⟨v4, rfl, hown4, hb8, hk8⟩
      have HB9 := Lib.hid (HBR.out.trans hb8)
      have HK9 := Lib.hid (HKR.out.trans hk8)
      have HO4 := Lib.hid hown4
      clear hb8 hk8 hown4
      go_wp2_with fail
      go_roundw
      case rel => exact ⟨j + 1, by omega, by go_num, by rw [HTS.out, encs_append, encs_one, ← List.append_assoc]; exact HO4.out, HB9.out, HK9.out⟩
      case measure => simp [intOf]; omega
    · have ej : j = l.length := by omega
      rw [ej, List.take_length] at hownr
      have HOW := Lib.hid hownr
      have HBR := Lib.hid hbr
      have HKR := Lib.hid (HK6.out.trans hkr)
      clear hownr hbr hbr0 hkr
      go_wp2_with fail
      go_ret
      exact ⟨_, rfl, by simpa using HOW.out, HBR.out, HKR.out⟩
theorem rb_all : ∀ N, RbAll N := by
  intro N
  induction N with
  | zero => intro t _ _ _ _ _ h; have := cnt_pos t; omega
  | succ N ih =>
    intro t base v iv xs w hN hg hlo hv hown hb hl
    obtain ⟨k, n, s, l⟩ := t
    rw [IsIt] at hv
    obtain ⟨a, c, rfl, hk, hn, hs, hll, hal⟩ := hv
    rw [cnt_mk] at hN
    rw [good_mk, Bool.and_eq_true] at hg
    have hle := enc_length hg.1
    have hf := hg.1
    simp only [form, Bool.or_eq_true, Bool.and_eq_true, beq_iff_eq] at hf
    simp only [It.long, Bool.or_eq_false_iff] at hlo
    rcases hf with (⟨⟨rfl, a2⟩, a3⟩ | ⟨⟨rfl, a2⟩, a3⟩) | ⟨⟨rfl, a2⟩, a3⟩
    · have : l = [] := List.eq_nil_of_length_eq_zero a3
      subst this
      have he : (It.mk 1 n s []).enc = 1 :: cntB (foldN n) := by simp [It.enc]
      rw [he] at hl ⊢
      simp only [List.length_cons] at hl
      exact rb_num base v xs n s a c w hn hown hb (by omega)
    · have : l = [] := List.eq_nil_of_length_eq_zero a3
      subst this
      have he : (It.mk 2 n s []).enc = 2 :: (cntB s.size ++ s.data.toList) := by simp [It.enc]
      rw [he] at hl ⊢
      simp only [List.length_cons] at hl
      exact rb_text base v xs n s a c w (by have := hlo.1; simp at this; omega) hown hb (by omega)
    · have he : (It.mk 3 n s l).enc = 3 :: (cntB l.length ++ encs l) := by simp [It.enc]
      have ho : own 3 n s l.length = 2 + dgs l.length := by simp [own]
      rw [hle, ho] at hl
      rw [he]
      exact rb_list N ih base v xs n s l a c w (by omega) hg.2 hlo.2 hal hown hb (by omega) (by simp only [maxLen] at hll; omega)
theorem ownB_mono {w : World} {b b' : Nat} {v : Value} {l : List UInt8} (h : OwnB w b v l) (hb : b' ≤ b) : OwnB w b' v l := by
  obtain ⟨h1, h2⟩ := h
  refine ⟨h1, ?_⟩
  rcases h2 with h2 | ⟨g, cap, cur, e1, e2, e3⟩
  · exact .inl h2
  · exact .inr ⟨g, cap, cur, e1, by omega, e3⟩
def ItxAll (N : Nat) : Prop := ∀ (t : It) (v : Value) (most deep : Nat) (w : World), t.cnt ≤ N → IsIt w (· < w.heap.size) t v → t.cnt ≤ most → most ≤ 4096 → 1 ≤ deep → deep + t.dep ≤ 13 →
  Calls Tryz.prog 67 #[v, .int .i64 most, .int .i64 deep] w (RetBelow (.tuple #[.int .i64 t.cnt, .int .i64 ((deep + t.dep - 1 : Nat) : Int)]) w)
def ItxRel (l : List It) (deep : Nat) (w0 : World) (un ud uk : Value) (wr : World) : Prop :=
  ∃ j n d : Nat, j ≤ l.length ∧ uk = .int .i64 j ∧ un = .int .i64 n ∧ ud = .int .i64 d ∧ Below w0.heap.size w0 wr ∧ n = 1 + cnts (l.take j) ∧ d = deep + deps (l.take j)
theorem deps_take {l : List It} {j : Nat} {x : It} (ht : l.take (j + 1) = l.take j ++ [x]) : deps (l.take j) ≤ deps l ∧ x.dep ≤ deps l := by
  have h : l = l.take (j + 1) ++ l.drop (j + 1) := (List.take_append_drop _ _).symm
  rw [ht] at h
  have : deps l = deps (l.take j ++ [x] ++ l.drop (j + 1)) := by rw [← h]
  rw [deps_append, deps_append, deps_one] at this
  omega
theorem cnts_take {l : List It} {j : Nat} {x : It} (ht : l.take (j + 1) = l.take j ++ [x]) : cnts (l.take j) + x.cnt ≤ cnts l := by
  have h : l = l.take (j + 1) ++ l.drop (j + 1) := (List.take_append_drop _ _).symm
  rw [ht] at h
  have : cnts l = cnts (l.take j ++ [x] ++ l.drop (j + 1)) := by rw [← h]
  rw [cnts_append, cnts_append, cnts_one] at this
  omega
set_option maxRecDepth 20000 in
theorem itx_step (N : Nat) (ih : ItxAll N) (k n : Int) (s : ByteArray) (l : List It) (a : Option Addr) (c : Nat) (most deep : Nat) (w : World) (hN : cnts l ≤ N) (hl : l.length ≤ maxLen) (hal : AreIts w (· < w.heap.size) l a 0) (h0 : 1 + cnts l ≤ most) (h1 : most ≤ 4096) (d1 : 1 ≤ deep) (d2 : deep + deps l ≤ 12) :
    Calls Tryz.prog 67 #[.agg #[.int .i64 k, .int .i64 n, .string s, .slice a l.length c], .int .i64 most, .int .i64 deep] w (RetBelow (.tuple #[.int .i64 ((1 + cnts l : Nat) : Int), .int .i64 ((deep + deps l : Nat) : Int)]) w) := by
  have HI := Lib.hid ih
  have HL := Lib.hid hal
  unfold maxLen at hl
  have HC := Lib.hid h0
  have HD := Lib.hid d2
  have hd12 : (deep : Int) ≤ 12 := by omega
  clear ih hal h0 d2
  go_enter Tryz.func67, Tryz.ntmps67
  go_wp2_with fail
  generalize hw0 : w.alloc (.cells #[.int .i64 k, .int .i64 n, .string s, .slice a l.length c] 50) = w0
  have hs0 : w0.heap.size = w.heap.size + 1 := by rw [← hw0]; simp
  have hx0 : w0.heap[w.heap.size]? = some (.cells #[.int .i64 k, .int .i64 n, .string s, .slice a l.length c] 50 (0, 0)) := by rw [← hw0]; exact heap_alloc_new _ _
  have hb0 : Below w.heap.size w w0 := by rw [← hw0]; exact (Below.refl _ _).alloc (Nat.le_refl _) _
  have HX := Lib.hid hx0
  have HB := Lib.hid hb0
  have HS0 := Lib.hid hs0
  clear hw0 hx0 hb0 hs0
  go_loopw [8, 9, 10] (fun un ud uk wr => ItxRel l deep w0 un ud uk wr) (fun _ _ uk _ => l.length - (intOf uk).toNat)
  case atStart => exact ⟨0, 1, deep, by omega, rfl, rfl, rfl, Below.refl _ _, by simp [cnts], by simp [deps]⟩
  case round =>
    obtain ⟨j, nn, dd, hj, rfl, rfl, rfl, hbr, hnn, hdd⟩ := hrel
    have hsr := hbr.size
    have hs0 := HS0.out
    have hbl : w.heap.size < wr.heap.size := by omega
    have hxr : wr.heap[w.heap.size]? = some (.cells #[.int .i64 k, .int .i64 n, .string s, .slice a l.length c] 50 (0, 0)) := (hbr.block _ (by omega)).trans HX.out
    have hc3 : wr.cell? ⟨w.heap.size, 3, none⟩ = some (.slice a l.length c) := cell_of_row wr _ 3 _ _ _ hxr
    have HNN := Lib.hid hnn
    have HDD := Lib.hid hdd
    have HBR := Lib.hid hbr
    clear hs0 hxr hbr hnn hdd
    by_cases hlt : j < l.length
    · have hkeep : ∀ q, q < w.heap.size → wr.heap[q]? = w.heap[q]? := fun q hq => (HBR.out.block q (by have := HS0.out; omega)).trans (HB.out.block q hq)
      obtain ⟨bk, off, u0, u1, u2, u3, rfl, hSb, k0, k1, k2, k3, hx⟩ := (AreIts.keep hkeep l HL.out).at_ (k := j) (x := l[j]) (List.getElem?_eq_getElem hlt)
      have hts := take_succ' l j l[j] (List.getElem?_eq_getElem hlt)
      have hmc := mem_cnt (List.getElem?_eq_getElem hlt)
      generalize l[j] = x at hx hts hmc
      have q1 := cnts_take hts
      have q2 := deps_take hts
      have q3 := HC.out
      have q4 := HD.out
      have q5 := HNN.out
      have q6 := HDD.out
      have hn1 : nn + x.cnt ≤ most := by omega
      have hn2 : (nn : Int) ≤ most := by omega
      have hdx : deep + 1 + x.dep ≤ 13 := by omega
      obtain ⟨qk, qn, qs, qa, qm, qc, rfl, rfl, rfl, rfl⟩ := hx.parts
      have HX2 := Lib.hid hx
      have HTS := Lib.hid hts
      have hxp := cnt_pos x
      have hxd := dep_pos x
      clear hx hts hkeep q1 q2 q3 q4 q5 q6
      rw [Nat.zero_add] at k0 k1 k2 k3
      obtain ⟨mm, hmm⟩ : ∃ mm, mm = most - nn := ⟨_, rfl⟩
      have hm3 : (most : Int) - nn = (mm : Int) := by omega
      have hm4 : x.cnt ≤ mm := by omega
      have hm5 : mm ≤ 4096 := by omega
      clear hmm
      go_wp2_with fail
      rw [show ((deep : Int) + 1) = ((deep + 1 : Nat) : Int) from by omega]
      refine (HI.out x _ mm (deep + 1) wr (by omega) (IsIt.mono (fun q hq => by omega) x HX2.out) hm4 hm5 (by omega) (by omega)).mono ?_
      rintro e w4 ⟨rfl, hb4⟩
      clear hm3
      have HB4 := Lib.hid hb4
      clear hb4
      obtain ⟨ee, hee⟩ : ∃ ee, ee = deep + 1 + x.dep - 1 := ⟨_, rfl⟩
      rw [← hee]
      have HEE := Lib.hid hee
      obtain ⟨cc, hcc⟩ : ∃ cc, cc = x.cnt := ⟨_, rfl⟩
      rw [← hcc]
      have HCC := Lib.hid hcc
      have hcb : cc ≤ 4096 := by omega
      have hnb : nn ≤ 4096 := by omega
      clear hee hcc
      by_cases hmax : dd < ee
      · have hmax2 : (dd : Int) < ee := by omega
        go_wp2_with fail
        go_roundw
        case rel => exact ⟨j + 1, nn + cc, ee, by omega, by go_num, by go_num, rfl, HBR.out.trans (HB4.out.mono hsr), by rw [HTS.out, cnts_append, cnts_one, HNN.out, HCC.out]; omega, by have := HEE.out; have := HDD.out; rw [HTS.out, deps_append, deps_one]; omega⟩
        case measure => simp [intOf]; omega
      · have hmax2 : ¬ (dd : Int) < ee := by omega
        go_wp2_with fail
        go_roundw
        case rel => exact ⟨j + 1, nn + cc, dd, by omega, by go_num, by go_num, rfl, HBR.out.trans (HB4.out.mono hsr), by rw [HTS.out, cnts_append, cnts_one, HNN.out, HCC.out]; omega, by have := HEE.out; have := HDD.out; rw [HTS.out, deps_append, deps_one]; omega⟩
        case measure => simp [intOf]; omega
    · have ej : j = l.length := by omega
      have g1 := HNN.out
      have g2 := HDD.out
      rw [ej, List.take_length] at g1 g2
      have G1 := Lib.hid g1
      have G2 := Lib.hid g2
      clear g1 g2 ej
      go_wp2_with fail
      go_ret2
      exact ⟨by rw [G1.out, G2.out]; rfl, HB.out.trans (HBR.out.mono (by have := HS0.out; omega))⟩
theorem itx_all : ∀ N, ItxAll N := by
  intro N
  induction N with
  | zero => intro t _ _ _ _ h; have := cnt_pos t; omega
  | succ N ih =>
    intro t v most deep w hN hv h0 h1 d1 d2
    obtain ⟨k, n, s, l⟩ := t
    rw [IsIt] at hv
    obtain ⟨a, c, rfl, _, _, _, hl, hal⟩ := hv
    rw [cnt_mk] at hN h0 ⊢
    have e : (It.mk k n s l).dep = 1 + deps l := by simp [It.dep]
    rw [e] at d2 ⊢
    have := itx_step N ih k n s l a c most deep w (by omega) hl hal h0 h1 d1 (by omega)
    rwa [show deep + (1 + deps l) - 1 = deep + deps l from by omega]
/-- the reference's Encode of an item that is right -/
def REncP (t : It) (w : World) (e : Ending) (w' : World) : Prop := ∃ v, e = .returned (.tuple #[v, .int .i64 0]) ∧ Below w.heap.size w w' ∧ OwnB w' w.heap.size v t.enc
set_option maxRecDepth 20000 in
set_option maxHeartbeats 1000000 in
theorem rencode_any (t : It) (v : Value) (w : World) (hv : IsIt w (· < w.heap.size) t v) (h1 : t.cnt ≤ 4096) (h2 : t.dep ≤ 12) (h3 : t.long = false) (h4 : t.good = true) (hle : t.enc.length ≤ 1099511627775) : Calls Tryz.prog 41 #[v] w (REncP t w) := by
  have hv0 := hv
  obtain ⟨k, n, s, l⟩ := t
  rw [IsIt] at hv0
  obtain ⟨a, c, rfl, _, _, _, _, _⟩ := hv0
  generalize htt : It.mk k n s l = t at *
  have HTT := Lib.hid htt
  have HV := Lib.hid hv
  have HLE := Lib.hid hle
  have HN := Lib.hid h1
  have HD := Lib.hid h2
  have HLO := Lib.hid h3
  have HGD := Lib.hid h4
  have HB0 := Lib.hid ((Below.refl w.heap.size w).alloc (Nat.le_refl _) (.cells #[.int .i64 k, .int .i64 n, .string s, .slice a l.length c] 50))
  have HR := Lib.hid (heap_alloc_new w (.cells #[.int .i64 k, .int .i64 n, .string s, .slice a l.length c] 50 (0, 0)))
  have hz : (w.alloc (.cells #[.int .i64 k, .int .i64 n, .string s, .slice a l.length c] 50)).heap.size = w.heap.size + 1 := by simp
  clear htt hv hle h1 h2 h3 h4
  go_enter Tryz.func41, Tryz.ntmps41
  go_wp2_with fail
  generalize w.alloc (.cells #[.int .i64 k, .int .i64 n, .string s, .slice a l.length c] 50) = W at *
  have HIS := Lib.hid (fun V (h : Below W.heap.size W V) => (IsIt.mono (fun q hq => by have := h.size; omega) t (IsIt.keep (fun q hq => (h.block q (by omega)).trans (HB0.out.block q hq)) t HV.out) : IsIt V (· < V.heap.size) t _))
  have HRW := Lib.hid (fun V (h : Below W.heap.size W V) => (⟨cell_of_row V _ 0 _ _ _ ((h.block w.heap.size (by omega)).trans HR.out), cell_of_row V _ 1 _ _ _ ((h.block w.heap.size (by omega)).trans HR.out), cell_of_row V _ 2 _ _ _ ((h.block w.heap.size (by omega)).trans HR.out), cell_of_row V _ 3 _ _ _ ((h.block w.heap.size (by omega)).trans HR.out)⟩ : V.cell? ⟨w.heap.size, 0, none⟩ = some (.int .i64 k) ∧ V.cell? ⟨w.heap.size, 1, none⟩ = some (.int .i64 n) ∧ V.cell? ⟨w.heap.size, 2, none⟩ = some (.string s) ∧ V.cell? ⟨w.heap.size, 3, none⟩ = some (.slice a l.length c)))
  have HTX := Lib.hid (show ∀ V, Below W.heap.size W V → Calls Tryz.prog 68 #[.agg #[.int .i64 k, .int .i64 n, .string s, .slice a l.length c]] V (RetBelow (.bool false) V) from fun V h => by
    have := tx_all t.cnt t _ V (Nat.le_refl _) (HIS.out V h)
    rwa [HLO.out] at this)
  have HFM := Lib.hid (show ∀ V, Below W.heap.size W V → Calls Tryz.prog 69 #[.agg #[.int .i64 k, .int .i64 n, .string s, .slice a l.length c]] V (RetBelow (.bool true) V) from fun V h => by
    have := fm_all t.cnt t _ V (Nat.le_refl _) (HIS.out V h)
    rwa [HGD.out] at this)
  obtain ⟨cc, hcc⟩ : ∃ cc, cc = t.cnt := ⟨_, rfl⟩
  obtain ⟨dd, hdd⟩ : ∃ dd, dd = 1 + t.dep - 1 := ⟨_, rfl⟩
  have b1 : cc ≤ 4096 := by have := HN.out; omega
  have b2 : dd ≤ 12 := by have := HD.out; omega
  refine (itx_all t.cnt t _ 4096 1 W (Nat.le_refl _) (HIS.out W (Below.refl _ _)) HN.out (by omega) (by omega) (by have := HD.out; omega)).mono ?_
  rintro e w1 ⟨rfl, hb1⟩
  rw [← hcc, ← hdd]
  have B1 := Lib.hid hb1
  clear hb1 hcc hdd
  obtain ⟨e0, e1, e2, e3⟩ := HRW.out w1 B1.out
  go_wp2_with (first
    | (go_at_call 68; (with_reducible refine (HTX.out _ B1.out).mono ?_); rintro e w2 ⟨rfl, h⟩; have B2 : Hid (Below W.heap.size W w2) := Lib.hid (B1.out.trans (h.mono B1.out.size)); clear h; obtain ⟨f0, f1, f2, f3⟩ := HRW.out w2 B2.out)
    | (go_at_call 69; (with_reducible refine (HFM.out _ B2.out).mono ?_); rintro e w3 ⟨rfl, h⟩; have B3 : Hid (Below W.heap.size W w3) := Lib.hid (B2.out.trans (h.mono B2.out.size)); clear h; obtain ⟨g0, g1, g2, g3⟩ := HRW.out w3 B3.out))
  refine (rb_all t.cnt t w3.heap.size (.slice none 0 0) _ [] w3 (Nat.le_refl _) HGD.out HLO.out (HIS.out w3 B3.out) (ownB_nil _ _) (Nat.le_refl _) (by simpa using HLE.out)).mono ?_
  rintro e w4 ⟨v4, rfl, hown, hb4, hk4⟩
  have B4 := Lib.hid (B3.out.trans (hb4.mono B3.out.size))
  clear hb4 hk4
  go_wp2_with fail
  go_ret2
  refine ⟨v4, rfl, HB0.out.trans (B4.out.mono HB0.out.size), ?_⟩
  have := B3.out.size
  simpa using ownB_mono hown (by omega)
end Go.Proofs.YtebacdegjmcnlaaGreat
