import Derived.Test.YtnnakfhkejdfcaaRq
import Derived.Test.YtnnakfhkejdfcaaPq
import Derived.Test.YtnnakfhkejdfcaaList
namespace Go.Proofs.Ytnnakfhkejdfcaa
open Go.RowKit Pl
set_option linter.unusedVariables false

/-- the four cells of an item -/
def Four (a b c d : Value) : Prop := (∃ k, a = .int .i64 k) ∧ (∃ m, b = .int .i64 m) ∧ (∃ s, c = .string s) ∧ ∃ x y z, d = .slice x y z
theorem Four.one {a b c d : Value} (h : Four a b c d) : a.oneCell' = true ∧ b.oneCell' = true ∧ c.oneCell' = true ∧ d.oneCell' = true := by
  obtain ⟨⟨k, rfl⟩, ⟨m, rfl⟩, ⟨s, rfl⟩, ⟨x, y, z, rfl⟩⟩ := h
  exact ⟨rfl, rfl, rfl, rfl⟩

def QItemAny (f g : Nat) (A : Option Addr) (cap : Nat) (bs : List UInt8) (p left : Nat) (w : World) (e : Ending) (w' : World) : Prop :=
  w.grownBy w' (some g) ∧ ∃ a b c d, e = .returned (.agg #[a, b, c, d]) ∧ Four a b c d ∧
   ((∃ t r l' p', qit f left (bs.drop p) = some (t, r, l') ∧ bs.drop p' = r ∧ QSt w' g A cap bs p' (l' : Int) false ∧ IsIt w' (NewB w w') t (.agg #[a, b, c, d]))
   ∨ (qit f left (bs.drop p) = none ∧ ∃ p' l', QSt w' g A cap bs p' l' true))
def QItemAll (f : Nat) : Prop := ∀ (g : Nat) (A : Option Addr) (cap : Nat) (bs : List UInt8) (p left : Nat) (dp : Int) (w : World), QSt w g A cap bs p (left : Int) false → left ≤ 4096 → 0 ≤ dp → dp + f = 13 →
  Calls Try.prog 23 #[.pointer (some ⟨g, 0, none⟩), .int .i64 dp] w (QItemAny f g A cap bs p left w)

theorem QSt.lt {w : World} {g : Nat} {A : Option Addr} {cap : Nat} {bs : List UInt8} {p : Nat} {left : Int} {bad : Bool} (h : QSt w g A cap bs p left bad) : g < w.heap.size := (Array.getElem?_eq_some_iff.1 h.1).1

/-- the row of an item that is none -/
theorem q_none {f g : Nat} {A : Option Addr} {cap : Nat} {bs : List UInt8} {p left p' : Nat} {l' : Int} {a b c d : Value} {w w' : World} (hq : qit f left (bs.drop p) = none) (hg : w.grownBy w' (some g)) (h : QSt w' g A cap bs p' l' true) (o : Four a b c d := by exact ⟨⟨_, rfl⟩, ⟨_, rfl⟩, ⟨_, rfl⟩, ⟨_, _, _, rfl⟩⟩) : QItemAny f g A cap bs p left w (.returned (.agg #[a, b, c, d])) w' :=
  ⟨hg, a, b, c, d, rfl, o, .inr ⟨hq, p', l', h⟩⟩

theorem byte_at (g : Nat) (A : Option Addr) (cap : Nat) (bs : List UInt8) (p : Nat) (left : Int) (x : UInt8) (k : Int) (w : World) (h : QSt w g A cap bs p left false) (hx : bs[p]? = some x) (hk : (x.toNat : Int) = k) :
    Calls Try.prog 32 #[.pointer (some ⟨g, 0, none⟩)] w fun e w' => e = .returned (.int .i64 k) ∧ QSt w' g A cap bs (p + 1) left false ∧ w.grownBy w' (some g) := by
  subst hk; exact byte_yes g A cap bs p left x w h hx

set_option maxRecDepth 20000 in
theorem q_out (f g : Nat) (A : Option Addr) (cap : Nat) (bs : List UInt8) (p left : Nat) (dp : Int) (w : World) (h : QSt w g A cap bs p (left : Int) false) (hl : (left : Int) ≤ 4096) (ho : left = 0 ∨ 12 < dp) (hq : qit f left (bs.drop p) = none) :
    Calls Try.prog 23 #[.pointer (some ⟨g, 0, none⟩), .int .i64 dp] w (QItemAny f g A cap bs p left w) := by
  have hlt := h.lt
  obtain ⟨a0, a1, a2, a3, b1, b2, b3⟩ := h.row
  have H := Lib.hid h
  have HQ := Lib.hid hq
  clear h hq a0 a1
  by_cases h0 : (left : Int) = 0
  · rw [h0] at a2
    clear ho
    go_enter Try.func23, Try.ntmps23
    go_wp2_with fail
    refine bodyPost_ret (v := .agg zeroItem) (by simp [results, Try.results23, go_sem, zeroItem]) rfl ?_
    exact q_none HQ.out (grownBy_trans (grownBy_set _ _ _ _) (grownBy_trans (grownBy_set _ _ _ _) (World.grownBy_alloc _ _ _))) (((H.out.setl _).setb true).keep fun q hq => Below.heap_alloc _ _ q (by simp; omega))
  · have h12 : 12 < dp := by rcases ho with e | e; exact absurd e (by omega); exact e
    have h1 : (1 : Int) ≤ left := by omega
    clear ho
    go_enter Try.func23, Try.ntmps23
    go_wp2_with fail
    refine bodyPost_ret (v := .agg zeroItem) (by simp [results, Try.results23, go_sem, zeroItem]) rfl ?_
    exact q_none HQ.out (grownBy_trans (grownBy_set _ _ _ _) (grownBy_trans (grownBy_set _ _ _ _) (World.grownBy_alloc _ _ _))) (((H.out.setl _).setb true).keep fun q hq => Below.heap_alloc _ _ q (by simp; omega))
/-- the result's row behind the last store, a younger block beside it -/
theorem fin4 (w1 : World) (R : Nat) (a b c d z0 z1 z2 z3 : Value) (o : Obj) (h : w1.heap[R]? = some (.cells #[z0, z1, z2, z3] 26 (0, 0))) :
    (((((w1.setCell ⟨R, 0, none⟩ a).setCell ⟨R, 1, none⟩ b).setCell ⟨R, 2, none⟩ c).setCell ⟨R, 3, none⟩ d).alloc o).cell? ⟨R, 0, none⟩ = some a ∧
    (((((w1.setCell ⟨R, 0, none⟩ a).setCell ⟨R, 1, none⟩ b).setCell ⟨R, 2, none⟩ c).setCell ⟨R, 3, none⟩ d).alloc o).cell? ⟨R, 1, none⟩ = some b ∧
    (((((w1.setCell ⟨R, 0, none⟩ a).setCell ⟨R, 1, none⟩ b).setCell ⟨R, 2, none⟩ c).setCell ⟨R, 3, none⟩ d).alloc o).cell? ⟨R, 2, none⟩ = some c ∧
    (((((w1.setCell ⟨R, 0, none⟩ a).setCell ⟨R, 1, none⟩ b).setCell ⟨R, 2, none⟩ c).setCell ⟨R, 3, none⟩ d).alloc o).cell? ⟨R, 3, none⟩ = some d := by
  have hlt : R < w1.heap.size := (Array.getElem?_eq_some_iff.1 h).1
  have h4 := heap_set _ R 3 d _ _ (heap_set _ R 2 c _ _ (heap_set _ R 1 b _ _ (heap_set w1 R 0 a _ _ h)))
  have h5 := (Below.heap_alloc ((((w1.setCell ⟨R, 0, none⟩ a).setCell ⟨R, 1, none⟩ b).setCell ⟨R, 2, none⟩ c).setCell ⟨R, 3, none⟩ d) o R (by simp; omega)).trans h4
  obtain ⟨y0, y1, y2, y3, _⟩ := row4 h5
  exact ⟨y0, y1, y2, y3⟩
/-- and what lay below it -/
theorem fin4_far (w1 : World) (R q : Nat) (a b c d : Value) (o : Obj) (h : q ≠ R) (hq : q < w1.heap.size) : (((((w1.setCell ⟨R, 0, none⟩ a).setCell ⟨R, 1, none⟩ b).setCell ⟨R, 2, none⟩ c).setCell ⟨R, 3, none⟩ d).alloc o).heap[q]? = w1.heap[q]? := by
  rw [Below.heap_alloc _ _ _ (by simp; omega), Below.heap_setCell _ _ _ _ h, Below.heap_setCell _ _ _ _ h, Below.heap_setCell _ _ _ _ h, Below.heap_setCell _ _ _ _ h]
theorem fin4_below (w1 : World) (B R : Nat) (a b c d : Value) (o : Obj) (hR : B ≤ R) (hB : B ≤ w1.heap.size) : Below B w1 (((((w1.setCell ⟨R, 0, none⟩ a).setCell ⟨R, 1, none⟩ b).setCell ⟨R, 2, none⟩ c).setCell ⟨R, 3, none⟩ d).alloc o) :=
  (((((Below.refl B w1).setCell hR a).setCell hR b).setCell hR c).setCell hR d).alloc (by simp; omega) o

theorem qit_kind {f left : Nat} {bs : List UInt8} {p : Nat} (h : ∀ u, bs[p]? = some u → u ≠ 1 ∧ u ≠ 2 ∧ u ≠ 3) : qit f left (bs.drop p) = none := by
  cases f with
  | zero => simp [qit]
  | succ f =>
  cases left with
  | zero => simp [qit]
  | succ left =>
  cases hp : bs[p]? with
  | none =>
    rw [List.drop_of_length_le (by rw [List.getElem?_eq_none_iff] at hp; exact hp)]; rfl
  | some u =>
    obtain ⟨h1, h2, h3⟩ := h u hp
    rw [drop_at hp, qit, if_neg h1, if_neg h2, if_neg h3]

set_option maxRecDepth 20000 in
theorem q_kind (f g : Nat) (A : Option Addr) (cap : Nat) (bs : List UInt8) (p left : Nat) (dp : Int) (w : World) (h : QSt w g A cap bs p (left : Int) false) (hl : (left : Int) ≤ 4096) (h1 : (1 : Int) ≤ left) (hd : dp ≤ 12) (hk : ∀ u, bs[p]? = some u → u ≠ 1 ∧ u ≠ 2 ∧ u ≠ 3) :
    Calls Try.prog 23 #[.pointer (some ⟨g, 0, none⟩), .int .i64 dp] w (QItemAny f g A cap bs p left w) := by
  have hlt := h.lt
  obtain ⟨a0, a1, a2, a3, b1, b2, b3⟩ := h.row
  have H := Lib.hid h
  have HQ := Lib.hid (qit_kind (f := f) (left := left) hk)
  have HK := Lib.hid hk
  clear h a0 a1 hk
  go_enter Try.func23, Try.ntmps23
  go_wp2_with fail
  refine (byte_any g A cap bs p ((left : Int) - 1) _ ((H.out.setl _).keep fun q hq => Below.heap_alloc _ _ q (by simp; omega))).mono ?_
  rintro e w1 ⟨x, hx, rfl, hg, hor⟩
  have hrow : ∃ P bb, QSt w1 g A cap bs P ((left : Int) - 1) bb := by
    rcases hor with ⟨u', hu', _, hq⟩ | ⟨_, _, hq⟩
    · exact ⟨_, _, hq⟩
    · exact ⟨_, _, hq⟩
  have hkx : x ≠ 1 ∧ x ≠ 2 ∧ x ≠ 3 := by
    rcases hor with ⟨u, hu, hxu, _⟩ | ⟨_, h0, _⟩
    · obtain ⟨n1, n2, n3⟩ := HK.out u hu
      refine ⟨fun e => n1 ?_, fun e => n2 ?_, fun e => n3 ?_⟩ <;> exact UInt8.toNat_inj.1 (by rw [← hxu, e]; rfl)
    · omega
  obtain ⟨P, bb, hq2⟩ := hrow
  have k1 : ((x : Int) == 1) = false := by simp; omega
  have k2 : ((x : Int) == 2) = false := by simp; omega
  have k3 : ((x : Int) == 3) = false := by simp; omega
  have hlt1 := hq2.lt
  obtain ⟨a0, a1, a2', a3', b1', b2', b3'⟩ := hq2.row
  have hg1 : w.grownBy w1 (some g) := grownBy_trans (grownBy_set _ _ _ _) (grownBy_trans (World.grownBy_alloc _ _ _) hg)
  have hr : w1.heap[w.heap.size]? = some (.cells #[.int .i64 0, .int .i64 0, .string ⟨#[]⟩, .slice none 0 0] 26 (0, 0)) := (hg.block _ (by simp) (by simp; omega)).trans (by rw [show w.heap.size = (w.setCell ⟨g, 2, none⟩ (.int .i64 ((left : Int) - 1))).heap.size from by simp]; exact heap_alloc_new _ _)
  obtain ⟨r0, r1, r2, r3, q0, q1, q2, q3⟩ := row4 hr
  have hs1 : w.heap.size < w1.heap.size := (Array.getElem?_eq_some_iff.1 hr).1
  have hne : g ≠ w.heap.size := by omega
  have HQ2 := Lib.hid hq2
  have HG := Lib.hid hg1
  have HR := Lib.hid hr
  clear hq2 hg1 hor hg hr a0 a1 a2' a2 a3 b1 b2 b3 b1' b2' hkx
  go_wp2_with fail
  have hr' := (Below.heap_setCell w1 ⟨g, 3, none⟩ (.bool true) w.heap.size (by simp; omega)).trans HR.out
  obtain ⟨y0, y1, y2, y3⟩ := fin4 (w1.setCell ⟨g, 3, none⟩ (.bool true)) w.heap.size (.int .i64 x) (.int .i64 0) (.string ⟨#[]⟩) (.slice none 0 0) _ _ _ _ (.cells #[.int .i64 x, .int .i64 0, .string ⟨#[]⟩, .slice none 0 0] 26) hr'
  have hb := fin4_below (w1.setCell ⟨g, 3, none⟩ (.bool true)) w.heap.size w.heap.size (.int .i64 x) (.int .i64 0) (.string ⟨#[]⟩) (.slice none 0 0) (.cells #[.int .i64 x, .int .i64 0, .string ⟨#[]⟩, .slice none 0 0] 26) (Nat.le_refl _) (by simp; omega)
  refine bodyPost_ret (v := .agg #[.int .i64 x, .int .i64 0, .string ⟨#[]⟩, .slice none 0 0]) (by simp [results, Try.results23, go_sem, y0, y1, y2, y3]) rfl ?_
  exact q_none HQ.out (grownBy_belowB (grownBy_trans HG.out (grownBy_set _ _ _ _)) hb) ((HQ2.out.setb true).keep fun q hq => hb.block q (by omega))

theorem q_num_end {f g : Nat} {A : Option Addr} {cap : Nat} {bs : List UInt8} {p left n : Nat} {w w2 W : World} {z : Int} (hk : bs[p]? = some 1) (hn : n < 18446744073709551616) (hlt : g < w.heap.size) (hgg : w.grownBy w2 (some g)) (hbel : Below w.heap.size w2 W) (hz : z = unfoldZ n)
    (hor : (∃ r p', pcnt (bs.drop (p + 1)) = some (n, r) ∧ bs.drop p' = r ∧ QSt w2 g A cap bs p' (left : Int) false) ∨ (pcnt (bs.drop (p + 1)) = none ∧ ∃ p', QSt w2 g A cap bs p' (left : Int) true)) :
    QItemAny (f + 1) g A cap bs p (left + 1) w (.returned (.agg #[.int .i64 1, .int .i64 z, .string ⟨#[]⟩, .slice none 0 0])) W := by
  subst hz
  have hg := grownBy_belowB hgg hbel
  rcases hor with ⟨r, p', hp, hd, hq⟩ | ⟨hp, p', hq⟩
  · refine ⟨hg, _, _, _, _, rfl, ⟨⟨_, rfl⟩, ⟨_, rfl⟩, ⟨_, rfl⟩, ⟨_, _, _, rfl⟩⟩, .inl ⟨.mk 1 (unfoldZ n) ⟨#[]⟩ [], r, left, p', ?_, hd, hq.keep fun q hq => hbel.block q (by omega), ?_⟩⟩
    · rw [drop_at hk, qit, if_pos rfl, hp]
    · rw [IsIt]
      exact ⟨none, 0, rfl, ⟨by omega, by omega⟩, unfoldZ_range n hn, Nat.zero_le _, Nat.zero_le _, by rw [AreIts]; trivial⟩
  · refine q_none ?_ hg (hq.keep fun q hq => hbel.block q (by omega))
    rw [drop_at hk, qit, if_pos rfl, hp]

set_option maxRecDepth 20000 in
theorem q_num (f g : Nat) (A : Option Addr) (cap : Nat) (bs : List UInt8) (p left : Nat) (dp : Int) (w : World) (h : QSt w g A cap bs p ((left + 1 : Nat) : Int) false) (hl : (left : Int) < 4096) (hd : dp ≤ 12) (hk : bs[p]? = some 1) :
    Calls Try.prog 23 #[.pointer (some ⟨g, 0, none⟩), .int .i64 dp] w (QItemAny (f + 1) g A cap bs p (left + 1) w) := by
  have hlt := h.lt
  obtain ⟨a0, a1, a2, a3, b1, b2, b3⟩ := h.row
  rw [show ((left + 1 : Nat) : Int) = (left : Int) + 1 from by omega] at a2
  have H := Lib.hid h
  have HK := Lib.hid hk
  clear h a0 a1 hk
  go_enter Try.func23, Try.ntmps23
  go_wp2_with fail
  refine (byte_at g A cap bs p left 1 1 _ ((H.out.setl _).keep fun q hq => Below.heap_alloc _ _ q (by simp; omega)) HK.out rfl).mono ?_
  rintro e w1 ⟨rfl, hq1, hg⟩
  have hg1 : w.grownBy w1 (some g) := grownBy_trans (grownBy_set _ _ _ _) (grownBy_trans (World.grownBy_alloc _ _ _) hg)
  have hr : w1.heap[w.heap.size]? = some (.cells #[.int .i64 0, .int .i64 0, .string ⟨#[]⟩, .slice none 0 0] 26 (0, 0)) := (hg.block _ (by simp) (by simp; omega)).trans (by rw [show w.heap.size = (w.setCell ⟨g, 2, none⟩ (.int .i64 (left : Int))).heap.size from by simp]; exact heap_alloc_new _ _)
  have hs1 : w.heap.size < w1.heap.size := (Array.getElem?_eq_some_iff.1 hr).1
  have hlt1 := hq1.lt
  have HQ1 := Lib.hid hq1
  have HG1 := Lib.hid hg1
  have HR := Lib.hid hr
  clear hq1 hg1 hg hr a2 a3 b1 b2 b3
  go_wp2_with fail
  refine (count_q g A cap bs (p + 1) left _ (HQ1.out.keep fun q hq => Below.heap_alloc _ _ q (by omega))).mono ?_
  rintro e w2 ⟨n, hn, rfl, hg2, hor⟩
  obtain ⟨hR, hI⟩ := rows_item hlt (by omega) HR.out hg2
  obtain ⟨r0, r1, r2, r3, q0, q1, q2, q3⟩ := row4 hR
  obtain ⟨i0, i1, i2, i3, p0, p1, p2, p3⟩ := row4 hI
  have hgg : w.grownBy w2 (some g) := grownBy_trans HG1.out (grownBy_trans (World.grownBy_alloc _ _ _) hg2)
  have hs2 := hgg.size
  have hne : w.heap.size ≠ w1.heap.size := by omega
  have hnI : (n : Int) ≤ 18446744073709551615 := by omega
  have HGG := Lib.hid hgg
  have HOR := Lib.hid hor
  clear hg2 hR hI hgg hor
  by_cases hpar : (n : Int) % 2 = 1
  · go_wp2_with fail
    have hbel := (below_fin (w2.setCell ⟨w1.heap.size, 1, none⟩ (.int .i64 ((n : Int) / 2))) w.heap.size w.heap.size w1.heap.size 1 (.int .i64 (-((n : Int) / 2) - 1)) (.int .i64 1) (.int .i64 (-((n : Int) / 2) - 1)) (.string ⟨#[]⟩) (.slice none 0 0) (Nat.le_refl _) (by omega))
    have hbel2 := ((Below.refl w.heap.size w2).setCell (p := ⟨w1.heap.size, 1, none⟩) (by simp; omega) (.int .i64 ((n : Int) / 2))).trans hbel
    refine bodyPost_ret (v := .agg #[.int .i64 1, .int .i64 (-((n : Int) / 2) - 1), .string ⟨#[]⟩, .slice none 0 0]) (by simp [results, Try.results23, go_sem, r0, r1, r2, r3]) rfl ?_
    exact q_num_end HK.out hn hlt HGG.out hbel2 (by unfold unfoldZ; rw [if_neg (by omega)]; omega) HOR.out
  · have hp0 : (n : Int) % 2 = 0 := by omega
    go_wp2_with fail
    have hbel : Below w.heap.size w2 _ := below_fin w2 w.heap.size w.heap.size w1.heap.size 1 (.int .i64 ((n : Int) / 2)) (.int .i64 1) (.int .i64 ((n : Int) / 2)) (.string ⟨#[]⟩) (.slice none 0 0) (Nat.le_refl _) (by omega)
    refine bodyPost_ret (v := .agg #[.int .i64 1, .int .i64 ((n : Int) / 2), .string ⟨#[]⟩, .slice none 0 0]) (by simp [results, Try.results23, go_sem, r0, r1, r2, r3]) rfl ?_
    exact q_num_end HK.out hn hlt HGG.out hbel (by unfold unfoldZ; rw [if_pos (by omega)]; omega) HOR.out
end Go.Proofs.Ytnnakfhkejdfcaa
