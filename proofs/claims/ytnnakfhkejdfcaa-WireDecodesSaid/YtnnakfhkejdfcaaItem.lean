import Derived.Test.YtnnakfhkejdfcaaGrow
namespace Go.Proofs.Ytnnakfhkejdfcaa
open Go.RowKit Pl
set_option linter.unusedVariables false

/-- the blocks that a call has made -/
def NewB (w w' : World) (q : Nat) : Prop := w.heap.size ≤ q ∧ q < w'.heap.size

def ItemAny (f g : Nat) (bs : List UInt8) (left : Nat) (w : World) (e : Ending) (w' : World) : Prop :=
  (∀ t r left', pit f left bs = some (t, r, left') → ∃ v, e = .returned v ∧ IsIt w' (NewB w w') t v ∧ RSt w' g r left') ∧ (pit f left bs = none → e = .panicked RefPanic) ∧ w.grownBy w' (some g)
def ItemAll (f : Nat) : Prop := ∀ (g : Nat) (bs : List UInt8) (left : Nat) (dp : Int) (w : World), RSt w g bs left → left ≤ 4096 → 0 ≤ dp → dp + f = 13 → Calls Try.prog 21 #[.pointer (some ⟨g, 0, none⟩), .int .i64 dp] w (ItemAny f g bs left w)

def plist (f : Nat) (left : Nat) (bs : List UInt8) : Option (List It × List UInt8 × Nat) :=
  match pcnt bs with
  | none => none
  | some (n, r) => if left < n then none else pmany (pit f) n (left - n) r
def ListAny (f g : Nat) (bs : List UInt8) (left : Nat) (w : World) (e : Ending) (w' : World) : Prop :=
  (∀ l r left', plist f left bs = some (l, r, left') → ∃ A cap, e = .returned (.slice A l.length cap) ∧ l.length ≤ 4096 ∧ AreIts w' (NewB w w') l A 0 ∧ RSt w' g r left') ∧ (plist f left bs = none → e = .panicked RefPanic) ∧ w.grownBy w' (some g)
def ListAll (f : Nat) : Prop := ∀ (g : Nat) (bs : List UInt8) (left : Nat) (dp : Int) (w : World), RSt w g bs left → left ≤ 4096 → 0 ≤ dp → dp + f = 12 → Calls Try.prog 31 #[.pointer (some ⟨g, 0, none⟩), .int .i64 dp] w (ListAny f g bs left w)

theorem itemAny_no {f g : Nat} {bs : List UInt8} {left : Nat} {w w' : World} (h : pit f left bs = none) (hg : w.grownBy w' (some g)) : ItemAny f g bs left w (.panicked RefPanic) w' :=
  ⟨fun t r l h' => (by rw [h] at h'; cases h'), fun _ => rfl, hg⟩
theorem itemAny_yes {f g : Nat} {bs r : List UInt8} {left left' : Nat} {t : It} {v : Value} {w w' : World} (h : pit f left bs = some (t, r, left')) (hv : IsIt w' (NewB w w') t v) (hr : RSt w' g r left') (hg : w.grownBy w' (some g)) :
    ItemAny f g bs left w (.returned v) w' :=
  ⟨fun t' r' l' h' => (by rw [h] at h'; simp only [Option.some.injEq, Prod.mk.injEq] at h'; obtain ⟨rfl, rfl, rfl⟩ := h'; exact ⟨v, rfl, hv, hr⟩), fun h' => (by rw [h] at h'; cases h'), hg⟩

theorem RSt.keep {w w' : World} {g : Nat} {bs : List UInt8} {left : Nat} (h : RSt w g bs left) (hk : ∀ q, q ≤ g → w'.heap[q]? = w.heap[q]?) : RSt w' g bs left := by
  obtain ⟨A, cap, h1, h2, h3, h4⟩ := h
  exact ⟨A, cap, (hk g (Nat.le_refl _)).trans h1, h2, h3, h4.keep fun q hq => hk q (by omega)⟩
theorem RSt.lt {w : World} {g : Nat} {bs : List UInt8} {left : Nat} (h : RSt w g bs left) : g < w.heap.size := by
  obtain ⟨A, cap, h1, _⟩ := h
  exact (Array.getElem?_eq_some_iff.1 h1).1

theorem row4 {w : World} {b : Nat} {a0 a1 a2 a3 : Value} {t : TypeId} (h : w.heap[b]? = some (.cells #[a0, a1, a2, a3] t (0, 0))) :
    w.cell? ⟨b, 0, none⟩ = some a0 ∧ w.cell? ⟨b, 1, none⟩ = some a1 ∧ w.cell? ⟨b, 2, none⟩ = some a2 ∧ w.cell? ⟨b, 3, none⟩ = some a3 ∧
    w.frozen? ⟨b, 0, none⟩ = false ∧ w.frozen? ⟨b, 1, none⟩ = false ∧ w.frozen? ⟨b, 2, none⟩ = false ∧ w.frozen? ⟨b, 3, none⟩ = false :=
  ⟨cell_of_row w b 0 _ _ _ h, cell_of_row w b 1 _ _ _ h, cell_of_row w b 2 _ _ _ h, cell_of_row w b 3 _ _ _ h, by simp [World.frozen?, h], by simp [World.frozen?, h], by simp [World.frozen?, h], by simp [World.frozen?, h]⟩
theorem grownBy_belowB {a b c : World} {g : Nat} (h : a.grownBy b (some g)) (k : Below a.heap.size b c) : a.grownBy c (some g) :=
  ⟨k.os.trans h.os, k.tape.trans h.tape, k.output.trans h.output, Nat.le_trans h.size k.size, fun i hi hne => (k.block i hi).trans (h.block i hi hne)⟩

/-- the item's row behind the reader's steps, and the result's -/
theorem rows_item {w w1 w2 : World} {g : Nat} {a0 : Value} (hlt : g < w.heap.size) (hsz : w.heap.size + 1 ≤ w1.heap.size)
    (hx : w1.heap[w.heap.size]? = some (.cells #[.int .i64 0, .int .i64 0, .string ⟨#[]⟩, .slice none 0 0] 26 (0, 0)))
    (hg2 : (w1.alloc (.cells #[a0, .int .i64 0, .string ⟨#[]⟩, .slice none 0 0] 26)).grownBy w2 (some g)) :
    w2.heap[w.heap.size]? = some (.cells #[.int .i64 0, .int .i64 0, .string ⟨#[]⟩, .slice none 0 0] 26 (0, 0)) ∧ w2.heap[w1.heap.size]? = some (.cells #[a0, .int .i64 0, .string ⟨#[]⟩, .slice none 0 0] 26 (0, 0)) :=
  ⟨(hg2.block _ (by simp; omega) (by simp; omega)).trans ((Below.heap_alloc _ _ _ (by omega)).trans hx), (hg2.block _ (by simp) (by simp; omega)).trans (heap_alloc_new _ _)⟩

theorem below_fin (w2 : World) (B R I k : Nat) (x a0 a1 a2 a3 : Value) (hR : B ≤ R) (hI : B ≤ I) :
    Below B w2 (((((w2.setCell ⟨I, k, none⟩ x).setCell ⟨R, 0, none⟩ a0).setCell ⟨R, 1, none⟩ a1).setCell ⟨R, 2, none⟩ a2).setCell ⟨R, 3, none⟩ a3) :=
  (((((Below.refl B w2).setCell hI x).setCell hR a0).setCell hR a1).setCell hR a2).setCell hR a3

set_option maxRecDepth 20000 in
theorem item_deep (g : Nat) (bs : List UInt8) (left : Nat) (dp : Int) (w : World) (h : 12 < dp) : Calls Try.prog 21 #[.pointer (some ⟨g, 0, none⟩), .int .i64 dp] w (ItemAny 0 g bs left w) := by
  go_enter Try.func21, Try.ntmps21
  go_wp2_with (go_at_call 26; refine (refuse_any _ _).mono ?_; rintro e w' ⟨rfl, rfl⟩)
  exact ⟨rfl, itemAny_no rfl (World.grownBy_alloc _ _ _)⟩

set_option maxRecDepth 20000 in
theorem item_nil (f g left : Nat) (dp : Int) (w : World) (h : RSt w g [] left) (hd : dp ≤ 12) : Calls Try.prog 21 #[.pointer (some ⟨g, 0, none⟩), .int .i64 dp] w (ItemAny (f + 1) g [] left w) := by
  have hlt := h.lt
  go_enter Try.func21, Try.ntmps21
  go_wp2_with fail
  refine (take_no g [] left 1 _ (h.keep fun q hq => Below.heap_alloc _ _ q (by omega)) (by simp) (by omega)).mono ?_
  rintro e w1 ⟨rfl, hg⟩
  exact ⟨rfl, itemAny_no rfl (grownBy_trans (World.grownBy_alloc _ _ _) hg)⟩

set_option maxRecDepth 20000 in
theorem item_kind (f g left : Nat) (k : UInt8) (t : List UInt8) (dp : Int) (w : World) (h : RSt w g (k :: t) left) (hd : dp ≤ 12) (h1 : ((k.toNat : Int) == 1) = false) (h2 : ((k.toNat : Int) == 2) = false) (h3 : ((k.toNat : Int) == 3) = false) :
    Calls Try.prog 21 #[.pointer (some ⟨g, 0, none⟩), .int .i64 dp] w (ItemAny (f + 1) g (k :: t) left w) := by
  have hlt := h.lt
  have hk : (k.toNat : Int) ≤ 255 := by have := k.toNat_lt; omega
  go_enter Try.func21, Try.ntmps21
  go_wp2_with fail
  refine (take_yes g (k :: t) left 1 _ (h.keep fun q hq => Below.heap_alloc _ _ q (by omega)) (by simp)).mono ?_
  rintro e w1 ⟨A, cap, rfl, hb, hr, hg⟩
  obtain ⟨b, off, rfl, hlt2, hc⟩ := hb (by simp)
  have hc0 : w1.cell? ⟨b, off, none⟩ = some (.int .u8 (k.toNat : Int)) := hc 0 k rfl
  have HG := Lib.hid (grownBy_trans (World.grownBy_alloc _ _ _) hg : w.grownBy w1 (some g))
  clear hb hr hc hg
  go_wp2_with (go_at_call 26; refine (refuse_any _ _).mono ?_; rintro e w' ⟨rfl, rfl⟩)
  refine ⟨rfl, itemAny_no ?_ (grownBy_trans HG.out (World.grownBy_alloc _ _ _))⟩
  have n1 : ¬ k = 1 := fun e => by subst e; simp at h1
  have n2 : ¬ k = 2 := fun e => by subst e; simp at h2
  have n3 : ¬ k = 3 := fun e => by subst e; simp at h3
  rw [pit, if_neg n1, if_neg n2, if_neg n3]

set_option maxRecDepth 20000 in
theorem item_num (f g left : Nat) (t : List UInt8) (dp : Int) (w : World) (h : RSt w g (1 :: t) left) (hd : dp ≤ 12) :
    Calls Try.prog 21 #[.pointer (some ⟨g, 0, none⟩), .int .i64 dp] w (ItemAny (f + 1) g (1 :: t) left w) := by
  have hlt := h.lt
  go_enter Try.func21, Try.ntmps21
  go_wp2_with fail
  refine (take_yes g (1 :: t) left 1 _ (h.keep fun q hq => Below.heap_alloc _ _ q (by omega)) (by simp)).mono ?_
  rintro e w1 ⟨A, cap, rfl, hb, hr, hg⟩
  obtain ⟨b, off, rfl, hlt2, hc⟩ := hb (by simp)
  have hc0 : w1.cell? ⟨b, off, none⟩ = some (.int .u8 1) := hc 0 1 rfl
  have hg1 : w.grownBy w1 (some g) := grownBy_trans (World.grownBy_alloc _ _ _) hg
  have hx : w1.heap[w.heap.size]? = some (.cells #[.int .i64 0, .int .i64 0, .string ⟨#[]⟩, .slice none 0 0] 26 (0, 0)) := (hg.block _ (by simp) (by simp; omega)).trans (heap_alloc_new _ _)
  have hsz := hg.size
  have HG := Lib.hid hg1
  have HR := Lib.hid hr
  have HX := Lib.hid hx
  clear hb hr hc hg hg1 hx
  go_wp2_with fail
  have hlt1 := HR.out.lt
  refine (count_any g t left _ (HR.out.keep fun q hq => Below.heap_alloc _ _ q (by omega))).mono ?_
  rintro e w2 ⟨hy, hn, hg2⟩
  cases hp : pcnt t with
  | none =>
    obtain rfl := hn hp
    exact ⟨rfl, itemAny_no (by rw [pit, if_pos rfl, hp]) (grownBy_trans HG.out (grownBy_trans (World.grownBy_alloc _ _ _) hg2))⟩
  | some x =>
    obtain ⟨n, r⟩ := x
    obtain ⟨rfl, hr2⟩ := hy n r hp
    have hl := (of_pcnt hp).1
    have hsz' : w.heap.size + 1 ≤ w1.heap.size := by simpa using hsz
    obtain ⟨hR, hI⟩ := rows_item hlt hsz' HX.out hg2
    obtain ⟨r0, r1, r2, r3, q0, q1, q2, q3⟩ := row4 hR
    obtain ⟨i0, i1, i2, i3, p0, p1, p2, p3⟩ := row4 hI
    have hgg : w.grownBy w2 (some g) := grownBy_trans HG.out (grownBy_trans (World.grownBy_alloc _ _ _) hg2)
    have hs2 := hgg.size
    have hne : w.heap.size ≠ w1.heap.size := by omega
    have hpi : pit (f + 1) left (1 :: t) = some (.mk 1 (unfoldZ n) ⟨#[]⟩ [], r, left) := by rw [pit, if_pos rfl, hp]
    have hrg := unfoldZ_range n hl
    have hul : unfoldI (n : Int) = unfoldZ n := by unfold unfoldI unfoldZ; split <;> split <;> omega
    have HGG := Lib.hid hgg
    have HR2 := Lib.hid hr2
    have HPI := Lib.hid hpi
    have HRG := Lib.hid hrg
    have HUL := Lib.hid hul
    clear hy hn hp hr2 hg2 hR hI hgg hpi hrg hul h
    go_wp2_with (go_at_call 28; refine (unfold_any _ _ (by omega) (by omega)).mono ?_; rintro e w' ⟨rfl, rfl⟩)
    refine bodyPost_ret (v := .agg #[.int .i64 1, .int .i64 (unfoldI n), .string ⟨#[]⟩, .slice none 0 0]) (by simp [results, Try.results21, go_sem, r0, r1, r2, r3]) rfl ?_
    rw [HUL.out]
    have hbel : Below w.heap.size w2 _ := below_fin w2 w.heap.size w.heap.size w1.heap.size 1 (.int .i64 (unfoldZ n)) (.int .i64 1) (.int .i64 (unfoldZ n)) (.string ⟨#[]⟩) (.slice none 0 0) (Nat.le_refl _) (by omega)
    refine itemAny_yes HPI.out ?_ (HR2.out.keep fun q hq => hbel.block q (by omega)) (grownBy_belowB HGG.out hbel)
    rw [IsIt]
    exact ⟨none, 0, rfl, ⟨by omega, by omega⟩, HRG.out, Nat.zero_le _, Nat.zero_le _, by rw [AreIts]; trivial⟩

theorem pit_2 (f left : Nat) (t : List UInt8) : pit (f + 1) left (2 :: t) = (ptext t).map fun x => (.mk 2 0 x.1 [], x.2, left) := by
  rw [pit, if_neg (by decide), if_pos rfl, ptext]
  cases pcnt t with
  | none => rfl
  | some x =>
    obtain ⟨n, r⟩ := x
    simp only []
    by_cases h1 : 4096 < n
    · rw [if_pos h1, if_pos h1]; rfl
    rw [if_neg h1, if_neg h1]
    by_cases h2 : r.length < n
    · rw [if_pos h2, if_pos h2]; rfl
    rw [if_neg h2, if_neg h2]
    rfl
theorem pit_3 (f left : Nat) (t : List UInt8) : pit (f + 1) left (3 :: t) = (plist f left t).map fun x => (.mk 3 0 ⟨#[]⟩ x.1, x.2.1, x.2.2) := by
  rw [pit, if_neg (by decide), if_neg (by decide), if_pos rfl, plist]
  cases pcnt t with
  | none => rfl
  | some x =>
    obtain ⟨n, r⟩ := x
    simp only []
    by_cases h1 : left < n
    · rw [if_pos h1, if_pos h1]; rfl
    rw [if_neg h1, if_neg h1]
    cases pmany (pit f) n (left - n) r with
    | none => rfl
    | some y => obtain ⟨a, b, c⟩ := y; rfl
theorem ptext_size {bs r : List UInt8} {s : ByteArray} (h : ptext bs = some (s, r)) : s.size ≤ maxLen := by
  unfold ptext at h
  cases hp : pcnt bs with
  | none => rw [hp] at h; cases h
  | some x =>
    obtain ⟨n, r'⟩ := x
    rw [hp] at h
    simp only [] at h
    by_cases h1 : 4096 < n
    · rw [if_pos h1] at h; cases h
    rw [if_neg h1] at h
    by_cases h2 : r'.length < n
    · rw [if_pos h2] at h; cases h
    rw [if_neg h2] at h
    simp only [Option.some.injEq, Prod.mk.injEq] at h
    rw [← h.1, ← size_data]
    simp [maxLen]; omega

set_option maxRecDepth 20000 in
theorem item_text (f g left : Nat) (t : List UInt8) (dp : Int) (w : World) (h : RSt w g (2 :: t) left) (hd : dp ≤ 12) :
    Calls Try.prog 21 #[.pointer (some ⟨g, 0, none⟩), .int .i64 dp] w (ItemAny (f + 1) g (2 :: t) left w) := by
  have hlt := h.lt
  go_enter Try.func21, Try.ntmps21
  go_wp2_with fail
  refine (take_yes g (2 :: t) left 1 _ (h.keep fun q hq => Below.heap_alloc _ _ q (by omega)) (by simp)).mono ?_
  rintro e w1 ⟨A, cap, rfl, hb, hr, hg⟩
  obtain ⟨b, off, rfl, hlt2, hc⟩ := hb (by simp)
  have hc0 : w1.cell? ⟨b, off, none⟩ = some (.int .u8 2) := hc 0 2 rfl
  have hg1 : w.grownBy w1 (some g) := grownBy_trans (World.grownBy_alloc _ _ _) hg
  have hx : w1.heap[w.heap.size]? = some (.cells #[.int .i64 0, .int .i64 0, .string ⟨#[]⟩, .slice none 0 0] 26 (0, 0)) := (hg.block _ (by simp) (by simp; omega)).trans (heap_alloc_new _ _)
  have hsz := hg.size
  have HG := Lib.hid hg1
  have HR := Lib.hid hr
  have HX := Lib.hid hx
  clear hb hr hc hg hg1 hx
  go_wp2_with fail
  have hlt1 := HR.out.lt
  refine (text_any g t left _ (HR.out.keep fun q hq => Below.heap_alloc _ _ q (by omega))).mono ?_
  rintro e w2 ⟨hy, hn, hg2⟩
  cases hp : ptext t with
  | none =>
    obtain rfl := hn hp
    exact ⟨rfl, itemAny_no (by rw [pit_2, hp]; rfl) (grownBy_trans HG.out (grownBy_trans (World.grownBy_alloc _ _ _) hg2))⟩
  | some x =>
    obtain ⟨s, r⟩ := x
    obtain ⟨rfl, hr2⟩ := hy s r hp
    have hsz' : w.heap.size + 1 ≤ w1.heap.size := by simpa using hsz
    obtain ⟨hR, hI⟩ := rows_item hlt hsz' HX.out hg2
    obtain ⟨r0, r1, r2, r3, q0, q1, q2, q3⟩ := row4 hR
    obtain ⟨i0, i1, i2, i3, p0, p1, p2, p3⟩ := row4 hI
    have hgg : w.grownBy w2 (some g) := grownBy_trans HG.out (grownBy_trans (World.grownBy_alloc _ _ _) hg2)
    have hs2 := hgg.size
    have hne : w.heap.size ≠ w1.heap.size := by omega
    have hpi : pit (f + 1) left (2 :: t) = some (.mk 2 0 s [], r, left) := by rw [pit_2, hp]; rfl
    have hsl := ptext_size hp
    have HGG := Lib.hid hgg
    have HR2 := Lib.hid hr2
    have HPI := Lib.hid hpi
    have HSL := Lib.hid hsl
    clear hy hn hp hr2 hg2 hR hI hgg hpi h hsl
    go_wp2_with fail
    refine bodyPost_ret (v := .agg #[.int .i64 2, .int .i64 0, .string s, .slice none 0 0]) (by simp [results, Try.results21, go_sem, r0, r1, r2, r3]) rfl ?_
    have hbel : Below w.heap.size w2 _ := below_fin w2 w.heap.size w.heap.size w1.heap.size 2 (.string s) (.int .i64 2) (.int .i64 0) (.string s) (.slice none 0 0) (Nat.le_refl _) (by omega)
    refine itemAny_yes HPI.out ?_ (HR2.out.keep fun q hq => hbel.block q (by omega)) (grownBy_belowB HGG.out hbel)
    rw [IsIt]
    exact ⟨none, 0, rfl, ⟨by omega, by omega⟩, ⟨by omega, by omega⟩, HSL.out, Nat.zero_le _, by rw [AreIts]; trivial⟩

set_option maxRecDepth 20000 in
theorem item_list (f g left : Nat) (ih : ListAll f) (t : List UInt8) (dp : Int) (w : World) (h : RSt w g (3 :: t) left) (hl : left ≤ 4096) (hd0 : 0 ≤ dp) (hd : dp ≤ 12) (hf : dp + f = 12) :
    Calls Try.prog 21 #[.pointer (some ⟨g, 0, none⟩), .int .i64 dp] w (ItemAny (f + 1) g (3 :: t) left w) := by
  have HF := Lib.hid hf
  have HI := Lib.hid ih
  clear hf ih
  have hlt := h.lt
  go_enter Try.func21, Try.ntmps21
  go_wp2_with fail
  refine (take_yes g (3 :: t) left 1 _ (h.keep fun q hq => Below.heap_alloc _ _ q (by omega)) (by simp)).mono ?_
  rintro e w1 ⟨A, cap, rfl, hb, hr, hg⟩
  obtain ⟨b, off, rfl, hlt2, hc⟩ := hb (by simp)
  have hc0 : w1.cell? ⟨b, off, none⟩ = some (.int .u8 3) := hc 0 3 rfl
  have hg1 : w.grownBy w1 (some g) := grownBy_trans (World.grownBy_alloc _ _ _) hg
  have hx : w1.heap[w.heap.size]? = some (.cells #[.int .i64 0, .int .i64 0, .string ⟨#[]⟩, .slice none 0 0] 26 (0, 0)) := (hg.block _ (by simp) (by simp; omega)).trans (heap_alloc_new _ _)
  have hsz := hg.size
  have HG := Lib.hid hg1
  have HR := Lib.hid hr
  have HX := Lib.hid hx
  clear hb hr hc hg hg1 hx
  go_wp2_with fail
  have hlt1 := HR.out.lt
  refine (HI.out g t left dp _ (HR.out.keep fun q hq => Below.heap_alloc _ _ q (by omega)) hl hd0 HF.out).mono ?_
  rintro e w2 ⟨hy, hn, hg2⟩
  cases hp : plist f left t with
  | none =>
    obtain rfl := hn hp
    exact ⟨rfl, itemAny_no (by rw [pit_3, hp]; rfl) (grownBy_trans HG.out (grownBy_trans (World.grownBy_alloc _ _ _) hg2))⟩
  | some x =>
    obtain ⟨l, r, left'⟩ := x
    obtain ⟨AA, cc, rfl, hll, hal, hr2⟩ := hy l r left' hp
    have hsz' : w.heap.size + 1 ≤ w1.heap.size := by simpa using hsz
    obtain ⟨hR, hI⟩ := rows_item hlt hsz' HX.out hg2
    obtain ⟨r0, r1, r2, r3, q0, q1, q2, q3⟩ := row4 hR
    obtain ⟨i0, i1, i2, i3, p0, p1, p2, p3⟩ := row4 hI
    have hgg : w.grownBy w2 (some g) := grownBy_trans HG.out (grownBy_trans (World.grownBy_alloc _ _ _) hg2)
    have hs2 := hgg.size
    have hne : w.heap.size ≠ w1.heap.size := by omega
    have hpi : pit (f + 1) left (3 :: t) = some (.mk 3 0 ⟨#[]⟩ l, r, left') := by rw [pit_3, hp]; rfl
    have HGG := Lib.hid hgg
    have HR2 := Lib.hid hr2
    have HPI := Lib.hid hpi
    have HAL := Lib.hid hal
    clear hy hn hp hr2 hg2 hR hI hgg hpi h hal
    go_wp2_with fail
    refine bodyPost_ret (v := .agg #[.int .i64 3, .int .i64 0, .string ⟨#[]⟩, .slice AA l.length cc]) (by simp [results, Try.results21, go_sem, r0, r1, r2, r3]) rfl ?_
    have hbel : Below w.heap.size w2 _ := below_fin w2 w.heap.size w.heap.size w1.heap.size 3 (.slice AA l.length cc) (.int .i64 3) (.int .i64 0) (.string ⟨#[]⟩) (.slice AA l.length cc) (Nat.le_refl _) (by omega)
    refine itemAny_yes HPI.out ?_ (HR2.out.keep fun q hq => hbel.block q (by omega)) (grownBy_belowB HGG.out hbel)
    rw [IsIt]
    refine ⟨AA, cc, rfl, ⟨by omega, by omega⟩, ⟨by omega, by omega⟩, Nat.zero_le _, by simp only [maxLen]; omega, ?_⟩
    have hsB := hbel.size
    have hnew : ∀ q, NewB (w1.alloc (.cells #[.int .i64 3, .int .i64 0, .string ⟨#[]⟩, .slice none 0 0] 26)) w2 q → q ≠ w1.heap.size ∧ q ≠ w.heap.size ∧ w.heap.size ≤ q := by
      rintro q ⟨a1, a2⟩
      simp at a1
      omega
    refine AreIts.mono (fun q hq => ?_) l (AreIts.keep (fun q hq => ?_) l HAL.out)
    · exact ⟨(hnew q hq).2.2, Nat.lt_of_lt_of_le hq.2 hsB⟩
    · obtain ⟨n1, n2, _⟩ := hnew q hq
      rw [Below.heap_setCell _ _ _ _ n2, Below.heap_setCell _ _ _ _ n2, Below.heap_setCell _ _ _ _ n2, Below.heap_setCell _ _ _ _ n2, Below.heap_setCell _ _ _ _ n1]
end Go.Proofs.Ytnnakfhkejdfcaa
