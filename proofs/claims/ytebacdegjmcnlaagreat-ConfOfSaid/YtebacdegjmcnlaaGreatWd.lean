import Derived.Test.YtebacdegjmcnlaaGreatWc
import Derived.Lib.AppendZeros
import Derived.Maps.AppendAt
import Derived.Recover
namespace Go.Proofs.YtebacdegjmcnlaaGreat
open Go.RowKit Pl
set_option linter.unusedVariables false
theorem info26 : (Tryz.prog.info? 50).map (fun i => (i.zero, i.size, i.bytes)) = some (some (.agg #[.int .i64 0, .int .i64 0, .string ⟨#[]⟩, .slice none 0 0]), 4, 56) := by kernel_rfl
def GrowPost (w : World) (e : Ending) (w' : World) : Prop := ∃ v, e = .returned v ∧ w'.ownsRow w.heap.size 50 4 v 0 [] ∧ Below w.heap.size w w'
set_option maxRecDepth 20000 in
theorem grow_zero (w : World) : Calls Tryz.prog 113 #[.slice none 0 0, .int .i64 0] w (GrowPost w) := by
  go_enter Tryz.func113, Tryz.ntmps113
  go_wp2_with fail
  go_ret
  exact ⟨_, rfl, World.ownsRow_nil _ _ _ _, Below.refl _ _⟩
set_option maxRecDepth 20000 in
theorem grow_some (n : Nat) (w : World) (h0 : 0 < n) (h1 : n ≤ 4096) : Calls Tryz.prog 113 #[.slice none 0 0, .int .i64 n] w (GrowPost w) := by
  obtain ⟨i, hi, hz0, hz1, hz2⟩ := info_parts info26
  have hra := Lib.run_append_nil_zeros w 48 3 48 50 i _ .i64 .i64 Tryz.underlying48 Tryz.underlying3 hi hz0 n h0 (by omega) (by omega) (by rw [hz2]; omega)
  have HRA := Lib.hid hra
  clear hra
  have hge := grownCap_ge w n 0 50
  have hle := grownCap_le_maxLen w n 0 50 (by simp only [maxLen]; omega)
  have hown : (w.drew.alloc (.cells (Builtin.zeroCells (Value.agg #[.int .i64 0, .int .i64 0, .string ⟨#[]⟩, .slice none 0 0]).cells n ++ Builtin.zeroCells (Value.agg #[.int .i64 0, .int .i64 0, .string ⟨#[]⟩, .slice none 0 0]).cells (grownCap w n 0 50 - n)) 50)).ownsRow w.heap.size 50 4
      (.slice (some ⟨w.drew.heap.size, 0, none⟩) 0 (grownCap w n 0 50)) 0 [] :=
    World.ownsRow_made w.drew _ _ (Nat.le_refl _) hle (by simp [size_zeroCells, Value.cells]; omega)
  have HO := Lib.hid hown
  clear hown
  unfold maxLen at hle
  generalize grownCap w n 0 50 = C at *
  generalize Builtin.zeroCells (Value.agg #[.int .i64 0, .int .i64 0, .string ⟨#[]⟩, .slice none 0 0]).cells n ++ Builtin.zeroCells (Value.agg #[.int .i64 0, .int .i64 0, .string ⟨#[]⟩, .slice none 0 0]).cells (C - n) = X at *
  go_enter Tryz.func113, Tryz.ntmps113
  go_wp2_with (at_builtin; (refine Lib.wpList_append_run w rfl (.tmp 20) (.tmp 21) 48 3 rfl _ _ rfl rfl _ _ HRA.out ?_))
  go_ret
  exact ⟨_, rfl, HO.out, ((Below.refl _ _).alloc (Nat.le_refl _) _).drew⟩
theorem grow_any (n : Int) (w : World) (h0 : 0 ≤ n) (h1 : n ≤ 4096) : Calls Tryz.prog 113 #[.slice none 0 0, .int .i64 n] w (GrowPost w) := by
  obtain ⟨m, rfl⟩ := Int.eq_ofNat_of_zero_le h0
  by_cases hm : m = 0
  · subst hm; exact grow_zero w
  · exact grow_some m w (by omega) (by omega)
/-- the four cells of each stand for the trees -/
def ItsIn (w : World) (S : Nat → Prop) : List It → List Value → Prop
  | [], us => us = []
  | x :: r, us => ∃ u0 u1 u2 u3 us', us = u0 :: u1 :: u2 :: u3 :: us' ∧ IsIt w S x (.agg #[u0, u1, u2, u3]) ∧ ItsIn w S r us'
theorem ItsIn.snoc {w : World} {S : Nat → Prop} {x : It} {u0 u1 u2 u3 : Value} (hx : IsIt w S x (.agg #[u0, u1, u2, u3])) : ∀ {ts : List It} {us : List Value}, ItsIn w S ts us → ItsIn w S (ts ++ [x]) (us ++ [u0, u1, u2, u3])
  | [], us, h => by
    rw [ItsIn] at h
    subst h
    exact ⟨u0, u1, u2, u3, [], rfl, hx, rfl⟩
  | y :: r, us, h => by
    rw [ItsIn] at h
    obtain ⟨a0, a1, a2, a3, us', rfl, h1, h2⟩ := h
    exact ⟨a0, a1, a2, a3, us' ++ [u0, u1, u2, u3], rfl, h1, ItsIn.snoc hx h2⟩
theorem ItsIn.keep {w w' : World} {S S' : Nat → Prop} (hk : ∀ q, S q → w'.heap[q]? = w.heap[q]?) (hm : ∀ q, S q → S' q) : ∀ {ts : List It} {us : List Value}, ItsIn w S ts us → ItsIn w' S' ts us
  | [], us, h => h
  | y :: r, us, h => by
    rw [ItsIn] at h
    obtain ⟨a0, a1, a2, a3, us', rfl, h1, h2⟩ := h
    exact ⟨a0, a1, a2, a3, us', rfl, IsIt.mono hm y (IsIt.keep hk y h1), ItsIn.keep hk hm h2⟩
theorem ItsIn.are {w : World} {S : Nat → Prop} {b : Nat} (hb : S b) : ∀ {ts : List It} {us : List Value} {i : Nat}, ItsIn w S ts us → (∀ j u, us[j]? = some u → w.cell? ⟨b, i * 4 + j, none⟩ = some u) → AreIts w S ts (some ⟨b, 0, none⟩) i
  | [], us, i, h, hc => by rw [AreIts]; trivial
  | y :: r, us, i, h, hc => by
    rw [ItsIn] at h
    obtain ⟨a0, a1, a2, a3, us', rfl, h1, h2⟩ := h
    rw [AreIts]
    refine ⟨⟨b, 0, a0, a1, a2, a3, rfl, hb, ?_, ?_, ?_, ?_, h1⟩, ItsIn.are hb h2 fun j u hu => ?_⟩
    · simpa using hc 0 a0 rfl
    · simpa using hc 1 a1 rfl
    · simpa using hc 2 a2 rfl
    · simpa using hc 3 a3 rfl
    · have := hc (j + 4) u (by simpa using hu)
      rwa [show (i + 1) * 4 + j = i * 4 + (j + 4) from by omega]
theorem ownsRow_base {w : World} {b b' : Nat} {e : TypeId} {size n : Nat} {v : Value} {xs : List Value} (h : w.ownsRow b e size v n xs) (hb : b' ≤ b) : w.ownsRow b' e size v n xs := by
  refine ⟨h.1, ?_⟩
  rcases h.2 with hn | ⟨g, cap, cur, r1, r2, r3⟩
  · exact .inl hn
  · exact .inr ⟨g, cap, cur, r1, Nat.le_trans hb r2, r3⟩
theorem ownsRow_keep {w w' : World} {b : Nat} {e : TypeId} {size n : Nat} {v : Value} {xs : List Value} (h : w.ownsRow b e size v n xs) (hk : ∀ q, v.ownBlock = some q → w'.heap[q]? = w.heap[q]?) : w'.ownsRow b e size v n xs := by
  refine ⟨h.1, ?_⟩
  rcases h.2 with hn | ⟨g, cap, cur, rfl, r2, r3, r4⟩
  · exact .inl hn
  · exact .inr ⟨g, cap, cur, rfl, r2, (hk g rfl).trans r3, r4⟩
/-- append of one item, that stands in four cells -/
theorem wp_app4 {ops : Array Oper} {rest : List Oper} {o : Oper} {a : Act} {Q : Exit → Act → World → Prop} {w : World} (hgd : o.guard = none) (s x : Operand)
    (ho : o.op = .call { callee := .builtin .append, args := #[s, x], argTypes := #[48, 48] })
    (base : Nat) (v : Value) (n : Nat) (xs : List Value) (hs : a.eval s = v) (hown : w.ownsRow base 50 4 v n xs) (ad : Addr) (c : Nat) (hx : a.eval x = .slice (some ad) 1 c)
    (u0 u1 u2 u3 : Value) (k0 : w.cell? ad = some u0) (k1 : w.cell? (ad.add 1) = some u1) (k2 : w.cell? (ad.add 2) = some u2) (k3 : w.cell? (ad.add 3) = some u3)
    (o0 : u0.oneCell' = true) (o1 : u1.oneCell' = true) (o2 : u2.oneCell' = true) (o3 : u3.oneCell' = true) (hlen : n ≤ 4096) (hbase : base ≤ w.heap.size)
    (h : ∀ v' w', w'.ownsRow base 50 4 v' (n + 1) (xs ++ [u0, u1, u2, u3]) → w.grownBy w' v.ownBlock → (v'.ownBlock = v.ownBlock ∨ v'.ownBlock = some w.heap.size) → wpList Tryz.prog ops Q rest (a.put o.dst v') w') : wpList Tryz.prog ops Q (o :: rest) a w := by
  obtain ⟨i, hi, hz0, hz1, hz2⟩ := info_parts info26
  obtain ⟨v', w', hrun, h2, h3, _, h5⟩ := run_append_own_at (P := Tryz.prog) w base 48 o.type 50 i _ 4 56 Tryz.underlying48 hi hz0 hz1 hz2 rfl (by omega) v n xs hown ad 1 c [u0, u1, u2, u3] rfl
    (fun j u hu => by
      match j, hu with
      | 0, hu => simp at hu; subst hu; simpa [Addr.add] using k0
      | 1, hu => simp at hu; subst hu; exact k1
      | 2, hu => simp at hu; subst hu; exact k2
      | 3, hu => simp at hu; subst hu; exact k3
      | j + 4, hu => simp at hu)
    (fun u hu => by
      simp only [List.mem_cons, List.not_mem_nil, or_false] at hu
      rcases hu with rfl | rfl | rfl | rfl <;> assumption)
    (by simp only [maxLen]; omega) (by omega) hbase
  exact Lib.wpList_append_run w hgd s x 48 48 ho v _ hs hx v' w' hrun (h v' w' h2 h3 h5)
end Go.Proofs.YtebacdegjmcnlaaGreat
namespace Go.Proofs.YtebacdegjmcnlaaGreat
open Go.RowKit Pl
set_option linter.unusedVariables false
/-- the blocks that a call has made -/
def NewB (w w' : World) (q : Nat) : Prop := w.heap.size ≤ q ∧ q < w'.heap.size
def ItemAny (f g : Nat) (bs : List UInt8) (left : Nat) (w : World) (e : Ending) (w' : World) : Prop :=
  (∀ t r left', pit f left bs = some (t, r, left') → ∃ v, e = .returned v ∧ IsIt w' (NewB w w') t v ∧ RSt w' g r left') ∧ (pit f left bs = none → e = .panicked RefPanic) ∧ w.grownBy w' (some g)
def ItemAll (f : Nat) : Prop := ∀ (g : Nat) (bs : List UInt8) (left : Nat) (dp : Int) (w : World), RSt w g bs left → left ≤ 4096 → 0 ≤ dp → dp + f = 13 → Calls Tryz.prog 86 #[.pointer (some ⟨g, 0, none⟩), .int .i64 dp] w (ItemAny f g bs left w)
def plist (f : Nat) (left : Nat) (bs : List UInt8) : Option (List It × List UInt8 × Nat) :=
  match pcnt bs with
  | none => none
  | some (n, r) => if left < n then none else pmany (pit f) n (left - n) r
def ListAny (f g : Nat) (bs : List UInt8) (left : Nat) (w : World) (e : Ending) (w' : World) : Prop :=
  (∀ l r left', plist f left bs = some (l, r, left') → ∃ A cap, e = .returned (.slice A l.length cap) ∧ l.length ≤ 4096 ∧ AreIts w' (NewB w w') l A 0 ∧ RSt w' g r left') ∧ (plist f left bs = none → e = .panicked RefPanic) ∧ w.grownBy w' (some g)
def ListAll (f : Nat) : Prop := ∀ (g : Nat) (bs : List UInt8) (left : Nat) (dp : Int) (w : World), RSt w g bs left → left ≤ 4096 → 0 ≤ dp → dp + f = 12 → Calls Tryz.prog 108 #[.pointer (some ⟨g, 0, none⟩), .int .i64 dp] w (ListAny f g bs left w)
theorem itemAny_no {f g : Nat} {bs : List UInt8} {left : Nat} {w w' : World} (h : pit f left bs = none) (hg : w.grownBy w' (some g)) : ItemAny f g bs left w (.panicked RefPanic) w' :=
  ⟨fun t r l h' => (by rw [h] at h'; cases h'), fun _ => rfl, hg⟩
theorem itemAny_yes {f g : Nat} {bs r : List UInt8} {left left' : Nat} {t : It} {v : Value} {w w' : World} (h : pit f left bs = some (t, r, left')) (hv : IsIt w' (NewB w w') t v) (hr : RSt w' g r left') (hg : w.grownBy w' (some g)) :
    ItemAny f g bs left w (.returned v) w' :=
  ⟨fun t' r' l' h' => (by rw [h] at h'; simp only [Option.some.injEq, Prod.mk.injEq] at h'; obtain ⟨rfl, rfl, rfl⟩ := h'; exact ⟨v, rfl, hv, hr⟩), fun h' => (by rw [h] at h'; cases h'), hg⟩
theorem RSt.keep {w w' : World} {g : Nat} {bs : List UInt8} {left : Nat} (h : RSt w g bs left) (hk : ∀ q, q ≤ g → w'.heap[q]? = w.heap[q]?) : RSt w' g bs left := by
  obtain ⟨A, cap, h1, h2, h3, h4⟩ := h
  exact ⟨A, cap, (hk g (Nat.le_refl _)).trans h1, h2, h3, h4.keep fun q hq => hk q (by omega)⟩
theorem RSt.lt {w : World} {g : Nat} {bs : List UInt8} {left : Nat} (h : RSt w g bs left) : g < w.heap.size := by
  obtain ⟨A, cap, h1, _⟩ := h
  exact (Array.getElem?_eq_some_iff.1 h1).1
theorem row4 {w : World} {b : Nat} {a0 a1 a2 a3 : Value} {t : TypeId} (h : w.heap[b]? = some (.cells #[a0, a1, a2, a3] t (0, 0))) :
    w.cell? ⟨b, 0, none⟩ = some a0 ∧ w.cell? ⟨b, 1, none⟩ = some a1 ∧ w.cell? ⟨b, 2, none⟩ = some a2 ∧ w.cell? ⟨b, 3, none⟩ = some a3 ∧
    w.frozen? ⟨b, 0, none⟩ = false ∧ w.frozen? ⟨b, 1, none⟩ = false ∧ w.frozen? ⟨b, 2, none⟩ = false ∧ w.frozen? ⟨b, 3, none⟩ = false :=
  ⟨cell_of_row w b 0 _ _ _ h, cell_of_row w b 1 _ _ _ h, cell_of_row w b 2 _ _ _ h, cell_of_row w b 3 _ _ _ h, by simp [World.frozen?, h], by simp [World.frozen?, h], by simp [World.frozen?, h], by simp [World.frozen?, h]⟩
theorem grownBy_belowB {a b c : World} {g : Nat} (h : a.grownBy b (some g)) (k : Below a.heap.size b c) : a.grownBy c (some g) :=
  ⟨k.os.trans h.os, k.tape.trans h.tape, k.output.trans h.output, Nat.le_trans h.size k.size, fun i hi hne => (k.block i hi).trans (h.block i hi hne)⟩
/-- the item's row behind the reader's steps, and the result's -/
theorem rows_item {w w1 w2 : World} {g : Nat} {a0 : Value} (hlt : g < w.heap.size) (hsz : w.heap.size + 1 ≤ w1.heap.size)
    (hx : w1.heap[w.heap.size]? = some (.cells #[.int .i64 0, .int .i64 0, .string ⟨#[]⟩, .slice none 0 0] 50 (0, 0)))
    (hg2 : (w1.alloc (.cells #[a0, .int .i64 0, .string ⟨#[]⟩, .slice none 0 0] 50)).grownBy w2 (some g)) :
    w2.heap[w.heap.size]? = some (.cells #[.int .i64 0, .int .i64 0, .string ⟨#[]⟩, .slice none 0 0] 50 (0, 0)) ∧ w2.heap[w1.heap.size]? = some (.cells #[a0, .int .i64 0, .string ⟨#[]⟩, .slice none 0 0] 50 (0, 0)) :=
  ⟨(hg2.block _ (by simp; omega) (by simp; omega)).trans ((Below.heap_alloc _ _ _ (by omega)).trans hx), (hg2.block _ (by simp) (by simp; omega)).trans (heap_alloc_new _ _)⟩
theorem below_fin (w2 : World) (B R I k : Nat) (x a0 a1 a2 a3 : Value) (hR : B ≤ R) (hI : B ≤ I) :
    Below B w2 (((((w2.setCell ⟨I, k, none⟩ x).setCell ⟨R, 0, none⟩ a0).setCell ⟨R, 1, none⟩ a1).setCell ⟨R, 2, none⟩ a2).setCell ⟨R, 3, none⟩ a3) :=
  (((((Below.refl B w2).setCell hI x).setCell hR a0).setCell hR a1).setCell hR a2).setCell hR a3
set_option maxRecDepth 20000 in
theorem item_deep (g : Nat) (bs : List UInt8) (left : Nat) (dp : Int) (w : World) (h : 12 < dp) : Calls Tryz.prog 86 #[.pointer (some ⟨g, 0, none⟩), .int .i64 dp] w (ItemAny 0 g bs left w) := by
  go_enter Tryz.func86, Tryz.ntmps86
  go_wp2_with (go_at_call 103; refine (refuse_any _ _).mono ?_; rintro e w' ⟨rfl, rfl⟩)
  exact ⟨rfl, itemAny_no rfl (World.grownBy_alloc _ _ _)⟩
set_option maxRecDepth 20000 in
theorem item_nil (f g left : Nat) (dp : Int) (w : World) (h : RSt w g [] left) (hd : dp ≤ 12) : Calls Tryz.prog 86 #[.pointer (some ⟨g, 0, none⟩), .int .i64 dp] w (ItemAny (f + 1) g [] left w) := by
  have hlt := h.lt
  go_enter Tryz.func86, Tryz.ntmps86
  go_wp2_with fail
  refine (take_no g [] left 1 _ (h.keep fun q hq => Below.heap_alloc _ _ q (by omega)) (by simp) (by omega)).mono ?_
  rintro e w1 ⟨rfl, hg⟩
  exact ⟨rfl, itemAny_no rfl (grownBy_trans (World.grownBy_alloc _ _ _) hg)⟩
set_option maxRecDepth 20000 in
theorem item_kind (f g left : Nat) (k : UInt8) (t : List UInt8) (dp : Int) (w : World) (h : RSt w g (k :: t) left) (hd : dp ≤ 12) (h1 : ((k.toNat : Int) == 1) = false) (h2 : ((k.toNat : Int) == 2) = false) (h3 : ((k.toNat : Int) == 3) = false) :
    Calls Tryz.prog 86 #[.pointer (some ⟨g, 0, none⟩), .int .i64 dp] w (ItemAny (f + 1) g (k :: t) left w) := by
  have hlt := h.lt
  have hk : (k.toNat : Int) ≤ 255 := by have := k.toNat_lt; omega
  go_enter Tryz.func86, Tryz.ntmps86
  go_wp2_with fail
  refine (take_yes g (k :: t) left 1 _ (h.keep fun q hq => Below.heap_alloc _ _ q (by omega)) (by simp)).mono ?_
  rintro e w1 ⟨A, cap, rfl, hb, hr, hg⟩
  obtain ⟨b, off, rfl, hlt2, hc⟩ := hb (by simp)
  have hc0 : w1.cell? ⟨b, off, none⟩ = some (.int .u8 (k.toNat : Int)) := hc 0 k rfl
  have HG := Lib.hid (grownBy_trans (World.grownBy_alloc _ _ _) hg : w.grownBy w1 (some g))
  clear hb hr hc hg
  go_wp2_with (go_at_call 103; refine (refuse_any _ _).mono ?_; rintro e w' ⟨rfl, rfl⟩)
  refine ⟨rfl, itemAny_no ?_ (grownBy_trans HG.out (World.grownBy_alloc _ _ _))⟩
  have n1 : ¬ k = 1 := fun e => by subst e; simp at h1
  have n2 : ¬ k = 2 := fun e => by subst e; simp at h2
  have n3 : ¬ k = 3 := fun e => by subst e; simp at h3
  rw [pit, if_neg n1, if_neg n2, if_neg n3]
set_option maxRecDepth 20000 in
theorem item_num (f g left : Nat) (t : List UInt8) (dp : Int) (w : World) (h : RSt w g (1 :: t) left) (hd : dp ≤ 12) :
    Calls Tryz.prog 86 #[.pointer (some ⟨g, 0, none⟩), .int .i64 dp] w (ItemAny (f + 1) g (1 :: t) left w) := by
  have hlt := h.lt
  go_enter Tryz.func86, Tryz.ntmps86
  go_wp2_with fail
  refine (take_yes g (1 :: t) left 1 _ (h.keep fun q hq => Below.heap_alloc _ _ q (by omega)) (by simp)).mono ?_
  rintro e w1 ⟨A, cap, rfl, hb, hr, hg⟩
  obtain ⟨b, off, rfl, hlt2, hc⟩ := hb (by simp)
  have hc0 : w1.cell? ⟨b, off, none⟩ = some (.int .u8 1) := hc 0 1 rfl
  have hg1 : w.grownBy w1 (some g) := grownBy_trans (World.grownBy_alloc _ _ _) hg
  have hx : w1.heap[w.heap.size]? = some (.cells #[.int .i64 0, .int .i64 0, .string ⟨#[]⟩, .slice none 0 0] 50 (0, 0)) := (hg.block _ (by simp) (by simp; omega)).trans (heap_alloc_new _ _)
  have hsz := hg.size
  have HG := Lib.hid hg1
  have HR := Lib.hid hr
  have HX := Lib.hid hx
  clear hb hr hc hg hg1 hx
  go_wp2_with fail
  have hlt1 := HR.out.lt
  refine (count_any g t left _ (HR.out.keep fun q hq => Below.heap_alloc _ _ q (by omega))).mono ?_
  rintro e w2 ⟨hy, hn, hg2⟩
  cases hp : pcnt t with
  | none =>
    obtain rfl := hn hp
    exact ⟨rfl, itemAny_no (by rw [pit, if_pos rfl, hp]) (grownBy_trans HG.out (grownBy_trans (World.grownBy_alloc _ _ _) hg2))⟩
  | some x =>
    obtain ⟨n, r⟩ := x
    obtain ⟨rfl, hr2⟩ := hy n r hp
    have hl := (of_pcnt hp).1
    have hsz' : w.heap.size + 1 ≤ w1.heap.size := by simpa using hsz
    obtain ⟨hR, hI⟩ := rows_item hlt hsz' HX.out hg2
    obtain ⟨r0, r1, r2, r3, q0, q1, q2, q3⟩ := row4 hR
    obtain ⟨i0, i1, i2, i3, p0, p1, p2, p3⟩ := row4 hI
    have hgg : w.grownBy w2 (some g) := grownBy_trans HG.out (grownBy_trans (World.grownBy_alloc _ _ _) hg2)
    have hs2 := hgg.size
    have hne : w.heap.size ≠ w1.heap.size := by omega
    have hpi : pit (f + 1) left (1 :: t) = some (.mk 1 (unfoldZ n) ⟨#[]⟩ [], r, left) := by rw [pit, if_pos rfl, hp]
    have hrg := unfoldZ_range n hl
    have hul : unfoldI (n : Int) = unfoldZ n := by unfold unfoldI unfoldZ; split <;> split <;> omega
    have HGG := Lib.hid hgg
    have HR2 := Lib.hid hr2
    have HPI := Lib.hid hpi
    have HRG := Lib.hid hrg
    have HUL := Lib.hid hul
    clear hy hn hp hr2 hg2 hR hI hgg hpi hrg hul h
    go_wp2_with (go_at_call 105; refine (unfold_any _ _ (by omega) (by omega)).mono ?_; rintro e w' ⟨rfl, rfl⟩)
    refine bodyPost_ret (v := .agg #[.int .i64 1, .int .i64 (unfoldI n), .string ⟨#[]⟩, .slice none 0 0]) (by simp [results, Tryz.results86, go_sem, r0, r1, r2, r3]) rfl ?_
    rw [HUL.out]
    have hbel : Below w.heap.size w2 _ := below_fin w2 w.heap.size w.heap.size w1.heap.size 1 (.int .i64 (unfoldZ n)) (.int .i64 1) (.int .i64 (unfoldZ n)) (.string ⟨#[]⟩) (.slice none 0 0) (Nat.le_refl _) (by omega)
    refine itemAny_yes HPI.out ?_ (HR2.out.keep fun q hq => hbel.block q (by omega)) (grownBy_belowB HGG.out hbel)
    rw [IsIt]
    exact ⟨none, 0, rfl, ⟨by omega, by omega⟩, HRG.out, Nat.zero_le _, Nat.zero_le _, by rw [AreIts]; trivial⟩
theorem pit_2 (f left : Nat) (t : List UInt8) : pit (f + 1) left (2 :: t) = (ptext t).map fun x => (.mk 2 0 x.1 [], x.2, left) := by
  rw [pit, if_neg (by decide), if_pos rfl, ptext]
  cases pcnt t with
  | none => rfl
  | some x =>
    obtain ⟨n, r⟩ := x
    simp only []
    by_cases h1 : 4096 < n
    · rw [if_pos h1, if_pos h1]; rfl
    rw [if_neg h1, if_neg h1]
    by_cases h2 : r.length < n
    · rw [if_pos h2, if_pos h2]; rfl
    rw [if_neg h2, if_neg h2]
    rfl
theorem pit_3 (f left : Nat) (t : List UInt8) : pit (f + 1) left (3 :: t) = (plist f left t).map fun x => (.mk 3 0 ⟨#[]⟩ x.1, x.2.1, x.2.2) := by
  rw [pit, if_neg (by decide), if_neg (by decide), if_pos rfl, plist]
  cases pcnt t with
  | none => rfl
  | some x =>
    obtain ⟨n, r⟩ := x
    simp only []
    by_cases h1 : left < n
    · rw [if_pos h1, if_pos h1]; rfl
    rw [if_neg h1, if_neg h1]
    cases pmany (pit f) n (left - n) r with
    | none => rfl
    | some y => obtain ⟨a, b, c⟩ := y; rfl
theorem ptext_size {bs r : List UInt8} {s : ByteArray} (h : ptext bs = some (s, r)) : s.size ≤ maxLen := by
  unfold ptext at h
  cases hp : pcnt bs with
  | none => rw [hp] at h; cases h
  | some x =>
    obtain ⟨n, r'⟩ := x
    rw [hp] at h
    simp only [] at h
    by_cases h1 : 4096 < n
    · rw [if_pos h1] at h; cases h
    rw [if_neg h1] at h
    by_cases h2 : r'.length < n
    · rw [if_pos h2] at h; cases h
    rw [if_neg h2] at h
    simp only [Option.some.injEq, Prod.mk.injEq] at h
    rw [← h.1, ← size_data]
    simp [maxLen]; omega
set_option maxRecDepth 20000 in
theorem item_text (f g left : Nat) (t : List UInt8) (dp : Int) (w : World) (h : RSt w g (2 :: t) left) (hd : dp ≤ 12) :
    Calls Tryz.prog 86 #[.pointer (some ⟨g, 0, none⟩), .int .i64 dp] w (ItemAny (f + 1) g (2 :: t) left w) := by
  have hlt := h.lt
  go_enter Tryz.func86, Tryz.ntmps86
  go_wp2_with fail
  refine (take_yes g (2 :: t) left 1 _ (h.keep fun q hq => Below.heap_alloc _ _ q (by omega)) (by simp)).mono ?_
  rintro e w1 ⟨A, cap, rfl, hb, hr, hg⟩
  obtain ⟨b, off, rfl, hlt2, hc⟩ := hb (by simp)
  have hc0 : w1.cell? ⟨b, off, none⟩ = some (.int .u8 2) := hc 0 2 rfl
  have hg1 : w.grownBy w1 (some g) := grownBy_trans (World.grownBy_alloc _ _ _) hg
  have hx : w1.heap[w.heap.size]? = some (.cells #[.int .i64 0, .int .i64 0, .string ⟨#[]⟩, .slice none 0 0] 50 (0, 0)) := (hg.block _ (by simp) (by simp; omega)).trans (heap_alloc_new _ _)
  have hsz := hg.size
  have HG := Lib.hid hg1
  have HR := Lib.hid hr
  have HX := Lib.hid hx
  clear hb hr hc hg hg1 hx
  go_wp2_with fail
  have hlt1 := HR.out.lt
  refine (text_any g t left _ (HR.out.keep fun q hq => Below.heap_alloc _ _ q (by omega))).mono ?_
  rintro e w2 ⟨hy, hn, hg2⟩
  cases hp : ptext t with
  | none =>
    obtain rfl := hn hp
    exact ⟨rfl, itemAny_no (by rw [pit_2, hp]; rfl) (grownBy_trans HG.out (grownBy_trans (World.grownBy_alloc _ _ _) hg2))⟩
  | some x =>
    obtain ⟨s, r⟩ := x
    obtain ⟨rfl, hr2⟩ := hy s r hp
    have hsz' : w.heap.size + 1 ≤ w1.heap.size := by simpa using hsz
    obtain ⟨hR, hI⟩ := rows_item hlt hsz' HX.out hg2
    obtain ⟨r0, r1, r2, r3, q0, q1, q2, q3⟩ := row4 hR
    obtain ⟨i0, i1, i2, i3, p0, p1, p2, p3⟩ := row4 hI
    have hgg : w.grownBy w2 (some g) := grownBy_trans HG.out (grownBy_trans (World.grownBy_alloc _ _ _) hg2)
    have hs2 := hgg.size
    have hne : w.heap.size ≠ w1.heap.size := by omega
    have hpi : pit (f + 1) left (2 :: t) = some (.mk 2 0 s [], r, left) := by rw [pit_2, hp]; rfl
    have hsl := ptext_size hp
    have HGG := Lib.hid hgg
    have HR2 := Lib.hid hr2
    have HPI := Lib.hid hpi
    have HSL := Lib.hid hsl
    clear hy hn hp hr2 hg2 hR hI hgg hpi h hsl
    go_wp2_with fail
    refine bodyPost_ret (v := .agg #[.int .i64 2, .int .i64 0, .string s, .slice none 0 0]) (by simp [results, Tryz.results86, go_sem, r0, r1, r2, r3]) rfl ?_
    have hbel : Below w.heap.size w2 _ := below_fin w2 w.heap.size w.heap.size w1.heap.size 2 (.string s) (.int .i64 2) (.int .i64 0) (.string s) (.slice none 0 0) (Nat.le_refl _) (by omega)
    refine itemAny_yes HPI.out ?_ (HR2.out.keep fun q hq => hbel.block q (by omega)) (grownBy_belowB HGG.out hbel)
    rw [IsIt]
    exact ⟨none, 0, rfl, ⟨by omega, by omega⟩, ⟨by omega, by omega⟩, HSL.out, Nat.zero_le _, by rw [AreIts]; trivial⟩
set_option maxRecDepth 20000 in
theorem item_list (f g left : Nat) (ih : ListAll f) (t : List UInt8) (dp : Int) (w : World) (h : RSt w g (3 :: t) left) (hl : left ≤ 4096) (hd0 : 0 ≤ dp) (hd : dp ≤ 12) (hf : dp + f = 12) :
    Calls Tryz.prog 86 #[.pointer (some ⟨g, 0, none⟩), .int .i64 dp] w (ItemAny (f + 1) g (3 :: t) left w) := by
  have HF := Lib.hid hf
  have HI := Lib.hid ih
  clear hf ih
  have hlt := h.lt
  go_enter Tryz.func86, Tryz.ntmps86
  go_wp2_with fail
  refine (take_yes g (3 :: t) left 1 _ (h.keep fun q hq => Below.heap_alloc _ _ q (by omega)) (by simp)).mono ?_
  rintro e w1 ⟨A, cap, rfl, hb, hr, hg⟩
  obtain ⟨b, off, rfl, hlt2, hc⟩ := hb (by simp)
  have hc0 : w1.cell? ⟨b, off, none⟩ = some (.int .u8 3) := hc 0 3 rfl
  have hg1 : w.grownBy w1 (some g) := grownBy_trans (World.grownBy_alloc _ _ _) hg
  have hx : w1.heap[w.heap.size]? = some (.cells #[.int .i64 0, .int .i64 0, .string ⟨#[]⟩, .slice none 0 0] 50 (0, 0)) := (hg.block _ (by simp) (by simp; omega)).trans (heap_alloc_new _ _)
  have hsz := hg.size
  have HG := Lib.hid hg1
  have HR := Lib.hid hr
  have HX := Lib.hid hx
  clear hb hr hc hg hg1 hx
  go_wp2_with fail
  have hlt1 := HR.out.lt
  refine (HI.out g t left dp _ (HR.out.keep fun q hq => Below.heap_alloc _ _ q (by omega)) hl hd0 HF.out).mono ?_
  rintro e w2 ⟨hy, hn, hg2⟩
  cases hp : plist f left t with
  | none =>
    obtain rfl := hn hp
    exact ⟨rfl, itemAny_no (by rw [pit_3, hp]; rfl) (grownBy_trans HG.out (grownBy_trans (World.grownBy_alloc _ _ _) hg2))⟩
  | some x =>
    obtain ⟨l, r, left'⟩ := x
    obtain ⟨AA, cc, rfl, hll, hal, hr2⟩ := hy l r left' hp
    have hsz' : w.heap.size + 1 ≤ w1.heap.size := by simpa using hsz
    obtain ⟨hR, hI⟩ := rows_item hlt hsz' HX.out hg2
    obtain ⟨r0, r1, r2, r3, q0, q1, q2, q3⟩ := row4 hR
    obtain ⟨i0, i1, i2, i3, p0, p1, p2, p3⟩ := row4 hI
    have hgg : w.grownBy w2 (some g) := grownBy_trans HG.out (grownBy_trans (World.grownBy_alloc _ _ _) hg2)
    have hs2 := hgg.size
    have hne : w.heap.size ≠ w1.heap.size := by omega
    have hpi : pit (f + 1) left (3 :: t) = some (.mk 3 0 ⟨#[]⟩ l, r, left') := by rw [pit_3, hp]; rfl
    have HGG := Lib.hid hgg
    have HR2 := Lib.hid hr2
    have HPI := Lib.hid hpi
    have HAL := Lib.hid hal
    clear hy hn hp hr2 hg2 hR hI hgg hpi h hal
    go_wp2_with fail
    refine bodyPost_ret (v := .agg #[.int .i64 3, .int .i64 0, .string ⟨#[]⟩, .slice AA l.length cc]) (by simp [results, Tryz.results86, go_sem, r0, r1, r2, r3]) rfl ?_
    have hbel : Below w.heap.size w2 _ := below_fin w2 w.heap.size w.heap.size w1.heap.size 3 (.slice AA l.length cc) (.int .i64 3) (.int .i64 0) (.string ⟨#[]⟩) (.slice AA l.length cc) (Nat.le_refl _) (by omega)
    refine itemAny_yes HPI.out ?_ (HR2.out.keep fun q hq => hbel.block q (by omega)) (grownBy_belowB HGG.out hbel)
    rw [IsIt]
    refine ⟨AA, cc, rfl, ⟨by omega, by omega⟩, ⟨by omega, by omega⟩, Nat.zero_le _, by simp only [maxLen]; omega, ?_⟩
    have hsB := hbel.size
    have hnew : ∀ q, NewB (w1.alloc (.cells #[.int .i64 3, .int .i64 0, .string ⟨#[]⟩, .slice none 0 0] 50)) w2 q → q ≠ w1.heap.size ∧ q ≠ w.heap.size ∧ w.heap.size ≤ q := by
      rintro q ⟨a1, a2⟩
      simp at a1
      omega
    refine AreIts.mono (fun q hq => ?_) l (AreIts.keep (fun q hq => ?_) l HAL.out)
    · exact ⟨(hnew q hq).2.2, Nat.lt_of_lt_of_le hq.2 hsB⟩
    · obtain ⟨n1, n2, _⟩ := hnew q hq
      rw [Below.heap_setCell _ _ _ _ n2, Below.heap_setCell _ _ _ _ n2, Below.heap_setCell _ _ _ _ n2, Below.heap_setCell _ _ _ _ n2, Below.heap_setCell _ _ _ _ n1]
end Go.Proofs.YtebacdegjmcnlaaGreat
namespace Go.Proofs.YtebacdegjmcnlaaGreat
open Go.RowKit Pl
set_option linter.unusedVariables false
theorem listAny_no {f g : Nat} {bs : List UInt8} {left : Nat} {w w' : World} (h : plist f left bs = none) (hg : w.grownBy w' (some g)) : ListAny f g bs left w (.panicked RefPanic) w' :=
  ⟨fun t r l h' => (by rw [h] at h'; cases h'), fun _ => rfl, hg⟩
theorem listAny_yes {f g : Nat} {bs r : List UInt8} {left left' : Nat} {l : List It} {A : Option Addr} {cap : Nat} {w w' : World} (h : plist f left bs = some (l, r, left')) (hl : l.length ≤ 4096) (hv : AreIts w' (NewB w w') l A 0) (hr : RSt w' g r left') (hg : w.grownBy w' (some g)) :
    ListAny f g bs left w (.returned (.slice A l.length cap)) w' :=
  ⟨fun t' r' l' h' => (by rw [h] at h'; simp only [Option.some.injEq, Prod.mk.injEq] at h'; obtain ⟨rfl, rfl, rfl⟩ := h'; exact ⟨A, cap, rfl, hl, hv, hr⟩), fun h' => (by rw [h] at h'; cases h'), hg⟩
/-- what the loop has read so far: ts; the rest is to be read off bs -/
def ListRel (f n g : Nat) (full : Option (List It × List UInt8 × Nat)) (w : World) (u i : Value) (wr : World) : Prop :=
  ∃ (j : Nat) (ts : List It) (bs : List UInt8) (left : Nat) (xs : List Value), j ≤ n ∧ ts.length = j ∧ i = .int .u64 j ∧ full = (pmany (pit f) (n - j) left bs).map (fun x => (ts ++ x.1, x.2)) ∧ RSt wr g bs left ∧ left ≤ 4096 ∧
    wr.ownsRow w.heap.size 50 4 u j xs ∧ ItsIn wr (fun q => NewB w wr q ∧ u.ownBlock ≠ some q) ts xs ∧ w.grownBy wr (some g)
theorem pit_left {f left left' : Nat} {bs r : List UInt8} {t : It} (h : pit f left bs = some (t, r, left')) : left' ≤ left := by
  obtain ⟨_, _, a, b, _⟩ := of_pit f bs left t r left' h
  have := cnt_pos t
  omega
theorem listRel_no {f n j left : Nat} {bs : List UInt8} {ts : List It} {full : Option (List It × List UInt8 × Nat)} (hj : j < n) (hf : full = (pmany (pit f) (n - j) left bs).map (fun x => (ts ++ x.1, x.2))) (hp : pit f left bs = none) : full = none := by
  rw [hf, show n - j = (n - j - 1) + 1 from by omega, pmany, hp]; rfl
theorem listRel_yes {f n j left left' : Nat} {bs r : List UInt8} {t : It} {ts : List It} {full : Option (List It × List UInt8 × Nat)} (hj : j < n) (hf : full = (pmany (pit f) (n - j) left bs).map (fun x => (ts ++ x.1, x.2))) (hp : pit f left bs = some (t, r, left')) :
    full = (pmany (pit f) (n - (j + 1)) left' r).map (fun x => (ts ++ [t] ++ x.1, x.2)) := by
  rw [hf, show n - j = (n - (j + 1)) + 1 from by omega, pmany, hp]
  simp only []
  cases pmany (pit f) (n - (j + 1)) left' r with
  | none => rfl
  | some y => obtain ⟨a, b, c⟩ := y; simp
/-- the row and the trees behind an append -/
theorem listRel_step {f n g j left left' : Nat} {bs r : List UInt8} {t : It} {ts : List It} {xs : List Value} {full : Option (List It × List UInt8 × Nat)} {w wr w2 w3 w4 : World} {u v' u0 u1 u2 u3 : Value} {o : Obj} (hj : j < n) (hts : ts.length = j)
    (hf : full = (pmany (pit f) (n - j) left bs).map (fun x => (ts ++ x.1, x.2))) (hp : pit f left bs = some (t, r, left')) (hl : left ≤ 4096) (hgw : g < w.heap.size)
    (hgr : w.grownBy wr (some g)) (hown : wr.ownsRow w.heap.size 50 4 u j xs) (hits : ItsIn wr (fun q => NewB w wr q ∧ u.ownBlock ≠ some q) ts xs)
    (hg2 : wr.grownBy w2 (some g)) (ht : IsIt w2 (NewB wr w2) t (.agg #[u0, u1, u2, u3])) (hr : RSt w2 g r left') (h3 : w3 = w2.alloc o)
    (hown4 : w4.ownsRow w.heap.size 50 4 v' (j + 1) (xs ++ [u0, u1, u2, u3])) (hg4 : w3.grownBy w4 u.ownBlock) (hat : v'.ownBlock = u.ownBlock ∨ v'.ownBlock = some w3.heap.size) :
    ListRel f n g full w v' (.int .u64 ((j : Int) + 1)) w4 := by
  subst h3
  have hlt := hown.lt
  have s1 := hgr.size
  have s2 := hg2.size
  have s3 : w2.heap.size + 1 ≤ w4.heap.size := by have := hg4.size; simpa using this
  have hsz : (w2.alloc o).heap.size = w2.heap.size + 1 := World.size_alloc _ _
  have k23 : ∀ q, q < w2.heap.size → u.ownBlock ≠ some q → w4.heap[q]? = w2.heap[q]? := fun q hq hne =>
    (hg4.block q (by omega) (fun e => hne e.symm)).trans (Below.heap_alloc _ _ q hq)
  have hv' : ∀ q, q < w2.heap.size → u.ownBlock ≠ some q → v'.ownBlock ≠ some q := by
    intro q hq hne e
    rcases hat with h | h
    · exact hne (h ▸ e)
    · rw [h] at e; injection e with e; omega
  refine ⟨j + 1, ts ++ [t], r, left', xs ++ [u0, u1, u2, u3], by omega, by simp [hts], by rw [Int.natCast_add]; rfl, listRel_yes hj hf hp, ?_, Nat.le_trans (pit_left hp) hl, hown4, ?_, ?_⟩
  · exact hr.keep fun q hq => k23 q (by omega) (fun e => by have := hlt q e; omega)
  · refine ItsIn.snoc ?_ (ItsIn.keep (w := wr) (S := fun q => NewB w wr q ∧ u.ownBlock ≠ some q) ?_ ?_ hits)
    · refine IsIt.mono (fun q hq => ?_) t (IsIt.keep (fun q hq => k23 q hq.2 (fun e => by have := hlt q e; have := hq.1; omega)) t ht)
      exact ⟨⟨by have := hq.1; omega, by have := hq.2; omega⟩, hv' q hq.2 (fun e => by have := hlt q e; have := hq.1; omega)⟩
    · intro q hq
      have a1 := hq.1.1
      have a2 := hq.1.2
      exact (k23 q (by omega) hq.2).trans (hg2.block q a2 (by simp; omega))
    · intro q hq
      have a1 := hq.1.1
      have a2 := hq.1.2
      exact ⟨⟨a1, by omega⟩, hv' q (by omega) hq.2⟩
  · have hw2 := grownBy_trans hgr hg2
    exact ⟨hg4.os.trans hw2.os, hg4.tape.trans hw2.tape, hg4.output.trans hw2.output, by omega, fun q hq hne => (k23 q (by omega) (fun e => by have := hlt q e; omega)).trans (hw2.block q hq hne)⟩
theorem list_fin {f g j left left' : Nat} {bs r : List UInt8} {ts : List It} {xs : List Value} {w wr : World} {u : Value} (h : plist f left bs = some (ts, r, left')) (hts : ts.length = j) (hj : j ≤ 4096) (hown : wr.ownsRow w.heap.size 50 4 u j xs)
    (hits : ItsIn wr (fun q => NewB w wr q ∧ u.ownBlock ≠ some q) ts xs) (hr : RSt wr g r left') (hg : w.grownBy wr (some g)) : ListAny f g bs left w (.returned u) wr := by
  have hown0 := hown
  rcases hown.2 with ⟨rfl, h0⟩ | ⟨b, cap, cur, rfl, hb, hh, _⟩
  · obtain rfl : ts = [] := List.eq_nil_of_length_eq_zero (by omega)
    exact listAny_yes (cap := 0) h (by simp) (by rw [AreIts]; trivial) hr hg
  · subst hts
    refine listAny_yes h hj (ItsIn.are (b := b) ⟨hb, (Array.getElem?_eq_some_iff.1 hh).1⟩ (ItsIn.keep (fun _ _ => rfl) (fun q hq => hq.1) hits) fun q v hv => ?_) hr hg
    have := hown0.cells (g := b) rfl q v hv
    unfold Addr.add at this
    split at this
    · subst q; simpa using this
    · simpa using this
set_option maxRecDepth 20000 in
theorem list_any (f : Nat) (ih : ItemAll f) : ListAll f := by
  intro g bs left dp w h hl hd0 hf
  have HI := Lib.hid ih
  have HF := Lib.hid hf
  have hdp : dp ≤ 12 := by omega
  clear ih hf
  go_enter Tryz.func108, Tryz.ntmps108
  go_wp2_with fail
  refine (count_any g bs left _ h).mono ?_
  rintro e w1 ⟨hy, hn, hg1⟩
  cases hp : pcnt bs with
  | none =>
    obtain rfl := hn hp
    exact ⟨rfl, listAny_no (by rw [plist, hp]) hg1⟩
  | some x =>
    obtain ⟨n, r⟩ := x
    obtain ⟨rfl, hr1⟩ := hy n r hp
    have hnb := (of_pcnt hp).1
    have hglt := h.lt
    have hs1 := hg1.size
    have HP := Lib.hid hp
    have HG1 := Lib.hid hg1
    have HR1 := Lib.hid hr1
    clear hy hn hp hg1 hr1 h
    by_cases hle : (left : Int) < n
    · go_wp2_with fail
      refine (reserve_no g r left n w1 HR1.out hl hle (by omega)).mono ?_
      rintro e w2 ⟨rfl, hg2⟩
      exact ⟨rfl, listAny_no (by rw [plist, HP.out]; simp only []; rw [if_pos (by omega)]) (grownBy_trans HG1.out hg2)⟩
    go_wp2_with fail
    refine (reserve_yes g r left n w1 HR1.out hl (by omega)).mono ?_
    rintro e w2 ⟨rfl, hr2, hg2⟩
    have hgg := grownBy_trans HG1.out hg2
    have hs2 := hgg.size
    have HG2 := Lib.hid hgg
    have HR2 := Lib.hid hr2
    clear hg2 hr2 hgg
    go_wp2_with fail
    refine (grow_any (n : Int) w2 (by omega) (by omega)).mono ?_
    rintro e w3 ⟨v3, rfl, hown3, hb3⟩
    have hs3 := hb3.size
    have hfull : plist f left bs = pmany (pit f) n (left - n) r := by rw [plist, HP.out]; simp only []; rw [if_neg (by omega)]
    have hrel0 : ListRel f n g (plist f left bs) w v3 (.int .u64 ((0 : Nat) : Int)) w3 := by
      refine ⟨0, [], r, left - n, [], by omega, rfl, rfl, ?_, HR2.out.keep fun q hq => hb3.block q (by omega), by omega, ownsRow_base hown3 hs2, rfl, grownBy_belowB HG2.out (hb3.mono hs2)⟩
      rw [hfull, Nat.sub_zero]
      cases pmany (pit f) n (left - n) r with
      | none => rfl
      | some y => rfl
    have HREL := Lib.hid hrel0
    clear hown3 hb3 hrel0 hfull
    go_wp2_with fail
    have hgw : g < w.heap.size := hglt
    go_loopw [6, 16] (fun u i wr => ListRel f n g (plist f left bs) w u i wr) (fun _ i _ => n - (intOf i).toNat)
    case atStart => exact HREL.out
    case round =>
      obtain ⟨j, ts, bj, lj, xs, hj, hts, rfl, hfj, hrj, hlj, hownj, hitsj, hgj⟩ := hrel
      have hsj := hgj.size
      by_cases hlt : j < n
      · have HTS := Lib.hid hts
        have HFJ := Lib.hid hfj
        have HRJ := Lib.hid hrj
        have HOJ := Lib.hid hownj
        have HIJ := Lib.hid hitsj
        have HGJ := Lib.hid hgj
        clear hts hfj hrj hownj hitsj hgj
        go_wp2_with fail
        refine (HI.out g bj lj (dp + 1) _ HRJ.out hlj (by omega) (by have := HF.out; omega)).mono ?_
        rintro e w4 ⟨hy, hn, hg4⟩
        cases hp : pit f lj bj with
        | none =>
          obtain rfl := hn hp
          exact ⟨rfl, listAny_no (listRel_no hlt HFJ.out hp) (grownBy_trans HGJ.out hg4)⟩
        | some x =>
          obtain ⟨t, rj, lj'⟩ := x
          obtain ⟨v4, rfl, hv4, hr4⟩ := hy t rj lj' hp
          have hv5 := hv4
          obtain ⟨k, m, s, l⟩ := t
          rw [IsIt] at hv5
          obtain ⟨a, c, rfl, _⟩ := hv5
          have hs4 := hg4.size
          have hown4 : w4.ownsRow w.heap.size 50 4 _ j xs := ownsRow_keep HOJ.out fun q hq => hg4.block q (HOJ.out.lt q hq).2 (by have := (HOJ.out.lt q hq).1; simp; omega)
          have HP4 := Lib.hid hp
          have HV4 := Lib.hid hv4
          have HR4 := Lib.hid hr4
          have HG4 := Lib.hid hg4
          clear hy hn hp hv4 hr4 hg4
          go_wp2_with (at_builtin; (refine wp_app4 rfl (.tmp 18) (.tmp 23) rfl w.heap.size _ j xs rfl (ownsRow_keep hown4 fun q hq => Below.heap_alloc _ _ q (hown4.lt q hq).2) _ _ rfl _ _ _ _ (by simp [go_sem]; rfl) (by simp [go_sem, Addr.add]; rfl) (by simp [go_sem, Addr.add]; rfl) (by simp [go_sem, Addr.add]; rfl) rfl rfl rfl rfl (by omega) (by simp; omega) ?_); intro v5 w5 hown5 hg5 hat5)
          go_roundw
          case rel => exact listRel_step hlt HTS.out HFJ.out HP4.out hlj hgw HGJ.out HOJ.out HIJ.out HG4.out HV4.out HR4.out rfl hown5 hg5 hat5
          case measure => simp [intOf]; omega
      · have ej : j = n := by omega
        have hpl : plist f left bs = some (ts, bj, lj) := by rw [hfj, ej, Nat.sub_self]; simp [pmany]
        have hfin := list_fin hpl hts (by omega) hownj hitsj hrj hgj
        have HFIN := Lib.hid hfin
        clear hfin hpl hts hfj hrj hownj hitsj hgj
        go_wp2_with fail
        go_ret
        exact HFIN.out
theorem item_all : ∀ f, ItemAll f := by
  intro f
  induction f with
  | zero => intro g bs left dp w h hl h0 hf; exact item_deep g bs left dp w (by omega)
  | succ f ih =>
    intro g bs left dp w h hl h0 hf
    cases bs with
    | nil => exact item_nil f g left dp w h (by omega)
    | cons k t =>
      by_cases k1 : k = 1
      · subst k1; exact item_num f g left t dp w h (by omega)
      by_cases k2 : k = 2
      · subst k2; exact item_text f g left t dp w h (by omega)
      by_cases k3 : k = 3
      · subst k3; exact item_list f g left (list_any f ih) t dp w h hl h0 (by omega) (by omega)
      have ne : ∀ m : UInt8, ¬ k = m → ((k.toNat : Int) == (m.toNat : Int)) = false := by
        intro m hm
        simp only [beq_eq_false_iff_ne, ne_eq]
        intro e
        exact hm (UInt8.toNat_inj.1 (by omega))
      exact item_kind f g left k t dp w h (by omega) (ne 1 k1) (ne 2 k2) (ne 3 k3)
end Go.Proofs.YtebacdegjmcnlaaGreat
namespace Go.Proofs.YtebacdegjmcnlaaGreat
open Go.RowKit Pl
set_option linter.unusedVariables false
theorem ta56 (w : World) : (Instr.typeAssert (.iface 131 (.agg #[.int .i64 4])) 20 131 true).run Tryz.prog w = .ok (.tuple #[.agg #[.int .i64 4], .bool true]) w := by kernel_rfl
set_option maxRecDepth 20000 in
theorem errnoOf_any (w : World) : Calls Tryz.prog 84 #[.iface 131 (.agg #[.int .i64 4])] w (RetBelow (.int .i64 4) w) := by
  have t1 := ta56
  go_enter Tryz.func84, Tryz.ntmps84
  go_wp2_with fail
  go_ret
  exact ⟨rfl, (Below.refl _ _).alloc (Nat.le_refl _) _⟩
def zeroItem : Array Value := #[.int .i64 0, .int .i64 0, .string ⟨#[]⟩, .slice none 0 0]
def Caught (B p q : Nat) (older : List PanicEntry) (w : World) (e : Ending) (u' : FrameMode) (w' : World) : Prop :=
  e = .returned (.tuple #[]) ∧ u' = .panicking ({ v := .iface 131 (.agg #[.int .i64 4]), recovered := true } :: older) ∧ w'.heap[p]? = some (.cells zeroItem 50 (0, 0)) ∧ w'.heap[q]? = some (.cells #[.int .i64 4] 26 (0, 0)) ∧ Below B w w'
set_option maxRecDepth 20000 in
theorem catch_panicking (B p q : Nat) (a0 a1 a2 a3 b0 : Value) (older : List PanicEntry) (w : World) (hp : w.heap[p]? = some (.cells #[a0, a1, a2, a3] 50 (0, 0))) (hq : w.heap[q]? = some (.cells #[b0] 26 (0, 0))) (hBp : B ≤ p) (hBq : B ≤ q) (hne : p ≠ q) (hB : B ≤ w.heap.size) :
    CallsD Tryz.prog 83 #[.pointer (some ⟨p, 0, none⟩), .pointer (some ⟨q, 0, none⟩)] (.panicking ({ v := .iface 131 (.agg #[.int .i64 4]), recovered := false } :: older)) w (Caught B p q older w) := by
  refine callsD_of_wpS Tryz.func83 rfl fun c₀ cs hu => ?_
  apply wpS_seq
  apply wpS_region
  simp [wpOpsS, go_sem, recoverD, hu, Tryz.ntmps83, Exit.thenS]
  refine wpS_of_wp ?_
  rw [show (#[Value.pointer (some ⟨p, 0, none⟩), Value.pointer (some ⟨q, 0, none⟩)] ++ ((Array.replicate 7 undef).setIfInBounds 1 (Value.iface 131 (Value.agg #[Value.int IntKind.i64 4]))).setIfInBounds 0 (Value.iface 131 (Value.agg #[Value.int IntKind.i64 4]))) =
    #[Value.pointer (some ⟨p, 0, none⟩), Value.pointer (some ⟨q, 0, none⟩), Value.iface 131 (Value.agg #[Value.int IntKind.i64 4]), Value.iface 131 (Value.agg #[Value.int IntKind.i64 4]), undef, undef, undef, undef, undef] from rfl]
  go_wp2_with fail
  refine (errnoOf_any _).mono ?_
  rintro e w1 ⟨rfl, hb1⟩
  have hp1 : w1.heap[p]? = some (.cells #[a0, a1, a2, a3] 50 (0, 0)) := (hb1.block p (Array.getElem?_eq_some_iff.1 hp).1).trans hp
  have hq1 : w1.heap[q]? = some (.cells #[b0] 26 (0, 0)) := (hb1.block q (Array.getElem?_eq_some_iff.1 hq).1).trans hq
  obtain ⟨r0, r1, r2, r3, z0, z1, z2, z3⟩ := row4 hp1
  have s0 : w1.cell? ⟨q, 0, none⟩ = some b0 := cell_of_row w1 q 0 _ _ _ hq1
  have y0 : w1.frozen? ⟨q, 0, none⟩ = false := by simp [World.frozen?, hq1]
  have hbB := hb1.mono hB
  have HB := Lib.hid hbB
  have HP := Lib.hid hp1
  have HQ := Lib.hid hq1
  clear hb1 hbB hp1 hq1 hp hq hu
  go_wp2_with fail
  refine ⟨rfl, _, rfl, .tuple #[], by simp [results, Tryz.results83], rfl, rfl, ?_, ?_, ?_⟩
  · rw [Below.heap_setCell _ _ _ _ hne]
    have := heap_set _ p 3 (.slice none 0 0) _ _ (heap_set _ p 2 (.string ⟨#[]⟩) _ _ (heap_set _ p 1 (.int .i64 0) _ _ (heap_set w1 p 0 (.int .i64 0) _ _ HP.out)))
    exact this
  · have h1 : ((((w1.setCell ⟨p, 0, none⟩ (.int .i64 0)).setCell ⟨p, 1, none⟩ (.int .i64 0)).setCell ⟨p, 2, none⟩ (.string ⟨#[]⟩)).setCell ⟨p, 3, none⟩ (.slice none 0 0)).heap[q]? = some (.cells #[b0] 26 (0, 0)) := by
      rw [Below.heap_setCell _ _ _ _ (Ne.symm hne), Below.heap_setCell _ _ _ _ (Ne.symm hne), Below.heap_setCell _ _ _ _ (Ne.symm hne), Below.heap_setCell _ _ _ _ (Ne.symm hne)]
      exact HQ.out
    exact heap_set _ q 0 (.int .i64 4) _ _ h1
  · exact ((((HB.out.setCell hBp _).setCell hBp _).setCell hBp _).setCell hBp _).setCell hBq _
set_option maxRecDepth 20000 in
theorem catch_idle (p q : Value) (w : World) : CallsD Tryz.prog 83 #[p, q] .returning w fun e u' w' => e = .returned (.tuple #[]) ∧ u' = .returning ∧ w = w' := by
  refine callsD_of_wpS Tryz.func83 rfl fun c₀ cs hu => ?_
  apply wpS_seq
  apply wpS_region
  simp [wpOpsS, go_sem, recoverD, hu, Tryz.ntmps83, Exit.thenS]
  refine wpS_of_wp ?_
  rw [show (#[p, q] ++ ((Array.replicate 7 undef).setIfInBounds 1 Value.nilIface).setIfInBounds 0 Value.nilIface) =
    #[p, q, Value.nilIface, Value.nilIface, undef, undef, undef, undef, undef] from rfl]
  go_wp2_with fail
  cases c₀
  simp_all [bodyPostS, results, Tryz.results83]
def DecPost (bs : List UInt8) (w : World) (e : Ending) (w' : World) : Prop :=
  Below w.heap.size w w' ∧ (∀ t, dec bs = some t → ∃ v, e = .returned (.tuple #[v, .int .i64 0]) ∧ IsIt w' (NewB w w') t v) ∧ (dec bs = none → e = .returned (.tuple #[.agg zeroItem, .int .i64 4]))
set_option maxRecDepth 20000 in
theorem fin_no (g n : Nat) (A : Option Addr) (cap : Nat) (left : Int) (w : World) (h : w.heap[g]? = some (.cells #[.slice A n cap, .int .i64 left] 118 (0, 0))) (hn : (0 : Int) < n) : Calls Tryz.prog 87 #[.pointer (some ⟨g, 0, none⟩)] w (fun e w' => e = .panicked RefPanic ∧ w = w') := by
  have c0 : w.cell? ⟨g, 0, none⟩ = some (.slice A n cap) := cell_of_row w g 0 _ _ _ h
  clear h
  go_enter Tryz.func87, Tryz.ntmps87
  go_wp2_with (go_at_call 103; refine (refuse_any _ _).mono ?_; rintro e w' ⟨rfl, rfl⟩)
  exact ⟨rfl, rfl, rfl⟩
set_option maxRecDepth 20000 in
theorem fin_yes (g : Nat) (A : Option Addr) (cap : Nat) (left : Int) (w : World) (h : w.heap[g]? = some (.cells #[.slice A 0 cap, .int .i64 left] 118 (0, 0))) : Calls Tryz.prog 87 #[.pointer (some ⟨g, 0, none⟩)] w (fun e w' => e = .returned (.tuple #[]) ∧ w = w') := by
  have c0 : w.cell? ⟨g, 0, none⟩ = some (.slice A 0 cap) := cell_of_row w g 0 _ _ _ h
  clear h
  go_enter Tryz.func87, Tryz.ntmps87
  go_wp2_with fail
  go_end0
  exact ⟨rfl, rfl⟩
/-- the door: the panic is caught, and none is told -/
theorem dec_catch {bs : List UInt8} {w w2 : World} {T : Array Value} {a0 a1 a2 a3 b0 : Value} (h2 : T.getD 2 undef = .pointer (some ⟨w.heap.size, 0, none⟩)) (h3 : T.getD 3 undef = .pointer (some ⟨w.heap.size + 1, 0, none⟩))
    (hp : w2.heap[w.heap.size]? = some (.cells #[a0, a1, a2, a3] 50 (0, 0))) (hq : w2.heap[w.heap.size + 1]? = some (.cells #[b0] 26 (0, 0))) (hb : Below w.heap.size w w2) (hd : dec bs = none) :
    bodyPostD Tryz.prog Tryz.f60 (DecPost bs w) (Exit.panic RefPanic) { tmps := T, defers := [{ target := Target.fn (Fn.func 83) #[.pointer (some ⟨w.heap.size, 0, none⟩), .pointer (some ⟨w.heap.size + 1, 0, none⟩)], args := #[] }] } w2 := by
  refine leaves_cons (f := 83) (args := #[.pointer (some ⟨w.heap.size, 0, none⟩), .pointer (some ⟨w.heap.size + 1, 0, none⟩)]) (by simp) (by simp [go_sem]) ?_
  refine (catch_panicking w.heap.size w.heap.size (w.heap.size + 1) a0 a1 a2 a3 b0 [] w2 hp hq (Nat.le_refl _) (by omega) (by omega) hb.size).mono ?_
  rintro e u' w3 ⟨rfl, rfl, hp3, hq3, hb3⟩
  obtain ⟨r0, r1, r2, r3, _⟩ := row4 hp3
  simp only [Array.getD_eq_getD_getElem?] at h2 h3
  have s0 : w3.cell? ⟨w.heap.size + 1, 0, none⟩ = some (.int .i64 4) := cell_of_row w3 _ 0 _ _ _ hq3
  refine ⟨.tuple #[.agg zeroItem, .int .i64 4], ?_, hb.trans hb3, fun t ht => (by rw [hd] at ht; cases ht), fun _ => rfl⟩
  simp [results, Tryz.results60, go_sem, h2, h3, r0, r1, r2, r3, s0, zeroItem]
set_option maxRecDepth 20000 in
theorem decode_any (bs : List UInt8) (A : Option Addr) (n cap : Nat) (w : World) (hb : BytesAt w w.heap.size A bs) (hn : bs.length = n) (hc : n ≤ cap) (hcm : cap ≤ 9223372036854775807) : Calls Tryz.prog 60 #[.slice A n cap] w (DecPost bs w) := by
  have hmf : ∀ (fn : Fn) (first cap : Array Value) (w : World), (Instr.makeFunc fn first cap).run Tryz.prog w = .ok (.func fn first cap) w := fun _ _ _ _ => rfl
  have HB := Lib.hid hb
  have HN := Lib.hid hn
  clear hb hn
  go_enter_defers Tryz.func60, Tryz.ntmps60
  go_wp2_with fail
  have hsz0 : (((w.alloc (.cells zeroItem 50)).alloc (.cells #[.int .i64 0] 26)).alloc (.cells #[.slice A n cap, .int .i64 4096] 118)).heap.size = w.heap.size + 1 + 1 + 1 := by simp
  have hpW : (((w.alloc (.cells zeroItem 50)).alloc (.cells #[.int .i64 0] 26)).alloc (.cells #[.slice A n cap, .int .i64 4096] 118)).heap[w.heap.size]? = some (.cells zeroItem 50 (0, 0)) := by
    rw [Below.heap_alloc _ _ _ (by simp; omega), Below.heap_alloc _ _ _ (by simp)]; exact heap_alloc_new _ _
  have hqW : (((w.alloc (.cells zeroItem 50)).alloc (.cells #[.int .i64 0] 26)).alloc (.cells #[.slice A n cap, .int .i64 4096] 118)).heap[w.heap.size + 1]? = some (.cells #[.int .i64 0] 26 (0, 0)) := by
    rw [Below.heap_alloc _ _ _ (by simp), show w.heap.size + 1 = (w.alloc (.cells zeroItem 50)).heap.size from by simp]; exact heap_alloc_new _ _
  have hgW : (((w.alloc (.cells zeroItem 50)).alloc (.cells #[.int .i64 0] 26)).alloc (.cells #[.slice A n cap, .int .i64 4096] 118)).heap[w.heap.size + 1 + 1]? = some (.cells #[.slice A n cap, .int .i64 4096] 118 (0, 0)) := by
    rw [show w.heap.size + 1 + 1 = ((w.alloc (.cells zeroItem 50)).alloc (.cells #[.int .i64 0] 26)).heap.size from by simp]; exact heap_alloc_new _ _
  have hbW : Below w.heap.size w (((w.alloc (.cells zeroItem 50)).alloc (.cells #[.int .i64 0] 26)).alloc (.cells #[.slice A n cap, .int .i64 4096] 118)) := (((Below.refl _ _).alloc (Nat.le_refl _) _).alloc (by simp) _).alloc (by simp; omega) _
  change Calls Tryz.prog 85 _ (((w.alloc (.cells zeroItem 50)).alloc (.cells #[.int .i64 0] 26)).alloc (.cells #[.slice A n cap, .int .i64 4096] 118)) _
  generalize ((w.alloc (.cells zeroItem 50)).alloc (.cells #[.int .i64 0] 26)).alloc (.cells #[.slice A n cap, .int .i64 4096] 118) = W at *
  have hrW : RSt W (w.heap.size + 1 + 1) bs 4096 := ⟨A, cap, by rw [HN.out]; exact hgW, by rw [HN.out]; exact hc, hcm, fun hne => by
    obtain ⟨b, off, e1, e2, e3⟩ := HB.out hne
    exact ⟨b, off, e1, by omega, fun j u hu => (hbW.cell (p := ⟨b, off + j, none⟩) e2).trans (e3 j u hu)⟩⟩
  refine (reserve_yes _ bs 4096 1 W hrW (by omega) (by omega)).mono ?_
  rintro e w1 ⟨rfl, hr1, hg1⟩
  have hp1 : w1.heap[w.heap.size]? = some (.cells zeroItem 50 (0, 0)) := (hg1.block _ (by omega) (by simp; omega)).trans hpW
  have hq1 : w1.heap[w.heap.size + 1]? = some (.cells #[.int .i64 0] 26 (0, 0)) := (hg1.block _ (by omega) (by simp)).trans hqW
  have hb1 : Below w.heap.size w w1 := hbW.trans (below_of_grown w.heap.size hg1 (by omega) (by omega))
  have hs1 : w.heap.size + 1 + 1 + 1 ≤ w1.heap.size := by have := hg1.size; omega
  have HP1 := Lib.hid hp1
  have HQ1 := Lib.hid hq1
  have HB1 := Lib.hid hb1
  have HR1 := Lib.hid hr1
  clear hp1 hq1 hb1 hr1 hg1 hrW hbW hgW hqW hpW hsz0
  go_wp2_with fail
  refine (item_all 12 _ bs 4095 1 w1 HR1.out (by omega) (by omega) (by omega)).mono ?_
  rintro e w2 ⟨hy, hn, hg2⟩
  have hp2 : w2.heap[w.heap.size]? = some (.cells zeroItem 50 (0, 0)) := (hg2.block _ (by omega) (by simp; omega)).trans HP1.out
  have hq2 : w2.heap[w.heap.size + 1]? = some (.cells #[.int .i64 0] 26 (0, 0)) := (hg2.block _ (by omega) (by simp)).trans HQ1.out
  have hb2 : Below w.heap.size w w2 := HB1.out.trans (below_of_grown w.heap.size hg2 (by omega) (by omega))
  have hs2 : w1.heap.size ≤ w2.heap.size := hg2.size
  cases hp : pit 12 4095 bs with
  | none =>
    obtain rfl := hn hp
    exact dec_catch rfl rfl hp2 hq2 hb2 (by rw [dec, hp])
  | some x =>
    obtain ⟨t, r, l⟩ := x
    obtain ⟨v, rfl, hv, hr2⟩ := hy t r l hp
    have hv5 := hv
    obtain ⟨k, m, s, tl⟩ := t
    rw [IsIt] at hv5
    obtain ⟨a, c, rfl, _⟩ := hv5
    have hrow := row4 hp2
    obtain ⟨r0, r1, r2, r3, q0, q1, q2, q3⟩ := hrow
    have HP := Lib.hid hp
    have HV := Lib.hid hv
    have HR2 := Lib.hid hr2
    have HP2 := Lib.hid hp2
    have HQ2 := Lib.hid hq2
    have HB2 := Lib.hid hb2
    clear hy hn hp hv hr2 hp2 hq2 hb2 hg2
    go_wp2_with fail
    have hp3 := heap_set _ w.heap.size 3 (.slice a tl.length c) _ _ (heap_set _ w.heap.size 2 (.string s) _ _ (heap_set _ w.heap.size 1 (.int .i64 m) _ _ (heap_set w2 w.heap.size 0 (.int .i64 k) _ _ HP2.out)))
    have hfar : ∀ q, q ≠ w.heap.size → ((((w2.setCell ⟨w.heap.size, 0, none⟩ (.int .i64 k)).setCell ⟨w.heap.size, 1, none⟩ (.int .i64 m)).setCell ⟨w.heap.size, 2, none⟩ (.string s)).setCell ⟨w.heap.size, 3, none⟩ (.slice a tl.length c)).heap[q]? = w2.heap[q]? := fun q hq => by
      rw [Below.heap_setCell _ _ _ _ hq, Below.heap_setCell _ _ _ _ hq, Below.heap_setCell _ _ _ _ hq, Below.heap_setCell _ _ _ _ hq]
    have hsz3 : ((((w2.setCell ⟨w.heap.size, 0, none⟩ (.int .i64 k)).setCell ⟨w.heap.size, 1, none⟩ (.int .i64 m)).setCell ⟨w.heap.size, 2, none⟩ (.string s)).setCell ⟨w.heap.size, 3, none⟩ (.slice a tl.length c)).heap.size = w2.heap.size := by simp
    have hb3 : Below w.heap.size w ((((w2.setCell ⟨w.heap.size, 0, none⟩ (.int .i64 k)).setCell ⟨w.heap.size, 1, none⟩ (.int .i64 m)).setCell ⟨w.heap.size, 2, none⟩ (.string s)).setCell ⟨w.heap.size, 3, none⟩ (.slice a tl.length c)) :=
      (((HB2.out.setCell (Nat.le_refl _) _).setCell (Nat.le_refl _) _).setCell (Nat.le_refl _) _).setCell (Nat.le_refl _) _
    generalize (((w2.setCell ⟨w.heap.size, 0, none⟩ (.int .i64 k)).setCell ⟨w.heap.size, 1, none⟩ (.int .i64 m)).setCell ⟨w.heap.size, 2, none⟩ (.string s)).setCell ⟨w.heap.size, 3, none⟩ (.slice a tl.length c) = w3 at *
    have hp3' : w3.heap[w.heap.size]? = some (.cells #[.int .i64 k, .int .i64 m, .string s, .slice a tl.length c] 50 (0, 0)) := hp3
    have hq3 : w3.heap[w.heap.size + 1]? = some (.cells #[.int .i64 0] 26 (0, 0)) := (hfar _ (by omega)).trans HQ2.out
    obtain ⟨A3, cap3, hg3, _⟩ := HR2.out
    have hg3' := (hfar (w.heap.size + 1 + 1) (by omega)).trans hg3
    by_cases hre : r = []
    · have hd : dec bs = some (.mk k m s tl) := by rw [dec, HP.out, hre]; rfl
      rw [hre] at hg3'
      refine (fin_yes _ A3 cap3 l w3 hg3').mono ?_
      rintro e w4 ⟨rfl, rfl⟩
      obtain ⟨r0, r1, r2, r3, q0, q1, q2, q3⟩ := row4 hp3'
      have s0 : w3.cell? ⟨w.heap.size + 1, 0, none⟩ = some (.int .i64 0) := cell_of_row w3 _ 0 _ _ _ hq3
      have y0 : w3.frozen? ⟨w.heap.size + 1, 0, none⟩ = false := by simp [World.frozen?, hq3]
      have hvv : IsIt w3 (NewB w1 w2) (.mk k m s tl) (.agg #[.int .i64 k, .int .i64 m, .string s, .slice a tl.length c]) := IsIt.keep (fun q hq => hfar q (by have := hq.1; omega)) _ HV.out
      have HP3 := Lib.hid hp3'
      have HQ3 := Lib.hid hq3
      have HVV := Lib.hid hvv
      have HD := Lib.hid hd
      have HB3 := Lib.hid hb3
      clear hvv hd hb3 hp3 hp3' hq3 hg3 hg3' hfar hre
      go_wp2_with fail
      have hpf := heap_set _ w.heap.size 3 (.slice a tl.length c) _ _ (heap_set _ w.heap.size 2 (.string s) _ _ (heap_set _ w.heap.size 1 (.int .i64 m) _ _ (heap_set w3 w.heap.size 0 (.int .i64 k) _ _ HP3.out)))
      have hfar : ∀ q, q ≠ w.heap.size → q ≠ w.heap.size + 1 → (((((w3.setCell ⟨w.heap.size, 0, none⟩ (.int .i64 k)).setCell ⟨w.heap.size, 1, none⟩ (.int .i64 m)).setCell ⟨w.heap.size, 2, none⟩ (.string s)).setCell ⟨w.heap.size, 3, none⟩ (.slice a tl.length c)).setCell ⟨w.heap.size + 1, 0, none⟩ (.int .i64 0)).heap[q]? = w3.heap[q]? := fun q hq hq' => by
        rw [Below.heap_setCell _ _ _ _ hq', Below.heap_setCell _ _ _ _ hq, Below.heap_setCell _ _ _ _ hq, Below.heap_setCell _ _ _ _ hq, Below.heap_setCell _ _ _ _ hq]
      have hbf : Below w.heap.size w (((((w3.setCell ⟨w.heap.size, 0, none⟩ (.int .i64 k)).setCell ⟨w.heap.size, 1, none⟩ (.int .i64 m)).setCell ⟨w.heap.size, 2, none⟩ (.string s)).setCell ⟨w.heap.size, 3, none⟩ (.slice a tl.length c)).setCell ⟨w.heap.size + 1, 0, none⟩ (.int .i64 0)) :=
        ((((HB3.out.setCell (Nat.le_refl _) _).setCell (Nat.le_refl _) _).setCell (Nat.le_refl _) _).setCell (Nat.le_refl _) _).setCell (by simp) _
      have hqf : (((((w3.setCell ⟨w.heap.size, 0, none⟩ (.int .i64 k)).setCell ⟨w.heap.size, 1, none⟩ (.int .i64 m)).setCell ⟨w.heap.size, 2, none⟩ (.string s)).setCell ⟨w.heap.size, 3, none⟩ (.slice a tl.length c)).setCell ⟨w.heap.size + 1, 0, none⟩ (.int .i64 0)).heap[w.heap.size + 1]? = some (.cells #[.int .i64 0] 26 (0, 0)) := by
        refine heap_set _ (w.heap.size + 1) 0 (.int .i64 0) #[.int .i64 0] _ ?_
        rw [Below.heap_setCell _ _ _ _ (by simp), Below.heap_setCell _ _ _ _ (by simp), Below.heap_setCell _ _ _ _ (by simp), Below.heap_setCell _ _ _ _ (by simp)]
        exact HQ3.out
      have hpf' := (Below.heap_setCell _ ⟨w.heap.size + 1, 0, none⟩ (.int .i64 0) w.heap.size (by simp)).trans hpf
      have hszf : (((((w3.setCell ⟨w.heap.size, 0, none⟩ (.int .i64 k)).setCell ⟨w.heap.size, 1, none⟩ (.int .i64 m)).setCell ⟨w.heap.size, 2, none⟩ (.string s)).setCell ⟨w.heap.size, 3, none⟩ (.slice a tl.length c)).setCell ⟨w.heap.size + 1, 0, none⟩ (.int .i64 0)).heap.size = w3.heap.size := by simp
      generalize ((((w3.setCell ⟨w.heap.size, 0, none⟩ (.int .i64 k)).setCell ⟨w.heap.size, 1, none⟩ (.int .i64 m)).setCell ⟨w.heap.size, 2, none⟩ (.string s)).setCell ⟨w.heap.size, 3, none⟩ (.slice a tl.length c)).setCell ⟨w.heap.size + 1, 0, none⟩ (.int .i64 0) = w5 at *
      have hpf'' : w5.heap[w.heap.size]? = some (.cells #[.int .i64 k, .int .i64 m, .string s, .slice a tl.length c] 50 (0, 0)) := hpf'
      refine leaves_cons (f := 83) (args := #[.pointer (some ⟨w.heap.size, 0, none⟩), .pointer (some ⟨w.heap.size + 1, 0, none⟩)]) (by simp) (by simp [go_sem]) ?_
      refine (catch_idle _ _ w5).mono ?_
      rintro e u' w6 ⟨rfl, rfl, rfl⟩
      obtain ⟨r0', r1', r2', r3', _⟩ := row4 hpf''
      have s0' : w5.cell? ⟨w.heap.size + 1, 0, none⟩ = some (.int .i64 0) := cell_of_row w5 _ 0 _ _ _ hqf
      refine ⟨.tuple #[.agg #[.int .i64 k, .int .i64 m, .string s, .slice a tl.length c], .int .i64 0], ?_, hbf, fun t ht => ?_, fun ht => (by rw [HD.out] at ht; cases ht)⟩
      · simp [results, Tryz.results60, go_sem, r0', r1', r2', r3', s0']
      · rw [HD.out] at ht
        simp only [Option.some.injEq] at ht
        subst ht
        exact ⟨_, rfl, IsIt.mono (fun q hq => ⟨by have := hq.1; omega, by have := hq.2; omega⟩) _ (IsIt.keep (fun q hq => hfar q (by have := hq.1; omega) (by have := hq.1; omega)) _ HVV.out)⟩
    · have hd : dec bs = none := by rw [dec, HP.out]; simp only []; rw [if_neg hre]
      have hpos : (0 : Int) < (r.length : Int) := by
        cases r with
        | nil => exact absurd rfl hre
        | cons x y => simp
      refine (fin_no _ r.length A3 cap3 l w3 hg3' hpos).mono ?_
      rintro e w4 ⟨rfl, rfl⟩
      exact dec_catch rfl rfl hp3' hq3 hb3 hd
end Go.Proofs.YtebacdegjmcnlaaGreat
