/- Texts put together. -/
import Derived.StillTailTactics
import Derived.RegionTactic
import Derived.Below
namespace Go.Proofs.YtebacdegjmcnlaaGreat
open Go.RowKit
set_option linter.unusedVariables false
/-! ### a region that draws its order, each operation's fact kept by all others -/
def putAll : Act → List Nat → List Value → Act
  | a, s :: ss, z :: zs => putAll (a.put (some s) z) ss zs
  | a, _, _ => a
theorem cons_of {x : List Value} {n : Nat} (h : x.length = n + 1) : ∃ a y, x = a :: y ∧ y.length = n := by
  cases x with
  | nil => cases h
  | cons a y => exact ⟨a, y, rfl, by simpa using h⟩
theorem nil_of {x : List Value} (h : x.length = 0) : x = [] := List.eq_nil_of_length_eq_zero h
/-- each operation ahead of the tail: it keeps the class, and gives its slot what is said of it -/
def Steps (P : Program) (ops : Array Oper) (Q : Exit → Act → World → Prop) (n : Nat) (A : List Value → Act) (V : Nat → Value → World → Prop) (C : World → Prop) : Nat → List Oper → Prop
  | _, [] => True
  | i, o :: rest => (∀ (K' : Act → World → Prop) (x : List Value), x.length = n → ∀ w, C w → (∀ j, Region.waitsFor .any ops i j = true → V j (x.getD j undef) w) →
      (∀ v w', V i v w' → C w' → Below w.heap.size w w' → K' (A (x.set i v)) w') → if Region.wanted o (yielded ops (A x).tmps) = true then Oper.wp P o (A x) w K' Q else K' ((A x).put o.dst undef) w) ∧ Steps P ops Q n A V C (i + 1) rest
theorem Steps.at_ {P : Program} {ops : Array Oper} {Q : Exit → Act → World → Prop} {n : Nat} {A : List Value → Act} {V : Nat → Value → World → Prop} {C : World → Prop} : ∀ {l : List Oper} {k : Nat}, Steps P ops Q n A V C k l → (∀ j, j < l.length → l[j]? = ops[k + j]?) → ∀ i, i < l.length → ∀ x, x.length = n → ∀ w, C w → (∀ j, Region.waitsFor .any ops (k + i) j = true → V j (x.getD j undef) w) →
    wpOp P ops Q (k + i) (fun a' w' => ∃ v, a' = A (x.set (k + i) v) ∧ V (k + i) v w' ∧ C w' ∧ Below w.heap.size w w') (A x) w
  | [], k, h, hl, i, hi, _, _, _, _, _ => absurd hi (Nat.not_lt_zero _)
  | o :: rest, k, h, hl, 0, hi, x, hx, w, hC, hd => by
    have ho : ops[k + 0]? = some o := by rw [← hl 0 hi]; rfl
    exact wpOp_step ho fun K' hK => h.1 K' x hx w hC hd fun v w' h1 h2 h3 => hK _ _ ⟨v, rfl, h1, h2, h3⟩
  | o :: rest, k, h, hl, i + 1, hi, x, hx, w, hC, hd => by
    have := Steps.at_ h.2 (fun j hj => by rw [show k + 1 + j = k + (j + 1) by omega, ← hl (j + 1) (by simpa using hj)]; simp) i (by simpa using hi) x hx w hC (by rw [show k + 1 + i = k + (i + 1) by omega]; exact hd)
    rw [show k + 1 + i = k + (i + 1) by omega] at this
    exact this
def cntU (listed : Array Bool) : Nat → Nat
  | 0 => 0
  | k + 1 => (if listed.getD k false = true then 0 else 1) + cntU listed k
theorem cntU_set {listed : Array Bool} {i : Nat} (hs : i < listed.size) (hu : listed.getD i false = false) : ∀ n, (i < n → cntU (listed.setIfInBounds i true) n + 1 = cntU listed n) ∧ (n ≤ i → cntU (listed.setIfInBounds i true) n = cntU listed n)
  | 0 => ⟨fun h => absurd h (Nat.not_lt_zero _), fun _ => rfl⟩
  | k + 1 => by
    have ih := cntU_set hs hu k
    constructor
    · intro h
      by_cases hk : i = k
      · subst hk
        rw [cntU, cntU, ih.2 (Nat.le_refl _), hu]
        have : (listed.setIfInBounds i true).getD i false = true := by simp [hs]
        rw [this]; simp; omega
      · have := ih.1 (by omega)
        rw [cntU, cntU, getD_set_ne false hk]
        omega
    · intro h
      rw [cntU, cntU, ih.2 (by omega), getD_set_ne false (by omega)]
theorem cntU_zero {listed : Array Bool} : ∀ n, cntU listed n = 0 → ∀ i, i < n → listed.getD i false = true
  | 0, _, i, h => absurd h (Nat.not_lt_zero _)
  | k + 1, h, i, hi => by
    rw [cntU] at h
    by_cases hk : i = k
    · subst hk
      split at h
      · assumption
      · omega
    · exact cntU_zero k (by omega) i (by omega)
theorem cntU_some {listed : Array Bool} : ∀ n, cntU listed n ≠ 0 → ∃ i, i < n ∧ listed.getD i false = false ∧ ∀ j, j < i → listed.getD j false = true
  | 0, h => absurd rfl h
  | k + 1, h => by
    by_cases hk : cntU listed k = 0
    · refine ⟨k, by omega, ?_, cntU_zero k hk⟩
      rw [cntU, hk] at h
      cases hq : listed.getD k false with
      | false => rfl
      | true => rw [hq] at h; simp at h
    · obtain ⟨i, h1, h2⟩ := cntU_some k hk
      exact ⟨i, by omega, h2⟩
def Region.backB (ops : Array Oper) : Bool := (List.range ops.size).all fun i => match ops[i]? with
  | some o => o.after.all fun e => decide (e.on < i)
  | none => true
theorem backB_spec {ops : Array Oper} (h : Region.backB ops = true) {i : Nat} {o : Oper} (ho : ops[i]? = some o) : ∀ e ∈ o.after, e.on < i := by
  have hi : i < ops.size := (Array.getElem?_eq_some_iff.1 ho).1
  have := List.all_eq_true.1 h i (List.mem_range.2 hi)
  rw [ho] at this
  intro e he
  have := Array.all_eq_true'.1 this e he
  simpa using this
def fullA (m n : Nat) : Array Bool := (List.ofFn fun i : Fin m => decide (i.val < n)).toArray
theorem full_eq {listed : Array Bool} {m n : Nat} (hs : listed.size = m) (h1 : ∀ i, i < n → listed.getD i false = true) (h2 : ∀ t, n ≤ t → t < m → listed.getD t true = false) : listed = fullA m n := by
  apply Array.ext
  · simp [fullA, hs]
  · intro i hi hi2
    simp only [fullA, List.getElem_toArray, List.getElem_ofFn]
    by_cases h : i < n
    · have := h1 i h
      simp [hi] at this
      simp [this, h]
    · have := h2 i (by omega) (by omega)
      simp [hi] at this
      simp [this, h]
theorem steps_cons {P : Program} {ops : Array Oper} {Q : Exit → Act → World → Prop} {n : Nat} {A : List Value → Act} {V : Nat → Value → World → Prop} {C : World → Prop} {i : Nat} {o : Oper} {rest : List Oper}
    (h : ∀ (K' : Act → World → Prop) (x : List Value), x.length = n → ∀ w, C w → (∀ j, Region.waitsFor .any ops i j = true → V j (x.getD j undef) w) →
      (∀ v w', V i v w' → C w' → Below w.heap.size w w' → K' (A (x.set i v)) w') → if Region.wanted o (yielded ops (A x).tmps) = true then Oper.wp P o (A x) w K' Q else K' ((A x).put o.dst undef) w)
    (k : Steps P ops Q n A V C (i + 1) rest) : Steps P ops Q n A V C i (o :: rest) := ⟨h, k⟩
section
variable {P : Program} {ops : Array Oper} {Q : Exit → Act → World → Prop}
theorem mono_any {n : Nat} {A : List Value → Act} {V : Nat → Value → World → Prop} {C : World → Prop}
    (hs : Region.sinkB .any ops n = true) (hc : Region.chainB .any ops n = true) (hn : n < ops.size) (hb : Region.backB ops = true)
    (hseq : Region.seqB .any ops (ops.size - n) n (fullA ops.size n) = true)
    (hV : ∀ i v w w', C w → V i v w → Below w.heap.size w w' → V i v w')
    (step : ∀ i, i < n → ∀ x, x.length = n → ∀ w, C w → (∀ j, Region.waitsFor .any ops i j = true → V j (x.getD j undef) w) → wpOp P ops Q i (fun a' w' => ∃ v, a' = A (x.set i v) ∧ V i v w' ∧ C w' ∧ Below w.heap.size w w') (A x) w)
    (tail : ∀ x, x.length = n → ∀ w, C w → (∀ j, j < n → V j (x.getD j undef) w) → wpList P ops Q (ops.toList.drop n) (A x) w) :
    ∀ (f : Nat) (listed : Array Bool) (x : List Value) (w : World), x.length = n → cntU listed n = f → HeadInv .any ops n listed → C w → (∀ j, j < n → listed.getD j false = true → V j (x.getD j undef) w) → wpAny P .any ops Q (f + (ops.size - n)) listed (A x) w := by
  intro f
  induction f with
  | zero =>
    intro listed x w hxl hf inv hC hx
    have hall := cntU_zero n hf
    have hfull := full_eq inv.size hall inv.tail
    rw [Nat.zero_add]
    have hl : (ops.toList.drop n).length = ops.size - n := by simp
    rw [← hl]
    refine wpAny_of_seq (ops.toList.drop n) n listed (A x) w (fun j => by simp) (by rw [hl, hfull]; exact hseq) (tail x hxl w hC fun j hj => hx j hj (hall j hj))
  | succ f ih =>
    intro listed x w hxl hf inv hC hx
    rw [show f + 1 + (ops.size - n) = (f + (ops.size - n)) + 1 by omega]
    obtain ⟨i0, hi0, hu0, hmin⟩ := cntU_some n (by rw [hf]; omega)
    have hrd0 : i0 ∈ Region.ready .any ops listed := by
      obtain ⟨o, ho⟩ : ∃ o, ops[i0]? = some o := ⟨_, Array.getElem?_eq_getElem (by omega)⟩
      exact mem_ready.2 ⟨getD_in (by rw [inv.size]; omega) hu0, o, ho, fun e he _ => hmin _ (backB_spec hb ho e he)⟩
    refine ⟨fun h0 => (by rw [h0] at hrd0; cases hrd0), fun i hi => ?_⟩
    have hin : i < n := by
      rcases Nat.lt_or_ge i n with h | h
      · exact h
      · exact absurd hi (tail_waits hs hc hn inv _ i0 rfl hi0 (getD_in (by rw [inv.size]; omega) hu0) i h)
    obtain ⟨hun, oi, hoi, hall⟩ := mem_ready.1 hi
    refine wpOp_mono ?_ (step i hin x hxl w hC fun j hj => ?_)
    · rintro a' w' ⟨v, rfl, hv, hC', hB⟩
      refine ih _ _ _ (by rw [List.length_set]; exact hxl) ?_ (inv.set hi hin) hC' fun j hj hl => ?_
      · have := (cntU_set (listed := listed) (i := i) (by rw [inv.size]; omega) (getD_both hun) n).1 hin
        omega
      · by_cases hji : j = i
        · subst hji
          have : (x.set j v).getD j undef = v := by simp [List.getD_eq_getElem?_getD, hxl, hj]
          rw [this]
          exact hv
        · have : (x.set i v).getD j undef = x.getD j undef := by simp [List.getD_eq_getElem?_getD, List.getElem?_set_ne (fun e => hji e.symm)]
          rw [this]
          rw [getD_set_ne false (fun e => hji e.symm)] at hl
          exact hV _ _ _ _ hC (hx j hj hl) hB
    · obtain ⟨oj, hoj, e, he, hbnd, hon⟩ := Region.waitsFor_spec hj
      have : oj = oi := Option.some.inj (hoj.symm.trans hoi)
      subst this
      have h1 := hall e he hbnd
      rw [hon] at h1
      refine hx j ?_ h1
      have := backB_spec hb hoj e he
      omega
end
/-- the region's checks, by the kernel -/
def Region.monoB (ops : Array Oper) (n : Nat) : Bool := Region.sinkB .any ops n && (Region.chainB .any ops n && (decide (n < ops.size) && (Region.backB ops && Region.seqB .any ops (ops.size - n) n (fullA ops.size n))))
theorem wp_region_mono {P : Program} {l : List Oper} {Q : Exit → Act → World → Prop} {id : Nat} {w0 : World} {a0 : Act} (n : Nat) (S : List Nat) (V : Nat → Value → World → Prop) (C : World → Prop) (x0 : List Value)
    (hm : P.follows .mixedOrders = true) (hB : Region.monoB l.toArray n = true) (h0 : a0 = putAll a0 S x0) (hx0 : x0.length = n) (hC : C w0.drew)
    (hV : ∀ i v w w', C w → V i v w → Below w.heap.size w w' → V i v w')
    (step : Steps P l.toArray Q n (putAll a0 S) V C 0 (l.take n))
    (tail : ∀ x, x.length = n → ∀ w, C w → (∀ j, j < n → V j (x.getD j undef) w) → wpList P l.toArray Q (l.drop n) (putAll a0 S x) w) : (Code.region id l.toArray true).wp P Q a0 w0 := by
  simp only [Region.monoB, Bool.and_eq_true, decide_eq_true_eq] at hB
  obtain ⟨hs, hc, hn, hb, hseq⟩ := hB
  have hn' : n < l.length := by simpa using hn
  have htl : (l.take n).length = n := by simp; omega
  have hcnt : ∀ m, cntU (Array.replicate l.toArray.size false) m = m := fun m => by
    induction m with
    | zero => rfl
    | succ m ih => rw [cntU, ih, getD_replicate_false]; simp; omega
  refine wp_region_any hm ?_
  have := mono_any (P := P) (Q := Q) (A := putAll a0 S) (V := V) (C := C) hs hc hn hb hseq hV (fun i hi x hx w hC hd => by
    have h1 := step.at_ (fun j hj => by
      have : j < n := by rw [htl] at hj; exact hj
      simp [this]) i (by rw [htl]; exact hi) x hx w hC (by rw [Nat.zero_add]; exact hd)
    rw [Nat.zero_add] at h1
    exact h1) (by simpa using tail) n (Array.replicate l.toArray.size false) x0 w0.drew hx0 (hcnt n)
    ⟨by simp, fun j oj _ hl => (by rw [getD_replicate_false] at hl; cases hl), fun t _ ht => getD_in (by simpa using ht) (getD_replicate_false _ _)⟩ hC (fun j _ hl => (by rw [getD_replicate_false] at hl; cases hl))
  have hsz : n + (l.toArray.size - n) = l.toArray.size := by omega
  rw [hsz, ← h0] at this
  exact this
end Go.Proofs.YtebacdegjmcnlaaGreat
namespace Go.Proofs.YtebacdegjmcnlaaGreat
open Go.RowKit
set_option linter.unusedVariables false
/-! ### the same, for regions with edges that bind one compiler alone -/
def Region.backB2 (ops : Array Oper) : Bool := (List.range ops.size).all fun i => match ops[i]? with
  | some o => o.after.all fun e => !Region.binds .any e || decide (e.on < i)
  | none => true
theorem backB2_spec {ops : Array Oper} (h : Region.backB2 ops = true) {i : Nat} {o : Oper} (ho : ops[i]? = some o) : ∀ e ∈ o.after, Region.binds .any e = true → e.on < i := by
  have hi : i < ops.size := (Array.getElem?_eq_some_iff.1 ho).1
  have := List.all_eq_true.1 h i (List.mem_range.2 hi)
  rw [ho] at this
  intro e he hb
  have := Array.all_eq_true'.1 this e he
  simpa [hb] using this
section
variable {P : Program} {ops : Array Oper} {Q : Exit → Act → World → Prop}
theorem mono_any2 {n : Nat} {A : List Value → Act} {V : Nat → Value → World → Prop} {C : World → Prop}
    (hs : Region.sinkB .any ops n = true) (hc : Region.chainB .any ops n = true) (hn : n < ops.size) (hb : Region.backB2 ops = true)
    (hseq : Region.seqB .any ops (ops.size - n) n (fullA ops.size n) = true)
    (hV : ∀ i v w w', C w → V i v w → Below w.heap.size w w' → V i v w')
    (step : ∀ i, i < n → ∀ x, x.length = n → ∀ w, C w → (∀ j, Region.waitsFor .any ops i j = true → V j (x.getD j undef) w) → wpOp P ops Q i (fun a' w' => ∃ v, a' = A (x.set i v) ∧ V i v w' ∧ C w' ∧ Below w.heap.size w w') (A x) w)
    (tail : ∀ x, x.length = n → ∀ w, C w → (∀ j, j < n → V j (x.getD j undef) w) → wpList P ops Q (ops.toList.drop n) (A x) w) :
    ∀ (f : Nat) (listed : Array Bool) (x : List Value) (w : World), x.length = n → cntU listed n = f → HeadInv .any ops n listed → C w → (∀ j, j < n → listed.getD j false = true → V j (x.getD j undef) w) → wpAny P .any ops Q (f + (ops.size - n)) listed (A x) w := by
  intro f
  induction f with
  | zero =>
    intro listed x w hxl hf inv hC hx
    have hall := cntU_zero n hf
    have hfull := full_eq inv.size hall inv.tail
    rw [Nat.zero_add]
    have hl : (ops.toList.drop n).length = ops.size - n := by simp
    rw [← hl]
    refine wpAny_of_seq (ops.toList.drop n) n listed (A x) w (fun j => by simp) (by rw [hl, hfull]; exact hseq) (tail x hxl w hC fun j hj => hx j hj (hall j hj))
  | succ f ih =>
    intro listed x w hxl hf inv hC hx
    rw [show f + 1 + (ops.size - n) = (f + (ops.size - n)) + 1 by omega]
    obtain ⟨i0, hi0, hu0, hmin⟩ := cntU_some n (by rw [hf]; omega)
    have hrd0 : i0 ∈ Region.ready .any ops listed := by
      obtain ⟨o, ho⟩ : ∃ o, ops[i0]? = some o := ⟨_, Array.getElem?_eq_getElem (by omega)⟩
      exact mem_ready.2 ⟨getD_in (by rw [inv.size]; omega) hu0, o, ho, fun e he hbnd => hmin _ (backB2_spec hb ho e he hbnd)⟩
    refine ⟨fun h0 => (by rw [h0] at hrd0; cases hrd0), fun i hi => ?_⟩
    have hin : i < n := by
      rcases Nat.lt_or_ge i n with h | h
      · exact h
      · exact absurd hi (tail_waits hs hc hn inv _ i0 rfl hi0 (getD_in (by rw [inv.size]; omega) hu0) i h)
    obtain ⟨hun, oi, hoi, hall⟩ := mem_ready.1 hi
    refine wpOp_mono ?_ (step i hin x hxl w hC fun j hj => ?_)
    · rintro a' w' ⟨v, rfl, hv, hC', hB⟩
      refine ih _ _ _ (by rw [List.length_set]; exact hxl) ?_ (inv.set hi hin) hC' fun j hj hl => ?_
      · have := (cntU_set (listed := listed) (i := i) (by rw [inv.size]; omega) (getD_both hun) n).1 hin
        omega
      · by_cases hji : j = i
        · subst hji
          have : (x.set j v).getD j undef = v := by simp [List.getD_eq_getElem?_getD, hxl, hj]
          rw [this]
          exact hv
        · have : (x.set i v).getD j undef = x.getD j undef := by simp [List.getD_eq_getElem?_getD, List.getElem?_set_ne (fun e => hji e.symm)]
          rw [this]
          rw [getD_set_ne false (fun e => hji e.symm)] at hl
          exact hV _ _ _ _ hC (hx j hj hl) hB
    · obtain ⟨oj, hoj, e, he, hbnd, hon⟩ := Region.waitsFor_spec hj
      have : oj = oi := Option.some.inj (hoj.symm.trans hoi)
      subst this
      have h1 := hall e he hbnd
      rw [hon] at h1
      refine hx j ?_ h1
      have := backB2_spec hb hoj e he hbnd
      omega
end
/-- the region's checks, by the kernel -/
def Region.monoB2 (ops : Array Oper) (n : Nat) : Bool := Region.sinkB .any ops n && (Region.chainB .any ops n && (decide (n < ops.size) && (Region.backB2 ops && Region.seqB .any ops (ops.size - n) n (fullA ops.size n))))
theorem wp_region_mono2 {P : Program} {l : List Oper} {Q : Exit → Act → World → Prop} {id : Nat} {w0 : World} {a0 : Act} (n : Nat) (S : List Nat) (V : Nat → Value → World → Prop) (C : World → Prop) (x0 : List Value)
    (hm : P.follows .mixedOrders = true) (hB : Region.monoB2 l.toArray n = true) (h0 : a0 = putAll a0 S x0) (hx0 : x0.length = n) (hC : C w0.drew)
    (hV : ∀ i v w w', C w → V i v w → Below w.heap.size w w' → V i v w')
    (step : Steps P l.toArray Q n (putAll a0 S) V C 0 (l.take n))
    (tail : ∀ x, x.length = n → ∀ w, C w → (∀ j, j < n → V j (x.getD j undef) w) → wpList P l.toArray Q (l.drop n) (putAll a0 S x) w) : (Code.region id l.toArray true).wp P Q a0 w0 := by
  simp only [Region.monoB2, Bool.and_eq_true, decide_eq_true_eq] at hB
  obtain ⟨hs, hc, hn, hb, hseq⟩ := hB
  have hn' : n < l.length := by simpa using hn
  have htl : (l.take n).length = n := by simp; omega
  have hcnt : ∀ m, cntU (Array.replicate l.toArray.size false) m = m := fun m => by
    induction m with
    | zero => rfl
    | succ m ih => rw [cntU, ih, getD_replicate_false]; simp; omega
  refine wp_region_any hm ?_
  have := mono_any2 (P := P) (Q := Q) (A := putAll a0 S) (V := V) (C := C) hs hc hn hb hseq hV (fun i hi x hx w hC hd => by
    have h1 := step.at_ (fun j hj => by
      have : j < n := by rw [htl] at hj; exact hj
      simp [this]) i (by rw [htl]; exact hi) x hx w hC (by rw [Nat.zero_add]; exact hd)
    rw [Nat.zero_add] at h1
    exact h1) (by simpa using tail) n (Array.replicate l.toArray.size false) x0 w0.drew hx0 (hcnt n)
    ⟨by simp, fun j oj _ hl => (by rw [getD_replicate_false] at hl; cases hl), fun t _ ht => getD_in (by simpa using ht) (getD_replicate_false _ _)⟩ hC (fun j _ hl => (by rw [getD_replicate_false] at hl; cases hl))
  have hsz : n + (l.toArray.size - n) = l.toArray.size := by omega
  rw [hsz, ← h0] at this
  exact this
end Go.Proofs.YtebacdegjmcnlaaGreat
