import Derived.Test.YtnnakfhkejdfcaaItem
namespace Go.Proofs.Ytnnakfhkejdfcaa
open Go.RowKit Pl
set_option linter.unusedVariables false

theorem listAny_no {f g : Nat} {bs : List UInt8} {left : Nat} {w w' : World} (h : plist f left bs = none) (hg : w.grownBy w' (some g)) : ListAny f g bs left w (.panicked RefPanic) w' :=
  ⟨fun t r l h' => (by rw [h] at h'; cases h'), fun _ => rfl, hg⟩
theorem listAny_yes {f g : Nat} {bs r : List UInt8} {left left' : Nat} {l : List It} {A : Option Addr} {cap : Nat} {w w' : World} (h : plist f left bs = some (l, r, left')) (hl : l.length ≤ 4096) (hv : AreIts w' (NewB w w') l A 0) (hr : RSt w' g r left') (hg : w.grownBy w' (some g)) :
    ListAny f g bs left w (.returned (.slice A l.length cap)) w' :=
  ⟨fun t' r' l' h' => (by rw [h] at h'; simp only [Option.some.injEq, Prod.mk.injEq] at h'; obtain ⟨rfl, rfl, rfl⟩ := h'; exact ⟨A, cap, rfl, hl, hv, hr⟩), fun h' => (by rw [h] at h'; cases h'), hg⟩

/-- what the loop has read so far: ts; the rest is to be read off bs -/
def ListRel (f n g : Nat) (full : Option (List It × List UInt8 × Nat)) (w : World) (u i : Value) (wr : World) : Prop :=
  ∃ (j : Nat) (ts : List It) (bs : List UInt8) (left : Nat) (xs : List Value), j ≤ n ∧ ts.length = j ∧ i = .int .u64 j ∧ full = (pmany (pit f) (n - j) left bs).map (fun x => (ts ++ x.1, x.2)) ∧ RSt wr g bs left ∧ left ≤ 4096 ∧
    wr.ownsRow w.heap.size 26 4 u j xs ∧ ItsIn wr (fun q => NewB w wr q ∧ u.ownBlock ≠ some q) ts xs ∧ w.grownBy wr (some g)

theorem pit_left {f left left' : Nat} {bs r : List UInt8} {t : It} (h : pit f left bs = some (t, r, left')) : left' ≤ left := by
  obtain ⟨_, _, a, b, _⟩ := of_pit f bs left t r left' h
  have := cnt_pos t
  omega

theorem listRel_no {f n j left : Nat} {bs : List UInt8} {ts : List It} {full : Option (List It × List UInt8 × Nat)} (hj : j < n) (hf : full = (pmany (pit f) (n - j) left bs).map (fun x => (ts ++ x.1, x.2))) (hp : pit f left bs = none) : full = none := by
  rw [hf, show n - j = (n - j - 1) + 1 from by omega, pmany, hp]; rfl
theorem listRel_yes {f n j left left' : Nat} {bs r : List UInt8} {t : It} {ts : List It} {full : Option (List It × List UInt8 × Nat)} (hj : j < n) (hf : full = (pmany (pit f) (n - j) left bs).map (fun x => (ts ++ x.1, x.2))) (hp : pit f left bs = some (t, r, left')) :
    full = (pmany (pit f) (n - (j + 1)) left' r).map (fun x => (ts ++ [t] ++ x.1, x.2)) := by
  rw [hf, show n - j = (n - (j + 1)) + 1 from by omega, pmany, hp]
  simp only []
  cases pmany (pit f) (n - (j + 1)) left' r with
  | none => rfl
  | some y => obtain ⟨a, b, c⟩ := y; simp

/-- the row and the trees behind an append -/
theorem listRel_step {f n g j left left' : Nat} {bs r : List UInt8} {t : It} {ts : List It} {xs : List Value} {full : Option (List It × List UInt8 × Nat)} {w wr w2 w3 w4 : World} {u v' u0 u1 u2 u3 : Value} {o : Obj} (hj : j < n) (hts : ts.length = j)
    (hf : full = (pmany (pit f) (n - j) left bs).map (fun x => (ts ++ x.1, x.2))) (hp : pit f left bs = some (t, r, left')) (hl : left ≤ 4096) (hgw : g < w.heap.size)
    (hgr : w.grownBy wr (some g)) (hown : wr.ownsRow w.heap.size 26 4 u j xs) (hits : ItsIn wr (fun q => NewB w wr q ∧ u.ownBlock ≠ some q) ts xs)
    (hg2 : wr.grownBy w2 (some g)) (ht : IsIt w2 (NewB wr w2) t (.agg #[u0, u1, u2, u3])) (hr : RSt w2 g r left') (h3 : w3 = w2.alloc o)
    (hown4 : w4.ownsRow w.heap.size 26 4 v' (j + 1) (xs ++ [u0, u1, u2, u3])) (hg4 : w3.grownBy w4 u.ownBlock) (hat : v'.ownBlock = u.ownBlock ∨ v'.ownBlock = some w3.heap.size) :
    ListRel f n g full w v' (.int .u64 ((j : Int) + 1)) w4 := by
  subst h3
  have hlt := hown.lt
  have s1 := hgr.size
  have s2 := hg2.size
  have s3 : w2.heap.size + 1 ≤ w4.heap.size := by have := hg4.size; simpa using this
  have hsz : (w2.alloc o).heap.size = w2.heap.size + 1 := World.size_alloc _ _
  have k23 : ∀ q, q < w2.heap.size → u.ownBlock ≠ some q → w4.heap[q]? = w2.heap[q]? := fun q hq hne =>
    (hg4.block q (by omega) (fun e => hne e.symm)).trans (Below.heap_alloc _ _ q hq)
  have hv' : ∀ q, q < w2.heap.size → u.ownBlock ≠ some q → v'.ownBlock ≠ some q := by
    intro q hq hne e
    rcases hat with h | h
    · exact hne (h ▸ e)
    · rw [h] at e; injection e with e; omega
  refine ⟨j + 1, ts ++ [t], r, left', xs ++ [u0, u1, u2, u3], by omega, by simp [hts], by rw [Int.natCast_add]; rfl, listRel_yes hj hf hp, ?_, Nat.le_trans (pit_left hp) hl, hown4, ?_, ?_⟩
  · exact hr.keep fun q hq => k23 q (by omega) (fun e => by have := hlt q e; omega)
  · refine ItsIn.snoc ?_ (ItsIn.keep (w := wr) (S := fun q => NewB w wr q ∧ u.ownBlock ≠ some q) ?_ ?_ hits)
    · refine IsIt.mono (fun q hq => ?_) t (IsIt.keep (fun q hq => k23 q hq.2 (fun e => by have := hlt q e; have := hq.1; omega)) t ht)
      exact ⟨⟨by have := hq.1; omega, by have := hq.2; omega⟩, hv' q hq.2 (fun e => by have := hlt q e; have := hq.1; omega)⟩
    · intro q hq
      have a1 := hq.1.1
      have a2 := hq.1.2
      exact (k23 q (by omega) hq.2).trans (hg2.block q a2 (by simp; omega))
    · intro q hq
      have a1 := hq.1.1
      have a2 := hq.1.2
      exact ⟨⟨a1, by omega⟩, hv' q (by omega) hq.2⟩
  · have hw2 := grownBy_trans hgr hg2
    exact ⟨hg4.os.trans hw2.os, hg4.tape.trans hw2.tape, hg4.output.trans hw2.output, by omega, fun q hq hne => (k23 q (by omega) (fun e => by have := hlt q e; omega)).trans (hw2.block q hq hne)⟩

theorem list_fin {f g j left left' : Nat} {bs r : List UInt8} {ts : List It} {xs : List Value} {w wr : World} {u : Value} (h : plist f left bs = some (ts, r, left')) (hts : ts.length = j) (hj : j ≤ 4096) (hown : wr.ownsRow w.heap.size 26 4 u j xs)
    (hits : ItsIn wr (fun q => NewB w wr q ∧ u.ownBlock ≠ some q) ts xs) (hr : RSt wr g r left') (hg : w.grownBy wr (some g)) : ListAny f g bs left w (.returned u) wr := by
  have hown0 := hown
  rcases hown.2 with ⟨rfl, h0⟩ | ⟨b, cap, cur, rfl, hb, hh, _⟩
  · obtain rfl : ts = [] := List.eq_nil_of_length_eq_zero (by omega)
    exact listAny_yes (cap := 0) h (by simp) (by rw [AreIts]; trivial) hr hg
  · subst hts
    refine listAny_yes h hj (ItsIn.are (b := b) ⟨hb, (Array.getElem?_eq_some_iff.1 hh).1⟩ (ItsIn.keep (fun _ _ => rfl) (fun q hq => hq.1) hits) fun q v hv => ?_) hr hg
    have := hown0.cells (g := b) rfl q v hv
    unfold Addr.add at this
    split at this
    · subst q; simpa using this
    · simpa using this

set_option maxRecDepth 20000 in
theorem list_any (f : Nat) (ih : ItemAll f) : ListAll f := by
  intro g bs left dp w h hl hd0 hf
  have HI := Lib.hid ih
  have HF := Lib.hid hf
  have hdp : dp ≤ 12 := by omega
  clear ih hf
  go_enter Try.func31, Try.ntmps31
  go_wp2_with fail
  refine (count_any g bs left _ h).mono ?_
  rintro e w1 ⟨hy, hn, hg1⟩
  cases hp : pcnt bs with
  | none =>
    obtain rfl := hn hp
    exact ⟨rfl, listAny_no (by rw [plist, hp]) hg1⟩
  | some x =>
    obtain ⟨n, r⟩ := x
    obtain ⟨rfl, hr1⟩ := hy n r hp
    have hnb := (of_pcnt hp).1
    have hglt := h.lt
    have hs1 := hg1.size
    have HP := Lib.hid hp
    have HG1 := Lib.hid hg1
    have HR1 := Lib.hid hr1
    clear hy hn hp hg1 hr1 h
    by_cases hle : (left : Int) < n
    · go_wp2_with fail
      refine (reserve_no g r left n w1 HR1.out hl hle (by omega)).mono ?_
      rintro e w2 ⟨rfl, hg2⟩
      exact ⟨rfl, listAny_no (by rw [plist, HP.out]; simp only []; rw [if_pos (by omega)]) (grownBy_trans HG1.out hg2)⟩
    go_wp2_with fail
    refine (reserve_yes g r left n w1 HR1.out hl (by omega)).mono ?_
    rintro e w2 ⟨rfl, hr2, hg2⟩
    have hgg := grownBy_trans HG1.out hg2
    have hs2 := hgg.size
    have HG2 := Lib.hid hgg
    have HR2 := Lib.hid hr2
    clear hg2 hr2 hgg
    go_wp2_with fail
    refine (grow_any (n : Int) w2 (by omega) (by omega)).mono ?_
    rintro e w3 ⟨v3, rfl, hown3, hb3⟩
    have hs3 := hb3.size
    have hfull : plist f left bs = pmany (pit f) n (left - n) r := by rw [plist, HP.out]; simp only []; rw [if_neg (by omega)]
    have hrel0 : ListRel f n g (plist f left bs) w v3 (.int .u64 ((0 : Nat) : Int)) w3 := by
      refine ⟨0, [], r, left - n, [], by omega, rfl, rfl, ?_, HR2.out.keep fun q hq => hb3.block q (by omega), by omega, ownsRow_base hown3 hs2, rfl, grownBy_belowB HG2.out (hb3.mono hs2)⟩
      rw [hfull, Nat.sub_zero]
      cases pmany (pit f) n (left - n) r with
      | none => rfl
      | some y => rfl
    have HREL := Lib.hid hrel0
    clear hown3 hb3 hrel0 hfull
    go_wp2_with fail
    have hgw : g < w.heap.size := hglt
    go_loopw [6, 16] (fun u i wr => ListRel f n g (plist f left bs) w u i wr) (fun _ i _ => n - (intOf i).toNat)
    case atStart => exact HREL.out
    case round =>
      obtain ⟨j, ts, bj, lj, xs, hj, hts, rfl, hfj, hrj, hlj, hownj, hitsj, hgj⟩ := hrel
      have hsj := hgj.size
      by_cases hlt : j < n
      · have HTS := Lib.hid hts
        have HFJ := Lib.hid hfj
        have HRJ := Lib.hid hrj
        have HOJ := Lib.hid hownj
        have HIJ := Lib.hid hitsj
        have HGJ := Lib.hid hgj
        clear hts hfj hrj hownj hitsj hgj
        go_wp2_with fail
        refine (HI.out g bj lj (dp + 1) _ HRJ.out hlj (by omega) (by have := HF.out; omega)).mono ?_
        rintro e w4 ⟨hy, hn, hg4⟩
        cases hp : pit f lj bj with
        | none =>
          obtain rfl := hn hp
          exact ⟨rfl, listAny_no (listRel_no hlt HFJ.out hp) (grownBy_trans HGJ.out hg4)⟩
        | some x =>
          obtain ⟨t, rj, lj'⟩ := x
          obtain ⟨v4, rfl, hv4, hr4⟩ := hy t rj lj' hp
          have hv5 := hv4
          obtain ⟨k, m, s, l⟩ := t
          rw [IsIt] at hv5
          obtain ⟨a, c, rfl, _⟩ := hv5
          have hs4 := hg4.size
          have hown4 : w4.ownsRow w.heap.size 26 4 _ j xs := ownsRow_keep HOJ.out fun q hq => hg4.block q (HOJ.out.lt q hq).2 (by have := (HOJ.out.lt q hq).1; simp; omega)
          have HP4 := Lib.hid hp
          have HV4 := Lib.hid hv4
          have HR4 := Lib.hid hr4
          have HG4 := Lib.hid hg4
          clear hy hn hp hv4 hr4 hg4
          go_wp2_with (at_builtin; (refine wp_app4 rfl (.tmp 18) (.tmp 23) rfl w.heap.size _ j xs rfl (ownsRow_keep hown4 fun q hq => Below.heap_alloc _ _ q (hown4.lt q hq).2) _ _ rfl _ _ _ _ (by simp [go_sem]; rfl) (by simp [go_sem, Addr.add]; rfl) (by simp [go_sem, Addr.add]; rfl) (by simp [go_sem, Addr.add]; rfl) rfl rfl rfl rfl (by omega) (by simp; omega) ?_); intro v5 w5 hown5 hg5 hat5)
          go_roundw
          case rel => exact listRel_step hlt HTS.out HFJ.out HP4.out hlj hgw HGJ.out HOJ.out HIJ.out HG4.out HV4.out HR4.out rfl hown5 hg5 hat5
          case measure => simp [intOf]; omega
      · have ej : j = n := by omega
        have hpl : plist f left bs = some (ts, bj, lj) := by rw [hfj, ej, Nat.sub_self]; simp [pmany]
        have hfin := list_fin hpl hts (by omega) hownj hitsj hrj hgj
        have HFIN := Lib.hid hfin
        clear hfin hpl hts hfj hrj hownj hitsj hgj
        go_wp2_with fail
        go_ret
        exact HFIN.out

theorem item_all : ∀ f, ItemAll f := by
  intro f
  induction f with
  | zero => intro g bs left dp w h hl h0 hf; exact item_deep g bs left dp w (by omega)
  | succ f ih =>
    intro g bs left dp w h hl h0 hf
    cases bs with
    | nil => exact item_nil f g left dp w h (by omega)
    | cons k t =>
      by_cases k1 : k = 1
      · subst k1; exact item_num f g left t dp w h (by omega)
      by_cases k2 : k = 2
      · subst k2; exact item_text f g left t dp w h (by omega)
      by_cases k3 : k = 3
      · subst k3; exact item_list f g left (list_any f ih) t dp w h hl h0 (by omega) (by omega)
      have ne : ∀ m : UInt8, ¬ k = m → ((k.toNat : Int) == (m.toNat : Int)) = false := by
        intro m hm
        simp only [beq_eq_false_iff_ne, ne_eq]
        intro e
        exact hm (UInt8.toNat_inj.1 (by omega))
      exact item_kind f g left k t dp w h (by omega) (ne 1 k1) (ne 2 k2) (ne 3 k3)
end Go.Proofs.Ytnnakfhkejdfcaa
