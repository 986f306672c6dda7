import Derived.Test.YtggndipfholllaaLtorn
import Derived.OneCell
namespace Go.Proofs.Ytggndipfholllaa
open Go.RowKit
open PlainDisk (File Disk)
set_option linter.unusedVariables false

def In (H : Nat → Prop) (v : Value) : Prop := ∀ k, v.ownBlock = some k → H k
theorem own_in {H : Nat → Prop} {w w' : World} {base e size n : Nat} {v : Value} {xs : List Value} (h : w.ownsRow base e size v n xs) (hi : In H v) (hk : Kp H w w') : w'.ownsRow base e size v n xs := by
  refine ⟨h.1, ?_⟩
  rcases h.2 with q | ⟨g, cap, cur, q1, hb, hh, r⟩
  · exact .inl q
  · exact .inr ⟨g, cap, cur, q1, hb, (hk g (hi g (by rw [q1]; rfl))).trans hh, r⟩
theorem own_apart {w : World} {base b2 e e2 size size2 n n2 m c : Nat} {v : Value} {g : Nat} {xs xs2 : List Value} (h : w.ownsRow base e size v n xs) (h2 : w.ownsRow b2 e2 size2 (.slice (some ⟨g, 0, none⟩) m c) n2 xs2) (he : e ≠ e2) : v.ownBlock ≠ some g := by
  intro q
  rcases h.2 with ⟨q2, _⟩ | ⟨g1, cap, cur, q1, hb, hh, r⟩
  · rw [q2] at q; cases q
  · rw [q1] at q
    injection q with q
    have q : g1 = g := q
    subst q
    rcases h2.2 with ⟨q2, _⟩ | ⟨g3, cap3, cur3, q2, _, hh2, _⟩
    · cases q2
    · injection q2 with q2
      injection q2 with q2
      injection q2 with q2
      subst q2
      rw [hh] at hh2
      injection hh2 with hh2
      injection hh2 with _ e1 _
      exact he e1
/-- the rows that the law has built: names, slices, numbers, and the bytes of the slices -/
structure Rws (w : World) (H : Nat → Prop) (vn va vi : Value) (names : List (List UInt8)) (vs : List Value) (sures : List Nat) (ls : List (List UInt8)) : Prop where
  n : OwnS w 0 vn names
  nH : In H vn
  v : OwnV w 0 va vs
  vH : In H va
  i : OwnI w 0 vi sures
  iH : In H vi
  len : ls.length = vs.length
  el : ∀ (j : Nat) (l : List UInt8), ls[j]? = some l → ∃ A c, vs[j]? = some (.slice A l.length c) ∧ OwnB w 0 (.slice A l.length c) l ∧ In H (.slice A l.length c)
section
variable {w w' : World} {H H' : Nat → Prop} {vn va vi : Value} {names : List (List UInt8)} {vs : List Value} {sures : List Nat} {ls : List (List UInt8)}
theorem Rws.kp (h : Rws w H vn va vi names vs sures ls) (hk : Kp H w w') : Rws w' H vn va vi names vs sures ls :=
  ⟨own_in h.n h.nH hk, h.nH, own_in h.v h.vH hk, h.vH, own_in h.i h.iH hk, h.iH, h.len, fun j l hl => by
    obtain ⟨A, c, q1, q2, q3⟩ := h.el j l hl
    exact ⟨A, c, q1, own_in q2 q3 hk, q3⟩⟩
theorem Rws.belows (h : Rws w H vn va vi names vs sures ls) (hb : Below w.heap.size w w') : Rws w' H vn va vi names vs sures ls := by
  have hk : ∀ k, 0 ≤ k → k < w.heap.size → w'.heap[k]? = w.heap[k]? := fun k _ h2 => hb.block k h2
  exact ⟨own_kp h.n hk, h.nH, own_kp h.v hk, h.vH, own_kp h.i hk, h.iH, h.len, fun j l hl => by
    obtain ⟨A, c, q1, q2, q3⟩ := h.el j l hl
    exact ⟨A, c, q1, own_kp q2 hk, q3⟩⟩
theorem Rws.wider (h : Rws w H vn va vi names vs sures ls) (hH : ∀ k, H k → H' k) : Rws w H' vn va vi names vs sures ls :=
  ⟨h.n, fun k q => hH k (h.nH k q), h.v, fun k q => hH k (h.vH k q), h.i, fun k q => hH k (h.iH k q), h.len, fun j l hl => by
    obtain ⟨A, c, q1, q2, q3⟩ := h.el j l hl
    exact ⟨A, c, q1, q2, fun k q => hH k (q3 k q)⟩⟩
theorem Rws.store {g n c cb j : Nat} {Ab : Option Addr} {l : List UInt8} (h : Rws w H vn (.slice (some ⟨g, 0, none⟩) vs.length c) vi names vs sures ls) (hl : OwnB w 0 (.slice Ab l.length cb) l) (hi : In H (.slice Ab l.length cb)) (hj : j < vs.length) :
    Rws (w.setCell ⟨g, j, none⟩ (.slice Ab l.length cb)) H vn (.slice (some ⟨g, 0, none⟩) vs.length c) vi names (vs.set j (.slice Ab l.length cb)) sures (ls.set j l) := by
  have HV : w.ownsRow 0 28 1 (.slice (some ⟨g, 0, none⟩) vs.length c) vs.length vs := h.v
  have hv := (World.ownsRow.stored HV j (.slice Ab l.length cb)).1
  have HN : w.ownsRow 0 9 1 vn names.length (sV names) := h.n
  have HI : w.ownsRow 0 3 1 vi sures.length (iV sures) := h.i
  have a1 : vn.ownBlock ≠ some g := own_apart HN HV (by decide)
  have a2 : vi.ownBlock ≠ some g := own_apart HI HV (by decide)
  have a3 : ∀ (A : Option Addr) (c2 : Nat) (x : List UInt8), OwnB w 0 (.slice A x.length c2) x → OwnB (w.setCell ⟨g, j, none⟩ (.slice Ab l.length cb)) 0 (.slice A x.length c2) x := fun A c2 x q => by
    have Q : w.ownsRow 0 5 1 (.slice A x.length c2) x.length (vB x) := q
    have a4 : (Value.slice A x.length c2).ownBlock ≠ some g := own_apart Q HV (by decide)
    exact ownsRow_setCell_other (a := ⟨g, j, none⟩) Q a4 _
  refine ⟨ownsRow_setCell_other (a := ⟨g, j, none⟩) HN a1 _, h.nH, ?_, h.vH, ownsRow_setCell_other (a := ⟨g, j, none⟩) HI a2 _, h.iH, by simp [h.len], fun k x hx => ?_⟩
  · unfold OwnV
    rw [List.length_set]
    exact hv
  · by_cases e : j = k
    · subst e
      rw [List.getElem?_set_self (by rw [h.len]; exact hj)] at hx
      injection hx with hx
      subst hx
      exact ⟨Ab, cb, List.getElem?_set_self hj, a3 _ _ _ hl, hi⟩
    · rw [List.getElem?_set_ne e] at hx
      obtain ⟨A, c2, q1, q2, q3⟩ := h.el k x hx
      exact ⟨A, c2, by rw [List.getElem?_set_ne e]; exact q1, a3 _ _ _ q2, q3⟩
/-- as the law's first loop leaves them -/
theorem Rws.made {B B2 : Nat} (h1 : OwnS w B vn names) (h2 : OwnV w B2 va vs) (h3 : OwnI w B2 vi sures) (h4 : Was w B ls vs) (hB : B ≤ B2) : Rws w (fun k => B ≤ k ∧ k < w.heap.size) vn va vi names vs sures ls :=
  ⟨own_mono h1 (Nat.zero_le _), fun k q => h1.lt k q, own_mono h2 (Nat.zero_le _), fun k q => ⟨Nat.le_trans hB (h2.lt k q).1, (h2.lt k q).2⟩, own_mono h3 (Nat.zero_le _), fun k q => ⟨Nat.le_trans hB (h3.lt k q).1, (h3.lt k q).2⟩, h4.1, fun j l hl => by
    obtain ⟨A, c, q1, q2⟩ := h4.2 j l hl
    exact ⟨A, c, q1, own_mono q2 (Nat.zero_le _), fun k q => q2.lt k q⟩⟩
/-- the slice at j takes another's place, whatever length the row's value names -/
theorem Rws.stored {g n c cb j : Nat} {Ab : Option Addr} {l : List UInt8} (h : Rws w H vn (.slice (some ⟨g, 0, none⟩) n c) vi names vs sures ls) (hn : n = vs.length) (hl : OwnB w 0 (.slice Ab l.length cb) l) (hi : In H (.slice Ab l.length cb)) (hj : j < n) :
    Rws (w.setCell ⟨g, j, none⟩ (.slice Ab l.length cb)) H vn (.slice (some ⟨g, 0, none⟩) n c) vi names (vs.set j (.slice Ab l.length cb)) sures (ls.set j l) := by
  subst hn
  exact h.store (n := 0) hl hi hj
theorem Cx.store {wi : World} {b g o : Nat} {D : Disk} {u : Value} (h : Cx w wi b D H) (hg : H g) (hw : w.heap.size ≤ g) : Cx w (wi.setCell ⟨g, o, none⟩ u) b D H := by
  obtain ⟨⟨S, h1, h2⟩, h3, h4, h5⟩ := h
  have hs : (wi.setCell ⟨g, o, none⟩ u).heap.size = wi.heap.size := by simp [World.setCell]
  refine ⟨⟨S, h1.frame fun k x hx hS => ?_, fun k hk => ⟨(h2 k hk).1, by rw [hs]; exact (h2 k hk).2.1, (h2 k hk).2.2⟩⟩, h3.setCell hw _, h4, fun k hk => by rw [hs]; exact h5 k hk⟩
  rw [Below.heap_setCell _ _ _ k (fun q => (h2 k hS).2.2 (by rw [q]; exact hg))]
  exact hx
end
theorem OwnB.byteAt {w : World} {base : Nat} {A : Option Addr} {n c : Nat} {l : List UInt8} (h : OwnB w base (.slice A n c) l) {i : Nat} {x : UInt8} (hi : l[i]? = some x) : ∃ g, A = some ⟨g, 0, none⟩ ∧ w.cell? ⟨g, i, none⟩ = some (.int .u8 (x.toNat : Int)) := by
  rcases h.2 with ⟨_, q⟩ | ⟨g, cap, cur, e, hb, hh, h1, h2, h3, h4⟩
  · have : l = [] := List.eq_nil_of_length_eq_zero q
    subst this; simp at hi
  · injection e with e1
    refine ⟨g, e1, ?_⟩
    rw [Lib.cell_of_heap hh]
    show cur[i]? = some _
    rw [← Array.getElem?_toList]
    have hl := (List.getElem?_eq_some_iff.1 hi).1
    have hv : (vB l)[i]? = some (.int .u8 (x.toNat : Int)) := by simp [vB, hi]
    rw [← h4, List.getElem?_take] at hv
    split at hv
    · exact hv
    · omega
end Go.Proofs.Ytggndipfholllaa
