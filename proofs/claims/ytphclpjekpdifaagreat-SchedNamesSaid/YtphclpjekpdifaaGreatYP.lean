import Derived.Test.YtphclpjekpdifaaGreatYM
import Derived.Test.YtphclpjekpdifaaGreatYN
import Derived.Test.YtphclpjekpdifaaGreatYO
namespace Go.Proofs.YtphclpjekpdifaaGreat
set_option maxRecDepth 20000
open Go.RowKit
open PS (Tx putM dropM setM findM Nod Ten Jb kOf St)
open Go.Proofs.YtphclpjekpdifaaGreat.Nm (str)
open Go.Proofs.YtphclpjekpdifaaGreat.Vc (RetBelow)
set_option linter.unusedVariables false
structure SAt (w : World) (b : Nat) (S : St) (m0 m1 m2 : Option Nat) (T : Nat → Prop) : Prop where
  box : w.heap[b]? = some (.cells #[.map m0, .map m1, .map m2] 91 (0, 0))
  own : T b
  lt : ∀ k, T k → k < w.heap.size
  n : ThAt nodV w m0 S.N
  t : ThAt tenV w m1 S.T
  j : ThAt jobV w m2 S.J
  on : ∀ k, m0 = some k → T k
  ot : ∀ k, m1 = some k → T k
  oj : ∀ k, m2 = some k → T k
  d01 : ∀ k, m0 = some k → m1 ≠ some k
  d02 : ∀ k, m0 = some k → m2 ≠ some k
  d12 : ∀ k, m1 = some k → m2 ≠ some k
def Sch (w : World) (b : Nat) (S : St) (T : Nat → Prop) : Prop := ∃ m0 m1 m2, SAt w b S m0 m1 m2 T
def Up (T : Nat → Prop) (w w' : World) (k : Nat) : Prop := T k ∨ (w.heap.size ≤ k ∧ k < w'.heap.size)
def SchTo (w w' : World) (b : Nat) (S' : St) (T : Nat → Prop) : Prop := ∃ T', Sch w' b S' T' ∧ (∀ k, T' k → Up T w w' k) ∧ Fr T w w'
theorem ThAt.lt {α : Type} {f : α → Value} {w : World} {m : Nat} {l : List (Tx × α)} (h : ThAt f w (some m) l) : m < w.heap.size := by
  rcases h with ⟨e, _⟩ | ⟨m', e, hm⟩
  · cases e
  · cases e; exact hm.lt
theorem ThAt.map {α : Type} {f : α → Value} {w : World} {m : Nat} {l : List (Tx × α)} (h : ThAt f w (some m) l) : MapAt f w m l := by
  rcases h with ⟨e, _⟩ | ⟨m', e, hm⟩
  · cases e
  · cases e; exact hm
theorem SAt.ne {w : World} {b : Nat} {S : St} {m0 m1 m2 : Option Nat} {T : Nat → Prop} (h : SAt w b S m0 m1 m2 T) : (∀ k, m0 = some k → k ≠ b) ∧ (∀ k, m1 = some k → k ≠ b) ∧ (∀ k, m2 = some k → k ≠ b) := by
  refine ⟨fun k e hk => ?_, fun k e hk => ?_, fun k e hk => ?_⟩
  · subst e hk
    obtain ⟨es, c, hh⟩ := h.n.map.block
    rw [h.box] at hh; cases hh
  · subst e hk
    obtain ⟨es, c, hh⟩ := h.t.map.block
    rw [h.box] at hh; cases hh
  · subst e hk
    obtain ⟨es, c, hh⟩ := h.j.map.block
    rw [h.box] at hh; cases hh
theorem SAt.keep {w w' : World} {b : Nat} {S : St} {m0 m1 m2 : Option Nat} {T : Nat → Prop} (h : SAt w b S m0 m1 m2 T) (hs : w.heap.size ≤ w'.heap.size) (hk : ∀ k, T k → w'.heap[k]? = w.heap[k]?) : SAt w' b S m0 m1 m2 T :=
  ⟨(hk b h.own).trans h.box, h.own, fun k hT => Nat.lt_of_lt_of_le (h.lt k hT) hs, h.n.keep fun m e => hk m (h.on m e), h.t.keep fun m e => hk m (h.ot m e), h.j.keep fun m e => hk m (h.oj m e), h.on, h.ot, h.oj, h.d01, h.d02, h.d12⟩
theorem SAt.below {w w' : World} {b : Nat} {S : St} {m0 m1 m2 : Option Nat} {T : Nat → Prop} (h : SAt w b S m0 m1 m2 T) (hb : Below w.heap.size w w') : SAt w' b S m0 m1 m2 T :=
  h.keep hb.size fun k hT => hb.block k (h.lt k hT)
theorem Sch.below {w w' : World} {b : Nat} {S : St} {T : Nat → Prop} (h : Sch w b S T) (hb : Below w.heap.size w w') : Sch w' b S T := by
  obtain ⟨m0, m1, m2, h⟩ := h
  exact ⟨m0, m1, m2, h.below hb⟩
theorem Sch.lt {w : World} {b : Nat} {S : St} {T : Nat → Prop} (h : Sch w b S T) : ∀ k, T k → k < w.heap.size := by
  obtain ⟨m0, m1, m2, h⟩ := h
  exact h.lt
theorem Sch.to {w w' : World} {b : Nat} {S : St} {T : Nat → Prop} (h : Sch w b S T) (hb : Below w.heap.size w w') : SchTo w w' b S T := ⟨T, h.below hb, fun k hk => .inl hk, Fr.of_below hb⟩
theorem SchTo.from_ {w w2 w3 : World} {b : Nat} {S' : St} {T : Nat → Prop} (hb : Below w.heap.size w w2) (h : SchTo w2 w3 b S' T) : SchTo w w3 b S' T := by
  obtain ⟨T', h1, h2, h3⟩ := h
  refine ⟨T', h1, fun k hk => ?_, (Fr.of_below hb).trans h3 fun i q => .inl q⟩
  rcases h2 k hk with q | q
  · exact .inl q
  · exact .inr ⟨Nat.le_trans hb.size q.1, q.2⟩
theorem SchTo.go {w w1 w2 : World} {b : Nat} {S' : St} {T T1 : Nat → Prop} (hu : ∀ k, T1 k → Up T w w1 k) (hf : Fr T w w1) (h : SchTo w1 w2 b S' T1) : SchTo w w2 b S' T := by
  obtain ⟨T2, h1, h2, h3⟩ := h
  refine ⟨T2, h1, fun k hk => ?_, hf.trans h3 fun i hi => (hu i hi).elim .inl fun q => .inr q.1⟩
  rcases h2 k hk with q | q
  · rcases hu k q with q | q
    · exact .inl q
    · exact .inr ⟨q.1, by have := h3.size; omega⟩
  · exact .inr ⟨by have := hf.size; omega, q.2⟩
theorem SchTo.after {w w1 w2 : World} {b : Nat} {S' : St} {T : Nat → Prop} (h : SchTo w w1 b S' T) (hb : Below w1.heap.size w1 w2) : SchTo w w2 b S' T := by
  obtain ⟨T1, h1, h2, h3⟩ := h
  exact SchTo.go h2 h3 (h1.to hb)
theorem box_cells {w : World} {b : Nat} {m0 m1 m2 : Option Nat} (h : w.heap[b]? = some (.cells #[.map m0, .map m1, .map m2] 91 (0, 0))) : w.cell? ⟨b, 0, none⟩ = some (.map m0) ∧ w.cell? ⟨b, 1, none⟩ = some (.map m1) ∧ w.cell? ⟨b, 2, none⟩ = some (.map m2) := by
  refine ⟨?_, ?_, ?_⟩
  all_goals (rw [Lib.cell_of_heap h]; rfl)
theorem putN_sch {w : World} {b : Nat} {S : St} {m0 m1 m2 : Option Nat} {T : Nat → Prop} (h : SAt w b S m0 m1 m2 T) (s : Tx) (v : Nod) (hs : s.length ≤ 281474976710656) (hl : S.N.length ≤ 1000000) :
    Calls Tryz.prog 81 #[.pointer (some ⟨b, 0, none⟩), .string (str s), nodV v] w fun e w' => e = .returned (.tuple #[]) ∧ SchTo w w' b ⟨setM (kOf s) v S.N, S.T, S.J⟩ T := by
  have hc := box_cells h.box
  have hne := h.ne
  have hbl := h.lt b h.own
  rcases h.n with ⟨rfl, hS⟩ | ⟨m, rfl, hm0⟩
  · refine (putN_nil s v w hc.1 (Lib.frozen_of_heap h.box 0) hs).mono ?_
    rintro e w' ⟨rfl, hm, hbx, hf⟩
    rw [← hS] at hm
    have hlt := hm.lt
    refine ⟨rfl, fun k => T k ∨ k = w.heap.size + 1, ⟨some (w.heap.size + 1), m1, m2, ?_, .inl h.own, fun k hk => ?_, .inr ⟨_, rfl, hm⟩, h.t.keep fun k e => hf.block k (h.lt k (h.ot k e)) ((hne).2.1 k e), h.j.keep fun k e => hf.block k (h.lt k (h.oj k e)) ((hne).2.2 k e), (fun k e => by cases e; exact .inr rfl), (fun k e => .inl (h.ot k e)), (fun k e => .inl (h.oj k e)), (fun k e e2 => by cases e; have := h.lt _ (h.ot _ e2); omega), (fun k e e2 => by cases e; have := h.lt _ (h.oj _ e2); omega), h.d12⟩, fun k hk => ?_, hf.mono fun k e => e ▸ h.own⟩
    · rw [hbx, Wi.heap_set w b 0 _ _ _ h.box]; rfl
    · rcases hk with hk | rfl
      · exact Nat.lt_of_lt_of_le (h.lt k hk) hf.size
      · exact hlt
    · rcases hk with hk | rfl
      · exact .inl hk
      · exact .inr ⟨by omega, hlt⟩
  · refine (putN_some s v w hc.1 hm0 hs hl).mono ?_
    rintro e w' ⟨rfl, hm, hf⟩
    refine ⟨rfl, T, ⟨some m, m1, m2, (hf.block b hbl (fun e => hne.1 _ rfl e.symm)).trans h.box, h.own, fun k hk => Nat.lt_of_lt_of_le (h.lt k hk) hf.size, .inr ⟨_, rfl, hm⟩, h.t.keep fun k e => hf.block k (h.lt k (h.ot k e)) (fun e2 => (by subst e2; exact h.d01 _ rfl e)), h.j.keep fun k e => hf.block k (h.lt k (h.oj k e)) (fun e2 => (by subst e2; exact h.d02 _ rfl e)), h.on, h.ot, h.oj, h.d01, h.d02, h.d12⟩, fun k hk => .inl hk, hf.mono fun k e => e ▸ h.on _ rfl⟩
theorem remN_sch {w : World} {b : Nat} {S : St} {m0 m1 m2 : Option Nat} {T : Nat → Prop} (h : SAt w b S m0 m1 m2 T) (s : Tx) (hs : s.length ≤ 281474976710656) (hne0 : S.N ≠ []) :
    Calls Tryz.prog 82 #[.pointer (some ⟨b, 0, none⟩), .string (str s)] w fun e w' => e = .returned (.tuple #[]) ∧ SchTo w w' b ⟨dropM (kOf s) S.N, S.T, S.J⟩ T := by
  have hc := box_cells h.box
  have hne := h.ne
  have hbl := h.lt b h.own
  rcases h.n with ⟨rfl, hS⟩ | ⟨m, rfl, hm0⟩
  · exact absurd hS hne0
  · refine (remN_some s w hc.1 hm0 hs).mono ?_
    rintro e w' ⟨rfl, hm, hf⟩
    refine ⟨rfl, T, ⟨some m, m1, m2, (hf.block b hbl (fun e => hne.1 _ rfl e.symm)).trans h.box, h.own, fun k hk => Nat.lt_of_lt_of_le (h.lt k hk) hf.size, .inr ⟨_, rfl, hm⟩, h.t.keep fun k e => hf.block k (h.lt k (h.ot k e)) (fun e2 => (by subst e2; exact h.d01 _ rfl e)), h.j.keep fun k e => hf.block k (h.lt k (h.oj k e)) (fun e2 => (by subst e2; exact h.d02 _ rfl e)), h.on, h.ot, h.oj, h.d01, h.d02, h.d12⟩, fun k hk => .inl hk, hf.mono fun k e => e ▸ h.on _ rfl⟩
theorem putT_sch {w : World} {b : Nat} {S : St} {m0 m1 m2 : Option Nat} {T : Nat → Prop} (h : SAt w b S m0 m1 m2 T) (s : Tx) (v : Ten) (hs : s.length ≤ 281474976710656) (hl : S.T.length ≤ 1000000) :
    Calls Tryz.prog 84 #[.pointer (some ⟨b, 1, none⟩), .string (str s), tenV v] w fun e w' => e = .returned (.tuple #[]) ∧ SchTo w w' b ⟨S.N, setM (kOf s) v S.T, S.J⟩ T := by
  have hc := box_cells h.box
  have hne := h.ne
  have hbl := h.lt b h.own
  rcases h.t with ⟨rfl, hS⟩ | ⟨m, rfl, hm0⟩
  · refine (putT_nil s v w hc.2.1 (Lib.frozen_of_heap h.box 1) hs).mono ?_
    rintro e w' ⟨rfl, hm, hbx, hf⟩
    rw [← hS] at hm
    have hlt := hm.lt
    refine ⟨rfl, fun k => T k ∨ k = w.heap.size + 1, ⟨m0, some (w.heap.size + 1), m2, ?_, .inl h.own, fun k hk => ?_, h.n.keep fun k e => hf.block k (h.lt k (h.on k e)) ((hne).1 k e), .inr ⟨_, rfl, hm⟩, h.j.keep fun k e => hf.block k (h.lt k (h.oj k e)) ((hne).2.2 k e), (fun k e => .inl (h.on k e)), (fun k e => by cases e; exact .inr rfl), (fun k e => .inl (h.oj k e)), (fun k e e2 => by cases e2; have := h.lt _ (h.on _ e); omega), h.d02, (fun k e e2 => by cases e; have := h.lt _ (h.oj _ e2); omega)⟩, fun k hk => ?_, hf.mono fun k e => e ▸ h.own⟩
    · rw [hbx, Wi.heap_set w b 1 _ _ _ h.box]; rfl
    · rcases hk with hk | rfl
      · exact Nat.lt_of_lt_of_le (h.lt k hk) hf.size
      · exact hlt
    · rcases hk with hk | rfl
      · exact .inl hk
      · exact .inr ⟨by omega, hlt⟩
  · refine (putT_some s v w hc.2.1 hm0 hs hl).mono ?_
    rintro e w' ⟨rfl, hm, hf⟩
    refine ⟨rfl, T, ⟨m0, some m, m2, (hf.block b hbl (fun e => hne.2.1 _ rfl e.symm)).trans h.box, h.own, fun k hk => Nat.lt_of_lt_of_le (h.lt k hk) hf.size, h.n.keep fun k e => hf.block k (h.lt k (h.on k e)) (fun e2 => (by subst e2; exact h.d01 _ e rfl)), .inr ⟨_, rfl, hm⟩, h.j.keep fun k e => hf.block k (h.lt k (h.oj k e)) (fun e2 => (by subst e2; exact h.d12 _ rfl e)), h.on, h.ot, h.oj, h.d01, h.d02, h.d12⟩, fun k hk => .inl hk, hf.mono fun k e => e ▸ h.ot _ rfl⟩
theorem putJ_sch {w : World} {b : Nat} {S : St} {m0 m1 m2 : Option Nat} {T : Nat → Prop} (h : SAt w b S m0 m1 m2 T) (s : Tx) (v : Jb) (hs : s.length ≤ 281474976710656) (hl : S.J.length ≤ 1000000) :
    Calls Tryz.prog 91 #[.pointer (some ⟨b, 2, none⟩), .string (str s), jobV v] w fun e w' => e = .returned (.tuple #[]) ∧ SchTo w w' b ⟨S.N, S.T, setM (kOf s) v S.J⟩ T := by
  have hc := box_cells h.box
  have hne := h.ne
  have hbl := h.lt b h.own
  rcases h.j with ⟨rfl, hS⟩ | ⟨m, rfl, hm0⟩
  · refine (putJ_nil s v w hc.2.2 (Lib.frozen_of_heap h.box 2) hs).mono ?_
    rintro e w' ⟨rfl, hm, hbx, hf⟩
    rw [← hS] at hm
    have hlt := hm.lt
    refine ⟨rfl, fun k => T k ∨ k = w.heap.size + 1, ⟨m0, m1, some (w.heap.size + 1), ?_, .inl h.own, fun k hk => ?_, h.n.keep fun k e => hf.block k (h.lt k (h.on k e)) ((hne).1 k e), h.t.keep fun k e => hf.block k (h.lt k (h.ot k e)) ((hne).2.1 k e), .inr ⟨_, rfl, hm⟩, (fun k e => .inl (h.on k e)), (fun k e => .inl (h.ot k e)), (fun k e => by cases e; exact .inr rfl), h.d01, (fun k e e2 => by cases e2; have := h.lt _ (h.on _ e); omega), (fun k e e2 => by cases e2; have := h.lt _ (h.ot _ e); omega)⟩, fun k hk => ?_, hf.mono fun k e => e ▸ h.own⟩
    · rw [hbx, Wi.heap_set w b 2 _ _ _ h.box]; rfl
    · rcases hk with hk | rfl
      · exact Nat.lt_of_lt_of_le (h.lt k hk) hf.size
      · exact hlt
    · rcases hk with hk | rfl
      · exact .inl hk
      · exact .inr ⟨by omega, hlt⟩
  · refine (putJ_some s v w hc.2.2 hm0 hs hl).mono ?_
    rintro e w' ⟨rfl, hm, hf⟩
    refine ⟨rfl, T, ⟨m0, m1, some m, (hf.block b hbl (fun e => hne.2.2 _ rfl e.symm)).trans h.box, h.own, fun k hk => Nat.lt_of_lt_of_le (h.lt k hk) hf.size, h.n.keep fun k e => hf.block k (h.lt k (h.on k e)) (fun e2 => (by subst e2; exact h.d02 _ e rfl)), h.t.keep fun k e => hf.block k (h.lt k (h.ot k e)) (fun e2 => (by subst e2; exact h.d12 _ e rfl)), .inr ⟨_, rfl, hm⟩, h.on, h.ot, h.oj, h.d01, h.d02, h.d12⟩, fun k hk => .inl hk, hf.mono fun k e => e ▸ h.oj _ rfl⟩
theorem remJ_sch {w : World} {b : Nat} {S : St} {m0 m1 m2 : Option Nat} {T : Nat → Prop} (h : SAt w b S m0 m1 m2 T) (s : Tx) (hs : s.length ≤ 281474976710656) (hne0 : S.J ≠ []) :
    Calls Tryz.prog 89 #[.pointer (some ⟨b, 2, none⟩), .string (str s)] w fun e w' => e = .returned (.tuple #[]) ∧ SchTo w w' b ⟨S.N, S.T, dropM (kOf s) S.J⟩ T := by
  have hc := box_cells h.box
  have hne := h.ne
  have hbl := h.lt b h.own
  rcases h.j with ⟨rfl, hS⟩ | ⟨m, rfl, hm0⟩
  · exact absurd hS hne0
  · refine (remJ_some s w hc.2.2 hm0 hs).mono ?_
    rintro e w' ⟨rfl, hm, hf⟩
    refine ⟨rfl, T, ⟨m0, m1, some m, (hf.block b hbl (fun e => hne.2.2 _ rfl e.symm)).trans h.box, h.own, fun k hk => Nat.lt_of_lt_of_le (h.lt k hk) hf.size, h.n.keep fun k e => hf.block k (h.lt k (h.on k e)) (fun e2 => (by subst e2; exact h.d02 _ e rfl)), h.t.keep fun k e => hf.block k (h.lt k (h.ot k e)) (fun e2 => (by subst e2; exact h.d12 _ e rfl)), .inr ⟨_, rfl, hm⟩, h.on, h.ot, h.oj, h.d01, h.d02, h.d12⟩, fun k hk => .inl hk, hf.mono fun k e => e ▸ h.oj _ rfl⟩
end Go.Proofs.YtphclpjekpdifaaGreat
