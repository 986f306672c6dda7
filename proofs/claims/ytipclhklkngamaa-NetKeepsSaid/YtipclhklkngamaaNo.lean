import Derived.Test.YtipclhklkngamaaNn
namespace Go.Proofs.Ytipclhklkngamaa
open Go.RowKit
set_option linter.unusedVariables false

/-- a net, and a row of letters beside it -/
structure NG (W w : World) (b : Nat) (N : Net) (gv : Value) (q : List Let) : Prop where
  net : NC W w b N (fun k => gv.ownBlock = some k)
  row : OwnL w W.heap.size gv q
theorem NG.call {W w w' : World} {b : Nat} {N N' : Net} {gv : Value} {q : List Let} (h : NG W w b N gv q) (hn : NC W w' b N' (fun k => gv.ownBlock = some k)) (hk : Keep (fun k => gv.ownBlock = some k) w w') : NG W w' b N' gv q :=
  ⟨hn, h.row.keep fun g hg => hk.2 g hg⟩
theorem NG.after {W w w' : World} {b : Nat} {N : Net} {gv : Value} {q : List Let} (h : NG W w b N gv q) (hb : Below w.heap.size w w') : NG W w' b N gv q :=
  ⟨h.net.after hb, h.row.belows hb⟩
theorem NG.below {W w : World} {b : Nat} {N : Net} {gv : Value} {q : List Let} (h : NG W w b N gv q) : Below W.heap.size W w := h.net.below
theorem NG.start {W w : World} {b : Nat} {N : Net} (h : NC W w b N (fun _ => False)) : NG W (w.alloc (.cells #[] 32)) b N (.slice (some ⟨w.heap.size, 0, none⟩) 0 0) [] := by
  have hb : Below w.heap.size w (w.alloc (.cells #[] 32)) := (Below.refl _ w).alloc (Nat.le_refl _) _
  refine ⟨(h.hold hb).fewer fun k hk => .inr ?_, (OwnL.new w).mono h.below.size⟩
  injection hk with hk
  simp at hk ⊢
  omega
/-- the row has grown -/
theorem NG.grow {W w W1 w' : World} {b : Nat} {N : Net} {gv v' : Value} {q q' : List Let} (h : NG W w b N gv q) (hb : Below w.heap.size w W1) (hg : W1.grownBy w' gv.ownBlock) (ho : OwnL w' W.heap.size v' q') (hv : ∀ g, v'.ownBlock = some g → gv.ownBlock = some g ∨ W1.heap.size ≤ g) : NG W w' b N v' q' :=
  ⟨h.net.next ((Fr.of_below hb).grown hg fun k hk => .inl hk) (fun k hk => (h.row.lt k hk).1) (fun k hk => (hv k hk).imp id fun q => by have := hb.size; omega) (fun k hk => (ho.lt k hk).2), ho⟩
theorem ng_send {W w : World} {b : Nat} {N : Net} {gv : Value} {q : List Let} (h : NG W w b N gv q) (l : Let) (hf : Fit l) : Calls Try.prog 10 #[.pointer (some ⟨b, 0, none⟩), letV l] w fun e w' => e = .returned (.int .i64 (N.send l).2) ∧ NG W w' b (N.send l).1 gv q :=
  (nc_send h.net l hf).mono fun e w' ⟨q1, q2, q3⟩ => ⟨q1, h.call q2 q3⟩
theorem ng_take {W w : World} {b : Nat} {N : Net} {gv : Value} {q : List Let} (h : NG W w b N gv q) (k : Int) (k0 : -9223372036854775808 ≤ k) (k1 : k ≤ 9223372036854775807) : Calls Try.prog 12 #[.pointer (some ⟨b, 0, none⟩), .int .i64 k] w fun e w' => e = .returned (.tuple #[letV (N.take k).2.1, .int .i64 (N.take k).2.2]) ∧ NG W w' b (N.take k).1 gv q :=
  (nc_take h.net k k0 k1).mono fun e w' ⟨q1, q2, q3⟩ => ⟨q1, h.call q2 q3⟩
theorem ng_split {W w : World} {b : Nat} {N : Net} {gv : Value} {q : List Let} (h : NG W w b N gv q) (k : Int) (k0 : -9223372036854775808 ≤ k) (k1 : k ≤ 9223372036854775807) : Calls Try.prog 18 #[.pointer (some ⟨b, 0, none⟩), .int .i64 k] w fun e w' => e = .returned (.tuple #[]) ∧ NG W w' b (N.split k) gv q :=
  (nc_split h.net k k0 k1).mono fun e w' ⟨q1, q2, q3⟩ => ⟨q1, h.call q2 q3⟩
theorem ng_way {W w : World} {b : Nat} {N : Net} {gv : Value} {q : List Let} (h : NG W w b N gv q) : Calls Try.prog 20 #[.pointer (some ⟨b, 0, none⟩)] w fun e w' => ∃ A c, e = .returned (.slice A N.q.length c) ∧ NG W w' b N gv q :=
  (nc_way h.net).mono fun e w' ⟨A, c, q1, q2, q3, q4⟩ => ⟨A, c, q1, h.after q3⟩
theorem Net.send_yes {N : Net} {l : Let} (h : okL l = true) (hn : N.q.length < 400) : N.send l = (⟨N.q ++ [l], N.s⟩, 0) := by
  unfold send put; rw [if_pos h, if_neg (by omega)]
theorem Net.send_no {N : Net} {l : Let} (h : okL l = false) : N.send l = (N, 1) := by
  unfold send; rw [if_neg (by rw [h]; simp)]
theorem Net.side_split (q : List Let) (s : Int) {f : Nat} (h : f < 32) : Net.side ⟨q, (List.range 32).map (bit s)⟩ (f : Nat) = bit s f := by
  unfold Net.side
  rw [Int.toNat_natCast, List.getD_eq_getElem?_getD, List.getElem?_map, List.getElem?_range h]
  rfl
theorem Net.bit_all (f : Nat) : bit (-1) f = 1 := by
  unfold bit
  have h : ((2 ^ f : Nat) : Int) > 0 := by exact_mod_cast Nat.two_pow_pos f
  generalize ((2 ^ f : Nat) : Int) = p at h
  have : (-1 : Int) / p = -1 := by
    rw [Int.neg_one_ediv]
    simp [Int.sign_eq_one_of_pos h]
  rw [this]; rfl
theorem Net.take_at {N : Net} {k : Nat} {l : Let} (h : N.q[k]? = some l) : N.take (k : Nat) = (⟨N.q.eraseIdx k, N.s⟩, if N.side l.f = N.side l.t then (l, 0) else (zeroL, 15)) := by
  have : N.at' (k : Nat) = some l := by unfold at'; rw [if_pos (by omega), Int.toNat_natCast]; exact h
  unfold take rem
  rw [this, Int.toNat_natCast]
/-- append of one letter, laid just now, to a row -/
theorem LsAt.one_new (w : World) (l : Let) : LsAt (w.alloc (boxL l)) (.slice (some ⟨w.heap.size, 0, none⟩) 1 1) [l] (fun k => k = w.heap.size) :=
  ⟨some ⟨w.heap.size, 0, none⟩, 1, rfl, by simp, by omega, fun q => (by cases q), fun _ => ⟨w.heap.size, 0, _, (0, 0), rfl, rfl, heap_alloc_new w _, fun j u hu => by rw [Nat.zero_add]; simpa [flat, cells1] using hu⟩⟩
end Go.Proofs.Ytipclhklkngamaa
