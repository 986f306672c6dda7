import Derived.Test.YtipclhklkngamaaNq
namespace Go.Proofs.Ytipclhklkngamaa
open Go.RowKit
set_option linter.unusedVariables false

/-- a map that tells how often each letter stands in a row -/
def MapL (w : World) (b n : Nat) (Q : List Let) : Prop := ∃ D, Has w b n D ∧ ∀ x, Good x → D.atKey (kl x) (.lit (.int .i64 0)) = .lit (.int .i64 (Q.count x : Nat))
theorem MapL.made (w : World) : MapL (w.alloc (.map #[] 0)) w.heap.size 0 [] := ⟨.map [], World.ownsMap_made w Try.prog 32 RI, fun x _ => rfl⟩
theorem MapL.keep {w w' : World} {b n : Nat} {Q : List Let} (h : MapL w b n Q) (hk : w'.heap[b]? = w.heap[b]?) : MapL w' b n Q := by
  obtain ⟨D, h1, h2⟩ := h
  exact ⟨D, h1.keep hk, h2⟩
theorem MapL.mono {w : World} {b n n' : Nat} {Q : List Let} (h : MapL w b n Q) (hn : n ≤ n') : MapL w b n' Q := by
  obtain ⟨D, h1, h2⟩ := h
  exact ⟨D, World.ownsMap.mono h1 hn, h2⟩
theorem MapL.lt {w : World} {b n : Nat} {Q : List Let} (h : MapL w b n Q) : b < w.heap.size := by
  obtain ⟨D, h1, h2⟩ := h
  exact World.ownsMap.lt h1
theorem MapL.block {w : World} {b n : Nat} {Q : List Let} (h : MapL w b n Q) : ∃ es c, w.heap[b]? = some (.map es c) := by
  obtain ⟨D, ⟨es, c, h1, _⟩, _⟩ := h
  exact ⟨es, c, h1⟩
theorem MapL.look {w : World} {b n : Nat} {Q : List Let} (h : MapL w b n Q) {l : Let} (hl : Good l) : (Instr.lookup 44 (.map (some b)) (letV l) false).run Try.prog w = .ok (.int .i64 (Q.count l : Nat)) w := by
  obtain ⟨D, h1, h2⟩ := h
  obtain ⟨cc, q1, q2, _⟩ := World.ownsMap.lookup_int (t := 44) (e := 3) h1 law32 Try.underlying44 Try.underlying3 (zero3 w) (key_is hl)
  rw [h2 l hl] at q2
  injection q2 with q2
  injection q2 with _ q2
  rw [q1, ← q2]
/-- m[k] += .. : the entry, and the store into it -/
theorem MapL.entry {w : World} {b n : Nat} {Q : List Let} (h : MapL w b n Q) (hn : n < 1000000) {l : Let} (hl : Good l) :
    ∃ (v0 : Value) (st : Nat) (w1 : World), (Instr.mapEntry 44 (.map (some b)) (letV l)).run Try.prog w = .ok (.tuple #[v0, .int .i64 (st : Nat)]) w1 ∧ w1.os = w.os ∧ w1.tape = w.tape ∧ w1.output = w.output ∧ w1.heap.size = w.heap.size ∧ (∀ i, i ≠ b → w1.heap[i]? = w.heap[i]?) ∧ MapL w1 b (n + 1) Q ∧
      ∀ (w2 : World) (Q' : List Let), w2.heap[b]? = w1.heap[b]? → Q'.count l ≤ 1000000 → (∀ x, x ≠ l → Q'.count x = Q.count x) → ∃ w3, (Instr.entryStore 44 (.map (some b)) (.int .i64 (st : Nat)) (.int .i64 (Q'.count l : Nat))).run Try.prog w2 = .ok () w3 ∧ w3.os = w2.os ∧ w3.tape = w2.tape ∧ w3.output = w2.output ∧ w3.heap.size = w2.heap.size ∧ (∀ i, i ≠ b → w3.heap[i]? = w2.heap[i]?) ∧ MapL w3 b (n + 1) Q' := by
  obtain ⟨D, h1, h2⟩ := h
  obtain ⟨v0, st, o1, D1, r1, r2, r3, r4, r5, r6⟩ := h1.entry (by simp only [maxLen]; omega) hl
  refine ⟨v0, st, _, r1, rfl, rfl, rfl, by simp [ChangeMaps.setBlock], r3, ⟨D1, r4, fun x hx => (r5 x hx).trans (h2 x hx)⟩, fun w2 Q' hw hq hx => ?_⟩
  obtain ⟨o2, s1, s2, s3⟩ := r6 w2 (Q'.count l : Nat) (by omega) (by omega) (hw.trans r2)
  refine ⟨_, s1, rfl, rfl, rfl, by simp [ChangeMaps.setBlock], s3, _, s2, fun x hgx => ?_⟩
  by_cases hxl : kl x = kl l
  · rw [hxl, Go.Maps.atKey_put_same h1.isMap (law32.key (key_is hl)), kl_inj hgx hl hxl]
  · rw [Go.Maps.atKey_put_other hxl, h2 x hgx, hx x (fun e => hxl (by rw [e]))]

/-- the net, the map, and (or not) a row beside them -/
structure NK (W w : World) (b : Nat) (N : Net) (gv : Value) (q : List Let) (bm n : Nat) (Q : List Let) : Prop where
  net : NC W w b N (fun k => gv.ownBlock = some k ∨ k = bm)
  row : OwnL w W.heap.size gv q
  map : MapL w bm n Q
  low : W.heap.size ≤ bm
theorem NK.below {W w : World} {b : Nat} {N : Net} {gv : Value} {q : List Let} {bm n : Nat} {Q : List Let} (h : NK W w b N gv q bm n Q) : Below W.heap.size W w := h.net.below
theorem NK.apart {W w : World} {b : Nat} {N : Net} {gv : Value} {q : List Let} {bm n : Nat} {Q : List Let} (h : NK W w b N gv q bm n Q) : gv.ownBlock ≠ some bm := fun e => by
  obtain ⟨cs, hc⟩ := h.row.block bm e
  obtain ⟨es, c, hm⟩ := h.map.block
  rw [hc] at hm
  cases hm
theorem NK.call {W w w' : World} {b : Nat} {N N' : Net} {gv : Value} {q : List Let} {bm n : Nat} {Q : List Let} (h : NK W w b N gv q bm n Q) (hn : NC W w' b N' (fun k => gv.ownBlock = some k ∨ k = bm)) (hk : Keep (fun k => gv.ownBlock = some k ∨ k = bm) w w') : NK W w' b N' gv q bm n Q :=
  ⟨hn, h.row.keep fun g hg => hk.2 g (.inl hg), h.map.keep (hk.2 bm (.inr rfl)), h.low⟩
theorem NK.after {W w w' : World} {b : Nat} {N : Net} {gv : Value} {q : List Let} {bm n : Nat} {Q : List Let} (h : NK W w b N gv q bm n Q) (hb : Below w.heap.size w w') : NK W w' b N gv q bm n Q :=
  ⟨h.net.after hb, h.row.belows hb, h.map.keep (hb.block bm h.map.lt), h.low⟩
/-- the map is turned -/
theorem NK.turn {W w w' : World} {b : Nat} {N : Net} {gv : Value} {q : List Let} {bm n n' : Nat} {Q Q' : List Let} (h : NK W w b N gv q bm n Q) (h1 : w'.os = w.os) (h2 : w'.tape = w.tape) (h3 : w'.output = w.output) (h4 : w'.heap.size = w.heap.size) (h5 : ∀ i, i ≠ bm → w'.heap[i]? = w.heap[i]?) (hm : MapL w' bm n' Q') : NK W w' b N gv q bm n' Q' := by
  have hlo := h.low
  obtain ⟨v, hv, hg⟩ := h.net.net
  have hbm : b ≠ bm := fun e => h.net.self (.inr e)
  have hgm : ∀ g, v.ownBlock = some g → g ≠ bm := fun g e q => hg g e (.inr q)
  refine ⟨⟨⟨v, hv.keep (h5 b hbm) fun g e => h5 g (hgm g e), hg⟩, h.net.self, fun k hk => by rw [h4]; exact h.net.old k hk, ⟨h1.trans h.net.below.os, h2.trans h.net.below.tape, h3.trans h.net.below.output, by rw [h4]; exact h.net.below.size, fun k hk => (h5 k (by omega)).trans (h.net.below.block k hk)⟩⟩, h.row.keep fun g e => h5 g (fun q => h.apart (q ▸ e)), hm, h.low⟩
/-- the row is let go -/
theorem NK.free {W w : World} {b : Nat} {N : Net} {gv : Value} {q : List Let} {bm n : Nat} {Q : List Let} (h : NK W w b N gv q bm n Q) : NK W w b N (.slice none 0 0) [] bm n Q :=
  ⟨h.net.fewer fun k hk => hk.elim (fun e => by cases e) .inr, OwnL.nil _ _, h.map, h.low⟩
theorem nk_way {W w : World} {b : Nat} {N : Net} {bm n : Nat} {Q : List Let} (h : NK W w b N (.slice none 0 0) [] bm n Q) :
    Calls Try.prog 20 #[.pointer (some ⟨b, 0, none⟩)] w fun e w' => ∃ A m c, e = .returned (.slice A m c) ∧ m = N.q.length ∧ NK W w' b N (.slice A m c) N.q bm n Q :=
  (nc_way h.net).mono fun e w' ⟨A, c, q1, q2, q3, q4⟩ => ⟨A, _, c, q1, rfl, ⟨(h.net.hold q3).fewer fun k hk => hk.elim (fun e => .inr (q2.lt k e)) (fun e => .inl (.inr e)), q2.mono h.net.below.size, h.map.keep (q3.block bm h.map.lt), h.low⟩⟩
section
variable {W w : World} {b : Nat} {N : Net} {gv : Value} {q : List Let} {bm n : Nat} {Q : List Let} (h : NK W w b N gv q bm n Q)
include h
theorem nk_send (l : Let) (hf : Fit l) : Calls Try.prog 10 #[.pointer (some ⟨b, 0, none⟩), letV l] w fun e w' => e = .returned (.int .i64 (N.send l).2) ∧ NK W w' b (N.send l).1 gv q bm n Q := (nc_send h.net l hf).mono fun e w' ⟨q1, q2, q3⟩ => ⟨q1, h.call q2 q3⟩
theorem nk_take (k : Int) (k0 : -9223372036854775808 ≤ k) (k1 : k ≤ 9223372036854775807) : Calls Try.prog 12 #[.pointer (some ⟨b, 0, none⟩), .int .i64 k] w fun e w' => e = .returned (.tuple #[letV (N.take k).2.1, .int .i64 (N.take k).2.2]) ∧ NK W w' b (N.take k).1 gv q bm n Q := (nc_take h.net k k0 k1).mono fun e w' ⟨q1, q2, q3⟩ => ⟨q1, h.call q2 q3⟩
theorem nk_copy (k : Int) (k0 : -9223372036854775808 ≤ k) (k1 : k ≤ 9223372036854775807) : Calls Try.prog 14 #[.pointer (some ⟨b, 0, none⟩), .int .i64 k] w fun e w' => e = .returned (.int .i64 (N.copy k).2) ∧ NK W w' b (N.copy k).1 gv q bm n Q := (nc_copy h.net k k0 k1).mono fun e w' ⟨q1, q2, q3⟩ => ⟨q1, h.call q2 q3⟩
theorem nk_drop (k : Int) (k0 : -9223372036854775808 ≤ k) (k1 : k ≤ 9223372036854775807) : Calls Try.prog 16 #[.pointer (some ⟨b, 0, none⟩), .int .i64 k] w fun e w' => e = .returned (.int .i64 (N.drop k).2) ∧ NK W w' b (N.drop k).1 gv q bm n Q := (nc_drop h.net k k0 k1).mono fun e w' ⟨q1, q2, q3⟩ => ⟨q1, h.call q2 q3⟩
theorem nk_split (k : Int) (k0 : -9223372036854775808 ≤ k) (k1 : k ≤ 9223372036854775807) : Calls Try.prog 18 #[.pointer (some ⟨b, 0, none⟩), .int .i64 k] w fun e w' => e = .returned (.tuple #[]) ∧ NK W w' b (N.split k) gv q bm n Q := (nc_split h.net k k0 k1).mono fun e w' ⟨q1, q2, q3⟩ => ⟨q1, h.call q2 q3⟩
end
theorem NK.start {W w : World} {b : Nat} {N : Net} (h : NC W w b N (fun _ => False)) : NK W (w.alloc (.map #[] 0)) b N (.slice none 0 0) [] w.heap.size 0 [] := by
  have hb : Below w.heap.size w (w.alloc (.map #[] 0)) := (Below.refl _ w).alloc (Nat.le_refl _) _
  exact ⟨(h.hold hb).fewer fun k hk => .inr (hk.elim (fun e => by cases e) fun e => by subst e; exact ⟨Nat.le_refl _, by simp⟩), OwnL.nil _ _, MapL.made w, h.below.size⟩
end Go.Proofs.Ytipclhklkngamaa
