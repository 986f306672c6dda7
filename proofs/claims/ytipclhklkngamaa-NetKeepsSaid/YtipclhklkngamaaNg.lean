import Derived.Test.YtipclhklkngamaaNf
namespace Go.Proofs.Ytipclhklkngamaa
open Go.RowKit
set_option linter.unusedVariables false

theorem NetAt.below {w W : World} {B b : Nat} {N : Net} {v : Value} (h : NetAt w B b N v) (hb : Below w.heap.size w W) : NetAt W B b N v := h.keep (hb.block b h.lt) fun g hg => hb.block g (h.row.lt g hg).2
theorem To.from {w W w' : World} {B b : Nat} {v : Value} {N' : Net} (hb : Below w.heap.size w W) (h : To W w' B b v N') : To w w' B b v N' := by
  obtain ⟨v', h1, h2, h3⟩ := h
  exact ⟨v', h1, fun g hg => (h2 g hg).imp id fun q => by have := hb.size; omega, (Fr.of_below hb).trans h3 fun i hi => .inl hi⟩
/-- a letter's numbers -/
structure Fit (l : Let) : Prop where
  f0 : -9223372036854775808 ≤ l.f
  f1 : l.f ≤ 9223372036854775807
  t0 : -9223372036854775808 ≤ l.t
  t1 : l.t ≤ 9223372036854775807
theorem fit_of_ok {l : Let} (h : Net.okL l = true) : Fit l := by
  obtain ⟨h1, h2, h3, h4⟩ := Net.ok_places h
  exact ⟨by omega, by omega, by omega, by omega⟩
def boxL (l : Let) : Obj := .cells #[.int .i64 l.f, .int .i64 l.t, .string l.b] 32
structure BoxAt (w : World) (k : Nat) (l : Let) : Prop where
  h : w.heap[k]? = some (boxL l)
theorem BoxAt.c0 {w : World} {k : Nat} {l : Let} (h : BoxAt w k l) : w.cell? ⟨k, 0, none⟩ = some (.int .i64 l.f) := by rw [Lib.cell_of_heap h.h]; rfl
theorem BoxAt.c1 {w : World} {k : Nat} {l : Let} (h : BoxAt w k l) : w.cell? ⟨k, 1, none⟩ = some (.int .i64 l.t) := by rw [Lib.cell_of_heap h.h]; rfl
theorem BoxAt.c2 {w : World} {k : Nat} {l : Let} (h : BoxAt w k l) : w.cell? ⟨k, 2, none⟩ = some (.string l.b) := by rw [Lib.cell_of_heap h.h]; rfl
set_option maxHeartbeats 1000000 in
set_option maxRecDepth 100000 in
theorem send_any {w : World} {B b : Nat} {N : Net} {v : Value} (h : NetAt w B b N v) (l : Let) (hf : Fit l) :
    Calls Try.prog 10 #[.pointer (some ⟨b, 0, none⟩), letV l] w fun e w' => e = .returned (.int .i64 (N.send l).2) ∧ To w w' B b v (N.send l).1 := by
  obtain ⟨W, hW⟩ : ∃ W, w.alloc (boxL l) = W := ⟨_, rfl⟩
  have hb : Below w.heap.size w W := hW ▸ (Below.refl w.heap.size w).alloc (Nat.le_refl _) _
  have hx : BoxAt W w.heap.size l := ⟨by rw [← hW]; exact heap_alloc_new w _⟩
  have d0 := hx.c0
  have d1 := hx.c1
  have d2 := hx.c2
  have HP1 := Lib.hid fun W => isPlace_any l.f W hf.f0 hf.f1
  have HP2 := Lib.hid fun W => isPlace_any l.t W hf.t0 hf.t1
  have HW := Lib.hid hW
  have HB := Lib.hid hb
  have HN := Lib.hid (h.below hb)
  clear hW hb hx h hf
  unfold letV
  unfold boxL at HW
  cases h1 : Net.place l.f with
  | false =>
    have e : N.send l = (N, 1) := by unfold Net.send Net.okL; rw [h1]; simp
    rw [e]
    rw [h1] at HP1
    go_enter Try.func10, Try.ntmps10
    go_wp2_with fail
    rw [HW.out]
    go_wp2_with fail
    refine (HP1.out _).mono ?_
    rintro e w' ⟨rfl, rfl⟩
    go_wp2_with fail
    go_ret
    exact ⟨rfl, To.from HB.out HN.out.stays⟩
  | true =>
    rw [h1] at HP1
    cases h2 : Net.place l.t with
    | false =>
      have e : N.send l = (N, 1) := by unfold Net.send Net.okL; rw [h1, h2]; simp
      rw [e]
      rw [h2] at HP2
      go_enter Try.func10, Try.ntmps10
      go_wp2_with fail
      rw [HW.out]
      go_wp2_with fail
      refine (HP1.out _).mono ?_
      rintro e w' ⟨rfl, rfl⟩
      go_wp2_with fail
      refine (HP2.out _).mono ?_
      rintro e w' ⟨rfl, rfl⟩
      go_wp2_with fail
      go_ret
      exact ⟨rfl, To.from HB.out HN.out.stays⟩
    | true =>
      have hok : Net.okL l = true := by unfold Net.okL; rw [h1, h2]; rfl
      have e : N.send l = N.put l := by unfold Net.send; rw [hok]; simp
      rw [e]
      rw [h2] at HP2
      have HC := Lib.hid (put_any HN.out l hok)
      unfold letV at HC
      go_enter Try.func10, Try.ntmps10
      go_wp2_with fail
      rw [HW.out]
      go_wp2_with fail
      refine (HP1.out _).mono ?_
      rintro e w' ⟨rfl, rfl⟩
      go_wp2_with fail
      refine (HP2.out _).mono ?_
      rintro e w' ⟨rfl, rfl⟩
      go_wp2_with fail
      refine HC.out.mono ?_
      rintro e w' ⟨rfl, ht⟩
      have HT := Lib.hid ht
      clear ht
      go_wp2_with fail
      go_ret
      exact ⟨rfl, To.from HB.out HT.out⟩
/-- the k-th letter -/
theorem NetAt.letter {w : World} {B b : Nat} {N : Net} {v : Value} (h : NetAt w B b N v) {k : Int} {l : Let} (hk : N.at' k = some l) : ∃ n : Nat, k = (n : Int) ∧ n < N.q.length ∧ N.q[n]? = some l ∧ ∃ g cap, v = .slice (some ⟨g, 0, none⟩) N.q.length cap ∧ N.q.length ≤ cap ∧
    w.cell? ⟨g, n * 3, none⟩ = some (.int .i64 l.f) ∧ w.cell? ⟨g, n * 3 + 1, none⟩ = some (.int .i64 l.t) ∧ w.cell? ⟨g, n * 3 + 2, none⟩ = some (.string l.b) := by
  unfold Net.at' at hk
  split at hk
  · refine ⟨k.toNat, by omega, (List.getElem?_eq_some_iff.1 hk).1, hk, ?_⟩
    rcases h.row.2 with ⟨_, hn⟩ | ⟨g, cap, cur, rfl, _, hg, hc, _, _, ht⟩
    · have := (List.getElem?_eq_some_iff.1 hk).1; omega
    · obtain ⟨a0, a1, a2⟩ := flat_at hk
      have q : ∀ j u, (flat N.q)[j]? = some u → w.cell? ⟨g, j, none⟩ = some u := fun j u hu => by
        rw [cell_of_row w g j cur 32 (0, 0) hg]
        rw [← ht, List.getElem?_take] at hu
        split at hu
        · simpa using hu
        · cases hu
      exact ⟨g, cap, rfl, hc, by rw [Nat.mul_comm]; exact q _ _ a0, by rw [Nat.mul_comm]; exact q _ _ a1, by rw [Nat.mul_comm]; exact q _ _ a2⟩
  · cases hk
set_option maxHeartbeats 1000000 in
set_option maxRecDepth 100000 in
theorem copy_any {w : World} {B b : Nat} {N : Net} {v : Value} (h : NetAt w B b N v) (k : Int) (k0 : -9223372036854775808 ≤ k) (k1 : k ≤ 9223372036854775807) :
    Calls Try.prog 14 #[.pointer (some ⟨b, 0, none⟩), .int .i64 k] w fun e w' => e = .returned (.int .i64 (N.copy k).2) ∧ To w w' B b v (N.copy k).1 := by
  have HH := Lib.hid (has_any h k k0 k1)
  cases hk : N.at' k with
  | none =>
    have e : N.copy k = (N, 10) := by unfold Net.copy; rw [hk]
    rw [e]
    rw [hk] at HH
    have H := Lib.hid h
    clear h
    go_enter Try.func14, Try.ntmps14
    go_wp2_with fail
    refine HH.out.mono ?_
    rintro e w' ⟨rfl, rfl⟩
    go_wp2_with fail
    go_ret
    exact ⟨rfl, H.out.stays⟩
  | some l =>
    have e : N.copy k = N.put l := by unfold Net.copy; rw [hk]
    rw [e]
    rw [hk] at HH
    have hok := h.ok.ok l (Net.at_mem hk)
    have HC := Lib.hid (put_any h l hok)
    unfold letV at HC
    have c0 := h.queue
    obtain ⟨n, rfl, hn, _, g, cap, rfl, hc, a0, a1, a2⟩ := h.letter hk
    have hn2 : (n : Int) < (N.q.length : Int) := by omega
    have hml : (N.q.length : Int) ≤ 400 := by have := h.ok.many; omega
    clear h hk hok e
    generalize N.q.length = m at *
    go_enter Try.func14, Try.ntmps14
    go_wp2_with fail
    refine HH.out.mono ?_
    rintro e w' ⟨rfl, rfl⟩
    go_wp2_with fail
    refine HC.out.mono ?_
    rintro e w' ⟨rfl, ht⟩
    have HT := Lib.hid ht
    clear ht
    go_wp2_with fail
    go_ret
    exact ⟨rfl, HT.out⟩
set_option maxHeartbeats 1000000 in
set_option maxRecDepth 100000 in
theorem drop_any {w : World} {B b : Nat} {N : Net} {v : Value} (h : NetAt w B b N v) (k : Int) (k0 : -9223372036854775808 ≤ k) (k1 : k ≤ 9223372036854775807) :
    Calls Try.prog 16 #[.pointer (some ⟨b, 0, none⟩), .int .i64 k] w fun e w' => e = .returned (.int .i64 (N.drop k).2) ∧ To w w' B b v (N.drop k).1 := by
  have HH := Lib.hid (has_any h k k0 k1)
  cases hk : N.at' k with
  | none =>
    have e : N.drop k = (N, 10) := by unfold Net.drop; rw [hk]
    rw [e]
    rw [hk] at HH
    have H := Lib.hid h
    clear h
    go_enter Try.func16, Try.ntmps16
    go_wp2_with fail
    refine HH.out.mono ?_
    rintro e w' ⟨rfl, rfl⟩
    go_wp2_with fail
    go_ret
    exact ⟨rfl, H.out.stays⟩
  | some l =>
    have e : N.drop k = (N.rem k, 0) := by unfold Net.drop; rw [hk]
    rw [e]
    rw [hk] at HH
    obtain ⟨n, rfl, hn, _⟩ := h.letter hk
    have HC := Lib.hid (remove_any h n hn)
    clear h hk e
    go_enter Try.func16, Try.ntmps16
    go_wp2_with fail
    refine HH.out.mono ?_
    rintro e w' ⟨rfl, rfl⟩
    go_wp2_with fail
    refine HC.out.mono ?_
    rintro e w' ⟨rfl, ht⟩
    have HT := Lib.hid ht
    clear ht
    go_wp2_with fail
    go_ret
    exact ⟨rfl, HT.out⟩
end Go.Proofs.Ytipclhklkngamaa
