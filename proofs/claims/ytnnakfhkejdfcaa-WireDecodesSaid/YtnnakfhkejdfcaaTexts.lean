import Derived.Test.YtnnakfhkejdfcaaItems
namespace Go.Proofs.Ytnnakfhkejdfcaa
open Go.RowKit Pl
set_option linter.unusedVariables false

def TextsPost (w : World) (e : Ending) (w' : World) : Prop := ∃ r : Int, e = .returned (.int .i64 r) ∧ Below w.heap.size w w'
def TextsAll (N : Nat) : Prop := ∀ (t : It) (v : Value) (w : World), t.cnt ≤ N → IsIt w (· < w.heap.size) t v → Calls Try.prog 12 #[v] w (TextsPost w)
def TextsRel (l : List It) (w0 : World) (un uk : Value) (wr : World) : Prop := ∃ (j : Nat) (n : Int), j ≤ l.length ∧ uk = .int .i64 j ∧ un = .int .i64 n ∧ Below w0.heap.size w0 wr

set_option maxRecDepth 20000 in
theorem texts_step (N : Nat) (ih : TextsAll N) (k n : Int) (s : ByteArray) (l : List It) (a : Option Addr) (c : Nat) (w : World) (hN : cnts l ≤ N) (hs : s.size ≤ maxLen) (hl : l.length ≤ maxLen) (hal : AreIts w (· < w.heap.size) l a 0) :
    Calls Try.prog 12 #[.agg #[.int .i64 k, .int .i64 n, .string s, .slice a l.length c]] w (TextsPost w) := by
  have HI := Lib.hid ih
  have HL := Lib.hid hal
  unfold maxLen at hl hs
  clear ih hal
  have hmn : (1048576 : Int) < s.size ∨ (s.size : Int) ≤ 1048576 := by omega
  rcases hmn with hmn | hmn
  all_goals
    go_enter Try.func12, Try.ntmps12
    go_wp2_with fail
    generalize hw0 : w.alloc (.cells #[.int .i64 k, .int .i64 n, .string s, .slice a l.length c] 26) = w0
    have hs0 : w0.heap.size = w.heap.size + 1 := by rw [← hw0]; simp
    have hx0 : w0.heap[w.heap.size]? = some (.cells #[.int .i64 k, .int .i64 n, .string s, .slice a l.length c] 26 (0, 0)) := by rw [← hw0]; exact heap_alloc_new _ _
    have hb0 : Below w.heap.size w w0 := by rw [← hw0]; exact (Below.refl _ _).alloc (Nat.le_refl _) _
    have HX := Lib.hid hx0
    have HB := Lib.hid hb0
    have HS0 := Lib.hid hs0
    clear hw0 hx0 hb0 hs0
    go_loopw [3, 12] (fun un uk wr => TextsRel l w0 un uk wr) (fun _ uk _ => l.length - (intOf uk).toNat)
    case atStart => exact ⟨0, _, by omega, rfl, rfl, Below.refl _ _⟩
    case round =>
      obtain ⟨j, nn, hj, rfl, rfl, hbr⟩ := hrel
      have hsr := hbr.size
      have hs0 := HS0.out
      have hbl : w.heap.size < wr.heap.size := by omega
      have hxr : wr.heap[w.heap.size]? = some (.cells #[.int .i64 k, .int .i64 n, .string s, .slice a l.length c] 26 (0, 0)) := (hbr.block _ (by omega)).trans HX.out
      have hc3 : wr.cell? ⟨w.heap.size, 3, none⟩ = some (.slice a l.length c) := cell_of_row wr _ 3 _ _ _ hxr
      have HBR := Lib.hid hbr
      clear hs0 hxr hbr
      by_cases hlt : j < l.length
      · by_cases hn : nn ≤ 1048576
        · have hkeep : ∀ q, q < w.heap.size → wr.heap[q]? = w.heap[q]? := fun q hq => (HBR.out.block q (by have := HS0.out; omega)).trans (HB.out.block q hq)
          obtain ⟨bk, off, u0, u1, u2, u3, rfl, hSb, k0, k1, k2, k3, hx⟩ := (AreIts.keep hkeep l HL.out).at_ (k := j) (x := l[j]) (List.getElem?_eq_getElem hlt)
          have hmc := mem_cnt (List.getElem?_eq_getElem hlt)
          generalize l[j] = x at hx hmc
          obtain ⟨qk, qn, qs, qa, qm, qc, rfl, rfl, rfl, rfl⟩ := hx.parts
          have HX2 := Lib.hid hx
          clear hx hkeep
          rw [Nat.zero_add] at k0 k1 k2 k3
          go_wp2_with fail
          refine (HI.out x _ wr (by omega) (IsIt.mono (fun q hq => by omega) x HX2.out)).mono ?_
          rintro e w4 ⟨m, rfl, hb4⟩
          have HB4 := Lib.hid (HBR.out.trans (hb4.mono hsr))
          clear hb4
          go_wp2_with fail
          go_roundw
          case rel => exact ⟨j + 1, _, by omega, by go_num, rfl, HB4.out⟩
          case measure => simp [intOf]; omega
        · go_wp2_with fail
          go_roundw
          case rel => exact ⟨j + 1, nn, by omega, by go_num, rfl, HBR.out⟩
          case measure => simp [intOf]; omega
      · go_wp2_with fail
        go_ret
        exact ⟨nn, rfl, HB.out.trans (HBR.out.mono (by have := HS0.out; omega))⟩

theorem texts_all : ∀ N, TextsAll N := by
  intro N
  induction N with
  | zero => intro t _ _ h; have := cnt_pos t; omega
  | succ N ih =>
    intro t v w hN hv
    obtain ⟨k, n, s, l⟩ := t
    rw [IsIt] at hv
    obtain ⟨a, c, rfl, _, _, hs, hl, hal⟩ := hv
    rw [cnt_mk] at hN
    exact texts_step N ih k n s l a c w (by omega) hs hl hal
end Go.Proofs.Ytnnakfhkejdfcaa
