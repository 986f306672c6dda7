import Derived.Test.YtnnakfhkejdfcaaRk
import Derived.Test.YtnnakfhkejdfcaaDec
namespace Go.Proofs.Ytnnakfhkejdfcaa
open Go.RowKit Pl
set_option linter.unusedVariables false

theorem q_all : ∀ f, QItemAll f := by
  intro f
  induction f with
  | zero => intro g A cap bs p left dp w h hl h0 hf; exact q_out 0 g A cap bs p left dp w h (by omega) (.inr (by omega)) (by simp [qit])
  | succ f ih =>
    intro g A cap bs p left dp w h hl h0 hf
    cases left with
    | zero => exact q_out (f + 1) g A cap bs p 0 dp w h (by omega) (.inl rfl) (by simp [qit])
    | succ m =>
      by_cases k1 : bs[p]? = some 1
      · exact q_num f g A cap bs p m dp w h (by omega) (by omega) k1
      by_cases k2 : bs[p]? = some 2
      · exact q_text f g A cap bs p m dp w h (by omega) (by omega) k2
      by_cases k3 : bs[p]? = some 3
      · exact q_list f g ih A cap bs p m dp w h (by omega) h0 (by omega) (by omega) k3
      refine q_kind (f + 1) g A cap bs p (m + 1) dp w h (by omega) (by omega) (by omega) fun u hu => ⟨?_, ?_, ?_⟩
      · intro e; subst e; exact k1 hu
      · intro e; subst e; exact k2 hu
      · intro e; subst e; exact k3 hu

set_option maxRecDepth 20000 in
theorem rdecode_any (bs : List UInt8) (A : Option Addr) (n cap : Nat) (w : World) (hb : BytesAt w w.heap.size A bs) (hn : bs.length = n) (hc : n ≤ cap) (hcm : cap ≤ 9223372036854775807) : Calls Try.prog 9 #[.slice A n cap] w (DecPost bs w) := by
  have HB := Lib.hid hb
  have HN := Lib.hid hn
  clear hb hn
  go_enter Try.func9, Try.ntmps9
  go_wp2_with fail
  have hpW : ((w.alloc (.cells zeroItem 26)).alloc (.cells #[.slice A n cap, .int .i64 0, .int .i64 4096, .bool false] 51)).heap[w.heap.size]? = some (.cells zeroItem 26 (0, 0)) := by
    rw [Below.heap_alloc _ _ _ (by simp)]; exact heap_alloc_new _ _
  have hgW : ((w.alloc (.cells zeroItem 26)).alloc (.cells #[.slice A n cap, .int .i64 0, .int .i64 4096, .bool false] 51)).heap[w.heap.size + 1]? = some (.cells #[.slice A n cap, .int .i64 0, .int .i64 4096, .bool false] 51 (0, 0)) := by
    rw [show w.heap.size + 1 = (w.alloc (.cells zeroItem 26)).heap.size from by simp]; exact heap_alloc_new _ _
  have hbW : Below w.heap.size w ((w.alloc (.cells zeroItem 26)).alloc (.cells #[.slice A n cap, .int .i64 0, .int .i64 4096, .bool false] 51)) := ((Below.refl _ _).alloc (Nat.le_refl _) _).alloc (by simp) _
  have hsW : ((w.alloc (.cells zeroItem 26)).alloc (.cells #[.slice A n cap, .int .i64 0, .int .i64 4096, .bool false] 51)).heap.size = w.heap.size + 2 := by simp
  change Calls Try.prog 23 _ ((w.alloc (.cells zeroItem 26)).alloc (.cells #[.slice A n cap, .int .i64 0, .int .i64 4096, .bool false] 51)) _
  generalize (w.alloc (.cells zeroItem 26)).alloc (.cells #[.slice A n cap, .int .i64 0, .int .i64 4096, .bool false] 51) = W at *
  have hQ : QSt W (w.heap.size + 1) A cap bs 0 ((4096 : Nat) : Int) false := ⟨by rw [HN.out]; exact hgW, by omega, by rw [HN.out]; exact hc, hcm, fun hne => by
    obtain ⟨b, off, e1, e2, e3⟩ := HB.out hne
    exact ⟨b, off, e1, by omega, fun j u hu => (hbW.cell (p := ⟨b, off + j, none⟩) e2).trans (e3 j u hu)⟩⟩
  refine (q_all 12 _ A cap bs 0 4096 1 W hQ (by omega) (by omega) (by omega)).mono ?_
  rintro e w2 ⟨hg2, a, b, c, d, rfl, ⟨⟨k, rfl⟩, ⟨m, rfl⟩, ⟨s, rfl⟩, ⟨x, y, z, rfl⟩⟩, hor⟩
  rw [List.drop_zero] at hor
  have hp2 : w2.heap[w.heap.size]? = some (.cells zeroItem 26 (0, 0)) := (hg2.block _ (by omega) (by simp)).trans hpW
  have hb2 : Below w.heap.size w w2 := hbW.trans (below_of_grown w.heap.size hg2 (by omega) (by omega))
  have hs2 : W.heap.size ≤ w2.heap.size := hg2.size
  obtain ⟨r0, r1, r2, r3, q0, q1, q2, q3⟩ := row4 hp2
  have HP2 := Lib.hid hp2
  have HB2 := Lib.hid hb2
  clear hpW hgW hbW hQ hg2 hp2 hb2
  have hlt2 : w.heap.size + 1 < w2.heap.size := by omega
  have hlt3 : w.heap.size < w2.heap.size := by omega
  rcases hor with ⟨t, r, l', p', hq, hd, hQ2, hit⟩ | ⟨hq, p', l', hQ2⟩
  · obtain ⟨A0, A1, A2, A3, B1, B2, B3⟩ := hQ2.row
    have hpl := hQ2.2.1
    have hNN := HN.out
    by_cases hpn : (p' : Int) < n
    · have hnone : dec bs = none := by
        rw [← qdec_eq, qdec, hq]
        simp only []
        rw [if_neg]
        intro e
        rw [e] at hd
        have := congrArg List.length hd
        simp at this
        omega
      clear hQ2 hq hit hd A0 A2 B1 B2 B3
      go_wp2_with fail
      obtain ⟨y0, y1, y2, y3⟩ := fin4 w2 w.heap.size (.int .i64 0) (.int .i64 0) (.string ⟨#[]⟩) (.slice none 0 0) _ _ _ _ (.cells #[.int .i64 k, .int .i64 m, .string s, .slice x y z] 26) HP2.out
      have hb := fin4_below w2 w.heap.size w.heap.size (.int .i64 0) (.int .i64 0) (.string ⟨#[]⟩) (.slice none 0 0) (.cells #[.int .i64 k, .int .i64 m, .string s, .slice x y z] 26) (Nat.le_refl _) (by omega)
      refine bodyPost_ret (v := .tuple #[.agg zeroItem, .int .i64 4]) (by simp [results, Try.results9, go_sem, zeroItem, y0, y1, y2, y3]) rfl ?_
      exact ⟨HB2.out.trans hb, fun t ht => (by rw [hnone] at ht; cases ht), fun _ => rfl⟩
    · have hsome : dec bs = some t := by
        rw [← qdec_eq, qdec, hq]
        simp only []
        rw [if_pos]
        rw [← hd]
        exact List.drop_of_length_le (by omega)
      have hpn' : decide ((p' : Int) < n) = false := by simp; omega
      have HIT := Lib.hid hit
      clear hQ2 hq hit hd A0 A2 B1 B2 B3
      go_wp2_with fail
      obtain ⟨y0, y1, y2, y3⟩ := fin4 w2 w.heap.size (.int .i64 k) (.int .i64 m) (.string s) (.slice x y z) _ _ _ _ (.cells #[.int .i64 k, .int .i64 m, .string s, .slice x y z] 26) HP2.out
      have hb := fin4_below w2 w.heap.size w.heap.size (.int .i64 k) (.int .i64 m) (.string s) (.slice x y z) (.cells #[.int .i64 k, .int .i64 m, .string s, .slice x y z] 26) (Nat.le_refl _) (by omega)
      refine bodyPost_ret (v := .tuple #[.agg #[.int .i64 k, .int .i64 m, .string s, .slice x y z], .int .i64 0]) (by simp [results, Try.results9, go_sem, y0, y1, y2, y3]) rfl ?_
      refine ⟨HB2.out.trans hb, fun t' ht => ?_, fun ht => (by rw [hsome] at ht; cases ht)⟩
      rw [hsome] at ht
      simp only [Option.some.injEq] at ht
      subst ht
      have hsz := hb.size
      exact ⟨_, rfl, IsIt.mono (fun q hq => ⟨by have := hq.1; omega, by have := hq.2; simp; omega⟩) t (IsIt.keep (w := w2) (S := NewB W w2) (fun q hq => fin4_far w2 w.heap.size q _ _ _ _ _ (by have := hq.1; omega) hq.2) t HIT.out)⟩
  · have hnone : dec bs = none := by rw [← qdec_eq, qdec, hq]
    obtain ⟨A0, A1, A2, A3, B1, B2, B3⟩ := hQ2.row
    clear hQ2 hq A0 A1 A2 B1 B2
    go_wp2_with fail
    obtain ⟨y0, y1, y2, y3⟩ := fin4 w2 w.heap.size (.int .i64 0) (.int .i64 0) (.string ⟨#[]⟩) (.slice none 0 0) _ _ _ _ (.cells #[.int .i64 k, .int .i64 m, .string s, .slice x y z] 26) HP2.out
    have hb := fin4_below w2 w.heap.size w.heap.size (.int .i64 0) (.int .i64 0) (.string ⟨#[]⟩) (.slice none 0 0) (.cells #[.int .i64 k, .int .i64 m, .string s, .slice x y z] 26) (Nat.le_refl _) (by omega)
    refine bodyPost_ret (v := .tuple #[.agg zeroItem, .int .i64 4]) (by simp [results, Try.results9, go_sem, zeroItem, y0, y1, y2, y3]) rfl ?_
    exact ⟨HB2.out.trans hb, fun t ht => (by rw [hnone] at ht; cases ht), fun _ => rfl⟩
end Go.Proofs.Ytnnakfhkejdfcaa
