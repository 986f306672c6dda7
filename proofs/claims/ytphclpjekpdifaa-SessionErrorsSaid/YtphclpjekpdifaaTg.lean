import Derived.Test.YtphclpjekpdifaaTf
namespace Go.Proofs.Ytphclpjekpdifaa
set_option maxRecDepth 20000
open Go.RowKit
open SP
open Go.Proofs.Ytphclpjekpdifaa.Nm (str)
open Wi (RetBelow)
set_option linter.unusedVariables false
/-! ### cells of a row set one by one -/
theorem ownsRow_drew {w : World} {base : Nat} {e : TypeId} {z n : Nat} {v : Value} {xs : List Value} (h : w.ownsRow base e z v n xs) : w.drew.ownsRow base e z v n xs := h
theorem ownsRow_set {w : World} {base : Nat} {e : TypeId} {z n : Nat} {v : Value} {xs : List Value} (h : w.ownsRow base e z v n xs) {g i : Nat} (hv : v.ownBlock = some g) (u : Value) : (w.setCell ⟨g, i, none⟩ u).ownsRow base e z v n (xs.set i u) := by
  refine ⟨by rw [List.length_set]; exact h.1, ?_⟩
  rcases h.2 with ⟨rfl, _⟩ | ⟨g', cap, cur, rfl, hg, hgg, hn, hc, hs, ht⟩
  · cases hv
  · obtain rfl : g' = g := by simpa [Value.ownBlock] using hv
    refine .inr ⟨g', cap, cur.setIfInBounds i u, rfl, hg, Wi.heap_set w g' i u _ _ hgg, hn, hc, by simpa using hs, ?_⟩
    rw [Array.toList_setIfInBounds, List.take_set, ht]
theorem set_app {A B : List Value} {i : Nat} (u : Value) : (A ++ B).set (A.length + i) u = A ++ B.set i u := by
  rw [List.set_append_right _ _ (by omega)]
  congr 2
  omega
/-- all cells of a session but its number set -/
theorem flat_set8 : ∀ (L : List Ses) (k : Nat) (s : Ses) (u1 u2 : Int) (u3 : ByteArray) (u4 u5 u6 u7 u8 : Int), L[k]? = some s →
    ((((((((flat DS L).set (k * 9 + 1) (.int .i64 u1)).set (k * 9 + 2) (.int .i64 u2)).set (k * 9 + 3) (.string u3)).set (k * 9 + 4) (.int .i64 u4)).set (k * 9 + 5) (.int .i64 u5)).set (k * 9 + 6) (.int .i64 u6)).set (k * 9 + 7) (.int .i64 u7)).set (k * 9 + 8) (.int .i64 u8) = flat DS (L.set k ⟨s.id, u1, ⟨u2, u3, u4, u5, u6, u7⟩, u8⟩)
  | [], k, s, _, _, _, _, _, _, _, _, h => by simp at h
  | y :: r, 0, s, u1, u2, u3, u4, u5, u6, u7, u8, h => by
    obtain rfl : y = s := by simpa using h
    rfl
  | y :: r, k + 1, s, u1, u2, u3, u4, u5, u6, u7, u8, h => by
    have ih := flat_set8 r k s u1 u2 u3 u4 u5 u6 u7 u8 (by simpa using h)
    have e : ∀ q, (k + 1) * 9 + q = (DS.C y).length + (k * 9 + q) := fun q => by rw [show (DS.C y).length = 9 from rfl]; omega
    simp only [flat, List.set_cons_succ, e, set_app]
    rw [ih]
theorem flat_set1 : ∀ (L : List Ses) (k : Nat) (s : Ses) (u8 : Int), L[k]? = some s → (flat DS L).set (k * 9 + 8) (.int .i64 u8) = flat DS (L.set k ⟨s.id, s.seq, s.r, u8⟩)
  | [], k, s, _, h => by simp at h
  | y :: r, 0, s, u8, h => by
    obtain rfl : y = s := by simpa using h
    rfl
  | y :: r, k + 1, s, u8, h => by
    have ih := flat_set1 r k s u8 (by simpa using h)
    have e : ∀ q, (k + 1) * 9 + q = (DS.C y).length + (k * 9 + q) := fun q => by rw [show (DS.C y).length = 9 from rfl]; omega
    simp only [flat, List.set_cons_succ, e, set_app]
    rw [ih]
/-! ### a session's number is executed -/
theorem set8_tab {w : World} {b : Nat} {T : Tb} {v : Value} {S : Nat → Prop} (h : TAt w b T v S) {g k : Nat} {s : Ses} (hg : v.ownBlock = some g) (hk : T.L[k]? = some s) (u1 u2 : Int) (u3 : ByteArray) (u4 u5 u6 u7 u8 : Int) :
    TabTo w ((((((((w.setCell ⟨g, k * 9 + 1, none⟩ (.int .i64 u1)).setCell ⟨g, k * 9 + 2, none⟩ (.int .i64 u2)).setCell ⟨g, k * 9 + 2 + 1, none⟩ (.string u3)).setCell ⟨g, k * 9 + 2 + 2, none⟩ (.int .i64 u4)).setCell ⟨g, k * 9 + 2 + 3, none⟩ (.int .i64 u5)).setCell ⟨g, k * 9 + 2 + 4, none⟩ (.int .i64 u6)).setCell ⟨g, k * 9 + 2 + 5, none⟩ (.int .i64 u7)).setCell ⟨g, k * 9 + 8, none⟩ (.int .i64 u8)).drew b ⟨T.clk, T.lst, T.L.set k ⟨s.id, u1, ⟨u2, u3, u4, u5, u6, u7⟩, u8⟩⟩ S := by
  have hne : b ≠ g := fun e => h.ne g hg e.symm
  have hr := (ownsRow_set (i := k * 9 + 8) (ownsRow_set (i := k * 9 + 2 + 5) (ownsRow_set (i := k * 9 + 2 + 4) (ownsRow_set (i := k * 9 + 2 + 3) (ownsRow_set (i := k * 9 + 2 + 2) (ownsRow_set (i := k * 9 + 2 + 1) (ownsRow_set (i := k * 9 + 2) (ownsRow_set (i := k * 9 + 1) h.row hg (.int .i64 u1)) hg (.int .i64 u2)) hg (.string u3)) hg (.int .i64 u4)) hg (.int .i64 u5)) hg (.int .i64 u6)) hg (.int .i64 u7)) hg (.int .i64 u8))
  have hf := (((((((((Fr.refl S w).setCell (p := ⟨g, k * 9 + 1, none⟩) (.inl (h.ov g hg)) (.int .i64 u1)).setCell (p := ⟨g, k * 9 + 2, none⟩) (.inl (h.ov g hg)) (.int .i64 u2)).setCell (p := ⟨g, k * 9 + 2 + 1, none⟩) (.inl (h.ov g hg)) (.string u3)).setCell (p := ⟨g, k * 9 + 2 + 2, none⟩) (.inl (h.ov g hg)) (.int .i64 u4)).setCell (p := ⟨g, k * 9 + 2 + 3, none⟩) (.inl (h.ov g hg)) (.int .i64 u5)).setCell (p := ⟨g, k * 9 + 2 + 4, none⟩) (.inl (h.ov g hg)) (.int .i64 u6)).setCell (p := ⟨g, k * 9 + 2 + 5, none⟩) (.inl (h.ov g hg)) (.int .i64 u7)).setCell (p := ⟨g, k * 9 + 8, none⟩) (.inl (h.ov g hg)) (.int .i64 u8))
  have hfar := (Below.heap_setCell (((((((w.setCell ⟨g, k * 9 + 1, none⟩ (.int .i64 u1)).setCell ⟨g, k * 9 + 2, none⟩ (.int .i64 u2)).setCell ⟨g, k * 9 + 2 + 1, none⟩ (.string u3)).setCell ⟨g, k * 9 + 2 + 2, none⟩ (.int .i64 u4)).setCell ⟨g, k * 9 + 2 + 3, none⟩ (.int .i64 u5)).setCell ⟨g, k * 9 + 2 + 4, none⟩ (.int .i64 u6)).setCell ⟨g, k * 9 + 2 + 5, none⟩ (.int .i64 u7)) ⟨g, k * 9 + 8, none⟩ (.int .i64 u8) b hne).trans ((Below.heap_setCell ((((((w.setCell ⟨g, k * 9 + 1, none⟩ (.int .i64 u1)).setCell ⟨g, k * 9 + 2, none⟩ (.int .i64 u2)).setCell ⟨g, k * 9 + 2 + 1, none⟩ (.string u3)).setCell ⟨g, k * 9 + 2 + 2, none⟩ (.int .i64 u4)).setCell ⟨g, k * 9 + 2 + 3, none⟩ (.int .i64 u5)).setCell ⟨g, k * 9 + 2 + 4, none⟩ (.int .i64 u6)) ⟨g, k * 9 + 2 + 5, none⟩ (.int .i64 u7) b hne).trans ((Below.heap_setCell (((((w.setCell ⟨g, k * 9 + 1, none⟩ (.int .i64 u1)).setCell ⟨g, k * 9 + 2, none⟩ (.int .i64 u2)).setCell ⟨g, k * 9 + 2 + 1, none⟩ (.string u3)).setCell ⟨g, k * 9 + 2 + 2, none⟩ (.int .i64 u4)).setCell ⟨g, k * 9 + 2 + 3, none⟩ (.int .i64 u5)) ⟨g, k * 9 + 2 + 4, none⟩ (.int .i64 u6) b hne).trans ((Below.heap_setCell ((((w.setCell ⟨g, k * 9 + 1, none⟩ (.int .i64 u1)).setCell ⟨g, k * 9 + 2, none⟩ (.int .i64 u2)).setCell ⟨g, k * 9 + 2 + 1, none⟩ (.string u3)).setCell ⟨g, k * 9 + 2 + 2, none⟩ (.int .i64 u4)) ⟨g, k * 9 + 2 + 3, none⟩ (.int .i64 u5) b hne).trans ((Below.heap_setCell (((w.setCell ⟨g, k * 9 + 1, none⟩ (.int .i64 u1)).setCell ⟨g, k * 9 + 2, none⟩ (.int .i64 u2)).setCell ⟨g, k * 9 + 2 + 1, none⟩ (.string u3)) ⟨g, k * 9 + 2 + 2, none⟩ (.int .i64 u4) b hne).trans ((Below.heap_setCell ((w.setCell ⟨g, k * 9 + 1, none⟩ (.int .i64 u1)).setCell ⟨g, k * 9 + 2, none⟩ (.int .i64 u2)) ⟨g, k * 9 + 2 + 1, none⟩ (.string u3) b hne).trans ((Below.heap_setCell (w.setCell ⟨g, k * 9 + 1, none⟩ (.int .i64 u1)) ⟨g, k * 9 + 2, none⟩ (.int .i64 u2) b hne).trans ((Below.heap_setCell w ⟨g, k * 9 + 1, none⟩ (.int .i64 u1) b hne).trans (rfl))))))))
  have hsz := hf.size
  have hfl := flat_set8 T.L k s u1 u2 u3 u4 u5 u6 u7 u8 hk
  generalize hW : ((((((((w.setCell ⟨g, k * 9 + 1, none⟩ (.int .i64 u1)).setCell ⟨g, k * 9 + 2, none⟩ (.int .i64 u2)).setCell ⟨g, k * 9 + 2 + 1, none⟩ (.string u3)).setCell ⟨g, k * 9 + 2 + 2, none⟩ (.int .i64 u4)).setCell ⟨g, k * 9 + 2 + 3, none⟩ (.int .i64 u5)).setCell ⟨g, k * 9 + 2 + 4, none⟩ (.int .i64 u6)).setCell ⟨g, k * 9 + 2 + 5, none⟩ (.int .i64 u7)).setCell ⟨g, k * 9 + 8, none⟩ (.int .i64 u8)) = W at *
  refine ⟨S, ⟨v, ?_, ?_, h.own, h.ov, ?_, h.ne⟩, fun k hk => .inl hk, hf.drew⟩
  · exact heap_drew W b _ (hfar.trans h.box)
  · show World.ownsRow _ _ _ _ _ _ _
    rw [List.length_set, ← hfl]
    exact ownsRow_drew hr
  · intro j hj
    exact Nat.lt_of_lt_of_le (h.lt j hj) hsz
theorem set1_tab {w : World} {b : Nat} {T : Tb} {v : Value} {S : Nat → Prop} (h : TAt w b T v S) {g k : Nat} {s : Ses} (hg : v.ownBlock = some g) (hk : T.L[k]? = some s) (u8 : Int) :
    TabTo w (w.setCell ⟨g, k * 9 + 8, none⟩ (.int .i64 u8)) b ⟨T.clk, T.lst, T.L.set k ⟨s.id, s.seq, s.r, u8⟩⟩ S := by
  have hne : b ≠ g := fun e => h.ne g hg e.symm
  have hf := ((Fr.refl S w).setCell (p := ⟨g, k * 9 + 8, none⟩) (.inl (h.ov g hg)) (.int .i64 u8))
  refine ⟨S, ⟨v, (Below.heap_setCell w ⟨g, k * 9 + 8, none⟩ (.int .i64 u8) b hne).trans h.box, ?_, h.own, h.ov, fun j hj => Nat.lt_of_lt_of_le (h.lt j hj) hf.size, h.ne⟩, fun k hk => .inl hk, hf⟩
  show World.ownsRow _ _ _ _ _ _ _
  rw [List.length_set, ← flat_set1 T.L k s u8 hk]
  exact ownsRow_set h.row hg _
theorem find_is {w : World} {b : Nat} {T : Tb} {v : Value} {S : Nat → Prop} (h : TAt w b T v S) (hI : Inv T) {id : Int} {s : Ses} (hs : findS T.L id = some s) : ∃ (g k cap : Nat), T.L[k]? = some s ∧ v = .slice (some ⟨g, 0, none⟩) T.L.length cap ∧ g < w.heap.size ∧ ∀ X, Below w.heap.size w X → Calls Try.prog 21 #[.pointer (some ⟨b, 0, none⟩), .int .i64 id] X (RetBelow (.pointer (some ⟨g, k * 9, none⟩)) X) := by
  obtain ⟨k, hk⟩ := find_place hs
  obtain ⟨g, cap, hv, _, hl, _⟩ := h.cells hk
  refine ⟨g, k, cap, hk, hv, hl, fun X hX => (find_at (h.below hX) hI id).mono ?_⟩
  rintro e w' ⟨hb, ⟨hn, _⟩ | ⟨g', k', cap', s', hs', hk', hv', he⟩⟩
  · rw [hs] at hn; cases hn
  · rw [hs] at hs'
    cases hs'
    rw [hv] at hv'
    injection hv' with e1
    injection e1 with e1
    injection e1 with e1
    subst e1
    have : k = k' := by
      obtain ⟨q1, q2⟩ := List.getElem?_eq_some_iff.1 hk
      obtain ⟨q3, q4⟩ := List.getElem?_eq_some_iff.1 hk'
      rcases Nat.lt_trichotomy k k' with q | q | q
      · have := (List.pairwise_iff_getElem.1 hI.srt) k k' q1 q3 q; rw [q2, q4] at this; omega
      · exact q
      · have := (List.pairwise_iff_getElem.1 hI.srt) k' k q3 q1 q; rw [q2, q4] at this; omega
    subst this
    exact ⟨he, hb⟩
def DoneP (w : World) (b : Nat) (T : Tb) (S : Nat → Prop) (id q : Int) (r : Rp) (e : Ending) (w' : World) : Prop := e = .returned (.int .i64 (done T id q r).2) ∧ TabTo w w' b (done T id q r).1 S
set_option maxHeartbeats 2000000 in
theorem done_any {w : World} {b : Nat} {T : Tb} {S : Nat → Prop} (h0 : Tab w b T S) (hI : Inv T) (id q : Int) (r : Rp) (hr : RpI r) (he : I64 r.e) : Calls Try.prog 9 #[.pointer (some ⟨b, 0, none⟩), .int .i64 id, .int .i64 q, rpV r] w (DoneP w b T S id q r) := by
  have HT := Lib.hid h0
  obtain ⟨v, h⟩ := h0
  have H := Lib.hid h
  have HPK : Hid (∀ X, Calls Try.prog 16 #[.agg #[.int .i64 r.e, .string r.s, .int .i64 r.a, .int .i64 r.b, .int .i64 r.c, .int .i64 r.n]] X fun e Y => (∃ PT, e = .returned (.tuple #[.string PT, .int .i64 (Wi.errR r.e r.s r.a r.b r.c r.n)])) ∧ Below X.heap.size X Y) := Lib.hid fun X => (Wi.packR_any _ _ _ _ _ _ X he hr.a hr.b hr.c hr.n).mono fun e Y q => ⟨⟨_, q.1⟩, q.2⟩
  have HCK : Hid (∀ X, Below w.heap.size w X → Calls Try.prog 8 #[.pointer (some ⟨b, 0, none⟩), .int .i64 id, .int .i64 q] X (CheckP X T id q)) := Lib.hid fun X hX => check_at (h.below hX) hI id q
  have HB0 := Lib.hid ((Below.refl w.heap.size w).alloc (Nat.le_refl _) (.cells #[.int .i64 r.e, .string r.s, .int .i64 r.a, .int .i64 r.b, .int .i64 r.c, .int .i64 r.n] 27))
  have HR0 := Lib.hid (heap_alloc_new w (.cells #[.int .i64 r.e, .string r.s, .int .i64 r.a, .int .i64 r.b, .int .i64 r.c, .int .i64 r.n] 27))
  have HV := check_err T id q
  have HERR : Hid (Wi.errR r.e r.s r.a r.b r.c r.n = if mayP r = true then 0 else 4) := Lib.hid rfl
  have HD3 : Hid (2 < (check T id q).1 → done T id q r = (T, (check T id q).2.e)) := Lib.hid fun q => done_no q
  have HD4 : Hid (¬ 2 < (check T id q).1 → mayP r = false → done T id q r = (T, 4)) := Lib.hid fun q p => done_form q p
  have HD1 : Hid ((check T id q).1 = 1 → mayP r = true → ∃ s, findS T.L id = some s ∧ done T id q r = ({ T with L := setS T.L ⟨s.id, q, r, T.clk⟩ }, 0)) := Lib.hid fun c p => (by obtain ⟨s, h1, _, _, _, h5, _⟩ := done_new hI c p; exact ⟨s, h1, h5⟩)
  have HD2 : Hid ((check T id q).1 = 2 → mayP r = true → ∃ s, findS T.L id = some s ∧ done T id q r = ({ T with L := setS T.L ⟨s.id, s.seq, s.r, T.clk⟩ }, 0)) := Lib.hid fun c p => (by obtain ⟨s, h1, _, _, h5, _⟩ := done_again c p; exact ⟨s, h1, h5⟩)
  have HIT := Lib.hid hI
  have HIV := Lib.hid hr
  unfold CheckP at HCK
  obtain ⟨re, rs, ra, rb, rc, rn⟩ := r
  dsimp only [rpV] at *
  generalize check T id q = ck at *
  obtain ⟨V, E, Sx, A, B, C, N⟩ := ck
  dsimp only at *
  clear h he hr hI
  have HEND : Hid (∀ w1, Below w.heap.size w w1 → TabTo w w1 b T S) := Lib.hid fun w1 hb => HT.out.to hb
  have ARM : True := trivial
  rcases HV with rfl | rfl | rfl | rfl
  case inr.inr.inl =>
    have HD := Lib.hid (HD3.out (by omega))
    go_enter Try.func9, Try.ntmps9
    go_wp2_with (first | (go_at_call 8; (with_reducible refine (HCK.out _ HB0.out).mono ?_); rintro e w1 ⟨rfl, hb1⟩; have HB1 := Lib.hid ((HB0.out.trans (hb1.mono HB0.out.size)).alloc (HB0.out.trans (hb1.mono HB0.out.size)).size (.cells #[.int .i64 E, .string Sx, .int .i64 A, .int .i64 B, .int .i64 C, .int .i64 N] 27)); have HR1 := Lib.hid ((Below.heap_alloc w1 (.cells #[.int .i64 E, .string Sx, .int .i64 A, .int .i64 B, .int .i64 C, .int .i64 N] 27) w.heap.size (by have := hb1.size; simp at this; omega)).trans ((hb1.block w.heap.size (by simp)).trans HR0.out)); obtain ⟨x0, x1, x2, x3, x4, x5, _⟩ := row6 HR1.out; clear hb1))
    go_ret
    refine ⟨by rw [HD.out]; rfl, ?_⟩
    rw [HD.out]
    exact HEND.out _ HB1.out
  case inr.inr.inr =>
    have HD := Lib.hid (HD3.out (by omega))
    go_enter Try.func9, Try.ntmps9
    go_wp2_with (first | (go_at_call 8; (with_reducible refine (HCK.out _ HB0.out).mono ?_); rintro e w1 ⟨rfl, hb1⟩; have HB1 := Lib.hid ((HB0.out.trans (hb1.mono HB0.out.size)).alloc (HB0.out.trans (hb1.mono HB0.out.size)).size (.cells #[.int .i64 E, .string Sx, .int .i64 A, .int .i64 B, .int .i64 C, .int .i64 N] 27)); have HR1 := Lib.hid ((Below.heap_alloc w1 (.cells #[.int .i64 E, .string Sx, .int .i64 A, .int .i64 B, .int .i64 C, .int .i64 N] 27) w.heap.size (by have := hb1.size; simp at this; omega)).trans ((hb1.block w.heap.size (by simp)).trans HR0.out)); obtain ⟨x0, x1, x2, x3, x4, x5, _⟩ := row6 HR1.out; clear hb1))
    go_ret
    refine ⟨by rw [HD.out]; rfl, ?_⟩
    rw [HD.out]
    exact HEND.out _ HB1.out
  case inl =>
    have hneg : ¬ (2 : Int) < 1 := by omega
    cases hp : mayP ⟨re, rs, ra, rb, rc, rn⟩ with
    | false =>
      have HD := Lib.hid (HD4.out hneg hp)
      rw [hp, if_neg (by decide)] at HERR
      rw [HERR.out] at HPK
      clear hneg hp
      go_enter Try.func9, Try.ntmps9
      go_wp2_with (first | (go_at_call 8; (with_reducible refine (HCK.out _ HB0.out).mono ?_); rintro e w1 ⟨rfl, hb1⟩; have HB1 := Lib.hid ((HB0.out.trans (hb1.mono HB0.out.size)).alloc (HB0.out.trans (hb1.mono HB0.out.size)).size (.cells #[.int .i64 E, .string Sx, .int .i64 A, .int .i64 B, .int .i64 C, .int .i64 N] 27)); have HR1 := Lib.hid ((Below.heap_alloc w1 (.cells #[.int .i64 E, .string Sx, .int .i64 A, .int .i64 B, .int .i64 C, .int .i64 N] 27) w.heap.size (by have := hb1.size; simp at this; omega)).trans ((hb1.block w.heap.size (by simp)).trans HR0.out)); obtain ⟨x0, x1, x2, x3, x4, x5, _⟩ := row6 HR1.out; clear hb1) | (go_at_call 16; (with_reducible refine (HPK.out _).mono ?_); rintro e w2 ⟨⟨PT, rfl⟩, hb2⟩; have HB2 := Lib.hid (HB1.out.trans (hb2.mono HB1.out.size)); clear hb2))
      go_ret
      refine ⟨by rw [HD.out]; rfl, ?_⟩
      rw [HD.out]
      exact HEND.out _ HB2.out
    | true =>
      obtain ⟨s, hs, hd⟩ := HD1.out rfl hp
      rw [hp, if_pos rfl] at HERR
      rw [HERR.out] at HPK
      obtain ⟨g, k, cap, hk, hv, hgl, hfd⟩ := find_is H.out HIT.out hs
      have HFD := Lib.hid hfd
      have HK := Lib.hid hk
      have HD := Lib.hid hd
      have hsid := (find_mem hs).2
      have hset := fun (x : Ses) (hx : x.id = s.id) => setS_at HIT.out.srt hk hx
      have hgb : v.ownBlock = some g := by rw [hv]; rfl
      have hne1 : ¬ g = b := fun e => H.out.ne g hgb e
      have hne2 : ¬ b = g := fun e => hne1 e.symm
      have hne3 : ¬ g = w.heap.size := by omega
      have hne4 : ¬ w.heap.size = g := by omega
      have HSET := Lib.hid hset
      have HGB := Lib.hid hgb
      clear hneg hp hs hd hk hv hfd hset hgb
      go_enter Try.func9, Try.ntmps9
      go_wp2_with (first | (go_at_call 8; (with_reducible refine (HCK.out _ HB0.out).mono ?_); rintro e w1 ⟨rfl, hb1⟩; have HB1 := Lib.hid ((HB0.out.trans (hb1.mono HB0.out.size)).alloc (HB0.out.trans (hb1.mono HB0.out.size)).size (.cells #[.int .i64 E, .string Sx, .int .i64 A, .int .i64 B, .int .i64 C, .int .i64 N] 27)); have HR1 := Lib.hid ((Below.heap_alloc w1 (.cells #[.int .i64 E, .string Sx, .int .i64 A, .int .i64 B, .int .i64 C, .int .i64 N] 27) w.heap.size (by have := hb1.size; simp at this; omega)).trans ((hb1.block w.heap.size (by simp)).trans HR0.out)); obtain ⟨x0, x1, x2, x3, x4, x5, _⟩ := row6 HR1.out; clear hb1) | (go_at_call 16; (with_reducible refine (HPK.out _).mono ?_); rintro e w2 ⟨⟨PT, rfl⟩, hb2⟩; have HB2 := Lib.hid (HB1.out.trans (hb2.mono HB1.out.size)); have HR2 := Lib.hid ((hb2.block w.heap.size (Array.getElem?_eq_some_iff.1 HR1.out).1).trans HR1.out); clear hb2) | (go_at_call 21; (with_reducible refine (HFD.out _ HB2.out).mono ?_); rintro e w3 ⟨rfl, hb3⟩; have HB3 := Lib.hid (HB2.out.trans (hb3.mono HB2.out.size)); have HR3 := Lib.hid ((hb3.block w.heap.size (Array.getElem?_eq_some_iff.1 HR2.out).1).trans HR2.out); have HT3 := Lib.hid (H.out.below HB3.out); clear hb3 x0 x1 x2 x3 x4 x5; obtain ⟨x0, x1, x2, x3, x4, x5, _⟩ := row6 HR3.out; obtain ⟨b0, _⟩ := tcells HT3.out.box; obtain ⟨g', _, hv', ho', _, hc⟩ := HT3.out.cells HK.out; obtain rfl : g = g' := (by rw [HGB.out] at ho'; injection ho'); obtain ⟨y1, f1⟩ := hc 1 _ rfl; obtain ⟨y2, f2⟩ := hc 2 _ rfl; obtain ⟨y3, f3⟩ := hc 3 _ rfl; obtain ⟨y4, f4⟩ := hc 4 _ rfl; obtain ⟨y5, f5⟩ := hc 5 _ rfl; obtain ⟨y6, f6⟩ := hc 6 _ rfl; obtain ⟨y7, f7⟩ := hc 7 _ rfl; obtain ⟨y8, f8⟩ := hc 8 _ rfl; clear hc hv' ho'))
      go_region
      all_goals go_wp2_with fail
      all_goals go_ret
      all_goals
        refine ⟨by rw [HD.out]; rfl, ?_⟩
        rw [HD.out, HSET.out ⟨s.id, q, ⟨re, rs, ra, rb, rc, rn⟩, T.clk⟩ rfl]
        exact TabTo.from_ HB3.out (set8_tab HT3.out HGB.out HK.out q re rs ra rb rc rn T.clk)
  case inr.inl =>
    have hneg : ¬ (2 : Int) < 2 := by omega
    cases hp : mayP ⟨re, rs, ra, rb, rc, rn⟩ with
    | false =>
      have HD := Lib.hid (HD4.out hneg hp)
      rw [hp, if_neg (by decide)] at HERR
      rw [HERR.out] at HPK
      clear hneg hp
      go_enter Try.func9, Try.ntmps9
      go_wp2_with (first | (go_at_call 8; (with_reducible refine (HCK.out _ HB0.out).mono ?_); rintro e w1 ⟨rfl, hb1⟩; have HB1 := Lib.hid ((HB0.out.trans (hb1.mono HB0.out.size)).alloc (HB0.out.trans (hb1.mono HB0.out.size)).size (.cells #[.int .i64 E, .string Sx, .int .i64 A, .int .i64 B, .int .i64 C, .int .i64 N] 27)); have HR1 := Lib.hid ((Below.heap_alloc w1 (.cells #[.int .i64 E, .string Sx, .int .i64 A, .int .i64 B, .int .i64 C, .int .i64 N] 27) w.heap.size (by have := hb1.size; simp at this; omega)).trans ((hb1.block w.heap.size (by simp)).trans HR0.out)); obtain ⟨x0, x1, x2, x3, x4, x5, _⟩ := row6 HR1.out; clear hb1) | (go_at_call 16; (with_reducible refine (HPK.out _).mono ?_); rintro e w2 ⟨⟨PT, rfl⟩, hb2⟩; have HB2 := Lib.hid (HB1.out.trans (hb2.mono HB1.out.size)); clear hb2))
      go_ret
      refine ⟨by rw [HD.out]; rfl, ?_⟩
      rw [HD.out]
      exact HEND.out _ HB2.out
    | true =>
      obtain ⟨s, hs, hd⟩ := HD2.out rfl hp
      rw [hp, if_pos rfl] at HERR
      rw [HERR.out] at HPK
      obtain ⟨g, k, cap, hk, hv, hgl, hfd⟩ := find_is H.out HIT.out hs
      have HFD := Lib.hid hfd
      have HK := Lib.hid hk
      have HD := Lib.hid hd
      have hsid := (find_mem hs).2
      have hset := fun (x : Ses) (hx : x.id = s.id) => setS_at HIT.out.srt hk hx
      have hgb : v.ownBlock = some g := by rw [hv]; rfl
      have hne1 : ¬ g = b := fun e => H.out.ne g hgb e
      have hne2 : ¬ b = g := fun e => hne1 e.symm
      have hne3 : ¬ g = w.heap.size := by omega
      have hne4 : ¬ w.heap.size = g := by omega
      have HSET := Lib.hid hset
      have HGB := Lib.hid hgb
      clear hneg hp hs hd hk hv hfd hset hgb
      go_enter Try.func9, Try.ntmps9
      go_wp2_with (first | (go_at_call 8; (with_reducible refine (HCK.out _ HB0.out).mono ?_); rintro e w1 ⟨rfl, hb1⟩; have HB1 := Lib.hid ((HB0.out.trans (hb1.mono HB0.out.size)).alloc (HB0.out.trans (hb1.mono HB0.out.size)).size (.cells #[.int .i64 E, .string Sx, .int .i64 A, .int .i64 B, .int .i64 C, .int .i64 N] 27)); have HR1 := Lib.hid ((Below.heap_alloc w1 (.cells #[.int .i64 E, .string Sx, .int .i64 A, .int .i64 B, .int .i64 C, .int .i64 N] 27) w.heap.size (by have := hb1.size; simp at this; omega)).trans ((hb1.block w.heap.size (by simp)).trans HR0.out)); obtain ⟨x0, x1, x2, x3, x4, x5, _⟩ := row6 HR1.out; clear hb1) | (go_at_call 16; (with_reducible refine (HPK.out _).mono ?_); rintro e w2 ⟨⟨PT, rfl⟩, hb2⟩; have HB2 := Lib.hid (HB1.out.trans (hb2.mono HB1.out.size)); have HR2 := Lib.hid ((hb2.block w.heap.size (Array.getElem?_eq_some_iff.1 HR1.out).1).trans HR1.out); clear hb2) | (go_at_call 21; (with_reducible refine (HFD.out _ HB2.out).mono ?_); rintro e w3 ⟨rfl, hb3⟩; have HB3 := Lib.hid (HB2.out.trans (hb3.mono HB2.out.size)); have HR3 := Lib.hid ((hb3.block w.heap.size (Array.getElem?_eq_some_iff.1 HR2.out).1).trans HR2.out); have HT3 := Lib.hid (H.out.below HB3.out); clear hb3 x0 x1 x2 x3 x4 x5; obtain ⟨x0, x1, x2, x3, x4, x5, _⟩ := row6 HR3.out; obtain ⟨b0, _⟩ := tcells HT3.out.box; obtain ⟨g', _, hv', ho', _, hc⟩ := HT3.out.cells HK.out; obtain rfl : g = g' := (by rw [HGB.out] at ho'; injection ho'); obtain ⟨y1, f1⟩ := hc 1 _ rfl; obtain ⟨y2, f2⟩ := hc 2 _ rfl; obtain ⟨y3, f3⟩ := hc 3 _ rfl; obtain ⟨y4, f4⟩ := hc 4 _ rfl; obtain ⟨y5, f5⟩ := hc 5 _ rfl; obtain ⟨y6, f6⟩ := hc 6 _ rfl; obtain ⟨y7, f7⟩ := hc 7 _ rfl; obtain ⟨y8, f8⟩ := hc 8 _ rfl; clear hc hv' ho'))
      go_ret
      refine ⟨by rw [HD.out]; rfl, ?_⟩
      rw [HD.out, HSET.out ⟨s.id, s.seq, s.r, T.clk⟩ rfl]
      exact TabTo.from_ HB3.out (set1_tab HT3.out HGB.out HK.out T.clk)
end Go.Proofs.Ytphclpjekpdifaa
