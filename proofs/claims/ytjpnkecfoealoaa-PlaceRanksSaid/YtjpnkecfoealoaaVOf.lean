import Derived.Test.YtjpnkecfoealoaaVPlus
namespace Go.Proofs.Ytjpnkecfoealoaa.Vc
set_option maxRecDepth 20000
open Go.RowKit
set_option linter.unusedVariables false
theorem build45_1 (b : Bool) (w : World) : (Instr.build 69 #[(0, .bool b)]).run Try.prog w = .ok (.agg #[.bool b, .slice none 0 0]) w := run_build w 69 _ _ (by kernel_rfl)
theorem build45_0 (w : World) : (Instr.build 69 #[]).run Try.prog w = .ok (.agg #[.bool false, .slice none 0 0]) w := run_build w 69 _ _ (by kernel_rfl)
theorem build45_2 (b : Bool) (A : Option Addr) (n c : Nat) (w : World) : (Instr.build 69 #[(0, .bool b), (1, .slice A n c)]).run Try.prog w = .ok (.agg #[.bool b, .slice A n c]) w := run_build w 69 _ _ (by kernel_rfl)
/-- a number of many digits in block g -/
def GK (W : World) (g : Nat) (bl : Bool) (v : Value) : Prop := W.heap[g]? = some (.cells #[.bool bl, v] 69 (0, 0))
theorem GK.c {W : World} {g : Nat} {bl : Bool} {v : Value} (h : GK W g bl v) : W.cell? ⟨g, 0, none⟩ = some (.bool bl) ∧ W.cell? ⟨g, 1, none⟩ = some v := by
  unfold GK at h
  refine ⟨?_, ?_⟩ <;> (rw [cell_of_row _ _ _ _ _ _ h]; rfl)
theorem GK.f {W : World} {g : Nat} {bl : Bool} {v : Value} (h : GK W g bl v) (k : Nat) : W.frozen? ⟨g, k, none⟩ = false := frozen_of_row _ _ _ _ _ h
theorem GK.lt {W : World} {g : Nat} {bl : Bool} {v : Value} (h : GK W g bl v) : g < W.heap.size := by
  unfold GK at h
  rcases Nat.lt_or_ge g W.heap.size with hh | hh
  · exact hh
  · rw [Array.getElem?_eq_none hh] at h; cases h
theorem GK.new (w : World) (bl : Bool) (v : Value) : GK (w.alloc (.cells #[.bool bl, v] 69)) w.heap.size bl v := heap_alloc_new w _
theorem GK.on {W W' : World} {g n : Nat} {bl : Bool} {v : Value} (h : GK W g bl v) (hb : Below n W W') (hl : g < n) : GK W' g bl v := (hb.block g hl).trans h
theorem GK.alloc {W : World} {g : Nat} {bl : Bool} {v : Value} (h : GK W g bl v) (o : Obj) : GK (W.alloc o) g bl v := h.on ((Below.refl _ W).alloc (Nat.le_refl _) o) h.lt
theorem GK.set {W : World} {g : Nat} {bl : Bool} {v : Value} (h : GK W g bl v) (u : Value) : GK (W.setCell ⟨g, 1, none⟩ u) g bl u := by
  unfold GK at h ⊢
  simp [World.setCell, Array.getElem?_modify, h]
theorem GK.other {W : World} {g b k : Nat} {bl : Bool} {v : Value} (h : GK W g bl v) (hne : g ≠ b) (u : Value) : GK (W.setCell ⟨b, k, none⟩ u) g bl v := (Below.heap_setCell W _ u g hne).trans h
theorem OwnD.other {w : World} {base b k : Nat} {v : Value} {l : List Nat} (h : OwnD w base v l) (hb : b < base) (u : Value) : OwnD (w.setCell ⟨b, k, none⟩ u) base v l := by
  refine ⟨h.1, ?_⟩
  rcases h.2 with hn | ⟨g, cap, cur, rfl, hg, hgg, r⟩
  · exact .inl hn
  · exact .inr ⟨g, cap, cur, rfl, hg, by rw [Below.heap_setCell _ _ _ _ (by show g ≠ b; omega)]; exact hgg, r⟩
/-- the answer is a number worth x, of at most N places -/
def BigPost (x : Int) (N : Nat) (w : World) (e : Ending) (w' : World) : Prop := ∃ bl A n cap D, e = .returned (.agg #[.bool bl, .slice A n cap]) ∧ Row w' A n cap D ∧ x = (if bl then -(Pd.val D : Int) else (Pd.val D : Int)) ∧ n ≤ N ∧ Below w.heap.size w w'
def OfRel (w : World) (bl : Bool) (N : Nat) (v4 : Value) (wr : World) : Prop := ∃ (m : Nat) (D : List Nat) (v : Value), v4 = .int .u64 (m : Int) ∧ m ≤ 9223372036854775808 ∧ GK wr (w.heap.size + 1) bl v ∧ OwnD wr (w.heap.size + 2) v D ∧ Pd.val D + m * 10 ^ D.length = N ∧ Pd.Dig D ∧ D.length ≤ 20 ∧ GK wr w.heap.size false (.slice none 0 0) ∧ Below w.heap.size w wr ∧ w.heap.size + 2 ≤ wr.heap.size
theorem of_core (x : Int) (bl : Bool) (N : Nat) (w : World) (hN : N ≤ 9223372036854775808) (hx : x = if bl then -(N : Int) else N) (hbl : decide (x < 0) = bl) : Calls Try.prog 46 #[.int .i64 x] w (BigPost x 20 w) := by
  have b1 := build45_1 bl
  have hw1 : bl = true → IntKind.u64.wrap (-IntKind.u64.wrap x) = (N : Int) := fun h => by
    rw [h] at hx
    simp only [if_true] at hx
    rw [IntKind.wrap_u64, IntKind.wrap_u64]; omega
  have hw2 : bl = false → IntKind.u64.wrap x = (N : Int) := fun h => by
    rw [h] at hx
    simp only [Bool.false_eq_true, if_false] at hx
    rw [IntKind.wrap_u64]; omega
  have HX := Lib.hid hx
  clear hx
  cases bl with
  | true =>
    have hw := hw1 rfl
    clear hw1 hw2
    go_enter Try.func46, Try.ntmps46
    go_wp2_with fail
    go_loopw [4] (OfRel w true N) (fun m _ => (intOf m).toNat)
    case atStart =>
      have hg := GK.new (w.alloc (.cells #[.bool false, .slice none 0 0] 69)) true (.slice none 0 0)
      simp only [World.size_alloc] at hg
      exact ⟨N, [], .slice none 0 0, rfl, hN, hg, OwnD.nil _ _, by simp [Pd.val, Pd.V], by simp [Pd.Dig], by simp, (GK.new w false (.slice none 0 0)).alloc _, ((Below.refl _ _).alloc (Nat.le_refl _) _).alloc (by simp) _, by simp⟩
    case round =>
      clear hw b1
      obtain ⟨m, D, v, rfl, hm, hg, own, hval, hdig, hlen, hr, bel, hbase⟩ := hrel
      obtain ⟨g0, g1⟩ := hg.c
      have f1 := hg.f 1
      by_cases hm0 : 0 < m
      · have hlt : D.length < 20 := by
          rcases Nat.lt_or_ge D.length 20 with h | h
          · exact h
          · have h1 : 10 ^ 20 ≤ 10 ^ D.length := Nat.pow_le_pow_right (by decide) h
            have h2 : 1 * 10 ^ D.length ≤ m * 10 ^ D.length := Nat.mul_le_mul_right _ hm0
            omega
        have V1 := Lib.hid (digs_new wr [m % 10])
        have OW := Lib.hid (own.below ((Below.refl _ wr).alloc (Nat.le_refl _) (.cells (dC [m % 10]).toArray 3)))
        have HV := Lib.hid (Pd.of_step hval)
        have HD := Lib.hid (Pd.Dig_snoc hdig (show m % 10 < 10 by omega))
        have HG := Lib.hid (hg.alloc (.cells (dC [m % 10]).toArray 3))
        have HR := Lib.hid (hr.alloc (.cells (dC [m % 10]).toArray 3))
        have BE := Lib.hid (below_box bel (.cells (dC [m % 10]).toArray 3))
        have BA := Lib.hid hbase
        have OL := Lib.hid (show D.length + 1 ≤ 1000000 by omega)
        have hmm : ((m % 10 : Nat) : Int) = (m : Int) % 10 := by omega
        have hmd : ((m / 10 : Nat) : Int) = (m : Int) / 10 := by omega
        have q0 : (0 : Int) ≤ m := by omega
        have q1 : (m : Int) ≤ 9223372036854775808 := by omega
        have H0 := Lib.hid hm
        clear own hval hdig hr bel hbase hm
        obtain ⟨g0', g1'⟩ := HG.out.c
        have f1' := HG.out.f 1
        have MM := Lib.hid hmm
        have MD := Lib.hid hmd
        clear hmm hmd
        go_wp2_with ((at_builtin; (refine wp_appD rfl (.tmp 17) (.tmp 21) rfl (w.heap.size + 2) _ D rfl OW.out (some ⟨wr.heap.size, 0, none⟩) 1 1 _ [m % 10] rfl (fun h => by cases h) (by have := V1.out; simpa [dC, MM.out] using this) rfl (by omega) OL.out (by have := BA.out; simp; omega) ?_); intro v3 w3 own3 hb3; obtain ⟨A3, cap3, rfl, _, hc3, hm3, _⟩ := own3.form; have O3 := Lib.hid own3; have B3 := Lib.hid hb3; have G3 := Lib.hid (HG.out.on hb3 (by omega)); have R3 := Lib.hid (HR.out.on hb3 (by omega)); obtain ⟨k0, k1⟩ := G3.out.c; have kf := G3.out.f 1; clear own3 hb3))
        go_roundw
        case rel => exact ⟨m / 10, D ++ [m % 10], _, by rw [MD.out], by have := H0.out; omega, G3.out.set _, by have h7 := O3.out.other (b := w.heap.size + 1) (k := 1) (by omega) (.slice A3 (D.length + 1) cap3); rw [show (D ++ [m % 10]).length = D.length + 1 from by simp] at h7; exact h7, HV.out, HD.out, by simp; omega, R3.out.other (b := w.heap.size + 1) (by omega) _, (BE.out.trans (B3.out.mono (by omega))).setCell (p := ⟨w.heap.size + 1, 1, none⟩) (by show w.heap.size ≤ w.heap.size + 1; omega) _, by have h8 := B3.out.size; rw [World.size_alloc] at h8; have := BA.out; simp [World.setCell]; omega⟩
        case measure => simp [intOf]; omega
      · obtain rfl : m = 0 := by omega
        obtain ⟨A3, cap3, rfl, hda, hc3, hm3, hn3⟩ := own.form
        rw [Nat.zero_mul, Nat.add_zero] at hval
        have HP := Lib.hid (show Row wr A3 D.length cap3 D from ⟨hda, rfl, hc3, hm3, hn3, hdig, by omega⟩)
        have HV := Lib.hid hval
        have BE := Lib.hid bel
        have OO := Lib.hid own
        obtain ⟨r0, r1⟩ := hr.c
        have rf0 := hr.f 0
        have rf1 := hr.f 1
        clear own hval hdig hr bel hda hn3 hg
        go_wp2_with fail
        refine bodyPost_ret (v := .agg #[.bool true, .slice A3 D.length cap3]) (by simp [results, Try.results46, go_sem, r0, r1]) rfl ?_
        have b2 := (BE.out.setCell (p := ⟨w.heap.size, 0, none⟩) (Nat.le_refl _) (.bool true)).setCell (p := ⟨w.heap.size, 1, none⟩) (Nat.le_refl _) (.slice A3 D.length cap3)
        have own2 := (OO.out.other (b := w.heap.size) (k := 0) (by omega) (.bool true)).other (b := w.heap.size) (k := 1) (by omega) (.slice A3 D.length cap3)
        obtain ⟨A4, cap4, he4, hda4, _⟩ := own2.form
        simp only [Value.slice.injEq, true_and] at he4
        obtain ⟨rfl, rfl⟩ := he4
        exact ⟨true, A3, D.length, cap3, D, rfl, ⟨hda4, rfl, HP.out.le, HP.out.cap', HP.out.none', HP.out.dig, HP.out.small⟩, by rw [HV.out]; exact HX.out, hlen, b2⟩
  | false =>
    have hw := hw2 rfl
    clear hw1 hw2
    go_enter Try.func46, Try.ntmps46
    go_wp2_with fail
    go_loopw [4] (OfRel w false N) (fun m _ => (intOf m).toNat)
    case atStart =>
      have hg := GK.new (w.alloc (.cells #[.bool false, .slice none 0 0] 69)) false (.slice none 0 0)
      simp only [World.size_alloc] at hg
      exact ⟨N, [], .slice none 0 0, rfl, hN, hg, OwnD.nil _ _, by simp [Pd.val, Pd.V], by simp [Pd.Dig], by simp, (GK.new w false (.slice none 0 0)).alloc _, ((Below.refl _ _).alloc (Nat.le_refl _) _).alloc (by simp) _, by simp⟩
    case round =>
      clear hw b1
      obtain ⟨m, D, v, rfl, hm, hg, own, hval, hdig, hlen, hr, bel, hbase⟩ := hrel
      obtain ⟨g0, g1⟩ := hg.c
      have f1 := hg.f 1
      by_cases hm0 : 0 < m
      · have hlt : D.length < 20 := by
          rcases Nat.lt_or_ge D.length 20 with h | h
          · exact h
          · have h1 : 10 ^ 20 ≤ 10 ^ D.length := Nat.pow_le_pow_right (by decide) h
            have h2 : 1 * 10 ^ D.length ≤ m * 10 ^ D.length := Nat.mul_le_mul_right _ hm0
            omega
        have V1 := Lib.hid (digs_new wr [m % 10])
        have OW := Lib.hid (own.below ((Below.refl _ wr).alloc (Nat.le_refl _) (.cells (dC [m % 10]).toArray 3)))
        have HV := Lib.hid (Pd.of_step hval)
        have HD := Lib.hid (Pd.Dig_snoc hdig (show m % 10 < 10 by omega))
        have HG := Lib.hid (hg.alloc (.cells (dC [m % 10]).toArray 3))
        have HR := Lib.hid (hr.alloc (.cells (dC [m % 10]).toArray 3))
        have BE := Lib.hid (below_box bel (.cells (dC [m % 10]).toArray 3))
        have BA := Lib.hid hbase
        have OL := Lib.hid (show D.length + 1 ≤ 1000000 by omega)
        have hmm : ((m % 10 : Nat) : Int) = (m : Int) % 10 := by omega
        have hmd : ((m / 10 : Nat) : Int) = (m : Int) / 10 := by omega
        have q0 : (0 : Int) ≤ m := by omega
        have q1 : (m : Int) ≤ 9223372036854775808 := by omega
        have H0 := Lib.hid hm
        clear own hval hdig hr bel hbase hm
        obtain ⟨g0', g1'⟩ := HG.out.c
        have f1' := HG.out.f 1
        have MM := Lib.hid hmm
        have MD := Lib.hid hmd
        clear hmm hmd
        go_wp2_with ((at_builtin; (refine wp_appD rfl (.tmp 17) (.tmp 21) rfl (w.heap.size + 2) _ D rfl OW.out (some ⟨wr.heap.size, 0, none⟩) 1 1 _ [m % 10] rfl (fun h => by cases h) (by have := V1.out; simpa [dC, MM.out] using this) rfl (by omega) OL.out (by have := BA.out; simp; omega) ?_); intro v3 w3 own3 hb3; obtain ⟨A3, cap3, rfl, _, hc3, hm3, _⟩ := own3.form; have O3 := Lib.hid own3; have B3 := Lib.hid hb3; have G3 := Lib.hid (HG.out.on hb3 (by omega)); have R3 := Lib.hid (HR.out.on hb3 (by omega)); obtain ⟨k0, k1⟩ := G3.out.c; have kf := G3.out.f 1; clear own3 hb3))
        go_roundw
        case rel => exact ⟨m / 10, D ++ [m % 10], _, by rw [MD.out], by have := H0.out; omega, G3.out.set _, by have h7 := O3.out.other (b := w.heap.size + 1) (k := 1) (by omega) (.slice A3 (D.length + 1) cap3); rw [show (D ++ [m % 10]).length = D.length + 1 from by simp] at h7; exact h7, HV.out, HD.out, by simp; omega, R3.out.other (b := w.heap.size + 1) (by omega) _, (BE.out.trans (B3.out.mono (by omega))).setCell (p := ⟨w.heap.size + 1, 1, none⟩) (by show w.heap.size ≤ w.heap.size + 1; omega) _, by have h8 := B3.out.size; rw [World.size_alloc] at h8; have := BA.out; simp [World.setCell]; omega⟩
        case measure => simp [intOf]; omega
      · obtain rfl : m = 0 := by omega
        obtain ⟨A3, cap3, rfl, hda, hc3, hm3, hn3⟩ := own.form
        rw [Nat.zero_mul, Nat.add_zero] at hval
        have HP := Lib.hid (show Row wr A3 D.length cap3 D from ⟨hda, rfl, hc3, hm3, hn3, hdig, by omega⟩)
        have HV := Lib.hid hval
        have BE := Lib.hid bel
        have OO := Lib.hid own
        obtain ⟨r0, r1⟩ := hr.c
        have rf0 := hr.f 0
        have rf1 := hr.f 1
        clear own hval hdig hr bel hda hn3 hg
        go_wp2_with fail
        refine bodyPost_ret (v := .agg #[.bool false, .slice A3 D.length cap3]) (by simp [results, Try.results46, go_sem, r0, r1]) rfl ?_
        have b2 := (BE.out.setCell (p := ⟨w.heap.size, 0, none⟩) (Nat.le_refl _) (.bool false)).setCell (p := ⟨w.heap.size, 1, none⟩) (Nat.le_refl _) (.slice A3 D.length cap3)
        have own2 := (OO.out.other (b := w.heap.size) (k := 0) (by omega) (.bool false)).other (b := w.heap.size) (k := 1) (by omega) (.slice A3 D.length cap3)
        obtain ⟨A4, cap4, he4, hda4, _⟩ := own2.form
        simp only [Value.slice.injEq, true_and] at he4
        obtain ⟨rfl, rfl⟩ := he4
        exact ⟨false, A3, D.length, cap3, D, rfl, ⟨hda4, rfl, HP.out.le, HP.out.cap', HP.out.none', HP.out.dig, HP.out.small⟩, by rw [HV.out]; exact HX.out, hlen, b2⟩
theorem of_any (x : Int) (w : World) (hx : I64 x) : Calls Try.prog 46 #[.int .i64 x] w (BigPost x 20 w) := by
  unfold I64 at hx
  by_cases h : x < 0
  · exact of_core x true x.natAbs w (by omega) (by simp; omega) (by simpa using h)
  · exact of_core x false x.natAbs w (by omega) (by simp; omega) (by simpa using h)
end Go.Proofs.Ytjpnkecfoealoaa.Vc
