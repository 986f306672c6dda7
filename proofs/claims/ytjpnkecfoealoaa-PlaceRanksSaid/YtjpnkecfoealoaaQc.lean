import Derived.Test.YtjpnkecfoealoaaQb
import Derived.Test.YtjpnkecfoealoaaShelf
import Derived.Deep.RegionHeld3
namespace Go.Proofs.Ytjpnkecfoealoaa
set_option maxRecDepth 20000
open Go.RowKit
open Go.Proofs.Ytjpnkecfoealoaa.Nm (Gr)
set_option linter.unusedVariables false

theorem Gr.refl (w : World) : Gr w w := ⟨Below.refl _ _, Nat.le_refl _⟩
theorem gr_grow {w w' : World} (h : Gr w w') : ∃ q os', w' = Go.Sort.grow (w.drewN q) os' := by
  obtain ⟨⟨h1, h2, h3, h4, h5⟩, h6⟩ := h
  refine ⟨w'.drawn - w.drawn, w'.heap.extract w.heap.size w'.heap.size, ?_⟩
  have e : w'.heap = w.heap ++ w'.heap.extract w.heap.size w'.heap.size := by
    apply Array.ext_getElem?
    intro k
    rw [Array.getElem?_append]
    split
    · rename_i hk
      exact h5 k hk
    · rename_i hk
      rw [Array.getElem?_extract]
      by_cases hk2 : k < w'.heap.size
      · rw [if_pos (by omega), show w.heap.size + (k - w.heap.size) = k by omega]
      · rw [if_neg (by omega), Array.getElem?_eq_none (by omega)]
  obtain ⟨hp, tp, dr, o, ou⟩ := w'
  obtain ⟨hp2, tp2, dr2, o2, ou2⟩ := w
  simp only at h1 h2 h3 h4 h5 h6 e
  subst h1 h2 h3
  simp only [Go.Sort.grow, World.drewN]
  rw [← e]
  congr 1
  omega

/-- is one node ahead of another: by scores and names -/
def aheadB (si sj : Int) (x y : List UInt8) : Bool := if si = sj then Nm.Pl.less x y else decide (si < sj)
theorem ahead_any (W : World) (bs bl g b off n c N i j : Nat) (si sj : Int) (x y : List UInt8) (hi : i < n) (hj : j < n) (hi2 : i < N) (hj2 : j < N) (hn : n ≤ 1000000)
    (hs : W.cell? ⟨bs, 0, none⟩ = some (.slice (some ⟨g, 0, none⟩) N N)) (hsi : W.cell? ⟨g, i, none⟩ = some (.int .i64 si)) (hsj : W.cell? ⟨g, j, none⟩ = some (.int .i64 sj))
    (hl : W.cell? ⟨bl, 0, none⟩ = some (.slice (some ⟨b, off, none⟩) n c)) (hx : W.cell? ⟨b, off + i * 8, none⟩ = some (.string (Nm.str x))) (hy : W.cell? ⟨b, off + j * 8, none⟩ = some (.string (Nm.str y)))
    (lx : x.length ≤ 281474976710656) (ly : y.length ≤ 281474976710656) (lt1 : bs < W.heap.size) (lt2 : bl < W.heap.size) (lt3 : b < W.heap.size) (lt4 : g < W.heap.size) :
    Calls Try.prog 25 #[.int .i64 (i : Int), .int .i64 (j : Int), .pointer (some ⟨bs, 0, none⟩), .pointer (some ⟨bl, 0, none⟩)] W fun e w' => e = .returned (.bool (aheadB si sj x y)) ∧ Gr W w' := by
  have k1 := Lib.hid fun w : World => Nm.less_str x y w lx ly
  have hi' : (i : Int) < n := by omega
  have hj' : (j : Int) < n := by omega
  have hi2' : (i : Int) < N := by omega
  have hj2' : (j : Int) < N := by omega
  unfold aheadB
  by_cases h : si = sj
  · rw [if_pos h]
    subst h
    generalize Nm.Pl.less x y = r at *
    go_enter Try.func25, Try.ntmps25
    go_wp2_with fail
    go_region
    go_wp2_with fail
    have g0 : Gr W W.drew := (Gr.refl W).drew
    generalize hV : W.drew = V at *
    have fs : V.cell? ⟨bs, 0, none⟩ = some (.slice (some ⟨g, 0, none⟩) N N) := by rw [← hV]; exact hs
    have fl : V.cell? ⟨bl, 0, none⟩ = some (.slice (some ⟨b, off, none⟩) n c) := by rw [← hV]; exact hl
    have fx : V.cell? ⟨b, off + i * 8, none⟩ = some (.string (Nm.str x)) := by rw [← hV]; exact hx
    have fy : V.cell? ⟨b, off + j * 8, none⟩ = some (.string (Nm.str y)) := by rw [← hV]; exact hy
    have D0 : Hid (Gr V V.drew) := Lib.hid (Gr.refl V).drew
    have e1 : V.drew.cell? ⟨bl, 0, none⟩ = some (.slice (some ⟨b, off, none⟩) n c) := fl
    have e2 : V.drew.cell? ⟨b, off + i * 8, none⟩ = some (.string (Nm.str x)) := fx
    have e3 : V.drew.cell? ⟨b, off + j * 8, none⟩ = some (.string (Nm.str y)) := fy
    have G0 := Lib.hid g0
    have z1 : bl < V.heap.size := by rw [← hV]; exact lt2
    have z2 : b < V.heap.size := by rw [← hV]; exact lt3
    clear hs hsi hl hx hy g0 hV lt1 lt2 lt3 lt4 fs fl fx fy
    go_region_held3 (fun U => U.cell? ⟨bl, 0, none⟩ = some (.slice (some ⟨b, off, none⟩) n c) ∧ U.cell? ⟨b, off + i * 8, none⟩ = some (.string (Nm.str x)) ∧ U.cell? ⟨b, off + j * 8, none⟩ = some (.string (Nm.str y))) (first | exact ⟨e1, e2, e3⟩ | exact ⟨e4, e5, e6⟩) (((go_at_call 26); refine (k1.out _).mono ?_; rintro e w1 ⟨rfl, hb1⟩; have B1 : Hid (Gr V w1) := Lib.hid (D0.out.trans hb1); clear hb1; have e4 := (B1.out.1.cell (p := ⟨bl, 0, none⟩) z1).trans e1; have e5 := (B1.out.1.cell (p := ⟨b, off + i * 8, none⟩) z2).trans e2; have e6 := (B1.out.1.cell (p := ⟨b, off + j * 8, none⟩) z2).trans e3))
    go_wp2_with fail
    go_ret
    exact ⟨rfl, G0.out.trans B1.out⟩
  · rw [if_neg h]
    have hne : (si != sj) = true := by simpa using h
    go_enter Try.func25, Try.ntmps25
    go_wp2_with fail
    go_region
    go_wp2_with fail
    go_region
    go_wp2_with fail
    go_ret
    exact ⟨rfl, (Gr.refl _).drew.drew⟩

/-- what the sort's function answers -/
def cmpI (r1 r2 : Bool) (i j : Int) : Int := if r1 then -1 else if r2 then 1 else i - j
theorem cmp_any (W : World) (bf bs bl : Nat) (i j : Nat) (r1 r2 : Bool) (hi : i ≤ 1000000) (hj : j ≤ 1000000)
    (hf : W.cell? ⟨bf, 0, none⟩ = some (.func (.func 25) #[] #[.pointer (some ⟨bs, 0, none⟩), .pointer (some ⟨bl, 0, none⟩)])) (lt : bf < W.heap.size)
    (k1 : ∀ U : World, Gr W U → Calls Try.prog 25 #[.int .i64 (i : Int), .int .i64 (j : Int), .pointer (some ⟨bs, 0, none⟩), .pointer (some ⟨bl, 0, none⟩)] U fun e w' => e = .returned (.bool r1) ∧ Gr U w')
    (k2 : ∀ U : World, Gr W U → Calls Try.prog 25 #[.int .i64 (j : Int), .int .i64 (i : Int), .pointer (some ⟨bs, 0, none⟩), .pointer (some ⟨bl, 0, none⟩)] U fun e w' => e = .returned (.bool r2) ∧ Gr U w') :
    Calls Try.prog 38 #[.int .i64 (i : Int), .int .i64 (j : Int), .pointer (some ⟨bf, 0, none⟩)] W fun e w' => e = .returned (.int .i64 (cmpI r1 r2 i j)) ∧ Gr W w' := by
  have K1 := Lib.hid k1
  have K2 := Lib.hid k2
  clear k1 k2
  have wr : IntKind.i64.wrap ((i : Int) - (j : Int)) = (i : Int) - (j : Int) := by simp [IntKind.wrap, IntKind.bits, IntKind.signed]; omega
  unfold cmpI
  have G0 := Lib.hid (Gr.refl W)
  cases r1 with
  | true =>
    rw [if_pos rfl]
    go_enter Try.func38, Try.ntmps38
    go_wp2_with (go_at_call 25; refine (K1.out _ G0.out).mono ?_; rintro e w1 ⟨rfl, hb1⟩; have B1 := Lib.hid hb1; clear hb1)
    go_ret
    exact ⟨rfl, B1.out⟩
  | false =>
    rw [if_neg (by decide)]
    cases r2 with
    | true =>
      rw [if_pos rfl]
      go_enter Try.func38, Try.ntmps38
      go_wp2_with (first | (go_at_call 25; (with_reducible refine (K1.out _ G0.out).mono ?_); rintro e w1 ⟨rfl, hb1⟩; have hf1 := (hb1.1.cell (p := ⟨bf, 0, none⟩) lt).trans hf; have B1 := Lib.hid hb1; clear hb1) | (go_at_call 25; (refine (K2.out _ B1.out).mono ?_; rintro e w2 ⟨rfl, hb2⟩; have B2 := Lib.hid (B1.out.trans hb2); clear hb2)))
      go_ret
      exact ⟨rfl, B2.out⟩
    | false =>
      rw [if_neg (by decide)]
      go_enter Try.func38, Try.ntmps38
      go_wp2_with (first | (go_at_call 25; (with_reducible refine (K1.out _ G0.out).mono ?_); rintro e w1 ⟨rfl, hb1⟩; have hf1 := (hb1.1.cell (p := ⟨bf, 0, none⟩) lt).trans hf; have B1 := Lib.hid hb1; clear hb1) | (go_at_call 25; (refine (K2.out _ B1.out).mono ?_; rintro e w2 ⟨rfl, hb2⟩; have B2 := Lib.hid (B1.out.trans hb2); clear hb2)))
      go_ret
      exact ⟨rfl, B2.out⟩
end Go.Proofs.Ytjpnkecfoealoaa
