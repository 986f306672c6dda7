import Derived.Shelf.SlGeneric
import Derived.Shelf.SlSortCmp.Whole1
import Derived.Test.YtphclpjekpdifaaGreatProg
import Derived.Test.YtphclpjekpdifaaGreatYI
import Derived.Deep.RegionHeld3
import Derived.Test.YtphclpjekpdifaaGreatYE
import Derived.Shelf.SlSortCmp.NoneTotal
namespace Go.Proofs
open Go.Shelf
def Tryz.laysSlF6_f209_ren : Go.Shelf.Ren := ⟨fun | 6 => 209 | 15 => 127 | 14 => 216 | 28 => 170 | 29 => 171 | 20 => 219 | 21 => 220 | 22 => 221 | 23 => 222 | 24 => 223 | 25 => 224 | 26 => 225 | 27 => 226 | 46 => 228 | 47 => 199 | 48 => 200 | 49 => 229 | 50 => 230 | 57 => 231 | n => n, fun | 22 => 162 | 24 => 3 | 25 => 294 | 3 => 3 | 39 => 204 | 0 => 0 | 53 => 252 | 55 => 173 | 4 => 4 | 46 => 246 | 45 => 245 | 50 => 218 | 5 => 5 | 9 => 9 | 66 => 284 | 70 => 287 | 76 => 297 | 77 => 298 | n => n, fun | n => n⟩
theorem Tryz.laysSlF6_f209 : Go.Proofs.SlLaysF.n6 Tryz.prog Tryz.laysSlF6_f209_ren := {
  mixed := by kernel_rfl
  f6 := ⟨Tryz.f209.name, by decide, Tryz.func209.trans (congrArg some (by kernel_rfl))⟩
  f14 := ⟨Tryz.f216.name, by decide, Tryz.func216.trans (congrArg some (by kernel_rfl))⟩
  f15 := Tryz.func127.trans (congrArg some (by kernel_rfl))
  f20 := ⟨Tryz.f219.name, by decide, Tryz.func219.trans (congrArg some (by kernel_rfl))⟩
  f21 := ⟨Tryz.f220.name, by decide, Tryz.func220.trans (congrArg some (by kernel_rfl))⟩
  f22 := ⟨Tryz.f221.name, by decide, Tryz.func221.trans (congrArg some (by kernel_rfl))⟩
  f23 := ⟨Tryz.f222.name, by decide, Tryz.func222.trans (congrArg some (by kernel_rfl))⟩
  f24 := ⟨Tryz.f223.name, by decide, Tryz.func223.trans (congrArg some (by kernel_rfl))⟩
  f25 := ⟨Tryz.f224.name, by decide, Tryz.func224.trans (congrArg some (by kernel_rfl))⟩
  f26 := ⟨Tryz.f225.name, by decide, Tryz.func225.trans (congrArg some (by kernel_rfl))⟩
  f27 := ⟨Tryz.f226.name, by decide, Tryz.func226.trans (congrArg some (by kernel_rfl))⟩
  f28 := Tryz.func170.trans (congrArg some (by kernel_rfl))
  f29 := Tryz.func171.trans (congrArg some (by kernel_rfl))
  f46 := ⟨Tryz.f228.name, by decide, Tryz.func228.trans (congrArg some (by kernel_rfl))⟩
  f47 := Tryz.func199.trans (congrArg some (by kernel_rfl))
  f48 := Tryz.func200.trans (congrArg some (by kernel_rfl))
  f49 := ⟨Tryz.f229.name, by decide, Tryz.func229.trans (congrArg some (by kernel_rfl))⟩
  f50 := ⟨Tryz.f230.name, by decide, Tryz.func230.trans (congrArg some (by kernel_rfl))⟩
  f57 := ⟨Tryz.f231.name, by decide, Tryz.func231.trans (congrArg some (by kernel_rfl))⟩
  t0 := Tryz.underlying0
  a0 := Tryz.isAgg0
  z0 := Tryz.sizeOf0
  v0 := Tryz.zeroValue0
  t3 := Tryz.underlying3
  a3 := Tryz.isAgg3
  z3 := Tryz.sizeOf3
  v3 := Tryz.zeroValue3
  t4 := Tryz.underlying4
  a4 := Tryz.isAgg4
  z4 := Tryz.sizeOf4
  v4 := Tryz.zeroValue4
  t5 := Tryz.underlying5
  a5 := Tryz.isAgg5
  z5 := Tryz.sizeOf5
  v5 := Tryz.zeroValue5
  t9 := Tryz.underlying9
  a9 := Tryz.isAgg9
  z9 := Tryz.sizeOf9
  v9 := Tryz.zeroValue9
  t22 := Tryz.underlying162
  a22 := Tryz.isAgg162
  z22 := Tryz.sizeOf162
  v22 := Tryz.zeroValue162
  a24 := Tryz.isAgg3
  z24 := Tryz.sizeOf3
  t25 := Tryz.underlying294
  a25 := Tryz.isAgg294
  z25 := Tryz.sizeOf294
  v25 := Tryz.zeroValue294
  t39 := Tryz.underlying204
  a39 := Tryz.isAgg204
  z39 := Tryz.sizeOf204
  v39 := Tryz.zeroValue204
  t45 := Tryz.underlying245
  a45 := Tryz.isAgg245
  z45 := Tryz.sizeOf245
  v45 := Tryz.zeroValue245
  t46 := Tryz.underlying246
  a46 := Tryz.isAgg246
  z46 := Tryz.sizeOf246
  v46 := Tryz.zeroValue246
  t50 := Tryz.underlying218
  a50 := Tryz.isAgg218
  z50 := Tryz.sizeOf218
  v50 := Tryz.zeroValue218
  t53 := Tryz.underlying252
  a53 := Tryz.isAgg252
  z53 := Tryz.sizeOf252
  v53 := Tryz.zeroValue252
  t55 := Tryz.underlying173
  a55 := Tryz.isAgg173
  z55 := Tryz.sizeOf173
  v55 := Tryz.zeroValue173
  t66 := Tryz.underlying284
  a66 := Tryz.isAgg284
  z66 := Tryz.sizeOf284
  v66 := Tryz.zeroValue284
  t70 := Tryz.underlying287
  a70 := Tryz.isAgg287
  z70 := Tryz.sizeOf287
  v70 := Tryz.zeroValue287
  t76 := Tryz.underlying297
  a76 := Tryz.isAgg297
  z76 := Tryz.sizeOf297
  v76 := Tryz.zeroValue297
  t77 := Tryz.underlying298
  a77 := Tryz.isAgg298
  z77 := Tryz.sizeOf298
  v77 := Tryz.zeroValue298 }
def Tryz.laysSlF6_f92_ren : Go.Shelf.Ren := ⟨fun | 6 => 92 | 15 => 127 | 14 => 126 | 28 => 170 | 29 => 171 | 20 => 162 | 21 => 163 | 22 => 164 | 23 => 165 | 24 => 166 | 25 => 167 | 26 => 168 | 27 => 169 | 46 => 198 | 47 => 199 | 48 => 200 | 49 => 201 | 50 => 202 | 57 => 213 | n => n, fun | 22 => 66 | 24 => 9 | 25 => 159 | 3 => 3 | 39 => 204 | 0 => 0 | 53 => 252 | 55 => 173 | 4 => 4 | 46 => 246 | 45 => 245 | 50 => 218 | 5 => 5 | 9 => 9 | 66 => 284 | 70 => 287 | 76 => 297 | 77 => 298 | n => n, fun | n => n⟩
theorem Tryz.laysSlF6_f92 : Go.Proofs.SlLaysF.n6 Tryz.prog Tryz.laysSlF6_f92_ren := {
  mixed := by kernel_rfl
  f6 := ⟨Tryz.f92.name, by decide, Tryz.func92.trans (congrArg some (by kernel_rfl))⟩
  f14 := ⟨Tryz.f126.name, by decide, Tryz.func126.trans (congrArg some (by kernel_rfl))⟩
  f15 := Tryz.func127.trans (congrArg some (by kernel_rfl))
  f20 := ⟨Tryz.f162.name, by decide, Tryz.func162.trans (congrArg some (by kernel_rfl))⟩
  f21 := ⟨Tryz.f163.name, by decide, Tryz.func163.trans (congrArg some (by kernel_rfl))⟩
  f22 := ⟨Tryz.f164.name, by decide, Tryz.func164.trans (congrArg some (by kernel_rfl))⟩
  f23 := ⟨Tryz.f165.name, by decide, Tryz.func165.trans (congrArg some (by kernel_rfl))⟩
  f24 := ⟨Tryz.f166.name, by decide, Tryz.func166.trans (congrArg some (by kernel_rfl))⟩
  f25 := ⟨Tryz.f167.name, by decide, Tryz.func167.trans (congrArg some (by kernel_rfl))⟩
  f26 := ⟨Tryz.f168.name, by decide, Tryz.func168.trans (congrArg some (by kernel_rfl))⟩
  f27 := ⟨Tryz.f169.name, by decide, Tryz.func169.trans (congrArg some (by kernel_rfl))⟩
  f28 := Tryz.func170.trans (congrArg some (by kernel_rfl))
  f29 := Tryz.func171.trans (congrArg some (by kernel_rfl))
  f46 := ⟨Tryz.f198.name, by decide, Tryz.func198.trans (congrArg some (by kernel_rfl))⟩
  f47 := Tryz.func199.trans (congrArg some (by kernel_rfl))
  f48 := Tryz.func200.trans (congrArg some (by kernel_rfl))
  f49 := ⟨Tryz.f201.name, by decide, Tryz.func201.trans (congrArg some (by kernel_rfl))⟩
  f50 := ⟨Tryz.f202.name, by decide, Tryz.func202.trans (congrArg some (by kernel_rfl))⟩
  f57 := ⟨Tryz.f213.name, by decide, Tryz.func213.trans (congrArg some (by kernel_rfl))⟩
  t0 := Tryz.underlying0
  a0 := Tryz.isAgg0
  z0 := Tryz.sizeOf0
  v0 := Tryz.zeroValue0
  t3 := Tryz.underlying3
  a3 := Tryz.isAgg3
  z3 := Tryz.sizeOf3
  v3 := Tryz.zeroValue3
  t4 := Tryz.underlying4
  a4 := Tryz.isAgg4
  z4 := Tryz.sizeOf4
  v4 := Tryz.zeroValue4
  t5 := Tryz.underlying5
  a5 := Tryz.isAgg5
  z5 := Tryz.sizeOf5
  v5 := Tryz.zeroValue5
  t9 := Tryz.underlying9
  a9 := Tryz.isAgg9
  z9 := Tryz.sizeOf9
  v9 := Tryz.zeroValue9
  t22 := Tryz.underlying66
  a22 := Tryz.isAgg66
  z22 := Tryz.sizeOf66
  v22 := Tryz.zeroValue66
  a24 := Tryz.isAgg9
  z24 := Tryz.sizeOf9
  t25 := Tryz.underlying159
  a25 := Tryz.isAgg159
  z25 := Tryz.sizeOf159
  v25 := Tryz.zeroValue159
  t39 := Tryz.underlying204
  a39 := Tryz.isAgg204
  z39 := Tryz.sizeOf204
  v39 := Tryz.zeroValue204
  t45 := Tryz.underlying245
  a45 := Tryz.isAgg245
  z45 := Tryz.sizeOf245
  v45 := Tryz.zeroValue245
  t46 := Tryz.underlying246
  a46 := Tryz.isAgg246
  z46 := Tryz.sizeOf246
  v46 := Tryz.zeroValue246
  t50 := Tryz.underlying218
  a50 := Tryz.isAgg218
  z50 := Tryz.sizeOf218
  v50 := Tryz.zeroValue218
  t53 := Tryz.underlying252
  a53 := Tryz.isAgg252
  z53 := Tryz.sizeOf252
  v53 := Tryz.zeroValue252
  t55 := Tryz.underlying173
  a55 := Tryz.isAgg173
  z55 := Tryz.sizeOf173
  v55 := Tryz.zeroValue173
  t66 := Tryz.underlying284
  a66 := Tryz.isAgg284
  z66 := Tryz.sizeOf284
  v66 := Tryz.zeroValue284
  t70 := Tryz.underlying287
  a70 := Tryz.isAgg287
  z70 := Tryz.sizeOf287
  v70 := Tryz.zeroValue287
  t76 := Tryz.underlying297
  a76 := Tryz.isAgg297
  z76 := Tryz.sizeOf297
  v76 := Tryz.zeroValue297
  t77 := Tryz.underlying298
  a77 := Tryz.isAgg298
  z77 := Tryz.sizeOf298
  v77 := Tryz.zeroValue298 }
end Go.Proofs
namespace Go.Proofs.YtphclpjekpdifaaGreat
set_option maxRecDepth 20000
open Go.RowKit
open Go.Proofs.YtphclpjekpdifaaGreat.Nm (Gr)
set_option linter.unusedVariables false
theorem Gr.refl (w : World) : Gr w w := ⟨Below.refl _ _, Nat.le_refl _⟩
theorem gr_grow {w w' : World} (h : Gr w w') : ∃ q os', w' = Go.Sort.grow (w.drewN q) os' := by
  obtain ⟨⟨h1, h2, h3, h4, h5⟩, h6⟩ := h
  refine ⟨w'.drawn - w.drawn, w'.heap.extract w.heap.size w'.heap.size, ?_⟩
  have e : w'.heap = w.heap ++ w'.heap.extract w.heap.size w'.heap.size := by
    apply Array.ext_getElem?
    intro k
    rw [Array.getElem?_append]
    split
    · rename_i hk
      exact h5 k hk
    · rename_i hk
      rw [Array.getElem?_extract]
      by_cases hk2 : k < w'.heap.size
      · rw [if_pos (by omega), show w.heap.size + (k - w.heap.size) = k by omega]
      · rw [if_neg (by omega), Array.getElem?_eq_none (by omega)]
  obtain ⟨hp, tp, dr, o, ou⟩ := w'
  obtain ⟨hp2, tp2, dr2, o2, ou2⟩ := w
  simp only at h1 h2 h3 h4 h5 h6 e
  subst h1 h2 h3
  simp only [Go.Sort.grow, World.drewN]
  rw [← e]
  congr 1
  omega
def aheadB (si sj : Int) (x y : List UInt8) : Bool := if si = sj then Nm.Pl.less x y else decide (si < sj)
theorem ahead_any (W : World) (bs bl g b off n c N i j : Nat) (si sj : Int) (x y : List UInt8) (hi : i < n) (hj : j < n) (hi2 : i < N) (hj2 : j < N) (hn : n ≤ 1000000)
    (hs : W.cell? ⟨bs, 0, none⟩ = some (.slice (some ⟨g, 0, none⟩) N N)) (hsi : W.cell? ⟨g, i, none⟩ = some (.int .i64 si)) (hsj : W.cell? ⟨g, j, none⟩ = some (.int .i64 sj))
    (hl : W.cell? ⟨bl, 0, none⟩ = some (.slice (some ⟨b, off, none⟩) n c)) (hx : W.cell? ⟨b, off + i * 8, none⟩ = some (.string (Nm.str x))) (hy : W.cell? ⟨b, off + j * 8, none⟩ = some (.string (Nm.str y)))
    (lx : x.length ≤ 281474976710656) (ly : y.length ≤ 281474976710656) (lt1 : bs < W.heap.size) (lt2 : bl < W.heap.size) (lt3 : b < W.heap.size) (lt4 : g < W.heap.size) :
    Calls Tryz.prog 192 #[.int .i64 (i : Int), .int .i64 (j : Int), .pointer (some ⟨bs, 0, none⟩), .pointer (some ⟨bl, 0, none⟩)] W fun e w' => e = .returned (.bool (aheadB si sj x y)) ∧ Gr W w' := by
  have k1 := Lib.hid fun w : World => Nm.less_str x y w lx ly
  have hi' : (i : Int) < n := by omega
  have hj' : (j : Int) < n := by omega
  have hi2' : (i : Int) < N := by omega
  have hj2' : (j : Int) < N := by omega
  unfold aheadB
  by_cases h : si = sj
  · rw [if_pos h]
    subst h
    generalize Nm.Pl.less x y = r at *
    go_enter Tryz.func192, Tryz.ntmps192
    go_wp2_with fail
    go_region
    go_wp2_with fail
    have g0 : Gr W W.drew := (Gr.refl W).drew
    generalize hV : W.drew = V at *
    have fs : V.cell? ⟨bs, 0, none⟩ = some (.slice (some ⟨g, 0, none⟩) N N) := by rw [← hV]; exact hs
    have fl : V.cell? ⟨bl, 0, none⟩ = some (.slice (some ⟨b, off, none⟩) n c) := by rw [← hV]; exact hl
    have fx : V.cell? ⟨b, off + i * 8, none⟩ = some (.string (Nm.str x)) := by rw [← hV]; exact hx
    have fy : V.cell? ⟨b, off + j * 8, none⟩ = some (.string (Nm.str y)) := by rw [← hV]; exact hy
    have D0 : Hid (Gr V V.drew) := Lib.hid (Gr.refl V).drew
    have e1 : V.drew.cell? ⟨bl, 0, none⟩ = some (.slice (some ⟨b, off, none⟩) n c) := fl
    have e2 : V.drew.cell? ⟨b, off + i * 8, none⟩ = some (.string (Nm.str x)) := fx
    have e3 : V.drew.cell? ⟨b, off + j * 8, none⟩ = some (.string (Nm.str y)) := fy
    have G0 := Lib.hid g0
    have z1 : bl < V.heap.size := by rw [← hV]; exact lt2
    have z2 : b < V.heap.size := by rw [← hV]; exact lt3
    clear hs hsi hl hx hy g0 hV lt1 lt2 lt3 lt4 fs fl fx fy
    go_region_held3 (fun U => U.cell? ⟨bl, 0, none⟩ = some (.slice (some ⟨b, off, none⟩) n c) ∧ U.cell? ⟨b, off + i * 8, none⟩ = some (.string (Nm.str x)) ∧ U.cell? ⟨b, off + j * 8, none⟩ = some (.string (Nm.str y))) (first | exact ⟨e1, e2, e3⟩ | exact ⟨e4, e5, e6⟩) (((go_at_call 128); refine (k1.out _).mono ?_; rintro e w1 ⟨rfl, hb1⟩; have B1 : Hid (Gr V w1) := Lib.hid (D0.out.trans hb1); clear hb1; have e4 := (B1.out.1.cell (p := ⟨bl, 0, none⟩) z1).trans e1; have e5 := (B1.out.1.cell (p := ⟨b, off + i * 8, none⟩) z2).trans e2; have e6 := (B1.out.1.cell (p := ⟨b, off + j * 8, none⟩) z2).trans e3))
    go_wp2_with fail
    go_ret
    exact ⟨rfl, G0.out.trans B1.out⟩
  · rw [if_neg h]
    have hne : (si != sj) = true := by simpa using h
    go_enter Tryz.func192, Tryz.ntmps192
    go_wp2_with fail
    go_region
    go_wp2_with fail
    go_region
    go_wp2_with fail
    go_ret
    exact ⟨rfl, (Gr.refl _).drew.drew⟩
def cmpI (r1 r2 : Bool) (i j : Int) : Int := if r1 then -1 else if r2 then 1 else i - j
theorem cmp_any (W : World) (bf bs bl : Nat) (i j : Nat) (r1 r2 : Bool) (hi : i ≤ 1000000) (hj : j ≤ 1000000)
    (hf : W.cell? ⟨bf, 0, none⟩ = some (.func (.func 192) #[] #[.pointer (some ⟨bs, 0, none⟩), .pointer (some ⟨bl, 0, none⟩)])) (lt : bf < W.heap.size)
    (k1 : ∀ U : World, Gr W U → Calls Tryz.prog 192 #[.int .i64 (i : Int), .int .i64 (j : Int), .pointer (some ⟨bs, 0, none⟩), .pointer (some ⟨bl, 0, none⟩)] U fun e w' => e = .returned (.bool r1) ∧ Gr U w')
    (k2 : ∀ U : World, Gr W U → Calls Tryz.prog 192 #[.int .i64 (j : Int), .int .i64 (i : Int), .pointer (some ⟨bs, 0, none⟩), .pointer (some ⟨bl, 0, none⟩)] U fun e w' => e = .returned (.bool r2) ∧ Gr U w') :
    Calls Tryz.prog 210 #[.int .i64 (i : Int), .int .i64 (j : Int), .pointer (some ⟨bf, 0, none⟩)] W fun e w' => e = .returned (.int .i64 (cmpI r1 r2 i j)) ∧ Gr W w' := by
  have K1 := Lib.hid k1
  have K2 := Lib.hid k2
  clear k1 k2
  have wr : IntKind.i64.wrap ((i : Int) - (j : Int)) = (i : Int) - (j : Int) := by simp [IntKind.wrap, IntKind.bits, IntKind.signed]; omega
  unfold cmpI
  have G0 := Lib.hid (Gr.refl W)
  cases r1 with
  | true =>
    rw [if_pos rfl]
    go_enter Tryz.func210, Tryz.ntmps210
    go_wp2_with (go_at_call 192; refine (K1.out _ G0.out).mono ?_; rintro e w1 ⟨rfl, hb1⟩; have B1 := Lib.hid hb1; clear hb1)
    go_ret
    exact ⟨rfl, B1.out⟩
  | false =>
    rw [if_neg (by decide)]
    cases r2 with
    | true =>
      rw [if_pos rfl]
      go_enter Tryz.func210, Tryz.ntmps210
      go_wp2_with (first | (go_at_call 192; (with_reducible refine (K1.out _ G0.out).mono ?_); rintro e w1 ⟨rfl, hb1⟩; have hf1 := (hb1.1.cell (p := ⟨bf, 0, none⟩) lt).trans hf; have B1 := Lib.hid hb1; clear hb1) | (go_at_call 192; (refine (K2.out _ B1.out).mono ?_; rintro e w2 ⟨rfl, hb2⟩; have B2 := Lib.hid (B1.out.trans hb2); clear hb2)))
      go_ret
      exact ⟨rfl, B2.out⟩
    | false =>
      rw [if_neg (by decide)]
      go_enter Tryz.func210, Tryz.ntmps210
      go_wp2_with (first | (go_at_call 192; (with_reducible refine (K1.out _ G0.out).mono ?_); rintro e w1 ⟨rfl, hb1⟩; have hf1 := (hb1.1.cell (p := ⟨bf, 0, none⟩) lt).trans hf; have B1 := Lib.hid hb1; clear hb1) | (go_at_call 192; (refine (K2.out _ B1.out).mono ?_; rintro e w2 ⟨rfl, hb2⟩; have B2 := Lib.hid (B1.out.trans hb2); clear hb2)))
      go_ret
      exact ⟨rfl, B2.out⟩
def bef (sc : Nat → Int) (nm : Nat → List UInt8) (i j : Nat) : Bool :=
  if sc i = sc j then (if Nm.Pl.nums (nm i) = Nm.Pl.nums (nm j) then decide (i < j) else Nm.Pl.lt (Nm.Pl.nums (nm i)) (Nm.Pl.nums (nm j))) else decide (sc i < sc j)
theorem cmp_bef (sc : Nat → Int) (nm : Nat → List UInt8) (i j : Nat) :
    decide (cmpI (aheadB (sc i) (sc j) (nm i) (nm j)) (aheadB (sc j) (sc i) (nm j) (nm i)) i j < 0) = bef sc nm i j := by
  unfold cmpI aheadB bef Nm.Pl.less
  by_cases h : sc i = sc j
  · rw [if_pos h, if_pos h.symm, if_pos h]
    by_cases h2 : Nm.Pl.nums (nm i) = Nm.Pl.nums (nm j)
    · rw [h2, Nm.Pl.lt_self, if_neg (by decide), if_neg (by decide), if_pos rfl, Bool.eq_iff_iff, decide_eq_true_iff, decide_eq_true_iff]
      omega
    · rw [if_neg h2]
      cases h3 : Nm.Pl.lt (Nm.Pl.nums (nm i)) (Nm.Pl.nums (nm j)) with
      | true => simp
      | false =>
        cases h4 : Nm.Pl.lt (Nm.Pl.nums (nm j)) (Nm.Pl.nums (nm i)) with
        | true => simp
        | false => exact absurd (Nm.Pl.lt_total _ _ h3 h4) h2
  · have h' : ¬ sc j = sc i := fun e => h e.symm
    simp only [if_neg h, if_neg h', decide_eq_true_eq]
    by_cases h2 : sc i < sc j
    · simp [h2]
    · have h3 : sc j < sc i := by omega
      simp [h2, h3]
theorem bef_irrefl (sc : Nat → Int) (nm : Nat → List UInt8) (i : Nat) : bef sc nm i i = false := by simp [bef]
theorem bef_trans {sc : Nat → Int} {nm : Nat → List UInt8} {i j k : Nat} (h1 : bef sc nm i j = true) (h2 : bef sc nm j k = true) : bef sc nm i k = true := by
  unfold bef at *
  by_cases e1 : sc i = sc j
  · rw [if_pos e1] at h1
    by_cases e2 : sc j = sc k
    · rw [if_pos e2] at h2
      rw [if_pos (e1.trans e2)]
      by_cases f1 : Nm.Pl.nums (nm i) = Nm.Pl.nums (nm j)
      · rw [if_pos f1, decide_eq_true_iff] at h1
        rw [f1]
        by_cases f2 : Nm.Pl.nums (nm j) = Nm.Pl.nums (nm k)
        · rw [if_pos f2, decide_eq_true_iff] at h2
          rw [if_pos f2, decide_eq_true_iff]; omega
        · rw [if_neg f2] at h2 ⊢; exact h2
      · rw [if_neg f1] at h1
        by_cases f2 : Nm.Pl.nums (nm j) = Nm.Pl.nums (nm k)
        · rw [f2] at f1 h1
          rw [if_neg f1]; exact h1
        · rw [if_neg f2] at h2
          have h3 := Nm.Pl.lt_trans _ _ _ h1 h2
          rw [if_neg]
          · exact h3
          · intro e
            rw [e, Nm.Pl.lt_self] at h3
            cases h3
    · rw [if_neg e2, decide_eq_true_iff] at h2
      rw [if_neg (by omega), decide_eq_true_iff]; omega
  · rw [if_neg e1, decide_eq_true_iff] at h1
    by_cases e2 : sc j = sc k
    · rw [if_neg (by omega), decide_eq_true_iff]; omega
    · rw [if_neg e2, decide_eq_true_iff] at h2
      rw [if_neg (by omega), decide_eq_true_iff]; omega
theorem bef_total {sc : Nat → Int} {nm : Nat → List UInt8} {i j : Nat} (h1 : bef sc nm i j = false) (h2 : bef sc nm j i = false) : i = j := by
  unfold bef at *
  by_cases e1 : sc i = sc j
  · rw [if_pos e1] at h1
    rw [if_pos e1.symm] at h2
    by_cases f1 : Nm.Pl.nums (nm i) = Nm.Pl.nums (nm j)
    · rw [if_pos f1, decide_eq_false_iff_not] at h1
      rw [if_pos f1.symm, decide_eq_false_iff_not] at h2
      omega
    · rw [if_neg f1] at h1
      rw [if_neg (fun e => f1 e.symm)] at h2
      exact absurd (Nm.Pl.lt_total _ _ h1 h2) f1
  · rw [if_neg e1, decide_eq_false_iff_not] at h1
    rw [if_neg (fun e => e1 e.symm), decide_eq_false_iff_not] at h2
    omega
theorem bef_asymm {sc : Nat → Int} {nm : Nat → List UInt8} {i j : Nat} (h1 : bef sc nm i j = true) : bef sc nm j i = false := by
  rw [← Bool.not_eq_true]
  intro h2
  have := bef_trans h1 h2
  rw [bef_irrefl] at this
  cases this
def cfF (sc : Nat → Int) (nm : Nat → List UInt8) (N : Nat) (x y : Fin N) : Int := cmpI (aheadB (sc x) (sc y) (nm x) (nm y)) (aheadB (sc y) (sc x) (nm y) (nm x)) (x.val : Nat) (y.val : Nat)
theorem ltF (sc : Nat → Int) (nm : Nat → List UInt8) (N : Nat) (x y : Fin N) : Go.Proofs.ltOf (cfF sc nm N) x y = bef sc nm x y := by
  unfold Go.Proofs.ltOf cfF
  exact cmp_bef sc nm x y
theorem swoF (sc : Nat → Int) (nm : Nat → List UInt8) (N : Nat) : Go.Sort.SWO (Go.Proofs.ltOf (cfF sc nm N)) where
  irrefl x := by rw [ltF, bef_irrefl]
  trans x y z h1 h2 := by rw [ltF] at *; exact bef_trans h1 h2
  ntrans x y z h1 h2 := by
    rw [ltF] at *
    by_cases e : (x : Nat) = y
    · rw [e]; exact h2
    · by_cases e2 : (y : Nat) = z
      · rw [← e2]; exact h1
      · have a1 : bef sc nm y x = true := by
          cases h : bef sc nm y x with
          | true => rfl
          | false => exact absurd (bef_total h1 h) e
        have a2 : bef sc nm z y = true := by
          cases h : bef sc nm z y with
          | true => rfl
          | false => exact absurd (bef_total h2 h) e2
        exact bef_asymm (bef_trans a2 a1)
structure Ord (W : World) (bs bl gs b off c N : Nat) (sc : Nat → Int) (nm : Nat → List UInt8) : Prop where
  hs : W.cell? ⟨bs, 0, none⟩ = some (.slice (some ⟨gs, 0, none⟩) N N)
  hl : W.cell? ⟨bl, 0, none⟩ = some (.slice (some ⟨b, off, none⟩) N c)
  hS : ∀ i, i < N → W.cell? ⟨gs, i, none⟩ = some (.int .i64 (sc i))
  hN : ∀ i, i < N → W.cell? ⟨b, off + i * 8, none⟩ = some (.string (Nm.str (nm i)))
  len : ∀ i, i < N → (nm i).length ≤ 281474976710656
  l1 : bs < W.heap.size
  l2 : bl < W.heap.size
  l3 : gs < W.heap.size
  l4 : b < W.heap.size
theorem cell_of_heap {W W' : World} {k o : Nat} (h : W'.heap[k]? = W.heap[k]?) : W'.cell? ⟨k, o, none⟩ = W.cell? ⟨k, o, none⟩ := by simp only [World.cell?, h]
theorem Ord.keep {W W' : World} {bs bl gs b off c N : Nat} {sc : Nat → Int} {nm : Nat → List UInt8} (h : Ord W bs bl gs b off c N sc nm)
    (k1 : W'.heap[bs]? = W.heap[bs]?) (k2 : W'.heap[bl]? = W.heap[bl]?) (k3 : W'.heap[gs]? = W.heap[gs]?) (k4 : W'.heap[b]? = W.heap[b]?) (hz : W.heap.size ≤ W'.heap.size) : Ord W' bs bl gs b off c N sc nm where
  hs := (cell_of_heap k1).trans h.hs
  hl := (cell_of_heap k2).trans h.hl
  hS i hi := (cell_of_heap k3).trans (h.hS i hi)
  hN i hi := (cell_of_heap k4).trans (h.hN i hi)
  len := h.len
  l1 := Nat.lt_of_lt_of_le h.l1 hz
  l2 := Nat.lt_of_lt_of_le h.l2 hz
  l3 := Nat.lt_of_lt_of_le h.l3 hz
  l4 := Nat.lt_of_lt_of_le h.l4 hz
theorem Ord.gr {W W' : World} {bs bl gs b off c N : Nat} {sc : Nat → Int} {nm : Nat → List UInt8} (h : Ord W bs bl gs b off c N sc nm) (g : Gr W W') : Ord W' bs bl gs b off c N sc nm :=
  h.keep (g.1.block _ h.l1) (g.1.block _ h.l2) (g.1.block _ h.l3) (g.1.block _ h.l4) g.1.size
theorem Ord.ahead {W : World} {bs bl gs b off c N : Nat} {sc : Nat → Int} {nm : Nat → List UInt8} (h : Ord W bs bl gs b off c N sc nm) (hN : N ≤ 1000000) {i j : Nat} (hi : i < N) (hj : j < N) :
    Calls Tryz.prog 192 #[.int .i64 (i : Int), .int .i64 (j : Int), .pointer (some ⟨bs, 0, none⟩), .pointer (some ⟨bl, 0, none⟩)] W fun e w' => e = .returned (.bool (aheadB (sc i) (sc j) (nm i) (nm j))) ∧ Gr W w' :=
  ahead_any W bs bl gs b off N c N i j _ _ _ _ hi hj hi hj hN h.hs (h.hS i hi) (h.hS j hj) h.hl (h.hN i hi) (h.hN j hj) (h.len i hi) (h.len j hj) h.l1 h.l2 h.l4 h.l3
theorem Ord.cmp {W : World} {bs bl gs b off c N : Nat} {sc : Nat → Int} {nm : Nat → List UInt8} (h : Ord W bs bl gs b off c N sc nm) (hN : N ≤ 1000000) (bf : Nat)
    (hf : W.cell? ⟨bf, 0, none⟩ = some (.func (.func 192) #[] #[.pointer (some ⟨bs, 0, none⟩), .pointer (some ⟨bl, 0, none⟩)])) (lt : bf < W.heap.size) (x y : Fin N) :
    Calls Tryz.prog 210 #[.int .i64 (x.val : Nat), .int .i64 (y.val : Nat), .pointer (some ⟨bf, 0, none⟩)] W fun e w' => e = .returned (.int .i64 (cfF sc nm N x y)) ∧ Gr W w' :=
  cmp_any W bf bs bl x.val y.val _ _ (by have := x.2; omega) (by have := y.2; omega) hf lt (fun U hU => (h.gr hU).ahead hN x.2 y.2) (fun U hU => (h.gr hU).ahead hN y.2 x.2)
theorem sw_heap {α : Type} [Inhabited α] (enc : α → Value) (w : World) (blk off m : Nat) (dk : Array α) (os : Array Obj) (k : Nat) (h : k < w.heap.size) (hne : k ≠ blk) : (Go.Proofs.sortWorld enc w blk off m dk os).heap[k]? = w.heap[k]? := by
  unfold Go.Proofs.sortWorld
  rw [Go.Sort.heap_grow_old _ _ (by simpa [Go.Sort.putRow, Go.Sort.mapBlock, Go.Sort.ahead] using h)]
  simp only [Go.Sort.putRow, Go.Sort.mapBlock, Go.Sort.ahead, Array.getElem?_modify]
  rw [if_neg (fun e => hne e.symm)]
theorem sw_size {α : Type} [Inhabited α] (enc : α → Value) (w : World) (blk off m : Nat) (dk : Array α) (os : Array Obj) : w.heap.size ≤ (Go.Proofs.sortWorld enc w blk off m dk os).heap.size := by
  unfold Go.Proofs.sortWorld
  rw [Go.Sort.size_grow]
  simp [Go.Sort.putRow, Go.Sort.mapBlock, Go.Sort.ahead]
theorem sw_below {α : Type} [Inhabited α] (enc : α → Value) (w : World) (blk off m : Nat) (dk : Array α) (os : Array Obj) (k : Nat) (h : k ≤ blk) (h2 : k ≤ w.heap.size) : Below k w (Go.Proofs.sortWorld enc w blk off m dk os) :=
  ⟨rfl, rfl, rfl, sw_size _ _ _ _ _ _ _, fun j hj => sw_heap _ _ _ _ _ _ _ j (by omega) (by omega)⟩
def encF (N : Nat) (x : Fin N) : Value := .int .i64 ((x.val : Nat) : Int)
theorem encF_one (N : Nat) : Go.Proofs.OneCell (encF N) := fun _ => rfl
def RowC (W : World) (g : Nat) (d : List Nat) : Prop := ∀ j u, d[j]? = some u → W.cell? ⟨g, j, none⟩ = some (.int .i64 (u : Nat)) ∧ W.frozen? ⟨g, j, none⟩ = false
theorem sort_core (w : World) (bs bl gs b off c N g cap bf : Nat) (sc : Nat → Int) (nm : Nat → List UInt8) (O : Ord w bs bl gs b off c N sc nm) (hN : N ≤ 1000000)
    (n1 : bs ≠ g) (n2 : bl ≠ g) (n3 : gs ≠ g) (n4 : b ≠ g) (n5 : bf ≠ g) (d : List Nat) (hne : d ≠ []) (hd : ∀ u ∈ d, u < N) (hr : RowC w g d) (hg : g < w.heap.size)
    (hf : w.cell? ⟨bf, 0, none⟩ = some (.func (.func 192) #[] #[.pointer (some ⟨bs, 0, none⟩), .pointer (some ⟨bl, 0, none⟩)])) (lt : bf < w.heap.size) (hl : d.length ≤ 1000000) :
    Calls Tryz.prog 209 #[.slice (some ⟨g, 0, none⟩) d.length cap, .func (.func 210) #[] #[.pointer (some ⟨bf, 0, none⟩)]] w fun e w' => e = .returned (.tuple #[]) ∧
      ∃ d' : List Nat, d'.Perm d ∧ d'.Pairwise (fun i j => bef sc nm j i = false) ∧ RowC w' g d' ∧ w.heap.size ≤ w'.heap.size ∧ (∀ k, k ≤ g → Below k w w') := by
  obtain ⟨u0, r0, rfl⟩ := List.exists_cons_of_ne_nil hne
  haveI : Inhabited (Fin N) := ⟨⟨u0, hd u0 (by simp)⟩⟩
  generalize hdd : u0 :: r0 = d at *
  let D : Array (Fin N) := (d.pmap (fun u h => (⟨u, h⟩ : Fin N)) hd).toArray
  have hsz : D.size = d.length := by simp [D]
  have hmap : D.toList.map Fin.val = d := by
    simp only [D, List.map_pmap]
    simp
  have hget : ∀ j u, d[j]? = some u → ∃ h : j < D.size, D[j]!.val = u := by
    intro j u hu
    have hj : j < d.length := by rw [List.getElem?_eq_some_iff] at hu; exact hu.1
    refine ⟨by rw [hsz]; exact hj, ?_⟩
    rw [← hmap, List.getElem?_map, Array.getElem?_toList] at hu
    rw [getElem!_pos D j (by rw [hsz]; exact hj)]
    rw [Array.getElem?_eq_getElem (by rw [hsz]; exact hj)] at hu
    simpa using hu
  have hH : Go.Sort.Holds (encF N) w g 0 D := by
    intro j hj
    have hj' : j < d.length := by rw [← hsz]; exact hj
    obtain ⟨_, hv⟩ := hget j d[j] (List.getElem?_eq_getElem hj')
    have := hr j d[j] (List.getElem?_eq_getElem hj')
    rw [Nat.zero_add]
    unfold encF
    rw [hv]
    exact this
  have eg : ∀ args W, (callFunc 210 args).run Tryz.prog W = .ok (.enter 210 args) W := enters_of Tryz.func210 (by kernel_rfl) rfl
  have hcmp : Go.Proofs.CmpLays1 Tryz.prog 210 #[.pointer (some ⟨bf, 0, none⟩)] (encF N) (cfF sc nm N) g 0 D.size w := by
    intro m os dk hs x y
    have hk := fun k (h1 : k < w.heap.size) (h2 : k ≠ g) => sw_heap (encF N) w g 0 m dk os k h1 h2
    have hz := sw_size (encF N) w g 0 m dk os
    have O' := O.keep (hk bs O.l1 n1) (hk bl O.l2 n2) (hk gs O.l3 n3) (hk b O.l4 n4) hz
    have := O'.cmp hN bf ((cell_of_heap (hk bf lt n5)).trans hf) (Nat.lt_of_lt_of_le lt hz) x y
    exact this.mono fun e w' ⟨h1, h2⟩ => ⟨h1, gr_grow h2⟩
  have hcon := Go.Proofs.Any.slices_SortFunc Go.Proofs.Tryz.laysSlF6_f209 (encF N) (encF_one N) (cfF sc nm N) (swoF sc nm N) 210 #[.pointer (some ⟨bf, 0, none⟩)] g 0 cap D w eg hcmp hH hg (by rw [hsz]; omega)
  change Calls Tryz.prog 209 _ _ _ at hcon
  rw [hsz] at hcon
  refine hcon.mono ?_
  rintro e w' ⟨rfl, D', n, os, hp, hs, rfl⟩
  refine ⟨rfl, D'.toList.map Fin.val, ?_, ?_, ?_, sw_size _ _ _ _ _ _ _, fun k hk => sw_below _ _ _ _ _ _ _ k hk (by omega)⟩
  · obtain ⟨h1, _, h3⟩ := hp
    rw [← hsz] at h3
    have e1 : D.extract 0 D.size = D := Array.extract_size
    have e2 : D'.extract 0 D.size = D' := by rw [hsz, ← hsz, ← h1]; exact Array.extract_size
    rw [e1, e2] at h3
    have := h3.map Fin.val
    rwa [hmap] at this
  · rw [List.pairwise_map]
    rw [List.pairwise_iff_getElem]
    intro i j hi hj hij
    have hD : D'.size = d.length := by rw [hp.1, hsz]
    have := hs i j (Nat.zero_le _) hij (by simpa [hD] using hj)
    rw [ltF] at this
    rw [getElem!_pos D' i (by simpa using hi), getElem!_pos D' j (by simpa using hj)] at this
    simpa using this
  · have hD : D'.size = D.size := hp.1
    have hh := Go.Proofs.holds_sortWorld (encF N) w g 0 n D D' os hg hH hD
    intro j u hu
    rw [List.getElem?_map, Array.getElem?_toList] at hu
    have hj : j < D'.size := by
      rw [← Nat.not_le]
      intro h
      rw [Array.getElem?_eq_none h] at hu
      cases hu
    have := hh j hj
    rw [Nat.zero_add, getElem!_pos D' j hj] at this
    rw [Array.getElem?_eq_getElem hj] at hu
    simp only [Option.map_some, Option.some.injEq] at hu
    unfold encF at this
    rw [hu] at this
    exact this
theorem sort_any (w : World) (bs bl gs b off c N g cap : Nat) (sc : Nat → Int) (nm : Nat → List UInt8) (O : Ord w bs bl gs b off c N sc nm) (hN : N ≤ 1000000)
    (n1 : bs ≠ g) (n2 : bl ≠ g) (n3 : gs ≠ g) (n4 : b ≠ g) (d : List Nat) (hne : d ≠ []) (hd : ∀ u ∈ d, u < N) (hr : RowC w g d) (hg : g < w.heap.size) (hl : d.length ≤ 1000000) :
    Calls Tryz.prog 191 #[.slice (some ⟨g, 0, none⟩) d.length cap, .func (.func 192) #[] #[.pointer (some ⟨bs, 0, none⟩), .pointer (some ⟨bl, 0, none⟩)]] w fun e w' => e = .returned (.tuple #[]) ∧
      ∃ d' : List Nat, d'.Perm d ∧ d'.Pairwise (fun i j => bef sc nm j i = false) ∧ RowC w' g d' ∧ w.heap.size ≤ w'.heap.size ∧ (∀ k, k ≤ g → Below k w w') := by
  have hb := (Below.refl w.heap.size w).alloc (Nat.le_refl _) (.cells #[.func (.func 192) #[] #[.pointer (some ⟨bs, 0, none⟩), .pointer (some ⟨bl, 0, none⟩)]] 278)
  have hlt : w.heap.size < (w.alloc (.cells #[.func (.func 192) #[] #[.pointer (some ⟨bs, 0, none⟩), .pointer (some ⟨bl, 0, none⟩)]] 278)).heap.size := by simp
  have hc := sort_core (w.alloc (.cells #[.func (.func 192) #[] #[.pointer (some ⟨bs, 0, none⟩), .pointer (some ⟨bl, 0, none⟩)]] 278)) bs bl gs b off c N g cap w.heap.size sc nm
    (O.keep (hb.block _ O.l1) (hb.block _ O.l2) (hb.block _ O.l3) (hb.block _ O.l4) hb.size) hN n1 n2 n3 n4 (by omega) d hne hd
    (fun j u hu => ⟨(cell_of_heap (hb.block g hg)).trans (hr j u hu).1, by simp only [World.frozen?, hb.block g hg]; exact (hr j u hu).2⟩) (by omega)
    (by simp) hlt hl
  have HC := Lib.hid hc
  have HB := Lib.hid hb
  clear hc hb hlt hr O
  go_enter Tryz.func191, Tryz.ntmps191
  go_wp2_with (go_at_call 209; refine HC.out.mono ?_; rintro e w1 ⟨rfl, d', h1, h2, h3, h4, h5⟩; have H5 := Lib.hid h5; clear h5)
  go_end0
  refine ⟨rfl, d', h1, h2, h3, Nat.le_trans HB.out.size h4, fun k hk => (HB.out.mono (by omega)).trans (H5.out k hk)⟩
theorem lays0 : Go.Proofs.SlLaysF0.n6 Tryz.prog Go.Proofs.Tryz.laysSlF6_f209_ren := { Go.Proofs.Tryz.laysSlF6_f209 with }
theorem sort_none (w : World) (A : Option Addr) (cap bs bl : Nat) :
    Calls Tryz.prog 191 #[.slice A 0 cap, .func (.func 192) #[] #[.pointer (some ⟨bs, 0, none⟩), .pointer (some ⟨bl, 0, none⟩)]] w fun e w' => e = .returned (.tuple #[]) ∧ Below w.heap.size w w' := by
  have hb := (Below.refl w.heap.size w).alloc (Nat.le_refl _) (.cells #[.func (.func 192) #[] #[.pointer (some ⟨bs, 0, none⟩), .pointer (some ⟨bl, 0, none⟩)]] 278)
  have hc := fun W : World => Go.Proofs.AnyF.slices_SortFunc_none lays0 A cap (.func (.func 210) #[] #[.pointer (some ⟨w.heap.size, 0, none⟩)]) W
  change ∀ W, Calls Tryz.prog 209 _ _ _ at hc
  have HC := Lib.hid hc
  have HB := Lib.hid hb
  clear hc hb
  go_enter Tryz.func191, Tryz.ntmps191
  go_wp2_with (go_at_call 209; refine (HC.out _).mono ?_; rintro e w1 ⟨rfl, rfl⟩)
  go_end0
  exact ⟨rfl, HB.out⟩
end Go.Proofs.YtphclpjekpdifaaGreat
