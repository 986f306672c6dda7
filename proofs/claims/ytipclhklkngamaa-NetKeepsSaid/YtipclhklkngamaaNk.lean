import Derived.Test.YtipclhklkngamaaNj
namespace Go.Proofs.Ytipclhklkngamaa
open Go.RowKit
set_option linter.unusedVariables false

/-- a net, and letters in boxes of their own -/
def Aw (W w : World) (b : Nat) (N : Net) (bx : List (Nat × Let)) : Prop := ∃ H, NC W w b N H ∧ ∀ p ∈ bx, H p.1 ∧ BoxAt w p.1 p.2
theorem Aw.call {W w w' : World} {b : Nat} {N' : Net} {bx : List (Nat × Let)} {H : Nat → Prop} (hb : ∀ p ∈ bx, H p.1 ∧ BoxAt w p.1 p.2) (h : NC W w' b N' H) (hk : Keep H w w') : Aw W w' b N' bx :=
  ⟨H, h, fun p hp => ⟨(hb p hp).1, (hb p hp).2.keep hk (hb p hp).1⟩⟩
theorem Aw.box {W w : World} {b : Nat} {N : Net} {bx : List (Nat × Let)} (h : Aw W w b N bx) (l : Let) : Aw W (w.alloc (boxL l)) b N ((w.heap.size, l) :: bx) := by
  obtain ⟨H, h1, h2⟩ := h
  have hb : Below w.heap.size w (w.alloc (boxL l)) := (Below.refl _ w).alloc (Nat.le_refl _) _
  refine ⟨_, h1.hold hb, fun p hp => ?_⟩
  rcases List.mem_cons.1 hp with rfl | hp
  · exact ⟨.inr ⟨Nat.le_refl _, by simp⟩, ⟨heap_alloc_new w _⟩⟩
  · exact ⟨.inl (h2 p hp).1, (h2 p hp).2.below hb⟩
theorem Aw.at' {W w : World} {b : Nat} {N : Net} {bx : List (Nat × Let)} (h : Aw W w b N bx) {p : Nat} {l : Let} (hp : (p, l) ∈ bx) : w.cell? ⟨p, 0, none⟩ = some (.int .i64 l.f) ∧ w.cell? ⟨p, 1, none⟩ = some (.int .i64 l.t) ∧ w.cell? ⟨p, 2, none⟩ = some (.string l.b) := by
  obtain ⟨H, _, h2⟩ := h
  have := (h2 _ hp).2
  exact ⟨this.c0, this.c1, this.c2⟩
theorem Aw.below {W w : World} {b : Nat} {N : Net} {bx : List (Nat × Let)} (h : Aw W w b N bx) : Below W.heap.size W w := by
  obtain ⟨H, h1, _⟩ := h
  exact h1.below
theorem aw_send {W w : World} {b : Nat} {N : Net} {bx : List (Nat × Let)} (h : Aw W w b N bx) (l : Let) (hf : Fit l) : Calls Try.prog 10 #[.pointer (some ⟨b, 0, none⟩), letV l] w fun e w' => e = .returned (.int .i64 (N.send l).2) ∧ Aw W w' b (N.send l).1 bx := by
  obtain ⟨H, h1, h2⟩ := h
  exact (nc_send h1 l hf).mono fun e w' ⟨q1, q2, q3⟩ => ⟨q1, Aw.call h2 q2 q3⟩
theorem aw_copy {W w : World} {b : Nat} {N : Net} {bx : List (Nat × Let)} (h : Aw W w b N bx) (k : Int) (k0 : -9223372036854775808 ≤ k) (k1 : k ≤ 9223372036854775807) : Calls Try.prog 14 #[.pointer (some ⟨b, 0, none⟩), .int .i64 k] w fun e w' => e = .returned (.int .i64 (N.copy k).2) ∧ Aw W w' b (N.copy k).1 bx := by
  obtain ⟨H, h1, h2⟩ := h
  exact (nc_copy h1 k k0 k1).mono fun e w' ⟨q1, q2, q3⟩ => ⟨q1, Aw.call h2 q2 q3⟩
theorem aw_take {W w : World} {b : Nat} {N : Net} {bx : List (Nat × Let)} (h : Aw W w b N bx) (k : Int) (k0 : -9223372036854775808 ≤ k) (k1 : k ≤ 9223372036854775807) : Calls Try.prog 12 #[.pointer (some ⟨b, 0, none⟩), .int .i64 k] w fun e w' => e = .returned (.tuple #[letV (N.take k).2.1, .int .i64 (N.take k).2.2]) ∧ Aw W w' b (N.take k).1 bx := by
  obtain ⟨H, h1, h2⟩ := h
  exact (nc_take h1 k k0 k1).mono fun e w' ⟨q1, q2, q3⟩ => ⟨q1, Aw.call h2 q2 q3⟩
theorem aw_split {W w : World} {b : Nat} {N : Net} {bx : List (Nat × Let)} (h : Aw W w b N bx) (k : Int) (k0 : -9223372036854775808 ≤ k) (k1 : k ≤ 9223372036854775807) : Calls Try.prog 18 #[.pointer (some ⟨b, 0, none⟩), .int .i64 k] w fun e w' => e = .returned (.tuple #[]) ∧ Aw W w' b (N.split k) bx := by
  obtain ⟨H, h1, h2⟩ := h
  exact (nc_split h1 k k0 k1).mono fun e w' ⟨q1, q2, q3⟩ => ⟨q1, Aw.call h2 q2 q3⟩
theorem aw_way {W w : World} {b : Nat} {N : Net} {bx : List (Nat × Let)} (h : Aw W w b N bx) : Calls Try.prog 20 #[.pointer (some ⟨b, 0, none⟩)] w fun e w' => ∃ A c, e = .returned (.slice A N.q.length c) ∧ Aw W w' b N bx := by
  obtain ⟨H, h1, h2⟩ := h
  exact (nc_way h1).mono fun e w' ⟨A, c, q1, q2, q3, q4⟩ => ⟨A, c, q1, _, q4, fun p hp => ⟨(h2 p hp).1, (h2 p hp).2.below q3⟩⟩
theorem Aw.lt {W w : World} {b : Nat} {N : Net} {bx : List (Nat × Let)} (h : Aw W w b N bx) {p : Nat} {l : Let} (hp : (p, l) ∈ bx) : p < w.heap.size := by
  obtain ⟨H, h1, h2⟩ := h
  exact h1.old p (h2 _ hp).1
def la : Let := ⟨0, 1, ⟨#[97]⟩⟩
def lb : Let := ⟨1, 0, ⟨#[98]⟩⟩
def RetBelow (v : Value) (w : World) (e : Ending) (w' : World) : Prop := e = .returned v ∧ Below w.heap.size w w'
set_option maxHeartbeats 4000000 in
set_option maxRecDepth 100000 in
theorem awake_any (w : World) : Calls Try.prog 8 #[] w (RetBelow (.bool true) w) := by
  obtain ⟨N1, hN1⟩ : ∃ N1 : Net, N1 = ⟨[la], Net.new.s⟩ := ⟨_, rfl⟩
  obtain ⟨N2, hN2⟩ : ∃ N2 : Net, N2 = ⟨[la, lb], Net.new.s⟩ := ⟨_, rfl⟩
  obtain ⟨N3, hN3⟩ : ∃ N3 : Net, N3 = ⟨[la, lb, la], Net.new.s⟩ := ⟨_, rfl⟩
  obtain ⟨N4, hN4⟩ : ∃ N4 : Net, N4 = ⟨[la, la], Net.new.s⟩ := ⟨_, rfl⟩
  obtain ⟨N6, hN6⟩ : ∃ N6 : Net, N6 = N1.split 1 := ⟨_, rfl⟩
  have E1 : Net.new.send la = (N1, 0) := by rw [hN1]; rfl
  have E2 : N1.send lb = (N2, 0) := by rw [hN1, hN2]; rfl
  have E3 : N2.copy 0 = (N3, 0) := by rw [hN2, hN3]; rfl
  have E4 : N3.take 1 = (N4, lb, 0) := by rw [hN3, hN4]; rfl
  have E5 : N4.take 1 = (N1, la, 0) := by rw [hN4, hN1]; rfl
  have E6 : N1.take 9 = (N1, Net.zeroL, 10) := by rw [hN1]; rfl
  have E7 : N6.take 0 = (N6.rem 0, Net.zeroL, 15) := by
    rw [hN6, hN1]
    rfl
  have E8 : (N6.rem 0).q.length = 0 := by rw [hN6, hN1]; rfl
  have E9 : (N6.rem 0).send ⟨0, 32, ⟨#[]⟩⟩ = (N6.rem 0, 1) := rfl
  obtain ⟨N7, hN7⟩ : ∃ N7 : Net, N7 = N6.rem 0 := ⟨_, rfl⟩
  rw [← hN7] at E7 E8 E9
  have HE := Lib.hid (And.intro E1 (And.intro E2 (And.intro E3 (And.intro E4 (And.intro E5 (And.intro E6 (And.intro E7 (And.intro E8 (And.intro E9 hN6)))))))))
  clear E1 E2 E3 E4 E5 E6 E7 E8 E9 hN1 hN2 hN3 hN4 hN6 hN7
  have HN := Lib.hid (nc_new (Below.refl w.heap.size w))
  go_enter Try.func8, Try.ntmps8
  go_wp2_with fail
  refine HN.out.mono ?_
  rintro e w1 ⟨rfl, hn1, hb1⟩
  have A1 : Hid (Aw w w1 w.heap.size Net.new []) := Lib.hid ⟨_, hn1, fun p hp => (by cases hp)⟩
  clear hn1 hb1
  generalize w.heap.size = b at *
  have HB0 : Hid (∀ l, (w1.alloc (boxL l)).heap.size = w1.heap.size + 1) := Lib.hid fun l => by simp
  have A2 : Hid (Aw w ((w1.alloc (boxL la)).alloc (boxL lb)) b Net.new [(w1.heap.size + 1, lb), (w1.heap.size, la)]) := Lib.hid (by
    have := (A1.out.box la).box lb
    rw [HB0.out la] at this
    exact this)
  go_wp2_with fail
  have C := aw_send A2.out la ⟨by decide, by decide, by decide, by decide⟩
  rw [HE.out.1] at C
  refine C.mono ?_
  clear C
  rintro e w2 ⟨rfl, h2⟩
  have A3 := Lib.hid h2
  clear h2 A2 A1 HB0
  generalize w1.heap.size = p at *
  obtain ⟨x0, x1, x2⟩ : w2.cell? ⟨p + 1, 0, none⟩ = some (.int .i64 1) ∧ w2.cell? ⟨p + 1, 1, none⟩ = some (.int .i64 0) ∧ w2.cell? ⟨p + 1, 2, none⟩ = some (.string ⟨#[98]⟩) := A3.out.at' (p := p + 1) (l := lb) (by simp)
  go_wp2_with fail
  have C := aw_send A3.out lb ⟨by decide, by decide, by decide, by decide⟩
  rw [HE.out.2.1] at C
  refine C.mono ?_
  clear C x0 x1 x2
  rintro e w3 ⟨rfl, h3⟩
  have A4 := Lib.hid h3
  clear h3 A3
  go_wp2_with fail
  have C := aw_copy A4.out 0 (by decide) (by decide)
  rw [HE.out.2.2.1] at C
  refine C.mono ?_
  clear C
  rintro e w4 ⟨rfl, h4⟩
  have A5 := Lib.hid h4
  clear h4 A4
  go_wp2_with fail
  have C := aw_take A5.out 1 (by decide) (by decide)
  rw [HE.out.2.2.2.1] at C
  refine C.mono ?_
  clear C
  rintro e w5 ⟨rfl, h5⟩
  unfold letV lb
  have A6 := Lib.hid (h5.box lb)
  clear h5 A5
  dsimp only at A6
  have HE4 := HE.out.2.2.2.2
  go_wp2_with fail
  have C := aw_take A6.out 1 (by decide) (by decide)
  rw [HE4.1] at C
  refine C.mono ?_
  clear C
  generalize w5.heap.size = p5 at *
  rintro e w6 ⟨rfl, h6⟩
  unfold letV la
  have A7 := Lib.hid (h6.box la)
  clear h6 A6
  go_wp2_with fail
  have C := aw_take A7.out 9 (by decide) (by decide)
  rw [HE4.2.1] at C
  refine C.mono ?_
  clear C
  generalize w6.heap.size = p6 at *
  rintro e w7 ⟨rfl, h7⟩
  unfold letV Net.zeroL
  have A8 := Lib.hid (h7.box Net.zeroL)
  clear h7 A7
  go_wp2_with fail
  have C := aw_split A8.out 1 (by decide) (by decide)
  rw [← HE4.2.2.2.2.2] at C
  refine C.mono ?_
  clear C
  generalize w7.heap.size = p7 at *
  rintro e w8 ⟨rfl, h8⟩
  have A9 := Lib.hid h8
  clear h8 A8
  go_wp2_with fail
  have C := aw_take A9.out 0 (by decide) (by decide)
  rw [HE4.2.2.1] at C
  refine C.mono ?_
  clear C
  rintro e w9 ⟨rfl, h9⟩
  unfold letV Net.zeroL
  have A10 := Lib.hid (h9.box Net.zeroL)
  have l5 := h9.lt (p := p5) (l := lb) (by simp)
  have l1 := h9.lt (p := p + 1) (l := lb) (by simp)
  have l6 := h9.lt (p := p6) (l := la) (by simp)
  have l0 := h9.lt (p := p) (l := la) (by simp)
  obtain ⟨x0, x1, x2⟩ : w9.cell? ⟨p5, 0, none⟩ = some (.int .i64 1) ∧ w9.cell? ⟨p5, 1, none⟩ = some (.int .i64 0) ∧ w9.cell? ⟨p5, 2, none⟩ = some (.string ⟨#[98]⟩) := h9.at' (p := p5) (l := lb) (by simp)
  obtain ⟨y0, y1, y2⟩ : w9.cell? ⟨p + 1, 0, none⟩ = some (.int .i64 1) ∧ w9.cell? ⟨p + 1, 1, none⟩ = some (.int .i64 0) ∧ w9.cell? ⟨p + 1, 2, none⟩ = some (.string ⟨#[98]⟩) := h9.at' (p := p + 1) (l := lb) (by simp)
  obtain ⟨z0, z1, z2⟩ : w9.cell? ⟨p6, 0, none⟩ = some (.int .i64 0) ∧ w9.cell? ⟨p6, 1, none⟩ = some (.int .i64 1) ∧ w9.cell? ⟨p6, 2, none⟩ = some (.string ⟨#[97]⟩) := h9.at' (p := p6) (l := la) (by simp)
  obtain ⟨v0, v1, v2⟩ : w9.cell? ⟨p, 0, none⟩ = some (.int .i64 0) ∧ w9.cell? ⟨p, 1, none⟩ = some (.int .i64 1) ∧ w9.cell? ⟨p, 2, none⟩ = some (.string ⟨#[97]⟩) := h9.at' (p := p) (l := la) (by simp)
  clear h9 A9
  go_wp2_with fail
  have C := aw_way A10.out
  rw [HE4.2.2.2.1] at C
  refine C.mono ?_
  clear C
  rintro e w10 ⟨A, c, rfl, h10⟩
  have A11 := Lib.hid h10
  clear h10 A10
  go_wp2_with fail
  have C := aw_send A11.out ⟨0, 32, ⟨#[]⟩⟩ ⟨by decide, by decide, by decide, by decide⟩
  rw [HE4.2.2.2.2.1] at C
  refine C.mono ?_
  clear C
  rintro e w11 ⟨rfl, h11⟩
  have hb := h11.below
  clear h11 A11
  go_wp2_with fail
  go_ret
  exact ⟨rfl, hb⟩
end Go.Proofs.Ytipclhklkngamaa
