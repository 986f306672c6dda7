import Derived.Test.YtphclpjekpdifaaTo
import Derived.Test.YtphclpjekpdifaaTl
import Derived.Deep.RegionLaw
namespace Go.Proofs.Ytphclpjekpdifaa
set_option maxRecDepth 20000
open Go.RowKit
open SP
open Go.Proofs.Ytphclpjekpdifaa.Nm (str)
open Wi (RetBelow)
open Wi.Pl (It)
set_option linter.unusedVariables false
/-! ### a table restored -/
theorem len12 {x : List Value} (h : x.length = 12) : ∃ z0 z1 z2 z3 z4 z5 z6 z7 z8 z9 z10 z11, x = [z0, z1, z2, z3, z4, z5, z6, z7, z8, z9, z10, z11] := by
  obtain ⟨z0, x0, e0, h0⟩ := cons_of h
  obtain ⟨z1, x1, e1, h1⟩ := cons_of h0
  obtain ⟨z2, x2, e2, h2⟩ := cons_of h1
  obtain ⟨z3, x3, e3, h3⟩ := cons_of h2
  obtain ⟨z4, x4, e4, h4⟩ := cons_of h3
  obtain ⟨z5, x5, e5, h5⟩ := cons_of h4
  obtain ⟨z6, x6, e6, h6⟩ := cons_of h5
  obtain ⟨z7, x7, e7, h7⟩ := cons_of h6
  obtain ⟨z8, x8, e8, h8⟩ := cons_of h7
  obtain ⟨z9, x9, e9, h9⟩ := cons_of h8
  obtain ⟨z10, x10, e10, h10⟩ := cons_of h9
  obtain ⟨z11, x11, e11, h11⟩ := cons_of h10
  exact ⟨z0, z1, z2, z3, z4, z5, z6, z7, z8, z9, z10, z11, by rw [e0, e1, e2, e3, e4, e5, e6, e7, e8, e9, e10, e11, nil_of h11]⟩
theorem el_at {w : World} {Q : Nat → Prop} {L : List It} {A : Option Addr} (h : Wi.AreIts w Q L A 0) {j : Nat} {t : It} (ht : L[j]? = some t) : ∃ ob off k n s A2 m c, A = some ⟨ob, off, none⟩ ∧ Q ob ∧ w.cell? ⟨ob, off + j * 4, none⟩ = some (.int .i64 k) ∧ w.cell? ⟨ob, off + j * 4 + 1, none⟩ = some (.int .i64 n) ∧ w.cell? ⟨ob, off + j * 4 + 2, none⟩ = some (.string s) ∧ w.cell? ⟨ob, off + j * 4 + 3, none⟩ = some (.slice A2 m c) ∧ Wi.IsIt w Q t (.agg #[.int .i64 k, .int .i64 n, .string s, .slice A2 m c]) := by
  obtain ⟨ob, off, u0, u1, u2, u3, hA, hS, h0, h1, h2, h3, hI⟩ := Wi.AreIts.at_ h ht
  obtain ⟨k, s, A2, c, e, _⟩ := IsIt.form hI
  injection e with e
  simp only [Array.mk.injEq, List.cons.injEq, and_true] at e
  obtain ⟨rfl, rfl, rfl, rfl⟩ := e
  rw [Nat.zero_add] at h0 h1 h2 h3
  exact ⟨ob, off, _, _, _, _, _, _, hA, hS, h0, h1, h2, h3, hI⟩
theorem push_core {W w3 : World} {b : Nat} {T : Tb} {A : Option Addr} {n cap : Nat} {v3 : Value} {S : Nat → Prop} (h : TAt W b T (.slice A n cap) S) (x : Ses) (own3 : Own DS w3 0 v3 (T.L ++ [x])) (grow3 : (W.alloc (.cells (sesC x).toArray 52)).drew.grownBy w3 (Value.slice A n cap).ownBlock)
    (blk3 : v3.ownBlock = (Value.slice A n cap).ownBlock ∨ v3.ownBlock = some (W.alloc (.cells (sesC x).toArray 52)).drew.heap.size) : w3.heap[b]? = some (.cells #[.int .i64 T.clk, .int .i64 T.lst, .slice A n cap] 49 (0, 0)) ∧ TabTo W (w3.setCell ⟨b, 2, none⟩ v3) b ⟨T.clk, T.lst, T.L ++ [x]⟩ S := by
  have B1 : Below W.heap.size W (W.alloc (.cells (sesC x).toArray 52)).drew := ((Below.refl _ W).alloc (Nat.le_refl _) _).drew
  have hbl := h.lt b h.own
  have hb3 : w3.heap[b]? = some (.cells #[.int .i64 T.clk, .int .i64 T.lst, .slice A n cap] 49 (0, 0)) := (grow3.block b (Nat.lt_of_lt_of_le hbl B1.size) (fun e => h.ne b e.symm rfl)).trans ((B1.block b hbl).trans h.box)
  have hf3 : Fr S W w3 := (Fr.of_below (S := S) B1).grown grow3 fun k hk => .inl (h.ov k hk)
  have hsz : (W.alloc (.cells (sesC x).toArray 52)).drew.heap.size = W.heap.size + 1 := by simp [World.drew]
  have hs3 := grow3.size
  have hv3 : ∀ k, v3.ownBlock = some k → S k ∨ W.heap.size ≤ k := fun k hk => by
    rcases blk3 with e | e
    · exact .inl (h.ov k (by rw [← e]; exact hk))
    · rw [e] at hk; injection hk with hk; exact .inr (by omega)
  have hne3 : ∀ k, v3.ownBlock = some k → k ≠ b := fun k hk => by
    rcases blk3 with e | e
    · exact h.ne k (by rw [← e]; exact hk)
    · rw [e] at hk; injection hk with hk; omega
  refine ⟨hb3, fun k => S k ∨ v3.ownBlock = some k, ⟨v3, ?_, ?_, .inl h.own, fun k hk => .inr hk, ?_, hne3⟩, ?_, hf3.setCell (.inl h.own) _⟩
  · rw [heap_set3 w3 b 2 v3 _ _ _ _ hb3]; rfl
  · exact own3.keep fun g hg => Below.heap_setCell _ _ _ g (hne3 g hg)
  · intro k hk
    rcases hk with q | q
    · have := h.lt k q; have := hf3.size; simp [World.setCell]; omega
    · have := (own3.lt q).2; simpa [World.setCell] using this
  · intro k hk
    rcases hk with q | q
    · exact .inl q
    · rcases hv3 k q with q2 | q2
      · exact .inl q2
      · exact .inr ⟨q2, by have := (own3.lt q).2; simpa [World.setCell] using this⟩
def RestP (w : World) (b : Nat) (S : Nat → Prop) (r : Option Tb) (e : Ending) (w' : World) : Prop := e = .returned (.bool r.isSome) ∧ ∃ T', (∀ T, r = some T → T' = T) ∧ TabTo w w' b T' S
set_option maxHeartbeats 16000000 in
theorem rest_core (kk nn : Int) (ss : ByteArray) (AA : Option Addr) (mm cc : Nat) (k0 n0 : Int) (s0 : ByteArray) (A0 : Option Addr) (m0 c0 : Nat) (k1 n1 : Int) (s1 : ByteArray) (A1 : Option Addr) (m1 c1 : Nat) (k2 n2 : Int) (s2 : ByteArray) (A2 : Option Addr) (m2 c2 : Nat) (b : Nat) (vv : Value) (S Q : Nat → Prop) (L : List It) (w : World) (HT0 : Hid (TAt w b t0 vv S)) (HQQ : Hid (∀ q, Q q → q < w.heap.size ∧ ¬ S q)) (HLN : Hid (L.length = m2)) (HLZ : Hid (∀ x ∈ L, Okz x)) (HLA : Hid (Wi.AreIts w Q L A2 0))
    (RES : Option Tb) (HRES : Hid (RES = if (isIdx n0 && (isIdx (IntKind.i64.wrap (n1 - 1)) && decide (L.length ≤ 32))) = true then (resA n0 (IntKind.i64.wrap (n1 - 1)) [] L).map fun R => ⟨n0, IntKind.i64.wrap (n1 - 1), R⟩ else none))
    (HQ0 : Hid (∀ X, Fr S w X → Calls Try.prog 43 #[.agg #[.int .i64 kk, .int .i64 nn, .string ss, .slice AA mm cc], .int .i64 0] X (RetBelow (.agg #[.int .i64 k0, .int .i64 n0, .string s0, .slice A0 m0 c0]) X)))
    (HQ1 : Hid (∀ X, Fr S w X → Calls Try.prog 43 #[.agg #[.int .i64 kk, .int .i64 nn, .string ss, .slice AA mm cc], .int .i64 1] X (RetBelow (.agg #[.int .i64 k1, .int .i64 n1, .string s1, .slice A1 m1 c1]) X)))
    (HQ2 : Hid (∀ X, Fr S w X → Calls Try.prog 43 #[.agg #[.int .i64 kk, .int .i64 nn, .string ss, .slice AA mm cc], .int .i64 2] X (RetBelow (.agg #[.int .i64 k2, .int .i64 n2, .string s2, .slice A2 m2 c2]) X))) :
    Calls Try.prog 25 #[.pointer (some ⟨b, 0, none⟩), .agg #[.int .i64 kk, .int .i64 nn, .string ss, .slice AA mm cc]] w (RestP w b S RES) := by
  have HIW := Lib.hid (heap_alloc_new w (.cells #[.int .i64 kk, .int .i64 nn, .string ss, .slice AA mm cc] 56))
  have HBW := Lib.hid ((Below.refl w.heap.size w).alloc (Nat.le_refl _) (.cells #[.int .i64 kk, .int .i64 nn, .string ss, .slice AA mm cc] 56))
  have HFW := Lib.hid (Fr.of_below (S := S) HBW.out)
  have hbl := HT0.out.lt b HT0.out.own
  have HTW : Hid ((w.alloc (.cells #[.int .i64 kk, .int .i64 nn, .string ss, .slice AA mm cc] 56)).heap[b]? = some (.cells #[.int .i64 0, .int .i64 0, vv] 49 (0, 0))) := Lib.hid ((HBW.out.block b hbl).trans HT0.out.box)
  have HIL : Hid (w.heap.size < (w.alloc (.cells #[.int .i64 kk, .int .i64 nn, .string ss, .slice AA mm cc] 56)).heap.size) := Lib.hid (by simp)
  have HNE1 : Hid (w.heap.size ≠ b) := Lib.hid (by omega)
  have HBS : Hid (∀ i, i = b → S i ∨ w.heap.size ≤ i) := Lib.hid fun i hi => .inl (hi ▸ HT0.out.own)
  obtain ⟨LS, hLS⟩ : ∃ LS, LS = IntKind.i64.wrap (n1 - 1) := ⟨_, rfl⟩
  rw [← hLS] at HRES
  have HLS := Lib.hid hLS
  clear hLS
  go_enter Try.func25, Try.ntmps25
  go_wp2_with fail
  obtain ⟨W, HW⟩ : ∃ W, Hid (W = w.alloc (.cells #[.int .i64 kk, .int .i64 nn, .string ss, .slice AA mm cc] 56)) := ⟨_, Lib.hid rfl⟩
  rw [← HW.out] at HIW HBW HFW HTW HIL ⊢
  clear hbl
  refine wp_region_mono3 12 [11, 12, 13, 14, 15, 16, 17, 18, 19, 20, 21, 2] (fun i u w => match i with | 0 => u = .pointer (some ⟨b, 0, none⟩) | 1 => u = .pointer (some ⟨b, 0, none⟩) | 2 => u = .agg #[.int .i64 kk, .int .i64 nn, .string ss, .slice AA mm cc] | 3 => u = .agg #[.int .i64 k0, .int .i64 n0, .string s0, .slice A0 m0 c0] | 4 => u = .int .i64 n0 | 5 => u = .agg #[.int .i64 kk, .int .i64 nn, .string ss, .slice AA mm cc] | 6 => u = .agg #[.int .i64 k1, .int .i64 n1, .string s1, .slice A1 m1 c1] | 7 => u = .int .i64 n1 | 8 => u = .int .i64 (IntKind.i64.wrap (n1 - 1)) | 9 => u = .pointer (some ⟨b, 0, none⟩) | 10 => u = .pointer (some ⟨b, 0, none⟩) | 11 => w.heap[b]? = some (.cells #[.int .i64 n0, .int .i64 0, vv] 49 (0, 0)) | _ => True) (fun w => CZ W b (.cells #[.int .i64 0, .int .i64 0, vv] 49 (0, 0)) (.cells #[.int .i64 n0, .int .i64 0, vv] 49 (0, 0)) w) (RlZ b (.cells #[.int .i64 n0, .int .i64 0, vv] 49 (0, 0))) [undef, undef, undef, undef, undef, undef, undef, undef, undef, undef, undef, undef] (by kernel_rfl) (by kernel_rfl) (by kernel_rfl) rfl (CZ.start HTW.out) ?hzV ?hzS ?hzT
  case hzV =>
    intro i v w w' hC h hB
    exact match i, h with
    | 0, h => h
    | 1, h => h
    | 2, h => h
    | 3, h => h
    | 4, h => h
    | 5, h => h
    | 6, h => h
    | 7, h => h
    | 8, h => h
    | 9, h => h
    | 10, h => h
    | 11, h => RlZ.keep hB h
    | i + 12, h => trivial
  case hzS =>
    refine steps3_cons (fun K' x hx w hC hd hK => ?_) ?_
    · obtain ⟨z0, z1, z2, z3, z4, z5, z6, z7, z8, z9, z10, z11, rfl⟩ := len12 hx
      clear hd hx
      simp only [putAll, Act.put, List.setIfInBounds_toArray, List.set_cons_zero, List.set_cons_succ] at hK ⊢
      go_simp
      exact hK _ _ rfl hC (RlZ.refl _ _ _)
    refine steps3_cons (fun K' x hx w hC hd hK => ?_) ?_
    · obtain ⟨z0, z1, z2, z3, z4, z5, z6, z7, z8, z9, z10, z11, rfl⟩ := len12 hx
      clear hd hx
      simp only [putAll, Act.put, List.setIfInBounds_toArray, List.set_cons_zero, List.set_cons_succ] at hK ⊢
      go_simp
      exact hK _ _ rfl hC (RlZ.refl _ _ _)
    refine steps3_cons (fun K' x hx w hC hd hK => ?_) ?_
    · obtain ⟨z0, z1, z2, z3, z4, z5, z6, z7, z8, z9, z10, z11, rfl⟩ := len12 hx
      clear hd hx
      simp only [putAll, Act.put, List.setIfInBounds_toArray, List.set_cons_zero, List.set_cons_succ] at hK ⊢
      obtain ⟨y0, y1, y2, y3, _⟩ := Wi.row4 ((hC.block HIL.out HNE1.out).trans HIW.out)
      go_simp
      exact hK _ _ rfl hC (RlZ.refl _ _ _)
    refine steps3_cons (fun K' x hx w hC hd hK => ?_) ?_
    · obtain ⟨z0, z1, z2, z3, z4, z5, z6, z7, z8, z9, z10, z11, rfl⟩ := len12 hx
      obtain rfl : z2 = _ := hd 2 (by kernel_rfl)
      clear hd hx
      simp only [putAll, Act.put, List.setIfInBounds_toArray, List.set_cons_zero, List.set_cons_succ] at hK ⊢
      go_simp
      (go_at_call 43; (with_reducible refine (HQ0.out _ (HFW.out.trans (CZ.fr hC) HBS.out)).mono ?_); rintro e w1 ⟨rfl, hb⟩; exact hK _ _ rfl (CZ.below hC hb) (CZ.rel hC hb))
    refine steps3_cons (fun K' x hx w hC hd hK => ?_) ?_
    · obtain ⟨z0, z1, z2, z3, z4, z5, z6, z7, z8, z9, z10, z11, rfl⟩ := len12 hx
      obtain rfl : z3 = _ := hd 3 (by kernel_rfl)
      clear hd hx
      simp only [putAll, Act.put, List.setIfInBounds_toArray, List.set_cons_zero, List.set_cons_succ] at hK ⊢
      have hfd := fld1
      go_simp
      exact hK _ _ rfl hC (RlZ.refl _ _ _)
    refine steps3_cons (fun K' x hx w hC hd hK => ?_) ?_
    · obtain ⟨z0, z1, z2, z3, z4, z5, z6, z7, z8, z9, z10, z11, rfl⟩ := len12 hx
      clear hd hx
      simp only [putAll, Act.put, List.setIfInBounds_toArray, List.set_cons_zero, List.set_cons_succ] at hK ⊢
      obtain ⟨y0, y1, y2, y3, _⟩ := Wi.row4 ((hC.block HIL.out HNE1.out).trans HIW.out)
      go_simp
      exact hK _ _ rfl hC (RlZ.refl _ _ _)
    refine steps3_cons (fun K' x hx w hC hd hK => ?_) ?_
    · obtain ⟨z0, z1, z2, z3, z4, z5, z6, z7, z8, z9, z10, z11, rfl⟩ := len12 hx
      obtain rfl : z5 = _ := hd 5 (by kernel_rfl)
      clear hd hx
      simp only [putAll, Act.put, List.setIfInBounds_toArray, List.set_cons_zero, List.set_cons_succ] at hK ⊢
      go_simp
      (go_at_call 43; (with_reducible refine (HQ1.out _ (HFW.out.trans (CZ.fr hC) HBS.out)).mono ?_); rintro e w1 ⟨rfl, hb⟩; exact hK _ _ rfl (CZ.below hC hb) (CZ.rel hC hb))
    refine steps3_cons (fun K' x hx w hC hd hK => ?_) ?_
    · obtain ⟨z0, z1, z2, z3, z4, z5, z6, z7, z8, z9, z10, z11, rfl⟩ := len12 hx
      obtain rfl : z6 = _ := hd 6 (by kernel_rfl)
      clear hd hx
      simp only [putAll, Act.put, List.setIfInBounds_toArray, List.set_cons_zero, List.set_cons_succ] at hK ⊢
      have hfd := fld1
      go_simp
      exact hK _ _ rfl hC (RlZ.refl _ _ _)
    refine steps3_cons (fun K' x hx w hC hd hK => ?_) ?_
    · obtain ⟨z0, z1, z2, z3, z4, z5, z6, z7, z8, z9, z10, z11, rfl⟩ := len12 hx
      obtain rfl : z7 = _ := hd 7 (by kernel_rfl)
      clear hd hx
      simp only [putAll, Act.put, List.setIfInBounds_toArray, List.set_cons_zero, List.set_cons_succ] at hK ⊢
      go_simp
      exact hK _ _ rfl hC (RlZ.refl _ _ _)
    refine steps3_cons (fun K' x hx w hC hd hK => ?_) ?_
    · obtain ⟨z0, z1, z2, z3, z4, z5, z6, z7, z8, z9, z10, z11, rfl⟩ := len12 hx
      obtain rfl : z0 = _ := hd 0 (by kernel_rfl)
      clear hd hx
      simp only [putAll, Act.put, List.setIfInBounds_toArray, List.set_cons_zero, List.set_cons_succ] at hK ⊢
      go_simp
      exact hK _ _ rfl hC (RlZ.refl _ _ _)
    refine steps3_cons (fun K' x hx w hC hd hK => ?_) ?_
    · obtain ⟨z0, z1, z2, z3, z4, z5, z6, z7, z8, z9, z10, z11, rfl⟩ := len12 hx
      obtain rfl : z9 = _ := hd 9 (by kernel_rfl)
      clear hd hx
      simp only [putAll, Act.put, List.setIfInBounds_toArray, List.set_cons_zero, List.set_cons_succ] at hK ⊢
      go_simp
      exact hK _ _ rfl hC (RlZ.refl _ _ _)
    refine steps3_cons (fun K' x hx w hC hd hK => ?_) ?_
    · obtain ⟨z0, z1, z2, z3, z4, z5, z6, z7, z8, z9, z10, z11, rfl⟩ := len12 hx
      obtain rfl : z10 = _ := hd 10 (by kernel_rfl)
      obtain rfl : z4 = _ := hd 4 (by kernel_rfl)
      clear hd hx
      simp only [putAll, Act.put, List.setIfInBounds_toArray, List.set_cons_zero, List.set_cons_succ] at hK ⊢
      rcases hC.2 with hr | hr
      · obtain ⟨q0, q1, q2, p0, p1, p2⟩ := tcells hr
        have R9 := heap_set3 w b 0 (.int .i64 n0) _ _ _ _ hr
        simp only [List.setIfInBounds_toArray, List.set_cons_zero] at R9
        have F9 := (Fr.refl (· = b) w).setCell (p := ⟨b, 0, none⟩) (.inl rfl) (.int .i64 n0)
        have SS := CZ.stored hC F9 R9
        have R9H := Lib.hid R9
        clear R9 F9
        have SS1 := Lib.hid SS
        clear SS
        go_simp
        exact hK z11 _ R9H.out SS1.out.1 SS1.out.2
      · obtain ⟨q0, q1, q2, p0, p1, p2⟩ := tcells hr
        have R9 := heap_set3 w b 0 (.int .i64 n0) _ _ _ _ hr
        simp only [List.setIfInBounds_toArray, List.set_cons_zero] at R9
        have F9 := (Fr.refl (· = b) w).setCell (p := ⟨b, 0, none⟩) (.inl rfl) (.int .i64 n0)
        have SS := CZ.stored hC F9 R9
        have R9H := Lib.hid R9
        clear R9 F9
        have SS1 := Lib.hid SS
        clear SS
        go_simp
        exact hK z11 _ R9H.out SS1.out.1 SS1.out.2
    exact trivial
  case hzT =>
    intro x hx V0 hC hd
    obtain ⟨z0, z1, z2, z3, z4, z5, z6, z7, z8, z9, z10, z11, rfl⟩ := len12 hx
    have hz1 : z1 = _ := hd 1 (by omega)
    have hz8 : z8 = _ := hd 8 (by omega)
    have hst := hd 11 (by omega)
    rw [← HLS.out] at hz8
    subst hz1 hz8
    clear hd hx
    simp only [putAll, Act.put, List.setIfInBounds_toArray, List.set_cons_zero, List.set_cons_succ]
    have R9 := Lib.hid hst
    have F9 := Lib.hid (HFW.out.trans (CZ.fr hC) HBS.out)
    have HFK := Lib.hid fun g (hg : vv.ownBlock = some g) => ((CZ.fr hC).block g (by have := HT0.out.lt g (HT0.out.ov g hg); have := HBW.out.size; omega) (HT0.out.ne g hg)).trans (HBW.out.block g (HT0.out.lt g (HT0.out.ov g hg)))
    obtain ⟨x0, x1, x2, x3, _⟩ := Wi.row4 ((hC.block HIL.out HNE1.out).trans HIW.out)
    have hnb1 : ¬ w.heap.size = b := HNE1.out
    have hnb2 : ¬ b = w.heap.size := fun e => HNE1.out e.symm
    obtain ⟨q0, q1, q2, p0, p1, p2⟩ := tcells R9.out
    clear hC hst
    show wpList Try.prog _ _ (_ :: _ :: _ :: []) _ _
    go_wp2_with fail
    have HF2 := Lib.hid (F9.out.setCell (p := ⟨b, 1, none⟩) (.inl HT0.out.own) (.int .i64 LS))
    have R10 := Lib.hid (heap_set3 V0 b 1 (.int .i64 LS) _ _ _ _ R9.out)
    have HO10 : Hid (Own DS (V0.setCell ⟨b, 1, none⟩ (.int .i64 LS)) 0 vv []) := Lib.hid (HT0.out.row.keep fun g hg => (Below.heap_setCell _ _ _ g (HT0.out.ne g hg)).trans (HFK.out g hg))
    clear x0 x1 x2 x3
    (with_reducible refine (HQ2.out _ HF2.out).mono ?_)
    rintro e w1 ⟨rfl, hb1⟩
    have HT1 : Hid (TAt w1 b ⟨n0, LS, []⟩ vv S) := Lib.hid ⟨(hb1.block b (Array.getElem?_eq_some_iff.1 R10.out).1).trans R10.out, HO10.out.below hb1, HT0.out.own, HT0.out.ov, fun k hk => Nat.lt_of_lt_of_le (HT0.out.lt k hk) (Nat.le_trans HF2.out.size hb1.size), HT0.out.ne⟩
    have HF1 := Lib.hid (HF2.out.trans (Fr.of_below (S := S) hb1) fun i q => .inl q)
    have HTO1 : Hid (TabTo w w1 b ⟨n0, LS, []⟩ S) := Lib.hid ⟨S, ⟨vv, HT1.out⟩, fun k hk => .inl hk, HF1.out⟩
    have HI1 := Lib.hid fun X => isIdx_any n0 X
    have HI2 := Lib.hid fun X => isIdx_any LS X
    obtain ⟨t0', t1', t2', _⟩ := tcells HT1.out.box
    have hfd3 := fld3
    clear hb1 q0 q1 q2 p0 p1 p2
    clear HQ0 HQ1 HQ2 HIW HBW HFW HTW HIL HNE1 HBS R9 F9 HF2 R10 HO10 HFK
    generalize isIdx n0 = I1 at *
    generalize isIdx LS = I2 at *
    cases I1 with
    | false =>
      have HRN : Hid (RES = none) := Lib.hid (by rw [HRES.out]; simp [HLN.out])
      go_wp2_with (first | (go_at_call 44; (with_reducible refine (HI1.out _).mono ?_); rintro e w9 ⟨rfl, rfl⟩) | (go_at_call 44; (with_reducible refine (HI2.out _).mono ?_); rintro e w9 ⟨rfl, rfl⟩))
      go_ret
      obtain rfl : RES = none := HRN.out
      exact ⟨rfl, ⟨n0, LS, []⟩, (fun T h => by cases h), HTO1.out⟩
    | true =>
    cases I2 with
    | false =>
      have HRN : Hid (RES = none) := Lib.hid (by rw [HRES.out]; simp [HLN.out])
      go_wp2_with (first | (go_at_call 44; (with_reducible refine (HI1.out _).mono ?_); rintro e w9 ⟨rfl, rfl⟩) | (go_at_call 44; (with_reducible refine (HI2.out _).mono ?_); rintro e w9 ⟨rfl, rfl⟩))
      go_ret
      obtain rfl : RES = none := HRN.out
      exact ⟨rfl, ⟨n0, LS, []⟩, (fun T h => by cases h), HTO1.out⟩
    | true =>
    by_cases h32 : m2 ≤ 32
    case neg =>
      have g1 : decide ((32 : Int) < (m2 : Int)) = true := by simp; omega
      have g2 : decide (32 < m2) = true := by simp; omega
      have HRN : Hid (RES = none) := Lib.hid (by rw [HRES.out]; simp [HLN.out, h32])
      go_wp2_with (first | (go_at_call 44; (with_reducible refine (HI1.out _).mono ?_); rintro e w9 ⟨rfl, rfl⟩) | (go_at_call 44; (with_reducible refine (HI2.out _).mono ?_); rintro e w9 ⟨rfl, rfl⟩))
      go_ret
      obtain rfl : RES = none := HRN.out
      exact ⟨rfl, ⟨n0, LS, []⟩, (fun T h => by cases h), HTO1.out⟩
    case pos =>
    have g1 : decide ((32 : Int) < (m2 : Int)) = false := by simp; omega
    have g2 : decide (32 < m2) = false := by simp; omega
    have HRY : Hid (RES = (resA n0 LS [] L).map fun R => ⟨n0, LS, R⟩) := Lib.hid (HRES.out.trans (if_pos (by simp [HLN.out, h32])))
    go_wp2_with (first | (go_at_call 44; (with_reducible refine (HI1.out _).mono ?_); rintro e w9 ⟨rfl, rfl⟩) | (go_at_call 44; (with_reducible refine (HI2.out _).mono ?_); rintro e w9 ⟨rfl, rfl⟩))
    clear t0' t1' t2' g1 g2 hfd3
    go_loopw [6, 8, 9, 10, 48] (fun lV _ _ _ iV wr => ∃ (j : Nat) (acc : List Ses), iV = .int .i64 (j : Int) ∧ j ≤ m2 ∧ lV = .int .i64 (lastId acc) ∧ acc.length = j ∧ AI n0 LS acc ∧ resA n0 LS [] L = resA n0 LS acc (L.drop j) ∧ TabTo w wr b ⟨n0, LS, acc⟩ S) (fun _ _ _ _ iV _ => m2 - (intOf iV).toNat)
    case atStart => exact ⟨0, [], rfl, Nat.zero_le _, rfl, rfl, ai_nil _ _, rfl, HTO1.out⟩
    case round =>
      obtain ⟨j, acc, rfl, hj, rfl, hal, hai, hre, hto⟩ := hrel
      have HTO := Lib.hid hto
      obtain ⟨S', ⟨tv, htv⟩, hup, hfr⟩ := hto
      have HAL := Lib.hid hal
      have HAI := Lib.hid hai
      have HRE := Lib.hid hre
      have HTV := Lib.hid htv
      have HUP := Lib.hid hup
      have HF := Lib.hid hfr
      clear hal hai hre htv hup hfr
      by_cases hlt : j < m2
      · obtain ⟨t, ht⟩ : ∃ t, L[j]? = some t := ⟨_, List.getElem?_eq_getElem (by have := HLN.out; omega)⟩
        have HLT := Lib.hid hlt
        have i1 : (j : Int) < (m2 : Int) := by omega
        have HDR : Hid (L.drop j = t :: L.drop (j + 1)) := Lib.hid (by obtain ⟨q1, rfl⟩ := List.getElem?_eq_some_iff.1 ht; exact List.drop_eq_getElem_cons q1)
        have HKP : Hid (∀ X, Fr S w X → Kp Q w X) := Lib.hid fun X hX => ⟨hX.size, fun q hq => hX.block q (HQQ.out q hq).1 (HQQ.out q hq).2⟩
        obtain ⟨ob, off, xk, xn, xs, xA, xm, xc, hA2, hxQ, hx0, hx1, hx2, hx3, hit⟩ := el_at HLA.out ht
        subst hA2
        have e0 := (World.cell?_of_block ((HKP.out _ HF.out).2 ob hxQ)).trans hx0
        have e1 := (World.cell?_of_block ((HKP.out _ HF.out).2 ob hxQ)).trans hx1
        have e2 := (World.cell?_of_block ((HKP.out _ HF.out).2 ob hxQ)).trans hx2
        have e3 := (World.cell?_of_block ((HKP.out _ HF.out).2 ob hxQ)).trans hx3
        have HSES : Hid (∀ X, Fr S w X → Calls Try.prog 45 #[.agg #[.int .i64 xk, .int .i64 xn, .string xs, .slice xA xm xc]] X (RetBelow (.tuple #[sesV (sesP t), .bool (okP t)]) X)) := Lib.hid fun X hX => sesOf_any (fun q hq => (HQQ.out q hq).1) (HLZ.out t (List.mem_of_getElem? ht)) hit X (HKP.out X hX)
        have HCAN : Hid (canP n0 LS acc t = (okP t && (decide (lastId acc < (sesP t).id) && mayB n0 LS (sesP t)))) := Lib.hid rfl
        have HMH : Hid (∀ X v, X.heap[b]? = some (.cells #[.int .i64 n0, .int .i64 LS, v] 49 (0, 0)) → Calls Try.prog 46 #[.pointer (some ⟨b, 0, none⟩), sesV (sesP t)] X (RetBelow (.bool (mayB n0 LS (sesP t))) X)) := Lib.hid fun X v hX => mayHave_any b n0 LS v (sesP t) X hX
        have HNEXT : Hid (canP n0 LS acc t = true → AI n0 LS (acc ++ [sesP t])) := Lib.hid fun hc => ai_step HAI.out hc
        have HRA : Hid (resA n0 LS acc (t :: L.drop (j + 1)) = if canP n0 LS acc t = true then resA n0 LS (acc ++ [sesP t]) (L.drop (j + 1)) else none) := Lib.hid rfl
        have HLI : Hid (lastId (acc ++ [sesP t]) = (sesP t).id) := Lib.hid (lastId_snoc _ _)
        clear hx0 hx1 hx2 hx3 hit hxQ ht
        generalize canP n0 LS acc t = CAN at *
        generalize okP t = OK at *
        generalize sesP t = ns at *
        generalize mayB n0 LS ns = MB at *
        generalize lastId acc = la at *
        obtain ⟨sid, sq, ⟨re, rs, ra, rb, rc, rn⟩, su⟩ := ns
        unfold sesV at HSES HMH
        dsimp only at *
        have HNI := Lib.hid (heap_alloc_new wr (.cells #[.int .i64 xk, .int .i64 xn, .string xs, .slice xA xm xc] 56))
        have HBI := Lib.hid ((Below.refl wr.heap.size wr).alloc (Nat.le_refl _) (.cells #[.int .i64 xk, .int .i64 xn, .string xs, .slice xA xm xc] 56))
        have HFI := Lib.hid (HF.out.trans (Fr.of_below (S := S) HBI.out) fun i q => .inl q)
        cases OK with
        | false =>
          have HRN : Hid (RES = none) := Lib.hid (by rw [HRY.out, HRE.out, HDR.out, HRA.out, HCAN.out]; simp [*])
          go_wp2_with (first | (go_at_call 45; (with_reducible refine (HSES.out _ HFI.out).mono ?_); rintro e w2 ⟨rfl, hb2⟩; have HB2 := Lib.hid (HBI.out.trans (hb2.mono HBI.out.size)); clear hb2; have HNS := Lib.hid (heap_alloc_new w2 (.cells #[.int .i64 sid, .int .i64 sq, .int .i64 re, .string rs, .int .i64 ra, .int .i64 rb, .int .i64 rc, .int .i64 rn, .int .i64 su] 52)); have HB3 := Lib.hid (HB2.out.alloc HB2.out.size (.cells #[.int .i64 sid, .int .i64 sq, .int .i64 re, .string rs, .int .i64 ra, .int .i64 rb, .int .i64 rc, .int .i64 rn, .int .i64 su] 52)); obtain ⟨z0, z1, z2, z3, z4, z5, z6, z7, z8, _⟩ := rowc9 HNS.out))
          go_ret
          obtain rfl : RES = none := HRN.out
          exact ⟨rfl, _, (fun T h => by cases h), TabTo.after HTO.out HB3.out⟩
        | true =>
        by_cases hla : la < sid
        case neg =>
          have g1 : decide (sid ≤ la) = true := by simp; omega
          have g2 : decide (la < sid) = false := by simp; omega
          have HRN : Hid (RES = none) := Lib.hid (by rw [HRY.out, HRE.out, HDR.out, HRA.out, HCAN.out]; simp [*])
          go_wp2_with (first | (go_at_call 45; (with_reducible refine (HSES.out _ HFI.out).mono ?_); rintro e w2 ⟨rfl, hb2⟩; have HB2 := Lib.hid (HBI.out.trans (hb2.mono HBI.out.size)); clear hb2; have HNS := Lib.hid (heap_alloc_new w2 (.cells #[.int .i64 sid, .int .i64 sq, .int .i64 re, .string rs, .int .i64 ra, .int .i64 rb, .int .i64 rc, .int .i64 rn, .int .i64 su] 52)); have HB3 := Lib.hid (HB2.out.alloc HB2.out.size (.cells #[.int .i64 sid, .int .i64 sq, .int .i64 re, .string rs, .int .i64 ra, .int .i64 rb, .int .i64 rc, .int .i64 rn, .int .i64 su] 52)); obtain ⟨z0, z1, z2, z3, z4, z5, z6, z7, z8, _⟩ := rowc9 HNS.out))
          go_ret
          obtain rfl : RES = none := HRN.out
          exact ⟨rfl, _, (fun T h => by cases h), TabTo.after HTO.out HB3.out⟩
        case pos =>
        have g1 : decide (sid ≤ la) = false := by simp; omega
        have g2 : decide (la < sid) = true := by simp; omega
        cases MB with
        | false =>
          have HRN : Hid (RES = none) := Lib.hid (by rw [HRY.out, HRE.out, HDR.out, HRA.out, HCAN.out]; simp [*])
          go_wp2_with (first | (go_at_call 45; (with_reducible refine (HSES.out _ HFI.out).mono ?_); rintro e w2 ⟨rfl, hb2⟩; have HB2 := Lib.hid (HBI.out.trans (hb2.mono HBI.out.size)); clear hb2; have HNS := Lib.hid (heap_alloc_new w2 (.cells #[.int .i64 sid, .int .i64 sq, .int .i64 re, .string rs, .int .i64 ra, .int .i64 rb, .int .i64 rc, .int .i64 rn, .int .i64 su] 52)); have HB3 := Lib.hid (HB2.out.alloc HB2.out.size (.cells #[.int .i64 sid, .int .i64 sq, .int .i64 re, .string rs, .int .i64 ra, .int .i64 rb, .int .i64 rc, .int .i64 rn, .int .i64 su] 52)); obtain ⟨z0, z1, z2, z3, z4, z5, z6, z7, z8, _⟩ := rowc9 HNS.out) | (go_at_call 46; (with_reducible refine (HMH.out _ tv ((HTV.out.below HB3.out).box)).mono ?_); rintro e w3 ⟨rfl, hb3⟩; have HB4 := Lib.hid (HB3.out.trans (hb3.mono HB3.out.size)); have HNS3 := Lib.hid ((hb3.block w2.heap.size (by simp)).trans HNS.out); clear hb3 z0 z1 z2 z3 z4 z5 z6 z7 z8; obtain ⟨z0, z1, z2, z3, z4, z5, z6, z7, z8, _⟩ := rowc9 HNS3.out))
          go_ret
          obtain rfl : RES = none := HRN.out
          exact ⟨rfl, _, (fun T h => by cases h), TabTo.after HTO.out HB4.out⟩
        | true =>
        have HCY : Hid (CAN = true) := Lib.hid (by rw [HCAN.out, g2]; rfl)
        obtain ⟨A, cap, hv, _, hcap, hcm, _⟩ := HTV.out.row.form
        dsimp only at hv
        rw [HAL.out] at hv
        subst hv
        go_wp2_with (first | (go_at_call 45; (with_reducible refine (HSES.out _ HFI.out).mono ?_); rintro e w2 ⟨rfl, hb2⟩; have HB2 := Lib.hid (HBI.out.trans (hb2.mono HBI.out.size)); clear hb2; have HNS := Lib.hid (heap_alloc_new w2 (.cells #[.int .i64 sid, .int .i64 sq, .int .i64 re, .string rs, .int .i64 ra, .int .i64 rb, .int .i64 rc, .int .i64 rn, .int .i64 su] 52)); have HB3 := Lib.hid (HB2.out.alloc HB2.out.size (.cells #[.int .i64 sid, .int .i64 sq, .int .i64 re, .string rs, .int .i64 ra, .int .i64 rb, .int .i64 rc, .int .i64 rn, .int .i64 su] 52)); obtain ⟨z0, z1, z2, z3, z4, z5, z6, z7, z8, _⟩ := rowc9 HNS.out) | (go_at_call 46; (with_reducible refine (HMH.out _ _ ((HTV.out.below HB3.out).box)).mono ?_); rintro e w3 ⟨rfl, hb3⟩; have HB4 := Lib.hid (HB3.out.trans (hb3.mono HB3.out.size)); have HNS3 := Lib.hid ((hb3.block w2.heap.size (by simp)).trans HNS.out); clear hb3 z0 z1 z2 z3 z4 z5 z6 z7 z8; obtain ⟨z0, z1, z2, z3, z4, z5, z6, z7, z8, _⟩ := rowc9 HNS3.out))
        have HTW := Lib.hid (HTV.out.below HB4.out)
        obtain ⟨d0, d1, d2, p0, p1, p2⟩ := tcells HTW.out.box
        have hlt := (Array.getElem?_eq_some_iff.1 HTW.out.box).1
        have hl2 := (Array.getElem?_eq_some_iff.1 HNS3.out).1
        have K1 : Hid ((w3.alloc (.cells #[.int .i64 sid, .int .i64 sq, .int .i64 re, .string rs, .int .i64 ra, .int .i64 rb, .int .i64 rc, .int .i64 rn, .int .i64 su] 52)).drew.heap[w3.heap.size]? = some (.cells #[.int .i64 sid, .int .i64 sq, .int .i64 re, .string rs, .int .i64 ra, .int .i64 rb, .int .i64 rc, .int .i64 rn, .int .i64 su] 52 (0, 0))) := Lib.hid (heap_alloc_new w3 _)
        have B1 : Hid (Below w3.heap.size w3 (w3.alloc (.cells #[.int .i64 sid, .int .i64 sq, .int .i64 re, .string rs, .int .i64 ra, .int .i64 rb, .int .i64 rc, .int .i64 rn, .int .i64 su] 52)).drew) := Lib.hid ((Below.refl _ w3).alloc (Nat.le_refl _) _).drew
        have O1 : Hid (Own DS (w3.alloc (.cells #[.int .i64 sid, .int .i64 sq, .int .i64 re, .string rs, .int .i64 ra, .int .i64 rb, .int .i64 rc, .int .i64 rn, .int .i64 su] 52)).drew 0 (.slice A j cap) acc) := Lib.hid (HTW.out.row.below B1.out)
        have R1 : Hid (Rws DS (w3.alloc (.cells #[.int .i64 sid, .int .i64 sq, .int .i64 re, .string rs, .int .i64 ra, .int .i64 rb, .int .i64 rc, .int .i64 rn, .int .i64 su] 52)).drew (w3.alloc (.cells #[.int .i64 sid, .int .i64 sq, .int .i64 re, .string rs, .int .i64 ra, .int .i64 rb, .int .i64 rc, .int .i64 rn, .int .i64 su] 52)).drew.heap.size (some ⟨w3.heap.size, 0, none⟩) [⟨sid, sq, ⟨re, rs, ra, rb, rc, rn⟩, su⟩]) := Lib.hid (Rws.box (D := DS) (x := ⟨sid, sq, ⟨re, rs, ra, rb, rc, rn⟩, su⟩) K1.out)
        have N1 : Hid (acc.length + 1 ≤ 1000000) := Lib.hid (by have := HAL.out; omega)
        have S1 : Hid (0 ≤ (w3.alloc (.cells #[.int .i64 sid, .int .i64 sq, .int .i64 re, .string rs, .int .i64 ra, .int .i64 rb, .int .i64 rc, .int .i64 rn, .int .i64 su] 52)).drew.heap.size) := Lib.hid (Nat.zero_le _)
        have HLL : Hid ((acc ++ [(⟨sid, sq, ⟨re, rs, ra, rb, rc, rn⟩, su⟩ : Ses)]).length = j + 1) := Lib.hid (by rw [List.length_append, HAL.out]; rfl)
        have ST : Hid (∀ v3 w4, Own DS w4 0 v3 (acc ++ [⟨sid, sq, ⟨re, rs, ra, rb, rc, rn⟩, su⟩]) → (w3.alloc (.cells #[.int .i64 sid, .int .i64 sq, .int .i64 re, .string rs, .int .i64 ra, .int .i64 rb, .int .i64 rc, .int .i64 rn, .int .i64 su] 52)).drew.grownBy w4 (Value.slice A j cap).ownBlock → (v3.ownBlock = (Value.slice A j cap).ownBlock ∨ v3.ownBlock = some (w3.alloc (.cells #[.int .i64 sid, .int .i64 sq, .int .i64 re, .string rs, .int .i64 ra, .int .i64 rb, .int .i64 rc, .int .i64 rn, .int .i64 su] 52)).drew.heap.size) → w4.heap[b]? = some (.cells #[.int .i64 n0, .int .i64 LS, .slice A j cap] 49 (0, 0)) ∧ TabTo w3 (w4.setCell ⟨b, 2, none⟩ v3) b ⟨n0, LS, acc ++ [⟨sid, sq, ⟨re, rs, ra, rb, rc, rn⟩, su⟩]⟩ S') := Lib.hid fun v3 w4 h1 h2 h3 => push_core (T := ⟨n0, LS, acc⟩) HTW.out ⟨sid, sq, ⟨re, rs, ra, rb, rc, rn⟩, su⟩ h1 h2 h3
        go_region_law (first
          | ((refine step_appX DS (by rfl) (.tmp 77) (.tmp 79) (by rfl) 0 (.slice A j cap) acc (by rfl) O1.out (some ⟨w3.heap.size, 0, none⟩) 1 1 _ [⟨sid, sq, ⟨re, rs, ra, rb, rc, rn⟩, su⟩] (by rfl) (fun h => by cases h) R1.out rfl (Nat.le_refl _) N1.out S1.out ?_); intro v3 w4 own3 grow3 blk3; obtain ⟨HB9, TT⟩ := ST.out v3 w4 own3.out grow3.out blk3.out; obtain ⟨A3, c3, e3, _⟩ := own3.out.form; subst e3; rw [HLL.out] at TT; have T3 := Lib.hid TT; obtain ⟨x0, x1, x2, y0, y1, y2⟩ := tcells HB9; clear own3 grow3 blk3 TT HB9))
        all_goals go_wp2_with fail
        all_goals go_roundw
        all_goals first
          | exact meas_lt HLT.out
          | (refine ⟨j + 1, acc ++ [⟨sid, sq, ⟨re, rs, ra, rb, rc, rn⟩, su⟩], by go_num, Nat.succ_le_of_lt HLT.out, by rw [HLI.out], HLL.out, HNEXT.out HCY.out, ?_, ?_⟩
             · rw [HRE.out, HDR.out, HRA.out, HCY.out]; rfl
             · rw [HAL.out]; exact TabTo.go (fun k hk => (HUP.out k hk).elim .inl fun q => .inr ⟨q.1, Nat.lt_of_lt_of_le q.2 HB4.out.size⟩) (HF.out.trans (Fr.of_below (S := S) HB4.out) fun i q => .inl q) T3.out)
      · go_wp2_with fail
        go_ret
        obtain rfl : j = m2 := by omega
        have hdr : L.drop j = [] := List.drop_eq_nil_of_le (by have := HLN.out; omega)
        obtain rfl : RES = some ⟨n0, LS, acc⟩ := by rw [HRY.out, HRE.out, hdr, resA]; rfl
        refine ⟨rfl, _, fun T h => ?_, HTO.out⟩
        cases h
        rfl
end Go.Proofs.Ytphclpjekpdifaa
