import Derived.Test.YtebacdegjmcnlaaMn
namespace Go.Proofs.Ytebacdegjmcnlaa
open Go.RowKit Pl
set_option linter.unusedVariables false
set_option maxRecDepth 20000
def knd : It → Int | .mk k _ _ _ => k
def num : It → Int | .mk _ n _ _ => n
def tx : It → ByteArray | .mk _ _ s _ => s
def els : It → List It | .mk _ _ _ l => l
/-- the four cells of an item -/
structure Cel (w : World) (b p : Nat) (x : It) (A : Option Addr) (m c : Nat) : Prop where
  c0 : w.cell? ⟨b, p, none⟩ = some (.int .i64 (knd x))
  c1 : w.cell? ⟨b, p + 1, none⟩ = some (.int .i64 (num x))
  c2 : w.cell? ⟨b, p + 2, none⟩ = some (.string (tx x))
  c3 : w.cell? ⟨b, p + 3, none⟩ = some (.slice A m c)
theorem Cel.keep {w w' : World} {b p : Nat} {x : It} {A : Option Addr} {m c : Nat} (h : Cel w b p x A m c) (hk : w'.heap[b]? = w.heap[b]?) : Cel w' b p x A m c :=
  ⟨(World.cell?_of_block (w := w) hk).trans h.c0, (World.cell?_of_block (w := w) hk).trans h.c1, (World.cell?_of_block (w := w) hk).trans h.c2, (World.cell?_of_block (w := w) hk).trans h.c3⟩
theorem cel_of {w : World} {S : Nat → Prop} {l : List It} {a : Option Addr} (h : AreIts w S l a 0) {k : Nat} {x : It} (hx : l[k]? = some x) :
    ∃ b off A c, a = some ⟨b, off, none⟩ ∧ S b ∧ Cel w b (off + k * 4) x A (els x).length c ∧ IsIt w S x (.agg #[.int .i64 (knd x), .int .i64 (num x), .string (tx x), .slice A (els x).length c]) := by
  obtain ⟨b, off, u0, u1, u2, u3, rfl, hS, k0, k1, k2, k3, hit⟩ := h.at_ hx
  obtain ⟨kk, n, s, tl⟩ := x
  have hit2 := hit
  rw [IsIt] at hit
  obtain ⟨A, c, he, _⟩ := hit
  simp only [Value.agg.injEq, Array.mk.injEq, List.cons.injEq, and_true] at he
  obtain ⟨rfl, rfl, rfl, rfl⟩ := he
  rw [Nat.zero_add] at k0 k1 k2 k3
  exact ⟨b, off, A, c, rfl, hS, ⟨k0, k1, k2, k3⟩, hit2⟩
theorem els3 (n : Int) (s : ByteArray) (A : Option Addr) (c : Nat) (w : World) : Calls Try.prog 81 #[.agg #[.int .i64 3, .int .i64 n, .string s, .slice A 3 c], .int .i64 3] w fun e w' => e = .returned (.slice A 3 c) ∧ Below w.heap.size w w' := els_yes n s A 3 c w
theorem els5 (n : Int) (s : ByteArray) (A : Option Addr) (c : Nat) (w : World) : Calls Try.prog 81 #[.agg #[.int .i64 3, .int .i64 n, .string s, .slice A 5 c], .int .i64 5] w fun e w' => e = .returned (.slice A 5 c) ∧ Below w.heap.size w w' := els_yes n s A 5 c w
theorem els4 (n : Int) (s : ByteArray) (A : Option Addr) (c : Nat) (w : World) : Calls Try.prog 81 #[.agg #[.int .i64 3, .int .i64 n, .string s, .slice A 4 c], .int .i64 4] w fun e w' => e = .returned (.slice A 4 c) ∧ Below w.heap.size w w' := els_yes n s A 4 c w
/-- the vec's boxes -/
structure VSt (w W : World) (a b c : Int) : Prop where
  r1 : W.heap[w.heap.size + 1]? = some (.cells #[.int .i64 0, .int .i64 0, .int .i64 0] 39 (0, 0))
  r2 : W.heap[w.heap.size + 1 + 1]? = some (.cells #[.int .i64 a, .int .i64 b, .int .i64 c] 39 (0, 0))
  bl : Below w.heap.size w W
  sz : w.heap.size + 3 ≤ W.heap.size
theorem VSt.on {w W W' : World} {a b c : Int} (h : VSt w W a b c) (hb : Below W.heap.size W W') : VSt w W' a b c :=
  ⟨(hb.block _ (by have := h.sz; omega)).trans h.r1, (hb.block _ (by have := h.sz; omega)).trans h.r2, h.bl.trans (hb.mono h.bl.size), Nat.le_trans h.sz hb.size⟩
theorem VSt.set {w W : World} {a b c a' b' c' : Int} (h : VSt w W a b c) (k : Nat) (v : Value) (hk : (#[.int .i64 a, .int .i64 b, .int .i64 c] : Array Value).setIfInBounds k v = #[.int .i64 a', .int .i64 b', .int .i64 c']) : VSt w (W.setCell ⟨w.heap.size + 1 + 1, k, none⟩ v) a' b' c' :=
  ⟨(Below.heap_setCell _ _ _ _ (by simp)).trans h.r1, by rw [← hk]; exact heap_set _ _ _ _ _ _ h.r2, h.bl.setCell (p := ⟨w.heap.size + 1 + 1, k, none⟩) (by simp; omega) _, by have := h.sz; simpa [World.setCell] using this⟩
theorem row3 {w : World} {b : Nat} {a0 a1 a2 : Value} {t : TypeId} (h : w.heap[b]? = some (.cells #[a0, a1, a2] t (0, 0))) :
    w.cell? ⟨b, 0, none⟩ = some a0 ∧ w.cell? ⟨b, 1, none⟩ = some a1 ∧ w.cell? ⟨b, 2, none⟩ = some a2 ∧ w.frozen? ⟨b, 0, none⟩ = false ∧ w.frozen? ⟨b, 1, none⟩ = false ∧ w.frozen? ⟨b, 2, none⟩ = false :=
  ⟨cell_of_row w b 0 _ _ _ h, cell_of_row w b 1 _ _ _ h, cell_of_row w b 2 _ _ _ h, by simp [World.frozen?, h], by simp [World.frozen?, h], by simp [World.frozen?, h]⟩
theorem vec_some (b off cap : Nat) (x0 x1 x2 : It) (A0 A1 A2 : Option Addr) (m0 m1 m2 c0 c1 c2 : Nat) (nn : Int) (ss : ByteArray) (w : World) (hb : b < w.heap.size) (h0 : Cel w b off x0 A0 m0 c0) (h1 : Cel w b (off + 4) x1 A1 m1 c1) (h2 : Cel w b (off + 8) x2 A2 m2 c2) :
    Calls Try.prog 85 #[.agg #[.int .i64 3, .int .i64 nn, .string ss, .slice (some ⟨b, off, none⟩) 3 cap]] w (OrP (knd x0 == 1 && (knd x1 == 1 && knd x2 == 1)) (.agg #[.int .i64 (num x0), .int .i64 (num x1), .int .i64 (num x2)]) w) := by
  have H0 := Lib.hid h0
  have H1 := Lib.hid h1
  have H2 := Lib.hid h2
  have HB := Lib.hid hb
  obtain ⟨W, hW⟩ : ∃ W, W = (((w.alloc (.cells #[.int .i64 3, .int .i64 nn, .string ss, .slice (some ⟨b, off, none⟩) 3 cap] 56)).alloc (.cells #[.int .i64 0, .int .i64 0, .int .i64 0] 39)).alloc (.cells #[.int .i64 0, .int .i64 0, .int .i64 0] 39)) := ⟨_, rfl⟩
  have hV : VSt w W 0 0 0 := by
    rw [hW]
    refine ⟨(Below.heap_alloc _ _ _ (by simp)).trans ?_, ?_, (((Below.refl _ _).alloc (Nat.le_refl _) _).alloc (by simp) _).alloc (by simp; omega) _, by simp⟩
    · rw [show w.heap.size + 1 = (w.alloc (.cells #[.int .i64 3, .int .i64 nn, .string ss, .slice (some ⟨b, off, none⟩) 3 cap] 56)).heap.size from by simp]; exact heap_alloc_new _ _
    · rw [show w.heap.size + 1 + 1 = ((w.alloc (.cells #[.int .i64 3, .int .i64 nn, .string ss, .slice (some ⟨b, off, none⟩) 3 cap] 56)).alloc (.cells #[.int .i64 0, .int .i64 0, .int .i64 0] 39)).heap.size from by simp]; exact heap_alloc_new _ _
  have HV := Lib.hid hV
  have HW := Lib.hid hW
  clear h0 h1 h2 hb hV hW
  go_enter Try.func85, Try.ntmps85
  go_wp2_with (go_at_call 81; rw [← HW.out]; (with_reducible refine (els3 _ _ _ _ _).mono ?_); rintro e w1 ⟨rfl, hb1⟩; have V1 := Lib.hid (HV.out.on hb1); clear hb1)
  refine wp_loop_rounds 4 ?_
  refine rounds_forget (fun W => VSt w W 0 0 0) V1.out ?_
  intro W0 S0
  rw [rounds_succ]
  obtain ⟨g0, g1, g2, g3⟩ := H0.out.keep (S0.bl.block b HB.out)
  have T0 := Lib.hid S0
  clear S0
  by_cases q0 : knd x0 = 1
  case neg =>
    go_wp2_with (go_at_call 86; (with_reducible refine (number_no _ _ q0 _ _ _ _ _).mono ?_); rintro e w2 ⟨rfl, hb2⟩)
    exact ⟨rfl, orNo (by simp [q0]) (T0.out.bl.trans (((Below.refl _ _).alloc (Nat.le_refl _) _ |>.trans (hb2.mono (by simp))).mono T0.out.bl.size))⟩
  rw [q0] at g0
  go_wp2_with (go_at_call 86; (with_reducible refine (number_yes _ _ _ _ _ _).mono ?_); rintro e w2 ⟨rfl, hb2⟩; have U0 := T0.out.on (((Below.refl _ _).alloc (Nat.le_refl _) _).trans (hb2.mono (by simp))); obtain ⟨y0, y1, y2, z0, z1, z2⟩ := row3 U0.r2; have U0 := Lib.hid U0; clear hb2)
  have V2 : Hid (VSt w (w2.setCell ⟨w.heap.size + 1 + 1, 0, none⟩ (.int .i64 (num x0))) (num x0) 0 0) := Lib.hid (U0.out.set 0 _ rfl)
  clear y0 y1 y2 z0 z1 z2 g0 g1 g2 g3
  refine rounds_forget (fun W => VSt w W (num x0) 0 0) V2.out ?_
  intro W1 S1
  rw [rounds_succ]
  obtain ⟨g0, g1, g2, g3⟩ := H1.out.keep (S1.bl.block b HB.out)
  have T1 := Lib.hid S1
  clear S1
  by_cases q1 : knd x1 = 1
  case neg =>
    go_wp2_with (go_at_call 86; (with_reducible refine (number_no _ _ q1 _ _ _ _ _).mono ?_); rintro e w2 ⟨rfl, hb2⟩)
    exact ⟨rfl, orNo (by simp [q1]) (T1.out.bl.trans (((Below.refl _ _).alloc (Nat.le_refl _) _ |>.trans (hb2.mono (by simp))).mono T1.out.bl.size))⟩
  rw [q1] at g0
  go_wp2_with (go_at_call 86; (with_reducible refine (number_yes _ _ _ _ _ _).mono ?_); rintro e w2 ⟨rfl, hb2⟩; have U1 := T1.out.on (((Below.refl _ _).alloc (Nat.le_refl _) _).trans (hb2.mono (by simp))); obtain ⟨y0, y1, y2, z0, z1, z2⟩ := row3 U1.r2; have U1 := Lib.hid U1; clear hb2)
  have V3 : Hid (VSt w (w2.setCell ⟨w.heap.size + 1 + 1, 1, none⟩ (.int .i64 (num x1))) (num x0) (num x1) 0) := Lib.hid (U1.out.set 1 _ rfl)
  clear y0 y1 y2 z0 z1 z2 g0 g1 g2 g3
  refine rounds_forget (fun W => VSt w W (num x0) (num x1) 0) V3.out ?_
  intro W2 S2
  rw [rounds_succ]
  obtain ⟨g0, g1, g2, g3⟩ := H2.out.keep (S2.bl.block b HB.out)
  have T2 := Lib.hid S2
  clear S2
  by_cases q2 : knd x2 = 1
  case neg =>
    go_wp2_with (go_at_call 86; (with_reducible refine (number_no _ _ q2 _ _ _ _ _).mono ?_); rintro e w2 ⟨rfl, hb2⟩)
    exact ⟨rfl, orNo (by simp [q2]) (T2.out.bl.trans (((Below.refl _ _).alloc (Nat.le_refl _) _ |>.trans (hb2.mono (by simp))).mono T2.out.bl.size))⟩
  rw [q2] at g0
  go_wp2_with (go_at_call 86; (with_reducible refine (number_yes _ _ _ _ _ _).mono ?_); rintro e w2 ⟨rfl, hb2⟩; have U2 := T2.out.on (((Below.refl _ _).alloc (Nat.le_refl _) _).trans (hb2.mono (by simp))); obtain ⟨y0, y1, y2, z0, z1, z2⟩ := row3 U2.r2; have U2 := Lib.hid U2; clear hb2)
  have V4 : Hid (VSt w (w2.setCell ⟨w.heap.size + 1 + 1, 2, none⟩ (.int .i64 (num x2))) (num x0) (num x1) (num x2)) := Lib.hid (U2.out.set 2 _ rfl)
  clear y0 y1 y2 z0 z1 z2 g0 g1 g2 g3
  refine rounds_forget (fun W => VSt w W (num x0) (num x1) (num x2)) V4.out ?_
  intro W3 S3
  rw [rounds_succ]
  obtain ⟨y0, y1, y2, z0, z1, z2⟩ := row3 S3.r2
  obtain ⟨a0, a1, a2, b0, b1, b2⟩ := row3 S3.r1
  have R1 := S3.r1
  have hbl := Lib.hid S3.bl
  have T3 := Lib.hid R1
  clear S3 R1
  go_wp2_with fail
  have F := heap_set _ (w.heap.size + 1) 2 (.int .i64 (num x2)) _ _ (heap_set _ (w.heap.size + 1) 1 (.int .i64 (num x1)) _ _ (heap_set W3 (w.heap.size + 1) 0 (.int .i64 (num x0)) _ _ T3.out))
  have BF : Below w.heap.size w (((W3.setCell ⟨w.heap.size + 1, 0, none⟩ (.int .i64 (num x0))).setCell ⟨w.heap.size + 1, 1, none⟩ (.int .i64 (num x1))).setCell ⟨w.heap.size + 1, 2, none⟩ (.int .i64 (num x2))) :=
    (((hbl.out.setCell (p := ⟨w.heap.size + 1, 0, none⟩) (by simp) _).setCell (p := ⟨w.heap.size + 1, 1, none⟩) (by simp) _).setCell (p := ⟨w.heap.size + 1, 2, none⟩) (by simp) _)
  generalize ((W3.setCell ⟨w.heap.size + 1, 0, none⟩ (.int .i64 (num x0))).setCell ⟨w.heap.size + 1, 1, none⟩ (.int .i64 (num x1))).setCell ⟨w.heap.size + 1, 2, none⟩ (.int .i64 (num x2)) = V at *
  have e0 := cell_of_row V _ 0 _ _ _ F
  have e1 := cell_of_row V _ 1 _ _ _ F
  have e2 := cell_of_row V _ 2 _ _ _ F
  simp only [List.setIfInBounds_toArray, List.set_cons_zero, List.set_cons_succ, List.getElem?_toArray, List.getElem?_cons_zero, List.getElem?_cons_succ] at e0 e1 e2
  refine bodyPost_ret (v := .agg #[.int .i64 (num x0), .int .i64 (num x1), .int .i64 (num x2)]) (by simp [results, Try.results85, go_sem, e0, e1, e2]) rfl (orYes (by simp [q0, q1, q2]) BF)
/-- a list of three numbers -/
def isV (t : It) : Bool := knd t == 3 && (match els t with | [x, y, z] => knd x == 1 && (knd y == 1 && knd z == 1) | _ => false)
def vA (t : It) : Int := match els t with | [x, _, _] => num x | _ => 0
def vB3 (t : It) : Int := match els t with | [_, y, _] => num y | _ => 0
def vC (t : It) : Int := match els t with | [_, _, z] => num z | _ => 0
theorem vec_none (k nn : Int) (ss : ByteArray) (A : Option Addr) (m cap : Nat) (hk : k ≠ 3 ∨ (m : Int) ≠ 3) (w : World) : Calls Try.prog 85 #[.agg #[.int .i64 k, .int .i64 nn, .string ss, .slice A m cap]] w fun e w' => e = .panicked CP ∧ Below w.heap.size w w' := by
  have hB := (((Below.refl w.heap.size w).alloc (Nat.le_refl _) (.cells #[.int .i64 k, .int .i64 nn, .string ss, .slice A m cap] 56)).alloc (by simp) (.cells #[.int .i64 0, .int .i64 0, .int .i64 0] 39)).alloc (by simp; omega) (.cells #[.int .i64 0, .int .i64 0, .int .i64 0] 39)
  have HB := Lib.hid hB
  clear hB
  go_enter Try.func85, Try.ntmps85
  go_wp2_with (go_at_call 81; (with_reducible refine (els_no k nn 3 ss A m cap hk _).mono ?_); rintro e w1 ⟨rfl, hb1⟩)
  exact ⟨rfl, rfl, HB.out.trans (hb1.mono HB.out.size)⟩
theorem vecOf_any (t : It) (A : Option Addr) (c : Nat) (w : World) (hv : IsIt w (· < w.heap.size) t (.agg #[.int .i64 (knd t), .int .i64 (num t), .string (tx t), .slice A (els t).length c])) :
    Calls Try.prog 85 #[.agg #[.int .i64 (knd t), .int .i64 (num t), .string (tx t), .slice A (els t).length c]] w (OrP (isV t) (.agg #[.int .i64 (vA t), .int .i64 (vB3 t), .int .i64 (vC t)]) w) := by
  obtain ⟨k, n, s, l⟩ := t
  rw [IsIt] at hv
  obtain ⟨A', c', he, _, _, _, _, hal⟩ := hv
  simp only [Value.agg.injEq, Array.mk.injEq, List.cons.injEq, and_true, Value.slice.injEq, knd, num, tx, els] at he
  obtain ⟨_, _, _, rfl, _, rfl⟩ := he
  by_cases h3 : k = 3 ∧ l.length = 3
  · obtain ⟨rfl, hl⟩ := h3
    match l, hl with
    | [x, y, z], _ =>
      obtain ⟨b, off, A0, c0, rfl, hb, C0, _⟩ := cel_of hal (k := 0) rfl
      obtain ⟨b1, off1, A1, c1, e1, _, C1, _⟩ := cel_of hal (k := 1) rfl
      obtain ⟨b2, off2, A2, c2, e2, _, C2, _⟩ := cel_of hal (k := 2) rfl
      simp only [Option.some.injEq, Addr.mk.injEq, and_true] at e1 e2
      obtain ⟨rfl, rfl⟩ := e1
      obtain ⟨rfl, rfl⟩ := e2
      exact vec_some b off c x y z A0 A1 A2 _ _ _ c0 c1 c2 n s w hb (by simpa using C0) C1 C2
  · have hk : k ≠ 3 ∨ (l.length : Int) ≠ 3 := by
      by_cases e : k = 3
      · right; intro h; exact h3 ⟨e, by omega⟩
      · exact .inl e
    refine (vec_none k n s A l.length c hk w).mono ?_
    rintro e w' ⟨rfl, hb⟩
    refine orNo ?_ hb
    unfold isV
    simp only [knd, els]
    rcases hk with hk | hk
    · simp [hk]
    · split
      · simp at hk
      · simp
end Go.Proofs.Ytebacdegjmcnlaa
