/- Texts put together. -/
import Derived.Test.YtebacdegjmcnlaaGreatMl
import Derived.Laws.IdiomStrings
namespace Go.Proofs.YtebacdegjmcnlaaGreat
open Go.RowKit Pl
set_option linter.unusedVariables false
set_option maxRecDepth 20000
def CP : List PanicEntry := [{ v := .iface 26 (.int .i64 4), recovered := false }]
/-- v, or the panic of a reader -/
def OrP (b : Bool) (v : Value) (w : World) (e : Ending) (w' : World) : Prop := (e = if b then .returned v else .panicked CP) ∧ Below w.heap.size w w'
theorem orYes {b : Bool} {v : Value} {w w' : World} (h : b = true) (hb : Below w.heap.size w w') : OrP b v w (.returned v) w' := ⟨by rw [h]; rfl, hb⟩
theorem orNo {b : Bool} {v : Value} {w w' : World} (h : b = false) (hb : Below w.heap.size w w') : OrP b v w (.panicked CP) w' := ⟨by rw [h]; rfl, hb⟩
theorem must_yes (w : World) : Calls Tryz.prog 94 #[.bool true] w fun e w' => e = .returned (.tuple #[]) ∧ w = w' := by
  go_enter Tryz.func94, Tryz.ntmps94
  go_wp2_with fail
  go_end0
  exact ⟨rfl, rfl⟩
theorem must_no (w : World) : Calls Tryz.prog 94 #[.bool false] w fun e w' => e = .panicked CP ∧ w = w' := by
  go_enter Tryz.func94, Tryz.ntmps94
  go_wp2_with fail
  exact ⟨rfl, rfl, rfl⟩
theorem number_yes (n : Int) (s : ByteArray) (A : Option Addr) (m c : Nat) (w : World) : Calls Tryz.prog 93 #[.agg #[.int .i64 1, .int .i64 n, .string s, .slice A m c]] w fun e w' => e = .returned (.int .i64 n) ∧ Below w.heap.size w w' := by
  go_enter Tryz.func93, Tryz.ntmps93
  go_wp2_with (go_at_call 94; (with_reducible refine (must_yes _).mono ?_); rintro e w1 ⟨rfl, rfl⟩)
  go_ret
  exact ⟨rfl, (Below.refl _ _).alloc (Nat.le_refl _) _⟩
theorem number_no (k n : Int) (hk : k ≠ 1) (s : ByteArray) (A : Option Addr) (m c : Nat) (w : World) : Calls Tryz.prog 93 #[.agg #[.int .i64 k, .int .i64 n, .string s, .slice A m c]] w fun e w' => e = .panicked CP ∧ Below w.heap.size w w' := by
  have g1 : (k == 1) = false := by simpa using hk
  go_enter Tryz.func93, Tryz.ntmps93
  go_wp2_with (go_at_call 94; (with_reducible refine (must_no _).mono ?_); rintro e w1 ⟨rfl, rfl⟩)
  exact ⟨rfl, rfl, (Below.refl _ _).alloc (Nat.le_refl _) _⟩
theorem int_yes (n : Int) (s : ByteArray) (A : Option Addr) (m c : Nat) (w : World) : Calls Tryz.prog 90 #[.agg #[.int .i64 1, .int .i64 n, .string s, .slice A m c]] w fun e w' => e = .returned (.int .i64 n) ∧ Below w.heap.size w w' := by
  have gn : (n == n) = true := by simp
  go_enter Tryz.func90, Tryz.ntmps90
  go_wp2_with (first
    | (go_at_call 94; (with_reducible refine (must_yes _).mono ?_); rintro e w1 ⟨rfl, rfl⟩)
    | (go_at_call 93; (with_reducible refine (number_yes _ _ _ _ _ _).mono ?_); rintro e w1 ⟨rfl, hb1⟩; have B1 := Lib.hid hb1; clear hb1))
  go_ret
  exact ⟨rfl, ((Below.refl _ _).alloc (Nat.le_refl _) _).trans (B1.out.mono (by simp))⟩
theorem int_no (k n : Int) (hk : k ≠ 1) (s : ByteArray) (A : Option Addr) (m c : Nat) (w : World) : Calls Tryz.prog 90 #[.agg #[.int .i64 k, .int .i64 n, .string s, .slice A m c]] w fun e w' => e = .panicked CP ∧ Below w.heap.size w w' := by
  go_enter Tryz.func90, Tryz.ntmps90
  go_wp2_with (go_at_call 93; (with_reducible refine (number_no _ _ hk _ _ _ _ _).mono ?_); rintro e w1 ⟨rfl, hb1⟩)
  exact ⟨rfl, rfl, ((Below.refl _ _).alloc (Nat.le_refl _) _).trans (hb1.mono (by simp))⟩
theorem textOf_yes (n : Int) (s : ByteArray) (A : Option Addr) (m c : Nat) (w : World) : Calls Tryz.prog 91 #[.agg #[.int .i64 2, .int .i64 n, .string s, .slice A m c]] w fun e w' => e = .returned (.string s) ∧ Below w.heap.size w w' := by
  go_enter Tryz.func91, Tryz.ntmps91
  go_wp2_with (go_at_call 94; (with_reducible refine (must_yes _).mono ?_); rintro e w1 ⟨rfl, rfl⟩)
  go_ret
  exact ⟨rfl, (Below.refl _ _).alloc (Nat.le_refl _) _⟩
theorem textOf_no (k n : Int) (hk : k ≠ 2) (s : ByteArray) (A : Option Addr) (m c : Nat) (w : World) : Calls Tryz.prog 91 #[.agg #[.int .i64 k, .int .i64 n, .string s, .slice A m c]] w fun e w' => e = .panicked CP ∧ Below w.heap.size w w' := by
  have g1 : (k == 2) = false := by simpa using hk
  go_enter Tryz.func91, Tryz.ntmps91
  go_wp2_with (go_at_call 94; (with_reducible refine (must_no _).mono ?_); rintro e w1 ⟨rfl, rfl⟩)
  exact ⟨rfl, rfl, (Below.refl _ _).alloc (Nat.le_refl _) _⟩
theorem els_yes (n : Int) (s : ByteArray) (A : Option Addr) (m c : Nat) (w : World) : Calls Tryz.prog 88 #[.agg #[.int .i64 3, .int .i64 n, .string s, .slice A m c], .int .i64 m] w fun e w' => e = .returned (.slice A m c) ∧ Below w.heap.size w w' := by
  go_enter Tryz.func88, Tryz.ntmps88
  go_wp2_with (go_at_call 94; (with_reducible refine (must_yes _).mono ?_); rintro e w1 ⟨rfl, rfl⟩)
  go_ret
  exact ⟨rfl, (Below.refl _ _).alloc (Nat.le_refl _) _⟩
theorem els_no (k n : Int) (q : Int) (s : ByteArray) (A : Option Addr) (m c : Nat) (hk : k ≠ 3 ∨ (m : Int) ≠ q) (w : World) : Calls Tryz.prog 88 #[.agg #[.int .i64 k, .int .i64 n, .string s, .slice A m c], .int .i64 q] w fun e w' => e = .panicked CP ∧ Below w.heap.size w w' := by
  by_cases h3 : k = 3
  · subst h3
    have hm : (m : Int) ≠ q := by simpa using hk
    have g2 : ((m : Int) == q) = false := by simpa using hm
    go_enter Tryz.func88, Tryz.ntmps88
    go_wp2_with (go_at_call 94; (with_reducible refine (must_no _).mono ?_); rintro e w1 ⟨rfl, rfl⟩)
    exact ⟨rfl, rfl, (Below.refl _ _).alloc (Nat.le_refl _) _⟩
  · have g1 : (k == 3) = false := by simpa using h3
    go_enter Tryz.func88, Tryz.ntmps88
    go_wp2_with (go_at_call 94; (with_reducible refine (must_no _).mono ?_); rintro e w1 ⟨rfl, rfl⟩)
    exact ⟨rfl, rfl, (Below.refl _ _).alloc (Nat.le_refl _) _⟩
end Go.Proofs.YtebacdegjmcnlaaGreat
namespace Go.Proofs.YtebacdegjmcnlaaGreat
open Go.RowKit Pl
set_option linter.unusedVariables false
set_option maxRecDepth 20000
/-- a row of bytes of the call's own, as the text's bytes were laid there -/
def RowAt (w : World) (g : Nat) (l : List UInt8) : Prop := ∃ cs fz, w.heap[g]? = some (.cells cs 5 (fz, fz + 1)) ∧ l.length ≤ fz ∧ fz ≤ cs.size ∧ ∀ j, j < l.length → cs[j]? = (vB l)[j]?
theorem vB_at {l : List UInt8} {j : Nat} {x : UInt8} (h : l[j]? = some x) : (vB l)[j]? = some (.int .u8 (x.toNat : Int)) := by simp [vB, h]
theorem RowAt.cell {w : World} {g : Nat} {l : List UInt8} (h : RowAt w g l) {j : Nat} {x : UInt8} (hx : l[j]? = some x) : w.cell? ⟨g, j, none⟩ = some (.int .u8 (x.toNat : Int)) ∧ w.frozen? ⟨g, j, none⟩ = false := by
  obtain ⟨cs, fz, hb, hl, hz, hc⟩ := h
  have hj : j < l.length := (List.getElem?_eq_some_iff.1 hx).1
  refine ⟨by rw [Lib.cell_of_heap hb, hc j hj, vB_at hx], ?_⟩
  unfold World.frozen?
  rw [hb]
  simp
  omega
theorem RowAt.set {w : World} {g : Nat} {l : List UInt8} (h : RowAt w g l) {j : Nat} (hj : j < l.length) (y : UInt8) : RowAt (w.setCell ⟨g, j, none⟩ (.int .u8 (y.toNat : Int))) g (l.set j y) := by
  obtain ⟨cs, fz, hb, hl, hz, hc⟩ := h
  refine ⟨cs.setIfInBounds j (.int .u8 (y.toNat : Int)), fz, by simp [World.setCell, Array.getElem?_modify, hb], by simpa using hl, by simpa using hz, fun k hk => ?_⟩
  rw [List.length_set] at hk
  rw [Array.getElem?_setIfInBounds]
  by_cases e : j = k
  · subst e
    rw [if_pos rfl, if_pos (by omega)]
    symm
    apply vB_at
    rw [List.getElem?_set_self hk]
  · rw [if_neg e, hc k hk]
    simp [vB, List.getElem?_set_ne e]
theorem RowAt.keep {w w' : World} {g : Nat} {l : List UInt8} (h : RowAt w g l) (hb : w'.heap[g]? = w.heap[g]?) : RowAt w' g l := by
  obtain ⟨cs, fz, h1, h2⟩ := h
  exact ⟨cs, fz, hb.trans h1, h2⟩
theorem RowAt.lt {w : World} {g : Nat} {l : List UInt8} (h : RowAt w g l) : g < w.heap.size := by
  obtain ⟨cs, fz, h1, h2⟩ := h
  exact (Array.getElem?_eq_some_iff.1 h1).1
theorem RowAt.new (w : World) (l : List UInt8) (cap : Nat) : RowAt (w.drew.alloc (.cells (bytesRow (Nm.str l) cap) 5 ((bytesRow (Nm.str l) cap).size, (bytesRow (Nm.str l) cap).size + 1))) w.heap.size l := by
  refine ⟨_, _, heap_alloc_new w.drew _, by simp [bytesRow, Nm.str], Nat.le_refl _, fun j hj => ?_⟩
  have h1 : j < (Nm.str l).data.size := by simp [Nm.str]; exact hj
  rw [bytesRow_at _ _ j h1]
  symm
  apply vB_at
  simp [Nm.str, hj]
theorem RowAt.text {w : World} {g : Nat} {l : List UInt8} (h : RowAt w g l) (n cap : Nat) (hn : n = l.length) : (convert 58 9 (.slice (some ⟨g, 0, none⟩) n cap)).run Tryz.prog w = .ok (.string (Nm.str l)) w := by
  subst hn
  refine run_convert_bytes_back w 58 9 5 ⟨g, 0, none⟩ cap l Tryz.underlying58 Tryz.underlying5 Tryz.underlying9 fun j hj => ?_
  have := (h.cell (List.getElem?_eq_getElem hj)).1
  unfold Addr.add
  split
  · subst j; exact this
  · simpa using this
theorem RowAt.bytes {w : World} {g B : Nat} {l : List UInt8} (h : RowAt w g l) (hB : g < B) : BytesAt w B (some ⟨g, 0, none⟩) l := fun _ => ⟨g, 0, rfl, hB, fun j u hu => by rw [Nat.zero_add]; exact (h.cell hu).1⟩
/-- the item whose bytes these are, or the panic -/
def ItemP (l : List UInt8) (w : World) (e : Ending) (w' : World) : Prop :=
  Below w.heap.size w w' ∧ (∀ t, dec l = some t → ∃ v, e = .returned v ∧ IsIt w' (NewB w w') t v) ∧ (dec l = none → e = .panicked CP)
theorem itemOf_any (l : List UInt8) (w : World) (hs : l.length ≤ 281474976710656) : Calls Tryz.prog 89 #[.string (Nm.str l)] w (ItemP l w) := by
  have hsz : (Nm.str l).size = l.length := Nm.str_size l
  have hcv : ∀ W : World, (convert 9 58 (.string (Nm.str l))).run Tryz.prog W = .ok (.slice (some ⟨W.heap.size, 0, none⟩) l.length (grownCap W (Nm.str l).size 0 5)) (W.drew.alloc (.cells (bytesRow (Nm.str l) (grownCap W (Nm.str l).size 0 5)) 5 ((bytesRow (Nm.str l) (grownCap W (Nm.str l).size 0 5)).size, (bytesRow (Nm.str l) (grownCap W (Nm.str l).size 0 5)).size + 1))) := fun W => by
    have := run_bytes_of_string (P := Tryz.prog) W 9 58 5 (Nm.str l) Tryz.underlying9 Tryz.underlying58 Tryz.underlying5
    rw [hsz] at this
    rw [hsz]
    exact this
  obtain ⟨C, hC⟩ : ∃ C, C = grownCap (w.alloc (.cells zeroItem 50)) (Nm.str l).size 0 5 := ⟨_, rfl⟩
  have h7 := hcv (w.alloc (.cells zeroItem 50))
  rw [← hC] at h7
  have hg := RowAt.new (w.alloc (.cells zeroItem 50)) l C
  have hCge : l.length ≤ C := by rw [hC, ← hsz]; exact grownCap_ge _ _ _ _
  have hCle : C ≤ 9223372036854775807 := by have := grownCap_le_maxLen (w.alloc (.cells zeroItem 50)) (Nm.str l).size 0 5 (by rw [hsz]; simp only [maxLen]; omega); rw [hC]; simpa [maxLen] using this
  obtain ⟨W, hW⟩ : ∃ W, W = (w.alloc (.cells zeroItem 50)).drew.alloc (.cells (bytesRow (Nm.str l) C) 5 ((bytesRow (Nm.str l) C).size, (bytesRow (Nm.str l) C).size + 1)) := ⟨_, rfl⟩
  rw [← hW] at h7 hg
  have hB0 : Below w.heap.size w (w.alloc (.cells zeroItem 50)) := (Below.refl _ _).alloc (Nat.le_refl _) _
  have hB : Below w.heap.size w W := by rw [hW]; exact hB0.drew.alloc (by simp) _
  have hR : W.heap[w.heap.size]? = some (.cells zeroItem 50 (0, 0)) := by rw [hW]; exact (Below.heap_alloc _ _ _ (by simp)).trans (heap_alloc_new w _)
  have hsW : W.heap.size = w.heap.size + 2 := by rw [hW]; simp
  have h0s : (w.alloc (.cells zeroItem 50)).heap.size = w.heap.size + 1 := by simp
  rw [h0s] at h7 hg
  have HG := Lib.hid hg
  have HB := Lib.hid hB
  have HR := Lib.hid hR
  have HS := Lib.hid hsW
  have HL := Lib.hid hCge
  have HM := Lib.hid hCle
  clear hcv hC hg hCge hCle hW hB0 hB hR hsW h0s
  unfold zeroItem at h7
  generalize hn : l.length = n at *
  have HN := Lib.hid hn
  clear hn hs hsz
  cases hd : dec l with
  | none =>
    go_enter Tryz.func89, Tryz.ntmps89
    go_wp2_with (first
      | (go_at_call 60; (with_reducible refine (decode_any l _ n C W (HG.out.bytes (by have := HS.out; omega)) HN.out HL.out HM.out).mono ?_); rintro e w1 ⟨hb1, _, hno⟩; obtain rfl := hno hd; have B1 := Lib.hid hb1; clear hb1 hno; unfold zeroItem)
      | (go_at_call 94; (with_reducible refine (must_no _).mono ?_); rintro e w2 ⟨rfl, rfl⟩))
    refine ⟨rfl, ?_, fun t ht => (by rw [hd] at ht; cases ht), fun _ => rfl⟩
    have := HS.out
    have h1 := B1.out.size
    exact HB.out.trans ((B1.out.alloc h1 _).mono (by omega))
  | some t =>
    go_enter Tryz.func89, Tryz.ntmps89
    go_wp2_with (first
      | (go_at_call 60; (with_reducible refine (decode_any l _ n C W (HG.out.bytes (by have := HS.out; omega)) HN.out HL.out HM.out).mono ?_); rintro e w1 ⟨hb1, hyes, _⟩; obtain ⟨v, rfl, hv⟩ := hyes t hd; obtain ⟨k, m, s, tl⟩ := t; rw [IsIt] at hv; obtain ⟨A, c, rfl, v1, v2, v3, v4, hal⟩ := hv; have B1 := Lib.hid hb1; have HV : Hid (IsIt w1 (NewB W w1) (.mk k m s tl) (.agg #[.int .i64 k, .int .i64 m, .string s, .slice A tl.length c])) := Lib.hid (by rw [IsIt]; exact ⟨A, c, rfl, v1, v2, v3, v4, hal⟩); have R1 := Lib.hid ((hb1.block w.heap.size (by have := HS.out; omega)).trans HR.out); clear hb1 hyes v1 v2 v3 v4 hal)
      | (go_at_call 94; (with_reducible refine (must_yes _).mono ?_); rintro e w2 ⟨rfl, rfl⟩; have hq := row4 (w := (w1.alloc (.cells #[.int .i64 k, .int .i64 m, .string s, .slice A tl.length c] 50))) (b := w.heap.size) (a0 := .int .i64 0) (a1 := .int .i64 0) (a2 := .string ⟨#[]⟩) (a3 := .slice none 0 0) (t := 50) ((Below.heap_alloc _ _ _ (Nat.lt_of_lt_of_le (by have := HS.out; omega) B1.out.size)).trans R1.out); obtain ⟨j0, j1, j2, j3, k0, k1, k2, k3⟩ := hq))
    have hs := HS.out
    have h1 := B1.out.size
    have RA : (w1.alloc (.cells #[.int .i64 k, .int .i64 m, .string s, .slice A tl.length c] 50)).heap[w.heap.size]? = some (.cells #[.int .i64 0, .int .i64 0, .string ⟨#[]⟩, .slice none 0 0] 50 (0, 0)) := (Below.heap_alloc _ _ _ (by omega)).trans R1.out
    have W4 := w4_row _ w.heap.size (.int .i64 k) (.int .i64 m) (.string s) (.slice A tl.length c) _ _ _ _ 50 RA
    have WF := w4_far (w1.alloc (.cells #[.int .i64 k, .int .i64 m, .string s, .slice A tl.length c] 50)) w.heap.size (.int .i64 k) (.int .i64 m) (.string s) (.slice A tl.length c)
    have WS := w4_size (w1.alloc (.cells #[.int .i64 k, .int .i64 m, .string s, .slice A tl.length c] 50)) w.heap.size (.int .i64 k) (.int .i64 m) (.string s) (.slice A tl.length c)
    have WB := w4_below (w1.alloc (.cells #[.int .i64 k, .int .i64 m, .string s, .slice A tl.length c] 50)) w.heap.size w.heap.size (.int .i64 k) (.int .i64 m) (.string s) (.slice A tl.length c) (Nat.le_refl _)
    change bodyPost Tryz.prog Tryz.f89 (ItemP l w) Exit.ret _ (w4 (w1.alloc (.cells #[.int .i64 k, .int .i64 m, .string s, .slice A tl.length c] 50)) w.heap.size (.int .i64 k) (.int .i64 m) (.string s) (.slice A tl.length c))
    generalize w4 (w1.alloc (.cells #[.int .i64 k, .int .i64 m, .string s, .slice A tl.length c] 50)) w.heap.size (.int .i64 k) (.int .i64 m) (.string s) (.slice A tl.length c) = V at *
    obtain ⟨m0, m1, m2, m3, _⟩ := row4 W4
    have hbV : Below w.heap.size w V := (HB.out.trans ((B1.out.alloc h1 _).mono (by omega))).trans WB
    rw [World.size_alloc] at WS
    refine bodyPost_ret (v := .agg #[.int .i64 k, .int .i64 m, .string s, .slice A tl.length c]) (by simp [results, Tryz.results89, go_sem, m0, m1, m2, m3]) rfl ⟨hbV, fun t ht => ?_, fun h => (by rw [hd] at h; cases h)⟩
    rw [hd] at ht
    obtain rfl := Option.some.inj ht
    refine ⟨_, rfl, IsIt.mono (fun q hq => ?_) _ (IsIt.keep (fun q hq => ?_) _ HV.out)⟩
    · have a1 := hq.1
      have a2 := hq.2
      exact ⟨by omega, by omega⟩
    · have a1 := hq.1
      have a2 := hq.2
      exact (WF q (by omega)).trans (Below.heap_alloc _ _ q a2)
end Go.Proofs.YtebacdegjmcnlaaGreat
namespace Go.Proofs.YtebacdegjmcnlaaGreat
open Go.RowKit Pl
set_option linter.unusedVariables false
set_option maxRecDepth 20000
def knd : It → Int | .mk k _ _ _ => k
def num : It → Int | .mk _ n _ _ => n
def tx : It → ByteArray | .mk _ _ s _ => s
def els : It → List It | .mk _ _ _ l => l
/-- the four cells of an item -/
structure Cel (w : World) (b p : Nat) (x : It) (A : Option Addr) (m c : Nat) : Prop where
  c0 : w.cell? ⟨b, p, none⟩ = some (.int .i64 (knd x))
  c1 : w.cell? ⟨b, p + 1, none⟩ = some (.int .i64 (num x))
  c2 : w.cell? ⟨b, p + 2, none⟩ = some (.string (tx x))
  c3 : w.cell? ⟨b, p + 3, none⟩ = some (.slice A m c)
theorem Cel.keep {w w' : World} {b p : Nat} {x : It} {A : Option Addr} {m c : Nat} (h : Cel w b p x A m c) (hk : w'.heap[b]? = w.heap[b]?) : Cel w' b p x A m c :=
  ⟨(World.cell?_of_block (w := w) hk).trans h.c0, (World.cell?_of_block (w := w) hk).trans h.c1, (World.cell?_of_block (w := w) hk).trans h.c2, (World.cell?_of_block (w := w) hk).trans h.c3⟩
theorem cel_of {w : World} {S : Nat → Prop} {l : List It} {a : Option Addr} (h : AreIts w S l a 0) {k : Nat} {x : It} (hx : l[k]? = some x) :
    ∃ b off A c, a = some ⟨b, off, none⟩ ∧ S b ∧ Cel w b (off + k * 4) x A (els x).length c ∧ IsIt w S x (.agg #[.int .i64 (knd x), .int .i64 (num x), .string (tx x), .slice A (els x).length c]) := by
  obtain ⟨b, off, u0, u1, u2, u3, rfl, hS, k0, k1, k2, k3, hit⟩ := h.at_ hx
  obtain ⟨kk, n, s, tl⟩ := x
  have hit2 := hit
  rw [IsIt] at hit
  obtain ⟨A, c, he, _⟩ := hit
  simp only [Value.agg.injEq, Array.mk.injEq, List.cons.injEq, and_true] at he
  obtain ⟨rfl, rfl, rfl, rfl⟩ := he
  rw [Nat.zero_add] at k0 k1 k2 k3
  exact ⟨b, off, A, c, rfl, hS, ⟨k0, k1, k2, k3⟩, hit2⟩
theorem els3 (n : Int) (s : ByteArray) (A : Option Addr) (c : Nat) (w : World) : Calls Tryz.prog 88 #[.agg #[.int .i64 3, .int .i64 n, .string s, .slice A 3 c], .int .i64 3] w fun e w' => e = .returned (.slice A 3 c) ∧ Below w.heap.size w w' := els_yes n s A 3 c w
theorem els5 (n : Int) (s : ByteArray) (A : Option Addr) (c : Nat) (w : World) : Calls Tryz.prog 88 #[.agg #[.int .i64 3, .int .i64 n, .string s, .slice A 5 c], .int .i64 5] w fun e w' => e = .returned (.slice A 5 c) ∧ Below w.heap.size w w' := els_yes n s A 5 c w
theorem els4 (n : Int) (s : ByteArray) (A : Option Addr) (c : Nat) (w : World) : Calls Tryz.prog 88 #[.agg #[.int .i64 3, .int .i64 n, .string s, .slice A 4 c], .int .i64 4] w fun e w' => e = .returned (.slice A 4 c) ∧ Below w.heap.size w w' := els_yes n s A 4 c w
/-- the vec's boxes -/
structure VSt (w W : World) (a b c : Int) : Prop where
  r1 : W.heap[w.heap.size + 1]? = some (.cells #[.int .i64 0, .int .i64 0, .int .i64 0] 30 (0, 0))
  r2 : W.heap[w.heap.size + 1 + 1]? = some (.cells #[.int .i64 a, .int .i64 b, .int .i64 c] 30 (0, 0))
  bl : Below w.heap.size w W
  sz : w.heap.size + 3 ≤ W.heap.size
theorem VSt.on {w W W' : World} {a b c : Int} (h : VSt w W a b c) (hb : Below W.heap.size W W') : VSt w W' a b c :=
  ⟨(hb.block _ (by have := h.sz; omega)).trans h.r1, (hb.block _ (by have := h.sz; omega)).trans h.r2, h.bl.trans (hb.mono h.bl.size), Nat.le_trans h.sz hb.size⟩
theorem VSt.set {w W : World} {a b c a' b' c' : Int} (h : VSt w W a b c) (k : Nat) (v : Value) (hk : (#[.int .i64 a, .int .i64 b, .int .i64 c] : Array Value).setIfInBounds k v = #[.int .i64 a', .int .i64 b', .int .i64 c']) : VSt w (W.setCell ⟨w.heap.size + 1 + 1, k, none⟩ v) a' b' c' :=
  ⟨(Below.heap_setCell _ _ _ _ (by simp)).trans h.r1, by rw [← hk]; exact heap_set _ _ _ _ _ _ h.r2, h.bl.setCell (p := ⟨w.heap.size + 1 + 1, k, none⟩) (by simp; omega) _, by have := h.sz; simpa [World.setCell] using this⟩
theorem row3 {w : World} {b : Nat} {a0 a1 a2 : Value} {t : TypeId} (h : w.heap[b]? = some (.cells #[a0, a1, a2] t (0, 0))) :
    w.cell? ⟨b, 0, none⟩ = some a0 ∧ w.cell? ⟨b, 1, none⟩ = some a1 ∧ w.cell? ⟨b, 2, none⟩ = some a2 ∧ w.frozen? ⟨b, 0, none⟩ = false ∧ w.frozen? ⟨b, 1, none⟩ = false ∧ w.frozen? ⟨b, 2, none⟩ = false :=
  ⟨cell_of_row w b 0 _ _ _ h, cell_of_row w b 1 _ _ _ h, cell_of_row w b 2 _ _ _ h, by simp [World.frozen?, h], by simp [World.frozen?, h], by simp [World.frozen?, h]⟩
theorem vec_some (b off cap : Nat) (x0 x1 x2 : It) (A0 A1 A2 : Option Addr) (m0 m1 m2 c0 c1 c2 : Nat) (nn : Int) (ss : ByteArray) (w : World) (hb : b < w.heap.size) (h0 : Cel w b off x0 A0 m0 c0) (h1 : Cel w b (off + 4) x1 A1 m1 c1) (h2 : Cel w b (off + 8) x2 A2 m2 c2) :
    Calls Tryz.prog 92 #[.agg #[.int .i64 3, .int .i64 nn, .string ss, .slice (some ⟨b, off, none⟩) 3 cap]] w (OrP (knd x0 == 1 && (knd x1 == 1 && knd x2 == 1)) (.agg #[.int .i64 (num x0), .int .i64 (num x1), .int .i64 (num x2)]) w) := by
  have H0 := Lib.hid h0
  have H1 := Lib.hid h1
  have H2 := Lib.hid h2
  have HB := Lib.hid hb
  obtain ⟨W, hW⟩ : ∃ W, W = (((w.alloc (.cells #[.int .i64 3, .int .i64 nn, .string ss, .slice (some ⟨b, off, none⟩) 3 cap] 50)).alloc (.cells #[.int .i64 0, .int .i64 0, .int .i64 0] 30)).alloc (.cells #[.int .i64 0, .int .i64 0, .int .i64 0] 30)) := ⟨_, rfl⟩
  have hV : VSt w W 0 0 0 := by
    rw [hW]
    refine ⟨(Below.heap_alloc _ _ _ (by simp)).trans ?_, ?_, (((Below.refl _ _).alloc (Nat.le_refl _) _).alloc (by simp) _).alloc (by simp; omega) _, by simp⟩
    · rw [show w.heap.size + 1 = (w.alloc (.cells #[.int .i64 3, .int .i64 nn, .string ss, .slice (some ⟨b, off, none⟩) 3 cap] 50)).heap.size from by simp]; exact heap_alloc_new _ _
    · rw [show w.heap.size + 1 + 1 = ((w.alloc (.cells #[.int .i64 3, .int .i64 nn, .string ss, .slice (some ⟨b, off, none⟩) 3 cap] 50)).alloc (.cells #[.int .i64 0, .int .i64 0, .int .i64 0] 30)).heap.size from by simp]; exact heap_alloc_new _ _
  have HV := Lib.hid hV
  have HW := Lib.hid hW
  clear h0 h1 h2 hb hV hW
  go_enter Tryz.func92, Tryz.ntmps92
  go_wp2_with (go_at_call 88; rw [← HW.out]; (with_reducible refine (els3 _ _ _ _ _).mono ?_); rintro e w1 ⟨rfl, hb1⟩; have V1 := Lib.hid (HV.out.on hb1); clear hb1)
  refine wp_loop_rounds 4 ?_
  refine rounds_forget (fun W => VSt w W 0 0 0) V1.out ?_
  intro W0 S0
  rw [rounds_succ]
  obtain ⟨g0, g1, g2, g3⟩ := H0.out.keep (S0.bl.block b HB.out)
  have T0 := Lib.hid S0
  clear S0
  by_cases q0 : knd x0 = 1
  case neg =>
    go_wp2_with (go_at_call 93; (with_reducible refine (number_no _ _ q0 _ _ _ _ _).mono ?_); rintro e w2 ⟨rfl, hb2⟩)
    exact ⟨rfl, orNo (by simp [q0]) (T0.out.bl.trans (((Below.refl _ _).alloc (Nat.le_refl _) _ |>.trans (hb2.mono (by simp))).mono T0.out.bl.size))⟩
  rw [q0] at g0
  go_wp2_with (go_at_call 93; (with_reducible refine (number_yes _ _ _ _ _ _).mono ?_); rintro e w2 ⟨rfl, hb2⟩; have U0 := T0.out.on (((Below.refl _ _).alloc (Nat.le_refl _) _).trans (hb2.mono (by simp))); obtain ⟨y0, y1, y2, z0, z1, z2⟩ := row3 U0.r2; have U0 := Lib.hid U0; clear hb2)
  have V2 : Hid (VSt w (w2.setCell ⟨w.heap.size + 1 + 1, 0, none⟩ (.int .i64 (num x0))) (num x0) 0 0) := Lib.hid (U0.out.set 0 _ rfl)
  clear y0 y1 y2 z0 z1 z2 g0 g1 g2 g3
  refine rounds_forget (fun W => VSt w W (num x0) 0 0) V2.out ?_
  intro W1 S1
  rw [rounds_succ]
  obtain ⟨g0, g1, g2, g3⟩ := H1.out.keep (S1.bl.block b HB.out)
  have T1 := Lib.hid S1
  clear S1
  by_cases q1 : knd x1 = 1
  case neg =>
    go_wp2_with (go_at_call 93; (with_reducible refine (number_no _ _ q1 _ _ _ _ _).mono ?_); rintro e w2 ⟨rfl, hb2⟩)
    exact ⟨rfl, orNo (by simp [q1]) (T1.out.bl.trans (((Below.refl _ _).alloc (Nat.le_refl _) _ |>.trans (hb2.mono (by simp))).mono T1.out.bl.size))⟩
  rw [q1] at g0
  go_wp2_with (go_at_call 93; (with_reducible refine (number_yes _ _ _ _ _ _).mono ?_); rintro e w2 ⟨rfl, hb2⟩; have U1 := T1.out.on (((Below.refl _ _).alloc (Nat.le_refl _) _).trans (hb2.mono (by simp))); obtain ⟨y0, y1, y2, z0, z1, z2⟩ := row3 U1.r2; have U1 := Lib.hid U1; clear hb2)
  have V3 : Hid (VSt w (w2.setCell ⟨w.heap.size + 1 + 1, 1, none⟩ (.int .i64 (num x1))) (num x0) (num x1) 0) := Lib.hid (U1.out.set 1 _ rfl)
  clear y0 y1 y2 z0 z1 z2 g0 g1 g2 g3
  refine rounds_forget (fun W => VSt w W (num x0) (num x1) 0) V3.out ?_
  intro W2 S2
  rw [rounds_succ]
  obtain ⟨g0, g1, g2, g3⟩ := H2.out.keep (S2.bl.block b HB.out)
  have T2 := Lib.hid S2
  clear S2
  by_cases q2 : knd x2 = 1
  case neg =>
    go_wp2_with (go_at_call 93; (with_reducible refine (number_no _ _ q2 _ _ _ _ _).mono ?_); rintro e w2 ⟨rfl, hb2⟩)
    exact ⟨rfl, orNo (by simp [q2]) (T2.out.bl.trans (((Below.refl _ _).alloc (Nat.le_refl _) _ |>.trans (hb2.mono (by simp))).mono T2.out.bl.size))⟩
  rw [q2] at g0
  go_wp2_with (go_at_call 93; (with_reducible refine (number_yes _ _ _ _ _ _).mono ?_); rintro e w2 ⟨rfl, hb2⟩; have U2 := T2.out.on (((Below.refl _ _).alloc (Nat.le_refl _) _).trans (hb2.mono (by simp))); obtain ⟨y0, y1, y2, z0, z1, z2⟩ := row3 U2.r2; have U2 := Lib.hid U2; clear hb2)
  have V4 : Hid (VSt w (w2.setCell ⟨w.heap.size + 1 + 1, 2, none⟩ (.int .i64 (num x2))) (num x0) (num x1) (num x2)) := Lib.hid (U2.out.set 2 _ rfl)
  clear y0 y1 y2 z0 z1 z2 g0 g1 g2 g3
  refine rounds_forget (fun W => VSt w W (num x0) (num x1) (num x2)) V4.out ?_
  intro W3 S3
  rw [rounds_succ]
  obtain ⟨y0, y1, y2, z0, z1, z2⟩ := row3 S3.r2
  obtain ⟨a0, a1, a2, b0, b1, b2⟩ := row3 S3.r1
  have R1 := S3.r1
  have hbl := Lib.hid S3.bl
  have T3 := Lib.hid R1
  clear S3 R1
  go_wp2_with fail
  have F := heap_set _ (w.heap.size + 1) 2 (.int .i64 (num x2)) _ _ (heap_set _ (w.heap.size + 1) 1 (.int .i64 (num x1)) _ _ (heap_set W3 (w.heap.size + 1) 0 (.int .i64 (num x0)) _ _ T3.out))
  have BF : Below w.heap.size w (((W3.setCell ⟨w.heap.size + 1, 0, none⟩ (.int .i64 (num x0))).setCell ⟨w.heap.size + 1, 1, none⟩ (.int .i64 (num x1))).setCell ⟨w.heap.size + 1, 2, none⟩ (.int .i64 (num x2))) :=
    (((hbl.out.setCell (p := ⟨w.heap.size + 1, 0, none⟩) (by simp) _).setCell (p := ⟨w.heap.size + 1, 1, none⟩) (by simp) _).setCell (p := ⟨w.heap.size + 1, 2, none⟩) (by simp) _)
  generalize ((W3.setCell ⟨w.heap.size + 1, 0, none⟩ (.int .i64 (num x0))).setCell ⟨w.heap.size + 1, 1, none⟩ (.int .i64 (num x1))).setCell ⟨w.heap.size + 1, 2, none⟩ (.int .i64 (num x2)) = V at *
  have e0 := cell_of_row V _ 0 _ _ _ F
  have e1 := cell_of_row V _ 1 _ _ _ F
  have e2 := cell_of_row V _ 2 _ _ _ F
  simp only [List.setIfInBounds_toArray, List.set_cons_zero, List.set_cons_succ, List.getElem?_toArray, List.getElem?_cons_zero, List.getElem?_cons_succ] at e0 e1 e2
  refine bodyPost_ret (v := .agg #[.int .i64 (num x0), .int .i64 (num x1), .int .i64 (num x2)]) (by simp [results, Tryz.results92, go_sem, e0, e1, e2]) rfl (orYes (by simp [q0, q1, q2]) BF)
/-- a list of three numbers -/
def isV (t : It) : Bool := knd t == 3 && (match els t with | [x, y, z] => knd x == 1 && (knd y == 1 && knd z == 1) | _ => false)
def vA (t : It) : Int := match els t with | [x, _, _] => num x | _ => 0
def vB3 (t : It) : Int := match els t with | [_, y, _] => num y | _ => 0
def vC (t : It) : Int := match els t with | [_, _, z] => num z | _ => 0
theorem vec_none (k nn : Int) (ss : ByteArray) (A : Option Addr) (m cap : Nat) (hk : k ≠ 3 ∨ (m : Int) ≠ 3) (w : World) : Calls Tryz.prog 92 #[.agg #[.int .i64 k, .int .i64 nn, .string ss, .slice A m cap]] w fun e w' => e = .panicked CP ∧ Below w.heap.size w w' := by
  have hB := (((Below.refl w.heap.size w).alloc (Nat.le_refl _) (.cells #[.int .i64 k, .int .i64 nn, .string ss, .slice A m cap] 50)).alloc (by simp) (.cells #[.int .i64 0, .int .i64 0, .int .i64 0] 30)).alloc (by simp; omega) (.cells #[.int .i64 0, .int .i64 0, .int .i64 0] 30)
  have HB := Lib.hid hB
  clear hB
  go_enter Tryz.func92, Tryz.ntmps92
  go_wp2_with (go_at_call 88; (with_reducible refine (els_no k nn 3 ss A m cap hk _).mono ?_); rintro e w1 ⟨rfl, hb1⟩)
  exact ⟨rfl, rfl, HB.out.trans (hb1.mono HB.out.size)⟩
theorem vecOf_any (t : It) (A : Option Addr) (c : Nat) (w : World) (hv : IsIt w (· < w.heap.size) t (.agg #[.int .i64 (knd t), .int .i64 (num t), .string (tx t), .slice A (els t).length c])) :
    Calls Tryz.prog 92 #[.agg #[.int .i64 (knd t), .int .i64 (num t), .string (tx t), .slice A (els t).length c]] w (OrP (isV t) (.agg #[.int .i64 (vA t), .int .i64 (vB3 t), .int .i64 (vC t)]) w) := by
  obtain ⟨k, n, s, l⟩ := t
  rw [IsIt] at hv
  obtain ⟨A', c', he, _, _, _, _, hal⟩ := hv
  simp only [Value.agg.injEq, Array.mk.injEq, List.cons.injEq, and_true, Value.slice.injEq, knd, num, tx, els] at he
  obtain ⟨_, _, _, rfl, _, rfl⟩ := he
  by_cases h3 : k = 3 ∧ l.length = 3
  · obtain ⟨rfl, hl⟩ := h3
    match l, hl with
    | [x, y, z], _ =>
      obtain ⟨b, off, A0, c0, rfl, hb, C0, _⟩ := cel_of hal (k := 0) rfl
      obtain ⟨b1, off1, A1, c1, e1, _, C1, _⟩ := cel_of hal (k := 1) rfl
      obtain ⟨b2, off2, A2, c2, e2, _, C2, _⟩ := cel_of hal (k := 2) rfl
      simp only [Option.some.injEq, Addr.mk.injEq, and_true] at e1 e2
      obtain ⟨rfl, rfl⟩ := e1
      obtain ⟨rfl, rfl⟩ := e2
      exact vec_some b off c x y z A0 A1 A2 _ _ _ c0 c1 c2 n s w hb (by simpa using C0) C1 C2
  · have hk : k ≠ 3 ∨ (l.length : Int) ≠ 3 := by
      by_cases e : k = 3
      · right; intro h; exact h3 ⟨e, by omega⟩
      · exact .inl e
    refine (vec_none k n s A l.length c hk w).mono ?_
    rintro e w' ⟨rfl, hb⟩
    refine orNo ?_ hb
    unfold isV
    simp only [knd, els]
    rcases hk with hk | hk
    · simp [hk]
    · split
      · simp at hk
      · simp
end Go.Proofs.YtebacdegjmcnlaaGreat
