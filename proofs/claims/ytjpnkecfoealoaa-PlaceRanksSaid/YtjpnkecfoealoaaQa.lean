import Derived.Test.YtjpnkecfoealoaaNd
import Derived.Test.YtjpnkecfoealoaaVShare
namespace Go.Proofs.Ytjpnkecfoealoaa
set_option maxRecDepth 20000
open Go.RowKit
open Vc (I64 fitB RetBelow outV vecV shA shV)
set_option linter.unusedVariables false

/-- a node, plain -/
structure Nd where
  s : List UInt8
  a : Int
  b : Int
  c : Int
  x : Int
  y : Int
  z : Int
  d : Bool
def nodeC (n : Nd) : List Value := [.string (Nm.str n.s), .int .i64 n.a, .int .i64 n.b, .int .i64 n.c, .int .i64 n.x, .int .i64 n.y, .int .i64 n.z, .bool n.d]
def nodeV (n : Nd) : Value := .agg (nodeC n).toArray
structure Nok (n : Nd) : Prop where
  s : n.s.length ≤ 281474976710656
  a : I64 n.a
  b : I64 n.b
  c : I64 n.c
  x : I64 n.x
  y : I64 n.y
  z : I64 n.z
def nmay (n : Nd) : Bool := Nm.may n.s && (fitB 0 0 0 n.a n.b n.c && (fitB 0 0 0 n.x n.y n.z && fitB n.x n.y n.z n.a n.b n.c))
def ntakes (n : Nd) (p q r : Int) : Bool := !n.d && (fitB 0 0 0 p q r && (nmay n && fitB (n.x + p) (n.y + q) (n.z + r) n.a n.b n.c))
def nscore (n : Nd) (p q r : Int) : Int := if ntakes n p q r then shV (n.x + p) (n.y + q) (n.z + r) n.a n.b n.c else -1

/-- a node in a box -/
def NK (W : World) (g : Nat) (n : Nd) : Prop := W.heap[g]? = some (.cells (nodeC n).toArray 33 (0, 0))
structure NC (W : World) (g : Nat) (n : Nd) : Prop where
  c0 : W.cell? ⟨g, 0, none⟩ = some (.string (Nm.str n.s))
  c1 : W.cell? ⟨g, 1, none⟩ = some (.int .i64 n.a)
  c2 : W.cell? ⟨g, 2, none⟩ = some (.int .i64 n.b)
  c3 : W.cell? ⟨g, 3, none⟩ = some (.int .i64 n.c)
  c4 : W.cell? ⟨g, 4, none⟩ = some (.int .i64 n.x)
  c5 : W.cell? ⟨g, 5, none⟩ = some (.int .i64 n.y)
  c6 : W.cell? ⟨g, 6, none⟩ = some (.int .i64 n.z)
  c7 : W.cell? ⟨g, 7, none⟩ = some (.bool n.d)
theorem NK.cells {W : World} {g : Nat} {n : Nd} (h : NK W g n) : NC W g n := by
  unfold NK nodeC at h
  constructor <;> simp [World.cell?, h]
theorem NK.new (w : World) (n : Nd) : NK (w.alloc (.cells (nodeC n).toArray 33)) w.heap.size n := heap_alloc_new w _
theorem NK.lt {W : World} {g : Nat} {n : Nd} (h : NK W g n) : g < W.heap.size := (Array.getElem?_eq_some_iff.1 h).1
theorem NK.on {W W' : World} {g k : Nat} {n : Nd} (h : NK W g n) (hb : Below k W W') (hl : g < k) : NK W' g n := (hb.block g hl).trans h
theorem NK.alloc {W : World} {g : Nat} {n : Nd} (h : NK W g n) (o : Obj) : NK (W.alloc o) g n := h.on ((Below.refl _ W).alloc (Nat.le_refl _) o) h.lt

theorem pmay_any (n : Nd) (w : World) (hs : n.s.length ≤ 281474976710656) : Calls Try.prog 15 #[nodeV n] w (RetBelow (.bool (nmay n)) w) := by
  have k1 := Lib.hid fun W : World => Nm.may_any (Nm.str n.s) W (by rw [Nm.str_size]; exact hs)
  have k2 := Lib.hid fun W : World => Vc.may_any n.a n.b n.c W
  have k3 := Lib.hid fun W : World => Vc.may_any n.x n.y n.z W
  have k4 := Lib.hid fun W : World => Vc.fits_any n.x n.y n.z n.a n.b n.c W
  have hr : nmay n = (Nm.may (Nm.str n.s).data.toList && (fitB 0 0 0 n.a n.b n.c && (fitB 0 0 0 n.x n.y n.z && fitB n.x n.y n.z n.a n.b n.c))) := rfl
  rw [hr]
  clear hr hs
  have K := NK.new w n
  have B := (Below.refl w.heap.size w).alloc (Nat.le_refl _) (.cells (nodeC n).toArray 33)
  unfold nodeV nodeC
  unfold nodeC at K B
  have K := Lib.hid K
  have B := Lib.hid B
  generalize Nm.may (Nm.str n.s).data.toList = m1 at *
  generalize fitB 0 0 0 n.a n.b n.c = m2 at *
  generalize fitB 0 0 0 n.x n.y n.z = m3 at *
  generalize fitB n.x n.y n.z n.a n.b n.c = m4 at *
  have HF : ∀ W : World, Below w.heap.size w W → NK W w.heap.size n → NC W w.heap.size n := fun W _ h => h.cells
  have HF := Lib.hid HF
  go_enter Try.func15, Try.ntmps15
  go_wp2_with fail
  have hsz : w.heap.size < (w.alloc (.cells #[.string (Nm.str n.s), .int .i64 n.a, .int .i64 n.b, .int .i64 n.c, .int .i64 n.x, .int .i64 n.y, .int .i64 n.z, .bool n.d] 33)).heap.size := by simp
  generalize (w.alloc (.cells #[.string (Nm.str n.s), .int .i64 n.a, .int .i64 n.b, .int .i64 n.c, .int .i64 n.x, .int .i64 n.y, .int .i64 n.z, .bool n.d] 33)) = W0 at *
  have HC : ∀ W : World, Below W0.heap.size W0 W → NC W w.heap.size n := fun W h => (K.out.on h hsz).cells
  have HC := Lib.hid HC
  have DONE := B
  clear HF
  obtain ⟨c0, c1, c2, c3, c4, c5, c6, c7⟩ := HC.out _ (Below.refl _ _)
  have B0 : Hid (Below W0.heap.size W0 W0) := Lib.hid (Below.refl _ _)
  cases m1 with
  | false =>
    go_wp2_with (go_at_call 28; (with_reducible refine (k1.out _).mono ?_); rintro e w1 ⟨rfl, hb⟩; have B1 := Lib.hid (B0.out.trans (hb.mono B0.out.size)); clear hb; obtain ⟨c0, c1, c2, c3, c4, c5, c6, c7⟩ := HC.out _ B1.out)
    go_ret
    exact ⟨rfl, B.out.trans (B1.out.mono (Nat.le_of_lt hsz))⟩
  | true =>
  cases m2 with
  | false =>
    go_wp2_with (first | (go_at_call 28; (with_reducible refine (k1.out _).mono ?_); rintro e w1 ⟨rfl, hb⟩; have B1 := Lib.hid (B0.out.trans (hb.mono B0.out.size)); clear hb; obtain ⟨c0, c1, c2, c3, c4, c5, c6, c7⟩ := HC.out _ B1.out) | (go_at_call 20; (with_reducible refine (k2.out _).mono ?_); rintro e w2 ⟨rfl, hb⟩; have B2 := Lib.hid (B1.out.trans (hb.mono B1.out.size)); clear hb; obtain ⟨c0, c1, c2, c3, c4, c5, c6, c7⟩ := HC.out _ B2.out))
    go_ret
    exact ⟨rfl, B.out.trans (B2.out.mono (Nat.le_of_lt hsz))⟩
  | true =>
  cases m3 with
  | false =>
    go_wp2_with (first | (go_at_call 28; (with_reducible refine (k1.out _).mono ?_); rintro e w1 ⟨rfl, hb⟩; have B1 := Lib.hid (B0.out.trans (hb.mono B0.out.size)); clear hb; obtain ⟨c0, c1, c2, c3, c4, c5, c6, c7⟩ := HC.out _ B1.out) | (go_at_call 20; (with_reducible refine (k2.out _).mono ?_); rintro e w2 ⟨rfl, hb⟩; have B2 := Lib.hid (B1.out.trans (hb.mono B1.out.size)); clear hb; obtain ⟨c0, c1, c2, c3, c4, c5, c6, c7⟩ := HC.out _ B2.out) | (go_at_call 20; (with_reducible refine (k3.out _).mono ?_); rintro e w3 ⟨rfl, hb⟩; have B3 := Lib.hid (B2.out.trans (hb.mono B2.out.size)); clear hb; obtain ⟨c0, c1, c2, c3, c4, c5, c6, c7⟩ := HC.out _ B3.out))
    go_ret
    exact ⟨rfl, B.out.trans (B3.out.mono (Nat.le_of_lt hsz))⟩
  | true =>
  go_wp2_with (first | (go_at_call 28; (with_reducible refine (k1.out _).mono ?_); rintro e w1 ⟨rfl, hb⟩; have B1 := Lib.hid (B0.out.trans (hb.mono B0.out.size)); clear hb; obtain ⟨c0, c1, c2, c3, c4, c5, c6, c7⟩ := HC.out _ B1.out) | (go_at_call 20; (with_reducible refine (k2.out _).mono ?_); rintro e w2 ⟨rfl, hb⟩; have B2 := Lib.hid (B1.out.trans (hb.mono B1.out.size)); clear hb; obtain ⟨c0, c1, c2, c3, c4, c5, c6, c7⟩ := HC.out _ B2.out) | (go_at_call 20; (with_reducible refine (k3.out _).mono ?_); rintro e w3 ⟨rfl, hb⟩; have B3 := Lib.hid (B2.out.trans (hb.mono B2.out.size)); clear hb; obtain ⟨c0, c1, c2, c3, c4, c5, c6, c7⟩ := HC.out _ B3.out) | (go_at_call 22; (with_reducible refine (k4.out _).mono ?_); rintro e w4 ⟨rfl, hb⟩; have B4 := Lib.hid (B3.out.trans (hb.mono B3.out.size)); clear hb; obtain ⟨c0, c1, c2, c3, c4, c5, c6, c7⟩ := HC.out _ B4.out))
  go_ret
  exact ⟨rfl, B.out.trans (B4.out.mono (Nat.le_of_lt hsz))⟩
end Go.Proofs.Ytjpnkecfoealoaa
