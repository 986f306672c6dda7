import Derived.Test.YtnnakfhkejdfcaaSame
import Derived.BigRegion
namespace Go.Proofs.Ytnnakfhkejdfcaa
open Go.RowKit Pl
set_option linter.unusedVariables false

/-- the plain reader in block g: bs is all, the first p are read -/
def QSt (w : World) (g : Nat) (A : Option Addr) (cap : Nat) (bs : List UInt8) (p : Nat) (left : Int) (bad : Bool) : Prop :=
  w.heap[g]? = some (.cells #[.slice A bs.length cap, .int .i64 p, .int .i64 left, .bool bad] 51 (0, 0)) ∧ p ≤ bs.length ∧ bs.length ≤ cap ∧ cap ≤ 9223372036854775807 ∧ BytesAt w g A bs
theorem QSt.row {w : World} {g : Nat} {A : Option Addr} {cap : Nat} {bs : List UInt8} {p : Nat} {left : Int} {bad : Bool} (h : QSt w g A cap bs p left bad) :
    w.cell? ⟨g, 0, none⟩ = some (.slice A bs.length cap) ∧ w.cell? ⟨g, 1, none⟩ = some (.int .i64 p) ∧ w.cell? ⟨g, 2, none⟩ = some (.int .i64 left) ∧ w.cell? ⟨g, 3, none⟩ = some (.bool bad) ∧ w.frozen? ⟨g, 1, none⟩ = false ∧ w.frozen? ⟨g, 2, none⟩ = false ∧ w.frozen? ⟨g, 3, none⟩ = false := by
  obtain ⟨a0, a1, a2, a3, _, b1, b2, b3⟩ := row4 h.1
  exact ⟨a0, a1, a2, a3, b1, b2, b3⟩
theorem QSt.keep {w w' : World} {g : Nat} {A : Option Addr} {cap : Nat} {bs : List UInt8} {p : Nat} {left : Int} {bad : Bool} (h : QSt w g A cap bs p left bad) (hk : ∀ q, q ≤ g → w'.heap[q]? = w.heap[q]?) : QSt w' g A cap bs p left bad :=
  ⟨(hk g (Nat.le_refl _)).trans h.1, h.2.1, h.2.2.1, h.2.2.2.1, h.2.2.2.2.keep fun q hq => hk q (by omega)⟩
theorem QSt.setp {w : World} {g : Nat} {A : Option Addr} {cap : Nat} {bs : List UInt8} {p : Nat} {left : Int} {bad : Bool} (h : QSt w g A cap bs p left bad) (p' : Nat) (hp : p' ≤ bs.length) : QSt (w.setCell ⟨g, 1, none⟩ (.int .i64 (p' : Int))) g A cap bs p' left bad :=
  ⟨heap_set w g 1 _ _ _ h.1, hp, h.2.2.1, h.2.2.2.1, h.2.2.2.2.keep fun q hq => Below.heap_setCell _ _ _ _ (by simp; omega)⟩
theorem QSt.setl {w : World} {g : Nat} {A : Option Addr} {cap : Nat} {bs : List UInt8} {p : Nat} {left : Int} {bad : Bool} (h : QSt w g A cap bs p left bad) (l' : Int) : QSt (w.setCell ⟨g, 2, none⟩ (.int .i64 l')) g A cap bs p l' bad :=
  ⟨heap_set w g 2 _ _ _ h.1, h.2.1, h.2.2.1, h.2.2.2.1, h.2.2.2.2.keep fun q hq => Below.heap_setCell _ _ _ _ (by simp; omega)⟩
theorem QSt.setb {w : World} {g : Nat} {A : Option Addr} {cap : Nat} {bs : List UInt8} {p : Nat} {left : Int} {bad : Bool} (h : QSt w g A cap bs p left bad) (b' : Bool) : QSt (w.setCell ⟨g, 3, none⟩ (.bool b')) g A cap bs p left b' :=
  ⟨heap_set w g 3 _ _ _ h.1, h.2.1, h.2.2.1, h.2.2.2.1, h.2.2.2.2.keep fun q hq => Below.heap_setCell _ _ _ _ (by simp; omega)⟩

theorem grownBy_drewN (w : World) (n : Nat) {r : Option Nat} : w.grownBy (w.drewN n) r := ⟨rfl, rfl, rfl, Nat.le_refl _, fun _ _ _ => rfl⟩

def ByteNo (g : Nat) (A : Option Addr) (cap : Nat) (bs : List UInt8) (p : Nat) (left : Int) (w : World) (e : Ending) (w' : World) : Prop := e = .returned (.int .i64 0) ∧ QSt w' g A cap bs p left true ∧ w.grownBy w' (some g)
def ByteYes (g : Nat) (A : Option Addr) (cap : Nat) (bs : List UInt8) (p : Nat) (left : Int) (x : UInt8) (w : World) (e : Ending) (w' : World) : Prop := e = .returned (.int .i64 (x.toNat : Int)) ∧ QSt w' g A cap bs (p + 1) left false ∧ w.grownBy w' (some g)

set_option maxRecDepth 20000 in
theorem byte_no (g : Nat) (A : Option Addr) (cap : Nat) (bs : List UInt8) (p : Nat) (left : Int) (w : World) (h : QSt w g A cap bs p left false) (hp : (bs.length : Int) ≤ p) : Calls Try.prog 32 #[.pointer (some ⟨g, 0, none⟩)] w (ByteNo g A cap bs p left w) := by
  obtain ⟨a0, a1, a2, a3, b1, b2, b3⟩ := h.row
  have H := Lib.hid h
  clear h
  go_enter Try.func32, Try.ntmps32
  go_wp2_with fail
  go_quiet (fail)
  go_wp2_with fail
  go_ret
  exact ⟨rfl, QSt.setb (w := w.drewN _) H.out true, grownBy_trans (grownBy_drewN w _) (grownBy_set _ _ _ _)⟩

set_option maxRecDepth 20000 in
theorem byte_yes (g : Nat) (A : Option Addr) (cap : Nat) (bs : List UInt8) (p : Nat) (left : Int) (x : UInt8) (w : World) (h : QSt w g A cap bs p left false) (hx : bs[p]? = some x) : Calls Try.prog 32 #[.pointer (some ⟨g, 0, none⟩)] w (ByteYes g A cap bs p left x w) := by
  have hlt : p < bs.length := (List.getElem?_eq_some_iff.1 hx).1
  obtain ⟨b, off, rfl, hbg, hcells⟩ := h.2.2.2.2 (fun e => by rw [e] at hlt; simp at hlt)
  have hcx := hcells p x hx
  obtain ⟨a0, a1, a2, a3, b1, b2, b3⟩ := h.row
  have hcm := h.2.2.2.1
  have hlc := h.2.2.1
  have hxb : (x.toNat : Int) ≤ 255 := by have := x.toNat_lt; omega
  have hpI : ((p : Int)) < (bs.length : Int) := by omega
  have H := Lib.hid h
  clear h hcells hx
  have hne : b ≠ g := by omega
  go_enter Try.func32, Try.ntmps32
  go_wp2_with fail
  go_quiet (fail)
  go_wp2_with fail
  have H2 := QSt.setp (w := w.drewN nq) H.out (p + 1) (by omega)
  have hgr : w.grownBy ((w.drewN nq).setCell ⟨g, 1, none⟩ (.int .i64 ((p : Int) + 1))) (some g) := grownBy_trans (grownBy_drewN w _) (grownBy_set _ _ _ _)
  have hcx2 : ((w.drewN nq).setCell ⟨g, 1, none⟩ (.int .i64 ((p : Int) + 1))).cell? ⟨b, off + p, none⟩ = some (.int .u8 (x.toNat : Int)) := (cell_eq (S := fun q => q ≠ g) (w := w.drewN nq) (fun q hq => Below.heap_setCell _ _ _ q hq) hne).trans hcx
  rw [show ((p + 1 : Nat) : Int) = (p : Int) + 1 from by omega] at H2
  generalize (w.drewN nq).setCell ⟨g, 1, none⟩ (.int .i64 ((p : Int) + 1)) = w2 at *
  obtain ⟨a0', a1', a2', a3', _⟩ := H2.row
  rw [show ((p + 1 : Nat) : Int) = (p : Int) + 1 from by omega] at a1'
  have HH2 := Lib.hid H2
  have HGR := Lib.hid hgr
  have hw2 : IntKind.i64.wrap (p : Int) = p := IntWalk.i64_in _ (by omega)
  clear H2 hgr hcx a0 a1 a2 a3 b1 b2 b3
  go_quiet (fail)
  go_wp2_with fail
  go_ret
  exact ⟨rfl, HH2.out, grownBy_trans HGR.out (grownBy_drewN _ _)⟩
end Go.Proofs.Ytnnakfhkejdfcaa
