import Derived.Test.YtmdkjdmiikbhcaaSum
import Derived.Lib.SlBytesConst
namespace Go.Proofs.Ytmdkjdmiikbhcaa
open Go.RowKit
set_option linter.unusedVariables false

def digits : List UInt8 := [49, 50, 51, 52, 53, 54, 55, 56, 57]
theorem sum_digits : Pl.sum digits = 3421780262 := by decide +kernel
theorem sum_none : Pl.sum [] = 0 := by decide +kernel

set_option maxRecDepth 20000 in
theorem refSum_any (bs : List UInt8) (A : Option Addr) (n cap B : Nat) (w : World) (hb : BytesAt w B A bs) (hn : bs.length = n) (hc : n ≤ 9223372036854775807) : Calls Try.prog 11 #[.slice A n cap] w fun e w' => e = .returned (.int .u32 (Pl.sum bs : Nat)) ∧ w = w' := by
  have HN := Lib.hid hn
  have HB := Lib.hid hb
  clear hn hb
  go_enter Try.func11, Try.ntmps11
  go_wp2_with fail
  refine (refMore_any 0 bs A n cap B w (by omega) HB.out HN.out hc).mono ?_
  rintro e w' ⟨rfl, rfl⟩
  go_wp2_with fail
  go_ret
  exact ⟨rfl, rfl⟩

set_option maxRecDepth 20000 in
theorem awake_any (w : World) : Calls Try.prog 9 #[] w (RetBelow (.bool true) w) := by
  have hcv : Sem.run Try.prog (convert 22 22 (.slice (some ⟨w.heap.size, 0, none⟩) 9 9)) (w.alloc (.cells #[.int .u8 49, .int .u8 50, .int .u8 51, .int .u8 52, .int .u8 53, .int .u8 54, .int .u8 55, .int .u8 56, .int .u8 57] 5)) = .ok (.slice (some ⟨w.heap.size, 0, none⟩) 9 9) (w.alloc (.cells #[.int .u8 49, .int .u8 50, .int .u8 51, .int .u8 52, .int .u8 53, .int .u8 54, .int .u8 55, .int .u8 56, .int .u8 57] 5 (9, 10))) :=
    Lib.run_convert_bytes_const (P := Try.prog) w 22 5 #[.int .u8 49, .int .u8 50, .int .u8 51, .int .u8 52, .int .u8 53, .int .u8 54, .int .u8 55, .int .u8 56, .int .u8 57] 9 9 Try.underlying22 Try.underlying5
  go_enter Try.func9, Try.ntmps9
  go_wp2_with fail
  have hbel : Below w.heap.size w (w.alloc (.cells (vB digits).toArray 5 (9, 10))) := (Below.refl _ _).alloc (Nat.le_refl _) _
  have hnew : BytesAt (w.alloc (.cells (vB digits).toArray 5 (9, 10))) (w.heap.size + 1) (some ⟨w.heap.size, 0, none⟩) digits := fun _ =>
    ⟨w.heap.size, 0, rfl, by omega, fun j u hu => by
      rw [Nat.zero_add, cell_of_row _ _ j _ _ _ (heap_alloc_new w _)]
      simp [vB, hu]⟩
  refine (sum_any digits _ 9 9 (w.alloc (.cells (vB digits).toArray 5 (9, 10))) (by rw [World.size_alloc]; exact hnew) rfl (by omega)).mono ?_
  rintro e w1 ⟨rfl, hb1⟩
  rw [sum_digits]
  have hb : Below w.heap.size w w1 := hbel.trans (hb1.mono (by simp))
  have HB := Lib.hid hb
  clear hb1 hb hnew hcv hbel
  go_wp2_with fail
  refine (sum_any [] none 0 0 w1 (BytesAt.nil _ _ _) rfl (by omega)).mono ?_
  rintro e w2 ⟨rfl, hb2⟩
  rw [sum_none]
  go_wp2_with fail
  go_ret
  exact ⟨rfl, HB.out.trans (hb2.mono HB.out.size)⟩
end Go.Proofs.Ytmdkjdmiikbhcaa
