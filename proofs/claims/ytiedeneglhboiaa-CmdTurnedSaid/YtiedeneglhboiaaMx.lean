import Derived.Test.YtiedeneglhboiaaMv
namespace Go.Proofs.Ytiedeneglhboiaa
open Go.RowKit Pl
set_option linter.unusedVariables false
set_option maxRecDepth 20000
theorem r0 : InR 0 := ⟨by omega, by omega⟩
theorem ma : mayC 6 ⟨#[97]⟩ ⟨#[]⟩ 0 0 0 0 = true := by decide +kernel
theorem mj : mayC 8 ⟨#[97]⟩ ⟨#[]⟩ 0 0 0 0 = true := by decide +kernel
theorem mb : mayC 6 ⟨#[97, 32, 98]⟩ ⟨#[]⟩ 0 0 0 0 = false := by decide +kernel
def killA : List UInt8 := [3, 1, 5, 1, 1, 12, 2, 1, 1, 97, 2, 0, 3, 1, 3, 1, 0, 1, 0, 1, 0, 1, 0]
theorem encA : (cIt 6 ⟨#[97]⟩ ⟨#[]⟩ 0 0 0 0).enc = killA := by decide +kernel
theorem call1 (W : World) : Calls Try.prog 11 #[.agg #[.int .i64 6, .string ⟨#[97]⟩, .string ⟨#[]⟩, .int .i64 0, .int .i64 0, .int .i64 0, .int .i64 0]] W (RetBelow (.tuple #[.string ⟨#[3, 1, 5, 1, 1, 12, 2, 1, 1, 97, 2, 0, 3, 1, 3, 1, 0, 1, 0, 1, 0, 1, 0]⟩, .int .i64 0]) W) := by
  refine (encodeC_any 6 ⟨#[97]⟩ ⟨#[]⟩ 0 0 0 0 W ⟨by omega, by omega⟩ (by decide) (by decide) r0 r0 r0 r0).mono fun e w h => ⟨?_, h.2⟩
  rw [h.1, encC, errC, if_pos ma, if_pos ma, encA]
  rfl
theorem call2 (W : World) : Calls Try.prog 11 #[.agg #[.int .i64 6, .string ⟨#[97, 32, 98]⟩, .string ⟨#[]⟩, .int .i64 0, .int .i64 0, .int .i64 0, .int .i64 0]] W (RetBelow (.tuple #[.string ⟨#[]⟩, .int .i64 4]) W) := by
  refine (encodeC_any 6 ⟨#[97, 32, 98]⟩ ⟨#[]⟩ 0 0 0 0 W ⟨by omega, by omega⟩ (by decide) (by decide) r0 r0 r0 r0).mono fun e w h => ⟨?_, h.2⟩
  rw [h.1, encC, errC, mb]
  rfl
theorem call3 (W : World) : Calls Try.prog 17 #[.string ⟨#[3, 1, 5, 1, 1, 12, 2, 1, 1, 97, 2, 0, 3, 1, 3, 1, 0, 1, 0, 1, 0, 1, 0]⟩] W (RetBelow (.tuple #[.agg #[.int .i64 6, .string ⟨#[97]⟩, .string ⟨#[]⟩, .int .i64 0, .int .i64 0, .int .i64 0, .int .i64 0], .int .i64 0]) W) := by
  refine (decodeC_any killA W (by decide)).mono fun e w h => ⟨?_, h.2⟩
  rw [h.1, (resC_iff killA 6 ⟨#[97]⟩ ⟨#[]⟩ 0 0 0 0).2 ⟨ma, ⟨by omega, by omega⟩, r0, r0, r0, r0, encA.symm⟩]
  rfl
def repP : List UInt8 := (rIt 12 ⟨#[]⟩ 0 0 0 5).enc
theorem call4 (W : World) : Calls Try.prog 21 #[.agg #[.int .i64 12, .string ⟨#[]⟩, .int .i64 0, .int .i64 0, .int .i64 0, .int .i64 5]] W (RetBelow (.tuple #[.string (Nm.str repP), .int .i64 0]) W) := by
  refine (packR_any 12 ⟨#[]⟩ 0 0 0 5 W ⟨by omega, by omega⟩ r0 r0 r0 ⟨by omega, by omega⟩).mono fun e w h => ⟨?_, h.2⟩
  rw [h.1, packR, errR, if_pos (show mayR 12 ⟨#[]⟩ = true by decide), if_pos (show mayR 12 ⟨#[]⟩ = true by decide)]
  rfl
theorem call5 (W : World) : Calls Try.prog 19 #[.string (Nm.str repP)] W (RetBelow (.tuple #[.agg #[.int .i64 12, .string ⟨#[]⟩, .int .i64 0, .int .i64 0, .int .i64 0, .int .i64 5], .int .i64 0]) W) := by
  refine (unpackR_any repP W (by decide +kernel)).mono fun e w h => ⟨?_, h.2⟩
  rw [h.1, (resR_iff repP 12 ⟨#[]⟩ 0 0 0 5).2 ⟨by decide, ⟨by omega, by omega⟩, r0, r0, r0, ⟨by omega, by omega⟩, rfl⟩]
  rfl
theorem call6 (W : World) : Calls Try.prog 15 #[.agg #[.int .i64 8, .string ⟨#[97]⟩, .string ⟨#[]⟩, .int .i64 0, .int .i64 0, .int .i64 0, .int .i64 0]] W (RetBelow (.bool true) W) := by
  refine (asks_any 8 ⟨#[97]⟩ ⟨#[]⟩ 0 0 0 0 W (by decide) (by decide)).mono fun e w h => ⟨?_, h.2⟩
  rw [h.1, asksC, mj]
  rfl
theorem awakeC_any (w : World) : Calls Try.prog 10 #[] w (RetBelow (.bool true) w) := by
  have HC1 := Lib.hid call1
  have HC2 := Lib.hid call2
  have HC3 := Lib.hid call3
  have HC4 := Lib.hid call4
  have HC5 := Lib.hid call5
  have HC6 := Lib.hid call6
  have q1 : ∀ (W : World), (Instr.build 25 #[(0, .int .i64 6), (1, .string ⟨#[97]⟩)]).run Try.prog W = .ok (.agg #[.int .i64 6, .string ⟨#[97]⟩, .string ⟨#[]⟩, .int .i64 0, .int .i64 0, .int .i64 0, .int .i64 0]) W := fun W => run_build W 25 _ _ (by kernel_rfl)
  have q2 : ∀ (W : World), (Instr.build 25 #[(0, .int .i64 6), (1, .string ⟨#[97, 32, 98]⟩)]).run Try.prog W = .ok (.agg #[.int .i64 6, .string ⟨#[97, 32, 98]⟩, .string ⟨#[]⟩, .int .i64 0, .int .i64 0, .int .i64 0, .int .i64 0]) W := fun W => run_build W 25 _ _ (by kernel_rfl)
  have q3 : ∀ (W : World), (Instr.build 34 #[(0, .int .i64 12), (3, .int .i64 5)]).run Try.prog W = .ok (.agg #[.int .i64 12, .string ⟨#[]⟩, .int .i64 0, .int .i64 0, .int .i64 0, .int .i64 5]) W := fun W => run_build W 34 _ _ (by kernel_rfl)
  have q4 : ∀ (W : World), (Instr.build 25 #[(0, .int .i64 8), (1, .string ⟨#[97]⟩)]).run Try.prog W = .ok (.agg #[.int .i64 8, .string ⟨#[97]⟩, .string ⟨#[]⟩, .int .i64 0, .int .i64 0, .int .i64 0, .int .i64 0]) W := fun W => run_build W 25 _ _ (by kernel_rfl)
  have E0 := Lib.hid (Below.refl w.heap.size w)
  go_enter Try.func10, Try.ntmps10
  go_wp2_with (first
    | (go_at_call 15; (with_reducible refine (HC6.out _).mono ?_); rintro e w6 ⟨rfl, h⟩; have B6 : Hid (Below w.heap.size w w6) := Lib.hid ((B5.out.alloc B5.out.size _).trans (h.mono (by have := B5.out.size; simp; omega))); clear h)
    | (go_at_call 19; (with_reducible refine (HC5.out _).mono ?_); rintro e w5 ⟨rfl, h⟩; have B5 : Hid (Below w.heap.size w w5) := Lib.hid (B4.out.trans (h.mono B4.out.size)); have R3 := (h.block _ (Array.getElem?_eq_some_iff.1 HR3.out).1).trans HR3.out; obtain ⟨y0, y1, y2, y3, y4, y5, y6⟩ := row7 R3; have hl := (Array.getElem?_eq_some_iff.1 R3).1; clear h R3)
    | (go_at_call 21; (with_reducible refine (HC4.out _).mono ?_); rintro e w4 ⟨rfl, h⟩; have B4 : Hid (Below w.heap.size w w4) := Lib.hid ((B3.out.alloc B3.out.size _).trans (h.mono (by have := B3.out.size; simp; omega))); have HR3 := Lib.hid (alloc_row h); clear h)
    | (go_at_call 17; (with_reducible refine (HC3.out _).mono ?_); rintro e w3 ⟨rfl, h⟩; have B3 : Hid (Below w.heap.size w w3) := Lib.hid (B2.out.trans (h.mono B2.out.size)); clear h)
    | (go_at_call 11; (with_reducible refine (HC2.out _).mono ?_); rintro e w2 ⟨rfl, h⟩; have B2 : Hid (Below w.heap.size w w2) := Lib.hid (B1.out.trans (h.mono B1.out.size)); clear h)
    | (go_at_call 11; (with_reducible refine (HC1.out _).mono ?_); rintro e w1 ⟨rfl, h⟩; have B1 : Hid (Below w.heap.size w w1) := Lib.hid (E0.out.trans h); clear h))
  go_ret
  exact ⟨rfl, B6.out⟩
end Go.Proofs.Ytiedeneglhboiaa
