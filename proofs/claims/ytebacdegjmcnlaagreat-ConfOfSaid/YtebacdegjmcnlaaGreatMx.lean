import Derived.Test.YtebacdegjmcnlaaGreatXr
namespace Go.Proofs.YtebacdegjmcnlaaGreat
open Go.RowKit Pl
set_option linter.unusedVariables false
set_option maxRecDepth 20000
theorem r0 : InR 0 := ⟨by omega, by omega⟩
theorem ma : mayC 6 ⟨#[97]⟩ ⟨#[]⟩ 0 0 0 0 = true := by decide +kernel
theorem mj : mayC 8 ⟨#[97]⟩ ⟨#[]⟩ 0 0 0 0 = true := by decide +kernel
theorem mb : mayC 6 ⟨#[97, 32, 98]⟩ ⟨#[]⟩ 0 0 0 0 = false := by decide +kernel
def killA : List UInt8 := [3, 1, 5, 1, 1, 12, 2, 1, 1, 97, 2, 0, 3, 1, 3, 1, 0, 1, 0, 1, 0, 1, 0]
theorem encA : (cIt 6 ⟨#[97]⟩ ⟨#[]⟩ 0 0 0 0).enc = killA := by decide +kernel
theorem call1 (W : World) : Calls Tryz.prog 16 #[.agg #[.int .i64 6, .string ⟨#[97]⟩, .string ⟨#[]⟩, .int .i64 0, .int .i64 0, .int .i64 0, .int .i64 0]] W (RetBelow (.tuple #[.string ⟨#[3, 1, 5, 1, 1, 12, 2, 1, 1, 97, 2, 0, 3, 1, 3, 1, 0, 1, 0, 1, 0, 1, 0]⟩, .int .i64 0]) W) := by
  refine (encodeC_any 6 ⟨#[97]⟩ ⟨#[]⟩ 0 0 0 0 W ⟨by omega, by omega⟩ (by decide) (by decide) r0 r0 r0 r0).mono fun e w h => ⟨?_, h.2⟩
  rw [h.1, encC, errC, if_pos ma, if_pos ma, encA]
  rfl
theorem call2 (W : World) : Calls Tryz.prog 16 #[.agg #[.int .i64 6, .string ⟨#[97, 32, 98]⟩, .string ⟨#[]⟩, .int .i64 0, .int .i64 0, .int .i64 0, .int .i64 0]] W (RetBelow (.tuple #[.string ⟨#[]⟩, .int .i64 4]) W) := by
  refine (encodeC_any 6 ⟨#[97, 32, 98]⟩ ⟨#[]⟩ 0 0 0 0 W ⟨by omega, by omega⟩ (by decide) (by decide) r0 r0 r0 r0).mono fun e w h => ⟨?_, h.2⟩
  rw [h.1, encC, errC, mb]
  rfl
theorem call3 (W : World) : Calls Tryz.prog 35 #[.string ⟨#[3, 1, 5, 1, 1, 12, 2, 1, 1, 97, 2, 0, 3, 1, 3, 1, 0, 1, 0, 1, 0, 1, 0]⟩] W (RetBelow (.tuple #[.agg #[.int .i64 6, .string ⟨#[97]⟩, .string ⟨#[]⟩, .int .i64 0, .int .i64 0, .int .i64 0, .int .i64 0], .int .i64 0]) W) := by
  refine (decodeC_any killA W (by decide)).mono fun e w h => ⟨?_, h.2⟩
  rw [h.1, (resC_iff killA 6 ⟨#[97]⟩ ⟨#[]⟩ 0 0 0 0).2 ⟨ma, ⟨by omega, by omega⟩, r0, r0, r0, r0, encA.symm⟩]
  rfl
def repP : List UInt8 := (rIt 12 ⟨#[]⟩ 0 0 0 5).enc
end Go.Proofs.YtebacdegjmcnlaaGreat
