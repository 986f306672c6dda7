import Derived.Test.YtphclpjekpdifaaTn
import Derived.Test.YtphclpjekpdifaaPd
namespace Go.Proofs.Ytphclpjekpdifaa
set_option maxRecDepth 20000
open Go.RowKit
open SP
open Go.Proofs.Ytphclpjekpdifaa.Nm (str)
open Wi (RetBelow)
open Wi.Pl (It)
set_option linter.unusedVariables false
theorem str_of {s : ByteArray} {l : List UInt8} (h : s.data.toList = l) : s = str l := by rw [← h]; exact (Nm.str_list s).symm
theorem sesOf_any {Q : Nat → Prop} {w0 : World} {t : It} {v : Value} (hQ : ∀ q, Q q → q < w0.heap.size) (hz : Okz t) (hv : Wi.IsIt w0 Q t v) (X : World) (hX : Kp Q w0 X) : Calls Try.prog 45 #[v] X (RetBelow (.tuple #[sesV (sesP t), .bool (okP t)]) X) := by
  obtain ⟨u0, i0, q0⟩ := part_k hQ 0 hv
  obtain ⟨u1, i1, q1⟩ := part_k hQ 1 hv
  obtain ⟨u2, i2, q2⟩ := part_k hQ 2 hv
  obtain ⟨u3, i3, q3⟩ := part_k hQ 3 hv
  obtain ⟨kk, ss, AA, cc, rfl, _⟩ := IsIt.form hv
  obtain ⟨k0, s0, A0, c0, rfl, _⟩ := IsIt.form i0
  obtain ⟨k1, s1, A1, c1, rfl, _⟩ := IsIt.form i1
  obtain ⟨k2, s2, A2, c2, rfl, _⟩ := IsIt.form i2
  obtain ⟨k3, s3, A3, c3, rfl, e3, _⟩ := IsIt.form i3
  have hs3 := str_of e3
  have hl3 : (txt (part t 3)).length ≤ 281474976710656 := by have := okz_txt (okz_part hz 3); omega
  have hup : ∀ Y, Calls Try.prog 60 #[.string s3] Y fun e Z => e = .returned (.tuple #[rpV (rOf (Wi.resR (txt (part t 3)))), .int .i64 (if okP t = true then 0 else 4)]) ∧ Below Y.heap.size Y Z := fun Y => by
    rw [hs3]
    refine (Wi.unpackR_any _ Y hl3).mono ?_
    rintro e Z ⟨he, hb⟩
    refine ⟨?_, hb⟩
    rw [he]
    unfold okP
    cases Wi.resR (txt (part t 3)) with
    | none => rfl
    | some x =>
      obtain ⟨x0, x1, x2, x3, x4, x5⟩ := x
      rfl
  have hok : ((if okP t = true then (0 : Int) else 4) == 0) = okP t := by cases okP t <;> rfl
  have hkp : ∀ Y, Below X.heap.size X Y → Kp Q w0 Y := fun Y hY => hX.below hQ hY
  exact ses_core kk (num t) ss AA (els t).length cc k0 (num (part t 0)) s0 A0 (els (part t 0)).length c0 k1 (num (part t 1)) s1 A1 (els (part t 1)).length c1 k2 (num (part t 2)) s2 A2 (els (part t 2)).length c2 k3 (num (part t 3)) s3 A3 (els (part t 3)).length c3
    (rOf (Wi.resR (txt (part t 3)))).e (rOf (Wi.resR (txt (part t 3)))).s (rOf (Wi.resR (txt (part t 3)))).a (rOf (Wi.resR (txt (part t 3)))).b (rOf (Wi.resR (txt (part t 3)))).c (rOf (Wi.resR (txt (part t 3)))).n _ (okP t) X (Lib.hid hok)
    (Lib.hid fun Y hY => q0 Y (hkp Y hY)) (Lib.hid fun Y hY => q1 Y (hkp Y hY)) (Lib.hid fun Y hY => q2 Y (hkp Y hY)) (Lib.hid fun Y hY => q3 Y (hkp Y hY)) (Lib.hid hup)
end Go.Proofs.Ytphclpjekpdifaa
