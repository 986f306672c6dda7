import Derived.Test.YtlimjfnolidbmaaLv
namespace Go.Proofs.Ytlimjfnolidbmaa
set_option maxRecDepth 20000
open Go.RowKit RL
set_option linter.unusedVariables false
/-! ### awake -/
def eA : En := ⟨1, ⟨#[97]⟩⟩
def eB : En := ⟨1, ⟨#[98]⟩⟩
def eC : En := ⟨1, ⟨#[99]⟩⟩
def eD : En := ⟨2, ⟨#[100]⟩⟩
theorem put1 : (⟨0, 0, [eA, eB, eC]⟩ : Lg).put 2 1 [eD] = (⟨0, 0, [eA, eB, eD]⟩, 3, 0) := by rfl
theorem put2 : (⟨0, 0, [eA, eB, eD]⟩ : Lg).put 2 1 [eD] = (⟨0, 0, [eA, eB, eD]⟩, 0, 0) := by rfl
theorem put3 : (⟨0, 0, [eA, eB, eD]⟩ : Lg).put 9 1 [] = (⟨0, 0, [eA, eB, eD]⟩, 0, 10) := by rfl
theorem cut1 : (⟨0, 0, [eA, eB, eD]⟩ : Lg).cut 2 = (⟨2, 1, [eD]⟩, 0) := by rfl
theorem from1 : (⟨2, 1, [eD]⟩ : Lg).from_ 3 9 = [eD] := by rfl
theorem newer1 : (⟨2, 1, [eD]⟩ : Lg).newer 3 2 = true := by rfl
theorem newer2 : (⟨2, 1, [eD]⟩ : Lg).newer 9 1 = false := by rfl
theorem last1 : (⟨0, 0, [eA, eB, eD]⟩ : Lg).last = 3 := by rfl
theorem lterm1 : (⟨0, 0, [eA, eB, eD]⟩ : Lg).lterm = 2 := by rfl
theorem invA : Inv ⟨0, 0, [eA, eB, eC]⟩ := ⟨by decide, by decide, ⟨by decide, by decide⟩, by intro x hx; simp only [List.mem_cons, List.not_mem_nil, or_false] at hx; rcases hx with rfl | rfl | rfl <;> exact ⟨by decide, by decide⟩, by decide⟩
theorem invB : Inv ⟨0, 0, [eA, eB, eD]⟩ := ⟨by decide, by decide, ⟨by decide, by decide⟩, by intro x hx; simp only [List.mem_cons, List.not_mem_nil, or_false] at hx; rcases hx with rfl | rfl | rfl <;> exact ⟨by decide, by decide⟩, by decide⟩
theorem invC : Inv ⟨2, 1, [eD]⟩ := ⟨by decide, by decide, ⟨by decide, by decide⟩, by intro x hx; simp only [List.mem_cons, List.not_mem_nil, or_false] at hx; rcases hx with rfl <;> exact ⟨by decide, by decide⟩, by decide⟩
set_option maxHeartbeats 2000000 in
theorem awake_any (w : World) : Calls Try.prog 9 #[] w (RetBelow (.bool true) w) := by
  have hbE : ∀ (W : World) (t : Int) (d : ByteArray), (Instr.build 32 #[(0, .int .i64 t), (1, .string d)]).run Try.prog W = .ok (.agg #[.int .i64 t, .string d]) W := fun W t d => run_build W 32 _ _ (by kernel_rfl)
  have R1 : Hid (Rd DE (w.alloc (.cells #[.int .i64 1, .string ⟨#[97]⟩, .int .i64 1, .string ⟨#[98]⟩, .int .i64 1, .string ⟨#[99]⟩] 32)) (fun k => k = w.heap.size) (some ⟨w.heap.size, 0, none⟩) [eA, eB, eC]) := Lib.hid (Rd.lit (heap_alloc_new w _) rfl)
  have B1 : Hid (Below w.heap.size w (w.alloc (.cells #[.int .i64 1, .string ⟨#[97]⟩, .int .i64 1, .string ⟨#[98]⟩, .int .i64 1, .string ⟨#[99]⟩] 32))) := Lib.hid ((Below.refl _ w).alloc (Nat.le_refl _) _)
  have e3 : Hid ([eA, eB, eC].length = 3) := Lib.hid rfl
  have e1 : Hid ([eD].length = 1) := Lib.hid rfl
  have e0 : Hid (([] : List En).length = 0) := Lib.hid rfl
  have cA : Hid ((0 : Int) ≤ 0 ∧ (0 : Int) ≤ 0 ∧ (0 : Int) ≤ 4611686018427387904 - ([eA, eB, eC].length : Int)) := Lib.hid (by decide)
  have cN : Hid (¬ ((0 : Int) ≤ -1 ∧ (0 : Int) ≤ 0 ∧ (-1 : Int) ≤ 4611686018427387904 - (([] : List En).length : Int))) := Lib.hid (by decide)
  have OK1 : Hid (∀ x ∈ [eD], I64 x.t) := Lib.hid (fun x hx => invC.all x hx)
  have OK0 : Hid (∀ x ∈ ([] : List En), I64 x.t) := Lib.hid (fun x hx => by cases hx)
  have n1 : Hid ([eA, eB, eC].length + 1 ≤ 400000) := Lib.hid (by decide)
  have n2 : Hid ([eA, eB, eD].length + 1 ≤ 400000) := Lib.hid (by decide)
  have n0 : Hid ([eA, eB, eD].length + 0 ≤ 400000) := Lib.hid (by decide)
  have i2 : Hid (I64 2) := Lib.hid ⟨by decide, by decide⟩
  have i9 : Hid (I64 9) := Lib.hid ⟨by decide, by decide⟩
  have i3 : Hid (I64 3) := Lib.hid ⟨by decide, by decide⟩
  have z1 : Hid (1 ≤ 9223372036854775807) := Lib.hid (by decide)
  have z0 : Hid (0 ≤ 9223372036854775807) := Lib.hid (by decide)
  have y3 : Hid (3 ≤ 1000000) := Lib.hid (by decide)
  have y0 : Hid (0 ≤ 1000000) := Lib.hid (by decide)
  have aS : Hid (∀ (q o : Nat), (some ⟨q, o, none⟩ : Option Addr) = none ∨ ∃ q' o', (some ⟨q, o, none⟩ : Option Addr) = some ⟨q', o', none⟩) := Lib.hid fun q o => .inr ⟨q, o, rfl⟩
  have f1 : Hid ((⟨2, 1, [eD]⟩ : Lg).from_ 3 9 = [eD]) := Lib.hid from1
  have P1 := Lib.hid put1
  have P2 := Lib.hid put2
  have P3 := Lib.hid put3
  have CU := Lib.hid cut1
  have LA := Lib.hid last1
  have LT := Lib.hid lterm1
  have N1 := Lib.hid newer1
  have N2 := Lib.hid newer2
  have FR : Hid (∀ w0 X b S H, Lv w0 X b ⟨2, 1, [eD]⟩ S H → Calls Try.prog 24 #[.pointer (some ⟨b, 0, none⟩), .int .i64 3, .int .i64 9] X fun e w' => ∃ q o cap, e = .returned (.slice (some ⟨q, o, none⟩) 1 cap) ∧ 1 ≤ cap ∧ cap ≤ 9223372036854775807 ∧ q < w'.heap.size ∧ w'.cell? ⟨q, o + 1, none⟩ = some (.string ⟨#[100]⟩) ∧ Lv w0 w' b ⟨2, 1, [eD]⟩ S (fun k => H k ∨ (X.heap.size ≤ k ∧ k < w'.heap.size))) := Lib.hid fun w0 X b S H h => by
    refine (from_lv h i3.out i9.out).mono fun e w' ⟨A, cap, h1, h2, h3, h4, h5, h6, h7, h8⟩ => ?_
    rw [from1] at h1 h2 h6
    obtain ⟨q, o, rfl, _, h9, h10⟩ := h6.at_ (i := 0) (x := eD) rfl
    exact ⟨q, o, cap, h1, h2, h3, h9, h10 1 _ rfl, h7⟩
  go_enter Try.func9, Try.ntmps9
  go_wp2_with (first
    | (go_at_call 21; (with_reducible refine (newer_any K9.out.log K9.out.inv 9 1).mono ?_); rintro e w10 ⟨rfl, hb⟩; rw [N2.out]; have K10 := Lib.hid (K9.out.step hb); clear hb)
    | (go_at_call 21; (with_reducible refine (newer_any K8.out.log K8.out.inv 3 2).mono ?_); rintro e w9 ⟨rfl, hb⟩; rw [N1.out]; have K9 := Lib.hid (K8.out.step hb); have b8 := cellB c8 hb l8; clear hb)
    | (go_at_call 24; (with_reducible refine (FR.out _ _ _ _ _ K7.out).mono ?_); rintro e w8 ⟨q8, o8, cap8, rfl, h8a, h8b, l8, c8, h8⟩; have K8 := Lib.hid h8; clear h8)
    | (go_at_call 31; (with_reducible refine (base_any K6.out.log).mono ?_); rintro e w7 ⟨rfl, hb⟩; have K7 := Lib.hid (K6.out.step hb); clear hb)
    | (go_at_call 15; (with_reducible refine (cut_lv K5.out i2.out).mono ?_); rintro e w6 ⟨rfl, S6, hk, _⟩; rw [CU.out] at hk ⊢; have K6 := Lib.hid hk; clear hk)
    | (go_at_call 29; (with_reducible refine (last_any K4.out.log K4.out.inv).mono ?_); rintro e w5b ⟨rfl, hb⟩; rw [LA.out, LT.out]; have K5 := Lib.hid (K4.out.step hb); clear hb)
    | (go_at_call 13; (with_reducible refine (put_lv K3b.out (Rd.nil DE _ _ none) e0.out (Nat.le_refl _) z0.out n0.out i9.out OK0.out).mono ?_); rintro e w5 ⟨rfl, S5, hk, _⟩; rw [P3.out] at hk ⊢; have K4 := Lib.hid hk; clear hk)
    | (go_at_call 13; (with_reducible refine (put_lv K3a.out R3a.out e1.out (Nat.le_refl _) z1.out n2.out i2.out OK1.out).mono ?_); rintro e w4 ⟨rfl, S4, hk, hf⟩; rw [P2.out] at hk ⊢; have K3b := Lib.hid hk; clear hk)
    | (go_at_call 13; have K3 := Lib.hid (K2.out.hold ((Below.refl _ w2).alloc (Nat.le_refl _) (.cells #[.int .i64 2, .string ⟨#[100]⟩] 32))); have R3 : Hid (Rd DE (w2.alloc (.cells #[.int .i64 2, .string ⟨#[100]⟩] 32)) (fun k => False ∨ (w2.heap.size ≤ k ∧ k < (w2.alloc (.cells #[.int .i64 2, .string ⟨#[100]⟩] 32)).heap.size)) (some ⟨w2.heap.size, 0, none⟩) [eD]) := Lib.hid (Rd.lit (heap_alloc_new w2 _) (.inr ⟨Nat.le_refl _, by simp⟩)); (with_reducible refine (put_lv K3.out R3.out e1.out (Nat.le_refl _) z1.out n1.out i2.out OK1.out).mono ?_); rintro e w3 ⟨rfl, S3, hk, hf⟩; have R3a := Lib.hid (K3.out.rd hf R3.out); rw [P1.out] at hk ⊢; have K3a := Lib.hid hk; clear hk hf)
    | (go_at_call 10; (with_reducible refine (new_no (H := fun _ => False) (Rd.nil DE w1 _ none) e0.out (Nat.le_refl _) (fun _ => rfl) y0.out cN.out).mono ?_); rintro e w2 ⟨rfl, hb⟩; have K2 := Lib.hid (K1.out.step hb); clear hb)
    | (go_at_call 10; (with_reducible refine (new_yes R1.out e3.out (Nat.le_refl _) (fun h => by cases h) y3.out cA.out).mono ?_); rintro e w1 ⟨b, rfl, hl, hb⟩; have K1 := Lib.hid (Lv.begin (H := fun _ => False) B1.out hb hl invA (fun k q => q.elim)); clear hl hb))
  go_ret
  exact ⟨rfl, K10.out.bel⟩
end Go.Proofs.Ytlimjfnolidbmaa
