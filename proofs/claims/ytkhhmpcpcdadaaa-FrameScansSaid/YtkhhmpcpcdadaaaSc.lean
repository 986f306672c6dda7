import Derived.Test.YtkhhmpcpcdadaaaRw
namespace Go.Proofs.Ytkhhmpcpcdadaaa
open Go.RowKit
set_option linter.unusedVariables false

/-- a slice is cut at its front -/
theorem slice_from {w : World} {A : Option Addr} {c n B : Nat} {bs : List UInt8} (h : BytesAt w B A bs) (k : Nat) (hn : bs.length = n) (h1 : k ≤ n) (h2 : n ≤ c) :
    ∃ A', (∀ W : World, (Instr.slice 22 (.slice A n c) (some (.int .i64 (k : Nat))) none none).run Try.prog W = .ok (.slice A' (n - k) (c - k)) W) ∧ BytesAt w B A' (bs.drop k) := by
  have hk : (k : Int) ≤ (n : Int) := by omega
  have h0 : (0 : Int) ≤ (k : Int) := by omega
  refine ⟨if c = k then A else A.map (·.add (k * 1)), fun W => ?_, ?_⟩
  · clear hn
    go_simp
  · split
    · rename_i e
      rw [List.drop_of_length_le (by omega)]
      exact BytesAt.nil _ _ _
    · rw [Nat.mul_one]; exact h.drop' k
/-- every slice ends with its bytes -/
def Tight (vs : List Value) : Prop := ∀ v ∈ vs, ∃ A n, v = .slice A n n
def ScanPost (bs : List UInt8) (B : Nat) (w : World) (e : Ending) (w' : World) : Prop := Below w.heap.size w w' ∧
  ∃ A c vs, e = .returned (.tuple #[.slice A (Fr.scan bs).1.length c, .int .i64 (Fr.scan bs).2]) ∧ OwnV w' w.heap.size (.slice A (Fr.scan bs).1.length c) vs ∧ Rows w B (Fr.scan bs).1 vs ∧ Tight vs
def SRel (bs : List UInt8) (B : Nat) (w : World) (pv sv : Value) (wr : World) : Prop :=
  ∃ (k : Nat) (ls : List (List UInt8)) (vs : List Value), k ≤ bs.length ∧ 8 * ls.length ≤ k ∧ sv = .int .i64 k ∧ OwnV wr w.heap.size pv vs ∧ Rows w B ls vs ∧ Tight vs ∧ Below w.heap.size w wr ∧
    (Fr.scan bs).1 = ls ++ (Fr.scan (bs.drop k)).1 ∧ (Fr.scan bs).2 = k + (Fr.scan (bs.drop k)).2
set_option maxRecDepth 20000 in
theorem scan_any (bs : List UInt8) (A : Option Addr) (n cap B : Nat) (w : World) (hB : B ≤ w.heap.size) (hb : BytesAt w B A bs) (hn : bs.length = n) (hnm : n ≤ 1000000) (hnc : n ≤ cap) (hc : cap ≤ 9223372036854775807) : Calls Try.prog 13 #[.slice A n cap] w (ScanPost bs B w) := by
  have HB := Lib.hid hb
  have HN := Lib.hid hn
  clear hb hn
  go_enter Try.func13, Try.ntmps13
  go_wp2_with fail
  go_loopw [4, 5] (SRel bs B w) (fun _ i _ => n - (intOf i).toNat)
  case atStart => exact ⟨0, [], [], by omega, by simp, rfl, OwnV.none _ _, Rows.nil _ _, (fun v hv => by cases hv), Below.refl _ _, by rw [List.drop_zero, List.nil_append], by rw [List.drop_zero, Nat.zero_add]⟩
  case round =>
    obtain ⟨k, ls, vs, hk, hk8, rfl, own, rows, tight, bel, s1, s2⟩ := hrel
    have hkn : k ≤ n := by rw [HN.out] at hk; exact hk
    have bel' := bel
    obtain ⟨A', hsl, hba⟩ := slice_from (HB.out.keep fun q hq => bel'.block q (by omega)) k HN.out hkn hnc
    have OW := Lib.hid own
    have RO := Lib.hid rows
    have TI := Lib.hid tight
    have BE := Lib.hid bel
    have S1 := Lib.hid s1
    have S2 := Lib.hid s2
    have HL : Hid ((bs.drop k).length = n - k) := Lib.hid (by rw [List.length_drop, HN.out])
    clear hk own rows tight bel bel' s1 s2
    go_wp2_with fail
    refine (first_any (bs.drop k) A' (n - k) (cap - k) B wr (Nat.le_trans hB BE.out.size) hba HL.out (by omega) (by omega)).mono ?_
    clear hsl hba
    rintro e w1 ⟨b1, hcase⟩
    rcases hcase with ⟨hf, rfl⟩ | ⟨p, Ap, hf, rfl, hp⟩
    · rw [Fr.scan_none hf, List.append_nil] at S1
      rw [Fr.scan_none hf, Nat.add_zero] at S2
      have B1 := Lib.hid b1
      clear b1 hf
      obtain ⟨Av, cv, rfl, _, _⟩ := OW.out.form
      have HLV : Hid ((Fr.scan bs).1.length = vs.length) := Lib.hid (by rw [S1.out]; exact RO.out.1)
      go_wp2_with fail
      go_ret2
      refine ⟨BE.out.trans (B1.out.mono BE.out.size), Av, cv, vs, ?_, ?_, ?_, TI.out⟩
      · rw [HLV.out, S2.out]; rfl
      · rw [HLV.out]; exact OW.out.belows B1.out
      · rw [S1.out]; exact RO.out
    · have hl := Fr.first_len hf
      rw [List.length_drop, HN.out] at hl
      obtain ⟨s1, s2⟩ := Fr.scan_step S1.out S2.out hf
      have S1' := Lib.hid s1
      have S2' := Lib.hid s2
      have P' : BytesAt w B Ap p := hp.keep fun q hq => (BE.out.block q (by omega)).symm
      have RO' := Lib.hid (RO.out.add (v := .slice Ap p.length p.length) (l := p) ⟨Ap, p.length, rfl, Nat.le_refl _, by omega, (fun e => by
        subst e
        cases p with
        | nil => rfl
        | cons x r => (obtain ⟨b, off, h1, _⟩ := hp (by simp); cases h1)), P'⟩)
      have TI' : Hid (Tight (vs ++ [.slice Ap p.length p.length])) := Lib.hid (fun v hv => by
        rcases List.mem_append.1 hv with h | h
        · exact TI.out v h
        · rw [List.mem_singleton] at h; exact ⟨Ap, p.length, h⟩)
      have B1 := Lib.hid b1
      obtain ⟨q, hq⟩ : ∃ q, q = p.length := ⟨_, rfl⟩
      rw [← hq] at S1' S2' RO' TI' hl ⊢
      have H8 : Hid (8 * (ls ++ [p]).length ≤ k + (8 + q)) := Lib.hid (by rw [List.length_append, List.length_singleton]; omega)
      have HV : Hid (vs.length = ls.length) := Lib.hid RO.out.1.symm
      obtain ⟨hl1, hl2, hl3⟩ := hl
      have hk2 : k + 8 + q ≤ n := by omega
      have HK : Hid (k + (8 + q) ≤ bs.length) := Lib.hid (by rw [HN.out]; omega)
      have OW1 := Lib.hid (OW.out.belows B1.out)
      have BE1 := Lib.hid (BE.out.trans (B1.out.mono BE.out.size))
      clear s1 s2 b1 hf hp P' hq hl1 hl2 hl3
      have OW2 : Hid (OwnV (w1.alloc (.cells #[.slice Ap q q] 22)) w.heap.size u4 vs) := Lib.hid (OW1.out.belows ((Below.refl _ _).alloc (Nat.le_refl _) _))
      go_wp2_with (with_reducible refine wp_appV rfl (.tmp 19) (.tmp 21) rfl w.heap.size u4 vs rfl OW2.out w1.heap.size (.slice Ap q q) ⟨_, _, _, rfl⟩ rfl (heap_alloc_new w1 _) (by have := HV.out; omega) (by rw [World.size_alloc]; have := BE1.out.size; omega) ?_)
      rintro v2 w2 own2 grow2
      have OW3 := Lib.hid own2
      have BE3 : Hid (Below w.heap.size w w2) := Lib.hid ((BE1.out.alloc BE1.out.size _).grown grow2 (by rw [World.size_alloc]; have := BE1.out.size; omega) fun g hg => (OW2.out.lt g hg).1)
      clear own2 grow2
      go_wp2_with fail
      go_roundw
      case rel => exact ⟨k + (8 + q), ls ++ [p], _, HK.out, H8.out, by go_num, OW3.out, RO'.out, TI'.out, BE3.out, S1'.out, S2'.out⟩
      case measure => simp [intOf]; omega
end Go.Proofs.Ytkhhmpcpcdadaaa
