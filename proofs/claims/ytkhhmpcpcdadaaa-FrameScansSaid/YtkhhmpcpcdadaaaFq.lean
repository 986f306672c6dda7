import Derived.Test.YtkhhmpcpcdadaaaFw
namespace Go.Proofs.Ytkhhmpcpcdadaaa
open Go.RowKit
set_option linter.unusedVariables false

/-! ### number -/
theorem or_byte (n : Nat) (x : UInt8) (h : n < 16777216) : bits .or .u32 ((n * 256 : Nat) : Int) (x.toNat : Int) = ((n * 256 + x.toNat : Nat) : Int) := by
  have hx := x.toNat_lt
  rw [u32_or_nat _ _ (by omega) (by omega)]
  congr 1
  rw [show n * 256 = 2 ^ 8 * n by omega, Nat.two_pow_add_eq_or_of_lt (by omega)]
theorem num_take_snoc (bs : List UInt8) (k : Nat) (x : UInt8) (h : bs[k]? = some x) : Fr.num (bs.take (k + 1)) = Fr.num (bs.take k) * 256 + x.toNat := by
  obtain ⟨hk, rfl⟩ := List.getElem?_eq_some_iff.1 h
  rw [List.take_succ_eq_append_getElem hk, Fr.num_snoc]
theorem num_take_lt (bs : List UInt8) (k : Nat) (hk : k < 4) : Fr.num (bs.take k) < 16777216 := by
  have h := Fr.num_lt (bs.take k)
  have h2 : 256 ^ (bs.take k).length ≤ 256 ^ 3 := Nat.pow_le_pow_right (by omega) (by rw [List.length_take]; omega)
  have : (256 : Nat) ^ 3 = 16777216 := by decide
  omega
def NumRel (bs : List UInt8) (v i : Value) : Prop := ∃ k : Nat, k ≤ 4 ∧ i = .int .i64 k ∧ v = .int .u32 (Fr.num (bs.take k) : Nat)
set_option maxRecDepth 20000 in
theorem number_any (bs : List UInt8) (A : Option Addr) (c B : Nat) (w : World) (hb : BytesAt w B A bs) (hn : bs.length = 4) : Calls Try.prog 25 #[.slice A 4 c] w fun e w' => e = .returned (.int .u32 (Fr.num bs : Nat)) ∧ w = w' := by
  have HN := Lib.hid hn
  obtain ⟨b, off, rfl, hb1, hb2⟩ := hb (fun e => by rw [e] at hn; simp at hn)
  have HB := Lib.hid hb2
  clear hn hb hb2
  go_enter Try.func25, Try.ntmps25
  go_wp2_with fail
  go_loop [3, 8] (NumRel bs) (fun _ i => 4 - (intOf i).toNat)
  case atStart => exact ⟨0, by omega, rfl, rfl⟩
  case round =>
    obtain ⟨k, hk, rfl, rfl⟩ := hrel
    by_cases hlt : k < 4
    · have hbl : k < bs.length := by rw [HN.out]; exact hlt
      have hx : bs[k]? = some bs[k] := List.getElem?_eq_getElem hbl
      have hcell : w.cell? ⟨b, off + k, none⟩ = some (.int .u8 (bs[k].toNat : Int)) := HB.out k _ hx
      have HS := Lib.hid (num_take_snoc bs k _ hx)
      have hl := num_take_lt bs k hlt
      have ho := or_byte _ bs[k] hl
      have hxl : (bs[k].toNat : Int) ≤ 255 := by have := bs[k].toNat_lt; omega
      clear hx
      generalize Fr.num (bs.take k) = q at *
      generalize bs[k] = x at *
      clear hbl
      have hq : ((q * 256 : Nat) : Int) = (q : Int) * 256 := by omega
      rw [hq] at ho
      clear hq
      go_wp2_with fail
      go_round
      case rel => exact ⟨k + 1, by omega, by go_num, by rw [HS.out]; go_num⟩
      case measure => simp [intOf]; omega
    · obtain rfl : k = 4 := by omega
      go_wp2_with fail
      go_ret
      exact ⟨by rw [List.take_of_length_le (by rw [HN.out]; omega)]; rfl, rfl⟩

/-! ### first -/
def FirstPost (bs : List UInt8) (B : Nat) (w : World) (e : Ending) (w' : World) : Prop := Below w.heap.size w w' ∧
  ((Fr.first bs = none ∧ e = .returned (.tuple #[.slice none 0 0, .bool false])) ∨
    ∃ p A', Fr.first bs = some p ∧ e = .returned (.tuple #[.slice A' p.length p.length, .bool true]) ∧ BytesAt w B A' p)
theorem first_short (bs : List UInt8) (A : Option Addr) (n cap B : Nat) (w : World) (hn : bs.length = n) (h8 : n < 8) : Calls Try.prog 20 #[.slice A n cap] w (FirstPost bs B w) := by
  have H : Hid (Fr.first bs = none) := Lib.hid (by unfold Fr.first; rw [if_pos (by omega)])
  clear hn
  go_enter Try.func20, Try.ntmps20
  go_wp2_with fail
  go_ret2
  exact ⟨Below.refl _ _, .inl ⟨H.out, rfl⟩⟩
theorem BytesAt.at {w : World} {B b off : Nat} {bs : List UInt8} (h : BytesAt w B (some ⟨b, off, none⟩) bs) (hb : b < B) (k n : Nat) : BytesAt w B (some ⟨b, off + k, none⟩) ((bs.take n).drop k) := fun hne => by
  obtain ⟨b2, off2, e, h2, h3⟩ := h (fun e => hne (by rw [e]; simp))
  injection e with e
  injection e with e1 e2
  subst e1 e2
  refine ⟨b, off + k, rfl, hb, fun j u hu => ?_⟩
  rw [List.getElem?_drop, List.getElem?_take] at hu
  split at hu
  · have := h3 (k + j) u hu
    rw [← Nat.add_assoc] at this
    exact this
  · cases hu
set_option maxRecDepth 20000 in
theorem first_any (bs : List UInt8) (A : Option Addr) (n cap B : Nat) (w : World) (hB : B ≤ w.heap.size) (hb : BytesAt w B A bs) (hn : bs.length = n) (hnc : n ≤ cap) (hc : cap ≤ 9223372036854775807) : Calls Try.prog 20 #[.slice A n cap] w (FirstPost bs B w) := by
  by_cases h8 : n < 8
  · exact first_short bs A n cap B w hn h8
  have h8' : ¬ (n : Int) < 8 := by omega
  obtain ⟨b, off, rfl, hb1, _⟩ := id (hb (fun e => by rw [e] at hn; simp at hn; omega))
  have c4 : ¬ cap = 4 := by omega
  have hb48 := hb.at hb1 4 8
  have cn1 := Lib.hid (fun c => number_any ((bs.take 8).drop 4) (some ⟨b, off + 4, none⟩) c B w hb48 (by simp; omega))
  have l4 : Fr.lenOf bs < 4294967296 := Fr.num_four _ (by simp; omega)
  have hL : Fr.num ((bs.take 8).drop 4) = Fr.lenOf bs := rfl
  rw [hL] at cn1
  have hi8 : (8 : Int) ≤ cap := by omega
  have hi4 : (4 : Int) ≤ cap := by omega
  clear hL hb48
  have HF := Lib.hid (Fr.first_eq bs)
  rw [if_neg (by omega), hn] at HF
  have HN := Lib.hid hn
  have HB := Lib.hid hb
  clear hn hb h8
  by_cases hbig : 4096 < Fr.lenOf bs ∨ n - 8 < Fr.lenOf bs
  · rw [if_pos hbig] at HF
    generalize Fr.lenOf bs = q at *
    by_cases h1 : 4096 < q
    · clear hbig
      have q4 : (4096 : Int) < q := by omega
      go_enter Try.func20, Try.ntmps20
      go_wp2_with (go_at_call 25; refine (cn1.out _).mono ?_; rintro e w' ⟨rfl, rfl⟩)
      go_ret2
      exact ⟨Below.refl _ _, .inl ⟨HF.out, rfl⟩⟩
    · have q4 : ¬ (4096 : Int) < q := by omega
      have q3 : (n : Int) - 8 < q := by omega
      clear hbig
      go_enter Try.func20, Try.ntmps20
      go_wp2_with (go_at_call 25; refine (cn1.out _).mono ?_; rintro e w' ⟨rfl, rfl⟩)
      go_ret2
      exact ⟨Below.refl _ _, .inl ⟨HF.out, rfl⟩⟩
  · rw [if_neg hbig] at HF
    have q1 : Fr.lenOf bs ≤ 4096 := by omega
    have q2 : Fr.lenOf bs + 8 ≤ n := by omega
    clear hbig
    obtain ⟨E, hE⟩ : ∃ E, E = 8 + Fr.lenOf bs := ⟨_, rfl⟩
    rw [← hE] at HF
    have hEi : (8 : Int) + (Fr.lenOf bs : Int) = (E : Int) := by omega
    have hE8 : (8 : Int) ≤ E := by omega
    have hE4 : (4 : Int) ≤ E := by omega
    have hEc : (E : Int) ≤ cap := by omega
    have hbl := (HB.out.at hb1 4 E)
    have hll : ((bs.take E).drop 4).length = E - 4 := by rw [List.length_drop, List.length_take, HN.out]; omega
    have cn2 := Lib.hid (fun (W : World) (h : Below w.heap.size w W) => number_any (bs.take 4) (some ⟨b, off, none⟩) cap B W ((HB.out.take 4).keep fun q hq => h.block q (by omega)) (by rw [List.length_take, HN.out]; omega))
    have cs := Lib.hid (fun (W : World) (h : Below w.heap.size w W) => sum_any _ (some ⟨b, off + 4, none⟩) (E - 4) (cap - 4) W ((hbl.keep fun q hq => h.block q (by omega)).mono (Nat.le_trans hB h.size)) hll (by omega))
    have hp8 : BytesAt w B (if E = 8 then some ⟨b, off, none⟩ else some ⟨b, off + 8, none⟩) ((bs.take E).drop 8) := by
      split
      · rename_i h; rw [h, List.drop_of_length_le (by rw [List.length_take]; omega)]; exact BytesAt.nil _ _ _
      · exact HB.out.at hb1 8 _
    have hpl : ((bs.take E).drop 8).length = E - 8 := by rw [List.length_drop, List.length_take, HN.out]; omega
    have HP8 := Lib.hid hp8
    have HPL := Lib.hid hpl
    have sl : Pl.sum ((bs.take E).drop 4) < 4294967296 := Pl.more_lt _ _
    have nl : Fr.num (bs.take 4) < 4294967296 := Fr.num_four _ (by rw [List.length_take, HN.out]; omega)
    have HE := Lib.hid hE
    have hcut : ∀ W : World, (Instr.slice 22 (.slice (some ⟨b, off, none⟩) n cap) (some (.int .i64 8)) (some (.int .i64 E)) (some (.int .i64 E))).run Try.prog W = .ok (.slice (if E = 8 then some ⟨b, off, none⟩ else some ⟨b, off + 8, none⟩) (E - 8) (E - 8)) W := fun W => by
      clear hEi hE
      go_simp
    clear hbl hll hp8 hpl hE
    generalize (if E = 8 then some (⟨b, off, none⟩ : Addr) else some ⟨b, off + 8, none⟩) = A8 at *
    generalize (bs.take E).drop 8 = p at *
    generalize Pl.sum ((bs.take E).drop 4) = S at *
    generalize Fr.num (bs.take 4) = T at *
    generalize Fr.lenOf bs = q at *
    have q3 : ¬ (n : Int) - 8 < q := by omega
    have q4 : ¬ (4096 : Int) < q := by omega
    by_cases hTS : T = S
    · rw [if_pos hTS] at HF
      subst hTS
      have hne : ((T : Int) != (T : Int)) = false := by rw [bne_self_eq_false]
      go_enter Try.func20, Try.ntmps20
      go_wp2_with (go_at_call 25; refine (cn1.out _).mono ?_; rintro e w' ⟨rfl, rfl⟩)
      have D0 : Hid (Below w.heap.size w w.drew) := Lib.hid ((Below.refl _ w).drew)
      go_region_held3 (fun _ => True) (trivial) (first
        | (go_at_call 25; (with_reducible refine (cn2.out _ D0.out).mono ?_); rintro e w4 ⟨rfl, rfl⟩)
        | (go_at_call 22; (with_reducible refine (cs.out _ D0.out).mono ?_); rintro e w5 ⟨rfl, hb4⟩; have B4 : Hid (Below w.heap.size w w5) := Lib.hid (D0.out.trans hb4); clear hb4))
      go_wp2_with fail
      go_ret2
      exact ⟨B4.out, .inr ⟨p, A8, HF.out, by rw [HPL.out]; rfl, HP8.out⟩⟩
    · rw [if_neg hTS] at HF
      have hne : ((T : Int) != (S : Int)) = true := by rw [bne_iff_ne]; omega
      go_enter Try.func20, Try.ntmps20
      go_wp2_with (go_at_call 25; refine (cn1.out _).mono ?_; rintro e w' ⟨rfl, rfl⟩)
      have D0 : Hid (Below w.heap.size w w.drew) := Lib.hid ((Below.refl _ w).drew)
      go_region_held3 (fun _ => True) (trivial) (first
        | (go_at_call 25; (with_reducible refine (cn2.out _ D0.out).mono ?_); rintro e w4 ⟨rfl, rfl⟩)
        | (go_at_call 22; (with_reducible refine (cs.out _ D0.out).mono ?_); rintro e w5 ⟨rfl, hb4⟩; have B4 : Hid (Below w.heap.size w w5) := Lib.hid (D0.out.trans hb4); clear hb4))
      go_wp2_with fail
      go_ret2
      exact ⟨B4.out, .inl ⟨HF.out, rfl⟩⟩
end Go.Proofs.Ytkhhmpcpcdadaaa
