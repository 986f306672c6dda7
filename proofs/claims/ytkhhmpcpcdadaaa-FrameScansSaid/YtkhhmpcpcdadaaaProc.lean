import Derived.Test.YtkhhmpcpcdadaaaMem
namespace Go.Proofs.Ytkhhmpcpcdadaaa
open Go.RowKit
set_option linter.unusedVariables false

theorem Pl.zeros0_succ : ∀ (n s : Nat), Pl.zeros0 (n + 1) s = Pl.step0 (Pl.zeros0 n s) := by
  intro n
  induction n with
  | zero => intro s; rfl
  | succ n ih => intro s; rw [Pl.zeros0, ih]; rfl
theorem Pl.byte_code (s : Nat) (c : UInt8) (hs : s < 4294967296) : Pl.byte s c = (s / 256) ^^^ Pl.entry ((s % 256) ^^^ c.toNat) := by
  rw [Pl.byte_table s c hs, Nat.xor_comm]
  have h : (s ^^^ c.toNat) % 2 ^ 8 = s % 2 ^ 8 ^^^ c.toNat % 2 ^ 8 := Nat.xor_mod_two_pow
  have hc := c.toNat_lt
  rw [show (256 : Nat) = 2 ^ 8 from rfl, h, show c.toNat % 2 ^ 8 = c.toNat from by omega]
theorem Pl.entry_lt (i : Nat) (h : i < 4294967296) : Pl.entry i < 4294967296 := Pl.zeros0_lt 8 i h
theorem Pl.byte_lt (s : Nat) (c : UInt8) (hs : s < 4294967296) : Pl.byte s c < 4294967296 := by
  have h := Pl.more0_lt [c] s hs
  simpa [Pl.more0] using h

/-- the table, filled up to place k -/
def tabOf (k : Nat) : Array Value := Array.ofFn (n := 256) fun i => .int .u32 ((if i.val < k then Pl.entry i.val else 0 : Nat) : Int)
theorem zero36 (w : World) : Sem.run Try.prog (zeroValue 50) w = .ok (.agg (tabOf 0)) w := by kernel_rfl
theorem tabOf_size (k : Nat) : (tabOf k).size = 256 := by simp [tabOf]
theorem tabOf_at (k i : Nat) (h : i < 256) : (tabOf k)[i]? = some (.int .u32 ((if i < k then Pl.entry i else 0 : Nat) : Int)) := by
  rw [Array.getElem?_eq_getElem (by rw [tabOf_size]; exact h)]
  simp only [tabOf, Array.getElem_ofFn]
theorem tabOf_set (k : Nat) (h : k < 256) : (tabOf k).setIfInBounds k (.int .u32 (Pl.entry k : Nat)) = tabOf (k + 1) := by
  apply Array.ext_getElem?
  intro i
  rw [Array.getElem?_setIfInBounds, tabOf_size]
  by_cases hi : i < 256
  · rw [tabOf_at _ i hi, tabOf_at _ i hi]
    by_cases e : k = i
    · subst e; rw [if_pos rfl, if_pos h, if_pos (by omega)]
    · rw [if_neg e]
      by_cases hk : i < k
      · rw [if_pos hk, if_pos (by omega)]
      · rw [if_neg hk, if_neg (by omega)]
  · rw [if_neg (by omega), Array.getElem?_eq_none (by rw [tabOf_size]; omega), Array.getElem?_eq_none (by rw [tabOf_size]; omega)]
theorem tabOf_get (i : Nat) (h : i < 256) : (tabOf 256)[i]? = some (.int .u32 (Pl.entry i : Nat)) := by rw [tabOf_at _ i h, if_pos h]

attribute [irreducible] tabOf

def ProcPost (s : Nat) (bs : List UInt8) (w : World) (e : Ending) (w' : World) : Prop := e = .returned (.int .u32 (Pl.more0 s bs : Nat)) ∧ Below w.heap.size w w'

def Rel1 (w : World) (i : Value) (w' : World) : Prop := ∃ k : Nat, k ≤ 256 ∧ i = .int .i64 k ∧ w' = w.alloc (.cells (tabOf k) 50)

theorem round_facts (s : Nat) (bs : List UInt8) (k : Nat) (hs : s < 4294967296) (hk : k < bs.length) : ∃ (R : Nat) (x : UInt8) (ix E : Nat), Pl.more0 s (bs.take k) = R ∧ bs[k]? = some x ∧ R < 4294967296 ∧ (x.toNat : Int) < 256 ∧
    bits .xor .u8 ((R : Int) % 256) (x.toNat : Int) = ix ∧ (ix : Int) < 256 ∧ (tabOf 256)[ix]? = some (.int .u32 E) ∧ E < 4294967296 ∧ bits .xor .u32 ((R : Int) / 256) (E : Int) = (Pl.more0 s (bs.take (k + 1)) : Nat) := by
  have hR := Pl.more0_lt (bs.take k) s hs
  have hx := bs[k].toNat_lt
  have hxl : (Pl.more0 s (bs.take k) % 256) ^^^ bs[k].toNat < 2 ^ 8 := Nat.xor_lt_two_pow (by omega) (by omega)
  refine ⟨Pl.more0 s (bs.take k), bs[k], (Pl.more0 s (bs.take k) % 256) ^^^ bs[k].toNat, Pl.entry ((Pl.more0 s (bs.take k) % 256) ^^^ bs[k].toNat), rfl, List.getElem?_eq_getElem hk, hR, by omega, ?_, by omega, tabOf_get _ hxl, Pl.entry_lt _ (by omega), ?_⟩
  · have := u8_xor_nat (Pl.more0 s (bs.take k) % 256) bs[k].toNat (by omega) (by omega)
    rw [← this]; rfl
  · have hsnoc : Pl.more0 s (bs.take (k + 1)) = Pl.byte (Pl.more0 s (bs.take k)) bs[k] := by
      rw [List.take_succ_eq_append_getElem hk]
      unfold Pl.more0
      rw [List.foldl_append]
      rfl
    rw [hsnoc, Pl.byte_code _ _ hR, ← u32_xor_nat _ _ (by omega) (Pl.entry_lt _ (by omega))]
    rfl

def Rel2 (s : Nat) (bs : List UInt8) (n : Nat) (v i : Value) : Prop := ∃ k : Nat, k ≤ n ∧ i = .int .i64 k ∧ v = .int .u32 (Pl.more0 s (bs.take k) : Nat)

set_option maxRecDepth 20000 in
theorem process_any (s : Nat) (bs : List UInt8) (A : Option Addr) (n cap : Nat) (w : World) (hs : s < 4294967296) (hb : BytesAt w w.heap.size A bs) (hn : bs.length = n) (hc : n ≤ 9223372036854775807) : Calls Try.prog 26 #[.int .u32 s, .slice A n cap] w (ProcPost s bs w) := by
  have HN := Lib.hid hn
  have HB := Lib.hid hb
  clear hn hb
  have hz := zero36 w
  go_enter Try.func26, Try.ntmps26
  go_wp2_with fail
  go_loopw [10] (Rel1 w) (fun i _ => 256 - (intOf i).toNat)
  case atStart => exact ⟨0, by omega, rfl, rfl⟩
  case round =>
    obtain ⟨k, hk, rfl, rfl⟩ := hrel
    by_cases hlt : k < 256
    · have hset := tabOf_set k hlt
      have hold : (tabOf k)[k]? = some (.int .u32 ((if k < k then Pl.entry k else 0 : Nat) : Int)) := tabOf_at k k hlt
      rw [if_neg (by omega)] at hold
      have HS := Lib.hid hset
      have hdk : decide ((k : Int) < 256) = true := by simp; omega
      clear hset
      clear hz
      go_wp2_with fail
      go_loop [7, 15] (fun v j => ∃ m : Nat, m ≤ 8 ∧ j = .int .i64 m ∧ v = .int .u32 (Pl.zeros0 m k : Nat)) (fun _ j => 8 - (intOf j).toNat)
      case atStart => exact ⟨0, by omega, rfl, by rw [Pl.zeros0]⟩
      case round =>
        obtain ⟨m, hm, rfl, rfl⟩ := hrel
        have hzl := Pl.zeros0_lt m k (by omega)
        have HZ := Lib.hid (Pl.zeros0_succ m k)
        by_cases hlt2 : m < 8
        · go_wp2_with (go_at_call 28; refine (stepZero_any _ _ (by assumption)).mono ?_; rintro e w' ⟨rfl, rfl⟩)
          go_round
          case rel => exact ⟨m + 1, by omega, by go_num, by rw [HZ.out]⟩
          case measure => simp [intOf]; omega
        · obtain rfl : m = 8 := by omega
          go_wp2_with fail
          go_roundw
          case rel => exact ⟨k + 1, by omega, by go_num, by rw [← HS.out]; rfl⟩
          case measure => simp [intOf]; omega
    · obtain rfl : k = 256 := by omega
      clear hz
      go_wp2_with fail
      go_loop [0, 26] (Rel2 s bs n) (fun _ i => n - (intOf i).toNat)
      case atStart => exact ⟨0, Nat.zero_le _, rfl, rfl⟩
      case round =>
        obtain ⟨k, hk, rfl, rfl⟩ := hrel
        by_cases hlt : k < n
        · have hbl : k < bs.length := by rw [HN.out]; exact hlt
          obtain ⟨b, off, rfl, hb1, hb2⟩ := HB.out (fun e => by rw [e] at hbl; simp at hbl)
          obtain ⟨R, x, ix, E, e1, e2, h1, h2, h3, h4, h5, h6, h7⟩ := round_facts s bs k hs hbl
          have hcell : w.cell? ⟨b, off + k, none⟩ = some (.int .u8 (x.toNat : Int)) := hb2 k x e2
          rw [e1]
          have H7 := Lib.hid h7
          clear hb2 e1 e2 h7 hbl
          go_wp2_with fail
          go_round
          case rel => exact ⟨k + 1, by omega, by go_num, by rw [← H7.out]⟩
          case measure => simp [intOf]; omega
        · obtain rfl : k = n := by omega
          go_wp2_with fail
          go_ret
          exact ⟨ret_u32 (by rw [List.take_of_length_le (by rw [HN.out]; omega)]), (Below.refl _ _).alloc (Nat.le_refl _) _⟩
end Go.Proofs.Ytkhhmpcpcdadaaa
