import Derived.Test.YtmdkjdmiikbhcaaJoins
import Derived.Deep.RegionHeld3
import Derived.StillTailTactics
namespace Go.Proofs.Ytmdkjdmiikbhcaa
open Go.RowKit
set_option linter.unusedVariables false

/-- three rows told apart -/
def x3 (a b c : List UInt8) : List UInt8 := List.zipWith (· ^^^ ·) (List.zipWith (· ^^^ ·) a b) c
def fill (L : List UInt8) (N k : Nat) : List UInt8 := L.take k ++ List.replicate (N - k) 0
theorem fill_none (L : List UInt8) (N : Nat) : fill L N 0 = List.replicate N 0 := by simp [fill]
theorem fill_all (L : List UInt8) (N : Nat) (h : L.length = N) : fill L N N = L := by simp [fill, ← h]
theorem fill_at (L : List UInt8) (N k : Nat) (h : L.length = N) (hk : k < N) : (fill L N k)[k]? = some 0 := by
  unfold fill
  rw [List.getElem?_append_right (by simp; omega)]
  simp [List.getElem?_replicate]
  omega
theorem fill_set (L : List UInt8) (N k : Nat) (y : UInt8) (h : L.length = N) (hk : k < N) (hy : L[k]? = some y) : (fill L N k).set k y = fill L N (k + 1) := by
  unfold fill
  obtain ⟨hk', rfl⟩ := List.getElem?_eq_some_iff.1 hy
  rw [List.take_succ_eq_append_getElem hk', List.set_append_right _ _ (by simp; omega), show k - (L.take k).length = 0 from by simp; omega, show N - k = (N - (k + 1)) + 1 from by omega, List.replicate_succ, List.set_cons_zero, List.append_assoc, List.singleton_append]
theorem x3_length (a b c : List UInt8) (N : Nat) (ha : a.length = N) (hb : b.length = N) (hc : c.length = N) : (x3 a b c).length = N := by simp [x3, ha, hb, hc]
theorem x3_at (a b c : List UInt8) (k : Nat) (x y z : UInt8) (ha : a[k]? = some x) (hb : b[k]? = some y) (hc : c[k]? = some z) : (x3 a b c)[k]? = some (x ^^^ y ^^^ z) := by
  simp [x3, List.getElem?_zipWith, ha, hb, hc]
theorem u8_xor_byte (x y : UInt8) : bits .xor .u8 (x.toNat : Int) (y.toNat : Int) = ((x ^^^ y).toNat : Int) := by
  rw [u8_xor_nat _ _ x.toNat_lt y.toNat_lt, UInt8.toNat_xor]

theorem mkB (N : Nat) (h : N ≤ 281474976710656) (w : World) : (Instr.makeSlice 22 (.int .i64 (N : Int)) (.int .i64 (N : Int))).run Try.prog w = .ok (.slice (some ⟨w.heap.size, 0, none⟩) N N) (w.alloc (.cells (vB (List.replicate N 0)).toArray 5)) := by
  obtain ⟨i5, hi5, hz0, hz1, hz2⟩ := info_parts info5
  have := run_make (P := Try.prog) w 22 5 i5 _ Try.underlying22 hi5 hz0 .i64 .i64 (N : Int) (N : Int) (by omega) (by omega) (by rw [hz2]; omega) (by omega)
  rw [hz1] at this
  have e : madeCells (Value.int .u8 0).cells N = (vB (List.replicate N 0)).toArray := by
    apply Array.ext'
    rw [show (Value.int .u8 0).cells = #[.int .u8 0] from rfl, toList_madeCells_one]
    simp [vB]
  rw [Int.toNat_natCast, Nat.mul_one, e] at this
  exact this
theorem ownB_full (w : World) (N : Nat) (hN : N ≤ 140737488355328) : OwnB (w.alloc (.cells (vB (List.replicate N 0)).toArray 5)) w.heap.size (.slice (some ⟨w.heap.size, 0, none⟩) N N) (List.replicate N 0) := by
  unfold OwnB
  rw [List.length_replicate]
  refine ⟨by simp [vB], .inr ⟨w.heap.size, N, _, rfl, Nat.le_refl _, heap_alloc_new w _, Nat.le_refl _, by simp only [maxLen]; omega, by simp [vB], ?_⟩⟩
  simp only [Nat.mul_one]
  exact List.take_of_length_le (by simp [vB])
theorem min4 (x y z : Int) (w : World) : Sem.run Try.prog (Builtin.min_ #[3, 3, 3, 3] 3 #[.int .i64 x, .int .i64 y, .int .i64 z, .int .i64 65536]) w = .ok (.int .i64 (min (min (min x y) z) 65536)) w := by
  unfold Builtin.min_
  simp only [Builtin.min2, List.foldlM]
  simp
  by_cases h1 : y < x
  · rw [if_pos h1]
    by_cases h2 : z < y
    · rw [if_pos h2]; split <;> omega
    · rw [if_neg h2]; split <;> omega
  · rw [if_neg h1]
    by_cases h2 : z < x
    · rw [if_pos h2]; split <;> omega
    · rw [if_neg h2]; split <;> omega

def LRel (L : List UInt8) (N : Nat) (w1 : World) (i : Value) (wr : World) : Prop :=
  ∃ k : Nat, k ≤ N ∧ i = .int .i64 k ∧ OwnB wr w1.heap.size (.slice (some ⟨w1.heap.size, 0, none⟩) N N) (fill L N k) ∧ Below w1.heap.size w1 wr ∧ w1.heap.size < wr.heap.size

set_option maxRecDepth 20000 in
theorem law_linear (a : List UInt8) (A : Option Addr) (n cap : Nat) (b : List UInt8) (A' : Option Addr) (n' cap' : Nat) (c : List UInt8) (A'' : Option Addr) (n'' cap'' : Nat) (w : World) (hb : BytesAt w w.heap.size A a) (hn : a.length = n) (hnc : n ≤ cap) (hc : cap ≤ 9223372036854775807) (hA : A = none → cap = 0)
    (hb' : BytesAt w w.heap.size A' b) (hn' : b.length = n') (hnc' : n' ≤ cap') (hc' : cap' ≤ 9223372036854775807) (hA' : A' = none → cap' = 0)
    (hb'' : BytesAt w w.heap.size A'' c) (hn'' : c.length = n'') (hnc'' : n'' ≤ cap'') (hc'' : cap'' ≤ 9223372036854775807) (hA'' : A'' = none → cap'' = 0) :
    Calls Try.prog 6 #[.slice A n cap, .slice A' n' cap', .slice A'' n'' cap''] w (RetBelow (.bool true) w) := by
  have HN := Lib.hid hn
  have HB := Lib.hid hb
  have HA := Lib.hid hA
  have HN' := Lib.hid hn'
  have HB' := Lib.hid hb'
  have HA' := Lib.hid hA'
  have HN'' := Lib.hid hn''
  have HB'' := Lib.hid hb''
  have HA'' := Lib.hid hA''
  clear hn hb hA hn' hb' hA' hn'' hb'' hA''
  go_enter Try.func6, Try.ntmps6
  go_wp2_with fail
  refine (awake_any _).mono ?_
  rintro e w1 ⟨rfl, hb1⟩
  have B1 := Lib.hid hb1
  clear hb1
  have hmin := min4 n n' n'' w1
  obtain ⟨N, hN⟩ := Int.eq_ofNat_of_zero_le (show 0 ≤ min (min (min (n : Int) n') n'') 65536 by omega)
  have hN1 : N ≤ n := by omega
  have hN2 : N ≤ n' := by omega
  have hN3 : N ≤ n'' := by omega
  have hN4 : N ≤ 65536 := by omega
  rw [hN] at hmin
  have hmk := mkB N (by omega) w1
  have O2 := Lib.hid (ownB_full w1 N (by omega))
  have hb2 : Below w1.heap.size w1 (w1.alloc (.cells (vB (List.replicate N 0)).toArray 5)) := (Below.refl _ _).alloc (Nat.le_refl _) _
  have hs2 : w1.heap.size < (w1.alloc (.cells (vB (List.replicate N 0)).toArray 5)).heap.size := by simp
  have B2 := Lib.hid hb2
  clear hb2 hN
  generalize w1.alloc (.cells (vB (List.replicate N 0)).toArray 5) = w2 at *
  go_wp2_with fail
  go_loopw [23] (LRel (x3 (a.take N) (b.take N) (c.take N)) N w1) (fun i _ => N - (intOf i).toNat)
  case atStart => exact ⟨0, Nat.zero_le _, rfl, by rw [fill_none]; exact O2.out, B2.out, hs2⟩
  case round =>
    obtain ⟨k, hk, rfl, own, bel, hsz⟩ := hrel
    have lA : (a.take N).length = N := by rw [List.length_take, HN.out]; omega
    have lB : (b.take N).length = N := by rw [List.length_take, HN'.out]; omega
    have lC : (c.take N).length = N := by rw [List.length_take, HN''.out]; omega
    have hL := x3_length _ _ _ N lA lB lC
    have bw : Below w.heap.size w wr := B1.out.trans (bel.mono B1.out.size)
    by_cases hlt : k < N
    · obtain ⟨b1, o1, rfl, hb1, hc1⟩ := HB.out (fun e => by have := HN.out; rw [e] at this; simp at this; omega)
      obtain ⟨b2, o2, rfl, hb2, hc2⟩ := HB'.out (fun e => by have := HN'.out; rw [e] at this; simp at this; omega)
      obtain ⟨b3, o3, rfl, hb3, hc3⟩ := HB''.out (fun e => by have := HN''.out; rw [e] at this; simp at this; omega)
      have ga : (a.take N)[k]? = some (a.take N)[k] := List.getElem?_eq_getElem (by rw [lA]; exact hlt)
      have gb : (b.take N)[k]? = some (b.take N)[k] := List.getElem?_eq_getElem (by rw [lB]; exact hlt)
      have gc : (c.take N)[k]? = some (c.take N)[k] := List.getElem?_eq_getElem (by rw [lC]; exact hlt)
      have ga' : a[k]? = some (a.take N)[k] := by rw [List.getElem?_take, if_pos hlt] at ga; exact ga
      have gb' : b[k]? = some (b.take N)[k] := by rw [List.getElem?_take, if_pos hlt] at gb; exact gb
      have gc' : c[k]? = some (c.take N)[k] := by rw [List.getElem?_take, if_pos hlt] at gc; exact gc
      have gx := x3_at _ _ _ k _ _ _ ga gb gc
      have c1 := (bw.cell (p := ⟨b1, o1 + k, none⟩) hb1).trans (hc1 k _ ga')
      have c2 := (bw.cell (p := ⟨b2, o2 + k, none⟩) hb2).trans (hc2 k _ gb')
      have c3 := (bw.cell (p := ⟨b3, o3 + k, none⟩) hb3).trans (hc3 k _ gc')
      obtain ⟨cd, fd⟩ := own.at' (fill_at _ N k hL hlt)
      have own' := own.set k ((a.take N)[k] ^^^ (b.take N)[k] ^^^ (c.take N)[k])
      rw [fill_set _ N k _ hL hlt gx] at own'
      clear ga gb gc ga' gb' gc' gx hc1 hc2 hc3
      generalize (a.take N)[k] = x at *
      generalize (b.take N)[k] = y at *
      generalize (c.take N)[k] = z at *
      have hx1 := u8_xor_byte x y
      have hx2 := u8_xor_byte (x ^^^ y) z
      generalize x ^^^ y = u at *
      generalize u ^^^ z = v at *
      have OW := Lib.hid own'
      have BE := Lib.hid (bel.setCell (p := ⟨w1.heap.size, k, none⟩) (Nat.le_refl _) (.int .u8 (v.toNat : Int)))
      have r1 : (x.toNat : Int) ≤ 255 := by have := x.toNat_lt; omega
      have r2 : (y.toNat : Int) ≤ 255 := by have := y.toNat_lt; omega
      have r3 : (z.toNat : Int) ≤ 255 := by have := z.toNat_lt; omega
      have i1 : (k : Int) < n := by omega
      have i2 : (k : Int) < n' := by omega
      have i3 : (k : Int) < n'' := by omega
      have i4 : (k : Int) < N := by omega
      have hdk : decide (k < N) = true := by simpa using hlt
      have HL := Lib.hid hL
      clear own own' bel bw hL lA lB lC
      go_wp2_with fail
      go_still_tail 17, (by kernel_rfl)
      change wpList _ _ _ _ _ wr.drew
      go_wp2_with fail
      go_roundw
      case rel => exact ⟨k + 1, by omega, by go_num, OW.out.below ((Below.refl _ _).drew), BE.out.drew, by simpa using hsz⟩
      case measure => simp [intOf]; omega
    · obtain rfl : k = N := by omega
      rw [fill_all _ _ hL] at own
      have OW := Lib.hid own
      have BE := Lib.hid bel
      have BW := Lib.hid bw
      have LA := Lib.hid lA
      have LB := Lib.hid lB
      have LC := Lib.hid lC
      have HL := Lib.hid hL
      clear own bel bw lA lB lC hL
      have hlin := Pl.sum_three (a.take k) (b.take k) (c.take k) (by rw [LA.out, LB.out]) (by rw [LB.out, LC.out])
      have ba : BytesAt wr wr.heap.size A (a.take k) := (HB.out.on BW.out).take k
      have bb : BytesAt wr wr.heap.size A' (b.take k) := (HB'.out.on BW.out).take k
      have bc : BytesAt wr wr.heap.size A'' (c.take k) := (HB''.out.on BW.out).take k
      obtain ⟨Ad, cd, hde, bd, hcd1, hcd2⟩ := OW.out.form
      rw [HL.out] at hde
      injection hde with hd1 hd2 hd3
      subst hd1
      clear hd2
      subst hd3
      have cA := Lib.hid (fun (W : World) (h : Below wr.heap.size wr W) => sum_any (a.take k) A k cap W (ba.on h) LA.out (by omega))
      have cB := Lib.hid (fun (W : World) (h : Below wr.heap.size wr W) => sum_any (b.take k) A' k cap' W (bb.on h) LB.out (by omega))
      have cC := Lib.hid (fun (W : World) (h : Below wr.heap.size wr W) => sum_any (c.take k) A'' k cap'' W (bc.on h) LC.out (by omega))
      have cD := Lib.hid (fun (W : World) (h : Below wr.heap.size wr W) => sum_any (x3 (a.take k) (b.take k) (c.take k)) (some ⟨w1.heap.size, 0, none⟩) k k W (bd.on h) HL.out (by omega))
      unfold x3 at cD
      rw [← hlin] at cD
      have la : Pl.sum (a.take k) < 4294967296 := Pl.more_lt _ _
      have lb : Pl.sum (b.take k) < 4294967296 := Pl.more_lt _ _
      have lc : Pl.sum (c.take k) < 4294967296 := Pl.more_lt _ _
      clear ba bb bc bd hlin hcd1 hcd2 hmin hmk
      generalize Pl.sum (a.take k) = sa at *
      generalize Pl.sum (b.take k) = sb at *
      generalize Pl.sum (c.take k) = sc at *
      have hx1 := u32_xor_nat sa sb la lb
      have hl1 : sa ^^^ sb < 4294967296 := Pl.xor_lt 32 la lb
      generalize sa ^^^ sb = u at *
      have hx2 := u32_xor_nat u sc hl1 lc
      generalize u ^^^ sc = v at *
      have q0 : (0 : Int) ≤ (k : Int) := by omega
      have q1 : (k : Int) ≤ cap := by omega
      have q2 : (k : Int) ≤ cap' := by omega
      have q3 : (k : Int) ≤ cap'' := by omega
      go_wp2_with fail
      have hdr : Below wr.heap.size wr wr.drew := (Below.refl _ wr).drew
      have D0 := Lib.hid hdr
      clear hdr
      go_region_held3 (fun _ => True) (trivial) (first
        | (go_at_call 10; (with_reducible refine (cA.out _ D0.out).mono ?_); rintro e w4 ⟨rfl, hb4⟩; have B4 : Hid (Below wr.heap.size wr w4) := Lib.hid (D0.out.trans hb4); clear hb4)
        | (go_at_call 10; (with_reducible refine (cB.out _ B4.out).mono ?_); rintro e w5 ⟨rfl, hb5⟩; have B5 : Hid (Below wr.heap.size wr w5) := Lib.hid (B4.out.trans (hb5.mono B4.out.size)); clear hb5)
        | (go_at_call 10; (with_reducible refine (cC.out _ B5.out).mono ?_); rintro e w6 ⟨rfl, hb6⟩; have B6 : Hid (Below wr.heap.size wr w6) := Lib.hid (B5.out.trans (hb6.mono B5.out.size)); clear hb6)
        | (go_at_call 10; (with_reducible refine (cD.out _ B6.out).mono ?_); rintro e w7 ⟨rfl, hb7⟩; have B7 : Hid (Below wr.heap.size wr w7) := Lib.hid (B6.out.trans (hb7.mono B6.out.size)); clear hb7))
      go_wp2_with fail
      go_ret
      exact ⟨rfl, BW.out.trans (B7.out.mono BW.out.size)⟩
end Go.Proofs.Ytmdkjdmiikbhcaa
