import Derived.Test.YtnnakfhkejdfcaaRb
namespace Go.Proofs.Ytnnakfhkejdfcaa
open Go.RowKit Pl
set_option linter.unusedVariables false

def ByteAny (g : Nat) (A : Option Addr) (cap : Nat) (bs : List UInt8) (p : Nat) (left : Int) (w : World) (e : Ending) (w' : World) : Prop :=
  ∃ x : Nat, x ≤ 255 ∧ e = .returned (.int .i64 (x : Int)) ∧ w.grownBy w' (some g) ∧ ((∃ u, bs[p]? = some u ∧ x = u.toNat ∧ QSt w' g A cap bs (p + 1) left false) ∨ (bs.length ≤ p ∧ x = 0 ∧ QSt w' g A cap bs p left true))
theorem byte_any (g : Nat) (A : Option Addr) (cap : Nat) (bs : List UInt8) (p : Nat) (left : Int) (w : World) (h : QSt w g A cap bs p left false) : Calls Try.prog 32 #[.pointer (some ⟨g, 0, none⟩)] w (ByteAny g A cap bs p left w) := by
  by_cases hp : bs.length ≤ p
  · refine (byte_no g A cap bs p left w h (by omega)).mono ?_
    rintro e w' ⟨rfl, hq, hg⟩
    exact ⟨0, by omega, rfl, hg, .inr ⟨hp, rfl, hq⟩⟩
  · have hx : bs[p]? = some (bs[p]'(by omega)) := List.getElem?_eq_getElem (by omega)
    refine (byte_yes g A cap bs p left _ w h hx).mono ?_
    rintro e w' ⟨rfl, hq, hg⟩
    exact ⟨_, by have := (bs[p]'(by omega)).toNat_lt; omega, rfl, hg, .inl ⟨_, hx, rfl, hq⟩⟩

/-- what the loop over a count's bytes has: k bytes are announced, so many are read -/
def CQ (g : Nat) (A : Option Addr) (cap : Nat) (bs : List UInt8) (p : Nat) (left : Int) (k : Nat) (w0 : World) (n j : Value) (wr : World) : Prop :=
  w0.grownBy wr (some g) ∧ ∃ jj : Nat, jj ≤ k ∧ j = .int .i64 jj ∧
  ((∃ u, bs[p]? = some u ∧ k = u.toNat ∧ n = .int .u64 (val ((bs.drop (p + 1)).take jj)) ∧ jj ≤ (bs.drop (p + 1)).length ∧ (0 < jj → k ≤ 8 ∧ (bs.drop (p + 1))[0]? ≠ some 0) ∧ QSt wr g A cap bs (p + 1 + jj) left false)
  ∨ (pcnt (bs.drop p) = none ∧ ∃ m : Nat, m < 18446744073709551616 ∧ n = .int .u64 m ∧ ∃ p', QSt wr g A cap bs p' left true))

def CountQ (g : Nat) (A : Option Addr) (cap : Nat) (bs : List UInt8) (p : Nat) (left : Int) (w : World) (e : Ending) (w' : World) : Prop :=
  ∃ n : Nat, n < 18446744073709551616 ∧ e = .returned (.int .u64 n) ∧ w.grownBy w' (some g) ∧
  ((∃ r p', pcnt (bs.drop p) = some (n, r) ∧ bs.drop p' = r ∧ QSt w' g A cap bs p' left false) ∨ (pcnt (bs.drop p) = none ∧ ∃ p', QSt w' g A cap bs p' left true))

theorem drop_at {bs : List UInt8} {p : Nat} {u : UInt8} (h : bs[p]? = some u) : bs.drop p = u :: bs.drop (p + 1) := by
  obtain ⟨h1, h2⟩ := List.getElem?_eq_some_iff.1 h
  rw [List.drop_eq_getElem_cons h1, h2]
theorem pcnt_at {bs : List UInt8} {p : Nat} {u : UInt8} (h : bs[p]? = some u) : pcnt (bs.drop p) = if 8 < u.toNat then none else if (bs.drop (p + 1)).length < u.toNat then none else if ((bs.drop (p + 1)).take u.toNat)[0]? = some 0 then none else some (val ((bs.drop (p + 1)).take u.toNat), (bs.drop (p + 1)).drop u.toNat) := by
  rw [drop_at h, pcnt]

theorem pcnt_bad {bs : List UInt8} {p : Nat} {u : UInt8} (hu : bs[p]? = some u) (hpos : 0 < u.toNat) (h : 8 < u.toNat ∨ (bs.drop (p + 1))[0]? = some 0 ∨ (bs.drop (p + 1)).length < u.toNat) : pcnt (bs.drop p) = none := by
  rw [pcnt_at hu]
  by_cases h1 : 8 < u.toNat
  · rw [if_pos h1]
  rw [if_neg h1]
  by_cases h2 : (bs.drop (p + 1)).length < u.toNat
  · rw [if_pos h2]
  rw [if_neg h2]
  rcases h with h | h | h
  · exact absurd h h1
  · rw [if_pos (by rw [List.getElem?_take, if_pos hpos]; exact h)]
  · exact absurd h h2

theorem wrap_mac (n x : Int) : ∃ m : Nat, m < 18446744073709551616 ∧ IntKind.u64.wrap (IntKind.u64.wrap (n * 256) + x) = (m : Int) := by
  refine ⟨(IntKind.u64.wrap (IntKind.u64.wrap (n * 256) + x)).toNat, ?_, ?_⟩
  · rw [IntKind.wrap_u64, IntKind.wrap_u64]; omega
  · rw [IntKind.wrap_u64, IntKind.wrap_u64]; omega

/-- a round ends with the fault set -/
theorem cq_bad {g : Nat} {A : Option Addr} {cap : Nat} {bs : List UInt8} {p p' : Nat} {left : Int} {k jj : Nat} {w0 w' : World} {n : Int} {x : Nat} (hk : jj < k) (hp : pcnt (bs.drop p) = none) (hg : w0.grownBy w' (some g)) (hq : QSt w' g A cap bs p' left true) :
    CQ g A cap bs p left k w0 (.int .u64 (IntKind.u64.wrap (IntKind.u64.wrap (n * 256) + x))) (.int .i64 ((jj : Int) + 1)) w' := by
  obtain ⟨m, hm, he⟩ := wrap_mac n x
  exact ⟨hg, jj + 1, by omega, by rw [Int.natCast_add]; rfl, .inr ⟨hp, m, hm, by rw [he], p', hq⟩⟩

theorem cq_good {g : Nat} {A : Option Addr} {cap : Nat} {bs : List UInt8} {p : Nat} {left : Int} {k jj : Nat} {w0 w' : World} {u u' : UInt8} (hk : jj < k) (hk8 : k ≤ 8) (hu : bs[p]? = some u) (hku : k = u.toNat) (hu' : bs[p + 1 + jj]? = some u') (hz : jj = 0 → u' ≠ 0) (hz' : 0 < jj → k ≤ 8 ∧ (bs.drop (p + 1))[0]? ≠ some 0) (hg : w0.grownBy w' (some g)) (hq : QSt w' g A cap bs (p + 1 + jj + 1) left false) :
    CQ g A cap bs p left k w0 (.int .u64 (IntKind.u64.wrap (IntKind.u64.wrap ((val ((bs.drop (p + 1)).take jj) : Int) * 256) + (u'.toNat : Int)))) (.int .i64 ((jj : Int) + 1)) w' := by
  have hd : (bs.drop (p + 1))[jj]? = some u' := by rw [List.getElem?_drop]; exact hu'
  have hlt := (List.getElem?_eq_some_iff.1 hd).1
  have hts := take_succ' _ jj _ hd
  have hvl := val_lt ((bs.drop (p + 1)).take jj)
  have hvl2 : val ((bs.drop (p + 1)).take jj) < 72057594037927936 := by
    rw [List.length_take] at hvl
    have hj8 : min jj (bs.drop (p + 1)).length ≤ 7 := by omega
    exact Nat.lt_of_lt_of_le hvl (Nat.le_trans (Nat.pow_le_pow_right (by omega) hj8) (by decide))
  have hx := u'.toNat_lt
  refine ⟨hg, jj + 1, by omega, by rw [Int.natCast_add]; rfl, .inl ⟨u, hu, hku, ?_, by omega, fun _ => ⟨hk8, ?_⟩, hq⟩⟩
  · rw [hts, val_snoc, IntKind.wrap_u64, IntKind.wrap_u64]
    congr 1
    omega
  · by_cases h0 : jj = 0
    · subst h0
      rw [hd]
      simpa using hz rfl
    · exact (hz' (by omega)).2

set_option maxRecDepth 20000 in
theorem count_q (g : Nat) (A : Option Addr) (cap : Nat) (bs : List UInt8) (p : Nat) (left : Int) (w : World) (h : QSt w g A cap bs p left false) : Calls Try.prog 33 #[.pointer (some ⟨g, 0, none⟩)] w (CountQ g A cap bs p left w) := by
  have H := Lib.hid h
  clear h
  go_enter Try.func33, Try.ntmps33
  go_wp2_with fail
  refine (byte_any g A cap bs p left w H.out).mono ?_
  rintro e w1 ⟨k, hk, rfl, hg, hor⟩
  have HC : CQ g A cap bs p left k w (.int .u64 0) (.int .i64 ((0 : Nat) : Int)) w1 := by
    refine ⟨hg, 0, by omega, rfl, ?_⟩
    rcases hor with ⟨u, hu, hku, hq⟩ | ⟨hle, hk0, hq⟩
    · exact .inl ⟨u, hu, hku, rfl, by omega, fun h => by omega, hq⟩
    · refine .inr ⟨?_, 0, by omega, rfl, p, hq⟩
      rw [List.drop_of_length_le hle]; rfl
  have HCH := Lib.hid HC
  clear HC hor hg
  go_wp2_with fail
  go_loopw [4, 5] (fun n j wr => CQ g A cap bs p left k w n j wr) (fun _ j _ => k - (intOf j).toNat)
  case atStart => exact HCH.out
  case round =>
    obtain ⟨hgr, jj, hjj, rfl, hor⟩ := hrel
    have HGR := Lib.hid hgr
    clear hgr
    rcases hor with ⟨u, hu, hku, rfl, hlen, hz, hq⟩ | ⟨hpn, m, hm, rfl, p', hq⟩
    · by_cases hlt : jj < k
      · obtain ⟨a0, a1, a2, a3, b1, b2, b3⟩ := hq.row
        have HQ := Lib.hid hq
        have HU := Lib.hid hu
        have HZ := Lib.hid hz
        have HKU := Lib.hid hku
        clear hq hu hz hku a0 a1 a2
        go_wp2_with fail
        refine (byte_any g A cap bs (p + 1 + jj) left wr HQ.out).mono ?_
        rintro e w2 ⟨x, hx, rfl, hg2, hor⟩
        have hgg := grownBy_trans HGR.out hg2
        have hkp : 0 < u.toNat := by have := HKU.out; omega
        have hrow : ∃ P bb, QSt w2 g A cap bs P left bb := by
          rcases hor with ⟨u', hu', _, hq⟩ | ⟨_, _, hq⟩
          · exact ⟨_, _, hq⟩
          · exact ⟨_, _, hq⟩
        obtain ⟨P, bb, hq2⟩ := hrow
        obtain ⟨a0, a1, a2, a3', b1', b2', b3'⟩ := hq2.row
        have HQ2 := Lib.hid hq2
        have HGG := Lib.hid hgg
        have HOR := Lib.hid hor
        have hgs : w2.grownBy (w2.setCell ⟨g, 3, none⟩ (.bool true)) (some g) := grownBy_set _ _ _ _
        have HGS := Lib.hid hgs
        clear hq2 hgg hor hg2 a0 a1 a2 b1' b2' b1 b2 hgs hlen a3 b3
        by_cases j0 : jj = 0
        · have t1 : ((jj : Int) == 0) = true := by simp [j0]
          by_cases x0 : x = 0
          · have t2 : ((x : Int) == 0) = true := by simp [x0]
            have hpn : pcnt (bs.drop p) = none := by
              refine pcnt_bad HU.out hkp ?_
              rcases HOR.out with ⟨u', hu', hxu, _⟩ | ⟨hle, _, _⟩
              · refine .inr (.inl ?_)
                rw [List.getElem?_drop]
                subst j0
                rw [hu', show u' = 0 from UInt8.toNat_inj.1 (by rw [← hxu, x0]; rfl)]
              · refine .inr (.inr ?_)
                rw [List.length_drop]
                have := HKU.out
                omega
            have HPN := Lib.hid hpn
            clear hpn x0 j0
            go_wp2_with fail
            go_roundw
            case rel => exact cq_bad hlt HPN.out (grownBy_trans HGG.out HGS.out) (QSt.setb HQ2.out true)
            case measure => simp [intOf]; omega
          · have t2 : ((x : Int) == 0) = false := by simpa using x0
            have HX0 := Lib.hid x0
            have HJ0 := Lib.hid j0
            clear x0 j0
            by_cases k8 : (8 : Int) < k
            · have hpn : pcnt (bs.drop p) = none := pcnt_bad HU.out hkp (.inl (by have := HKU.out; omega))
              have HPN := Lib.hid hpn
              clear hpn
              go_wp2_with fail
              go_roundw
              case rel => exact cq_bad hlt HPN.out (grownBy_trans HGG.out HGS.out) (QSt.setb HQ2.out true)
              case measure => simp [intOf]; omega
            · go_wp2_with fail
              go_roundw
              case rel =>
                rcases HOR.out with ⟨u', hu', rfl, hq⟩ | ⟨_, e0, _⟩
                · exact cq_good hlt (by omega) HU.out HKU.out hu' (fun _ e => HX0.out (by rw [e]; rfl)) HZ.out HGG.out hq
                · exact absurd e0 HX0.out
              case measure => simp [intOf]; omega
        · have t1 : ((jj : Int) == 0) = false := by simpa using j0
          have k8 : ¬ (8 : Int) < k := by have := (HZ.out (by omega)).1; omega
          have HJ0 := Lib.hid j0
          clear j0
          go_wp2_with fail
          go_roundw
          case rel =>
            rcases HOR.out with ⟨u', hu', rfl, hq⟩ | ⟨hle, _, hq⟩
            · exact cq_good hlt (by omega) HU.out HKU.out hu' (fun e => absurd e HJ0.out) HZ.out HGG.out hq
            · have hpn : pcnt (bs.drop p) = none := by
                refine pcnt_bad HU.out hkp (.inr (.inr ?_))
                rw [List.length_drop]
                have := HKU.out
                omega
              exact cq_bad hlt hpn HGG.out hq
          case measure => simp [intOf]; omega
      · obtain ⟨a0, a1, a2, a3, b1, b2, b3⟩ := hq.row
        have ej : jj = k := by omega
        have hfin : CountQ g A cap bs p left w (.returned (.int .u64 (val ((bs.drop (p + 1)).take jj) : Nat))) wr := by
          have hp := pcnt_at hu
          have hb : val ((bs.drop (p + 1)).take jj) < 18446744073709551616 := by
            have h8 : jj ≤ 8 := by
              rcases Nat.eq_zero_or_pos jj with h | h
              · omega
              · have := (hz h).1; omega
            have := val_lt ((bs.drop (p + 1)).take jj)
            rw [List.length_take] at this
            exact Nat.lt_of_lt_of_le this (Nat.le_trans (Nat.pow_le_pow_right (by omega) (show min jj (bs.drop (p + 1)).length ≤ 8 by omega)) (by decide))
          refine ⟨_, hb, rfl, HGR.out, .inl ⟨(bs.drop (p + 1)).drop jj, p + 1 + jj, ?_, ?_, hq⟩⟩
          · rw [hp, if_neg, if_neg, if_neg, ← hku, ej]
            · intro e
              rw [List.getElem?_take] at e
              by_cases h0 : 0 < u.toNat
              · rw [if_pos h0] at e
                exact (hz (by omega)).2 e
              · rw [if_neg h0] at e; cases e
            · omega
            · intro h8
              have := (hz (by omega)).1
              omega
          · rw [List.drop_drop]
        have HFIN := Lib.hid hfin
        clear hfin hq hu hku hz a0 a1 a2
        go_wp2_with fail
        go_ret
        exact HFIN.out
    · obtain ⟨a0, a1, a2, a3, b1, b2, b3⟩ := hq.row
      have hfin : CountQ g A cap bs p left w (.returned (.int .u64 m)) wr := ⟨m, hm, rfl, HGR.out, .inr ⟨hpn, p', hq⟩⟩
      have HFIN := Lib.hid hfin
      clear hfin hq hpn a0 a1 a2
      by_cases hlt : jj < k
      · go_wp2_with fail
        go_ret
        exact HFIN.out
      · have ej : jj = k := by omega
        subst ej
        go_wp2_with fail
        go_ret
        exact HFIN.out
end Go.Proofs.Ytnnakfhkejdfcaa
