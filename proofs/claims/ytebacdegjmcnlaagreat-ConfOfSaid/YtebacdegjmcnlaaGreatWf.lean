import Derived.Test.YtebacdegjmcnlaaGreatWd
import Derived.BigRegion
import Derived.Test.YtebacdegjmcnlaaGreatWa
namespace Go.Proofs.YtebacdegjmcnlaaGreat
open Go.RowKit Pl
set_option linter.unusedVariables false
/-- the plain reader in block g: bs is all, the first p are read -/
def QSt (w : World) (g : Nat) (A : Option Addr) (cap : Nat) (bs : List UInt8) (p : Nat) (left : Int) (bad : Bool) : Prop :=
  w.heap[g]? = some (.cells #[.slice A bs.length cap, .int .i64 p, .int .i64 left, .bool bad] 73 (0, 0)) ∧ p ≤ bs.length ∧ bs.length ≤ cap ∧ cap ≤ 9223372036854775807 ∧ BytesAt w g A bs
theorem QSt.row {w : World} {g : Nat} {A : Option Addr} {cap : Nat} {bs : List UInt8} {p : Nat} {left : Int} {bad : Bool} (h : QSt w g A cap bs p left bad) :
    w.cell? ⟨g, 0, none⟩ = some (.slice A bs.length cap) ∧ w.cell? ⟨g, 1, none⟩ = some (.int .i64 p) ∧ w.cell? ⟨g, 2, none⟩ = some (.int .i64 left) ∧ w.cell? ⟨g, 3, none⟩ = some (.bool bad) ∧ w.frozen? ⟨g, 1, none⟩ = false ∧ w.frozen? ⟨g, 2, none⟩ = false ∧ w.frozen? ⟨g, 3, none⟩ = false := by
  obtain ⟨a0, a1, a2, a3, _, b1, b2, b3⟩ := row4 h.1
  exact ⟨a0, a1, a2, a3, b1, b2, b3⟩
theorem QSt.keep {w w' : World} {g : Nat} {A : Option Addr} {cap : Nat} {bs : List UInt8} {p : Nat} {left : Int} {bad : Bool} (h : QSt w g A cap bs p left bad) (hk : ∀ q, q ≤ g → w'.heap[q]? = w.heap[q]?) : QSt w' g A cap bs p left bad :=
  ⟨(hk g (Nat.le_refl _)).trans h.1, h.2.1, h.2.2.1, h.2.2.2.1, h.2.2.2.2.keep fun q hq => hk q (by omega)⟩
theorem QSt.setp {w : World} {g : Nat} {A : Option Addr} {cap : Nat} {bs : List UInt8} {p : Nat} {left : Int} {bad : Bool} (h : QSt w g A cap bs p left bad) (p' : Nat) (hp : p' ≤ bs.length) : QSt (w.setCell ⟨g, 1, none⟩ (.int .i64 (p' : Int))) g A cap bs p' left bad :=
  ⟨heap_set w g 1 _ _ _ h.1, hp, h.2.2.1, h.2.2.2.1, h.2.2.2.2.keep fun q hq => Below.heap_setCell _ _ _ _ (by simp; omega)⟩
theorem QSt.setl {w : World} {g : Nat} {A : Option Addr} {cap : Nat} {bs : List UInt8} {p : Nat} {left : Int} {bad : Bool} (h : QSt w g A cap bs p left bad) (l' : Int) : QSt (w.setCell ⟨g, 2, none⟩ (.int .i64 l')) g A cap bs p l' bad :=
  ⟨heap_set w g 2 _ _ _ h.1, h.2.1, h.2.2.1, h.2.2.2.1, h.2.2.2.2.keep fun q hq => Below.heap_setCell _ _ _ _ (by simp; omega)⟩
theorem QSt.setb {w : World} {g : Nat} {A : Option Addr} {cap : Nat} {bs : List UInt8} {p : Nat} {left : Int} {bad : Bool} (h : QSt w g A cap bs p left bad) (b' : Bool) : QSt (w.setCell ⟨g, 3, none⟩ (.bool b')) g A cap bs p left b' :=
  ⟨heap_set w g 3 _ _ _ h.1, h.2.1, h.2.2.1, h.2.2.2.1, h.2.2.2.2.keep fun q hq => Below.heap_setCell _ _ _ _ (by simp; omega)⟩
theorem grownBy_drewN (w : World) (n : Nat) {r : Option Nat} : w.grownBy (w.drewN n) r := ⟨rfl, rfl, rfl, Nat.le_refl _, fun _ _ _ => rfl⟩
def ByteNo (g : Nat) (A : Option Addr) (cap : Nat) (bs : List UInt8) (p : Nat) (left : Int) (w : World) (e : Ending) (w' : World) : Prop := e = .returned (.int .i64 0) ∧ QSt w' g A cap bs p left true ∧ w.grownBy w' (some g)
def ByteYes (g : Nat) (A : Option Addr) (cap : Nat) (bs : List UInt8) (p : Nat) (left : Int) (x : UInt8) (w : World) (e : Ending) (w' : World) : Prop := e = .returned (.int .i64 (x.toNat : Int)) ∧ QSt w' g A cap bs (p + 1) left false ∧ w.grownBy w' (some g)
set_option maxRecDepth 20000 in
theorem byte_no (g : Nat) (A : Option Addr) (cap : Nat) (bs : List UInt8) (p : Nat) (left : Int) (w : World) (h : QSt w g A cap bs p left false) (hp : (bs.length : Int) ≤ p) : Calls Tryz.prog 63 #[.pointer (some ⟨g, 0, none⟩)] w (ByteNo g A cap bs p left w) := by
  obtain ⟨a0, a1, a2, a3, b1, b2, b3⟩ := h.row
  have H := Lib.hid h
  clear h
  go_enter Tryz.func63, Tryz.ntmps63
  go_wp2_with fail
  go_quiet (fail)
  go_wp2_with fail
  go_ret
  exact ⟨rfl, QSt.setb (w := w.drewN _) H.out true, grownBy_trans (grownBy_drewN w _) (grownBy_set _ _ _ _)⟩
set_option maxRecDepth 20000 in
theorem byte_yes (g : Nat) (A : Option Addr) (cap : Nat) (bs : List UInt8) (p : Nat) (left : Int) (x : UInt8) (w : World) (h : QSt w g A cap bs p left false) (hx : bs[p]? = some x) : Calls Tryz.prog 63 #[.pointer (some ⟨g, 0, none⟩)] w (ByteYes g A cap bs p left x w) := by
  have hlt : p < bs.length := (List.getElem?_eq_some_iff.1 hx).1
  obtain ⟨b, off, rfl, hbg, hcells⟩ := h.2.2.2.2 (fun e => by rw [e] at hlt; simp at hlt)
  have hcx := hcells p x hx
  obtain ⟨a0, a1, a2, a3, b1, b2, b3⟩ := h.row
  have hcm := h.2.2.2.1
  have hlc := h.2.2.1
  have hxb : (x.toNat : Int) ≤ 255 := by have := x.toNat_lt; omega
  have hpI : ((p : Int)) < (bs.length : Int) := by omega
  have H := Lib.hid h
  clear h hcells hx
  have hne : b ≠ g := by omega
  go_enter Tryz.func63, Tryz.ntmps63
  go_wp2_with fail
  go_quiet (fail)
  go_wp2_with fail
  have H2 := QSt.setp (w := w.drewN nq) H.out (p + 1) (by omega)
  have hgr : w.grownBy ((w.drewN nq).setCell ⟨g, 1, none⟩ (.int .i64 ((p : Int) + 1))) (some g) := grownBy_trans (grownBy_drewN w _) (grownBy_set _ _ _ _)
  have hcx2 : ((w.drewN nq).setCell ⟨g, 1, none⟩ (.int .i64 ((p : Int) + 1))).cell? ⟨b, off + p, none⟩ = some (.int .u8 (x.toNat : Int)) := (cell_eq (S := fun q => q ≠ g) (w := w.drewN nq) (fun q hq => Below.heap_setCell _ _ _ q hq) hne).trans hcx
  rw [show ((p + 1 : Nat) : Int) = (p : Int) + 1 from by omega] at H2
  generalize (w.drewN nq).setCell ⟨g, 1, none⟩ (.int .i64 ((p : Int) + 1)) = w2 at *
  obtain ⟨a0', a1', a2', a3', _⟩ := H2.row
  rw [show ((p + 1 : Nat) : Int) = (p : Int) + 1 from by omega] at a1'
  have HH2 := Lib.hid H2
  have HGR := Lib.hid hgr
  have hw2 : IntKind.i64.wrap (p : Int) = p := IntWalk.i64_in _ (by omega)
  clear H2 hgr hcx a0 a1 a2 a3 b1 b2 b3
  go_quiet (fail)
  go_wp2_with fail
  go_ret
  exact ⟨rfl, HH2.out, grownBy_trans HGR.out (grownBy_drewN _ _)⟩
end Go.Proofs.YtebacdegjmcnlaaGreat
namespace Go.Proofs.YtebacdegjmcnlaaGreat
open Go.RowKit Pl
set_option linter.unusedVariables false
def ByteAny (g : Nat) (A : Option Addr) (cap : Nat) (bs : List UInt8) (p : Nat) (left : Int) (w : World) (e : Ending) (w' : World) : Prop :=
  ∃ x : Nat, x ≤ 255 ∧ e = .returned (.int .i64 (x : Int)) ∧ w.grownBy w' (some g) ∧ ((∃ u, bs[p]? = some u ∧ x = u.toNat ∧ QSt w' g A cap bs (p + 1) left false) ∨ (bs.length ≤ p ∧ x = 0 ∧ QSt w' g A cap bs p left true))
theorem byte_any (g : Nat) (A : Option Addr) (cap : Nat) (bs : List UInt8) (p : Nat) (left : Int) (w : World) (h : QSt w g A cap bs p left false) : Calls Tryz.prog 63 #[.pointer (some ⟨g, 0, none⟩)] w (ByteAny g A cap bs p left w) := by
  by_cases hp : bs.length ≤ p
  · refine (byte_no g A cap bs p left w h (by omega)).mono ?_
    rintro e w' ⟨rfl, hq, hg⟩
    exact ⟨0, by omega, rfl, hg, .inr ⟨hp, rfl, hq⟩⟩
  · have hx : bs[p]? = some (bs[p]'(by omega)) := List.getElem?_eq_getElem (by omega)
    refine (byte_yes g A cap bs p left _ w h hx).mono ?_
    rintro e w' ⟨rfl, hq, hg⟩
    exact ⟨_, by have := (bs[p]'(by omega)).toNat_lt; omega, rfl, hg, .inl ⟨_, hx, rfl, hq⟩⟩
/-- what the loop over a count's bytes has: k bytes are announced, so many are read -/
def CQ (g : Nat) (A : Option Addr) (cap : Nat) (bs : List UInt8) (p : Nat) (left : Int) (k : Nat) (w0 : World) (n j : Value) (wr : World) : Prop :=
  w0.grownBy wr (some g) ∧ ∃ jj : Nat, jj ≤ k ∧ j = .int .i64 jj ∧
  ((∃ u, bs[p]? = some u ∧ k = u.toNat ∧ n = .int .u64 (val ((bs.drop (p + 1)).take jj)) ∧ jj ≤ (bs.drop (p + 1)).length ∧ (0 < jj → k ≤ 8 ∧ (bs.drop (p + 1))[0]? ≠ some 0) ∧ QSt wr g A cap bs (p + 1 + jj) left false)
  ∨ (pcnt (bs.drop p) = none ∧ ∃ m : Nat, m < 18446744073709551616 ∧ n = .int .u64 m ∧ ∃ p', QSt wr g A cap bs p' left true))
def CountQ (g : Nat) (A : Option Addr) (cap : Nat) (bs : List UInt8) (p : Nat) (left : Int) (w : World) (e : Ending) (w' : World) : Prop :=
  ∃ n : Nat, n < 18446744073709551616 ∧ e = .returned (.int .u64 n) ∧ w.grownBy w' (some g) ∧
  ((∃ r p', pcnt (bs.drop p) = some (n, r) ∧ bs.drop p' = r ∧ QSt w' g A cap bs p' left false) ∨ (pcnt (bs.drop p) = none ∧ ∃ p', QSt w' g A cap bs p' left true))
theorem drop_at {bs : List UInt8} {p : Nat} {u : UInt8} (h : bs[p]? = some u) : bs.drop p = u :: bs.drop (p + 1) := by
  obtain ⟨h1, h2⟩ := List.getElem?_eq_some_iff.1 h
  rw [List.drop_eq_getElem_cons h1, h2]
theorem pcnt_at {bs : List UInt8} {p : Nat} {u : UInt8} (h : bs[p]? = some u) : pcnt (bs.drop p) = if 8 < u.toNat then none else if (bs.drop (p + 1)).length < u.toNat then none else if ((bs.drop (p + 1)).take u.toNat)[0]? = some 0 then none else some (val ((bs.drop (p + 1)).take u.toNat), (bs.drop (p + 1)).drop u.toNat) := by
  rw [drop_at h, pcnt]
theorem pcnt_bad {bs : List UInt8} {p : Nat} {u : UInt8} (hu : bs[p]? = some u) (hpos : 0 < u.toNat) (h : 8 < u.toNat ∨ (bs.drop (p + 1))[0]? = some 0 ∨ (bs.drop (p + 1)).length < u.toNat) : pcnt (bs.drop p) = none := by
  rw [pcnt_at hu]
  by_cases h1 : 8 < u.toNat
  · rw [if_pos h1]
  rw [if_neg h1]
  by_cases h2 : (bs.drop (p + 1)).length < u.toNat
  · rw [if_pos h2]
  rw [if_neg h2]
  rcases h with h | h | h
  · exact absurd h h1
  · rw [if_pos (by rw [List.getElem?_take, if_pos hpos]; exact h)]
  · exact absurd h h2
theorem wrap_mac (n x : Int) : ∃ m : Nat, m < 18446744073709551616 ∧ IntKind.u64.wrap (IntKind.u64.wrap (n * 256) + x) = (m : Int) := by
  refine ⟨(IntKind.u64.wrap (IntKind.u64.wrap (n * 256) + x)).toNat, ?_, ?_⟩
  · rw [IntKind.wrap_u64, IntKind.wrap_u64]; omega
  · rw [IntKind.wrap_u64, IntKind.wrap_u64]; omega
/-- a round ends with the fault set -/
theorem cq_bad {g : Nat} {A : Option Addr} {cap : Nat} {bs : List UInt8} {p p' : Nat} {left : Int} {k jj : Nat} {w0 w' : World} {n : Int} {x : Nat} (hk : jj < k) (hp : pcnt (bs.drop p) = none) (hg : w0.grownBy w' (some g)) (hq : QSt w' g A cap bs p' left true) :
    CQ g A cap bs p left k w0 (.int .u64 (IntKind.u64.wrap (IntKind.u64.wrap (n * 256) + x))) (.int .i64 ((jj : Int) + 1)) w' := by
  obtain ⟨m, hm, he⟩ := wrap_mac n x
  exact ⟨hg, jj + 1, by omega, by rw [Int.natCast_add]; rfl, .inr ⟨hp, m, hm, by rw [he], p', hq⟩⟩
theorem cq_good {g : Nat} {A : Option Addr} {cap : Nat} {bs : List UInt8} {p : Nat} {left : Int} {k jj : Nat} {w0 w' : World} {u u' : UInt8} (hk : jj < k) (hk8 : k ≤ 8) (hu : bs[p]? = some u) (hku : k = u.toNat) (hu' : bs[p + 1 + jj]? = some u') (hz : jj = 0 → u' ≠ 0) (hz' : 0 < jj → k ≤ 8 ∧ (bs.drop (p + 1))[0]? ≠ some 0) (hg : w0.grownBy w' (some g)) (hq : QSt w' g A cap bs (p + 1 + jj + 1) left false) :
    CQ g A cap bs p left k w0 (.int .u64 (IntKind.u64.wrap (IntKind.u64.wrap ((val ((bs.drop (p + 1)).take jj) : Int) * 256) + (u'.toNat : Int)))) (.int .i64 ((jj : Int) + 1)) w' := by
  have hd : (bs.drop (p + 1))[jj]? = some u' := by rw [List.getElem?_drop]; exact hu'
  have hlt := (List.getElem?_eq_some_iff.1 hd).1
  have hts := take_succ' _ jj _ hd
  have hvl := val_lt ((bs.drop (p + 1)).take jj)
  have hvl2 : val ((bs.drop (p + 1)).take jj) < 72057594037927936 := by
    rw [List.length_take] at hvl
    have hj8 : min jj (bs.drop (p + 1)).length ≤ 7 := by omega
    exact Nat.lt_of_lt_of_le hvl (Nat.le_trans (Nat.pow_le_pow_right (by omega) hj8) (by decide))
  have hx := u'.toNat_lt
  refine ⟨hg, jj + 1, by omega, by rw [Int.natCast_add]; rfl, .inl ⟨u, hu, hku, ?_, by omega, fun _ => ⟨hk8, ?_⟩, hq⟩⟩
  · rw [hts, val_snoc, IntKind.wrap_u64, IntKind.wrap_u64]
    congr 1
    omega
  · by_cases h0 : jj = 0
    · subst h0
      rw [hd]
      simpa using hz rfl
    · exact (hz' (by omega)).2
set_option maxRecDepth 20000 in
theorem count_q (g : Nat) (A : Option Addr) (cap : Nat) (bs : List UInt8) (p : Nat) (left : Int) (w : World) (h : QSt w g A cap bs p left false) : Calls Tryz.prog 64 #[.pointer (some ⟨g, 0, none⟩)] w (CountQ g A cap bs p left w) := by
  have H := Lib.hid h
  clear h
  go_enter Tryz.func64, Tryz.ntmps64
  go_wp2_with fail
  refine (byte_any g A cap bs p left w H.out).mono ?_
  rintro e w1 ⟨k, hk, rfl, hg, hor⟩
  have HC : CQ g A cap bs p left k w (.int .u64 0) (.int .i64 ((0 : Nat) : Int)) w1 := by
    refine ⟨hg, 0, by omega, rfl, ?_⟩
    rcases hor with ⟨u, hu, hku, hq⟩ | ⟨hle, hk0, hq⟩
    · exact .inl ⟨u, hu, hku, rfl, by omega, fun h => by omega, hq⟩
    · refine .inr ⟨?_, 0, by omega, rfl, p, hq⟩
      rw [List.drop_of_length_le hle]; rfl
  have HCH := Lib.hid HC
  clear HC hor hg
  go_wp2_with fail
  go_loopw [4, 5] (fun n j wr => CQ g A cap bs p left k w n j wr) (fun _ j _ => k - (intOf j).toNat)
  case atStart => exact HCH.out
  case round =>
    obtain ⟨hgr, jj, hjj, rfl, hor⟩ := hrel
    have HGR := Lib.hid hgr
    clear hgr
    rcases hor with ⟨u, hu, hku, rfl, hlen, hz, hq⟩ | ⟨hpn, m, hm, rfl, p', hq⟩
    · by_cases hlt : jj < k
      · obtain ⟨a0, a1, a2, a3, b1, b2, b3⟩ := hq.row
        have HQ := Lib.hid hq
        have HU := Lib.hid hu
        have HZ := Lib.hid hz
        have HKU := Lib.hid hku
        clear hq hu hz hku a0 a1 a2
        go_wp2_with fail
        refine (byte_any g A cap bs (p + 1 + jj) left wr HQ.out).mono ?_
        rintro e w2 ⟨x, hx, rfl, hg2, hor⟩
        have hgg := grownBy_trans HGR.out hg2
        have hkp : 0 < u.toNat := by have := HKU.out; omega
        have hrow : ∃ P bb, QSt w2 g A cap bs P left bb := by
          rcases hor with ⟨u', hu', _, hq⟩ | ⟨_, _, hq⟩
          · exact ⟨_, _, hq⟩
          · exact ⟨_, _, hq⟩
        obtain ⟨P, bb, hq2⟩ := hrow
        obtain ⟨a0, a1, a2, a3', b1', b2', b3'⟩ := hq2.row
        have HQ2 := Lib.hid hq2
        have HGG := Lib.hid hgg
        have HOR := Lib.hid hor
        have hgs : w2.grownBy (w2.setCell ⟨g, 3, none⟩ (.bool true)) (some g) := grownBy_set _ _ _ _
        have HGS := Lib.hid hgs
        clear hq2 hgg hor hg2 a0 a1 a2 b1' b2' b1 b2 hgs hlen a3 b3
        by_cases j0 : jj = 0
        · have t1 : ((jj : Int) == 0) = true := by simp [j0]
          by_cases x0 : x = 0
          · have t2 : ((x : Int) == 0) = true := by simp [x0]
            have hpn : pcnt (bs.drop p) = none := by
              refine pcnt_bad HU.out hkp ?_
              rcases HOR.out with ⟨u', hu', hxu, _⟩ | ⟨hle, _, _⟩
              · refine .inr (.inl ?_)
                rw [List.getElem?_drop]
                subst j0
                rw [hu', show u' = 0 from UInt8.toNat_inj.1 (by rw [← hxu, x0]; rfl)]
              · refine .inr (.inr ?_)
                rw [List.length_drop]
                have := HKU.out
                omega
            have HPN := Lib.hid hpn
            clear hpn x0 j0
            go_wp2_with fail
            go_roundw
            case rel => exact cq_bad hlt HPN.out (grownBy_trans HGG.out HGS.out) (QSt.setb HQ2.out true)
            case measure => simp [intOf]; omega
          · have t2 : ((x : Int) == 0) = false := by simpa using x0
            have HX0 := Lib.hid x0
            have HJ0 := Lib.hid j0
            clear x0 j0
            by_cases k8 : (8 : Int) < k
            · have hpn : pcnt (bs.drop p) = none := pcnt_bad HU.out hkp (.inl (by have := HKU.out; omega))
              have HPN := Lib.hid hpn
              clear hpn
              go_wp2_with fail
              go_roundw
              case rel => exact cq_bad hlt HPN.out (grownBy_trans HGG.out HGS.out) (QSt.setb HQ2.out true)
              case measure => simp [intOf]; omega
            · go_wp2_with fail
              go_roundw
              case rel =>
                rcases HOR.out with ⟨u', hu', rfl, hq⟩ | ⟨_, e0, _⟩
                · exact cq_good hlt (by omega) HU.out HKU.out hu' (fun _ e => HX0.out (by rw [e]; rfl)) HZ.out HGG.out hq
                · exact absurd e0 HX0.out
              case measure => simp [intOf]; omega
        · have t1 : ((jj : Int) == 0) = false := by simpa using j0
          have k8 : ¬ (8 : Int) < k := by have := (HZ.out (by omega)).1; omega
          have HJ0 := Lib.hid j0
          clear j0
          go_wp2_with fail
          go_roundw
          case rel =>
            rcases HOR.out with ⟨u', hu', rfl, hq⟩ | ⟨hle, _, hq⟩
            · exact cq_good hlt (by omega) HU.out HKU.out hu' (fun e => absurd e HJ0.out) HZ.out HGG.out hq
            · have hpn : pcnt (bs.drop p) = none := by
                refine pcnt_bad HU.out hkp (.inr (.inr ?_))
                rw [List.length_drop]
                have := HKU.out
                omega
              exact cq_bad hlt hpn HGG.out hq
          case measure => simp [intOf]; omega
      · obtain ⟨a0, a1, a2, a3, b1, b2, b3⟩ := hq.row
        have ej : jj = k := by omega
        have hfin : CountQ g A cap bs p left w (.returned (.int .u64 (val ((bs.drop (p + 1)).take jj) : Nat))) wr := by
          have hp := pcnt_at hu
          have hb : val ((bs.drop (p + 1)).take jj) < 18446744073709551616 := by
            have h8 : jj ≤ 8 := by
              rcases Nat.eq_zero_or_pos jj with h | h
              · omega
              · have := (hz h).1; omega
            have := val_lt ((bs.drop (p + 1)).take jj)
            rw [List.length_take] at this
            exact Nat.lt_of_lt_of_le this (Nat.le_trans (Nat.pow_le_pow_right (by omega) (show min jj (bs.drop (p + 1)).length ≤ 8 by omega)) (by decide))
          refine ⟨_, hb, rfl, HGR.out, .inl ⟨(bs.drop (p + 1)).drop jj, p + 1 + jj, ?_, ?_, hq⟩⟩
          · rw [hp, if_neg, if_neg, if_neg, ← hku, ej]
            · intro e
              rw [List.getElem?_take] at e
              by_cases h0 : 0 < u.toNat
              · rw [if_pos h0] at e
                exact (hz (by omega)).2 e
              · rw [if_neg h0] at e; cases e
            · omega
            · intro h8
              have := (hz (by omega)).1
              omega
          · rw [List.drop_drop]
        have HFIN := Lib.hid hfin
        clear hfin hq hu hku hz a0 a1 a2
        go_wp2_with fail
        go_ret
        exact HFIN.out
    · obtain ⟨a0, a1, a2, a3, b1, b2, b3⟩ := hq.row
      have hfin : CountQ g A cap bs p left w (.returned (.int .u64 m)) wr := ⟨m, hm, rfl, HGR.out, .inr ⟨hpn, p', hq⟩⟩
      have HFIN := Lib.hid hfin
      clear hfin hq hpn a0 a1 a2
      by_cases hlt : jj < k
      · go_wp2_with fail
        go_ret
        exact HFIN.out
      · have ej : jj = k := by omega
        subst ej
        go_wp2_with fail
        go_ret
        exact HFIN.out
end Go.Proofs.YtebacdegjmcnlaaGreat
namespace Go.Proofs.YtebacdegjmcnlaaGreat
open Go.RowKit Pl
set_option linter.unusedVariables false
/-- the four cells of an item -/
def Four (a b c d : Value) : Prop := (∃ k, a = .int .i64 k) ∧ (∃ m, b = .int .i64 m) ∧ (∃ s, c = .string s) ∧ ∃ x y z, d = .slice x y z
theorem Four.one {a b c d : Value} (h : Four a b c d) : a.oneCell' = true ∧ b.oneCell' = true ∧ c.oneCell' = true ∧ d.oneCell' = true := by
  obtain ⟨⟨k, rfl⟩, ⟨m, rfl⟩, ⟨s, rfl⟩, ⟨x, y, z, rfl⟩⟩ := h
  exact ⟨rfl, rfl, rfl, rfl⟩
def QItemAny (f g : Nat) (A : Option Addr) (cap : Nat) (bs : List UInt8) (p left : Nat) (w : World) (e : Ending) (w' : World) : Prop :=
  w.grownBy w' (some g) ∧ ∃ a b c d, e = .returned (.agg #[a, b, c, d]) ∧ Four a b c d ∧
   ((∃ t r l' p', qit f left (bs.drop p) = some (t, r, l') ∧ bs.drop p' = r ∧ QSt w' g A cap bs p' (l' : Int) false ∧ IsIt w' (NewB w w') t (.agg #[a, b, c, d]))
   ∨ (qit f left (bs.drop p) = none ∧ ∃ p' l', QSt w' g A cap bs p' l' true))
def QItemAll (f : Nat) : Prop := ∀ (g : Nat) (A : Option Addr) (cap : Nat) (bs : List UInt8) (p left : Nat) (dp : Int) (w : World), QSt w g A cap bs p (left : Int) false → left ≤ 4096 → 0 ≤ dp → dp + f = 13 →
  Calls Tryz.prog 37 #[.pointer (some ⟨g, 0, none⟩), .int .i64 dp] w (QItemAny f g A cap bs p left w)
theorem QSt.lt {w : World} {g : Nat} {A : Option Addr} {cap : Nat} {bs : List UInt8} {p : Nat} {left : Int} {bad : Bool} (h : QSt w g A cap bs p left bad) : g < w.heap.size := (Array.getElem?_eq_some_iff.1 h.1).1
/-- the row of an item that is none -/
theorem q_none {f g : Nat} {A : Option Addr} {cap : Nat} {bs : List UInt8} {p left p' : Nat} {l' : Int} {a b c d : Value} {w w' : World} (hq : qit f left (bs.drop p) = none) (hg : w.grownBy w' (some g)) (h : QSt w' g A cap bs p' l' true) (o : Four a b c d := by exact ⟨⟨_, rfl⟩, ⟨_, rfl⟩, ⟨_, rfl⟩, ⟨_, _, _, rfl⟩⟩) : QItemAny f g A cap bs p left w (.returned (.agg #[a, b, c, d])) w' :=
  ⟨hg, a, b, c, d, rfl, o, .inr ⟨hq, p', l', h⟩⟩
theorem byte_at (g : Nat) (A : Option Addr) (cap : Nat) (bs : List UInt8) (p : Nat) (left : Int) (x : UInt8) (k : Int) (w : World) (h : QSt w g A cap bs p left false) (hx : bs[p]? = some x) (hk : (x.toNat : Int) = k) :
    Calls Tryz.prog 63 #[.pointer (some ⟨g, 0, none⟩)] w fun e w' => e = .returned (.int .i64 k) ∧ QSt w' g A cap bs (p + 1) left false ∧ w.grownBy w' (some g) := by
  subst hk; exact byte_yes g A cap bs p left x w h hx
set_option maxRecDepth 20000 in
theorem q_out (f g : Nat) (A : Option Addr) (cap : Nat) (bs : List UInt8) (p left : Nat) (dp : Int) (w : World) (h : QSt w g A cap bs p (left : Int) false) (hl : (left : Int) ≤ 4096) (ho : left = 0 ∨ 12 < dp) (hq : qit f left (bs.drop p) = none) :
    Calls Tryz.prog 37 #[.pointer (some ⟨g, 0, none⟩), .int .i64 dp] w (QItemAny f g A cap bs p left w) := by
  have hlt := h.lt
  obtain ⟨a0, a1, a2, a3, b1, b2, b3⟩ := h.row
  have H := Lib.hid h
  have HQ := Lib.hid hq
  clear h hq a0 a1
  by_cases h0 : (left : Int) = 0
  · rw [h0] at a2
    clear ho
    go_enter Tryz.func37, Tryz.ntmps37
    go_wp2_with fail
    refine bodyPost_ret (v := .agg zeroItem) (by simp [results, Tryz.results37, go_sem, zeroItem]) rfl ?_
    exact q_none HQ.out (grownBy_trans (grownBy_set _ _ _ _) (grownBy_trans (grownBy_set _ _ _ _) (World.grownBy_alloc _ _ _))) (((H.out.setl _).setb true).keep fun q hq => Below.heap_alloc _ _ q (by simp; omega))
  · have h12 : 12 < dp := by rcases ho with e | e; exact absurd e (by omega); exact e
    have h1 : (1 : Int) ≤ left := by omega
    clear ho
    go_enter Tryz.func37, Tryz.ntmps37
    go_wp2_with fail
    refine bodyPost_ret (v := .agg zeroItem) (by simp [results, Tryz.results37, go_sem, zeroItem]) rfl ?_
    exact q_none HQ.out (grownBy_trans (grownBy_set _ _ _ _) (grownBy_trans (grownBy_set _ _ _ _) (World.grownBy_alloc _ _ _))) (((H.out.setl _).setb true).keep fun q hq => Below.heap_alloc _ _ q (by simp; omega))
/-- the result's row behind the last store, a younger block beside it -/
theorem fin4 (w1 : World) (R : Nat) (a b c d z0 z1 z2 z3 : Value) (o : Obj) (h : w1.heap[R]? = some (.cells #[z0, z1, z2, z3] 50 (0, 0))) :
    (((((w1.setCell ⟨R, 0, none⟩ a).setCell ⟨R, 1, none⟩ b).setCell ⟨R, 2, none⟩ c).setCell ⟨R, 3, none⟩ d).alloc o).cell? ⟨R, 0, none⟩ = some a ∧
    (((((w1.setCell ⟨R, 0, none⟩ a).setCell ⟨R, 1, none⟩ b).setCell ⟨R, 2, none⟩ c).setCell ⟨R, 3, none⟩ d).alloc o).cell? ⟨R, 1, none⟩ = some b ∧
    (((((w1.setCell ⟨R, 0, none⟩ a).setCell ⟨R, 1, none⟩ b).setCell ⟨R, 2, none⟩ c).setCell ⟨R, 3, none⟩ d).alloc o).cell? ⟨R, 2, none⟩ = some c ∧
    (((((w1.setCell ⟨R, 0, none⟩ a).setCell ⟨R, 1, none⟩ b).setCell ⟨R, 2, none⟩ c).setCell ⟨R, 3, none⟩ d).alloc o).cell? ⟨R, 3, none⟩ = some d := by
  have hlt : R < w1.heap.size := (Array.getElem?_eq_some_iff.1 h).1
  have h4 := heap_set _ R 3 d _ _ (heap_set _ R 2 c _ _ (heap_set _ R 1 b _ _ (heap_set w1 R 0 a _ _ h)))
  have h5 := (Below.heap_alloc ((((w1.setCell ⟨R, 0, none⟩ a).setCell ⟨R, 1, none⟩ b).setCell ⟨R, 2, none⟩ c).setCell ⟨R, 3, none⟩ d) o R (by simp; omega)).trans h4
  obtain ⟨y0, y1, y2, y3, _⟩ := row4 h5
  exact ⟨y0, y1, y2, y3⟩
/-- and what lay below it -/
theorem fin4_far (w1 : World) (R q : Nat) (a b c d : Value) (o : Obj) (h : q ≠ R) (hq : q < w1.heap.size) : (((((w1.setCell ⟨R, 0, none⟩ a).setCell ⟨R, 1, none⟩ b).setCell ⟨R, 2, none⟩ c).setCell ⟨R, 3, none⟩ d).alloc o).heap[q]? = w1.heap[q]? := by
  rw [Below.heap_alloc _ _ _ (by simp; omega), Below.heap_setCell _ _ _ _ h, Below.heap_setCell _ _ _ _ h, Below.heap_setCell _ _ _ _ h, Below.heap_setCell _ _ _ _ h]
theorem fin4_below (w1 : World) (B R : Nat) (a b c d : Value) (o : Obj) (hR : B ≤ R) (hB : B ≤ w1.heap.size) : Below B w1 (((((w1.setCell ⟨R, 0, none⟩ a).setCell ⟨R, 1, none⟩ b).setCell ⟨R, 2, none⟩ c).setCell ⟨R, 3, none⟩ d).alloc o) :=
  (((((Below.refl B w1).setCell hR a).setCell hR b).setCell hR c).setCell hR d).alloc (by simp; omega) o
theorem qit_kind {f left : Nat} {bs : List UInt8} {p : Nat} (h : ∀ u, bs[p]? = some u → u ≠ 1 ∧ u ≠ 2 ∧ u ≠ 3) : qit f left (bs.drop p) = none := by
  cases f with
  | zero => simp [qit]
  | succ f =>
  cases left with
  | zero => simp [qit]
  | succ left =>
  cases hp : bs[p]? with
  | none =>
    rw [List.drop_of_length_le (by rw [List.getElem?_eq_none_iff] at hp; exact hp)]; rfl
  | some u =>
    obtain ⟨h1, h2, h3⟩ := h u hp
    rw [drop_at hp, qit, if_neg h1, if_neg h2, if_neg h3]
set_option maxRecDepth 20000 in
theorem q_kind (f g : Nat) (A : Option Addr) (cap : Nat) (bs : List UInt8) (p left : Nat) (dp : Int) (w : World) (h : QSt w g A cap bs p (left : Int) false) (hl : (left : Int) ≤ 4096) (h1 : (1 : Int) ≤ left) (hd : dp ≤ 12) (hk : ∀ u, bs[p]? = some u → u ≠ 1 ∧ u ≠ 2 ∧ u ≠ 3) :
    Calls Tryz.prog 37 #[.pointer (some ⟨g, 0, none⟩), .int .i64 dp] w (QItemAny f g A cap bs p left w) := by
  have hlt := h.lt
  obtain ⟨a0, a1, a2, a3, b1, b2, b3⟩ := h.row
  have H := Lib.hid h
  have HQ := Lib.hid (qit_kind (f := f) (left := left) hk)
  have HK := Lib.hid hk
  clear h a0 a1 hk
  go_enter Tryz.func37, Tryz.ntmps37
  go_wp2_with fail
  refine (byte_any g A cap bs p ((left : Int) - 1) _ ((H.out.setl _).keep fun q hq => Below.heap_alloc _ _ q (by simp; omega))).mono ?_
  rintro e w1 ⟨x, hx, rfl, hg, hor⟩
  have hrow : ∃ P bb, QSt w1 g A cap bs P ((left : Int) - 1) bb := by
    rcases hor with ⟨u', hu', _, hq⟩ | ⟨_, _, hq⟩
    · exact ⟨_, _, hq⟩
    · exact ⟨_, _, hq⟩
  have hkx : x ≠ 1 ∧ x ≠ 2 ∧ x ≠ 3 := by
    rcases hor with ⟨u, hu, hxu, _⟩ | ⟨_, h0, _⟩
    · obtain ⟨n1, n2, n3⟩ := HK.out u hu
      refine ⟨fun e => n1 ?_, fun e => n2 ?_, fun e => n3 ?_⟩ <;> exact UInt8.toNat_inj.1 (by rw [← hxu, e]; rfl)
    · omega
  obtain ⟨P, bb, hq2⟩ := hrow
  have k1 : ((x : Int) == 1) = false := by simp; omega
  have k2 : ((x : Int) == 2) = false := by simp; omega
  have k3 : ((x : Int) == 3) = false := by simp; omega
  have hlt1 := hq2.lt
  obtain ⟨a0, a1, a2', a3', b1', b2', b3'⟩ := hq2.row
  have hg1 : w.grownBy w1 (some g) := grownBy_trans (grownBy_set _ _ _ _) (grownBy_trans (World.grownBy_alloc _ _ _) hg)
  have hr : w1.heap[w.heap.size]? = some (.cells #[.int .i64 0, .int .i64 0, .string ⟨#[]⟩, .slice none 0 0] 50 (0, 0)) := (hg.block _ (by simp) (by simp; omega)).trans (by rw [show w.heap.size = (w.setCell ⟨g, 2, none⟩ (.int .i64 ((left : Int) - 1))).heap.size from by simp]; exact heap_alloc_new _ _)
  obtain ⟨r0, r1, r2, r3, q0, q1, q2, q3⟩ := row4 hr
  have hs1 : w.heap.size < w1.heap.size := (Array.getElem?_eq_some_iff.1 hr).1
  have hne : g ≠ w.heap.size := by omega
  have HQ2 := Lib.hid hq2
  have HG := Lib.hid hg1
  have HR := Lib.hid hr
  clear hq2 hg1 hor hg hr a0 a1 a2' a2 a3 b1 b2 b3 b1' b2' hkx
  go_wp2_with fail
  have hr' := (Below.heap_setCell w1 ⟨g, 3, none⟩ (.bool true) w.heap.size (by simp; omega)).trans HR.out
  obtain ⟨y0, y1, y2, y3⟩ := fin4 (w1.setCell ⟨g, 3, none⟩ (.bool true)) w.heap.size (.int .i64 x) (.int .i64 0) (.string ⟨#[]⟩) (.slice none 0 0) _ _ _ _ (.cells #[.int .i64 x, .int .i64 0, .string ⟨#[]⟩, .slice none 0 0] 50) hr'
  have hb := fin4_below (w1.setCell ⟨g, 3, none⟩ (.bool true)) w.heap.size w.heap.size (.int .i64 x) (.int .i64 0) (.string ⟨#[]⟩) (.slice none 0 0) (.cells #[.int .i64 x, .int .i64 0, .string ⟨#[]⟩, .slice none 0 0] 50) (Nat.le_refl _) (by simp; omega)
  refine bodyPost_ret (v := .agg #[.int .i64 x, .int .i64 0, .string ⟨#[]⟩, .slice none 0 0]) (by simp [results, Tryz.results37, go_sem, y0, y1, y2, y3]) rfl ?_
  exact q_none HQ.out (grownBy_belowB (grownBy_trans HG.out (grownBy_set _ _ _ _)) hb) ((HQ2.out.setb true).keep fun q hq => hb.block q (by omega))
theorem q_num_end {f g : Nat} {A : Option Addr} {cap : Nat} {bs : List UInt8} {p left n : Nat} {w w2 W : World} {z : Int} (hk : bs[p]? = some 1) (hn : n < 18446744073709551616) (hlt : g < w.heap.size) (hgg : w.grownBy w2 (some g)) (hbel : Below w.heap.size w2 W) (hz : z = unfoldZ n)
    (hor : (∃ r p', pcnt (bs.drop (p + 1)) = some (n, r) ∧ bs.drop p' = r ∧ QSt w2 g A cap bs p' (left : Int) false) ∨ (pcnt (bs.drop (p + 1)) = none ∧ ∃ p', QSt w2 g A cap bs p' (left : Int) true)) :
    QItemAny (f + 1) g A cap bs p (left + 1) w (.returned (.agg #[.int .i64 1, .int .i64 z, .string ⟨#[]⟩, .slice none 0 0])) W := by
  subst hz
  have hg := grownBy_belowB hgg hbel
  rcases hor with ⟨r, p', hp, hd, hq⟩ | ⟨hp, p', hq⟩
  · refine ⟨hg, _, _, _, _, rfl, ⟨⟨_, rfl⟩, ⟨_, rfl⟩, ⟨_, rfl⟩, ⟨_, _, _, rfl⟩⟩, .inl ⟨.mk 1 (unfoldZ n) ⟨#[]⟩ [], r, left, p', ?_, hd, hq.keep fun q hq => hbel.block q (by omega), ?_⟩⟩
    · rw [drop_at hk, qit, if_pos rfl, hp]
    · rw [IsIt]
      exact ⟨none, 0, rfl, ⟨by omega, by omega⟩, unfoldZ_range n hn, Nat.zero_le _, Nat.zero_le _, by rw [AreIts]; trivial⟩
  · refine q_none ?_ hg (hq.keep fun q hq => hbel.block q (by omega))
    rw [drop_at hk, qit, if_pos rfl, hp]
set_option maxRecDepth 20000 in
theorem q_num (f g : Nat) (A : Option Addr) (cap : Nat) (bs : List UInt8) (p left : Nat) (dp : Int) (w : World) (h : QSt w g A cap bs p ((left + 1 : Nat) : Int) false) (hl : (left : Int) < 4096) (hd : dp ≤ 12) (hk : bs[p]? = some 1) :
    Calls Tryz.prog 37 #[.pointer (some ⟨g, 0, none⟩), .int .i64 dp] w (QItemAny (f + 1) g A cap bs p (left + 1) w) := by
  have hlt := h.lt
  obtain ⟨a0, a1, a2, a3, b1, b2, b3⟩ := h.row
  rw [show ((left + 1 : Nat) : Int) = (left : Int) + 1 from by omega] at a2
  have H := Lib.hid h
  have HK := Lib.hid hk
  clear h a0 a1 hk
  go_enter Tryz.func37, Tryz.ntmps37
  go_wp2_with fail
  refine (byte_at g A cap bs p left 1 1 _ ((H.out.setl _).keep fun q hq => Below.heap_alloc _ _ q (by simp; omega)) HK.out rfl).mono ?_
  rintro e w1 ⟨rfl, hq1, hg⟩
  have hg1 : w.grownBy w1 (some g) := grownBy_trans (grownBy_set _ _ _ _) (grownBy_trans (World.grownBy_alloc _ _ _) hg)
  have hr : w1.heap[w.heap.size]? = some (.cells #[.int .i64 0, .int .i64 0, .string ⟨#[]⟩, .slice none 0 0] 50 (0, 0)) := (hg.block _ (by simp) (by simp; omega)).trans (by rw [show w.heap.size = (w.setCell ⟨g, 2, none⟩ (.int .i64 (left : Int))).heap.size from by simp]; exact heap_alloc_new _ _)
  have hs1 : w.heap.size < w1.heap.size := (Array.getElem?_eq_some_iff.1 hr).1
  have hlt1 := hq1.lt
  have HQ1 := Lib.hid hq1
  have HG1 := Lib.hid hg1
  have HR := Lib.hid hr
  clear hq1 hg1 hg hr a2 a3 b1 b2 b3
  go_wp2_with fail
  refine (count_q g A cap bs (p + 1) left _ (HQ1.out.keep fun q hq => Below.heap_alloc _ _ q (by omega))).mono ?_
  rintro e w2 ⟨n, hn, rfl, hg2, hor⟩
  obtain ⟨hR, hI⟩ := rows_item hlt (by omega) HR.out hg2
  obtain ⟨r0, r1, r2, r3, q0, q1, q2, q3⟩ := row4 hR
  obtain ⟨i0, i1, i2, i3, p0, p1, p2, p3⟩ := row4 hI
  have hgg : w.grownBy w2 (some g) := grownBy_trans HG1.out (grownBy_trans (World.grownBy_alloc _ _ _) hg2)
  have hs2 := hgg.size
  have hne : w.heap.size ≠ w1.heap.size := by omega
  have hnI : (n : Int) ≤ 18446744073709551615 := by omega
  have HGG := Lib.hid hgg
  have HOR := Lib.hid hor
  clear hg2 hR hI hgg hor
  by_cases hpar : (n : Int) % 2 = 1
  · go_wp2_with fail
    have hbel := (below_fin (w2.setCell ⟨w1.heap.size, 1, none⟩ (.int .i64 ((n : Int) / 2))) w.heap.size w.heap.size w1.heap.size 1 (.int .i64 (-((n : Int) / 2) - 1)) (.int .i64 1) (.int .i64 (-((n : Int) / 2) - 1)) (.string ⟨#[]⟩) (.slice none 0 0) (Nat.le_refl _) (by omega))
    have hbel2 := ((Below.refl w.heap.size w2).setCell (p := ⟨w1.heap.size, 1, none⟩) (by simp; omega) (.int .i64 ((n : Int) / 2))).trans hbel
    refine bodyPost_ret (v := .agg #[.int .i64 1, .int .i64 (-((n : Int) / 2) - 1), .string ⟨#[]⟩, .slice none 0 0]) (by simp [results, Tryz.results37, go_sem, r0, r1, r2, r3]) rfl ?_
    exact q_num_end HK.out hn hlt HGG.out hbel2 (by unfold unfoldZ; rw [if_neg (by omega)]; omega) HOR.out
  · have hp0 : (n : Int) % 2 = 0 := by omega
    go_wp2_with fail
    have hbel : Below w.heap.size w2 _ := below_fin w2 w.heap.size w.heap.size w1.heap.size 1 (.int .i64 ((n : Int) / 2)) (.int .i64 1) (.int .i64 ((n : Int) / 2)) (.string ⟨#[]⟩) (.slice none 0 0) (Nat.le_refl _) (by omega)
    refine bodyPost_ret (v := .agg #[.int .i64 1, .int .i64 ((n : Int) / 2), .string ⟨#[]⟩, .slice none 0 0]) (by simp [results, Tryz.results37, go_sem, r0, r1, r2, r3]) rfl ?_
    exact q_num_end HK.out hn hlt HGG.out hbel (by unfold unfoldZ; rw [if_pos (by omega)]; omega) HOR.out
end Go.Proofs.YtebacdegjmcnlaaGreat
