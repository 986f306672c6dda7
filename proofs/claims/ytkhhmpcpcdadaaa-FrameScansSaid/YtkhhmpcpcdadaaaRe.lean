import Derived.Test.YtkhhmpcpcdadaaaCom
import Derived.Test.YtkhhmpcpcdadaaaAv
namespace Go.Proofs.Ytkhhmpcpcdadaaa
open Go.RowKit
set_option linter.unusedVariables false

/-! ### four -/
def FourPost (x : Nat) (w : World) (e : Ending) (w' : World) : Prop := e = .returned (.slice (some ⟨w.heap.size, 0, none⟩) 4 4) ∧ w' = w.alloc (.cells (vB (Fr.be x)).toArray 5)
theorem be_vals (x : Nat) (h : x < 4294967296) : (vB (Fr.be x)).toArray = #[.int .u8 ((x : Int) / 16777216), .int .u8 ((x : Int) / 65536 % 256), .int .u8 ((x : Int) / 256 % 256), .int .u8 ((x : Int) % 256)] := by
  have e : ∀ k, ((Fr.bet x k).toNat : Int) = ((x / 2 ^ (8 * (3 - k)) % 256 : Nat) : Int) := fun k => by rw [Fr.bet_nat]
  show #[Value.int .u8 ((Fr.bet x 0).toNat : Int), .int .u8 ((Fr.bet x 1).toNat : Int), .int .u8 ((Fr.bet x 2).toNat : Int), .int .u8 ((Fr.bet x 3).toNat : Int)] = _
  rw [e, e, e, e]
  have h1 : x / 2 ^ (8 * (3 - 0)) % 256 = x / 16777216 := by simp only [Nat.reduceSub, Nat.reduceMul, Nat.reducePow]; omega
  rw [h1]
  simp
set_option maxRecDepth 20000 in
theorem four_any (x : Nat) (w : World) (hx : x < 4294967296) : Calls Try.prog 23 #[.int .u32 x] w (FourPost x w) := by
  have HE := Lib.hid (be_vals x hx)
  go_enter Try.func23, Try.ntmps23
  go_wp2_with fail
  go_ret
  exact ⟨rfl, by rw [HE.out]⟩
theorem FourPost.own {x : Nat} {w : World} {e : Ending} {w' : World} (h : FourPost x w e w') : OwnB w' w.heap.size (.slice (some ⟨w.heap.size, 0, none⟩) 4 4) (Fr.be x) ∧ Below w.heap.size w w' := by
  obtain ⟨_, rfl⟩ := h
  exact ⟨RowIs.own (L := Fr.be x) (heap_alloc_new w _) (Nat.le_refl _) (by rw [Fr.be_length]; omega), (Below.refl _ _).alloc (Nat.le_refl _) _⟩
theorem four_own (x : Nat) (w : World) (hx : x < 4294967296) : Calls Try.prog 23 #[.int .u32 x] w fun e w' => e = .returned (.slice (some ⟨w.heap.size, 0, none⟩) 4 4) ∧ OwnB w' w.heap.size (.slice (some ⟨w.heap.size, 0, none⟩) 4 4) (Fr.be x) ∧ Below w.heap.size w w' :=
  (four_any x w hx).mono fun e w' h => ⟨h.1, h.own.1, h.own.2⟩
def OwnPost (l : List UInt8) (w : World) (e : Ending) (w' : World) : Prop := ∃ A c, e = .returned (.slice A l.length c) ∧ OwnB w' w.heap.size (.slice A l.length c) l ∧ Below w.heap.size w w'
/-! ### Record -/
set_option maxRecDepth 20000 in
theorem record_any (p : List UInt8) (A : Option Addr) (n c : Nat) (w : World) (hp : BytesAt w w.heap.size A p) (hn : p.length = n) (hnc : n ≤ c) (hc : c ≤ 9223372036854775807) (hA : A = none → c = 0) (hn4 : n ≤ 65536) :
    Calls Try.prog 19 #[.slice A n c] w (OwnPost (Fr.rcd p) w) := by
  have HP := Lib.hid hp
  have HN := Lib.hid hn
  have HA := Lib.hid hA
  clear hp hn hA
  have hn5 : n < 4294967296 := by omega
  go_enter Try.func19, Try.ntmps19
  go_wp2_with fail
  refine (four_own n w hn5).mono ?_
  rintro e w1 ⟨rfl, o1, b1⟩
  have O1 := Lib.hid o1
  have B1 := Lib.hid b1
  have HP1 := Lib.hid (HP.out.below b1)
  have hs1 := b1.size
  clear o1 b1
  have hbl : (Fr.body p).length = 4 + n := by rw [Fr.body_length, HN.out]
  have HBL := Lib.hid hbl
  have HBE : Hid (Fr.be n ++ p = Fr.body p) := Lib.hid (by unfold Fr.body; rw [HN.out])
  clear hbl
  go_wp2_with (first
    | (at_builtin; (refine wp_appB rfl (.tmp 7) (.tmp 8) rfl w.heap.size _ (Fr.be n) rfl O1.out A n c _ p rfl HA.out HP1.out HN.out hnc (by rw [Fr.be_length]; omega) hs1 ?_); intro v2 w2 own2 bel2
       rw [HBE.out] at own2
       obtain ⟨A2, c2, e2, hb2, h2, h2'⟩ := own2.form
       rw [HBL.out] at e2 h2
       subst e2
       have HB2 := Lib.hid hb2
       have B2 := Lib.hid (B1.out.trans bel2)
       clear own2 hb2 bel2))
  refine (refSum_any (Fr.body p) A2 (4 + n) c2 w2.heap.size w2 HB2.out HBL.out (by omega)).mono ?_
  rintro e w3 ⟨rfl, rfl⟩
  have hsl : Pl.sum (Fr.body p) < 4294967296 := Pl.more_lt _ _
  go_wp2_with fail
  refine (four_own (Pl.sum (Fr.body p)) w2 hsl).mono ?_
  rintro e w3 ⟨rfl, o3, b3⟩
  have O3 := Lib.hid o3
  have B3 := Lib.hid (B2.out.trans (b3.mono B2.out.size))
  have HB3 := Lib.hid (HB2.out.below b3)
  have hs3 := b3.size
  have hs2 := B2.out.size
  clear o3 b3
  have hA2 : A2 = none → c2 = 0 := fun e => by
    obtain ⟨b, off, q, _⟩ := HB2.out (fun q => by have := HBL.out; rw [q] at this; simp at this; omega)
    rw [e] at q; cases q
  have HA2 := Lib.hid hA2
  clear hA2
  have hrl : (Fr.rcd p).length = 8 + n := by rw [Fr.rcd_length, HN.out]
  have HRL := Lib.hid hrl
  clear hrl
  go_wp2_with (first
    | (at_builtin; (refine wp_appB rfl (.tmp 12) (.tmp 13) rfl w2.heap.size _ (Fr.be (Pl.sum (Fr.body p))) rfl O3.out A2 (4 + n) c2 _ (Fr.body p) rfl HA2.out HB3.out HBL.out h2 (by rw [Fr.be_length]; omega) hs3 ?_); intro v4 w4 own4 bel4
       rw [show Fr.be (Pl.sum (Fr.body p)) ++ Fr.body p = Fr.rcd p from rfl] at own4
       obtain ⟨A4, c4, e4, hb4, h4, h4'⟩ := own4.form
       rw [HRL.out] at e4
       subst e4
       have OW4 := Lib.hid own4
       have B4 := Lib.hid (B3.out.trans (bel4.mono hs2))
       clear own4 bel4 hb4 h4 h4'))
  go_ret
  exact ⟨A4, c4, by rw [HRL.out]; rfl, by rw [HRL.out]; exact (own_mono OW4.out hs2), B4.out⟩
/-! ### Put -/
set_option maxRecDepth 20000 in
theorem refPut_no (A A2 : Option Addr) (m cm n cn : Nat) (w : World) (hn : 4096 < n) (hnc : n ≤ 9223372036854775807) : Calls Try.prog 12 #[.slice A m cm, .slice A2 n cn] w (PutNo w) := by
  go_enter Try.func12, Try.ntmps12
  go_wp2_with fail
  go_ret2
  exact ⟨rfl, rfl⟩
def RefPut (l : List UInt8) (w : World) (e : Ending) (w' : World) : Prop := ∃ A c, e = .returned (.tuple #[.slice A l.length c, .int .i64 0]) ∧ OwnB w' w.heap.size (.slice A l.length c) l ∧ Below w.heap.size w w'
set_option maxRecDepth 20000 in
theorem refPut_any (b p : List UInt8) (A A2 : Option Addr) (m cm n cn : Nat) (w : World) (hb : BytesAt w w.heap.size A b) (hm : b.length = m) (hml : m ≤ 1000000) (hmc : m ≤ cm) (hcm : cm ≤ 9223372036854775807) (hA : A = none → cm = 0)
    (hp : BytesAt w w.heap.size A2 p) (hn : p.length = n) (hn4 : n ≤ 4096) (hnc : n ≤ cn) (hcn : cn ≤ 9223372036854775807) (hA2 : A2 = none → cn = 0) :
    Calls Try.prog 12 #[.slice A m cm, .slice A2 n cn] w (RefPut (b ++ Fr.rcd p) w) := by
  have HB := Lib.hid (hb.below ((Below.refl w.heap.size w).alloc (Nat.le_refl _) (.cells #[] 5)))
  have HM := Lib.hid hm
  have HP := Lib.hid hp
  have HN := Lib.hid hn
  have HA := Lib.hid hA
  have HA2 := Lib.hid hA2
  have OW := Lib.hid (OwnB.new w)
  clear hb hm hp hn hA hA2
  go_enter Try.func12, Try.ntmps12
  go_wp2_with (at_builtin; (refine wp_appB rfl (.tmp 9) (.tmp 10) rfl w.heap.size _ [] rfl OW.out A m cm _ b rfl HA.out HB.out HM.out hmc (by simp; omega) (by rw [World.size_alloc]; omega) ?_); intro v1 w1 own1 bel1)
  rw [List.nil_append] at own1
  have O1 := Lib.hid own1
  have B1 := Lib.hid (((Below.refl w.heap.size w).alloc (Nat.le_refl _) (.cells #[] 5)).trans bel1)
  have HP1 := Lib.hid (HP.out.below B1.out)
  have hs1 := B1.out.size
  clear own1 bel1
  refine (record_any p A2 n cn w1 HP1.out HN.out hnc hcn HA2.out (by omega)).mono ?_
  rintro e w2 ⟨A3, c3, rfl, own3, bel3⟩
  obtain ⟨A3', c3', e3, hb3, h3, h3'⟩ := own3.form
  obtain ⟨rfl, rfl⟩ : A3 = A3' ∧ c3 = c3' := by injection e3 with x1 x2 x3; exact ⟨x1, x3⟩
  have HA3 : Hid (A3 = none → c3 = 0) := Lib.hid (fun e => by
    obtain ⟨b, off, q, _⟩ := hb3 (fun q => by have := Fr.rcd_length p; rw [q] at this; simp at this; omega)
    rw [e] at q; cases q)
  have HB3 := Lib.hid hb3
  have O2 := Lib.hid (O1.out.below bel3)
  have B2 := Lib.hid (B1.out.trans (bel3.mono hs1))
  have hs2 := B2.out.size
  have hrl : (Fr.rcd p).length = 8 + n := by rw [Fr.rcd_length, HN.out]
  have HRL := Lib.hid hrl
  rw [hrl] at h3 ⊢
  clear own3 bel3 e3 hb3 hrl
  go_wp2_with (at_builtin; (refine wp_appB rfl (.tmp 11) (.tmp 13) rfl w.heap.size _ b rfl O2.out A3 (8 + n) c3 _ (Fr.rcd p) rfl HA3.out HB3.out HRL.out h3 (by rw [HM.out]; omega) hs2 ?_); intro v4 w4 own4 bel4; obtain ⟨A4, c4, e4, hb4, h4, h4'⟩ := own4.form; subst e4)
  obtain ⟨z, hz⟩ : ∃ z, z = b.length + (Fr.rcd p).length := ⟨_, rfl⟩
  have OW4 : Hid (OwnB w4 w.heap.size (.slice A4 z c4) (b ++ Fr.rcd p)) := Lib.hid (by rw [hz, ← List.length_append]; exact own4)
  have HZ : Hid ((b ++ Fr.rcd p).length = z) := Lib.hid (by rw [hz, List.length_append])
  have B4 := Lib.hid (B2.out.trans bel4)
  rw [← hz]
  clear own4 hz bel4 hb4 h4 h4'
  go_wp2_with fail
  go_ret2
  exact ⟨A4, c4, by rw [HZ.out]; rfl, by rw [HZ.out]; exact OW4.out, B4.out⟩
end Go.Proofs.Ytkhhmpcpcdadaaa
