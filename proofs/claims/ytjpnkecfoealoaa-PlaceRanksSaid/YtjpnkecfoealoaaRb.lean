import Derived.Test.YtjpnkecfoealoaaRa
import Derived.Test.YtjpnkecfoealoaaLFits
namespace Go.Proofs.Ytjpnkecfoealoaa
set_option maxRecDepth 20000
open Go.RowKit
open Go.Proofs.Ytjpnkecfoealoaa.Vc (I64 fitB RetBelow)
set_option linter.unusedVariables false
attribute [local irreducible] wpQuiet

theorem refLessN (a b : List UInt8) (ha : a.length ≤ 281474976710656) (hb : b.length ≤ 281474976710656) (W : World) : Calls Try.prog 40 #[.string (Nm.str a), .string (Nm.str b)] W (RetBelow (.bool (Nm.Pl.less a b)) W) :=
  (Nm.refLess_str a b W ha hb).mono fun e w' ⟨h1, h2⟩ => ⟨h1, by subst h2; exact Below.refl _ _⟩
set_option maxHeartbeats 2000000 in
theorem before_core (L : List Nd) (b0 off0 N c i j : Nat) (n m : Nd) (p q r s t : Int) (l1 l2 R : Bool) (w : World) (hA : NodesAt w w.heap.size (some ⟨b0, off0, none⟩) L) (hn : L[i]? = some n) (hm : L[j]? = some m) (hN : L.length = N) (h1000 : N ≤ 1000)
    (k1 : Hid (∀ W : World, Calls Try.prog 18 #[.agg #[.string (Nm.str n.s), .int .i64 n.a, .int .i64 n.b, .int .i64 n.c, .int .i64 n.x, .int .i64 n.y, .int .i64 n.z, .bool n.d], .agg #[.int .i64 p, .int .i64 q, .int .i64 r]] W (RetBelow (.int .i64 s) W)))
    (k2 : Hid (∀ W : World, Calls Try.prog 18 #[.agg #[.string (Nm.str m.s), .int .i64 m.a, .int .i64 m.b, .int .i64 m.c, .int .i64 m.x, .int .i64 m.y, .int .i64 m.z, .bool m.d], .agg #[.int .i64 p, .int .i64 q, .int .i64 r]] W (RetBelow (.int .i64 t) W)))
    (k3 : Hid (∀ W : World, Calls Try.prog 40 #[.string (Nm.str n.s), .string (Nm.str m.s)] W (RetBelow (.bool l1) W)))
    (k4 : Hid (∀ W : World, Calls Try.prog 40 #[.string (Nm.str m.s), .string (Nm.str n.s)] W (RetBelow (.bool l2) W)))
    (hR : Hid (R = if s = t then (if l1 || l2 then l1 else decide (i < j)) else decide (s < t))) :
    Calls Try.prog 27 #[.slice (some ⟨b0, off0, none⟩) N c, .agg #[.int .i64 p, .int .i64 q, .int .i64 r], .int .i64 (i : Int), .int .i64 (j : Int)] w (RetBelow (.bool R) w) := by
  have X0 := Lib.hid (LA.new w (some ⟨b0, off0, none⟩) L p q r)
  have hi : (i : Int) < N := by have := (List.getElem?_eq_some_iff.1 hn).1; omega
  have hj : (j : Int) < N := by have := (List.getElem?_eq_some_iff.1 hm).1; omega
  have HA := Lib.hid hA
  have Hn := Lib.hid hn
  have Hm := Lib.hid hm
  clear hA hn hm hN
  obtain ⟨c0, c1, c2, c3, c4, c5, c6, c7⟩ := HA.out.at X0.out.b Hn.out
  obtain ⟨d0, d1, d2, d3, d4, d5, d6, d7⟩ := HA.out.at X0.out.b Hm.out
  obtain ⟨v0, v1, v2⟩ := X0.out.v.c3
  go_enter Try.func27, Try.ntmps27
  go_wp2_with fail
  generalize w.alloc (.cells #[.int .i64 p, .int .i64 q, .int .i64 r] 24) = w0 at *
  go_still_tail 5, (by kernel_rfl)
  change wpList _ _ _ _ _ w0.drew
  have X1 := Lib.hid (X0.out.on (Below.refl _ w0).drew)
  go_wp2_with (go_at_call 18; (with_reducible refine (k1.out _).mono ?_); rintro e w2 ⟨rfl, hb⟩; have X2 := Lib.hid (X1.out.on hb); clear hb; obtain ⟨c0, c1, c2, c3, c4, c5, c6, c7⟩ := HA.out.at X2.out.b Hn.out; obtain ⟨d0, d1, d2, d3, d4, d5, d6, d7⟩ := HA.out.at X2.out.b Hm.out; obtain ⟨v0, v1, v2⟩ := X2.out.v.c3)
  go_still_tail 5, (by kernel_rfl)
  change wpList _ _ _ _ _ w2.drew
  have X3 := Lib.hid (X2.out.on (Below.refl _ w2).drew)
  by_cases hst : s = t
  · have g1 : (s != t) = false := by rw [bne_eq_false_iff_eq]; exact hst
    have hR2 : Hid (R = if l1 || l2 then l1 else decide (i < j)) := Lib.hid (by rw [hR.out, if_pos hst])
    clear hst hR
    go_wp2_with (go_at_call 18; (with_reducible refine (k2.out _).mono ?_); rintro e w4 ⟨rfl, hb⟩; have X4 := Lib.hid (X3.out.on hb); clear hb; obtain ⟨c0, c1, c2, c3, c4, c5, c6, c7⟩ := HA.out.at X4.out.b Hn.out; obtain ⟨d0, d1, d2, d3, d4, d5, d6, d7⟩ := HA.out.at X4.out.b Hm.out; obtain ⟨v0, v1, v2⟩ := X4.out.v.c3)
    have CL1 := Lib.hid fun Z : Wd (fun X => LA w X (some ⟨b0, off0, none⟩) L p q r) => Calls.in_class Z (k3.out Z.X) (fun X h1 h2 => LA.on h1 h2)
    have CL2 := Lib.hid fun Z : Wd (fun X => LA w X (some ⟨b0, off0, none⟩) L p q r) => Calls.in_class Z (k4.out Z.X) (fun X h1 h2 => LA.on h1 h2)
    clear c0 c1 c2 c3 c4 c5 c6 c7 d0 d1 d2 d3 d4 d5 d6 d7 v0 v1 v2
    have c0 : ∀ Z : Wd (fun X => LA w X (some ⟨b0, off0, none⟩) L p q r), Z.X.cell? ⟨b0, off0 + i * 8, none⟩ = some (.string (Nm.str n.s)) := fun Z => (HA.out.at Z.ok.b Hn.out).c0
    have d0 : ∀ Z : Wd (fun X => LA w X (some ⟨b0, off0, none⟩) L p q r), Z.X.cell? ⟨b0, off0 + j * 8, none⟩ = some (.string (Nm.str m.s)) := fun Z => (HA.out.at Z.ok.b Hm.out).c0
    cases l1 with
    | true =>
      refine wp_region_class (fun X => LA w X (some ⟨b0, off0, none⟩) L p q r) (by kernel_rfl) (by kernel_rfl) (X4.out.on (Below.refl _ _).drew) (fun hne => ?_)
      haveI := hne
      iterate 24 (quiet_step ((first | (go_at_call 40; with_reducible exact CL1.out _) | (go_at_call 40; with_reducible exact CL2.out _))))
      refine wpQuiet_nil ?_
      intro z1 hz1
      obtain ⟨⟨z5, X5⟩, rfl⟩ := hz1
      have X5 := Lib.hid X5
      go_wp2_with fail
      refine wp_region_class (fun X => LA w X (some ⟨b0, off0, none⟩) L p q r) (by kernel_rfl) (by kernel_rfl) (X5.out.on (Below.refl _ _).drew) (fun hne => ?_)
      haveI := hne
      iterate 12 (quiet_step ((first | (go_at_call 40; with_reducible exact CL1.out _) | (go_at_call 40; with_reducible exact CL2.out _))))
      refine wpQuiet_nil ?_
      intro z1 hz1
      obtain ⟨⟨z6, X6⟩, rfl⟩ := hz1
      have X6 := Lib.hid X6
      go_wp2_with fail
      go_ret
      exact ⟨by rw [hR2.out]; rfl, X6.out.b⟩
    | false =>
      cases l2 with
      | true =>
        refine wp_region_class (fun X => LA w X (some ⟨b0, off0, none⟩) L p q r) (by kernel_rfl) (by kernel_rfl) (X4.out.on (Below.refl _ _).drew) (fun hne => ?_)
        haveI := hne
        iterate 24 (quiet_step ((first | (go_at_call 40; with_reducible exact CL1.out _) | (go_at_call 40; with_reducible exact CL2.out _))))
        refine wpQuiet_nil ?_
        intro z1 hz1
        obtain ⟨⟨z5, X5⟩, rfl⟩ := hz1
        have X5 := Lib.hid X5
        go_wp2_with fail
        refine wp_region_class (fun X => LA w X (some ⟨b0, off0, none⟩) L p q r) (by kernel_rfl) (by kernel_rfl) (X5.out.on (Below.refl _ _).drew) (fun hne => ?_)
        haveI := hne
        iterate 12 (quiet_step ((first | (go_at_call 40; with_reducible exact CL1.out _) | (go_at_call 40; with_reducible exact CL2.out _))))
        refine wpQuiet_nil ?_
        intro z1 hz1
        obtain ⟨⟨z6, X6⟩, rfl⟩ := hz1
        have X6 := Lib.hid X6
        go_wp2_with fail
        go_ret
        exact ⟨by rw [hR2.out]; rfl, X6.out.b⟩
      | false =>
        refine wp_region_class (fun X => LA w X (some ⟨b0, off0, none⟩) L p q r) (by kernel_rfl) (by kernel_rfl) (X4.out.on (Below.refl _ _).drew) (fun hne => ?_)
        haveI := hne
        iterate 24 (quiet_step ((first | (go_at_call 40; with_reducible exact CL1.out _) | (go_at_call 40; with_reducible exact CL2.out _))))
        refine wpQuiet_nil ?_
        intro z1 hz1
        obtain ⟨⟨z5, X5⟩, rfl⟩ := hz1
        have X5 := Lib.hid X5
        go_wp2_with fail
        go_ret
        exact ⟨by rw [hR2.out]; simp, X5.out.b⟩
  · have g1 : (s != t) = true := by rw [bne_iff_ne]; exact hst
    have hR2 : Hid (R = decide (s < t)) := Lib.hid (by rw [hR.out, if_neg hst])
    clear hst hR
    go_wp2_with (go_at_call 18; (with_reducible refine (k2.out _).mono ?_); rintro e w4 ⟨rfl, hb⟩; have X4 := Lib.hid (X3.out.on hb); clear hb; obtain ⟨c0, c1, c2, c3, c4, c5, c6, c7⟩ := HA.out.at X4.out.b Hn.out; obtain ⟨d0, d1, d2, d3, d4, d5, d6, d7⟩ := HA.out.at X4.out.b Hm.out; obtain ⟨v0, v1, v2⟩ := X4.out.v.c3)
    go_ret
    exact ⟨by rw [hR2.out]; rfl, X4.out.b⟩
theorem before_any (L : List Nd) (b0 off0 N c i j : Nat) (p q r : Int) (w : World) (hA : NodesAt w w.heap.size (some ⟨b0, off0, none⟩) L) (hi : i < L.length) (hj : j < L.length) (hN : L.length = N) (h1000 : N ≤ 1000) (hok : ∀ n ∈ L, Nok n) (bp : I64 p) (bq : I64 q) (br : I64 r) :
    Calls Try.prog 27 #[.slice (some ⟨b0, off0, none⟩) N c, .agg #[.int .i64 p, .int .i64 q, .int .i64 r], .int .i64 (i : Int), .int .i64 (j : Int)] w (RetBelow (.bool (bef (scL L p q r) (nmL L) i j)) w) := by
  have hn := List.getElem?_eq_getElem hi
  have hm := List.getElem?_eq_getElem hj
  have on := hok _ (List.getElem_mem hi)
  have om := hok _ (List.getElem_mem hj)
  generalize L[i] = n at *
  generalize L[j] = m at *
  refine before_core L b0 off0 N c i j n m p q r (nscore n p q r) (nscore m p q r) (Nm.Pl.less n.s m.s) (Nm.Pl.less m.s n.s) _ w hA hn hm hN h1000 (Lib.hid fun W => refScore_any n p q r W on bp bq br) (Lib.hid fun W => refScore_any m p q r W om bp bq br) (Lib.hid fun W => refLessN _ _ on.s om.s W) (Lib.hid fun W => refLessN _ _ om.s on.s W) (Lib.hid ?_)
  unfold bef
  rw [sc_takes hn, sc_takes hm, show nmL L i = n.s by unfold nmL; rw [hn]; rfl, show nmL L j = m.s by unfold nmL; rw [hm]; rfl]
  by_cases e : nscore n p q r = nscore m p q r
  · rw [if_pos e, if_pos e]
    unfold Nm.Pl.less
    by_cases f : Nm.Pl.nums n.s = Nm.Pl.nums m.s
    · rw [if_pos f, f, Nm.Pl.lt_self]
      simp
    · rw [if_neg f]
      cases h1 : Nm.Pl.lt (Nm.Pl.nums n.s) (Nm.Pl.nums m.s) with
      | true => simp
      | false =>
        cases h2 : Nm.Pl.lt (Nm.Pl.nums m.s) (Nm.Pl.nums n.s) with
        | true => simp
        | false => exact absurd (Nm.Pl.lt_total _ _ h1 h2) f
  · rw [if_neg e, if_neg e]
end Go.Proofs.Ytjpnkecfoealoaa
