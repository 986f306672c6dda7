import Derived.Test.YtiedeneglhboiaaMy
import Derived.Test.YtiedeneglhboiaaUd
import Derived.Deep.RegionHeld3
namespace Go.Proofs.Ytiedeneglhboiaa
open Go.RowKit Pl
set_option linter.unusedVariables false
set_option maxRecDepth 20000
set_option maxHeartbeats 1000000 in
theorem law_encodes (o : Int) (s t : ByteArray) (a b c n : Int) (w : World) (ho : InR o) (hs : s.size ≤ 140737488351232) (ht : t.size ≤ 140737488351232) (ha : InR a) (hb : InR b) (hc : InR c) (hn : InR n) :
    Calls Try.prog 3 #[.agg #[.int .i64 o, .string s, .string t, .int .i64 a, .int .i64 b, .int .i64 c, .int .i64 n]] w (RetBelow (.bool true) w) := by
  have HM := Lib.hid (fun W => may_any o s t a b c n W (by omega) (by omega))
  have HQ := Lib.hid (fun W => asks_any o s t a b c n W (by omega) (by omega))
  have HE := Lib.hid (fun W => encodeC_any o s t a b c n W ho (by omega) (by omega) ha hb hc hn)
  have HMr := Lib.hid (fun W => refMay_any o s t a b c n W (by omega) (by omega))
  have HQr := Lib.hid (fun W => refAsks_any o s t a b c n W (by omega) (by omega))
  have HEr := Lib.hid (fun W => refEncode_any o s t a b c n W ho (by omega) (by omega) ha hb hc hn)
  have HAW := Lib.hid awakeC_any
  have HB0 := Lib.hid ((Below.refl w.heap.size w).alloc (Nat.le_refl _) (cRowV o s t a b c n))
  have HR := Lib.hid (heap_alloc_new w (cRowV o s t a b c n))
  obtain ⟨W, hW⟩ : ∃ W, w.alloc (.cells #[.int .i64 o, .string s, .string t, .int .i64 a, .int .i64 b, .int .i64 c, .int .i64 n] 25) = W := ⟨_, rfl⟩
  rw [show w.alloc (cRowV o s t a b c n) = W from hW] at HB0 HR
  have hz : w.heap.size < W.heap.size := by rw [← hW]; simp
  have HK := Lib.hid (fun V (h : Below W.heap.size W V) => cat_of HR.out hz h)
  have HW := Lib.hid hW
  clear ho hs ht ha hb hc hn hW hz
  obtain ⟨M, hM⟩ : ∃ M, mayC o s t a b c n = M := ⟨_, rfl⟩
  obtain ⟨Q, hQ⟩ : ∃ Q, asksC o s t a b c n = Q := ⟨_, rfl⟩
  obtain ⟨X, hX⟩ : ∃ X, encC o s t a b c n = X := ⟨_, rfl⟩
  obtain ⟨Y, hY⟩ : ∃ Y, errC o s t a b c n = Y := ⟨_, rfl⟩
  have hM := Lib.hid hM
  have hQ := Lib.hid hQ
  have hX := Lib.hid hX
  have hY := Lib.hid hY
  go_enter Try.func3, Try.ntmps3
  go_wp2_with fail
  rw [HW.out]
  go_wp2_with (first
    | (go_at_call 12; (with_reducible refine (HEr.out _).mono ?_); rintro e w3 ⟨rfl, h⟩; rw [hX.out, hY.out]; have B3 : Hid (Below W.heap.size W w3) := Lib.hid (B2.out.trans (h.mono B2.out.size)); clear h; obtain ⟨f0, f1, f2, f3, f4, f5, f6⟩ := HK.out _ B3.out.drew)
    | (go_at_call 11; (with_reducible refine (HE.out _).mono ?_); rintro e w2 ⟨rfl, h⟩; rw [hX.out, hY.out]; have B2 : Hid (Below W.heap.size W w2) := Lib.hid (B1.out.trans (h.mono B1.out.size)); clear h; obtain ⟨e0, e1, e2, e3, e4, e5, e6⟩ := HK.out _ B2.out)
    | (go_at_call 10; (with_reducible refine (HAW.out _).mono ?_); rintro e w1 ⟨rfl, h⟩; have B1 : Hid (Below W.heap.size W w1) := Lib.hid h; clear h; obtain ⟨d0, d1, d2, d3, d4, d5, d6⟩ := HK.out _ B1.out))
  have BN : Hid (Below W.heap.size W w3.drew) := Lib.hid B3.out.drew
  go_region_held3 (fun V => V.cell? ⟨w.heap.size, 0, none⟩ = some (.int .i64 o) ∧ V.cell? ⟨w.heap.size, 1, none⟩ = some (.string s) ∧ V.cell? ⟨w.heap.size, 2, none⟩ = some (.string t) ∧ V.cell? ⟨w.heap.size, 3, none⟩ = some (.int .i64 a) ∧ V.cell? ⟨w.heap.size, 4, none⟩ = some (.int .i64 b) ∧ V.cell? ⟨w.heap.size, 5, none⟩ = some (.int .i64 c) ∧ V.cell? ⟨w.heap.size, 6, none⟩ = some (.int .i64 n))
    (first | exact HK.out _ BN.out)
    (first
      | (go_at_call 13; (with_reducible refine (HM.out _).mono ?_); rintro e wA ⟨rfl, h⟩; rw [hM.out]; replace BN : Hid (Below W.heap.size W wA) := Lib.hid (BN.out.trans (h.mono BN.out.size)); clear h)
      | (go_at_call 14; (with_reducible refine (HMr.out _).mono ?_); rintro e wB ⟨rfl, h⟩; rw [hM.out]; replace BN : Hid (Below W.heap.size W wB) := Lib.hid (BN.out.trans (h.mono BN.out.size)); clear h)
      | (go_at_call 15; (with_reducible refine (HQ.out _).mono ?_); rintro e wC ⟨rfl, h⟩; rw [hQ.out]; replace BN : Hid (Below W.heap.size W wC) := Lib.hid (BN.out.trans (h.mono BN.out.size)); clear h)
      | (go_at_call 16; (with_reducible refine (HQr.out _).mono ?_); rintro e wD ⟨rfl, h⟩; rw [hQ.out]; replace BN : Hid (Below W.heap.size W wD) := Lib.hid (BN.out.trans (h.mono BN.out.size)); clear h))
  all_goals
    go_wp2_with fail
    go_ret
    exact ⟨rfl, HB0.out.trans (BN.out.mono HB0.out.size)⟩
set_option maxHeartbeats 1000000 in
theorem law_packs (o : Int) (s : ByteArray) (a b c n : Int) (w : World) (ho : InR o) (hs : s.size ≤ 140737488351232) (ha : InR a) (hb : InR b) (hc : InR c) (hn : InR n) :
    Calls Try.prog 5 #[.agg #[.int .i64 o, .string s, .int .i64 a, .int .i64 b, .int .i64 c, .int .i64 n]] w (RetBelow (.bool true) w) := by
  have HE := Lib.hid (fun W => packR_any o s a b c n W ho ha hb hc hn)
  have HEr := Lib.hid (fun W => refPack_any o s a b c n W (by omega) ho ha hb hc hn)
  have HAW := Lib.hid awakeC_any
  have HB0 := Lib.hid ((Below.refl w.heap.size w).alloc (Nat.le_refl _) (rRowV o s a b c n))
  have HR := Lib.hid (heap_alloc_new w (rRowV o s a b c n))
  obtain ⟨W, hW⟩ : ∃ W, w.alloc (.cells #[.int .i64 o, .string s, .int .i64 a, .int .i64 b, .int .i64 c, .int .i64 n] 34) = W := ⟨_, rfl⟩
  rw [show w.alloc (rRowV o s a b c n) = W from hW] at HB0 HR
  have hz : w.heap.size < W.heap.size := by rw [← hW]; simp
  have HK := Lib.hid (fun V (h : Below W.heap.size W V) => rat_of HR.out hz h)
  have HW := Lib.hid hW
  clear ho hs ha hb hc hn hW hz
  obtain ⟨X, hX⟩ : ∃ X, packR o s a b c n = X := ⟨_, rfl⟩
  obtain ⟨Y, hY⟩ : ∃ Y, errR o s a b c n = Y := ⟨_, rfl⟩
  have hX := Lib.hid hX
  have hY := Lib.hid hY
  go_enter Try.func5, Try.ntmps5
  go_wp2_with fail
  rw [HW.out]
  go_wp2_with (first
    | (go_at_call 22; (with_reducible refine (HEr.out _).mono ?_); rintro e w3 ⟨rfl, h⟩; rw [hX.out, hY.out]; have B3 : Hid (Below W.heap.size W w3) := Lib.hid (B2.out.trans (h.mono B2.out.size)); clear h; obtain ⟨f0, f1, f2, f3, f4, f5⟩ := HK.out _ B3.out)
    | (go_at_call 21; (with_reducible refine (HE.out _).mono ?_); rintro e w2 ⟨rfl, h⟩; rw [hX.out, hY.out]; have B2 : Hid (Below W.heap.size W w2) := Lib.hid (B1.out.trans (h.mono B1.out.size)); clear h; obtain ⟨e0, e1, e2, e3, e4, e5⟩ := HK.out _ B2.out)
    | (go_at_call 10; (with_reducible refine (HAW.out _).mono ?_); rintro e w1 ⟨rfl, h⟩; have B1 : Hid (Below W.heap.size W w1) := Lib.hid h; clear h; obtain ⟨d0, d1, d2, d3, d4, d5⟩ := HK.out _ B1.out))
  go_ret
  exact ⟨rfl, HB0.out.trans (B3.out.mono HB0.out.size)⟩
end Go.Proofs.Ytiedeneglhboiaa
