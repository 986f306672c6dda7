import Derived.Test.YtjpnkecfoealoaaVSub
namespace Go.Proofs.Ytjpnkecfoealoaa.Vc
set_option maxRecDepth 20000
open Go.RowKit
set_option linter.unusedVariables false
structure V3 where
  x : Int
  y : Int
  z : Int
/-- a slice of Vecs that reads as L, in a block below B -/
def VecsAt (w : World) (B : Nat) (A : Option Addr) (L : List V3) : Prop :=
  L ≠ [] → ∃ b off, A = some ⟨b, off, none⟩ ∧ b < B ∧ ∀ j v, L[j]? = some v → w.cell? ⟨b, off + j * 3, none⟩ = some (.int .i64 v.x) ∧ w.cell? ⟨b, off + j * 3 + 1, none⟩ = some (.int .i64 v.y) ∧ w.cell? ⟨b, off + j * 3 + 2, none⟩ = some (.int .i64 v.z)
theorem VecsAt.on {w w' : World} {B : Nat} {A : Option Addr} {L : List V3} (h : VecsAt w B A L) (hb : Below B w w') : VecsAt w' B A L := fun hne => by
  obtain ⟨b, off, h1, h2, h3⟩ := h hne
  refine ⟨b, off, h1, h2, fun j v hv => ?_⟩
  obtain ⟨a1, a2, a3⟩ := h3 j v hv
  exact ⟨(hb.cell (p := ⟨b, _, none⟩) h2).trans a1, (hb.cell (p := ⟨b, _, none⟩) h2).trans a2, (hb.cell (p := ⟨b, _, none⟩) h2).trans a3⟩
theorem VecsAt.mono {w : World} {B B' : Nat} {A : Option Addr} {L : List V3} (h : VecsAt w B A L) (hB : B ≤ B') : VecsAt w B' A L := fun hne => by
  obtain ⟨b, off, h1, h2, h3⟩ := h hne
  exact ⟨b, off, h1, by omega, h3⟩
def Vok (v : V3) : Prop := I64 v.x ∧ I64 v.y ∧ I64 v.z
def sumI (l : List Int) : Int := l.foldr (· + ·) 0
theorem sumI_append (a b : List Int) : sumI (a ++ b) = sumI a + sumI b := by
  induction a with
  | nil => simp [sumI]
  | cons x r ih => simp only [sumI, List.cons_append, List.foldr_cons] at ih ⊢; omega
theorem sumI_bd (l : List Int) (h : ∀ x ∈ l, I64 x) : -9223372036854775808 * (l.length : Int) ≤ sumI l ∧ sumI l ≤ 9223372036854775808 * (l.length : Int) := by
  induction l with
  | nil => simp [sumI]
  | cons x r ih =>
    have h1 := h x (by simp)
    have h2 := ih fun y hy => h y (by simp [hy])
    unfold I64 at h1
    have e : sumI (x :: r) = x + sumI r := rfl
    rw [e, List.length_cons]
    push_cast
    omega
theorem sumI_big (l : List Int) (h : ∀ x ∈ l, I64 x) (hn : l.length ≤ 100000) : Big (sumI l) := by
  have := sumI_bd l h
  unfold Big
  omega
def sX (L : List V3) : Int := sumI (L.map (·.x))
def sY (L : List V3) : Int := sumI (L.map (·.y))
def sZ (L : List V3) : Int := sumI (L.map (·.z))
theorem s_snoc (L : List V3) (k : Nat) (v : V3) (h : L[k]? = some v) : sX (L.take (k + 1)) = sX (L.take k) + v.x ∧ sY (L.take (k + 1)) = sY (L.take k) + v.y ∧ sZ (L.take (k + 1)) = sZ (L.take k) + v.z := by
  have hk := (List.getElem?_eq_some_iff.1 h).1
  have hv := (List.getElem?_eq_some_iff.1 h).2
  rw [List.take_succ_eq_append_getElem hk, hv]
  simp only [sX, sY, sZ, List.map_append, sumI_append]
  simp [sumI]
theorem s_big (L : List V3) (h : ∀ v ∈ L, Vok v) (hn : L.length ≤ 100000) : Big (sX L) ∧ Big (sY L) ∧ Big (sZ L) := by
  refine ⟨sumI_big _ ?_ (by simpa using hn), sumI_big _ ?_ (by simpa using hn), sumI_big _ ?_ (by simpa using hn)⟩
  all_goals
    intro x hx
    obtain ⟨v, hv, rfl⟩ := List.mem_map.1 hx
    have := h v hv
    simp [Vok] at this
    first | exact this.1 | exact this.2.1 | exact this.2.2

/-- the head of the loop over L -/
def SumRel (w : World) (L : List V3) (i : Value) (wr : World) : Prop := ∃ k : Nat, k ≤ L.length ∧ i = .int .i64 k ∧ Below w.heap.size w wr ∧ TotAt wr (w.heap.size + 1) (sX (L.take k)) (sY (L.take k)) (sZ (L.take k)) ∧ BK wr w.heap.size 0 0 0
set_option maxHeartbeats 1000000 in
theorem sum_any (L : List V3) (A : Option Addr) (n cap : Nat) (w : World) (hb : VecsAt w w.heap.size A L) (hn : L.length = n) (hok : ∀ v ∈ L, Vok v) (hl : n ≤ 100000) :
    Calls Try.prog 35 #[.slice A n cap] w (RetBelow (outV (sX L) (sY L) (sZ L)) w) := by
  have HN := Lib.hid hn
  have HB := Lib.hid hb
  have HO := Lib.hid hok
  clear hn hb hok
  have c3 := Lib.hid fun (W : World) (g : Nat) (T : TotAt W g (sX L) (sY L) (sZ L)) => vec_any g _ _ _ W T
  obtain ⟨p, q, r, e, he⟩ := outV_form (sX L) (sY L) (sZ L)
  rw [he] at c3 ⊢
  clear he
  go_enter Try.func35, Try.ntmps35
  go_wp2_with fail
  have T0 := TotAt.zero (w.alloc (.cells #[.int .i64 0, .int .i64 0, .int .i64 0] 24))
  have K0 := (BK.new w 0 0 0).alloc (.cells #[.int .i64 0, .int .i64 0, .int .i64 0, .int .i64 0, .int .i64 0, .int .i64 0] 73)
  have B0 : Below w.heap.size w ((w.alloc (.cells #[.int .i64 0, .int .i64 0, .int .i64 0] 24)).alloc (.cells #[.int .i64 0, .int .i64 0, .int .i64 0, .int .i64 0, .int .i64 0, .int .i64 0] 73)) := ((Below.refl _ _).alloc (Nat.le_refl _) _).alloc (by simp) _
  simp only [World.size_alloc] at T0
  generalize ((w.alloc (.cells #[.int .i64 0, .int .i64 0, .int .i64 0] 24)).alloc (.cells #[.int .i64 0, .int .i64 0, .int .i64 0, .int .i64 0, .int .i64 0, .int .i64 0] 73)) = W0 at *
  have R0 : SumRel w L (.int .i64 0) W0 := ⟨0, by omega, rfl, B0, T0, K0⟩
  have HR := Lib.hid R0
  clear T0 K0 B0 R0
  go_loopw [9] (SumRel w L) (fun i _ => n - (intOf i).toNat)
  case atStart => exact HR.out
  case round =>
    clear HR
    obtain ⟨k, hk, rfl, bel, T, K⟩ := hrel
    by_cases hlt : k < n
    · have hkl : k < L.length := by rw [HN.out]; exact hlt
      obtain ⟨b, off, rfl, hb1, hb2⟩ := HB.out (fun e => by rw [e] at hkl; simp at hkl)
      have hv : L[k]? = some L[k] := List.getElem?_eq_getElem hkl
      obtain ⟨a1, a2, a3⟩ := hb2 k _ hv
      have d1 := (bel.cell (p := ⟨b, _, none⟩) hb1).trans a1
      have d2 := (bel.cell (p := ⟨b, _, none⟩) hb1).trans a2
      have d3 := (bel.cell (p := ⟨b, _, none⟩) hb1).trans a3
      have hs := s_snoc L k _ hv
      have hbg := s_big (L.take k) (fun v hv => HO.out v (List.mem_of_mem_take hv)) (by simp; omega)
      have hvk := HO.out L[k] (List.getElem_mem hkl)
      have BE := Lib.hid bel
      have HT := Lib.hid T
      have HK := Lib.hid K
      clear hb2 a1 a2 a3 hv bel T K
      go_wp2_with fail
      refine (add_any _ _ _ _ _ _ _ _ (HT.out.on (((Below.refl _ wr).alloc (Nat.le_refl _) _).block _ HT.out.lt)) hbg.1 hbg.2.1 hbg.2.2 hvk.1 hvk.2.1 hvk.2.2).mono ?_
      rintro _ w1 ⟨rfl, g1, T1⟩
      rw [← hs.1, ← hs.2.1, ← hs.2.2] at T1
      have ba : Below wr.heap.size wr (wr.alloc (.cells #[.int .i64 L[k].x, .int .i64 L[k].y, .int .i64 L[k].z] 24)) := (Below.refl _ wr).alloc (Nat.le_refl _) _
      have H1 : Hid (Below w.heap.size w w1) := Lib.hid ((BE.out.alloc BE.out.size _).grown g1 (by have := BE.out.size; simp; omega) (by intro j hj; cases hj; omega))
      have K1 : Hid (BK w1 w.heap.size 0 0 0) := Lib.hid ((HK.out.alloc _).grown g1 (by omega))
      have HT1 := Lib.hid T1
      clear g1 T1 ba hs hbg hvk
      go_wp2_with fail
      go_roundw
      case rel => exact ⟨k + 1, by omega, by go_num, H1.out, HT1.out, K1.out⟩
      case measure => simp [intOf]; omega
    · obtain rfl : k = n := by have := HN.out; omega
      rw [List.take_of_length_le (by rw [HN.out]; exact Nat.le_refl _)] at T
      have BE := Lib.hid bel
      have HT := Lib.hid T
      have HK := Lib.hid K
      clear bel T K
      go_wp2_with fail
      refine (c3.out _ _ HT.out).mono ?_
      rintro _ w3 ⟨rfl, hb⟩
      have H3 : Hid (Below w.heap.size w w3) := Lib.hid (BE.out.trans (hb.mono BE.out.size))
      have P2 : BK w3 w.heap.size 0 0 0 := HK.out.on hb HK.out.lt
      obtain ⟨d0, d1, d2⟩ := P2.c3
      have f0 := P2.f0 0
      have f1 := P2.f0 1
      have f2 := P2.f0 2
      clear P2 HK HT hb
      go_wp2_with fail
      exact bodyPost_ret (v := .tuple #[.agg #[.int .i64 p, .int .i64 q, .int .i64 r], .int .i64 e]) (by simp [results, Try.results35, go_sem, d0, d1, d2]) rfl
        ⟨rfl, ((H3.out.setCell (Nat.le_refl _) _).setCell (Nat.le_refl _) _).setCell (Nat.le_refl _) _⟩
theorem vecs_new (w : World) (cs : Array Value) (L : List V3) (h : ∀ j v, L[j]? = some v → cs[0 + j * 3]? = some (.int .i64 v.x) ∧ cs[0 + j * 3 + 1]? = some (.int .i64 v.y) ∧ cs[0 + j * 3 + 2]? = some (.int .i64 v.z)) :
    VecsAt (w.alloc (.cells cs 24)) (w.alloc (.cells cs 24)).heap.size (some ⟨w.heap.size, 0, none⟩) L := fun _ =>
  ⟨w.heap.size, 0, rfl, by simp, fun j v hv => by
    obtain ⟨a, b, c⟩ := h j v hv
    have e := heap_alloc_new w (.cells cs 24)
    exact ⟨(cell_of_row _ _ _ _ _ _ e).trans a, (cell_of_row _ _ _ _ _ _ e).trans b, (cell_of_row _ _ _ _ _ _ e).trans c⟩⟩
theorem vecs_1 (w : World) (a b c : Int) : VecsAt (w.alloc (.cells #[.int .i64 a, .int .i64 b, .int .i64 c] 24)) (w.alloc (.cells #[.int .i64 a, .int .i64 b, .int .i64 c] 24)).heap.size (some ⟨w.heap.size, 0, none⟩) [⟨a, b, c⟩] :=
  vecs_new w _ _ fun j v hv => by
    match j with
    | 0 => simp at hv; subst hv; exact ⟨rfl, rfl, rfl⟩
    | j + 1 => simp at hv
theorem vecs_2 (w : World) (a b c x y z : Int) : VecsAt (w.alloc (.cells #[.int .i64 a, .int .i64 b, .int .i64 c, .int .i64 x, .int .i64 y, .int .i64 z] 24)) (w.alloc (.cells #[.int .i64 a, .int .i64 b, .int .i64 c, .int .i64 x, .int .i64 y, .int .i64 z] 24)).heap.size (some ⟨w.heap.size, 0, none⟩) [⟨a, b, c⟩, ⟨x, y, z⟩] :=
  vecs_new w _ _ fun j v hv => by
    match j with
    | 0 => simp at hv; subst hv; exact ⟨rfl, rfl, rfl⟩
    | 1 => simp at hv; subst hv; exact ⟨rfl, rfl, rfl⟩
    | j + 2 => simp at hv
theorem vecs_3 (w : World) (a b c x y z s t u : Int) : VecsAt (w.alloc (.cells #[.int .i64 a, .int .i64 b, .int .i64 c, .int .i64 x, .int .i64 y, .int .i64 z, .int .i64 s, .int .i64 t, .int .i64 u] 24)) (w.alloc (.cells #[.int .i64 a, .int .i64 b, .int .i64 c, .int .i64 x, .int .i64 y, .int .i64 z, .int .i64 s, .int .i64 t, .int .i64 u] 24)).heap.size (some ⟨w.heap.size, 0, none⟩) [⟨a, b, c⟩, ⟨x, y, z⟩, ⟨s, t, u⟩] :=
  vecs_new w _ _ fun j v hv => by
    match j with
    | 0 => simp at hv; subst hv; exact ⟨rfl, rfl, rfl⟩
    | 1 => simp at hv; subst hv; exact ⟨rfl, rfl, rfl⟩
    | 2 => simp at hv; subst hv; exact ⟨rfl, rfl, rfl⟩
    | j + 3 => simp at hv
theorem sum0 (w : World) : Calls Try.prog 35 #[.slice none 0 0] w (RetBelow (outV 0 0 0) w) := sum_any [] none 0 0 w (fun h => absurd rfl h) rfl (fun v hv => by cases hv) (by omega)
theorem sum1 (a b c : Int) (w : World) (ba : I64 a) (bb : I64 b) (bc : I64 c) : Calls Try.prog 35 #[.slice (some ⟨w.heap.size, 0, none⟩) 1 1] (w.alloc (.cells #[.int .i64 a, .int .i64 b, .int .i64 c] 24))
    (RetBelow (outV a b c) (w.alloc (.cells #[.int .i64 a, .int .i64 b, .int .i64 c] 24))) := by
  have := sum_any _ _ 1 1 _ (vecs_1 w a b c) rfl (by intro v hv; simp at hv; subst hv; exact ⟨ba, bb, bc⟩) (by omega)
  simpa [sX, sY, sZ, sumI] using this
theorem sum2 (a b c x y z : Int) (w : World) (ba : I64 a) (bb : I64 b) (bc : I64 c) (bx : I64 x) (by' : I64 y) (bz : I64 z) : Calls Try.prog 35 #[.slice (some ⟨w.heap.size, 0, none⟩) 2 2] (w.alloc (.cells #[.int .i64 a, .int .i64 b, .int .i64 c, .int .i64 x, .int .i64 y, .int .i64 z] 24))
    (RetBelow (outV (a + x) (b + y) (c + z)) (w.alloc (.cells #[.int .i64 a, .int .i64 b, .int .i64 c, .int .i64 x, .int .i64 y, .int .i64 z] 24))) := by
  have := sum_any _ _ 2 2 _ (vecs_2 w a b c x y z) rfl (by intro v hv; simp at hv; rcases hv with rfl | rfl; exact ⟨ba, bb, bc⟩; exact ⟨bx, by', bz⟩) (by omega)
  simpa [sX, sY, sZ, sumI] using this
theorem sum3 (a b c x y z s t u : Int) (w : World) (ba : I64 a) (bb : I64 b) (bc : I64 c) (bx : I64 x) (by' : I64 y) (bz : I64 z) (bs : I64 s) (bt : I64 t) (bu : I64 u) : Calls Try.prog 35 #[.slice (some ⟨w.heap.size, 0, none⟩) 3 3] (w.alloc (.cells #[.int .i64 a, .int .i64 b, .int .i64 c, .int .i64 x, .int .i64 y, .int .i64 z, .int .i64 s, .int .i64 t, .int .i64 u] 24))
    (RetBelow (outV (a + (x + s)) (b + (y + t)) (c + (z + u))) (w.alloc (.cells #[.int .i64 a, .int .i64 b, .int .i64 c, .int .i64 x, .int .i64 y, .int .i64 z, .int .i64 s, .int .i64 t, .int .i64 u] 24))) := by
  have := sum_any _ _ 3 3 _ (vecs_3 w a b c x y z s t u) rfl (by intro v hv; simp at hv; rcases hv with rfl | rfl | rfl; exact ⟨ba, bb, bc⟩; exact ⟨bx, by', bz⟩; exact ⟨bs, bt, bu⟩) (by omega)
  simpa [sX, sY, sZ, sumI] using this
theorem add_ret (a b c x y z : Int) (w : World) (ba : I64 a) (bb : I64 b) (bc : I64 c) (bx : I64 x) (by' : I64 y) (bz : I64 z) :
    Calls Try.prog 21 #[.agg #[.int .i64 a, .int .i64 b, .int .i64 c], .agg #[.int .i64 x, .int .i64 y, .int .i64 z]] w (RetBelow (outV (a + x) (b + y) (c + z)) w) := by
  have cs := Lib.hid fun W : World => sum2 a b c x y z W ba bb bc bx by' bz
  obtain ⟨p, q, r, e, he⟩ := outV_form (a + x) (b + y) (c + z)
  rw [he] at cs ⊢
  clear he ba bb bc bx by' bz
  go_enter Try.func21, Try.ntmps21
  go_wp2_with fail
  have K2 := (BK.new ((w.alloc (.cells #[.int .i64 a, .int .i64 b, .int .i64 c] 24)).alloc (.cells #[.int .i64 x, .int .i64 y, .int .i64 z] 24)) 0 0 0).alloc (.cells #[.int .i64 a, .int .i64 b, .int .i64 c, .int .i64 x, .int .i64 y, .int .i64 z] 24)
  have B0 : Below w.heap.size w ((((w.alloc (.cells #[.int .i64 a, .int .i64 b, .int .i64 c] 24)).alloc (.cells #[.int .i64 x, .int .i64 y, .int .i64 z] 24)).alloc (.cells #[.int .i64 0, .int .i64 0, .int .i64 0] 24)).alloc (.cells #[.int .i64 a, .int .i64 b, .int .i64 c, .int .i64 x, .int .i64 y, .int .i64 z] 24)) := ((((Below.refl _ _).alloc (Nat.le_refl _) _).alloc (by simp) _).alloc (by simp; omega) _).alloc (by simp; omega) _
  have C0 := cs.out (((w.alloc (.cells #[.int .i64 a, .int .i64 b, .int .i64 c] 24)).alloc (.cells #[.int .i64 x, .int .i64 y, .int .i64 z] 24)).alloc (.cells #[.int .i64 0, .int .i64 0, .int .i64 0] 24))
  simp only [World.size_alloc] at K2 C0
  refine C0.mono ?_
  rintro _ w3 ⟨rfl, hb⟩
  have H3 : Hid (Below w.heap.size w w3) := Lib.hid (B0.trans (hb.mono B0.size))
  have P2 : BK w3 (w.heap.size + 1 + 1) 0 0 0 := K2.on hb K2.lt
  obtain ⟨d0, d1, d2⟩ := P2.c3
  have f0 := P2.f0 0
  have f1 := P2.f0 1
  have f2 := P2.f0 2
  clear P2 K2 hb B0 C0
  go_wp2_with fail
  exact bodyPost_ret (v := .tuple #[.agg #[.int .i64 p, .int .i64 q, .int .i64 r], .int .i64 e]) (by simp [results, Try.results21, go_sem, d0, d1, d2]) rfl
    ⟨rfl, ((H3.out.setCell (by show _ ≤ w.heap.size + 1 + 1; omega) _).setCell (by show _ ≤ w.heap.size + 1 + 1; omega) _).setCell (by show _ ≤ w.heap.size + 1 + 1; omega) _⟩
end Go.Proofs.Ytjpnkecfoealoaa.Vc
