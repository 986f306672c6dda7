import Derived.Test.YtphclpjekpdifaaGreatYRq
import Derived.Test.YtphclpjekpdifaaGreatYVb
import Derived.Test.YtphclpjekpdifaaGreatYE
import Derived.Test.YtphclpjekpdifaaGreatY6
namespace Go.Proofs.YtphclpjekpdifaaGreat
set_option maxRecDepth 20000
open Go.RowKit
open PS (Tx putM dropM setM findM Nod Ten Jb kOf St Cm Rp byName row)
open Go.Proofs.YtphclpjekpdifaaGreat.Nm (str)
open Go.Proofs.YtphclpjekpdifaaGreat.Vc (RetBelow fitB I64 OwnV V3 VecsAt)
set_option linter.unusedVariables false
def selJ (nd tn : ByteArray) (x : Jb) : Bool := (str x.on).toList == nd.toList || (str x.t).toList == tn.toList
def v3J (x : Jb) : V3 := ⟨x.p, x.q, x.r⟩
set_option maxHeartbeats 4000000 in
theorem sum_core (L : List Jb) (A : Option Addr) (n cap : Nat) (nd tn : ByteArray) (w : World) (hn : L.length = n) (hl : n ≤ 128)
    (HC : Hid (∀ Z, Below w.heap.size w Z → ∀ (i : Nat) (x : Jb), L[i]? = some x → ∃ g, A = some ⟨g, 0, none⟩ ∧ Z.cell? ⟨g, i * 7, none⟩ = some (.string (str x.s)) ∧ Z.cell? ⟨g, i * 7 + 1, none⟩ = some (.string (str x.t)) ∧ Z.cell? ⟨g, i * 7 + 2, none⟩ = some (.int .i64 x.p) ∧ Z.cell? ⟨g, i * 7 + 3, none⟩ = some (.int .i64 x.q) ∧ Z.cell? ⟨g, i * 7 + 4, none⟩ = some (.int .i64 x.r) ∧ Z.cell? ⟨g, i * 7 + 5, none⟩ = some (.string (str x.on)) ∧ Z.cell? ⟨g, i * 7 + 6, none⟩ = some (.int .i64 x.st)))
    (hok : Hid (∀ x ∈ L, I64 x.p ∧ I64 x.q ∧ I64 x.r)) (X Y Z : Int) (hX : Hid (Vc.outV (Vc.sX ((L.filter (selJ nd tn)).map v3J)) (Vc.sY ((L.filter (selJ nd tn)).map v3J)) (Vc.sZ ((L.filter (selJ nd tn)).map v3J)) = Vc.vecV X Y Z 0)) :
    Calls Tryz.prog 17 #[.slice A n cap, .string nd, .string tn] w (RetBelow (.tuple #[.agg #[.int .i64 X, .int .i64 Y, .int .i64 Z], .bool true]) w) := by
  have HN := Lib.hid hn
  have H128 := Lib.hid hl
  clear hn
  have HB1 := Lib.hid ((Below.refl (w.heap.size + 1) (w.alloc (.cells #[.int .i64 0, .int .i64 0, .int .i64 0] 28))).alloc (by simp) (.cells #[] 28))
  have HBW0 := Lib.hid ((Below.refl w.heap.size w).alloc (Nat.le_refl _) (.cells #[.int .i64 0, .int .i64 0, .int .i64 0] 28))
  have HO0 := Lib.hid (OwnV.new (w.alloc (.cells #[.int .i64 0, .int .i64 0, .int .i64 0] 28)))
  have HR0 := Lib.hid (heap_alloc_new w (.cells #[.int .i64 0, .int .i64 0, .int .i64 0] 28))
  go_enter Tryz.func17, Tryz.ntmps17
  go_wp2_with fail
  go_loopw [8, 9, 15] (fun rV _ iV wr => ∃ (v : Value) (j : Nat), v = rV ∧ j ≤ n ∧ iV = .int .i64 j ∧ OwnV wr (w.heap.size + 1) v (((L.take j).filter (selJ nd tn)).map v3J) ∧ Below (w.heap.size + 1) (w.alloc (.cells #[.int .i64 0, .int .i64 0, .int .i64 0] 28)) wr) (fun _ _ iV _ => n - (intOf iV).toNat)
  case atStart => exact ⟨_, 0, rfl, Nat.zero_le _, rfl, by have := HO0.out; simpa using this, HB1.out⟩
  case round =>
    obtain ⟨v, j, rfl, hj, rfl, hown, hbw⟩ := hrel
    have HBW := Lib.hid hbw
    have HO := Lib.hid hown
    clear hown hbw
    by_cases hlt : j < n
    · have HLT := Lib.hid hlt
      have HSZ : Hid (w.heap.size + 1 ≤ wr.heap.size) := Lib.hid (by have := HBW.out.size; simpa using this)
      obtain ⟨x, hx⟩ : ∃ x, L[j]? = some x := ⟨_, List.getElem?_eq_getElem (by have := HN.out; omega)⟩
      have HST : Hid ((L.take (j + 1)).filter (selJ nd tn) = (L.take j).filter (selJ nd tn) ++ (if selJ nd tn x = true then [x] else [])) := Lib.hid (by
        rw [List.take_add_one, hx, List.filter_append]
        congr 1
        show List.filter _ [x] = _
        by_cases h : selJ nd tn x = true
        · rw [if_pos h, List.filter_cons_of_pos h]; rfl
        · rw [if_neg h, List.filter_cons_of_neg h]; rfl)
      have HFL : Hid ((((L.take j).filter (selJ nd tn)).map v3J).length ≤ 128) := Lib.hid (by
        rw [List.length_map]
        have := List.length_filter_le (selJ nd tn) (L.take j)
        rw [List.length_take] at this
        have := H128.out
        omega)
      have HWB := Lib.hid (HBW0.out.trans (HBW.out.mono (Nat.le_succ _)))
      obtain ⟨g, rfl, e0, e1, e2, e3, e4, e5, e6⟩ := HC.out _ HWB.out j x hx
      have hj128 : j < 128 := Nat.lt_of_lt_of_le hlt hl
      have g1 : decide ((j : Int) < (n : Int)) = true := by simp; omega
      have g2 : decide (j < n) = true := by simp; omega
      have HVX := Lib.hid (show VecsAt (wr.alloc (.cells #[.int .i64 x.p, .int .i64 x.q, .int .i64 x.r] 28)) (wr.heap.size + 1) (some ⟨wr.heap.size, 0, none⟩) [v3J x] from fun _ => ⟨wr.heap.size, 0, rfl, by omega, fun k u hu => by
        match k, hu with
        | 0, hu =>
          injection hu with hu
          subst hu
          obtain ⟨q0, q1, q2, _⟩ := row3f (heap_alloc_new wr (.cells #[.int .i64 x.p, .int .i64 x.q, .int .i64 x.r] 28))
          exact ⟨q0, q1, q2⟩⟩)
      have HBX := Lib.hid ((Below.refl wr.heap.size wr).alloc (Nat.le_refl _) (.cells #[.int .i64 x.p, .int .i64 x.q, .int .i64 x.r] 28))
      have HST : Hid (((L.take (j + 1)).filter (selJ nd tn)).map v3J = ((L.take j).filter (selJ nd tn)).map v3J ++ (if selJ nd tn x = true then [v3J x] else [])) := Lib.hid (by
        rw [HST.out, List.map_append]
        split <;> rfl)
      generalize ((L.take j).filter (selJ nd tn)).map v3J = LJ at *
      have hvx : v3J x = ⟨x.p, x.q, x.r⟩ := rfl
      rw [hvx] at HVX HST
      clear hvx hx HC
      have hs1 : selJ nd tn x = ((str x.on).toList == nd.toList || (str x.t).toList == tn.toList) := rfl
      rw [hs1] at HST
      clear hs1
      generalize str x.on = xo at *
      generalize str x.t = xt at *
      generalize str x.s = xs at *
      generalize x.p = xp at *
      generalize x.q = xq at *
      generalize x.r = xr at *
      generalize x.st = xst at *
      by_cases h1 : (xo.toList == nd.toList) = true
      · rw [h1, Bool.true_or, if_pos rfl] at HST
        go_wp2_with (first | (at_builtin; (refine Vc.wp_appV rfl (.tmp 34) (.tmp 40) rfl (w.heap.size + 1) v _ rfl (HO.out.below HBX.out) (some ⟨wr.heap.size, 0, none⟩) 1 1 _ [⟨xp, xq, xr⟩] rfl (fun h => by cases h) HVX.out rfl (Nat.le_refl _) ?hln ?hbs ?_)))
        case hln => have := HFL.out; omega
        case hbs => have := HBX.out.size; have := HSZ.out; simp at *; omega
        intro v' w4 hown4 hb4
        have HO4 := Lib.hid hown4
        have HB4 := Lib.hid ((HBW.out.trans (HBX.out.mono HSZ.out)).trans hb4)
        clear hown4 hb4
        go_wp2_with fail
        go_roundw
        case rel => exact ⟨v', j + 1, rfl, Nat.succ_le_of_lt HLT.out, by go_num, by rw [HST.out]; exact HO4.out, HB4.out⟩
        case measure => exact meas_lt HLT.out
      · have h1 : (xo.toList == nd.toList) = false := Bool.eq_false_iff.2 h1
        rw [h1, Bool.false_or] at HST
        by_cases h2 : (xt.toList == tn.toList) = true
        · rw [if_pos h2] at HST
          go_wp2_with (first | (at_builtin; (refine Vc.wp_appV rfl (.tmp 34) (.tmp 40) rfl (w.heap.size + 1) v _ rfl (HO.out.below HBX.out) (some ⟨wr.heap.size, 0, none⟩) 1 1 _ [⟨xp, xq, xr⟩] rfl (fun h => by cases h) HVX.out rfl (Nat.le_refl _) ?hln ?hbs ?_)))
          case hln => have := HFL.out; omega
          case hbs => have := HBX.out.size; have := HSZ.out; simp at *; omega
          intro v' w4 hown4 hb4
          have HO4 := Lib.hid hown4
          have HB4 := Lib.hid ((HBW.out.trans (HBX.out.mono HSZ.out)).trans hb4)
          clear hown4 hb4
          go_wp2_with fail
          go_roundw
          case rel => exact ⟨v', j + 1, rfl, Nat.succ_le_of_lt HLT.out, by go_num, by rw [HST.out]; exact HO4.out, HB4.out⟩
          case measure => exact meas_lt HLT.out
        · have h2 : (xt.toList == tn.toList) = false := Bool.eq_false_iff.2 h2
          rw [h2, if_neg (by decide), List.append_nil] at HST
          go_wp2_with fail
          go_roundw
          case rel => exact ⟨v, j + 1, rfl, Nat.succ_le_of_lt HLT.out, by go_num, by rw [HST.out]; exact HO.out, HBW.out⟩
          case measure => exact meas_lt HLT.out
    · obtain rfl : j = n := by omega
      have g1 : decide ((j : Int) < (j : Int)) = false := by simp
      have g2 : decide (j < j) = false := by simp
      have HWB := Lib.hid (HBW0.out.trans (HBW.out.mono (Nat.le_succ _)))
      have HRB := Lib.hid ((HBW.out.block w.heap.size (by omega)).trans HR0.out)
      rw [← HN.out, List.take_length] at HO
      obtain ⟨AV, cV, rfl, hv, hle, _⟩ := HO.out.form
      have HVE := Lib.hid hv
      have HSM : Hid (∀ W, Below wr.heap.size wr W → Calls Tryz.prog 49 #[.slice AV ((L.filter (selJ nd tn)).map v3J).length cV] W (RetBelow (Vc.vecV X Y Z 0) W)) := Lib.hid fun W hW => by
        rw [← hX.out]
        refine Vc.refSum_any _ AV _ cV W ((HVE.out.on hW).mono hW.size) rfl (fun v hv => ?_) ?_
        · obtain ⟨x, hx, rfl⟩ := List.mem_map.1 hv
          exact hok.out x (List.mem_filter.1 hx).1
        · have := List.length_filter_le (selJ nd tn) L
          have := HN.out
          rw [List.length_map]
          omega
      clear hv hle hj hlt
      generalize ((L.filter (selJ nd tn)).map v3J).length = m at *
      go_wp2_with fail
      have hvv : Vc.vecV X Y Z 0 = .tuple #[.agg #[.int .i64 X, .int .i64 Y, .int .i64 Z], .int .i64 0] := rfl
      rw [hvv] at HSM
      clear hvv
      (with_reducible refine (HSM.out _ (Below.refl _ _)).mono ?_)
      rintro e w5 ⟨rfl, h⟩
      have HB5 := Lib.hid (HWB.out.trans (h.mono HWB.out.size))
      have HR5 := Lib.hid ((h.block w.heap.size (Array.getElem?_eq_some_iff.1 HRB.out).1).trans HRB.out)
      clear h
      have HB6 := Lib.hid (HB5.out.alloc HB5.out.size (.cells #[.int .i64 X, .int .i64 Y, .int .i64 Z] 28))
      have HR6 := Lib.hid ((Below.heap_alloc w5 (.cells #[.int .i64 X, .int .i64 Y, .int .i64 Z] 28) w.heap.size (Array.getElem?_eq_some_iff.1 HR5.out).1).trans HR5.out)
      have hwl := (Array.getElem?_eq_some_iff.1 HR5.out).1
      obtain ⟨r0, r1, r2, f0, f1, f2⟩ := row3f HR5.out
      clear HR6 HB6
      have H5 : Hid (Below w.heap.size w w5) := HB5
      clear HB5
      go_wp2_with fail
      obtain ⟨s0, s1, s2⟩ := ((Vc.BK.set2 (Vc.BK.set1 (Vc.BK.set0 (show Vc.BK w5 w.heap.size 0 0 0 from HR5.out) X) Y) Z).alloc (.cells #[.int .i64 X, .int .i64 Y, .int .i64 Z] 28)).c3
      exact bodyPost_ret (v := .tuple #[.agg #[.int .i64 X, .int .i64 Y, .int .i64 Z], .bool true]) (by simp [results, Tryz.results17, go_sem, s0, s1, s2]) rfl
        ⟨rfl, (((H5.out.setCell (Nat.le_refl _) _).setCell (Nat.le_refl _) _).setCell (Nat.le_refl _) _).alloc (by simp; exact H5.out.size) _⟩
end Go.Proofs.YtphclpjekpdifaaGreat
namespace Go.Proofs.YtphclpjekpdifaaGreat
set_option maxRecDepth 20000
open Go.RowKit
open PS (Tx putM dropM setM findM Nod Ten Jb kOf St Cm Rp byName row)
open Go.Proofs.YtphclpjekpdifaaGreat.Nm (str)
open Go.Proofs.YtphclpjekpdifaaGreat.Vc (RetBelow fitB I64)
set_option linter.unusedVariables false
theorem jobs_held {w X : World} {b : Nat} {S : St} {G : List (Nat × Obj)} (h : LvE w X b S G) : Calls Tryz.prog 14 #[.pointer (some ⟨b, 0, none⟩)] X fun e Y => ∃ A c K, e = .returned (.slice A (byName S.J).length c) ∧ LvE w Y b S (K ++ G) ∧ RowsIn DJ K A (byName S.J) := by
  have h0 := h
  obtain ⟨T, h⟩ := h
  exact (jobs_any h.sch h.inv.ok).mono fun e Y ⟨v, q1, q2, q3⟩ => by
    obtain ⟨A, c, K, rfl, h2, h3⟩ := h0.own q3 q2
    exact ⟨A, c, K, q1, h2, h3⟩
theorem nodes_held {w X : World} {b : Nat} {S : St} {G : List (Nat × Obj)} (h : LvE w X b S G) : Calls Tryz.prog 15 #[.pointer (some ⟨b, 0, none⟩)] X fun e Y => ∃ A c K, e = .returned (.slice A (byName S.N).length c) ∧ LvE w Y b S (K ++ G) ∧ RowsIn DR K A ((byName S.N).map row) := by
  have h0 := h
  obtain ⟨T, h⟩ := h
  exact (nodes_any h.sch h.inv.ok).mono fun e Y ⟨v, q1, q2, q3⟩ => by
    obtain ⟨A, c, K, rfl, h2, h3⟩ := h0.own q3 q2
    rw [List.length_map] at q1
    exact ⟨A, c, K, q1, h2, h3⟩
theorem tenants_held {w X : World} {b : Nat} {S : St} {G : List (Nat × Obj)} (h : LvE w X b S G) : Calls Tryz.prog 16 #[.pointer (some ⟨b, 0, none⟩)] X fun e Y => ∃ A c K, e = .returned (.slice A (byName S.T).length c) ∧ LvE w Y b S (K ++ G) ∧ RowsIn DTR K A (byName S.T) := by
  have h0 := h
  obtain ⟨T, h⟩ := h
  exact (tenants_any h.sch h.inv.ok).mono fun e Y ⟨v, q1, q2, q3⟩ => by
    obtain ⟨A, c, K, rfl, h2, h3⟩ := h0.own q3 q2
    exact ⟨A, c, K, q1, h2, h3⟩
theorem may_ne {l : Tx} (h : Nm.may l = true) : l ≠ [] := by
  rintro rfl
  exact absurd h (by decide +kernel)
theorem Inv.jobNames {S : St} (h : Inv S) {j : Jb} (hj : j ∈ byName S.J) : j.on ≠ [] ∧ j.t ≠ [] ∧ I64 j.p ∧ I64 j.q ∧ I64 j.r := by
  obtain ⟨k, hk⟩ := byName_mem hj
  have q := h.j _ _ hk
  obtain ⟨n, hn, hs⟩ := q.n
  obtain ⟨t, ht, ts⟩ := q.t
  exact ⟨by rw [← hs]; exact may_ne (h.n _ _ hn).may, by rw [← ts]; exact may_ne (h.t _ _ ht).may, q.i⟩
theorem sel_on (s : Tx) {x : Jb} (h : x.t ≠ []) : selJ (str s) ⟨#[]⟩ x = onB s x := by
  have h1 : ((str x.t).toList == (⟨#[]⟩ : ByteArray).toList) = false := (str_tl x.t []).trans (by simpa using h)
  unfold selJ onB
  rw [str_tl, h1, Bool.or_false]
  by_cases e : x.on = s <;> simp [e]
theorem sel_of (s : Tx) {x : Jb} (h : x.on ≠ []) : selJ ⟨#[]⟩ (str s) x = ofB s x := by
  have h1 : ((str x.on).toList == (⟨#[]⟩ : ByteArray).toList) = false := (str_tl x.on []).trans (by simpa using h)
  unfold selJ ofB
  rw [str_tl, h1, Bool.false_or]
  by_cases e : x.t = s <;> simp [e]
theorem sum_sel {S : St} (h : Inv S) (f : Jb → Bool) (p : Jb → Bool) (hf : ∀ x ∈ byName S.J, f x = p x) {x y z : Int} (hx : x = sumJ p Jb.p S.J) (hy : y = sumJ p Jb.q S.J) (hz : z = sumJ p Jb.r S.J) (hi : I64 x ∧ I64 y ∧ I64 z) :
    Vc.outV (Vc.sX (((byName S.J).filter f).map v3J)) (Vc.sY (((byName S.J).filter f).map v3J)) (Vc.sZ (((byName S.J).filter f).map v3J)) = Vc.vecV x y z 0 := by
  rw [List.filter_congr hf]
  have e1 : Vc.sX (((byName S.J).filter p).map v3J) = x := by rw [hx, ← room_sum h p Jb.p]; unfold Vc.sX; rw [List.map_map]; rfl
  have e2 : Vc.sY (((byName S.J).filter p).map v3J) = y := by rw [hy, ← room_sum h p Jb.q]; unfold Vc.sY; rw [List.map_map]; rfl
  have e3 : Vc.sZ (((byName S.J).filter p).map v3J) = z := by rw [hz, ← room_sum h p Jb.r]; unfold Vc.sZ; rw [List.map_map]; rfl
  rw [e1, e2, e3]
  unfold Vc.outV
  rw [if_pos hi]
def JCells (Z : World) (g i : Nat) (x : Jb) : Prop := Z.cell? ⟨g, i * 7, none⟩ = some (.string (str x.s)) ∧ Z.cell? ⟨g, i * 7 + 1, none⟩ = some (.string (str x.t)) ∧ Z.cell? ⟨g, i * 7 + 2, none⟩ = some (.int .i64 x.p) ∧ Z.cell? ⟨g, i * 7 + 3, none⟩ = some (.int .i64 x.q) ∧ Z.cell? ⟨g, i * 7 + 4, none⟩ = some (.int .i64 x.r) ∧ Z.cell? ⟨g, i * 7 + 5, none⟩ = some (.string (str x.on)) ∧ Z.cell? ⟨g, i * 7 + 6, none⟩ = some (.int .i64 x.st)
theorem jcells {w Z : World} {b : Nat} {S : St} {G K : List (Nat × Obj)} {A : Option Addr} {L : List Jb} (h : LvE w Z b S G) (hK : ∀ p ∈ K, p ∈ G) (hr : RowsIn DJ K A L) {i : Nat} {x : Jb} (hx : L[i]? = some x) : ∃ g, A = some ⟨g, 0, none⟩ ∧ JCells Z g i x := by
  obtain ⟨g, hg, hc⟩ := hr i x hx
  have hh := hc Z fun p hp => h.held (hK p hp)
  exact ⟨g, hg, hh 0 _ rfl, hh 1 _ rfl, hh 2 _ rfl, hh 3 _ rfl, hh 4 _ rfl, hh 5 _ rfl, hh 6 _ rfl⟩
def NCells (Z : World) (g i : Nat) (x : Nod) : Prop := Z.cell? ⟨g, i * 8, none⟩ = some (.string (str x.s)) ∧ Z.cell? ⟨g, i * 8 + 1, none⟩ = some (.int .i64 x.a) ∧ Z.cell? ⟨g, i * 8 + 2, none⟩ = some (.int .i64 x.b) ∧ Z.cell? ⟨g, i * 8 + 3, none⟩ = some (.int .i64 x.c) ∧ Z.cell? ⟨g, i * 8 + 4, none⟩ = some (.int .i64 x.x) ∧ Z.cell? ⟨g, i * 8 + 5, none⟩ = some (.int .i64 x.y) ∧ Z.cell? ⟨g, i * 8 + 6, none⟩ = some (.int .i64 x.z)
theorem ncells {w Z : World} {b : Nat} {S : St} {G K : List (Nat × Obj)} {A : Option Addr} {L : List Nod} (h : LvE w Z b S G) (hK : ∀ p ∈ K, p ∈ G) (hr : RowsIn DR K A (L.map row)) {i : Nat} {x : Nod} (hx : L[i]? = some x) : ∃ g, A = some ⟨g, 0, none⟩ ∧ NCells Z g i x := by
  obtain ⟨g, hg, hc⟩ := hr i (row x) (by rw [List.getElem?_map, hx]; rfl)
  have hh := hc Z fun p hp => h.held (hK p hp)
  exact ⟨g, hg, hh 0 _ rfl, hh 1 _ rfl, hh 2 _ rfl, hh 3 _ rfl, hh 4 _ rfl, hh 5 _ rfl, hh 6 _ rfl⟩
def TCells (Z : World) (g i : Nat) (x : Ten) : Prop := Z.cell? ⟨g, i * 7, none⟩ = some (.string (str x.s)) ∧ Z.cell? ⟨g, i * 7 + 1, none⟩ = some (.int .i64 x.a) ∧ Z.cell? ⟨g, i * 7 + 2, none⟩ = some (.int .i64 x.b) ∧ Z.cell? ⟨g, i * 7 + 3, none⟩ = some (.int .i64 x.c) ∧ Z.cell? ⟨g, i * 7 + 4, none⟩ = some (.int .i64 x.x) ∧ Z.cell? ⟨g, i * 7 + 5, none⟩ = some (.int .i64 x.y) ∧ Z.cell? ⟨g, i * 7 + 6, none⟩ = some (.int .i64 x.z)
theorem tcells {w Z : World} {b : Nat} {S : St} {G K : List (Nat × Obj)} {A : Option Addr} {L : List Ten} (h : LvE w Z b S G) (hK : ∀ p ∈ K, p ∈ G) (hr : RowsIn DTR K A L) {i : Nat} {x : Ten} (hx : L[i]? = some x) : ∃ g, A = some ⟨g, 0, none⟩ ∧ TCells Z g i x := by
  obtain ⟨g, hg, hc⟩ := hr i x hx
  have hh := hc Z fun p hp => h.held (hK p hp)
  exact ⟨g, hg, hh 0 _ rfl, hh 1 _ rfl, hh 2 _ rfl, hh 3 _ rfl, hh 4 _ rfl, hh 5 _ rfl, hh 6 _ rfl⟩
theorem sum_on {w X : World} {b : Nat} {S : St} {G K : List (Nat × Obj)} {A : Option Addr} {c : Nat} (h : LvE w X b S G) (hK : ∀ p ∈ K, p ∈ G) (hr : RowsIn DJ K A (byName S.J)) {n : Nod} (hn : n ∈ byName S.N) :
    Calls Tryz.prog 17 #[.slice A (byName S.J).length c, .string (str n.s), .string ⟨#[]⟩] X fun e Y => e = .returned (.tuple #[.agg #[.int .i64 n.x, .int .i64 n.y, .int .i64 n.z], .bool true]) ∧ LvE w Y b S G := by
  obtain ⟨k, hk⟩ := byName_mem hn
  have hI := h.inv
  have q := hI.n _ _ hk
  have hc := hI.cntN hk
  have i := q.i
  have f1 := q.fx; have f2 := q.fy; have f3 := q.fz
  have hl : (byName S.J).length ≤ 128 := Nat.le_trans (byName_len _) hI.lJ
  refine (sum_core (byName S.J) A _ c (str n.s) ⟨#[]⟩ X rfl hl (Lib.hid fun Z hb i x hx => ?_) (Lib.hid fun x hx => ((hI.jobNames hx).2.2)) n.x n.y n.z (Lib.hid (sum_sel hI _ (onB n.s) (fun x hx => sel_on n.s (hI.jobNames hx).2.1) q.ux q.uy q.uz (by unfold I64 at i ⊢; omega)))).mono ?_
  · exact jcells (h.below hb) hK hr hx
  · rintro e Y ⟨rfl, hb⟩
    exact ⟨rfl, h.below hb⟩
theorem sum_of {w X : World} {b : Nat} {S : St} {G K : List (Nat × Obj)} {A : Option Addr} {c : Nat} (h : LvE w X b S G) (hK : ∀ p ∈ K, p ∈ G) (hr : RowsIn DJ K A (byName S.J)) {n : Ten} (hn : n ∈ byName S.T) :
    Calls Tryz.prog 17 #[.slice A (byName S.J).length c, .string ⟨#[]⟩, .string (str n.s)] X fun e Y => e = .returned (.tuple #[.agg #[.int .i64 n.x, .int .i64 n.y, .int .i64 n.z], .bool true]) ∧ LvE w Y b S G := by
  obtain ⟨k, hk⟩ := byName_mem hn
  have hI := h.inv
  have q := hI.t _ _ hk
  have hc := hI.cntT hk
  have i := q.i
  have f1 := q.fx; have f2 := q.fy; have f3 := q.fz
  have hl : (byName S.J).length ≤ 128 := Nat.le_trans (byName_len _) hI.lJ
  refine (sum_core (byName S.J) A _ c ⟨#[]⟩ (str n.s) X rfl hl (Lib.hid fun Z hb i x hx => ?_) (Lib.hid fun x hx => ((hI.jobNames hx).2.2)) n.x n.y n.z (Lib.hid (sum_sel hI _ (ofB n.s) (fun x hx => sel_of n.s (hI.jobNames hx).1) q.ux q.uy q.uz (by unfold I64 at i ⊢; omega)))).mono ?_
  · exact jcells (h.below hb) hK hr hx
  · rintro e Y ⟨rfl, hb⟩
    exact ⟨rfl, h.below hb⟩
def cntK {α : Type} (nm : α → Tx) (g : Jb → Tx) (L : List α) (JL : List Jb) (k : Nat) : Nat := ((L.take k).map fun n => JL.countP fun j => g j == nm n).sum
theorem sum_le {α : Type} (f : α → Nat) (c : Nat) : ∀ L : List α, (∀ x ∈ L, f x ≤ c) → (L.map f).sum ≤ c * L.length
  | [], _ => by simp
  | x :: r, h => by
    rw [List.map_cons, List.sum_cons, List.length_cons, Nat.mul_succ]
    have := sum_le f c r fun y hy => h y (List.mem_cons_of_mem _ hy)
    have := h x List.mem_cons_self
    omega
theorem cntK_le {α : Type} (nm : α → Tx) (g : Jb → Tx) (L : List α) (JL : List Jb) (k : Nat) (hl : L.length ≤ 32) (hj : JL.length ≤ 128) : cntK nm g L JL k ≤ 4096 := by
  unfold cntK
  have := sum_le (fun n => JL.countP fun j => g j == nm n) 128 (L.take k) fun x _ => Nat.le_trans List.countP_le_length hj
  have h2 : (L.take k).length ≤ 32 := by rw [List.length_take]; omega
  have := Nat.mul_le_mul_left 128 h2
  omega
theorem cntK_succ {α : Type} (nm : α → Tx) (g : Jb → Tx) (L : List α) (JL : List Jb) {k : Nat} {n : α} (h : L[k]? = some n) : cntK nm g L JL (k + 1) = cntK nm g L JL k + JL.countP fun j => g j == nm n := by
  unfold cntK
  rw [List.take_add_one, h, List.map_append, List.sum_append]
  simp
theorem countP_step {β : Type} (p : β → Bool) {L : List β} {m : Nat} {x : β} (h : L[m]? = some x) : (L.take (m + 1)).countP p = (L.take m).countP p + if p x = true then 1 else 0 := by
  rw [List.take_add_one, h, List.countP_append]
  simp [List.countP_cons]
end Go.Proofs.YtphclpjekpdifaaGreat
