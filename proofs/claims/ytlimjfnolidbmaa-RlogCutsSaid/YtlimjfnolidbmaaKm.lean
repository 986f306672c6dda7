import Derived.Test.YtlimjfnolidbmaaJm
import Derived.Deep.RegionLaw
namespace Go.Proofs.Ytlimjfnolidbmaa
set_option maxRecDepth 20000
open Go.RowKit RL
set_option linter.unusedVariables false
/-! ### Put, walked -/
theorem Rd.drop {α : Type} {D : CT α} {w : World} {H : Nat → Prop} {b off : Nat} {L : List α} (h : Rd D w H (some ⟨b, off, none⟩) L) (k : Nat) : Rd D w H (some ⟨b, off + k * D.m, none⟩) (L.drop k) := by
  have := h.part k L.length
  rw [List.take_of_length_le (by rw [List.length_drop]; omega)] at this
  exact this
theorem nest2_below {w W : World} {B g : Nat} (hb : Below B w W) (hg : B ≤ g) (u0 u1 : Value) : Below B w ((W.setCell ⟨g, 0, none⟩ u0).setCell ⟨g, 1, none⟩ u1) := (hb.setCell hg u0).setCell hg u1
theorem nest2_row {W : World} {g : Nat} {a0 a1 : Value} {t : TypeId} (h : W.heap[g]? = some (.cells #[a0, a1] t (0, 0))) (u0 u1 : Value) : ((W.setCell ⟨g, 0, none⟩ u0).setCell ⟨g, 1, none⟩ u1).heap[g]? = some (.cells #[u0, u1] t (0, 0)) := by
  have e : ∀ (w : World) (k : Nat) (u x0 x1 : Value), w.heap[g]? = some (.cells #[x0, x1] t (0, 0)) → (w.setCell ⟨g, k, none⟩ u).heap[g]? = some (.cells ((#[x0, x1] : Array Value).setIfInBounds k u) t (0, 0)) := fun w k u x0 x1 h => by
    simp only [World.setCell]
    rw [Array.getElem?_modify, if_pos rfl, h]
    rfl
  rw [e _ 1 u1 u0 a1]
  · rfl
  rw [e _ 0 u0 a0 a1 h]
  rfl
/-- append, as a step of a region that draws its order -/
theorem step_appO {α : Type} (D : CT α) {ops : Array Oper} {o : Oper} {a : Act} {K : Act → World → Prop} {Q : Exit → Act → World → Prop} {E : Prop} {w : World} (hgd : o.guard = none) (s x : Operand)
    (ho : o.op = .call { callee := .builtin .append, args := #[s, x], argTypes := #[D.t, D.t] })
    (S H : Nat → Prop) (v : Value) (l : List α) (hs : a.eval s = v) (hown : OwnS D w S v l) (A : Option Addr) (n c : Nat) (bs : List α) (hx : a.eval x = .slice A n c) (hA : A = none → c = 0) (hb : Rd D w H A bs) (hn : bs.length = n) (hnc : n ≤ c)
    (hlen : l.length + n ≤ 1000000)
    (h : ∀ v' w', Hid (OwnS D w' (Up S w w') v' (l ++ bs)) → Hid (Fr S w w') → K (a.put o.dst v') w') : if Region.wanted o (yielded ops a.tmps) = true then Oper.wp Try.prog o a w K Q else E := by
  have hw : Region.wanted o (yielded ops a.tmps) = true := by simp [Region.wanted, hgd]
  rw [if_pos hw]
  obtain ⟨v', w', hr, h1, h2, h3⟩ := append_O (s := o.type) hown hA hb hn hnc hlen
  unfold Oper.wp execOp
  simp only [ho, resolve, invoke, builtin, Sem.run_bind, Sem.run_pure, Result.andThen_ok, List.map_toArray, List.map_cons, List.map_nil, hs, hx, hr]
  exact h v' w' (Lib.hid h1) (Lib.hid h2)
/-- the log's slice has become another one -/
theorem put_end {W X w3 : World} {b : Nat} {T : Lg} {v v3 : Value} {S : Nat → Prop} {L3 : List En} (h : LgAt W b T v S) (hb : Below W.heap.size W X) (hx : X.heap.size = W.heap.size) (ho : OwnS DE w3 (Up (fun k => S k ∧ k ≠ b) X w3) v3 L3) (hf : Fr (fun k => S k ∧ k ≠ b) X w3) :
    w3.heap[b]? = some (.cells #[.int .i64 T.i, .int .i64 T.t, v] 74 (0, 0)) ∧ LogTo W (w3.setCell ⟨b, 2, none⟩ v3) b ⟨T.i, T.t, L3⟩ S := by
  have hbl := h.lt b h.own
  have hb3 : w3.heap[b]? = some (.cells #[.int .i64 T.i, .int .i64 T.t, v] 74 (0, 0)) := (hf.block b (by omega) (fun q => q.2 rfl)).trans ((hb.block b hbl).trans h.box)
  have hf3 : Fr S W (w3.setCell ⟨b, 2, none⟩ v3) := ((Fr.of_below (S := S) hb).trans (hf.mono (S' := S) fun k q => q.1) fun i q => .inl q).setCell (.inl h.own) _
  refine ⟨hb3, fun k => Up S W w3 k, ⟨v3, ?_, ?_, .inl h.own, fun k hk => ?_⟩, fun k hk => ?_, hf3⟩
  · rw [heap_set3 w3 b 2 v3 _ _ _ _ hb3]; rfl
  · refine (ho.mono (S' := fun k => Up S W w3 k ∧ k ≠ b) fun k _ q => ?_).keep fun k _ q => Below.heap_setCell _ _ _ k q.2
    rcases q with q | q
    · exact ⟨.inl q.1, q.2⟩
    · exact ⟨.inr ⟨by omega, q.2⟩, by omega⟩
  · have hs := hf.size
    rcases hk with q | q
    · have := h.lt k q
      simp [World.setCell]; omega
    · simpa [World.setCell] using q.2
  · rcases hk with q | q
    · exact .inl q
    · exact .inr ⟨q.1, by simpa [World.setCell] using q.2⟩
def PutP (w : World) (b : Nat) (T : Lg) (S : Nat → Prop) (p t : Int) (l : List En) (e : Ending) (w' : World) : Prop := e = .returned (.tuple #[.int .i64 (T.put p t l).2.1, .int .i64 (T.put p t l).2.2]) ∧ LogTo w w' b (T.put p t l).1 S
set_option maxHeartbeats 4000000 in
theorem put_ge {w : World} {b : Nat} {T : Lg} {S H' : Nat → Prop} (h : Log w b T S) (hI : Inv T) {p t : Int} {q off n c : Nat} {l : List En} (hr : Rd DE w H' (some ⟨q, off, none⟩) l) (hn : l.length = n) (hc : n ≤ c) (hc2 : c ≤ 9223372036854775807) (hl : n ≤ 400000) (hp : I64 p) (hd : ∀ k, H' k → ¬ S k) (hz : T.refuse p t l.length = 0) (hpi : T.i ≤ p) : Calls Try.prog 13 #[.pointer (some ⟨b, 0, none⟩), .int .i64 p, .int .i64 t, .slice (some ⟨q, off, none⟩) n c] w (PutP w b T S p t l) := by
  have H := Lib.hid h
  have HI := Lib.hid hI
  have HRD := Lib.hid hr
  have HN := Lib.hid hn
  have HDJ := Lib.hid hd
  have i0 := hI.i0
  have hRF := refuse_any h hI (p := p) (t := t) (n := n) hp (by omega)
  rw [hn] at hz
  rw [hz] at hRF
  have HRF := Lib.hid hRF
  have HBS : Hid (∀ X, Below w.heap.size w X → Calls Try.prog 31 #[.pointer (some ⟨b, 0, none⟩)] X (RetBelow (.tuple #[.int .i64 T.i, .int .i64 T.t]) X)) := Lib.hid fun X hX => base_any (h.below hX)
  obtain ⟨p0, pM, pA, pB⟩ := refuse_zero hz
  have HPL : Hid (p ≤ T.last) := Lib.hid (term_known.1 ⟨_, pB hpi⟩).2
  have HE : Hid (∀ e w', PutP w b T S p t l e w' = (e = .returned (.tuple #[.int .i64 (T.putAt p l).2, .int .i64 0]) ∧ LogTo w w' b (T.putAt p l).1 S)) := Lib.hid fun e w' => by
    unfold PutP Lg.put
    rw [if_pos (by rw [hn]; exact hz), if_neg (by omega)]
  have g1 : decide (p < T.i) = false := by simp; omega
  have pM2 : p ≤ 4611686018427387904 := by omega
  clear h hI hr hRF pA pB hd hn hz
  go_enter Try.func13, Try.ntmps13
  go_wp2_with (first
    | (go_at_call 35; (with_reducible refine HRF.out.mono ?_); rintro e w1 ⟨rfl, hb1⟩)
    | (go_at_call 31; (with_reducible refine (HBS.out _ hb1).mono ?_); rintro e w2 ⟨rfl, hb2⟩))
  have HB0 := Lib.hid (hb1.trans (hb2.mono hb1.size))
  clear hb1 hb2
  go_loopw [43] (fun iV wr => ∃ j : Nat, iV = .int .i64 (j : Int) ∧ j ≤ n ∧ Below w.heap.size w wr ∧ ∀ (i : Nat) (y : En), i < j → l[i]? = some y → T.term (p + 1 + (i : Int)) = some y.t) (fun iV _ => n - (intOf iV).toNat)
  case atStart => exact ⟨0, rfl, Nat.zero_le _, HB0.out, fun i y h => absurd h (Nat.not_lt_zero _)⟩
  case round =>
    obtain ⟨j, rfl, hj, hb, ha⟩ := hrel
    have HB := Lib.hid hb
    have HA := Lib.hid ha
    clear hb ha
    by_cases hlt : j < n
    · obtain ⟨x, hx⟩ : ∃ x, l[j]? = some x := ⟨_, List.getElem?_eq_getElem (by have := HN.out; omega)⟩
      have HX := Lib.hid hx
      have HLT := Lib.hid hlt
      have i1 : (j : Int) < (n : Int) := by omega
      have i2 : (j : Int) ≤ 1000000 := by omega
      obtain ⟨q0, o0, hq1, hq2, hq3, hq4⟩ := (HRD.out.below HB.out).at_ hx
      injection hq1 with hq1
      injection hq1 with hqa hqb
      subst hqa hqb
      have e0 : wr.cell? ⟨q, off + j * 2, none⟩ = some (.int .i64 x.t) := hq4 0 _ rfl
      have e1 : wr.cell? ⟨q, off + j * 2 + 1, none⟩ = some (.string x.d) := hq4 1 _ rfl
      clear hx hq2 hq3 hq4
      have HTM : Hid (∀ X, Below w.heap.size w X → Calls Try.prog 18 #[.pointer (some ⟨b, 0, none⟩), .int .i64 (p + 1 + (j : Int))] X (RetBelow (.tuple #[.int .i64 ((T.term (p + 1 + (j : Int))).getD 0), .bool (T.term (p + 1 + (j : Int))).isSome]) X)) := Lib.hid fun X hX => term_any (H.out.below hX) HI.out (by unfold I64; omega)
      have HTMC := Lib.hid (⟨_, rfl⟩ : ∃ o, T.term (p + 1 + (j : Int)) = o)
      have HB2 : Hid (Below w.heap.size w (wr.alloc (.cells #[.int .i64 x.t, .string x.d] 32))) := Lib.hid (HB.out.alloc HB.out.size _)
      have HR2 : Hid ((wr.alloc (.cells #[.int .i64 x.t, .string x.d] 32)).heap[wr.heap.size]? = some (.cells #[.int .i64 x.t, .string x.d] 32 (0, 0))) := Lib.hid (heap_alloc_new wr _)
      have HTR : Hid (∀ X, Below w.heap.size w X → Calls Try.prog 36 #[.pointer (some ⟨b, 0, none⟩), .int .i64 (p + 1 + (j : Int))] X fun e w' => e = .returned (.tuple #[]) ∧ LogTo X w' b ⟨T.i, T.t, T.L.take (p + j - T.i).toNat⟩ S) := Lib.hid fun X hX => by
        have hk : (p + j - T.i).toNat ≤ T.L.length := by
          rcases Nat.eq_zero_or_pos j with rfl | hj0
          · have := HPL.out
            unfold Lg.last at this
            omega
          · have hy := HA.out (j - 1) _ (by omega) (List.getElem?_eq_getElem (by have := HN.out; omega))
            have := (term_known.1 ⟨_, hy⟩).2
            unfold Lg.last at this
            omega
        have := trunc_any (H.out.below hX) HI.out hk
        rw [show T.i + 1 + (((p + j - T.i).toNat : Nat) : Int) = p + 1 + (j : Int) by omega] at this
        exact this
      have HOFF : Hid (T.term (p + 1 + (j : Int)) ≠ some x.t → T.putAt p l = (⟨T.i, T.t, T.L.take (p + j - T.i).toNat ++ l.drop j⟩, p + 1 + j)) := Lib.hid fun h => by
        unfold Lg.putAt
        rw [diff_at HA.out HX.out h]
      have hcj : ¬ c = j := by omega
      have jI : (j : Int) ≤ (n : Int) := by omega
      have jI0 : 0 ≤ (j : Int) := by omega
      obtain ⟨o, ho⟩ := HTMC.out
      rw [ho] at HTM HOFF
      have HO := Lib.hid ho
      clear ho HTMC
      by_cases hox : o = some x.t
      · subst hox
        clear HOFF HTR
        go_wp2_with (go_at_call 18; (with_reducible refine (HTM.out _ ?_).mono ?_); exact HB2.out; rintro e w1 ⟨rfl, hb1⟩; have b0 := cell_of_row w1 _ 0 _ _ _ ((hb1.block wr.heap.size (by simp)).trans HR2.out))
        have HB3 := Lib.hid (HB2.out.trans (hb1.mono HB2.out.size))
        clear hb1
        go_roundw
        case rel => exact ⟨j + 1, rfl, by omega, HB3.out, fun i y hi hy => by
          rcases Nat.lt_or_ge i j with q | q
          · exact HA.out i y q hy
          · obtain rfl : i = j := by omega
            rw [HX.out] at hy
            cases hy
            exact HO.out⟩
        case measure => simp [intOf]; omega
      · have HPT := Lib.hid (HOFF.out hox)
        clear HOFF
        have fin : Hid (∀ (X w2 : World) (S2 : Nat → Prop) (v2 : Value), Below w.heap.size w X → LgAt w2 b ⟨T.i, T.t, T.L.take (p + j - T.i).toNat⟩ v2 S2 → (∀ k, S2 k → Up S X w2 k) → Fr S X w2 → ∃ A2 n2 c2, v2 = .slice A2 n2 c2 ∧ (A2 = none → c2 = 0) ∧ n2 ≤ c2 ∧ w2.cell? ⟨b, 2, none⟩ = some (.slice A2 n2 c2) ∧ w2.frozen? ⟨b, 2, none⟩ = false ∧ OwnS DE w2.drew (fun k => S2 k ∧ k ≠ b) (.slice A2 n2 c2) (T.L.take (p + j - T.i).toNat) ∧ Rd DE w2.drew H' (some ⟨q, off + j * 2, none⟩) (l.drop j) ∧ (T.L.take (p + j - T.i).toNat).length + (n - j) ≤ 1000000 ∧ ∀ v3 w3, OwnS DE w3 (Up (fun k => S2 k ∧ k ≠ b) w2.drew w3) v3 (T.L.take (p + j - T.i).toNat ++ l.drop j) → Fr (fun k => S2 k ∧ k ≠ b) w2.drew w3 → (∃ A3 n3 c3, v3 = .slice A3 n3 c3) ∧ w3.cell? ⟨b, 2, none⟩ = some v2 ∧ w3.frozen? ⟨b, 2, none⟩ = false ∧ LogTo w (w3.setCell ⟨b, 2, none⟩ v3) b (T.putAt p l).1 S) := Lib.hid fun X w2 S2 v2 hX hl2 hu2 hf2 => by
          obtain ⟨A2, c2, rfl, hr2, h4, h5, h6⟩ := hl2.row.form
          obtain ⟨_, _, d2, _, _, f2⟩ := lcells hl2.box
          refine ⟨A2, _, c2, rfl, fun q => (h6 q).1, h4, d2, f2, hl2.row.below (Below.refl _ _).drew, ?_, ?_, fun v3 w3 ho3 hf3 => ?_⟩
          · exact ((((HRD.out.below hX).fr hf2 HDJ.out).below (Below.refl _ _).drew).drop j)
          · have := HI.out.len
            have e9 : (T.L.take (p + j - T.i).toNat).length ≤ T.L.length := by rw [List.length_take]; omega
            omega
          · obtain ⟨p1, p2⟩ := put_end hl2 (Below.refl _ _).drew rfl ho3 hf3
            obtain ⟨A3, c3, e3, _⟩ := ho3.form
            obtain ⟨_, _, g2, _, _, k2⟩ := lcells p1
            refine ⟨⟨A3, _, c3, e3⟩, g2, k2, ?_⟩
            rw [HPT.out]
            exact LogTo.from_ hX (LogTo.go hu2 hf2 p2)
        have HRES : Hid ((T.putAt p l).2 = p + 1 + j) := Lib.hid (by rw [HPT.out])
        have LDR : Hid ((l.drop j).length = n - j) := Lib.hid (by rw [List.length_drop]; have := HN.out; omega)
        have NJ : Hid (n - j ≤ c - j) := Lib.hid (by omega)
        cases o with
        | none =>
          go_wp2_with (first
            | (go_at_call 18; (with_reducible refine (HTM.out _ ?_).mono ?_); exact HB2.out; rintro e w1 ⟨rfl, hb1⟩; have HB3 := Lib.hid (HB2.out.trans (hb1.mono HB2.out.size)); clear hb1)
            | (go_at_call 36; (with_reducible refine (HTR.out _ HB3.out).mono ?_); rintro e w2 ⟨rfl, S2, ⟨v2, hl2⟩, hu2, hf2⟩; obtain ⟨A2, n2, c2, rfl, a2, nc2, d2, f2, ow2, rd2, ln2, fi2⟩ := fin.out _ _ _ _ HB3.out hl2 hu2 hf2; have O2 := Lib.hid ow2; have R2 := Lib.hid rd2; have L2 := Lib.hid ln2; have F2 := Lib.hid fi2; clear hl2 hu2 hf2 ow2 rd2 ln2 fi2))
          go_region_law (first
            | ((refine step_appO DE (by rfl) (.tmp 73) (.tmp 76) (by rfl) (fun k => S2 k ∧ k ≠ b) H' (.slice A2 n2 c2) _ (by rfl) O2.out (some ⟨q, off + j * 2, none⟩) (n - j) (c - j) _ (by rfl) (fun h => by cases h) R2.out LDR.out NJ.out L2.out ?_); intro v3 w3 own3 fr3; obtain ⟨⟨A3, n3, c3, e3⟩, x2, y2, TT⟩ := F2.out v3 w3 own3.out fr3.out; subst e3; have T3 := Lib.hid TT; clear own3 fr3 TT))
          all_goals go_wp2_with fail
          all_goals refine bodyPost_ret (v := .tuple #[.int .i64 (p + 1 + (j : Int)), .int .i64 0]) (by simp [results, Try.results13, go_sem]) rfl ?_
          all_goals rw [HE.out, HRES.out]
          all_goals exact ⟨rfl, T3.out⟩
        | some u =>
          have g5 : (u == x.t) = false := by simp; intro e; exact hox (by rw [e])
          go_wp2_with (first
            | (go_at_call 18; (with_reducible refine (HTM.out _ ?_).mono ?_); exact HB2.out; rintro e w1 ⟨rfl, hb1⟩; have b0 := cell_of_row w1 _ 0 _ _ _ ((hb1.block wr.heap.size (by simp)).trans HR2.out); have HB3 := Lib.hid (HB2.out.trans (hb1.mono HB2.out.size)); clear hb1)
            | (go_at_call 36; (with_reducible refine (HTR.out _ HB3.out).mono ?_); rintro e w2 ⟨rfl, S2, ⟨v2, hl2⟩, hu2, hf2⟩; obtain ⟨A2, n2, c2, rfl, a2, nc2, d2, f2, ow2, rd2, ln2, fi2⟩ := fin.out _ _ _ _ HB3.out hl2 hu2 hf2; have O2 := Lib.hid ow2; have R2 := Lib.hid rd2; have L2 := Lib.hid ln2; have F2 := Lib.hid fi2; clear hl2 hu2 hf2 ow2 rd2 ln2 fi2))
          go_region_law (first
            | ((refine step_appO DE (by rfl) (.tmp 73) (.tmp 76) (by rfl) (fun k => S2 k ∧ k ≠ b) H' (.slice A2 n2 c2) _ (by rfl) O2.out (some ⟨q, off + j * 2, none⟩) (n - j) (c - j) _ (by rfl) (fun h => by cases h) R2.out LDR.out NJ.out L2.out ?_); intro v3 w3 own3 fr3; obtain ⟨⟨A3, n3, c3, e3⟩, x2, y2, TT⟩ := F2.out v3 w3 own3.out fr3.out; subst e3; have T3 := Lib.hid TT; clear own3 fr3 TT))
          all_goals go_wp2_with fail
          all_goals refine bodyPost_ret (v := .tuple #[.int .i64 (p + 1 + (j : Int)), .int .i64 0]) (by simp [results, Try.results13, go_sem]) rfl ?_
          all_goals rw [HE.out, HRES.out]
          all_goals exact ⟨rfl, T3.out⟩
    · obtain rfl : n = j := by omega
      have HPT : Hid (T.putAt p l = (T, 0)) := Lib.hid (by
        unfold Lg.putAt
        rw [diff_all fun i y hy => HA.out i y (by have := HN.out; have := (List.getElem?_eq_some_iff.1 hy).1; omega) hy])
      go_wp2_with fail
      refine bodyPost_ret (v := .tuple #[.int .i64 0, .int .i64 0]) (by simp [results, Try.results13, go_sem]) rfl ?_
      rw [HE.out, HPT.out]
      exact ⟨rfl, H.out.to HB.out⟩
end Go.Proofs.Ytlimjfnolidbmaa
