import Derived.Test.YtkhhmpcpcdadaaaRs
import Derived.Test.YtkhhmpcpcdadaaaZe
import Derived.Test.YtkhhmpcpcdadaaaFt
namespace Go.Proofs.Ytkhhmpcpcdadaaa
open Go.RowKit
set_option linter.unusedVariables false

theorem u8_xor_byte2 (x y : UInt8) : bits .xor .u8 (x.toNat : Int) (y.toNat : Int) = ((x ^^^ y).toNat : Int) := by
  rw [u8_xor_nat _ _ x.toNat_lt y.toNat_lt, UInt8.toNat_xor]
/-- a slice that ends with its bytes grows -/
theorem wp_appT {ops : Array Oper} {rest : List Oper} {o : Oper} {a : Act} {Q : Exit → Act → World → Prop} {w : World} (hgd : o.guard = none) (s x : Operand)
    (ho : o.op = .call { callee := .builtin .append, args := #[s, x], argTypes := #[22, 22] })
    (A : Option Addr) (n B : Nat) (l : List UInt8) (hs : a.eval s = .slice A n n) (hA : BytesAt w B A l) (hn : l.length = n) (hn6 : n ≤ 1000000) (k : Nat) (u : UInt8) (hx : a.eval x = .slice (some ⟨k, 0, none⟩) 1 1) (hk : w.heap[k]? = some (.cells #[.int .u8 (u.toNat : Int)] 5 (0, 0)))
    (h : ∀ v' w', OwnB w' w.heap.size v' (l ++ [u]) → Below w.heap.size w w' → wpList Try.prog ops Q rest (a.put o.dst v') w') : wpList Try.prog ops Q (o :: rest) a w := by
  obtain ⟨i5, hi5, hz0, hz1, hz2⟩ := info_parts3 info5
  have hnews : ∀ j v, ([Value.int .u8 (u.toNat : Int)] : List Value)[j]? = some v → w.cell? ((⟨k, 0, none⟩ : Addr).add j) = some v := by
    intro j v hv
    have hc : w.cell? ⟨k, j, none⟩ = some v := by
      rw [Lib.cell_of_heap hk, ← hv]
      show (#[Value.int .u8 (u.toNat : Int)] : Array Value)[j]? = _
      simp
    unfold Addr.add
    split
    · subst j; exact hc
    · simpa using hc
  have key : ∃ v' w', (Builtin.append_ #[22, 22] o.type #[.slice A n n, .slice (some ⟨k, 0, none⟩) 1 1]).run Try.prog w = .ok v' w' ∧ OwnB w' w.heap.size v' (l ++ [u]) ∧ Below w.heap.size w w' := by
    have own_new : ∀ (cap : Nat) (ys : List Value), n + 1 ≤ cap → cap ≤ maxLen → ys.length = cap - (n + 1) → OwnB (w.drew.alloc (.cells (vB (l ++ [u]) ++ ys).toArray 5)) w.heap.size (.slice (some ⟨w.heap.size, 0, none⟩) (n + 1) cap) (l ++ [u]) := by
      intro cap ys h2 h3 h4
      unfold OwnB
      rw [List.length_append, hn]
      refine ⟨by simp [vB, hn], .inr ⟨w.heap.size, cap, _, rfl, Nat.le_refl _, heap_alloc_new w.drew _, h2, h3, by simp [vB, hn]; omega, ?_⟩⟩
      have e : (n + [u].length) * 1 = (vB (l ++ [u])).length := by simp [vB, hn]
      rw [e]
      exact List.take_left
    have hb : Below w.heap.size w w.drew := (Below.refl _ w).drew
    cases A with
    | none =>
      have hl : l = [] := by
        cases l with
        | nil => rfl
        | cons y r => obtain ⟨b, off, q, _⟩ := hA (by simp); cases q
      subst hl
      obtain rfl : n = 0 := hn.symm
      have hr := run_append_nil (P := Try.prog) w 22 o.type 5 i5 _ Try.underlying22 hi5 hz0 ⟨k, 0, none⟩ 1 1 [.int .u8 (u.toNat : Int)] (by rw [hz1]; rfl) hnews (by omega) (by omega) (by rw [hz2]; omega)
      refine ⟨_, _, hr, ?_, hb.alloc (Nat.le_refl _) _⟩
      have := own_new (grownCap w 1 0 5) (vB (List.replicate (grownCap w 1 0 5 - 1) 0)) (grownCap_ge w 1 0 5) (grownCap_le_maxLen w 1 0 5 (by simp only [maxLen]; omega)) (by simp [vB])
      rw [zeroCells_arr]
      have e : [Value.int .u8 (u.toNat : Int)].toArray ++ (vB (List.replicate (grownCap w 1 0 5 - 1) 0)).toArray = (vB ([] ++ [u]) ++ vB (List.replicate (grownCap w 1 0 5 - 1) 0)).toArray := by
        apply Array.ext'; simp [vB]
      rw [e]
      exact this
    | some ad =>
      obtain ⟨olds, holds⟩ : ∃ olds, olds = vB l := ⟨_, rfl⟩
      have ho2 : ∀ j v, olds[j]? = some v → w.cell? (ad.add j) = some v := by
        intro j v hv
        rw [holds] at hv
        obtain ⟨y, hy, rfl⟩ := vB_get hv
        obtain ⟨b, off, e, _, h3⟩ := hA (fun e => by rw [e] at hy; simp at hy)
        injection e with e
        subst e
        have := h3 j y hy
        unfold Addr.add
        split
        · subst j; simpa using this
        · exact this
      have hr := run_append_grow (P := Try.prog) w 22 o.type 5 i5 _ Try.underlying22 hi5 hz0 ad n n olds (by rw [hz1, holds, vB_length, hn]; omega) ho2 ⟨k, 0, none⟩ 1 1 [.int .u8 (u.toNat : Int)] (by rw [hz1]; rfl) hnews (by omega) (by omega) (by rw [hz2]; exact growslice_fits (by omega) (by omega))
      refine ⟨_, _, hr, ?_, hb.alloc (Nat.le_refl _) _⟩
      have := own_new (grownCap w (n + 1) n 5) (vB (List.replicate (grownCap w (n + 1) n 5 - (n + 1)) 0)) (grownCap_ge w (n + 1) n 5) (grownCap_le_maxLen w (n + 1) n 5 (by simp only [maxLen]; omega)) (by simp [vB])
      rw [zeroCells_arr, holds]
      have e : (vB l).toArray ++ [Value.int .u8 (u.toNat : Int)].toArray ++ (vB (List.replicate (grownCap w (n + 1) n 5 - (n + 1)) 0)).toArray = (vB (l ++ [u]) ++ vB (List.replicate (grownCap w (n + 1) n 5 - (n + 1)) 0)).toArray := by
        apply Array.ext'; simp [vB]
      rw [e]
      exact this
  obtain ⟨v', w', hr, h1, h2⟩ := key
  refine wpList_plain hgd fun K hK => ?_
  unfold Oper.wp execOp
  simp only [ho, resolve, invoke, builtin, Sem.run_bind, Sem.run_pure, Result.andThen_ok, List.map_toArray, List.map_cons, List.map_nil, hs, hx, hr]
  exact hK _ _ (h v' w' h1 h2)
/-- a value is put into a row of one's own -/
theorem rowSet {w : World} {base g n c : Nat} {vs : List Value} (h : OwnV w base (.slice (some ⟨g, 0, none⟩) n c) vs) (j : Nat) (u : Value) : OwnV (w.setCell ⟨g, j, none⟩ u) base (.slice (some ⟨g, 0, none⟩) n c) (vs.set j u) := by
  have hn : n = vs.length := by
    rcases h.2 with ⟨q, _⟩ | ⟨_, _, _, q, _⟩
    · cases q
    · injection q
  subst hn
  have := (World.ownsRow.stored h j u).1
  unfold OwnV
  rw [List.length_set]
  exact this
theorem rowFro {w : World} {base g n c : Nat} {vs : List Value} (h : OwnV w base (.slice (some ⟨g, 0, none⟩) n c) vs) (j : Nat) : w.frozen? ⟨g, j, none⟩ = false := by
  have hn : n = vs.length := by
    rcases h.2 with ⟨q, _⟩ | ⟨_, _, _, q, _⟩
    · cases q
    · injection q
  subst hn
  exact World.ownsRow.frozenAt h j
/-- a row of slices and a row of bytes are two -/
theorem two {w : World} {b1 b2 g k n m c d : Nat} {vs : List Value} {l : List UInt8} (h : OwnV w b1 (.slice (some ⟨g, 0, none⟩) n c) vs) (r : OwnB w b2 (.slice (some ⟨k, 0, none⟩) m d) l) : g ≠ k := fun e => by
  subst e
  rcases h.2 with ⟨q, _⟩ | ⟨g1, _, _, q, _, hh, _⟩
  · cases q
  · rcases r.2 with ⟨q2, _⟩ | ⟨g2, _, _, q2, _, hh2, _⟩
    · cases q2
    · injection q with q
      injection q with q
      injection q with q
      injection q2 with q2
      injection q2 with q2
      injection q2 with q2
      rw [← q] at hh
      rw [← q2, hh] at hh2
      injection hh2 with hh2
      injection hh2 with _ e _
      cases e
theorem rowKeep {w w' : World} {base : Nat} {v : Value} {vs : List Value} (h : OwnV w base v vs) (hk : ∀ g, v.ownBlock = some g → w'.heap[g]? = w.heap[g]?) : OwnV w' base v vs := by
  refine ⟨h.1, ?_⟩
  rcases h.2 with q | ⟨g, cap, cur, e, hb, hh, r⟩
  · exact .inl q
  · exact .inr ⟨g, cap, cur, e, hb, (hk g (by rw [e]; rfl)).trans hh, r⟩
theorem Fr.scan_ok : ∀ (n : Nat) (b : List UInt8), b.length ≤ n → Fr.Ok (Fr.scan b).1 := by
  intro n
  induction n with
  | zero => intro b h; rw [Fr.scan_short b (by omega)]; intro p hp; cases hp
  | succ n ih =>
    intro b h
    cases hf : Fr.first b with
    | none => rw [Fr.scan_none hf]; intro p hp; cases hp
    | some p =>
      have hl := Fr.first_len hf
      rw [Fr.scan_some hf]
      intro q hq
      rcases List.mem_cons.1 hq with rfl | hq
      · exact hl.2.1
      · exact ih (b.drop (8 + p.length)) (by rw [List.length_drop]; omega) q hq
def FRel (J c4 : Nat) (A4 : Option Addr) (vs : List Value) (w3 : World) (iv : Value) (wr : World) : Prop :=
  ∃ (i : Nat) (us : List Value), i ≤ J ∧ iv = .int .i64 i ∧ OwnV wr w3.heap.size (.slice A4 J c4) us ∧ us.length = J ∧ (∀ idx, i ≤ idx → us[idx]? = vs[idx]?) ∧ Below w3.heap.size w3 wr
def IRel (J c4 N gk ck g : Nat) (us : List Value) (w3 : World) (jv : Value) (wr : World) : Prop :=
  ∃ (jj : Nat) (X : List UInt8), jj ≤ N ∧ jv = .int .i64 jj ∧ X.length = N ∧ OwnB wr w3.heap.size (.slice (some ⟨gk, 0, none⟩) N ck) X ∧ OwnV wr w3.heap.size (.slice (some ⟨g, 0, none⟩) J c4) us ∧ Below w3.heap.size w3 wr
set_option maxRecDepth 20000 in
theorem law_scans (bs : List UInt8) (A : Option Addr) (m cm : Nat) (w : World) (h1 : ByArg w A m cm bs) : Calls Try.prog 4 #[.slice A m cm] w (RetBelow (.bool true) w) := by
  have hmc := h1.le
  have hcm := h1.cap
  have H1 := Lib.hid h1
  clear h1
  go_enter Try.func4, Try.ntmps4
  go_wp2_with fail
  refine (awake_any _).mono ?_
  rintro e w1 ⟨rfl, hb1⟩
  have B1 := Lib.hid hb1
  have I1 := Lib.hid (H1.out.below hb1)
  clear hb1 H1
  by_cases q1 : 65536 < m
  · go_wp2_with fail
    go_ret
    exact ⟨rfl, B1.out⟩
  have IL := Lib.hid I1.out.len
  have IN := Lib.hid I1.out.nil
  have OW := Lib.hid (OwnB.new w1)
  have HB := Lib.hid (I1.out.at_.below ((Below.refl w1.heap.size w1).alloc (Nat.le_refl _) (.cells #[] 5)))
  go_wp2_with (first
    | (at_builtin; (refine wp_appB rfl (.tmp 15) (.tmp 16) rfl w1.heap.size _ [] rfl OW.out A m cm _ bs rfl IN.out HB.out IL.out hmc (by simp; omega) (by rw [World.size_alloc]; omega) ?_); intro v3 w3 own3 bel3
       rw [List.nil_append] at own3
       obtain ⟨A3, c3, e3, hb3, h3, h3', hn3⟩ := own3.parts
       rw [IL.out] at e3 h3
       subst e3
       have O3 := Lib.hid own3
       have HB3 := Lib.hid hb3
       have B3 := Lib.hid (((Below.refl w1.heap.size w1).alloc (Nat.le_refl _) (.cells #[] 5)).trans bel3)
       clear own3 bel3 hb3 hn3))
  have hs3 := B3.out.size
  have J3 := Lib.hid (I1.out.below B3.out)
  have B13 := Lib.hid (B1.out.trans (B3.out.mono B1.out.size))
  refine (scan_any bs A3 m c3 w3.heap.size w3 (Nat.le_refl _) HB3.out IL.out (by omega) h3 h3').mono ?_
  rintro e w4 ⟨bel4, A4, c4, vs, rfl, ov4, rows, tight⟩
  have OKS := Lib.hid (Fr.scan_ok bs.length bs (Nat.le_refl _))
  have RS := refScan_any bs A m cm w4 ((J3.out.below bel4).at_) IL.out (by omega) hmc hcm IN.out
  have hro := Fr.scan_rows2 bs.length bs (Nat.le_refl _)
  have hle := Fr.scan_le bs.length bs (Nat.le_refl _)
  rw [IL.out] at hle
  generalize (Fr.scan bs).1 = ms at *
  generalize (Fr.scan bs).2 = kk at *
  obtain ⟨J, hJ⟩ : ∃ J, J = ms.length := ⟨_, rfl⟩
  rw [← hJ] at RS ov4 hro ⊢
  have HJ : Hid (ms.length = J) := Lib.hid hJ.symm
  have HVL : Hid (vs.length = J) := Lib.hid (by rw [← rows.1, hJ])
  have RO := Lib.hid rows
  have TI := Lib.hid tight
  have OV4 := Lib.hid ov4
  have B4 := Lib.hid bel4
  have hs4 := bel4.size
  clear hJ rows tight ov4 bel4
  go_wp2_with fail
  refine RS.mono ?_
  clear RS
  rintro e w5 ⟨bel5, A5, c5, rfl, hj5, _, hr5⟩
  have OV5 := Lib.hid (OV4.out.belows bel5)
  have B5 := Lib.hid (B4.out.trans (bel5.mono hs4))
  have hs5 := B5.out.size
  have R5 := Lib.hid hr5
  have R4 := Lib.hid (OV5.out.rowsAt ((RO.out.keep B5.out.block).mono hs5))
  clear bel5 hr5
  go_wp2_with fail
  refine (same_any ms A4 A5 J c4 c5 w5.heap.size w5 (Nat.le_refl _) R4.out R5.out HJ.out (by omega)).mono ?_
  rintro e w6 ⟨rfl, bel6⟩
  have OV6 := Lib.hid (OV5.out.belows bel6)
  have B6 := Lib.hid (B5.out.trans (bel6.mono hs5))
  have hs6 := B6.out.size
  clear bel6
  have SO : Hid (∀ W, Below w3.heap.size w3 W → Sem.run Try.prog (convert 22 9 (.slice A3 m c3)) W = .ok (.string ⟨bs.toArray⟩) W) := Lib.hid fun W h => conv_str (HB3.out.below h) m c3 IL.out
  have SB : Hid (∀ W, Below w3.heap.size w3 W → Sem.run Try.prog (convert 22 9 (.slice A m cm)) W = .ok (.string ⟨bs.toArray⟩) W) := Lib.hid fun W h => conv_str (J3.out.at_.below h) m cm IL.out
  have e1 := SO.out w6 B6.out
  have e2 := SB.out w6 B6.out
  have hkk : ((kk : Int) != (kk : Int)) = false := by rw [bne_self_eq_false]
  go_wp2_with fail
  clear e1 e2
  go_loopw [46] (FRel J c4 A4 vs w3) (fun i _ => J - (intOf i).toNat)
  case atStart => exact ⟨0, vs, by omega, rfl, OV6.out, HVL.out, fun _ _ => rfl, B6.out⟩
  case round =>
    obtain ⟨i, us, hiJ, rfl, ov, hul, hus, bel⟩ := hrel
    have OV := Lib.hid ov
    have HU := Lib.hid hul
    have HS := Lib.hid hus
    have BE := Lib.hid bel
    have hsr := bel.size
    clear ov hul hus bel
    by_cases hlt : i < J
    · have hl : ms[i]? = some (ms[i]'(by rw [HJ.out]; exact hlt)) := List.getElem?_eq_getElem _
      obtain ⟨v, q1', Ai, ci, rfl, q2, q3, q4, q5⟩ := RO.out.2 i _ hl
      have hll := OKS.out _ (List.mem_of_getElem? hl)
      obtain ⟨Ax, nx, hx⟩ := TI.out _ (List.mem_of_getElem? q1')
      obtain ⟨y1, y2, y3⟩ : Ai = Ax ∧ (ms[i]'(by rw [HJ.out]; exact hlt)).length = nx ∧ ci = nx := by injection hx with x1 x2 x3; exact ⟨x1, x2, x3⟩
      have hui := (HS.out i (Nat.le_refl _)).trans q1'
      rw [y3, ← y2] at hui
      obtain ⟨g, rfl, hc⟩ := OV.out.at hui
      generalize ms[i]'(by rw [HJ.out]; exact hlt) = l at *
      have HLB := Lib.hid q5
      obtain ⟨n, hn⟩ : ∃ n, n = l.length := ⟨_, rfl⟩
      rw [← hn] at hc hll
      have HN : Hid (l.length = n) := Lib.hid hn.symm
      have hf := rowFro OV.out i
      have W1V := Lib.hid (OV.out.belows ((Below.refl wr.heap.size wr).alloc (Nat.le_refl _) (.cells #[.int .u8 9] 5)))
      have HLB1 := Lib.hid ((HLB.out.keep BE.out.block).keep (w' := wr.alloc (.cells #[.int .u8 9] 5)) fun q hq => Below.heap_alloc wr _ q (by omega))
      have BE1 := Lib.hid (BE.out.alloc hsr (.cells #[.int .u8 9] 5))
      have i1 : (i : Int) < J := by omega
      have i0 : (0 : Int) ≤ (i : Int) := by omega
      obtain ⟨N, hNe⟩ : ∃ N, N = n + 1 := ⟨_, rfl⟩
      have hn1 : N ≤ 4097 := by omega
      have HNE := Lib.hid hNe
      clear hNe
      clear hl q1' q2 q3 q4 q5 hx y1 y2 y3 hui hn
      go_wp2_with (first
        | (at_builtin; (refine wp_appT rfl (.tmp 54) (.tmp 55) rfl Ai n _ l rfl HLB1.out HN.out (by omega) wr.heap.size 9 rfl (heap_alloc_new wr _) ?_); intro v7 w7 own7 bel7
           obtain ⟨gk, ck, e7, hgk, hgs, hck, hckm⟩ := own7.form' (by simp)
           rw [List.length_append, HN.out] at e7 hck
           replace e7 : v7 = .slice (some ⟨gk, 0, none⟩) N ck := by rw [HNE.out]; exact e7
           replace hck : N ≤ ck := by rw [HNE.out]; exact hck
           subst e7
           have O7 : Hid (OwnB w7 w3.heap.size (.slice (some ⟨gk, 0, none⟩) N ck) (l ++ [9])) := Lib.hid (own7.mono (by rw [World.size_alloc]; omega))
           have V7 := Lib.hid (W1V.out.belows bel7)
           have B7 := Lib.hid (BE1.out.trans (bel7.mono (by rw [World.size_alloc]; omega)))
           have hg3 : w3.heap.size ≤ g := (V7.out.lt g rfl).1
           have c7 : w7.cell? ⟨g, i, none⟩ = some (.slice Ai n n) := (bel7.cell (p := ⟨g, i, none⟩) (by rw [World.size_alloc]; have := (OV.out.lt g rfl).2; show g < _; omega)).trans ((World.cell?_of_block (w := wr) (Below.heap_alloc wr _ g (OV.out.lt g rfl).2)).trans hc)
           have f7 := rowFro V7.out i
           clear own7 bel7 hc hf))
      have hgg : g ≠ gk := two V7.out O7.out
      have V8 := Lib.hid (rowSet V7.out i (.slice (some ⟨gk, 0, none⟩) N ck))
      have O8 := Lib.hid (O7.out.keep (w' := w7.setCell ⟨g, i, none⟩ (.slice (some ⟨gk, 0, none⟩) N ck)) fun q hq => Below.heap_setCell w7 _ _ q (by
        have : gk = q := by injection hq
        intro h; dsimp only at h; exact hgg (h.symm.trans this.symm)))
      have B8 := Lib.hid (B7.out.setCell (p := ⟨g, i, none⟩) hg3 (.slice (some ⟨gk, 0, none⟩) N ck))
      have HSU : Hid ((us.set i (.slice (some ⟨gk, 0, none⟩) N ck))[i]? = some (.slice (some ⟨gk, 0, none⟩) N ck)) := Lib.hid (by rw [List.getElem?_set, if_pos rfl, if_pos (by rw [HU.out]; exact hlt)])
      have HSR : Hid (∀ idx, i + 1 ≤ idx → (us.set i (.slice (some ⟨gk, 0, none⟩) N ck))[idx]? = vs[idx]?) := Lib.hid (fun idx h => by rw [List.getElem?_set, if_neg (by omega)]; exact HS.out idx (by omega))
      have HSL : Hid ((us.set i (.slice (some ⟨gk, 0, none⟩) N ck)).length = J) := Lib.hid (by rw [List.length_set]; exact HU.out)
      have HXL : Hid ((l ++ [9]).length = N) := Lib.hid (by rw [List.length_append, HN.out, HNE.out]; rfl)
      clear c7 f7
      generalize w7.setCell ⟨g, i, none⟩ (.slice (some ⟨gk, 0, none⟩) N ck) = w8 at *
      generalize us.set i (.slice (some ⟨gk, 0, none⟩) N ck) = us2 at *
      obtain ⟨wq, hwq⟩ : ∃ q, q = wr := ⟨_, rfl⟩
      subst hwq
      go_loopw [63] (IRel J c4 N gk ck g us2 w3) (fun j _ => N - (intOf j).toNat)
      case atStart => exact ⟨0, _, by omega, rfl, HXL.out, O8.out, V8.out, B8.out⟩
      case round =>
        obtain ⟨jj, X, hjj, rfl, hX, ox, vx, bx⟩ := hrel
        have HX := Lib.hid hX
        have OX := Lib.hid ox
        have VX := Lib.hid vx
        have BX := Lib.hid bx
        clear hX ox vx bx
        by_cases hlj : jj < N
        · have hx : X[jj]? = some (X[jj]'(by rw [HX.out]; exact hlj)) := List.getElem?_eq_getElem _
          obtain ⟨cd, fd⟩ := OX.out.at' hx
          obtain ⟨g', hg', cc⟩ := VX.out.at HSU.out
          obtain rfl : g = g' := by injection hg' with e; injection e
          have hxx := u8_xor_byte2 (X[jj]'(by rw [HX.out]; exact hlj)) 255
          rw [show (((255 : UInt8).toNat : Nat) : Int) = 255 from rfl] at hxx
          have OY := Lib.hid (OX.out.set jj (X[jj]'(by rw [HX.out]; exact hlj) ^^^ 255))
          have HY : Hid ((X.set jj (X[jj]'(by rw [HX.out]; exact hlj) ^^^ 255)).length = N) := Lib.hid (by rw [List.length_set]; exact HX.out)
          have hg3k : w3.heap.size ≤ gk := (OX.out.lt gk rfl).1
          have hgk2 := two VX.out OX.out
          have VY := Lib.hid (rowKeep VX.out (w' := wr.setCell ⟨gk, jj, none⟩ (.int .u8 ((X[jj]'(by rw [HX.out]; exact hlj) ^^^ 255).toNat : Int))) fun q h1 => Below.heap_setCell wr _ _ q (fun e => by
            dsimp only at e
            have h3 : g = q := by injection h1
            exact hgk2 (h3.trans e)))
          have BY := Lib.hid (BX.out.setCell (p := ⟨gk, jj, none⟩) hg3k (.int .u8 ((X[jj]'(by rw [HX.out]; exact hlj) ^^^ 255).toNat : Int)))
          clear hx hg'
          generalize X.set jj (X[jj]'(by rw [HX.out]; exact hlj) ^^^ 255) = Y at *
          generalize X[jj]'(by rw [HX.out]; exact hlj) ^^^ 255 = y at *
          generalize X[jj]'(by rw [HX.out]; exact hlj) = x at *
          have xl : (x.toNat : Int) ≤ 255 := by have := x.toNat_lt; omega
          have j1 : (jj : Int) < N := by omega
          go_wp2_with fail
          go_roundw
          case rel => exact ⟨jj + 1, Y, by omega, by go_num, HY.out, OY.out, VY.out, BY.out⟩
          case measure => simp [intOf]; omega
        · obtain rfl : jj = N := by omega
          go_wp2_with fail
          go_roundw
          case rel => exact ⟨i + 1, us2, by omega, by go_num, VX.out, HSL.out, HSR.out, BX.out⟩
          case measure => simp [intOf]; omega
    · obtain rfl : i = J := by omega
      have e1 := SO.out wr BE.out
      have e2 := SB.out wr BE.out
      go_wp2_with fail
      go_ret
      exact ⟨by simp, B13.out.trans (BE.out.mono (by have := B1.out.size; omega))⟩
end Go.Proofs.Ytkhhmpcpcdadaaa
