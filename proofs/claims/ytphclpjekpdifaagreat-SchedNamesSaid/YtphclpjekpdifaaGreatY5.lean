import Derived.Test.YtphclpjekpdifaaGreatY4
import Derived.Laws.IdiomStrings
namespace Go.Proofs.YtphclpjekpdifaaGreat.Wi
open Go.RowKit Pl
set_option linter.unusedVariables false
set_option maxRecDepth 20000
def RowAt (w : World) (g : Nat) (l : List UInt8) : Prop := ∃ cs fz, w.heap[g]? = some (.cells cs 5 (fz, fz + 1)) ∧ l.length ≤ fz ∧ fz ≤ cs.size ∧ ∀ j, j < l.length → cs[j]? = (vB l)[j]?
theorem vB_at {l : List UInt8} {j : Nat} {x : UInt8} (h : l[j]? = some x) : (vB l)[j]? = some (.int .u8 (x.toNat : Int)) := by simp [vB, h]
theorem RowAt.cell {w : World} {g : Nat} {l : List UInt8} (h : RowAt w g l) {j : Nat} {x : UInt8} (hx : l[j]? = some x) : w.cell? ⟨g, j, none⟩ = some (.int .u8 (x.toNat : Int)) ∧ w.frozen? ⟨g, j, none⟩ = false := by
  obtain ⟨cs, fz, hb, hl, hz, hc⟩ := h
  have hj : j < l.length := (List.getElem?_eq_some_iff.1 hx).1
  refine ⟨by rw [Lib.cell_of_heap hb, hc j hj, vB_at hx], ?_⟩
  unfold World.frozen?
  rw [hb]
  simp
  omega
theorem RowAt.set {w : World} {g : Nat} {l : List UInt8} (h : RowAt w g l) {j : Nat} (hj : j < l.length) (y : UInt8) : RowAt (w.setCell ⟨g, j, none⟩ (.int .u8 (y.toNat : Int))) g (l.set j y) := by
  obtain ⟨cs, fz, hb, hl, hz, hc⟩ := h
  refine ⟨cs.setIfInBounds j (.int .u8 (y.toNat : Int)), fz, by simp [World.setCell, Array.getElem?_modify, hb], by simpa using hl, by simpa using hz, fun k hk => ?_⟩
  rw [List.length_set] at hk
  rw [Array.getElem?_setIfInBounds]
  by_cases e : j = k
  · subst e
    rw [if_pos rfl, if_pos (by omega)]
    symm
    apply vB_at
    rw [List.getElem?_set_self hk]
  · rw [if_neg e, hc k hk]
    simp [vB, List.getElem?_set_ne e]
theorem RowAt.keep {w w' : World} {g : Nat} {l : List UInt8} (h : RowAt w g l) (hb : w'.heap[g]? = w.heap[g]?) : RowAt w' g l := by
  obtain ⟨cs, fz, h1, h2⟩ := h
  exact ⟨cs, fz, hb.trans h1, h2⟩
theorem RowAt.lt {w : World} {g : Nat} {l : List UInt8} (h : RowAt w g l) : g < w.heap.size := by
  obtain ⟨cs, fz, h1, h2⟩ := h
  exact (Array.getElem?_eq_some_iff.1 h1).1
theorem RowAt.new (w : World) (l : List UInt8) (cap : Nat) : RowAt (w.drew.alloc (.cells (bytesRow (Nm.str l) cap) 5 ((bytesRow (Nm.str l) cap).size, (bytesRow (Nm.str l) cap).size + 1))) w.heap.size l := by
  refine ⟨_, _, heap_alloc_new w.drew _, by simp [bytesRow, Nm.str], Nat.le_refl _, fun j hj => ?_⟩
  have h1 : j < (Nm.str l).data.size := by simp [Nm.str]; exact hj
  rw [bytesRow_at _ _ j h1]
  symm
  apply vB_at
  simp [Nm.str, hj]
theorem RowAt.text {w : World} {g : Nat} {l : List UInt8} (h : RowAt w g l) (n cap : Nat) (hn : n = l.length) : (convert 114 9 (.slice (some ⟨g, 0, none⟩) n cap)).run Tryz.prog w = .ok (.string (Nm.str l)) w := by
  subst hn
  refine run_convert_bytes_back w 114 9 5 ⟨g, 0, none⟩ cap l Tryz.underlying114 Tryz.underlying5 Tryz.underlying9 fun j hj => ?_
  have := (h.cell (List.getElem?_eq_getElem hj)).1
  unfold Addr.add
  split
  · subst j; exact this
  · simpa using this
theorem RowAt.bytes {w : World} {g B : Nat} {l : List UInt8} (h : RowAt w g l) (hB : g < B) : BytesAt w B (some ⟨g, 0, none⟩) l := fun _ => ⟨g, 0, rfl, hB, fun j u hu => by rw [Nat.zero_add]; exact (h.cell hu).1⟩
end Go.Proofs.YtphclpjekpdifaaGreat.Wi
namespace Go.Proofs.YtphclpjekpdifaaGreat
set_option maxRecDepth 20000
open Go.RowKit
open PS (Tx putM dropM setM findM Nod Ten Jb kOf St Cm Rp byName row)
open Wi.Pl (It dec)
open Go.Proofs.YtphclpjekpdifaaGreat.Nm (str)
open Go.Proofs.YtphclpjekpdifaaGreat.Vc (RetBelow fitB I64)
set_option linter.unusedVariables false
def LoadPost (l : Tx) (w : World) (e : Ending) (w' : World) : Prop :=
  (PS.load l = none ∧ e = .returned (.tuple #[.pointer none, .int .i64 4]) ∧ Below w.heap.size w w') ∨
    (∃ S b T, PS.load l = some S ∧ e = .returned (.tuple #[.pointer (some ⟨b, 0, none⟩), .int .i64 0]) ∧ Sch w' b S T ∧ (∀ k, T k → w.heap.size ≤ k) ∧ Below w.heap.size w w' ∧ Inv S)
theorem SchTo.below {w w' : World} {b : Nat} {S : St} {T : Nat → Prop} {B : Nat} (h : SchTo w w' b S T) (hB : ∀ k, T k → B ≤ k) (hs : B ≤ w.heap.size) : Below B w w' := by
  obtain ⟨T', _, _, hf⟩ := h
  exact hf.below hs hB
set_option maxHeartbeats 4000000 in
theorem load_any (l : Tx) (w : World) (hs : l.length ≤ 281474976710656) : Calls Tryz.prog 19 #[.string (str l)] w (LoadPost l w) := by
  have hsz : (Nm.str l).size = l.length := Nm.str_size l
  have hcv : ∀ W : World, (convert 9 114 (.string (Nm.str l))).run Tryz.prog W = .ok (.slice (some ⟨W.heap.size, 0, none⟩) l.length (grownCap W (Nm.str l).size 0 5)) (W.drew.alloc (.cells (bytesRow (Nm.str l) (grownCap W (Nm.str l).size 0 5)) 5 ((bytesRow (Nm.str l) (grownCap W (Nm.str l).size 0 5)).size, (bytesRow (Nm.str l) (grownCap W (Nm.str l).size 0 5)).size + 1))) := fun W => by
    have := run_bytes_of_string (P := Tryz.prog) W 9 114 5 (Nm.str l) Tryz.underlying9 Tryz.underlying114 Tryz.underlying5
    rw [hsz] at this
    rw [hsz]
    exact this
  obtain ⟨C, hC⟩ : ∃ C, C = grownCap w (Nm.str l).size 0 5 := ⟨_, rfl⟩
  have h7 := hcv w
  rw [← hC] at h7
  have hg := Wi.RowAt.new w l C
  have hCge : l.length ≤ C := by rw [hC, ← hsz]; exact grownCap_ge _ _ _ _
  have hCle : C ≤ 9223372036854775807 := by have := grownCap_le_maxLen w (Nm.str l).size 0 5 (by rw [hsz]; simp only [maxLen]; omega); rw [hC]; simpa [maxLen] using this
  obtain ⟨W, hW⟩ : ∃ W, W = w.drew.alloc (.cells (bytesRow (Nm.str l) C) 5 ((bytesRow (Nm.str l) C).size, (bytesRow (Nm.str l) C).size + 1)) := ⟨_, rfl⟩
  rw [← hW] at h7 hg
  have hB : Below w.heap.size w W := by rw [hW]; exact (Below.refl _ w).drew.alloc (by simp) _
  have hsW : W.heap.size = w.heap.size + 1 := by rw [hW]; simp
  have HG := Lib.hid (hg.bytes (B := W.heap.size) (by omega))
  have HB := Lib.hid hB
  have HL := Lib.hid hCge
  have HM := Lib.hid hCle
  have HSV := Lib.hid fun (X : World) (b : Nat) (S : St) (T : Nat → Prop) (h : Sch X b S T) (hI : Inv S) => save_any h hI.ok
  have HLD : Hid (PS.load l = match dec l with
    | none => none
    | some i => if (PS.restore PS.s0 i).2 = true ∧ PS.save (PS.restore PS.s0 i).1 = l then some (PS.restore PS.s0 i).1 else none) := Lib.hid (by unfold PS.load; cases dec l <;> rfl)
  clear hcv hC hg hCge hCle hW hB hsW hsz hs
  generalize hn : l.length = n at *
  have HN := Lib.hid hn
  clear hn
  have HIFF := Lib.hid (fun t (h : dec l = some t) => ((Wi.Pl.dec_iff l t).1 h).1)
  obtain ⟨TL, hTL⟩ : ∃ TL, TL = str l := ⟨_, rfl⟩
  have HTL := Lib.hid hTL
  rw [← hTL] at h7 ⊢
  clear hTL
  cases hd : dec l with
  | none =>
    have HD := Lib.hid hd
    rw [hd] at HLD
    clear hd
    go_enter Tryz.func19, Tryz.ntmps19
    go_wp2_with (first | (go_at_call 50; (with_reducible refine (Wi.decode_any l _ n C W HG.out HN.out HL.out HM.out).mono ?_); rintro e w1 ⟨hb1, _, hno⟩; obtain rfl := hno HD.out; have B1 := Lib.hid hb1; clear hb1 hno; unfold Wi.zeroItem))
    go_ret2
    exact .inl ⟨HLD.out, rfl, (HB.out.trans (B1.out.mono HB.out.size)).alloc (HB.out.trans (B1.out.mono HB.out.size)).size _⟩
  | some t =>
    have HD := Lib.hid hd
    have HOK := Lib.hid (HIFF.out t hd)
    rw [hd] at HLD
    dsimp only at HLD
    clear hd
    cases hr : (PS.restore PS.s0 t).2 with
    | false =>
      have HR := Lib.hid hr
      rw [hr] at HLD
      clear hr
      go_enter Tryz.func19, Tryz.ntmps19
      go_wp2_with (first | (go_at_call 50; (with_reducible refine (Wi.decode_any l _ n C W HG.out HN.out HL.out HM.out).mono ?_); rintro e w1 ⟨hb1, hyes, _⟩; obtain ⟨v, rfl, hv⟩ := hyes _ HD.out; have B1 := Lib.hid (HB.out.trans (hb1.mono HB.out.size)); have HV := Lib.hid hv; obtain ⟨k, s, A, c, rfl, _⟩ := IsIt.form hv; have HN1 := Lib.hid (heap_alloc_new w1 (.cells #[.int .i64 k, .int .i64 (PS.num t), .string s, .slice A (PS.els t).length c] 111)); have B2 := Lib.hid (B1.out.alloc B1.out.size (.cells #[.int .i64 k, .int .i64 (PS.num t), .string s, .slice A (PS.els t).length c] 111)); clear hb1 hyes hv))
      (with_reducible refine (new_any _).mono ?_)
      rintro e w2 ⟨b, rfl, hbge, hsc, hb2⟩
      have hsa : (w1.alloc (.cells #[.int .i64 k, .int .i64 (PS.num t), .string s, .slice A (PS.els t).length c] 111)).heap.size = w1.heap.size + 1 := by simp
      have hb2s := hb2.size
      rw [hsa] at hb2s hbge
      have B3 := Lib.hid (B2.out.trans (hb2.mono B2.out.size))
      have hk2 := fun q (hq : q < w1.heap.size) => (hb2.block q (by omega)).trans (Below.heap_alloc w1 (.cells #[.int .i64 k, .int .i64 (PS.num t), .string s, .slice A (PS.els t).length c] 111) q hq)
      have HRS := Lib.hid (restore_any hsc inv_s0 (Q := Wi.NewB W w1) (fun q hq => Nat.lt_of_lt_of_le hq.2 (by omega)) (fun q hq e => by have := hq.2; omega) (.inl HOK.out) (Wi.IsIt.keep (fun q hq => hk2 q hq.2) t HV.out))
      obtain ⟨y0, y1, y2, y3, _⟩ := Wi.row4 ((hb2.block w1.heap.size (by omega)).trans HN1.out)
      have HBG := Lib.hid (show w.heap.size ≤ b by have := B1.out.size; omega)
      have hyl : w1.heap.size < w2.heap.size := by omega
      clear hb2 hk2 hbge hsc hsa hb2s
      go_wp2_with fail
      (with_reducible refine HRS.out.mono ?_)
      rintro e w3 ⟨he, S3, _, hs3⟩
      rw [HR.out] at he
      subst he
      have B4 := Lib.hid (SchTo.below (B := w.heap.size) hs3 (fun q hq => by rw [hq]; exact HBG.out) B3.out.size)
      clear hs3 y0 y1 y2 y3
      go_wp2_with fail
      go_ret2
      exact .inl ⟨by rw [HLD.out, if_neg (by simp)], rfl, B3.out.trans B4.out⟩
    | true =>
      have HR := Lib.hid hr
      have HRR : Hid ((PS.restore PS.s0 t).2 = true) := Lib.hid hr
      rw [hr] at HLD
      clear hr
      obtain ⟨TX, hTX⟩ : ∃ TX, str (PS.save (PS.restore PS.s0 t).1) = TX := ⟨_, rfl⟩
      have HTX := Lib.hid hTX
      by_cases hq : PS.save (PS.restore PS.s0 t).1 = l
      · rw [if_pos ⟨rfl, hq⟩] at HLD
        obtain rfl : TX = TL := by rw [← hTX, hq, HTL.out]
        have g1 : (TX.toList == TX.toList) = true := beq_self_eq_true _
        have g2 : (TX == TX) = true := (beq_toListBytes _ _).trans g1
        clear hTX hq
        go_enter Tryz.func19, Tryz.ntmps19
        go_wp2_with (first | (go_at_call 50; (with_reducible refine (Wi.decode_any l _ n C W HG.out HN.out HL.out HM.out).mono ?_); rintro e w1 ⟨hb1, hyes, _⟩; obtain ⟨v, rfl, hv⟩ := hyes _ HD.out; have B1 := Lib.hid (HB.out.trans (hb1.mono HB.out.size)); have HV := Lib.hid hv; obtain ⟨k, s, A, c, rfl, _⟩ := IsIt.form hv; have HN1 := Lib.hid (heap_alloc_new w1 (.cells #[.int .i64 k, .int .i64 (PS.num t), .string s, .slice A (PS.els t).length c] 111)); have B2 := Lib.hid (B1.out.alloc B1.out.size (.cells #[.int .i64 k, .int .i64 (PS.num t), .string s, .slice A (PS.els t).length c] 111)); clear hb1 hyes hv))
        (with_reducible refine (new_any _).mono ?_)
        rintro e w2 ⟨b, rfl, hbge, hsc, hb2⟩
        have hsa : (w1.alloc (.cells #[.int .i64 k, .int .i64 (PS.num t), .string s, .slice A (PS.els t).length c] 111)).heap.size = w1.heap.size + 1 := by simp
        have hb2s := hb2.size
        rw [hsa] at hb2s hbge
        have B3 := Lib.hid (B2.out.trans (hb2.mono B2.out.size))
        have hk2 := fun q (hq : q < w1.heap.size) => (hb2.block q (by omega)).trans (Below.heap_alloc w1 (.cells #[.int .i64 k, .int .i64 (PS.num t), .string s, .slice A (PS.els t).length c] 111) q hq)
        have HRS := Lib.hid (restore_any hsc inv_s0 (Q := Wi.NewB W w1) (fun q hq => Nat.lt_of_lt_of_le hq.2 (by omega)) (fun q hq e => by have := hq.2; omega) (.inl HOK.out) (Wi.IsIt.keep (fun q hq => hk2 q hq.2) t HV.out))
        obtain ⟨y0, y1, y2, y3, _⟩ := Wi.row4 ((hb2.block w1.heap.size (by omega)).trans HN1.out)
        have HBG := Lib.hid (show w.heap.size ≤ b by have := B1.out.size; omega)
        have hyl : w1.heap.size < w2.heap.size := by omega
        clear hb2 hk2 hbge hsc hsa hb2s
        go_wp2_with fail
        (with_reducible refine HRS.out.mono ?_)
        rintro e w3 ⟨he, S3, hS3, T3, hs3, hu3, hf3⟩
        rw [HR.out] at he
        subst he
        have B4 := Lib.hid (SchTo.below (B := w.heap.size) ⟨T3, hs3, hu3, hf3⟩ (fun q hq => by rw [hq]; exact HBG.out) B3.out.size)
        have HU := Lib.hid hu3
        have HS3 := Lib.hid hs3
        have HX3 := Lib.hid (hS3 HRR.out)
        clear hS3 hs3 hu3 hf3 y0 y1 y2 y3
        go_wp2_with fail
        (refine (HSV.out _ b S3 T3 HS3.out HX3.out.2).mono ?_)
        rintro e w4 ⟨he, hb4⟩
        rw [HX3.out.1, HTX.out] at he
        subst he
        have B5 := Lib.hid hb4
        clear hb4
        go_wp2_with fail
        go_ret2
        refine .inr ⟨_, b, T3, HLD.out, rfl, HX3.out.1 ▸ HS3.out.below B5.out, fun k hk => ?_, (B3.out.trans B4.out).trans (B5.out.mono (B3.out.trans B4.out).size), HX3.out.1 ▸ HX3.out.2⟩
        rcases HU.out k hk with q | q
        · rw [q]; exact HBG.out
        · exact Nat.le_trans B3.out.size q.1
      · rw [if_neg (fun h => hq h.2)] at HLD
        have hne : ¬ TX = TL := fun e => hq (Nm.str_inj.1 (by rw [hTX, e, HTL.out]))
        have g1 : (TX.toList == TL.toList) = false := by rw [beq_eq_false_iff_ne, ne_eq, Wi.toList_iff]; exact hne
        have g2 : (TX == TL) = false := (beq_toListBytes _ _).trans g1
        clear hTX hq hne
        go_enter Tryz.func19, Tryz.ntmps19
        go_wp2_with (first | (go_at_call 50; (with_reducible refine (Wi.decode_any l _ n C W HG.out HN.out HL.out HM.out).mono ?_); rintro e w1 ⟨hb1, hyes, _⟩; obtain ⟨v, rfl, hv⟩ := hyes _ HD.out; have B1 := Lib.hid (HB.out.trans (hb1.mono HB.out.size)); have HV := Lib.hid hv; obtain ⟨k, s, A, c, rfl, _⟩ := IsIt.form hv; have HN1 := Lib.hid (heap_alloc_new w1 (.cells #[.int .i64 k, .int .i64 (PS.num t), .string s, .slice A (PS.els t).length c] 111)); have B2 := Lib.hid (B1.out.alloc B1.out.size (.cells #[.int .i64 k, .int .i64 (PS.num t), .string s, .slice A (PS.els t).length c] 111)); clear hb1 hyes hv))
        (with_reducible refine (new_any _).mono ?_)
        rintro e w2 ⟨b, rfl, hbge, hsc, hb2⟩
        have hsa : (w1.alloc (.cells #[.int .i64 k, .int .i64 (PS.num t), .string s, .slice A (PS.els t).length c] 111)).heap.size = w1.heap.size + 1 := by simp
        have hb2s := hb2.size
        rw [hsa] at hb2s hbge
        have B3 := Lib.hid (B2.out.trans (hb2.mono B2.out.size))
        have hk2 := fun q (hq : q < w1.heap.size) => (hb2.block q (by omega)).trans (Below.heap_alloc w1 (.cells #[.int .i64 k, .int .i64 (PS.num t), .string s, .slice A (PS.els t).length c] 111) q hq)
        have HRS := Lib.hid (restore_any hsc inv_s0 (Q := Wi.NewB W w1) (fun q hq => Nat.lt_of_lt_of_le hq.2 (by omega)) (fun q hq e => by have := hq.2; omega) (.inl HOK.out) (Wi.IsIt.keep (fun q hq => hk2 q hq.2) t HV.out))
        obtain ⟨y0, y1, y2, y3, _⟩ := Wi.row4 ((hb2.block w1.heap.size (by omega)).trans HN1.out)
        have HBG := Lib.hid (show w.heap.size ≤ b by have := B1.out.size; omega)
        have hyl : w1.heap.size < w2.heap.size := by omega
        clear hb2 hk2 hbge hsc hsa hb2s
        go_wp2_with fail
        (with_reducible refine HRS.out.mono ?_)
        rintro e w3 ⟨he, S3, hS3, T3, hs3, hu3, hf3⟩
        rw [HR.out] at he
        subst he
        have B4 := Lib.hid (SchTo.below (B := w.heap.size) ⟨T3, hs3, hu3, hf3⟩ (fun q hq => by rw [hq]; exact HBG.out) B3.out.size)
        have HU := Lib.hid hu3
        have HS3 := Lib.hid hs3
        have HX3 := Lib.hid (hS3 HRR.out)
        clear hS3 hs3 hu3 hf3 y0 y1 y2 y3
        go_wp2_with fail
        (refine (HSV.out _ b S3 T3 HS3.out HX3.out.2).mono ?_)
        rintro e w4 ⟨he, hb4⟩
        rw [HX3.out.1, HTX.out] at he
        subst he
        have B5 := Lib.hid hb4
        clear hb4
        go_wp2_with fail
        go_ret2
        exact .inl ⟨HLD.out, rfl, (B3.out.trans B4.out).trans (B5.out.mono (B3.out.trans B4.out).size)⟩
end Go.Proofs.YtphclpjekpdifaaGreat
namespace Go.Proofs.YtphclpjekpdifaaGreat
set_option maxRecDepth 20000
open Go.RowKit
open PS (Tx putM dropM setM findM Nod Ten Jb kOf St Cm Rp byName row)
open Go.Proofs.YtphclpjekpdifaaGreat.Nm (str)
open Go.Proofs.YtphclpjekpdifaaGreat.Vc (RetBelow fitB I64)
set_option linter.unusedVariables false
structure Lv (w X : World) (b : Nat) (S : St) (T : Nat → Prop) (G : List (Nat × Obj)) : Prop where
  sch : Sch X b S T
  new : ∀ k, T k → w.heap.size ≤ k
  bel : Below w.heap.size w X
  inv : Inv S
  held : ∀ p ∈ G, X.heap[p.1]? = some p.2 ∧ ¬ T p.1
def LvE (w X : World) (b : Nat) (S : St) (G : List (Nat × Obj)) : Prop := ∃ T, Lv w X b S T G
theorem LvE.bel {w X : World} {b : Nat} {S : St} {G : List (Nat × Obj)} (h : LvE w X b S G) : Below w.heap.size w X := let ⟨_, h⟩ := h; h.bel
theorem LvE.inv {w X : World} {b : Nat} {S : St} {G : List (Nat × Obj)} (h : LvE w X b S G) : Inv S := let ⟨_, h⟩ := h; h.inv
theorem LvE.held {w X : World} {b : Nat} {S : St} {G : List (Nat × Obj)} (h : LvE w X b S G) {p : Nat × Obj} (hp : p ∈ G) : X.heap[p.1]? = some p.2 := let ⟨_, h⟩ := h; (h.held p hp).1
theorem LvE.below {w X Y : World} {b : Nat} {S : St} {G : List (Nat × Obj)} (h : LvE w X b S G) (hb : Below X.heap.size X Y) : LvE w Y b S G := by
  obtain ⟨T, h⟩ := h
  exact ⟨T, h.sch.below hb, h.new, h.bel.trans (hb.mono h.bel.size), h.inv, fun p hp => ⟨(hb.block _ (Array.getElem?_eq_some_iff.1 (h.held p hp).1).1).trans (h.held p hp).1, (h.held p hp).2⟩⟩
theorem LvE.to {w X Y : World} {b : Nat} {S S' : St} {T : Nat → Prop} {G : List (Nat × Obj)} (h : Lv w X b S T G) (hi : Inv S') (hs : SchTo X Y b S' T) : LvE w Y b S' G := by
  obtain ⟨T', h1, h2, h3⟩ := hs
  have hB := h.bel.size
  refine ⟨T', h1, fun k hk => ?_, h.bel.trans (h3.below hB (fun k hk => h.new k hk)), hi, fun p hp => ?_⟩
  · rcases h2 k hk with q | q
    · exact h.new k q
    · omega
  · have hl := (Array.getElem?_eq_some_iff.1 (h.held p hp).1).1
    refine ⟨(h3.block _ hl (h.held p hp).2).trans (h.held p hp).1, fun q => ?_⟩
    rcases h2 _ q with q | q
    · exact (h.held p hp).2 q
    · omega
theorem LvE.box {w X : World} {b : Nat} {S : St} {G : List (Nat × Obj)} (h : LvE w X b S G) (cs : Array Value) (t : TypeId) : LvE w (X.alloc (.cells cs t)) b S ((X.heap.size, .cells cs t (0, 0)) :: G) := by
  obtain ⟨T, h⟩ := h
  have hb : Below X.heap.size X (X.alloc (.cells cs t)) := (Below.refl _ X).alloc (Nat.le_refl _) _
  have hlt := h.sch.lt
  refine ⟨T, h.sch.below hb, h.new, h.bel.alloc h.bel.size _, h.inv, fun p hp => ?_⟩
  rcases List.mem_cons.1 hp with rfl | hp
  · exact ⟨heap_alloc_new X _, fun q => by have := hlt _ q; simp at this⟩
  · exact ⟨(hb.block _ (Array.getElem?_eq_some_iff.1 (h.held p hp).1).1).trans (h.held p hp).1, (h.held p hp).2⟩
theorem LvE.less {w X : World} {b : Nat} {S : St} {G G' : List (Nat × Obj)} (h : LvE w X b S G) (hs : ∀ p ∈ G', p ∈ G) : LvE w X b S G' := by
  obtain ⟨T, h⟩ := h
  exact ⟨T, h.sch, h.new, h.bel, h.inv, fun p hp => h.held p (hs p hp)⟩
theorem new_lv {w X : World} (hb : Below w.heap.size w X) (G : List (Nat × Obj)) (hG : ∀ p ∈ G, X.heap[p.1]? = some p.2) : Calls Tryz.prog 12 #[] X fun e Y => ∃ b, e = .returned (.pointer (some ⟨b, 0, none⟩)) ∧ LvE w Y b PS.s0 G := by
  refine (new_any X).mono ?_
  rintro e Y ⟨b, rfl, h1, h2, h3⟩
  refine ⟨b, rfl, (· = b), h2, fun k hk => by rw [hk]; exact Nat.le_trans hb.size h1, hb.trans (h3.mono hb.size), inv_s0, fun p hp => ?_⟩
  have hl := (Array.getElem?_eq_some_iff.1 (hG p hp)).1
  exact ⟨(h3.block _ hl).trans (hG p hp), fun q => by omega⟩
theorem do_lv {w X : World} {b : Nat} {S : St} {G : List (Nat × Obj)} (h : LvE w X b S G) (c : Cm) (hc : CmOk c) (hi : CmI c) : Calls Tryz.prog 13 #[.pointer (some ⟨b, 0, none⟩), cmV c] X fun e Y => e = .returned (rpV (PS.doC S c).2) ∧ LvE w Y b (PS.doC S c).1 G := by
  obtain ⟨T, h⟩ := h
  exact (do_any h.sch h.inv.ok c hc).mono fun e Y q => ⟨q.1, LvE.to h (h.inv.doC c hi) q.2⟩
theorem ask_lv {w X : World} {b : Nat} {S : St} {G : List (Nat × Obj)} (h : LvE w X b S G) (c : Cm) (hc : CmOk c) : Calls Tryz.prog 35 #[.pointer (some ⟨b, 0, none⟩), cmV c] X fun e Y => e = .returned (rpV (PS.ask S c)) ∧ LvE w Y b S G := by
  have h0 := h
  obtain ⟨T, h⟩ := h
  exact (ask_any h.sch h.inv.ok c hc).mono fun e Y q => ⟨q.1, h0.below q.2⟩
theorem save_lv {w X : World} {b : Nat} {S : St} {G : List (Nat × Obj)} (h : LvE w X b S G) : Calls Tryz.prog 20 #[.pointer (some ⟨b, 0, none⟩)] X fun e Y => e = .returned (.string (str (PS.save S))) ∧ LvE w Y b S G := by
  have h0 := h
  obtain ⟨T, h⟩ := h
  exact (save_any h.sch h.inv.ok).mono fun e Y q => ⟨q.1, h0.below q.2⟩
theorem nodes_lv {w X : World} {b : Nat} {S : St} {G : List (Nat × Obj)} (h : LvE w X b S G) : Calls Tryz.prog 15 #[.pointer (some ⟨b, 0, none⟩)] X fun e Y => ∃ v, e = .returned v ∧ Own DR Y X.heap.size v ((byName S.N).map row) ∧ LvE w Y b S G := by
  have h0 := h
  obtain ⟨T, h⟩ := h
  exact (nodes_any h.sch h.inv.ok).mono fun e Y ⟨v, q1, q2, q3⟩ => ⟨v, q1, q2, h0.below q3⟩
theorem tenants_lv {w X : World} {b : Nat} {S : St} {G : List (Nat × Obj)} (h : LvE w X b S G) : Calls Tryz.prog 16 #[.pointer (some ⟨b, 0, none⟩)] X fun e Y => ∃ v, e = .returned v ∧ Own DTR Y X.heap.size v (byName S.T) ∧ LvE w Y b S G := by
  have h0 := h
  obtain ⟨T, h⟩ := h
  exact (tenants_any h.sch h.inv.ok).mono fun e Y ⟨v, q1, q2, q3⟩ => ⟨v, q1, q2, h0.below q3⟩
def rpEq (a b : Rp) : Bool := a.e == b.e && (a.s == b.s && (a.a == b.a && (a.b == b.b && (a.c == b.c && a.n == b.n))))
theorem rpEq_iff {a b : Rp} (h : rpEq a b = true) : a = b := by
  obtain ⟨e, s, x, y, z, n⟩ := a
  obtain ⟨e', s', x', y', z', n'⟩ := b
  simp only [rpEq, Bool.and_eq_true, beq_iff_eq] at h
  obtain ⟨rfl, rfl, rfl, rfl, rfl, rfl⟩ := h
  rfl
def k1 : Cm := ⟨1, [97], [], 4, 0, 0, 0⟩
def k2 : Cm := ⟨4, [116], [], 3, 0, 0, 0⟩
def k3 : Cm := ⟨5, [106], [116], 2, 0, 0, 0⟩
def k4 : Cm := ⟨5, [107], [84], 2, 0, 0, 0⟩
def k5 : Cm := ⟨5, [74], [116], 1, 0, 0, 0⟩
def k6 : Cm := ⟨9, [65], [], 0, 0, 0, 0⟩
def z1 : St := (PS.doC PS.s0 k1).1
def z2 : St := (PS.doC z1 k2).1
def z3 : St := (PS.doC z2 k3).1
def z4 : St := (PS.doC z3 k4).1
def z5 : St := (PS.doC z4 k5).1
def zl : Bool := match PS.load (PS.save z5) with
  | some S => (byName S.J).length == 1
  | none => false
theorem run_is : (rpEq (PS.doC PS.s0 k1).2 ⟨0, [], 0, 0, 0, 0⟩ && (rpEq (PS.doC z1 k2).2 ⟨0, [], 0, 0, 0, 0⟩ && (rpEq (PS.doC z2 k3).2 ⟨0, [97], 0, 0, 0, 0⟩ && (rpEq (PS.doC z3 k4).2 ⟨13, [], 0, 0, 0, 0⟩ && (rpEq (PS.doC z4 k5).2 ⟨11, [], 0, 0, 0, 0⟩ && (rpEq (PS.ask z5 k6) ⟨0, [], 2, 0, 0, 1⟩ && (zl && ((byName z5.N).length == 1 && ((byName z5.T).length == 1 && decide ((PS.save z5).length ≤ 4096)))))))))) = true := by
  decide +kernel
theorem i64_small {n : Int} (h : -1000 ≤ n ∧ n ≤ 1000) : I64 n := by unfold I64; omega
set_option maxHeartbeats 4000000 in
theorem awake_any (w : World) : Calls Tryz.prog 11 #[] w (RetBelow (.bool true) w) := by
  have hrun := run_is
  simp only [Bool.and_eq_true, decide_eq_true_eq, beq_iff_eq] at hrun
  obtain ⟨r1, r2, r3, r4, r5, r6, r7, r8, r9, r10⟩ := hrun
  have HB := Lib.hid (Below.refl w.heap.size w)
  have HD1 : Hid (∀ X b G, LvE w X b PS.s0 G → Calls Tryz.prog 13 #[.pointer (some ⟨b, 0, none⟩), .agg #[.int .i64 1, .string ⟨#[97]⟩, .string ⟨#[]⟩, .int .i64 4, .int .i64 0, .int .i64 0, .int .i64 0]] X fun e Y => e = .returned (.agg #[.int .i64 0, .string ⟨#[]⟩, .int .i64 0, .int .i64 0, .int .i64 0, .int .i64 0]) ∧ LvE w Y b z1 G) := Lib.hid fun X b G h => (do_lv h k1 ⟨by decide, by decide, i64_small (by decide), i64_small (by decide), i64_small (by decide)⟩ ⟨i64_small (by decide), i64_small (by decide), i64_small (by decide), i64_small (by decide)⟩).mono (by
    rintro e Y ⟨rfl, h⟩
    exact ⟨by rw [rpEq_iff r1]; rfl, h⟩)
  have HD2 : Hid (∀ X b G, LvE w X b z1 G → Calls Tryz.prog 13 #[.pointer (some ⟨b, 0, none⟩), .agg #[.int .i64 4, .string ⟨#[116]⟩, .string ⟨#[]⟩, .int .i64 3, .int .i64 0, .int .i64 0, .int .i64 0]] X fun e Y => e = .returned (.agg #[.int .i64 0, .string ⟨#[]⟩, .int .i64 0, .int .i64 0, .int .i64 0, .int .i64 0]) ∧ LvE w Y b z2 G) := Lib.hid fun X b G h => (do_lv h k2 ⟨by decide, by decide, i64_small (by decide), i64_small (by decide), i64_small (by decide)⟩ ⟨i64_small (by decide), i64_small (by decide), i64_small (by decide), i64_small (by decide)⟩).mono (by
    rintro e Y ⟨rfl, h⟩
    exact ⟨by rw [rpEq_iff r2]; rfl, h⟩)
  have HD3 : Hid (∀ X b G, LvE w X b z2 G → Calls Tryz.prog 13 #[.pointer (some ⟨b, 0, none⟩), .agg #[.int .i64 5, .string ⟨#[106]⟩, .string ⟨#[116]⟩, .int .i64 2, .int .i64 0, .int .i64 0, .int .i64 0]] X fun e Y => e = .returned (.agg #[.int .i64 0, .string ⟨#[97]⟩, .int .i64 0, .int .i64 0, .int .i64 0, .int .i64 0]) ∧ LvE w Y b z3 G) := Lib.hid fun X b G h => (do_lv h k3 ⟨by decide, by decide, i64_small (by decide), i64_small (by decide), i64_small (by decide)⟩ ⟨i64_small (by decide), i64_small (by decide), i64_small (by decide), i64_small (by decide)⟩).mono (by
    rintro e Y ⟨rfl, h⟩
    exact ⟨by rw [rpEq_iff r3]; rfl, h⟩)
  have HD4 : Hid (∀ X b G, LvE w X b z3 G → Calls Tryz.prog 13 #[.pointer (some ⟨b, 0, none⟩), .agg #[.int .i64 5, .string ⟨#[107]⟩, .string ⟨#[84]⟩, .int .i64 2, .int .i64 0, .int .i64 0, .int .i64 0]] X fun e Y => e = .returned (.agg #[.int .i64 13, .string ⟨#[]⟩, .int .i64 0, .int .i64 0, .int .i64 0, .int .i64 0]) ∧ LvE w Y b z4 G) := Lib.hid fun X b G h => (do_lv h k4 ⟨by decide, by decide, i64_small (by decide), i64_small (by decide), i64_small (by decide)⟩ ⟨i64_small (by decide), i64_small (by decide), i64_small (by decide), i64_small (by decide)⟩).mono (by
    rintro e Y ⟨rfl, h⟩
    exact ⟨by rw [rpEq_iff r4]; rfl, h⟩)
  have HD5 : Hid (∀ X b G, LvE w X b z4 G → Calls Tryz.prog 13 #[.pointer (some ⟨b, 0, none⟩), .agg #[.int .i64 5, .string ⟨#[74]⟩, .string ⟨#[116]⟩, .int .i64 1, .int .i64 0, .int .i64 0, .int .i64 0]] X fun e Y => e = .returned (.agg #[.int .i64 11, .string ⟨#[]⟩, .int .i64 0, .int .i64 0, .int .i64 0, .int .i64 0]) ∧ LvE w Y b z5 G) := Lib.hid fun X b G h => (do_lv h k5 ⟨by decide, by decide, i64_small (by decide), i64_small (by decide), i64_small (by decide)⟩ ⟨i64_small (by decide), i64_small (by decide), i64_small (by decide), i64_small (by decide)⟩).mono (by
    rintro e Y ⟨rfl, h⟩
    exact ⟨by rw [rpEq_iff r5]; rfl, h⟩)
  have HD6 : Hid (∀ X b G, LvE w X b z5 G → Calls Tryz.prog 35 #[.pointer (some ⟨b, 0, none⟩), .agg #[.int .i64 9, .string ⟨#[65]⟩, .string ⟨#[]⟩, .int .i64 0, .int .i64 0, .int .i64 0, .int .i64 0]] X fun e Y => e = .returned (.agg #[.int .i64 0, .string ⟨#[]⟩, .int .i64 2, .int .i64 0, .int .i64 0, .int .i64 1]) ∧ LvE w Y b z5 G) := Lib.hid fun X b G h => (ask_lv h k6 ⟨by decide, by decide, i64_small (by decide), i64_small (by decide), i64_small (by decide)⟩).mono (by
    rintro e Y ⟨rfl, h⟩
    exact ⟨by rw [rpEq_iff r6]; rfl, h⟩)
  have HSV : Hid (∀ X b G, LvE w X b z5 G → Calls Tryz.prog 20 #[.pointer (some ⟨b, 0, none⟩)] X fun e Y => e = .returned (.string (str (PS.save z5))) ∧ LvE w Y b z5 G) := Lib.hid fun X b G h => save_lv h
  obtain ⟨S', hl, hj⟩ : ∃ S', PS.load (PS.save z5) = some S' ∧ (byName S'.J).length = 1 := by
    unfold zl at r7
    cases hq : PS.load (PS.save z5) with
    | none => rw [hq] at r7; cases r7
    | some S' => rw [hq] at r7; exact ⟨S', rfl, by simpa using r7⟩
  have HLD : Hid (∀ X, Calls Tryz.prog 19 #[.string (str (PS.save z5))] X fun e Y => ∃ t T, e = .returned (.tuple #[.pointer (some ⟨t, 0, none⟩), .int .i64 0]) ∧ Sch Y t S' T ∧ Inv S' ∧ Below X.heap.size X Y) := Lib.hid fun X => (load_any _ X (Nat.le_trans r10 (by omega))).mono (by
    rintro e Y (⟨h1, _⟩ | ⟨S2, t, T, h1, h2, h3, h4, h5, h6⟩)
    · rw [hl] at h1; cases h1
    · rw [hl] at h1; cases h1; exact ⟨t, T, h2, h3, h6, h5⟩)
  have HJ : Hid (∀ X t T, Sch X t S' T → Inv S' → Calls Tryz.prog 14 #[.pointer (some ⟨t, 0, none⟩)] X fun e Y => ∃ A c, e = .returned (.slice A 1 c) ∧ Below X.heap.size X Y) := Lib.hid fun X t T h hi => (jobs_any h hi.ok).mono (by
    rintro e Y ⟨v, rfl, h2, h3⟩
    obtain ⟨A, c, rfl, _⟩ := h2.form
    exact ⟨A, c, by rw [hj], h3⟩)
  have HN : Hid (∀ X b G, LvE w X b z5 G → Calls Tryz.prog 15 #[.pointer (some ⟨b, 0, none⟩)] X fun e Y => ∃ A c, e = .returned (.slice A 1 c) ∧ LvE w Y b z5 G) := Lib.hid fun X b G h => (nodes_lv h).mono (by
    rintro e Y ⟨v, rfl, h2, h3⟩
    obtain ⟨A, c, rfl, _⟩ := h2.form
    exact ⟨A, c, by rw [List.length_map, r8], h3⟩)
  have HT : Hid (∀ X b G, LvE w X b z5 G → Calls Tryz.prog 16 #[.pointer (some ⟨b, 0, none⟩)] X fun e Y => ∃ A c, e = .returned (.slice A 1 c) ∧ LvE w Y b z5 G) := Lib.hid fun X b G h => (tenants_lv h).mono (by
    rintro e Y ⟨v, rfl, h2, h3⟩
    obtain ⟨A, c, rfl, _⟩ := h2.form
    exact ⟨A, c, by rw [r9], h3⟩)
  generalize str (PS.save z5) = TX at *
  clear r1 r2 r3 r4 r5 r6 r7 r8 r9 r10 hl hj
  have hb4 : ∀ W : World, (Instr.build 28 #[(0, .int .i64 4)]).run Tryz.prog W = .ok (.agg #[.int .i64 4, .int .i64 0, .int .i64 0]) W := fun W => run_build W 28 _ _ (by kernel_rfl)
  have hb3 : ∀ W : World, (Instr.build 28 #[(0, .int .i64 3)]).run Tryz.prog W = .ok (.agg #[.int .i64 3, .int .i64 0, .int .i64 0]) W := fun W => run_build W 28 _ _ (by kernel_rfl)
  have hb2 : ∀ W : World, (Instr.build 28 #[(0, .int .i64 2)]).run Tryz.prog W = .ok (.agg #[.int .i64 2, .int .i64 0, .int .i64 0]) W := fun W => run_build W 28 _ _ (by kernel_rfl)
  have hb1 : ∀ W : World, (Instr.build 28 #[(0, .int .i64 1)]).run Tryz.prog W = .ok (.agg #[.int .i64 1, .int .i64 0, .int .i64 0]) W := fun W => run_build W 28 _ _ (by kernel_rfl)
  have hc1 : ∀ W : World, (Instr.build 33 #[(0, .int .i64 1), (1, .string ⟨#[97]⟩), (3, .agg #[.int .i64 4, .int .i64 0, .int .i64 0])]).run Tryz.prog W = .ok (.agg #[.int .i64 1, .string ⟨#[97]⟩, .string ⟨#[]⟩, .int .i64 4, .int .i64 0, .int .i64 0, .int .i64 0]) W := fun W => run_build W 33 _ _ (by kernel_rfl)
  have hc2 : ∀ W : World, (Instr.build 33 #[(0, .int .i64 4), (1, .string ⟨#[116]⟩), (3, .agg #[.int .i64 3, .int .i64 0, .int .i64 0])]).run Tryz.prog W = .ok (.agg #[.int .i64 4, .string ⟨#[116]⟩, .string ⟨#[]⟩, .int .i64 3, .int .i64 0, .int .i64 0, .int .i64 0]) W := fun W => run_build W 33 _ _ (by kernel_rfl)
  have hc3 : ∀ W : World, (Instr.build 33 #[(0, .int .i64 5), (1, .string ⟨#[106]⟩), (2, .string ⟨#[116]⟩), (3, .agg #[.int .i64 2, .int .i64 0, .int .i64 0])]).run Tryz.prog W = .ok (.agg #[.int .i64 5, .string ⟨#[106]⟩, .string ⟨#[116]⟩, .int .i64 2, .int .i64 0, .int .i64 0, .int .i64 0]) W := fun W => run_build W 33 _ _ (by kernel_rfl)
  have hc4 : ∀ W : World, (Instr.build 33 #[(0, .int .i64 5), (1, .string ⟨#[107]⟩), (2, .string ⟨#[84]⟩), (3, .agg #[.int .i64 2, .int .i64 0, .int .i64 0])]).run Tryz.prog W = .ok (.agg #[.int .i64 5, .string ⟨#[107]⟩, .string ⟨#[84]⟩, .int .i64 2, .int .i64 0, .int .i64 0, .int .i64 0]) W := fun W => run_build W 33 _ _ (by kernel_rfl)
  have hc5 : ∀ W : World, (Instr.build 33 #[(0, .int .i64 5), (1, .string ⟨#[74]⟩), (2, .string ⟨#[116]⟩), (3, .agg #[.int .i64 1, .int .i64 0, .int .i64 0])]).run Tryz.prog W = .ok (.agg #[.int .i64 5, .string ⟨#[74]⟩, .string ⟨#[116]⟩, .int .i64 1, .int .i64 0, .int .i64 0, .int .i64 0]) W := fun W => run_build W 33 _ _ (by kernel_rfl)
  have hc6 : ∀ W : World, (Instr.build 33 #[(0, .int .i64 9), (1, .string ⟨#[65]⟩)]).run Tryz.prog W = .ok (.agg #[.int .i64 9, .string ⟨#[65]⟩, .string ⟨#[]⟩, .int .i64 0, .int .i64 0, .int .i64 0, .int .i64 0]) W := fun W => run_build W 33 _ _ (by kernel_rfl)
  have HNEW := Lib.hid (new_lv HB.out [] (fun p hp => by cases hp))
  have q23 : ∀ W : World, (Op.equalIn 10000 28 (.agg #[.int .i64 2, .int .i64 0, .int .i64 0]) (.agg #[.int .i64 2, .int .i64 0, .int .i64 0])).run Tryz.prog W = .ok true W := fun W => Vc.eq23 2 0 0 2 0 0 W
  go_enter Tryz.func11, Tryz.ntmps11
  go_wp2_with (first | (go_at_call 12; (with_reducible refine HNEW.out.mono ?_); rintro e w1 ⟨b, rfl, h⟩; have HL0 := Lib.hid h; clear h) | (go_at_call 13; (with_reducible refine (HD1.out _ _ _ HL0.out).mono ?_); rintro e w2 ⟨rfl, h⟩; have HL1 := Lib.hid (h.box #[.int .i64 0, .string ⟨#[]⟩, .int .i64 0, .int .i64 0, .int .i64 0, .int .i64 0] 30); clear h HL0) | (go_at_call 13; (with_reducible refine (HD2.out _ _ _ HL1.out).mono ?_); rintro e w3 ⟨rfl, h⟩; have HL2 := Lib.hid (h.box #[.int .i64 0, .string ⟨#[]⟩, .int .i64 0, .int .i64 0, .int .i64 0, .int .i64 0] 30); clear h HL1) | (go_at_call 13; (with_reducible refine (HD3.out _ _ _ HL2.out).mono ?_); rintro e w4 ⟨rfl, h⟩; have HL3 := Lib.hid (h.box #[.int .i64 0, .string ⟨#[97]⟩, .int .i64 0, .int .i64 0, .int .i64 0, .int .i64 0] 30); clear h HL2) | (go_at_call 13; (with_reducible refine (HD4.out _ _ _ HL3.out).mono ?_); rintro e w5 ⟨rfl, h⟩; have HL4 := Lib.hid (h.box #[.int .i64 13, .string ⟨#[]⟩, .int .i64 0, .int .i64 0, .int .i64 0, .int .i64 0] 30); clear h HL3) | (go_at_call 13; (with_reducible refine (HD5.out _ _ _ HL4.out).mono ?_); rintro e w6 ⟨rfl, h⟩; have HL5 := Lib.hid (h.box #[.int .i64 11, .string ⟨#[]⟩, .int .i64 0, .int .i64 0, .int .i64 0, .int .i64 0] 30); clear h HL4) | (go_at_call 35; (with_reducible refine (HD6.out _ _ _ HL5.out).mono ?_); rintro e w7 ⟨rfl, h⟩; have HL6 := Lib.hid (h.box #[.int .i64 0, .string ⟨#[]⟩, .int .i64 2, .int .i64 0, .int .i64 0, .int .i64 1] 30); clear h HL5))
  (with_reducible refine (HSV.out _ _ _ HL6.out).mono ?_)
  rintro e w8 ⟨rfl, h⟩
  have HL7 := Lib.hid h
  clear h HL6
  go_wp2_with fail
  (with_reducible refine (HLD.out _).mono ?_)
  rintro e w9 ⟨t, T, rfl, hs, hi, hb⟩
  have HL8 := Lib.hid (HL7.out.below hb)
  have HS := Lib.hid hs
  have HI := Lib.hid hi
  clear hs hi hb HL7
  obtain ⟨a0, _⟩ := rowc6 (HL8.out.held (p := (w2.heap.size, _)) (List.Mem.tail _ (List.Mem.tail _ (List.Mem.tail _ (List.Mem.tail _ (List.Mem.tail _ (List.Mem.head _)))))))
  obtain ⟨b0, _⟩ := rowc6 (HL8.out.held (p := (w3.heap.size, _)) (List.Mem.tail _ (List.Mem.tail _ (List.Mem.tail _ (List.Mem.tail _ (List.Mem.head _))))))
  obtain ⟨c0, c1, _⟩ := rowc6 (HL8.out.held (p := (w4.heap.size, _)) (List.Mem.tail _ (List.Mem.tail _ (List.Mem.tail _ (List.Mem.head _)))))
  obtain ⟨d0, _⟩ := rowc6 (HL8.out.held (p := (w5.heap.size, _)) (List.Mem.tail _ (List.Mem.tail _ (List.Mem.head _))))
  obtain ⟨e0, _⟩ := rowc6 (HL8.out.held (p := (w6.heap.size, _)) (List.Mem.tail _ (List.Mem.head _)))
  obtain ⟨_, _, f2, f3, f4, f5, _⟩ := rowc6 (HL8.out.held (p := (w7.heap.size, _)) (List.Mem.head _))
  go_wp2_with fail
  go_wp2_with (first | (go_at_call 14; (with_reducible refine (HJ.out _ _ _ HS.out HI.out).mono ?_); rintro e w10 ⟨A, c, rfl, hb⟩; have HL9 := Lib.hid (HL8.out.below hb); clear hb) | (go_at_call 15; (with_reducible refine (HN.out _ _ _ HL9.out).mono ?_); rintro e w11 ⟨A2, c2, rfl, h⟩; have HL10 := Lib.hid h; clear h) | (go_at_call 16; (with_reducible refine (HT.out _ _ _ HL10.out).mono ?_); rintro e w12 ⟨A3, c3, rfl, h⟩; have HL11 := Lib.hid h; clear h))
  go_ret
  exact ⟨rfl, HL11.out.bel⟩
end Go.Proofs.YtphclpjekpdifaaGreat
