import Derived.Test.YtjcikhacekmcfaaGreatDoorOh
namespace Go.Proofs.YtjcikhacekmcfaaGreatDoor
open Go.RowKit
open PlainDisk (File Disk)
open PWal (St Ent Chg)
set_option linter.unusedVariables false
set_option maxRecDepth 100000

/-! ### payloads put together: bytes.Join with no separator -/
theorem add_at (b o i : Nat) : (⟨b, o, none⟩ : Addr).add i = ⟨b, o + i, none⟩ := by
  unfold Addr.add
  split
  · rename_i h; subst h; rfl
  · rfl
theorem fresh_bytes {B : Nat} {w : World} {v : Value} {l : List UInt8} (h : Lib.FreshBytes B w v l) : ∃ A c, v = .slice A l.length c ∧ Fm.BytesAt w w.heap.size A l ∧ l.length ≤ c ∧ c ≤ 9223372036854775807 := by
  obtain ⟨g, cap, zs, rfl, h1, h2, h3, h4, h5, h6, h7, _⟩ := h
  refine ⟨_, _, rfl, fun hne => ⟨g, 0, rfl, ?_, fun j u hu => ?_⟩, h2, by simp only [maxLen] at h3; omega⟩
  · have hl : 0 < l.length := List.length_pos_iff.2 hne
    exact World.block_lt_of_cell? w _ (h7 0 (by omega))
  · have hj := (List.getElem?_eq_some_iff.1 hu).1
    rw [Nat.zero_add, h7 j (by omega)]
    have hz : zs[j]? = some (zs.getD j 0) := by
      rw [List.getD_eq_getElem?_getD]
      rw [List.getElem?_eq_getElem (by omega)]; rfl
    have hr := h5 _ (List.mem_of_getElem? hz)
    rw [← h6] at hu
    unfold Lib.bytesOf at hu
    rw [List.getElem?_map, List.getElem?_take, if_pos hj, hz] at hu
    simp only [Option.map_some, Option.some.injEq] at hu
    rw [← hu]
    generalize zs.getD j 0 = z at *
    congr 2
    simp
    omega
theorem pays_holds {w : World} {N0 N1 : Nat} {l : List UInt8} {A' : Option Addr} {n : Nat} (h : l ≠ [] → ∃ b2 off2, A' = some ⟨b2, off2, none⟩ ∧ N0 ≤ b2 ∧ b2 < N1 ∧ ∀ j u, l[j]? = some u → w.cell? ⟨b2, off2 + j, none⟩ = some (.int .u8 (u.toNat : Int))) : Lib.HoldsBytes w (.slice A' l.length n) l := by
  refine ⟨A', n, rfl, fun e => ?_, fun a ha i x hx => ?_⟩
  · cases l with
    | nil => rfl
    | cons x r => obtain ⟨b2, off2, h1, _⟩ := h (by simp); rw [e] at h1; cases h1
  · obtain ⟨b2, off2, h1, _, _, h4⟩ := h (fun e => by rw [e] at hx; simp at hx)
    rw [h1] at ha
    injection ha with ha
    rw [← ha, add_at]
    exact h4 i x hx
theorem pays_parts {w : World} {N0 N1 : Nat} {A : Option Addr} {ls : List (List UInt8)} (h : PaysAt w N0 N1 A ls) (hne : ls ≠ []) : ∃ b off vs, A = some ⟨b, off, none⟩ ∧ Lib.PartsAt w ⟨b, off, none⟩ vs ls := by
  obtain ⟨b, off, h1, h2, h3, h4⟩ := h hne
  refine ⟨b, off, (List.range ls.length).map fun i => (w.cell? ⟨b, off + i, none⟩).getD undef, h1, by simp, fun i v hv => ?_, fun i v l hv hl => ?_⟩
  · rw [List.getElem?_map] at hv
    by_cases q : i < ls.length
    · rw [List.getElem?_range q] at hv
      simp only [Option.map_some, Option.some.injEq] at hv
      obtain ⟨A', n, q1, _⟩ := h4 i _ (List.getElem?_eq_getElem q)
      rw [add_at, ← hv, q1]; rfl
    · rw [List.getElem?_eq_none (by simp; omega)] at hv
      cases hv
  · have q := (List.getElem?_eq_some_iff.1 hl).1
    rw [List.getElem?_map, List.getElem?_range q] at hv
    simp only [Option.map_some, Option.some.injEq] at hv
    obtain ⟨A', n, q1, q2, q3, q4⟩ := h4 i _ hl
    rw [q1] at hv
    rw [← hv]
    exact pays_holds q4
theorem join_flat (ls : List (List UInt8)) : Lib.join ls [] = ls.flatten := by
  cases ls with
  | nil => rfl
  | cons x r => rw [Lib.join_cons]; simp [Lib.joinTail]
theorem lens_flat (ls : List (List UInt8)) : Lib.lens ls = ls.flatten.length := by
  unfold Lib.lens
  rw [List.length_flatten]
/-- bytes that a call answers -/
def BytesP (bs : List UInt8) (w : World) (e : Ending) (w' : World) : Prop := ∃ A c, e = .returned (.slice A bs.length c) ∧ Fm.BytesAt w' w'.heap.size A bs ∧ bs.length ≤ c ∧ c ≤ 9223372036854775807 ∧ Below w.heap.size w w'
theorem joins_any {w : World} {N0 N1 : Nat} {A : Option Addr} {c : Nat} {ls : List (List UInt8)} (h : PaysAt w N0 N1 A ls) (hc : ls.length ≤ c) (hl : ls.flatten.length ≤ 1000000000) (hn : ls.length ≤ 1000000000) : Calls Tryz.prog 136 #[.slice A ls.length c, .slice none 0 0] w (BytesP ls.flatten w) := by
  match ls, h, hc, hl, hn with
  | [], h, hc, hl, hn =>
    refine (Tryz.bytes_Join_none A c (.slice none 0 0) w).mono ?_
    rintro e w' ⟨rfl, rfl⟩
    exact ⟨some ⟨w.heap.size, 0, none⟩, 0, rfl, Fm.BytesAt.nil _ _ _, by simp, by omega, below_new w _⟩
  | [l], h, hc, hl, hn =>
    obtain ⟨b, off, h1, h2, h3, h4⟩ := h (by simp)
    obtain ⟨A', n, q1, q2, q3, q4⟩ := h4 0 l rfl
    subst h1
    have hf : [l].flatten = l := by simp
    rw [hf] at hl ⊢
    rw [Nat.add_zero] at q1
    by_cases hle : l = []
    · subst hle
      refine (Tryz.bytes_Join_one_empty b off c A' n (.slice none 0 0) w q1).mono ?_
      rintro e w' ⟨rfl, rfl⟩
      exact ⟨none, 0, rfl, Fm.BytesAt.nil _ _ _, by simp, by omega, Below.refl _ _⟩
    · obtain ⟨b2, off2, r1, r2, r3, r4⟩ := q4 hle
      subst r1
      refine (Tryz.bytes_Join_one b off c ⟨b2, off2, none⟩ n l (.slice none 0 0) w q1 (fun i x hx => by rw [add_at]; exact r4 i x hx) (List.length_pos_iff.2 hle) (by omega)).mono ?_
      rintro e w' ⟨v, rfl, hf, hb⟩
      obtain ⟨A2, c2, rfl, k1, k2, k3⟩ := fresh_bytes hf
      exact ⟨A2, c2, rfl, k1, k2, k3, hb⟩
  | l0 :: l1 :: r, h, hc, hl, hn =>
    obtain ⟨b, off, vs, h1, hp⟩ := pays_parts h (by simp)
    subst h1
    refine (Tryz.bytes_Join_many b off _ c vs (l0 :: l1 :: r) (.slice none 0 0) [] w rfl (by simp) hp hc ⟨none, 0, rfl, fun _ => rfl, fun a h => by cases h⟩ (by omega) (by rw [lens_flat]; simp only [List.length_nil, Nat.zero_mul]; omega)).mono ?_
    rintro e w' ⟨v, rfl, hf, hb⟩
    rw [join_flat] at hf
    obtain ⟨A2, c2, rfl, k1, k2, k3⟩ := fresh_bytes hf
    exact ⟨A2, c2, rfl, k1, k2, k3, hb⟩
end Go.Proofs.YtjcikhacekmcfaaGreatDoor
namespace Go.Proofs.YtjcikhacekmcfaaGreatDoor
open Go.RowKit
open PlainDisk (File Disk)
open PWal (St Ent Chg)
set_option linter.unusedVariables false
set_option maxRecDepth 100000

/-! ### a snapshot read from bytes -/
def PaysP2 (bs : List UInt8) (N0 : Nat) (w : World) (e : Ending) (w' : World) : Prop := Below w.heap.size w w' ∧
  ∃ A c, e = .returned (.tuple #[.slice A (Fm.Fr.scan bs).1.length c, .int .i64 (Fm.Fr.scan bs).2]) ∧ (Fm.Fr.scan bs).1.length ≤ c ∧ c ≤ 9223372036854775807 ∧ PaysAt w' N0 w'.heap.size A (Fm.Fr.scan bs).1
theorem scan_pays2 {bs : List UInt8} {A : Option Addr} {n c N0 : Nat} {w : World} (hn : n = bs.length) (h : OwnB w N0 (.slice A n c) bs) (hN : N0 ≤ w.heap.size) (hs : bs.length ≤ 1100000) : Calls Tryz.prog 78 #[.slice A n c] w (PaysP2 bs N0 w) := by
  subst hn
  obtain ⟨h1, h2, h3⟩ := ownB_bytes h
  refine (Fm.scan_held bs A bs.length c w.heap.size w (Nat.le_refl _) h1 rfl hs h2 h3).mono ?_
  rintro e w' ⟨hb, A', c', vs, he, hov, hrows, htight⟩
  obtain ⟨A0, c0, e0, l0, l1⟩ := hov.form
  injection e0 with e01 e02 e03
  refine ⟨hb, A', c', he, by rw [e02, e03]; exact l0, by rw [e03]; exact l1, ?_⟩
  intro hne
  have hra := Fm.OwnV.rowsAt hov ((hrows.keep fun q hq => hb.block q hq).mono hb.size)
  rcases hov.2 with ⟨_, q⟩ | ⟨g, cap, cur, e1, hbg, hh, r1, r2, r3, r4⟩
  · have := hrows.1
    exact absurd (List.eq_nil_of_length_eq_zero (by omega)) hne
  · injection e1 with e1 e2 e3
    refine ⟨g, 0, e1, by omega, (Array.getElem?_eq_some_iff.1 hh).1, fun i l hl => ?_⟩
    obtain ⟨v, q1, q2⟩ := hrows.2 i l hl
    obtain ⟨g2, e4, e5⟩ := Fm.OwnV.at hov q1
    rw [e1] at e4
    injection e4 with e4
    injection e4 with e4
    subst e4
    obtain ⟨A2, c2, hv, s1, s2, s3, s4⟩ := q2
    obtain ⟨A3, n3, hv3, hsb⟩ := htight v (List.mem_of_getElem? q1)
    rw [hv] at hv3
    injection hv3 with hv3 _ _
    subst hv3
    refine ⟨A2, c2, by rw [Nat.zero_add, e5, hv], s1, s2, fun hl2 => ?_⟩
    obtain ⟨b2, off2, t1, t2, t3⟩ := s4 hl2
    refine ⟨b2, off2, t1, ?_, Nat.lt_of_lt_of_le t2 hb.size, fun j u hu => (hb.cell (p := ⟨b2, off2 + j, none⟩) t2).trans (t3 j u hu)⟩
    obtain ⟨y, y1, y2⟩ := hsb _ t1
    rcases h.2 with ⟨z1, _⟩ | ⟨gb, cb, cu, z1, z2, _⟩
    · rw [y1] at z1; injection z1 with z1; cases z1
    · rw [y1] at z1
      injection z1 with z1
      injection z1 with z1
      rw [z1] at y2
      have : b2 = gb := y2
      omega
theorem flatten_le : ∀ (l : List (List UInt8)), (∀ p ∈ l, p.length ≤ 4096) → l.flatten.length ≤ l.length * 4096 := by
  intro l
  induction l with
  | nil => intro _; simp
  | cons p r ih =>
    intro h
    have h1 := ih fun x hx => h x (List.mem_cons_of_mem _ hx)
    have h2 := h p (List.mem_cons_self ..)
    rw [List.flatten_cons, List.length_append, List.length_cons]
    omega
theorem slice_tail (b off n c : Nat) (h1 : 1 ≤ n) (h : n ≤ c) : ∃ A', (∀ W : World, (Instr.slice 129 (.slice (some ⟨b, off, none⟩) n c) (some (.int .i64 1)) none none).run Tryz.prog W = .ok (.slice A' (n - 1) (c - 1)) W) ∧ (1 < c → A' = some ⟨b, off + 1, none⟩) := by
  have hn : (1 : Int) ≤ (n : Int) := by omega
  have hc : (n : Int) ≤ (c : Int) := by omega
  by_cases q : c = 1
  · subst q
    have : n = 1 := by omega
    subst this
    refine ⟨some ⟨b, off, none⟩, fun W => ?_, fun k => by omega⟩
    go_simp
  · refine ⟨some ⟨b, off + 1, none⟩, fun W => ?_, fun _ => rfl⟩
    have q2 : ¬ (c = 1) := q
    go_simp
    all_goals omega
theorem pays_tail {w : World} {N0 N1 b off : Nat} {p : List UInt8} {r : List (List UInt8)} {A' : Option Addr} (h : PaysAt w N0 N1 (some ⟨b, off, none⟩) (p :: r)) (ha : r ≠ [] → A' = some ⟨b, off + 1, none⟩) : PaysAt w N0 N1 A' r := fun hne => by
  obtain ⟨b', off', h1, h2, h3, h4⟩ := h (by simp)
  injection h1 with h1
  injection h1 with e1 e2
  subst e1 e2
  refine ⟨b, off + 1, ha hne, h2, h3, fun i l hl => ?_⟩
  have := h4 (i + 1) l (by rw [List.getElem?_cons_succ]; exact hl)
  rwa [show off + (i + 1) = off + 1 + i by omega] at this
theorem bld37z (w : World) : (Instr.build 37 #[]).run Tryz.prog w = .ok (.agg #[.int .i64 0, .int .i64 0, .string ⟨#[]⟩]) w := run_build w 37 _ _ (by kernel_rfl)
theorem bld37 (i t : Int) (s : ByteArray) (w : World) : (Instr.build 37 #[(0, .int .i64 i), (1, .int .i64 t), (2, .string s)]).run Tryz.prog w = .ok (.agg #[.int .i64 i, .int .i64 t, .string s]) w := run_build w 37 _ _ (by kernel_rfl)
def SnapP (bs : List UInt8) (w : World) (e : Ending) (w' : World) : Prop := Below w.heap.size w w' ∧
  ((∃ i t d, PWal.snapOf bs = some (i, t, d) ∧ e = .returned (.tuple #[.agg #[.int .i64 i, .int .i64 t, .string (str d)], .bool true])) ∨
   (PWal.snapOf bs = none ∧ ∃ (i t : Int) (s : ByteArray), e = .returned (.tuple #[.agg #[.int .i64 i, .int .i64 t, .string s], .bool false])))
theorem snapOf_nil {bs : List UInt8} (h : (Fm.Fr.scan bs).1 = []) : PWal.snapOf bs = none := by unfold PWal.snapOf; rw [h]
theorem snapOf_not {bs p : List UInt8} {r : List (List UInt8)} (h : (Fm.Fr.scan bs).1 = p :: r) (h3 : ((PWal.parts p).map PWal.say).length ≠ 3) : PWal.snapOf bs = none := by
  unfold PWal.snapOf
  rw [h]
  dsimp only
  split
  · rename_i q; rw [q] at h3; simp at h3
  · rfl
theorem snapOf_three {bs p : List UInt8} {r : List (List UInt8)} {s0 s1 s2 : PWal.Say} (h : (Fm.Fr.scan bs).1 = p :: r) (hs : (PWal.parts p).map PWal.say = [s0, s1, s2]) {n0 n1 : Int} {b0 b1 : Bool} (h0 : asI s0 = (n0, b0)) (h1 : asI s1 = (n1, b1)) :
    PWal.snapOf bs = if b0 = true ∧ b1 = true ∧ (PWal.mayBe n0 && PWal.mayBe n1) = true ∧ r.flatten.length ≤ 65536 ∧ bs = PWal.snapRec n0 n1 r.flatten then some (n0, n1, r.flatten) else none := by
  unfold PWal.snapOf
  rw [h]
  dsimp only
  rw [hs]
  cases s0 <;> simp only [asI, Prod.mk.injEq] at h0 <;> obtain ⟨rfl, rfl⟩ := h0
  · cases s1 <;> simp only [asI, Prod.mk.injEq] at h1 <;> obtain ⟨rfl, rfl⟩ := h1
    · simp only [true_and, Bool.and_eq_true, and_assoc]
    · simp
    · simp
  · simp
  · simp
end Go.Proofs.YtjcikhacekmcfaaGreatDoor
namespace Go.Proofs.YtjcikhacekmcfaaGreatDoor
open Go.RowKit
open PlainDisk (File Disk)
open PWal (St Ent Chg)
set_option linter.unusedVariables false
set_option maxRecDepth 100000

set_option maxHeartbeats 4000000 in
theorem snapOf_any {bs : List UInt8} {A : Option Addr} {n c N0 : Nat} {w : World} (hn : n = bs.length) (h : OwnB w N0 (.slice A n c) bs) (hN : N0 ≤ w.heap.size) (hs : bs.length ≤ 1100000) : Calls Tryz.prog 88 #[.slice A n c] w (SnapP bs w) := by
  obtain ⟨W0, hW0⟩ : ∃ W, w.alloc (.cells #[.int .i64 0, .int .i64 0, .string ⟨#[]⟩] 37) = W := ⟨_, rfl⟩
  have HW0 := Lib.hid hW0
  have hb0 : Below w.heap.size w W0 := hW0 ▸ below_new w _
  have hx0 : W0.heap[w.heap.size]? = some (.cells #[.int .i64 0, .int .i64 0, .string ⟨#[]⟩] 37 (0, 0)) := by rw [← hW0]; exact heap_alloc_new w _
  have B0 := Lib.hid hb0
  have HX0 := Lib.hid hx0
  have KB : Hid (∀ V, Below W0.heap.size W0 V → (V.cell? ⟨w.heap.size, 0, none⟩ = some (.int .i64 0) ∧ V.cell? ⟨w.heap.size, 1, none⟩ = some (.int .i64 0) ∧ V.cell? ⟨w.heap.size, 2, none⟩ = some (.string ⟨#[]⟩)) ∧ V.frozen? ⟨w.heap.size, 0, none⟩ = false ∧ V.frozen? ⟨w.heap.size, 1, none⟩ = false ∧ V.frozen? ⟨w.heap.size, 2, none⟩ = false) := Lib.hid (fun V hb => by
    have hv := (hb.block _ (Array.getElem?_eq_some_iff.1 HX0.out).1).trans HX0.out
    refine ⟨⟨?_, ?_, ?_⟩, Lib.frozen_of_heap hv 0, Lib.frozen_of_heap hv 1, Lib.frozen_of_heap hv 2⟩ <;> (rw [Lib.cell_of_heap hv]; rfl))
  have CH := Lib.hid (fun (V0 V : World) (x y z : Value) (hb : Below W0.heap.size W0 V0) (h : V = ((V0.setCell ⟨w.heap.size, 0, none⟩ x).setCell ⟨w.heap.size, 1, none⟩ y).setCell ⟨w.heap.size, 2, none⟩ z) => (h ▸ ((((B0.out.trans (hb.mono B0.out.size)).setCell (Nat.le_refl _) x).setCell (Nat.le_refl _) y).setCell (Nat.le_refl _) z) : Below w.heap.size w V))
  have hz := bld37z
  have hbl := bld37
  subst hn
  obtain ⟨hba, hbc, hbc2⟩ := ownB_bytes h
  have HBA := Lib.hid hba
  have HSC := Lib.hid (scan_pays2 (N0 := N0) (w := W0) rfl (Fm.OwnB.keep (w' := W0) h (fun g hg => hb0.block g (Fm.OwnB.lt h g hg).2)) (Nat.le_trans hN hb0.size) hs)
  obtain ⟨sz1, sz2⟩ := scan_sizes bs
  have SZ1 := Lib.hid sz1
  have hs2 : (Fm.Fr.scan bs).1.length ≤ 137500 := by omega
  have NIL := Lib.hid (snapOf_nil (bs := bs))
  have NOT := Lib.hid (fun p r => snapOf_not (bs := bs) (p := p) (r := r))
  have THREE := Lib.hid (fun p r s0 s1 s2 => snapOf_three (bs := bs) (p := p) (r := r) (s0 := s0) (s1 := s1) (s2 := s2))
  unfold PaysP2 at HSC
  generalize hls : (Fm.Fr.scan bs).1 = ls at *
  generalize (Fm.Fr.scan bs).2 = wh at *
  obtain ⟨nb, hnb⟩ : ∃ nb, nb = bs.length := ⟨_, rfl⟩
  have HNB := Lib.hid hnb
  rw [← hnb] at HSC ⊢
  clear hW0 hb0 hx0 h hba sz1 sz2 hls hnb
  go_enter Tryz.func88, Tryz.ntmps88
  go_wp2_with fail
  rw [HW0.out]
  go_wp2_with fail
  refine HSC.out.mono ?_
  rintro e w1 ⟨b1, A1, c1, rfl, hc1, hc1b, hp⟩
  have B1 := Lib.hid b1
  have HP := Lib.hid hp
  obtain ⟨⟨k0, k1, k2⟩, f0, f1, f2⟩ := KB.out w1 b1
  clear b1 hp
  cases ls with
  | nil =>
    go_wp2_with fail
    refine bodyPost_ret (v := .tuple #[.agg #[.int .i64 0, .int .i64 0, .string ⟨#[]⟩], .bool false]) (by simp [results, go_sem, k0, k1, k2]) rfl ⟨CH.out _ _ _ _ _ B1.out rfl, .inr ⟨NIL.out trivial, _, _, _, rfl⟩⟩
  | cons p r =>
    obtain ⟨b, off, rfl, _, hb2, hrow⟩ := HP.out (by simp)
    obtain ⟨Ap, np, r1, r2, r3, r4⟩ := hrow 0 p rfl
    rw [Nat.add_zero] at r1
    have hlen : (p :: r).length = r.length + 1 := rfl
    rw [hlen] at hc1 hs2 ⊢
    obtain ⟨R, hR⟩ : ∃ R, R = r.length := ⟨_, rfl⟩
    have HR := Lib.hid hR
    rw [← hR] at hc1 hs2 ⊢
    have hr0 : ¬ ((R : Int) + 1 = 0) := by omega
    have hbp : Fm.BytesAt w1 w1.heap.size Ap p := fun hne => by
      obtain ⟨b2, off2, q1, q2, q3, q4⟩ := r4 hne
      exact ⟨b2, off2, q1, q3, q4⟩
    have HSA := Lib.hid (says_any p Ap p.length np w1 hbp rfl r2 r3)
    obtain ⟨m, hm⟩ : ∃ m, m = p.length := ⟨_, rfl⟩
    rw [← hm] at r1 HSA
    clear hrow r4 hbp hm hR hlen
    go_wp2_with fail
    refine HSA.out.mono ?_
    rintro e w2 ⟨A2, c2, rfl, own, b2⟩
    have B2 : Hid (Below W0.heap.size W0 w2) := Lib.hid (B1.out.trans (b2.mono B1.out.size))
    have PW2 := Lib.hid (HP.out.keep (w' := w2) (fun k _ hk => b2.block k hk))
    obtain ⟨⟨k0, k1, k2⟩, f0, f1, f2⟩ := KB.out w2 B2.out
    clear b2
    by_cases hl3 : ((PWal.parts p).map PWal.say).length = 3
    · obtain ⟨s0, s1, s2, hs3⟩ := three_of hl3
      obtain ⟨n0, b0, ha0⟩ : ∃ n b, asI s0 = (n, b) := ⟨_, _, rfl⟩
      obtain ⟨n1, b1, ha1⟩ : ∃ n b, asI s1 = (n, b) := ⟨_, _, rfl⟩
      have HC := Lib.hid (THREE.out p r s0 s1 s2 rfl hs3 ha0 ha1)
      have hta := ta_any s0 ha0
      have hta1 := ta_any s1 ha1
      rw [hs3] at own ⊢
      obtain ⟨g, rfl, hg, _⟩ := own_at own (i := 0) rfl
      obtain ⟨g', e', hg1, _⟩ := own_at own (i := 1) rfl
      obtain rfl : g = g' := by injection e' with e'; injection e'
      have hgl := World.block_lt_of_cell? w2 _ hg
      generalize vS s0 = v0 at *
      generalize vS s1 = v1 at *
      obtain ⟨A', hsl, hA'⟩ := slice_tail b off (R + 1) c1 (by omega) (by omega)
      rw [Nat.add_sub_cancel] at hsl
      have hsl2 : ∀ W : World, (Instr.slice 129 (.slice (some ⟨b, off, none⟩) (R + 1) c1) (some (.int .i64 1)) none none).run Tryz.prog W = .ok (.slice A' R (c1 - 1)) W := hsl
      have HPT := Lib.hid (pays_tail PW2.out (A' := A') (fun hne => hA' (by have := List.length_pos_iff.2 hne; have := HR.out; omega)))
      have HFL : Hid (r.flatten.length ≤ 1000000000) := Lib.hid (by have := flatten_le r (fun x hx => SZ1.out x (List.mem_cons_of_mem _ hx)); have := HR.out; omega)
      have HJ := Lib.hid (joins_any HPT.out (c := c1 - 1) (by have := HR.out; omega) HFL.out (by have := HR.out; omega))
      rw [← HR.out] at HJ
      obtain ⟨fl, hfl⟩ : ∃ fl, fl = r.flatten := ⟨_, rfl⟩
      rw [← hfl] at HJ HFL HC
      clear own hs3 ha0 ha1 hl3 e' hsl hA' hfl hc1 hc1b
      go_wp2_with fail
      refine HJ.out.mono ?_
      rintro e w3 ⟨A3, c3, rfl, hb3, l3, l3b, b3⟩
      have HB3 := Lib.hid hb3
      have B3 : Hid (Below W0.heap.size W0 w3) := Lib.hid (B2.out.trans (b3.mono B2.out.size))
      have hcv := Fm.conv_str hb3 fl.length c3 rfl
      rw [show (⟨fl.toArray⟩ : ByteArray) = str fl from rfl] at hcv
      obtain ⟨q3, hq3⟩ : ∃ q3, q3 = fl.length := ⟨_, rfl⟩
      rw [← hq3] at hcv ⊢
      have HX4 : Hid ((w3.alloc (.cells #[.int .i64 n0, .int .i64 n1, .string (str fl)] 37)).heap[w3.heap.size]? = some (.cells #[.int .i64 n0, .int .i64 n1, .string (str fl)] 37 (0, 0))) := Lib.hid (heap_alloc_new w3 _)
      have B4 : Hid (Below W0.heap.size W0 (w3.alloc (.cells #[.int .i64 n0, .int .i64 n1, .string (str fl)] 37))) := Lib.hid (B3.out.alloc B3.out.size _)
      have B34 : Hid (Below w3.heap.size w3 (w3.alloc (.cells #[.int .i64 n0, .int .i64 n1, .string (str fl)] 37))) := Lib.hid (below_new w3 _)
      have BX : Hid (∀ V, Below (w3.alloc (.cells #[.int .i64 n0, .int .i64 n1, .string (str fl)] 37)).heap.size (w3.alloc (.cells #[.int .i64 n0, .int .i64 n1, .string (str fl)] 37)) V → V.cell? ⟨w3.heap.size, 0, none⟩ = some (.int .i64 n0) ∧ V.cell? ⟨w3.heap.size, 1, none⟩ = some (.int .i64 n1) ∧ V.cell? ⟨w3.heap.size, 2, none⟩ = some (.string (str fl))) := Lib.hid (fun V hb => by
        have hv := (hb.block _ (Array.getElem?_eq_some_iff.1 HX4.out).1).trans HX4.out
        refine ⟨?_, ?_, ?_⟩ <;> (rw [Lib.cell_of_heap hv]; rfl))
      clear k0 k1 k2 f0 f1 f2
      obtain ⟨⟨k0, k1, k2⟩, f0, f1, f2⟩ := KB.out _ B4.out
      clear hb3 b3 hq3
      cases b0 with
      | false =>
        have HN0 : Hid (PWal.snapOf bs = none) := Lib.hid (by rw [HC.out]; simp)
        go_wp2_with fail
        refine bodyPost_ret (v := .tuple #[.agg #[.int .i64 0, .int .i64 0, .string ⟨#[]⟩], .bool false]) (by simp [results, go_sem, k0, k1, k2]) rfl ⟨CH.out _ _ _ _ _ B4.out rfl, .inr ⟨HN0.out, _, _, _, rfl⟩⟩
      | true =>
        cases b1 with
        | false =>
          have HN0 : Hid (PWal.snapOf bs = none) := Lib.hid (by rw [HC.out]; simp)
          go_wp2_with fail
          refine bodyPost_ret (v := .tuple #[.agg #[.int .i64 0, .int .i64 0, .string ⟨#[]⟩], .bool false]) (by simp [results, go_sem, k0, k1, k2]) rfl ⟨CH.out _ _ _ _ _ B4.out rfl, .inr ⟨HN0.out, _, _, _, rfl⟩⟩
        | true =>
          have HMS := Lib.hid (maySnap_any n0 n1 (str fl) (w3.alloc (.cells #[.int .i64 n0, .int .i64 n1, .string (str fl)] 37)))
          cases hm : (PWal.mayBe n0 && PWal.mayBe n1) with
          | false =>
            rw [hm] at HMS
            have HN0 : Hid (PWal.snapOf bs = none) := Lib.hid (by rw [HC.out, hm]; simp)
            clear hm
            go_wp2_with fail
            refine HMS.out.mono ?_
            rintro e w5 ⟨rfl, b5⟩
            have B5 : Hid (Below W0.heap.size W0 w5) := Lib.hid (B4.out.trans (b5.mono B4.out.size))
            clear k0 k1 k2 f0 f1 f2 b5
            obtain ⟨⟨k0, k1, k2⟩, f0, f1, f2⟩ := KB.out _ B5.out
            go_wp2_with fail
            refine bodyPost_ret (v := .tuple #[.agg #[.int .i64 0, .int .i64 0, .string ⟨#[]⟩], .bool false]) (by simp [results, go_sem, k0, k1, k2]) rfl ⟨CH.out _ _ _ _ _ B5.out rfl, .inr ⟨HN0.out, _, _, _, rfl⟩⟩
          | true =>
            rw [hm] at HMS HC
            rw [Bool.and_eq_true] at hm
            obtain ⟨i0, i1⟩ := mayBe_iff hm.1
            obtain ⟨t0, t1⟩ := mayBe_iff hm.2
            have hszf : (str fl).size = fl.length := str_size fl
            clear hm
            by_cases hlong : 65536 < fl.length
            · have HN0 : Hid (PWal.snapOf bs = none) := Lib.hid (by rw [HC.out, if_neg (fun q => by have := q.2.2.2.1; omega)])
              have hl2 : (65536 : Int) < ((str fl).size : Int) := by omega
              go_wp2_with fail
              refine HMS.out.mono ?_
              rintro e w5 ⟨rfl, b5⟩
              have B5 : Hid (Below W0.heap.size W0 w5) := Lib.hid (B4.out.trans (b5.mono B4.out.size))
              obtain ⟨m0, m1, m2⟩ := BX.out _ b5
              clear k0 k1 k2 f0 f1 f2 b5
              obtain ⟨⟨k0, k1, k2⟩, f0, f1, f2⟩ := KB.out _ B5.out
              go_wp2_with fail
              refine bodyPost_ret (v := .tuple #[.agg #[.int .i64 0, .int .i64 0, .string ⟨#[]⟩], .bool false]) (by simp [results, go_sem, k0, k1, k2]) rfl ⟨CH.out _ _ _ _ _ B5.out rfl, .inr ⟨HN0.out, _, _, _, rfl⟩⟩
            · have hl2 : ((str fl).size : Int) ≤ 65536 := by omega
              have HSR := Lib.hid (fun V => snapRecords_any n0 n1 fl ⟨by omega, by omega⟩ ⟨by omega, by omega⟩ (by omega) V)
              have HLR := Lib.hid (snapRec_len n0 n1 (d := fl) (by omega))
              have hfl2 : fl.length ≤ 65536 := by omega
              go_wp2_with fail
              refine HMS.out.mono ?_
              rintro e w5 ⟨rfl, b5⟩
              have B5 : Hid (Below W0.heap.size W0 w5) := Lib.hid (B4.out.trans (b5.mono B4.out.size))
              have B45 := Lib.hid b5
              obtain ⟨m0, m1, m2⟩ := BX.out _ b5
              clear k0 k1 k2 f0 f1 f2 b5
              obtain ⟨⟨k0, k1, k2⟩, f0, f1, f2⟩ := KB.out _ B5.out
              go_wp2_with fail
              refine (HSR.out _).mono ?_
              rintro e w6 ⟨g6, rfl, hg6, row6, b6⟩
              have B6 : Hid (Below W0.heap.size W0 w6) := Lib.hid (B5.out.trans (b6.mono B5.out.size))
              obtain ⟨m0, m1, m2⟩ := BX.out w6 (B45.out.trans (b6.mono B45.out.size))
              clear k0 k1 k2 f0 f1 f2
              obtain ⟨⟨k0, k1, k2⟩, f0, f1, f2⟩ := KB.out _ B6.out
              have HEQ := Lib.hid (Tryz.bytes_Equal_strs (.slice A nb c) (.slice (some ⟨g6, 0, none⟩) (PWal.snapRec n0 n1 fl).length (PWal.snapRec n0 n1 fl).length) (str bs) (str (PWal.snapRec n0 n1 fl)) w6
                (Fm.conv_str (bytes_on HBA.out (B0.out.trans (B6.out.mono B0.out.size))) nb c HNB.out.symm)
                (Fm.conv_str (B := w6.heap.size) (by have := row6.bytes row6.lt 0; rwa [List.drop_zero] at this) _ _ rfl))
              rw [cell_eq] at HEQ
              generalize PWal.snapRec n0 n1 fl = sr at *
              obtain ⟨q6, hq6⟩ : ∃ q6, q6 = sr.length := ⟨_, rfl⟩
              rw [← hq6] at HEQ ⊢
              clear row6 b6 hg6 hq6
              by_cases hE : bs = sr
              · have HS0 : Hid (PWal.snapOf bs = some (n0, n1, fl)) := Lib.hid (by rw [HC.out, if_pos ⟨trivial, trivial, trivial, hfl2, hE⟩])
                rw [decide_eq_true hE] at HEQ
                clear hE
                go_wp2_with fail
                refine HEQ.out.mono ?_
                rintro e w7 ⟨rfl, rfl⟩
                go_wp2_with fail
                refine bodyPost_ret (v := .tuple #[.agg #[.int .i64 n0, .int .i64 n1, .string (str fl)], .bool true]) (by simp [results, go_sem, k0, k1, k2]) rfl ⟨CH.out _ _ _ _ _ B6.out rfl, .inl ⟨_, _, _, HS0.out, rfl⟩⟩
              · have HN0 : Hid (PWal.snapOf bs = none) := Lib.hid (by rw [HC.out, if_neg (fun q => hE q.2.2.2.2)])
                rw [decide_eq_false hE] at HEQ
                clear hE
                go_wp2_with fail
                refine HEQ.out.mono ?_
                rintro e w7 ⟨rfl, rfl⟩
                go_wp2_with fail
                refine bodyPost_ret (v := .tuple #[.agg #[.int .i64 0, .int .i64 0, .string ⟨#[]⟩], .bool false]) (by simp [results, go_sem, k0, k1, k2]) rfl ⟨CH.out _ _ _ _ _ B6.out rfl, .inr ⟨HN0.out, _, _, _, rfl⟩⟩
    · have E3 := Lib.hid (NOT.out p r rfl hl3)
      have hl3' : ¬ (((PWal.parts p).map PWal.say).length : Int) = 3 := by omega
      generalize ((PWal.parts p).map PWal.say).length = L at *
      clear own
      go_wp2_with fail
      refine bodyPost_ret (v := .tuple #[.agg #[.int .i64 0, .int .i64 0, .string ⟨#[]⟩], .bool false]) (by simp [results, go_sem, k0, k1, k2]) rfl ⟨CH.out _ _ _ _ _ B2.out rfl, .inr ⟨E3.out, _, _, _, rfl⟩⟩
end Go.Proofs.YtjcikhacekmcfaaGreatDoor
namespace Go.Proofs.YtjcikhacekmcfaaGreatDoor
open Go.RowKit
open PlainDisk (File Disk)
open PWal (St Ent Chg)
set_option linter.unusedVariables false
set_option maxRecDepth 100000

/-! ### readSnap -/
theorem snapOf_in {bs d : List UInt8} {i t : Int} (h : PWal.snapOf bs = some (i, t, d)) : (1 ≤ i ∧ i ≤ 4611686018427387904) ∧ (1 ≤ t ∧ t ≤ 4611686018427387904) ∧ d.length ≤ 65536 := by
  unfold PWal.snapOf at h
  split at h
  · cases h
  · split at h
    · split at h
      · rename_i q
        injection h with h
        injection h with h1 h
        injection h with h2 h3
        subst h1 h2 h3
        exact ⟨mayBe_iff q.1, mayBe_iff q.2.1, q.2.2.1⟩
      · cases h
    · cases h
theorem readSnap_some {D : Disk} {s : St} {i t : Int} {d : List UInt8} (h : PWal.snapOf (PWal.rdB D PWal.snapN) = some (i, t, d)) : PWal.readSnap D s = (D, { s with sidx := i, sterm := t, sdata := d }, 0) := by unfold PWal.readSnap; rw [h]
theorem readSnap_none {D : Disk} {s : St} (h : PWal.snapOf (PWal.rdB D PWal.snapN) = none) : PWal.readSnap D s = ((PWal.dropF D PWal.snapN).1, s, (PWal.dropF D PWal.snapN).2) := by unfold PWal.readSnap; rw [h]
set_option maxHeartbeats 2000000 in
theorem readSnap_any {w : World} {bw b : Nat} {D : Disk} {s : St} {T : Nat → Prop} (h : Wal w bw b D s T) : Calls Tryz.prog 38 #[.pointer (some ⟨bw, 0, none⟩)] w (CallP (PWal.readSnap D s) bw b T w) := by
  have hmf : ∀ (fn : Fn) (first cap : Array Value) (w : World), (Instr.makeFunc fn first cap).run Tryz.prog w = .ok (.func fn first cap) w := fun _ _ _ _ => rfl
  have hst := store_fn
  have HNO := Lib.hid (nameIs_old PWal.snapN (by decide))
  rw [show str PWal.snapN = ⟨#[115, 110, 97, 112]⟩ from rfl] at HNO
  obtain ⟨⟨lv, S, hwl⟩, hT⟩ := h
  have HWL := Lib.hid hwl
  have HT := Lib.hid hT
  have hptr := hwl.ws.ptr
  have HFI := Lib.hid (file_agg (w := w) (b := b) (bw := bw) HNO.out hptr)
  have HRS := Lib.hid (fun i t d => readSnap_some (D := D) (s := s) (i := i) (t := t) (d := d))
  have HRN := Lib.hid (readSnap_none (D := D) (s := s))
  have HRL := Lib.hid (rdB_le hwl.dk.fine PWal.snapN)
  clear hwl hT hptr
  go_enter Tryz.func38, Tryz.ntmps38
  go_wp2_with fail
  refine HFI.out.mono ?_
  rintro e w1 ⟨rfl, b1⟩
  have hBN := Box2.new w1 (.pointer (some ⟨b, 0, none⟩)) (.func (Fn.func 84) #[.string ⟨#[115, 110, 97, 112]⟩] #[]) 121
  have HBX := Lib.hid hBN
  have HB2 := Lib.hid (b1.alloc b1.size (.cells #[.pointer (some ⟨b, 0, none⟩), .func (Fn.func 84) #[.string ⟨#[115, 110, 97, 112]⟩] #[]] 121))
  have HK1 : Hid (w.heap.size ≤ w1.heap.size ∧ w1.heap.size < (w1.alloc (.cells #[.pointer (some ⟨b, 0, none⟩), .func (Fn.func 84) #[.string ⟨#[115, 110, 97, 112]⟩] #[]] 121)).heap.size) := Lib.hid ⟨b1.size, by rw [World.size_alloc]; omega⟩
  obtain ⟨k, hk⟩ : ∃ k, k = w1.heap.size := ⟨_, rfl⟩
  rw [← hk] at HBX HK1
  have HK := Lib.hid hk
  clear b1 hBN
  go_wp2_with fail
  rw [← HK.out]
  clear hk
  generalize w1.alloc (.cells #[.pointer (some ⟨b, 0, none⟩), .func (Fn.func 84) #[.string ⟨#[115, 110, 97, 112]⟩] #[]] 121) = W at *
  have HRD := Lib.hid (read_any2 ((HWL.out.below HB2.out).dk) HNO.out)
  obtain ⟨x0, x1⟩ := id HBX.out
  refine HRD.out.mono ?_
  rintro e w3 ⟨A3, c3, rfl, own3, b3⟩
  have HSO := Lib.hid (snapOf_any rfl own3 b3.size (by have := HRL.out; omega))
  have HB3 := Lib.hid (HB2.out.trans (b3.mono HB2.out.size))
  have HBX3 := Lib.hid (HBX.out.below b3)
  obtain ⟨M, hM⟩ : ∃ M, M = (PWal.rdB D PWal.snapN).length := ⟨_, rfl⟩
  rw [← hM] at HSO ⊢
  clear own3 b3 x0 x1 hM
  go_wp2_with fail
  refine HSO.out.mono ?_
  rintro e w4 ⟨b4, hcase⟩
  have HB4 := Lib.hid (HB3.out.trans (b4.mono HB3.out.size))
  have HBX4 := Lib.hid (HBX3.out.below b4)
  clear b4
  rcases hcase with ⟨i, t, d, hso, rfl⟩ | ⟨hso, i, t, sd, rfl⟩
  · have HR := Lib.hid (HRS.out i t d hso)
    obtain ⟨⟨i0, i1⟩, ⟨t0, t1⟩, hd⟩ := snapOf_in hso
    have HB5 : Hid (Below w.heap.size w (w4.alloc (.cells #[.int .i64 i, .int .i64 t, .string (str d)] 37))) := Lib.hid (HB4.out.alloc HB4.out.size _)
    have WL5 := Lib.hid (HWL.out.below HB5.out)
    have hc5 := WL5.out.sat.cells
    obtain ⟨c0, c1, c2, c3', c4, c5, c6⟩ := WL5.out.sat.at
    have f3 := Lib.frozen_of_heap hc5 3
    have f4 := Lib.frozen_of_heap hc5 4
    have f5 := Lib.frozen_of_heap hc5 5
    have FIN : Hid (WalTo w ((((w4.alloc (.cells #[.int .i64 i, .int .i64 t, .string (str d)] 37)).setCell ⟨bw, 3, none⟩ (.int .i64 i)).setCell ⟨bw, 4, none⟩ (.int .i64 t)).setCell ⟨bw, 5, none⟩ (.string (str d))) bw b D { s with sidx := i, sterm := t, sdata := d } T) := Lib.hid (by
      refine WL5.out.to (T0 := T) (w0 := w) (fun q hq => ⟨(HT.out q hq).1, Nat.lt_of_lt_of_le (HT.out q hq).2 HB5.out.size⟩) (fun q hq => .inl hq) (Fr.of_below HB5.out) ((((Fr.refl (fun k => k = bw) _).setCell (p := ⟨bw, 3, none⟩) (.inl rfl) _).setCell (p := ⟨bw, 4, none⟩) (.inl rfl) _).setCell (p := ⟨bw, 5, none⟩) (.inl rfl) _) ?_ rfl ⟨by show 0 ≤ i; omega, by show i ≤ _; omega, WL5.out.sat.fine.len, WL5.out.sat.fine.t, WL5.out.sat.fine.v, ⟨by show (-9223372036854775808 : Int) ≤ t; omega, by show t ≤ 9223372036854775807; omega⟩, hd, WL5.out.sat.fine.e⟩
      exact Fm.heap_set _ bw 5 (.string (str d)) _ _ (Fm.heap_set _ bw 4 (.int .i64 t) _ _ (Fm.heap_set _ bw 3 (.int .i64 i) _ _ hc5)))
    clear hso hc5
    go_wp2_with fail
    go_ret
    exact ⟨by rw [HR.out]; rfl, by rw [HR.out]; exact FIN.out⟩
  · have HR := Lib.hid (HRN.out hso)
    have HB5 : Hid (Below w.heap.size w (w4.alloc (.cells #[.int .i64 i, .int .i64 t, .string sd] 37))) := Lib.hid (HB4.out.alloc HB4.out.size _)
    have WL5 := Lib.hid (HWL.out.below HB5.out)
    obtain ⟨x0, x1⟩ := HBX4.out.below ((Below.refl w4.heap.size w4).alloc (Nat.le_refl _) (.cells #[.int .i64 i, .int .i64 t, .string sd] 37))
    have HDR := Lib.hid (drop_file (WL5.out.dk) HNO.out)
    clear hso
    go_wp2_with fail
    refine HDR.out.mono ?_
    rintro e w6 ⟨rfl, t6⟩
    obtain ⟨S6, T6, wl6, hT6, up6, upT6, fr6⟩ := WL5.out.disk (fun q hq => ⟨(HT.out q hq).1, Nat.lt_of_lt_of_le (HT.out q hq).2 HB5.out.size⟩) t6
    have FIN : Hid (WalTo w w6 bw b (PWal.dropF D PWal.snapN).1 s T) := Lib.hid (WalTo.before HB5.out ⟨T6, ⟨⟨_, _, wl6⟩, hT6⟩, upT6, fr6⟩)
    clear t6 wl6 hT6 up6 upT6 fr6
    go_wp2_with fail
    go_ret
    exact ⟨by rw [HR.out]; rfl, by rw [HR.out]; exact FIN.out⟩
end Go.Proofs.YtjcikhacekmcfaaGreatDoor
namespace Go.Proofs.YtjcikhacekmcfaaGreatDoor
open Go.RowKit
open PlainDisk (File Disk)
open PWal (St Ent Chg)
set_option linter.unusedVariables false
set_option maxRecDepth 100000

/-! ### Open -/
def run3 (D : Disk) (s : St) : Disk × Option St × Int := if (PWal.readSegs (PWal.segs D) D s).2.2 ≠ 0 then ((PWal.readSegs (PWal.segs D) D s).1, none, (PWal.readSegs (PWal.segs D) D s).2.2) else ((PWal.readSegs (PWal.segs D) D s).1, some (PWal.readSegs (PWal.segs D) D s).2.1, 0)
def run2 (D : Disk) (s : St) : Disk × Option St × Int := if (PWal.readSnap D s).2.2 ≠ 0 then ((PWal.readSnap D s).1, none, (PWal.readSnap D s).2.2) else run3 (PWal.readSnap D s).1 (PWal.readSnap D s).2.1
def run1 (D : Disk) (s : St) : Disk × Option St × Int := if (PWal.readVote D s).2.2 ≠ 0 then ((PWal.readVote D s).1, none, (PWal.readVote D s).2.2) else run2 (PWal.readVote D s).1 (PWal.readVote D s).2.1
def run0 (D : Disk) (s : St) : Disk × Option St × Int := if (PWal.dropNew D).2 ≠ 0 then ((PWal.dropNew D).1, none, (PWal.dropNew D).2) else run1 (PWal.dropNew D).1 s
theorem openD_gone {D : Disk} (h : D.gone = true) : PWal.openD D = (D, none, 41) := by unfold PWal.openD; rw [if_pos h]
theorem openD_run {D : Disk} (h : D.gone = false) : PWal.openD D = run0 D St.new := by unfold PWal.openD; rw [if_neg (by rw [h]; decide)]; rfl
theorem votes_log (l : List (List UInt8)) : ∀ s : St, (PWal.votes l s).log = s.log := by
  unfold PWal.votes
  induction l with
  | nil => intro s; rfl
  | cons p r ih =>
    intro s
    rw [List.foldl_cons, ih]
    split <;> rfl
theorem readVote_log (D : Disk) (s : St) : (PWal.readVote D s).2.1.log = s.log := votes_log _ _
theorem readSnap_log (D : Disk) (s : St) : (PWal.readSnap D s).2.1.log = s.log := by
  unfold PWal.readSnap
  split <;> rfl
def OpenP (r : Disk × Option St × Int) (b : Nat) (S : Nat → Prop) (w : World) (e : Ending) (w' : World) : Prop :=
  match r.2.1 with
  | none => e = .returned (.tuple #[.pointer none, .int .i64 r.2.2]) ∧ DkTo w w' b r.1 S
  | some s => ∃ bw T', e = .returned (.tuple #[.pointer (some ⟨bw, 0, none⟩), .int .i64 r.2.2]) ∧ w.heap.size ≤ bw ∧ Wal w' bw b r.1 s T' ∧ (∀ k, T' k → Up S w w' k) ∧ Fr S w w'
theorem new_fine : FineS St.new := ⟨by decide, by decide, by decide, ⟨by decide, by decide⟩, ⟨by decide, by decide⟩, ⟨by decide, by decide⟩, by decide, fun x hx => by cases hx⟩
theorem bld53n (w : World) : (Instr.build 53 #[(1, .int .i64 (-1))]).run Tryz.prog w = .ok (.agg #[.int .i64 0, .int .i64 (-1), .int .i64 0, .int .i64 0, .string ⟨#[]⟩, .slice none 0 0]) w := run_build w 53 _ _ (by kernel_rfl)
theorem bld91n (p : Option Addr) (w : World) : (Instr.build 91 #[(0, .pointer p), (1, .agg #[.int .i64 0, .int .i64 (-1), .int .i64 0, .int .i64 0, .string ⟨#[]⟩, .slice none 0 0])]).run Tryz.prog w = .ok (.agg #[.pointer p, .int .i64 0, .int .i64 (-1), .int .i64 0, .int .i64 0, .string ⟨#[]⟩, .slice none 0 0]) w := run_build w 91 _ _ (by kernel_rfl)
theorem wal_new {w W : World} {b : Nat} {D : Disk} {S : Nat → Prop} (h : Dk w b D S) (hW : w.alloc (.cells (stC b St.new (.slice none 0 0)) 91) = W) : Wal W w.heap.size b D St.new (fun k => S k ∨ k = w.heap.size) := by
  have hb : Below w.heap.size w W := hW ▸ below_new w _
  have hx : W.heap[w.heap.size]? = some (.cells (stC b St.new (.slice none 0 0)) 91 (0, 0)) := by rw [← hW]; exact heap_alloc_new w _
  have h3 := h.glob.size
  have hz := (Array.getElem?_eq_some_iff.1 hx).1
  refine ⟨⟨.slice none 0 0, S, ⟨h.below hb, ⟨hx, World.ownsRow_nil _ _ _ _, new_fine⟩, fun q => ?_, fun k hk => (by cases hk), ⟨by omega, fun k hk => (by cases hk)⟩, fun k hk => ?_⟩⟩, fun k hk => ?_⟩
  · have := (h.blk _ q).2; omega
  · rcases hk with q | q | q
    · exact .inl q
    · exact .inr q
    · cases q
  · rcases hk with q | q
    · exact ⟨(h.blk k q).1, Nat.lt_of_lt_of_le (h.blk k q).2 hb.size⟩
    · subst q; exact ⟨by omega, hz⟩
/-- seen from before the wal was made -/
theorem walTo_old {w W w' : World} {b : Nat} {D' : Disk} {s' : St} {S : Nat → Prop} (hb : Below w.heap.size w W) (h : WalTo W w' w.heap.size b D' s' (fun k => S k ∨ k = w.heap.size)) : ∃ T', Wal w' w.heap.size b D' s' T' ∧ (∀ k, T' k → Up S w w' k) ∧ Fr S w w' := by
  obtain ⟨T', q1, q2, q3⟩ := h
  have hz := hb.size
  have hz3 := q3.size
  refine ⟨T', q1, fun k hk => ?_, ?_⟩
  · have hlt := (q1.2 k hk).2
    rcases q2 k hk with (r | r) | r
    · exact .inl r
    · exact .inr ⟨by omega, hlt⟩
    · exact .inr ⟨by have := r.1; omega, hlt⟩
  · refine (Fr.of_below (S := S) hb).trans q3 fun k hk => ?_
    rcases hk with r | r
    · exact .inl r
    · exact .inr (by omega)
theorem walTo_disk {w w' : World} {bw b : Nat} {D' : Disk} {s' : St} {S T' : Nat → Prop} (h1 : Wal w' bw b D' s' T') (h2 : ∀ k, T' k → Up S w w' k) (h3 : Fr S w w') : DkTo w w' b D' S := by
  obtain ⟨⟨lv, S', q⟩, _⟩ := h1
  exact ⟨S', q.dk, fun k hk => h2 k (q.cov k (.inl hk)), h3⟩
end Go.Proofs.YtjcikhacekmcfaaGreatDoor
namespace Go.Proofs.YtjcikhacekmcfaaGreatDoor
open Go.RowKit
open PlainDisk (File Disk)
open PWal (St Ent Chg)
set_option linter.unusedVariables false
set_option maxRecDepth 100000

/-! ### Open: the walk -/
theorem dropNew_wal {w : World} {bw b : Nat} {D : Disk} {s : St} {T : Nat → Prop} (h : Wal w bw b D s T) : Calls Tryz.prog 36 #[.pointer (some ⟨bw, 0, none⟩)] w (CallP ((PWal.dropNew D).1, s, (PWal.dropNew D).2) bw b T w) := by
  obtain ⟨⟨lv, S, hwl⟩, hT⟩ := h
  refine (dropNew_any hwl.ws).mono ?_
  rintro e w' ⟨rfl, t⟩
  obtain ⟨S', T', q1, q2, _, q4, q5⟩ := hwl.disk hT t
  exact ⟨rfl, T', ⟨⟨_, _, q1⟩, q2⟩, q4, q5⟩
def OpRel (R : Disk × Option St × Int) (bw b : Nat) (T : Nat → Prop) (W : World) (iV : Value) (wr : World) : Prop :=
  ∃ (j : Nat) (D1 : Disk) (s1 : St), iV = .int .i64 j ∧ WalTo W wr bw b D1 s1 T ∧
    ((j = 0 ∧ s1.log = [] ∧ run0 D1 s1 = R) ∨ (j = 1 ∧ s1.log = [] ∧ run1 D1 s1 = R) ∨ (j = 2 ∧ s1.log = [] ∧ run2 D1 s1 = R) ∨ (j = 3 ∧ s1.log = [] ∧ run3 D1 s1 = R) ∨ (j = 4 ∧ (D1, some s1, (0 : Int)) = R))
set_option maxHeartbeats 4000000 in
theorem open_any {w : World} {b : Nat} {D : Disk} {S : Nat → Prop} (h : Dk w b D S) : Calls Tryz.prog 12 #[.pointer (some ⟨b, 0, none⟩)] w (OpenP (PWal.openD D) b S w) := by
  have hmf : ∀ (fn : Fn) (first cap : Array Value) (w : World), (Instr.makeFunc fn first cap).run Tryz.prog w = .ok (.func fn first cap) w := fun _ _ _ _ => rfl
  have H := Lib.hid h
  have hdis := h.is
  obtain ⟨mv, ar, lf, ps, hbx, _⟩ := id hdis
  have HDN := Lib.hid (down_any hbx)
  by_cases hg : D.gone = true
  · rw [hg] at HDN
    rw [openD_gone hg]
    clear hdis hbx
    go_enter Tryz.func12, Tryz.ntmps12
    go_wp2_with fail
    refine HDN.out.mono ?_
    rintro e w1 ⟨rfl, rfl⟩
    go_wp2_with fail
    go_ret2
    exact ⟨rfl, S, H.out, fun k hk => .inl hk, Fr.refl _ _⟩
  · have hg2 : D.gone = false := by cases q : D.gone with
      | true => exact absurd q hg
      | false => rfl
    rw [hg2] at HDN
    rw [openD_run hg2]
    have hz53 := bld53n
    have hz91 := bld91n
    obtain ⟨W1, hW1⟩ : ∃ W, w.alloc (.cells #[.pointer (some ⟨b, 0, none⟩), .int .i64 0, .int .i64 (-1), .int .i64 0, .int .i64 0, .string ⟨#[]⟩, .slice none 0 0] 91) = W := ⟨_, rfl⟩
    have HW1 := Lib.hid hW1
    have WN := Lib.hid (wal_new (W := W1) h hW1)
    have BW1 : Hid (Below w.heap.size w W1) := Lib.hid (hW1 ▸ below_new w _)
    have HZW : Hid (w.heap.size < W1.heap.size) := Lib.hid (by rw [← hW1]; simp)
    obtain ⟨W2, hW2⟩ : ∃ W, W1.alloc (.cells #[.func (.func 36) #[.pointer (some ⟨w.heap.size, 0, none⟩)] #[], .func (.func 37) #[.pointer (some ⟨w.heap.size, 0, none⟩)] #[], .func (.func 38) #[.pointer (some ⟨w.heap.size, 0, none⟩)] #[], .func (.func 39) #[.pointer (some ⟨w.heap.size, 0, none⟩)] #[]] 68) = W := ⟨_, rfl⟩
    have HW2 := Lib.hid hW2
    have BW12 : Hid (Below W1.heap.size W1 W2) := Lib.hid (hW2 ▸ below_new W1 _)
    have BW2 : Hid (Below w.heap.size w W2) := Lib.hid (BW1.out.trans (BW12.out.mono BW1.out.size))
    have hx2 : W2.heap[W1.heap.size]? = some (.cells #[.func (.func 36) #[.pointer (some ⟨w.heap.size, 0, none⟩)] #[], .func (.func 37) #[.pointer (some ⟨w.heap.size, 0, none⟩)] #[], .func (.func 38) #[.pointer (some ⟨w.heap.size, 0, none⟩)] #[], .func (.func 39) #[.pointer (some ⟨w.heap.size, 0, none⟩)] #[]] 68 (0, 0)) := by rw [← hW2]; exact heap_alloc_new W1 _
    have HX2 := Lib.hid hx2
    have HZE : Hid (W1.heap.size = w.heap.size + 1) := Lib.hid (by rw [← HW1.out]; simp)
    have QC : Hid (∀ V : World, V.heap[W1.heap.size]? = W2.heap[W1.heap.size]? → V.cell? ⟨w.heap.size + 1, 0, none⟩ = some (.func (.func 36) #[.pointer (some ⟨w.heap.size, 0, none⟩)] #[]) ∧ V.cell? ⟨w.heap.size + 1, 1, none⟩ = some (.func (.func 37) #[.pointer (some ⟨w.heap.size, 0, none⟩)] #[]) ∧ V.cell? ⟨w.heap.size + 1, 2, none⟩ = some (.func (.func 38) #[.pointer (some ⟨w.heap.size, 0, none⟩)] #[]) ∧ V.cell? ⟨w.heap.size + 1, 3, none⟩ = some (.func (.func 39) #[.pointer (some ⟨w.heap.size, 0, none⟩)] #[])) := Lib.hid (fun V hb => by
      have hv := hb.trans HX2.out
      rw [HZE.out] at hv
      refine ⟨?_, ?_, ?_, ?_⟩ <;> (rw [Lib.cell_of_heap hv]; rfl))
    have HQ : Hid (W1.heap.size < W2.heap.size ∧ ¬ (S W1.heap.size ∨ W1.heap.size = w.heap.size)) := Lib.hid ⟨(Array.getElem?_eq_some_iff.1 hx2).1, fun q => by
      have := HZW.out
      rcases q with q | q
      · have := (H.out.blk _ q).2; omega
      · omega⟩
    have WT0 : Hid (WalTo W2 W2 w.heap.size b D St.new (fun k => S k ∨ k = w.heap.size)) := Lib.hid ((WN.out.below BW12.out).stays (Below.refl _ _))
    obtain ⟨R, hR0⟩ : ∃ R, run0 D St.new = R := ⟨_, rfl⟩
    have HR0 := Lib.hid hR0
    rw [hR0]
    clear hdis hbx hg hg2 hW1 hW2 hx2 h hR0
    go_enter Tryz.func12, Tryz.ntmps12
    go_wp2_with fail
    refine HDN.out.mono ?_
    rintro e w1 ⟨rfl, rfl⟩
    go_wp2_with fail
    rw [HW1.out]
    go_wp2_with fail
    rw [HW2.out]
    go_loopw [24] (OpRel R w.heap.size b (fun k => S k ∨ k = w.heap.size) W2) (fun iV _ => 4 - (numOf iV).toNat)
    case atStart => exact ⟨0, D, St.new, rfl, WT0.out, .inl ⟨rfl, rfl, HR0.out⟩⟩
    case round =>
    obtain ⟨j, D1, s1, rfl, hto, hc⟩ := hrel
    rcases hc with ⟨rfl, hlog, hR⟩ | ⟨rfl, hlog, hR⟩ | ⟨rfl, hlog, hR⟩ | ⟨rfl, hlog, hR⟩ | ⟨rfl, hR⟩
    · -- round 0
      obtain ⟨T1, hwal, hu1, hf1⟩ := hto
      have U1 := Lib.hid hu1
      have F1 := Lib.hid hf1
      have HC := Lib.hid (dropNew_wal hwal)
      have HR : Hid (run1 (PWal.dropNew D1).1 s1 = R ∨ (PWal.dropNew D1).2 ≠ 0) := Lib.hid (by
        by_cases q : (PWal.dropNew D1).2 = 0
        · left; rw [← hR]; unfold run0; rw [if_neg (fun k => k q)]
        · exact .inr q)
      have HE : Hid ((PWal.dropNew D1).2 ≠ 0 → R = ((PWal.dropNew D1).1, none, (PWal.dropNew D1).2)) := Lib.hid (fun q => by rw [← hR]; unfold run0; rw [if_pos q])
      have HL : Hid (s1.log = []) := Lib.hid hlog
      generalize PWal.dropNew D1 = r at *
      obtain ⟨D2, e2⟩ := r
      have s2 := s1
      have y0 := QC.out wr (hf1.block _ HQ.out.1 HQ.out.2)
      obtain ⟨y0, y1, y2, y3⟩ := y0
      clear hwal hu1 hf1 hR
      go_wp2_with fail
      refine HC.out.mono ?_
      rintro e w5 ⟨rfl, t5⟩
      have T5 := Lib.hid (WalTo.go U1.out F1.out t5)
      clear t5
      by_cases he : e2 = 0
      · subst he
        go_wp2_with fail
        go_roundw
        case rel => exact ⟨1, D2, s1, rfl, T5.out, .inr (.inl ⟨rfl, HL.out, HR.out.resolve_right (fun k => k rfl)⟩)⟩
        case measure => simp [numOf]
      · go_wp2_with fail
        go_ret2
        rw [HE.out he]
        obtain ⟨T6, k1, k2, k3⟩ := walTo_old BW2.out T5.out
        exact ⟨rfl, walTo_disk k1 k2 k3⟩
    · -- round 1
      obtain ⟨T1, hwal, hu1, hf1⟩ := hto
      have U1 := Lib.hid hu1
      have F1 := Lib.hid hf1
      have HC := Lib.hid (readVote_any hwal)
      have HR : Hid ((PWal.readVote D1 s1).2.2 = 0 → run2 (PWal.readVote D1 s1).1 (PWal.readVote D1 s1).2.1 = R) := Lib.hid (fun q => by rw [← hR]; unfold run1; rw [if_neg (fun k => k q)])
      have HE : Hid ((PWal.readVote D1 s1).2.2 ≠ 0 → R = ((PWal.readVote D1 s1).1, none, (PWal.readVote D1 s1).2.2)) := Lib.hid (fun q => by rw [← hR]; unfold run1; rw [if_pos q])
      have HL : Hid ((PWal.readVote D1 s1).2.1.log = []) := Lib.hid ((readVote_log _ _).trans hlog)
      generalize PWal.readVote D1 s1 = r at *
      obtain ⟨D2, s2, e2⟩ := r
      have y0 := QC.out wr (hf1.block _ HQ.out.1 HQ.out.2)
      obtain ⟨y0, y1, y2, y3⟩ := y0
      clear hwal hu1 hf1 hR
      go_wp2_with fail
      refine HC.out.mono ?_
      rintro e w5 ⟨rfl, t5⟩
      have T5 := Lib.hid (WalTo.go U1.out F1.out t5)
      clear t5
      by_cases he : e2 = 0
      · subst he
        go_wp2_with fail
        go_roundw
        case rel => exact ⟨2, D2, s2, rfl, T5.out, .inr (.inr (.inl ⟨rfl, HL.out, HR.out trivial⟩))⟩
        case measure => simp [numOf]
      · go_wp2_with fail
        go_ret2
        rw [HE.out he]
        obtain ⟨T6, k1, k2, k3⟩ := walTo_old BW2.out T5.out
        exact ⟨rfl, walTo_disk k1 k2 k3⟩
    · -- round 2
      obtain ⟨T1, hwal, hu1, hf1⟩ := hto
      have U1 := Lib.hid hu1
      have F1 := Lib.hid hf1
      have HC := Lib.hid (readSnap_any hwal)
      have HR : Hid ((PWal.readSnap D1 s1).2.2 = 0 → run3 (PWal.readSnap D1 s1).1 (PWal.readSnap D1 s1).2.1 = R) := Lib.hid (fun q => by rw [← hR]; unfold run2; rw [if_neg (fun k => k q)])
      have HE : Hid ((PWal.readSnap D1 s1).2.2 ≠ 0 → R = ((PWal.readSnap D1 s1).1, none, (PWal.readSnap D1 s1).2.2)) := Lib.hid (fun q => by rw [← hR]; unfold run2; rw [if_pos q])
      have HL : Hid ((PWal.readSnap D1 s1).2.1.log = []) := Lib.hid ((readSnap_log _ _).trans hlog)
      generalize PWal.readSnap D1 s1 = r at *
      obtain ⟨D2, s2, e2⟩ := r
      have y0 := QC.out wr (hf1.block _ HQ.out.1 HQ.out.2)
      obtain ⟨y0, y1, y2, y3⟩ := y0
      clear hwal hu1 hf1 hR
      go_wp2_with fail
      refine HC.out.mono ?_
      rintro e w5 ⟨rfl, t5⟩
      have T5 := Lib.hid (WalTo.go U1.out F1.out t5)
      clear t5
      by_cases he : e2 = 0
      · subst he
        go_wp2_with fail
        go_roundw
        case rel => exact ⟨3, D2, s2, rfl, T5.out, .inr (.inr (.inr (.inl ⟨rfl, HL.out, HR.out trivial⟩)))⟩
        case measure => simp [numOf]
      · go_wp2_with fail
        go_ret2
        rw [HE.out he]
        obtain ⟨T6, k1, k2, k3⟩ := walTo_old BW2.out T5.out
        exact ⟨rfl, walTo_disk k1 k2 k3⟩
    · -- round 3
      obtain ⟨T1, hwal, hu1, hf1⟩ := hto
      have U1 := Lib.hid hu1
      have F1 := Lib.hid hf1
      have HC := Lib.hid (readLog_any hwal (by rw [hlog]; simp))
      have HR : Hid ((PWal.readSegs (PWal.segs D1) D1 s1).2.2 = 0 → ((PWal.readSegs (PWal.segs D1) D1 s1).1, some (PWal.readSegs (PWal.segs D1) D1 s1).2.1, (0 : Int)) = R) := Lib.hid (fun q => by rw [← hR]; unfold run3; rw [if_neg (fun k => k q)])
      have HE : Hid ((PWal.readSegs (PWal.segs D1) D1 s1).2.2 ≠ 0 → R = ((PWal.readSegs (PWal.segs D1) D1 s1).1, none, (PWal.readSegs (PWal.segs D1) D1 s1).2.2)) := Lib.hid (fun q => by rw [← hR]; unfold run3; rw [if_pos q])
      generalize PWal.readSegs (PWal.segs D1) D1 s1 = r at *
      obtain ⟨D2, s2, e2⟩ := r
      have y0 := QC.out wr (hf1.block _ HQ.out.1 HQ.out.2)
      obtain ⟨y0, y1, y2, y3⟩ := y0
      clear hwal hu1 hf1 hR
      go_wp2_with fail
      refine HC.out.mono ?_
      rintro e w5 ⟨rfl, t5⟩
      have T5 := Lib.hid (WalTo.go U1.out F1.out t5)
      clear t5
      by_cases he : e2 = 0
      · subst he
        go_wp2_with fail
        go_roundw
        case rel => exact ⟨4, D2, s2, rfl, T5.out, .inr (.inr (.inr (.inr ⟨rfl, HR.out trivial⟩)))⟩
        case measure => simp [numOf]
      · go_wp2_with fail
        go_ret2
        rw [HE.out he]
        obtain ⟨T6, k1, k2, k3⟩ := walTo_old BW2.out T5.out
        exact ⟨rfl, walTo_disk k1 k2 k3⟩
    · have TO := Lib.hid hto
      subst hR
      clear hto
      go_wp2_with fail
      go_ret2
      obtain ⟨T6, k1, k2, k3⟩ := walTo_old BW2.out TO.out
      exact ⟨_, T6, rfl, Nat.le_refl _, k1, k2, k3⟩
end Go.Proofs.YtjcikhacekmcfaaGreatDoor
