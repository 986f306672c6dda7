import Derived.Test.YtjcikhacekmcfaaGreatDoorOf
import Derived.Deep.RegionLaw
namespace Go.Proofs.YtjcikhacekmcfaaGreatDoor
open Go.RowKit
open PlainDisk (File Disk)
open PWal (St Ent Chg)
set_option linter.unusedVariables false
set_option maxRecDepth 100000

set_option maxHeartbeats 2000000 in
theorem above_any {w : World} {bw b : Nat} {s : St} {lv : Value} (h : SAt w bw b s lv) (i : Int) (hi0 : s.sidx < i) (hi1 : i ≤ 4611686018427387904) : Calls Tryz.prog 76 #[.pointer (some ⟨bw, 1, none⟩), .int .i64 i] w fun e w' => ∃ A c, e = .returned (.slice A (PWal.above s i).length c) ∧ OwnE w' w.heap.size (.slice A (PWal.above s i).length c) (PWal.above s i) ∧ Below w.heap.size w w' := by
  obtain ⟨c0, c1, c2, c3, c4, c5, c6⟩ := h.at
  obtain ⟨A, c, rfl, hlc, hc63, hA⟩ := h.form
  have hl := h.lt
  have f := h.fine
  have h0 := f.i0
  have h1 := f.i1
  have h2 := f.len
  have HLA := Lib.hid (fun V (hb : Below w.heap.size w V) => last_any (h.below hb))
  have hla : s.last = s.sidx + (s.log.length : Nat) := rfl
  obtain ⟨K, hK⟩ : ∃ K, K = (min i s.last - s.sidx).toNat := ⟨_, rfl⟩
  have hKl : K ≤ s.log.length := by rw [hK]; omega
  obtain ⟨A', hsl, hea⟩ := slice_fromE (OwnE.entAt h.log) K rfl hKl h2
  obtain ⟨m, hm⟩ : ∃ m : Int, m = s.sidx + (K : Nat) := ⟨_, rfl⟩
  have hmin : (if s.last < i then s.last else i) = m := by rw [hm, hK]; split <;> omega
  have hab : PWal.above s i = s.log.drop K := by unfold PWal.above; rw [← hK]
  have hw0 : IntKind.i64.wrap (m - s.sidx) = (K : Int) := by rw [IntWalk.i64_in _ (by omega)]; omega
  have hw1 : (m - s.sidx) = (K : Int) := by omega
  rw [hab]
  have hnl : s.log.length - K = (s.log.drop K).length := by rw [List.length_drop]
  have HCL : Hid (∀ V, Below w.heap.size w V → Calls Tryz.prog 112 #[.slice A' (s.log.length - K) (c - K)] V fun e w' => ∃ A' c', e = .returned (.slice A' (s.log.length - K) c') ∧ OwnE w' V.heap.size (.slice A' (s.log.length - K) c') (s.log.drop K) ∧ Below V.heap.size V w') := Lib.hid (fun V hb => by rw [hnl]; exact cloneE_any (s.log.drop K) A' (c - K) V (hea.keep hb) (by rw [List.length_drop]; omega))
  rw [← hnl]
  obtain ⟨n, hn⟩ : ∃ n, n = s.log.length := ⟨_, rfl⟩
  rw [← hn] at HCL hsl c6 ⊢
  generalize s.last = la at *
  generalize s.sidx = si at *
  generalize s.log.drop K = dl at *
  have B0 : Hid (Below w.heap.size w w.drew) := Lib.hid (Below.refl _ w).drew
  have d3 : w.drew.cell? ⟨bw, 3, none⟩ = some (.int .i64 si) := c3
  have d6 : w.drew.cell? ⟨bw, 6, none⟩ = some (.slice A n c) := c6
  have AT : Hid (∀ V, Below w.heap.size w V → V.cell? ⟨bw, 3, none⟩ = some (.int .i64 si) ∧ V.cell? ⟨bw, 6, none⟩ = some (.slice A n c)) := Lib.hid (fun V hb => ⟨(hb.cell (p := ⟨bw, 3, none⟩) hl).trans c3, (hb.cell (p := ⟨bw, 6, none⟩) hl).trans c6⟩)
  have hmm : (la < i ∧ la = m) ∨ (¬ la < i ∧ i = m) := by
    by_cases q : la < i
    · rw [if_pos q] at hmin; exact .inl ⟨q, hmin⟩
    · rw [if_neg q] at hmin; exact .inr ⟨q, hmin⟩
  have hwK : IntKind.i64.wrap (K : Int) = (K : Int) := IntWalk.i64_in _ (by omega)
  have hK0 : (0 : Int) ≤ (K : Int) := by omega
  have hK1 : (K : Int) ≤ (n : Int) := by omega
  have hnc : (n : Int) ≤ (c : Int) := by omega
  clear h f h0 h1 h2 hla hK hab hnl hn hm hKl hea hlc hA hc63 hmin
  have hw2 : IntKind.i64.wrap (min i la - si) = (K : Int) := by
    have : min i la = m := by rcases hmm with ⟨q1, q2⟩ | ⟨q1, q2⟩ <;> omega
    rw [this]; exact hw0
  clear hmm hw0 hw1
  all_goals
    go_enter Tryz.func76, Tryz.ntmps76
    go_wp2_with fail
    go_region_law (first
        | (go_simp; go_at_call 112; (with_reducible refine (HCL.out _ BA.out).mono ?_); rintro e wb ⟨A2, c2, rfl, own, bb⟩; have OW := Lib.hid own; have BB : Hid (Below w.heap.size w wb) := Lib.hid (BA.out.trans (bb.mono BA.out.size)); clear own bb)
        | (go_simp; go_at_call 115; (with_reducible refine (HLA.out _ B0.out).mono ?_); rintro e wa ⟨rfl, ba⟩; have BA : Hid (Below w.heap.size w wa) := Lib.hid (B0.out.trans ba); obtain ⟨y3, y6⟩ := AT.out wa BA.out; clear ba))
    all_goals
      go_wp2_with fail
      go_ret
      exact ⟨A2, c2, rfl, Fm.own_mono OW.out BA.out.size, BB.out⟩
end Go.Proofs.YtjcikhacekmcfaaGreatDoor
namespace Go.Proofs.YtjcikhacekmcfaaGreatDoor
open Go.RowKit
open PlainDisk (File Disk)
open PWal (St Ent Chg)
set_option linter.unusedVariables false
set_option maxRecDepth 100000

/-! ### may entries be appended? -/
theorem EntAt.one {w : World} {A : Option Addr} {c : Nat} {l : List Ent} (h : EntAt w A c l) {i : Nat} {e : Ent} (hi : l[i]? = some e) : ∃ g off, A = some ⟨g, off, none⟩ ∧ w.cell? ⟨g, off + i * 2, none⟩ = some (.int .i64 e.term) ∧ w.cell? ⟨g, off + i * 2 + 1, none⟩ = some (.string (str e.data)) := by
  obtain ⟨h1, h2, h3, h4⟩ := h
  obtain ⟨g, off, e1, q⟩ := h4 (fun e => by rw [e] at hi; simp at hi)
  obtain ⟨a0, a1⟩ := entC_at hi
  exact ⟨g, off, e1, q _ _ a0, by rw [Nat.add_assoc]; exact q _ _ a1⟩
theorem check_bad {s : St} {i : Int} {l : List Ent} (h : i ≤ s.sidx ∨ s.last + 1 < i ∨ PWal.maxI - i + 1 < l.length ∨ l.any (fun e => !PWal.mayBe e.term) = true) : PWal.check s i l = 1 := by unfold PWal.check; exact if_pos h
def isLong (e : Ent) : Bool := decide (4000 < e.data.length)
theorem check_good {s : St} {i : Int} {l : List Ent} (h1 : s.sidx < i) (h2 : i ≤ s.last + 1) (h3 : (l.length : Int) ≤ PWal.maxI - i + 1) (h4 : ∀ x ∈ l, PWal.mayBe x.term = true) : PWal.check s i l = if l.any isLong = true then 3 else 0 := by
  unfold PWal.check
  rw [if_neg]
  · rfl
  · rintro (q | q | q | q)
    · omega
    · omega
    · omega
    · rw [List.any_eq_true] at q
      obtain ⟨x, hx, q⟩ := q
      rw [h4 x hx] at q
      cases q
set_option maxHeartbeats 4000000 in
theorem checkWal_any {w : World} {bw b : Nat} {s : St} {lv : Value} (h : SAt w bw b s lv) (i : Int) (hi : Wr.InR i) (l : List Ent) (A : Option Addr) (c : Nat) (hl : EntAt w A c l) (hd : ∀ x ∈ l, x.data.length ≤ 281474976710656) :
    Calls Tryz.prog 64 #[.pointer (some ⟨bw, 1, none⟩), .int .i64 i, .slice A l.length c] w fun e w' => e = .returned (.int .i64 (PWal.check s i l)) ∧ Below w.heap.size w w' := by
  obtain ⟨c0, c1, c2, c3, c4, c5, c6⟩ := h.at
  have hblt := h.lt
  have f := h.fine
  have h0 := f.i0
  have h1 := f.i1
  have h2 := f.len
  obtain ⟨i0, i1⟩ := hi
  have HLA := Lib.hid (fun V (hb : Below w.heap.size w V) => last_any (h.below hb))
  have hla : s.last = s.sidx + (s.log.length : Nat) := rfl
  have HE := Lib.hid hl
  have HD := Lib.hid hd
  have hlc := hl.1
  have hc63 := hl.2.1
  have hla0 : 0 ≤ s.last := by omega
  have hla1 : s.last ≤ 4611686018437387904 := by omega
  obtain ⟨n, hn⟩ : ∃ n, n = l.length := ⟨_, rfl⟩
  have HN := Lib.hid hn
  rw [← hn] at hlc ⊢
  have hn63 : (n : Int) ≤ 9223372036854775807 := by omega
  by_cases q1 : i ≤ s.sidx
  · rw [check_bad (.inl q1)]
    clear h f hl hd hn HE HD
    go_enter Tryz.func64, Tryz.ntmps64
    go_wp2_with fail
    go_ret
    exact ⟨rfl, Below.refl _ _⟩
  · by_cases q2 : s.last + 1 < i
    · rw [check_bad (.inr (.inl q2))]
      have hw : IntKind.i64.wrap (s.last + 1) = s.last + 1 := IntWalk.i64_in _ (by omega)
      clear h f hl hd hn HE HD hla
      generalize s.last = la at *
      go_enter Tryz.func64, Tryz.ntmps64
      go_wp2_with fail
      refine (HLA.out _ (Below.refl _ _)).mono ?_
      rintro e w1 ⟨rfl, hb1⟩
      have HB1 := Lib.hid hb1
      clear hb1
      go_wp2_with fail
      go_ret
      exact ⟨rfl, HB1.out⟩
    · have hw : IntKind.i64.wrap (s.last + 1) = s.last + 1 := IntWalk.i64_in _ (by omega)
      have hw2 : IntKind.i64.wrap (4611686018427387904 - i) = 4611686018427387904 - i := IntWalk.i64_in _ (by omega)
      have hw3 : IntKind.i64.wrap (4611686018427387904 - i + 1) = 4611686018427387904 - i + 1 := IntWalk.i64_in _ (by omega)
      by_cases q3 : 4611686018427387904 - i + 1 < (n : Int)
      · rw [check_bad (.inr (.inr (.inl (by rw [← HN.out]; exact q3))))]
        clear h f hl hd hn HE HD hla
        generalize s.last = la at *
        go_enter Tryz.func64, Tryz.ntmps64
        go_wp2_with fail
        refine (HLA.out _ (Below.refl _ _)).mono ?_
        rintro e w1 ⟨rfl, hb1⟩
        have HB1 := Lib.hid hb1
        clear hb1
        go_wp2_with fail
        go_ret
        exact ⟨rfl, HB1.out⟩
      · have HBAD : Hid (∀ x ∈ l, PWal.mayBe x.term = false → PWal.check s i l = 1) := Lib.hid fun x hx hm => check_bad (.inr (.inr (.inr (List.any_eq_true.2 ⟨x, hx, by rw [hm]; rfl⟩))))
        have HGOOD : Hid ((∀ x ∈ l, PWal.mayBe x.term = true) → PWal.check s i l = if l.any isLong = true then 3 else 0) := Lib.hid fun hh => check_good (by omega) (by omega) (by rw [← HN.out]; show (n : Int) ≤ 4611686018427387904 - i + 1; omega) hh
        clear h f hl hd hn hla
        generalize PWal.check s i l = ck at *
        generalize s.last = la at *
        go_enter Tryz.func64, Tryz.ntmps64
        go_wp2_with fail
        refine (HLA.out _ (Below.refl _ _)).mono ?_
        rintro e w1 ⟨rfl, hb1⟩
        have HB1 := Lib.hid hb1
        clear hb1
        go_wp2_with fail
        go_loopw [7, 34] (fun tV jV wr => ∃ (j : Nat) (bt : Bool), tV = .bool bt ∧ jV = .int .i64 (j : Nat) ∧ j ≤ n ∧ Hid (∀ x ∈ l.take j, PWal.mayBe x.term = true) ∧ Hid (bt = (l.take j).any isLong) ∧ Hid (Below w.heap.size w wr)) (fun _ jV _ => n - (numOf jV).toNat)
        case atStart => exact ⟨0, false, rfl, rfl, by omega, Lib.hid (fun x hx => by simp at hx), Lib.hid (by simp), HB1⟩
        case round =>
          obtain ⟨j, bt, rfl, rfl, hj, hmy, hbt, hbw⟩ := hrel
          clear HB1
          by_cases hjn : j < n
          · have hjn2 : (j : Int) < (n : Int) := by omega
            obtain ⟨x, hx⟩ : ∃ x, l[j]? = some x := ⟨_, List.getElem?_eq_getElem (by rw [← HN.out]; exact hjn)⟩
            have hxm := List.mem_of_getElem? hx
            have hxd := HD.out x hxm
            obtain ⟨g, off, rfl, y0, y1⟩ := (HE.out.keep hbw.out).one hx
            have htk : l.take (j + 1) = l.take j ++ [x] := by rw [List.take_add_one, hx]; rfl
            have HMB := Lib.hid (fun V => mayBe_any x.term V)
            have hal : Below w.heap.size w (wr.alloc (.cells #[.int .i64 x.term, .string (str x.data)] 75)) := hbw.out.alloc hbw.out.size _
            have HAL := Lib.hid hal
            cases hm : PWal.mayBe x.term with
            | false =>
              rw [hm] at HMB
              have HCK := Lib.hid (HBAD.out x hxm hm)
              clear hx hxm htk hm hal
              go_wp2_with fail
              refine (HMB.out _).mono ?_
              rintro e w' ⟨rfl, rfl⟩
              go_wp2_with fail
              go_ret
              exact ⟨by rw [HCK.out]; rfl, HAL.out⟩
            | true =>
              rw [hm] at HMB
              have HMY : Hid (∀ z ∈ l.take (j + 1), PWal.mayBe z.term = true) := Lib.hid fun z hz => by
                rw [htk] at hz
                rcases List.mem_append.1 hz with q | q
                · exact hmy.out z q
                · rw [List.mem_singleton.1 q]; exact hm
              have HAN : Hid ((l.take (j + 1)).any isLong = (bt || isLong x)) := Lib.hid (by rw [htk, List.any_append, ← hbt.out]; simp)
              have hlg : isLong x = decide ((4000 : Int) < (x.data.length : Int)) := by
                unfold isLong; exact decide_eq_decide.2 (by omega)
              clear hx hxm htk hm hal
              cases bt with
              | true =>
                go_wp2_with fail
                refine (HMB.out _).mono ?_
                rintro e w' ⟨rfl, rfl⟩
                go_wp2_with fail
                go_roundw
                case rel => exact ⟨j + 1, true, rfl, rfl, by omega, HMY, Lib.hid (by rw [HAN.out]; rfl), HAL⟩
                case measure => simp [numOf]; omega
              | false =>
                by_cases hq : (4000 : Int) < (x.data.length : Int)
                · have HAN2 : Hid (true = (l.take (j + 1)).any isLong) := Lib.hid (by rw [HAN.out, hlg, decide_eq_true hq]; rfl)
                  clear hlg
                  go_wp2_with fail
                  refine (HMB.out _).mono ?_
                  rintro e w' ⟨rfl, rfl⟩
                  go_wp2_with fail
                  go_roundw
                  case rel => exact ⟨j + 1, true, by rw [str_size, decide_eq_true hq], rfl, by omega, HMY, HAN2, HAL⟩
                  case measure => simp [numOf]; omega
                · have HAN2 : Hid (false = (l.take (j + 1)).any isLong) := Lib.hid (by rw [HAN.out, hlg, decide_eq_false hq]; rfl)
                  clear hlg
                  go_wp2_with fail
                  refine (HMB.out _).mono ?_
                  rintro e w' ⟨rfl, rfl⟩
                  go_wp2_with fail
                  go_roundw
                  case rel => exact ⟨j + 1, false, by rw [str_size, decide_eq_false (by omega)], rfl, by omega, HMY, HAN2, HAL⟩
                  case measure => simp [numOf]; omega
          · have hjn2 : (n : Int) ≤ (j : Int) := by omega
            have htl : l.take j = l := List.take_of_length_le (by rw [← HN.out]; omega)
            rw [htl] at hmy hbt
            have HCK := Lib.hid (HGOOD.out hmy.out)
            rw [← hbt.out] at HCK
            clear htl hjn
            cases bt with
            | true =>
              go_wp2_with fail
              go_ret
              exact ⟨by rw [HCK.out]; rfl, hbw.out⟩
            | false =>
              go_wp2_with fail
              go_ret
              exact ⟨by rw [HCK.out]; rfl, hbw.out⟩
end Go.Proofs.YtjcikhacekmcfaaGreatDoor
namespace Go.Proofs.YtjcikhacekmcfaaGreatDoor
open Go.RowKit
open PlainDisk (File Disk)
open PWal (St Ent Chg)
set_option linter.unusedVariables false
set_option maxRecDepth 100000

/-! ### Append -/
theorem append_no {D : Disk} {s : St} {i : Int} {l : List Ent} (h : PWal.check s i l ≠ 0) : PWal.append D s i l = (D, s, PWal.check s i l) := by unfold PWal.append; exact if_neg h
theorem append_yes {D : Disk} {s : St} {i : Int} {l : List Ent} (h : PWal.check s i l = 0) : PWal.append D s i l = PWal.puts l i D s := by unfold PWal.append; exact if_pos h
theorem puts_cons (e : Ent) (r : List Ent) (i : Int) (D : Disk) (s : St) : PWal.puts (e :: r) i D s = if (PWal.write D (Chg.enc ⟨i, false, e⟩)).2 = 0 then PWal.puts r (i + 1) (PWal.write D (Chg.enc ⟨i, false, e⟩)).1 (PWal.apply ⟨i, false, e⟩ s) else ((PWal.write D (Chg.enc ⟨i, false, e⟩)).1, s, (PWal.write D (Chg.enc ⟨i, false, e⟩)).2) := by rw [PWal.puts]
theorem apply_put {s : St} {i : Int} {e : Ent} (h1 : s.sidx < i) (h2 : i ≤ s.last + 1) : (PWal.apply ⟨i, false, e⟩ s).last = i := by
  have hla : s.last = s.sidx + (s.log.length : Nat) := rfl
  unfold PWal.apply St.last
  dsimp only
  rw [if_pos ⟨rfl, h1⟩, List.length_append, List.length_take]
  simp
  omega
theorem apply_sidx (c : Chg) (s : St) : (PWal.apply c s).sidx = s.sidx := rfl
theorem check_zero {s : St} {i : Int} {l : List Ent} (h : PWal.check s i l = 0) : s.sidx < i ∧ i ≤ s.last + 1 ∧ (l.length : Int) ≤ 4611686018427387904 - i + 1 ∧ ∀ x ∈ l, 1 ≤ x.term ∧ x.term ≤ 4611686018427387904 ∧ x.data.length ≤ 4000 := by
  unfold PWal.check PWal.maxI at h
  by_cases q : i ≤ s.sidx ∨ s.last + 1 < i ∨ 4611686018427387904 - i + 1 < (l.length : Int) ∨ l.any (fun e => !PWal.mayBe e.term) = true
  · rw [if_pos q] at h; exact absurd h (by decide)
  · rw [if_neg q] at h
    by_cases r : l.any (fun e => decide (4000 < e.data.length)) = true
    · rw [if_pos r] at h; exact absurd h (by decide)
    · simp only [not_or] at q
      obtain ⟨q1, q2, q3, q4⟩ := q
      refine ⟨by omega, by omega, by omega, fun x hx => ?_⟩
      have a : ¬ (!PWal.mayBe x.term) = true := fun k => q4 (List.any_eq_true.2 ⟨x, hx, k⟩)
      have c : ¬ decide (4000 < x.data.length) = true := fun k => r (List.any_eq_true.2 ⟨x, hx, k⟩)
      have a2 : PWal.mayBe x.term = true := by cases k : PWal.mayBe x.term with
        | true => rfl
        | false => rw [k] at a; exact absurd rfl a
      unfold PWal.mayBe PWal.maxI at a2
      simp only [Bool.and_eq_true, decide_eq_true_eq] at a2
      simp only [decide_eq_true_eq] at c
      exact ⟨a2.1, a2.2, by omega⟩
def PutRel (l : List Ent) (i : Int) (D : Disk) (s : St) (bw b : Nat) (T : Nat → Prop) (w0 : World) (jV : Value) (wr : World) : Prop :=
  ∃ (j : Nat) (D' : Disk) (s' : St), j ≤ l.length ∧ jV = .int .i64 j ∧ WalTo w0 wr bw b D' s' T ∧ PWal.puts (l.drop j) (i + (j : Nat)) D' s' = PWal.puts l i D s ∧ s'.log.length ≤ s.log.length + j ∧ s'.sidx = s.sidx ∧ i + (j : Nat) ≤ s'.last + 1
theorem bld112c (i t : Int) (s : ByteArray) (w : World) : (Instr.build 112 #[(0, .int .i64 i), (2, .agg #[.int .i64 t, .string s])]).run Tryz.prog w = .ok (.agg #[.int .i64 i, .bool false, .int .i64 t, .string s]) w := bld112b i t s w
set_option maxHeartbeats 4000000 in
theorem append_any {w : World} {bw b : Nat} {D : Disk} {s : St} {T : Nat → Prop} (h : Wal w bw b D s T) (i : Int) (hi : Wr.InR i) (l : List Ent) (A : Option Addr) (c : Nat) (hl : EntAt w A c l) (hd : ∀ x ∈ l, x.data.length ≤ 281474976710656) (hout : ∀ g off, l ≠ [] → A = some ⟨g, off, none⟩ → ¬ T g) (hlen : s.log.length + l.length < 10000000) :
    Calls Tryz.prog 27 #[.pointer (some ⟨bw, 0, none⟩), .int .i64 i, .slice A l.length c] w (CallP (PWal.append D s i l) bw b T w) := by
  have HW := Lib.hid h
  have hwl0 := h
  obtain ⟨⟨lv, S, hwl⟩, hT⟩ := h
  have HCK := Lib.hid (checkWal_any hwl.sat i hi l A c hl hd)
  obtain ⟨c0, c1, c2, c3, c4, c5, c6⟩ := hwl.sat.at
  have hbwl := hwl.sat.lt
  have HI0 := Lib.hid hwl.sat.fine.i0
  have HE := Lib.hid hl
  have HO := Lib.hid hout
  have HLEN := Lib.hid hlen
  obtain ⟨n, hn⟩ : ∃ n, n = l.length := ⟨_, rfl⟩
  have HN := Lib.hid hn
  have hlc := hl.1
  rw [← hn] at hlc HCK ⊢
  have HZ := Lib.hid (check_zero (s := s) (i := i) (l := l))
  have HNO := Lib.hid (append_no (D := D) (s := s) (i := i) (l := l))
  have HYES := Lib.hid (append_yes (D := D) (s := s) (i := i) (l := l))
  generalize PWal.check s i l = ck at *
  have hnb : n < 10000000 := by omega
  obtain ⟨i0, i1⟩ := hi
  clear hwl0 hwl hT hl hd hout hlen hn
  go_enter Tryz.func27, Tryz.ntmps27
  go_wp2_with fail
  refine HCK.out.mono ?_
  rintro e w1 ⟨rfl, b1⟩
  have B1 := Lib.hid b1
  have HW1 := Lib.hid (HW.out.stays b1)
  clear b1 c0 c1 c2 c3 c4 c5 c6
  by_cases hck : ck = 0
  · subst hck
    obtain ⟨z1, z2, z3, z4⟩ := HZ.out rfl
    have Z4 := Lib.hid z4
    have Z2 := Lib.hid z2
    have HY := Lib.hid (HYES.out rfl)
    have hnn : (n : Int) ≤ 4611686018427387904 - i + 1 := by rw [HN.out]; exact z3
    clear HZ HNO HYES z4 z2 z3
    go_wp2_with fail
    go_loopw [25] (PutRel l i D s bw b T w) (fun jV _ => n - (numOf jV).toNat)
    case atStart => exact ⟨0, D, s, Nat.zero_le _, rfl, HW1.out, by simp, by omega, rfl, by have := Z2.out; omega⟩
    case round =>
      obtain ⟨j, D', s', hj, rfl, hto, hrep, hsl, hsi, hila⟩ := hrel
      have RE := Lib.hid hrep
      have SL := Lib.hid hsl
      have SI := Lib.hid hsi
      have LA := Lib.hid hila
      have TO := Lib.hid hto
      rw [← HN.out] at hj
      by_cases hlt : j < n
      · obtain ⟨x, hx⟩ : ∃ x, l[j]? = some x := ⟨_, List.getElem?_eq_getElem (by rw [← HN.out]; exact hlt)⟩
        have hlt2 : (j : Int) < (n : Int) := by omega
        obtain ⟨t1, t2, t3⟩ := Z4.out x (List.mem_of_getElem? hx)
        obtain ⟨g, off, hA, y0, y1⟩ := HE.out.one hx
        rw [drop_atL hx, puts_cons] at RE
        obtain ⟨T1, ⟨⟨lv1, S1, wl1⟩, hT1⟩, hu1, hf1⟩ := hto
        have hgw : g < w.heap.size := World.block_lt_of_cell? w _ y0
        have hbk := hf1.block g hgw (HO.out g off (by intro e; rw [e] at hx; simp at hx) hA)
        replace y0 := (World.cell?_of_block (a := ⟨g, off + j * 2, none⟩) hbk).trans y0
        replace y1 := (World.cell?_of_block (a := ⟨g, off + j * 2 + 1, none⟩) hbk).trans y1
        subst hA
        have hwi : IntKind.i64.wrap (i + (j : Int)) = i + (j : Int) := IntWalk.i64_in _ (by omega)
        have HOK : OkC ⟨i + (j : Int), false, x⟩ := ⟨⟨by show (-9223372036854775808 : Int) ≤ i + (j : Int); omega, by show i + (j : Int) ≤ 9223372036854775807; omega⟩, ⟨by show (-9223372036854775808 : Int) ≤ x.term; omega, by show x.term ≤ 9223372036854775807; omega⟩, t3⟩
        have hbc := bld112c
        obtain ⟨W2, hW2⟩ : ∃ W2, (wr.alloc (.cells #[.int .i64 x.term, .string (str x.data)] 75)).alloc (.cells #[.int .i64 (i + (j : Int)), .bool false, .int .i64 x.term, .string (str x.data)] 112) = W2 := ⟨_, rfl⟩
        have HW2 := Lib.hid hW2
        have hz2 : (wr.alloc (.cells #[.int .i64 x.term, .string (str x.data)] 75)).heap.size = wr.heap.size + 1 := by simp
        have hb2 : Below wr.heap.size wr W2 := hW2 ▸ ((below_new wr _).alloc (by omega) _)
        have hx2 : W2.heap[wr.heap.size + 1]? = some (.cells #[.int .i64 (i + (j : Int)), .bool false, .int .i64 x.term, .string (str x.data)] 112 (0, 0)) := by rw [← hW2, ← hz2]; exact heap_alloc_new _ _
        have HX2 := Lib.hid hx2
        have B2 := Lib.hid hb2
        have BOX : Hid (∀ V : World, V.heap[wr.heap.size + 1]? = W2.heap[wr.heap.size + 1]? → V.cell? ⟨wr.heap.size + 1, 0, none⟩ = some (.int .i64 (i + (j : Int))) ∧ V.cell? ⟨wr.heap.size + 1, 1, none⟩ = some (.bool false) ∧ V.cell? ⟨wr.heap.size + 1, 2, none⟩ = some (.int .i64 x.term) ∧ V.cell? ⟨wr.heap.size + 1, 3, none⟩ = some (.string (str x.data))) := Lib.hid (fun V hb => by
          have hv := hb.trans HX2.out
          refine ⟨?_, ?_, ?_, ?_⟩ <;> (rw [Lib.cell_of_heap hv]; rfl))
        obtain ⟨p0, p1, p2, p3⟩ := BOX.out W2 rfl
        have WL2 := Lib.hid (wl1.below hb2)
        have HT2 := Lib.hid (fun k (hk : T1 k) => (⟨(hT1 k hk).1, Nat.lt_of_lt_of_le (hT1 k hk).2 hb2.size⟩ : 3 ≤ k ∧ k < W2.heap.size))
        have HT1 := Lib.hid hT1
        have U1 := Lib.hid hu1
        have F1 := Lib.hid hf1
        have HWR := Lib.hid (write_any2 (WL2.out.ws) ⟨i + (j : Int), false, x⟩ HOK)
        have HAP0 := Lib.hid (fun (V : World) (lv : Value) (q : SAt V bw b s' lv) => apply_any q ⟨i + (j : Int), false, x⟩ (by show 1 ≤ i + (j : Int); have := HI0.out; omega) hila (by show i + (j : Int) ≤ _; omega) (by have := HLEN.out; have := HN.out; omega) ⟨by show (-9223372036854775808 : Int) ≤ x.term; omega, by show x.term ≤ 9223372036854775807; omega⟩ t3)
        have AL := Lib.hid (apply_len ⟨i + (j : Int), false, x⟩ s')
        have AP := Lib.hid (apply_put (s := s') (i := i + (j : Int)) (e := x) (by omega) hila)
        have AS := Lib.hid (apply_sidx ⟨i + (j : Int), false, x⟩ s')
        unfold chgV at HWR HAP0
        generalize PWal.apply ⟨i + (j : Int), false, x⟩ s' = s2 at *
        generalize Chg.enc ⟨i + (j : Int), false, x⟩ = enc at *
        dsimp only at HWR HAP0
        generalize x.term = xt at *
        generalize str x.data = xd at *
        have HZ2 : Hid (wr.heap.size + 1 < W2.heap.size) := Lib.hid (Array.getElem?_eq_some_iff.1 hx2).1
        clear wl1 hT1 hu1 hf1 HOK hW2 hb2 hx2 hrep hsl hsi hila hx hbk t1 t2 t3
        go_wp2_with fail
        rw [HW2.out]
        go_wp2_with fail
        refine HWR.out.mono ?_
        rintro e w3 ⟨rfl, t3⟩
        obtain ⟨S3, T3, wl3, hT3, upS3, upT3, fr3⟩ := WL2.out.disk HT2.out t3
        have W3 := Lib.hid wl3
        have R3 := Lib.hid hT3
        have F3 := Lib.hid fr3
        have U3 := Lib.hid upT3
        generalize PWal.write D' enc = r at *
        obtain ⟨D3, e3⟩ := r
        clear t3 wl3 hT3 upS3 upT3 fr3 p0 p1 p2 p3
        by_cases he : e3 = 0
        · subst he
          rw [if_pos rfl] at RE
          have HBX3 : Hid (w3.heap[wr.heap.size + 1]? = W2.heap[wr.heap.size + 1]?) := Lib.hid (F3.out.block _ HZ2.out fun q => by have := (HT1.out _ q).2; omega)
          have D4 : Hid (Below w3.heap.size w3 w3.drew) := Lib.hid (Below.refl _ w3).drew
          have HAP := Lib.hid (HAP0.out w3.drew _ ((W3.out.below D4.out).sat))
          obtain ⟨p0, p1, p2, p3⟩ := BOX.out w3 HBX3.out
          have BX4 : Hid (∀ V lv2, SatTo w3.drew V bw b s2 lv1 lv2 → V.cell? ⟨wr.heap.size + 1, 0, none⟩ = some (.int .i64 (i + (j : Int))) ∧ V.cell? ⟨wr.heap.size + 1, 1, none⟩ = some (.bool false) ∧ V.cell? ⟨wr.heap.size + 1, 2, none⟩ = some (.int .i64 xt) ∧ V.cell? ⟨wr.heap.size + 1, 3, none⟩ = some (.string xd)) := Lib.hid (fun V lv2 ht => BOX.out V ((ht.fr.block _ (by show wr.heap.size + 1 < w3.heap.size; have := HZ2.out; have := F3.out.size; omega) (fun q => by
              rcases q with q | q
              · have := (HT1.out bw (WL2.out.cov _ (.inr (.inl rfl)))).2; omega
              · have := (HT1.out _ (WL2.out.cov _ (.inr (.inr q)))).2; omega)).trans HBX3.out))
          go_wp2_with fail
          go_region_held3 (fun V => V.cell? ⟨wr.heap.size + 1, 0, none⟩ = some (.int .i64 (i + (j : Int))) ∧ V.cell? ⟨wr.heap.size + 1, 1, none⟩ = some (.bool false) ∧ V.cell? ⟨wr.heap.size + 1, 2, none⟩ = some (.int .i64 xt) ∧ V.cell? ⟨wr.heap.size + 1, 3, none⟩ = some (.string xd)) (first | exact BOX.out _ HBX3.out | exact BX4.out _ _ T5.out)
            (first | (go_at_call 66; (with_reducible refine HAP.out.mono ?_); rintro e w5 ⟨rfl, lv2, t5⟩; have T5 := Lib.hid t5; clear t5))
          obtain ⟨wl5, fr5⟩ := (W3.out.below D4.out).sat_to T5.out
          have FIN : Hid (WalTo wr w5 bw b D3 s2 T1) := Lib.hid (by
            refine WalTo.before B2.out (WalTo.go U3.out F3.out (WalTo.before D4.out ⟨_, ⟨⟨_, _, wl5⟩, fun k hk => ?_⟩, fun k hk => hk, fr5⟩))
            have g3 := W3.out.dk.glob.size
            rcases hk with q | q
            · have := R3.out k q; have := fr5.size; exact ⟨this |> fun _ => (R3.out k q).1, Nat.lt_of_lt_of_le (R3.out k q).2 fr5.size⟩
            · exact ⟨by have : w3.drew.heap.size = w3.heap.size := rfl; omega, q.2⟩)
          clear wl5 fr5
          go_wp2_with fail
          go_roundw
          case rel =>
            refine ⟨j + 1, D3, s2, by rw [← HN.out]; omega, by go_num, WalTo.go U1.out F1.out FIN.out, ?_, ?_, ?_, ?_⟩
            · have := RE.out
              rw [show i + ((j + 1 : Nat) : Int) = i + (j : Int) + 1 by omega]
              exact this
            · have := AL.out; have := SL.out; omega
            · exact AS.out.trans SI.out
            · have := AP.out; omega
          case measure => simp [numOf]; omega
        · rw [if_neg he] at RE
          have FIN : Hid (WalTo w w3 bw b D3 s' T) := Lib.hid (WalTo.go U1.out F1.out (WalTo.before B2.out ⟨T3, ⟨⟨_, _, W3.out⟩, R3.out⟩, U3.out, F3.out⟩))
          have RN : Hid (PWal.append D s i l = (D3, s', e3)) := Lib.hid (HY.out.trans RE.out.symm)
          go_wp2_with fail
          go_ret
          exact ⟨by rw [RN.out]; rfl, by rw [RN.out]; exact FIN.out⟩
      · have hjn : j = n := by omega
        subst hjn
        have RN : Hid (PWal.append D s i l = (D', s', 0)) := Lib.hid (by rw [HY.out, ← RE.out, List.drop_of_length_le (by rw [← HN.out]; exact Nat.le_refl _)]; rfl)
        clear hto hrep hsl hsi hila
        go_wp2_with fail
        go_ret
        exact ⟨by rw [RN.out]; rfl, by rw [RN.out]; exact TO.out⟩
  · have RN := Lib.hid (HNO.out hck)
    clear HZ HNO HYES
    go_wp2_with fail
    go_ret
    exact ⟨by rw [RN.out]; rfl, by rw [RN.out]; exact HW1.out⟩
end Go.Proofs.YtjcikhacekmcfaaGreatDoor
