import Derived.Test.YtjcikhacekmcfaaGreatDoorOe
namespace Go.Proofs.YtjcikhacekmcfaaGreatDoor
open Go.RowKit
open PlainDisk (File Disk)
open PWal (St Ent Chg)
set_option linter.unusedVariables false
set_option maxRecDepth 100000

/-! ### the log is read: what readLog's walk stands on -/
theorem Wl.sat_to {w w' : World} {bw b : Nat} {D : Disk} {s s' : St} {lv lv' : Value} {S T : Nat → Prop} (h : Wl w bw b D s lv S T) (ht : SatTo w w' bw b s' lv lv') : Wl w' bw b D s' lv' S (Up T w w') ∧ Fr T w w' := by
  have h3 := h.dk.glob.size
  refine ⟨⟨h.dk.fr ht.fr fun k hk => ?_, ht.sat, h.nin, fun k hk hS => ?_, ⟨h.low.1, fun k hk => ?_⟩, fun k hk => ?_⟩, ⟨ht.fr.os, ht.fr.tape, ht.fr.output, ht.fr.size, fun k hk hn => ht.fr.block k hk fun q => hn ?_⟩⟩
  · rcases hk with q | q
    · subst q; exact ⟨h.nin, h.low.1⟩
    · exact ⟨h.ninl k q, h.low.2 k q⟩
  · rcases ht.own k hk with q | q
    · exact h.ninl k q hS
    · have := (h.dk.blk k hS).2; omega
  · rcases ht.own k hk with q | q
    · exact h.low.2 k q
    · omega
  · rcases hk with q | q | q
    · exact .inl (h.cov k (.inl q))
    · exact .inl (h.cov k (.inr (.inl q)))
    · rcases ht.own k q with r | r
      · exact .inl (h.cov k (.inr (.inr r)))
      · exact .inr ⟨r, (World.ownsRow.lt ht.sat.log k q).2⟩
  · rcases q with q | q
    · exact h.cov k (.inr (.inl q))
    · exact h.cov k (.inr (.inr q))
/-- how many bytes records have -/
def recsLen (l : List (List UInt8)) : Nat := (l.map fun p => 8 + p.length).sum
theorem scanF_len : ∀ (n : Nat) (b : List UInt8), recsLen (Fm.Fr.scanF n b).1 = (Fm.Fr.scanF n b).2 := by
  intro n
  induction n with
  | zero => intro b; rfl
  | succ n ih =>
    intro b
    simp only [Fm.Fr.scanF]
    cases h : Fm.Fr.first b with
    | none => rfl
    | some q =>
      dsimp only
      have := ih (b.drop (8 + q.length))
      unfold recsLen at this ⊢
      rw [List.map_cons, List.sum_cons, this]
theorem replay_le : ∀ (l : List (List UInt8)) (s : St) (g : Nat), (PWal.replay l s g).2 ≤ g + recsLen l := by
  intro l
  induction l with
  | nil => intro s g; exact Nat.le_refl _
  | cons p r ih =>
    intro s g
    have e : recsLen (p :: r) = (8 + p.length) + recsLen r := by unfold recsLen; rw [List.map_cons, List.sum_cons]
    cases h : PWal.chgOf p with
    | none => rw [replay_none h]; exact Nat.le_add_right _ _
    | some c =>
      rw [replay_some h]
      split
      · have := ih (PWal.apply c s) (g + (8 + p.length)); omega
      · exact Nat.le_add_right _ _
theorem replay_most (bs : List UInt8) (s : St) : (PWal.replay (Fm.Fr.scan bs).1 s 0).2 ≤ bs.length := by
  have h1 := replay_le (Fm.Fr.scan bs).1 s 0
  have h2 : recsLen (Fm.Fr.scan bs).1 = (Fm.Fr.scan bs).2 := scanF_len _ _
  have h3 := Fm.Fr.scan_le _ _ (Nat.le_refl bs.length)
  omega
theorem replay_len : ∀ (l : List (List UInt8)) (s : St) (g : Nat), (PWal.replay l s g).1.log.length ≤ s.log.length + l.length := by
  intro l
  induction l with
  | nil => intro s g; exact Nat.le_refl _
  | cons p r ih =>
    intro s g
    rw [List.length_cons]
    cases h : PWal.chgOf p with
    | none => rw [replay_none h]; show s.log.length ≤ _; omega
    | some c =>
      rw [replay_some h]
      split
      · have := ih (PWal.apply c s) (g + (8 + p.length)); have := apply_len c s; omega
      · show s.log.length ≤ _; omega
theorem readSegs_cons (n : Nat) (r : List Nat) (D : Disk) (s : St) : PWal.readSegs (n :: r) D s = if (PWal.replay (Fm.Fr.scan (PWal.rdB D (PWal.segN n))).1 s 0).2 = (PWal.rdB D (PWal.segN n)).length then PWal.readSegs r D (PWal.replay (Fm.Fr.scan (PWal.rdB D (PWal.segN n))).1 s 0).1 else ((PWal.andThen (PWal.trim D (PWal.segN n) (PWal.replay (Fm.Fr.scan (PWal.rdB D (PWal.segN n))).1 s 0).2) (PWal.drops r)).1, (PWal.replay (Fm.Fr.scan (PWal.rdB D (PWal.segN n))).1 s 0).1, (PWal.andThen (PWal.trim D (PWal.segN n) (PWal.replay (Fm.Fr.scan (PWal.rdB D (PWal.segN n))).1 s 0).2) (PWal.drops r)).2) := rfl
theorem readSegs_nil (D : Disk) (s : St) : PWal.readSegs [] D s = (D, s, 0) := rfl
/-- the rest of a row of segments -/
theorem slice_nums {w : World} {g c N k : Nat} {S : Nat → Prop} {l : List Nat} (hN : N = l.length) (h1 : k ≤ N) (h2 : N ≤ c) (hc : c ≤ 9223372036854775807) (hg : ¬ S g ∧ g < w.heap.size) (h : ∀ (i x : Nat), l[i]? = some x → w.cell? ⟨g, i, none⟩ = some (.int .i64 (x : Nat))) :
    ∃ A', (∀ W : World, (Instr.slice 116 (.slice (some ⟨g, 0, none⟩) N c) (some (.int .i64 (k : Nat))) none none).run Tryz.prog W = .ok (.slice A' (N - k) (c - k)) W) ∧ NumsAt w S A' (l.drop k) := by
  have hk : (k : Int) ≤ (N : Int) := by omega
  have h0 : (0 : Int) ≤ (k : Int) := by omega
  refine ⟨if c = k then some ⟨g, 0, none⟩ else some ⟨g, k, none⟩, fun W => ?_, fun hne => ?_⟩
  · clear hN h hg
    go_simp
  · have hkl : k < l.length := by
      rcases Nat.lt_or_ge k l.length with q | q
      · exact q
      · exact absurd (List.drop_of_length_le q) hne
    rw [if_neg (by omega)]
    refine ⟨g, k, rfl, hg.1, hg.2, fun i x hx => ?_⟩
    rw [List.getElem?_drop] at hx
    exact h (k + i) x hx
end Go.Proofs.YtjcikhacekmcfaaGreatDoor
namespace Go.Proofs.YtjcikhacekmcfaaGreatDoor
open Go.RowKit
open PlainDisk (File Disk)
open PWal (St Ent Chg)
set_option linter.unusedVariables false
set_option maxRecDepth 100000

/-! ### the log is read -/
def LogRel (l : List Nat) (s : St) (D : Disk) (bw b : Nat) (S T : Nat → Prop) (w : World) (iV : Value) (wr : World) : Prop :=
  ∃ (i : Nat) (s' : St) (lv' : Value) (T' : Nat → Prop), i ≤ l.length ∧ iV = .int .i64 i ∧ Wl wr bw b D s' lv' S T' ∧ (∀ k, T' k → 3 ≤ k ∧ k < wr.heap.size) ∧ (∀ k, T' k → Up T w wr k) ∧ Fr T w wr ∧ PWal.readSegs (l.drop i) D s' = PWal.readSegs l D s ∧ s'.log.length ≤ s.log.length + i * 131072
theorem up_up {T T1 T2 : Nat → Prop} {w w1 w2 : World} (h1 : ∀ k, T1 k → Up T w w1 k) (h2 : ∀ k, T2 k → Up T1 w1 w2 k) (hz : w.heap.size ≤ w1.heap.size) (hz2 : w1.heap.size ≤ w2.heap.size) : ∀ k, T2 k → Up T w w2 k := fun k hk => by
  rcases h2 k hk with q | q
  · rcases h1 k q with r | r
    · exact .inl r
    · exact .inr ⟨r.1, by omega⟩
  · exact .inr ⟨by omega, q.2⟩
theorem fr_fr {T T1 : Nat → Prop} {w w1 w2 : World} (h1 : Fr T w w1) (hu : ∀ k, T1 k → Up T w w1 k) (h2 : Fr T1 w1 w2) : Fr T w w2 := h1.trans h2 fun k hk => (hu k hk).imp id And.left
set_option maxHeartbeats 4000000 in
theorem readLog_any {w : World} {bw b : Nat} {D : Disk} {s : St} {T : Nat → Prop} (h : Wal w bw b D s T) (h0 : s.log.length ≤ 1000) : Calls Tryz.prog 39 #[.pointer (some ⟨bw, 0, none⟩)] w (CallP (PWal.readSegs (PWal.segs D) D s) bw b T w) := by
  have hmf : ∀ (fn : Fn) (first cap : Array Value) (w : World), (Instr.makeFunc fn first cap).run Tryz.prog w = .ok (.func fn first cap) w := fun _ _ _ _ => rfl
  have hst := store_fn
  obtain ⟨⟨lv, S, hwl⟩, hT⟩ := h
  have HWL := Lib.hid hwl
  have HT := Lib.hid hT
  have HS := Lib.hid (segments_any hwl.ws)
  have HL64 := Lib.hid (segs_many hwl.dk.fine.inv.many)
  have HLT := Lib.hid (fun n (hn : n ∈ PWal.segs D) => segs_lt D hn)
  have HRL := Lib.hid (fun nm => rdB_le hwl.dk.fine nm)
  have H0 := Lib.hid h0
  clear hwl hT h0
  go_enter Tryz.func39, Tryz.ntmps39
  go_wp2_with fail
  refine HS.out.mono ?_
  rintro e w1 ⟨A, c, rfl, own, b1⟩
  have OWN := Lib.hid own
  have HB1 := Lib.hid b1
  obtain ⟨hcN, hc63⟩ : (PWal.segs D).length ≤ c ∧ c ≤ 9223372036854775807 := by
    obtain ⟨A', c', e, q1, q2, _⟩ := own_form own
    obtain rfl : c = c' := by injection e
    exact ⟨q1, q2⟩
  obtain ⟨N, hN⟩ : ∃ N, N = (PWal.segs D).length := ⟨_, rfl⟩
  have HN := Lib.hid hN
  rw [← hN] at hcN ⊢
  generalize hls : PWal.segs D = l at *
  have HLS := Lib.hid hls
  clear own b1 hN hls
  go_wp2_with fail
  go_loopw [14] (LogRel l s D bw b S T w1) (fun i _ => N - (intOf i).toNat)
  case atStart => exact ⟨0, s, lv, T, by omega, rfl, HWL.out.below HB1.out, fun k hk => ⟨(HT.out k hk).1, Nat.lt_of_lt_of_le (HT.out k hk).2 HB1.out.size⟩, fun k hk => .inl hk, Fr.refl _ _, rfl, by omega⟩
  case round =>
    obtain ⟨i, s', lv', T', hi, rfl, hw', hT', hup, hfr, hrs, hln⟩ := hrel
    have WL := Lib.hid hw'
    have TR := Lib.hid hT'
    have UP := Lib.hid hup
    have FR := Lib.hid hfr
    have RS := Lib.hid hrs
    have LN := Lib.hid hln
    rw [← HN.out] at hi
    have hN64 : N ≤ 64 := by have := HL64.out; have := HN.out; omega
    have OWR : Hid (wr.ownsRow w.heap.size 118 1 (.slice A l.length c) l.length (segV l)) := Lib.hid (Fm.own_kp OWN.out fun k h1 h2 => hfr.block k h2 fun q => by have := (HT.out k q).2; omega)
    by_cases hlt : i < N
    · obtain ⟨n, hx⟩ : ∃ x, l[i]? = some x := ⟨_, List.getElem?_eq_getElem (by rw [← HN.out]; exact hlt)⟩
      obtain ⟨g, rfl, q0⟩ := own_num OWR.out hx
      have hgw := World.block_lt_of_cell? wr _ q0
      have HNI := Lib.hid (nameIs_seg n (HLT.out n (List.mem_of_getElem? hx)))
      have HFI := Lib.hid (file_any (w := wr) (b := b) (bw := bw) HNI.out hw'.ws.ptr)
      rw [drop_atL hx, readSegs_cons] at RS
      have hI0 : (0 : Int) ≤ (i : Int) := by omega
      have hI1 : (i : Int) < (N : Int) := by omega
      have hI2 : (N : Int) ≤ 64 := by omega
      have HGW := Lib.hid hgw
      clear hw' hT' hup hfr hrs hln hx
      go_wp2_with fail
      refine HFI.out.mono ?_
      rintro e w3 ⟨rfl, b3⟩
      have hBN := Box2.new w3 (.pointer (some ⟨b, 0, none⟩)) (.func (Fn.func 69) #[.int .i64 (n : Nat)] #[]) 121
      have HBX := Lib.hid hBN
      have HB4 := Lib.hid (b3.alloc b3.size (.cells #[.pointer (some ⟨b, 0, none⟩), .func (Fn.func 69) #[.int .i64 (n : Nat)] #[]] 121))
      have HK1 : Hid (wr.heap.size ≤ w3.heap.size ∧ w3.heap.size < (w3.alloc (.cells #[.pointer (some ⟨b, 0, none⟩), .func (Fn.func 69) #[.int .i64 (n : Nat)] #[]] 121)).heap.size) := Lib.hid ⟨b3.size, by rw [World.size_alloc]; omega⟩
      obtain ⟨k, hk⟩ : ∃ k, k = w3.heap.size := ⟨_, rfl⟩
      rw [← hk] at HBX HK1
      have HK := Lib.hid hk
      clear b3 hBN q0
      unfold fvl
      go_wp2_with fail
      rw [← HK.out]
      clear hk
      generalize w3.alloc (.cells #[.pointer (some ⟨b, 0, none⟩), .func (Fn.func 69) #[.int .i64 (n : Nat)] #[]] 121) = W at *
      have HRD := Lib.hid (read_any2 ((WL.out.below HB4.out).dk) HNI.out)
      obtain ⟨x0, x1⟩ := id HBX.out
      refine HRD.out.mono ?_
      rintro e w5 ⟨A5, c5, rfl, own5, b5⟩
      have HB5 := Lib.hid (HB4.out.trans (b5.mono HB4.out.size))
      have HBX5 := Lib.hid (HBX.out.below b5)
      have HSZ5 := Lib.hid b5.size
      have W5 := Lib.hid (WL.out.below HB5.out)
      have HRP := Lib.hid (replay_any (W5.out.sat) rfl own5 b5.size (by have := WL.out.sat.lt; have := HB4.out.size; omega) (fun q hq => by have := WL.out.log_lt q hq; have := HB4.out.size; omega) (HRL.out _) (by
        have h1 := (scan_sizes (PWal.rdB D (PWal.segN n))).2
        have h2 := HRL.out (PWal.segN n)
        have h3 := LN.out
        have h4 := H0.out
        have h5 : i * 131072 ≤ 63 * 131072 := Nat.mul_le_mul_right _ (by omega)
        omega))
      have HMO := Lib.hid (replay_most (PWal.rdB D (PWal.segN n)) s')
      have HML := Lib.hid (replay_len (Fm.Fr.scan (PWal.rdB D (PWal.segN n))).1 s' 0)
      have HSC := Lib.hid ((scan_sizes (PWal.rdB D (PWal.segN n))).2)
      have HR1 := Lib.hid (HRL.out (PWal.segN n))
      obtain ⟨M, hM⟩ : ∃ M, M = (PWal.rdB D (PWal.segN n)).length := ⟨_, rfl⟩
      rw [← hM] at HRP RS HMO HSC HR1 ⊢
      generalize (Fm.Fr.scan (PWal.rdB D (PWal.segN n))).1 = ls at *
      generalize PWal.replay ls s' 0 = rp at *
      obtain ⟨s2, gd⟩ := rp
      dsimp only at *
      clear own5 b5 x0 x1 hM
      go_wp2_with fail
      refine HRP.out.mono ?_
      rintro e w6 ⟨rfl, lv2, t6⟩
      obtain ⟨wl6, fr6⟩ := W5.out.sat_to t6
      have W6 := Lib.hid wl6
      have F6 : Hid (Fr T w1 w6) := Lib.hid (fr_fr FR.out UP.out (((Fr.of_below (S := T') HB5.out)).trans fr6 fun q hq => .inl hq))
      have U6 : Hid (∀ q, Up T' w5 w6 q → Up T w1 w6 q) := Lib.hid (fun q hq => by
        have z1 := HB5.out.size
        have z2 := fr6.size
        have z3 := FR.out.size
        rcases hq with r | r
        · rcases UP.out q r with r | r
          · exact .inl r
          · exact .inr ⟨r.1, by omega⟩
        · exact .inr ⟨by omega, r.2⟩)
      have T6 : Hid (∀ q, Up T' w5 w6 q → 3 ≤ q ∧ q < w6.heap.size) := Lib.hid (fun q hq => by
        have z1 := HB5.out.size
        have z2 := fr6.size
        have z3 := WL.out.dk.glob.size
        rcases hq with r | r
        · have := TR.out q r; exact ⟨this.1, by omega⟩
        · exact ⟨by omega, r.2⟩)
      have BX6 : Hid (w6.cell? ⟨k, 0, none⟩ = some (.pointer (some ⟨b, 0, none⟩)) ∧ w6.cell? ⟨k, 1, none⟩ = some (.func (Fn.func 69) #[.int .i64 (n : Nat)] #[])) := Lib.hid (by
        obtain ⟨x0, x1⟩ := id HBX5.out
        have hkk := t6.fr.block k (by have := HK1.out.2; have := HSZ5.out; omega) (fun q => by
          rcases q with q | q
          · have := WL.out.sat.lt; have := HK1.out.1; omega
          · have := WL.out.log_lt k q; have := HK1.out.1; omega)
        exact ⟨(World.cell?_of_block (w := w5) (a := ⟨k, 0, none⟩) hkk).trans x0, (World.cell?_of_block (w := w5) (a := ⟨k, 1, none⟩) hkk).trans x1⟩)
      clear t6 wl6 fr6
      by_cases hg : gd = M
      · rw [if_pos hg] at RS
        subst hg
        go_wp2_with fail
        go_roundw
        case rel => exact ⟨i + 1, s2, lv2, _, by rw [← HN.out]; omega, by go_num, W6.out, T6.out, U6.out, F6.out, RS.out, by have := HML.out; have := LN.out; have := HSC.out; have := HR1.out; omega⟩
        case measure => simp [intOf]; omega
      · rw [if_neg hg] at RS
        have hgi : ¬ ((gd : Int) = (M : Int)) := by omega
        have HTR := Lib.hid (trim_file (W6.out.dk) HNI.out gd (by have := HMO.out; have := HR1.out; omega))
        obtain ⟨x0, x1⟩ := id BX6.out
        go_wp2_with fail
        refine HTR.out.mono ?_
        rintro e w7 ⟨rfl, t7⟩
        obtain ⟨S7, T7, wl7, hT7, upS7, upT7, fr7⟩ := W6.out.disk T6.out t7
        have W7 := Lib.hid wl7
        have R7 := Lib.hid hT7
        have z67 := fr7.size
        have z16 := F6.out.size
        have F7 : Hid (Fr T w1 w7) := Lib.hid (fr_fr F6.out U6.out fr7)
        have U7 : Hid (∀ q, T7 q → Up T w1 w7 q) := Lib.hid (up_up U6.out upT7 z16 z67)
        have NS7 : Hid (∀ q, w.heap.size ≤ q → q < w6.heap.size → ¬ S7 q) := Lib.hid (fun q h1 h2 hq => by
          rcases upS7 q hq with r | r
          · have := (HWL.out.dk.blk q r).2; omega
          · omega)
        generalize PWal.trim D (PWal.segN n) gd = r at *
        obtain ⟨D7, e7⟩ := r
        clear t7 wl7 hT7 upS7 upT7 fr7 x0 x1
        by_cases he : e7 = 0
        · subst he
          have RS2 : Hid (((PWal.drops (l.drop (i + 1)) D7).1, s2, (PWal.drops (l.drop (i + 1)) D7).2) = PWal.readSegs l D s) := Lib.hid (by rw [← RS.out]; unfold PWal.andThen; rw [if_pos rfl])
          have OW7 : w7.ownsRow w.heap.size 118 1 (.slice (some ⟨g, 0, none⟩) l.length c) l.length (segV l) := Fm.own_kp OWN.out fun q h1 h2 => F7.out.block q h2 fun r => by have := (HT.out q r).2; omega
          have hgb : w.heap.size ≤ g ∧ g < w1.heap.size := by
            have := World.ownsRow.lt OWN.out g rfl
            exact this
          obtain ⟨A', hsl, hna⟩ := slice_nums (w := w7) (g := g) (c := c) (k := i + 1) (S := S7) HN.out (by omega) hcN hc63 ⟨NS7.out g hgb.1 (by omega), by omega⟩ (fun j x hj => by
            obtain ⟨g2, e2, q2⟩ := own_num OW7 hj
            injection e2 with e2
            injection e2 with e2
            rw [e2]; exact q2)
          obtain ⟨Nr, hNr⟩ : ∃ Nr, Nr = N - (i + 1) := ⟨_, rfl⟩
          obtain ⟨cr, hcr⟩ : ∃ cr, cr = c - (i + 1) := ⟨_, rfl⟩
          have HDS := Lib.hid (dropSegs_any (W7.out.ws) (l.drop (i + 1)) A' Nr cr (by rw [List.length_drop, ← HN.out, hNr]) (by omega) (fun q hq => HLT.out q (List.mem_of_mem_drop hq)) hna)
          rw [← hNr, ← hcr, show ((i + 1 : Nat) : Int) = (i : Int) + 1 by omega] at hsl
          have hwi : IntKind.i64.wrap ((i : Int) + 1) = (i : Int) + 1 := IntWalk.i64_in _ (by omega)
          generalize l.drop (i + 1) = lr at *
          clear OW7 hgb hna hNr hcr z67 z16
          go_wp2_with fail
          refine HDS.out.mono ?_
          rintro e w8 ⟨rfl, t8⟩
          obtain ⟨S8, T8, wl8, hT8, upS8, upT8, fr8⟩ := W7.out.disk R7.out t8
          have FIN : Hid (WalTo w w8 bw b (PWal.drops lr D7).1 s2 T) := Lib.hid (WalTo.before HB1.out (WalTo.go U7.out F7.out ⟨T8, ⟨⟨_, _, wl8⟩, hT8⟩, upT8, fr8⟩))
          clear t8 wl8 hT8 upS8 upT8 fr8
          go_wp2_with fail
          go_ret
          exact ⟨by rw [← RS2.out]; rfl, by rw [← RS2.out]; exact FIN.out⟩
        · have RS2 : Hid ((D7, s2, e7) = PWal.readSegs l D s) := Lib.hid (by rw [← RS.out]; unfold PWal.andThen; rw [if_neg he])
          have FIN : Hid (WalTo w w7 bw b D7 s2 T) := Lib.hid (WalTo.before HB1.out ⟨T7, ⟨⟨_, _, W7.out⟩, R7.out⟩, U7.out, F7.out⟩)
          clear z67 z16
          go_wp2_with fail
          go_ret
          exact ⟨by rw [← RS2.out]; rfl, by rw [← RS2.out]; exact FIN.out⟩
    · have hiN : i = N := by omega
      subst hiN
      rw [List.drop_of_length_le (by rw [HN.out]; exact Nat.le_refl _), readSegs_nil] at RS
      have FIN : Hid (WalTo w wr bw b D s' T) := Lib.hid (WalTo.before HB1.out ⟨T', ⟨⟨_, _, hw'⟩, hT'⟩, hup, hfr⟩)
      clear hw' hT' hup hfr hrs hln
      go_wp2_with fail
      go_ret
      exact ⟨by rw [← RS.out]; rfl, by rw [← RS.out]; exact FIN.out⟩
end Go.Proofs.YtjcikhacekmcfaaGreatDoor
namespace Go.Proofs.YtjcikhacekmcfaaGreatDoor
open Go.RowKit
open PlainDisk (File Disk)
open PWal (St Ent Chg)
set_option linter.unusedVariables false
set_option maxRecDepth 100000

/-! ### may a snapshot be so -/
theorem maySnap_any (i t : Int) (d : ByteArray) (w : World) : Calls Tryz.prog 71 #[.agg #[.int .i64 i, .int .i64 t, .string d]] w fun e w' => e = .returned (.bool (PWal.mayBe i && PWal.mayBe t)) ∧ Below w.heap.size w w' := by
  have QI := Lib.hid (fun V => mayBe_any i V)
  have QT := Lib.hid (fun V => mayBe_any t V)
  have HB := Lib.hid (below_new w (.cells #[.int .i64 i, .int .i64 t, .string d] 37))
  generalize PWal.mayBe i = mi at *
  generalize PWal.mayBe t = mt at *
  cases mi
  · go_enter Tryz.func71, Tryz.ntmps71
    go_wp2_with fail
    refine (QI.out _).mono ?_
    rintro e w2 ⟨rfl, rfl⟩
    go_wp2_with fail
    go_ret
    exact ⟨rfl, HB.out⟩
  · go_enter Tryz.func71, Tryz.ntmps71
    go_wp2_with fail
    refine (QI.out _).mono ?_
    rintro e w2 ⟨rfl, rfl⟩
    go_wp2_with fail
    refine (QT.out _).mono ?_
    rintro e w2 ⟨rfl, rfl⟩
    go_wp2_with fail
    go_ret
    exact ⟨by cases mt <;> rfl, HB.out⟩

/-! ### is a segment old -/
def OldRel (ls : List (List UInt8)) (si : Int) (w : World) (iV : Value) (wr : World) : Prop :=
  ∃ i : Nat, i ≤ ls.length ∧ iV = .int .i64 i ∧ Below w.heap.size w wr ∧ (ls.drop i).all (PWal.oldP si) = ls.all (PWal.oldP si)
theorem old_none {p : List UInt8} (si : Int) (h : PWal.chgOf p = none) : PWal.oldP si p = false := by unfold PWal.oldP; rw [h]
theorem old_some {p : List UInt8} {c : Chg} (si : Int) (h : PWal.chgOf p = some c) : PWal.oldP si p = decide (c.index ≤ si) := by unfold PWal.oldP; rw [h]
theorem isOld_eq (D : Disk) (si : Int) (n : Nat) : PWal.isOld D si n = (Fm.Fr.scan (PWal.rdB D (PWal.segN n))).1.all (PWal.oldP si) := rfl
set_option maxHeartbeats 2000000 in
theorem isOld_any {w : World} {bw b : Nat} {D : Disk} {s : St} {lv : Value} {S T : Nat → Prop} (h : Wl w bw b D s lv S T) (n : Nat) (hn : n ≤ 9999999999) : Calls Tryz.prog 130 #[.pointer (some ⟨bw, 0, none⟩), .int .i64 (n : Nat)] w fun e w' => e = .returned (.bool (PWal.isOld D s.sidx n)) ∧ Below w.heap.size w w' := by
  have hmf : ∀ (fn : Fn) (first cap : Array Value) (w : World), (Instr.makeFunc fn first cap).run Tryz.prog w = .ok (.func fn first cap) w := fun _ _ _ _ => rfl
  have HWL := Lib.hid h
  have HNI := Lib.hid (nameIs_seg n hn)
  have HFI := Lib.hid (file_any (w := w) (b := b) (bw := bw) HNI.out h.ws.ptr)
  have HRL := Lib.hid (rdB_le h.dk.fine (PWal.segN n))
  have HIO := Lib.hid (isOld_eq D s.sidx n)
  clear h
  go_enter Tryz.func130, Tryz.ntmps130
  go_wp2_with fail
  refine HFI.out.mono ?_
  rintro e w1 ⟨rfl, b1⟩
  have HB1 := Lib.hid b1
  have HRD := Lib.hid (read_any2 ((HWL.out.below b1).dk) HNI.out)
  clear b1
  go_wp2_with fail
  refine HRD.out.mono ?_
  rintro e w3 ⟨A3, c3, rfl, own3, b3⟩
  have HSC := Lib.hid (scan_pays rfl own3 b3.size (by have := HRL.out; omega))
  have HB3 := Lib.hid (HB1.out.trans (b3.mono HB1.out.size))
  obtain ⟨M, hM⟩ : ∃ M, M = (PWal.rdB D (PWal.segN n)).length := ⟨_, rfl⟩
  obtain ⟨q1, q2⟩ := scan_sizes (PWal.rdB D (PWal.segN n))
  have HC : Hid ((Fm.Fr.scan (PWal.rdB D (PWal.segN n))).1.length ≤ 131072) := Lib.hid (by have := HRL.out; omega)
  rw [← hM] at HSC HRL ⊢
  clear own3 b3 hM q1 q2
  go_wp2_with fail
  refine HSC.out.mono ?_
  rintro e w4 ⟨b4, A1, c1, rfl, hp⟩
  have HPA := Lib.hid hp
  have HB4 := Lib.hid (HB3.out.trans (b4.mono HB3.out.size))
  have W4 := Lib.hid (HWL.out.below HB4.out)
  obtain ⟨N, hNN⟩ : ∃ N, N = (Fm.Fr.scan (PWal.rdB D (PWal.segN n))).1.length := ⟨_, rfl⟩
  have HN := Lib.hid hNN
  rw [← hNN]
  generalize (Fm.Fr.scan (PWal.rdB D (PWal.segN n))).1 = ls at *
  generalize (Fm.Fr.scan (PWal.rdB D (PWal.segN n))).2 = wh at *
  clear b4 hp hNN
  go_wp2_with fail
  go_loopw [22] (OldRel ls s.sidx w4) (fun i _ => N - (intOf i).toNat)
  case atStart => exact ⟨0, by omega, rfl, Below.refl _ _, rfl⟩
  case round =>
    obtain ⟨i, hi, rfl, hbe, hal⟩ := hrel
    have BE := Lib.hid hbe
    have AL := Lib.hid hal
    rw [← HN.out] at hi
    by_cases hlt : i < N
    · obtain ⟨p, hx⟩ : ∃ x, ls[i]? = some x := ⟨_, List.getElem?_eq_getElem (by rw [← HN.out]; exact hlt)⟩
      have hkp := HPA.out.keep (w' := wr) fun q h0 h1 => hbe.block q h1
      obtain ⟨g0, off, rfl, hg0, hg1, hrow⟩ := hkp (by intro e; rw [e] at hx; simp at hx)
      obtain ⟨A2, n2, k0, k1, k2, k3⟩ := hrow i p hx
      have hgw : g0 < wr.heap.size := by have := hbe.size; omega
      have hba : Fm.BytesAt wr wr.heap.size A2 p := fun hne => by
        obtain ⟨b2, off2, r1, r2, r3, r4⟩ := k3 hne
        exact ⟨b2, off2, r1, by have := hbe.size; omega, r4⟩
      have HCH := Lib.hid (changeOf_any p A2 p.length n2 wr hba rfl k1 k2)
      rw [drop_atL hx, List.all_cons] at AL
      have hI0 : (0 : Int) ≤ (i : Int) := by omega
      have hI1 : (i : Int) < (N : Int) := by omega
      have hI2 : (N : Int) ≤ 131072 := by have := HC.out; have := HN.out; omega
      obtain ⟨m, hm⟩ : ∃ m, m = p.length := ⟨_, rfl⟩
      rw [← hm] at k0 HCH
      clear hbe hal hx hkp hrow k1 k2 k3 hba hm
      go_wp2_with fail
      refine HCH.out.mono ?_
      rintro e w5 ⟨b5, hcase⟩
      have B5 := Lib.hid (BE.out.trans (b5.mono BE.out.size))
      have W5 := Lib.hid (W4.out.below (BE.out.trans (b5.mono BE.out.size)))
      clear b5
      rcases hcase with ⟨cg, hcg, rfl⟩ | ⟨hcg, x0, x1, x2, x3, rfl⟩
      · rw [old_some _ hcg] at AL
        unfold chgV
        obtain ⟨ci, tr, ⟨ct, cd⟩⟩ := cg
        dsimp only at *
        obtain ⟨W6, hW6⟩ : ∃ W6, w5.alloc (.cells #[.int .i64 ci, .bool tr, .int .i64 ct, .string (str cd)] 112) = W6 := ⟨_, rfl⟩
        have HW6 := Lib.hid hW6
        have hb6 : Below w5.heap.size w5 W6 := hW6 ▸ below_new w5 _
        have hx6 : W6.heap[w5.heap.size]? = some (.cells #[.int .i64 ci, .bool tr, .int .i64 ct, .string (str cd)] 112 (0, 0)) := by rw [← hW6]; exact heap_alloc_new w5 _
        have p0 : W6.cell? ⟨w5.heap.size, 0, none⟩ = some (.int .i64 ci) := by rw [Lib.cell_of_heap hx6]; rfl
        obtain ⟨z0, z1, z2, d3, z4, z5, z6⟩ := (W5.out.below hb6).sat.at
        have B6 := Lib.hid (B5.out.trans (hb6.mono B5.out.size))
        clear z0 z1 z2 z4 z5 z6 hW6 hb6 hx6 hcg
        by_cases hle : ci ≤ s.sidx
        · have hgt : decide (s.sidx < ci) = false := by simp; omega
          rw [decide_eq_true hle, Bool.true_and] at AL
          go_wp2_with fail
          rw [HW6.out]
          go_quiet (fail)
          go_wp2_with fail
          go_roundw
          case rel => exact ⟨i + 1, by rw [← HN.out]; omega, by go_num, below_drewN B6.out _, AL.out⟩
          case measure => simp [intOf]; omega
        · have hgt : decide (s.sidx < ci) = true := by simp; omega
          rw [decide_eq_false hle, Bool.false_and] at AL
          go_wp2_with fail
          rw [HW6.out]
          go_quiet (fail)
          go_wp2_with fail
          go_ret
          exact ⟨by rw [HIO.out, ← AL.out]; rfl, HB4.out.trans ((below_drewN B6.out _).mono HB4.out.size)⟩
      · rw [old_none _ hcg, Bool.false_and] at AL
        have B6 : Hid (Below w4.heap.size w4 (w5.alloc (.cells #[.int .i64 x0, .bool x1, .int .i64 x2, .string x3] 112))) := Lib.hid (B5.out.alloc B5.out.size _)
        clear hcg
        go_wp2_with fail
        generalize w5.alloc (.cells #[.int .i64 x0, .bool x1, .int .i64 x2, .string x3] 112) = W6 at *
        go_quiet (fail)
        go_wp2_with fail
        go_ret
        exact ⟨by rw [HIO.out, ← AL.out]; rfl, HB4.out.trans ((below_drewN B6.out _).mono HB4.out.size)⟩
    · have hiN : i = N := by omega
      subst hiN
      rw [List.drop_of_length_le (by rw [HN.out]; exact Nat.le_refl _), List.all_nil] at AL
      clear hbe hal
      go_wp2_with fail
      go_ret
      exact ⟨by rw [HIO.out, ← AL.out]; rfl, HB4.out.trans (BE.out.mono HB4.out.size)⟩
end Go.Proofs.YtjcikhacekmcfaaGreatDoor
namespace Go.Proofs.YtjcikhacekmcfaaGreatDoor
open Go.RowKit
open PlainDisk (File Disk)
open PWal (St Ent Chg)
set_option linter.unusedVariables false
set_option maxRecDepth 100000

/-! ### has the log an entry -/
theorem has_no {s : St} {i : Int} (t : Int) (h : s.last < i) : PWal.has s i t = false := by
  unfold PWal.has
  rw [decide_eq_false (by omega), Bool.false_and]
theorem has_at {s : St} {i : Int} (t : Int) (h : i ≤ s.last) {K : Nat} (hK : K = (i - s.sidx - 1).toNat) {e : Ent} (he : s.log[K]? = some e) : PWal.has s i t = decide (e.term = t) := by
  unfold PWal.has
  rw [decide_eq_true h, Bool.true_and, ← hK, he]
  show (some e.term == some t) = decide (e.term = t)
  by_cases q : e.term = t
  · rw [q]; simp
  · simp [q]
set_option maxHeartbeats 1000000 in
theorem has_any {w : World} {bw b : Nat} {s : St} {lv : Value} (h : SAt w bw b s lv) (i t : Int) (hi0 : s.sidx < i) (hi1 : i ≤ 4611686018427387904) : Calls Tryz.prog 72 #[.pointer (some ⟨bw, 1, none⟩), .int .i64 i, .int .i64 t] w fun e w' => e = .returned (.bool (PWal.has s i t)) ∧ Below w.heap.size w w' := by
  have QL : Hid (∀ k, Calls Tryz.prog 115 #[.pointer (some ⟨bw, 1, none⟩)] (w.drewN k) fun e w' => e = .returned (.int .i64 s.last) ∧ ∃ m, w' = w.drewN m) := Lib.hid (fun k =>
    (last_drew (h.below (below_drewN (Below.refl _ _) k))).mono fun e w' q => ⟨q.1, by obtain ⟨m, r⟩ := q.2; exact ⟨k + m, by rw [r, World.drewN_drewN]⟩⟩)
  have QB : Hid (∀ V, Below w.heap.size w V → Calls Tryz.prog 115 #[.pointer (some ⟨bw, 1, none⟩)] V fun e w' => e = .returned (.int .i64 s.last) ∧ Below V.heap.size V w') := Lib.hid (fun V hb => last_any (h.below hb))
  obtain ⟨z0, z1, z2, c3, z4, z5, c6⟩ := h.at
  have hl := h.lt
  have f := h.fine
  have h0 := f.i0
  have h1 := f.i1
  have h2 := f.len
  have hla : s.last = s.sidx + (s.log.length : Nat) := rfl
  by_cases hle : i ≤ s.last
  · have hlt : (i - s.sidx - 1).toNat < s.log.length := by omega
    obtain ⟨K, hK⟩ : ∃ K, K = (i - s.sidx - 1).toNat := ⟨_, rfl⟩
    obtain ⟨e, he⟩ : ∃ x, s.log[K]? = some x := ⟨_, List.getElem?_eq_getElem (by rw [hK]; exact hlt)⟩
    have HH := Lib.hid (has_at t hle hK he)
    obtain ⟨A, c, rfl, hlc, hc63, _⟩ := h.form
    obtain ⟨g, rfl, hg, _⟩ := own_at h.log (entC_at he).1
    have hwl := World.block_lt_of_cell? w _ hg
    have hw0 : IntKind.i64.wrap (i - s.sidx) = i - s.sidx := IntWalk.i64_in _ (by omega)
    have hw1 : IntKind.i64.wrap (i - s.sidx - 1) = (K : Int) := by rw [IntWalk.i64_in _ (by omega)]; omega
    have hKi0 : (0 : Int) ≤ (K : Int) := by omega
    have hKi1 : (K : Int) < (s.log.length : Int) := by omega
    have hxi : i - s.sidx - 1 = (K : Int) := by omega
    have hKn : K < s.log.length := by omega
    generalize s.last = la at *
    generalize s.sidx = si at *
    generalize s.log.length = n at *
    generalize e.term = et at *
    clear z0 z1 z2 z4 z5 h f hla hlt hK he h0 h1 h2
    have hp : (n : Int) ≤ (c : Int) := by omega
    rw [HH.out]
    go_enter Tryz.func72, Tryz.ntmps72
    go_wp2_with fail
    go_quiet (first | (go_at_call 115; exact QL.out _))
    go_wp2_with fail
    go_ret
    exact ⟨rfl, below_drewN (Below.refl _ _) _⟩
  · have hgt : s.last < i := by omega
    have HH := Lib.hid (has_no t hgt)
    generalize s.last = la at *
    have hd : decide (i ≤ la) = false := decide_eq_false hle
    clear z0 z1 z2 z4 z5 h f hla h0 h1 h2 hle hgt
    rw [HH.out]
    go_enter Tryz.func72, Tryz.ntmps72
    go_wp2_with fail
    go_quiet (first | (go_at_call 115; exact QL.out _))
    go_wp2_with fail
    go_ret
    exact ⟨rfl, below_drewN (Below.refl _ _) _⟩

/-! ### the log is emptied -/
theorem last_lt {s : St} (f : FineS s) : s.sidx + 1 ≤ s.last + 1 := by
  show s.sidx + 1 ≤ s.sidx + (s.log.length : Nat) + 1
  omega
end Go.Proofs.YtjcikhacekmcfaaGreatDoor
namespace Go.Proofs.YtjcikhacekmcfaaGreatDoor
open Go.RowKit
open PlainDisk (File Disk)
open PWal (St Ent Chg)
set_option linter.unusedVariables false
set_option maxRecDepth 100000

/-! ### the old segments are dropped -/
def OldsRel (l : List Nat) (f : Nat → Bool) (w : World) (iV : Value) (wr : World) : Prop :=
  ∃ i : Nat, i ≤ l.length - 1 ∧ iV = .int .i64 i ∧ Below w.heap.size w wr ∧ (l.take (l.length - 1)).takeWhile f = l.take i ++ ((l.take (l.length - 1)).drop i).takeWhile f
theorem slice_hiN (A : Option Addr) (n c k : Nat) (h1 : k ≤ c) (W : World) :
    (Instr.slice 116 (.slice A n c) none (some (.int .i64 (k : Nat))) none).run Tryz.prog W = .ok (.slice A k c) W := by
  have hk : (k : Int) ≤ (c : Int) := by omega
  have h0 : (0 : Int) ≤ (k : Int) := by omega
  go_simp
theorem nums_take {w : World} {base : Nat} {S : Nat → Prop} {A : Option Addr} {c i : Nat} {l : List Nat} (h : w.ownsRow base 118 1 (.slice A l.length c) l.length (segV l)) (hS : ∀ g, A = some ⟨g, 0, none⟩ → ¬ S g) : NumsAt w S A (l.take i) := fun hne => by
  have hl : l ≠ [] := fun e => hne (by rw [e]; simp)
  obtain ⟨x, hx⟩ : ∃ x, l[0]? = some x := ⟨_, List.getElem?_eq_getElem (by cases l with | nil => exact absurd rfl hl | cons y r => simp)⟩
  obtain ⟨g, rfl, q⟩ := own_num h hx
  refine ⟨g, 0, rfl, hS g rfl, World.block_lt_of_cell? w _ q, fun j y hy => ?_⟩
  rw [List.getElem?_take] at hy
  split at hy
  · obtain ⟨g2, e2, q2⟩ := own_num h hy
    injection e2 with e2
    injection e2 with e2
    rw [Nat.zero_add, e2]; exact q2
  · cases hy
set_option maxHeartbeats 2000000 in
theorem dropOld_any {w : World} {bw b : Nat} {D : Disk} {s : St} {lv : Value} {S T : Nat → Prop} (h : Wl w bw b D s lv S T) : Calls Tryz.prog 77 #[.pointer (some ⟨bw, 0, none⟩)] w (StepP (PWal.dropOld D s.sidx) b S w) := by
  have HWL := Lib.hid h
  have HS := Lib.hid (segments_any h.ws)
  have HL64 := Lib.hid (segs_many h.dk.fine.inv.many)
  have HLT := Lib.hid (fun n (hn : n ∈ PWal.segs D) => segs_lt D hn)
  have HD : Hid (PWal.dropOld D s.sidx = PWal.drops (((PWal.segs D).take ((PWal.segs D).length - 1)).takeWhile (PWal.isOld D s.sidx)) D) := Lib.hid rfl
  clear h
  go_enter Tryz.func77, Tryz.ntmps77
  go_wp2_with fail
  refine HS.out.mono ?_
  rintro e w1 ⟨A, c, rfl, own, b1⟩
  have OWN := Lib.hid own
  have HB1 := Lib.hid b1
  obtain ⟨hcN, hc63⟩ : (PWal.segs D).length ≤ c ∧ c ≤ 9223372036854775807 := by
    obtain ⟨A', c', e, q1, q2, _⟩ := own_form own
    obtain rfl : c = c' := by injection e
    exact ⟨q1, q2⟩
  generalize PWal.segs D = l at *
  obtain ⟨N, hN⟩ : ∃ N, N = l.length := ⟨_, rfl⟩
  have HN := Lib.hid hN
  rw [← hN] at hcN ⊢
  have hN64 : N ≤ 64 := by have := HL64.out; omega
  clear own b1 hN
  go_wp2_with fail
  go_loopw [4] (OldsRel l (PWal.isOld D s.sidx) w1) (fun i _ => N - (intOf i).toNat)
  case atStart => exact ⟨0, by omega, rfl, Below.refl _ _, by rw [List.take_zero, List.nil_append, List.drop_zero]⟩
  case round =>
    obtain ⟨i, hi, rfl, hbe, hal⟩ := hrel
    have BE := Lib.hid hbe
    have AL := Lib.hid hal
    rw [← HN.out] at hi
    have HBE := Lib.hid (HB1.out.trans (hbe.mono HB1.out.size))
    have OWR : Hid (wr.ownsRow w.heap.size 118 1 (.slice A l.length c) l.length (segV l)) := Lib.hid (own_belows OWN.out hbe)
    have hwn : IntKind.i64.wrap ((N : Int) - 1) = (N : Int) - 1 := IntWalk.i64_in _ (by omega)
    have hsl := slice_hiN A N c i (by omega)
    -- the end: what was found is dropped
    have FIN : Hid (∀ V, Below wr.heap.size wr V → PWal.drops (l.take i) D = PWal.dropOld D s.sidx → Calls Tryz.prog 90 #[.pointer (some ⟨bw, 0, none⟩), .slice A i c] V fun e w' => StepP (PWal.dropOld D s.sidx) b S w e w') := Lib.hid (fun V hb hq => by
      have hbv := HBE.out.trans (hb.mono HBE.out.size)
      refine (dropSegs_any ((HWL.out.below hbv).ws) (l.take i) A i c (by rw [List.length_take, ← HN.out]; omega) (by omega) (fun q hq => HLT.out q (List.mem_of_mem_take hq)) (nums_take (own_belows OWR.out hb) fun g e hS => ?_)).mono ?_
      · have h1 := (HWL.out.dk.blk g hS).2
        rcases OWN.out.2 with ⟨e1, _⟩ | ⟨g2, cap, cur, e1, e2, _⟩
        · rw [e] at e1; injection e1 with e1; cases e1
        · rw [e] at e1
          injection e1 with e1
          injection e1 with e1
          injection e1 with e1
          omega
      · rintro e w' ⟨rfl, t⟩
        rw [hq] at t ⊢
        exact ⟨rfl, t.before hbv⟩)
    by_cases hlt : i < N - 1
    · obtain ⟨n, hx⟩ : ∃ x, l[i]? = some x := ⟨_, List.getElem?_eq_getElem (by rw [← HN.out]; omega)⟩
      obtain ⟨g, rfl, q0⟩ := own_num OWR.out hx
      have hgw := World.block_lt_of_cell? wr _ q0
      have HIO := Lib.hid (isOld_any (HWL.out.below HBE.out) n (HLT.out n (List.mem_of_getElem? hx)))
      have hx2 : (l.take (l.length - 1))[i]? = some n := by rw [List.getElem?_take, if_pos (by rw [← HN.out]; exact hlt)]; exact hx
      rw [drop_atL hx2, List.takeWhile_cons] at AL
      have hT : l.take (i + 1) = l.take i ++ [n] := by rw [List.take_add_one, hx]; rfl
      have HTK := Lib.hid hT
      have hI0 : (0 : Int) ≤ (i : Int) := by omega
      have hI1 : (i : Int) < (N : Int) := by omega
      have hI2 : (i : Int) < (N : Int) - 1 := by omega
      have hI3 : (N : Int) ≤ 64 := by omega
      clear hbe hal hx hx2 hT
      cases hB : PWal.isOld D s.sidx n
      · rw [hB] at AL HIO
        have EQ : Hid (PWal.drops (l.take i) D = PWal.dropOld D s.sidx) := Lib.hid (by rw [HD.out, AL.out]; simp)
        clear hB
        go_wp2_with fail
        refine HIO.out.mono ?_
        rintro e w3 ⟨rfl, b3⟩
        have F3 := Lib.hid (FIN.out w3 b3 EQ.out)
        clear b3
        go_wp2_with fail
        refine F3.out.mono ?_
        rintro e w4 ⟨rfl, t4⟩
        have T4 := Lib.hid t4
        clear t4
        go_wp2_with fail
        go_ret
        exact ⟨rfl, T4.out⟩
      · rw [hB] at AL HIO
        clear hB
        go_wp2_with fail
        refine HIO.out.mono ?_
        rintro e w3 ⟨rfl, b3⟩
        have B3 := Lib.hid (BE.out.trans (b3.mono BE.out.size))
        clear b3
        go_wp2_with fail
        go_roundw
        case rel => exact ⟨i + 1, by rw [← HN.out]; omega, by go_num, B3.out, by rw [AL.out, HTK.out]; simp⟩
        case measure => simp [intOf]; omega
    · have EQ : Hid (PWal.drops (l.take i) D = PWal.dropOld D s.sidx) := Lib.hid (by
        rw [HD.out, AL.out, List.drop_of_length_le (by rw [List.length_take, ← HN.out]; omega)]; simp)
      have F3 := Lib.hid (FIN.out wr (Below.refl _ _) EQ.out)
      have hI2 : ¬ (i : Int) < (N : Int) - 1 := by omega
      clear hbe hal
      go_wp2_with fail
      refine F3.out.mono ?_
      rintro e w4 ⟨rfl, t4⟩
      have T4 := Lib.hid t4
      clear t4
      go_wp2_with fail
      go_ret
      exact ⟨rfl, T4.out⟩
end Go.Proofs.YtjcikhacekmcfaaGreatDoor
namespace Go.Proofs.YtjcikhacekmcfaaGreatDoor
open Go.RowKit
open PlainDisk (File Disk)
open PWal (St Ent Chg)
set_option linter.unusedVariables false
set_option maxRecDepth 100000

/-! ### the log is emptied -/
theorem clear_eq (D : Disk) (s : St) : PWal.clearLog D s = if (PWal.andThen (PWal.write D (Chg.enc ⟨s.sidx + 1, true, ⟨0, []⟩⟩)) PWal.sync).2 = 0 then ((PWal.andThen (PWal.write D (Chg.enc ⟨s.sidx + 1, true, ⟨0, []⟩⟩)) PWal.sync).1, PWal.apply ⟨s.sidx + 1, true, ⟨0, []⟩⟩ s, 0) else ((PWal.andThen (PWal.write D (Chg.enc ⟨s.sidx + 1, true, ⟨0, []⟩⟩)) PWal.sync).1, s, (PWal.andThen (PWal.write D (Chg.enc ⟨s.sidx + 1, true, ⟨0, []⟩⟩)) PWal.sync).2) := rfl
set_option maxHeartbeats 2000000 in
theorem clearLog_any {w : World} {bw b : Nat} {D : Disk} {s : St} {T : Nat → Prop} (h : Wal w bw b D s T) (hs : s.sidx < 4611686018427387904) (hl : s.log.length < 10000000) : Calls Tryz.prog 73 #[.pointer (some ⟨bw, 0, none⟩)] w (CallP (PWal.clearLog D s) bw b T w) := by
  obtain ⟨⟨lv, S, hwl⟩, hT⟩ := h
  have HWL := Lib.hid hwl
  have HT := Lib.hid hT
  have HCE := Lib.hid (clear_eq D s)
  have h0 := hwl.sat.fine.i0
  obtain ⟨z0, z1, z2, d3, z4, z5, z6⟩ := hwl.sat.at
  have hbwl := hwl.sat.lt
  have hb112 := bld112a
  have hw1 : IntKind.i64.wrap (s.sidx + 1) = s.sidx + 1 := IntWalk.i64_in _ (by omega)
  have HOK : OkC ⟨s.sidx + 1, true, ⟨0, []⟩⟩ := ⟨⟨by show (-9223372036854775808 : Int) ≤ s.sidx + 1; omega, by show s.sidx + 1 ≤ 9223372036854775807; omega⟩, ⟨by show (-9223372036854775808 : Int) ≤ 0; omega, by show (0 : Int) ≤ 9223372036854775807; omega⟩, Nat.zero_le _⟩
  have hla : s.sidx + 1 ≤ s.last + 1 := last_lt hwl.sat.fine
  obtain ⟨W1, hW1⟩ : ∃ W1, w.alloc (.cells #[.int .i64 (s.sidx + 1), .bool true, .int .i64 0, .string ⟨#[]⟩] 112) = W1 := ⟨_, rfl⟩
  have HW1 := Lib.hid hW1
  have hb1 : Below w.heap.size w W1 := hW1 ▸ below_new w _
  have hx1 : W1.heap[w.heap.size]? = some (.cells #[.int .i64 (s.sidx + 1), .bool true, .int .i64 0, .string ⟨#[]⟩] 112 (0, 0)) := by rw [← hW1]; exact heap_alloc_new w _
  have HX1 := Lib.hid hx1
  have HB1 := Lib.hid hb1
  have BOX : Hid (∀ V : World, V.heap[w.heap.size]? = W1.heap[w.heap.size]? → V.cell? ⟨w.heap.size, 0, none⟩ = some (.int .i64 (s.sidx + 1)) ∧ V.cell? ⟨w.heap.size, 1, none⟩ = some (.bool true) ∧ V.cell? ⟨w.heap.size, 2, none⟩ = some (.int .i64 0) ∧ V.cell? ⟨w.heap.size, 3, none⟩ = some (.string ⟨#[]⟩)) := Lib.hid (fun V hb => by
    have hv := hb.trans HX1.out
    refine ⟨?_, ?_, ?_, ?_⟩ <;> (rw [Lib.cell_of_heap hv]; rfl))
  obtain ⟨p0, p1, p2, p3⟩ := BOX.out W1 rfl
  have WL1 := Lib.hid (hwl.below hb1)
  have HWR := Lib.hid (write_any2 (WL1.out.ws) ⟨s.sidx + 1, true, ⟨0, []⟩⟩ HOK)
  have HAP0 := Lib.hid (fun (V : World) (lv : Value) (q : SAt V bw b s lv) => apply_any q ⟨s.sidx + 1, true, ⟨0, []⟩⟩ (by show 1 ≤ s.sidx + 1; omega) hla (by show s.sidx + 1 ≤ _; omega) hl ⟨by show (-9223372036854775808 : Int) ≤ 0; omega, by show (0 : Int) ≤ 9223372036854775807; omega⟩ (Nat.zero_le _))
  unfold chgV at HWR HAP0
  generalize PWal.apply ⟨s.sidx + 1, true, ⟨0, []⟩⟩ s = s2 at *
  generalize Chg.enc ⟨s.sidx + 1, true, ⟨0, []⟩⟩ = enc at *
  dsimp only at HWR HAP0
  rw [show str ([] : List UInt8) = ⟨#[]⟩ from rfl] at HWR HAP0
  generalize hsi : s.sidx = si at *
  have HT1 := Lib.hid (fun k (hk : T k) => (⟨(hT k hk).1, Nat.lt_of_lt_of_le (hT k hk).2 hb1.size⟩ : 3 ≤ k ∧ k < W1.heap.size))
  have HZ1 : Hid (w.heap.size < W1.heap.size) := Lib.hid (Array.getElem?_eq_some_iff.1 hx1).1
  clear hwl hT z0 z1 z2 z4 z5 z6 HOK hla hW1 hb1 hx1 hs hl h0
  go_enter Tryz.func73, Tryz.ntmps73
  go_wp2_with fail
  rw [HW1.out]
  go_wp2_with fail
  refine HWR.out.mono ?_
  rintro e w2 ⟨rfl, t2⟩
  obtain ⟨S2, T2, wl2, hT2, upS2, upT2, fr2⟩ := WL1.out.disk HT1.out t2
  have W2 := Lib.hid wl2
  have R2 := Lib.hid hT2
  have F2 := Lib.hid fr2
  have U2 := Lib.hid upT2
  generalize PWal.write D enc = r at *
  obtain ⟨D2, e2⟩ := r
  clear t2 wl2 hT2 upS2 upT2 fr2 p0 p1 p2 p3
  by_cases he : e2 = 0
  · subst he
    have HSY := Lib.hid (sync_any (W2.out.ws))
    go_wp2_with fail
    refine HSY.out.mono ?_
    rintro e w3 ⟨rfl, t3⟩
    obtain ⟨S3, T3, wl3, hT3, upS3, upT3, fr3⟩ := W2.out.disk R2.out t3
    have W3 := Lib.hid wl3
    have R3 := Lib.hid hT3
    have F3 : Hid (Fr T W1 w3) := Lib.hid (fr_fr F2.out U2.out fr3)
    have U3 : Hid (∀ q, T3 q → Up T W1 w3 q) := Lib.hid (up_up U2.out upT3 F2.out.size fr3.size)
    have HCE2 : Hid (PWal.clearLog D s = if (PWal.sync D2).2 = 0 then ((PWal.sync D2).1, s2, 0) else ((PWal.sync D2).1, s, (PWal.sync D2).2)) := Lib.hid HCE.out
    generalize PWal.sync D2 = r at *
    obtain ⟨D3, e3⟩ := r
    clear t3 wl3 hT3 upS3 upT3 fr3
    by_cases he3 : e3 = 0
    · subst he3
      rw [if_pos rfl] at HCE2
      have HBX3 : Hid (w3.heap[w.heap.size]? = W1.heap[w.heap.size]?) := Lib.hid (F3.out.block _ HZ1.out fun q => by have := (HT.out _ q).2; omega)
      have D4 : Hid (Below w3.heap.size w3 w3.drew) := Lib.hid (Below.refl _ w3).drew
      have HAP := Lib.hid (HAP0.out w3.drew _ ((W3.out.below D4.out).sat))
      obtain ⟨p0, p1, p2, p3⟩ := BOX.out w3 HBX3.out
      have BX4 : Hid (∀ V lv2, SatTo w3.drew V bw b s2 lv lv2 → V.cell? ⟨w.heap.size, 0, none⟩ = some (.int .i64 (si + 1)) ∧ V.cell? ⟨w.heap.size, 1, none⟩ = some (.bool true) ∧ V.cell? ⟨w.heap.size, 2, none⟩ = some (.int .i64 0) ∧ V.cell? ⟨w.heap.size, 3, none⟩ = some (.string ⟨#[]⟩)) := Lib.hid (fun V lv2 ht => BOX.out V ((ht.fr.block _ (by show w.heap.size < w3.heap.size; have := HZ1.out; have := F3.out.size; omega) (fun q => by
          rcases q with q | q
          · have := HWL.out.sat.lt; omega
          · have := HWL.out.log_lt _ q; omega)).trans HBX3.out))
      go_wp2_with fail
      go_region_held3 (fun V => V.cell? ⟨w.heap.size, 0, none⟩ = some (.int .i64 (si + 1)) ∧ V.cell? ⟨w.heap.size, 1, none⟩ = some (.bool true) ∧ V.cell? ⟨w.heap.size, 2, none⟩ = some (.int .i64 0) ∧ V.cell? ⟨w.heap.size, 3, none⟩ = some (.string ⟨#[]⟩)) (first | exact BOX.out _ HBX3.out | exact BX4.out _ _ T5.out)
        (first | (go_at_call 66; (with_reducible refine HAP.out.mono ?_); rintro e w5 ⟨rfl, lv2, t5⟩; have T5 := Lib.hid t5; clear t5))
      obtain ⟨wl5, fr5⟩ := (W3.out.below D4.out).sat_to T5.out
      have FIN : Hid (WalTo w w5 bw b D3 s2 T) := Lib.hid (by
        refine WalTo.before HB1.out (WalTo.go U3.out F3.out (WalTo.before D4.out ⟨_, ⟨⟨_, _, wl5⟩, fun k hk => ?_⟩, fun k hk => hk, fr5⟩))
        have g3 := W3.out.dk.glob.size
        rcases hk with q | q
        · have := R3.out k q; have := fr5.size; exact ⟨this |> fun _ => (R3.out k q).1, Nat.lt_of_lt_of_le (R3.out k q).2 fr5.size⟩
        · exact ⟨by have : w3.drew.heap.size = w3.heap.size := rfl; omega, q.2⟩)
      clear wl5 fr5
      go_wp2_with fail
      go_ret
      exact ⟨by rw [HCE2.out]; rfl, by rw [HCE2.out]; exact FIN.out⟩
    · rw [if_neg he3] at HCE2
      have FIN : Hid (WalTo w w3 bw b D3 s T) := Lib.hid (WalTo.before HB1.out ⟨T3, ⟨⟨_, _, W3.out⟩, R3.out⟩, U3.out, F3.out⟩)
      go_wp2_with fail
      go_ret
      exact ⟨by rw [HCE2.out]; rfl, by rw [HCE2.out]; exact FIN.out⟩
  · have HCE2 : Hid (PWal.clearLog D s = (D2, s, e2)) := Lib.hid (by
      rw [HCE.out]
      unfold PWal.andThen
      rw [if_neg he, if_neg he])
    have FIN : Hid (WalTo w w2 bw b D2 s T) := Lib.hid (WalTo.before HB1.out ⟨T2, ⟨⟨_, _, W2.out⟩, R2.out⟩, U2.out, F2.out⟩)
    go_wp2_with fail
    go_ret
    exact ⟨by rw [HCE2.out]; rfl, by rw [HCE2.out]; exact FIN.out⟩
end Go.Proofs.YtjcikhacekmcfaaGreatDoor
