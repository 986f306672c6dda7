import Derived.Test.YtjcikhacekmcfaaGreatDoorOc
import Derived.BigQuiet
namespace Go.Proofs.YtjcikhacekmcfaaGreatDoor
open Go.RowKit
open PlainDisk (File Disk)
open PWal (St Ent Chg)
set_option linter.unusedVariables false
set_option maxRecDepth 100000

/-! ### a wal, its disk and its state in memory, within the blocks of T -/
structure Wl (w : World) (bw b : Nat) (D : Disk) (s : St) (lv : Value) (S T : Nat → Prop) : Prop where
  dk : Dk w b D S
  sat : SAt w bw b s lv
  nin : ¬ S bw
  ninl : ∀ k, lv.ownBlock = some k → ¬ S k
  low : 3 ≤ bw ∧ ∀ k, lv.ownBlock = some k → 3 ≤ k
  cov : ∀ k, (S k ∨ k = bw ∨ lv.ownBlock = some k) → T k
def Wal (w : World) (bw b : Nat) (D : Disk) (s : St) (T : Nat → Prop) : Prop := (∃ lv S, Wl w bw b D s lv S T) ∧ ∀ k, T k → 3 ≤ k ∧ k < w.heap.size
/-- it has become another, and nothing else was touched -/
def WalTo (w w' : World) (bw b : Nat) (D' : Disk) (s' : St) (T : Nat → Prop) : Prop := ∃ T', Wal w' bw b D' s' T' ∧ (∀ k, T' k → Up T w w' k) ∧ Fr T w w'
section
variable {w w1 w' : World} {bw b : Nat} {D D' : Disk} {s s' : St} {lv : Value} {S T : Nat → Prop}
theorem Wl.ws (h : Wl w bw b D s lv S T) : Ws w bw b D S := ⟨h.dk, h.sat.at.1, h.nin⟩
theorem Wl.log_lt (h : Wl w bw b D s lv S T) : ∀ k, lv.ownBlock = some k → k < w.heap.size := fun k hk => (World.ownsRow.lt h.sat.log k hk).2
theorem Wl.below (h : Wl w bw b D s lv S T) (hb : Below w.heap.size w w') : Wl w' bw b D s lv S T := ⟨h.dk.below hb, h.sat.below hb, h.nin, h.ninl, h.low, h.cov⟩
/-- the disk alone has changed -/
theorem Wl.disk (h : Wl w bw b D s lv S T) (hT : ∀ k, T k → 3 ≤ k ∧ k < w.heap.size) (ht : DkTo w w' b D' S) : ∃ S' T', Wl w' bw b D' s lv S' T' ∧ (∀ k, T' k → 3 ≤ k ∧ k < w'.heap.size) ∧ (∀ k, S' k → Up S w w' k) ∧ (∀ k, T' k → Up T w w' k) ∧ Fr T w w' := by
  obtain ⟨S', q1, q2, q3⟩ := ht
  have hlt := h.sat.lt
  refine ⟨S', Up T w w', ⟨q1, ⟨?_, ?_, h.sat.fine⟩, ?_, ?_, h.low, ?_⟩, ?_, q2, fun k hk => hk, ?_⟩
  · exact (q3.block bw hlt h.nin).trans h.sat.cells
  · exact own_frame h.sat.log fun k hk => q3.block k (h.log_lt k hk) (h.ninl k hk)
  · exact up_not q2 h.nin hlt
  · exact fun k hk => up_not q2 (h.ninl k hk) (h.log_lt k hk)
  · rintro k (hk | hk | hk)
    · exact (q2 k hk).imp (fun r => h.cov k (.inl r)) id
    · exact .inl (h.cov k (.inr (.inl hk)))
    · exact .inl (h.cov k (.inr (.inr hk)))
  · intro k hk
    have h3 := h.dk.glob.size
    rcases hk with r | r
    · exact ⟨(hT k r).1, Nat.lt_of_lt_of_le (hT k r).2 q3.size⟩
    · exact ⟨by omega, r.2⟩
  · exact ⟨q3.os, q3.tape, q3.output, q3.size, fun k hk hn => q3.block k hk fun q => hn (h.cov k (.inl q))⟩
theorem WalTo.go {T1 : Nat → Prop} (h1 : ∀ k, T1 k → Up T w w1 k) (hf : Fr T w w1) (h : WalTo w1 w' bw b D' s' T1) : WalTo w w' bw b D' s' T := by
  obtain ⟨T2, q1, q2, q3⟩ := h
  refine ⟨T2, q1, fun k hk => ?_, hf.trans q3 fun i hi => (h1 i hi).elim .inl fun q => .inr q.1⟩
  rcases q2 k hk with q | q
  · rcases h1 k q with q | q
    · exact .inl q
    · exact .inr ⟨q.1, by have := q3.size; omega⟩
  · exact .inr ⟨by have := hf.size; omega, q.2⟩
theorem WalTo.before (hb : Below w.heap.size w w1) (h : WalTo w1 w' bw b D' s' T) : WalTo w w' bw b D' s' T := WalTo.go (fun k hk => .inl hk) (Fr.of_below hb) h
theorem Wal.below (h : Wal w bw b D s T) (hb : Below w.heap.size w w') : Wal w' bw b D s T := by
  obtain ⟨⟨lv, S, q⟩, hT⟩ := h
  exact ⟨⟨lv, S, q.below hb⟩, fun k hk => ⟨(hT k hk).1, Nat.lt_of_lt_of_le (hT k hk).2 hb.size⟩⟩
theorem Wal.stays (h : Wal w bw b D s T) (hb : Below w.heap.size w w') : WalTo w w' bw b D s T := ⟨T, h.below hb, fun k hk => .inl hk, Fr.of_below hb⟩
end
theorem Dk.fr {w w' : World} {b : Nat} {D : Disk} {S Q : Nat → Prop} (h : Dk w b D S) (hf : Fr Q w w') (hq : ∀ k, Q k → ¬ S k ∧ 3 ≤ k) : Dk w' b D S :=
  ⟨h.is.frame fun k x hx hS => (hf.block k (Array.getElem?_eq_some_iff.1 hx).1 (fun q => (hq k q).1 hS)).trans hx, h.fine,
   h.glob.keep fun k hk => hf.block k (by have := h.glob.size; omega) (fun q => by have := (hq k q).2; omega), fun k hk => ⟨(h.blk k hk).1, Nat.lt_of_lt_of_le (h.blk k hk).2 hf.size⟩⟩
/-- the state's own cells have changed, the log has not -/
theorem Wl.poke {w w' : World} {bw b : Nat} {D : Disk} {s s' : St} {lv : Value} {S T : Nat → Prop} (h : Wl w bw b D s lv S T) (hf : Fr (fun k => k = bw) w w') (hc : w'.heap[bw]? = some (.cells (stC b s' lv) 91 (0, 0))) (hs : s'.log = s.log) (hF : FineS s') :
    Wl w' bw b D s' lv S T := by
  refine ⟨h.dk.fr hf (fun k hk => by subst hk; exact ⟨h.nin, h.low.1⟩), ⟨hc, ?_, hF⟩, h.nin, h.ninl, h.low, h.cov⟩
  rw [hs]
  refine own_frame h.sat.log fun k hk => hf.block k (h.log_lt k hk) fun e => ?_
  subst e
  -- the log's block is no wal's
  rcases h.sat.log.2 with ⟨e1, _⟩ | ⟨g, cap, cur, e1, _, hh, _⟩
  · rw [e1] at hk; simp [Value.ownBlock] at hk
  · rw [e1] at hk
    simp only [Value.ownBlock, Option.some.injEq] at hk
    subst hk
    rw [h.sat.cells] at hh
    injection hh with hh
    injection hh with _ h2
    exact absurd h2 (by decide)
theorem Wl.to {w0 w w' : World} {bw b : Nat} {D : Disk} {s s' : St} {lv : Value} {S T T0 : Nat → Prop} (h : Wl w bw b D s lv S T) (hT : ∀ k, T k → 3 ≤ k ∧ k < w.heap.size) (hu : ∀ k, T k → Up T0 w0 w k) (hf0 : Fr T0 w0 w) (hf : Fr (fun k => k = bw) w w') (hc : w'.heap[bw]? = some (.cells (stC b s' lv) 91 (0, 0))) (hs : s'.log = s.log) (hF : FineS s') :
    WalTo w0 w' bw b D s' T0 :=
  WalTo.go hu hf0 ⟨T, ⟨⟨lv, S, h.poke hf hc hs hF⟩, fun k hk => ⟨(hT k hk).1, Nat.lt_of_lt_of_le (hT k hk).2 hf.size⟩⟩, fun k hk => .inl hk,
    ⟨hf.os, hf.tape, hf.output, hf.size, fun k hk hn => hf.block k hk fun q => hn (q ▸ h.cov _ (.inr (.inl rfl)))⟩⟩
/-- a call that answers an error -/
def CallP (r : Disk × St × Int) (bw b : Nat) (T : Nat → Prop) (w : World) (e : Ending) (w' : World) : Prop := e = .returned (.int .i64 r.2.2) ∧ WalTo w w' bw b r.1 r.2.1 T
theorem vote_no {D : Disk} {s : St} {t v : Int} (h : t < s.term ∨ 4611686018427387904 < t ∨ PWal.mayVote v = false) : PWal.vote D s t v = (D, s, 1) := by unfold PWal.vote; exact if_pos h
theorem vote_yes {D : Disk} {s : St} {t v : Int} (h : ¬ (t < s.term ∨ 4611686018427387904 < t ∨ PWal.mayVote v = false)) : PWal.vote D s t v = if (PWal.writeVote D (PWal.rcdOf [PWal.num t, PWal.num v])).2 = 0 then ((PWal.writeVote D (PWal.rcdOf [PWal.num t, PWal.num v])).1, { s with term := t, vote := v }, 0) else ((PWal.writeVote D (PWal.rcdOf [PWal.num t, PWal.num v])).1, s, (PWal.writeVote D (PWal.rcdOf [PWal.num t, PWal.num v])).2) := by unfold PWal.vote; exact if_neg h
set_option maxHeartbeats 2000000 in
theorem vote_any {w : World} {bw b : Nat} {D : Disk} {s : St} {T : Nat → Prop} (h : Wal w bw b D s T) (t v : Int) (ht : Wr.InR t) (hv : Wr.InR v) : Calls Tryz.prog 34 #[.pointer (some ⟨bw, 0, none⟩), .int .i64 t, .int .i64 v] w (CallP (PWal.vote D s t v) bw b T w) := by
  have HW := Lib.hid h
  obtain ⟨⟨lv, S, hwl⟩, hT⟩ := h
  obtain ⟨c0, c1, c2, c3, c4, c5, c6⟩ := hwl.sat.at
  have hl := hwl.sat.lt
  have HMV := Lib.hid (fun n W => mayVote_any n W)
  by_cases hno : t < s.term ∨ 4611686018427387904 < t ∨ PWal.mayVote v = false
  · have HR := Lib.hid (vote_no (D := D) hno)
    have HF := Lib.hid (HW.out.stays (Below.refl _ _))
    clear hwl hT
    by_cases a : t < s.term
    · clear hno
      go_enter Tryz.func34, Tryz.ntmps34
      go_wp2_with fail
      go_ret
      exact ⟨by rw [HR.out]; rfl, by rw [HR.out]; exact HF.out⟩
    · by_cases c : 4611686018427387904 < t
      · clear hno
        go_enter Tryz.func34, Tryz.ntmps34
        go_wp2_with fail
        go_ret
        exact ⟨by rw [HR.out]; rfl, by rw [HR.out]; exact HF.out⟩
      · have HV : Hid (PWal.mayVote v = false) := Lib.hid (hno.resolve_left a |>.resolve_left c)
        clear hno
        go_enter Tryz.func34, Tryz.ntmps34
        go_wp2_with fail
        refine (HMV.out _ _).mono ?_
        rintro e w2 ⟨rfl, rfl⟩
        rw [HV.out]
        go_wp2_with fail
        go_ret
        exact ⟨by rw [HR.out]; rfl, by rw [HR.out]; exact HF.out⟩
  · have HR := Lib.hid (vote_yes (D := D) hno)
    have a : ¬ t < s.term := fun q => hno (.inl q)
    have c : ¬ 4611686018427387904 < t := fun q => hno (.inr (.inl q))
    have HV : Hid (PWal.mayVote v = true) := Lib.hid (by cases q : PWal.mayVote v with
      | true => rfl
      | false => exact absurd (.inr (.inr q)) hno)
    have HVR := Lib.hid (fun W => voteRecord_any t v W ht hv)
    have HWL := Lib.hid hwl
    have HT := Lib.hid hT
    have HRL : Hid ((PWal.rcdOf [PWal.num t, PWal.num v]).length ≤ 1000000000) := Lib.hid (by
      unfold PWal.rcdOf
      rw [Fm.Fr.rcd_length]
      have := row_len [PWal.num t, PWal.num v]; have := num_len t; have := num_len v
      rw [encs_cons, encs_cons, encs_nil] at *; omega)
    clear hno hwl hT
    go_enter Tryz.func34, Tryz.ntmps34
    go_wp2_with fail
    refine (HMV.out _ _).mono ?_
    rintro e w2 ⟨rfl, rfl⟩
    rw [HV.out]
    go_wp2_with fail
    refine (HVR.out _).mono ?_
    rintro e w2 ⟨g, rfl, hg, hrow, b2⟩
    have B2 := Lib.hid b2
    have HWV := Lib.hid (writeVote_any ((HWL.out.below b2).ws) (PWal.rcdOf [PWal.num t, PWal.num v]) _ (RecP.src (b := b) HWL.out.dk.lt hg hrow HRL.out))
    generalize PWal.rcdOf [PWal.num t, PWal.num v] = rc at *
    clear b2 hrow c0 c1 c2 c3 c4 c5 c6
    go_wp2_with fail
    refine HWV.out.mono ?_
    rintro e w3 ⟨rfl, t3⟩
    obtain ⟨S3, T3, wl3, hT3, up3, upT3, fr3⟩ := (HWL.out.below B2.out).disk (fun k hk => ⟨(HT.out k hk).1, Nat.lt_of_lt_of_le (HT.out k hk).2 B2.out.size⟩) t3
    have W3 := Lib.hid wl3
    have HT3 := Lib.hid hT3
    have U3 := Lib.hid upT3
    have F3 := Lib.hid fr3
    generalize PWal.writeVote D rc = r at *
    obtain ⟨D3, e3⟩ := r
    obtain ⟨c0, c1, c2, c3, c4, c5, c6⟩ := wl3.sat.at
    have hl3 := wl3.sat.lt
    have f1 := Lib.frozen_of_heap wl3.sat.cells 1
    have f2 := Lib.frozen_of_heap wl3.sat.cells 2
    clear t3 wl3 hT3 up3 upT3 fr3
    by_cases he : e3 = 0
    · subst he
      rw [if_pos rfl] at HR
      have HFIN : Hid (WalTo w ((w3.setCell ⟨bw, 1, none⟩ (.int .i64 t)).setCell ⟨bw, 2, none⟩ (.int .i64 v)) bw b D3 { s with term := t, vote := v } T) := Lib.hid (by
        refine WalTo.before B2.out (W3.out.to HT3.out U3.out F3.out (((Fr.refl (fun k => k = bw) w3).setCell (p := ⟨bw, 1, none⟩) (.inl rfl) _).setCell (p := ⟨bw, 2, none⟩) (.inl rfl) _) ?_ rfl ⟨W3.out.sat.fine.i0, W3.out.sat.fine.i1, W3.out.sat.fine.len, ht, hv, W3.out.sat.fine.st, W3.out.sat.fine.d, W3.out.sat.fine.e⟩)
        exact (Fm.heap_set _ bw 2 (.int .i64 v) _ _ (Fm.heap_set w3 bw 1 (.int .i64 t) _ _ W3.out.sat.cells)))
      go_wp2_with fail
      go_ret
      exact ⟨by rw [HR.out]; rfl, by rw [HR.out]; exact HFIN.out⟩
    · rw [if_neg he] at HR
      go_wp2_with fail
      go_ret
      exact ⟨by rw [HR.out]; rfl, by rw [HR.out]; exact WalTo.before B2.out ⟨T3, ⟨⟨_, _, W3.out⟩, HT3.out⟩, U3.out, F3.out⟩⟩
end Go.Proofs.YtjcikhacekmcfaaGreatDoor
namespace Go.Proofs.YtjcikhacekmcfaaGreatDoor
open Go.RowKit
open PlainDisk (File Disk)
open PWal (St Ent Chg)
set_option linter.unusedVariables false
set_option maxRecDepth 100000

/-! ### does a change fit? -/
theorem last_drew {w : World} {bw b : Nat} {s : St} {lv : Value} (h : SAt w bw b s lv) : Calls Tryz.prog 115 #[.pointer (some ⟨bw, 1, none⟩)] w fun e w' => e = .returned (.int .i64 s.last) ∧ ∃ m, w' = w.drewN m := by
  obtain ⟨c0, c1, c2, c3, c4, c5, c6⟩ := h.at
  obtain ⟨A, c, rfl, _⟩ := h.form
  have hl := h.lt
  have f := h.fine
  have h0 := f.i0
  have h1 := f.i1
  have h2 := f.len
  show Calls Tryz.prog 115 #[.pointer (some ⟨bw, 1, none⟩)] w fun e w' => e = .returned (.int .i64 (s.sidx + (s.log.length : Nat))) ∧ ∃ m, w' = w.drewN m
  generalize s.sidx = si at *
  generalize s.log.length = n at *
  have hs : (si + (n : Int)) ≤ 9223372036854775807 := by omega
  have hw : IntKind.i64.wrap (si + (n : Int)) = si + (n : Int) := IntWalk.i64_in _ (by omega)
  clear h f
  go_enter Tryz.func115, Tryz.ntmps115
  go_wp2_with fail
  go_quiet (fail)
  go_wp2_with fail
  go_ret
  exact ⟨rfl, _, rfl⟩
theorem mayBe_drew (n : Int) (w : World) (k : Nat) : Calls Tryz.prog 116 #[.int .i64 n] (w.drewN k) fun e w' => e = .returned (.bool (PWal.mayBe n)) ∧ ∃ m, w' = w.drewN m :=
  (mayBe_any n _).mono fun e w' h => ⟨h.1, k, h.2.symm⟩
set_option maxHeartbeats 1000000 in
theorem fits_any {w : World} {bw b : Nat} {s : St} {lv : Value} (h : SAt w bw b s lv) (c : Chg) (hd : c.ent.data.length ≤ 1000000000) : Calls Tryz.prog 139 #[chgV c, .pointer (some ⟨bw, 1, none⟩)] w fun e w' => e = .returned (.bool (PWal.fits c s)) ∧ Below w.heap.size w w' := by
  unfold chgV
  have hF : PWal.fits c s = (PWal.mayBe c.index && decide (c.index ≤ s.last + 1) && (c.trunc || (PWal.mayBe c.ent.term && decide (c.ent.data.length ≤ 4000)))) := rfl
  have HF := Lib.hid hF
  clear hF
  have hla : s.sidx + (s.log.length : Nat) = s.last := rfl
  have h0 := h.fine.i0
  have h1 := h.fine.i1
  have h2 := h.fine.len
  have hl1 : 0 ≤ s.last := by omega
  have hl2 : s.last ≤ 4611686018437387904 := by omega
  have hw : IntKind.i64.wrap (s.last + 1) = s.last + 1 := IntWalk.i64_in _ (by omega)
  obtain ⟨W, hW⟩ : ∃ W, w.alloc (.cells #[.int .i64 c.index, .bool c.trunc, .int .i64 c.ent.term, .string (str c.ent.data)] 112) = W := ⟨_, rfl⟩
  have HW := Lib.hid hW
  have hb : Below w.heap.size w W := hW ▸ below_new w _
  have hx : W.heap[w.heap.size]? = some (.cells #[.int .i64 c.index, .bool c.trunc, .int .i64 c.ent.term, .string (str c.ent.data)] 112 (0, 0)) := by rw [← hW]; exact heap_alloc_new w _
  have p0 : W.cell? ⟨w.heap.size, 0, none⟩ = some (.int .i64 c.index) := by rw [Lib.cell_of_heap hx]; rfl
  have p1 : W.cell? ⟨w.heap.size, 1, none⟩ = some (.bool c.trunc) := by rw [Lib.cell_of_heap hx]; rfl
  have p2 : W.cell? ⟨w.heap.size, 2, none⟩ = some (.int .i64 c.ent.term) := by rw [Lib.cell_of_heap hx]; rfl
  have p3 : W.cell? ⟨w.heap.size, 3, none⟩ = some (.string (str c.ent.data)) := by rw [Lib.cell_of_heap hx]; rfl
  have HB := Lib.hid hb
  have QL : Hid (∀ k, Calls Tryz.prog 115 #[.pointer (some ⟨bw, 1, none⟩)] (W.drewN k) fun e w' => e = .returned (.int .i64 s.last) ∧ ∃ m, w' = W.drewN m) := Lib.hid (fun k =>
    (last_drew ((h.below hb).below (below_drewN (Below.refl _ _) k))).mono fun e w' q => ⟨q.1, by obtain ⟨m, r⟩ := q.2; exact ⟨k + m, by rw [r, World.drewN_drewN]⟩⟩)
  have QI := Lib.hid (mayBe_drew c.index W)
  have QT := Lib.hid (fun V => mayBe_any c.ent.term V)
  have hsz : (str c.ent.data).size = c.ent.data.length := by first | rfl | simp [str]
  obtain ⟨ci, tr, ⟨ct, cd⟩⟩ := c
  dsimp only at *
  generalize hn : cd.length = n at *
  generalize str cd = sd at *
  generalize s.last = la at *
  clear h hW hb hx hla h0 h1 h2 hn
  generalize PWal.mayBe ci = mi at *
  generalize PWal.mayBe ct = mt at *
  have hfin : ∀ B : Bool, Hid (B = PWal.fits ⟨ci, tr, ⟨ct, cd⟩⟩ s) → True := fun _ _ => trivial
  clear hfin
  cases mi
  · rw [HF.out]
    go_enter Tryz.func139, Tryz.ntmps139
    go_wp2_with fail
    rw [HW.out]
    go_quiet (first | (go_at_call 116; exact QI.out _))
    go_wp2_with fail
    go_ret
    exact ⟨rfl, HB.out.trans (below_drewN (Below.refl _ _) _)⟩
  · by_cases hgt : la + 1 < ci
    · have hle : decide (ci ≤ la + 1) = false := by simp; omega
      rw [HF.out, hle]
      clear hle
      go_enter Tryz.func139, Tryz.ntmps139
      go_wp2_with fail
      rw [HW.out]
      go_quiet (first | (go_at_call 116; exact QI.out _) | (go_at_call 115; exact QL.out _))
      go_wp2_with fail
      go_ret
      exact ⟨rfl, HB.out.trans (below_drewN (Below.refl _ _) _)⟩
    · have hle : decide (ci ≤ la + 1) = true := by simp; omega
      rw [HF.out, hle]
      clear hle
      cases tr
      · cases mt
        · go_enter Tryz.func139, Tryz.ntmps139
          go_wp2_with fail
          rw [HW.out]
          go_quiet (first | (go_at_call 116; exact QI.out _) | (go_at_call 115; exact QL.out _))
          go_wp2_with fail
          refine (QT.out _).mono ?_
          rintro e w2 ⟨rfl, rfl⟩
          go_wp2_with fail
          go_ret
          exact ⟨rfl, HB.out.trans (below_drewN (Below.refl _ _) _)⟩
        · go_enter Tryz.func139, Tryz.ntmps139
          go_wp2_with fail
          rw [HW.out]
          go_quiet (first | (go_at_call 116; exact QI.out _) | (go_at_call 115; exact QL.out _))
          go_wp2_with fail
          refine (QT.out _).mono ?_
          rintro e w2 ⟨rfl, rfl⟩
          go_wp2_with fail
          go_ret
          exact ⟨by rw [show decide ((n : Int) ≤ 4000) = decide (n ≤ 4000) from decide_eq_decide.2 (by omega)]; simp, HB.out.trans (below_drewN (Below.refl _ _) _)⟩
      · go_enter Tryz.func139, Tryz.ntmps139
        go_wp2_with fail
        rw [HW.out]
        go_quiet (first | (go_at_call 116; exact QI.out _) | (go_at_call 115; exact QL.out _))
        go_wp2_with fail
        go_ret
        exact ⟨by simp, HB.out.trans (below_drewN (Below.refl _ _) _)⟩
end Go.Proofs.YtjcikhacekmcfaaGreatDoor
namespace Go.Proofs.YtjcikhacekmcfaaGreatDoor
open Go.RowKit
open PlainDisk (File Disk)
open PWal (St Ent Chg)
set_option linter.unusedVariables false
set_option maxRecDepth 100000

/-! ### a change is applied -/
theorem own_cut {w : World} {base e sz n k : Nat} {A : Option Addr} {c : Nat} {xs : List Value} (h : w.ownsRow base e sz (.slice A n c) n xs) (hk : k ≤ n) : w.ownsRow base e sz (.slice A k c) k (xs.take (k * sz)) := by
  have hle : k * sz ≤ n * sz := Nat.mul_le_mul_right _ hk
  refine ⟨by rw [List.length_take, h.1]; omega, ?_⟩
  rcases h.2 with ⟨e, hn⟩ | ⟨g, cap, cur, e, hb, hh, h1, h2, h3, h4⟩
  · injection e with e1 e2 e3
    subst e1 e3
    have : k = 0 := by omega
    subst this
    exact .inl ⟨rfl, rfl⟩
  · injection e with e1 e2 e3
    subst e1 e3
    refine .inr ⟨g, c, cur, rfl, hb, hh, by omega, h2, h3, ?_⟩
    rw [← h4, List.take_take, Nat.min_eq_left hle]
theorem slice_hiE (A : Option Addr) (n c k : Nat) (h1 : k ≤ c) (W : World) :
    (Instr.slice 35 (.slice A n c) none (some (.int .i64 (k : Nat))) none).run Tryz.prog W = .ok (.slice A k c) W := by
  have hk : (k : Int) ≤ (c : Int) := by omega
  have h0 : (0 : Int) ≤ (k : Int) := by omega
  go_simp
/-- the state has become another; its log lies where it lay, or in a new block -/
structure SatTo (w w' : World) (bw b : Nat) (s' : St) (lv lv' : Value) : Prop where
  sat : SAt w' bw b s' lv'
  own : ∀ k, lv'.ownBlock = some k → lv.ownBlock = some k ∨ w.heap.size ≤ k
  fr : Fr (fun k => k = bw ∨ lv.ownBlock = some k) w w'
theorem SAt.log_ne {w : World} {bw b : Nat} {s : St} {lv : Value} (h : SAt w bw b s lv) : ∀ k, lv.ownBlock = some k → k < w.heap.size ∧ k ≠ bw := by
  intro k hk
  refine ⟨(World.ownsRow.lt h.log k hk).2, fun e => ?_⟩
  subst e
  rcases h.log.2 with ⟨e1, _⟩ | ⟨g, cap, cur, e1, _, hh, _⟩
  · rw [e1] at hk; simp [Value.ownBlock] at hk
  · rw [e1] at hk
    simp only [Value.ownBlock, Option.some.injEq] at hk
    subst hk
    rw [h.cells] at hh
    injection hh with hh
    injection hh with _ h2
    exact absurd h2 (by decide)
theorem SatTo.after {w w1 w2 : World} {bw b : Nat} {s : St} {lv lv' : Value} (h : SatTo w w1 bw b s lv lv') (hb : Below w1.heap.size w1 w2) : SatTo w w2 bw b s lv lv' :=
  ⟨h.sat.below hb, h.own, h.fr.trans (S' := fun _ => False) (Fr.of_below hb) fun i hi => hi.elim⟩
/-- the log has grown, and lies in its cell again -/
theorem SatTo.stored {w w1 w2 w3 : World} {bw b K : Nat} {s : St} {lv lv1 v3 : Value} {e : Ent} (h : SatTo w w1 bw b s lv lv1) (hlv : ∀ k, lv.ownBlock = some k → k < w.heap.size) (hlt : bw < w.heap.size) (hb : Below w1.heap.size w1 w2) (hk : s.log.length = K) (hl : K < 10000000) (he : Wr.InR e.term ∧ e.data.length ≤ 4000)
    (own : w3.ownsRow 0 75 2 v3 (K + 1) (entC s.log ++ [.int .i64 e.term, .string (str e.data)])) (grow : w2.grownBy w3 lv1.ownBlock) (blk : v3.ownBlock = lv1.ownBlock ∨ v3.ownBlock = some w2.heap.size) :
    w3.heap[bw]? = some (.cells (stC b s lv1) 91 (0, 0)) ∧ SatTo w (w3.setCell ⟨bw, 6, none⟩ v3) bw b { s with log := s.log ++ [e] } lv v3 := by
  have hs2 := h.sat.below hb
  have hne := h.sat.log_ne
  have hz12 : w.heap.size ≤ w1.heap.size := h.fr.size
  have hz2 := hb.size
  have hf2 : Fr (fun k => lv1.ownBlock = some k) w2 w3 := (Fr.refl _ w2).grown grow fun k hk => .inl hk
  have hbw : w3.heap[bw]? = some (.cells (stC b s lv1) 91 (0, 0)) := (hf2.block bw (by omega) fun q => (hne bw q).2 rfl).trans hs2.cells
  have hv3 : ∀ k, v3.ownBlock = some k → k ≠ bw := by
    intro k hk e
    subst e
    rcases blk with q | q
    · exact (hne k (q ▸ hk)).2 rfl
    · rw [hk] at q; injection q with q; omega
  refine ⟨hbw, ⟨⟨Fm.heap_set w3 bw 6 v3 _ _ hbw, ?_, ?_⟩, ?_, ?_⟩⟩
  · have : OwnE w3 0 v3 (s.log ++ [e]) := by
      unfold OwnE
      rw [entC_append, List.length_append, hk]
      exact own
    exact own_frame this fun k hk => Below.heap_setCell _ _ _ _ (hv3 k hk)
  · have f := h.sat.fine
    refine ⟨f.i0, f.i1, by show (s.log ++ [e]).length ≤ _; rw [List.length_append, hk]; simp; omega, f.t, f.v, f.st, f.d, fun y hy => ?_⟩
    rcases List.mem_append.1 hy with q | q
    · exact f.e y q
    · rw [List.mem_singleton.1 q]; exact he
  · intro k hk
    rcases blk with q | q
    · exact h.own k (q ▸ hk)
    · rw [hk] at q; injection q with q; omega
  · refine h.fr.trans (S' := fun k => k = bw ∨ lv1.ownBlock = some k ∨ w1.heap.size ≤ k) ?_ fun i hi => ?_
    · have h12 : Fr (fun k => k = bw ∨ lv1.ownBlock = some k ∨ w1.heap.size ≤ k) w1 w3 := (Fr.of_below hb).trans (S' := fun k => lv1.ownBlock = some k) hf2 fun i hi => .inl (.inr (.inl hi))
      exact h12.setCell (p := ⟨bw, 6, none⟩) (.inl (.inl rfl)) _
    · rcases hi with q | q | q
      · exact .inl (.inl q)
      · rcases h.own i q with r | r
        · exact .inl (.inr r)
        · exact .inr r
      · exact .inr (by omega)
/-- append of one element, as a step of a region -/
theorem step_app1 {T e sz bt : Nat} {z : Value} (hT : Tryz.prog.underlying T = some (.slice e)) (hin : (Tryz.prog.info? e).map (fun i => (i.zero, i.size, i.bytes)) = some (some z, sz, bt)) (hsz : 1 ≤ sz) (hz : z.cells.size = sz) (hbt : bt ≤ 64)
    {ops : Array Oper} {o : Oper} {a : Act} {K : Act → World → Prop} {Q : Exit → Act → World → Prop} {E : Prop} {w : World} (hgd : o.guard = none) (s x : Operand)
    (ho : o.op = .call { callee := .builtin .append, args := #[s, x], argTypes := #[T, T] })
    (base : Nat) (v : Value) (n : Nat) (xs : List Value) (hs : a.eval s = v) (hown : w.ownsRow base e sz v n xs) (k : Nat) (us : List Value) (hus : us.length = sz) (hu1 : ∀ u ∈ us, u.oneCell' = true) (c1 : Nat) (hx : a.eval x = .slice (some ⟨k, 0, none⟩) 1 c1)
    (hk : w.heap[k]? = some (.cells us.toArray e (0, 0)))
    (hlen : n ≤ 1000000000) (hbase : base ≤ w.heap.size)
    (h : ∀ v' w', w'.ownsRow base e sz v' (n + 1) (xs ++ us) → w.grownBy w' v.ownBlock → (v'.ownBlock = v.ownBlock ∨ v'.ownBlock = some w.heap.size) → K (a.put o.dst v') w') :
    if Region.wanted o (yielded ops a.tmps) = true then Oper.wp Tryz.prog o a w K Q else E := by
  have hw : Region.wanted o (yielded ops a.tmps) = true := by simp [Region.wanted, hgd]
  rw [if_pos hw]
  obtain ⟨i, hi, hz0, hz1, hz2⟩ := Fm.info_parts3 hin
  have hnews : ∀ j y, us[j]? = some y → w.cell? ((⟨k, 0, none⟩ : Addr).add j) = some y := by
    intro j y hy
    unfold Addr.add
    have hc : w.cell? ⟨k, j, none⟩ = some y := by
      rw [Lib.cell_of_heap hk]
      rw [← hy]
      show (us.toArray)[j]? = _
      simp
    split
    · subst j; exact hc
    · simpa using hc
  have hby : (n + 1) * bt ≤ 140737488355328 := by
    have : (n + 1) * bt ≤ (n + 1) * 64 := Nat.mul_le_mul_left _ hbt
    omega
  obtain ⟨v', w', hr, h2, h3, h4, h5⟩ := run_append_own_at (P := Tryz.prog) w base T o.type e i z sz bt hT hi hz0 hz1 hz2 hz (by omega) v n xs hown ⟨k, 0, none⟩ 1 c1 us (by rw [hus, Nat.one_mul]) hnews hu1 (by simp only [maxLen]; omega) hby hbase
  unfold Oper.wp execOp
  simp only [ho, resolve, invoke, builtin, Sem.run_bind, Sem.run_pure, Result.andThen_ok, List.map_toArray, List.map_cons, List.map_nil, hs, hx, hr]
  exact h v' w' h2 h3 h5
theorem own_same (A : Option Addr) (n k c c' : Nat) : (Value.slice A n c).ownBlock = (Value.slice A k c').ownBlock := by cases A <;> rfl
set_option maxHeartbeats 2000000 in
theorem apply_any {w : World} {bw b : Nat} {s : St} {lv : Value} (h : SAt w bw b s lv) (c : Chg) (hi0 : 1 ≤ c.index) (hi1 : c.index ≤ s.last + 1) (hi2 : c.index ≤ 4611686018427387904) (hl : s.log.length < 10000000) (hct : Wr.InR c.ent.term) (hcd : c.ent.data.length ≤ 4000) :
    Calls Tryz.prog 66 #[chgV c, .pointer (some ⟨bw, 1, none⟩)] w fun e w' => e = .returned (.tuple #[]) ∧ ∃ lv', SatTo w w' bw b (PWal.apply c s) lv lv' := by
  obtain ⟨A, cp, rfl, hlc, hc63, hA⟩ := h.form
  have hlt := h.lt
  have f := h.fine
  have h0 := f.i0
  have h1 := f.i1
  have hla : s.last = s.sidx + (s.log.length : Nat) := rfl
  rw [hla] at hi1
  unfold chgV
  obtain ⟨ci, tr, ⟨ct, cd⟩⟩ := c
  dsimp only at *
  obtain ⟨K, hK⟩ : ∃ K, K = (ci - s.sidx - 1).toNat := ⟨_, rfl⟩
  have hKn : K ≤ s.log.length := by omega
  have hap : PWal.apply ⟨ci, tr, ⟨ct, cd⟩⟩ s = { s with log := s.log.take K ++ if tr = false ∧ s.sidx < ci then [⟨ct, cd⟩] else [] } := by unfold PWal.apply; rw [hK]
  have HAP := Lib.hid hap
  obtain ⟨W, hW⟩ : ∃ W, w.alloc (.cells #[.int .i64 ci, .bool tr, .int .i64 ct, .string (str cd)] 112) = W := ⟨_, rfl⟩
  have HW := Lib.hid hW
  have hb : Below w.heap.size w W := hW ▸ below_new w _
  have hx : W.heap[w.heap.size]? = some (.cells #[.int .i64 ci, .bool tr, .int .i64 ct, .string (str cd)] 112 (0, 0)) := by rw [← hW]; exact heap_alloc_new w _
  have hz : W.heap.size = w.heap.size + 1 := by rw [← hW]; simp
  have hs := h.below hb
  have hne := h.log_ne
  have d0 : W.cell? ⟨w.heap.size, 0, none⟩ = some (.int .i64 ci) := by rw [Lib.cell_of_heap hx]; rfl
  obtain ⟨z0, z1, z2, d3, z4, z5, d6⟩ := hs.at
  clear z0 z1 z2 z4 z5
  have d7 := Lib.frozen_of_heap hs.cells 6
  have hw0 : IntKind.i64.wrap (ci - s.sidx) = ci - s.sidx := IntWalk.i64_in _ (by omega)
  have hw1 : IntKind.i64.wrap (ci - s.sidx - 1) = ci - s.sidx - 1 := IntWalk.i64_in _ (by omega)
  have hmx : (max 0 (ci - s.sidx - 1)).toNat = K := by omega
  have hlen : (max 0 (ci - s.sidx - 1)) ≤ (cp : Int) := by omega
  -- the state behind the cut
  obtain ⟨W2, hW2⟩ : ∃ W2, (W.setCell ⟨bw, 6, none⟩ (.slice A K cp)).drew = W2 := ⟨_, rfl⟩
  have HW2 := Lib.hid hW2
  have hc2 : W2.heap[bw]? = some (.cells (stC b { s with log := s.log.take K } (.slice A K cp)) 91 (0, 0)) := by
    rw [← hW2]; exact Fm.heap_set W bw 6 (.slice A K cp) _ _ hs.cells
  have hf2 : Fr (fun k => k = bw) w W2 := by
    rw [← hW2]; exact ((Fr.of_below (S := fun k => k = bw) hb).setCell (p := ⟨bw, 6, none⟩) (.inl rfl) _).drew
  have hx2 : W2.heap[w.heap.size]? = some (.cells #[.int .i64 ci, .bool tr, .int .i64 ct, .string (str cd)] 112 (0, 0)) := by
    rw [← hW2]; exact (Below.heap_setCell _ _ _ _ (by show w.heap.size ≠ bw; omega)).trans hx
  have hz2 : W2.heap.size = w.heap.size + 1 := by rw [← hW2]; show (W.setCell _ _).heap.size = _; simp [hz]
  have ho2 : W2.ownsRow 0 75 2 (.slice A K cp) K ((entC s.log).take (K * 2)) := own_frame (own_cut h.log hKn) fun k hk => by rw [own_same A K s.log.length cp cp] at hk; exact hf2.block k (hne k hk).1 (hne k hk).2
  rw [entC_take] at ho2
  have hF2 : FineS { s with log := s.log.take K } := ⟨f.i0, f.i1, by show (s.log.take K).length ≤ _; rw [List.length_take]; omega, f.t, f.v, f.st, f.d, fun y hy => f.e y (List.mem_of_mem_take hy)⟩
  have hkl : (s.log.take K).length = K := by rw [List.length_take]; omega
  have ho2' : OwnE W2 0 (.slice A K cp) (s.log.take K) := by unfold OwnE; rw [hkl]; exact ho2
  have TO1 : Hid (SatTo w W2 bw b { s with log := s.log.take K } (.slice A s.log.length cp) (.slice A K cp)) := Lib.hid ⟨⟨hc2, ho2', hF2⟩, fun k hk => .inl (by rw [own_same A s.log.length K cp cp]; exact hk), ⟨hf2.os, hf2.tape, hf2.output, hf2.size, fun k hk hn => hf2.block k hk fun q => hn (.inl q)⟩⟩
  have q0 : W2.cell? ⟨w.heap.size, 0, none⟩ = some (.int .i64 ci) := by rw [Lib.cell_of_heap hx2]; rfl
  have q1 : W2.cell? ⟨w.heap.size, 1, none⟩ = some (.bool tr) := by rw [Lib.cell_of_heap hx2]; rfl
  have q2 : W2.cell? ⟨w.heap.size, 2, none⟩ = some (.int .i64 ct) := by rw [Lib.cell_of_heap hx2]; rfl
  have q3 : W2.cell? ⟨w.heap.size, 3, none⟩ = some (.string (str cd)) := by rw [Lib.cell_of_heap hx2]; rfl
  have e3 : W2.cell? ⟨bw, 3, none⟩ = some (.int .i64 s.sidx) := by rw [Lib.cell_of_heap hc2]; rfl
  have e6 : W2.cell? ⟨bw, 6, none⟩ = some (.slice A K cp) := by rw [Lib.cell_of_heap hc2]; rfl
  have HZ2 := Lib.hid hz2
  have HC2 := Lib.hid hc2
  have HO2 := Lib.hid ho2
  have HF := Lib.hid f
  have HKL := Lib.hid hkl
  have HKN := Lib.hid hKn
  have HL := Lib.hid hl
  have HNE := Lib.hid hne
  have HCT := Lib.hid hct
  have HCD := Lib.hid hcd
  have hlt2 : bw ≠ w.heap.size := by omega
  clear hap hW hb hx hs hne hW2 hc2 hf2 hx2 hz2 ho2 ho2' hF2 hkl f hla hi1 hA h hlc hc63 hK hKn hl hct hcd hi0 hi2 h0 h1
  generalize hn : s.log.length = n at *
  generalize hsi : s.sidx = si at *
  generalize hsd : str cd = sd at *
  cases tr
  · by_cases hgt : si < ci
    · rw [if_pos ⟨rfl, hgt⟩] at HAP
      go_enter Tryz.func66, Tryz.ntmps66
      go_wp2_with fail
      rw [HW.out]
      go_region
      go_wp2_with fail
      rw [HW2.out]
      go_quiet (fail)
      go_wp2_with fail
      have K1 : Hid (((W2.drewN nq).alloc (.cells #[.int .i64 ct, .string sd] 75)).drew.heap[W2.heap.size]? = some (.cells #[.int .i64 ct, .string sd] 75 (0, 0))) := Lib.hid (heap_alloc_new (W2.drewN nq) _)
      have S1 : Hid (0 ≤ ((W2.drewN nq).alloc (.cells #[.int .i64 ct, .string sd] 75)).drew.heap.size) := Lib.hid (Nat.zero_le _)
      have O1 : Hid (((W2.drewN nq).alloc (.cells #[.int .i64 ct, .string sd] 75)).drew.ownsRow 0 75 2 (.slice A K cp) K (entC (s.log.take K))) := Lib.hid (own_belows HO2.out ((below_drewN (Below.refl _ W2) nq).alloc (Nat.le_refl _) _).drew)
      have U1 : Hid (∀ u ∈ [Value.int .i64 ct, .string sd], u.oneCell' = true) := Lib.hid (by intro u hu; simp at hu; rcases hu with rfl | rfl <;> rfl)
      have N1 : Hid (K ≤ 1000000000) := Lib.hid (by have := HKN.out; have := HL.out; omega)
      have F7 := Lib.frozen_of_heap HC2.out 6
      have B1 : Hid (Below W2.heap.size W2 ((W2.drewN nq).alloc (.cells #[.int .i64 ct, .string sd] 75)).drew) := Lib.hid ((below_drewN (Below.refl _ W2) nq).alloc (Nat.le_refl _) _).drew
      have ST : Hid (∀ v3 w3, w3.ownsRow 0 75 2 v3 (K + 1) (entC (s.log.take K) ++ [.int .i64 ct, .string sd]) → ((W2.drewN nq).alloc (.cells #[.int .i64 ct, .string sd] 75)).drew.grownBy w3 (Value.slice A K cp).ownBlock → (v3.ownBlock = (Value.slice A K cp).ownBlock ∨ v3.ownBlock = some ((W2.drewN nq).alloc (.cells #[.int .i64 ct, .string sd] 75)).drew.heap.size) →
          (∃ A3 c3, v3 = .slice A3 (K + 1) c3) ∧ (∃ u, w3.cell? ⟨bw, 6, none⟩ = some u) ∧ w3.frozen? ⟨bw, 6, none⟩ = false ∧ SatTo w (w3.setCell ⟨bw, 6, none⟩ v3) bw b (PWal.apply ⟨ci, false, ⟨ct, cd⟩⟩ s) (.slice A n cp) v3) := Lib.hid (fun v3 w3 ow gr bl => by
        rw [← hsd] at ow gr bl
        obtain ⟨g1, g2⟩ := SatTo.stored (e := ⟨ct, cd⟩) TO1.out (fun k hk => (HNE.out k hk).1) hlt (hsd ▸ B1.out) HKL.out (by have := HKN.out; have := HL.out; omega) ⟨HCT.out, HCD.out⟩ ow gr bl
        obtain ⟨A3, c3, e3, _⟩ := own_form ow
        rw [HAP.out]
        exact ⟨⟨A3, c3, e3⟩, ⟨_, by rw [Lib.cell_of_heap g1]; rfl⟩, Lib.frozen_of_heap g1 6, g2⟩)
      have hlt3 : bw < W2.heap.size := by have := HZ2.out; omega
      have y6 : ((W2.drewN (nq + 1)).alloc (.cells #[.int .i64 ct, .string sd] 75)).cell? ⟨bw, 6, none⟩ = some (.slice A K cp) := (((below_drewN (Below.refl _ W2) (nq + 1)).alloc (Nat.le_refl _) _).cell (p := ⟨bw, 6, none⟩) hlt3).trans e6
      go_region_law (first
        | ((refine step_app1 (T := 35) (e := 75) (sz := 2) (bt := 24) Tryz.underlying35 info75 (by omega) rfl (by omega) (by rfl) (.tmp 39) (.tmp 42) (by rfl) 0 (.slice A K cp) K _ (by rfl) O1.out W2.heap.size [.int .i64 ct, .string sd] (by rfl) U1.out 1 (by rfl) K1.out N1.out S1.out ?_); intro v3 w3 own3 grow3 blk3; obtain ⟨⟨A3, c3, hv3⟩, ⟨u3, y3⟩, z3, TT⟩ := ST.out v3 w3 own3 grow3 blk3; subst hv3; have T3 := Lib.hid TT; clear own3 grow3 blk3 TT))
      all_goals
        go_wp2_with fail
        go_end0
        exact ⟨rfl, _, T3.out⟩
    · rw [if_neg (fun q => hgt q.2), List.append_nil] at HAP
      go_enter Tryz.func66, Tryz.ntmps66
      go_wp2_with fail
      rw [HW.out]
      go_region
      go_wp2_with fail
      rw [HW2.out]
      go_quiet (fail)
      go_wp2_with fail
      go_end0
      exact ⟨rfl, _, by rw [HAP.out]; exact TO1.out.after (below_drewN (Below.refl _ _) _)⟩
  · rw [if_neg (fun q => by simp at q), List.append_nil] at HAP
    go_enter Tryz.func66, Tryz.ntmps66
    go_wp2_with fail
    rw [HW.out]
    go_region
    go_wp2_with fail
    rw [HW2.out]
    go_quiet (fail)
    go_wp2_with fail
    go_end0
    exact ⟨rfl, _, by rw [HAP.out]; exact TO1.out.after (below_drewN (Below.refl _ _) _)⟩
end Go.Proofs.YtjcikhacekmcfaaGreatDoor
