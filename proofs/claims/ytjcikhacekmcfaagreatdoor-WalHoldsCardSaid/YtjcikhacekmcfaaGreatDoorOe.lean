import Derived.Test.YtjcikhacekmcfaaGreatDoorFc
import Derived.Test.YtjcikhacekmcfaaGreatDoorOd
namespace Go.Proofs.YtjcikhacekmcfaaGreatDoor
open Go.RowKit
open PlainDisk (File Disk)
open PWal (St Ent Chg)
open Wr.Pl (It)
set_option linter.unusedVariables false
set_option maxRecDepth 100000

/-! ### payloads that lie in blocks from N0 on -/
theorem scanF_sizes : ∀ (n : Nat) (b : List UInt8), (∀ p ∈ (Fm.Fr.scanF n b).1, p.length ≤ 4096) ∧ 8 * (Fm.Fr.scanF n b).1.length ≤ b.length := by
  intro n
  induction n with
  | zero => intro b; exact ⟨fun p hp => by simp [Fm.Fr.scanF] at hp, by simp [Fm.Fr.scanF]⟩
  | succ n ih =>
    intro b
    simp only [Fm.Fr.scanF]
    cases h : Fm.Fr.first b with
    | none => exact ⟨fun p hp => by simp at hp, by simp⟩
    | some q =>
      obtain ⟨_, h1, h2⟩ := Fm.Fr.first_len h
      obtain ⟨h3, h4⟩ := ih (b.drop (8 + q.length))
      rw [List.length_drop] at h4
      refine ⟨fun p hp => ?_, ?_⟩
      · rcases List.mem_cons.1 hp with e | e
        · rw [e]; exact h1
        · exact h3 p e
      · rw [List.length_cons]; omega
theorem scan_sizes (b : List UInt8) : (∀ p ∈ (Fm.Fr.scan b).1, p.length ≤ 4096) ∧ 8 * (Fm.Fr.scan b).1.length ≤ b.length := scanF_sizes _ _
theorem oks_mem {l : List It} (h : Wr.Pl.oks l = true) : ∀ x ∈ l, x.ok = true := by
  induction l with
  | nil => intro x hx; cases hx
  | cons y r ih =>
    intro x hx
    rw [Wr.Pl.oks, Bool.and_eq_true] at h
    rcases List.mem_cons.1 hx with e | e
    · rw [e]; exact h.1
    · exact ih h.2 x e
theorem parts_text {p : List UInt8} {d : List UInt8} (h : PWal.Say.txt d ∈ (PWal.parts p).map PWal.say) : d.length ≤ 4096 := by
  rw [List.mem_map] at h
  obtain ⟨x, hx, hs⟩ := h
  unfold PWal.parts at hx
  cases hd : Wr.Pl.dec p with
  | none => rw [hd] at hx; cases hx
  | some t =>
    rw [hd] at hx
    obtain ⟨k, n, s, l⟩ := t
    dsimp only at hx
    split at hx
    · have h1 := ((Wr.Pl.dec_iff p _).1 hd).1
      rw [Wr.Pl.It.ok, Bool.and_eq_true] at h1
      have h2 := oks_mem h1.2 x hx
      obtain ⟨k2, n2, s2, l2⟩ := x
      rw [Wr.Pl.It.ok] at h2
      simp only [Bool.and_eq_true, decide_eq_true_eq] at h2
      have h3 := h2.1.1.2
      have hs2 : (if k2 = 1 then PWal.Say.num n2 else if k2 = 2 then PWal.Say.txt s2.data.toList else PWal.Say.nil) = .txt d := hs
      by_cases e1 : k2 = 1
      · rw [if_pos e1] at hs2; exact absurd hs2 (fun q => PWal.Say.noConfusion q)
      · rw [if_neg e1] at hs2
        by_cases e : k2 = 2
        · rw [if_pos e] at hs2
          injection hs2 with hs2
          rw [← hs2, Wr.Pl.size_data]
          exact h3 e
        · rw [if_neg e] at hs2; exact absurd hs2 (fun q => PWal.Say.noConfusion q)
    · cases hx
theorem chg_small {p : List UInt8} {c : Chg} (h : PWal.chgOf p = some c) : c.ent.data.length ≤ 4096 ∧ (c.trunc = true → c.ent = ⟨0, []⟩) := by
  have ht := fun d => parts_text (p := p) (d := d)
  unfold PWal.chgOf at h
  generalize (PWal.parts p).map PWal.say = l at *
  split at h
  · injection h with h; subst h; exact ⟨by simp, fun _ => rfl⟩
  · rename_i i t d
    injection h with h; subst h
    exact ⟨ht d (by simp), fun q => by cases q⟩
  · cases h
def PaysAt (w : World) (N0 N1 : Nat) (A : Option Addr) (ls : List (List UInt8)) : Prop :=
  ls ≠ [] → ∃ b off, A = some ⟨b, off, none⟩ ∧ N0 ≤ b ∧ b < N1 ∧ ∀ i l, ls[i]? = some l → ∃ A' n, w.cell? ⟨b, off + i, none⟩ = some (.slice A' l.length n) ∧ l.length ≤ n ∧ n ≤ 9223372036854775807 ∧
    (l ≠ [] → ∃ b2 off2, A' = some ⟨b2, off2, none⟩ ∧ N0 ≤ b2 ∧ b2 < N1 ∧ ∀ j u, l[j]? = some u → w.cell? ⟨b2, off2 + j, none⟩ = some (.int .u8 (u.toNat : Int)))
theorem PaysAt.keep {w w' : World} {N0 N1 : Nat} {A : Option Addr} {ls : List (List UInt8)} (h : PaysAt w N0 N1 A ls) (hk : ∀ k, N0 ≤ k → k < N1 → w'.heap[k]? = w.heap[k]?) : PaysAt w' N0 N1 A ls := fun hne => by
  obtain ⟨b, off, h1, h2, h3, h4⟩ := h hne
  refine ⟨b, off, h1, h2, h3, fun i l hl => ?_⟩
  obtain ⟨A', n, q1, q2, q3, q4⟩ := h4 i l hl
  refine ⟨A', n, (World.cell?_of_block (w := w) (hk b h2 h3)).trans q1, q2, q3, fun hl => ?_⟩
  obtain ⟨b2, off2, r1, r2, r3, r4⟩ := q4 hl
  exact ⟨b2, off2, r1, r2, r3, fun j u hu => (World.cell?_of_block (w := w) (hk b2 r2 r3)).trans (r4 j u hu)⟩
def PaysP (bs : List UInt8) (N0 : Nat) (w : World) (e : Ending) (w' : World) : Prop := Below w.heap.size w w' ∧
  ∃ A c, e = .returned (.tuple #[.slice A (Fm.Fr.scan bs).1.length c, .int .i64 (Fm.Fr.scan bs).2]) ∧ PaysAt w' N0 w'.heap.size A (Fm.Fr.scan bs).1
theorem scan_pays {bs : List UInt8} {A : Option Addr} {n c N0 : Nat} {w : World} (hn : n = bs.length) (h : OwnB w N0 (.slice A n c) bs) (hN : N0 ≤ w.heap.size) (hs : bs.length ≤ 1100000) : Calls Tryz.prog 78 #[.slice A n c] w (PaysP bs N0 w) := by
  subst hn
  obtain ⟨h1, h2, h3⟩ := ownB_bytes h
  refine (Fm.scan_held bs A bs.length c w.heap.size w (Nat.le_refl _) h1 rfl hs h2 h3).mono ?_
  rintro e w' ⟨hb, A', c', vs, he, hov, hrows, htight⟩
  refine ⟨hb, A', c', he, ?_⟩
  intro hne
  have hra := Fm.OwnV.rowsAt hov ((hrows.keep fun q hq => hb.block q hq).mono hb.size)
  rcases hov.2 with ⟨_, q⟩ | ⟨g, cap, cur, e1, hbg, hh, r1, r2, r3, r4⟩
  · have := hrows.1
    exact absurd (List.eq_nil_of_length_eq_zero (by omega)) hne
  · injection e1 with e1 e2 e3
    refine ⟨g, 0, e1, by omega, (Array.getElem?_eq_some_iff.1 hh).1, fun i l hl => ?_⟩
    obtain ⟨v, q1, q2⟩ := hrows.2 i l hl
    obtain ⟨g2, e4, e5⟩ := Fm.OwnV.at hov q1
    rw [e1] at e4
    injection e4 with e4
    injection e4 with e4
    subst e4
    obtain ⟨A2, c2, hv, s1, s2, s3, s4⟩ := q2
    obtain ⟨A3, n3, hv3, hsb⟩ := htight v (List.mem_of_getElem? q1)
    rw [hv] at hv3
    injection hv3 with hv3 _ _
    subst hv3
    refine ⟨A2, c2, by rw [Nat.zero_add, e5, hv], s1, s2, fun hl2 => ?_⟩
    obtain ⟨b2, off2, t1, t2, t3⟩ := s4 hl2
    refine ⟨b2, off2, t1, ?_, Nat.lt_of_lt_of_le t2 hb.size, fun j u hu => (hb.cell (p := ⟨b2, off2 + j, none⟩) t2).trans (t3 j u hu)⟩
    obtain ⟨y, y1, y2⟩ := hsb _ t1
    rcases h.2 with ⟨z1, _⟩ | ⟨gb, cb, cu, z1, z2, _⟩
    · rw [y1] at z1; injection z1 with z1; cases z1
    · rw [y1] at z1
      injection z1 with z1
      injection z1 with z1
      rw [z1] at y2
      have : b2 = gb := y2
      omega
end Go.Proofs.YtjcikhacekmcfaaGreatDoor
namespace Go.Proofs.YtjcikhacekmcfaaGreatDoor
open Go.RowKit
open PlainDisk (File Disk)
open PWal (St Ent Chg)
set_option linter.unusedVariables false
set_option maxRecDepth 100000

/-! ### a segment's records take effect -/
theorem SatTo.trans {w w1 w2 : World} {bw b : Nat} {s1 s2 : St} {lv lv1 lv2 : Value} (h : SatTo w w1 bw b s1 lv lv1) (k : SatTo w1 w2 bw b s2 lv1 lv2) : SatTo w w2 bw b s2 lv lv2 := by
  have hz := h.fr.size
  refine ⟨k.sat, fun i hi => ?_, h.fr.trans k.fr fun i hi => ?_⟩
  · rcases k.own i hi with q | q
    · exact h.own i q
    · exact .inr (by omega)
  · rcases hi with q | q
    · exact .inl (.inl q)
    · rcases h.own i q with r | r
      · exact .inl (.inr r)
      · exact .inr r
theorem SAt.same {w : World} {bw b : Nat} {s : St} {lv : Value} (h : SAt w bw b s lv) : SatTo w w bw b s lv lv := ⟨h, fun k hk => .inl hk, Fr.refl _ _⟩
def RepRel (ls : List (List UInt8)) (s : St) (bw b : Nat) (w : World) (lv : Value) (gV iV : Value) (wr : World) : Prop :=
  ∃ (i g : Nat) (s' : St) (lv' : Value), i ≤ ls.length ∧ iV = .int .i64 i ∧ gV = .int .i64 g ∧ SatTo w wr bw b s' lv lv' ∧ PWal.replay (ls.drop i) s' g = PWal.replay ls s 0 ∧ s'.log.length ≤ s.log.length + i ∧ g ≤ i * 5000
theorem replay_nil (s : St) (g : Nat) : PWal.replay [] s g = (s, g) := rfl
theorem replay_none {p : List UInt8} (h : PWal.chgOf p = none) (r : List (List UInt8)) (s : St) (g : Nat) : PWal.replay (p :: r) s g = (s, g) := by rw [PWal.replay, h]
theorem replay_some {p : List UInt8} {c : Chg} (h : PWal.chgOf p = some c) (r : List (List UInt8)) (s : St) (g : Nat) : PWal.replay (p :: r) s g = if PWal.fits c s = true then PWal.replay r (PWal.apply c s) (g + (8 + p.length)) else (s, g) := by rw [PWal.replay, h]
theorem fits_some {c : Chg} {s : St} (h : PWal.fits c s = true) : 1 ≤ c.index ∧ c.index ≤ 4611686018427387904 ∧ c.index ≤ s.last + 1 ∧ (c.trunc = true ∨ (1 ≤ c.ent.term ∧ c.ent.term ≤ 4611686018427387904 ∧ c.ent.data.length ≤ 4000)) := by
  unfold PWal.fits PWal.mayBe PWal.maxI at h
  simp only [Bool.and_eq_true, Bool.or_eq_true, decide_eq_true_eq] at h
  obtain ⟨⟨⟨h1, h2⟩, h3⟩, h4⟩ := h
  refine ⟨h1, h2, h3, ?_⟩
  rcases h4 with q | ⟨⟨q1, q2⟩, q3⟩
  · exact .inl q
  · exact .inr ⟨q1, q2, q3⟩
theorem drop_atL {α : Type} {l : List α} {i : Nat} {x : α} (h : l[i]? = some x) : l.drop i = x :: l.drop (i + 1) := by
  obtain ⟨h1, h2⟩ := List.getElem?_eq_some_iff.1 h
  rw [List.drop_eq_getElem_cons h1, h2]
theorem apply_len (c : Chg) (s : St) : (PWal.apply c s).log.length ≤ s.log.length + 1 := by
  unfold PWal.apply
  dsimp only
  rw [List.length_append, List.length_take]
  split <;> simp <;> omega
set_option maxHeartbeats 2000000 in
theorem replay_any {w : World} {bw b : Nat} {s : St} {lv : Value} (h : SAt w bw b s lv) {bs : List UInt8} {A : Option Addr} {n c N0 : Nat} (hn : n = bs.length) (hown : OwnB w N0 (.slice A n c) bs) (hN : N0 ≤ w.heap.size) (hbw : bw < N0) (hlv : ∀ k, lv.ownBlock = some k → k < N0) (hsz : bs.length ≤ 1048576) (hlen : s.log.length + (Fm.Fr.scan bs).1.length < 10000000) :
    Calls Tryz.prog 89 #[.pointer (some ⟨bw, 0, none⟩), .slice A n c] w fun e w' => e = .returned (.int .i64 (PWal.replay (Fm.Fr.scan bs).1 s 0).2) ∧ ∃ lv', SatTo w w' bw b (PWal.replay (Fm.Fr.scan bs).1 s 0).1 lv lv' := by
  have HSC := Lib.hid (scan_pays hn hown hN (by omega))
  have HS := Lib.hid h
  have HBW := Lib.hid hbw
  have HLV := Lib.hid hlv
  have HLEN := Lib.hid hlen
  obtain ⟨q1, q2⟩ := scan_sizes bs
  have HP := Lib.hid q1
  have HC : Hid ((Fm.Fr.scan bs).1.length ≤ 131072) := Lib.hid (by omega)
  clear h hown hbw hlv hlen q1 q2 hn
  go_enter Tryz.func89, Tryz.ntmps89
  go_wp2_with fail
  refine HSC.out.mono ?_
  rintro e w1 ⟨b1, A1, c1, rfl, hp⟩
  have S1 := Lib.hid (HS.out.same.after b1)
  have HPA := Lib.hid hp
  have HZ1 := Lib.hid b1.size
  generalize (Fm.Fr.scan bs).2 = wh at *
  obtain ⟨N, hNN⟩ : ∃ N, N = (Fm.Fr.scan bs).1.length := ⟨_, rfl⟩
  have HN := Lib.hid hNN
  rw [← hNN]
  generalize hls : (Fm.Fr.scan bs).1 = ls at *
  have HLS := Lib.hid hls
  clear b1 hp hNN hls
  go_wp2_with fail
  go_loopw [7, 19] (RepRel ls s bw b w1 lv) (fun _ i _ => N - (intOf i).toNat)
  case atStart => exact ⟨0, 0, s, lv, by omega, rfl, rfl, S1.out.sat.same, rfl, by omega, by omega⟩
  case round =>
    obtain ⟨i, g, s', lv', hi, rfl, rfl, hst, hrep, hsl, hg⟩ := hrel
    have ST := Lib.hid hst
    have RE := Lib.hid hrep
    have SL := Lib.hid hsl
    have HG := Lib.hid hg
    rw [← HN.out] at hi
    have hi13 : i ≤ 131072 := by have := HC.out; have := HN.out; omega
    by_cases hlt : i < N
    · obtain ⟨p, hx⟩ : ∃ x, ls[i]? = some x := ⟨_, List.getElem?_eq_getElem (by rw [← HN.out]; exact hlt)⟩
      have hkp := HPA.out.keep (w' := wr) fun k h0 h1 => hst.fr.block k h1 fun q => by
        rcases q with q | q
        · have := HBW.out; omega
        · have := HLV.out k q; omega
      obtain ⟨g0, off, rfl, hg0, hg1, hrow⟩ := hkp (by intro e; rw [e] at hx; simp at hx)
      obtain ⟨A2, n2, k0, k1, k2, k3⟩ := hrow i p hx
      have hgw : g0 < wr.heap.size := by have := hst.fr.size; omega
      have hba : Fm.BytesAt wr wr.heap.size A2 p := fun hne => by
        obtain ⟨b2, off2, r1, r2, r3, r4⟩ := k3 hne
        exact ⟨b2, off2, r1, by have := hst.fr.size; omega, r4⟩
      have HCH := Lib.hid (changeOf_any p A2 p.length n2 wr hba rfl k1 k2)
      have hp4 := HP.out p (List.mem_of_getElem? hx)
      rw [drop_atL hx] at RE
      have hI0 : (0 : Int) ≤ (i : Int) := by omega
      have hI1 : (i : Int) < (N : Int) := by omega
      have hI2 : (N : Int) ≤ 131072 := by have := HC.out; have := HN.out; omega
      obtain ⟨m, hm⟩ : ∃ m, m = p.length := ⟨_, rfl⟩
      have HM := Lib.hid hm
      rw [← hm] at k0 hp4 HCH
      clear hst hrep hsl hg hx hkp hrow k1 k2 k3 hba hm
      go_wp2_with fail
      refine HCH.out.mono ?_
      rintro e w2 ⟨b2, hcase⟩
      have B2 := Lib.hid b2
      clear b2
      rcases hcase with ⟨cg, hcg, rfl⟩ | ⟨hcg, x0, x1, x2, x3, rfl⟩
      · obtain ⟨hcs, hct⟩ := chg_small hcg
        rw [replay_some hcg] at RE
        have FI := Lib.hid (fun q => fits_some (c := cg) (s := s') q)
        have AL := Lib.hid (apply_len cg s')
        have CS := Lib.hid hcs
        have CT := Lib.hid hct
        clear hcg hcs hct
        have HF0 := Lib.hid (fun (V : World) (q : SAt V bw b s' lv') => fits_any q cg (by have := CS.out; omega))
        have HA0 := Lib.hid (fun (V : World) (q : SAt V bw b s' lv') => apply_any q cg)
        unfold chgV at HF0 HA0 ⊢
        obtain ⟨ci, tr, ⟨ct, cd⟩⟩ := cg
        dsimp only at *
        obtain ⟨W3, hW3⟩ : ∃ W3, w2.alloc (.cells #[.int .i64 ci, .bool tr, .int .i64 ct, .string (str cd)] 112) = W3 := ⟨_, rfl⟩
        have HW3 := Lib.hid hW3
        have hb3 : Below wr.heap.size wr W3 := hW3 ▸ (B2.out.alloc B2.out.size _)
        have hx3 : W3.heap[w2.heap.size]? = some (.cells #[.int .i64 ci, .bool tr, .int .i64 ct, .string (str cd)] 112 (0, 0)) := by rw [← hW3]; exact heap_alloc_new w2 _
        have B3 := Lib.hid hb3
        have HX3 := Lib.hid hx3
        have BOX : Hid (∀ V, Below W3.heap.size W3 V → V.cell? ⟨w2.heap.size, 0, none⟩ = some (.int .i64 ci) ∧ V.cell? ⟨w2.heap.size, 1, none⟩ = some (.bool tr) ∧ V.cell? ⟨w2.heap.size, 2, none⟩ = some (.int .i64 ct) ∧ V.cell? ⟨w2.heap.size, 3, none⟩ = some (.string (str cd))) := Lib.hid (fun V hb => by
          have hv := (hb.block _ (Array.getElem?_eq_some_iff.1 HX3.out).1).trans HX3.out
          refine ⟨?_, ?_, ?_, ?_⟩ <;> (rw [Lib.cell_of_heap hv]; rfl))
        have HS3 := Lib.hid (ST.out.sat.below B3.out)
        have BOX2 : Hid (∀ (V V2 : World) (s3 : St) (lv3 : Value), Below W3.heap.size W3 V → SatTo V V2 bw b s3 lv' lv3 → V2.cell? ⟨w2.heap.size, 0, none⟩ = some (.int .i64 ci) ∧ V2.cell? ⟨w2.heap.size, 1, none⟩ = some (.bool tr) ∧ V2.cell? ⟨w2.heap.size, 2, none⟩ = some (.int .i64 ct) ∧ V2.cell? ⟨w2.heap.size, 3, none⟩ = some (.string (str cd))) := Lib.hid (fun V V2 s3 lv3 hb ht => by
          have hlt3 := (Array.getElem?_eq_some_iff.1 HX3.out).1
          have hsz2 := B2.out.size
          have hv := (hb.block _ hlt3).trans HX3.out
          have hv2 := (ht.fr.block w2.heap.size (by have := hb.size; omega) (fun q => by
            rcases q with q | q
            · have := ST.out.sat.lt; omega
            · have := (ST.out.sat.log_ne _ q).1; omega)).trans hv
          refine ⟨?_, ?_, ?_, ?_⟩ <;> (rw [Lib.cell_of_heap hv2]; rfl))
        have HF : Hid (∀ V, Below W3.heap.size W3 V → Calls Tryz.prog 139 #[.agg #[.int .i64 ci, .bool tr, .int .i64 ct, .string (str cd)], .pointer (some ⟨bw, 1, none⟩)] V fun e w' => e = .returned (.bool (PWal.fits ⟨ci, tr, ⟨ct, cd⟩⟩ s')) ∧ Below V.heap.size V w') := Lib.hid (fun V hb => HF0.out V (HS3.out.below hb))
        clear hW3 hb3 hx3 HF0
        obtain ⟨p0, p1, p2, p3⟩ := BOX.out _ (Below.refl _ W3)
        have D3 : Hid (Below W3.heap.size W3 W3.drew) := Lib.hid (Below.refl _ W3).drew
        cases hB : PWal.fits ⟨ci, tr, ⟨ct, cd⟩⟩ s'
        · rw [hB] at HF RE
          have RN : Hid (PWal.replay ls s 0 = (s', g)) := Lib.hid (by rw [← RE.out]; rfl)
          clear hB HA0
          go_wp2_with fail
          rw [HW3.out]
          go_region_held3 (fun V => V.cell? ⟨w2.heap.size, 0, none⟩ = some (.int .i64 ci) ∧ V.cell? ⟨w2.heap.size, 1, none⟩ = some (.bool tr) ∧ V.cell? ⟨w2.heap.size, 2, none⟩ = some (.int .i64 ct) ∧ V.cell? ⟨w2.heap.size, 3, none⟩ = some (.string (str cd))) (first | exact BOX.out _ D3.out | exact BOX.out _ B4.out) (first
            | (go_at_call 139; (with_reducible refine (HF.out _ D3.out).mono ?_); rintro e w4 ⟨rfl, b4⟩; have B4 : Hid (Below W3.heap.size W3 w4) := Lib.hid (D3.out.trans b4); clear b4))
          go_wp2_with fail
          go_ret
          exact ⟨by rw [HLS.out, RN.out]; rfl, lv', by rw [HLS.out, RN.out]; exact (S1.out.trans ST.out).after (B3.out.trans (B4.out.mono B3.out.size))⟩
        · rw [hB] at HF RE
          obtain ⟨f1, f2, f3, f4⟩ := FI.out hB
          have RN : Hid (PWal.replay (ls.drop (i + 1)) (PWal.apply ⟨ci, tr, ⟨ct, cd⟩⟩ s') (g + (8 + m)) = PWal.replay ls s 0) := Lib.hid (by rw [← RE.out, HM.out]; rfl)
          have HAP : Hid (∀ V, Below W3.heap.size W3 V → Calls Tryz.prog 66 #[.agg #[.int .i64 ci, .bool tr, .int .i64 ct, .string (str cd)], .pointer (some ⟨bw, 1, none⟩)] V fun e w' => e = .returned (.tuple #[]) ∧ ∃ lv2, SatTo V w' bw b (PWal.apply ⟨ci, tr, ⟨ct, cd⟩⟩ s') lv' lv2) := Lib.hid (fun V hb => by
            refine HA0.out V (HS3.out.below hb) f1 f3 f2 ?_ ?_ ?_
            · have := SL.out; have := HLEN.out; have := HN.out; omega
            · cases tr
              · rcases f4 with q | q
                · cases q
                · exact ⟨by omega, by omega⟩
              · have := CT.out rfl
                injection this with q1 q2
                subst q1; exact ⟨by decide, by decide⟩
            · cases tr
              · rcases f4 with q | q
                · cases q
                · exact q.2.2
              · have := CT.out rfl
                injection this with q1 q2
                subst q2; exact Nat.zero_le _)
          clear hB HA0 f1 f2 f3 f4
          generalize PWal.apply ⟨ci, tr, ⟨ct, cd⟩⟩ s' = s2 at *
          have hgm : IntKind.i64.wrap (8 + (m : Int)) = 8 + (m : Int) := IntWalk.i64_in _ (by omega)
          have hgw2 : IntKind.i64.wrap ((g : Int) + (8 + (m : Int))) = (g : Int) + (8 + (m : Int)) := IntWalk.i64_in _ (by have := HG.out; omega)
          go_wp2_with fail
          rw [HW3.out]
          go_region_held3 (fun V => V.cell? ⟨w2.heap.size, 0, none⟩ = some (.int .i64 ci) ∧ V.cell? ⟨w2.heap.size, 1, none⟩ = some (.bool tr) ∧ V.cell? ⟨w2.heap.size, 2, none⟩ = some (.int .i64 ct) ∧ V.cell? ⟨w2.heap.size, 3, none⟩ = some (.string (str cd))) (first | exact BOX.out _ D3.out | exact BOX.out _ B4.out) (first
            | (go_at_call 139; (with_reducible refine (HF.out _ D3.out).mono ?_); rintro e w4 ⟨rfl, b4⟩; have B4 : Hid (Below W3.heap.size W3 w4) := Lib.hid (D3.out.trans b4); clear b4))
          go_wp2_with fail
          obtain ⟨r0, r1, r2, r3⟩ := BOX.out _ B4.out
          have D4 : Hid (Below W3.heap.size W3 w4.drew) := Lib.hid B4.out.drew
          go_region_held3 (fun V => V.cell? ⟨w2.heap.size, 0, none⟩ = some (.int .i64 ci) ∧ V.cell? ⟨w2.heap.size, 1, none⟩ = some (.bool tr) ∧ V.cell? ⟨w2.heap.size, 2, none⟩ = some (.int .i64 ct) ∧ V.cell? ⟨w2.heap.size, 3, none⟩ = some (.string (str cd))) (first | exact BOX.out _ D4.out | exact BOX2.out _ _ _ _ D4.out T5.out) (first
            | (go_at_call 66; (with_reducible refine (HAP.out _ D4.out).mono ?_); rintro e w5 ⟨rfl, lv2, t5⟩; have T5 := Lib.hid t5; clear t5))
          go_wp2_with fail
          go_roundw
          case rel =>
            refine ⟨i + 1, g + (8 + m), s2, lv2, by rw [← HN.out]; omega, by go_num, by go_num, ?_, RN.out, ?_, ?_⟩
            · exact (ST.out.after (B3.out.trans (D4.out.mono B3.out.size))).trans T5.out
            · have := AL.out; have := SL.out; omega
            · have := HG.out; omega
          case measure => simp [intOf]; omega
      · have RN : Hid (PWal.replay ls s 0 = (s', g)) := Lib.hid (by rw [← RE.out, replay_none hcg])
        have W3B : Hid (Below wr.heap.size wr (w2.alloc (.cells #[.int .i64 x0, .bool x1, .int .i64 x2, .string x3] 112))) := Lib.hid (B2.out.alloc B2.out.size _)
        clear hcg
        go_wp2_with fail
        generalize w2.alloc (.cells #[.int .i64 x0, .bool x1, .int .i64 x2, .string x3] 112) = W3 at *
        go_quiet (fail)
        go_wp2_with fail
        go_ret
        exact ⟨by rw [HLS.out, RN.out]; rfl, lv', by rw [HLS.out, RN.out]; exact (S1.out.trans ST.out).after (below_drewN W3B.out _)⟩
    · have hiN : i = N := by omega
      subst hiN
      have RN : Hid (PWal.replay ls s 0 = (s', g)) := Lib.hid (by rw [← RE.out, List.drop_of_length_le (by rw [← HN.out]; exact Nat.le_refl _)]; rfl)
      clear hst hrep hsl hg
      go_wp2_with fail
      go_ret
      exact ⟨by rw [HLS.out, RN.out]; rfl, lv', by rw [HLS.out, RN.out]; exact S1.out.trans ST.out⟩
end Go.Proofs.YtjcikhacekmcfaaGreatDoor
namespace Go.Proofs.YtjcikhacekmcfaaGreatDoor
open Go.RowKit
open PlainDisk (File Disk)
open PWal (St Ent Chg)
set_option linter.unusedVariables false
set_option maxRecDepth 100000

/-! ### the votes are read -/
def VotRel (ls : List (List UInt8)) (s : St) (D : Disk) (bw b : Nat) (lv : Value) (S T : Nat → Prop) (w : World) (iV : Value) (wr : World) : Prop :=
  ∃ (i : Nat) (s' : St), i ≤ ls.length ∧ iV = .int .i64 i ∧ Wl wr bw b D s' lv S T ∧ Fr (fun k => k = bw) w wr ∧ PWal.votes (ls.drop i) s' = PWal.votes ls s
theorem votes_nil (s : St) : PWal.votes [] s = s := rfl
theorem votes_none {p : List UInt8} (h : PWal.voteOf p = none) (r : List (List UInt8)) (s : St) : PWal.votes (p :: r) s = PWal.votes r s := by unfold PWal.votes; rw [List.foldl_cons, h]
theorem votes_some {p : List UInt8} {t v : Int} (h : PWal.voteOf p = some (t, v)) (r : List (List UInt8)) (s : St) : PWal.votes (p :: r) s = PWal.votes r { s with term := t, vote := v } := by unfold PWal.votes; rw [List.foldl_cons, h]
theorem voteOf_in {p : List UInt8} {t v : Int} (h : PWal.voteOf p = some (t, v)) : Wr.InR t ∧ Wr.InR v := by
  unfold PWal.voteOf at h
  split at h
  · split at h
    · rename_i q
      injection h with h
      injection h with h1 h2
      subst h1 h2
      obtain ⟨q1, q2, q3⟩ := q
      unfold PWal.mayVote at q3
      simp only [Bool.and_eq_true, decide_eq_true_eq] at q3
      unfold PWal.maxI at q2
      exact ⟨⟨by omega, by omega⟩, ⟨by omega, by omega⟩⟩
    · cases h
  · cases h
theorem readVote_eq (D : Disk) (s : St) : PWal.readVote D s = ((PWal.trim D PWal.voteN (Fm.Fr.scan (PWal.rdB D PWal.voteN)).2).1, PWal.votes (Fm.Fr.scan (PWal.rdB D PWal.voteN)).1 s, (PWal.trim D PWal.voteN (Fm.Fr.scan (PWal.rdB D PWal.voteN)).2).2) := rfl
set_option maxHeartbeats 2000000 in
theorem readVote_any {w : World} {bw b : Nat} {D : Disk} {s : St} {T : Nat → Prop} (h : Wal w bw b D s T) : Calls Tryz.prog 37 #[.pointer (some ⟨bw, 0, none⟩)] w (CallP (PWal.readVote D s) bw b T w) := by
  have hmf : ∀ (fn : Fn) (first cap : Array Value) (w : World), (Instr.makeFunc fn first cap).run Tryz.prog w = .ok (.func fn first cap) w := fun _ _ _ _ => rfl
  have hst := store_fn
  have HNO := Lib.hid (nameIs_old PWal.voteN (by decide))
  rw [← str_vote] at HNO
  obtain ⟨⟨lv, S, hwl⟩, hT⟩ := h
  have HWL := Lib.hid hwl
  have HT := Lib.hid hT
  have hptr := hwl.ws.ptr
  have HFI := Lib.hid (file_agg (w := w) (b := b) (bw := bw) HNO.out hptr)
  have HRV := Lib.hid (readVote_eq D s)
  have HRL := Lib.hid (rdB_le hwl.dk.fine PWal.voteN)
  clear hwl hT hptr
  go_enter Tryz.func37, Tryz.ntmps37
  go_wp2_with fail
  refine HFI.out.mono ?_
  rintro e w1 ⟨rfl, b1⟩
  have hBN := Box2.new w1 (.pointer (some ⟨b, 0, none⟩)) (.func (Fn.func 84) #[.string ⟨#[118, 111, 116, 101]⟩] #[]) 121
  have HBX := Lib.hid hBN
  have HB2 := Lib.hid (b1.alloc b1.size (.cells #[.pointer (some ⟨b, 0, none⟩), .func (Fn.func 84) #[.string ⟨#[118, 111, 116, 101]⟩] #[]] 121))
  have HK1 : Hid (w.heap.size ≤ w1.heap.size ∧ w1.heap.size < (w1.alloc (.cells #[.pointer (some ⟨b, 0, none⟩), .func (Fn.func 84) #[.string ⟨#[118, 111, 116, 101]⟩] #[]] 121)).heap.size) := Lib.hid ⟨b1.size, by rw [World.size_alloc]; omega⟩
  obtain ⟨k, hk⟩ : ∃ k, k = w1.heap.size := ⟨_, rfl⟩
  rw [← hk] at HBX HK1
  have HK := Lib.hid hk
  clear b1 hBN
  go_wp2_with fail
  rw [← HK.out]
  clear hk
  generalize w1.alloc (.cells #[.pointer (some ⟨b, 0, none⟩), .func (Fn.func 84) #[.string ⟨#[118, 111, 116, 101]⟩] #[]] 121) = W at *
  have HRD := Lib.hid (read_any2 ((HWL.out.below HB2.out).dk) HNO.out)
  obtain ⟨x0, x1⟩ := id HBX.out
  refine HRD.out.mono ?_
  rintro e w3 ⟨A3, c3, rfl, own3, b3⟩
  have HSC := Lib.hid (scan_pays rfl own3 b3.size (by have := HRL.out; omega))
  have HB3 := Lib.hid (HB2.out.trans (b3.mono HB2.out.size))
  have HBX3 := Lib.hid (HBX.out.below b3)
  have HZ3 := Lib.hid b3.size
  have HWH := Lib.hid (Fm.Fr.scan_le _ _ (Nat.le_refl (PWal.rdB D PWal.voteN).length))
  obtain ⟨M, hM⟩ : ∃ M, M = (PWal.rdB D PWal.voteN).length := ⟨_, rfl⟩
  obtain ⟨q1, q2⟩ := scan_sizes (PWal.rdB D PWal.voteN)
  have HC : Hid ((Fm.Fr.scan (PWal.rdB D PWal.voteN)).1.length ≤ 131072) := Lib.hid (by have := HRL.out; omega)
  rw [← hM] at HSC HWH HRL ⊢
  clear own3 b3 x0 x1 hM q1 q2
  go_wp2_with fail
  refine HSC.out.mono ?_
  rintro e w4 ⟨b4, A1, c1, rfl, hp⟩
  have HPA := Lib.hid hp
  have HB4 := Lib.hid (HB3.out.trans (b4.mono HB3.out.size))
  have HBX4 := Lib.hid (HBX3.out.below b4)
  have HZ4 := Lib.hid (Nat.le_trans HZ3.out b4.size)
  have HW4 := Lib.hid (HWL.out.below HB4.out)
  obtain ⟨N, hNN⟩ : ∃ N, N = (Fm.Fr.scan (PWal.rdB D PWal.voteN)).1.length := ⟨_, rfl⟩
  have HN := Lib.hid hNN
  rw [← hNN]
  generalize (Fm.Fr.scan (PWal.rdB D PWal.voteN)).1 = ls at *
  generalize (Fm.Fr.scan (PWal.rdB D PWal.voteN)).2 = wh at *
  clear b4 hp hNN
  go_wp2_with fail
  go_loopw [22] (VotRel ls s D bw b lv S T w4) (fun i _ => N - (intOf i).toNat)
  case atStart => exact ⟨0, s, by omega, rfl, HW4.out, Fr.refl _ _, rfl⟩
  case round =>
    obtain ⟨i, s', hi, rfl, hw', hfr, hvo⟩ := hrel
    have WL := Lib.hid hw'
    have FR := Lib.hid hfr
    have VO := Lib.hid hvo
    have hbw0 := HWL.out.sat.lt
    rw [← HN.out] at hi
    by_cases hlt : i < N
    · obtain ⟨p, hx⟩ : ∃ x, ls[i]? = some x := ⟨_, List.getElem?_eq_getElem (by rw [← HN.out]; exact hlt)⟩
      have hkp := HPA.out.keep (w' := wr) fun q h0 h1 => hfr.block q h1 (by have := HB2.out.size; omega)
      obtain ⟨g0, off, rfl, hg0, hg1, hrow⟩ := hkp (by intro e; rw [e] at hx; simp at hx)
      obtain ⟨A2, n2, k0, k1, k2, k3⟩ := hrow i p hx
      have hgw : g0 < wr.heap.size := by have := hfr.size; omega
      have hba : Fm.BytesAt wr wr.heap.size A2 p := fun hne => by
        obtain ⟨b2, off2, r1, r2, r3, r4⟩ := k3 hne
        exact ⟨b2, off2, r1, by have := hfr.size; omega, r4⟩
      have HCH := Lib.hid (voteOf_any p A2 p.length n2 wr hba rfl k1 k2)
      rw [drop_atL hx] at VO
      have hI0 : (0 : Int) ≤ (i : Int) := by omega
      have hI1 : (i : Int) < (N : Int) := by omega
      have hI2 : (N : Int) ≤ 131072 := by have := HC.out; have := HN.out; omega
      obtain ⟨m, hm⟩ : ∃ m, m = p.length := ⟨_, rfl⟩
      rw [← hm] at k0 HCH
      clear hw' hfr hvo hx hkp hrow k1 k2 k3 hba hm hbw0
      go_wp2_with fail
      refine HCH.out.mono ?_
      rintro e w5 ⟨b5, hcase⟩
      have WL5 := Lib.hid (WL.out.below b5)
      have F5 : Hid (Fr (fun k => k = bw) w4 w5) := Lib.hid (FR.out.trans (S' := fun _ => False) (Fr.of_below b5) fun i hi => hi.elim)
      clear b5
      rcases hcase with ⟨t, v, hcg, rfl⟩ | ⟨hcg, rfl⟩
      · rw [votes_some hcg] at VO
        have HIN := Lib.hid (voteOf_in hcg)
        clear hcg
        obtain ⟨c0, c1, c2, c3, c4, c5, c6⟩ := WL5.out.sat.at
        have hl3 := WL5.out.sat.lt
        have f1 := Lib.frozen_of_heap WL5.out.sat.cells 1
        have f2 := Lib.frozen_of_heap WL5.out.sat.cells 2
        have HST : Hid (Wl ((w5.setCell ⟨bw, 1, none⟩ (.int .i64 t)).setCell ⟨bw, 2, none⟩ (.int .i64 v)) bw b D { s' with term := t, vote := v } lv S T) := Lib.hid (by
          refine WL5.out.poke (((Fr.refl (fun k => k = bw) w5).setCell (p := ⟨bw, 1, none⟩) (.inl rfl) _).setCell (p := ⟨bw, 2, none⟩) (.inl rfl) _) ?_ rfl ⟨WL5.out.sat.fine.i0, WL5.out.sat.fine.i1, WL5.out.sat.fine.len, HIN.out.1, HIN.out.2, WL5.out.sat.fine.st, WL5.out.sat.fine.d, WL5.out.sat.fine.e⟩
          exact (Fm.heap_set _ bw 2 (.int .i64 v) _ _ (Fm.heap_set w5 bw 1 (.int .i64 t) _ _ WL5.out.sat.cells)))
        have F6 : Hid (Fr (fun k => k = bw) w4 ((w5.setCell ⟨bw, 1, none⟩ (.int .i64 t)).setCell ⟨bw, 2, none⟩ (.int .i64 v))) := Lib.hid ((F5.out.setCell (p := ⟨bw, 1, none⟩) (.inl rfl) _).setCell (p := ⟨bw, 2, none⟩) (.inl rfl) _)
        go_wp2_with fail
        go_roundw
        case rel => exact ⟨i + 1, _, by rw [← HN.out]; omega, by go_num, HST.out, F6.out, VO.out⟩
        case measure => simp [intOf]; omega
      · rw [votes_none hcg] at VO
        clear hcg
        go_wp2_with fail
        go_roundw
        case rel => exact ⟨i + 1, s', by rw [← HN.out]; omega, by go_num, WL5.out, F5.out, VO.out⟩
        case measure => simp [intOf]; omega
    · have hiN : i = N := by omega
      subst hiN
      have VE : Hid (PWal.votes ls s = s') := Lib.hid (by rw [← VO.out, List.drop_of_length_le (by rw [← HN.out]; exact Nat.le_refl _)]; rfl)
      have HTR := Lib.hid (trim_file (WL.out.dk) HNO.out wh (by have := HWH.out; have := HRL.out; omega))
      have hkk : k ≠ bw := by have := HK1.out.1; omega
      have hk4 : k < w4.heap.size := by have := HK1.out.2; have := HZ4.out; omega
      obtain ⟨x0, x1⟩ := id HBX4.out
      have y0 := (World.cell?_of_block (w := w4) (a := ⟨k, 0, none⟩) (hfr.block k hk4 hkk)).trans x0
      have y1 := (World.cell?_of_block (w := w4) (a := ⟨k, 1, none⟩) (hfr.block k hk4 hkk)).trans x1
      clear hw' hfr hvo hkk x0 x1 hbw0
      go_wp2_with fail
      refine HTR.out.mono ?_
      rintro e w6 ⟨rfl, t6⟩
      obtain ⟨S6, T6, wl6, hT6, up6, upT6, fr6⟩ := WL.out.disk (fun q hq => ⟨(HT.out q hq).1, Nat.lt_of_lt_of_le (HT.out q hq).2 (Nat.le_trans HB4.out.size FR.out.size)⟩) t6
      have FIN : Hid (WalTo w w6 bw b (PWal.trim D PWal.voteN wh).1 s' T) := Lib.hid (WalTo.before HB4.out (WalTo.go (T1 := T) (fun q hq => .inl hq) ⟨FR.out.os, FR.out.tape, FR.out.output, FR.out.size, fun q hq hn => FR.out.block q hq fun e => hn (e ▸ HWL.out.cov _ (.inr (.inl rfl)))⟩ ⟨T6, ⟨⟨_, _, wl6⟩, hT6⟩, upT6, fr6⟩))
      clear t6 wl6 hT6 up6 upT6 fr6
      go_wp2_with fail
      go_ret
      exact ⟨by rw [HRV.out]; rfl, by rw [HRV.out, VE.out]; exact FIN.out⟩
end Go.Proofs.YtjcikhacekmcfaaGreatDoor
namespace Go.Proofs.YtjcikhacekmcfaaGreatDoor
open Go.RowKit
open PlainDisk (File Disk)
set_option linter.unusedVariables false
set_option maxRecDepth 100000

/-! ### what was being made anew is dropped -/
def dn : List (List UInt8) → Disk → Disk × Int
  | [], D => (D, 0)
  | l :: r, D => PWal.andThen (PWal.dropF D (l ++ PWal.dotNew)) (dn r)
theorem dn_nil (D : Disk) : dn [] D = (D, 0) := rfl
theorem dn_cons (l : List UInt8) (r : List (List UInt8)) (D : Disk) : dn (l :: r) D = PWal.andThen (PWal.dropF D (l ++ PWal.dotNew)) (dn r) := rfl
theorem andThen_end (r : Disk × Int) : PWal.andThen r (fun D => (D, 0)) = r := by
  obtain ⟨D, e⟩ := r
  unfold PWal.andThen
  split
  · rename_i h; have h : e = 0 := h; subst h; rfl
  · rfl
theorem dropNew_eq (D : Disk) : PWal.dropNew D = dn [PWal.voteN, PWal.snapN] D := by
  show PWal.andThen (PWal.dropF D PWal.voteNewN) (fun D1 => PWal.dropF D1 PWal.snapNewN) = PWal.andThen (PWal.dropF D (PWal.voteN ++ PWal.dotNew)) (fun D1 => PWal.andThen (PWal.dropF D1 (PWal.snapN ++ PWal.dotNew)) (fun D2 => (D2, 0)))
  refine congrArg (PWal.andThen _) (funext fun D1 => ?_)
  rw [andThen_end]; rfl
def NewRel (R : Disk × Int) (bw b : Nat) (S : Nat → Prop) (w : World) (iV : Value) (wr : World) : Prop :=
  ∃ (D' : Disk) (S' : Nat → Prop), Ws wr bw b D' S' ∧ (∀ k, S' k → Up S w wr k) ∧ Fr S w wr ∧
    ((iV = .int .i64 0 ∧ dn [PWal.voteN, PWal.snapN] D' = R) ∨ (iV = .int .i64 1 ∧ dn [PWal.snapN] D' = R) ∨ (iV = .int .i64 2 ∧ dn [] D' = R))
set_option maxHeartbeats 2000000 in
theorem dropNew_any {w : World} {bw b : Nat} {D : Disk} {S : Nat → Prop} (h : Ws w bw b D S) : Calls Tryz.prog 36 #[.pointer (some ⟨bw, 0, none⟩)] w (StepP (PWal.dropNew D) b S w) := by
  have hmf : ∀ (fn : Fn) (first cap : Array Value) (w : World), (Instr.makeFunc fn first cap).run Tryz.prog w = .ok (.func fn first cap) w := fun _ _ _ _ => rfl
  have hst := store_fn
  have i0 : ∀ w : World, (Instr.index 135 (.agg #[.string ⟨#[118, 111, 116, 101]⟩, .string ⟨#[115, 110, 97, 112]⟩]) (.int .i64 0)).run Tryz.prog w = .ok (.string ⟨#[118, 111, 116, 101]⟩) w := fun _ => by kernel_rfl
  have i1 : ∀ w : World, (Instr.index 135 (.agg #[.string ⟨#[118, 111, 116, 101]⟩, .string ⟨#[115, 110, 97, 112]⟩]) (.int .i64 1)).run Tryz.prog w = .ok (.string ⟨#[115, 110, 97, 112]⟩) w := fun _ => by kernel_rfl
  have HW := Lib.hid h
  have HD := Lib.hid (dropNew_eq D)
  clear h
  go_enter Tryz.func36, Tryz.ntmps36
  go_wp2_with fail
  go_loopw [7] (NewRel (dn [PWal.voteN, PWal.snapN] D) bw b S w) (fun i _ => 2 - (intOf i).toNat)
  case atStart => exact ⟨D, S, HW.out, fun k hk => .inl hk, Fr.refl _ _, .inl ⟨rfl, rfl⟩⟩
  case round =>
    obtain ⟨D', S', hws, hup, hfr, hcase⟩ := hrel
    have W2 := Lib.hid hws
    have UP := Lib.hid hup
    have FR := Lib.hid hfr
    rcases hcase with ⟨rfl, hR⟩ | ⟨rfl, hR⟩ | ⟨rfl, hR⟩
    · have HNI := Lib.hid (nameIs_new PWal.voteN (by decide))
      rw [← str_vote] at HNI
      have HFI := Lib.hid (file_agg (w := wr) (b := b) (bw := bw) HNI.out hws.ptr)
      have RR := Lib.hid hR
      rw [dn_cons] at RR
      clear hws hup hfr hR
      go_wp2_with fail
      refine HFI.out.mono ?_
      rintro e w3 ⟨rfl, b3⟩
      have HSE := Lib.hid (drop_file ((W2.out.below b3).dk) HNI.out)
      have B3 := Lib.hid b3
      clear b3
      go_wp2_with fail
      refine HSE.out.mono ?_
      rintro e w4 ⟨rfl, t4⟩
      obtain ⟨S4, ws4, up4, fr4⟩ := (W2.out.below B3.out).to t4
      have W4 := Lib.hid ws4
      have F4 := Lib.hid (FR.out.trans ((Fr.of_below (S := S') B3.out).trans fr4 (fun k hk => .inl hk)) (fun k hk => (UP.out k hk).imp id And.left))
      have U4 : Hid (∀ k, S4 k → Up S w w4 k) := Lib.hid (fun k hk => by
        rcases up4 k hk with q | q
        · rcases UP.out k q with q | q
          · exact .inl q
          · exact .inr ⟨q.1, by have := fr4.size; have := B3.out.size; omega⟩
        · exact .inr ⟨by have := FR.out.size; have := B3.out.size; omega, q.2⟩)
      generalize PWal.dropF D' (PWal.voteN ++ PWal.dotNew) = r at *
      obtain ⟨D4, e4⟩ := r
      clear t4 ws4 up4 fr4
      by_cases he : e4 = 0
      · subst he
        have R4 : Hid (dn [PWal.snapN] D4 = dn [PWal.voteN, PWal.snapN] D) := Lib.hid (by rw [← RR.out]; unfold PWal.andThen; rw [if_pos rfl])
        go_wp2_with fail
        go_roundw
        case rel => exact ⟨D4, S4, W4.out, U4.out, F4.out, .inr (.inl ⟨rfl, R4.out⟩)⟩
        case measure => simp [intOf]
      · have R4 : Hid ((D4, e4) = dn [PWal.voteN, PWal.snapN] D) := Lib.hid (by rw [← RR.out]; unfold PWal.andThen; rw [if_neg he])
        go_wp2_with fail
        go_ret
        exact ⟨by rw [HD.out, ← R4.out]; rfl, by rw [HD.out, ← R4.out]; exact ⟨S4, W4.out.dk, U4.out, F4.out⟩⟩
    · have HNI := Lib.hid (nameIs_new PWal.snapN (by decide))
      rw [← str_snap] at HNI
      have HFI := Lib.hid (file_agg (w := wr) (b := b) (bw := bw) HNI.out hws.ptr)
      have RR := Lib.hid hR
      rw [dn_cons] at RR
      clear hws hup hfr hR
      go_wp2_with fail
      refine HFI.out.mono ?_
      rintro e w3 ⟨rfl, b3⟩
      have HSE := Lib.hid (drop_file ((W2.out.below b3).dk) HNI.out)
      have B3 := Lib.hid b3
      clear b3
      go_wp2_with fail
      refine HSE.out.mono ?_
      rintro e w4 ⟨rfl, t4⟩
      obtain ⟨S4, ws4, up4, fr4⟩ := (W2.out.below B3.out).to t4
      have W4 := Lib.hid ws4
      have F4 := Lib.hid (FR.out.trans ((Fr.of_below (S := S') B3.out).trans fr4 (fun k hk => .inl hk)) (fun k hk => (UP.out k hk).imp id And.left))
      have U4 : Hid (∀ k, S4 k → Up S w w4 k) := Lib.hid (fun k hk => by
        rcases up4 k hk with q | q
        · rcases UP.out k q with q | q
          · exact .inl q
          · exact .inr ⟨q.1, by have := fr4.size; have := B3.out.size; omega⟩
        · exact .inr ⟨by have := FR.out.size; have := B3.out.size; omega, q.2⟩)
      generalize PWal.dropF D' (PWal.snapN ++ PWal.dotNew) = r at *
      obtain ⟨D4, e4⟩ := r
      clear t4 ws4 up4 fr4
      by_cases he : e4 = 0
      · subst he
        have R4 : Hid (dn [] D4 = dn [PWal.voteN, PWal.snapN] D) := Lib.hid (by rw [← RR.out]; unfold PWal.andThen; rw [if_pos rfl])
        go_wp2_with fail
        go_roundw
        case rel => exact ⟨D4, S4, W4.out, U4.out, F4.out, .inr (.inr ⟨rfl, R4.out⟩)⟩
        case measure => simp [intOf]
      · have R4 : Hid ((D4, e4) = dn [PWal.voteN, PWal.snapN] D) := Lib.hid (by rw [← RR.out]; unfold PWal.andThen; rw [if_neg he])
        go_wp2_with fail
        go_ret
        exact ⟨by rw [HD.out, ← R4.out]; rfl, by rw [HD.out, ← R4.out]; exact ⟨S4, W4.out.dk, U4.out, F4.out⟩⟩
    · have RR := Lib.hid hR
      rw [dn_nil] at RR
      clear hws hup hfr hR
      go_wp2_with fail
      go_ret
      exact ⟨by rw [HD.out, ← RR.out]; rfl, by rw [HD.out, ← RR.out]; exact ⟨S', W2.out.dk, UP.out, FR.out⟩⟩
end Go.Proofs.YtjcikhacekmcfaaGreatDoor
