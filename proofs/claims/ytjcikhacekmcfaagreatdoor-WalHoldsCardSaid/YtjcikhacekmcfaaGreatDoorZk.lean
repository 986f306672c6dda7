import Derived.Test.YtjcikhacekmcfaaGreatDoorZj
import Derived.Test.YtjcikhacekmcfaaGreatDoorYb
import Derived.Deep.DeepCutAuto
import Derived.Deep.CutRange
/- WalHolds: the law's walk. -/
namespace Go.Proofs.YtjcikhacekmcfaaGreatDoor
open Go.RowKit
open PlainDisk (File Disk)
open PWal (St Ent Chg)
set_option linter.unusedVariables false
set_option maxRecDepth 20000
def NoB : Nat → Prop := fun _ => False
/-- acts in memory -/
def ActIs (w : World) (g o : Nat) (x : WAct) : Prop := ∃ A c B nb cb, (∀ (j : Nat) (u : Value), (actC x (.slice A x.e.length c) (.slice B nb cb))[j]? = some u → w.cell? ⟨g, o + j, none⟩ = some u) ∧ EntAt w A c x.e ∧ (∀ g off, x.e ≠ [] → A = some ⟨g, off, none⟩ → g < w.heap.size)
structure ActFine (x : WAct) : Prop where
  k : Wr.InR x.kind
  t : Wr.InR x.term
  n : Wr.InR x.n
  f : Wr.InR x.frm
  si : Wr.InR x.si
  st : Wr.InR x.st
  d : ∀ y ∈ x.e, y.data.length ≤ 281474976710656
  sd : x.sd.length ≤ 281474976710656
def ActsAt (w : World) (A : Option Addr) (l : List WAct) : Prop := ∀ (i : Nat) (x : WAct), l[i]? = some x → ∃ g off, A = some ⟨g, off, none⟩ ∧ g < w.heap.size ∧ ActIs w g (off + i * 9) x
def allL (n : Nat) : List Value := (List.replicate n [Value.int .i64 1048576, Value.bool false]).flatten
theorem allL_succ (n : Nat) : allL (n + 1) = allL n ++ [.int .i64 1048576, .bool false] := by
  unfold allL
  rw [List.replicate_succ', List.flatten_append]
  simp
theorem info65 : (Tryz.prog.info? 65).map (fun i => (i.zero, i.size, i.bytes)) = some (some (.agg #[.int .i64 0, .bool false]), 2, 16) := by kernel_rfl
theorem allL_at : ∀ (n i : Nat), i < n → (allL n)[i * 2]? = some (.int .i64 1048576) ∧ (allL n)[i * 2 + 1]? = some (.bool false) := by
  intro n
  induction n with
  | zero => intro i h; omega
  | succ n ih =>
    intro i h
    have hl : (allL n).length = n * 2 := by unfold allL; rw [List.length_flatten]; simp
    rw [allL_succ]
    by_cases hi : i < n
    · rw [List.getElem?_append_left (by omega), List.getElem?_append_left (by omega)]; exact ih i hi
    · obtain rfl : i = n := by omega
      rw [List.getElem?_append_right (by omega), List.getElem?_append_right (by omega), hl]
      simp
theorem all_lat {w : World} {B : Nat} {v : Value} (h : w.ownsRow B 65 2 v 70 (allL 70)) : ∃ g, B ≤ g ∧ g < w.heap.size ∧ LAt w v (List.replicate 70 ⟨1048576, false⟩) (fun k => NoB k ∨ k = g) := by
  obtain ⟨h1, h2⟩ := h
  rcases h2 with ⟨_, h3⟩ | ⟨g, cap, cur, e1, e2, e3, e4, e5, e6, e7⟩
  · cases h3
  · refine ⟨g, e2, (Array.getElem?_eq_some_iff.1 e3).1, some ⟨g, 0, none⟩, cap, ?_, ?_, ?_, ?_, fun _ => ⟨g, 0, rfl, .inr rfl, fun i x hx => ?_⟩⟩
    · rw [e1, List.length_replicate]
    · rw [List.length_replicate]; exact e4
    · simp only [maxLen] at e5; omega
    · intro x hx
      rw [(List.mem_replicate.1 hx).2]
      exact ⟨by decide, by decide⟩
    · rw [List.getElem?_replicate] at hx
      split at hx
      · rename_i hi
        injection hx with hx
        subst hx
        obtain ⟨a1, a2⟩ := allL_at 70 i hi
        rw [← e7, List.getElem?_take] at a1 a2
        rw [Nat.zero_add, Lib.cell_of_heap e3, Lib.cell_of_heap e3]
        split at a1
        · split at a2
          · exact ⟨by simpa using a1, by simpa using a2⟩
          · cases a2
        · cases a1
      · cases hx
def HoldP (H : Nat → Prop) (w V : World) (bx b : Nat) (va : Value) (i : Nat) : Prop := ∃ (D : Disk) (s : St) (vs : List Bs) (qs : List (Nat × List Bs)), WCh H w V bx b D s ∧ Rep D s vs qs ∧ s.log.length ≤ (i + 1) * 201 ∧ LAt V va (List.replicate 70 ⟨1048576, false⟩) H
theorem box_act {W V : World} {X : Nat} {x : WAct} {A : Option Addr} {c : Nat} {v : Value} (h : W.heap[X]? = some (.cells #[.int .i64 x.kind, .int .i64 x.term, .int .i64 x.n, .int .i64 x.frm, .slice A x.e.length c, .int .i64 x.si, .int .i64 x.st, .string (str x.sd), v] 40 (0, 0))) (hb : Below W.heap.size W V) :
    V.cell? ⟨X, 0, none⟩ = some (.int .i64 x.kind) ∧ V.cell? ⟨X, 1, none⟩ = some (.int .i64 x.term) ∧ V.cell? ⟨X, 2, none⟩ = some (.int .i64 x.n) ∧ V.cell? ⟨X, 3, none⟩ = some (.int .i64 x.frm) ∧ V.cell? ⟨X, 4, none⟩ = some (.slice A x.e.length c) ∧ V.cell? ⟨X, 5, none⟩ = some (.int .i64 x.si) ∧ V.cell? ⟨X, 6, none⟩ = some (.int .i64 x.st) ∧ V.cell? ⟨X, 7, none⟩ = some (.string (str x.sd)) := by
  have hV := (hb.block X (Array.getElem?_eq_some_iff.1 h).1).trans h
  refine ⟨?_, ?_, ?_, ?_, ?_, ?_, ?_, ?_⟩ <;> (rw [Lib.cell_of_heap hV]; rfl)
/-- all that is new is held -/
theorem WCh.holdAll {H : Nat → Prop} {w wi w' : World} {bw b : Nat} {D : Disk} {s : St} (h : WCh H w wi bw b D s) (hb : Below wi.heap.size wi w') : WCh (fun k => H k ∨ (wi.heap.size ≤ k ∧ k < w'.heap.size)) w w' bw b D s := by
  obtain ⟨q1, q2⟩ := h.next hb
  obtain ⟨⟨T, t1, t2⟩, hl, _⟩ := h
  refine ⟨⟨T, t1.below hb, fun k hk => ⟨(t2 k hk).1, fun q => ?_⟩⟩, fun k hk => ?_, q1.below⟩
  · rcases q with q | q
    · exact (t2 k hk).2 q
    · have := (t1.2 k hk).2; omega
  · rcases hk with q | q
    · exact q1.hl k q
    · exact q.2
theorem WCh.sub {H H' : Nat → Prop} {w wi : World} {bw b : Nat} {D : Disk} {s : St} (h : WCh H w wi bw b D s) (hs : ∀ k, H' k → H k) : WCh H' w wi bw b D s := by
  obtain ⟨⟨T, t1, t2⟩, hl, hb⟩ := h
  exact ⟨⟨T, t1, fun k hk => ⟨(t2 k hk).1, fun q => (t2 k hk).2 (hs k q)⟩⟩, fun k hk => hl k (hs k hk), hb⟩
/-- a crash, with what is left of the files told by a held array -/
theorem crash_held {H : Nat → Prop} {w wi : World} {b : Nat} {D : Disk} (h : DCh H w wi b D) (l : List PlainDisk.Left) (vl : Value) (hvl : LAt wi vl l H) :
    Calls Tryz.prog 15 #[.pointer (some ⟨b, 0, none⟩), vl] wi fun e w' => e = .returned (.tuple #[]) ∧ DCh H w w' b (PlainDisk.crash D l) ∧ Kept H wi w' := by
  obtain ⟨⟨S, h1, h2⟩, hl, h3⟩ := h
  refine (crash_act b l vl H D S wi h1.is h1.fine hvl fun k hk => ⟨hl k hk, fun q => (h2 k q).2 hk⟩).mono ?_
  rintro e w' ⟨rfl, ht⟩
  have hf := fine_step h1.fine (x := ⟨6, [], [], [], 0, l⟩) (show (0 : Int) ≤ 9223372036854775807 by decide)
  exact ⟨rfl, to_disk hl h3 h2 (h1.to ht hf)⟩
/-- what a round keeps while a wal is opened anew: the array of what is left, the state as it was -/
structure WasP (H H2 : Nat → Prop) (w v2 : World) (bx b : Nat) (D : Disk) (s : St) (va : Value) (X : Nat) (A : Option Addr) (c : Nat) : Prop where
  sub : ∀ k, H k → H2 k
  wal : WCh H2 w v2 bx b D s
  lat : LAt v2 va (List.replicate 70 ⟨1048576, false⟩) H
  box : ∀ V, Kept H2 v2 V → V.heap[X]? = some (.cells #[.int .i64 s.term, .int .i64 s.vote, .int .i64 s.sidx, .int .i64 s.sterm, .string (str s.sdata), .slice A s.log.length c] 53 (0, 0)) ∧ EntAt V A c s.log
theorem snap_world (w : World) (a c p : Int) (z : ByteArray) (X : Nat) (hX : w.heap.size ≤ X) : Below w.heap.size w ((w.alloc (.cells #[.int .i64 a, .int .i64 c, .string z] 37)).setCell ⟨X, 0, none⟩ (.int .i64 p)) := (bel_alloc w _).setCell (p := ⟨X, 0, none⟩) hX _
theorem hold_step {H : Nat → Prop} {w V : World} {bx b : Nat} {va : Value} {i : Nat} {D : Disk} {s : St} {vs : List Bs} {qs : List (Nat × List Bs)} {x : WAct} {r : Disk × St × Int} (hr : Rep D s vs qs) (hlg : s.log.length ≤ i * 201) (he : x.e.length ≤ 201) (hq : r = stepA D s x) (hw : WCh H w V bx b r.1 r.2.1) (hl : LAt V va (List.replicate 70 ⟨1048576, false⟩) H) : HoldP H w V bx b va i := by
  subst hq
  obtain ⟨vs', qs', h⟩ := step_rep hr x
  have := step_log D s x
  exact ⟨_, _, vs', qs', hw, h, by omega, hl⟩
theorem was_at {H H2 : Nat → Prop} {w v2 V : World} {bx b : Nat} {D : Disk} {s : St} {va : Value} {X : Nat} {A : Option Addr} {c : Nat} (h : WasP H H2 w v2 bx b D s va X A c) (hk : Kept H2 v2 V) : V.cell? ⟨X, 0, none⟩ = some (.int .i64 s.term) ∧ V.cell? ⟨X, 1, none⟩ = some (.int .i64 s.vote) ∧ V.cell? ⟨X, 2, none⟩ = some (.int .i64 s.sidx) ∧ V.cell? ⟨X, 3, none⟩ = some (.int .i64 s.sterm) ∧ V.cell? ⟨X, 4, none⟩ = some (.string (str s.sdata)) ∧ V.cell? ⟨X, 5, none⟩ = some (.slice A s.log.length c) := by
  have hV := (h.box V hk).1
  refine ⟨?_, ?_, ?_, ?_, ?_, ?_⟩ <;> (rw [Lib.cell_of_heap hV]; rfl)
theorem held_lat {H H2 : Nat → Prop} {w v2 : World} {bx b : Nat} {D : Disk} {s : St} {va : Value} {X : Nat} {A : Option Addr} {c : Nat} (h : WasP H H2 w v2 bx b D s va X A c) : LAt v2 va (List.replicate 70 ⟨1048576, false⟩) H2 := by
  obtain ⟨A, c, e1, e2, e3, e4, e5⟩ := h.lat
  refine ⟨A, c, e1, e2, e3, e4, fun hne => ?_⟩
  obtain ⟨k, off, f1, f2, f3⟩ := e5 hne
  exact ⟨k, off, f1, h.sub k f2, f3⟩
theorem held_was {H : Nat → Prop} {w V v1 v2 : World} {bx b : Nat} {D : Disk} {s : St} {va : Value} {A : Option Addr} {c : Nat} (h : WCh H w V bx b D s) (hl : LAt V va (List.replicate 70 ⟨1048576, false⟩) H) (own : OwnE v1 V.heap.size (.slice A s.log.length c) s.log) (hb : Below V.heap.size V v1)
    (hv : v1.alloc (.cells #[.int .i64 s.term, .int .i64 s.vote, .int .i64 s.sidx, .int .i64 s.sterm, .string (str s.sdata), .slice A s.log.length c] 53) = v2) : ∃ H2, WasP H H2 w v2 bx b D s va v1.heap.size A c := by
  have hb2 : Below V.heap.size V v2 := hv ▸ hb.alloc hb.size _
  have hx : v2.heap[v1.heap.size]? = some (.cells #[.int .i64 s.term, .int .i64 s.vote, .int .i64 s.sidx, .int .i64 s.sterm, .string (str s.sdata), .slice A s.log.length c] 53 (0, 0)) := by rw [← hv]; exact heap_alloc_new v1 _
  have hsz : v2.heap.size = v1.heap.size + 1 := by rw [← hv]; simp
  have hb3 : Below v1.heap.size v1 v2 := hv ▸ bel_alloc v1 _
  refine ⟨_, fun k hk => .inl hk, h.holdAll hb2, hl.keep (h.next hb2).2, fun U hk => ⟨(hk _ (.inr ⟨hb.size, by omega⟩)).trans hx, ?_⟩⟩
  refine OwnE.entAt (base := V.heap.size) (own_frame own fun k hk2 => ?_)
  have hlt := World.ownsRow.lt own k hk2
  exact (hk k (.inr ⟨hlt.1, by omega⟩)).trans (hb3.block k hlt.2)
set_option maxHeartbeats 8000000 in
theorem law_holds (size : Int) (A : Option Addr) (n c : Nat) (l : List WAct) (w : World) (hsz : Wr.InR size) (hg : Glob w) (hn : n = l.length) (hA : ActsAt w A l) (hf : ∀ x ∈ l, ActFine x) (hl : n ≤ 140737488351232) :
    Calls Tryz.prog 8 #[.int .i64 size, .slice A n c] w (RetBelow (.bool true) w) := by
  have HAW := Lib.hid (awake_w w hg)
  have HA := Lib.hid hA
  have HF := Lib.hid hf
  have HN1 := Lib.hid hn
  obtain ⟨s0, s1⟩ := hsz
  by_cases hs : size < 0 ∨ 1048576 < size
  · have HN := Lib.hid (fun w1 => new_no size w1 s0 s1 hs)
    have hq : size < 0 ∨ (¬ size < 0 ∧ 1048576 < size) := by omega
    clear hs hA hf hn hg
    rcases hq with q | ⟨q, q2⟩
    all_goals
      go_enter Tryz.func8, Tryz.ntmps8
      go_wp2_with fail
      refine HAW.out.mono ?_
      rintro e w1 ⟨rfl, h⟩
      have B1 := Lib.hid h
      clear h
      go_wp2_with fail
      refine (HN.out _).mono ?_
      rintro e w2 ⟨rfl, rfl⟩
      go_wp2_with fail
      go_ret
      exact ⟨rfl, B1.out⟩
  · obtain ⟨room, rfl⟩ : ∃ room : Nat, size = (room : Int) := ⟨size.toNat, by omega⟩
    have hroom : room ≤ 1048576 := by omega
    have HN := Lib.hid (fun w1 (h : Below w.heap.size w w1) => new_dch room w w1 hroom hg h)
    clear hA hf hn hg hs s0 s1
    go_enter Tryz.func8, Tryz.ntmps8
    go_wp2_with fail
    refine HAW.out.mono ?_
    rintro e w1 ⟨rfl, h⟩
    have B1 := Lib.hid h
    clear h
    go_wp2_with fail
    refine (HN.out _ B1.out).mono ?_
    rintro e w2 ⟨b, rfl, h⟩
    have D2 := Lib.hid h
    clear h
    go_wp2_with fail
    refine (open_some (s := St.new) D2.out (open_rep (rep_new room))).mono ?_
    rintro e w3 ⟨bw, rfl, h, _⟩
    have W3 : Hid (WCh NoB w w3 bw b (PlainDisk.new room) St.new) := Lib.hid h
    clear h
    go_wp2_with fail
    go_loopw [8, 9] (fun vA vi wr => ∃ i : Nat, vi = .int .i64 (i : Nat) ∧ i ≤ 70 ∧ Hid (wr.ownsRow w3.heap.size 65 2 vA i (allL i)) ∧ Hid (Below w3.heap.size w3 wr)) (fun _ vi _ => 70 - (numOf vi).toNat)
    case atStart =>
      refine ⟨0, rfl, by omega, Lib.hid ?_, Lib.hid ?_⟩
      · refine ⟨?_, .inr ⟨_, 0, #[], rfl, Nat.le_refl _, heap_alloc_new w3 _, ?_, ?_, ?_, ?_⟩⟩ <;> simp [allL, maxLen]
      · exact bel_alloc _ _
    case round =>
      obtain ⟨i7, rfl, hi, ho, hb⟩ := hrel
      by_cases hi7 : i7 < 70
      · have hi8 : (i7 : Int) < 70 := by omega
        go_wp2_with (at_builtin; (refine wp_app1 (T := 38) (e := 65) (sz := 2) (bt := 16) Tryz.underlying38 info65 (by omega) rfl (by omega) rfl (.tmp 42) (.tmp 44) rfl w3.heap.size _ _ _ rfl (own_belows ho.out (bel_alloc wr _)) wr.heap.size [_, _] rfl (by intro u hu; simp only [List.mem_cons, List.not_mem_nil, or_false] at hu; rcases hu with rfl | rfl <;> rfl) 1 rfl (heap_alloc_new wr _) (by omega) (by rw [World.size_alloc]; have := hb.out.size; omega) ?_))
        rintro v' w4 own5 grow5 _
        have OW5 := Lib.hid own5
        have B5 : Hid (Below w3.heap.size w3 w4) := Lib.hid ((hb.out.alloc hb.out.size _).grown grow5 (by rw [World.size_alloc]; have := hb.out.size; omega) fun g hg => (World.ownsRow.lt ho.out g hg).1)
        clear own5 grow5
        go_wp2_with fail
        go_roundw
        case rel => exact ⟨i7 + 1, by go_num, by omega, Lib.hid (by rw [allL_succ]; exact OW5.out), B5⟩
        case measure => simp [numOf]; omega
      · have hi8 : ¬ (i7 : Int) < 70 := by omega
        obtain ⟨g, hg1, hg2, HL⟩ := all_lat (w := wr) (v := u8) (by have := ho.out; rw [show i7 = 70 from by omega] at this; exact this)
        have WG := Lib.hid (W3.out.hold hb.out g hg1 hg2).1
        have HLT := Lib.hid HL
        clear HL hg1 hg2 W3 B1 D2 HAW HN hi
        go_wp2_with fail
        clear ho hb hi8 hi7
        generalize hH : (fun k => NoB k ∨ k = g) = H at *
        clear hH
        go_loopw [6, 10] (fun uw ui wr => ∃ (i bx : Nat) (D : Disk) (s : St) (vs : List Bs) (qs : List (Nat × List Bs)), uw = .pointer (some ⟨bx, 0, none⟩) ∧ ui = .int .i64 (i : Nat) ∧ i ≤ 40 ∧ Hid (WCh H w wr bx b D s) ∧ Hid (Rep D s vs qs) ∧ Hid (s.log.length ≤ i * 201) ∧ Hid (LAt wr u8 (List.replicate 70 ⟨1048576, false⟩) H)) (fun _ ui _ => 40 - (numOf ui).toNat)
        case atStart => exact ⟨0, bw, _, St.new, [], [], rfl, rfl, by omega, WG, Lib.hid (rep_new room), Lib.hid (Nat.zero_le _), HLT⟩
        case round =>
          obtain ⟨i, bx, D, s, vs, qs, rfl, rfl, hi, hw, hr, hlg, hla⟩ := hrel
          clear WG HLT
          by_cases hil : i < n ∧ i < 40
          · obtain ⟨hin, hi2⟩ := hil
            have hi3 : (i : Int) < n := by omega
            have hi4 : (i : Int) < 40 := by omega
            have hin2 : i < l.length := by rw [← HN1.out]; exact hin
            obtain ⟨x, hx⟩ : ∃ x, l[i]? = some x := ⟨_, List.getElem?_eq_getElem hin2⟩
            have HX := Lib.hid (HF.out x (List.mem_of_getElem? hx))
            obtain ⟨g2, off, rfl, hgl, A2, c2, B2, nb, cb, hcell, hea, hout⟩ := HA.out i x hx
            have HK := Lib.hid (fun V (h : Below w.heap.size w V) j u hu => (World.cell?_of_block (h.block g2 hgl)).trans (hcell j u hu))
            have HEA := Lib.hid hea
            have HOUT := Lib.hid hout
            have k0 : wr.cell? ⟨g2, off + i * 9, none⟩ = some (.int .i64 x.kind) := HK.out wr hw.out.below 0 _ rfl
            have k1 : wr.cell? ⟨g2, off + i * 9 + 1, none⟩ = some (.int .i64 x.term) := HK.out wr hw.out.below 1 _ rfl
            have k2 : wr.cell? ⟨g2, off + i * 9 + 2, none⟩ = some (.int .i64 x.n) := HK.out wr hw.out.below 2 _ rfl
            have k3 : wr.cell? ⟨g2, off + i * 9 + 3, none⟩ = some (.int .i64 x.frm) := HK.out wr hw.out.below 3 _ rfl
            have k4 : wr.cell? ⟨g2, off + i * 9 + 4, none⟩ = some (.slice A2 x.e.length c2) := HK.out wr hw.out.below 4 _ rfl
            have k5 : wr.cell? ⟨g2, off + i * 9 + 5, none⟩ = some (.int .i64 x.si) := HK.out wr hw.out.below 5 _ rfl
            have k6 : wr.cell? ⟨g2, off + i * 9 + 6, none⟩ = some (.int .i64 x.st) := HK.out wr hw.out.below 6 _ rfl
            have k7 : wr.cell? ⟨g2, off + i * 9 + 7, none⟩ = some (.string (str x.sd)) := HK.out wr hw.out.below 7 _ rfl
            have k8 : wr.cell? ⟨g2, off + i * 9 + 8, none⟩ = some (.slice B2 nb cb) := HK.out wr hw.out.below 8 _ rfl
            clear hcell hea hout hx hin2 hin hgl
            obtain ⟨W, hW⟩ : ∃ W, wr.alloc (.cells #[.int .i64 x.kind, .int .i64 x.term, .int .i64 x.n, .int .i64 x.frm, .slice A2 x.e.length c2, .int .i64 x.si, .int .i64 x.st, .string (str x.sd), .slice B2 nb cb] 40) = W := ⟨_, rfl⟩
            have HW := Lib.hid hW
            have HBW : Hid (Below wr.heap.size wr W) := Lib.hid (hW ▸ bel_alloc _ _)
            have hx0 : W.heap[wr.heap.size]? = some (.cells #[.int .i64 x.kind, .int .i64 x.term, .int .i64 x.n, .int .i64 x.frm, .slice A2 x.e.length c2, .int .i64 x.si, .int .i64 x.st, .string (str x.sd), .slice B2 nb cb] 40 (0, 0)) := by rw [← hW]; exact heap_alloc_new wr _
            have HX0 := Lib.hid hx0
            have HSX : Hid (wr.heap.size < W.heap.size) := Lib.hid (Array.getElem?_eq_some_iff.1 hx0).1
            have HP := Lib.hid (fun V (h : Below W.heap.size W V) => box_act hx0 h)
            have WW := Lib.hid (hw.out.next HBW.out)
            clear hW hx0
            go_wp2_with fail
            clear k0 k1 k2 k3 k4 k5 k6 k7 k8
            rw [HW.out]
            refine (large_any x A2 c2 _ W (HEA.out.keep (WW.out.1.below)) HX.out.d HX.out.sd).mono ?_
            rintro e w5 ⟨bl, rfl, hb5, hlr⟩
            have B5 := Lib.hid hb5
            have HLR := Lib.hid hlr
            clear hb5 hlr
            cases bl with
            | true =>
              clear HLR
              go_wp2_with fail
              go_ret
              exact ⟨rfl, (WW.out.1.next B5.out).1.below⟩
            | false =>
              have HLQ := Lib.hid (HLR.out rfl)
              by_cases q3 : (3 : Int) < x.kind
              · obtain ⟨p0, _, _, _, _, _, _, _⟩ := HP.out w5 B5.out
                go_wp2_with fail
                go_ret
                exact ⟨rfl, (WW.out.1.next B5.out).1.below⟩
              · have W5 := Lib.hid (WW.out.1.next B5.out).1
                have p0 := (HP.out w5 B5.out).1
                have HSI := hr.out.sidx1
                have HSJ := hr.out.sidx0
                have hlg2 := hlg.out
                have hls : IntKind.i64.wrap (s.sidx + (s.log.length : Nat)) = s.last := IntWalk.i64_in _ (by omega)
                have hls0 : 0 ≤ s.last := by unfold St.last; omega
                have hls1 : s.last ≤ 4611686018437387904 := by unfold St.last; omega
                go_wp2_with fail
                clear p0
                refine (state_ch W5.out).mono ?_
                rintro e w6 ⟨A3, c3, rfl, _, hb6⟩
                unfold stV
                have B6 := Lib.hid hb6
                have W6 := Lib.hid (W5.out.next hb6).1
                have hb7 : Below W.heap.size W (w6.alloc (.cells #[.int .i64 s.term, .int .i64 s.vote, .int .i64 s.sidx, .int .i64 s.sterm, .string (str s.sdata), .slice A3 s.log.length c3] 53)) := (B5.out.trans (B6.out.mono B5.out.size)).alloc (Nat.le_trans B5.out.size B6.out.size) _
                have p0 := (HP.out _ hb7).1
                have WS := Lib.hid (W6.out.next (bel_alloc w6 (.cells #[.int .i64 s.term, .int .i64 s.vote, .int .i64 s.sidx, .int .i64 s.sterm, .string (str s.sdata), .slice A3 s.log.length c3] 53))).1
                have HLS := Lib.hid (hla.out.keep (F := H) ((((WW.out.2).trans (WW.out.1.next B5.out).2).trans (W5.out.next B6.out).2).trans (W6.out.next (bel_alloc w6 (.cells #[.int .i64 s.term, .int .i64 s.vote, .int .i64 s.sidx, .int .i64 s.sterm, .string (str s.sdata), .slice A3 s.log.length c3] 53))).2))
                have H7 := Lib.hid hb7
                clear hb6 hb7 HSI HSJ hlg2
                go_upto_region 23 with fail
                rename_i K hK K2 hK2
                have HT : Hid (∀ (V : World) (z4 z11 z12 z13 z14 z15 z16 z17 z46 z47 z48 z49 z50 z51 z52 z53 z54 z55 z56 z57 z58 z59 z60 z61 z62 z63 z64 z65 z66 z67 z68 z69 z70 z71 z72 z73 z74 z75 z76 z77 z78 z79 z80 z81 z82 z83 z84 z85 z86 z87 z88 z89 z90 z91 z92 z93 z94 z95 z96 z97 z98 z99 z100 z101 z102 z103 z104 z105 z106 z107 z108 z109 z110 z111 z112 z113 z114 z115 z116 z117 z118 z119 z120 z121 z122 z123 z124 z125 z126 z127 z128 z129 z130 z131 z132 z133 z134 z135 z136 z137 z138 z139 z140 z141 z142 z143 z144 z145 z146 z147 : Value), HoldP H w V bx b u8 i → K { tmps := #[.int .i64 (room : Nat), .slice (some ⟨g2, off, none⟩) n c, undef, undef, z4, .pointer (some ⟨b, 0, none⟩), .pointer (some ⟨bx, 0, none⟩), .int .i64 0, u8, .int .i64 (i7 : Nat), .int .i64 (i : Nat), z11, z12, z13, z14, z15, z16, z17, .bool true, .bool false, .int .i64 (room : Nat), .pointer (some ⟨b, 0, none⟩), .pointer (some ⟨b, 0, none⟩), .bool false, undef, undef, undef, undef, undef, undef, .tuple #[.pointer (some ⟨bw, 0, none⟩), .int .i64 0], .pointer (some ⟨b, 0, none⟩), .tuple #[.pointer (some ⟨bw, 0, none⟩), .int .i64 0], .pointer (some ⟨bw, 0, none⟩), .int .i64 0, .pointer (some ⟨bw, 0, none⟩), .bool false, .slice (some ⟨w3.heap.size, 0, none⟩) 0 0, .int .i64 (i7 : Nat), .bool false, u40, u41, u42, u43, u44, u45, z46, z47, z48, z49, z50, z51, z52, z53, z54, z55, z56, z57, z58, z59, z60, z61, z62, z63, z64, z65, z66, z67, z68, z69, z70, z71, z72, z73, z74, z75, z76, z77, z78, z79, z80, z81, z82, z83, z84, z85, z86, z87, z88, z89, z90, z91, z92, z93, z94, z95, z96, z97, z98, z99, z100, z101, z102, z103, z104, z105, z106, z107, z108, z109, z110, z111, z112, z113, z114, z115, z116, z117, z118, z119, z120, z121, z122, z123, z124, z125, z126, z127, z128, z129, z130, z131, z132, z133, z134, z135, z136, z137, z138, z139, z140, z141, z142, z143, z144, z145, z146, z147], defers := [] } V) := by
                  refine Lib.hid ?_
                  clear HLR HLQ HX HK HEA HOUT HW HBW HX0 HP WW B5 W5 B6 W6 WS H7 p0
                  intro V z4 z11 z12 z13 z14 z15 z16 z17 z46 z47 z48 z49 z50 z51 z52 z53 z54 z55 z56 z57 z58 z59 z60 z61 z62 z63 z64 z65 z66 z67 z68 z69 z70 z71 z72 z73 z74 z75 z76 z77 z78 z79 z80 z81 z82 z83 z84 z85 z86 z87 z88 z89 z90 z91 z92 z93 z94 z95 z96 z97 z98 z99 z100 z101 z102 z103 z104 z105 z106 z107 z108 z109 z110 z111 z112 z113 z114 z115 z116 z117 z118 z119 z120 z121 z122 z123 z124 z125 z126 z127 z128 z129 z130 z131 z132 z133 z134 z135 z136 z137 z138 z139 z140 z141 z142 z143 z144 z145 z146 z147 hh
                  obtain ⟨D1, s1, vs1, qs1, h1, h2, h3, h4⟩ := hh
                  have W1 := Lib.hid h1
                  have R1 := Lib.hid h2
                  have L1 := Lib.hid h3
                  have A1 := Lib.hid h4
                  apply hK
                  clear hK hK2 h1 h2 h3 h4
                  have HST := Lib.hid (state_ch W1.out)
                  have hc : ((i : Int) % 5 = 4) ∨ (¬ ((i : Int) % 5 = 4) ∧ IntKind.i64.wrap ((n : Int) - 1) = (i : Int)) ∨ (¬ ((i : Int) % 5 = 4) ∧ ∃ m : Int, IntKind.i64.wrap ((n : Int) - 1) = m ∧ ¬ ((i : Int) = m)) := by
                    have hwn : IntKind.i64.wrap ((n : Int) - 1) = (n : Int) - 1 := IntWalk.i64_in _ (by omega)
                    by_cases q : (i : Int) % 5 = 4
                    · exact .inl q
                    · by_cases q2 : (i : Int) = (n : Int) - 1
                      · exact .inr (.inl ⟨q, by rw [hwn, q2]⟩)
                      · exact .inr (.inr ⟨q, _, hwn, q2⟩)
                  rcases hc with c1 | ⟨c1, hwn⟩ | ⟨c1, m, hwn, c2⟩
                  case inr.inr =>
                    clear HST
                    have b1 : ((i : Int) % 5 != 4) = true := bne_iff_ne.2 c1
                    have b2 : ((i : Int) != m) = true := bne_iff_ne.2 c2
                    go_wp2_with fail
                    go_roundw
                    case rel => exact ⟨i + 1, bx, D1, s1, vs1, qs1, rfl, by go_num, by omega, W1, R1, L1, A1⟩
                    case measure => simp [numOf]; omega
                  all_goals
                      go_wp2_with fail
                      clear c1
                      refine HST.out.mono ?_
                      rintro e v1 ⟨A4, c4, rfl, own4, hb4⟩
                      unfold stV
                      obtain ⟨v2, hv2⟩ : ∃ v2, v1.alloc (.cells #[.int .i64 s1.term, .int .i64 s1.vote, .int .i64 s1.sidx, .int .i64 s1.sterm, .string (str s1.sdata), .slice A4 s1.log.length c4] 53) = v2 := ⟨_, rfl⟩
                      have HV2 := Lib.hid hv2
                      obtain ⟨H2, hd2⟩ := held_was (va := u8) W1.out A1.out own4 hb4 hv2
                      have HD2 := Lib.hid hd2
                      clear own4 hb4 hd2 hv2 HST
                      go_wp2_with fail
                      rw [HV2.out]
                      refine (crash_held HD2.out.wal.dch _ u8 (held_lat HD2.out)).mono ?_
                      rintro e v3 ⟨rfl, hd3, kp3⟩
                      have RC := Lib.hid (crash_all R1.out (l := List.replicate 70 ⟨1048576, false⟩) (by intro y hy; rw [(List.mem_replicate.1 hy).2]; decide) (by rw [List.length_replicate]; decide) (by obtain ⟨⟨S, q1, _⟩, _, _⟩ := W1.out.dch; exact q1.fine.room))
                      have D3 := Lib.hid hd3
                      have K3 := Lib.hid kp3
                      clear hd3 kp3
                      go_wp2_with fail
                      refine (open_some D3.out (open_rep RC.out)).mono ?_
                      rintro e v4 ⟨by4, rfl, hw4, kp4⟩
                      have W4 := Lib.hid hw4
                      have K4 := Lib.hid (K3.out.trans kp4)
                      clear hw4 kp4
                      have HQ := Lib.hid (fun V (hb : Below v4.heap.size v4 V) => was_at HD2.out (K4.out.trans (W4.out.next hb).2))
                      have HQE := Lib.hid (fun V (hb : Below v4.heap.size v4 V) => (HD2.out.box V (K4.out.trans (W4.out.next hb).2)).2)
                      have HREL := Lib.hid (fun V (hb : Below v4.heap.size v4 V) => And.intro ((W4.out.next hb).1.sub HD2.out.sub) (HD2.out.lat.keep (F := H) ((K4.out.trans (W4.out.next hb).2).sub HD2.out.sub)))
                      have HSTA := Lib.hid (fun V (hb : Below v4.heap.size v4 V) => by have := state_ch (W4.out.next hb).1; unfold StateP stV at this; exact this)
                      have HOWN := Lib.hid (fun A n c V => by have := own_any s1 A n c V; unfold stV at this; exact this)
                      have HSAM := Lib.hid (fun A A' c c' V (h1 : EntAt V A c s1.log) (h2 : EntAt V A' c' s1.log) => by have := same_any s1 A A' c c' V h1 h2 (by have := L1.out; omega); unfold stV at this; exact this)
                      obtain ⟨sl, hsl⟩ : ∃ sl, s1.log.length = sl := ⟨_, rfl⟩
                      have HSL := Lib.hid hsl
                      have HOE := Lib.hid (fun v B A c (h : OwnE v B (.slice A s1.log.length c) s1.log) => OwnE.entAt h)
                      rw [hsl] at HQ HSTA HSAM HOE
                      clear hsl
                      go_wp2_with fail
                      have E0 : Hid (Below v4.heap.size v4 v4.drew) := Lib.hid (Below.refl _ v4).drew
                      have p := HQ.out v4.drew E0.out
                      have EU := E0
                      go_region_held3 (fun V => V.cell? ⟨v1.heap.size, 0, none⟩ = some (.int .i64 s1.term) ∧ V.cell? ⟨v1.heap.size, 1, none⟩ = some (.int .i64 s1.vote) ∧ V.cell? ⟨v1.heap.size, 2, none⟩ = some (.int .i64 s1.sidx) ∧ V.cell? ⟨v1.heap.size, 3, none⟩ = some (.int .i64 s1.sterm) ∧ V.cell? ⟨v1.heap.size, 4, none⟩ = some (.string (str s1.sdata)) ∧ V.cell? ⟨v1.heap.size, 5, none⟩ = some (.slice A4 sl c4))
                        (exact HQ.out _ E0.out)
                        (first
                          | (go_at_call 24; (with_reducible refine (HSTA.out _ E0.out).mono ?_); rintro e v5 ⟨A5, c5, rfl, own5, bel⟩; have OW5 := Lib.hid (HOE.out _ _ _ _ own5); have E0 := Lib.hid (E0.out.trans (bel.mono E0.out.size)); have EU := Lib.hid (Below.refl v5.heap.size v5); clear own5 bel)
                          | (go_at_call 22; (with_reducible refine (HSAM.out A5 A4 c5 c4 _ (OW5.out.keep EU.out) (HQE.out _ E0.out)).mono ?_); rintro e v8 ⟨rfl, bel⟩; have E0 := Lib.hid (E0.out.trans (bel.mono E0.out.size)); clear bel)
                          | (go_at_call 23; (with_reducible refine (HOWN.out _ _ _ _).mono ?_); rintro e v6 ⟨rfl, bel⟩; have E0 := Lib.hid (E0.out.trans (bel.mono E0.out.size)); have EU := Lib.hid (EU.out.trans (bel.mono EU.out.size)); clear bel))
                      all_goals
                        go_wp2_with fail
                        go_roundw
                        case rel => exact ⟨i + 1, by4, _, s1, vs1, qs1, rfl, by go_num, by omega, Lib.hid (HREL.out _ (by first | exact E0.out | exact E0.out.drew)).1, RC, L1, Lib.hid (HREL.out _ (by first | exact E0.out | exact E0.out.drew)).2⟩
                        case measure => simp [numOf]; omega
                clear hK
                by_cases hk0 : x.kind = 0
                · have HEQ : Hid (PWal.vote D s x.term x.n = stepA D s x) := Lib.hid (by unfold stepA; rw [if_pos hk0])
                  have p1 := (HP.out _ H7.out).2.1
                  have p2 := (HP.out _ H7.out).2.2.1
                  go_wp2_with fail
                  refine (vote_ch WS.out x.term x.n HX.out.t HX.out.n).mono ?_
                  rintro e v ⟨rfl, hv, kp⟩
                  have HOLD := Lib.hid (hold_step hr.out hlg.out HLQ.out.1 HEQ.out hv (HLS.out.keep kp))
                  clear hv kp
                  go_wp2_with fail
                  exact HT.out _ _ _ _ _ _ _ _ _ _ _ _ _ _ _ _ _ _ _ _ _ _ _ _ _ _ _ _ _ _ _ _ _ _ _ _ _ _ _ _ _ _ _ _ _ _ _ _ _ _ _ _ _ _ _ _ _ _ _ _ _ _ _ _ _ _ _ _ _ _ _ _ _ _ _ _ _ _ _ _ _ _ _ _ _ _ _ _ _ _ _ _ _ _ _ _ _ _ _ _ _ _ _ _ _ _ _ _ _ _ _ HOLD.out
                · by_cases hk1 : x.kind = 1
                  · skip
                    have HEQ : Hid (PWal.append D s (placeP x.frm s.last) x.e = stepA D s x) := Lib.hid (by unfold stepA; rw [if_neg hk0, if_pos hk1])
                    have HPL := Lib.hid (fun V => place_any x.frm s.last HX.out.f hls0 hls1 V)
                    have E0 : Hid (Below (w6.alloc (.cells #[.int .i64 s.term, .int .i64 s.vote, .int .i64 s.sidx, .int .i64 s.sterm, .string (str s.sdata), .slice A3 s.log.length c3] 53)).heap.size (w6.alloc (.cells #[.int .i64 s.term, .int .i64 s.vote, .int .i64 s.sidx, .int .i64 s.sterm, .string (str s.sdata), .slice A3 s.log.length c3] 53)) (w6.alloc (.cells #[.int .i64 s.term, .int .i64 s.vote, .int .i64 s.sidx, .int .i64 s.sterm, .string (str s.sdata), .slice A3 s.log.length c3] 53)).drew) := Lib.hid (Below.refl _ _).drew
                    have WX := Lib.hid ((((hw.out.hold HBW.out wr.heap.size (Nat.le_refl _) HSX.out).1.next B5.out).1.next B6.out).1.next (bel_alloc w6 (.cells #[.int .i64 s.term, .int .i64 s.vote, .int .i64 s.sidx, .int .i64 s.sterm, .string (str s.sdata), .slice A3 s.log.length c3] 53))).1
                    have HAP := Lib.hid (append_ch2 WX.out E0.out (placeP x.frm s.last) (placeP_in HX.out.f hls0 hls1) x.e A2 x.e.length c2 rfl (HEA.out.keep WS.out.below.drew) HX.out.d (fun g off hne e => .inl (HOUT.out g off hne e)) (by have := hlg.out; have := HLQ.out.1; omega))
                    have HLD := Lib.hid (HLS.out.keep (WS.out.next E0.out).2)
                    go_wp2_with fail
                    have p3 := (HP.out _ H7.out.drew).2.2.2.1
                    have p4 := (HP.out _ H7.out.drew).2.2.2.2.1
                    go_region_held3 (fun V => V.cell? ⟨wr.heap.size, 3, none⟩ = some (.int .i64 x.frm) ∧ V.cell? ⟨wr.heap.size, 4, none⟩ = some (.slice A2 x.e.length c2))
                      (first | exact ⟨p3, p4⟩ | exact ⟨r3, r4⟩)
                      (first
                        | (go_at_call 29; (with_reducible refine (HPL.out _).mono ?_); rintro e v ⟨rfl, rfl⟩)
                        | (go_at_call 27; (with_reducible refine HAP.out.mono ?_); rintro e v ⟨rfl, hv, kp⟩; have r3 := (World.cell?_of_block (kp _ (.inr rfl))).trans p3; have r4 := (World.cell?_of_block (kp _ (.inr rfl))).trans p4; have HOLD := Lib.hid (hold_step hr.out hlg.out HLQ.out.1 HEQ.out (hv.sub (H' := H) fun k h => .inl h) (HLD.out.keep (kp.sub (H' := H) fun k h => .inl h))); clear hv kp))
                    all_goals
                      go_wp2_with fail
                      exact HT.out _ _ _ _ _ _ _ _ _ _ _ _ _ _ _ _ _ _ _ _ _ _ _ _ _ _ _ _ _ _ _ _ _ _ _ _ _ _ _ _ _ _ _ _ _ _ _ _ _ _ _ _ _ _ _ _ _ _ _ _ _ _ _ _ _ _ _ _ _ _ _ _ _ _ _ _ _ _ _ _ _ _ _ _ _ _ _ _ _ _ _ _ _ _ _ _ _ _ _ _ _ _ _ _ _ _ _ _ _ _ _ HOLD.out
                  · by_cases hk2 : x.kind = 2
                    · have HEQ : Hid (((PWal.sync D).1, s, (PWal.sync D).2) = stepA D s x) := Lib.hid (by unfold stepA; rw [if_neg hk0, if_neg hk1, if_pos hk2])
                      go_wp2_with fail
                      refine (sync_ch' WS.out).mono ?_
                      rintro e v ⟨rfl, hv, kp⟩
                      have HOLD := Lib.hid (hold_step hr.out hlg.out HLQ.out.1 HEQ.out hv (HLS.out.keep kp))
                      clear hv kp
                      go_wp2_with fail
                      exact HT.out _ _ _ _ _ _ _ _ _ _ _ _ _ _ _ _ _ _ _ _ _ _ _ _ _ _ _ _ _ _ _ _ _ _ _ _ _ _ _ _ _ _ _ _ _ _ _ _ _ _ _ _ _ _ _ _ _ _ _ _ _ _ _ _ _ _ _ _ _ _ _ _ _ _ _ _ _ _ _ _ _ _ _ _ _ _ _ _ _ _ _ _ _ _ _ _ _ _ _ _ _ _ _ _ _ _ _ _ _ _ _ HOLD.out
                    · by_cases hk3 : x.kind = 3
                      · skip
                        have HEQ : Hid (PWal.snapshot D s (placeP x.si s.last) x.st x.sd = stepA D s x) := Lib.hid (by unfold stepA; rw [if_neg hk0, if_neg hk1, if_neg hk2, if_pos hk3])
                        have HPL := Lib.hid (fun V => place_any x.si s.last HX.out.si hls0 hls1 V)
                        have HSN := Lib.hid (fun V (hb : Below (w6.alloc (.cells #[.int .i64 s.term, .int .i64 s.vote, .int .i64 s.sidx, .int .i64 s.sterm, .string (str s.sdata), .slice A3 s.log.length c3] 53)).heap.size (w6.alloc (.cells #[.int .i64 s.term, .int .i64 s.vote, .int .i64 s.sidx, .int .i64 s.sterm, .string (str s.sdata), .slice A3 s.log.length c3] 53)) V) => snapshot_ch (WS.out.next hb).1 (placeP x.si s.last) x.st x.sd (placeP_in HX.out.si hls0 hls1) HX.out.st (by have := HLQ.out.2.2; omega) (by have := hlg.out; omega))
                        have HLD := Lib.hid (fun V (hb : Below (w6.alloc (.cells #[.int .i64 s.term, .int .i64 s.vote, .int .i64 s.sidx, .int .i64 s.sterm, .string (str s.sdata), .slice A3 s.log.length c3] 53)).heap.size (w6.alloc (.cells #[.int .i64 s.term, .int .i64 s.vote, .int .i64 s.sidx, .int .i64 s.sterm, .string (str s.sdata), .slice A3 s.log.length c3] 53)) V) => HLS.out.keep (WS.out.next hb).2)
                        have p5 := (HP.out _ H7.out).2.2.2.2.2.1
                        have p6 := (HP.out _ H7.out).2.2.2.2.2.2.1
                        have p7 := (HP.out _ H7.out).2.2.2.2.2.2.2
                        go_wp2_with fail
                        refine (HPL.out _).mono ?_
                        rintro e v ⟨rfl, rfl⟩
                        go_wp2_with fail
                        have EB := Lib.hid (bel_alloc (w6.alloc (.cells #[.int .i64 s.term, .int .i64 s.vote, .int .i64 s.sidx, .int .i64 s.sterm, .string (str s.sdata), .slice A3 s.log.length c3] 53)) (.cells #[.int .i64 (placeP x.si s.last), .int .i64 x.st, .string (str x.sd)] 37))
                        refine (HSN.out _ EB.out).mono ?_
                        rintro e v ⟨rfl, hv, kp⟩
                        have HOLD := Lib.hid (hold_step hr.out hlg.out HLQ.out.1 HEQ.out hv ((HLD.out _ EB.out).keep kp))
                        clear hv kp
                        go_wp2_with fail
                        exact HT.out _ _ _ _ _ _ _ _ _ _ _ _ _ _ _ _ _ _ _ _ _ _ _ _ _ _ _ _ _ _ _ _ _ _ _ _ _ _ _ _ _ _ _ _ _ _ _ _ _ _ _ _ _ _ _ _ _ _ _ _ _ _ _ _ _ _ _ _ _ _ _ _ _ _ _ _ _ _ _ _ _ _ _ _ _ _ _ _ _ _ _ _ _ _ _ _ _ _ _ _ _ _ _ _ _ _ _ _ _ _ _ HOLD.out
                      · have HEQ : Hid ((D, s, (0 : Int)) = stepA D s x) := Lib.hid (by unfold stepA; rw [if_neg hk0, if_neg hk1, if_neg hk2, if_neg hk3])
                        have HOLD := Lib.hid (hold_step hr.out hlg.out HLQ.out.1 HEQ.out WS.out HLS.out)
                        go_wp2_with fail
                        exact HT.out _ _ _ _ _ _ _ _ _ _ _ _ _ _ _ _ _ _ _ _ _ _ _ _ _ _ _ _ _ _ _ _ _ _ _ _ _ _ _ _ _ _ _ _ _ _ _ _ _ _ _ _ _ _ _ _ _ _ _ _ _ _ _ _ _ _ _ _ _ _ _ _ _ _ _ _ _ _ _ _ _ _ _ _ _ _ _ _ _ _ _ _ _ _ _ _ _ _ _ _ _ _ _ _ _ _ _ _ _ _ _ HOLD.out
          · have hil2 : ¬ ((i : Int) < n) ∨ ((i : Int) < n ∧ ¬ (i : Int) < 40) := by omega
            rcases hil2 with q | ⟨q, q2⟩
            all_goals
              go_wp2_with fail
              go_ret
              exact ⟨rfl, hw.out.below⟩
end Go.Proofs.YtjcikhacekmcfaaGreatDoor
