import Derived.Test.YtjcikhacekmcfaaGreatDoorOi
namespace Go.Proofs.YtjcikhacekmcfaaGreatDoor
open Go.RowKit
open PlainDisk (File Disk)
open PWal (St Ent Chg)
set_option linter.unusedVariables false
set_option maxRecDepth 100000
/-! ### a disk, a wal that are new since w; the blocks of H are others' -/
structure DCh (H : Nat → Prop) (w wi : World) (b : Nat) (D : Disk) : Prop where
  is : ∃ S, Dk wi b D S ∧ ∀ k, S k → w.heap.size ≤ k ∧ ¬ H k
  hl : ∀ k, H k → k < wi.heap.size
  below : Below w.heap.size w wi
structure WCh (H : Nat → Prop) (w wi : World) (bw b : Nat) (D : Disk) (s : St) : Prop where
  is : ∃ T, Wal wi bw b D s T ∧ ∀ k, T k → w.heap.size ≤ k ∧ ¬ H k
  hl : ∀ k, H k → k < wi.heap.size
  below : Below w.heap.size w wi
def Kept (H : Nat → Prop) (w w' : World) : Prop := ∀ k, H k → w'.heap[k]? = w.heap[k]?
theorem Kept.refl (H : Nat → Prop) (w : World) : Kept H w w := fun _ _ => rfl
theorem Kept.trans {H : Nat → Prop} {a b c : World} (h : Kept H a b) (k : Kept H b c) : Kept H a c := fun i hi => (k i hi).trans (h i hi)
theorem Kept.sub {H H' : Nat → Prop} {a b : World} (h : Kept H a b) (hs : ∀ k, H' k → H k) : Kept H' a b := fun i hi => h i (hs i hi)
section
variable {H : Nat → Prop} {w wi w' : World} {bw b : Nat} {D D' : Disk} {s s' : St}
theorem DCh.ch (h : DCh H w wi b D) : Ch w wi b D := by
  obtain ⟨⟨S, h1, h2⟩, _, h3⟩ := h
  exact ⟨⟨S, h1.is, fun k hk => ⟨(h2 k hk).1, (h1.blk k hk).2⟩⟩, h3, h1.fine⟩
theorem Ch.dch (h : Ch w wi b D) (hg : Glob w) : DCh (fun _ => False) w wi b D := by
  obtain ⟨⟨S, h1, h2⟩, h3, h4⟩ := h
  exact ⟨⟨S, ⟨h1, h4, hg.belows h3, fun k hk => ⟨Nat.le_trans hg.size (h2 k hk).1, (h2 k hk).2⟩⟩, fun k hk => ⟨(h2 k hk).1, id⟩⟩, fun k hk => hk.elim, h3⟩
theorem DCh.next (h : DCh H w wi b D) (hb : Below wi.heap.size wi w') : DCh H w w' b D ∧ Kept H wi w' := by
  obtain ⟨⟨S, h1, h2⟩, hl, h3⟩ := h
  exact ⟨⟨⟨S, h1.below hb, h2⟩, fun k hk => Nat.lt_of_lt_of_le (hl k hk) hb.size, h3.trans (hb.mono h3.size)⟩, fun k hk => hb.block k (hl k hk)⟩
theorem WCh.next (h : WCh H w wi bw b D s) (hb : Below wi.heap.size wi w') : WCh H w w' bw b D s ∧ Kept H wi w' := by
  obtain ⟨⟨S, h1, h2⟩, hl, h3⟩ := h
  exact ⟨⟨⟨S, h1.below hb, h2⟩, fun k hk => Nat.lt_of_lt_of_le (hl k hk) hb.size, h3.trans (hb.mono h3.size)⟩, fun k hk => hb.block k (hl k hk)⟩
/-- one block more is held -/
theorem WCh.hold (h : WCh H w wi bw b D s) (hb : Below wi.heap.size wi w') (g : Nat) (h1 : wi.heap.size ≤ g) (h2 : g < w'.heap.size) : WCh (fun k => H k ∨ k = g) w w' bw b D s ∧ Kept H wi w' := by
  obtain ⟨q1, q2⟩ := h.next hb
  obtain ⟨⟨T, t1, t2⟩, hl, _⟩ := h
  refine ⟨⟨⟨T, t1.below hb, fun k hk => ⟨(t2 k hk).1, fun q => ?_⟩⟩, fun k hk => ?_, q1.below⟩, q2⟩
  · rcases q with q | q
    · exact (t2 k hk).2 q
    · have := (t1.2 k hk).2; omega
  · rcases hk with q | q
    · exact q1.hl k q
    · omega
theorem WCh.dch (h : WCh H w wi bw b D s) : DCh H w wi b D := by
  obtain ⟨⟨T, ⟨⟨lv, S, h1⟩, h2⟩, h3⟩, hl, h4⟩ := h
  exact ⟨⟨S, h1.dk, fun k hk => h3 k (h1.cov k (.inl hk))⟩, hl, h4⟩
theorem WCh.bw_lt (h : WCh H w wi bw b D s) : w.heap.size ≤ bw ∧ bw < wi.heap.size := by
  obtain ⟨⟨T, ⟨⟨lv, S, h1⟩, h2⟩, h3⟩, _, h4⟩ := h
  have hw := h1.cov bw (.inr (.inl rfl))
  exact ⟨(h3 _ hw).1, (h2 _ hw).2⟩
theorem to_disk {S : Nat → Prop} (hl : ∀ k, H k → k < wi.heap.size) (hb : Below w.heap.size w wi) (hS : ∀ k, S k → w.heap.size ≤ k ∧ ¬ H k) (h : DkTo wi w' b D' S) : DCh H w w' b D' ∧ Kept H wi w' := by
  obtain ⟨S', q1, q2, q3⟩ := h
  refine ⟨⟨⟨S', q1, fun k hk => ?_⟩, fun k hk => Nat.lt_of_lt_of_le (hl k hk) q3.size, hb.trans (q3.below hb.size (fun k hk => (hS k hk).1))⟩, fun k hk => q3.block k (hl k hk) fun q => (hS k q).2 hk⟩
  rcases q2 k hk with q | q
  · exact hS k q
  · exact ⟨Nat.le_trans hb.size q.1, fun r => by have := hl k r; omega⟩
theorem to_wal {T : Nat → Prop} (hl : ∀ k, H k → k < wi.heap.size) (hb : Below w.heap.size w wi) (hT : ∀ k, T k → w.heap.size ≤ k ∧ ¬ H k) (h : WalTo wi w' bw b D' s' T) : WCh H w w' bw b D' s' ∧ Kept H wi w' := by
  obtain ⟨T', q1, q2, q3⟩ := h
  refine ⟨⟨⟨T', q1, fun k hk => ?_⟩, fun k hk => Nat.lt_of_lt_of_le (hl k hk) q3.size, hb.trans (q3.below hb.size (fun k hk => (hT k hk).1))⟩, fun k hk => q3.block k (hl k hk) fun q => (hT k q).2 hk⟩
  rcases q2 k hk with q | q
  · exact hT k q
  · exact ⟨Nat.le_trans hb.size q.1, fun r => by have := hl k r; omega⟩
/-- what a call of a wal that is new since w answers -/
def CaP (H : Nat → Prop) (r : Disk × St × Int) (bw b : Nat) (w wi : World) (e : Ending) (w' : World) : Prop := e = .returned (.int .i64 r.2.2) ∧ WCh H w w' bw b r.1 r.2.1 ∧ Kept H wi w'
theorem vote_ch (h : WCh H w wi bw b D s) (t v : Int) (ht : Wr.InR t) (hv : Wr.InR v) : Calls Tryz.prog 34 #[.pointer (some ⟨bw, 0, none⟩), .int .i64 t, .int .i64 v] wi (CaP H (PWal.vote D s t v) bw b w wi) := by
  obtain ⟨⟨T, h1, h2⟩, hl, h3⟩ := h
  exact (vote_any h1 t v ht hv).mono fun e w' hh => ⟨hh.1, to_wal hl h3 h2 hh.2⟩
theorem append_ch2 (h : WCh H w wi bw b D s) (hb : Below wi.heap.size wi w') (i : Int) (hi : Wr.InR i) (l : List Ent) (A : Option Addr) (n c : Nat) (hn : l.length = n) (hl : EntAt w' A c l) (hd : ∀ x ∈ l, x.data.length ≤ 281474976710656) (hout : ∀ g off, l ≠ [] → A = some ⟨g, off, none⟩ → g < w.heap.size ∨ wi.heap.size ≤ g) (hlen : s.log.length + l.length < 10000000) :
    Calls Tryz.prog 27 #[.pointer (some ⟨bw, 0, none⟩), .int .i64 i, .slice A n c] w' (CaP H (PWal.append D s i l) bw b w w') := by
  subst hn
  obtain ⟨q, _⟩ := h.next hb
  obtain ⟨⟨T, h1, h2⟩, hl0, h3⟩ := h
  refine (append_any (h1.below hb) i hi l A c hl hd (fun g off hne e q => ?_) hlen).mono fun e w' hh => ⟨hh.1, to_wal q.hl q.below h2 hh.2⟩
  have a1 := (h2 g q).1
  have a2 := (h1.2 g q).2
  rcases hout g off hne e with r | r <;> omega
theorem append_ch' (h : WCh H w wi bw b D s) (hb : Below wi.heap.size wi w') (i : Int) (hi : Wr.InR i) (l : List Ent) (A : Option Addr) (n c : Nat) (hn : l.length = n) (hl : EntAt w' A c l) (hd : ∀ x ∈ l, x.data.length ≤ 281474976710656) (hout : ∀ g off, A = some ⟨g, off, none⟩ → g < w.heap.size ∨ wi.heap.size ≤ g) (hlen : s.log.length + l.length < 10000000) :
    Calls Tryz.prog 27 #[.pointer (some ⟨bw, 0, none⟩), .int .i64 i, .slice A n c] w' (CaP H (PWal.append D s i l) bw b w w') :=
  append_ch2 h hb i hi l A n c hn hl hd (fun g off _ e => hout g off e) hlen
theorem sync_ch' (h : WCh H w wi bw b D s) : Calls Tryz.prog 28 #[.pointer (some ⟨bw, 0, none⟩)] wi (CaP H ((PWal.sync D).1, s, (PWal.sync D).2) bw b w wi) := by
  obtain ⟨⟨T, ⟨⟨lv, S, hwl⟩, hT⟩, h2⟩, hl, h3⟩ := h
  refine (sync_any hwl.ws).mono ?_
  rintro e w' ⟨rfl, t⟩
  obtain ⟨S', T', q1, q2, _, q4, q5⟩ := hwl.disk hT t
  exact ⟨rfl, to_wal hl h3 h2 ⟨T', ⟨⟨_, _, q1⟩, q2⟩, q4, q5⟩⟩
theorem snapshot_ch (h : WCh H w wi bw b D s) (i t : Int) (d : List UInt8) (hi : Wr.InR i) (ht : Wr.InR t) (hd : d.length ≤ 1000000000) (hl : s.log.length < 10000000) :
    Calls Tryz.prog 30 #[.pointer (some ⟨bw, 0, none⟩), .agg #[.int .i64 i, .int .i64 t, .string (str d)]] wi (CaP H (PWal.snapshot D s i t d) bw b w wi) := by
  obtain ⟨⟨T, h1, h2⟩, hl0, h3⟩ := h
  exact (snapshot_any h1 i t d hi ht hd hl).mono fun e w' hh => ⟨hh.1, to_wal hl0 h3 h2 hh.2⟩
def OpP (H : Nat → Prop) (r : Disk × Option St × Int) (b : Nat) (w wi : World) (e : Ending) (w' : World) : Prop :=
  match r.2.1 with
  | none => e = .returned (.tuple #[.pointer none, .int .i64 r.2.2]) ∧ DCh H w w' b r.1 ∧ Kept H wi w'
  | some s => ∃ bw, e = .returned (.tuple #[.pointer (some ⟨bw, 0, none⟩), .int .i64 r.2.2]) ∧ WCh H w w' bw b r.1 s ∧ Kept H wi w'
theorem open_ch (h : DCh H w wi b D) : Calls Tryz.prog 12 #[.pointer (some ⟨b, 0, none⟩)] wi (OpP H (PWal.openD D) b w wi) := by
  obtain ⟨⟨S, h1, h2⟩, hl, h3⟩ := h
  refine (open_any h1).mono fun e w' hh => ?_
  unfold OpenP at hh
  unfold OpP
  revert hh
  cases (PWal.openD D).2.1 with
  | none => exact fun hh => ⟨hh.1, to_disk hl h3 h2 hh.2⟩
  | some s =>
    rintro ⟨bw, T', e1, _, q1, q2, q3⟩
    exact ⟨bw, e1, to_wal hl h3 h2 ⟨T', q1, q2, q3⟩⟩
theorem open_some (h : DCh H w wi b D) (hr : PWal.openD D = (D', some s, 0)) : Calls Tryz.prog 12 #[.pointer (some ⟨b, 0, none⟩)] wi fun e w' => ∃ bw, e = .returned (.tuple #[.pointer (some ⟨bw, 0, none⟩), .int .i64 0]) ∧ WCh H w w' bw b D' s ∧ Kept H wi w' := by
  refine (open_ch h).mono fun e w' hh => ?_
  rw [hr] at hh
  exact hh
/-- what a crash leaves: nothing is asked -/
theorem lat_nil (w : World) : LAt w (.slice none 0 0) [] (fun _ => False) := by
  refine ⟨none, 0, rfl, ?_⟩
  all_goals simp
theorem crash_dch {w1 : World} (h : DCh H w wi b D) (hb : Below wi.heap.size wi w1) (l : List PlainDisk.Left) (vl : Value) (F : Nat → Prop) (hvl : LAt w1 vl l F) (hF : ∀ k, F k → k < w1.heap.size ∧ (k < w.heap.size ∨ wi.heap.size ≤ k)) :
    Calls Tryz.prog 15 #[.pointer (some ⟨b, 0, none⟩), vl] w1 fun e w' => e = .returned (.tuple #[]) ∧ DCh H w w' b (PlainDisk.crash D l) ∧ Kept H w1 w' := by
  obtain ⟨q, _⟩ := h.next hb
  obtain ⟨⟨S, h1, h2⟩, hl, h3⟩ := h
  refine (crash_act b l vl F D S w1 (h1.is.at0 hb) h1.fine hvl fun k hk => ⟨(hF k hk).1, fun q => by have := (h2 k q).1; have := (h1.blk k q).2; have := (hF k hk).2; omega⟩).mono ?_
  rintro e w' ⟨rfl, ht⟩
  have hf := fine_step h1.fine (x := ⟨6, [], [], [], 0, l⟩) (show (0 : Int) ≤ 9223372036854775807 by decide)
  exact ⟨rfl, to_disk q.hl q.below h2 ((h1.below hb).to ht hf)⟩
theorem crash_nil (h : DCh H w wi b D) : Calls Tryz.prog 15 #[.pointer (some ⟨b, 0, none⟩), .slice none 0 0] wi fun e w' => e = .returned (.tuple #[]) ∧ DCh H w w' b (PlainDisk.crash D []) ∧ Kept H wi w' :=
  crash_dch h (Below.refl _ _) [] _ _ (lat_nil wi) (fun k hk => hk.elim)
theorem state_ch (h : WCh H w wi bw b D s) : Calls Tryz.prog 24 #[.pointer (some ⟨bw, 0, none⟩)] wi (StateP s wi) := by
  obtain ⟨⟨T, ⟨⟨lv, S, hwl⟩, hT⟩, h2⟩, _, h3⟩ := h
  exact state_any hwl.sat
theorem new_dch (room : Nat) (w wi : World) (h : room ≤ 1048576) (hg : Glob w) (hb : Below w.heap.size w wi) : Calls Tryz.prog 10 #[.int .i64 (room : Nat)] wi fun e w' => ∃ b, e = .returned (.pointer (some ⟨b, 0, none⟩)) ∧ DCh (fun _ => False) w w' b (PlainDisk.new room) := by
  refine (new_ch room wi h).mono ?_
  rintro e w' ⟨rfl, hh⟩
  obtain ⟨⟨S, h1, h2⟩, h3, h4⟩ := hh.dch (hg.belows hb)
  exact ⟨_, rfl, ⟨S, h1, fun k hk => ⟨Nat.le_trans hb.size (h2 k hk).1, id⟩⟩, h3, hb.trans (h4.mono hb.size)⟩
theorem open_is {r : Disk × Option St × Int} (h0 : r.2.2 = 0) (h1 : r.2.1.isSome = true) : r = (r.1, some (r.2.1.getD St.new), 0) := by
  obtain ⟨a, b, c⟩ := r
  cases b with
  | none => cases h1
  | some x => simp only at h0; subst h0; rfl
theorem ent_new (w : World) (l : List Ent) (cs : Array Value) (n : Nat) (hcs : cs = (entC l).toArray) (hn : n = l.length) (hl : n ≤ 1000) : EntAt (w.alloc (.cells cs 75)) (some ⟨w.heap.size, 0, none⟩) n l := by
  subst hn hcs
  refine ⟨Nat.le_refl _, by omega, fun e => (by cases e), fun _ => ⟨_, _, rfl, fun j u hu => ?_⟩⟩
  rw [Nat.zero_add]
  refine cell_of_row _ _ j _ _ _ (heap_alloc_new w _) |>.trans ?_
  simpa using hu
/-- a copied log in memory -/
theorem log_row {w : World} {B : Nat} {A : Option Addr} {c : Nat} {l : List Ent} (h : OwnE w B (.slice A l.length c) l) (hne : l ≠ []) : ∃ (g : Nat) (cs : Array Value), A = some ⟨g, 0, none⟩ ∧ B ≤ g ∧ g < w.heap.size ∧ w.heap[g]? = some (.cells cs 75 (0, 0)) ∧ ∀ (j : Nat) (u : Value), (entC l)[j]? = some u → cs[j]? = some u := by
  obtain ⟨h1, h2⟩ := h
  rcases h2 with ⟨_, h3⟩ | ⟨g, cap, cur, e1, e2, e3, e4, e5, e6, e7⟩
  · exact absurd (List.eq_nil_of_length_eq_zero h3) hne
  · injection e1 with e1 _ _
    refine ⟨g, cur, e1, e2, (Array.getElem?_eq_some_iff.1 e3).1, e3, fun j u hu => ?_⟩
    rw [← e7, List.getElem?_take] at hu
    split at hu
    · simpa using hu
    · cases hu
end
end Go.Proofs.YtjcikhacekmcfaaGreatDoor
