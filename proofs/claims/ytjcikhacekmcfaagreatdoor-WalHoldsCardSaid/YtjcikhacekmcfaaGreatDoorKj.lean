import Derived.Test.YtjcikhacekmcfaaGreatDoorKi
import Derived.Sort.OwnSorted
import Derived.Deep.RegionHeld3
import Derived.Test.YtjcikhacekmcfaaGreatDoorKg
namespace Go.Proofs.YtjcikhacekmcfaaGreatDoor
set_option maxRecDepth 20000
open Go.RowKit Go.Sort
open PlainDisk (File Disk Left)
set_option linter.unusedVariables false

set_option maxHeartbeats 1000000 in
set_option maxRecDepth 100000 in
theorem used_none {w : World} {b : Nat} {r0 r2 r3 r4 : Value} (hb : w.heap[b]? = some (.cells #[r0, .map none, r2, r3, r4] 86 (0, 0))) :
    Calls Tryz.prog 53 #[.pointer (some ⟨b, 0, none⟩)] w fun e w' => e = .returned (.int .i64 0) ∧ Below w.heap.size w w' := by
  have HA := Lib.hid (all_any hb)
  have hr := run_range_nilMap (P := Tryz.prog) w 84 9 100 Tryz.underlying84
  have hnx : ∀ ty, (Instr.next (.pointer (some ⟨w.heap.size, 0, none⟩)) false ty).run Tryz.prog (w.alloc (.mapIter none 0 #[] 0)) = _ := fun ty => run_next_nilMap w ty 0 0 #[]
  clear hb
  go_enter Tryz.func53, Tryz.ntmps53
  go_wp2_with fail
  refine HA.out.mono ?_
  rintro e w' ⟨rfl, rfl⟩
  go_wp2_with fail
  refine wp_loop_rounds 1 ?_
  rw [rounds_succ]
  go_wp2_with fail
  go_ret
  exact ⟨rfl, (Below.refl _ _).alloc (Nat.le_refl _) _⟩
/-- how much is used -/
theorem used_files {w : World} {b : Nat} {mv : Option Nat} {r0 r2 r3 r4 : Value} {ps : List FV} (hb : w.heap[b]? = some (.cells #[r0, .map mv, r2, r3, r4] 86 (0, 0))) (hm : (mv = none ∧ ps = []) ∨ ∃ m, mv = some m ∧ MapAt w m ps) (hN : Names ps)
    (hsl : ∀ p ∈ ps, ∃ A c, p.2 = .slice A p.1.bytes.length c) (hu : PlainDisk.used (ps.map (·.1)) ≤ 1048576) :
    Calls Tryz.prog 53 #[.pointer (some ⟨b, 0, none⟩)] w fun e w' => e = .returned (.int .i64 (PlainDisk.used (ps.map (·.1)) : Nat)) ∧ Below w.heap.size w w' := by
  rcases hm with ⟨rfl, rfl⟩ | ⟨m, rfl, hm⟩
  · exact used_none hb
  · exact used_some hb hm hN hsl hu

/-! ### the names, in order -/
theorem enc_keys (ps : List FV) : strKeys (encM ps) = ps.map (·.1.name) := by
  show (encL ps).map _ = _
  unfold encL
  rw [List.map_map]; rfl
theorem bl_le {a b : List UInt8} (h : PlainDisk.bl a b = true) : decide (a ≤ b) = true := by
  unfold PlainDisk.bl at h
  rw [bytesLess_eq] at h
  exact decide_eq_true (List.le_of_lt (of_decide_eq_true h))
theorem sorted_names {ps : List FV} (h : PlainDisk.Sorted (ps.map (·.1))) : (ps.map (·.1.name)).Pairwise fun a b => decide (a ≤ b) = true := by
  induction ps with
  | nil => exact List.Pairwise.nil
  | cons p r ih =>
    refine List.Pairwise.cons (fun q hq => ?_) (ih h.2)
    obtain ⟨x, hx, rfl⟩ := List.mem_map.1 hq
    exact bl_le (h.1 x.1 (List.mem_map_of_mem hx))
theorem sorts {ps : List FV} (h : PlainDisk.Sorted (ps.map (·.1))) {ss : List (List UInt8)} (hp : ss.Perm (ps.map (·.1.name))) : (ss.mergeSort fun x y => decide (x ≤ y)) = ps.map (·.1.name) := by
  rw [mergeSort_of_perm hp]
  exact List.mergeSort_of_pairwise (sorted_names h)
theorem at_any {ps : List FV} {p : FV} (hp : p ∈ ps) (zd : DataW Value) : (encM ps).atKey (.string p.1.name) zd = .held (valAt (findV ps p.1.name)) := by
  have : ∃ x, findV ps p.1.name = some x := by
    cases h : findV ps p.1.name with
    | some x => exact ⟨x, rfl⟩
    | none =>
      unfold findV at h
      exact absurd (List.find?_eq_none.1 h p hp) (by simp)
  obtain ⟨x, hx⟩ := this
  unfold encM DataW.atKey
  dsimp only
  rw [enc_find, hx]
  rfl
theorem sV_enc (l : List (List UInt8)) : sV l = l.map encStr := rfl
set_option maxHeartbeats 1000000 in
set_option maxRecDepth 100000 in
theorem files_none {w : World} {b : Nat} {r0 r2 r3 r4 : Value} (hb : w.heap[b]? = some (.cells #[r0, .map none, r2, r3, r4] 86 (0, 0))) :
    Calls Tryz.prog 45 #[.pointer (some ⟨b, 0, none⟩)] w fun e w' => ∃ v, e = .returned v ∧ OwnS w' w.heap.size v [] ∧ Below w.heap.size w w' := by
  have HA := Lib.hid (all_any hb)
  have hr := run_range_nilMap (P := Tryz.prog) w 84 9 100 Tryz.underlying84
  have hnx : ∀ ty, (Instr.next (.pointer (some ⟨w.heap.size, 0, none⟩)) false ty).run Tryz.prog (w.alloc (.mapIter none 0 #[] 0)) = _ := fun ty => run_next_nilMap w ty 0 0 #[]
  have HS := Lib.hid (fun W => sort_nil none 0 W)
  clear hb
  go_enter Tryz.func45, Tryz.ntmps45
  go_wp2_with fail
  refine HA.out.mono ?_
  rintro e w' ⟨rfl, rfl⟩
  go_wp2_with fail
  refine wp_loop_rounds 1 ?_
  rw [rounds_succ]
  go_wp2_with fail
  refine (HS.out _).mono ?_
  rintro e w' ⟨rfl, rfl⟩
  go_wp2_with fail
  go_ret
  exact ⟨_, rfl, World.ownsRow_nil _ _ _ _, (Below.refl _ _).alloc (Nat.le_refl _) _⟩
set_option maxHeartbeats 2000000 in
set_option maxRecDepth 100000 in
theorem files_some {w : World} {b m : Nat} {r0 r2 r3 r4 : Value} {ps : List FV} (hb : w.heap[b]? = some (.cells #[r0, .map (some m), r2, r3, r4] 86 (0, 0))) (hm : MapAt w m ps) (hs : PlainDisk.Sorted (ps.map (·.1))) (hl : ps.length ≤ 1000)
    (hsl : ∀ p ∈ ps, ∃ A c, p.2 = .slice A p.1.bytes.length c) :
    Calls Tryz.prog 45 #[.pointer (some ⟨b, 0, none⟩)] w fun e w' => ∃ v, e = .returned v ∧ OwnS w' w.heap.size v (ps.map (·.1.name)) ∧ Below w.heap.size w w' := by
  have HA := Lib.hid (all_any hb)
  have HM := Lib.hid hm
  have hmlt : m < w.heap.size := hm.lt
  have HS := Lib.hid hsl
  have HSO := Lib.hid (fun ss => sorts hs (ss := ss))
  have HZ := Lib.hid (size_enc ps)
  have HL := Lib.hid hl
  have HKY := Lib.hid (enc_keys ps)
  generalize ps.map (·.1.name) = names at *
  clear hb hm hs hsl hl
  go_enter Tryz.func45, Tryz.ntmps45
  go_wp2_with fail
  refine HA.out.mono ?_
  rintro e w' ⟨rfl, rfl⟩
  go_wp2_with (first | (at_range; refine wpList_range_own _ rfl _ 84 rfl 9 100 law9 Tryz.underlying84 R0 m ps.length (encM ps) rfl HM.out ?_; intro w0 hrg0 hg0 hs0) | go_in)
  go_frame
  have hbw0 : Below w.heap.size w w0 := (Below.refl _ w).grown hg0 (Nat.le_refl _) (fun k hk => by cases hk)
  have HB0 := Lib.hid hbw0
  have HR0 := Lib.hid hrg0
  clear hg0 hs0 hbw0 hrg0
  go_loopw [3] (fun lV wr => ∃ (l : Value) (ss : List (List UInt8)) (left : Lit → Bool) (cnt : Nat), l = lV ∧ OwnS wr (w.heap.size + 1) l ss ∧ Rng wr m w.heap.size ps.length ps left cnt ∧ Collected (encM ps) left ss ∧ ss.length + cnt ≤ ps.length ∧ Below w.heap.size w wr ∧ w.heap.size + 1 ≤ wr.heap.size) (fun _ wr => wr.rangeLeft m w.heap.size)
  case atStart => exact ⟨_, [], _, _, rfl, World.ownsRow_nil _ _ _ _, HR0.out, Collected.start _, by rw [HZ.out]; simp, HB0.out, HR0.out.lt⟩
  case round =>
    obtain ⟨l, ss, left, cnt, rfl, hown, hrg, hcol, hsum, hbw, hz⟩ := hrel
    have HW := Lib.hid hbw
    have HR := Lib.hid hrg
    have HO := Lib.hid hown
    have HC := Lib.hid hcol
    have HSM := Lib.hid hsum
    clear HB0 HR0 hbw hrg hsum hown hcol
    go_wp2_with (at_next; refine wp_next_files rfl _ rfl m w.heap.size ps.length ps left cnt rfl HR.out HS.out ?_ ?_)
    · intro hlf
      have hperm := HC.out.perm HR.out.owns law9 Tryz.underlying9 hlf
      rw [HKY.out] at hperm
      have hsorted := HSO.out ss hperm
      have hlen : ss.length < 4611686018427387904 := by have := HSM.out; have := HL.out; omega
      have HO2 := Lib.hid HO.out.2
      rcases HO.out.2 with ⟨hnil, hz0⟩ | ⟨g, cap, cur, hl2, hbase, hgb, h1, h2, h3, h4⟩
      · have hss : ss = [] := List.eq_nil_of_length_eq_zero hz0
        subst hss
        subst hnil
        have HF := Lib.hid hsorted
        have HN := Lib.hid (fun W => sort_nil none 0 W)
        clear hsorted hperm hlf
        go_wp2_with fail
        refine (HN.out _).mono ?_
        rintro e w' ⟨rfl, rfl⟩
        go_wp2_with fail
        go_ret
        refine ⟨_, rfl, ?_, HW.out⟩
        rw [← HF.out, show ([] : List (List UInt8)).mergeSort (fun x y => decide (x ≤ y)) = [] by simp]
        exact World.ownsRow_nil _ _ _ _
      · subst hl2
        have hlt : g < wr.heap.size := (Array.getElem?_eq_some_iff.1 hgb).1
        have hH := holds_of_block (ss := ss) hgb (by rw [Nat.mul_one] at h4; exact h4)
        have HC1 := Lib.hid (sort_some g 0 cap ss wr hH hlt hlen)
        have HF := Lib.hid hsorted
        have HX := Lib.hid (And.intro hbase (And.intro hgb (And.intro h1 (And.intro h2 h3))))
        clear hsorted hperm hlf hH hgb h1 h2 h3 h4
        go_wp2_with fail
        refine HC1.out.mono ?_
        rintro e w' ⟨rfl, n, os, rfl⟩
        go_wp2_with fail
        go_ret
        rw [HF.out]
        obtain ⟨q0, q1, q2, q3, q4⟩ := HX.out
        have hll : names.length = ss.length := by rw [← HF.out]; simp
        refine ⟨_, rfl, ?_, HW.out.grown (grownBy_sorted _) HW.out.size (fun k hk => by cases hk; omega)⟩
        have := ownsRow_sorted (n := n) (os := os) hll (Nat.le_trans (Nat.le_succ _) q0) q1 q2 q3 q4
        unfold OwnS
        rw [hll, sV_enc]
        exact this
    · intro f v A c w1 cnt1 hp hlk hx hrg1 hlt hg1 hs1 hen
      have hcol1 : Collected (encM ps) (strike left f.name) (ss ++ [f.name]) := HC.out.step hlk (at_any hp)
      have hbw1 : Below w.heap.size w w1 := HW.out.grown hg1 HW.out.size (fun k hk => by cases hk; exact Nat.le_refl _)
      have hne : l.ownBlock = none ∨ l.ownBlock ≠ some w.heap.size := by
        cases hq : l.ownBlock with
        | none => exact .inl rfl
        | some k => exact .inr (fun e => by injection e with e; have := (HO.out.lt k hq).1; omega)
      have hown1 : OwnS w1 (w.heap.size + 1) l ss := World.ownsRow.kept HO.out hg1 hne
      have hmne : some m ≠ l.ownBlock := fun e => by have := (HO.out.lt m e.symm).1; omega
      have hrne : some w.heap.size ≠ l.ownBlock := fun e => by have := (HO.out.lt _ e.symm).1; omega
      have hln : ss.length ≤ 1000 := by have := HSM.out; have := HL.out; omega
      have hz1 : w.heap.size + 1 ≤ w1.heap.size := by omega
      have HR1 := Lib.hid hrg1
      have HB1 := Lib.hid hbw1
      have HO1 := Lib.hid hown1
      have HC1 := Lib.hid hcol1
      have HE := Lib.hid hlt
      have HLN := Lib.hid hln
      have HNE := Lib.hid (And.intro hmne hrne)
      clear hrg1 hbw1 hg1 hs1 hlt hlk hcol1 hown1 hne hmne hrne hln
      go_wp2_with (at_builtin; (refine wp_appS rfl (.tmp 12) (.tmp 14) rfl (w.heap.size + 1) l ss rfl (HO1.out.alloc _) w1.heap.size f.name rfl ?hk HLN.out ?hbs ?_))
      case hk => first | exact heap_alloc_new w1 _ | exact (Array.getElem?_eq_some_iff.1 (heap_alloc_new w1 _)).2
      case hbs => simp; omega
      intro v' w2 hown2 hgrow
      have hrg2 := (World.ranges.alloc HR1.out _).kept hgrow HNE.out.1 HNE.out.2
      have hbw2 : Below w.heap.size w w2 := (HB1.out.alloc HB1.out.size _).grown hgrow (by have := HB1.out.size; simp; omega) (fun k hk => by have := (HO1.out.lt k hk).1; omega)
      have hz2 : w.heap.size + 1 ≤ w2.heap.size := by have := hgrow.size; simp at this; omega
      have HR2 := Lib.hid hrg2
      have HB2 := Lib.hid hbw2
      have HO2 := Lib.hid hown2
      clear hrg2 hbw2 hown2 hgrow
      go_wp2_with fail
      go_roundw
      case rel => exact ⟨v', _, _, _, rfl, HO2.out, HR2.out, HC1.out, by rw [List.length_append]; have := HSM.out; have := HE.out; simp; omega, HB2.out, hz2⟩
      case measure =>
        rw [HR2.out.left_eq, HR.out.left_eq]
        exact HE.out
/-- the files' names -/
theorem files_files {w : World} {b : Nat} {mv : Option Nat} {r0 r2 r3 r4 : Value} {ps : List FV} (hb : w.heap[b]? = some (.cells #[r0, .map mv, r2, r3, r4] 86 (0, 0))) (hm : (mv = none ∧ ps = []) ∨ ∃ m, mv = some m ∧ MapAt w m ps) (hs : PlainDisk.Sorted (ps.map (·.1))) (hl : ps.length ≤ 1000)
    (hsl : ∀ p ∈ ps, ∃ A c, p.2 = .slice A p.1.bytes.length c) :
    Calls Tryz.prog 45 #[.pointer (some ⟨b, 0, none⟩)] w fun e w' => ∃ v, e = .returned v ∧ OwnS w' w.heap.size v (ps.map (·.1.name)) ∧ Below w.heap.size w w' := by
  rcases hm with ⟨rfl, rfl⟩ | ⟨m, rfl, hm⟩
  · exact files_none hb
  · exact files_some hb hm hs hl hsl
end Go.Proofs.YtjcikhacekmcfaaGreatDoor
namespace Go.Proofs.YtjcikhacekmcfaaGreatDoor
set_option maxRecDepth 20000
open Go.RowKit
open PlainDisk (File Disk Left)
set_option linter.unusedVariables false

/-! ### what a write makes of the disk -/
def lfOf (ar : Bool) (lf : Int) : Int := if ar = true ∧ lf ≠ 0 then lf - 1 else lf
theorem armedW_other (b : Nat) (ar : Bool) (lf : Int) (w : World) : ∀ k, k ≠ b → (armedW b ar lf w).heap[k]? = w.heap[k]? := by
  intro k hk
  unfold armedW
  split
  · rfl
  split
  · exact Below.heap_setCell _ _ _ k hk
  · exact Below.heap_setCell _ _ _ k hk
theorem armedW_size (b : Nat) (ar : Bool) (lf : Int) (w : World) : (armedW b ar lf w).heap.size = w.heap.size := by
  unfold armedW
  split
  · rfl
  split <;> simp [World.setCell]
theorem armedW_fr {S : Nat → Prop} {b : Nat} (hS : S b) (ar : Bool) (lf : Int) (w : World) : Fr S w (armedW b ar lf w) := by
  unfold armedW
  split
  · exact Fr.refl S w
  split
  · exact (Fr.refl S w).setCell (p := ⟨b, 2, none⟩) (.inl hS) _
  · exact (Fr.refl S w).setCell (p := ⟨b, 4, none⟩) (.inl hS) _
theorem armedW_cells {b : Nat} {ar gone : Bool} {lf : Int} {r0 r1 : Value} {w : World} (hb : w.heap[b]? = some (.cells #[r0, r1, .bool gone, .bool ar, .int .i64 lf] 86 (0, 0))) :
    (armedW b ar lf w).heap[b]? = some (.cells #[r0, r1, .bool (if ar = true ∧ lf = 0 then true else gone), .bool ar, .int .i64 (lfOf ar lf)] 86 (0, 0)) := by
  unfold armedW lfOf
  cases ar with
  | false => rw [if_pos rfl, if_neg (by simp), if_neg (by simp)]; exact hb
  | true =>
    rw [if_neg (show ¬ (true = false) by simp)]
    by_cases h : lf = 0
    · rw [if_pos h, if_pos ⟨rfl, h⟩, if_neg (fun q => q.2 h)]
      subst h
      simp [World.setCell, Array.getElem?_modify, hb]
    · rw [if_neg h, if_neg (fun q => h q.2), if_pos ⟨rfl, h⟩]
      simp [World.setCell, Array.getElem?_modify, hb]
theorem armed_fail {good : Int} {ar : Bool} {lf : Int} (h : Armed good ar lf) : (ar = true ∧ lf = 0) ↔ good = 0 := by
  rcases h with ⟨rfl, rfl⟩ | ⟨rfl, h0, rfl⟩ <;> simp
theorem armed_next {good : Int} {ar : Bool} {lf : Int} (h : Armed good ar lf) (hg : good ≠ 0) : Armed (if 0 < good then good - 1 else good) ar (lfOf ar lf) := by
  unfold lfOf
  rcases h with ⟨rfl, rfl⟩ | ⟨rfl, h0, rfl⟩
  · exact .inl ⟨rfl, by simp⟩
  · rw [if_pos (show 0 < good by omega), if_pos (show true = true ∧ good ≠ 0 from ⟨rfl, hg⟩)]
    exact .inr ⟨rfl, by omega, rfl⟩
theorem armed_stay {good : Int} {ar : Bool} {lf : Int} (h : Armed good ar lf) (hg : good = 0) : Armed good ar (lfOf ar lf) := by
  unfold lfOf
  rw [if_neg (fun q => q.2 ((armed_fail h).2 hg).2)]
  exact h
theorem FilesAt.armed {w : World} {b : Nat} {ar : Bool} {lf : Int} {cs : Array Value} {mv : Option Nat} {ps : List FV} {S : Nat → Prop} (h : FilesAt w mv ps S) (hb : w.heap[b]? = some (.cells cs 86 (0, 0))) : FilesAt (armedW b ar lf w) mv ps S :=
  h.keep fun k x hx hS hne => by
    have hk : k ≠ b := by
      rintro rfl
      rw [hb] at hx
      cases hx
      exact not65 hne (by decide) rfl
    rw [armedW_other b ar lf w k hk]; exact hx
theorem FilesAt.belows {w w' : World} {mv : Option Nat} {ps : List FV} {S : Nat → Prop} (h : FilesAt w mv ps S) (hb : Below w.heap.size w w') : FilesAt w' mv ps S :=
  h.keep fun k x hx _ _ => (hb.block k (Array.getElem?_eq_some_iff.1 hx).1).trans hx
theorem FilesAt.slices {w : World} {mv : Option Nat} {ps : List FV} {S : Nat → Prop} (h : FilesAt w mv ps S) : ∀ p ∈ ps, ∃ A c, p.2 = .slice A p.1.bytes.length c := fun p hp => by
  obtain ⟨A, c, e, _⟩ := (h.bytes p hp).slice
  exact ⟨A, c, e⟩
theorem FilesAt.sl {w : World} {mv : Option Nat} {ps : List FV} {S : Nat → Prop} (h : FilesAt w mv ps S) : ∀ p ∈ ps, ∃ A n c, p.2 = .slice A n c := fun p hp => by
  obtain ⟨A, c, e, _⟩ := (h.bytes p hp).slice
  exact ⟨A, _, c, e⟩
/-- what put makes of the files -/
theorem FilesAt.put {w w' : World} {b m : Nat} {mv : Option Nat} {ps : List FV} {S : Nat → Prop} {cs : Array Value} {f : File} {v : Value} (h : FilesAt w mv ps S) (hb : w.heap[b]? = some (.cells cs 86 (0, 0)))
    (hv : OwnB w 0 v f.bytes) (hmine : ∀ g, v.ownBlock = some g → S g) (hap : ∀ q ∈ ps, q.1.name ≠ f.name → v.ownBlock = none ∨ v.ownBlock ≠ q.2.ownBlock)
    (hm : MapAt w' m (putF (f, v) (dropF f.name ps))) (hf : Fr (fun k => k = b ∨ mv = some k) w w') (hw : mv = some m ∨ (w.heap.size ≤ m ∧ m < w'.heap.size)) :
    FilesAt w' (some m) (putF (f, v) (dropF f.name ps)) (Up S w w') := by
  have hkeep : ∀ (g : Nat) (cs' : Array Value), w.heap[g]? = some (Obj.cells cs' 5 (0, 0)) → w'.heap[g]? = w.heap[g]? := by
    intro g cs' hg
    refine hf.block g (Array.getElem?_eq_some_iff.1 hg).1 ?_
    rintro (rfl | e)
    · rw [hb] at hg
      injection hg with hg
      injection hg with q1 q2
      exact absurd q2 (by decide)
    · rcases h.map with ⟨e2, _⟩ | ⟨m', e2, _, hm'⟩
      · rw [e2] at e; cases e
      · rw [e2] at e
        injection e with e
        subst e
        obtain ⟨es, c, q⟩ := hm'.block
        rw [q] at hg
        cases hg
  have mem : ∀ q ∈ putF (f, v) (dropF f.name ps), q = (f, v) ∨ (q ∈ ps ∧ q.1.name ≠ f.name) := by
    intro q hq
    rcases mem_putF hq with hq | hq
    · exact .inl hq
    · refine .inr ⟨mem_dropF hq, ?_⟩
      have : q.1 ∈ PlainDisk.drop (ps.map (·.1)) f.name := by rw [← dropF_fst]; exact List.mem_map_of_mem hq
      exact (PlainDisk.mem_drop.1 this).2
  refine ⟨.inr ⟨m, rfl, ?_, hm⟩, ?_, ?_, ?_⟩
  · rcases hw with e | e
    · rcases h.map with ⟨e2, _⟩ | ⟨m', e2, hS, _⟩
      · rw [e2] at e; cases e
      · rw [e2] at e
        injection e with e
        subst e
        exact .inl hS
    · exact .inr e
  · intro q hq
    rcases mem q hq with rfl | ⟨hq, _⟩
    · exact hv.keep fun g hg => by
        obtain ⟨cs', q⟩ := hv.block hg
        exact hkeep g cs' q
    · exact (h.bytes q hq).keep fun g hg => by
        obtain ⟨cs', q⟩ := (h.bytes q hq).block hg
        exact hkeep g cs' q
  · intro q hq g hg
    rcases mem q hq with rfl | ⟨hq, _⟩
    · exact .inl (hmine g hg)
    · exact .inl (h.mine q hq g hg)
  · intro q hq q2 hq2 hne
    rcases mem q hq with rfl | ⟨h1, n1⟩
    · rcases mem q2 hq2 with rfl | ⟨h2, n2⟩
      · exact absurd rfl hne
      · exact hap q2 h2 n2
    · rcases mem q2 hq2 with rfl | ⟨h2, n2⟩
      · rcases hap q h1 n1 with e | e
        · cases hq' : q.2.ownBlock with
          | none => exact .inl rfl
          | some g => exact .inr (by show some g ≠ v.ownBlock; rw [e]; simp)
        · exact .inr (fun e2 => e e2.symm)
      · exact h.apart q h1 q2 h2 hne
/-- what delete makes of them -/
theorem FilesAt.del {w w' : World} {m : Nat} {ps : List FV} {S : Nat → Prop} (nm : List UInt8) (h : FilesAt w (some m) ps S) (hm : MapAt w' m (dropF nm ps)) (hg : w.grownBy w' (some m)) (hmb : MapAt w m ps) : FilesAt w' (some m) (dropF nm ps) S := by
  have hSm : S m := by
    rcases h.map with ⟨e2, _⟩ | ⟨m', e2, hS, _⟩
    · cases e2
    · injection e2 with e2; subst e2; exact hS
  refine ⟨.inr ⟨m, rfl, hSm, hm⟩, fun q hq => (h.bytes q (mem_dropF hq)).keep fun g hg' => ?_, fun q hq => h.mine q (mem_dropF hq), fun q hq q2 hq2 => h.apart q (mem_dropF hq) q2 (mem_dropF hq2)⟩
  obtain ⟨cs', hq'⟩ := (h.bytes q (mem_dropF hq)).block hg'
  refine hg.block g (Array.getElem?_eq_some_iff.1 hq').1 ?_
  intro e
  injection e with e
  subst e
  obtain ⟨es, c, q⟩ := hmb.block
  rw [q] at hq'
  cases hq'

/-! ### plain: put in place of what was -/
theorem put_upd {fs : List File} (hs : PlainDisk.Sorted fs) {nm : List UInt8} {f : File} {t : File → File} (ht : ∀ f, (t f).name = f.name) (h : PlainDisk.find fs nm = some f) : PlainDisk.put (t f) (PlainDisk.drop fs nm) = PlainDisk.upd fs nm t := by
  have hn : f.name = nm := PlainDisk.find_name h
  have hd := PlainDisk.sorted_drop nm hs
  have hnone : PlainDisk.find (PlainDisk.drop fs nm) (t f).name = none := by rw [ht, hn, PlainDisk.find_drop, if_pos rfl]
  refine PlainDisk.sorted_ext (PlainDisk.sorted_put hd hnone) (PlainDisk.sorted_upd ht hs) fun k => ?_
  rw [PlainDisk.find_put hd hnone, PlainDisk.find_upd ht, PlainDisk.find_drop, ht, hn]
  by_cases e : k = nm
  · rw [if_pos e, if_pos e, e, h]; rfl
  · rw [if_neg e, if_neg e, if_neg e]
theorem put_made {fs : List File} (hs : PlainDisk.Sorted fs) {nm : List UInt8} {t : File → File} (ht : ∀ f, (t f).name = f.name) (h : PlainDisk.find fs nm = none) : PlainDisk.put (t ⟨nm, [], 0⟩) (PlainDisk.drop fs nm) = PlainDisk.upd (PlainDisk.made fs nm) nm t := by
  rw [PlainDisk.drop_none h, PlainDisk.made_none h]
  have h' : PlainDisk.find fs (⟨nm, [], 0⟩ : File).name = none := h
  have hnone : PlainDisk.find fs (t ⟨nm, [], 0⟩).name = none := by rw [ht]; exact h
  have hp := PlainDisk.sorted_put hs h'
  refine PlainDisk.sorted_ext (PlainDisk.sorted_put hs hnone) (PlainDisk.sorted_upd ht hp) fun k => ?_
  rw [PlainDisk.find_put hs hnone, PlainDisk.find_upd ht, PlainDisk.find_put hs h', ht]
  by_cases e : k = nm
  · rw [if_pos e, if_pos e, if_pos e]; rfl
  · rw [if_neg e, if_neg e, if_neg e]
end Go.Proofs.YtjcikhacekmcfaaGreatDoor
namespace Go.Proofs.YtjcikhacekmcfaaGreatDoor
set_option maxRecDepth 20000
open Go.RowKit
open PlainDisk (File Disk Left)
set_option linter.unusedVariables false

/-! ### the disk on the way through a call -/
structure At (w0 W : World) (b : Nat) (mv : Option Nat) (gone ar : Bool) (lf : Int) (room : Nat) (ps : List FV) (S : Nat → Prop) : Prop where
  cells : W.heap[b]? = some (.cells #[.int .i64 (room : Nat), .map mv, .bool gone, .bool ar, .int .i64 lf] 86 (0, 0))
  files : FilesAt W mv ps S
  fr : Fr S w0 W
section
variable {w0 W : World} {b : Nat} {mv : Option Nat} {gone ar : Bool} {lf : Int} {room : Nat} {ps : List FV} {S : Nat → Prop}
theorem At.below {W' : World} (h : At w0 W b mv gone ar lf room ps S) (hb : Below W.heap.size W W') : At w0 W' b mv gone ar lf room ps S :=
  ⟨(hb.block b (Array.getElem?_eq_some_iff.1 h.cells).1).trans h.cells, h.files.belows hb, h.fr.trans (Fr.of_below (S := S) hb) fun i hi => .inl hi⟩
theorem At.alloc (h : At w0 W b mv gone ar lf room ps S) (o : Obj) : At w0 (W.alloc o) b mv gone ar lf room ps S := h.below ((Below.refl _ _).alloc (Nat.le_refl _) _)
theorem At.drew (h : At w0 W b mv gone ar lf room ps S) : At w0 W.drew b mv gone ar lf room ps S := h.below ⟨rfl, rfl, rfl, Nat.le_refl _, fun _ _ => rfl⟩
theorem At.box (h : At w0 W b mv gone ar lf room ps S) {k : Nat} {cs : Array Value} {t : TypeId} {fz : Nat × Nat} (hk : W.heap[k]? = some (.cells cs t fz)) (h5 : t ≠ 5) (h65 : t ≠ 86) (hw : w0.heap.size ≤ k) (off : Nat) (u : Value) : At w0 (W.setCell ⟨k, off, none⟩ u) b mv gone ar lf room ps S := by
  refine ⟨?_, h.files.keep fun j x hx hS hn => ?_, h.fr.setCell (p := ⟨k, off, none⟩) (.inr hw) _⟩
  · rw [Below.heap_setCell _ _ _ b ?_]
    · exact h.cells
    · rintro rfl
      have := h.cells
      rw [hk] at this
      injection this with this
      injection this with _ e
      exact h65 e
  · rw [Below.heap_setCell _ _ _ j ?_]
    · exact hx
    · rintro rfl
      rw [hk] at hx
      injection hx with hx
      exact not65 hn h5 hx.symm
theorem At.armed (h : At w0 W b mv gone ar lf room ps S) (hS : S b) : At w0 (armedW b ar lf W) b mv (if ar = true ∧ lf = 0 then true else gone) ar (lfOf ar lf) room ps S :=
  ⟨armedW_cells h.cells, h.files.armed h.cells, h.fr.trans (armedW_fr hS ar lf W) fun i hi => .inl hi⟩
theorem At.mono {S' : Nat → Prop} (h : At w0 W b mv gone ar lf room ps S) (hS : ∀ k, S k → S' k) : At w0 W b mv gone ar lf room ps S' :=
  ⟨h.cells, h.files.mono hS, ⟨h.fr.os, h.fr.tape, h.fr.output, h.fr.size, fun k hk hn => h.fr.block k hk fun q => hn (hS k q)⟩⟩
theorem fr_up {S S' : Nat → Prop} {w' : World} (hu : ∀ k, S' k → S k ∨ w0.heap.size ≤ k) (h : Fr S' w0 w') : Fr S w0 w' :=
  ⟨h.os, h.tape, h.output, h.size, fun k hk hn => h.block k hk fun q => (hu k q).elim hn fun q => by omega⟩
theorem At.to {D' : Disk} {S0 : Nat → Prop} (h : At w0 W b mv gone ar lf room ps S) (hS : S b) (hu : ∀ k, S k → Up S0 w0 W k) (h1 : D'.room = room) (h2 : D'.gone = gone) (h3 : Armed D'.good ar lf) (h4 : D'.fs = ps.map (·.1)) : DiskTo w0 W b D' S0 := by
  refine ⟨S, ⟨mv, ar, lf, ps, by rw [h1, h2]; exact h.cells, hS, h4, h3, h.files⟩, hu, fr_up (fun k hk => (hu k hk).elim .inl fun q => .inr q.1) h.fr⟩
theorem At.put {D' : Disk} {S0 : Nat → Prop} {w' : World} {f : File} {v : Value} (h : At w0 W b mv gone ar lf room ps S) (hS : S b) (hu : ∀ k, S k → Up S0 w0 W k)
    (hp : ∃ m, w'.heap[b]? = some (.cells #[.int .i64 (room : Nat), .map (some m), .bool gone, .bool ar, .int .i64 lf] 86 (0, 0)) ∧ MapAt w' m (putF (f, v) (dropF f.name ps)) ∧ Fr (fun k => k = b ∨ mv = some k) W w' ∧ (mv = some m ∨ (W.heap.size ≤ m ∧ m < w'.heap.size)))
    (hv : OwnB W 0 v f.bytes) (hmine : ∀ g, v.ownBlock = some g → S g) (hap : ∀ q ∈ ps, q.1.name ≠ f.name → v.ownBlock = none ∨ v.ownBlock ≠ q.2.ownBlock)
    (h1 : D'.room = room) (h2 : D'.gone = gone) (h3 : Armed D'.good ar lf) (h4 : D'.fs = PlainDisk.put f (PlainDisk.drop (ps.map (·.1)) f.name)) : DiskTo w0 w' b D' S0 := by
  obtain ⟨m, q1, q2, q3, q4⟩ := hp
  have hSm : ∀ k, mv = some k → S k := by
    intro k hk
    rcases h.files.map with ⟨e, _⟩ | ⟨m', e, hS', _⟩
    · rw [e] at hk; cases hk
    · rw [e] at hk; injection hk with hk; subst hk; exact hS'
  have hfr : Fr S W w' := ⟨q3.os, q3.tape, q3.output, q3.size, fun k hk hn => q3.block k hk fun e => hn (e.elim (fun e => by rw [e]; exact hS) (hSm k))⟩
  have hfl := h.files.put h.cells hv hmine hap q2 q3 q4
  refine ⟨Up S W w', ⟨some m, ar, lf, _, by rw [h1, h2]; exact q1, .inl hS, ?_, h3, hfl⟩, ?_, ?_⟩
  · rw [h4, putF_fst, dropF_fst]
  · intro k hk
    have z1 := h.fr.size
    have z2 := q3.size
    rcases hk with hk | hk
    · rcases hu k hk with q | q
      · exact .inl q
      · exact .inr ⟨q.1, by omega⟩
    · exact .inr ⟨by omega, hk.2⟩
  · exact fr_up (fun k hk => (hu k hk).elim .inl fun q => .inr q.1) (h.fr.trans hfr fun i hi => .inl hi)
end

/-! ### what bars an act -/
theorem find_bad {D : Disk} {nm : List UInt8} {o : Option FV} (ho : o.map (·.1) = PlainDisk.find D.fs nm) (h : findCode D.gone nm o ≠ 0) :
    (D.gone = true ∧ findCode D.gone nm o = 41) ∨ (¬ D.gone = true ∧ may nm = false ∧ findCode D.gone nm o = 5) ∨ (¬ D.gone = true ∧ ¬ may nm = false ∧ PlainDisk.find D.fs nm = none ∧ findCode D.gone nm o = 10) := by
  unfold findCode at *
  by_cases hg : D.gone = true
  · exact .inl ⟨hg, if_pos hg⟩
  rw [if_neg hg] at h ⊢
  by_cases hm : may nm = false
  · exact .inr (.inl ⟨hg, hm, if_pos hm⟩)
  rw [if_neg hm] at h ⊢
  cases o with
  | none => exact .inr (.inr ⟨hg, hm, ho.symm, if_pos rfl⟩)
  | some p => rw [if_neg (by simp)] at h; exact absurd rfl h
theorem find_good {D : Disk} {nm : List UInt8} {o : Option FV} (ho : o.map (·.1) = PlainDisk.find D.fs nm) (h : findCode D.gone nm o = 0) :
    ¬ D.gone = true ∧ ¬ may nm = false ∧ ∃ p, o = some p ∧ PlainDisk.find D.fs nm = some p.1 := by
  unfold findCode at h
  by_cases hg : D.gone = true
  · rw [if_pos hg] at h; omega
  rw [if_neg hg] at h
  by_cases hm : may nm = false
  · rw [if_pos hm] at h; omega
  rw [if_neg hm] at h
  cases o with
  | none => rw [if_pos rfl] at h; omega
  | some p => exact ⟨hg, hm, p, rfl, ho.symm⟩
theorem sync_bad {D : Disk} {nm : List UInt8} {o : Option FV} (ho : o.map (·.1) = PlainDisk.find D.fs nm) (h : findCode D.gone nm o ≠ 0) : PlainDisk.sync may D nm = (D, findCode D.gone nm o) := by
  unfold PlainDisk.sync
  rcases find_bad ho h with ⟨h1, e⟩ | ⟨h1, h2, e⟩ | ⟨h1, h2, h3, e⟩
  · rw [if_pos h1, e]
  · rw [if_neg h1, if_pos h2, e]
  · rw [if_neg h1, if_neg h2, if_pos h3, e]
theorem sync_good {D : Disk} {nm : List UInt8} {o : Option FV} (ho : o.map (·.1) = PlainDisk.find D.fs nm) (h : findCode D.gone nm o = 0) : PlainDisk.sync may D nm = PlainDisk.write D (PlainDisk.upd D.fs nm PlainDisk.syncF) D.fs := by
  obtain ⟨h1, h2, p, _, h3⟩ := find_good ho h
  unfold PlainDisk.sync
  rw [if_neg h1, if_neg h2, if_neg (by rw [h3]; simp)]
theorem names_apart {w : World} {mv : Option Nat} {ps : List FV} {S : Nat → Prop} (h : FilesAt w mv ps S) {p : FV} (hp : p ∈ ps) : ∀ q ∈ ps, q.1.name ≠ p.1.name → p.2.ownBlock = none ∨ p.2.ownBlock ≠ q.2.ownBlock :=
  fun q hq hne => h.apart p hp q hq fun e => hne e.symm
theorem write_at {w0 W : World} {b : Nat} {mv : Option Nat} {gone ar : Bool} {lf good : Int} {room : Nat} {ps : List FV} {S : Nat → Prop} (h : At w0 W b mv gone ar lf room ps S) (hS : S b) (har : Armed good ar lf) (hg : good ≤ 9223372036854775807) :
    Calls Tryz.prog 59 #[.pointer (some ⟨b, 0, none⟩)] W fun e w' => e = .returned (.int .i64 (if good = 0 then 41 else 0)) ∧ w' = armedW b ar lf W ∧ At w0 w' b mv (if good = 0 then true else gone) ar (lfOf ar lf) room ps S := by
  refine (write_any h.cells (fun e => ?_) (fun e => ?_)).mono ?_
  · rcases har with ⟨e2, _⟩ | ⟨_, h0, _⟩
    · rw [e2] at e; cases e
    · exact h0
  · rcases har with ⟨e2, _⟩ | ⟨_, h0, h1⟩
    · rw [e2] at e; cases e
    · rw [← h1]; exact hg
  · rintro e w' ⟨rfl, rfl⟩
    have hat := h.armed hS
    have hc := armed_fail har
    by_cases q : good = 0
    · have q2 := hc.2 q
      rw [if_pos q2] at hat ⊢
      rw [if_pos q, if_pos q]
      exact ⟨rfl, rfl, hat⟩
    · have q2 : ¬ (ar = true ∧ lf = 0) := fun e => q (hc.1 e)
      rw [if_neg q2] at hat ⊢
      rw [if_neg q, if_neg q]
      exact ⟨rfl, rfl, hat⟩
end Go.Proofs.YtjcikhacekmcfaaGreatDoor
namespace Go.Proofs.YtjcikhacekmcfaaGreatDoor
set_option maxRecDepth 20000
open Go.RowKit
open PlainDisk (File Disk Left)
set_option linter.unusedVariables false

/-- what find tells, ahead of each act -/
theorem find_is {w : World} {b : Nat} {D : Disk} {mv : Option Nat} {ar : Bool} {lf : Int} {ps : List FV} {S : Nat → Prop} (nm : List UInt8)
    (hb : w.heap[b]? = some (.cells #[.int .i64 (D.room : Nat), .map mv, .bool D.gone, .bool ar, .int .i64 lf] 86 (0, 0))) (hfl : FilesAt w mv ps S) (hnm : nm.length ≤ 281474976710656) :
    Calls Tryz.prog 170 #[.pointer (some ⟨b, 0, none⟩), .string (str nm)] w fun e w' => e = .returned (.tuple #[foundV D.gone nm (findV ps nm), .int .i64 (findCode D.gone nm (findV ps nm))]) ∧ Below w.heap.size w w' :=
  find_any (looks hb hfl.maps hnm) (fun p hp => hfl.sl p (findV_mem hp))

set_option maxHeartbeats 2000000 in
set_option maxRecDepth 100000 in
theorem sync_act (b : Nat) (nm : List UInt8) (D : Disk) (S : Nat → Prop) (w : World) (hd : DiskIs w b D S) (hF : Fine D) (hnm : nm.length ≤ 281474976710656) :
    Calls Tryz.prog 162 #[.pointer (some ⟨b, 0, none⟩), .string (str nm)] w fun e w' => e = .returned (.int .i64 (PlainDisk.sync may D nm).2) ∧ DiskTo w w' b (PlainDisk.sync may D nm).1 S := by
  have HD := Lib.hid hd
  obtain ⟨mv, ar, lf, ps, hb, hS, hfs, har, hfl⟩ := hd
  have C1 := Lib.hid (find_is nm hb hfl hnm)
  have ho : (findV ps nm).map (·.1) = PlainDisk.find D.fs nm := by rw [findV_fst, hfs]
  by_cases hc : findCode D.gone nm (findV ps nm) = 0
  · obtain ⟨hg, hm, p, hp, hfind⟩ := find_good ho hc
    rw [sync_good ho hc]
    have hfv : foundV D.gone nm (findV ps nm) = valAt (findV ps nm) := if_pos hc
    rw [hfv, hc, hp, valAt_some] at C1
    have hpm := findV_mem hp
    have hpn := findV_name hp
    subst hpn
    obtain ⟨A, c, hA, k1, k2, k3⟩ := (hfl.bytes p hpm).slice
    rw [hA] at C1
    have HAT := Lib.hid (show At w w b mv D.gone ar lf D.room ps S from ⟨hb, hfl, Fr.refl S w⟩)
    have hcl : ps.length ≤ 1000 := by have := hF.inv.many; rw [hfs, List.length_map] at this; omega
    have HW := Lib.hid (fun (W : World) (h : At w W b mv D.gone ar lf D.room ps S) => write_at h hS har hF.good)
    have hbs : (p.1.bytes.length : Int) ≤ 9223372036854775807 := by omega
    unfold PlainDisk.write
    have hblt : b < w.heap.size := (Array.getElem?_eq_some_iff.1 hb).1
    by_cases h0 : D.good = 0
    · rw [if_pos h0]
      simp only [h0, if_true] at HW
      have HT := Lib.hid (fun (W : World) (h : At w W b mv true ar (lfOf ar lf) D.room ps S) => h.to (D' := { D with fs := D.fs, gone := true }) hS (fun k hk => .inl hk) rfl rfl (armed_stay har h0) hfs)
      dsimp only
      clear hb hfl ho hfs hA k3 hpm
      go_enter Tryz.func162, Tryz.ntmps162
      go_wp2_with fail
      refine C1.out.mono ?_
      rintro e w1 ⟨rfl, hb1⟩
      have hat := (HAT.out.below hb1).alloc (.cells #[.slice A p.1.bytes.length c, .int .i64 (p.1.sure : Nat)] 100)
      have HAT2 := Lib.hid hat
      clear hat
      go_wp2_with fail
      refine (HW.out _ HAT2.out).mono ?_
      rintro e w3 ⟨rfl, -, hat3⟩
      have HK := Lib.hid (HT.out _ hat3)
      clear hat3
      go_wp2_with fail
      go_ret
      exact ⟨rfl, HK.out⟩
    · rw [if_neg h0]
      simp only [h0, if_false] at HW
      have HT := Lib.hid (fun (W w' : World) (h : At w W b mv D.gone ar (lfOf ar lf) D.room ps S) hp => h.put (D' := { D with fs := PlainDisk.upd D.fs p.1.name PlainDisk.syncF, good := if 0 < D.good then D.good - 1 else D.good }) (w' := w') (f := PlainDisk.syncF p.1) (v := p.2) hS (fun k hk => .inl hk) hp
        (h.files.bytes p hpm) (h.files.mine p hpm) (fun q hq hne => h.files.apart p hpm q hq (fun e => hne e.symm)) rfl rfl (armed_next har h0)
        (by rw [← hfs]; exact (put_upd (t := PlainDisk.syncF) hF.inv.sorted (fun _ => rfl) hfind).symm))
      have HP := Lib.hid (fun (W : World) (h : At w W b mv D.gone ar (lfOf ar lf) D.room ps S) => put_files (nm := p.1.name) (PlainDisk.syncF p.1, p.2) rfl hA h.cells h.files.maps hnm hcl)
      dsimp only
      generalize ({ D with fs := PlainDisk.upd D.fs p.1.name PlainDisk.syncF, good := if 0 < D.good then D.good - 1 else D.good } : Disk) = D' at *
      clear hb hfl ho hfs k3 hpm hA
      go_enter Tryz.func162, Tryz.ntmps162
      go_wp2_with fail
      refine C1.out.mono ?_
      rintro e w1 ⟨rfl, hb1⟩
      have hat := (HAT.out.below hb1).alloc (.cells #[.slice A p.1.bytes.length c, .int .i64 (p.1.sure : Nat)] 100)
      have HAT2 := Lib.hid hat
      have hz1 := hb1.size
      clear hat
      go_wp2_with fail
      refine (HW.out _ HAT2.out).mono ?_
      rintro e w3 ⟨rfl, hw3, hat3⟩
      have hbox : w3.heap[w1.heap.size]? = some (.cells #[.slice A p.1.bytes.length c, .int .i64 (p.1.sure : Nat)] 100 (0, 0)) := by
        rw [hw3, armedW_other _ _ _ _ _ (by omega)]
        exact heap_alloc_new w1 _
      have a0 : w3.cell? ⟨w1.heap.size, 0, none⟩ = some (.slice A p.1.bytes.length c) := by rw [Lib.cell_of_heap hbox]; rfl
      have a1 : w3.cell? ⟨w1.heap.size, 1, none⟩ = some (.int .i64 (p.1.sure : Nat)) := by rw [Lib.cell_of_heap hbox]; rfl
      have f1 := Lib.frozen_of_heap hbox 1
      have HAT4 := Lib.hid (hat3.box hbox (by decide) (by decide) hz1 1 (.int .i64 (p.1.bytes.length : Nat)))
      clear hw3 hat3 hbox hb1
      go_wp2_with fail
      refine (HP.out _ HAT4.out).mono ?_
      rintro e w5 ⟨rfl, hput⟩
      have HK := Lib.hid (HT.out _ _ HAT4.out hput)
      clear hput
      go_wp2_with fail
      go_ret
      exact ⟨rfl, HK.out⟩
  · rw [sync_bad ho hc]
    have hfv : foundV D.gone nm (findV ps nm) = .agg #[.slice none 0 0, .int .i64 0] := if_neg hc
    rw [hfv] at C1
    dsimp only
    have hc0 : (findCode D.gone nm (findV ps nm) == 0) = false := beq_eq_false_iff_ne.2 hc
    generalize findCode D.gone nm (findV ps nm) = code at *
    clear hb hfl ho hfs
    go_enter Tryz.func162, Tryz.ntmps162
    go_wp2_with fail
    refine C1.out.mono ?_
    rintro e w1 ⟨rfl, hb1⟩
    have HB := Lib.hid hb1
    clear hb1
    go_wp2_with fail
    go_ret
    exact ⟨rfl, HD.out.stays.andBelow (HB.out.alloc HB.out.size _)⟩
end Go.Proofs.YtjcikhacekmcfaaGreatDoor
namespace Go.Proofs.YtjcikhacekmcfaaGreatDoor
set_option maxRecDepth 20000
open Go.RowKit
open PlainDisk (File Disk Left)
set_option linter.unusedVariables false

theorem drop_bad {D : Disk} {nm : List UInt8} {o : Option FV} (ho : o.map (·.1) = PlainDisk.find D.fs nm) (h : findCode D.gone nm o ≠ 0) : PlainDisk.dropA may D nm = (D, findCode D.gone nm o) := by
  unfold PlainDisk.dropA
  rcases find_bad ho h with ⟨h1, e⟩ | ⟨h1, h2, e⟩ | ⟨h1, h2, h3, e⟩
  · rw [if_pos h1, e]
  · rw [if_neg h1, if_pos h2, e]
  · rw [if_neg h1, if_neg h2, if_pos h3, e]
theorem drop_good {D : Disk} {nm : List UInt8} {o : Option FV} (ho : o.map (·.1) = PlainDisk.find D.fs nm) (h : findCode D.gone nm o = 0) : PlainDisk.dropA may D nm = PlainDisk.write D (PlainDisk.drop D.fs nm) D.fs := by
  obtain ⟨h1, h2, p, _, h3⟩ := find_good ho h
  unfold PlainDisk.dropA
  rw [if_neg h1, if_neg h2, if_neg (by rw [h3]; simp)]
theorem FilesAt.some {w : World} {mv : Option Nat} {ps : List FV} {S : Nat → Prop} (h : FilesAt w mv ps S) {p : FV} (hp : p ∈ ps) : ∃ m, mv = Option.some m ∧ MapAt w m ps := by
  rcases h.map with ⟨_, e⟩ | ⟨m, e, _, hm⟩
  · rw [e] at hp; cases hp
  · exact ⟨m, e, hm⟩
theorem At.map {w0 W : World} {b m : Nat} {gone ar : Bool} {lf : Int} {room : Nat} {ps : List FV} {S : Nat → Prop} (h : At w0 W b (some m) gone ar lf room ps S) : MapAt W m ps := by
  rcases h.files.map with ⟨e, _⟩ | ⟨m', e, _, hm⟩
  · cases e
  · injection e with e; subst e; exact hm
/-- behind a delete -/
theorem At.del {w0 W w' : World} {b m : Nat} {gone ar : Bool} {lf : Int} {room : Nat} {ps : List FV} {S : Nat → Prop} (h : At w0 W b (some m) gone ar lf room ps S) (nm : List UInt8) (hm : MapAt w' m (dropF nm ps)) (hg : W.grownBy w' (some m)) : At w0 w' b (some m) gone ar lf room (dropF nm ps) S := by
  have hmb := h.map
  have hne : m ≠ b := by
    rintro rfl
    obtain ⟨es, c, q⟩ := hmb.block
    have := h.cells
    rw [q] at this
    cases this
  have hSm : S m := by
    rcases h.files.map with ⟨e, _⟩ | ⟨m', e, hs, _⟩
    · cases e
    · injection e with e; subst e; exact hs
  exact ⟨(hg.block b (Array.getElem?_eq_some_iff.1 h.cells).1 (fun e => hne (by injection e with e; exact e.symm))).trans h.cells, h.files.del nm hm hg hmb, h.fr.grown hg (fun k hk => .inl (by cases hk; exact hSm))⟩

set_option maxHeartbeats 2000000 in
set_option maxRecDepth 100000 in
theorem drop_act (b : Nat) (nm : List UInt8) (D : Disk) (S : Nat → Prop) (w : World) (hd : DiskIs w b D S) (hF : Fine D) (hnm : nm.length ≤ 281474976710656) :
    Calls Tryz.prog 133 #[.pointer (some ⟨b, 0, none⟩), .string (str nm)] w fun e w' => e = .returned (.int .i64 (PlainDisk.dropA may D nm).2) ∧ DiskTo w w' b (PlainDisk.dropA may D nm).1 S := by
  have HD := Lib.hid hd
  obtain ⟨mv, ar, lf, ps, hb, hS, hfs, har, hfl⟩ := hd
  have C1 := Lib.hid (find_is nm hb hfl hnm)
  have ho : (findV ps nm).map (·.1) = PlainDisk.find D.fs nm := by rw [findV_fst, hfs]
  by_cases hc : findCode D.gone nm (findV ps nm) = 0
  · obtain ⟨hg, hm, p, hp, hfind⟩ := find_good ho hc
    rw [drop_good ho hc]
    have hfv : foundV D.gone nm (findV ps nm) = valAt (findV ps nm) := if_pos hc
    rw [hfv, hc, hp, valAt_some] at C1
    have hpm := findV_mem hp
    have hpn := findV_name hp
    obtain ⟨A, c, hA, k1, k2, k3⟩ := (hfl.bytes p hpm).slice
    rw [hA] at C1
    obtain ⟨m, rfl, hmap⟩ := hfl.some hpm
    have HAT := Lib.hid (show At w w b (some m) D.gone ar lf D.room ps S from ⟨hb, hfl, Fr.refl S w⟩)
    have HW := Lib.hid (fun (W : World) (h : At w W b (some m) D.gone ar lf D.room ps S) => write_at h hS har hF.good)
    unfold PlainDisk.write
    have hblt : b < w.heap.size := (Array.getElem?_eq_some_iff.1 hb).1
    by_cases h0 : D.good = 0
    · rw [if_pos h0]
      simp only [h0, if_true] at HW
      have HT := Lib.hid (fun (W : World) (h : At w W b (some m) true ar (lfOf ar lf) D.room ps S) => h.to (D' := { D with fs := D.fs, gone := true }) hS (fun k hk => .inl hk) rfl rfl (armed_stay har h0) hfs)
      dsimp only
      clear hb hfl ho hfs hA k3 hpm hmap
      go_enter Tryz.func133, Tryz.ntmps133
      go_wp2_with fail
      refine C1.out.mono ?_
      rintro e w1 ⟨rfl, hb1⟩
      have hat := (HAT.out.below hb1).alloc (.cells #[.slice A p.1.bytes.length c, .int .i64 (p.1.sure : Nat)] 100)
      have HAT2 := Lib.hid hat
      clear hat
      go_wp2_with fail
      refine (HW.out _ HAT2.out).mono ?_
      rintro e w3 ⟨rfl, -, hat3⟩
      have HK := Lib.hid (HT.out _ hat3)
      clear hat3
      go_wp2_with fail
      go_ret
      exact ⟨rfl, HK.out⟩
    · rw [if_neg h0]
      simp only [h0, if_false] at HW
      have HT := Lib.hid (fun (W : World) (h : At w W b (some m) D.gone ar (lfOf ar lf) D.room (dropF nm ps) S) => h.to (D' := { D with fs := PlainDisk.drop D.fs nm, good := if 0 < D.good then D.good - 1 else D.good }) hS (fun k hk => .inl hk) rfl rfl (armed_next har h0) (by rw [hfs, dropF_fst]))
      dsimp only
      generalize ({ D with fs := PlainDisk.drop D.fs nm, good := if 0 < D.good then D.good - 1 else D.good } : Disk) = D' at *
      clear hb hfl ho hfs k3 hpm hA hmap
      go_enter Tryz.func133, Tryz.ntmps133
      go_wp2_with fail
      refine C1.out.mono ?_
      rintro e w1 ⟨rfl, hb1⟩
      have hat := (HAT.out.below hb1).alloc (.cells #[.slice A p.1.bytes.length c, .int .i64 (p.1.sure : Nat)] 100)
      have HAT2 := Lib.hid hat
      clear hat
      go_wp2_with fail
      refine (HW.out _ HAT2.out).mono ?_
      rintro e w3 ⟨rfl, hw3, hat3⟩
      have c1 : w3.cell? ⟨b, 1, none⟩ = some (.map (some m)) := by rw [Lib.cell_of_heap hat3.cells]; rfl
      have hdel := hat3.map.del (nm := nm) (by rw [maxLen_is]; omega)
      obtain ⟨w4, hrun, hm4, hg4, -⟩ := hdel 0
      have HK := Lib.hid (HT.out _ (hat3.del nm hm4 hg4))
      clear hw3 hat3 hdel hm4 hg4
      go_wp2_with fail
      go_ret
      exact ⟨rfl, HK.out⟩
  · rw [drop_bad ho hc]
    have hfv : foundV D.gone nm (findV ps nm) = .agg #[.slice none 0 0, .int .i64 0] := if_neg hc
    rw [hfv] at C1
    dsimp only
    have hc0 : (findCode D.gone nm (findV ps nm) == 0) = false := beq_eq_false_iff_ne.2 hc
    generalize findCode D.gone nm (findV ps nm) = code at *
    clear hb hfl ho hfs
    go_enter Tryz.func133, Tryz.ntmps133
    go_wp2_with fail
    refine C1.out.mono ?_
    rintro e w1 ⟨rfl, hb1⟩
    have HB := Lib.hid hb1
    clear hb1
    go_wp2_with fail
    go_ret
    exact ⟨rfl, HD.out.stays.andBelow (HB.out.alloc HB.out.size _)⟩
end Go.Proofs.YtjcikhacekmcfaaGreatDoor
namespace Go.Proofs.YtjcikhacekmcfaaGreatDoor
set_option maxRecDepth 20000
open Go.RowKit
open PlainDisk (File Disk Left)
set_option linter.unusedVariables false

theorem bar_bad {gone : Bool} {nm : List UInt8} (h : barCode gone nm ≠ 0) : (gone = true ∧ barCode gone nm = 41) ∨ (¬ gone = true ∧ may nm = false ∧ barCode gone nm = 5) := by
  unfold barCode at *
  by_cases hg : gone = true
  · exact .inl ⟨hg, if_pos hg⟩
  rw [if_neg hg] at h ⊢
  by_cases hm : may nm = false
  · exact .inr ⟨hg, hm, if_pos hm⟩
  · rw [if_neg hm] at h; omega
theorem bar_good {gone : Bool} {nm : List UInt8} (h : barCode gone nm = 0) : ¬ gone = true ∧ ¬ may nm = false := by
  unfold barCode at h
  by_cases hg : gone = true
  · rw [if_pos hg] at h; omega
  rw [if_neg hg] at h
  by_cases hm : may nm = false
  · rw [if_pos hm] at h; omega
  exact ⟨hg, hm⟩
theorem move_to {D : Disk} {nm to : List UInt8} (h : barCode D.gone to ≠ 0) : PlainDisk.move may D nm to = (D, barCode D.gone to) := by
  unfold PlainDisk.move
  rcases bar_bad h with ⟨h1, e⟩ | ⟨h1, h2, e⟩
  · rw [if_pos h1, e]
  · rw [if_neg h1, if_pos (.inr h2), e]
theorem move_bad {D : Disk} {nm to : List UInt8} {o : Option FV} (hb : barCode D.gone to = 0) (ho : o.map (·.1) = PlainDisk.find D.fs nm) (h : findCode D.gone nm o ≠ 0) : PlainDisk.move may D nm to = (D, findCode D.gone nm o) := by
  obtain ⟨b1, b2⟩ := bar_good hb
  unfold PlainDisk.move
  rcases find_bad ho h with ⟨h1, e⟩ | ⟨h1, h2, e⟩ | ⟨h1, h2, h3, e⟩
  · exact absurd h1 b1
  · rw [if_neg h1, if_pos (.inl h2), e]
  · rw [if_neg h1, if_neg (fun q => q.elim h2 b2), h3, e]
theorem move_good {D : Disk} {nm to : List UInt8} {o : Option FV} {p : FV} (hb : barCode D.gone to = 0) (ho : o.map (·.1) = PlainDisk.find D.fs nm) (h : findCode D.gone nm o = 0) (hp : o = some p) : PlainDisk.move may D nm to = PlainDisk.write D (PlainDisk.moved D.fs p.1 nm to) D.fs := by
  obtain ⟨b1, b2⟩ := bar_good hb
  obtain ⟨h1, h2, p', e, h3⟩ := find_good ho h
  rw [hp] at e
  cases e
  unfold PlainDisk.move
  rw [if_neg h1, if_neg (fun q => q.elim h2 b2), h3]
set_option maxHeartbeats 2000000 in
set_option maxRecDepth 100000 in
theorem move_act (b : Nat) (nm to : List UInt8) (D : Disk) (S : Nat → Prop) (w : World) (hd : DiskIs w b D S) (hF : Fine D) (hnm : nm.length ≤ 281474976710656) (hto : to.length ≤ 281474976710656) :
    Calls Tryz.prog 163 #[.pointer (some ⟨b, 0, none⟩), .string (str nm), .string (str to)] w fun e w' => e = .returned (.int .i64 (PlainDisk.move may D nm to).2) ∧ DiskTo w w' b (PlainDisk.move may D nm to).1 S := by
  have HD := Lib.hid hd
  obtain ⟨mv, ar, lf, ps, hb, hS, hfs, har, hfl⟩ := hd
  have HAT := Lib.hid (show At w w b mv D.gone ar lf D.room ps S from ⟨hb, hfl, Fr.refl S w⟩)
  have C0 := Lib.hid (check_any to hb hto)
  have C1 := Lib.hid (fun (W : World) (h : At w W b mv D.gone ar lf D.room ps S) => find_is nm h.cells h.files hnm)
  have ho : (findV ps nm).map (·.1) = PlainDisk.find D.fs nm := by rw [findV_fst, hfs]
  have hblt : b < w.heap.size := (Array.getElem?_eq_some_iff.1 hb).1
  by_cases hbar : barCode D.gone to = 0
  · by_cases hc : findCode D.gone nm (findV ps nm) = 0
    · obtain ⟨hg, hm, p, hp, hfind⟩ := find_good ho hc
      rw [move_good hbar ho hc hp]
      have hfv : foundV D.gone nm (findV ps nm) = valAt (findV ps nm) := if_pos hc
      rw [hfv, hc, hp, valAt_some] at C1
      rw [hbar] at C0
      have hpm := findV_mem hp
      have hpn := findV_name hp
      obtain ⟨A, c, hA, k1, k2, k3⟩ := (hfl.bytes p hpm).slice
      rw [hA] at C1
      obtain ⟨m, rfl, hmap⟩ := hfl.some hpm
      have hcl : ps.length ≤ 1000 := by have := hF.inv.many; rw [hfs, List.length_map] at this; omega
      have HW := Lib.hid (fun (W : World) (h : At w W b (some m) D.gone ar lf D.room ps S) => write_at h hS har hF.good)
      unfold PlainDisk.write
      by_cases h0 : D.good = 0
      · rw [if_pos h0]
        simp only [h0, if_true] at HW
        have HT := Lib.hid (fun (W : World) (h : At w W b (some m) true ar (lfOf ar lf) D.room ps S) => h.to (D' := { D with fs := D.fs, gone := true }) hS (fun k hk => .inl hk) rfl rfl (armed_stay har h0) hfs)
        dsimp only
        clear hb hfl ho hfs hA k3 hpm hmap
        go_enter Tryz.func163, Tryz.ntmps163
        go_wp2_with fail
        refine C0.out.mono ?_
        rintro e w0 ⟨rfl, hb0⟩
        have HAT0 := Lib.hid (HAT.out.below hb0)
        clear hb0
        go_wp2_with fail
        refine (C1.out _ HAT0.out).mono ?_
        rintro e w1 ⟨rfl, hb1⟩
        have hat := (HAT0.out.below hb1).alloc (.cells #[.slice A p.1.bytes.length c, .int .i64 (p.1.sure : Nat)] 100)
        have HAT2 := Lib.hid hat
        clear hat hb1
        go_wp2_with fail
        refine (HW.out _ HAT2.out).mono ?_
        rintro e w3 ⟨rfl, -, hat3⟩
        have HK := Lib.hid (HT.out _ hat3)
        clear hat3
        go_wp2_with fail
        go_ret
        exact ⟨rfl, HK.out⟩
      · rw [if_neg h0]
        simp only [h0, if_false] at HW
        have hap : ∀ q ∈ dropF nm ps, q.1.name ≠ to → p.2.ownBlock = none ∨ p.2.ownBlock ≠ q.2.ownBlock := fun q hq _ => hfl.apart p hpm q (mem_dropF hq) (by
          have : q.1 ∈ PlainDisk.drop (ps.map (·.1)) nm := by rw [← dropF_fst]; exact List.mem_map_of_mem hq
          rw [hpn]
          exact fun e => (PlainDisk.mem_drop.1 this).2 e.symm)
        have HT := Lib.hid (fun (W w' : World) (h : At w W b (some m) D.gone ar (lfOf ar lf) D.room (dropF nm ps) S) (hv : OwnB W 0 p.2 p.1.bytes) hput => h.put (D' := { D with fs := PlainDisk.moved D.fs p.1 nm to, good := if 0 < D.good then D.good - 1 else D.good }) (w' := w') (f := { p.1 with name := to }) (v := p.2) hS (fun k hk => .inl hk) hput
          hv (hfl.mine p hpm) hap rfl rfl (armed_next har h0) (by rw [hfs, dropF_fst]; rfl))
        have HP := Lib.hid (fun (W : World) (h : At w W b (some m) D.gone ar (lfOf ar lf) D.room (dropF nm ps) S) => put_files (nm := to) ({ p.1 with name := to }, p.2) rfl hA h.cells h.files.maps hto (Nat.le_trans (dropF_len nm ps) hcl))
        dsimp only
        generalize ({ D with fs := PlainDisk.moved D.fs p.1 nm to, good := if 0 < D.good then D.good - 1 else D.good } : Disk) = D' at *
        have HPM := Lib.hid hpm
        clear hb hfl ho hfs k3 hA hmap hap hpm
        go_enter Tryz.func163, Tryz.ntmps163
        go_wp2_with fail
        refine C0.out.mono ?_
        rintro e w0 ⟨rfl, hb0⟩
        have HAT0 := Lib.hid (HAT.out.below hb0)
        have hz0 := hb0.size
        clear hb0
        go_wp2_with fail
        refine (C1.out _ HAT0.out).mono ?_
        rintro e w1 ⟨rfl, hb1⟩
        have hat := (HAT0.out.below hb1).alloc (.cells #[.slice A p.1.bytes.length c, .int .i64 (p.1.sure : Nat)] 100)
        have HAT2 := Lib.hid hat
        have hz1 := hb1.size
        clear hat hb1
        go_wp2_with fail
        refine (HW.out _ HAT2.out).mono ?_
        rintro e w3 ⟨rfl, hw3, hat3⟩
        have hbox : w3.heap[w1.heap.size]? = some (.cells #[.slice A p.1.bytes.length c, .int .i64 (p.1.sure : Nat)] 100 (0, 0)) := by
          rw [hw3, armedW_other _ _ _ _ _ (by omega)]
          exact heap_alloc_new w1 _
        have c1 : w3.cell? ⟨b, 1, none⟩ = some (.map (some m)) := by rw [Lib.cell_of_heap hat3.cells]; rfl
        obtain ⟨w4, hrun, hm4, hg4, -⟩ := hat3.map.del (nm := nm) (by rw [maxLen_is]; omega) 0
        have hnm2 : m ≠ w1.heap.size := by
          rintro rfl
          obtain ⟨es, cc, q⟩ := hat3.map.block
          rw [hbox] at q
          cases q
        have hbox4 : w4.heap[w1.heap.size]? = some (.cells #[.slice A p.1.bytes.length c, .int .i64 (p.1.sure : Nat)] 100 (0, 0)) :=
          (hg4.block _ (Array.getElem?_eq_some_iff.1 hbox).1 (fun e => hnm2 (by injection e with e; exact e.symm))).trans hbox
        have a0 : w4.cell? ⟨w1.heap.size, 0, none⟩ = some (.slice A p.1.bytes.length c) := by rw [Lib.cell_of_heap hbox4]; rfl
        have a1 : w4.cell? ⟨w1.heap.size, 1, none⟩ = some (.int .i64 (p.1.sure : Nat)) := by rw [Lib.cell_of_heap hbox4]; rfl
        have hv3 := hat3.files.bytes p HPM.out
        have HV := Lib.hid (hv3.keep (w' := w4) fun g hg => by
          obtain ⟨cs, q⟩ := hv3.block hg
          refine hg4.block g (Array.getElem?_eq_some_iff.1 q).1 ?_
          intro e
          injection e with e
          subst e
          obtain ⟨es, cc, q2⟩ := hat3.map.block
          rw [q] at q2
          cases q2)
        have HAT4 := Lib.hid (hat3.del nm hm4 hg4)
        clear hw3 hat3 hbox hm4 hg4 hbox4 hv3 hnm2
        go_wp2_with fail
        refine (HP.out _ HAT4.out).mono ?_
        rintro e w5 ⟨rfl, hput⟩
        have HK := Lib.hid (HT.out _ _ HAT4.out HV.out hput)
        clear hput
        go_wp2_with fail
        go_ret
        exact ⟨rfl, HK.out⟩
    · rw [move_bad hbar ho hc]
      have hfv : foundV D.gone nm (findV ps nm) = .agg #[.slice none 0 0, .int .i64 0] := if_neg hc
      rw [hfv] at C1
      rw [hbar] at C0
      dsimp only
      have hc0 : (findCode D.gone nm (findV ps nm) == 0) = false := beq_eq_false_iff_ne.2 hc
      generalize findCode D.gone nm (findV ps nm) = code at *
      clear hb hfl ho hfs
      go_enter Tryz.func163, Tryz.ntmps163
      go_wp2_with fail
      refine C0.out.mono ?_
      rintro e w0 ⟨rfl, hb0⟩
      have HAT0 := Lib.hid (HAT.out.below hb0)
      have HB0 := Lib.hid hb0
      clear hb0
      go_wp2_with fail
      refine (C1.out _ HAT0.out).mono ?_
      rintro e w1 ⟨rfl, hb1⟩
      have HB := Lib.hid hb1
      clear hb1
      go_wp2_with fail
      go_ret
      exact ⟨rfl, (HD.out.stays.andBelow HB0.out).andBelow (HB.out.alloc HB.out.size _)⟩
  · rw [move_to hbar]
    dsimp only
    have hc0 : (barCode D.gone to == 0) = false := beq_eq_false_iff_ne.2 hbar
    generalize barCode D.gone to = code at *
    clear hb hfl ho hfs
    go_enter Tryz.func163, Tryz.ntmps163
    go_wp2_with fail
    refine C0.out.mono ?_
    rintro e w0 ⟨rfl, hb0⟩
    have HB0 := Lib.hid hb0
    clear hb0
    go_wp2_with fail
    go_ret
    exact ⟨rfl, HD.out.stays.andBelow HB0.out⟩
end Go.Proofs.YtjcikhacekmcfaaGreatDoor
namespace Go.Proofs.YtjcikhacekmcfaaGreatDoor
set_option maxRecDepth 20000
open Go.RowKit
open PlainDisk (File Disk Left)
set_option linter.unusedVariables false

abbrev C2 (W : World) (g : Nat) (u v : Value) : Prop := W.cell? ⟨g, 0, none⟩ = some u ∧ W.cell? ⟨g, 1, none⟩ = some v
theorem C2.keep {W W' : World} {g n : Nat} {u v : Value} (h : C2 W g u v) (hb : Below n W W') (hp : g < n) : C2 W' g u v :=
  ⟨(hb.cell (p := ⟨g, 0, none⟩) hp).trans h.1, (hb.cell (p := ⟨g, 1, none⟩) hp).trans h.2⟩
theorem heap_two (W : World) (b : Nat) (x y : Value) (j : Nat) (h : j ≠ b) : ((W.setCell ⟨b, 0, none⟩ x).setCell ⟨b, 1, none⟩ y).heap[j]? = W.heap[j]? :=
  (Below.heap_setCell _ _ _ _ h).trans (Below.heap_setCell _ _ _ _ h)
theorem C2.two {W : World} {g b : Nat} {u v : Value} (h : C2 W g u v) (hne : g ≠ b) (x y : Value) : C2 ((W.setCell ⟨b, 0, none⟩ x).setCell ⟨b, 1, none⟩ y) g u v :=
  ⟨(World.cell?_of_block (w := W) (heap_two W b x y g hne)).trans h.1, (World.cell?_of_block (w := W) (heap_two W b x y g hne)).trans h.2⟩
theorem OwnB.two {W : World} {base b : Nat} {v : Value} {l : List UInt8} (h : OwnB W base v l) {cs : Array Value} {t : TypeId} {fz : Nat × Nat} (hb : W.heap[b]? = some (.cells cs t fz)) (ht : t ≠ 5) (x y : Value) : OwnB ((W.setCell ⟨b, 0, none⟩ x).setCell ⟨b, 1, none⟩ y) base v l :=
  h.keep fun g hg => by
    refine heap_two W b x y g ?_
    rintro rfl
    obtain ⟨cs', q⟩ := h.block hg
    rw [hb] at q
    injection q with q
    injection q with _ e
    exact ht e
theorem OwnB.base {w : World} {B B' : Nat} {v : Value} {l : List UInt8} (h : OwnB w B v l) (hB : B' ≤ B) : OwnB w B' v l := by
  refine ⟨h.1, ?_⟩
  rcases h.2 with q | ⟨g, cap, cur, e, hq, r⟩
  · exact .inl q
  · exact .inr ⟨g, cap, cur, e, Nat.le_trans hB hq, r⟩
theorem build71 (A : Option Addr) (n c : Nat) (x : Int) (w : World) : (Instr.build 100 #[(0, .slice A n c), (1, .int .i64 x)]).run Tryz.prog w = .ok (.agg #[.slice A n c, .int .i64 x]) w := run_build w 100 _ _ (by kernel_rfl)
theorem box_at (w : World) (u v : Value) (t : TypeId) : C2 (w.alloc (.cells #[u, v] t)) w.heap.size u v := by refine ⟨?_, ?_⟩ <;> simp [go_sem]
theorem clone_sl (A : Option Addr) (c : Nat) (bs : List UInt8) (w : World) (hL : Lies w A c bs) (hc : bs.length ≤ c) (hn : bs.length ≤ 1048576) :
    Calls Tryz.prog 111 #[.slice A bs.length c] w fun e w' => ∃ A2 c2, e = .returned (.slice A2 bs.length c2) ∧ OwnB w' w.heap.size (.slice A2 bs.length c2) bs ∧ Below w.heap.size w w' := by
  refine (clone_any A c bs w hL hc hn).mono ?_
  rintro e w' ⟨v, rfl, hown, hb⟩
  obtain ⟨A2, c2, rfl, _⟩ := hown.slice
  exact ⟨A2, c2, rfl, hown, hb⟩
set_option maxHeartbeats 1000000 in
set_option maxRecDepth 100000 in
/-- the first bytes, copied -/
theorem first_any (A : Option Addr) (c k su : Nat) (bs : List UInt8) (w : World) (hL : Lies w A c bs) (hc : bs.length ≤ c) (hc2 : c ≤ 9223372036854775807) (hn : bs.length ≤ 1048576) (hk : k ≤ bs.length) (hs : su ≤ 1048576) :
    Calls Tryz.prog 102 #[.agg #[.slice A bs.length c, .int .i64 (su : Nat)], .int .i64 (k : Nat)] w fun e w' => ∃ v, e = .returned (.agg #[v, .int .i64 (min su k : Nat)]) ∧ OwnB w' w.heap.size v (bs.take k) ∧ Below w.heap.size w w' := by
  have hlen : (bs.take k).length = k := by rw [List.length_take]; omega
  have hbld := build71
  have K : C2 ((w.alloc (.cells #[.slice A bs.length c, .int .i64 (su : Nat)] 100)).alloc (.cells #[.slice none 0 0, .int .i64 0] 100)) w.heap.size (.slice A bs.length c) (.int .i64 (su : Nat)) :=
    (box_at w _ _ 100).keep ((Below.refl _ _).alloc (Nat.le_refl _) _) (by simp)
  have M : ((w.alloc (.cells #[.slice A bs.length c, .int .i64 (su : Nat)] 100)).alloc (.cells #[.slice none 0 0, .int .i64 0] 100)).heap[w.heap.size + 1]? = some (.cells #[.slice none 0 0, .int .i64 0] 100 (0, 0)) := by
    have := heap_alloc_new (w.alloc (.cells #[.slice A bs.length c, .int .i64 (su : Nat)] 100)) (.cells #[.slice none 0 0, .int .i64 0] 100)
    simpa using this
  have B : Below w.heap.size w ((w.alloc (.cells #[.slice A bs.length c, .int .i64 (su : Nat)] 100)).alloc (.cells #[.slice none 0 0, .int .i64 0] 100)) := ((Below.refl _ _).alloc (Nat.le_refl _) _).alloc (by simp) _
  have hz : ((w.alloc (.cells #[.slice A bs.length c, .int .i64 (su : Nat)] 100)).alloc (.cells #[.slice none 0 0, .int .i64 0] 100)).heap.size = w.heap.size + 2 := by simp
  have HL := Lib.hid hL
  have hk0 : (0 : Int) ≤ (k : Int) := by omega
  have hk1 : (k : Int) ≤ (c : Int) := by omega
  have hk2 : (k : Int) ≤ (bs.length : Int) := by omega
  clear hL
  by_cases hlt : k < su
  · rw [Nat.min_eq_right (Nat.le_of_lt hlt)]
    have hlt' : (k : Int) < (su : Int) := by omega
    go_enter Tryz.func102, Tryz.ntmps102
    go_wp2_with fail
    generalize ((w.alloc (.cells #[.slice A bs.length c, .int .i64 (su : Nat)] 100)).alloc (.cells #[.slice none 0 0, .int .i64 0] 100)) = W0 at *
    have K0 := Lib.hid K
    have M0 := Lib.hid M
    have B0 := Lib.hid B
    have Z0 := Lib.hid hz
    have e1 : C2 W0.drew w.heap.size (.slice A bs.length c) (.int .i64 (su : Nat)) := K
    have D0 : Hid (Below W0.heap.size W0 W0.drew) := Lib.hid (Below.refl _ W0).drew
    have CP := Lib.hid fun (W : World) (h : Below W0.heap.size W0 W) => clone_sl A c (bs.take k) W
      (by
        have q : Lies W A c bs := (HL.out.keep fun j hj => B0.out.block j hj).keep fun j hj => h.block j hj
        refine ⟨q.1, fun hne => ?_⟩
        obtain ⟨b', off, q1, q2⟩ := q.2 (fun e => hne (by rw [e]; simp))
        refine ⟨b', off, q1, fun j u hu => q2 j u ?_⟩
        rw [List.getElem?_take] at hu
        split at hu
        · exact hu
        · cases hu) (by rw [hlen]; omega) (by rw [hlen]; omega)
    rw [hlen] at CP
    have KS := Lib.hid fun (W : World) (h : Below W0.heap.size W0 W) => C2.keep K0.out h (by have := Z0.out; omega)
    have MS := Lib.hid fun (W : World) (h : Below W0.heap.size W0 W) => (h.block (w.heap.size + 1) (by have := Z0.out; omega)).trans M0.out
    clear K M B hz
    go_region_held3 (fun W => C2 W w.heap.size (.slice A bs.length c) (.int .i64 (su : Nat))) (first | exact e1 | exact f1 | exact f1.two (by omega) _ _)
      ((go_at_call 111; (with_reducible refine (CP.out _ D0.out).mono ?_); rintro e w8 ⟨A2, c2, rfl, hown, hb1⟩; have B1 : Hid (Below W0.heap.size W0 w8) := Lib.hid (D0.out.trans hb1); clear hb1; have f1 := KS.out _ B1.out; have m0 : w8.cell? ⟨w.heap.size + 1, 0, none⟩ = some (.slice none 0 0) := Eq.trans (Lib.cell_of_heap (MS.out _ B1.out) _) rfl; have m1 : w8.cell? ⟨w.heap.size + 1, 1, none⟩ = some (.int .i64 0) := Eq.trans (Lib.cell_of_heap (MS.out _ B1.out) _) rfl; have mf0 := Lib.frozen_of_heap (MS.out _ B1.out) 0; have mf1 := Lib.frozen_of_heap (MS.out _ B1.out) 1; have HO := Lib.hid hown; clear hown))
    all_goals
      go_wp2_with fail
      refine bodyPost_ret (v := .agg #[.slice A2 k c2, .int .i64 (k : Nat)]) (by simp [results, Tryz.results102, go_sem, m0, m1] <;> omega) rfl ?_
      exact ⟨_, rfl, (HO.out.base (by have := Z0.out; show w.heap.size ≤ W0.heap.size; omega)).two (MS.out _ B1.out) (by decide) _ _, ((B0.out.trans (B1.out.mono (by have := Z0.out; omega))).setCell (p := ⟨w.heap.size + 1, 0, none⟩) (by show w.heap.size ≤ w.heap.size + 1; omega) _).setCell (p := ⟨w.heap.size + 1, 1, none⟩) (by show w.heap.size ≤ w.heap.size + 1; omega) _⟩

  · rw [Nat.min_eq_left (Nat.le_of_not_lt hlt)]
    have hlt' : (su : Int) ≤ (k : Int) := by omega
    go_enter Tryz.func102, Tryz.ntmps102
    go_wp2_with fail
    generalize ((w.alloc (.cells #[.slice A bs.length c, .int .i64 (su : Nat)] 100)).alloc (.cells #[.slice none 0 0, .int .i64 0] 100)) = W0 at *
    have K0 := Lib.hid K
    have M0 := Lib.hid M
    have B0 := Lib.hid B
    have Z0 := Lib.hid hz
    have e1 : C2 W0.drew w.heap.size (.slice A bs.length c) (.int .i64 (su : Nat)) := K
    have D0 : Hid (Below W0.heap.size W0 W0.drew) := Lib.hid (Below.refl _ W0).drew
    have CP := Lib.hid fun (W : World) (h : Below W0.heap.size W0 W) => clone_sl A c (bs.take k) W
      (by
        have q : Lies W A c bs := (HL.out.keep fun j hj => B0.out.block j hj).keep fun j hj => h.block j hj
        refine ⟨q.1, fun hne => ?_⟩
        obtain ⟨b', off, q1, q2⟩ := q.2 (fun e => hne (by rw [e]; simp))
        refine ⟨b', off, q1, fun j u hu => q2 j u ?_⟩
        rw [List.getElem?_take] at hu
        split at hu
        · exact hu
        · cases hu) (by rw [hlen]; omega) (by rw [hlen]; omega)
    rw [hlen] at CP
    have KS := Lib.hid fun (W : World) (h : Below W0.heap.size W0 W) => C2.keep K0.out h (by have := Z0.out; omega)
    have MS := Lib.hid fun (W : World) (h : Below W0.heap.size W0 W) => (h.block (w.heap.size + 1) (by have := Z0.out; omega)).trans M0.out
    clear K M B hz
    go_region_held3 (fun W => C2 W w.heap.size (.slice A bs.length c) (.int .i64 (su : Nat))) (first | exact e1 | exact f1 | exact f1.two (by omega) _ _)
      ((go_at_call 111; (with_reducible refine (CP.out _ D0.out).mono ?_); rintro e w8 ⟨A2, c2, rfl, hown, hb1⟩; have B1 : Hid (Below W0.heap.size W0 w8) := Lib.hid (D0.out.trans hb1); clear hb1; have f1 := KS.out _ B1.out; have m0 : w8.cell? ⟨w.heap.size + 1, 0, none⟩ = some (.slice none 0 0) := Eq.trans (Lib.cell_of_heap (MS.out _ B1.out) _) rfl; have m1 : w8.cell? ⟨w.heap.size + 1, 1, none⟩ = some (.int .i64 0) := Eq.trans (Lib.cell_of_heap (MS.out _ B1.out) _) rfl; have mf0 := Lib.frozen_of_heap (MS.out _ B1.out) 0; have mf1 := Lib.frozen_of_heap (MS.out _ B1.out) 1; have HO := Lib.hid hown; clear hown))
    all_goals
      go_wp2_with fail
      refine bodyPost_ret (v := .agg #[.slice A2 k c2, .int .i64 (su : Nat)]) (by simp [results, Tryz.results102, go_sem, m0, m1] <;> omega) rfl ?_
      exact ⟨_, rfl, (HO.out.base (by have := Z0.out; show w.heap.size ≤ W0.heap.size; omega)).two (MS.out _ B1.out) (by decide) _ _, ((B0.out.trans (B1.out.mono (by have := Z0.out; omega))).setCell (p := ⟨w.heap.size + 1, 0, none⟩) (by show w.heap.size ≤ w.heap.size + 1; omega) _).setCell (p := ⟨w.heap.size + 1, 1, none⟩) (by show w.heap.size ≤ w.heap.size + 1; omega) _⟩

end Go.Proofs.YtjcikhacekmcfaaGreatDoor
namespace Go.Proofs.YtjcikhacekmcfaaGreatDoor
set_option maxRecDepth 20000
open Go.RowKit
open PlainDisk (File Disk Left)
set_option linter.unusedVariables false

theorem used_ge {fs : List File} {f : File} (h : f ∈ fs) : f.bytes.length ≤ PlainDisk.used fs := by
  induction fs with
  | nil => cases h
  | cons g r ih =>
    rw [PlainDisk.used_cons]
    rcases List.mem_cons.1 h with rfl | h
    · omega
    · have := ih h; omega
theorem Fine.small {D : Disk} (hF : Fine D) {f : File} (h : f ∈ D.fs) : f.bytes.length ≤ 1048576 ∧ f.sure ≤ f.bytes.length := by
  have h1 := used_ge h
  have h2 := hF.inv.room
  have h3 := hF.room
  exact ⟨by omega, hF.inv.sure f h⟩
theorem At.fresh {w0 W W' : World} {b : Nat} {mv : Option Nat} {gone ar : Bool} {lf : Int} {room : Nat} {ps : List FV} {S : Nat → Prop} {v : Value} {l : List UInt8} (h : At w0 W b mv gone ar lf room ps S) (hv : OwnB W' W.heap.size v l) :
    ∀ q ∈ ps, v.ownBlock = none ∨ v.ownBlock ≠ q.2.ownBlock := by
  intro q hq
  cases e : v.ownBlock with
  | none => exact .inl rfl
  | some g =>
    refine .inr fun e2 => ?_
    have h1 := (hv.lt g e).1
    have h2 := ((h.files.bytes q hq).lt g e2.symm).2
    omega
theorem cut_bad {D : Disk} {nm : List UInt8} {n : Int} {o : Option FV} (ho : o.map (·.1) = PlainDisk.find D.fs nm) (h : findCode D.gone nm o ≠ 0) : PlainDisk.cut may D nm n = (D, findCode D.gone nm o) := by
  unfold PlainDisk.cut
  rcases find_bad ho h with ⟨h1, e⟩ | ⟨h1, h2, e⟩ | ⟨h1, h2, h3, e⟩
  · rw [if_pos h1, e]
  · rw [if_neg h1, if_pos h2, e]
  · rw [if_neg h1, if_neg h2, h3, e]
theorem cut_good {D : Disk} {nm : List UInt8} {n : Int} {o : Option FV} {p : FV} (ho : o.map (·.1) = PlainDisk.find D.fs nm) (h : findCode D.gone nm o = 0) (hp : o = some p) :
    PlainDisk.cut may D nm n = if n < 0 ∨ (p.1.bytes.length : Int) < n then (D, 2) else PlainDisk.write D (PlainDisk.upd D.fs nm (PlainDisk.cutF n.toNat)) D.fs := by
  obtain ⟨h1, h2, p', e, h3⟩ := find_good ho h
  rw [hp] at e
  cases e
  unfold PlainDisk.cut
  rw [if_neg h1, if_neg h2, h3]
set_option maxHeartbeats 2000000 in
set_option maxRecDepth 100000 in
theorem cut_act (b : Nat) (nm : List UInt8) (n : Int) (D : Disk) (S : Nat → Prop) (w : World) (hd : DiskIs w b D S) (hF : Fine D) (hnm : nm.length ≤ 281474976710656) (n0 : -9223372036854775808 ≤ n) (n1 : n ≤ 9223372036854775807) :
    Calls Tryz.prog 135 #[.pointer (some ⟨b, 0, none⟩), .string (str nm), .int .i64 n] w fun e w' => e = .returned (.int .i64 (PlainDisk.cut may D nm n).2) ∧ DiskTo w w' b (PlainDisk.cut may D nm n).1 S := by
  have HD := Lib.hid hd
  obtain ⟨mv, ar, lf, ps, hb, hS, hfs, har, hfl⟩ := hd
  have C1 := Lib.hid (find_is nm hb hfl hnm)
  have ho : (findV ps nm).map (·.1) = PlainDisk.find D.fs nm := by rw [findV_fst, hfs]
  by_cases hc : findCode D.gone nm (findV ps nm) = 0
  · obtain ⟨hg, hm, p, hp, hfind⟩ := find_good ho hc
    rw [cut_good ho hc hp]
    have hfv : foundV D.gone nm (findV ps nm) = valAt (findV ps nm) := if_pos hc
    rw [hfv, hc, hp, valAt_some] at C1
    have hpm := findV_mem hp
    have hpn := findV_name hp
    subst hpn
    obtain ⟨A, c, hA, k1, k2, k3⟩ := (hfl.bytes p hpm).slice
    rw [hA] at C1
    obtain ⟨z1, z2⟩ := hF.small (f := p.1) (by rw [hfs]; exact List.mem_map_of_mem hpm)
    have HAT := Lib.hid (show At w w b mv D.gone ar lf D.room ps S from ⟨hb, hfl, Fr.refl S w⟩)
    have hcl : ps.length ≤ 1000 := by have := hF.inv.many; rw [hfs, List.length_map] at this; omega
    by_cases hr : n < 0 ∨ (p.1.bytes.length : Int) < n
    · rw [if_pos hr]
      dsimp only
      clear hb hfl ho hfs hA k3 hpm
      have hbs : (p.1.bytes.length : Int) ≤ 1048576 := by omega
      have hr2 : n < 0 ∨ (0 ≤ n ∧ (p.1.bytes.length : Int) < n) := by omega
      rcases hr2 with hr2 | ⟨hr2, hr3⟩
      all_goals
        go_enter Tryz.func135, Tryz.ntmps135
        go_wp2_with fail
        refine C1.out.mono ?_
        rintro e w1 ⟨rfl, hb1⟩
        have HB := Lib.hid hb1
        clear hb1
        go_wp2_with fail
        go_ret
        exact ⟨rfl, HD.out.stays.andBelow (HB.out.alloc HB.out.size _)⟩
    rw [if_neg hr]
    obtain ⟨k, rfl⟩ : ∃ k : Nat, n = (k : Int) := ⟨n.toNat, by omega⟩
    have hkb : k ≤ p.1.bytes.length := by omega
    have hkb2 : (k : Int) ≤ (p.1.bytes.length : Int) := by omega
    have hk0 : (0 : Int) ≤ (k : Int) := by omega
    rw [Int.toNat_natCast]
    have HW := Lib.hid (fun (W : World) (h : At w W b mv D.gone ar lf D.room ps S) => write_at h hS har hF.good)
    unfold PlainDisk.write
    have hblt : b < w.heap.size := (Array.getElem?_eq_some_iff.1 hb).1
    by_cases h0 : D.good = 0
    · rw [if_pos h0]
      simp only [h0, if_true] at HW
      have HT := Lib.hid (fun (W : World) (h : At w W b mv true ar (lfOf ar lf) D.room ps S) => h.to (D' := { D with fs := D.fs, gone := true }) hS (fun k hk => .inl hk) rfl rfl (armed_stay har h0) hfs)
      dsimp only
      clear hb hfl ho hfs hA k3 hpm hr
      go_enter Tryz.func135, Tryz.ntmps135
      go_wp2_with fail
      refine C1.out.mono ?_
      rintro e w1 ⟨rfl, hb1⟩
      have hat := (HAT.out.below hb1).alloc (.cells #[.slice A p.1.bytes.length c, .int .i64 (p.1.sure : Nat)] 100)
      have HAT2 := Lib.hid hat
      clear hat
      go_wp2_with fail
      refine (HW.out _ HAT2.out).mono ?_
      rintro e w3 ⟨rfl, -, hat3⟩
      have HK := Lib.hid (HT.out _ hat3)
      clear hat3
      go_wp2_with fail
      go_ret
      exact ⟨rfl, HK.out⟩
    · rw [if_neg h0]
      simp only [h0, if_false] at HW
      have HT := Lib.hid (fun (W w' : World) (v : Value) (S' : Nat → Prop) (h : At w W b mv D.gone ar (lfOf ar lf) D.room ps S') (hS' : S' b) (hu : ∀ k, S' k → Up S w W k) (hv : OwnB W 0 v (PlainDisk.cutF k p.1).bytes) (hmine : ∀ g, v.ownBlock = some g → S' g) (hap : ∀ q ∈ ps, v.ownBlock = none ∨ v.ownBlock ≠ q.2.ownBlock) hput =>
        h.put (D' := { D with fs := PlainDisk.upd D.fs p.1.name (PlainDisk.cutF k), good := if 0 < D.good then D.good - 1 else D.good }) (w' := w') (f := PlainDisk.cutF k p.1) (v := v) hS' hu hput
        hv hmine (fun q hq _ => hap q hq) rfl rfl (armed_next har h0) (by rw [← hfs]; exact (put_upd (t := PlainDisk.cutF k) hF.inv.sorted (fun _ => rfl) hfind).symm))
      have HP := Lib.hid (fun (W : World) (S' : Nat → Prop) (h : At w W b mv D.gone ar (lfOf ar lf) D.room ps S') (A2 : Option Addr) (c2 : Nat) => put_files (nm := p.1.name) (PlainDisk.cutF k p.1, .slice A2 k c2) rfl rfl h.cells h.files.maps hnm hcl)
      have HSB := Lib.hid hS
      have HFI := Lib.hid (fun (W : World) (h : At w W b mv D.gone ar (lfOf ar lf) D.room ps S) => by
        obtain ⟨A', c', e', _, _, k3'⟩ := (h.files.bytes p hpm).slice
        rw [hA] at e'
        obtain ⟨rfl, rfl⟩ : A = A' ∧ c = c' := by injection e' with e1 e2 e3; exact ⟨e1, e3⟩
        exact first_any A c k p.1.sure p.1.bytes W k3' k1 k2 z1 hkb (by omega))
      have hmc : (PlainDisk.cutF k p.1).sure = min p.1.sure k := rfl
      simp only [hmc] at HP
      have htk : (PlainDisk.cutF k p.1).bytes = p.1.bytes.take k := rfl
      have hlen : (p.1.bytes.take k).length = k := by rw [List.length_take]; omega
      have HLN := Lib.hid hlen
      dsimp only
      generalize ({ D with fs := PlainDisk.upd D.fs p.1.name (PlainDisk.cutF k), good := if 0 < D.good then D.good - 1 else D.good } : Disk) = D' at *
      clear hb hfl ho hfs k3 hpm hA hr hmc htk hlen
      go_enter Tryz.func135, Tryz.ntmps135
      go_wp2_with fail
      refine C1.out.mono ?_
      rintro e w1 ⟨rfl, hb1⟩
      have hat := (HAT.out.below hb1).alloc (.cells #[.slice A p.1.bytes.length c, .int .i64 (p.1.sure : Nat)] 100)
      have HAT2 := Lib.hid hat
      have hz1 := hb1.size
      clear hat
      go_wp2_with fail
      refine (HW.out _ HAT2.out).mono ?_
      rintro e w3 ⟨rfl, hw3, hat3⟩
      have hbox : w3.heap[w1.heap.size]? = some (.cells #[.slice A p.1.bytes.length c, .int .i64 (p.1.sure : Nat)] 100 (0, 0)) := by
        rw [hw3, armedW_other _ _ _ _ _ (by omega)]
        exact heap_alloc_new w1 _
      have a0 : w3.cell? ⟨w1.heap.size, 0, none⟩ = some (.slice A p.1.bytes.length c) := by rw [Lib.cell_of_heap hbox]; rfl
      have a1 : w3.cell? ⟨w1.heap.size, 1, none⟩ = some (.int .i64 (p.1.sure : Nat)) := by rw [Lib.cell_of_heap hbox]; rfl
      have HAT3 := Lib.hid hat3
      have HF1 := Lib.hid (HFI.out w3 hat3)
      clear hw3 hat3 hbox hb1
      go_wp2_with fail
      refine HF1.out.mono ?_
      rintro e w4 ⟨v, rfl, hown, hb4⟩
      obtain ⟨A2, c2, hv2, _⟩ := hown.slice
      rw [HLN.out] at hv2
      subst hv2
      have hat4 := (HAT3.out.below hb4).mono (S' := Up S w w4) (fun k hk => .inl hk)
      have hz4 := hat4.fr.size
      have hz3 := HAT3.out.fr.size
      have HK4 := Lib.hid (fun w' hput => HT.out w4 w' _ _ hat4 (.inl HSB.out) (fun k hk => hk) hown.zero (fun g hg => .inr ⟨by have := (hown.lt g hg).1; omega, (hown.lt g hg).2⟩) (HAT3.out.fresh hown) hput)
      have HP4 := Lib.hid (HP.out w4 _ hat4 A2 c2)
      clear hat4 hown hb4 hz4 hz3
      go_wp2_with fail
      refine HP4.out.mono ?_
      rintro e w5 ⟨rfl, hput⟩
      have HK := Lib.hid (HK4.out w5 hput)
      clear hput
      go_wp2_with fail
      go_ret
      exact ⟨rfl, HK.out⟩
  · rw [cut_bad ho hc]
    have hfv : foundV D.gone nm (findV ps nm) = .agg #[.slice none 0 0, .int .i64 0] := if_neg hc
    rw [hfv] at C1
    dsimp only
    have hc0 : (findCode D.gone nm (findV ps nm) == 0) = false := beq_eq_false_iff_ne.2 hc
    generalize findCode D.gone nm (findV ps nm) = code at *
    clear hb hfl ho hfs
    go_enter Tryz.func135, Tryz.ntmps135
    go_wp2_with fail
    refine C1.out.mono ?_
    rintro e w1 ⟨rfl, hb1⟩
    have HB := Lib.hid hb1
    clear hb1
    go_wp2_with fail
    go_ret
    exact ⟨rfl, HD.out.stays.andBelow (HB.out.alloc HB.out.size _)⟩
end Go.Proofs.YtjcikhacekmcfaaGreatDoor
namespace Go.Proofs.YtjcikhacekmcfaaGreatDoor
set_option maxRecDepth 20000
open Go.RowKit
open PlainDisk (File Disk Left)
set_option linter.unusedVariables false

set_option maxRecDepth 20000 in
/-- append of bytes that lie somewhere to own bytes, and where the new slice lies -/
theorem wp_appO {ops : Array Oper} {rest : List Oper} {o : Oper} {a : Act} {Q : Exit → Act → World → Prop} {w : World} (hgd : o.guard = none) (s x : Operand)
    (ho : o.op = .call { callee := .builtin .append, args := #[s, x], argTypes := #[60, 60] })
    (v : Value) (l : List UInt8) (hs : a.eval s = v) (hown : OwnB w 0 v l) (A : Option Addr) (n c : Nat) (bs : List UInt8) (hx : a.eval x = .slice A n c) (hb : Lies w A c bs) (hn : n = bs.length) (hnc : bs.length ≤ c)
    (hlen : l.length + bs.length ≤ 140737488355328)
    (h : ∀ A' c' w', OwnB w' 0 (.slice A' (l.length + bs.length) c') (l ++ bs) → w.grownBy w' v.ownBlock → ((Value.slice A' (l.length + bs.length) c').ownBlock = v.ownBlock ∨ (Value.slice A' (l.length + bs.length) c').ownBlock = some w.heap.size) → wpList Tryz.prog ops Q rest (a.put o.dst (.slice A' (l.length + bs.length) c')) w') : wpList Tryz.prog ops Q (o :: rest) a w := by
  subst hn
  obtain ⟨i5, hi5, hz0, hz1, hz2⟩ := info_parts3 info5
  have fin : ∀ v' w', OwnB w' 0 v' (l ++ bs) → w.grownBy w' v.ownBlock → (v'.ownBlock = v.ownBlock ∨ v'.ownBlock = some w.heap.size) → wpList Tryz.prog ops Q rest (a.put o.dst v') w' := by
    intro v' w' h1 h2 h3
    obtain ⟨A', c', rfl, _⟩ := h1.slice
    rw [List.length_append] at h1 h3 ⊢
    exact h A' c' w' h1 h2 h3
  cases A with
  | none =>
    have hc0 := hb.1 rfl
    subst hc0
    have hbs : bs = [] := List.eq_nil_of_length_eq_zero (by omega)
    subst hbs
    exact wpList_append_own_none hgd s x 60 ho 0 5 i5 1 Tryz.underlying60 hi5 v l.length (vB l) hs hown hx (fin v w (by rw [List.append_nil]; exact hown) (grown_refl w _) (.inl rfl))
  | some ad =>
    refine wpList_append_own_at w hgd s x 60 ho 0 5 i5 _ 1 1 Tryz.underlying60 hi5 hz0 hz1 hz2 rfl (by omega) v l.length (vB l) hs hown ad bs.length c (vB bs) hx (by rw [vB_length]; omega) ?_ (vB_one _) (by simp only [maxLen]; omega) (by omega) (Nat.zero_le _) ?_
    · intro j u hu
      have hne : bs ≠ [] := fun e => by rw [e] at hu; simp [vB] at hu
      obtain ⟨b, off, h1, h3⟩ := hb.2 hne
      injection h1 with h1
      subst h1
      simp only [vB, List.getElem?_map, Option.map_eq_some_iff] at hu
      obtain ⟨y, hy, rfl⟩ := hu
      have := h3 j y hy
      unfold Addr.add
      split
      · subst j; exact this
      · exact this
    · intro v' w' h2 h3 _ h4
      refine fin v' w' ?_ h3 h4
      unfold OwnB
      rw [vB_append, List.length_append]
      exact h2

/-! ### the disk while one file's bytes are being written -/
structure FilesBut (w : World) (mv : Option Nat) (ps : List FV) (S : Nat → Prop) (nm : List UInt8) : Prop where
  map : (mv = none ∧ ps = []) ∨ ∃ m, mv = some m ∧ S m ∧ MapAt w m ps
  bytes : ∀ p ∈ ps, p.1.name ≠ nm → OwnB w 0 p.2 p.1.bytes
  mine : ∀ p ∈ ps, p.1.name ≠ nm → ∀ g, p.2.ownBlock = some g → S g
  apart : ∀ p ∈ ps, p.1.name ≠ nm → ∀ q ∈ ps, q.1.name ≠ nm → p.1.name ≠ q.1.name → p.2.ownBlock = none ∨ p.2.ownBlock ≠ q.2.ownBlock
theorem FilesAt.but {w : World} {mv : Option Nat} {ps : List FV} {S : Nat → Prop} (h : FilesAt w mv ps S) (nm : List UInt8) : FilesBut w mv ps S nm :=
  ⟨h.map, fun p hp _ => h.bytes p hp, fun p hp _ => h.mine p hp, fun p hp _ q hq _ => h.apart p hp q hq⟩
theorem FilesBut.maps {w : World} {mv : Option Nat} {ps : List FV} {S : Nat → Prop} {nm : List UInt8} (h : FilesBut w mv ps S nm) : (mv = none ∧ ps = []) ∨ ∃ m, mv = some m ∧ MapAt w m ps := by
  rcases h.map with q | ⟨m, e, _, r⟩
  · exact .inl q
  · exact .inr ⟨m, e, r⟩
theorem FilesBut.keep {w w' : World} {mv : Option Nat} {ps : List FV} {S : Nat → Prop} {nm : List UInt8} (h : FilesBut w mv ps S nm) (hk : ∀ k x, w.heap[k]? = some x → S k → ((∃ es c, x = .map es c) ∨ ∃ cs, x = .cells cs 5 (0, 0)) → w'.heap[k]? = some x) : FilesBut w' mv ps S nm := by
  refine ⟨?_, fun p hp hn => (h.bytes p hp hn).keep fun g hg => ?_, h.mine, h.apart⟩
  · rcases h.map with q | ⟨m, e, hS, hm⟩
    · exact .inl q
    · refine .inr ⟨m, e, hS, hm.keep fun es c hb => ?_⟩
      rw [hb]
      exact hk m _ hb hS (.inl ⟨es, c, rfl⟩)
  · obtain ⟨cs, hb⟩ := (h.bytes p hp hn).block hg
    rw [hb]
    exact hk g _ hb (h.mine p hp hn g hg) (.inr ⟨cs, rfl⟩)
theorem FilesBut.mono {w : World} {mv : Option Nat} {ps : List FV} {S S' : Nat → Prop} {nm : List UInt8} (h : FilesBut w mv ps S nm) (hS : ∀ k, S k → S' k) : FilesBut w mv ps S' nm := by
  refine ⟨?_, h.bytes, fun p hp hn g hg => hS g (h.mine p hp hn g hg), h.apart⟩
  rcases h.map with q | ⟨m, e, hm, hr⟩
  · exact .inl q
  · exact .inr ⟨m, e, hS m hm, hr⟩
structure AtB (w0 W : World) (b : Nat) (mv : Option Nat) (gone ar : Bool) (lf : Int) (room : Nat) (ps : List FV) (S : Nat → Prop) (nm : List UInt8) : Prop where
  cells : W.heap[b]? = some (.cells #[.int .i64 (room : Nat), .map mv, .bool gone, .bool ar, .int .i64 lf] 86 (0, 0))
  files : FilesBut W mv ps S nm
  fr : Fr S w0 W
section
variable {w0 W : World} {b : Nat} {mv : Option Nat} {gone ar : Bool} {lf : Int} {room : Nat} {ps : List FV} {S : Nat → Prop} {nm : List UInt8}
theorem AtB.mono {S' : Nat → Prop} (h : AtB w0 W b mv gone ar lf room ps S nm) (hS : ∀ k, S k → S' k) : AtB w0 W b mv gone ar lf room ps S' nm :=
  ⟨h.cells, h.files.mono hS, ⟨h.fr.os, h.fr.tape, h.fr.output, h.fr.size, fun k hk hn => h.fr.block k hk fun q => hn (hS k q)⟩⟩
theorem AtB.box (h : AtB w0 W b mv gone ar lf room ps S nm) {k : Nat} {cs : Array Value} {t : TypeId} {fz : Nat × Nat} (hk : W.heap[k]? = some (.cells cs t fz)) (h5 : t ≠ 5) (h65 : t ≠ 86) (hw : w0.heap.size ≤ k) (off : Nat) (u : Value) : AtB w0 (W.setCell ⟨k, off, none⟩ u) b mv gone ar lf room ps S nm := by
  refine ⟨?_, h.files.keep fun j x hx hS hn => ?_, h.fr.setCell (p := ⟨k, off, none⟩) (.inr hw) _⟩
  · rw [Below.heap_setCell _ _ _ b ?_]
    · exact h.cells
    · rintro rfl
      have := h.cells
      rw [hk] at this
      injection this with this
      injection this with _ e
      exact h65 e
  · rw [Below.heap_setCell _ _ _ j ?_]
    · exact hx
    · rintro rfl
      rw [hk] at hx
      injection hx with hx
      exact not65 hn h5 hx.symm
theorem OwnB.ne_block {w : World} {base : Nat} {v : Value} {l : List UInt8} (h : OwnB w base v l) {k : Nat} {x : Obj} (hk : w.heap[k]? = some x) (hx : ∀ cs, x ≠ .cells cs 5 (0, 0)) : some k ≠ v.ownBlock := by
  intro e
  obtain ⟨cs, q⟩ := h.block e.symm
  rw [q] at hk
  injection hk with hk
  exact hx cs hk.symm
/-- behind the append to one file's bytes -/
theorem At.grown {w' : World} {v : Value} {l : List UInt8} (h : At w0 W b mv gone ar lf room ps S) (hv : OwnB W 0 v l) (hm : ∀ g, v.ownBlock = some g → S g) (hap : ∀ q ∈ ps, q.1.name ≠ nm → v.ownBlock = none ∨ v.ownBlock ≠ q.2.ownBlock) (hg : W.grownBy w' v.ownBlock) : AtB w0 w' b mv gone ar lf room ps S nm := by
  have keep : ∀ (k : Nat) (x : Obj), W.heap[k]? = some x → (∀ cs : Array Value, x ≠ Obj.cells cs 5 (0, 0)) → w'.heap[k]? = some x := fun k x hk hx => (hg.block k (Array.getElem?_eq_some_iff.1 hk).1 (hv.ne_block hk hx)).trans hk
  refine ⟨keep b _ h.cells (fun cs e => ?_), ⟨?_, fun p hp hn => (h.files.bytes p hp).keep fun g hg' => ?_, fun p hp _ => h.files.mine p hp, fun p hp _ q hq _ => h.files.apart p hp q hq⟩, h.fr.grown hg (fun k hk => .inl (hm k hk))⟩
  · injection e with _ e2
    exact absurd e2 (by decide)
  · rcases h.files.map with q | ⟨m, e, hS, hmm⟩
    · exact .inl q
    · refine .inr ⟨m, e, hS, hmm.keep fun es c hb => ?_⟩
      rw [hb]
      exact keep m _ hb (fun cs e => by cases e)
  · obtain ⟨cs, hb⟩ := (h.files.bytes p hp).block hg'
    refine hg.block g (Array.getElem?_eq_some_iff.1 hb).1 ?_
    intro e
    rcases hap p hp hn with q | q
    · rw [q] at e; cases e
    · exact q (by rw [← e, hg'])
theorem AtB.put {D' : Disk} {S0 : Nat → Prop} {w' : World} {f : File} {v : Value} (h : AtB w0 W b mv gone ar lf room ps S f.name) (hS : S b) (hu : ∀ k, S k → Up S0 w0 W k)
    (hp : ∃ m, w'.heap[b]? = some (.cells #[.int .i64 (room : Nat), .map (some m), .bool gone, .bool ar, .int .i64 lf] 86 (0, 0)) ∧ MapAt w' m (putF (f, v) (dropF f.name ps)) ∧ Fr (fun k => k = b ∨ mv = some k) W w' ∧ (mv = some m ∨ (W.heap.size ≤ m ∧ m < w'.heap.size)))
    (hv : OwnB W 0 v f.bytes) (hmine : ∀ g, v.ownBlock = some g → S g) (hap : ∀ q ∈ ps, q.1.name ≠ f.name → v.ownBlock = none ∨ v.ownBlock ≠ q.2.ownBlock)
    (h1 : D'.room = room) (h2 : D'.gone = gone) (h3 : Armed D'.good ar lf) (h4 : D'.fs = PlainDisk.put f (PlainDisk.drop (ps.map (·.1)) f.name)) : DiskTo w0 w' b D' S0 := by
  obtain ⟨m, q1, q2, q3, q4⟩ := hp
  have hSm : ∀ k, mv = some k → S k := by
    intro k hk
    rcases h.files.map with ⟨e, _⟩ | ⟨m', e, hS', _⟩
    · rw [e] at hk; cases hk
    · rw [e] at hk; injection hk with hk; subst hk; exact hS'
  have hfr : Fr S W w' := ⟨q3.os, q3.tape, q3.output, q3.size, fun k hk hn => q3.block k hk fun e => hn (e.elim (fun e => by rw [e]; exact hS) (hSm k))⟩
  have hkeep : ∀ (g : Nat) (cs' : Array Value), W.heap[g]? = some (Obj.cells cs' 5 (0, 0)) → w'.heap[g]? = W.heap[g]? := by
    intro g cs' hg
    refine q3.block g (Array.getElem?_eq_some_iff.1 hg).1 ?_
    rintro (rfl | e)
    · have := h.cells
      rw [hg] at this
      injection this with this
      injection this with _ q2
      exact absurd q2 (by decide)
    · rcases h.files.map with ⟨e2, _⟩ | ⟨m', e2, _, hm'⟩
      · rw [e2] at e; cases e
      · rw [e2] at e
        injection e with e
        subst e
        obtain ⟨es, c, q⟩ := hm'.block
        rw [q] at hg
        cases hg
  have mem : ∀ q ∈ putF (f, v) (dropF f.name ps), q = (f, v) ∨ (q ∈ ps ∧ q.1.name ≠ f.name) := by
    intro q hq
    rcases mem_putF hq with hq | hq
    · exact .inl hq
    · refine .inr ⟨mem_dropF hq, ?_⟩
      have : q.1 ∈ PlainDisk.drop (ps.map (·.1)) f.name := by rw [← dropF_fst]; exact List.mem_map_of_mem hq
      exact (PlainDisk.mem_drop.1 this).2
  have hfl : FilesAt w' (some m) (putF (f, v) (dropF f.name ps)) (Up S W w') := by
    refine ⟨.inr ⟨m, rfl, ?_, q2⟩, ?_, ?_, ?_⟩
    · rcases q4 with e | e
      · exact .inl (hSm m e)
      · exact .inr e
    · intro q hq
      rcases mem q hq with rfl | ⟨hq, hn⟩
      · exact hv.keep fun g hg => by
          obtain ⟨cs', q⟩ := hv.block hg
          exact hkeep g cs' q
      · exact (h.files.bytes q hq hn).keep fun g hg => by
          obtain ⟨cs', q⟩ := (h.files.bytes q hq hn).block hg
          exact hkeep g cs' q
    · intro q hq g hg
      rcases mem q hq with rfl | ⟨hq, hn⟩
      · exact .inl (hmine g hg)
      · exact .inl (h.files.mine q hq hn g hg)
    · intro q hq q2 hq2 hne
      rcases mem q hq with rfl | ⟨h1, n1⟩
      · rcases mem q2 hq2 with rfl | ⟨h2, n2⟩
        · exact absurd rfl hne
        · exact hap q2 h2 n2
      · rcases mem q2 hq2 with rfl | ⟨h2, n2⟩
        · rcases hap q h1 n1 with e | e
          · cases hq' : q.2.ownBlock with
            | none => exact .inl rfl
            | some g => exact .inr (by show some g ≠ v.ownBlock; rw [e]; simp)
          · exact .inr (fun e2 => e e2.symm)
        · exact h.files.apart q h1 n1 q2 h2 n2 hne
  refine ⟨Up S W w', ⟨some m, ar, lf, _, by rw [h1, h2]; exact q1, .inl hS, ?_, h3, hfl⟩, ?_, ?_⟩
  · rw [h4, putF_fst, dropF_fst]
  · intro k hk
    have z1 := h.fr.size
    have z2 := q3.size
    rcases hk with hk | hk
    · rcases hu k hk with q | q
      · exact .inl q
      · exact .inr ⟨q.1, by omega⟩
    · exact .inr ⟨by omega, hk.2⟩
  · exact fr_up (fun k hk => (hu k hk).elim .inl fun q => .inr q.1) (h.fr.trans hfr fun i hi => .inl hi)
end
theorem files_len {w : World} {mv : Option Nat} {ps : List FV} (h : (mv = none ∧ ps = []) ∨ ∃ m, mv = some m ∧ MapAt w m ps) (ty : TypeId) : (Builtin.len_ #[84] ty #[.map mv]).run Tryz.prog w = .ok (.int .i64 (ps.length : Nat)) w := by
  rcases h with ⟨rfl, rfl⟩ | ⟨m, rfl, hm⟩
  · exact nil_len w ty
  · exact hm.len ty
end Go.Proofs.YtjcikhacekmcfaaGreatDoor
namespace Go.Proofs.YtjcikhacekmcfaaGreatDoor
set_option maxRecDepth 20000
open Go.RowKit
open PlainDisk (File Disk Left)
set_option linter.unusedVariables false

/-- the file that is appended to: what is there, or an empty one -/
def fileAt (ps : List FV) (nm : List UInt8) : FV := (findV ps nm).getD (⟨nm, [], 0⟩, .slice none 0 0)
theorem fileAt_val (ps : List FV) (nm : List UInt8) : valAt (findV ps nm) = valOf (fileAt ps nm) := by
  unfold fileAt
  cases findV ps nm <;> rfl
theorem fileAt_name (ps : List FV) (nm : List UInt8) : (fileAt ps nm).1.name = nm := by
  unfold fileAt
  cases h : findV ps nm with
  | none => rfl
  | some p => exact findV_name h
theorem fileAt_own {w : World} {mv : Option Nat} {ps : List FV} {S : Nat → Prop} (h : FilesAt w mv ps S) (nm : List UInt8) : OwnB w 0 (fileAt ps nm).2 (fileAt ps nm).1.bytes := by
  unfold fileAt
  cases hf : findV ps nm with
  | none => exact World.ownsRow_nil _ _ _ _
  | some p => exact h.bytes p (findV_mem hf)
theorem fileAt_mine {w : World} {mv : Option Nat} {ps : List FV} {S : Nat → Prop} (h : FilesAt w mv ps S) (nm : List UInt8) : ∀ g, (fileAt ps nm).2.ownBlock = some g → S g := by
  unfold fileAt
  cases hf : findV ps nm with
  | none => intro g hg; cases hg
  | some p => exact h.mine p (findV_mem hf)
theorem fileAt_apart {w : World} {mv : Option Nat} {ps : List FV} {S : Nat → Prop} (h : FilesAt w mv ps S) (nm : List UInt8) : ∀ q ∈ ps, q.1.name ≠ nm → (fileAt ps nm).2.ownBlock = none ∨ (fileAt ps nm).2.ownBlock ≠ q.2.ownBlock := by
  unfold fileAt
  cases hf : findV ps nm with
  | none => intro q _ _; exact .inl rfl
  | some p =>
    intro q hq hn
    exact h.apart p (findV_mem hf) q hq (by rw [findV_name hf]; exact fun e => hn e.symm)
theorem fileAt_fs {ps : List FV} (hs : PlainDisk.Sorted (ps.map (·.1))) (nm x : List UInt8) : PlainDisk.put (PlainDisk.grow x (fileAt ps nm).1) (PlainDisk.drop (ps.map (·.1)) nm) = PlainDisk.upd (PlainDisk.made (ps.map (·.1)) nm) nm (PlainDisk.grow x) := by
  have e := findV_fst ps nm
  unfold fileAt
  cases hf : findV ps nm with
  | none =>
    rw [hf] at e
    exact put_made (t := PlainDisk.grow x) hs (fun _ => rfl) e.symm
  | some p =>
    rw [hf] at e
    have e : PlainDisk.find (ps.map (·.1)) nm = some p.1 := e.symm
    rw [PlainDisk.made_some e]
    exact put_upd (t := PlainDisk.grow x) hs (fun _ => rfl) e
theorem fileAt_len {D : Disk} (hF : Fine D) {ps : List FV} (hfs : D.fs = ps.map (·.1)) (nm : List UInt8) : (fileAt ps nm).1.bytes.length ≤ PlainDisk.used D.fs ∧ (fileAt ps nm).1.sure ≤ (fileAt ps nm).1.bytes.length := by
  unfold fileAt
  cases hf : findV ps nm with
  | none => exact ⟨Nat.zero_le _, Nat.le_refl _⟩
  | some p =>
    have : p.1 ∈ D.fs := by rw [hfs]; exact List.mem_map_of_mem (findV_mem hf)
    exact ⟨used_ge this, hF.inv.sure _ this⟩
theorem append_bad {D : Disk} {nm bs : List UInt8} (h : barCode D.gone nm ≠ 0) : PlainDisk.append may D nm bs = (D, barCode D.gone nm) := by
  unfold PlainDisk.append
  rcases bar_bad h with ⟨h1, e⟩ | ⟨h1, h2, e⟩
  · rw [if_pos h1, e]
  · rw [if_neg h1, if_pos h2, e]
theorem append_good {D : Disk} {nm bs : List UInt8} (h : barCode D.gone nm = 0) : PlainDisk.append may D nm bs = if PlainDisk.find D.fs nm = none ∧ 64 ≤ D.fs.length then (D, 3) else if D.room < PlainDisk.used D.fs + bs.length then (D, 40) else
    PlainDisk.write D (PlainDisk.upd (PlainDisk.made D.fs nm) nm (PlainDisk.grow bs)) (PlainDisk.upd (PlainDisk.made D.fs nm) nm (PlainDisk.grow (bs.take (bs.length / 2)))) := by
  obtain ⟨h1, h2⟩ := bar_good h
  unfold PlainDisk.append
  rw [if_neg h1, if_neg h2]
theorem used_at {w0 W : World} {b : Nat} {mv : Option Nat} {gone ar : Bool} {lf : Int} {room : Nat} {ps : List FV} {S : Nat → Prop} (h : At w0 W b mv gone ar lf room ps S) (hs : PlainDisk.Sorted (ps.map (·.1))) (hu : PlainDisk.used (ps.map (·.1)) ≤ 1048576) :
    Calls Tryz.prog 53 #[.pointer (some ⟨b, 0, none⟩)] W fun e w' => e = .returned (.int .i64 (PlainDisk.used (ps.map (·.1)) : Nat)) ∧ Below W.heap.size W w' :=
  used_files h.cells h.files.maps (names_of_sorted hs) h.files.slices hu
theorem look_at {w0 W : World} {b : Nat} {mv : Option Nat} {gone ar : Bool} {lf : Int} {room : Nat} {ps : List FV} {S : Nat → Prop} (h : At w0 W b mv gone ar lf room ps S) {nm : List UInt8} (hn : nm.length ≤ 281474976710656) :
    (Instr.lookup 84 (.map mv) (.string (str nm)) true).run Tryz.prog W = .ok (.tuple #[valOf (fileAt ps nm), .bool (findV ps nm).isSome]) W := by
  have := files_look (c := true) h.files.maps (nm := nm) (by rw [maxLen_is]; omega)
  rw [if_pos rfl, fileAt_val] at this
  exact this

set_option maxHeartbeats 2000000 in
set_option maxRecDepth 100000 in
theorem append_early (b : Nat) (nm bs : List UInt8) (vb : Value) (D : Disk) (S : Nat → Prop) (w : World) (hd : DiskIs w b D S) (hF : Fine D) (hnm : nm.length ≤ 281474976710656) (hB : Src w vb bs b)
    (he : barCode D.gone nm ≠ 0 ∨ (PlainDisk.find D.fs nm = none ∧ 64 ≤ D.fs.length)) :
    Calls Tryz.prog 25 #[.pointer (some ⟨b, 0, none⟩), .string (str nm), vb] w fun e w' => e = .returned (.int .i64 (PlainDisk.append may D nm bs).2) ∧ DiskTo w w' b (PlainDisk.append may D nm bs).1 S := by
  have HD := Lib.hid hd
  obtain ⟨mv, ar, lf, ps, hb, hS, hfs, har, hfl⟩ := hd
  have C0 := Lib.hid (check_any nm hb hnm)
  obtain ⟨Ab, cb, rfl, _, _, _⟩ := hB.lies
  by_cases hbar : barCode D.gone nm = 0
  · have he := he.resolve_left (fun q => q hbar)
    rw [append_good hbar, if_pos he]
    rw [hbar] at C0
    have HAT := Lib.hid (show At w w b mv D.gone ar lf D.room ps S from ⟨hb, hfl, Fr.refl S w⟩)
    have hno : (findV ps nm).isSome = false := by
      have := findV_fst ps nm
      rw [← hfs, he.1] at this
      cases h : findV ps nm with
      | none => rfl
      | some p => rw [h] at this; cases this
    have hv0 : valOf (fileAt ps nm) = .agg #[.slice none 0 0, .int .i64 0] := by
      rw [← fileAt_val]
      cases h : findV ps nm with
      | none => rfl
      | some p => rw [h] at hno; cases hno
    have HLK := Lib.hid (fun (W : World) (h : At w W b mv D.gone ar lf D.room ps S) => look_at h hnm)
    rw [hno, hv0] at HLK
    have hmany : (64 : Int) ≤ (ps.length : Int) := by have := he.2; rw [hfs, List.length_map] at this; omega
    dsimp only
    clear hb hfl hfs hno hv0 he
    go_enter Tryz.func25, Tryz.ntmps25
    go_wp2_with fail
    refine C0.out.mono ?_
    rintro e w1 ⟨rfl, hb1⟩
    have HB1 := Lib.hid hb1
    have hat := HAT.out.below hb1
    have c1 : w1.cell? ⟨b, 1, none⟩ = some (.map mv) := by rw [Lib.cell_of_heap hat.cells]; rfl
    have hlk := HLK.out w1 hat
    have hat2 := hat.alloc (.cells #[.slice none 0 0, .int .i64 0] 100)
    have c12 : (w1.alloc (.cells #[.slice none 0 0, .int .i64 0] 100)).cell? ⟨b, 1, none⟩ = some (.map mv) := by rw [Lib.cell_of_heap hat2.cells]; rfl
    have hln := fun ty => files_len hat2.files.maps ty
    clear hb1 hat hat2
    go_wp2_with fail
    go_ret
    exact ⟨rfl, HD.out.stays.andBelow (HB1.out.alloc HB1.out.size _)⟩
  · rw [append_bad hbar]
    dsimp only
    have hc0 : (barCode D.gone nm == 0) = false := beq_eq_false_iff_ne.2 hbar
    generalize barCode D.gone nm = code at *
    clear hb hfl hfs he
    go_enter Tryz.func25, Tryz.ntmps25
    go_wp2_with fail
    refine C0.out.mono ?_
    rintro e w0 ⟨rfl, hb0⟩
    have HB0 := Lib.hid hb0
    clear hb0
    go_wp2_with fail
    go_ret
    exact ⟨rfl, HD.out.stays.andBelow HB0.out⟩
end Go.Proofs.YtjcikhacekmcfaaGreatDoor
