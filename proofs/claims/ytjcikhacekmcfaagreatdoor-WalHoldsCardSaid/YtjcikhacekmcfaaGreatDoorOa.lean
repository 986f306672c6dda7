import Derived.Test.YtjcikhacekmcfaaGreatDoorWn
import Derived.Deep.RegionHeld3
namespace Go.Proofs.YtjcikhacekmcfaaGreatDoor
open Go.RowKit
open PlainDisk (File Disk)
set_option linter.unusedVariables false
set_option maxRecDepth 100000

/-! ### a disk in memory, and what the library holds -/
structure Dk (w : World) (b : Nat) (D : Disk) (S : Nat → Prop) : Prop where
  is : DiskIs w b D S
  fine : Fine D
  glob : Glob w
  blk : ∀ k, S k → 3 ≤ k ∧ k < w.heap.size
/-- it has become D', and nothing else was touched -/
def DkTo (w w' : World) (b : Nat) (D' : Disk) (S : Nat → Prop) : Prop := ∃ S', Dk w' b D' S' ∧ (∀ k, S' k → Up S w w' k) ∧ Fr S w w'
section
variable {w w1 w' : World} {b : Nat} {D D' : Disk} {S : Nat → Prop}
theorem Dk.below (h : Dk w b D S) (hb : Below w.heap.size w w') : Dk w' b D S :=
  ⟨h.is.at0 hb, h.fine, h.glob.belows hb, fun k hk => ⟨(h.blk k hk).1, Nat.lt_of_lt_of_le (h.blk k hk).2 hb.size⟩⟩
theorem Dk.stays (h : Dk w b D S) (hb : Below w.heap.size w w') : DkTo w w' b D S := ⟨S, h.below hb, fun k hk => .inl hk, Fr.of_below hb⟩
theorem Dk.ch (h : Dk w b D S) : DiskIs w b D S := h.is
theorem Dk.to (h : Dk w b D S) (ht : DiskTo w w' b D' S) (hF : Fine D') : DkTo w w' b D' S := by
  obtain ⟨S', q1, q2, q3⟩ := ht
  refine ⟨S', ⟨q1, hF, h.glob.keep fun k hk => q3.block k (by have := h.glob.size; omega) (fun q => by have := h.blk k q; omega), fun k hk => ?_⟩, q2, q3⟩
  rcases q2 k hk with q | q
  · exact ⟨(h.blk k q).1, Nat.lt_of_lt_of_le (h.blk k q).2 q3.size⟩
  · exact ⟨Nat.le_trans h.glob.size q.1, q.2⟩
theorem DkTo.go (hu : ∀ k, S k → True) {S1 : Nat → Prop} (h1 : ∀ k, S1 k → Up S w w1 k) (hf : Fr S w w1) (h : DkTo w1 w' b D' S1) : DkTo w w' b D' S := by
  obtain ⟨S2, q1, q2, q3⟩ := h
  refine ⟨S2, q1, fun k hk => ?_, hf.trans q3 fun i hi => (h1 i hi).elim .inl fun q => .inr q.1⟩
  rcases q2 k hk with q | q
  · rcases h1 k q with q | q
    · exact .inl q
    · exact .inr ⟨q.1, by have := q3.size; omega⟩
  · exact .inr ⟨by have := hf.size; omega, q.2⟩
theorem DkTo.before (hb : Below w.heap.size w w1) (h : DkTo w1 w' b D' S) : DkTo w w' b D' S := DkTo.go (fun _ _ => trivial) (fun k hk => .inl hk) (Fr.of_below hb) h
theorem DkTo.andBelow (h : DkTo w w1 b D S) (hb : Below w1.heap.size w1 w') : DkTo w w' b D S := by
  obtain ⟨S1, h1, h2, h3⟩ := h
  exact DkTo.go (fun _ _ => trivial) h2 h3 (h1.stays hb)
/-- one step behind another -/
theorem DkTo.then (h : DkTo w w1 b D S) {P : World → Prop} (k : ∀ S1, Dk w1 b D S1 → DkTo w1 w' b D' S1) : DkTo w w' b D' S := by
  obtain ⟨S1, h1, h2, h3⟩ := h
  exact DkTo.go (fun _ _ => trivial) h2 h3 (k S1 h1)
theorem Dk.lt (h : Dk w b D S) : b < w.heap.size := (h.blk b h.is.mine).2
end

/-! ### a file -/
/-- a value that tells a name -/
def NameIs (nv : Value) (nm : List UInt8) : Prop := nm.length ≤ 1000 ∧ ∃ (k : Nat) (a : Value), nv = .func (Fn.func k) #[a] #[] ∧ (k = 84 ∨ k = 82 ∨ k = 69) ∧
  ∀ w, Glob w → Calls Tryz.prog k #[a] w fun e w' => e = .returned (.string (str nm)) ∧ Below w.heap.size w w'
theorem nameIs_old (l : List UInt8) (hl : l.length ≤ 1000) : NameIs (.func (Fn.func 84) #[.string (str l)] #[]) l :=
  ⟨hl, 84, _, rfl, .inl rfl, fun w hG => (name_any l w).mono fun _ _ ⟨he, hw⟩ => ⟨he, hw ▸ Below.refl _ _⟩⟩
theorem nameIs_new (l : List UInt8) (hl : l.length ≤ 900) : NameIs (.func (Fn.func 82) #[.string (str l)] #[]) (l ++ PWal.dotNew) :=
  ⟨by simp [PWal.dotNew]; omega, 82, _, rfl, .inr (.inl rfl), fun w hG => (newName_any l w (by omega)).mono fun _ _ ⟨he, hw⟩ => ⟨he, hw ▸ Below.refl _ _⟩⟩
theorem segN_length (n : Nat) : (PWal.segN n).length = 11 := by simp [PWal.segN, PWal.digs]
theorem nameIs_seg (n : Nat) (hn : n ≤ 9999999999) : NameIs (.func (Fn.func 69) #[.int .i64 (n : Nat)] #[]) (PWal.segN n) :=
  ⟨by rw [segN_length]; omega, 69, _, rfl, .inr (.inr rfl), fun w hG => segName_any n w hn hG⟩
def fvl (b : Nat) (nv : Value) : Value := .agg #[.pointer (some ⟨b, 0, none⟩), nv]
theorem box2 (w : World) (x y : Value) (t : TypeId) : ∀ W, Below (w.alloc (.cells #[x, y] t)).heap.size (w.alloc (.cells #[x, y] t)) W → W.cell? ⟨w.heap.size, 0, none⟩ = some x ∧ W.cell? ⟨w.heap.size, 1, none⟩ = some y := fun W hb =>
  ⟨(hb.cell (p := ⟨w.heap.size, 0, none⟩) (by simp)).trans (by simp [go_sem]), (hb.cell (p := ⟨w.heap.size, 1, none⟩) (by simp)).trans (by simp [go_sem])⟩
theorem below_new (w : World) (o : Obj) : Below w.heap.size w (w.alloc o) := (Below.refl _ _).alloc (Nat.le_refl _) _

def ReadP (bs : List UInt8) (w : World) (e : Ending) (w' : World) : Prop := ∃ A c, e = .returned (.slice A bs.length c) ∧ OwnB w' w.heap.size (.slice A bs.length c) bs ∧ Below w.heap.size w w'
theorem read_disk {w : World} {b : Nat} {D : Disk} {S : Nat → Prop} (h : Dk w b D S) (nm : List UInt8) (hnm : nm.length ≤ 1000) :
    Calls Tryz.prog 55 #[.pointer (some ⟨b, 0, none⟩), .string (str nm)] w fun e w' => ∃ A c, e = .returned (.tuple #[.slice A (PWal.rdB D nm).length c, .int .i64 (rdE D nm)]) ∧ OwnB w' w.heap.size (.slice A (PWal.rdB D nm).length c) (PWal.rdB D nm) ∧ Below w.heap.size w w' := by
  obtain ⟨mv, ar, lf, ps, hb, hS, hfs, har, hfl⟩ := h.is
  refine (read_any (nm := nm) hb hfl.maps hfl.bytes (fun p hp => (h.fine.small (f := p.1) (by rw [hfs]; exact List.mem_map_of_mem hp)).1) (by omega)).mono ?_
  rintro e w' ⟨hbw, hc⟩
  have e0 : PlainDisk.find D.fs nm = (findV ps nm).map (·.1) := by rw [hfs, ← findV_fst]
  unfold PWal.rdB rdE
  rw [e0]
  rcases hc with ⟨e1, e2⟩ | ⟨p, v, e1, e2, e3⟩
  · rw [e1]
    exact ⟨none, 0, e2, ⟨rfl, .inl ⟨rfl, rfl⟩⟩, hbw⟩
  · rw [e1]
    obtain ⟨A, c, rfl, _⟩ := e3.slice
    exact ⟨A, c, e2, e3, hbw⟩
def Tells (k : Nat) (a : Value) (nm : List UInt8) : Prop := ∀ w, Glob w → Calls Tryz.prog k #[a] w fun e w' => e = .returned (.string (str nm)) ∧ Below w.heap.size w w'
/-- the box of a file's value, behind a draw -/
structure Boxed (w W : World) (b : Nat) (k : Nat) (a : Value) (D : Disk) (S : Nat → Prop) : Prop where
  eq : w.alloc (.cells #[.pointer (some ⟨b, 0, none⟩), .func (Fn.func k) #[a] #[]] 121) = W
  dk : Dk W b D S
  below : Below w.heap.size w W
  at0 : ∀ V, Below W.heap.size W V → V.cell? ⟨w.heap.size, 0, none⟩ = some (.pointer (some ⟨b, 0, none⟩)) ∧ V.cell? ⟨w.heap.size, 1, none⟩ = some (.func (Fn.func k) #[a] #[])
theorem boxed {w : World} {b : Nat} {D : Disk} {S : Nat → Prop} (h : Dk w b D S) (k : Nat) (a : Value) : ∃ W, Boxed w W b k a D S :=
  ⟨_, rfl, h.below (below_new _ _), below_new _ _, box2 w _ _ 121⟩

set_option maxHeartbeats 1000000 in
theorem read84 {w : World} {b : Nat} {D : Disk} {S : Nat → Prop} (h : Dk w b D S) {a : Value} {nm : List UInt8} (hl : nm.length ≤ 1000) (hk : Tells 84 a nm) :
    Calls Tryz.prog 85 #[fvl b (.func (Fn.func 84) #[a] #[])] w (ReadP (PWal.rdB D nm) w) := by
  obtain ⟨W, BX⟩ := boxed h 84 a
  have HX := Lib.hid BX
  unfold Tells at hk
  have HK := Lib.hid hk
  clear h hk BX
  unfold fvl
  go_enter Tryz.func85, Tryz.ntmps85
  go_wp2_with fail
  rw [HX.out.eq]
  have E0 : Hid (Below W.heap.size W W.drew) := Lib.hid (Below.refl _ W).drew
  obtain ⟨e1, e2⟩ := HX.out.at0 W.drew E0.out
  go_region_held3 (fun V => V.cell? ⟨w.heap.size, 0, none⟩ = some (.pointer (some ⟨b, 0, none⟩)) ∧ V.cell? ⟨w.heap.size, 1, none⟩ = some (.func (Fn.func 84) #[a] #[]))
    (first | exact ⟨e1, e2⟩ | exact ⟨f1, f2⟩)
    (first
      | (go_at_call 55; (with_reducible refine (read_disk (HX.out.dk.below E1.out) nm hl).mono ?_); rintro e w2 ⟨A, c, rfl, own, bel⟩; have OW := Lib.hid own; have E2 : Hid (Below W.heap.size W w2) := Lib.hid (E1.out.trans (bel.mono E1.out.size)); clear own bel; obtain ⟨f1, f2⟩ := HX.out.at0 w2 E2.out)
      | (go_at_call 84; (with_reducible refine (HK.out W.drew (HX.out.dk.glob.belows E0.out)).mono ?_); rintro e w1 ⟨rfl, b1⟩; have E1 : Hid (Below W.heap.size W w1) := Lib.hid (E0.out.trans b1); clear b1; obtain ⟨f1, f2⟩ := HX.out.at0 w1 E1.out))
  all_goals
    go_wp2_with fail
    go_ret
    exact ⟨A, c, rfl, OW.out.base (by have := HX.out.below.size; have := E1.out.size; omega), HX.out.below.trans (E2.out.mono HX.out.below.size)⟩
set_option maxHeartbeats 1000000 in
theorem read82 {w : World} {b : Nat} {D : Disk} {S : Nat → Prop} (h : Dk w b D S) {a : Value} {nm : List UInt8} (hl : nm.length ≤ 1000) (hk : Tells 82 a nm) :
    Calls Tryz.prog 85 #[fvl b (.func (Fn.func 82) #[a] #[])] w (ReadP (PWal.rdB D nm) w) := by
  obtain ⟨W, BX⟩ := boxed h 82 a
  have HX := Lib.hid BX
  unfold Tells at hk
  have HK := Lib.hid hk
  clear h hk BX
  unfold fvl
  go_enter Tryz.func85, Tryz.ntmps85
  go_wp2_with fail
  rw [HX.out.eq]
  have E0 : Hid (Below W.heap.size W W.drew) := Lib.hid (Below.refl _ W).drew
  obtain ⟨e1, e2⟩ := HX.out.at0 W.drew E0.out
  go_region_held3 (fun V => V.cell? ⟨w.heap.size, 0, none⟩ = some (.pointer (some ⟨b, 0, none⟩)) ∧ V.cell? ⟨w.heap.size, 1, none⟩ = some (.func (Fn.func 82) #[a] #[]))
    (first | exact ⟨e1, e2⟩ | exact ⟨f1, f2⟩)
    (first
      | (go_at_call 55; (with_reducible refine (read_disk (HX.out.dk.below E1.out) nm hl).mono ?_); rintro e w2 ⟨A, c, rfl, own, bel⟩; have OW := Lib.hid own; have E2 : Hid (Below W.heap.size W w2) := Lib.hid (E1.out.trans (bel.mono E1.out.size)); clear own bel; obtain ⟨f1, f2⟩ := HX.out.at0 w2 E2.out)
      | (go_at_call 82; (with_reducible refine (HK.out W.drew (HX.out.dk.glob.belows E0.out)).mono ?_); rintro e w1 ⟨rfl, b1⟩; have E1 : Hid (Below W.heap.size W w1) := Lib.hid (E0.out.trans b1); clear b1; obtain ⟨f1, f2⟩ := HX.out.at0 w1 E1.out))
  all_goals
    go_wp2_with fail
    go_ret
    exact ⟨A, c, rfl, OW.out.base (by have := HX.out.below.size; have := E1.out.size; omega), HX.out.below.trans (E2.out.mono HX.out.below.size)⟩
set_option maxHeartbeats 1000000 in
theorem read69 {w : World} {b : Nat} {D : Disk} {S : Nat → Prop} (h : Dk w b D S) {a : Value} {nm : List UInt8} (hl : nm.length ≤ 1000) (hk : Tells 69 a nm) :
    Calls Tryz.prog 85 #[fvl b (.func (Fn.func 69) #[a] #[])] w (ReadP (PWal.rdB D nm) w) := by
  obtain ⟨W, BX⟩ := boxed h 69 a
  have HX := Lib.hid BX
  unfold Tells at hk
  have HK := Lib.hid hk
  clear h hk BX
  unfold fvl
  go_enter Tryz.func85, Tryz.ntmps85
  go_wp2_with fail
  rw [HX.out.eq]
  have E0 : Hid (Below W.heap.size W W.drew) := Lib.hid (Below.refl _ W).drew
  obtain ⟨e1, e2⟩ := HX.out.at0 W.drew E0.out
  go_region_held3 (fun V => V.cell? ⟨w.heap.size, 0, none⟩ = some (.pointer (some ⟨b, 0, none⟩)) ∧ V.cell? ⟨w.heap.size, 1, none⟩ = some (.func (Fn.func 69) #[a] #[]))
    (first | exact ⟨e1, e2⟩ | exact ⟨f1, f2⟩)
    (first
      | (go_at_call 55; (with_reducible refine (read_disk (HX.out.dk.below E1.out) nm hl).mono ?_); rintro e w2 ⟨A, c, rfl, own, bel⟩; have OW := Lib.hid own; have E2 : Hid (Below W.heap.size W w2) := Lib.hid (E1.out.trans (bel.mono E1.out.size)); clear own bel; obtain ⟨f1, f2⟩ := HX.out.at0 w2 E2.out)
      | (go_at_call 69; (with_reducible refine (HK.out W.drew (HX.out.dk.glob.belows E0.out)).mono ?_); rintro e w1 ⟨rfl, b1⟩; have E1 : Hid (Below W.heap.size W w1) := Lib.hid (E0.out.trans b1); clear b1; obtain ⟨f1, f2⟩ := HX.out.at0 w1 E1.out))
  all_goals
    go_wp2_with fail
    go_ret
    exact ⟨A, c, rfl, OW.out.base (by have := HX.out.below.size; have := E1.out.size; omega), HX.out.below.trans (E2.out.mono HX.out.below.size)⟩
theorem read_any2 {w : World} {b : Nat} {D : Disk} {S : Nat → Prop} (h : Dk w b D S) {nv : Value} {nm : List UInt8} (hn : NameIs nv nm) :
    Calls Tryz.prog 85 #[fvl b nv] w (ReadP (PWal.rdB D nm) w) := by
  obtain ⟨hl, k, a, rfl, h3, hk⟩ := hn
  rcases h3 with rfl | rfl | rfl
  · exact read84 h hl hk
  · exact read82 h hl hk
  · exact read69 h hl hk

/-! the disk's own calls -/
section
variable {w : World} {b : Nat} {D : Disk} {S : Nat → Prop}
theorem append_dk (h : Dk w b D S) (nm bs : List UInt8) (vb : Value) (hnm : nm.length ≤ 1000) (hvb : Src w vb bs b) :
    Calls Tryz.prog 25 #[.pointer (some ⟨b, 0, none⟩), .string (str nm), vb] w fun e w' => e = .returned (.int .i64 (PlainDisk.append may D nm bs).2) ∧ DkTo w w' b (PlainDisk.append may D nm bs).1 S := by
  refine (append_act b nm bs vb D S w h.is h.fine (by omega) hvb).mono ?_
  rintro e w' ⟨rfl, ht⟩
  exact ⟨rfl, h.to ht (fine_step h.fine (x := ⟨0, nm, [], bs, 0, []⟩) (show (0 : Int) ≤ 9223372036854775807 by decide))⟩
theorem sync_dk (h : Dk w b D S) (nm : List UInt8) (hnm : nm.length ≤ 1000) :
    Calls Tryz.prog 162 #[.pointer (some ⟨b, 0, none⟩), .string (str nm)] w fun e w' => e = .returned (.int .i64 (PlainDisk.sync may D nm).2) ∧ DkTo w w' b (PlainDisk.sync may D nm).1 S := by
  refine (sync_act b nm D S w h.is h.fine (by omega)).mono ?_
  rintro e w' ⟨rfl, ht⟩
  exact ⟨rfl, h.to ht (fine_step h.fine (x := ⟨1, nm, [], [], 0, []⟩) (show (0 : Int) ≤ 9223372036854775807 by decide))⟩
theorem cut_dk (h : Dk w b D S) (nm : List UInt8) (n : Nat) (hnm : nm.length ≤ 1000) (hn : n ≤ 1048576) :
    Calls Tryz.prog 135 #[.pointer (some ⟨b, 0, none⟩), .string (str nm), .int .i64 (n : Nat)] w fun e w' => e = .returned (.int .i64 (PlainDisk.cut may D nm n).2) ∧ DkTo w w' b (PlainDisk.cut may D nm n).1 S := by
  refine (cut_act b nm n D S w h.is h.fine (by omega) (by omega) (by omega)).mono ?_
  rintro e w' ⟨rfl, ht⟩
  exact ⟨rfl, h.to ht (fine_step h.fine (x := ⟨2, nm, [], [], n, []⟩) (show (n : Int) ≤ 9223372036854775807 by omega))⟩
theorem drop_dk (h : Dk w b D S) (nm : List UInt8) (hnm : nm.length ≤ 1000) :
    Calls Tryz.prog 133 #[.pointer (some ⟨b, 0, none⟩), .string (str nm)] w fun e w' => e = .returned (.int .i64 (PlainDisk.dropA may D nm).2) ∧ DkTo w w' b (PlainDisk.dropA may D nm).1 S := by
  refine (drop_act b nm D S w h.is h.fine (by omega)).mono ?_
  rintro e w' ⟨rfl, ht⟩
  exact ⟨rfl, h.to ht (fine_step h.fine (x := ⟨4, nm, [], [], 0, []⟩) (show (0 : Int) ≤ 9223372036854775807 by decide))⟩
theorem move_dk (h : Dk w b D S) (nm nt : List UInt8) (hnm : nm.length ≤ 1000) (hto : nt.length ≤ 1000) :
    Calls Tryz.prog 163 #[.pointer (some ⟨b, 0, none⟩), .string (str nm), .string (str nt)] w fun e w' => e = .returned (.int .i64 (PlainDisk.move may D nm nt).2) ∧ DkTo w w' b (PlainDisk.move may D nm nt).1 S := by
  refine (move_act b nm nt D S w h.is h.fine (by omega) (by omega)).mono ?_
  rintro e w' ⟨rfl, ht⟩
  exact ⟨rfl, h.to ht (fine_step h.fine (x := ⟨3, nm, nt, [], 0, []⟩) (show (0 : Int) ≤ 9223372036854775807 by decide))⟩
theorem sure_dk (h : Dk w b D S) (nm : List UInt8) (hnm : nm.length ≤ 1000) :
    Calls Tryz.prog 56 #[.pointer (some ⟨b, 0, none⟩), .string (str nm)] w fun e w' => e = .returned (.int .i64 (PWal.sureB D nm : Nat)) ∧ w = w' := by
  obtain ⟨mv, ar, lf, ps, hb, hS, hfs, har, hfl⟩ := h.is
  refine (sure_any (nm := nm) hb hfl.maps hfl.sl (by omega)).mono ?_
  rintro e w' ⟨rfl, rfl⟩
  refine ⟨?_, rfl⟩
  unfold PWal.sureB
  rw [hfs, ← findV_fst, Option.map_map]; rfl
theorem files_dk (h : Dk w b D S) :
    Calls Tryz.prog 45 #[.pointer (some ⟨b, 0, none⟩)] w fun e w' => ∃ v, e = .returned v ∧ OwnS w' w.heap.size v (D.fs.map (·.name)) ∧ Below w.heap.size w w' :=
  files_is h.is h.fine.inv.sorted (by have := h.fine.inv.many; omega)
theorem Boxed.at1 {W V V' : World} {k : Nat} {a : Value} (h : Boxed w W b k a D S) (hS : ∀ k, S k → k < w.heap.size) (hV : Below W.heap.size W V) (hf : Fr S V V') :
    V'.cell? ⟨w.heap.size, 0, none⟩ = some (.pointer (some ⟨b, 0, none⟩)) ∧ V'.cell? ⟨w.heap.size, 1, none⟩ = some (.func (Fn.func k) #[a] #[]) := by
  have hlt : w.heap.size < W.heap.size := by rw [← h.eq]; simp
  have e := hf.block w.heap.size (by have := hV.size; omega) (fun q => by have := hS _ q; omega)
  obtain ⟨q1, q2⟩ := h.at0 V hV
  exact ⟨(World.cell?_of_block (w := V) e).trans q1, (World.cell?_of_block (w := V) e).trans q2⟩
theorem DkTo.fr {w w' : World} {D' : Disk} (h : DkTo w w' b D' S) : Fr S w w' := h.choose_spec.2.2
end

/-! a step on a file: it answers an error, and the disk has become r.1 -/
def StepP (r : Disk × Int) (b : Nat) (S : Nat → Prop) (w : World) (e : Ending) (w' : World) : Prop := e = .returned (.int .i64 r.2) ∧ DkTo w w' b r.1 S

set_option maxHeartbeats 1000000 in
theorem sync1_84 {w : World} {b : Nat} {D : Disk} {S : Nat → Prop} (h : Dk w b D S) {a : Value} {nm : List UInt8} (hl : nm.length ≤ 1000) (hk : Tells 84 a nm) :
    Calls Tryz.prog 123 #[fvl b (.func (Fn.func 84) #[a] #[])] w (StepP (PlainDisk.sync may D nm) b S w) := by
  have hS := fun k hk => (h.blk k hk).2
  obtain ⟨W, BX⟩ := boxed h 84 a
  have HX := Lib.hid BX
  unfold Tells at hk
  have HK := Lib.hid hk
  have HS := Lib.hid hS
  clear h hk BX hS
  unfold fvl
  go_enter Tryz.func123, Tryz.ntmps123
  go_wp2_with fail
  rw [HX.out.eq]
  have E0 : Hid (Below W.heap.size W W.drew) := Lib.hid (Below.refl _ W).drew
  obtain ⟨e1, e2⟩ := HX.out.at0 W.drew E0.out
  go_region_held3 (fun V => V.cell? ⟨w.heap.size, 0, none⟩ = some (.pointer (some ⟨b, 0, none⟩)) ∧ V.cell? ⟨w.heap.size, 1, none⟩ = some (.func (Fn.func 84) #[a] #[]))
    (first | exact ⟨e1, e2⟩ | exact ⟨f1, f2⟩)
    (first
      | (go_at_call 162; (with_reducible refine (sync_dk (HX.out.dk.below E1.out) nm hl).mono ?_); rintro e w2 ⟨rfl, to2⟩; have T2 : Hid (DkTo W w2 b (PlainDisk.sync may D nm).1 S) := Lib.hid (to2.before E1.out); obtain ⟨f1, f2⟩ := HX.out.at1 HS.out E1.out to2.fr; clear to2)
      | (go_at_call 84; (with_reducible refine (HK.out W.drew (HX.out.dk.glob.belows E0.out)).mono ?_); rintro e w1 ⟨rfl, b1⟩; have E1 : Hid (Below W.heap.size W w1) := Lib.hid (E0.out.trans b1); clear b1; obtain ⟨f1, f2⟩ := HX.out.at0 w1 E1.out))
  all_goals
    go_wp2_with fail
    go_ret
    exact ⟨rfl, T2.out.before HX.out.below⟩
set_option maxHeartbeats 1000000 in
theorem sync1_82 {w : World} {b : Nat} {D : Disk} {S : Nat → Prop} (h : Dk w b D S) {a : Value} {nm : List UInt8} (hl : nm.length ≤ 1000) (hk : Tells 82 a nm) :
    Calls Tryz.prog 123 #[fvl b (.func (Fn.func 82) #[a] #[])] w (StepP (PlainDisk.sync may D nm) b S w) := by
  have hS := fun k hk => (h.blk k hk).2
  obtain ⟨W, BX⟩ := boxed h 82 a
  have HX := Lib.hid BX
  unfold Tells at hk
  have HK := Lib.hid hk
  have HS := Lib.hid hS
  clear h hk BX hS
  unfold fvl
  go_enter Tryz.func123, Tryz.ntmps123
  go_wp2_with fail
  rw [HX.out.eq]
  have E0 : Hid (Below W.heap.size W W.drew) := Lib.hid (Below.refl _ W).drew
  obtain ⟨e1, e2⟩ := HX.out.at0 W.drew E0.out
  go_region_held3 (fun V => V.cell? ⟨w.heap.size, 0, none⟩ = some (.pointer (some ⟨b, 0, none⟩)) ∧ V.cell? ⟨w.heap.size, 1, none⟩ = some (.func (Fn.func 82) #[a] #[]))
    (first | exact ⟨e1, e2⟩ | exact ⟨f1, f2⟩)
    (first
      | (go_at_call 162; (with_reducible refine (sync_dk (HX.out.dk.below E1.out) nm hl).mono ?_); rintro e w2 ⟨rfl, to2⟩; have T2 : Hid (DkTo W w2 b (PlainDisk.sync may D nm).1 S) := Lib.hid (to2.before E1.out); obtain ⟨f1, f2⟩ := HX.out.at1 HS.out E1.out to2.fr; clear to2)
      | (go_at_call 82; (with_reducible refine (HK.out W.drew (HX.out.dk.glob.belows E0.out)).mono ?_); rintro e w1 ⟨rfl, b1⟩; have E1 : Hid (Below W.heap.size W w1) := Lib.hid (E0.out.trans b1); clear b1; obtain ⟨f1, f2⟩ := HX.out.at0 w1 E1.out))
  all_goals
    go_wp2_with fail
    go_ret
    exact ⟨rfl, T2.out.before HX.out.below⟩
set_option maxHeartbeats 1000000 in
theorem sync1_69 {w : World} {b : Nat} {D : Disk} {S : Nat → Prop} (h : Dk w b D S) {a : Value} {nm : List UInt8} (hl : nm.length ≤ 1000) (hk : Tells 69 a nm) :
    Calls Tryz.prog 123 #[fvl b (.func (Fn.func 69) #[a] #[])] w (StepP (PlainDisk.sync may D nm) b S w) := by
  have hS := fun k hk => (h.blk k hk).2
  obtain ⟨W, BX⟩ := boxed h 69 a
  have HX := Lib.hid BX
  unfold Tells at hk
  have HK := Lib.hid hk
  have HS := Lib.hid hS
  clear h hk BX hS
  unfold fvl
  go_enter Tryz.func123, Tryz.ntmps123
  go_wp2_with fail
  rw [HX.out.eq]
  have E0 : Hid (Below W.heap.size W W.drew) := Lib.hid (Below.refl _ W).drew
  obtain ⟨e1, e2⟩ := HX.out.at0 W.drew E0.out
  go_region_held3 (fun V => V.cell? ⟨w.heap.size, 0, none⟩ = some (.pointer (some ⟨b, 0, none⟩)) ∧ V.cell? ⟨w.heap.size, 1, none⟩ = some (.func (Fn.func 69) #[a] #[]))
    (first | exact ⟨e1, e2⟩ | exact ⟨f1, f2⟩)
    (first
      | (go_at_call 162; (with_reducible refine (sync_dk (HX.out.dk.below E1.out) nm hl).mono ?_); rintro e w2 ⟨rfl, to2⟩; have T2 : Hid (DkTo W w2 b (PlainDisk.sync may D nm).1 S) := Lib.hid (to2.before E1.out); obtain ⟨f1, f2⟩ := HX.out.at1 HS.out E1.out to2.fr; clear to2)
      | (go_at_call 69; (with_reducible refine (HK.out W.drew (HX.out.dk.glob.belows E0.out)).mono ?_); rintro e w1 ⟨rfl, b1⟩; have E1 : Hid (Below W.heap.size W w1) := Lib.hid (E0.out.trans b1); clear b1; obtain ⟨f1, f2⟩ := HX.out.at0 w1 E1.out))
  all_goals
    go_wp2_with fail
    go_ret
    exact ⟨rfl, T2.out.before HX.out.below⟩
end Go.Proofs.YtjcikhacekmcfaaGreatDoor
namespace Go.Proofs.YtjcikhacekmcfaaGreatDoor
open Go.RowKit
open PlainDisk (File Disk)
set_option linter.unusedVariables false
set_option maxRecDepth 100000

def ThereP (D : Disk) (nm : List UInt8) (w : World) (e : Ending) (w' : World) : Prop := e = .returned (.bool (decide (¬ PlainDisk.find D.fs nm = none))) ∧ Below w.heap.size w w'

set_option maxHeartbeats 1000000 in
theorem append1_84 {w : World} {b : Nat} {D : Disk} {S : Nat → Prop} (h : Dk w b D S) {a : Value} {nm : List UInt8} (hl : nm.length ≤ 1000) (hk : Tells 84 a nm) (bs : List UInt8) (vb : Value) (hvb : Src w vb bs b) :
    Calls Tryz.prog 118 #[fvl b (.func (Fn.func 84) #[a] #[]), vb] w (StepP (PlainDisk.append may D nm bs) b S w) := by
  have hS := fun k hk => (h.blk k hk).2
  obtain ⟨W, BX⟩ := boxed h 84 a
  obtain ⟨A, c, rfl, _⟩ := id hvb
  have HV : Hid (Src W (.slice A bs.length c) bs b) := Lib.hid (hvb.keep fun k hk _ => BX.below.block k hk)
  have HX := Lib.hid BX
  unfold Tells at hk
  have HK := Lib.hid hk
  have HS := Lib.hid hS
  clear h hk BX hS hvb
  unfold fvl
  go_enter Tryz.func118, Tryz.ntmps118
  go_wp2_with fail
  rw [HX.out.eq]
  have E0 : Hid (Below W.heap.size W W.drew) := Lib.hid (Below.refl _ W).drew
  obtain ⟨e1, e2⟩ := HX.out.at0 W.drew E0.out
  go_region_held3 (fun V => V.cell? ⟨w.heap.size, 0, none⟩ = some (.pointer (some ⟨b, 0, none⟩)) ∧ V.cell? ⟨w.heap.size, 1, none⟩ = some (.func (Fn.func 84) #[a] #[]))
    (first | exact ⟨e1, e2⟩ | exact ⟨f1, f2⟩)
    (first
      | (go_at_call 25; (with_reducible refine (append_dk (HX.out.dk.below E1.out) nm bs _ hl (HV.out.keep fun k hk _ => E1.out.block k hk)).mono ?_); rintro e w2 ⟨rfl, to2⟩; have T2 : Hid (DkTo W w2 b (PlainDisk.append may D nm bs).1 S) := Lib.hid (to2.before E1.out); obtain ⟨f1, f2⟩ := HX.out.at1 HS.out E1.out to2.fr; clear to2)
      | (go_at_call 84; (with_reducible refine (HK.out W.drew (HX.out.dk.glob.belows E0.out)).mono ?_); rintro e w1 ⟨rfl, b1⟩; have E1 : Hid (Below W.heap.size W w1) := Lib.hid (E0.out.trans b1); clear b1; obtain ⟨f1, f2⟩ := HX.out.at0 w1 E1.out))
  all_goals
    go_wp2_with fail
    go_ret
    exact ⟨rfl, T2.out.before HX.out.below⟩

set_option maxHeartbeats 1000000 in
theorem there84 {w : World} {b : Nat} {D : Disk} {S : Nat → Prop} (h : Dk w b D S) {a : Value} {nm : List UInt8} (hl : nm.length ≤ 1000) (hk : Tells 84 a nm) :
    Calls Tryz.prog 132 #[fvl b (.func (Fn.func 84) #[a] #[])] w (ThereP D nm w) := by
  obtain ⟨W, BX⟩ := boxed h 84 a
  have HX := Lib.hid BX
  unfold Tells at hk
  have HK := Lib.hid hk
  clear h hk BX
  obtain ⟨r, v, hr, hv, hrv⟩ : ∃ (r : Int) (v : Bool), rdE D nm = r ∧ decide (¬ PlainDisk.find D.fs nm = none) = v ∧ ((r = 0 ∧ v = true) ∨ (r = 10 ∧ v = false)) := by
    refine ⟨_, _, rfl, rfl, ?_⟩
    unfold rdE
    by_cases hc : PlainDisk.find D.fs nm = none
    · right; rw [if_pos hc]; exact ⟨rfl, by simp [hc]⟩
    · left; rw [if_neg hc]; exact ⟨rfl, by simp [hc]⟩
  have HR := Lib.hid hr
  unfold ThereP
  rw [hv]
  clear hr hv
  unfold fvl
  rcases hrv with ⟨rfl, rfl⟩ | ⟨rfl, rfl⟩
  all_goals
    go_enter Tryz.func132, Tryz.ntmps132
    go_wp2_with fail
    rw [HX.out.eq]
    have E0 : Hid (Below W.heap.size W W.drew) := Lib.hid (Below.refl _ W).drew
    obtain ⟨e1, e2⟩ := HX.out.at0 W.drew E0.out
    go_region_held3 (fun V => V.cell? ⟨w.heap.size, 0, none⟩ = some (.pointer (some ⟨b, 0, none⟩)) ∧ V.cell? ⟨w.heap.size, 1, none⟩ = some (.func (Fn.func 84) #[a] #[]))
      (first | exact ⟨e1, e2⟩ | exact ⟨f1, f2⟩)
      (first
        | (go_at_call 55; (with_reducible refine (read_disk (HX.out.dk.below E1.out) nm hl).mono ?_); rintro e w2 ⟨A, c, rfl, own, bel⟩; rw [HR.out]; have E2 : Hid (Below W.heap.size W w2) := Lib.hid (E1.out.trans (bel.mono E1.out.size)); clear own bel; obtain ⟨f1, f2⟩ := HX.out.at0 w2 E2.out)
        | (go_at_call 84; (with_reducible refine (HK.out W.drew (HX.out.dk.glob.belows E0.out)).mono ?_); rintro e w1 ⟨rfl, b1⟩; have E1 : Hid (Below W.heap.size W w1) := Lib.hid (E0.out.trans b1); clear b1; obtain ⟨f1, f2⟩ := HX.out.at0 w1 E1.out))
    all_goals
      go_wp2_with fail
      go_ret
      exact ⟨rfl, HX.out.below.trans (E2.out.mono HX.out.below.size)⟩
set_option maxHeartbeats 1000000 in
theorem append1_82 {w : World} {b : Nat} {D : Disk} {S : Nat → Prop} (h : Dk w b D S) {a : Value} {nm : List UInt8} (hl : nm.length ≤ 1000) (hk : Tells 82 a nm) (bs : List UInt8) (vb : Value) (hvb : Src w vb bs b) :
    Calls Tryz.prog 118 #[fvl b (.func (Fn.func 82) #[a] #[]), vb] w (StepP (PlainDisk.append may D nm bs) b S w) := by
  have hS := fun k hk => (h.blk k hk).2
  obtain ⟨W, BX⟩ := boxed h 82 a
  obtain ⟨A, c, rfl, _⟩ := id hvb
  have HV : Hid (Src W (.slice A bs.length c) bs b) := Lib.hid (hvb.keep fun k hk _ => BX.below.block k hk)
  have HX := Lib.hid BX
  unfold Tells at hk
  have HK := Lib.hid hk
  have HS := Lib.hid hS
  clear h hk BX hS hvb
  unfold fvl
  go_enter Tryz.func118, Tryz.ntmps118
  go_wp2_with fail
  rw [HX.out.eq]
  have E0 : Hid (Below W.heap.size W W.drew) := Lib.hid (Below.refl _ W).drew
  obtain ⟨e1, e2⟩ := HX.out.at0 W.drew E0.out
  go_region_held3 (fun V => V.cell? ⟨w.heap.size, 0, none⟩ = some (.pointer (some ⟨b, 0, none⟩)) ∧ V.cell? ⟨w.heap.size, 1, none⟩ = some (.func (Fn.func 82) #[a] #[]))
    (first | exact ⟨e1, e2⟩ | exact ⟨f1, f2⟩)
    (first
      | (go_at_call 25; (with_reducible refine (append_dk (HX.out.dk.below E1.out) nm bs _ hl (HV.out.keep fun k hk _ => E1.out.block k hk)).mono ?_); rintro e w2 ⟨rfl, to2⟩; have T2 : Hid (DkTo W w2 b (PlainDisk.append may D nm bs).1 S) := Lib.hid (to2.before E1.out); obtain ⟨f1, f2⟩ := HX.out.at1 HS.out E1.out to2.fr; clear to2)
      | (go_at_call 82; (with_reducible refine (HK.out W.drew (HX.out.dk.glob.belows E0.out)).mono ?_); rintro e w1 ⟨rfl, b1⟩; have E1 : Hid (Below W.heap.size W w1) := Lib.hid (E0.out.trans b1); clear b1; obtain ⟨f1, f2⟩ := HX.out.at0 w1 E1.out))
  all_goals
    go_wp2_with fail
    go_ret
    exact ⟨rfl, T2.out.before HX.out.below⟩

set_option maxHeartbeats 1000000 in
theorem there82 {w : World} {b : Nat} {D : Disk} {S : Nat → Prop} (h : Dk w b D S) {a : Value} {nm : List UInt8} (hl : nm.length ≤ 1000) (hk : Tells 82 a nm) :
    Calls Tryz.prog 132 #[fvl b (.func (Fn.func 82) #[a] #[])] w (ThereP D nm w) := by
  obtain ⟨W, BX⟩ := boxed h 82 a
  have HX := Lib.hid BX
  unfold Tells at hk
  have HK := Lib.hid hk
  clear h hk BX
  obtain ⟨r, v, hr, hv, hrv⟩ : ∃ (r : Int) (v : Bool), rdE D nm = r ∧ decide (¬ PlainDisk.find D.fs nm = none) = v ∧ ((r = 0 ∧ v = true) ∨ (r = 10 ∧ v = false)) := by
    refine ⟨_, _, rfl, rfl, ?_⟩
    unfold rdE
    by_cases hc : PlainDisk.find D.fs nm = none
    · right; rw [if_pos hc]; exact ⟨rfl, by simp [hc]⟩
    · left; rw [if_neg hc]; exact ⟨rfl, by simp [hc]⟩
  have HR := Lib.hid hr
  unfold ThereP
  rw [hv]
  clear hr hv
  unfold fvl
  rcases hrv with ⟨rfl, rfl⟩ | ⟨rfl, rfl⟩
  all_goals
    go_enter Tryz.func132, Tryz.ntmps132
    go_wp2_with fail
    rw [HX.out.eq]
    have E0 : Hid (Below W.heap.size W W.drew) := Lib.hid (Below.refl _ W).drew
    obtain ⟨e1, e2⟩ := HX.out.at0 W.drew E0.out
    go_region_held3 (fun V => V.cell? ⟨w.heap.size, 0, none⟩ = some (.pointer (some ⟨b, 0, none⟩)) ∧ V.cell? ⟨w.heap.size, 1, none⟩ = some (.func (Fn.func 82) #[a] #[]))
      (first | exact ⟨e1, e2⟩ | exact ⟨f1, f2⟩)
      (first
        | (go_at_call 55; (with_reducible refine (read_disk (HX.out.dk.below E1.out) nm hl).mono ?_); rintro e w2 ⟨A, c, rfl, own, bel⟩; rw [HR.out]; have E2 : Hid (Below W.heap.size W w2) := Lib.hid (E1.out.trans (bel.mono E1.out.size)); clear own bel; obtain ⟨f1, f2⟩ := HX.out.at0 w2 E2.out)
        | (go_at_call 82; (with_reducible refine (HK.out W.drew (HX.out.dk.glob.belows E0.out)).mono ?_); rintro e w1 ⟨rfl, b1⟩; have E1 : Hid (Below W.heap.size W w1) := Lib.hid (E0.out.trans b1); clear b1; obtain ⟨f1, f2⟩ := HX.out.at0 w1 E1.out))
    all_goals
      go_wp2_with fail
      go_ret
      exact ⟨rfl, HX.out.below.trans (E2.out.mono HX.out.below.size)⟩
set_option maxHeartbeats 1000000 in
theorem append1_69 {w : World} {b : Nat} {D : Disk} {S : Nat → Prop} (h : Dk w b D S) {a : Value} {nm : List UInt8} (hl : nm.length ≤ 1000) (hk : Tells 69 a nm) (bs : List UInt8) (vb : Value) (hvb : Src w vb bs b) :
    Calls Tryz.prog 118 #[fvl b (.func (Fn.func 69) #[a] #[]), vb] w (StepP (PlainDisk.append may D nm bs) b S w) := by
  have hS := fun k hk => (h.blk k hk).2
  obtain ⟨W, BX⟩ := boxed h 69 a
  obtain ⟨A, c, rfl, _⟩ := id hvb
  have HV : Hid (Src W (.slice A bs.length c) bs b) := Lib.hid (hvb.keep fun k hk _ => BX.below.block k hk)
  have HX := Lib.hid BX
  unfold Tells at hk
  have HK := Lib.hid hk
  have HS := Lib.hid hS
  clear h hk BX hS hvb
  unfold fvl
  go_enter Tryz.func118, Tryz.ntmps118
  go_wp2_with fail
  rw [HX.out.eq]
  have E0 : Hid (Below W.heap.size W W.drew) := Lib.hid (Below.refl _ W).drew
  obtain ⟨e1, e2⟩ := HX.out.at0 W.drew E0.out
  go_region_held3 (fun V => V.cell? ⟨w.heap.size, 0, none⟩ = some (.pointer (some ⟨b, 0, none⟩)) ∧ V.cell? ⟨w.heap.size, 1, none⟩ = some (.func (Fn.func 69) #[a] #[]))
    (first | exact ⟨e1, e2⟩ | exact ⟨f1, f2⟩)
    (first
      | (go_at_call 25; (with_reducible refine (append_dk (HX.out.dk.below E1.out) nm bs _ hl (HV.out.keep fun k hk _ => E1.out.block k hk)).mono ?_); rintro e w2 ⟨rfl, to2⟩; have T2 : Hid (DkTo W w2 b (PlainDisk.append may D nm bs).1 S) := Lib.hid (to2.before E1.out); obtain ⟨f1, f2⟩ := HX.out.at1 HS.out E1.out to2.fr; clear to2)
      | (go_at_call 69; (with_reducible refine (HK.out W.drew (HX.out.dk.glob.belows E0.out)).mono ?_); rintro e w1 ⟨rfl, b1⟩; have E1 : Hid (Below W.heap.size W w1) := Lib.hid (E0.out.trans b1); clear b1; obtain ⟨f1, f2⟩ := HX.out.at0 w1 E1.out))
  all_goals
    go_wp2_with fail
    go_ret
    exact ⟨rfl, T2.out.before HX.out.below⟩

set_option maxHeartbeats 1000000 in
theorem there69 {w : World} {b : Nat} {D : Disk} {S : Nat → Prop} (h : Dk w b D S) {a : Value} {nm : List UInt8} (hl : nm.length ≤ 1000) (hk : Tells 69 a nm) :
    Calls Tryz.prog 132 #[fvl b (.func (Fn.func 69) #[a] #[])] w (ThereP D nm w) := by
  obtain ⟨W, BX⟩ := boxed h 69 a
  have HX := Lib.hid BX
  unfold Tells at hk
  have HK := Lib.hid hk
  clear h hk BX
  obtain ⟨r, v, hr, hv, hrv⟩ : ∃ (r : Int) (v : Bool), rdE D nm = r ∧ decide (¬ PlainDisk.find D.fs nm = none) = v ∧ ((r = 0 ∧ v = true) ∨ (r = 10 ∧ v = false)) := by
    refine ⟨_, _, rfl, rfl, ?_⟩
    unfold rdE
    by_cases hc : PlainDisk.find D.fs nm = none
    · right; rw [if_pos hc]; exact ⟨rfl, by simp [hc]⟩
    · left; rw [if_neg hc]; exact ⟨rfl, by simp [hc]⟩
  have HR := Lib.hid hr
  unfold ThereP
  rw [hv]
  clear hr hv
  unfold fvl
  rcases hrv with ⟨rfl, rfl⟩ | ⟨rfl, rfl⟩
  all_goals
    go_enter Tryz.func132, Tryz.ntmps132
    go_wp2_with fail
    rw [HX.out.eq]
    have E0 : Hid (Below W.heap.size W W.drew) := Lib.hid (Below.refl _ W).drew
    obtain ⟨e1, e2⟩ := HX.out.at0 W.drew E0.out
    go_region_held3 (fun V => V.cell? ⟨w.heap.size, 0, none⟩ = some (.pointer (some ⟨b, 0, none⟩)) ∧ V.cell? ⟨w.heap.size, 1, none⟩ = some (.func (Fn.func 69) #[a] #[]))
      (first | exact ⟨e1, e2⟩ | exact ⟨f1, f2⟩)
      (first
        | (go_at_call 55; (with_reducible refine (read_disk (HX.out.dk.below E1.out) nm hl).mono ?_); rintro e w2 ⟨A, c, rfl, own, bel⟩; rw [HR.out]; have E2 : Hid (Below W.heap.size W w2) := Lib.hid (E1.out.trans (bel.mono E1.out.size)); clear own bel; obtain ⟨f1, f2⟩ := HX.out.at0 w2 E2.out)
        | (go_at_call 69; (with_reducible refine (HK.out W.drew (HX.out.dk.glob.belows E0.out)).mono ?_); rintro e w1 ⟨rfl, b1⟩; have E1 : Hid (Below W.heap.size W w1) := Lib.hid (E0.out.trans b1); clear b1; obtain ⟨f1, f2⟩ := HX.out.at0 w1 E1.out))
    all_goals
      go_wp2_with fail
      go_ret
      exact ⟨rfl, HX.out.below.trans (E2.out.mono HX.out.below.size)⟩
end Go.Proofs.YtjcikhacekmcfaaGreatDoor
namespace Go.Proofs.YtjcikhacekmcfaaGreatDoor
open Go.RowKit
open PlainDisk (File Disk)
set_option linter.unusedVariables false
set_option maxRecDepth 100000

section
variable {w : World} {b : Nat} {D : Disk} {S : Nat → Prop}
theorem sync_file (h : Dk w b D S) {nv : Value} {nm : List UInt8} (hn : NameIs nv nm) : Calls Tryz.prog 123 #[fvl b nv] w (StepP (PlainDisk.sync may D nm) b S w) := by
  obtain ⟨hl, k, a, rfl, h3, hk⟩ := hn
  rcases h3 with rfl | rfl | rfl
  · exact sync1_84 h hl hk
  · exact sync1_82 h hl hk
  · exact sync1_69 h hl hk
theorem append_file (h : Dk w b D S) {nv : Value} {nm : List UInt8} (hn : NameIs nv nm) (bs : List UInt8) (vb : Value) (hvb : Src w vb bs b) : Calls Tryz.prog 118 #[fvl b nv, vb] w (StepP (PlainDisk.append may D nm bs) b S w) := by
  obtain ⟨hl, k, a, rfl, h3, hk⟩ := hn
  rcases h3 with rfl | rfl | rfl
  · exact append1_84 h hl hk bs vb hvb
  · exact append1_82 h hl hk bs vb hvb
  · exact append1_69 h hl hk bs vb hvb
theorem there_file (h : Dk w b D S) {nv : Value} {nm : List UInt8} (hn : NameIs nv nm) : Calls Tryz.prog 132 #[fvl b nv] w (ThereP D nm w) := by
  obtain ⟨hl, k, a, rfl, h3, hk⟩ := hn
  rcases h3 with rfl | rfl | rfl
  · exact there84 h hl hk
  · exact there82 h hl hk
  · exact there69 h hl hk
theorem store_fn (a : Addr) (fn : Fn) (x y : Array Value) (m : Mode) (W : World) : (store a (.func fn x y) m).run Tryz.prog W = stored Tryz.prog W a (.func fn x y) m := run_store Tryz.prog W a _ m rfl
theorem file_any {bw : Nat} {nv : Value} {nm : List UInt8} (hn : NameIs nv nm) (hc : w.cell? ⟨bw, 0, none⟩ = some (.pointer (some ⟨b, 0, none⟩))) :
    Calls Tryz.prog 68 #[.pointer (some ⟨bw, 0, none⟩), nv] w fun e w' => e = .returned (fvl b nv) ∧ Below w.heap.size w w' := by
  obtain ⟨hl, k, a, rfl, _, _⟩ := hn
  have hlt := World.block_lt_of_cell? w _ hc
  have hbld := fun (p : Option Addr) (fn : Fn) (x y : Array Value) (W : World) => (run_build W 121 #[(0, Value.pointer p), (1, Value.func fn x y)] _ (by kernel_rfl) : (Instr.build 121 #[(0, .pointer p), (1, .func fn x y)]).run Tryz.prog W = .ok (.agg #[.pointer p, .func fn x y]) W)
  have hst := store_fn
  unfold fvl
  go_enter Tryz.func68, Tryz.ntmps68
  go_wp2_with fail
  exact bodyPost_ret (v := .agg #[.pointer (some ⟨b, 0, none⟩), .func (Fn.func k) #[a] #[]]) (by simp [results, Tryz.results68, go_sem]) rfl ⟨rfl, below_new _ _⟩
end

set_option maxHeartbeats 1000000 in
theorem settle1_84 {w : World} {b : Nat} {D : Disk} {S : Nat → Prop} (h : Dk w b D S) {a : Value} {nm : List UInt8} (hl : nm.length ≤ 1000) (hk : Tells 84 a nm) :
    Calls Tryz.prog 70 #[fvl b (.func (Fn.func 84) #[a] #[])] w (StepP (PWal.settle D nm) b S w) := by
  have hN : NameIs (.func (Fn.func 84) #[a] #[]) nm := ⟨hl, 84, a, rfl, by simp, hk⟩
  have HRD := Lib.hid (fun (V : World) (hb : Below (w.alloc (.cells #[.pointer (some ⟨b, 0, none⟩), .func (Fn.func 84) #[a] #[]] 121)).heap.size (w.alloc (.cells #[.pointer (some ⟨b, 0, none⟩), .func (Fn.func 84) #[a] #[]] 121)) V) => (show Calls Tryz.prog 85 #[.agg #[.pointer (some ⟨b, 0, none⟩), .func (Fn.func 84) #[a] #[]]] V (ReadP (PWal.rdB D nm) V) from read_any2 ((h.below (below_new _ _)).below hb) hN))
  have HSY := Lib.hid (fun (V : World) (hb : Below (w.alloc (.cells #[.pointer (some ⟨b, 0, none⟩), .func (Fn.func 84) #[a] #[]] 121)).heap.size (w.alloc (.cells #[.pointer (some ⟨b, 0, none⟩), .func (Fn.func 84) #[a] #[]] 121)) V) => (show Calls Tryz.prog 123 #[.agg #[.pointer (some ⟨b, 0, none⟩), .func (Fn.func 84) #[a] #[]]] V (StepP (PlainDisk.sync may D nm) b S V) from sync_file ((h.below (below_new _ _)).below hb) hN))
  obtain ⟨W, BX⟩ := boxed h 84 a
  have HX := Lib.hid BX
  rw [BX.eq] at HRD HSY
  unfold Tells at hk
  have HK := Lib.hid hk
  clear h hk BX hN
  have HQ : ∃ sN lN : Nat, PWal.sureB D nm = sN ∧ (PWal.rdB D nm).length = lN ∧ ((sN = lN ∧ PWal.settle D nm = (D, 0)) ∨ ((¬ (sN : Int) = (lN : Int)) ∧ PWal.settle D nm = PlainDisk.sync may D nm)) := by
    refine ⟨_, _, rfl, rfl, ?_⟩
    unfold PWal.settle
    by_cases hc : PWal.sureB D nm = (PWal.rdB D nm).length
    · left; rw [if_pos hc]; exact ⟨hc, rfl⟩
    · right; rw [if_neg hc]; exact ⟨by omega, rfl⟩
  obtain ⟨sN, lN, hs, hlN, hcase⟩ := HQ
  have HSN := Lib.hid hs
  have HLN := Lib.hid hlN
  clear hs hlN
  unfold fvl
  rcases hcase with ⟨rfl, e0⟩ | ⟨hne, e0⟩
  all_goals
    rw [e0]
    clear e0
    go_enter Tryz.func70, Tryz.ntmps70
    go_wp2_with fail
    rw [HX.out.eq]
    have E0 : Hid (Below W.heap.size W W.drew) := Lib.hid (Below.refl _ W).drew
    obtain ⟨e1, e2⟩ := HX.out.at0 W.drew E0.out
    go_region_held3 (fun V => V.cell? ⟨w.heap.size, 0, none⟩ = some (.pointer (some ⟨b, 0, none⟩)) ∧ V.cell? ⟨w.heap.size, 1, none⟩ = some (.func (Fn.func 84) #[a] #[]))
      (first | exact ⟨e1, e2⟩ | exact ⟨f1, f2⟩)
      (first
        | (go_at_call 56; (with_reducible refine (sure_dk (HX.out.dk.below E1.out) nm hl).mono ?_); rintro e w2 ⟨rfl, rfl⟩; rw [HSN.out])
        | (go_at_call 85; (with_reducible refine (HRD.out w1 E1.out).mono ?_); rintro e w3 ⟨A, c, rfl, own, bel⟩; rw [HLN.out]; have E2 : Hid (Below W.heap.size W w3) := Lib.hid (E1.out.trans (bel.mono E1.out.size)); clear own bel; obtain ⟨f1, f2⟩ := HX.out.at0 w3 E2.out)
        | (go_at_call 84; (with_reducible refine (HK.out W.drew (HX.out.dk.glob.belows E0.out)).mono ?_); rintro e w1 ⟨rfl, b1⟩; have E1 : Hid (Below W.heap.size W w1) := Lib.hid (E0.out.trans b1); clear b1; obtain ⟨f1, f2⟩ := HX.out.at0 w1 E1.out))
    all_goals
      go_wp2_with fail
      first
        | (go_ret; exact ⟨rfl, HX.out.dk.stays E2.out |>.before HX.out.below⟩)
        | (refine (HSY.out w3 E2.out).mono ?_
           rintro e w4 ⟨rfl, to4⟩
           have T4 : Hid (DkTo W w4 b (PlainDisk.sync may D nm).1 S) := Lib.hid (to4.before E2.out)
           clear to4
           go_wp2_with fail
           go_ret
           exact ⟨rfl, T4.out.before HX.out.below⟩)
set_option maxHeartbeats 1000000 in
theorem settle1_82 {w : World} {b : Nat} {D : Disk} {S : Nat → Prop} (h : Dk w b D S) {a : Value} {nm : List UInt8} (hl : nm.length ≤ 1000) (hk : Tells 82 a nm) :
    Calls Tryz.prog 70 #[fvl b (.func (Fn.func 82) #[a] #[])] w (StepP (PWal.settle D nm) b S w) := by
  have hN : NameIs (.func (Fn.func 82) #[a] #[]) nm := ⟨hl, 82, a, rfl, by simp, hk⟩
  have HRD := Lib.hid (fun (V : World) (hb : Below (w.alloc (.cells #[.pointer (some ⟨b, 0, none⟩), .func (Fn.func 82) #[a] #[]] 121)).heap.size (w.alloc (.cells #[.pointer (some ⟨b, 0, none⟩), .func (Fn.func 82) #[a] #[]] 121)) V) => (show Calls Tryz.prog 85 #[.agg #[.pointer (some ⟨b, 0, none⟩), .func (Fn.func 82) #[a] #[]]] V (ReadP (PWal.rdB D nm) V) from read_any2 ((h.below (below_new _ _)).below hb) hN))
  have HSY := Lib.hid (fun (V : World) (hb : Below (w.alloc (.cells #[.pointer (some ⟨b, 0, none⟩), .func (Fn.func 82) #[a] #[]] 121)).heap.size (w.alloc (.cells #[.pointer (some ⟨b, 0, none⟩), .func (Fn.func 82) #[a] #[]] 121)) V) => (show Calls Tryz.prog 123 #[.agg #[.pointer (some ⟨b, 0, none⟩), .func (Fn.func 82) #[a] #[]]] V (StepP (PlainDisk.sync may D nm) b S V) from sync_file ((h.below (below_new _ _)).below hb) hN))
  obtain ⟨W, BX⟩ := boxed h 82 a
  have HX := Lib.hid BX
  rw [BX.eq] at HRD HSY
  unfold Tells at hk
  have HK := Lib.hid hk
  clear h hk BX hN
  have HQ : ∃ sN lN : Nat, PWal.sureB D nm = sN ∧ (PWal.rdB D nm).length = lN ∧ ((sN = lN ∧ PWal.settle D nm = (D, 0)) ∨ ((¬ (sN : Int) = (lN : Int)) ∧ PWal.settle D nm = PlainDisk.sync may D nm)) := by
    refine ⟨_, _, rfl, rfl, ?_⟩
    unfold PWal.settle
    by_cases hc : PWal.sureB D nm = (PWal.rdB D nm).length
    · left; rw [if_pos hc]; exact ⟨hc, rfl⟩
    · right; rw [if_neg hc]; exact ⟨by omega, rfl⟩
  obtain ⟨sN, lN, hs, hlN, hcase⟩ := HQ
  have HSN := Lib.hid hs
  have HLN := Lib.hid hlN
  clear hs hlN
  unfold fvl
  rcases hcase with ⟨rfl, e0⟩ | ⟨hne, e0⟩
  all_goals
    rw [e0]
    clear e0
    go_enter Tryz.func70, Tryz.ntmps70
    go_wp2_with fail
    rw [HX.out.eq]
    have E0 : Hid (Below W.heap.size W W.drew) := Lib.hid (Below.refl _ W).drew
    obtain ⟨e1, e2⟩ := HX.out.at0 W.drew E0.out
    go_region_held3 (fun V => V.cell? ⟨w.heap.size, 0, none⟩ = some (.pointer (some ⟨b, 0, none⟩)) ∧ V.cell? ⟨w.heap.size, 1, none⟩ = some (.func (Fn.func 82) #[a] #[]))
      (first | exact ⟨e1, e2⟩ | exact ⟨f1, f2⟩)
      (first
        | (go_at_call 56; (with_reducible refine (sure_dk (HX.out.dk.below E1.out) nm hl).mono ?_); rintro e w2 ⟨rfl, rfl⟩; rw [HSN.out])
        | (go_at_call 85; (with_reducible refine (HRD.out w1 E1.out).mono ?_); rintro e w3 ⟨A, c, rfl, own, bel⟩; rw [HLN.out]; have E2 : Hid (Below W.heap.size W w3) := Lib.hid (E1.out.trans (bel.mono E1.out.size)); clear own bel; obtain ⟨f1, f2⟩ := HX.out.at0 w3 E2.out)
        | (go_at_call 82; (with_reducible refine (HK.out W.drew (HX.out.dk.glob.belows E0.out)).mono ?_); rintro e w1 ⟨rfl, b1⟩; have E1 : Hid (Below W.heap.size W w1) := Lib.hid (E0.out.trans b1); clear b1; obtain ⟨f1, f2⟩ := HX.out.at0 w1 E1.out))
    all_goals
      go_wp2_with fail
      first
        | (go_ret; exact ⟨rfl, HX.out.dk.stays E2.out |>.before HX.out.below⟩)
        | (refine (HSY.out w3 E2.out).mono ?_
           rintro e w4 ⟨rfl, to4⟩
           have T4 : Hid (DkTo W w4 b (PlainDisk.sync may D nm).1 S) := Lib.hid (to4.before E2.out)
           clear to4
           go_wp2_with fail
           go_ret
           exact ⟨rfl, T4.out.before HX.out.below⟩)
set_option maxHeartbeats 1000000 in
theorem settle1_69 {w : World} {b : Nat} {D : Disk} {S : Nat → Prop} (h : Dk w b D S) {a : Value} {nm : List UInt8} (hl : nm.length ≤ 1000) (hk : Tells 69 a nm) :
    Calls Tryz.prog 70 #[fvl b (.func (Fn.func 69) #[a] #[])] w (StepP (PWal.settle D nm) b S w) := by
  have hN : NameIs (.func (Fn.func 69) #[a] #[]) nm := ⟨hl, 69, a, rfl, by simp, hk⟩
  have HRD := Lib.hid (fun (V : World) (hb : Below (w.alloc (.cells #[.pointer (some ⟨b, 0, none⟩), .func (Fn.func 69) #[a] #[]] 121)).heap.size (w.alloc (.cells #[.pointer (some ⟨b, 0, none⟩), .func (Fn.func 69) #[a] #[]] 121)) V) => (show Calls Tryz.prog 85 #[.agg #[.pointer (some ⟨b, 0, none⟩), .func (Fn.func 69) #[a] #[]]] V (ReadP (PWal.rdB D nm) V) from read_any2 ((h.below (below_new _ _)).below hb) hN))
  have HSY := Lib.hid (fun (V : World) (hb : Below (w.alloc (.cells #[.pointer (some ⟨b, 0, none⟩), .func (Fn.func 69) #[a] #[]] 121)).heap.size (w.alloc (.cells #[.pointer (some ⟨b, 0, none⟩), .func (Fn.func 69) #[a] #[]] 121)) V) => (show Calls Tryz.prog 123 #[.agg #[.pointer (some ⟨b, 0, none⟩), .func (Fn.func 69) #[a] #[]]] V (StepP (PlainDisk.sync may D nm) b S V) from sync_file ((h.below (below_new _ _)).below hb) hN))
  obtain ⟨W, BX⟩ := boxed h 69 a
  have HX := Lib.hid BX
  rw [BX.eq] at HRD HSY
  unfold Tells at hk
  have HK := Lib.hid hk
  clear h hk BX hN
  have HQ : ∃ sN lN : Nat, PWal.sureB D nm = sN ∧ (PWal.rdB D nm).length = lN ∧ ((sN = lN ∧ PWal.settle D nm = (D, 0)) ∨ ((¬ (sN : Int) = (lN : Int)) ∧ PWal.settle D nm = PlainDisk.sync may D nm)) := by
    refine ⟨_, _, rfl, rfl, ?_⟩
    unfold PWal.settle
    by_cases hc : PWal.sureB D nm = (PWal.rdB D nm).length
    · left; rw [if_pos hc]; exact ⟨hc, rfl⟩
    · right; rw [if_neg hc]; exact ⟨by omega, rfl⟩
  obtain ⟨sN, lN, hs, hlN, hcase⟩ := HQ
  have HSN := Lib.hid hs
  have HLN := Lib.hid hlN
  clear hs hlN
  unfold fvl
  rcases hcase with ⟨rfl, e0⟩ | ⟨hne, e0⟩
  all_goals
    rw [e0]
    clear e0
    go_enter Tryz.func70, Tryz.ntmps70
    go_wp2_with fail
    rw [HX.out.eq]
    have E0 : Hid (Below W.heap.size W W.drew) := Lib.hid (Below.refl _ W).drew
    obtain ⟨e1, e2⟩ := HX.out.at0 W.drew E0.out
    go_region_held3 (fun V => V.cell? ⟨w.heap.size, 0, none⟩ = some (.pointer (some ⟨b, 0, none⟩)) ∧ V.cell? ⟨w.heap.size, 1, none⟩ = some (.func (Fn.func 69) #[a] #[]))
      (first | exact ⟨e1, e2⟩ | exact ⟨f1, f2⟩)
      (first
        | (go_at_call 56; (with_reducible refine (sure_dk (HX.out.dk.below E1.out) nm hl).mono ?_); rintro e w2 ⟨rfl, rfl⟩; rw [HSN.out])
        | (go_at_call 85; (with_reducible refine (HRD.out w1 E1.out).mono ?_); rintro e w3 ⟨A, c, rfl, own, bel⟩; rw [HLN.out]; have E2 : Hid (Below W.heap.size W w3) := Lib.hid (E1.out.trans (bel.mono E1.out.size)); clear own bel; obtain ⟨f1, f2⟩ := HX.out.at0 w3 E2.out)
        | (go_at_call 69; (with_reducible refine (HK.out W.drew (HX.out.dk.glob.belows E0.out)).mono ?_); rintro e w1 ⟨rfl, b1⟩; have E1 : Hid (Below W.heap.size W w1) := Lib.hid (E0.out.trans b1); clear b1; obtain ⟨f1, f2⟩ := HX.out.at0 w1 E1.out))
    all_goals
      go_wp2_with fail
      first
        | (go_ret; exact ⟨rfl, HX.out.dk.stays E2.out |>.before HX.out.below⟩)
        | (refine (HSY.out w3 E2.out).mono ?_
           rintro e w4 ⟨rfl, to4⟩
           have T4 : Hid (DkTo W w4 b (PlainDisk.sync may D nm).1 S) := Lib.hid (to4.before E2.out)
           clear to4
           go_wp2_with fail
           go_ret
           exact ⟨rfl, T4.out.before HX.out.below⟩)
set_option maxHeartbeats 1000000 in
theorem trim1_84 {w : World} {b : Nat} {D : Disk} {S : Nat → Prop} (h : Dk w b D S) {a : Value} {nm : List UInt8} (hl : nm.length ≤ 1000) (hk : Tells 84 a nm) (n : Nat) (hn : n ≤ 1048576) :
    Calls Tryz.prog 87 #[fvl b (.func (Fn.func 84) #[a] #[]), .int .i64 (n : Nat)] w (StepP (PWal.trim D nm n) b S w) := by
  have hN : NameIs (.func (Fn.func 84) #[a] #[]) nm := ⟨hl, 84, a, rfl, by simp, hk⟩
  have HRD := Lib.hid (fun (V : World) (hb : Below (w.alloc (.cells #[.pointer (some ⟨b, 0, none⟩), .func (Fn.func 84) #[a] #[]] 121)).heap.size (w.alloc (.cells #[.pointer (some ⟨b, 0, none⟩), .func (Fn.func 84) #[a] #[]] 121)) V) => (show Calls Tryz.prog 85 #[.agg #[.pointer (some ⟨b, 0, none⟩), .func (Fn.func 84) #[a] #[]]] V (ReadP (PWal.rdB D nm) V) from read_any2 ((h.below (below_new _ _)).below hb) hN))
  have hS := fun k hk => (h.blk k hk).2
  obtain ⟨W, BX⟩ := boxed h 84 a
  have HX := Lib.hid BX
  rw [BX.eq] at HRD
  unfold Tells at hk
  have HK := Lib.hid hk
  have HS := Lib.hid hS
  clear h hk BX hN hS
  have HQ : ∃ lN : Nat, (PWal.rdB D nm).length = lN ∧ ((lN ≤ n ∧ PWal.trim D nm n = (D, 0)) ∨ ((n : Int) < (lN : Int) ∧ PWal.trim D nm n = PlainDisk.cut may D nm n)) := by
    refine ⟨_, rfl, ?_⟩
    unfold PWal.trim
    by_cases hc : (PWal.rdB D nm).length ≤ n
    · left; rw [if_pos hc]; exact ⟨hc, rfl⟩
    · right; rw [if_neg hc]; exact ⟨by omega, rfl⟩
  obtain ⟨lN, hlN, hcase⟩ := HQ
  have HLN := Lib.hid hlN
  have HN := Lib.hid hn
  clear hlN
  unfold fvl
  obtain ⟨e1, e2⟩ := HX.out.at0 W (Below.refl _ _)
  rcases hcase with ⟨hle, e0⟩ | ⟨hle, e0⟩
  · have hle2 : (lN : Int) ≤ (n : Int) := by omega
    rw [e0]
    clear e0
    go_enter Tryz.func87, Tryz.ntmps87
    go_wp2_with fail
    rw [HX.out.eq]
    go_wp2_with fail
    refine (HRD.out W (Below.refl _ _)).mono ?_
    rintro e w1 ⟨A, c, rfl, own, bel⟩
    rw [HLN.out]
    have E1 := Lib.hid bel
    clear own bel
    go_wp2_with fail
    go_ret
    exact ⟨rfl, (HX.out.dk.stays E1.out).before HX.out.below⟩
  · rw [e0]
    clear e0
    go_enter Tryz.func87, Tryz.ntmps87
    go_wp2_with fail
    rw [HX.out.eq]
    go_wp2_with fail
    refine (HRD.out W (Below.refl _ _)).mono ?_
    rintro e w1 ⟨A, c, rfl, own, bel⟩
    rw [HLN.out]
    have E1 := Lib.hid bel
    clear own bel
    go_wp2_with fail
    have E0 : Hid (Below W.heap.size W w1.drew) := Lib.hid E1.out.drew
    obtain ⟨e1, e2⟩ := HX.out.at0 w1.drew E0.out
    go_region_held3 (fun V => V.cell? ⟨w.heap.size, 0, none⟩ = some (.pointer (some ⟨b, 0, none⟩)) ∧ V.cell? ⟨w.heap.size, 1, none⟩ = some (.func (Fn.func 84) #[a] #[]))
      (first | exact ⟨e1, e2⟩ | exact ⟨f1, f2⟩)
      (first
        | (go_at_call 135; (with_reducible refine (cut_dk (HX.out.dk.below E2.out) nm n hl HN.out).mono ?_); rintro e w3 ⟨rfl, to2⟩; have T2 : Hid (DkTo W w3 b (PlainDisk.cut may D nm n).1 S) := Lib.hid (to2.before E2.out); obtain ⟨f1, f2⟩ := HX.out.at1 HS.out E2.out to2.fr; clear to2)
        | (go_at_call 84; (with_reducible refine (HK.out w1.drew (HX.out.dk.glob.belows E0.out)).mono ?_); rintro e w2 ⟨rfl, b1⟩; have E2 : Hid (Below W.heap.size W w2) := Lib.hid (E0.out.trans (b1.mono E1.out.size)); clear b1; obtain ⟨f1, f2⟩ := HX.out.at0 w2 E2.out))
    all_goals
      go_wp2_with fail
      go_ret
      exact ⟨rfl, T2.out.before HX.out.below⟩
set_option maxHeartbeats 1000000 in
theorem drop1_84 {w : World} {b : Nat} {D : Disk} {S : Nat → Prop} (h : Dk w b D S) {a : Value} {nm : List UInt8} (hl : nm.length ≤ 1000) (hk : Tells 84 a nm) :
    Calls Tryz.prog 83 #[fvl b (.func (Fn.func 84) #[a] #[])] w (StepP (PWal.dropF D nm) b S w) := by
  have hN : NameIs (.func (Fn.func 84) #[a] #[]) nm := ⟨hl, 84, a, rfl, by simp, hk⟩
  have HRD := Lib.hid (fun (V : World) (hb : Below (w.alloc (.cells #[.pointer (some ⟨b, 0, none⟩), .func (Fn.func 84) #[a] #[]] 121)).heap.size (w.alloc (.cells #[.pointer (some ⟨b, 0, none⟩), .func (Fn.func 84) #[a] #[]] 121)) V) => (show Calls Tryz.prog 132 #[.agg #[.pointer (some ⟨b, 0, none⟩), .func (Fn.func 84) #[a] #[]]] V (ThereP D nm V) from there_file ((h.below (below_new _ _)).below hb) hN))
  have hS := fun k hk => (h.blk k hk).2
  obtain ⟨W, BX⟩ := boxed h 84 a
  have HX := Lib.hid BX
  rw [BX.eq] at HRD
  unfold Tells at hk
  have HK := Lib.hid hk
  have HS := Lib.hid hS
  clear h hk BX hN hS
  unfold fvl
  obtain ⟨e1, e2⟩ := HX.out.at0 W (Below.refl _ _)
  unfold PWal.dropF ThereP at *
  by_cases hc : PlainDisk.find D.fs nm = none
  · rw [if_pos hc]
    rw [show (decide (¬ PlainDisk.find D.fs nm = none)) = false from by simp [hc]] at HRD
    clear hc
    go_enter Tryz.func83, Tryz.ntmps83
    go_wp2_with fail
    rw [HX.out.eq]
    go_wp2_with fail
    refine (HRD.out W (Below.refl _ _)).mono ?_
    rintro e w1 ⟨rfl, bel⟩
    have E1 := Lib.hid bel
    clear bel
    go_wp2_with fail
    go_ret
    exact ⟨rfl, (HX.out.dk.stays E1.out).before HX.out.below⟩
  · rw [if_neg hc]
    rw [show (decide (¬ PlainDisk.find D.fs nm = none)) = true from by simp [hc]] at HRD
    clear hc
    go_enter Tryz.func83, Tryz.ntmps83
    go_wp2_with fail
    rw [HX.out.eq]
    go_wp2_with fail
    refine (HRD.out W (Below.refl _ _)).mono ?_
    rintro e w1 ⟨rfl, bel⟩
    have E1 := Lib.hid bel
    clear bel
    go_wp2_with fail
    have E0 : Hid (Below W.heap.size W w1.drew) := Lib.hid E1.out.drew
    obtain ⟨e1, e2⟩ := HX.out.at0 w1.drew E0.out
    go_region_held3 (fun V => V.cell? ⟨w.heap.size, 0, none⟩ = some (.pointer (some ⟨b, 0, none⟩)) ∧ V.cell? ⟨w.heap.size, 1, none⟩ = some (.func (Fn.func 84) #[a] #[]))
      (first | exact ⟨e1, e2⟩ | exact ⟨f1, f2⟩)
      (first
        | (go_at_call 133; (with_reducible refine (drop_dk (HX.out.dk.below E2.out) nm hl).mono ?_); rintro e w3 ⟨rfl, to2⟩; have T2 : Hid (DkTo W w3 b (PlainDisk.dropA may D nm).1 S) := Lib.hid (to2.before E2.out); obtain ⟨f1, f2⟩ := HX.out.at1 HS.out E2.out to2.fr; clear to2)
        | (go_at_call 84; (with_reducible refine (HK.out w1.drew (HX.out.dk.glob.belows E0.out)).mono ?_); rintro e w2 ⟨rfl, b1⟩; have E2 : Hid (Below W.heap.size W w2) := Lib.hid (E0.out.trans (b1.mono E1.out.size)); clear b1; obtain ⟨f1, f2⟩ := HX.out.at0 w2 E2.out))
    all_goals
      go_wp2_with fail
      go_ret
      exact ⟨rfl, T2.out.before HX.out.below⟩
set_option maxHeartbeats 1000000 in
theorem trim1_82 {w : World} {b : Nat} {D : Disk} {S : Nat → Prop} (h : Dk w b D S) {a : Value} {nm : List UInt8} (hl : nm.length ≤ 1000) (hk : Tells 82 a nm) (n : Nat) (hn : n ≤ 1048576) :
    Calls Tryz.prog 87 #[fvl b (.func (Fn.func 82) #[a] #[]), .int .i64 (n : Nat)] w (StepP (PWal.trim D nm n) b S w) := by
  have hN : NameIs (.func (Fn.func 82) #[a] #[]) nm := ⟨hl, 82, a, rfl, by simp, hk⟩
  have HRD := Lib.hid (fun (V : World) (hb : Below (w.alloc (.cells #[.pointer (some ⟨b, 0, none⟩), .func (Fn.func 82) #[a] #[]] 121)).heap.size (w.alloc (.cells #[.pointer (some ⟨b, 0, none⟩), .func (Fn.func 82) #[a] #[]] 121)) V) => (show Calls Tryz.prog 85 #[.agg #[.pointer (some ⟨b, 0, none⟩), .func (Fn.func 82) #[a] #[]]] V (ReadP (PWal.rdB D nm) V) from read_any2 ((h.below (below_new _ _)).below hb) hN))
  have hS := fun k hk => (h.blk k hk).2
  obtain ⟨W, BX⟩ := boxed h 82 a
  have HX := Lib.hid BX
  rw [BX.eq] at HRD
  unfold Tells at hk
  have HK := Lib.hid hk
  have HS := Lib.hid hS
  clear h hk BX hN hS
  have HQ : ∃ lN : Nat, (PWal.rdB D nm).length = lN ∧ ((lN ≤ n ∧ PWal.trim D nm n = (D, 0)) ∨ ((n : Int) < (lN : Int) ∧ PWal.trim D nm n = PlainDisk.cut may D nm n)) := by
    refine ⟨_, rfl, ?_⟩
    unfold PWal.trim
    by_cases hc : (PWal.rdB D nm).length ≤ n
    · left; rw [if_pos hc]; exact ⟨hc, rfl⟩
    · right; rw [if_neg hc]; exact ⟨by omega, rfl⟩
  obtain ⟨lN, hlN, hcase⟩ := HQ
  have HLN := Lib.hid hlN
  have HN := Lib.hid hn
  clear hlN
  unfold fvl
  obtain ⟨e1, e2⟩ := HX.out.at0 W (Below.refl _ _)
  rcases hcase with ⟨hle, e0⟩ | ⟨hle, e0⟩
  · have hle2 : (lN : Int) ≤ (n : Int) := by omega
    rw [e0]
    clear e0
    go_enter Tryz.func87, Tryz.ntmps87
    go_wp2_with fail
    rw [HX.out.eq]
    go_wp2_with fail
    refine (HRD.out W (Below.refl _ _)).mono ?_
    rintro e w1 ⟨A, c, rfl, own, bel⟩
    rw [HLN.out]
    have E1 := Lib.hid bel
    clear own bel
    go_wp2_with fail
    go_ret
    exact ⟨rfl, (HX.out.dk.stays E1.out).before HX.out.below⟩
  · rw [e0]
    clear e0
    go_enter Tryz.func87, Tryz.ntmps87
    go_wp2_with fail
    rw [HX.out.eq]
    go_wp2_with fail
    refine (HRD.out W (Below.refl _ _)).mono ?_
    rintro e w1 ⟨A, c, rfl, own, bel⟩
    rw [HLN.out]
    have E1 := Lib.hid bel
    clear own bel
    go_wp2_with fail
    have E0 : Hid (Below W.heap.size W w1.drew) := Lib.hid E1.out.drew
    obtain ⟨e1, e2⟩ := HX.out.at0 w1.drew E0.out
    go_region_held3 (fun V => V.cell? ⟨w.heap.size, 0, none⟩ = some (.pointer (some ⟨b, 0, none⟩)) ∧ V.cell? ⟨w.heap.size, 1, none⟩ = some (.func (Fn.func 82) #[a] #[]))
      (first | exact ⟨e1, e2⟩ | exact ⟨f1, f2⟩)
      (first
        | (go_at_call 135; (with_reducible refine (cut_dk (HX.out.dk.below E2.out) nm n hl HN.out).mono ?_); rintro e w3 ⟨rfl, to2⟩; have T2 : Hid (DkTo W w3 b (PlainDisk.cut may D nm n).1 S) := Lib.hid (to2.before E2.out); obtain ⟨f1, f2⟩ := HX.out.at1 HS.out E2.out to2.fr; clear to2)
        | (go_at_call 82; (with_reducible refine (HK.out w1.drew (HX.out.dk.glob.belows E0.out)).mono ?_); rintro e w2 ⟨rfl, b1⟩; have E2 : Hid (Below W.heap.size W w2) := Lib.hid (E0.out.trans (b1.mono E1.out.size)); clear b1; obtain ⟨f1, f2⟩ := HX.out.at0 w2 E2.out))
    all_goals
      go_wp2_with fail
      go_ret
      exact ⟨rfl, T2.out.before HX.out.below⟩
set_option maxHeartbeats 1000000 in
theorem drop1_82 {w : World} {b : Nat} {D : Disk} {S : Nat → Prop} (h : Dk w b D S) {a : Value} {nm : List UInt8} (hl : nm.length ≤ 1000) (hk : Tells 82 a nm) :
    Calls Tryz.prog 83 #[fvl b (.func (Fn.func 82) #[a] #[])] w (StepP (PWal.dropF D nm) b S w) := by
  have hN : NameIs (.func (Fn.func 82) #[a] #[]) nm := ⟨hl, 82, a, rfl, by simp, hk⟩
  have HRD := Lib.hid (fun (V : World) (hb : Below (w.alloc (.cells #[.pointer (some ⟨b, 0, none⟩), .func (Fn.func 82) #[a] #[]] 121)).heap.size (w.alloc (.cells #[.pointer (some ⟨b, 0, none⟩), .func (Fn.func 82) #[a] #[]] 121)) V) => (show Calls Tryz.prog 132 #[.agg #[.pointer (some ⟨b, 0, none⟩), .func (Fn.func 82) #[a] #[]]] V (ThereP D nm V) from there_file ((h.below (below_new _ _)).below hb) hN))
  have hS := fun k hk => (h.blk k hk).2
  obtain ⟨W, BX⟩ := boxed h 82 a
  have HX := Lib.hid BX
  rw [BX.eq] at HRD
  unfold Tells at hk
  have HK := Lib.hid hk
  have HS := Lib.hid hS
  clear h hk BX hN hS
  unfold fvl
  obtain ⟨e1, e2⟩ := HX.out.at0 W (Below.refl _ _)
  unfold PWal.dropF ThereP at *
  by_cases hc : PlainDisk.find D.fs nm = none
  · rw [if_pos hc]
    rw [show (decide (¬ PlainDisk.find D.fs nm = none)) = false from by simp [hc]] at HRD
    clear hc
    go_enter Tryz.func83, Tryz.ntmps83
    go_wp2_with fail
    rw [HX.out.eq]
    go_wp2_with fail
    refine (HRD.out W (Below.refl _ _)).mono ?_
    rintro e w1 ⟨rfl, bel⟩
    have E1 := Lib.hid bel
    clear bel
    go_wp2_with fail
    go_ret
    exact ⟨rfl, (HX.out.dk.stays E1.out).before HX.out.below⟩
  · rw [if_neg hc]
    rw [show (decide (¬ PlainDisk.find D.fs nm = none)) = true from by simp [hc]] at HRD
    clear hc
    go_enter Tryz.func83, Tryz.ntmps83
    go_wp2_with fail
    rw [HX.out.eq]
    go_wp2_with fail
    refine (HRD.out W (Below.refl _ _)).mono ?_
    rintro e w1 ⟨rfl, bel⟩
    have E1 := Lib.hid bel
    clear bel
    go_wp2_with fail
    have E0 : Hid (Below W.heap.size W w1.drew) := Lib.hid E1.out.drew
    obtain ⟨e1, e2⟩ := HX.out.at0 w1.drew E0.out
    go_region_held3 (fun V => V.cell? ⟨w.heap.size, 0, none⟩ = some (.pointer (some ⟨b, 0, none⟩)) ∧ V.cell? ⟨w.heap.size, 1, none⟩ = some (.func (Fn.func 82) #[a] #[]))
      (first | exact ⟨e1, e2⟩ | exact ⟨f1, f2⟩)
      (first
        | (go_at_call 133; (with_reducible refine (drop_dk (HX.out.dk.below E2.out) nm hl).mono ?_); rintro e w3 ⟨rfl, to2⟩; have T2 : Hid (DkTo W w3 b (PlainDisk.dropA may D nm).1 S) := Lib.hid (to2.before E2.out); obtain ⟨f1, f2⟩ := HX.out.at1 HS.out E2.out to2.fr; clear to2)
        | (go_at_call 82; (with_reducible refine (HK.out w1.drew (HX.out.dk.glob.belows E0.out)).mono ?_); rintro e w2 ⟨rfl, b1⟩; have E2 : Hid (Below W.heap.size W w2) := Lib.hid (E0.out.trans (b1.mono E1.out.size)); clear b1; obtain ⟨f1, f2⟩ := HX.out.at0 w2 E2.out))
    all_goals
      go_wp2_with fail
      go_ret
      exact ⟨rfl, T2.out.before HX.out.below⟩
set_option maxHeartbeats 1000000 in
theorem trim1_69 {w : World} {b : Nat} {D : Disk} {S : Nat → Prop} (h : Dk w b D S) {a : Value} {nm : List UInt8} (hl : nm.length ≤ 1000) (hk : Tells 69 a nm) (n : Nat) (hn : n ≤ 1048576) :
    Calls Tryz.prog 87 #[fvl b (.func (Fn.func 69) #[a] #[]), .int .i64 (n : Nat)] w (StepP (PWal.trim D nm n) b S w) := by
  have hN : NameIs (.func (Fn.func 69) #[a] #[]) nm := ⟨hl, 69, a, rfl, by simp, hk⟩
  have HRD := Lib.hid (fun (V : World) (hb : Below (w.alloc (.cells #[.pointer (some ⟨b, 0, none⟩), .func (Fn.func 69) #[a] #[]] 121)).heap.size (w.alloc (.cells #[.pointer (some ⟨b, 0, none⟩), .func (Fn.func 69) #[a] #[]] 121)) V) => (show Calls Tryz.prog 85 #[.agg #[.pointer (some ⟨b, 0, none⟩), .func (Fn.func 69) #[a] #[]]] V (ReadP (PWal.rdB D nm) V) from read_any2 ((h.below (below_new _ _)).below hb) hN))
  have hS := fun k hk => (h.blk k hk).2
  obtain ⟨W, BX⟩ := boxed h 69 a
  have HX := Lib.hid BX
  rw [BX.eq] at HRD
  unfold Tells at hk
  have HK := Lib.hid hk
  have HS := Lib.hid hS
  clear h hk BX hN hS
  have HQ : ∃ lN : Nat, (PWal.rdB D nm).length = lN ∧ ((lN ≤ n ∧ PWal.trim D nm n = (D, 0)) ∨ ((n : Int) < (lN : Int) ∧ PWal.trim D nm n = PlainDisk.cut may D nm n)) := by
    refine ⟨_, rfl, ?_⟩
    unfold PWal.trim
    by_cases hc : (PWal.rdB D nm).length ≤ n
    · left; rw [if_pos hc]; exact ⟨hc, rfl⟩
    · right; rw [if_neg hc]; exact ⟨by omega, rfl⟩
  obtain ⟨lN, hlN, hcase⟩ := HQ
  have HLN := Lib.hid hlN
  have HN := Lib.hid hn
  clear hlN
  unfold fvl
  obtain ⟨e1, e2⟩ := HX.out.at0 W (Below.refl _ _)
  rcases hcase with ⟨hle, e0⟩ | ⟨hle, e0⟩
  · have hle2 : (lN : Int) ≤ (n : Int) := by omega
    rw [e0]
    clear e0
    go_enter Tryz.func87, Tryz.ntmps87
    go_wp2_with fail
    rw [HX.out.eq]
    go_wp2_with fail
    refine (HRD.out W (Below.refl _ _)).mono ?_
    rintro e w1 ⟨A, c, rfl, own, bel⟩
    rw [HLN.out]
    have E1 := Lib.hid bel
    clear own bel
    go_wp2_with fail
    go_ret
    exact ⟨rfl, (HX.out.dk.stays E1.out).before HX.out.below⟩
  · rw [e0]
    clear e0
    go_enter Tryz.func87, Tryz.ntmps87
    go_wp2_with fail
    rw [HX.out.eq]
    go_wp2_with fail
    refine (HRD.out W (Below.refl _ _)).mono ?_
    rintro e w1 ⟨A, c, rfl, own, bel⟩
    rw [HLN.out]
    have E1 := Lib.hid bel
    clear own bel
    go_wp2_with fail
    have E0 : Hid (Below W.heap.size W w1.drew) := Lib.hid E1.out.drew
    obtain ⟨e1, e2⟩ := HX.out.at0 w1.drew E0.out
    go_region_held3 (fun V => V.cell? ⟨w.heap.size, 0, none⟩ = some (.pointer (some ⟨b, 0, none⟩)) ∧ V.cell? ⟨w.heap.size, 1, none⟩ = some (.func (Fn.func 69) #[a] #[]))
      (first | exact ⟨e1, e2⟩ | exact ⟨f1, f2⟩)
      (first
        | (go_at_call 135; (with_reducible refine (cut_dk (HX.out.dk.below E2.out) nm n hl HN.out).mono ?_); rintro e w3 ⟨rfl, to2⟩; have T2 : Hid (DkTo W w3 b (PlainDisk.cut may D nm n).1 S) := Lib.hid (to2.before E2.out); obtain ⟨f1, f2⟩ := HX.out.at1 HS.out E2.out to2.fr; clear to2)
        | (go_at_call 69; (with_reducible refine (HK.out w1.drew (HX.out.dk.glob.belows E0.out)).mono ?_); rintro e w2 ⟨rfl, b1⟩; have E2 : Hid (Below W.heap.size W w2) := Lib.hid (E0.out.trans (b1.mono E1.out.size)); clear b1; obtain ⟨f1, f2⟩ := HX.out.at0 w2 E2.out))
    all_goals
      go_wp2_with fail
      go_ret
      exact ⟨rfl, T2.out.before HX.out.below⟩
set_option maxHeartbeats 1000000 in
theorem drop1_69 {w : World} {b : Nat} {D : Disk} {S : Nat → Prop} (h : Dk w b D S) {a : Value} {nm : List UInt8} (hl : nm.length ≤ 1000) (hk : Tells 69 a nm) :
    Calls Tryz.prog 83 #[fvl b (.func (Fn.func 69) #[a] #[])] w (StepP (PWal.dropF D nm) b S w) := by
  have hN : NameIs (.func (Fn.func 69) #[a] #[]) nm := ⟨hl, 69, a, rfl, by simp, hk⟩
  have HRD := Lib.hid (fun (V : World) (hb : Below (w.alloc (.cells #[.pointer (some ⟨b, 0, none⟩), .func (Fn.func 69) #[a] #[]] 121)).heap.size (w.alloc (.cells #[.pointer (some ⟨b, 0, none⟩), .func (Fn.func 69) #[a] #[]] 121)) V) => (show Calls Tryz.prog 132 #[.agg #[.pointer (some ⟨b, 0, none⟩), .func (Fn.func 69) #[a] #[]]] V (ThereP D nm V) from there_file ((h.below (below_new _ _)).below hb) hN))
  have hS := fun k hk => (h.blk k hk).2
  obtain ⟨W, BX⟩ := boxed h 69 a
  have HX := Lib.hid BX
  rw [BX.eq] at HRD
  unfold Tells at hk
  have HK := Lib.hid hk
  have HS := Lib.hid hS
  clear h hk BX hN hS
  unfold fvl
  obtain ⟨e1, e2⟩ := HX.out.at0 W (Below.refl _ _)
  unfold PWal.dropF ThereP at *
  by_cases hc : PlainDisk.find D.fs nm = none
  · rw [if_pos hc]
    rw [show (decide (¬ PlainDisk.find D.fs nm = none)) = false from by simp [hc]] at HRD
    clear hc
    go_enter Tryz.func83, Tryz.ntmps83
    go_wp2_with fail
    rw [HX.out.eq]
    go_wp2_with fail
    refine (HRD.out W (Below.refl _ _)).mono ?_
    rintro e w1 ⟨rfl, bel⟩
    have E1 := Lib.hid bel
    clear bel
    go_wp2_with fail
    go_ret
    exact ⟨rfl, (HX.out.dk.stays E1.out).before HX.out.below⟩
  · rw [if_neg hc]
    rw [show (decide (¬ PlainDisk.find D.fs nm = none)) = true from by simp [hc]] at HRD
    clear hc
    go_enter Tryz.func83, Tryz.ntmps83
    go_wp2_with fail
    rw [HX.out.eq]
    go_wp2_with fail
    refine (HRD.out W (Below.refl _ _)).mono ?_
    rintro e w1 ⟨rfl, bel⟩
    have E1 := Lib.hid bel
    clear bel
    go_wp2_with fail
    have E0 : Hid (Below W.heap.size W w1.drew) := Lib.hid E1.out.drew
    obtain ⟨e1, e2⟩ := HX.out.at0 w1.drew E0.out
    go_region_held3 (fun V => V.cell? ⟨w.heap.size, 0, none⟩ = some (.pointer (some ⟨b, 0, none⟩)) ∧ V.cell? ⟨w.heap.size, 1, none⟩ = some (.func (Fn.func 69) #[a] #[]))
      (first | exact ⟨e1, e2⟩ | exact ⟨f1, f2⟩)
      (first
        | (go_at_call 133; (with_reducible refine (drop_dk (HX.out.dk.below E2.out) nm hl).mono ?_); rintro e w3 ⟨rfl, to2⟩; have T2 : Hid (DkTo W w3 b (PlainDisk.dropA may D nm).1 S) := Lib.hid (to2.before E2.out); obtain ⟨f1, f2⟩ := HX.out.at1 HS.out E2.out to2.fr; clear to2)
        | (go_at_call 69; (with_reducible refine (HK.out w1.drew (HX.out.dk.glob.belows E0.out)).mono ?_); rintro e w2 ⟨rfl, b1⟩; have E2 : Hid (Below W.heap.size W w2) := Lib.hid (E0.out.trans (b1.mono E1.out.size)); clear b1; obtain ⟨f1, f2⟩ := HX.out.at0 w2 E2.out))
    all_goals
      go_wp2_with fail
      go_ret
      exact ⟨rfl, T2.out.before HX.out.below⟩
section
variable {w : World} {b : Nat} {D : Disk} {S : Nat → Prop}
theorem settle_file (h : Dk w b D S) {nv : Value} {nm : List UInt8} (hn : NameIs nv nm) : Calls Tryz.prog 70 #[fvl b nv] w (StepP (PWal.settle D nm) b S w) := by
  obtain ⟨hl, k, a, rfl, h3, hk⟩ := hn
  rcases h3 with rfl | rfl | rfl
  · exact settle1_84 h hl hk
  · exact settle1_82 h hl hk
  · exact settle1_69 h hl hk
theorem trim_file (h : Dk w b D S) {nv : Value} {nm : List UInt8} (hn : NameIs nv nm) (n : Nat) (hle : n ≤ 1048576) : Calls Tryz.prog 87 #[fvl b nv, .int .i64 (n : Nat)] w (StepP (PWal.trim D nm n) b S w) := by
  obtain ⟨hl, k, a, rfl, h3, hk⟩ := hn
  rcases h3 with rfl | rfl | rfl
  · exact trim1_84 h hl hk n hle
  · exact trim1_82 h hl hk n hle
  · exact trim1_69 h hl hk n hle
theorem drop_file (h : Dk w b D S) {nv : Value} {nm : List UInt8} (hn : NameIs nv nm) : Calls Tryz.prog 83 #[fvl b nv] w (StepP (PWal.dropF D nm) b S w) := by
  obtain ⟨hl, k, a, rfl, h3, hk⟩ := hn
  rcases h3 with rfl | rfl | rfl
  · exact drop1_84 h hl hk
  · exact drop1_82 h hl hk
  · exact drop1_69 h hl hk
end
set_option maxHeartbeats 1000000 in
theorem move_file {w : World} {b : Nat} {D : Disk} {S : Nat → Prop} (h : Dk w b D S) {a a2 : Value} {na nb : List UInt8} (hl : na.length ≤ 1000) (hl2 : nb.length ≤ 1000) (hk : Tells 82 a na) (hk2 : Tells 84 a2 nb) :
    Calls Tryz.prog 124 #[fvl b (.func (Fn.func 82) #[a] #[]), fvl b (.func (Fn.func 84) #[a2] #[])] w (StepP (PlainDisk.move may D na nb) b S w) := by
  have hS := fun k hk => (h.blk k hk).2
  obtain ⟨W, BX⟩ := boxed h 82 a
  have hz : W.heap.size = w.heap.size + 1 := by rw [← BX.eq]; simp
  obtain ⟨W2, BY⟩ := boxed BX.dk 84 a2
  have HX := Lib.hid BX
  have HY := Lib.hid BY
  unfold Tells at hk hk2
  have HK := Lib.hid hk
  have HK2 := Lib.hid hk2
  have HS := Lib.hid hS
  have HZ := Lib.hid hz
  have HAT := Lib.hid (fun (V : World) (hb : Below W2.heap.size W2 V) => (⟨((BX.at0 V (BY.below.trans (hb.mono BY.below.size))).1), ((BX.at0 V (BY.below.trans (hb.mono BY.below.size))).2), by have := (BY.at0 V hb).2; rw [hz] at this; exact this⟩ : V.cell? ⟨w.heap.size, 0, none⟩ = some (.pointer (some ⟨b, 0, none⟩)) ∧ V.cell? ⟨w.heap.size, 1, none⟩ = some (.func (Fn.func 82) #[a] #[]) ∧ V.cell? ⟨w.heap.size + 1, 1, none⟩ = some (.func (Fn.func 84) #[a2] #[])))
  have HA2 := Lib.hid (fun (V V' : World) (hb : Below W2.heap.size W2 V) (hf : Fr S V V') => (⟨(BX.at1 hS (BY.below.trans (hb.mono BY.below.size)) hf).1, (BX.at1 hS (BY.below.trans (hb.mono BY.below.size)) hf).2, by have := (BY.at1 (fun k hk => Nat.lt_of_lt_of_le (hS k hk) BX.below.size) hb hf).2; rw [hz] at this; exact this⟩ : V'.cell? ⟨w.heap.size, 0, none⟩ = some (.pointer (some ⟨b, 0, none⟩)) ∧ V'.cell? ⟨w.heap.size, 1, none⟩ = some (.func (Fn.func 82) #[a] #[]) ∧ V'.cell? ⟨w.heap.size + 1, 1, none⟩ = some (.func (Fn.func 84) #[a2] #[])))
  have HE : Hid ((w.alloc (.cells #[.pointer (some ⟨b, 0, none⟩), .func (Fn.func 82) #[a] #[]] 121)).alloc (.cells #[.pointer (some ⟨b, 0, none⟩), .func (Fn.func 84) #[a2] #[]] 121) = W2) := Lib.hid (by rw [BX.eq, BY.eq])
  clear h hk hk2 BX BY hS hz
  unfold fvl
  go_enter Tryz.func124, Tryz.ntmps124
  go_wp2_with fail
  rw [HE.out]
  have E0 : Hid (Below W2.heap.size W2 W2.drew) := Lib.hid (Below.refl _ W2).drew
  obtain ⟨e1, e2, e3⟩ := HAT.out W2.drew E0.out
  go_region_held3 (fun V => V.cell? ⟨w.heap.size, 0, none⟩ = some (.pointer (some ⟨b, 0, none⟩)) ∧ V.cell? ⟨w.heap.size, 1, none⟩ = some (.func (Fn.func 82) #[a] #[]) ∧ V.cell? ⟨w.heap.size + 1, 1, none⟩ = some (.func (Fn.func 84) #[a2] #[]))
    (first | exact ⟨e1, e2, e3⟩ | exact ⟨f1, f2, f3⟩ | exact ⟨g1, g2, g3⟩ | exact ⟨i1, i2, i3⟩)
    (first
      | (go_at_call 163; (with_reducible refine (move_dk (HY.out.dk.below E2.out) na nb hl hl2).mono ?_); rintro e w3 ⟨rfl, to2⟩; have T2 : Hid (DkTo W2 w3 b (PlainDisk.move may D na nb).1 S) := Lib.hid (to2.before E2.out); obtain ⟨i1, i2, i3⟩ := HA2.out w2 w3 E2.out to2.fr; clear to2)
      | (go_at_call 82; (with_reducible refine (HK.out W2.drew (HY.out.dk.glob.belows E0.out)).mono ?_); rintro e w1 ⟨rfl, b1⟩; have E1 : Hid (Below W2.heap.size W2 w1) := Lib.hid (E0.out.trans b1); clear b1; obtain ⟨f1, f2, f3⟩ := HAT.out w1 E1.out)
      | (go_at_call 84; (with_reducible refine (HK2.out w1 (HY.out.dk.glob.belows E1.out)).mono ?_); rintro e w2 ⟨rfl, b1⟩; have E2 : Hid (Below W2.heap.size W2 w2) := Lib.hid (E1.out.trans (b1.mono E1.out.size)); clear b1; obtain ⟨g1, g2, g3⟩ := HAT.out w2 E2.out))
  all_goals
    go_wp2_with fail
    go_ret
    exact ⟨rfl, T2.out.before (HX.out.below.trans (HY.out.below.mono HX.out.below.size))⟩
end Go.Proofs.YtjcikhacekmcfaaGreatDoor
