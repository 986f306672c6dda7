import Derived.Test.YtjcikhacekmcfaaGreatDoorKg
import Derived.Maps.RangeWalk
import Derived.Maps.AppendAt
import Derived.Sort.KeysCollected
import Derived.LoopTactic
namespace Go.Proofs.YtjcikhacekmcfaaGreatDoor
set_option maxRecDepth 20000
open Go.RowKit
open Go.Maps (Keyed)
open PlainDisk (File Disk Left)
set_option linter.unusedVariables false

/-! ### a map of files: each element as it is, value by value -/
theorem law9 : Keyed Tryz.prog 9 := Go.Maps.string_keyed Tryz.underlying9
theorem zero71 (w : World) : (zeroValue 100).run Tryz.prog w = .ok (.agg #[.slice none 0 0, .int .i64 0]) w := by kernel_rfl
def R0 (v : Value) : Option (DataW Value × List MemPlace) := some (.held v, [])
def valOf (p : FV) : Value := .agg #[p.2, .int .i64 (p.1.sure : Nat)]
def encL (ps : List FV) : List (Lit × DataW Value) := ps.map fun p => (.string p.1.name, .held (valOf p))
def encM (ps : List FV) : DataW Value := .map (encL ps)
def MapAt (w : World) (b : Nat) (ps : List FV) : Prop := w.ownsMap Tryz.prog 9 R0 b ps.length (encM ps)
theorem key9 {nm : List UInt8} (h : nm.length ≤ maxLen) : keyOf Tryz.prog 9 (.string (str nm)) = some (.string nm) :=
  Go.WideMaps.keyOf_string_mk Tryz.underlying9 (by rw [str_size]; exact h)
theorem before_bl (a b : List UInt8) : bytesBefore a b = PlainDisk.bl a b := by
  induction a generalizing b with
  | nil => cases b <;> rfl
  | cons x r ih =>
    cases b with
    | nil => rfl
    | cons y s =>
      show (decide (x < y) || (x == y && bytesBefore r s)) = (decide (x < y) || (x == y && PlainDisk.bl r s))
      rw [ih]
theorem enc_insert (p : FV) (ps : List FV) : DataW.insert (.string p.1.name, .held (valOf p)) (encL ps) = encL (putF p ps) := by
  induction ps with
  | nil => rfl
  | cons q r ih =>
    show (if bytesBefore p.1.name q.1.name = true then _ else _) = encL (if _ then _ else _)
    rw [before_bl]
    split
    · rfl
    · show _ :: DataW.insert _ (encL r) = _
      rw [ih]; rfl
theorem enc_filter (nm : List UInt8) (ps : List FV) : (encL ps).filter (fun q => !q.1.sameKey (.string nm)) = encL (dropF nm ps) := by
  induction ps with
  | nil => rfl
  | cons q r ih =>
    show List.filter _ ((.string q.1.name, .held (valOf q)) :: encL r) = _
    rw [List.filter_cons, ih, dropF]
    have e : (Lit.string q.1.name).sameKey (.string nm) = (q.1.name == nm) := rfl
    dsimp only
    rw [e]
    by_cases h : q.1.name = nm
    · rw [if_pos h, show (q.1.name == nm) = true from beq_iff_eq.2 h]; rfl
    · rw [if_neg h, show (q.1.name == nm) = false from beq_eq_false_iff_ne.2 h]; rfl
def findV (ps : List FV) (nm : List UInt8) : Option FV := ps.find? fun p => p.1.name == nm
theorem findV_fst (ps : List FV) (nm : List UInt8) : (findV ps nm).map (·.1) = PlainDisk.find (ps.map (·.1)) nm := by
  unfold findV PlainDisk.find
  rw [List.find?_map]; rfl
theorem findV_name {ps : List FV} {nm : List UInt8} {p : FV} (h : findV ps nm = some p) : p.1.name = nm := by
  unfold findV at h
  have := List.find?_some h
  simpa using this
theorem findV_mem {ps : List FV} {nm : List UInt8} {p : FV} (h : findV ps nm = some p) : p ∈ ps := List.mem_of_find?_eq_some h
def noneVal : Value := .agg #[.slice none 0 0, .int .i64 0]
def valAt (o : Option FV) : Value := match o with | some p => valOf p | none => noneVal
theorem enc_find (ps : List FV) (nm : List UInt8) : (encL ps).find? (fun q => q.1.sameKey (.string nm)) = (findV ps nm).map fun p => (.string p.1.name, .held (valOf p)) := by
  unfold encL findV
  rw [List.find?_map]; rfl
theorem enc_at (ps : List FV) (nm : List UInt8) : (encM ps).atKey (.string nm) (.held noneVal) = .held (valAt (findV ps nm)) := by
  unfold encM DataW.atKey
  dsimp only
  rw [enc_find]
  cases findV ps nm <;> rfl
theorem enc_has (ps : List FV) (nm : List UInt8) : Maps.has (encM ps) (.string nm) = (findV ps nm).isSome := by
  show (encL ps).any (fun q => q.1.sameKey (.string nm)) = _
  unfold encL findV
  rw [List.any_map]
  induction ps with
  | nil => rfl
  | cons q r ih =>
    rw [List.any_cons, List.find?_cons, ih]
    have e : ((fun q : Lit × DataW Value => q.1.sameKey (.string nm)) ∘ fun p : FV => (Lit.string p.1.name, DataW.held (valOf p))) q = (q.1.name == nm) := rfl
    rw [e]
    cases q.1.name == nm <;> simp
theorem norm_map {w : World} {b n : Nat} {D : DataW Value} (h : w.ownsMap Tryz.prog 9 R0 b n D) : w.ownsMap Tryz.prog 9 R0 b (Maps.size D) D := by
  obtain ⟨es, clock, h1, h2, h3, h4⟩ := h
  refine ⟨es, clock, h1, h2, ?_, h4⟩
  rw [h4]
  show _ ≤ List.length _
  rw [length_sorted]; simp
theorem size_enc (ps : List FV) : Maps.size (encM ps) = ps.length := by
  show (encL ps).length = _
  simp [encL]
theorem MapAt.of {w : World} {b n : Nat} {ps : List FV} (h : w.ownsMap Tryz.prog 9 R0 b n (encM ps)) : MapAt w b ps := by
  have := norm_map h
  rw [size_enc] at this
  exact this
theorem MapAt.made (w : World) : MapAt (w.alloc (.map #[] 0)) w.heap.size [] := World.ownsMap_made w Tryz.prog 9 R0
theorem MapAt.keep {w w' : World} {b : Nat} {ps : List FV} (h : MapAt w b ps) (hk : ∀ es c, w.heap[b]? = some (.map es c) → w'.heap[b]? = w.heap[b]?) : MapAt w' b ps := by
  obtain ⟨es, clock, h1, h2⟩ := h
  exact ⟨es, clock, (hk es clock h1).trans h1, h2⟩
theorem MapAt.block {w : World} {b : Nat} {ps : List FV} (h : MapAt w b ps) : ∃ es c, w.heap[b]? = some (.map es c) := by
  obtain ⟨es, clock, h1, h2⟩ := h
  exact ⟨es, clock, h1⟩
/-- m[k], and v, ok := m[k] -/
theorem MapAt.look {w : World} {b : Nat} {ps : List FV} (h : MapAt w b ps) {nm : List UInt8} (hn : nm.length ≤ maxLen) (c : Bool) :
    (Instr.lookup 84 (.map (some b)) (.string (str nm)) c).run Tryz.prog w = .ok (if c then .tuple #[valAt (findV ps nm), .bool (findV ps nm).isSome] else valAt (findV ps nm)) w := by
  cases c with
  | true =>
    obtain ⟨v, q, hrun, hv⟩ := World.ownsMap.look_ok (t := 84) (e := 100) h law9 Tryz.underlying84 (zero71 w) (zd := .held noneVal) (zp := []) rfl (key9 hn)
    rw [enc_at] at hv
    rw [enc_has] at hrun
    have hv : R0 v = some (.held (valAt (findV ps nm)), q) := hv
    unfold R0 at hv
    simp only [Option.some.injEq, Prod.mk.injEq, DataW.held.injEq] at hv
    rw [hv.1] at hrun
    exact hrun
  | false =>
    obtain ⟨v, q, hrun, hv⟩ := World.ownsMap.lookup (t := 84) (e := 100) h law9 Tryz.underlying84 (zero71 w) (zd := .held noneVal) (zp := []) rfl (key9 hn)
    rw [enc_at] at hv
    have hv : R0 v = some (.held (valAt (findV ps nm)), q) := hv
    unfold R0 at hv
    simp only [Option.some.injEq, Prod.mk.injEq, DataW.held.injEq] at hv
    rw [hv.1] at hrun
    exact hrun
theorem nil_look (w : World) {nm : List UInt8} (hn : nm.length ≤ maxLen) (c : Bool) :
    (Instr.lookup 84 (.map none) (.string (str nm)) c).run Tryz.prog w = .ok (if c then .tuple #[noneVal, .bool false] else noneVal) w :=
  Maps.look_nil (t := 84) (e := 100) c law9 Tryz.underlying84 (zero71 w) (key9 hn)
/-- m[k] = v -/
theorem MapAt.store {w : World} {b : Nat} {ps : List FV} (h : MapAt w b ps) {nm : List UInt8} (hn : nm.length ≤ maxLen) (hl : ps.length < maxLen) (p : FV) (hp : p.1.name = nm) :
    ∃ w', (Instr.mapUpdate 84 (.map (some b)) (.string (str nm)) (valOf p)).run Tryz.prog w = .ok () w' ∧ MapAt w' b (putF p (dropF nm ps)) ∧ w.grownBy w' (some b) ∧ w'.heap.size = w.heap.size := by
  obtain ⟨w', h1, h2, h3⟩ := World.ownsMap.store (t := 84) (e := 100) h law9 Tryz.underlying84 hl (key9 hn) (val := valOf p) (d := .held (valOf p)) (ps := []) rfl
  refine ⟨w', h1, ?_, h3.grown, ?_⟩
  · have e : (encM ps).put (.string nm) (.held (valOf p)) = encM (putF p (dropF nm ps)) := by
      show DataW.map (DataW.insert _ ((encL ps).filter _)) = _
      rw [enc_filter, ← hp, enc_insert]; rfl
    rw [e] at h2
    exact MapAt.of h2
  · obtain ⟨es, c, es', c', _, rfl⟩ := h3
    simp [ChangeMaps.setBlock]
/-- delete(m, k) -/
theorem MapAt.del {w : World} {b : Nat} {ps : List FV} (h : MapAt w b ps) {nm : List UInt8} (hn : nm.length ≤ maxLen) (ty : TypeId) :
    ∃ w', (Builtin.delete_ #[84, 9] ty #[.map (some b), .string (str nm)]).run Tryz.prog w = .ok (.tuple #[]) w' ∧ MapAt w' b (dropF nm ps) ∧ w.grownBy w' (some b) ∧ w'.heap.size = w.heap.size := by
  obtain ⟨w', h1, h2, h3⟩ := World.ownsMap.drop (t := 84) (e := 100) h law9 Tryz.underlying84 (key9 hn) ty
  refine ⟨w', h1, ?_, h3.grown, ?_⟩
  · have e : (encM ps).del (.string nm) = encM (dropF nm ps) := by
      show DataW.map ((encL ps).filter _) = _
      rw [enc_filter]; rfl
    rw [e] at h2
    exact MapAt.of h2
  · obtain ⟨es, c, es', c', _, rfl⟩ := h3
    simp [ChangeMaps.setBlock]
theorem MapAt.len {w : World} {b : Nat} {ps : List FV} (h : MapAt w b ps) (ty : TypeId) : (Builtin.len_ #[84] ty #[.map (some b)]).run Tryz.prog w = .ok (.int .i64 (ps.length : Nat)) w := by
  have := World.ownsMap.len (t := 84) (e := 100) h Tryz.underlying84 ty
  rw [size_enc] at this
  exact this
theorem nil_len (w : World) (ty : TypeId) : (Builtin.len_ #[84] ty #[.map none]).run Tryz.prog w = .ok (.int .i64 0) w := Maps.len_nil (t := 84) (e := 100) Tryz.underlying84 ty
end Go.Proofs.YtjcikhacekmcfaaGreatDoor
namespace Go.Proofs.YtjcikhacekmcfaaGreatDoor
set_option maxRecDepth 20000
open Go.RowKit
open PlainDisk (File Disk Left)
set_option linter.unusedVariables false

/-! ### the program's disk in memory -/
structure FilesAt (w : World) (mv : Option Nat) (ps : List FV) (S : Nat → Prop) : Prop where
  map : (mv = none ∧ ps = []) ∨ ∃ m, mv = some m ∧ S m ∧ MapAt w m ps
  bytes : ∀ p ∈ ps, OwnB w 0 p.2 p.1.bytes
  mine : ∀ p ∈ ps, ∀ g, p.2.ownBlock = some g → S g
  apart : ∀ p ∈ ps, ∀ q ∈ ps, p.1.name ≠ q.1.name → p.2.ownBlock = none ∨ p.2.ownBlock ≠ q.2.ownBlock
theorem FilesAt.empty (w : World) (S : Nat → Prop) : FilesAt w none [] S :=
  ⟨.inl ⟨rfl, rfl⟩, fun p hp => (by cases hp), fun p hp => (by cases hp), fun p hp => (by cases hp)⟩
/-- the block that bytes lie in -/
theorem OwnB.block {w : World} {base : Nat} {v : Value} {l : List UInt8} (h : OwnB w base v l) {g : Nat} (hg : v.ownBlock = some g) : ∃ cs, w.heap[g]? = some (.cells cs 5 (0, 0)) := by
  rcases h.2 with ⟨e, _⟩ | ⟨g', cap, cur, e, hb, hh, r⟩
  · subst e; cases hg
  · subst e
    simp [Value.ownBlock] at hg
    subst hg
    exact ⟨cur, hh⟩
theorem OwnB.keep {w w' : World} {base : Nat} {v : Value} {l : List UInt8} (h : OwnB w base v l) (hk : ∀ g, v.ownBlock = some g → w'.heap[g]? = w.heap[g]?) : OwnB w' base v l := by
  refine ⟨h.1, ?_⟩
  rcases h.2 with q | ⟨g, cap, cur, e, hb, hh, r⟩
  · exact .inl q
  · exact .inr ⟨g, cap, cur, e, hb, (hk g (by rw [e]; rfl)).trans hh, r⟩
theorem OwnB.zero {w : World} {base : Nat} {v : Value} {l : List UInt8} (h : OwnB w base v l) : OwnB w 0 v l := by
  refine ⟨h.1, ?_⟩
  rcases h.2 with q | ⟨g, cap, cur, e, hb, r⟩
  · exact .inl q
  · exact .inr ⟨g, cap, cur, e, Nat.zero_le _, r⟩
theorem OwnB.slice {w : World} {base : Nat} {v : Value} {l : List UInt8} (h : OwnB w base v l) : ∃ A c, v = .slice A l.length c ∧ l.length ≤ c ∧ c ≤ 9223372036854775807 ∧ Lies w A c l := by
  rcases h.2 with ⟨e, hn⟩ | ⟨g, cap, cur, e, hb, hh, hc, hm, hs, ht⟩
  · have : l = [] := List.eq_nil_of_length_eq_zero hn
    subst this
    exact ⟨none, 0, e, by simp, by omega, fun _ => rfl, fun q => absurd rfl q⟩
  · refine ⟨some ⟨g, 0, none⟩, cap, e, hc, by simpa [maxLen] using hm, fun q => (by cases q), fun hne => ⟨g, 0, rfl, fun j u hu => ?_⟩⟩
    have hj : (vB l)[j]? = some (.int .u8 (u.toNat : Int)) := by simp [vB, hu]
    rw [← ht, List.getElem?_take] at hj
    rw [Nat.zero_add, Lib.cell_of_heap hh]
    split at hj
    · rw [← Array.getElem?_toList]; exact hj
    · cases hj
/-- blocks of other kinds may turn -/
theorem FilesAt.keep {w w' : World} {mv : Option Nat} {ps : List FV} {S : Nat → Prop} (h : FilesAt w mv ps S) (hk : ∀ k x, w.heap[k]? = some x → S k → ((∃ es c, x = .map es c) ∨ ∃ cs, x = .cells cs 5 (0, 0)) → w'.heap[k]? = some x) : FilesAt w' mv ps S := by
  refine ⟨?_, fun p hp => (h.bytes p hp).keep fun g hg => ?_, h.mine, h.apart⟩
  · rcases h.map with q | ⟨m, e, hS, hm⟩
    · exact .inl q
    · refine .inr ⟨m, e, hS, hm.keep fun es c hb => ?_⟩
      rw [hb]
      exact hk m _ hb hS (.inl ⟨es, c, rfl⟩)
  · obtain ⟨cs, hb⟩ := (h.bytes p hp).block hg
    rw [hb]
    exact hk g _ hb (h.mine p hp g hg) (.inr ⟨cs, rfl⟩)
theorem not65 {x : Obj} (h : (∃ es c, x = .map es c) ∨ ∃ cs, x = .cells cs 5 (0, 0)) {cs : Array Value} {t : TypeId} {fz : Nat × Nat} (ht : t ≠ 5) : x ≠ .cells cs t fz := by
  rintro rfl
  rcases h with ⟨_, _, e⟩ | ⟨_, e⟩
  · cases e
  · injection e with _ e2
    exact ht e2
theorem FilesAt.mono {w : World} {mv : Option Nat} {ps : List FV} {S S' : Nat → Prop} (h : FilesAt w mv ps S) (hS : ∀ k, S k → S' k) : FilesAt w mv ps S' := by
  refine ⟨?_, h.bytes, fun p hp g hg => hS g (h.mine p hp g hg), h.apart⟩
  rcases h.map with q | ⟨m, e, hm, hr⟩
  · exact .inl q
  · exact .inr ⟨m, e, hS m hm, hr⟩
def diskCells (D : Disk) (mv : Option Nat) (ar : Bool) (lf : Int) : Array Value := #[.int .i64 (D.room : Nat), .map mv, .bool D.gone, .bool ar, .int .i64 lf]
def Armed (good : Int) (ar : Bool) (lf : Int) : Prop := (ar = false ∧ good = -1) ∨ (ar = true ∧ 0 ≤ lf ∧ good = lf)
/-- the program's disk stands in memory -/
def DiskIs (w : World) (b : Nat) (D : Disk) (S : Nat → Prop) : Prop :=
  ∃ mv ar lf ps, w.heap[b]? = some (.cells #[.int .i64 (D.room : Nat), .map mv, .bool D.gone, .bool ar, .int .i64 lf] 86 (0, 0)) ∧ S b ∧ D.fs = ps.map (·.1) ∧ Armed D.good ar lf ∧ FilesAt w mv ps S
/-- it has become D', and nothing else was touched -/
def DiskTo (w w' : World) (b : Nat) (D' : Disk) (S : Nat → Prop) : Prop := ∃ S', DiskIs w' b D' S' ∧ (∀ k, S' k → Up S w w' k) ∧ Fr S w w'
theorem DiskIs.stays {w : World} {b : Nat} {D : Disk} {S : Nat → Prop} (h : DiskIs w b D S) : DiskTo w w b D S := ⟨S, h, fun k hk => .inl hk, Fr.refl S w⟩
theorem DiskIs.frame {w w' : World} {b : Nat} {D : Disk} {S : Nat → Prop} (h : DiskIs w b D S) (hk : ∀ k x, w.heap[k]? = some x → S k → w'.heap[k]? = some x) : DiskIs w' b D S := by
  obtain ⟨mv, ar, lf, ps, h1, h2, h3, h4, h5⟩ := h
  exact ⟨mv, ar, lf, ps, hk b _ h1 h2, h2, h3, h4, h5.keep fun k x hx hS _ => hk k x hx hS⟩
theorem DiskIs.below {w w' : World} {b : Nat} {D : Disk} {S : Nat → Prop} (h : DiskIs w b D S) (hb : Below w.heap.size w w') : DiskTo w w' b D S :=
  ⟨S, h.frame fun k x hx _ => (hb.block k (Array.getElem?_eq_some_iff.1 hx).1).trans hx, fun k hk => .inl hk, Fr.of_below hb⟩
theorem DiskTo.go {w w1 w2 : World} {S S1 : Nat → Prop} {b : Nat} {D2 : Disk} (hu : ∀ k, S1 k → Up S w w1 k) (hf : Fr S w w1) (h : DiskTo w1 w2 b D2 S1) : DiskTo w w2 b D2 S := by
  obtain ⟨S2, h1, h2, h3⟩ := h
  refine ⟨S2, h1, fun k hk => ?_, hf.trans h3 fun i hi => (hu i hi).elim .inl fun q => .inr q.1⟩
  rcases h2 k hk with q | q
  · rcases hu k q with q | q
    · exact .inl q
    · exact .inr ⟨q.1, by have := h3.size; omega⟩
  · exact .inr ⟨by have := hf.size; omega, q.2⟩
theorem DiskTo.andBelow {w w1 w2 : World} {S : Nat → Prop} {b : Nat} {D : Disk} (h : DiskTo w w1 b D S) (hb : Below w1.heap.size w1 w2) : DiskTo w w2 b D S := by
  obtain ⟨S1, h1, h2, h3⟩ := h
  exact DiskTo.go h2 h3 (h1.below hb)

/-! ### the small functions -/
set_option maxHeartbeats 1000000 in
set_option maxRecDepth 100000 in
theorem all_any {b : Nat} {mv : Option Nat} {r0 r2 r3 r4 : Value} {w : World} (hb : w.heap[b]? = some (.cells #[r0, .map mv, r2, r3, r4] 86 (0, 0))) :
    Calls Tryz.prog 100 #[.pointer (some ⟨b, 0, none⟩)] w fun e w' => e = .returned (.map mv) ∧ w = w' := by
  have c1 : w.cell? ⟨b, 1, none⟩ = some (.map mv) := by rw [Lib.cell_of_heap hb]; rfl
  clear hb
  go_enter Tryz.func100, Tryz.ntmps100
  go_wp2_with fail
  go_ret
  exact ⟨rfl, rfl⟩
set_option maxHeartbeats 1000000 in
set_option maxRecDepth 100000 in
theorem down_any {b : Nat} {gone : Bool} {r0 r1 r3 r4 : Value} {w : World} (hb : w.heap[b]? = some (.cells #[r0, r1, .bool gone, r3, r4] 86 (0, 0))) :
    Calls Tryz.prog 35 #[.pointer (some ⟨b, 0, none⟩)] w fun e w' => e = .returned (.bool gone) ∧ w = w' := by
  have c2 : w.cell? ⟨b, 2, none⟩ = some (.bool gone) := by rw [Lib.cell_of_heap hb]; rfl
  clear hb
  go_enter Tryz.func35, Tryz.ntmps35
  go_wp2_with fail
  go_ret
  exact ⟨rfl, rfl⟩
def barCode (gone : Bool) (nm : List UInt8) : Int := if gone = true then 41 else if may nm = false then 5 else 0
set_option maxHeartbeats 1000000 in
set_option maxRecDepth 100000 in
theorem check_any {b : Nat} {gone : Bool} {r0 r1 r3 r4 : Value} (nm : List UInt8) {w : World} (hb : w.heap[b]? = some (.cells #[r0, r1, .bool gone, r3, r4] 86 (0, 0))) (hn : nm.length ≤ 281474976710656) :
    Calls Tryz.prog 58 #[.pointer (some ⟨b, 0, none⟩), .string (str nm)] w fun e w' => e = .returned (.int .i64 (barCode gone nm)) ∧ Below w.heap.size w w' := by
  have C0 := Lib.hid (down_any hb)
  have C1 := Lib.hid (may_any (str nm) w (by rw [str_size]; exact hn))
  rw [list_str] at C1
  unfold barCode
  clear hb
  generalize str nm = X at *
  generalize may nm = m at *
  cases gone with
  | true =>
    go_enter Tryz.func58, Tryz.ntmps58
    go_wp2_with fail
    refine C0.out.mono ?_
    rintro e w' ⟨rfl, rfl⟩
    go_wp2_with fail
    go_ret
    exact ⟨rfl, Below.refl _ _⟩
  | false =>
    cases m with
    | false =>
      go_enter Tryz.func58, Tryz.ntmps58
      go_wp2_with fail
      refine C0.out.mono ?_
      rintro e w' ⟨rfl, rfl⟩
      go_wp2_with fail
      refine C1.out.mono ?_
      rintro e w' ⟨rfl, hbw⟩
      go_wp2_with fail
      go_ret
      exact ⟨rfl, hbw⟩
    | true =>
      go_enter Tryz.func58, Tryz.ntmps58
      go_wp2_with fail
      refine C0.out.mono ?_
      rintro e w' ⟨rfl, rfl⟩
      go_wp2_with fail
      refine C1.out.mono ?_
      rintro e w' ⟨rfl, hbw⟩
      go_wp2_with fail
      go_ret
      exact ⟨rfl, hbw⟩
def armedW (b : Nat) (ar : Bool) (lf : Int) (w : World) : World := if ar = false then w else if lf = 0 then w.setCell ⟨b, 2, none⟩ (.bool true) else w.setCell ⟨b, 4, none⟩ (.int .i64 (lf - 1))
set_option maxHeartbeats 1000000 in
set_option maxRecDepth 100000 in
theorem write_any {b : Nat} {ar : Bool} {lf : Int} {r0 r1 r2 : Value} {w : World} (hb : w.heap[b]? = some (.cells #[r0, r1, r2, .bool ar, .int .i64 lf] 86 (0, 0))) (h0 : ar = true → 0 ≤ lf) (h1 : ar = true → lf ≤ 9223372036854775807) :
    Calls Tryz.prog 59 #[.pointer (some ⟨b, 0, none⟩)] w fun e w' => e = .returned (.int .i64 (if ar = true ∧ lf = 0 then 41 else 0)) ∧ w' = armedW b ar lf w := by
  have c3 : w.cell? ⟨b, 3, none⟩ = some (.bool ar) := by rw [Lib.cell_of_heap hb]; rfl
  have c4 : w.cell? ⟨b, 4, none⟩ = some (.int .i64 lf) := by rw [Lib.cell_of_heap hb]; rfl
  have c2 : w.cell? ⟨b, 2, none⟩ = some r2 := by rw [Lib.cell_of_heap hb]; rfl
  have f2 : w.frozen? ⟨b, 2, none⟩ = false := Lib.frozen_of_heap hb 2
  have f4 : w.frozen? ⟨b, 4, none⟩ = false := Lib.frozen_of_heap hb 4
  clear hb
  unfold armedW
  cases ar with
  | false =>
    rw [if_pos rfl, if_neg (by simp)]
    clear h0 h1
    go_enter Tryz.func59, Tryz.ntmps59
    go_wp2_with fail
    go_ret
    exact ⟨rfl, rfl⟩
  | true =>
    have h0 := h0 rfl
    have h1 := h1 rfl
    rw [if_neg (show ¬ (true = false) by simp)]
    by_cases hl : lf = 0
    · subst hl
      rw [if_pos rfl, if_pos ⟨rfl, rfl⟩]
      go_enter Tryz.func59, Tryz.ntmps59
      go_wp2_with fail
      go_ret
      exact ⟨rfl, rfl⟩
    · have hl' : (lf == 0) = false := beq_eq_false_iff_ne.2 hl
      rw [if_neg hl, if_neg (fun q : true = true ∧ lf = 0 => hl q.2)]
      have h2 : 1 ≤ lf := by omega
      go_enter Tryz.func59, Tryz.ntmps59
      go_wp2_with fail
      go_ret
      exact ⟨rfl, rfl⟩
end Go.Proofs.YtjcikhacekmcfaaGreatDoor
namespace Go.Proofs.YtjcikhacekmcfaaGreatDoor
set_option maxRecDepth 20000
open Go.RowKit
open PlainDisk (File Disk Left)
set_option linter.unusedVariables false

/-! ### a file is looked up -/
theorem files_look {w : World} {mv : Option Nat} {ps : List FV} (h : (mv = none ∧ ps = []) ∨ ∃ m, mv = some m ∧ MapAt w m ps) {nm : List UInt8} (hn : nm.length ≤ maxLen) (c : Bool) :
    (Instr.lookup 84 (.map mv) (.string (str nm)) c).run Tryz.prog w = .ok (if c then .tuple #[valAt (findV ps nm), .bool (findV ps nm).isSome] else valAt (findV ps nm)) w := by
  rcases h with ⟨rfl, rfl⟩ | ⟨m, rfl, hm⟩
  · exact nil_look w hn c
  · exact hm.look hn c
theorem FilesAt.maps {w : World} {mv : Option Nat} {ps : List FV} {S : Nat → Prop} (h : FilesAt w mv ps S) : (mv = none ∧ ps = []) ∨ ∃ m, mv = some m ∧ MapAt w m ps := by
  rcases h.map with q | ⟨m, e, _, r⟩
  · exact .inl q
  · exact .inr ⟨m, e, r⟩
theorem maps_below {w w' : World} {mv : Option Nat} {ps : List FV} (h : (mv = none ∧ ps = []) ∨ ∃ m, mv = some m ∧ MapAt w m ps) (hb : Below w.heap.size w w') : (mv = none ∧ ps = []) ∨ ∃ m, mv = some m ∧ MapAt w' m ps := by
  rcases h with q | ⟨m, e, r⟩
  · exact .inl q
  · exact .inr ⟨m, e, r.keep fun es c q => hb.block m (Array.getElem?_eq_some_iff.1 q).1⟩
def contV (p : FV) : Value := valOf p
theorem valAt_none : valAt none = .agg #[.slice none 0 0, .int .i64 0] := rfl
theorem valAt_some (p : FV) : valAt (some p) = .agg #[p.2, .int .i64 (p.1.sure : Nat)] := rfl
def findCode (gone : Bool) (nm : List UInt8) (o : Option FV) : Int := if gone = true then 41 else if may nm = false then 5 else if o = none then 10 else 0
def foundV (gone : Bool) (nm : List UInt8) (o : Option FV) : Value := if findCode gone nm o = 0 then valAt o else noneVal
theorem maxLen_is : maxLen = 9223372036854775807 := rfl

/-- find, sure, and what looks at one file alone -/
structure Looks (w : World) (b : Nat) (mv : Option Nat) (gone : Bool) (nm : List UInt8) (o : Option FV) : Prop where
  cell : ∀ w', Below w.heap.size w w' → w'.cell? ⟨b, 1, none⟩ = some (.map mv)
  lt : b < w.heap.size
  look : ∀ w', Below w.heap.size w w' → ∀ c, (Instr.lookup 84 (.map mv) (.string (str nm)) c).run Tryz.prog w' = .ok (if c then .tuple #[valAt o, .bool o.isSome] else valAt o) w'
  check : ∀ w', Below w.heap.size w w' → Calls Tryz.prog 58 #[.pointer (some ⟨b, 0, none⟩), .string (str nm)] w' fun e w2 => e = .returned (.int .i64 (barCode gone nm)) ∧ Below w'.heap.size w' w2
theorem looks {w : World} {b : Nat} {mv : Option Nat} {gone : Bool} {nm : List UInt8} {ps : List FV} {r0 r3 r4 : Value} (hb : w.heap[b]? = some (.cells #[r0, .map mv, .bool gone, r3, r4] 86 (0, 0)))
    (hm : (mv = none ∧ ps = []) ∨ ∃ m, mv = some m ∧ MapAt w m ps) (hn : nm.length ≤ 281474976710656) : Looks w b mv gone nm (findV ps nm) := by
  have hlt := (Array.getElem?_eq_some_iff.1 hb).1
  have key : ∀ w', Below w.heap.size w w' → w'.heap[b]? = some (.cells #[r0, .map mv, .bool gone, r3, r4] 86 (0, 0)) := fun w' h => (h.block b hlt).trans hb
  refine ⟨fun w' h => ?_, hlt, fun w' h c => ?_, fun w' h => check_any nm (key w' h) hn⟩
  · rw [Lib.cell_of_heap (key w' h)]; rfl
  · exact files_look (maps_below hm h) (by rw [maxLen_is]; omega) c
set_option maxHeartbeats 1000000 in
set_option maxRecDepth 100000 in
theorem find_any {w : World} {b : Nat} {mv : Option Nat} {gone : Bool} {nm : List UInt8} {o : Option FV} (L : Looks w b mv gone nm o) (ho : ∀ p, o = some p → ∃ A n c, p.2 = .slice A n c) :
    Calls Tryz.prog 170 #[.pointer (some ⟨b, 0, none⟩), .string (str nm)] w fun e w' => e = .returned (.tuple #[foundV gone nm o, .int .i64 (findCode gone nm o)]) ∧ Below w.heap.size w w' := by
  have hlt := L.lt
  have HL := Lib.hid L
  have HC := Lib.hid L.check
  clear L
  unfold foundV findCode
  have hbc : barCode gone nm = if gone = true then 41 else if may nm = false then 5 else 0 := rfl
  by_cases hbad : gone = true ∨ may nm = false
  · have hc : barCode gone nm ≠ 0 ∧ (if gone = true then 41 else if may nm = false then 5 else if o = none then 10 else 0) = barCode gone nm := by
      rw [hbc]
      by_cases hg : gone = true
      · rw [if_pos hg, if_pos hg]; exact ⟨by omega, rfl⟩
      · rw [if_neg hg, if_neg hg, if_pos (hbad.resolve_left hg), if_pos (hbad.resolve_left hg)]; exact ⟨by omega, rfl⟩
    rw [hc.2, if_neg hc.1]
    have hc1 := hc.1
    generalize barCode gone nm = code at *
    clear hbc hc hbad ho
    have h0 : (code == 0) = false := beq_eq_false_iff_ne.2 hc1
    go_enter Tryz.func170, Tryz.ntmps170
    go_wp2_with fail
    refine (HC.out _ ((Below.refl _ w).alloc (Nat.le_refl _) _)).mono ?_
    rintro e w1 ⟨rfl, hb1⟩
    have hw : Below w.heap.size w w1 := ((Below.refl _ w).alloc (Nat.le_refl _) _).trans (hb1.mono (by simp))
    have hr : w1.heap[w.heap.size]? = some (.cells #[.slice none 0 0, .int .i64 0] 100 (0, 0)) := (hb1.block w.heap.size (by simp)).trans (heap_alloc_new w _)
    have a0 : w1.cell? ⟨w.heap.size, 0, none⟩ = some (.slice none 0 0) := by rw [Lib.cell_of_heap hr]; rfl
    have a1 : w1.cell? ⟨w.heap.size, 1, none⟩ = some (.int .i64 0) := by rw [Lib.cell_of_heap hr]; rfl
    have f0 := Lib.frozen_of_heap hr 0
    have f1 := Lib.frozen_of_heap hr 1
    clear hr hb1
    go_wp2_with fail
    exact bodyPost_ret (v := .tuple #[noneVal, .int .i64 code]) (by simp [noneVal, results, Tryz.results170, go_sem, a0, a1]) rfl ⟨rfl, (hw.setCell (Nat.le_refl _) _).setCell (Nat.le_refl _) _⟩
  · have hg : gone = false := by cases gone with | true => exact absurd (.inl rfl) hbad | false => rfl
    have hm : ¬ may nm = false := fun q => hbad (.inr q)
    have hc : barCode gone nm = 0 := by rw [hbc, if_neg (by simp [hg]), if_neg hm]
    rw [hc] at HC
    rw [if_neg (show ¬ gone = true by simp [hg]), if_neg hm]
    clear hbc hbad hc hm
    cases o with
    | none =>
      rw [if_pos rfl, if_neg (by omega)]
      clear ho
      go_enter Tryz.func170, Tryz.ntmps170
      go_wp2_with fail
      refine (HC.out _ ((Below.refl _ w).alloc (Nat.le_refl _) _)).mono ?_
      rintro e w1 ⟨rfl, hb1⟩
      have hw : Below w.heap.size w w1 := ((Below.refl _ w).alloc (Nat.le_refl _) _).trans (hb1.mono (by simp))
      have hr : w1.heap[w.heap.size]? = some (.cells #[.slice none 0 0, .int .i64 0] 100 (0, 0)) := (hb1.block w.heap.size (by simp)).trans (heap_alloc_new w _)
      have a0 : w1.cell? ⟨w.heap.size, 0, none⟩ = some (.slice none 0 0) := by rw [Lib.cell_of_heap hr]; rfl
      have a1 : w1.cell? ⟨w.heap.size, 1, none⟩ = some (.int .i64 0) := by rw [Lib.cell_of_heap hr]; rfl
      have f0 := Lib.frozen_of_heap hr 0
      have f1 := Lib.frozen_of_heap hr 1
      have hz : w.heap.size < w1.heap.size := (Array.getElem?_eq_some_iff.1 hr).1
      have c1 := HL.out.cell w1 hw
      have hlk := HL.out.look w1 hw true
      rw [if_pos rfl, valAt_none] at hlk
      have hlk : (Instr.lookup 84 (.map mv) (.string (str nm)) true).run Tryz.prog w1 = .ok (.tuple #[.agg #[.slice none 0 0, .int .i64 0], .bool false]) w1 := hlk
      clear hr hb1
      go_wp2_with fail
      exact bodyPost_ret (v := .tuple #[noneVal, .int .i64 10]) (by simp [noneVal, results, Tryz.results170, go_sem, a0, a1, hz]) rfl ⟨rfl, ((hw.setCell (Nat.le_refl _) _).setCell (Nat.le_refl _) _).alloc (by simp; omega) _⟩
    | some p =>
      rw [if_neg (show ¬ (some p = none) by simp), if_pos rfl]
      obtain ⟨A, n, c, hp⟩ := ho p rfl
      rw [valAt_some, hp]
      clear ho
      go_enter Tryz.func170, Tryz.ntmps170
      go_wp2_with fail
      refine (HC.out _ ((Below.refl _ w).alloc (Nat.le_refl _) _)).mono ?_
      rintro e w1 ⟨rfl, hb1⟩
      have hw : Below w.heap.size w w1 := ((Below.refl _ w).alloc (Nat.le_refl _) _).trans (hb1.mono (by simp))
      have hr : w1.heap[w.heap.size]? = some (.cells #[.slice none 0 0, .int .i64 0] 100 (0, 0)) := (hb1.block w.heap.size (by simp)).trans (heap_alloc_new w _)
      have a0 : w1.cell? ⟨w.heap.size, 0, none⟩ = some (.slice none 0 0) := by rw [Lib.cell_of_heap hr]; rfl
      have a1 : w1.cell? ⟨w.heap.size, 1, none⟩ = some (.int .i64 0) := by rw [Lib.cell_of_heap hr]; rfl
      have f0 := Lib.frozen_of_heap hr 0
      have f1 := Lib.frozen_of_heap hr 1
      have hz : w.heap.size < w1.heap.size := (Array.getElem?_eq_some_iff.1 hr).1
      have c1 := HL.out.cell w1 hw
      have hlk := HL.out.look w1 hw true
      rw [if_pos rfl, valAt_some, hp] at hlk
      have hlk : (Instr.lookup 84 (.map mv) (.string (str nm)) true).run Tryz.prog w1 = .ok (.tuple #[.agg #[.slice A n c, .int .i64 (p.1.sure : Nat)], .bool true]) w1 := hlk
      clear hr hb1 hp
      go_wp2_with fail
      exact bodyPost_ret (v := .tuple #[.agg #[.slice A n c, .int .i64 (p.1.sure : Nat)], .int .i64 0]) (by simp [results, Tryz.results170, go_sem, a0, a1, hz]) rfl ⟨rfl, ((hw.setCell (Nat.le_refl _) _).setCell (Nat.le_refl _) _).alloc (by simp; omega) _⟩
end Go.Proofs.YtjcikhacekmcfaaGreatDoor
namespace Go.Proofs.YtjcikhacekmcfaaGreatDoor
set_option maxRecDepth 20000
open Go.RowKit
open PlainDisk (File Disk Left)
set_option linter.unusedVariables false
theorem eq_map_none (m : Option Nat) (w : World) : (binOp .eql 84 (.map m) (.map none)).run Tryz.prog w = .ok (.bool m.isNone) w := by
  simp only [binOp]
  simp [run_equal_map_nil w 84 9 100 m Tryz.underlying84]
set_option maxHeartbeats 1000000 in
set_option maxRecDepth 100000 in
theorem put_some {w : World} {b m : Nat} {r0 r2 r3 r4 : Value} {ps : List FV} {nm : List UInt8} (p : FV) (hp : p.1.name = nm) {A : Option Addr} {n c : Nat} (hA : p.2 = .slice A n c)
    (hb : w.heap[b]? = some (.cells #[r0, .map (some m), r2, r3, r4] 86 (0, 0))) (hm : MapAt w m ps) (hn : nm.length ≤ maxLen) (hl : ps.length ≤ 1000) :
    Calls Tryz.prog 46 #[.pointer (some ⟨b, 0, none⟩), .string (str nm), .agg #[.slice A n c, .int .i64 (p.1.sure : Nat)]] w fun e w' => e = .returned (.tuple #[]) ∧
      w'.heap[b]? = some (.cells #[r0, .map (some m), r2, r3, r4] 86 (0, 0)) ∧ MapAt w' m (putF p (dropF nm ps)) ∧ Fr (fun k => k = m) w w' := by
  have c1 : w.cell? ⟨b, 1, none⟩ = some (.map (some m)) := by rw [Lib.cell_of_heap hb]; rfl
  have hlt : b < w.heap.size := (Array.getElem?_eq_some_iff.1 hb).1
  have he := fun W => eq_map_none (some m) W
  rw [show (some m).isNone = false from rfl] at he
  have hm1 : MapAt (w.alloc (.cells #[.slice A n c, .int .i64 (p.1.sure : Nat)] 100)).drew m ps := World.ownsMap.drew (World.ownsMap.alloc hm _)
  obtain ⟨w2, hst, hm2, hg2, hz2⟩ := hm1.store (nm := nm) hn (by rw [maxLen_is]; omega) p hp
  rw [valOf, hA] at hst
  have hmb : m ≠ b := by
    obtain ⟨es, ck, q⟩ := hm.block
    rintro rfl
    rw [hb] at q
    cases q
  have hfr : Fr (fun k => k = m) w w2 := (((Fr.refl _ w).alloc _).drew).grown hg2 (fun k hk => .inl (by cases hk; rfl))
  have hb2 : w2.heap[b]? = some (.cells #[r0, .map (some m), r2, r3, r4] 86 (0, 0)) := (hfr.block b hlt (fun q => hmb q.symm)).trans hb
  have HF := Lib.hid (And.intro hb2 (And.intro hm2 hfr))
  clear hb2 hm2 hfr hg2 hz2 hm hm1 hb hA hp
  go_enter Tryz.func46, Tryz.ntmps46
  go_wp2_with fail
  go_region
  all_goals
    go_wp2_with fail
    go_end0
    exact ⟨rfl, HF.out⟩
set_option maxHeartbeats 1000000 in
set_option maxRecDepth 100000 in
theorem put_none {w : World} {b : Nat} {r0 r2 r3 r4 : Value} {nm : List UInt8} (p : FV) (hp : p.1.name = nm) {A : Option Addr} {n c : Nat} (hA : p.2 = .slice A n c)
    (hb : w.heap[b]? = some (.cells #[r0, .map none, r2, r3, r4] 86 (0, 0))) (hn : nm.length ≤ maxLen) :
    Calls Tryz.prog 46 #[.pointer (some ⟨b, 0, none⟩), .string (str nm), .agg #[.slice A n c, .int .i64 (p.1.sure : Nat)]] w fun e w' => e = .returned (.tuple #[]) ∧
      ∃ m, w'.heap[b]? = some (.cells #[r0, .map (some m), r2, r3, r4] 86 (0, 0)) ∧ MapAt w' m [p] ∧ Fr (fun k => k = b) w w' ∧ w.heap.size ≤ m ∧ m < w'.heap.size := by
  have c1 : w.cell? ⟨b, 1, none⟩ = some (.map none) := by rw [Lib.cell_of_heap hb]; rfl
  have f1 := Lib.frozen_of_heap hb 1
  have hlt : b < w.heap.size := (Array.getElem?_eq_some_iff.1 hb).1
  have he := fun W => eq_map_none none W
  rw [show (none : Option Nat).isNone = true from rfl] at he
  have hmm := @run_makeMap Tryz.prog
  have hz0 : ((w.setCell ⟨b, 1, none⟩ (.map (some (w.heap.size + 1)))).alloc (.cells #[.slice A n c, .int .i64 (p.1.sure : Nat)] 100)).heap.size = w.heap.size + 1 := by simp [World.setCell]
  have hm1 : MapAt (((w.setCell ⟨b, 1, none⟩ (.map (some (w.heap.size + 1)))).alloc (.cells #[.slice A n c, .int .i64 (p.1.sure : Nat)] 100)).alloc (.map #[] 0)).drew (w.heap.size + 1) [] := by
    have q := MapAt.made ((w.setCell ⟨b, 1, none⟩ (.map (some (w.heap.size + 1)))).alloc (.cells #[.slice A n c, .int .i64 (p.1.sure : Nat)] 100))
    rw [hz0] at q
    exact World.ownsMap.drew q
  obtain ⟨w2, hst, hm2, hg2, hz2⟩ := hm1.store (nm := nm) hn (by rw [maxLen_is]; simp) p hp
  rw [valOf, hA] at hst
  have hm2 : MapAt w2 (w.heap.size + 1) [p] := hm2
  have hfr0 : Fr (fun k => k = b) w (((w.setCell ⟨b, 1, none⟩ (.map (some (w.heap.size + 1)))).alloc (.cells #[.slice A n c, .int .i64 (p.1.sure : Nat)] 100)).alloc (.map #[] 0)).drew :=
    ((((Fr.refl (fun k => k = b) w).setCell (p := ⟨b, 1, none⟩) (.inl rfl) _).alloc _).alloc _).drew
  have hfr : Fr (fun k => k = b) w w2 := hfr0.grown hg2 (fun k hk => .inr (by cases hk; omega))
  have hb2 : w2.heap[b]? = some (.cells #[r0, .map (some (w.heap.size + 1)), r2, r3, r4] 86 (0, 0)) := by
    rw [hg2.block b (by rw [show (((w.setCell ⟨b, 1, none⟩ (.map (some (w.heap.size + 1)))).alloc (.cells #[.slice A n c, .int .i64 (p.1.sure : Nat)] 100)).alloc (.map #[] 0)).drew.heap.size = w.heap.size + 2 by show (World.alloc _ _).heap.size = _; simp [World.setCell]]; omega) (by simp; omega)]
    show (World.alloc _ _).heap[b]? = _
    rw [Below.heap_alloc _ _ _ (by rw [hz0]; omega), Below.heap_alloc _ _ _ (by simp [World.setCell]; omega)]
    simp [World.setCell, Array.getElem?_modify, hb]
  have hlt2 : w.heap.size + 1 < w2.heap.size := by
    obtain ⟨es, ck, q⟩ := hm2.block
    exact (Array.getElem?_eq_some_iff.1 q).1
  have HF := Lib.hid (And.intro hb2 (And.intro hm2 (And.intro hfr hlt2)))
  clear hb2 hm2 hfr hg2 hz2 hm1 hb hA hp hfr0 hlt2 hz0
  go_enter Tryz.func46, Tryz.ntmps46
  go_wp2_with fail
  go_region
  all_goals
    go_wp2_with fail
    go_end0
    exact ⟨rfl, _, HF.out.1, HF.out.2.1, HF.out.2.2.1, by omega, HF.out.2.2.2⟩
/-- put, whatever there is -/
theorem put_max {w : World} {b : Nat} {mv : Option Nat} {r0 r2 r3 r4 : Value} {ps : List FV} {nm : List UInt8} (p : FV) (hp : p.1.name = nm) {A : Option Addr} {n c : Nat} (hA : p.2 = .slice A n c)
    (hb : w.heap[b]? = some (.cells #[r0, .map mv, r2, r3, r4] 86 (0, 0))) (hm : (mv = none ∧ ps = []) ∨ ∃ m, mv = some m ∧ MapAt w m ps) (hn : nm.length ≤ maxLen) (hl : ps.length ≤ 1000) :
    Calls Tryz.prog 46 #[.pointer (some ⟨b, 0, none⟩), .string (str nm), .agg #[.slice A n c, .int .i64 (p.1.sure : Nat)]] w fun e w' => e = .returned (.tuple #[]) ∧
      ∃ m, w'.heap[b]? = some (.cells #[r0, .map (some m), r2, r3, r4] 86 (0, 0)) ∧ MapAt w' m (putF p (dropF nm ps)) ∧ Fr (fun k => k = b ∨ mv = some k) w w' ∧ (mv = some m ∨ (w.heap.size ≤ m ∧ m < w'.heap.size)) := by
  rcases hm with ⟨rfl, rfl⟩ | ⟨m, rfl, hm⟩
  · refine (put_none p hp hA hb hn).mono ?_
    rintro e w' ⟨he, m, h1, h2, h3, h4, h5⟩
    exact ⟨he, m, h1, h2, ⟨h3.os, h3.tape, h3.output, h3.size, fun k hk hs => h3.block k hk fun q => hs (.inl q)⟩, .inr ⟨h4, h5⟩⟩
  · refine (put_some p hp hA hb hm hn hl).mono ?_
    rintro e w' ⟨he, h1, h2, h3⟩
    exact ⟨he, m, h1, h2, ⟨h3.os, h3.tape, h3.output, h3.size, fun k hk hs => h3.block k hk fun q => hs (.inr (by rw [q]))⟩, .inl rfl⟩
theorem put_files {w : World} {b : Nat} {mv : Option Nat} {r0 r2 r3 r4 : Value} {ps : List FV} {nm : List UInt8} (p : FV) (hp : p.1.name = nm) {A : Option Addr} {n c : Nat} (hA : p.2 = .slice A n c)
    (hb : w.heap[b]? = some (.cells #[r0, .map mv, r2, r3, r4] 86 (0, 0))) (hm : (mv = none ∧ ps = []) ∨ ∃ m, mv = some m ∧ MapAt w m ps) (hn : nm.length ≤ 281474976710656) (hl : ps.length ≤ 1000) :
    Calls Tryz.prog 46 #[.pointer (some ⟨b, 0, none⟩), .string (str nm), .agg #[.slice A n c, .int .i64 (p.1.sure : Nat)]] w fun e w' => e = .returned (.tuple #[]) ∧
      ∃ m, w'.heap[b]? = some (.cells #[r0, .map (some m), r2, r3, r4] 86 (0, 0)) ∧ MapAt w' m (putF p (dropF nm ps)) ∧ Fr (fun k => k = b ∨ mv = some k) w w' ∧ (mv = some m ∨ (w.heap.size ≤ m ∧ m < w'.heap.size)) :=
  put_max p hp hA hb hm (by rw [maxLen_is]; omega) hl
end Go.Proofs.YtjcikhacekmcfaaGreatDoor
namespace Go.Proofs.YtjcikhacekmcfaaGreatDoor
set_option maxRecDepth 20000
open Go.RowKit
open PlainDisk (File Disk Left)
set_option linter.unusedVariables false

/-! ### bytes are copied -/
theorem eq_slice_none (A : Option Addr) (n c : Nat) (w : World) : (binOp .eql 60 (.slice A n c) (.slice none 0 0)).run Tryz.prog w = .ok (.bool A.isNone) w := by
  simp only [binOp]
  simp [run_equal_slice_nil w 60 5 A n c Tryz.underlying60]
theorem field71 (A : Option Addr) (n c : Nat) (x : Int) (w : World) : (Instr.field 100 (.agg #[.slice A n c, .int .i64 x]) 1).run Tryz.prog w = .ok (.int .i64 x) w := by kernel_rfl
set_option maxHeartbeats 1000000 in
set_option maxRecDepth 100000 in
theorem clone_any (A : Option Addr) (c : Nat) (bs : List UInt8) (w : World) (hL : Lies w A c bs) (hc : bs.length ≤ c) (hn : bs.length ≤ 1048576) :
    Calls Tryz.prog 111 #[.slice A bs.length c] w fun e w' => ∃ v, e = .returned v ∧ OwnB w' w.heap.size v bs ∧ Below w.heap.size w w' := by
  cases A with
  | none =>
    have hc0 := hL.1 rfl
    subst hc0
    have hb : bs = [] := List.eq_nil_of_length_eq_zero (by omega)
    subst hb
    rw [List.length_nil]
    have he := fun W => eq_slice_none none 0 0 W
    rw [show (none : Option Addr).isNone = true from rfl] at he
    go_enter Tryz.func111, Tryz.ntmps111
    go_wp2_with fail
    go_ret
    exact ⟨_, rfl, World.ownsRow_nil _ _ _ _, Below.refl _ _⟩
  | some a =>
    have HL := Lib.hid hL
    clear hL
    have he := fun W => eq_slice_none (some a) bs.length c W
    rw [show (some a).isNone = false from rfl] at he
    go_enter Tryz.func111, Tryz.ntmps111
    go_wp2_with (at_builtin; (refine wp_appX rfl (.tmp 5) (.tmp 6) rfl w.heap.size _ [] rfl (OwnB.new w) (some a) bs.length c bs rfl (HL.out.keep fun k hk => Below.heap_alloc _ _ _ hk) rfl hc ?hl ?hbs ?_))
    case hl => simp; omega
    case hbs => simp
    intro v' w2 hown2 hgrow
    have hbw2 : Below w.heap.size w w2 := ((Below.refl _ w).alloc (Nat.le_refl _) _).grown hgrow (by simp) (fun k hk => by simp [Value.ownBlock] at hk; omega)
    go_wp2_with fail
    go_ret
    exact ⟨v', rfl, hown2, hbw2⟩
set_option maxHeartbeats 1000000 in
set_option maxRecDepth 100000 in
theorem read_any {w : World} {b : Nat} {mv : Option Nat} {gone : Bool} {nm : List UInt8} {ps : List FV} {r0 r3 r4 : Value} (hb : w.heap[b]? = some (.cells #[r0, .map mv, .bool gone, r3, r4] 86 (0, 0)))
    (hm : (mv = none ∧ ps = []) ∨ ∃ m, mv = some m ∧ MapAt w m ps) (hy : ∀ p ∈ ps, OwnB w 0 p.2 p.1.bytes) (hu : ∀ p ∈ ps, p.1.bytes.length ≤ 1048576) (hn : nm.length ≤ 281474976710656) :
    Calls Tryz.prog 55 #[.pointer (some ⟨b, 0, none⟩), .string (str nm)] w fun e w' => Below w.heap.size w w' ∧ ((findV ps nm = none ∧ e = .returned (.tuple #[.slice none 0 0, .int .i64 10])) ∨ ∃ p v, findV ps nm = some p ∧ e = .returned (.tuple #[v, .int .i64 0]) ∧ OwnB w' w.heap.size v p.1.bytes) := by
  have HL := Lib.hid (looks (nm := nm) hb hm hn)
  have HA := Lib.hid (all_any hb)
  have hlk := HL.out.look w (Below.refl _ w) true
  rw [if_pos rfl] at hlk
  cases hf : findV ps nm with
  | none =>
    rw [hf, valAt_none] at hlk
    have hlk : (Instr.lookup 84 (.map mv) (.string (str nm)) true).run Tryz.prog w = .ok (.tuple #[.agg #[.slice none 0 0, .int .i64 0], .bool false]) w := hlk
    clear hb hm hy hu HL
    go_enter Tryz.func55, Tryz.ntmps55
    go_wp2_with fail
    refine HA.out.mono ?_
    rintro e w' ⟨rfl, rfl⟩
    go_wp2_with fail
    go_ret2
    exact ⟨(Below.refl _ _).alloc (Nat.le_refl _) _, .inl (by first | exact ⟨rfl, rfl⟩ | exact ⟨trivial, rfl⟩)⟩
  | some p =>
    obtain ⟨A, c, hp, k1, k2, k3⟩ := (hy p (findV_mem hf)).slice
    rw [hf, valAt_some, hp] at hlk
    have hlk : (Instr.lookup 84 (.map mv) (.string (str nm)) true).run Tryz.prog w = .ok (.tuple #[.agg #[.slice A p.1.bytes.length c, .int .i64 (p.1.sure : Nat)], .bool true]) w := hlk
    have HC := Lib.hid (fun w' hL => clone_any A c p.1.bytes w' hL k1 (hu p (findV_mem hf)))
    have HK := Lib.hid k3
    clear hb hm hy hu HL k3 hp
    go_enter Tryz.func55, Tryz.ntmps55
    go_wp2_with fail
    refine HA.out.mono ?_
    rintro e w' ⟨rfl, rfl⟩
    go_wp2_with fail
    refine (HC.out _ (HK.out.keep fun k hk => Below.heap_alloc _ _ _ hk)).mono ?_
    rintro e w2 ⟨v, rfl, hown, hbw⟩
    have hbw2 : Below w.heap.size w w2 := ((Below.refl _ w).alloc (Nat.le_refl _) _).trans (hbw.mono (by simp))
    have HO : OwnB w2 w.heap.size v p.1.bytes := by
      refine ⟨hown.1, ?_⟩
      rcases hown.2 with q | ⟨g, cap, cur, e, hq, r⟩
      · exact .inl q
      · exact .inr ⟨g, cap, cur, e, by simp at hq; omega, r⟩
    clear hown hbw
    go_wp2_with fail
    go_ret2
    exact ⟨hbw2, .inr ⟨p, v, rfl, rfl, HO⟩⟩
set_option maxHeartbeats 1000000 in
set_option maxRecDepth 100000 in
theorem sure_any {w : World} {b : Nat} {mv : Option Nat} {gone : Bool} {nm : List UInt8} {ps : List FV} {r0 r3 r4 : Value} (hb : w.heap[b]? = some (.cells #[r0, .map mv, .bool gone, r3, r4] 86 (0, 0)))
    (hm : (mv = none ∧ ps = []) ∨ ∃ m, mv = some m ∧ MapAt w m ps) (hy : ∀ p ∈ ps, ∃ A n c, p.2 = .slice A n c) (hn : nm.length ≤ 281474976710656) :
    Calls Tryz.prog 56 #[.pointer (some ⟨b, 0, none⟩), .string (str nm)] w fun e w' => e = .returned (.int .i64 (((findV ps nm).map (·.1.sure)).getD 0 : Nat)) ∧ w = w' := by
  have HL := Lib.hid (looks (nm := nm) hb hm hn)
  have HA := Lib.hid (all_any hb)
  have hlk := HL.out.look w (Below.refl _ w) false
  rw [if_neg (by simp)] at hlk
  have hfd := field71
  cases hf : findV ps nm with
  | none =>
    rw [hf, valAt_none] at hlk
    clear hb hm HL
    go_enter Tryz.func56, Tryz.ntmps56
    go_wp2_with fail
    refine HA.out.mono ?_
    rintro e w' ⟨rfl, rfl⟩
    go_wp2_with fail
    go_ret
    exact ⟨rfl, rfl⟩
  | some p =>
    obtain ⟨A, n, c, hp⟩ := hy p (findV_mem hf)
    rw [hf, valAt_some, hp] at hlk
    clear hb hm HL hy
    go_enter Tryz.func56, Tryz.ntmps56
    go_wp2_with fail
    refine HA.out.mono ?_
    rintro e w' ⟨rfl, rfl⟩
    go_wp2_with fail
    go_ret
    exact ⟨rfl, rfl⟩

/-! ### New, Arm -/
set_option maxHeartbeats 1000000 in
set_option maxRecDepth 100000 in
theorem new_no (room : Int) (w : World) (n0 : -9223372036854775808 ≤ room) (n1 : room ≤ 9223372036854775807) (hr : room < 0 ∨ 1048576 < room) :
    Calls Tryz.prog 10 #[.int .i64 room] w fun e w' => e = .returned (.pointer none) ∧ w = w' := by
  by_cases h : room < 0
  · go_enter Tryz.func10, Tryz.ntmps10
    go_wp2_with fail
    go_ret
    exact ⟨rfl, rfl⟩
  · have h2 : 1048576 < room := hr.resolve_left h
    have h3 : 0 ≤ room := by omega
    go_enter Tryz.func10, Tryz.ntmps10
    go_wp2_with fail
    go_ret
    exact ⟨rfl, rfl⟩
set_option maxHeartbeats 1000000 in
set_option maxRecDepth 100000 in
theorem new_yes (room : Nat) (w : World) (h : room ≤ 1048576) :
    Calls Tryz.prog 10 #[.int .i64 (room : Nat)] w fun e w' => e = .returned (.pointer (some ⟨w.heap.size, 0, none⟩)) ∧ DiskIs w' w.heap.size (PlainDisk.new room) (fun k => w.heap.size ≤ k ∧ k < w'.heap.size) ∧ Below w.heap.size w w' := by
  go_enter Tryz.func10, Tryz.ntmps10
  go_wp2_with fail
  go_ret
  refine ⟨rfl, ⟨none, false, 0, [], heap_alloc_new w _, ⟨by omega, by simp⟩, rfl, .inl ⟨rfl, rfl⟩, FilesAt.empty _ _⟩, (Below.refl _ _).alloc (Nat.le_refl _) _⟩
set_option maxHeartbeats 1000000 in
set_option maxRecDepth 100000 in
theorem arm_any (b : Nat) (n : Int) (D : Disk) (S : Nat → Prop) (w : World) (hd : DiskIs w b D S) (n0 : -9223372036854775808 ≤ n) (n1 : n ≤ 9223372036854775807) :
    Calls Tryz.prog 18 #[.pointer (some ⟨b, 0, none⟩), .int .i64 n] w fun e w' => e = .returned (.tuple #[]) ∧ DiskTo w w' b (PlainDisk.arm D n) S := by
  obtain ⟨mv, ar, lf, ps, hb, hS, hfs, har, hfl⟩ := hd
  have c3 : w.cell? ⟨b, 3, none⟩ = some (.bool ar) := by rw [Lib.cell_of_heap hb]; rfl
  have c4 : w.cell? ⟨b, 4, none⟩ = some (.int .i64 lf) := by rw [Lib.cell_of_heap hb]; rfl
  have f3 := Lib.frozen_of_heap hb 3
  have f4 := Lib.frozen_of_heap hb 4
  have key : DiskTo w ((w.setCell ⟨b, 3, none⟩ (.bool (decide (0 ≤ n)))).setCell ⟨b, 4, none⟩ (.int .i64 n)) b (PlainDisk.arm D n) S := by
    refine ⟨S, ⟨mv, decide (0 ≤ n), n, ps, ?_, hS, hfs, ?_, hfl.keep fun k x hx hk hne => ?_⟩, fun k hk => .inl hk, ((Fr.refl S w).setCell (p := ⟨b, 3, none⟩) (.inl hS) _).setCell (p := ⟨b, 4, none⟩) (.inl hS) _⟩
    · simp [World.setCell, Array.getElem?_modify, hb, PlainDisk.arm]
    · unfold Armed PlainDisk.arm
      dsimp only
      by_cases h : n < 0
      · rw [if_pos h, decide_eq_false (by omega)]; exact .inl ⟨rfl, rfl⟩
      · rw [if_neg h, decide_eq_true (by omega)]; exact .inr ⟨rfl, by omega, rfl⟩
    · have hkb : k ≠ b := by
        rintro rfl
        rw [hb] at hx
        cases hx
        exact not65 hne (by decide) rfl
      rw [Below.heap_setCell _ _ _ k hkb, Below.heap_setCell _ _ _ k hkb]
      exact hx
  have HK := Lib.hid key
  clear key hfl hfs har hb
  by_cases h : 0 ≤ n
  · rw [decide_eq_true h] at HK
    go_enter Tryz.func18, Tryz.ntmps18
    go_wp2_with fail
    go_end0
    exact ⟨rfl, HK.out⟩
  · rw [decide_eq_false h] at HK
    have h' : n < 0 := by omega
    go_enter Tryz.func18, Tryz.ntmps18
    go_wp2_with fail
    go_end0
    exact ⟨rfl, HK.out⟩
end Go.Proofs.YtjcikhacekmcfaaGreatDoor
namespace Go.Proofs.YtjcikhacekmcfaaGreatDoor
set_option maxRecDepth 20000
open Go.RowKit
open PlainDisk (File Disk Left)
set_option linter.unusedVariables false

/-! ### a range over the files -/
def Names (ps : List FV) : Prop := ps.Pairwise fun p q => p.1.name ≠ q.1.name
theorem names_of_sorted {ps : List FV} (h : PlainDisk.Sorted (ps.map (·.1))) : Names ps := by
  induction ps with
  | nil => exact List.Pairwise.nil
  | cons p r ih =>
    refine List.Pairwise.cons (fun q hq => ?_) (ih h.2)
    exact PlainDisk.bl_ne (h.1 q.1 (List.mem_map_of_mem hq))
theorem findV_of_mem {ps : List FV} (h : Names ps) {p : FV} (hp : p ∈ ps) : findV ps p.1.name = some p := by
  induction ps with
  | nil => cases hp
  | cons q r ih =>
    obtain ⟨h1, h2⟩ := List.pairwise_cons.1 h
    unfold findV
    rw [List.find?_cons]
    rcases List.mem_cons.1 hp with rfl | hp
    · rw [show (p.1.name == p.1.name) = true by simp]
    · rw [show (q.1.name == p.1.name) = false from beq_eq_false_iff_ne.2 (h1 p hp)]
      exact ih h2 hp
def strike (left : Lit → Bool) (nm : List UInt8) : Lit → Bool := fun z => left z && !z.sameKey (.string nm)
def leftSum (left : Lit → Bool) (ps : List FV) : Nat := (ps.map fun p => if left (.string p.1.name) = true then p.1.bytes.length else 0).sum
theorem strike_self (left : Lit → Bool) (nm : List UInt8) : strike left nm (.string nm) = false := by
  unfold strike
  rw [show (Lit.string nm).sameKey (.string nm) = (nm == nm) from rfl]; simp
theorem strike_other (left : Lit → Bool) {nm k : List UInt8} (h : k ≠ nm) : strike left nm (.string k) = left (.string k) := by
  unfold strike
  rw [show (Lit.string k).sameKey (.string nm) = (k == nm) from rfl, beq_eq_false_iff_ne.2 h]; simp
theorem leftSum_strike {ps : List FV} (h : Names ps) {left : Lit → Bool} {p : FV} (hp : p ∈ ps) (hl : left (.string p.1.name) = true) : leftSum (strike left p.1.name) ps + p.1.bytes.length = leftSum left ps := by
  induction ps with
  | nil => cases hp
  | cons q r ih =>
    obtain ⟨h1, h2⟩ := List.pairwise_cons.1 h
    unfold leftSum at *
    simp only [List.map_cons, List.sum_cons]
    rcases List.mem_cons.1 hp with rfl | hp
    · rw [strike_self, hl]
      have : (r.map fun q => if strike left p.1.name (.string q.1.name) = true then q.1.bytes.length else 0) = r.map fun q => if left (.string q.1.name) = true then q.1.bytes.length else 0 := by
        refine List.map_congr_left fun q hq => ?_
        rw [strike_other left (h1 q hq).symm]
      rw [this]; simp; omega
    · rw [strike_other left (h1 p hp)]
      have := ih h2 hp
      omega
theorem leftSum_none (ps : List FV) {left : Lit → Bool} (h : ∀ kl, left kl = false) : leftSum left ps = 0 := by
  unfold leftSum
  induction ps with
  | nil => rfl
  | cons q r ih => rw [List.map_cons, List.sum_cons, ih, h]; rfl
theorem leftSum_all {ps qs : List FV} (hq : ∀ p ∈ ps, p ∈ qs) : leftSum (Maps.has (encM qs)) ps = PlainDisk.used (ps.map (·.1)) := by
  unfold leftSum PlainDisk.used
  rw [List.map_map]
  congr 1
  refine List.map_congr_left fun p hp => ?_
  rw [if_pos]
  · rfl
  · rw [enc_has]
    have : ∃ x, findV qs p.1.name = some x := by
      cases h : findV qs p.1.name with
      | some x => exact ⟨x, rfl⟩
      | none =>
        unfold findV at h
        exact absurd (List.find?_eq_none.1 h p (hq p hp)) (by simp)
    obtain ⟨x, hx⟩ := this
    rw [hx]; rfl
abbrev Rng (w : World) (m r k : Nat) (ps : List FV) (left : Lit → Bool) (cnt : Nat) : Prop := w.ranges Tryz.prog 9 R0 m r k (encM ps) left cnt
/-- a step of the range -/
theorem wp_next_files {ops : Array Oper} {rest : List Oper} {o : Oper} {a : Act} {Q : Exit → Act → World → Prop} {w : World} (hg : o.guard = none) (it : Operand) (hop : o.op = Op.next it false) (m r k : Nat) (ps : List FV) (left : Lit → Bool) (cnt : Nat)
    (hit : a.eval it = .pointer (some ⟨r, 0, none⟩)) (h : Rng w m r k ps left cnt) (hsl : ∀ p ∈ ps, ∃ A c, p.2 = .slice A p.1.bytes.length c)
    (hDone : (∀ kl, left kl = false) → wpList Tryz.prog ops Q rest (a.put o.dst (.tuple #[.bool false])) w)
    (hMore : ∀ (p : FV) (A : Option Addr) (c : Nat) (w' : World) (cnt' : Nat), p ∈ ps → left (.string p.1.name) = true → p.1.name.length ≤ maxLen → Rng w' m r k ps (strike left p.1.name) cnt' → cnt' < cnt →
      w.grownBy w' (some r) → w'.heap.size = w.heap.size → (Instr.entry (.pointer (some ⟨r, 0, none⟩))).run Tryz.prog w' = .ok (.tuple #[.string (str p.1.name), .agg #[.slice A p.1.bytes.length c, .int .i64 (p.1.sure : Nat)]]) w' →
      wpList Tryz.prog ops Q rest (a.put o.dst (.tuple #[.bool true, .string (str p.1.name), .agg #[.slice A p.1.bytes.length c, .int .i64 (p.1.sure : Nat)]])) w') :
    wpList Tryz.prog ops Q (o :: rest) a w := by
  refine wpList_next_ranges (β := Value) w hg it hop 9 law9 R0 encStr id (fun key kl hk => by obtain ⟨x, hx, _⟩ := Maps.keyOf_str Tryz.underlying9 hk; exact ⟨x, hx⟩) (fun v y hv => ⟨v, rfl⟩) m r k (encM ps) left cnt hit h (fun _ hl => hDone hl) ?_
  intro x v kl y w' cnt' hkey hlk hv hat hrg hlt hgr hsz hen
  obtain ⟨x', ex, rfl, hx⟩ := Maps.keyOf_str Tryz.underlying9 hkey
  obtain rfl : x = x' := encStr_inj ex
  have e1 := hat (.held noneVal)
  rw [enc_at] at e1
  have hv : some (DataW.held v, ([] : List MemPlace)) = some y := hv
  have e2 : y.1 = .held v := by rw [← Option.some.inj hv]
  rw [e2] at e1
  injection e1 with e1
  have hhas := Maps.has_true_of_atKey hat
  rw [enc_has] at hhas
  obtain ⟨p, hp⟩ := Option.isSome_iff_exists.1 hhas
  rw [hp, valAt_some] at e1
  have hnm := findV_name hp
  obtain ⟨A, c, hA⟩ := hsl p (findV_mem hp)
  rw [hA] at e1
  subst hnm
  have e1 : v = .agg #[.slice A p.1.bytes.length c, .int .i64 (p.1.sure : Nat)] := e1.symm
  subst e1
  exact hMore p A c w' cnt' (findV_mem hp) hlk hx hrg hlt hgr hsz hen

set_option maxHeartbeats 2000000 in
set_option maxRecDepth 100000 in
theorem used_some {w : World} {b m : Nat} {r0 r2 r3 r4 : Value} {ps : List FV} (hb : w.heap[b]? = some (.cells #[r0, .map (some m), r2, r3, r4] 86 (0, 0))) (hm : MapAt w m ps) (hN : Names ps)
    (hsl : ∀ p ∈ ps, ∃ A c, p.2 = .slice A p.1.bytes.length c) (hu : PlainDisk.used (ps.map (·.1)) ≤ 1048576) :
    Calls Tryz.prog 53 #[.pointer (some ⟨b, 0, none⟩)] w fun e w' => e = .returned (.int .i64 (PlainDisk.used (ps.map (·.1)) : Nat)) ∧ Below w.heap.size w w' := by
  have HA := Lib.hid (all_any hb)
  have HM := Lib.hid hm
  have hmlt : m < w.heap.size := hm.lt
  have HN := Lib.hid hN
  have HS := Lib.hid hsl
  have HU := Lib.hid (leftSum_all (ps := ps) (qs := ps) (fun p h => h))
  generalize PlainDisk.used (ps.map (·.1)) = U at *
  clear hb hm hN hsl
  go_enter Tryz.func53, Tryz.ntmps53
  go_wp2_with fail
  refine HA.out.mono ?_
  rintro e w' ⟨rfl, rfl⟩
  go_wp2_with (first | (at_range; refine wpList_range_own _ rfl _ 84 rfl 9 100 law9 Tryz.underlying84 R0 m ps.length (encM ps) rfl HM.out ?_; intro w0 hrg0 hg0 hs0) | go_in)
  go_frame
  have hbw0 : Below w.heap.size w w0 := (Below.refl _ w).grown hg0 (Nat.le_refl _) (fun k hk => by cases hk)
  have HB0 := Lib.hid hbw0
  clear hg0 hs0 hbw0
  go_loopw [3] (fun uV wr => ∃ (n : Nat) (left : Lit → Bool) (cnt : Nat), uV = .int .i64 (n : Nat) ∧ Rng wr m w.heap.size ps.length ps left cnt ∧ n + leftSum left ps = U ∧ Below w.heap.size w wr) (fun _ wr => wr.rangeLeft m w.heap.size)
  case atStart => exact ⟨0, _, _, rfl, hrg0, by rw [HU.out]; omega, HB0.out⟩
  case round =>
    obtain ⟨n, left, cnt, rfl, hrg, hsum, hbw⟩ := hrel
    have HW := Lib.hid hbw
    have HR := Lib.hid hrg
    have HSM := Lib.hid hsum
    clear hrg0 HB0 hbw hrg hsum
    go_wp2_with (at_next; refine wp_next_files rfl _ rfl m w.heap.size ps.length ps left cnt rfl HR.out HS.out ?_ ?_)
    · intro hl
      go_wp2_with fail
      go_ret
      have e := HSM.out
      rw [leftSum_none ps hl] at e
      exact ⟨ret64 (by omega), HW.out⟩
    · intro f v A c w1 cnt1 hp hlk hx hrg1 hlt hg1 hs1 hen
      have hstep : leftSum (strike left f.name) ps + f.bytes.length = leftSum left ps := leftSum_strike HN.out hp hlk
      have hb1 : (n : Int) + (f.bytes.length : Int) ≤ 1048576 := by have := HSM.out; omega
      have hbw1 : Below w.heap.size w w1 := HW.out.grown hg1 HW.out.size (fun k hk => by cases hk; exact Nat.le_refl _)
      have HR1 := Lib.hid hrg1
      have HB1 := Lib.hid hbw1
      have HST := Lib.hid hstep
      have hz1 : w.heap.size < w1.heap.size := hrg1.lt
      have HE := Lib.hid hlt
      clear hrg1 hbw1 hg1 hs1 hstep hlt hlk
      go_wp2_with fail
      go_roundw
      case rel => exact ⟨n + f.bytes.length, _, _, rfl, World.ranges.alloc HR1.out _, by have := HSM.out; have := HST.out; omega, HB1.out.alloc HB1.out.size _⟩
      case measure =>
        rw [(World.ranges.alloc HR1.out _).left_eq, HR.out.left_eq]
        exact HE.out
end Go.Proofs.YtjcikhacekmcfaaGreatDoor
