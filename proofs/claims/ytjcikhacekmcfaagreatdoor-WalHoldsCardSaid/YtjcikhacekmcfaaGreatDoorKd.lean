import GoSem.Op.String
namespace Go.Proofs.YtjcikhacekmcfaaGreatDoor.PlainDisk
set_option maxRecDepth 20000
set_option linter.unusedVariables false

/-! ### the order of names, byte by byte -/
abbrev bl := Go.Op.bytesLess
theorem bl_self (a : List UInt8) : bl a a = false := by
  induction a with
  | nil => rfl
  | cons x r ih =>
    show (decide (x < x) || (x == x && bl r r)) = false
    rw [ih]; simp
theorem bl_trans (a b c : List UInt8) (h : bl a b = true) (k : bl b c = true) : bl a c = true := by
  induction a generalizing b c with
  | nil =>
    cases c with
    | nil => cases b <;> cases k
    | cons z t => rfl
  | cons x r ih =>
    cases b with
    | nil => cases h
    | cons y s =>
      cases c with
      | nil => cases k
      | cons z t =>
        have h : (decide (x < y) || (x == y && bl r s)) = true := h
        have k : (decide (y < z) || (y == z && bl s t)) = true := k
        show (decide (x < z) || (x == z && bl r t)) = true
        simp only [Bool.or_eq_true, Bool.and_eq_true, decide_eq_true_eq, beq_iff_eq, UInt8.lt_iff_toNat_lt] at h k ⊢
        rcases h with h1 | ⟨rfl, h1⟩
        · rcases k with k1 | ⟨rfl, k1⟩
          · left; omega
          · left; exact h1
        · rcases k with k1 | ⟨rfl, k1⟩
          · left; exact k1
          · right; exact ⟨rfl, ih s t h1 k1⟩
theorem bl_total (a b : List UInt8) (h : bl a b = false) (k : bl b a = false) : a = b := by
  induction a generalizing b with
  | nil => cases b with
    | nil => rfl
    | cons y s => cases h
  | cons x r ih =>
    cases b with
    | nil => cases k
    | cons y s =>
      have h : (decide (x < y) || (x == y && bl r s)) = false := h
      have k : (decide (y < x) || (y == x && bl s r)) = false := k
      simp only [Bool.or_eq_false_iff, Bool.and_eq_false_iff, decide_eq_false_iff_not, beq_eq_false_iff_ne, UInt8.lt_iff_toNat_lt] at h k
      have e : x = y := by rw [← UInt8.toNat_inj]; omega
      subst e
      rw [ih s (h.2.resolve_left (fun q => q rfl)) (k.2.resolve_left (fun q => q rfl))]
theorem bl_asymm {a b : List UInt8} (h : bl a b = true) : bl b a = false := by
  cases k : bl b a
  · rfl
  · have := bl_trans a b a h k
    rw [bl_self] at this; cases this
theorem bl_ne {a b : List UInt8} (h : bl a b = true) : a ≠ b := by rintro rfl; rw [bl_self] at h; cases h

/-! ### files, in the order of their names -/
structure File where
  name : List UInt8
  bytes : List UInt8
  sure : Nat
def Sorted : List File → Prop
  | [] => True
  | f :: r => (∀ g ∈ r, bl f.name g.name = true) ∧ Sorted r
def find (fs : List File) (nm : List UInt8) : Option File := fs.find? fun f => f.name == nm
def used (fs : List File) : Nat := (fs.map fun f => f.bytes.length).sum
def drop (fs : List File) (nm : List UInt8) : List File := fs.filter fun f => !(f.name == nm)
def put (f : File) : List File → List File
  | [] => [f]
  | g :: r => if bl f.name g.name = true then f :: g :: r else g :: put f r
def upd (fs : List File) (nm : List UInt8) (t : File → File) : List File := fs.map fun f => if f.name = nm then t f else f

theorem find_nil (nm : List UInt8) : find [] nm = none := rfl
theorem find_cons (f : File) (r : List File) (nm : List UInt8) : find (f :: r) nm = if f.name = nm then some f else find r nm := by
  unfold find
  rw [List.find?_cons]
  by_cases h : f.name = nm
  · rw [if_pos h, show (f.name == nm) = true from beq_iff_eq.2 h]
  · rw [if_neg h, show (f.name == nm) = false from beq_eq_false_iff_ne.2 h]
theorem find_name {fs : List File} {nm : List UInt8} {f : File} (h : find fs nm = some f) : f.name = nm := by
  have := List.find?_some h
  exact beq_iff_eq.1 this
theorem find_mem {fs : List File} {nm : List UInt8} {f : File} (h : find fs nm = some f) : f ∈ fs := List.mem_of_find?_eq_some h
theorem find_none {fs : List File} {nm : List UInt8} (h : find fs nm = none) : ∀ f ∈ fs, f.name ≠ nm := by
  intro f hf e
  have := List.find?_eq_none.1 h f hf
  exact this (beq_iff_eq.2 e)
theorem find_of_mem {fs : List File} (hs : Sorted fs) {f : File} (h : f ∈ fs) : find fs f.name = some f := by
  induction fs with
  | nil => cases h
  | cons g r ih =>
    rw [find_cons]
    rcases List.mem_cons.1 h with rfl | h
    · rw [if_pos rfl]
    · rw [if_neg (bl_ne (hs.1 f h)), ih hs.2 h]

/-! upd -/
theorem upd_name {fs : List File} {nm : List UInt8} {t : File → File} (ht : ∀ f, (t f).name = f.name) : (upd fs nm t).map (·.name) = fs.map (·.name) := by
  unfold upd
  rw [List.map_map]
  apply List.map_congr_left
  intro f _
  simp only [Function.comp]
  split
  · exact ht f
  · rfl
theorem find_upd {fs : List File} {nm : List UInt8} {t : File → File} (ht : ∀ f, (t f).name = f.name) (k : List UInt8) : find (upd fs nm t) k = if k = nm then (find fs k).map t else find fs k := by
  induction fs with
  | nil => simp [upd, find]
  | cons g r ih =>
    have e : upd (g :: r) nm t = (if g.name = nm then t g else g) :: upd r nm t := rfl
    rw [e, find_cons, find_cons, ih]
    by_cases h1 : g.name = nm
    · rw [if_pos h1, ht]
      by_cases h2 : g.name = k
      · rw [if_pos h2, if_pos h2, if_pos (h2.symm.trans h1)]; rfl
      · rw [if_neg h2, if_neg h2]
    · rw [if_neg h1]
      by_cases h2 : g.name = k
      · rw [if_pos h2, if_pos h2, if_neg (by rintro rfl; exact h1 h2)]
      · rw [if_neg h2, if_neg h2]
theorem sorted_names {fs gs : List File} (h : fs.map (·.name) = gs.map (·.name)) (hs : Sorted fs) : Sorted gs := by
  induction fs generalizing gs with
  | nil => cases gs with
    | nil => trivial
    | cons g s => cases h
  | cons f r ih =>
    cases gs with
    | nil => cases h
    | cons g s =>
      simp only [List.map_cons, List.cons.injEq] at h
      refine ⟨fun x hx => ?_, ih h.2 hs.2⟩
      have : x.name ∈ r.map (·.name) := by rw [h.2]; exact List.mem_map_of_mem hx
      obtain ⟨y, hy, e⟩ := List.mem_map.1 this
      rw [← h.1, ← e]
      exact hs.1 y hy
theorem sorted_upd {fs : List File} {nm : List UInt8} {t : File → File} (ht : ∀ f, (t f).name = f.name) (hs : Sorted fs) : Sorted (upd fs nm t) := sorted_names (upd_name ht).symm hs
theorem upd_len (fs : List File) (nm : List UInt8) (t : File → File) : (upd fs nm t).length = fs.length := by simp [upd]
theorem upd_none {fs : List File} {nm : List UInt8} {t : File → File} (h : find fs nm = none) : upd fs nm t = fs := by
  unfold upd
  have := find_none h
  rw [List.map_congr_left (g := id) (fun f hf => by rw [if_neg (this f hf)]; rfl), List.map_id]

/-! drop -/
theorem mem_drop {fs : List File} {nm : List UInt8} {f : File} : f ∈ drop fs nm ↔ f ∈ fs ∧ f.name ≠ nm := by
  unfold drop
  rw [List.mem_filter]
  simp
theorem drop_cons (f : File) (r : List File) (nm : List UInt8) : drop (f :: r) nm = if f.name = nm then drop r nm else f :: drop r nm := by
  unfold drop
  rw [List.filter_cons]
  by_cases h : f.name = nm
  · simp [h]
  · simp [h]
theorem sorted_drop {fs : List File} (nm : List UInt8) (hs : Sorted fs) : Sorted (drop fs nm) := by
  induction fs with
  | nil => trivial
  | cons f r ih =>
    rw [drop_cons]
    split
    · exact ih hs.2
    · exact ⟨fun g hg => hs.1 g (mem_drop.1 hg).1, ih hs.2⟩
theorem find_drop (fs : List File) (nm k : List UInt8) : find (drop fs nm) k = if k = nm then none else find fs k := by
  induction fs with
  | nil => simp [drop, find]
  | cons f r ih =>
    rw [drop_cons, find_cons]
    by_cases h1 : f.name = nm
    · rw [if_pos h1, ih]
      by_cases h2 : k = nm
      · rw [if_pos h2, if_pos h2]
      · rw [if_neg h2, if_neg h2, if_neg (by rintro e; exact h2 (e.symm.trans h1))]
    · rw [if_neg h1, find_cons, ih]
      by_cases h2 : f.name = k
      · rw [if_pos h2, if_pos h2, if_neg (by rintro rfl; exact h1 h2)]
      · rw [if_neg h2, if_neg h2]
theorem drop_none {fs : List File} {nm : List UInt8} (h : find fs nm = none) : drop fs nm = fs := by
  unfold drop
  rw [List.filter_eq_self]
  intro f hf
  have := find_none h f hf
  simp [this]
theorem drop_len_le (fs : List File) (nm : List UInt8) : (drop fs nm).length ≤ fs.length := List.length_filter_le _ _
theorem drop_len {fs : List File} (hs : Sorted fs) {nm : List UInt8} {f : File} (h : find fs nm = some f) : (drop fs nm).length + 1 = fs.length := by
  induction fs with
  | nil => cases h
  | cons g r ih =>
    rw [find_cons] at h
    rw [drop_cons]
    by_cases e : g.name = nm
    · rw [if_pos e, drop_none]
      · rfl
      · unfold find
        rw [List.find?_eq_none]
        intro x hx q
        exact bl_ne (hs.1 x hx) (e.trans (beq_iff_eq.1 q).symm)
    · rw [if_neg e] at h ⊢
      have := ih hs.2 h
      simp only [List.length_cons]
      omega
theorem used_cons (f : File) (r : List File) : used (f :: r) = f.bytes.length + used r := by simp [used]
theorem used_drop {fs : List File} (hs : Sorted fs) {nm : List UInt8} {f : File} (h : find fs nm = some f) : used (drop fs nm) + f.bytes.length = used fs := by
  induction fs with
  | nil => cases h
  | cons g r ih =>
    rw [find_cons] at h
    rw [drop_cons]
    by_cases e : g.name = nm
    · rw [if_pos e] at h
      cases h
      rw [if_pos e, used_cons, drop_none]
      · omega
      · unfold find
        rw [List.find?_eq_none]
        intro x hx q
        exact bl_ne (hs.1 x hx) (e.trans (beq_iff_eq.1 q).symm)
    · rw [if_neg e] at h ⊢
      have := ih hs.2 h
      rw [used_cons, used_cons]
      omega
theorem used_drop_le (fs : List File) (nm : List UInt8) : used (drop fs nm) ≤ used fs := by
  induction fs with
  | nil => exact Nat.le_refl _
  | cons f r ih =>
    rw [drop_cons, used_cons]
    split
    · omega
    · rw [used_cons]; omega
theorem used_upd {fs : List File} (hs : Sorted fs) {nm : List UInt8} {f : File} {t : File → File} (h : find fs nm = some f) : used (upd fs nm t) + f.bytes.length = used fs + (t f).bytes.length := by
  induction fs with
  | nil => cases h
  | cons g r ih =>
    rw [find_cons] at h
    have e0 : upd (g :: r) nm t = (if g.name = nm then t g else g) :: upd r nm t := rfl
    rw [e0, used_cons, used_cons]
    by_cases e : g.name = nm
    · rw [if_pos e] at h
      cases h
      rw [if_pos e, upd_none]
      · omega
      · unfold find
        rw [List.find?_eq_none]
        intro x hx q
        exact bl_ne (hs.1 x hx) (e.trans (beq_iff_eq.1 q).symm)
    · rw [if_neg e] at h ⊢
      have := ih hs.2 h
      omega

/-! put -/
theorem mem_put {f g : File} {fs : List File} : g ∈ put f fs ↔ g = f ∨ g ∈ fs := by
  induction fs with
  | nil => simp [put]
  | cons h r ih =>
    unfold put
    split
    · simp
    · simp only [List.mem_cons, ih]
      constructor
      · rintro (h | h | h)
        · exact .inr (.inl h)
        · exact .inl h
        · exact .inr (.inr h)
      · rintro (h | h | h)
        · exact .inr (.inl h)
        · exact .inl h
        · exact .inr (.inr h)
theorem sorted_put {f : File} {fs : List File} (hs : Sorted fs) (h : find fs f.name = none) : Sorted (put f fs) := by
  induction fs with
  | nil => exact ⟨fun g hg => (by cases hg), trivial⟩
  | cons g r ih =>
    rw [find_cons] at h
    by_cases e : g.name = f.name
    · rw [if_pos e] at h; cases h
    rw [if_neg e] at h
    unfold put
    by_cases c : bl f.name g.name = true
    · rw [if_pos c]
      refine ⟨fun x hx => ?_, hs⟩
      rcases List.mem_cons.1 hx with rfl | hx
      · exact c
      · exact bl_trans _ _ _ c (hs.1 x hx)
    · rw [if_neg c]
      refine ⟨fun x hx => ?_, ih hs.2 h⟩
      rcases mem_put.1 hx with rfl | hx
      · cases k : bl g.name x.name
        · exact absurd (bl_total _ _ k (Bool.eq_false_iff.2 c)) e
        · rfl
      · exact hs.1 x hx
theorem put_len (f : File) (fs : List File) : (put f fs).length = fs.length + 1 := by
  induction fs with
  | nil => rfl
  | cons g r ih =>
    unfold put
    split
    · rfl
    · simp only [List.length_cons, ih]
theorem used_put (f : File) (fs : List File) : used (put f fs) = f.bytes.length + used fs := by
  induction fs with
  | nil => simp [put, used]
  | cons g r ih =>
    unfold put
    split
    · rw [used_cons]
    · rw [used_cons, used_cons, ih]; omega
theorem find_put {f : File} {fs : List File} (hs : Sorted fs) (h : find fs f.name = none) (k : List UInt8) : find (put f fs) k = if k = f.name then some f else find fs k := by
  have hp := sorted_put hs h
  by_cases e : k = f.name
  · rw [if_pos e, e]
    exact find_of_mem hp (mem_put.2 (.inl rfl))
  · rw [if_neg e]
    cases hk : find fs k with
    | some g =>
      have := find_of_mem hp (mem_put.2 (.inr (find_mem hk)))
      rw [find_name hk] at this
      exact this
    | none =>
      unfold find
      rw [List.find?_eq_none]
      intro g hg q
      rcases mem_put.1 hg with rfl | hg
      · exact e (beq_iff_eq.1 q).symm
      · exact find_none hk g hg (beq_iff_eq.1 q)
/-- two lists in order that find the same are the same -/
theorem sorted_ext {fs gs : List File} (hf : Sorted fs) (hg : Sorted gs) (h : ∀ k, find fs k = find gs k) : fs = gs := by
  induction fs generalizing gs with
  | nil =>
    cases gs with
    | nil => rfl
    | cons g s =>
      have := h g.name
      rw [find_nil, find_cons, if_pos rfl] at this
      cases this
  | cons f r ih =>
    cases gs with
    | nil =>
      have := h f.name
      rw [find_nil, find_cons, if_pos rfl] at this
      cases this
    | cons g s =>
      have h1 := h f.name
      have h2 := h g.name
      rw [find_cons, if_pos rfl, find_cons] at h1
      rw [find_cons, find_cons, if_pos rfl] at h2
      have e : f = g := by
        by_cases c : g.name = f.name
        · rw [if_pos c] at h1; exact Option.some.inj h1
        · rw [if_neg c] at h1
          rw [if_neg (fun q => c q.symm)] at h2
          have m1 := hg.1 f (find_mem h1.symm)
          have m2 := hf.1 g (find_mem h2)
          rw [bl_asymm m1] at m2
          cases m2
      subst e
      congr 1
      refine ih hf.2 hg.2 fun k => ?_
      have := h k
      rw [find_cons, find_cons] at this
      by_cases c : f.name = k
      · have n1 : find r k = none := by
          unfold find
          rw [List.find?_eq_none]
          intro x hx q
          exact bl_ne (hf.1 x hx) (c.trans (beq_iff_eq.1 q).symm)
        have n2 : find s k = none := by
          unfold find
          rw [List.find?_eq_none]
          intro x hx q
          exact bl_ne (hg.1 x hx) (c.trans (beq_iff_eq.1 q).symm)
        rw [n1, n2]
      · rw [if_neg c, if_neg c] at this
        exact this
end Go.Proofs.YtjcikhacekmcfaaGreatDoor.PlainDisk
namespace Go.Proofs.YtjcikhacekmcfaaGreatDoor.PlainDisk
set_option maxRecDepth 20000
set_option linter.unusedVariables false

structure Left where
  keep : Int
  zero : Bool
structure Disk where
  fs : List File
  room : Nat
  gone : Bool
  good : Int
/-- an act: its kind, two names, bytes, a number, what a crash leaves -/
structure Act where
  kind : Int
  a : List UInt8
  to : List UInt8
  b : List UInt8
  n : Int
  l : List Left

/-- a write: the files if it goes well, the files if it fails -/
def write (d : Disk) (ok bad : List File) : Disk × Int :=
  if d.good = 0 then ({ d with fs := bad, gone := true }, 41) else ({ d with fs := ok, good := if 0 < d.good then d.good - 1 else d.good }, 0)
def grow (b : List UInt8) (f : File) : File := { f with bytes := f.bytes ++ b }
def made (fs : List File) (a : List UInt8) : List File := if find fs a = none then put ⟨a, [], 0⟩ fs else fs
def append (may : List UInt8 → Bool) (d : Disk) (a b : List UInt8) : Disk × Int :=
  if d.gone = true then (d, 41) else if may a = false then (d, 5) else
  if find d.fs a = none ∧ 64 ≤ d.fs.length then (d, 3) else
  if d.room < used d.fs + b.length then (d, 40) else
  write d (upd (made d.fs a) a (grow b)) (upd (made d.fs a) a (grow (b.take (b.length / 2))))
def syncF (f : File) : File := { f with sure := f.bytes.length }
def sync (may : List UInt8 → Bool) (d : Disk) (a : List UInt8) : Disk × Int :=
  if d.gone = true then (d, 41) else if may a = false then (d, 5) else
  if find d.fs a = none then (d, 10) else write d (upd d.fs a syncF) d.fs
def cutF (n : Nat) (f : File) : File := { f with bytes := f.bytes.take n, sure := min f.sure n }
def cut (may : List UInt8 → Bool) (d : Disk) (a : List UInt8) (n : Int) : Disk × Int :=
  if d.gone = true then (d, 41) else if may a = false then (d, 5) else
  match find d.fs a with
  | none => (d, 10)
  | some f => if n < 0 ∨ (f.bytes.length : Int) < n then (d, 2) else write d (upd d.fs a (cutF n.toNat)) d.fs
def moved (fs : List File) (f : File) (a b : List UInt8) : List File := put { f with name := b } (drop (drop fs a) b)
def move (may : List UInt8 → Bool) (d : Disk) (a b : List UInt8) : Disk × Int :=
  if d.gone = true then (d, 41) else if may a = false ∨ may b = false then (d, 5) else
  match find d.fs a with
  | none => (d, 10)
  | some f => write d (moved d.fs f a b) d.fs
def dropA (may : List UInt8 → Bool) (d : Disk) (a : List UInt8) : Disk × Int :=
  if d.gone = true then (d, 41) else if may a = false then (d, 5) else
  if find d.fs a = none then (d, 10) else write d (drop d.fs a) d.fs
def arm (d : Disk) (n : Int) : Disk := { d with good := if n < 0 then -1 else n }
/-- what a crash leaves of bytes -/
def left (x : Left) (f : File) : List UInt8 :=
  f.bytes.take f.sure ++ ((f.bytes.drop f.sure).take x.keep.toNat ++ if x.zero = true then List.replicate ((f.bytes.drop f.sure).length - x.keep.toNat) 0 else [])
def crashF (x : Left) (f : File) : File := { f with bytes := left x f, sure := (left x f).length }
def crashL : List File → List Left → List File
  | [], _ => []
  | f :: r, l => crashF (l.headD ⟨0, false⟩) f :: crashL r l.tail
def crash (d : Disk) (l : List Left) : Disk := { d with fs := crashL d.fs l, gone := false, good := -1 }
def step (may : List UInt8 → Bool) (d : Disk) (x : Act) : Disk × Int :=
  if x.kind = 0 then append may d x.a x.b else if x.kind = 1 then sync may d x.a else if x.kind = 2 then cut may d x.a x.n
  else if x.kind = 3 then move may d x.a x.to else if x.kind = 4 then dropA may d x.a else if x.kind = 5 then (arm d x.n, 0)
  else if x.kind = 6 then (crash d x.l, 0) else (d, 0)

/-! ### the invariant -/
structure Inv (may : List UInt8 → Bool) (d : Disk) : Prop where
  sorted : Sorted d.fs
  names : ∀ f ∈ d.fs, may f.name = true
  sure : ∀ f ∈ d.fs, f.sure ≤ f.bytes.length
  room : used d.fs ≤ d.room
  many : d.fs.length ≤ 64
  armed : -1 ≤ d.good

theorem left_le (x : Left) (f : File) (h : f.sure ≤ f.bytes.length) : (left x f).length ≤ f.bytes.length ∧ f.sure ≤ (left x f).length := by
  unfold left
  simp only [List.length_append, List.length_take, List.length_drop]
  split
  · simp only [List.length_replicate]; omega
  · simp only [List.length_nil]; omega
theorem crashL_names (fs : List File) (l : List Left) : (crashL fs l).map (·.name) = fs.map (·.name) := by
  induction fs generalizing l with
  | nil => rfl
  | cons f r ih => simp only [crashL, List.map_cons, ih]; rfl
theorem crashL_used (fs : List File) (l : List Left) (h : ∀ f ∈ fs, f.sure ≤ f.bytes.length) : used (crashL fs l) ≤ used fs := by
  induction fs generalizing l with
  | nil => exact Nat.le_refl _
  | cons f r ih =>
    simp only [crashL]
    rw [used_cons, used_cons]
    have h1 := (left_le (l.headD ⟨0, false⟩) f (h f (by simp))).1
    have h2 := ih l.tail fun g hg => h g (by simp [hg])
    show (left _ f).length + _ ≤ _
    omega
theorem crashL_len (fs : List File) (l : List Left) : (crashL fs l).length = fs.length := by
  have := congrArg List.length (crashL_names fs l)
  simpa using this
theorem mem_crashL {fs : List File} {l : List Left} {g : File} (h : g ∈ crashL fs l) : ∃ f ∈ fs, ∃ x, g = crashF x f := by
  induction fs generalizing l with
  | nil => cases h
  | cons f r ih =>
    simp only [crashL, List.mem_cons] at h
    rcases h with rfl | h
    · exact ⟨f, by simp, _, rfl⟩
    · obtain ⟨f', hf, x, e⟩ := ih h
      exact ⟨f', by simp [hf], x, e⟩
theorem mem_upd {fs : List File} {nm : List UInt8} {t : File → File} {g : File} (h : g ∈ upd fs nm t) : g ∈ fs ∨ ∃ f ∈ fs, f.name = nm ∧ g = t f := by
  obtain ⟨f, hf, rfl⟩ := List.mem_map.1 h
  by_cases e : f.name = nm
  · rw [if_pos e]; exact .inr ⟨f, hf, e, rfl⟩
  · rw [if_neg e]; exact .inl hf

/-- what a write keeps -/
theorem write_inv {may : List UInt8 → Bool} {d : Disk} (h : Inv may d) {ok bad : List File}
    (h1 : Sorted ok ∧ (∀ f ∈ ok, may f.name = true) ∧ (∀ f ∈ ok, f.sure ≤ f.bytes.length) ∧ used ok ≤ d.room ∧ ok.length ≤ 64)
    (h2 : Sorted bad ∧ (∀ f ∈ bad, may f.name = true) ∧ (∀ f ∈ bad, f.sure ≤ f.bytes.length) ∧ used bad ≤ d.room ∧ bad.length ≤ 64) : Inv may (write d ok bad).1 := by
  unfold write
  have ha := h.armed
  split
  · exact ⟨h2.1, h2.2.1, h2.2.2.1, h2.2.2.2.1, h2.2.2.2.2, ha⟩
  · refine ⟨h1.1, h1.2.1, h1.2.2.1, h1.2.2.2.1, h1.2.2.2.2, ?_⟩
    dsimp only
    split <;> omega
theorem Inv.self {may : List UInt8 → Bool} {d : Disk} (h : Inv may d) : Sorted d.fs ∧ (∀ f ∈ d.fs, may f.name = true) ∧ (∀ f ∈ d.fs, f.sure ≤ f.bytes.length) ∧ used d.fs ≤ d.room ∧ d.fs.length ≤ 64 := ⟨h.sorted, h.names, h.sure, h.room, h.many⟩
theorem made_some {fs : List File} {a : List UInt8} {f : File} (h : find fs a = some f) : made fs a = fs := by
  unfold made; rw [if_neg (by rw [h]; simp)]
theorem made_none {fs : List File} {a : List UInt8} (h : find fs a = none) : made fs a = put ⟨a, [], 0⟩ fs := if_pos h
theorem find_made {fs : List File} (hs : Sorted fs) (a k : List UInt8) : find (made fs a) k = if k = a then some ((find fs a).getD ⟨a, [], 0⟩) else find fs k := by
  cases h : find fs a with
  | some f =>
    rw [made_some h]
    by_cases e : k = a
    · rw [if_pos e, e, h]; rfl
    · rw [if_neg e]
  | none =>
    rw [made_none h, find_put hs h]
    rfl
theorem sorted_made {fs : List File} (hs : Sorted fs) (a : List UInt8) : Sorted (made fs a) := by
  unfold made
  split
  · rename_i h; exact sorted_put (f := ⟨a, [], 0⟩) hs h
  · exact hs
theorem used_made (fs : List File) (a : List UInt8) : used (made fs a) = used fs := by
  unfold made
  split
  · rw [used_put]; simp
  · rfl
theorem mem_made {fs : List File} {a : List UInt8} {f : File} (h : f ∈ made fs a) : f ∈ fs ∨ f = ⟨a, [], 0⟩ := by
  unfold made at h
  split at h
  · rcases mem_put.1 h with h | h
    · exact .inr h
    · exact .inl h
  · exact .inl h
theorem append_ok {may : List UInt8 → Bool} {d : Disk} (h : Inv may d) {a b : List UInt8} (hm : may a = true) (h64 : ¬ (find d.fs a = none ∧ 64 ≤ d.fs.length)) (c : List UInt8) (hr : used d.fs + c.length ≤ d.room) :
    Sorted (upd (made d.fs a) a (grow c)) ∧ (∀ f ∈ upd (made d.fs a) a (grow c), may f.name = true) ∧ (∀ f ∈ upd (made d.fs a) a (grow c), f.sure ≤ f.bytes.length) ∧ used (upd (made d.fs a) a (grow c)) ≤ d.room ∧ (upd (made d.fs a) a (grow c)).length ≤ 64 := by
  have hs := sorted_made h.sorted a
  refine ⟨sorted_upd (fun _ => rfl) hs, ?_, ?_, ?_, ?_⟩
  · intro f hf
    rcases mem_upd hf with hf | ⟨g, hg, e, rfl⟩
    · rcases mem_made hf with hf | rfl
      · exact h.names f hf
      · exact hm
    · show may g.name = true
      rw [e]; exact hm
  · have key : ∀ f ∈ made d.fs a, f.sure ≤ f.bytes.length := by
      intro f hf
      rcases mem_made hf with hf | rfl
      · exact h.sure f hf
      · simp
    intro f hf
    rcases mem_upd hf with hf | ⟨g, hg, e, rfl⟩
    · exact key f hf
    · have := key g hg
      simp only [grow, List.length_append]
      omega
  · have hf := find_made h.sorted a a
    rw [if_pos rfl] at hf
    have := used_upd hs (t := grow c) hf
    rw [used_made] at this
    simp only [grow, List.length_append] at this
    omega
  · rw [upd_len]
    unfold made
    split
    · rename_i hn
      rw [put_len]
      have h65 : ¬ 64 ≤ d.fs.length := fun q => h64 ⟨hn, q⟩
      omega
    · exact h.many
theorem inv_append {may : List UInt8 → Bool} {d : Disk} (h : Inv may d) (a b : List UInt8) : Inv may (append may d a b).1 := by
  unfold append
  split
  · exact h
  split
  · exact h
  rename_i hm
  split
  · exact h
  rename_i h64
  split
  · exact h
  rename_i hr
  have hm : may a = true := by cases h : may a with
    | true => rfl
    | false => exact absurd h hm
  exact write_inv h (append_ok (b := b) h hm h64 b (by omega)) (append_ok (b := b) h hm h64 _ (by rw [List.length_take]; omega))
theorem inv_sync {may : List UInt8 → Bool} {d : Disk} (h : Inv may d) (a : List UInt8) : Inv may (sync may d a).1 := by
  unfold sync
  split
  · exact h
  split
  · exact h
  split
  · exact h
  rename_i hf
  refine write_inv h ⟨sorted_upd (fun _ => rfl) h.sorted, ?_, ?_, ?_, by rw [upd_len]; exact h.many⟩ h.self
  · intro f hf
    rcases mem_upd hf with hf | ⟨g, hg, e, rfl⟩
    · exact h.names f hf
    · exact h.names g hg
  · intro f hf
    rcases mem_upd hf with hf | ⟨g, hg, e, rfl⟩
    · exact h.sure f hf
    · exact Nat.le_refl _
  · cases hq : find d.fs a with
    | none => exact absurd hq hf
    | some f =>
      have := used_upd h.sorted (t := syncF) hq
      have := h.room
      simp only [syncF] at *
      omega
theorem inv_cut {may : List UInt8 → Bool} {d : Disk} (h : Inv may d) (a : List UInt8) (n : Int) : Inv may (cut may d a n).1 := by
  unfold cut
  split
  · exact h
  split
  · exact h
  split
  · exact h
  rename_i f hf
  split
  · exact h
  refine write_inv h ⟨sorted_upd (fun _ => rfl) h.sorted, ?_, ?_, ?_, by rw [upd_len]; exact h.many⟩ h.self
  · intro f hf
    rcases mem_upd hf with hf | ⟨g, hg, e, rfl⟩
    · exact h.names f hf
    · exact h.names g hg
  · intro f hf
    rcases mem_upd hf with hf | ⟨g, hg, e, rfl⟩
    · exact h.sure f hf
    · have := h.sure g hg
      simp only [cutF, List.length_take]
      omega
  · have := used_upd h.sorted (t := cutF n.toNat) hf
    have := h.room
    simp only [cutF, List.length_take] at *
    omega
theorem inv_move {may : List UInt8 → Bool} {d : Disk} (h : Inv may d) (a b : List UInt8) : Inv may (move may d a b).1 := by
  unfold move
  split
  · exact h
  split
  · exact h
  rename_i hm
  split
  · exact h
  rename_i f hf
  have hs1 := sorted_drop a h.sorted
  have hs2 := sorted_drop b hs1
  have hn : find (drop (drop d.fs a) b) b = none := by rw [find_drop, if_pos rfl]
  refine write_inv h ⟨sorted_put (f := { f with name := b }) hs2 hn, ?_, ?_, ?_, ?_⟩ h.self
  · intro g hg
    rcases mem_put.1 hg with rfl | hg
    · cases hb : may b
      · exact absurd (.inr hb) hm
      · rfl
    · exact h.names g (mem_drop.1 (mem_drop.1 hg).1).1
  · intro g hg
    rcases mem_put.1 hg with rfl | hg
    · exact h.sure f (find_mem hf)
    · exact h.sure g (mem_drop.1 (mem_drop.1 hg).1).1
  · unfold moved
    rw [used_put]
    have h1 := used_drop h.sorted hf
    have h2 := used_drop_le (drop d.fs a) b
    have := h.room
    dsimp only
    omega
  · unfold moved
    rw [put_len]
    have h1 := drop_len h.sorted hf
    have h2 := drop_len_le (drop d.fs a) b
    have := h.many
    omega
theorem inv_dropA {may : List UInt8 → Bool} {d : Disk} (h : Inv may d) (a : List UInt8) : Inv may (dropA may d a).1 := by
  unfold dropA
  split
  · exact h
  split
  · exact h
  split
  · exact h
  refine write_inv h ⟨sorted_drop a h.sorted, fun f hf => h.names f (mem_drop.1 hf).1, fun f hf => h.sure f (mem_drop.1 hf).1, ?_, ?_⟩ h.self
  · have := used_drop_le d.fs a; have := h.room; omega
  · have := drop_len_le d.fs a; have := h.many; omega
theorem inv_arm {may : List UInt8 → Bool} {d : Disk} (h : Inv may d) (n : Int) : Inv may (arm d n) := by
  refine ⟨h.sorted, h.names, h.sure, h.room, h.many, ?_⟩
  unfold arm
  dsimp only
  split <;> omega
theorem inv_crash {may : List UInt8 → Bool} {d : Disk} (h : Inv may d) (l : List Left) : Inv may (crash d l) := by
  refine ⟨sorted_names (crashL_names d.fs l).symm h.sorted, ?_, ?_, Nat.le_trans (crashL_used d.fs l h.sure) h.room, by show (crashL d.fs l).length ≤ 64; rw [crashL_len]; exact h.many, by show (-1 : Int) ≤ -1; omega⟩
  · intro g hg
    obtain ⟨f, hf, x, rfl⟩ := mem_crashL hg
    exact h.names f hf
  · intro g hg
    obtain ⟨f, hf, x, rfl⟩ := mem_crashL hg
    exact Nat.le_refl _
theorem inv_step {may : List UInt8 → Bool} {d : Disk} (h : Inv may d) (x : Act) : Inv may (step may d x).1 := by
  unfold step
  repeat' split
  · exact inv_append h _ _
  · exact inv_sync h _
  · exact inv_cut h _ _
  · exact inv_move h _ _
  · exact inv_dropA h _
  · exact inv_arm h _
  · exact inv_crash h _
  · exact h
def new (room : Nat) : Disk := ⟨[], room, false, -1⟩
theorem inv_new (may : List UInt8 → Bool) (room : Nat) : Inv may (new room) :=
  ⟨trivial, fun f hf => (by cases hf), fun f hf => (by cases hf), by simp [new, used], by simp [new], by simp [new]⟩
end Go.Proofs.YtjcikhacekmcfaaGreatDoor.PlainDisk
namespace Go.Proofs.YtjcikhacekmcfaaGreatDoor.PlainDisk
set_option maxRecDepth 20000
set_option linter.unusedVariables false

/-! ### what a file becomes, act by act -/
theorem find_write (d : Disk) (ok bad : List File) (k : List UInt8) : find (write d ok bad).1.fs k = if d.good = 0 then find bad k else find ok k := by
  unfold write
  split <;> rfl
theorem find_crashL {fs : List File} (hs : Sorted fs) (l : List Left) (k : List UInt8) :
    (find fs k = none → find (crashL fs l) k = none) ∧ (∀ f, find fs k = some f → ∃ x, find (crashL fs l) k = some (crashF x f)) := by
  induction fs generalizing l with
  | nil => exact ⟨fun _ => rfl, fun f h => by cases h⟩
  | cons g r ih =>
    have e : crashL (g :: r) l = crashF (l.headD ⟨0, false⟩) g :: crashL r l.tail := rfl
    rw [e, find_cons, find_cons]
    by_cases h : g.name = k
    · rw [if_pos h]
      rw [if_pos (show (crashF (l.headD ⟨0, false⟩) g).name = k from h)]
      exact ⟨fun q => (by cases q), fun f q => ⟨l.headD ⟨0, false⟩, (by cases q; rfl)⟩⟩
    · rw [if_neg h, if_neg (show ¬ (crashF (l.headD ⟨0, false⟩) g).name = k from h)]
      exact ih hs.2 l.tail

/-! ### what is sure stays -/
def Has (d : Disk) (nm w : List UInt8) : Prop := ∃ f, find d.fs nm = some f ∧ w.length ≤ f.sure ∧ f.bytes.take w.length = w
theorem has_grow {f : File} {w : List UInt8} (b : List UInt8) (hs : f.sure ≤ f.bytes.length) (h : w.length ≤ f.sure ∧ f.bytes.take w.length = w) : w.length ≤ (grow b f).sure ∧ (grow b f).bytes.take w.length = w := by
  refine ⟨h.1, ?_⟩
  show (f.bytes ++ b).take w.length = w
  rw [List.take_append_of_le_length (by omega)]
  exact h.2
theorem has_upd {d : Disk} {fs : List File} {a nm w : List UInt8} {t : File → File} (ht : ∀ f, (t f).name = f.name) (hh : ∀ f, find fs nm = some f → w.length ≤ f.sure ∧ f.bytes.take w.length = w → w.length ≤ (t f).sure ∧ (t f).bytes.take w.length = w)
    (h : ∃ f, find fs nm = some f ∧ w.length ≤ f.sure ∧ f.bytes.take w.length = w) : ∃ f, find (upd fs a t) nm = some f ∧ w.length ≤ f.sure ∧ f.bytes.take w.length = w := by
  obtain ⟨f, hf, h1⟩ := h
  rw [find_upd ht]
  by_cases e : nm = a
  · rw [if_pos e, hf]
    exact ⟨t f, rfl, hh f hf h1⟩
  · rw [if_neg e]
    exact ⟨f, hf, h1⟩
theorem has_made {may : List UInt8 → Bool} {d : Disk} (hi : Inv may d) {a nm w : List UInt8} (h : Has d nm w) : ∃ f, find (made d.fs a) nm = some f ∧ w.length ≤ f.sure ∧ f.bytes.take w.length = w := by
  obtain ⟨f, hf, h1⟩ := h
  refine ⟨f, ?_, h1⟩
  rw [find_made hi.sorted]
  by_cases e : nm = a
  · subst e; rw [if_pos rfl, hf]; rfl
  · rw [if_neg e, hf]
theorem made_sure {may : List UInt8 → Bool} {d : Disk} (hi : Inv may d) {a nm : List UInt8} {f : File} (h : find (made d.fs a) nm = some f) : f.sure ≤ f.bytes.length := by
  rcases mem_made (find_mem h) with h | rfl
  · exact hi.sure f h
  · exact Nat.le_refl _
theorem has_step {may : List UInt8 → Bool} {d : Disk} (hi : Inv may d) {x : Act} (hx : x.kind < 2 ∨ 4 < x.kind) {nm w : List UInt8} (h : Has d nm w) : Has (step may d x).1 nm w := by
  unfold step
  by_cases k0 : x.kind = 0
  · rw [if_pos k0]
    unfold append
    repeat' split
    · exact h
    · exact h
    · exact h
    · exact h
    · show ∃ f, find (write d _ _).1.fs nm = some f ∧ _
      rw [find_write]
      split
      · exact has_upd (d := d) (fun _ => rfl) (fun f hf q => has_grow _ (made_sure hi hf) q) (has_made hi h)
      · exact has_upd (d := d) (fun _ => rfl) (fun f hf q => has_grow _ (made_sure hi hf) q) (has_made hi h)
  rw [if_neg k0]
  by_cases k1 : x.kind = 1
  · rw [if_pos k1]
    unfold sync
    repeat' split
    · exact h
    · exact h
    · exact h
    · show ∃ f, find (write d _ _).1.fs nm = some f ∧ _
      rw [find_write]
      split
      · exact h
      · refine has_upd (d := d) (fun _ => rfl) (fun f hf q => ⟨?_, q.2⟩) h
        have := hi.sure f (find_mem hf)
        show w.length ≤ f.bytes.length
        omega
  rw [if_neg k1, if_neg (by omega), if_neg (by omega), if_neg (by omega)]
  split
  · exact h
  split
  · obtain ⟨f, hf, h1, h2⟩ := h
    obtain ⟨y, hy⟩ := (find_crashL hi.sorted x.l nm).2 f hf
    have hs := hi.sure f (find_mem hf)
    refine ⟨_, hy, ?_, ?_⟩
    · have := (left_le y f hs).2
      show w.length ≤ (left y f).length
      omega
    · show (left y f).take w.length = w
      unfold left
      rw [List.take_append_of_le_length (by rw [List.length_take]; omega), List.take_take, Nat.min_eq_left h1]
      exact h2
  · exact h

/-! ### a disk that is armed, beside one that isn't -/
structure Twin (d k : Disk) : Prop where
  fs : d.fs = k.fs
  room : d.room = k.room
  up : d.gone = false
  up' : k.gone = false
  free : k.good = -1
  armed : 0 ≤ d.good
theorem twin_write {d k : Disk} (t : Twin d k) (ok bad : List File) :
    (d.good = 0 ∧ (write d ok bad).2 = 41 ∧ (write d ok bad).1.gone = true) ∨
    (1 ≤ d.good ∧ (write d ok bad).2 = 0 ∧ (write k ok bad).2 = 0 ∧ Twin (write d ok bad).1 (write k ok bad).1 ∧ (write d ok bad).1.good = d.good - 1) := by
  have h1 := t.armed
  have h2 := t.free
  unfold write
  by_cases h : d.good = 0
  · rw [if_pos h]; exact .inl ⟨h, rfl, rfl⟩
  · have hk : ¬ k.good = 0 := by omega
    rw [if_neg h, if_neg hk]
    refine .inr ⟨by omega, rfl, rfl, ⟨rfl, t.room, t.up, t.up', ?_, ?_⟩, ?_⟩
    · dsimp only; rw [if_neg (by omega)]; exact h2
    · dsimp only; rw [if_pos (by omega)]; omega
    · dsimp only; rw [if_pos (by omega)]
/-- what an act up to Drop does to both: the armed one goes down, or both do the same -/
def TwinStep (may : List UInt8 → Bool) (d k : Disk) (x : Act) : Prop :=
  (d.good = 0 ∧ (step may d x).2 = 41 ∧ (step may d x).1.gone = true) ∨
  ((step may d x).2 = (step may k x).2 ∧ Twin (step may d x).1 (step may k x).1 ∧ (step may d x).1.gone = false ∧
    (((step may d x).2 = 0 ∧ 0 ≤ x.kind ∧ 1 ≤ d.good ∧ (step may d x).1.good = d.good - 1) ∨ (¬ ((step may d x).2 = 0 ∧ 0 ≤ x.kind) ∧ (step may d x).1.good = d.good)))
theorem twin_of_write {may : List UInt8 → Bool} {d k : Disk} {x : Act} (t : Twin d k) (h0 : 0 ≤ x.kind) (ok bad : List File) (h1 : step may d x = write d ok bad) (h2 : step may k x = write k ok bad) : TwinStep may d k x := by
  unfold TwinStep
  rw [h1, h2]
  rcases twin_write t ok bad with h | ⟨a, b, c, e, f⟩
  · exact .inl h
  · exact .inr ⟨by rw [b, c], e, e.up, .inl ⟨b, h0, a, f⟩⟩
theorem twin_same {may : List UInt8 → Bool} {d k : Disk} {x : Act} (t : Twin d k) (c : Int) (h1 : step may d x = (d, c)) (h2 : step may k x = (k, c)) (hc : ¬ (c = 0 ∧ 0 ≤ x.kind)) : TwinStep may d k x := by
  unfold TwinStep
  rw [h1, h2]
  exact .inr ⟨rfl, t, t.up, .inr ⟨hc, rfl⟩⟩
theorem twin_step {may : List UInt8 → Bool} {d k : Disk} (t : Twin d k) {x : Act} (hx : x.kind ≤ 4) : TwinStep may d k x := by
  have g1 : ¬ d.gone = true := by rw [t.up]; simp
  have g2 : ¬ k.gone = true := by rw [t.up']; simp
  have e1 := t.fs
  have e2 := t.room
  by_cases k0 : x.kind = 0
  · have q : ∀ d, step may d x = append may d x.a x.b := fun d => if_pos k0
    by_cases hm : may x.a = false
    · refine twin_same t 5 ?_ ?_ (by omega)
      · rw [q]; unfold append; rw [if_neg g1, if_pos hm]
      · rw [q]; unfold append; rw [if_neg g2, if_pos hm]
    by_cases h64 : find d.fs x.a = none ∧ 64 ≤ d.fs.length
    · refine twin_same t 3 ?_ ?_ (by omega)
      · rw [q]; unfold append; rw [if_neg g1, if_neg hm, if_pos h64]
      · rw [q]; unfold append; rw [if_neg g2, if_neg hm, ← e1, if_pos h64]
    by_cases hr : d.room < used d.fs + x.b.length
    · refine twin_same t 40 ?_ ?_ (by omega)
      · rw [q]; unfold append; rw [if_neg g1, if_neg hm, if_neg h64, if_pos hr]
      · rw [q]; unfold append; rw [if_neg g2, if_neg hm, ← e1, ← e2, if_neg h64, if_pos hr]
    · refine twin_of_write t (by omega) (upd (made d.fs x.a) x.a (grow x.b)) (upd (made d.fs x.a) x.a (grow (x.b.take (x.b.length / 2)))) ?_ ?_
      · rw [q]; unfold append; rw [if_neg g1, if_neg hm, if_neg h64, if_neg hr]
      · rw [q]; unfold append; rw [if_neg g2, if_neg hm, ← e1, ← e2, if_neg h64, if_neg hr]
  by_cases k1 : x.kind = 1
  · have q : ∀ d, step may d x = sync may d x.a := fun d => by unfold step; rw [if_neg k0, if_pos k1]
    by_cases hm : may x.a = false
    · refine twin_same t 5 ?_ ?_ (by omega)
      · rw [q]; unfold sync; rw [if_neg g1, if_pos hm]
      · rw [q]; unfold sync; rw [if_neg g2, if_pos hm]
    by_cases hf : find d.fs x.a = none
    · refine twin_same t 10 ?_ ?_ (by omega)
      · rw [q]; unfold sync; rw [if_neg g1, if_neg hm, if_pos hf]
      · rw [q]; unfold sync; rw [if_neg g2, if_neg hm, ← e1, if_pos hf]
    · refine twin_of_write t (by omega) (upd d.fs x.a syncF) d.fs ?_ ?_
      · rw [q]; unfold sync; rw [if_neg g1, if_neg hm, if_neg hf]
      · rw [q]; unfold sync; rw [if_neg g2, if_neg hm, ← e1, if_neg hf]
  by_cases k2 : x.kind = 2
  · have q : ∀ d, step may d x = cut may d x.a x.n := fun d => by unfold step; rw [if_neg k0, if_neg k1, if_pos k2]
    by_cases hm : may x.a = false
    · refine twin_same t 5 ?_ ?_ (by omega)
      · rw [q]; unfold cut; rw [if_neg g1, if_pos hm]
      · rw [q]; unfold cut; rw [if_neg g2, if_pos hm]
    cases hf : find d.fs x.a with
    | none =>
      refine twin_same t 10 ?_ ?_ (by omega)
      · rw [q]; unfold cut; rw [if_neg g1, if_neg hm, hf]
      · rw [q]; unfold cut; rw [if_neg g2, if_neg hm, ← e1, hf]
    | some f =>
      by_cases hn : x.n < 0 ∨ (f.bytes.length : Int) < x.n
      · refine twin_same t 2 ?_ ?_ (by omega)
        · rw [q]; unfold cut; rw [if_neg g1, if_neg hm, hf]; exact if_pos hn
        · rw [q]; unfold cut; rw [if_neg g2, if_neg hm, ← e1, hf]; exact if_pos hn
      · refine twin_of_write t (by omega) (upd d.fs x.a (cutF x.n.toNat)) d.fs ?_ ?_
        · rw [q]; unfold cut; rw [if_neg g1, if_neg hm, hf]; exact if_neg hn
        · rw [q]; unfold cut; rw [if_neg g2, if_neg hm, ← e1, hf]; exact if_neg hn
  by_cases k3 : x.kind = 3
  · have q : ∀ d, step may d x = move may d x.a x.to := fun d => by unfold step; rw [if_neg k0, if_neg k1, if_neg k2, if_pos k3]
    by_cases hm : may x.a = false ∨ may x.to = false
    · refine twin_same t 5 ?_ ?_ (by omega)
      · rw [q]; unfold move; rw [if_neg g1, if_pos hm]
      · rw [q]; unfold move; rw [if_neg g2, if_pos hm]
    cases hf : find d.fs x.a with
    | none =>
      refine twin_same t 10 ?_ ?_ (by omega)
      · rw [q]; unfold move; rw [if_neg g1, if_neg hm, hf]
      · rw [q]; unfold move; rw [if_neg g2, if_neg hm, ← e1, hf]
    | some f =>
      refine twin_of_write t (by omega) (moved d.fs f x.a x.to) d.fs ?_ ?_
      · rw [q]; unfold move; rw [if_neg g1, if_neg hm, hf]
      · rw [q]; unfold move; rw [if_neg g2, if_neg hm, ← e1, hf]
  by_cases k4 : x.kind = 4
  · have q : ∀ d, step may d x = dropA may d x.a := fun d => by unfold step; rw [if_neg k0, if_neg k1, if_neg k2, if_neg k3, if_pos k4]
    by_cases hm : may x.a = false
    · refine twin_same t 5 ?_ ?_ (by omega)
      · rw [q]; unfold dropA; rw [if_neg g1, if_pos hm]
      · rw [q]; unfold dropA; rw [if_neg g2, if_pos hm]
    by_cases hf : find d.fs x.a = none
    · refine twin_same t 10 ?_ ?_ (by omega)
      · rw [q]; unfold dropA; rw [if_neg g1, if_neg hm, if_pos hf]
      · rw [q]; unfold dropA; rw [if_neg g2, if_neg hm, ← e1, if_pos hf]
    · refine twin_of_write t (by omega) (drop d.fs x.a) d.fs ?_ ?_
      · rw [q]; unfold dropA; rw [if_neg g1, if_neg hm, if_neg hf]
      · rw [q]; unfold dropA; rw [if_neg g2, if_neg hm, ← e1, if_neg hf]
  · have q : ∀ d, step may d x = (d, 0) := fun d => by
      unfold step; rw [if_neg k0, if_neg k1, if_neg k2, if_neg k3, if_neg k4, if_neg (by omega), if_neg (by omega)]
    exact twin_same t 0 (q d) (q k) (by omega)

/-! ### a disk that isn't armed stays up -/
theorem free_write {d : Disk} (h : d.gone = false ∧ d.good = -1) (ok bad : List File) : write d ok bad = ({ d with fs := ok }, 0) := by
  unfold write
  rw [if_neg (by omega), if_neg (by omega)]
theorem free_step {may : List UInt8 → Bool} {d : Disk} (h : d.gone = false ∧ d.good = -1) {x : Act} (hx : x.kind ≠ 5) : (step may d x).1.gone = false ∧ (step may d x).1.good = -1 := by
  unfold step append sync cut move dropA
  repeat' split
  all_goals first
    | exact h
    | exact ⟨rfl, rfl⟩
    | (exfalso; omega)
    | (rw [free_write h]; exact h)

/-! ### files don't touch each other -/
theorem alone_step {may : List UInt8 → Bool} {d : Disk} (hi : Inv may d) {x : Act} {nm : List UInt8} (h1 : x.a ≠ nm) (h2 : x.to ≠ nm) (hx : x.kind ≠ 6) : find (step may d x).1.fs nm = find d.fs nm := by
  have n1 : nm ≠ x.a := fun e => h1 e.symm
  have n2 : nm ≠ x.to := fun e => h2 e.symm
  unfold step
  split
  · unfold append
    repeat' split
    all_goals first
      | rfl
      | (rw [find_write, find_upd (t := grow _) (fun _ => rfl), find_upd (t := grow _) (fun _ => rfl), if_neg n1, if_neg n1, find_made hi.sorted, if_neg n1]; split <;> rfl)
  split
  · unfold sync
    repeat' split
    all_goals first
      | rfl
      | (rw [find_write, find_upd (t := syncF) (fun _ => rfl), if_neg n1]; split <;> rfl)
  split
  · unfold cut
    repeat' split
    all_goals first
      | rfl
      | (rw [find_write, find_upd (t := cutF _) (fun _ => rfl), if_neg n1]; split <;> rfl)
  split
  · unfold move
    repeat' split
    all_goals first
      | rfl
      | (rename_i f hf
         have hs := sorted_drop x.to (sorted_drop x.a hi.sorted)
         have hn : find (drop (drop d.fs x.a) x.to) x.to = none := by rw [find_drop, if_pos rfl]
         rw [find_write, moved, find_put (f := { f with name := x.to }) hs hn, if_neg (show ¬ nm = x.to from n2), find_drop, if_neg n2, find_drop, if_neg n1]
         split <;> rfl)
  split
  · unfold dropA
    repeat' split
    all_goals first
      | rfl
      | (rw [find_write, find_drop, if_neg n1]; split <;> rfl)
  split
  · rfl
  · rfl

/-! ### a file that is moved -/
theorem find_moved {fs : List File} (hs : Sorted fs) (f : File) (a b k : List UInt8) : find (moved fs f a b) k = if k = b then some { f with name := b } else if k = a then none else find fs k := by
  have hs2 := sorted_drop b (sorted_drop a hs)
  have hn : find (drop (drop fs a) b) b = none := by rw [find_drop, if_pos rfl]
  rw [moved, find_put (f := { f with name := b }) hs2 hn]
  show (if k = b then _ else _) = _
  by_cases e : k = b
  · rw [if_pos e, if_pos e]
  · rw [if_neg e, if_neg e, find_drop, if_neg e, find_drop]
theorem sorted_moved {fs : List File} (hs : Sorted fs) (f : File) (a b : List UInt8) : Sorted (moved fs f a b) := by
  have hs2 := sorted_drop b (sorted_drop a hs)
  have hn : find (drop (drop fs a) b) b = none := by rw [find_drop, if_pos rfl]
  exact sorted_put (f := { f with name := b }) hs2 hn
theorem move_used {fs : List File} (hs : Sorted fs) {f : File} {a b : List UInt8} (hf : find fs a = some f) (hb : find fs b = none) : used (moved fs f a b) = used fs := by
  have h1 := used_drop hs hf
  have h2 : drop (drop fs a) b = drop fs a := drop_none (by
    rw [find_drop]
    split
    · rfl
    · exact hb)
  rw [moved, used_put, h2]
  dsimp only
  omega
theorem move_back {fs : List File} (hs : Sorted fs) {f : File} {a b : List UInt8} (hf : find fs a = some f) (hb : find fs b = none) : moved (moved fs f a b) { f with name := b } b a = fs := by
  have hab : a ≠ b := by rintro rfl; rw [hf] at hb; cases hb
  refine sorted_ext (sorted_moved (sorted_moved hs f a b) _ b a) hs fun k => ?_
  rw [find_moved (sorted_moved hs f a b)]
  by_cases e : k = a
  · rw [if_pos e, e, hf]
    have := find_name hf
    cases f
    dsimp only at this ⊢
    rw [this]
  · rw [if_neg e]
    by_cases e2 : k = b
    · rw [if_pos e2, e2, hb]
    · rw [if_neg e2, find_moved hs, if_neg e2, if_neg e]

/-! ### what a crash leaves -/
/-- a beginning, and then nothing, or bytes 0 up to the length -/
theorem left_form (x : Left) (f : File) (h : f.sure ≤ f.bytes.length) : ∃ m z, left x f = f.bytes.take m ++ List.replicate z 0 ∧ f.sure ≤ m ∧ m ≤ f.bytes.length ∧ (z = 0 ∨ m + z = f.bytes.length) := by
  have e : f.bytes.take f.sure ++ (f.bytes.drop f.sure).take x.keep.toNat = f.bytes.take (f.sure + x.keep.toNat) := by rw [List.take_add]
  have e2 : f.bytes.take (f.sure + x.keep.toNat) = f.bytes.take (min (f.sure + x.keep.toNat) f.bytes.length) := by
    rcases Nat.le_total (f.sure + x.keep.toNat) f.bytes.length with q | q
    · rw [Nat.min_eq_left q]
    · rw [Nat.min_eq_right q, List.take_of_length_le q, List.take_of_length_le (Nat.le_refl _)]
  refine ⟨min (f.sure + x.keep.toNat) f.bytes.length, if x.zero = true then (f.bytes.drop f.sure).length - x.keep.toNat else 0, ?_, by omega, by omega, ?_⟩
  · unfold left
    rw [← List.append_assoc, e, e2]
    congr 1
    split <;> rfl
  · rw [List.length_drop]
    split
    · rcases Nat.le_total (f.sure + x.keep.toNat) f.bytes.length with q | q
      · right; omega
      · left; omega
    · left; rfl
theorem crash_again {fs : List File} (h : ∀ f ∈ fs, f.sure = f.bytes.length) (l : List Left) : crashL fs l = fs := by
  induction fs generalizing l with
  | nil => rfl
  | cons f r ih =>
    simp only [crashL]
    rw [ih (fun g hg => h g (by simp [hg]))]
    congr 1
    have hf := h f (by simp)
    have e : left (l.headD ⟨0, false⟩) f = f.bytes := by
      unfold left
      rw [hf, List.take_length, List.drop_length]
      simp
    cases f
    unfold crashF
    rw [e]
    dsimp only at hf ⊢
    rw [hf]
theorem crashed_sure (fs : List File) (l : List Left) : ∀ f ∈ crashL fs l, f.sure = f.bytes.length := by
  intro g hg
  obtain ⟨f, hf, x, rfl⟩ := mem_crashL hg
  rfl
end Go.Proofs.YtjcikhacekmcfaaGreatDoor.PlainDisk
