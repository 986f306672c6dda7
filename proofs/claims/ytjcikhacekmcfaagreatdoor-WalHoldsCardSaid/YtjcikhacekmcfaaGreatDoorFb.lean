import Derived.Test.YtjcikhacekmcfaaGreatDoorRows
import Derived.Test.YtjcikhacekmcfaaGreatDoorFa
import Derived.WalkKit
import Derived.ProofKit
import Derived.WalkLawsBesides
import Derived.Outline
import Derived.Deep.QuietTactic
import Derived.BigQuiet
import Derived.Laws.BitsAllLaws
import Derived.Lib.Hide
import Derived.Lib.AppendStr
import Derived.LoopTactic
import Derived.Laws.AppendOwnNone
import Derived.StillTailTactics
namespace Go.Proofs.YtjcikhacekmcfaaGreatDoor.Fm
set_option maxRecDepth 20000
open Go.RowKit
set_option linter.unusedVariables false

theorem ret_u32 {a b : Int} (h : a = b) : Ending.returned (.int .u32 a) = .returned (.int .u32 b) := by rw [h]

theorem and1 (x : Nat) (hx : x < 4294967296) : bits BinOp.and IntKind.u32 (x : Int) 1 = ((x % 2 : Nat) : Int) := by
  have := u32_and_nat x 1 hx (by omega)
  rw [Nat.and_one_is_mod] at this
  exact this
theorem xorP (x : Nat) (hx : x < 4294967296) : bits BinOp.xor IntKind.u32 (x : Int) 3988292384 = ((x ^^^ Pl.poly : Nat) : Int) := u32_xor_nat x Pl.poly hx (by decide)

set_option maxRecDepth 20000 in
theorem stepZero_any (x : Nat) (w : World) (hx : x < 4294967296) : Calls Tryz.prog 237 #[.int .u32 x] w fun e w' => e = .returned (.int .u32 (Pl.step0 x)) ∧ w = w' := by
  go_enter Tryz.func237, Tryz.ntmps237
  go_wp2_with fail
  · have h : (bits BinOp.and IntKind.u32 (↑x) 1 == 1) = true := by assumption
    rw [and1 x hx, beq_iff_eq] at h
    go_ret
    refine ⟨ret_u32 ?_, rfl⟩
    unfold Pl.step0
    rw [if_pos (by omega)]
    exact xorP (x / 2) (by omega)
  · have h : (bits BinOp.and IntKind.u32 (↑x) 1 == 1) = false := by assumption
    rw [and1 x hx, beq_eq_false_iff_ne] at h
    go_ret
    refine ⟨ret_u32 ?_, rfl⟩
    unfold Pl.step0
    rw [if_neg (by omega)]
    rfl

set_option maxRecDepth 20000 in
theorem refStep_any (x b : Nat) (w : World) (hx : x < 4294967296) (hb : b < 2) : Calls Tryz.prog 221 #[.int .u32 x, .int .u32 b] w fun e w' => e = .returned (.int .u32 (Pl.step x b)) ∧ w = w' := by
  have hxx := u32_xor_nat x b hx (by omega)
  have hlt : x ^^^ b < 4294967296 := Pl.xor_lt 32 hx (by omega)
  have HL := Lib.hid (show Pl.step x b = Pl.step0 (x ^^^ b) from rfl)
  generalize x ^^^ b = y at *
  generalize Pl.step x b = z at *
  go_enter Tryz.func221, Tryz.ntmps221
  go_wp2_with fail
  · have h : (((y : Int) % 2) == 1) = true := by assumption
    rw [beq_iff_eq] at h
    go_ret
    refine ⟨ret_u32 ?_, rfl⟩
    rw [HL.out]
    unfold Pl.step0
    rw [if_pos (by omega)]
    exact xorP (y / 2) (by omega)
  · have h : (((y : Int) % 2) == 1) = false := by assumption
    rw [beq_eq_false_iff_ne] at h
    go_ret
    refine ⟨ret_u32 ?_, rfl⟩
    rw [HL.out]
    unfold Pl.step0
    rw [if_neg (by omega)]
    rfl
end Go.Proofs.YtjcikhacekmcfaaGreatDoor.Fm
namespace Go.Proofs.YtjcikhacekmcfaaGreatDoor.Fm
set_option maxRecDepth 20000
open Go.RowKit
set_option linter.unusedVariables false

/-- bytes as cells -/
def vB (l : List UInt8) : List Value := l.map fun b => .int .u8 (b.toNat : Int)
theorem vB_length (l : List UInt8) : (vB l).length = l.length := by simp [vB]
theorem vB_append (a b : List UInt8) : vB (a ++ b) = vB a ++ vB b := by simp [vB]
theorem vB_one (a : UInt8) : vB [a] = [.int .u8 (a.toNat : Int)] := rfl
theorem vB_oneCell (l : List UInt8) : ∀ u ∈ vB l, u.oneCell' = true := by
  intro u hu; simp only [vB, List.mem_map] at hu; obtain ⟨b, _, rfl⟩ := hu; rfl
theorem info5 : (Tryz.prog.info? 5).map (fun i => (i.zero, i.size, i.bytes)) = some (some (.int .u8 0), 1, 1) := by kernel_rfl
def OwnB (w : World) (base : Nat) (v : Value) (l : List UInt8) : Prop := w.ownsRow base 5 1 v l.length (vB l)
theorem OwnB.below {w w' : World} {base : Nat} {v : Value} {l : List UInt8} (h : OwnB w base v l) (hb : Below w.heap.size w w') : OwnB w' base v l := by
  refine ⟨h.1, ?_⟩
  rcases h.2 with hn | ⟨g, cap, cur, rfl, hg, hgg, r⟩
  · exact .inl hn
  · exact .inr ⟨g, cap, cur, rfl, hg, by rw [hb.block g (Array.getElem?_eq_some_iff.1 hgg).1]; exact hgg, r⟩
def RetBelow (v : Value) (w : World) (e : Ending) (w' : World) : Prop := e = .returned v ∧ Below w.heap.size w w'
theorem heap_set (w : World) (g k : Nat) (v : Value) (cs : Array Value) (t : TypeId) (h : w.heap[g]? = some (.cells cs t (0, 0))) :
    (w.setCell ⟨g, k, none⟩ v).heap[g]? = some (.cells (cs.setIfInBounds k v) t (0, 0)) := by
  simp [World.setCell, Array.getElem?_modify, h]
theorem grownBy_set (w : World) (g k : Nat) (v : Value) : w.grownBy (w.setCell ⟨g, k, none⟩ v) (some g) :=
  ⟨rfl, rfl, rfl, by simp [World.setCell], fun j _ hne => Below.heap_setCell w _ v j (fun e => hne (by rw [e]))⟩
theorem grownBy_below {a b : World} (h : Below a.heap.size a b) (r : Option Nat) : a.grownBy b r := ⟨h.os, h.tape, h.output, h.size, fun i hi _ => h.block i hi⟩
/-- a slice of bytes that reads as bs, in a block below B -/
def BytesAt (w : World) (B : Nat) (A : Option Addr) (bs : List UInt8) : Prop :=
  bs ≠ [] → ∃ b off, A = some ⟨b, off, none⟩ ∧ b < B ∧ ∀ j u, bs[j]? = some u → w.cell? ⟨b, off + j, none⟩ = some (.int .u8 (u.toNat : Int))
theorem BytesAt.keep {w w' : World} {B : Nat} {A : Option Addr} {bs : List UInt8} (h : BytesAt w B A bs) (hk : ∀ q, q < B → w'.heap[q]? = w.heap[q]?) : BytesAt w' B A bs := fun hne => by
  obtain ⟨b, off, h1, h2, h3⟩ := h hne
  exact ⟨b, off, h1, h2, fun j u hu => (World.cell?_of_block (w := w) (hk b h2)).trans (h3 j u hu)⟩
theorem BytesAt.take {w : World} {B : Nat} {A : Option Addr} {bs : List UInt8} (h : BytesAt w B A bs) (n : Nat) : BytesAt w B A (bs.take n) := fun hne => by
  obtain ⟨b, off, h1, h2, h3⟩ := h (fun e => hne (by rw [e]; simp))
  refine ⟨b, off, h1, h2, fun j u hu => h3 j u ?_⟩
  rw [List.getElem?_take] at hu
  split at hu
  · exact hu
  · cases hu
theorem BytesAt.drop' {w : World} {B : Nat} {A : Option Addr} {bs : List UInt8} (h : BytesAt w B A bs) (n : Nat) : BytesAt w B (A.map (·.add n)) (bs.drop n) := fun hne => by
  obtain ⟨b, off, rfl, h2, h3⟩ := h (fun e => hne (by rw [e]; simp))
  refine ⟨b, off + n, ?_, h2, fun j u hu => ?_⟩
  · simp only [Option.map_some, Addr.add]
    split
    · subst n; rfl
    · rfl
  · rw [List.getElem?_drop] at hu
    have := h3 (n + j) u hu
    rwa [← Nat.add_assoc] at this
theorem BytesAt.mono {w : World} {B B' : Nat} {A : Option Addr} {bs : List UInt8} (h : BytesAt w B A bs) (hB : B ≤ B') : BytesAt w B' A bs := fun hne => by
  obtain ⟨b, off, h1, h2, h3⟩ := h hne
  exact ⟨b, off, h1, by omega, h3⟩
theorem BytesAt.nil (w : World) (B : Nat) (A : Option Addr) : BytesAt w B A [] := fun h => absurd rfl h
/-- bytes that stand in memory, made a text -/
theorem conv_str {w : World} {B : Nat} {A : Option Addr} {bs : List UInt8} (h : BytesAt w B A bs) (n cap : Nat) (hn : bs.length = n) :
    (convert 60 9 (.slice A n cap)).run Tryz.prog w = .ok (.string ⟨bs.toArray⟩) w := by
  subst hn
  cases A with
  | none =>
    have : bs = [] := by
      cases bs with
      | nil => rfl
      | cons x r => obtain ⟨b, off, h1, _⟩ := h (by simp); cases h1
    subst this
    show (convert 60 9 (.slice none 0 cap)).run Tryz.prog w = _
    rw [run_convert_bytes_string w 60 9 5 none 0 cap Tryz.underlying60 Tryz.underlying5 Tryz.underlying9]
    simp [Conv.bytesToString]
    rfl
  | some ad =>
    refine run_convert_bytes_back w 60 9 5 ad cap bs Tryz.underlying60 Tryz.underlying5 Tryz.underlying9 fun j hj => ?_
    obtain ⟨b, off, h1, _, h3⟩ := h (fun e => by rw [e] at hj; simp at hj)
    injection h1 with h1
    subst h1
    have := h3 j _ (List.getElem?_eq_getElem hj)
    unfold Addr.add
    split
    · subst j; simpa using this
    · exact this
theorem OwnB.form {w : World} {base : Nat} {v : Value} {l : List UInt8} (h : OwnB w base v l) : ∃ A cap, v = .slice A l.length cap ∧ BytesAt w w.heap.size A l ∧ l.length ≤ cap ∧ cap ≤ 9223372036854775807 := by
  have h0 := h
  rcases h.2 with ⟨rfl, hn⟩ | ⟨g, cap, cur, rfl, hb, hh, hc, hm, _⟩
  · have : l = [] := List.eq_nil_of_length_eq_zero hn
    subst this
    exact ⟨none, 0, rfl, BytesAt.nil _ _ _, by simp, by omega⟩
  · refine ⟨some ⟨g, 0, none⟩, cap, rfl, fun hne => ⟨g, 0, rfl, (Array.getElem?_eq_some_iff.1 hh).1, fun j u hu => ?_⟩, hc, by simp only [maxLen] at hm; omega⟩
    have := h0.cells (g := g) rfl j (.int .u8 (u.toNat : Int)) (by simp [vB, hu])
    unfold Addr.add at this
    split at this
    · subst j; simpa using this
    · simpa using this
theorem conv_own {w : World} {base : Nat} {v : Value} {l : List UInt8} (h : OwnB w base v l) : (convert 60 9 v).run Tryz.prog w = .ok (.string ⟨l.toArray⟩) w := by
  obtain ⟨A, cap, rfl, hb, _, _⟩ := h.form
  exact conv_str hb _ _ rfl
/-- a row of bytes, just made -/
theorem bytes_new (w : World) (bs : List UInt8) (B : Nat) (hB : w.heap.size < B) : BytesAt (w.alloc (.cells (vB bs).toArray 5)) B (some ⟨w.heap.size, 0, none⟩) bs := fun _ =>
  ⟨w.heap.size, 0, rfl, hB, fun j u hu => by
    rw [Nat.zero_add, cell_of_row _ _ j _ _ _ (heap_alloc_new w _)]
    simp [vB, hu]⟩
theorem OwnB.form' {w : World} {base : Nat} {v : Value} {l : List UInt8} (h : OwnB w base v l) (hne : l ≠ []) : ∃ g cap, v = .slice (some ⟨g, 0, none⟩) l.length cap ∧ base ≤ g ∧ g < w.heap.size ∧ l.length ≤ cap ∧ cap ≤ 9223372036854775807 := by
  rcases h.2 with ⟨rfl, hn⟩ | ⟨g, cap, cur, rfl, hb, hh, hc, hm, _⟩
  · exact absurd (List.eq_nil_of_length_eq_zero hn) hne
  · exact ⟨g, cap, rfl, hb, (Array.getElem?_eq_some_iff.1 hh).1, hc, by simp only [maxLen] at hm; omega⟩
theorem OwnB.set {w : World} {base g n cap : Nat} {l : List UInt8} (h : OwnB w base (.slice (some ⟨g, 0, none⟩) n cap) l) (j : Nat) (y : UInt8) : OwnB (w.setCell ⟨g, j, none⟩ (.int .u8 (y.toNat : Int))) base (.slice (some ⟨g, 0, none⟩) n cap) (l.set j y) := by
  have hn : n = l.length := by
    rcases h.2 with ⟨h1, _⟩ | ⟨_, _, _, h1, _⟩
    · cases h1
    · injection h1
  subst hn
  have := (World.ownsRow.stored h j (.int .u8 (y.toNat : Int))).1
  unfold OwnB
  rw [List.length_set, show vB (l.set j y) = (vB l).set j (.int .u8 (y.toNat : Int)) from by simp [vB, List.map_set]]
  exact this
theorem OwnB.at' {w : World} {base g n cap : Nat} {l : List UInt8} (h : OwnB w base (.slice (some ⟨g, 0, none⟩) n cap) l) {j : Nat} {x : UInt8} (hx : l[j]? = some x) : w.cell? ⟨g, j, none⟩ = some (.int .u8 (x.toNat : Int)) ∧ w.frozen? ⟨g, j, none⟩ = false := by
  have hn : n = l.length := by
    rcases h.2 with ⟨h1, _⟩ | ⟨_, _, _, h1, _⟩
    · cases h1
    · injection h1
  subst hn
  refine ⟨?_, World.ownsRow.frozenAt h j⟩
  have := World.ownsRow.cells h (g := g) rfl j (.int .u8 (x.toNat : Int)) (by simp [vB, hx])
  unfold Addr.add at this
  split at this
  · subst j; simpa using this
  · simpa using this
/-- append of bytes that stand in memory, or of none -/
theorem wp_appB {ops : Array Oper} {rest : List Oper} {o : Oper} {a : Act} {Q : Exit → Act → World → Prop} {w : World} (hgd : o.guard = none) (s x : Operand)
    (ho : o.op = .call { callee := .builtin .append, args := #[s, x], argTypes := #[60, 60] })
    (base : Nat) (v : Value) (l : List UInt8) (hs : a.eval s = v) (hown : OwnB w base v l) (A : Option Addr) (n c B : Nat) (bs : List UInt8) (hx : a.eval x = .slice A n c) (hA : A = none → c = 0) (hb : BytesAt w B A bs) (hn : bs.length = n) (hnc : n ≤ c)
    (hlen : l.length + n ≤ 140737488355328) (hbase : base ≤ w.heap.size)
    (h : ∀ v' w', OwnB w' base v' (l ++ bs) → Below base w w' → wpList Tryz.prog ops Q rest (a.put o.dst v') w') : wpList Tryz.prog ops Q (o :: rest) a w := by
  obtain ⟨i5, hi5, hz0, hz1, hz2⟩ := info_parts info5
  cases A with
  | none =>
    have hc0 := hA rfl
    subst hc0
    obtain rfl : n = 0 := by omega
    have hbs : bs = [] := List.eq_nil_of_length_eq_zero hn
    subst hbs
    refine wpList_append_own_none hgd s x 60 ho base 5 i5 1 Tryz.underlying60 hi5 v l.length (vB l) hs hown hx (h v w ?_ (Below.refl _ _))
    rw [List.append_nil]; exact hown
  | some ad =>
    refine wpList_append_own w hgd s x 60 ho base 5 i5 _ 1 1 Tryz.underlying60 hi5 hz0 hz1 hz2 rfl (by omega) v l.length (vB l) hs hown ad n c (vB bs) hx (by rw [vB_length]; omega) ?_ (vB_oneCell _) (by simp only [maxLen]; omega) (by omega) hbase ?_
    · intro j u hu
      have hne : bs ≠ [] := fun e => by rw [e] at hu; simp [vB] at hu
      obtain ⟨b, off, h1, _, h3⟩ := hb hne
      injection h1 with h1
      subst h1
      simp only [vB, List.getElem?_map, Option.map_eq_some_iff] at hu
      obtain ⟨y, hy, rfl⟩ := hu
      have := h3 j y hy
      unfold Addr.add
      split
      · subst j; simpa using this
      · exact this
    · intro v' w' h2 h3 _
      refine h v' w' ?_ ((Below.refl _ _).grown h3 hbase fun k hk => (hown.lt k hk).1)
      unfold OwnB
      rw [vB_append, List.length_append, hn]
      exact h2
end Go.Proofs.YtjcikhacekmcfaaGreatDoor.Fm
namespace Go.Proofs.YtjcikhacekmcfaaGreatDoor.Fm
set_option maxRecDepth 20000
open Go.RowKit
set_option linter.unusedVariables false

theorem Pl.zeros0_succ : ∀ (n s : Nat), Pl.zeros0 (n + 1) s = Pl.step0 (Pl.zeros0 n s) := by
  intro n
  induction n with
  | zero => intro s; rfl
  | succ n ih => intro s; rw [Pl.zeros0, ih]; rfl
theorem Pl.byte_code (s : Nat) (c : UInt8) (hs : s < 4294967296) : Pl.byte s c = (s / 256) ^^^ Pl.entry ((s % 256) ^^^ c.toNat) := by
  rw [Pl.byte_table s c hs, Nat.xor_comm]
  have h : (s ^^^ c.toNat) % 2 ^ 8 = s % 2 ^ 8 ^^^ c.toNat % 2 ^ 8 := Nat.xor_mod_two_pow
  have hc := c.toNat_lt
  rw [show (256 : Nat) = 2 ^ 8 from rfl, h, show c.toNat % 2 ^ 8 = c.toNat from by omega]
theorem Pl.entry_lt (i : Nat) (h : i < 4294967296) : Pl.entry i < 4294967296 := Pl.zeros0_lt 8 i h
theorem Pl.byte_lt (s : Nat) (c : UInt8) (hs : s < 4294967296) : Pl.byte s c < 4294967296 := by
  have h := Pl.more0_lt [c] s hs
  simpa [Pl.more0] using h

/-- the table, filled up to place k -/
def tabOf (k : Nat) : Array Value := Array.ofFn (n := 256) fun i => .int .u32 ((if i.val < k then Pl.entry i.val else 0 : Nat) : Int)
theorem zero36 (w : World) : Sem.run Tryz.prog (zeroValue 291) w = .ok (.agg (tabOf 0)) w := by kernel_rfl
theorem tabOf_size (k : Nat) : (tabOf k).size = 256 := by simp [tabOf]
theorem tabOf_at (k i : Nat) (h : i < 256) : (tabOf k)[i]? = some (.int .u32 ((if i < k then Pl.entry i else 0 : Nat) : Int)) := by
  rw [Array.getElem?_eq_getElem (by rw [tabOf_size]; exact h)]
  simp only [tabOf, Array.getElem_ofFn]
theorem tabOf_set (k : Nat) (h : k < 256) : (tabOf k).setIfInBounds k (.int .u32 (Pl.entry k : Nat)) = tabOf (k + 1) := by
  apply Array.ext_getElem?
  intro i
  rw [Array.getElem?_setIfInBounds, tabOf_size]
  by_cases hi : i < 256
  · rw [tabOf_at _ i hi, tabOf_at _ i hi]
    by_cases e : k = i
    · subst e; rw [if_pos rfl, if_pos h, if_pos (by omega)]
    · rw [if_neg e]
      by_cases hk : i < k
      · rw [if_pos hk, if_pos (by omega)]
      · rw [if_neg hk, if_neg (by omega)]
  · rw [if_neg (by omega), Array.getElem?_eq_none (by rw [tabOf_size]; omega), Array.getElem?_eq_none (by rw [tabOf_size]; omega)]
theorem tabOf_get (i : Nat) (h : i < 256) : (tabOf 256)[i]? = some (.int .u32 (Pl.entry i : Nat)) := by rw [tabOf_at _ i h, if_pos h]

attribute [irreducible] tabOf

def ProcPost (s : Nat) (bs : List UInt8) (w : World) (e : Ending) (w' : World) : Prop := e = .returned (.int .u32 (Pl.more0 s bs : Nat)) ∧ Below w.heap.size w w'

def Rel1 (w : World) (i : Value) (w' : World) : Prop := ∃ k : Nat, k ≤ 256 ∧ i = .int .i64 k ∧ w' = w.alloc (.cells (tabOf k) 291)

theorem round_facts (s : Nat) (bs : List UInt8) (k : Nat) (hs : s < 4294967296) (hk : k < bs.length) : ∃ (R : Nat) (x : UInt8) (ix E : Nat), Pl.more0 s (bs.take k) = R ∧ bs[k]? = some x ∧ R < 4294967296 ∧ (x.toNat : Int) < 256 ∧
    bits .xor .u8 ((R : Int) % 256) (x.toNat : Int) = ix ∧ (ix : Int) < 256 ∧ (tabOf 256)[ix]? = some (.int .u32 E) ∧ E < 4294967296 ∧ bits .xor .u32 ((R : Int) / 256) (E : Int) = (Pl.more0 s (bs.take (k + 1)) : Nat) := by
  have hR := Pl.more0_lt (bs.take k) s hs
  have hx := bs[k].toNat_lt
  have hxl : (Pl.more0 s (bs.take k) % 256) ^^^ bs[k].toNat < 2 ^ 8 := Nat.xor_lt_two_pow (by omega) (by omega)
  refine ⟨Pl.more0 s (bs.take k), bs[k], (Pl.more0 s (bs.take k) % 256) ^^^ bs[k].toNat, Pl.entry ((Pl.more0 s (bs.take k) % 256) ^^^ bs[k].toNat), rfl, List.getElem?_eq_getElem hk, hR, by omega, ?_, by omega, tabOf_get _ hxl, Pl.entry_lt _ (by omega), ?_⟩
  · have := u8_xor_nat (Pl.more0 s (bs.take k) % 256) bs[k].toNat (by omega) (by omega)
    rw [← this]; rfl
  · have hsnoc : Pl.more0 s (bs.take (k + 1)) = Pl.byte (Pl.more0 s (bs.take k)) bs[k] := by
      rw [List.take_succ_eq_append_getElem hk]
      unfold Pl.more0
      rw [List.foldl_append]
      rfl
    rw [hsnoc, Pl.byte_code _ _ hR, ← u32_xor_nat _ _ (by omega) (Pl.entry_lt _ (by omega))]
    rfl

def Rel2 (s : Nat) (bs : List UInt8) (n : Nat) (v i : Value) : Prop := ∃ k : Nat, k ≤ n ∧ i = .int .i64 k ∧ v = .int .u32 (Pl.more0 s (bs.take k) : Nat)

set_option maxRecDepth 20000 in
theorem process_any (s : Nat) (bs : List UInt8) (A : Option Addr) (n cap : Nat) (w : World) (hs : s < 4294967296) (hb : BytesAt w w.heap.size A bs) (hn : bs.length = n) (hc : n ≤ 9223372036854775807) : Calls Tryz.prog 206 #[.int .u32 s, .slice A n cap] w (ProcPost s bs w) := by
  have HN := Lib.hid hn
  have HB := Lib.hid hb
  clear hn hb
  have hz := zero36 w
  go_enter Tryz.func206, Tryz.ntmps206
  go_wp2_with fail
  go_loopw [10] (Rel1 w) (fun i _ => 256 - (intOf i).toNat)
  case atStart => exact ⟨0, by omega, rfl, rfl⟩
  case round =>
    obtain ⟨k, hk, rfl, rfl⟩ := hrel
    by_cases hlt : k < 256
    · have hset := tabOf_set k hlt
      have hold : (tabOf k)[k]? = some (.int .u32 ((if k < k then Pl.entry k else 0 : Nat) : Int)) := tabOf_at k k hlt
      rw [if_neg (by omega)] at hold
      have HS := Lib.hid hset
      have hdk : decide ((k : Int) < 256) = true := by simp; omega
      clear hset
      clear hz
      go_wp2_with fail
      go_loop [7, 15] (fun v j => ∃ m : Nat, m ≤ 8 ∧ j = .int .i64 m ∧ v = .int .u32 (Pl.zeros0 m k : Nat)) (fun _ j => 8 - (intOf j).toNat)
      case atStart => exact ⟨0, by omega, rfl, by rw [Pl.zeros0]⟩
      case round =>
        obtain ⟨m, hm, rfl, rfl⟩ := hrel
        have hzl := Pl.zeros0_lt m k (by omega)
        have HZ := Lib.hid (Pl.zeros0_succ m k)
        by_cases hlt2 : m < 8
        · go_wp2_with (go_at_call 237; refine (stepZero_any _ _ (by assumption)).mono ?_; rintro e w' ⟨rfl, rfl⟩)
          go_round
          case rel => exact ⟨m + 1, by omega, by go_num, by rw [HZ.out]⟩
          case measure => simp [intOf]; omega
        · obtain rfl : m = 8 := by omega
          go_wp2_with fail
          go_roundw
          case rel => exact ⟨k + 1, by omega, by go_num, by rw [← HS.out]; rfl⟩
          case measure => simp [intOf]; omega
    · obtain rfl : k = 256 := by omega
      clear hz
      go_wp2_with fail
      go_loop [0, 26] (Rel2 s bs n) (fun _ i => n - (intOf i).toNat)
      case atStart => exact ⟨0, Nat.zero_le _, rfl, rfl⟩
      case round =>
        obtain ⟨k, hk, rfl, rfl⟩ := hrel
        by_cases hlt : k < n
        · have hbl : k < bs.length := by rw [HN.out]; exact hlt
          obtain ⟨b, off, rfl, hb1, hb2⟩ := HB.out (fun e => by rw [e] at hbl; simp at hbl)
          obtain ⟨R, x, ix, E, e1, e2, h1, h2, h3, h4, h5, h6, h7⟩ := round_facts s bs k hs hbl
          have hcell : w.cell? ⟨b, off + k, none⟩ = some (.int .u8 (x.toNat : Int)) := hb2 k x e2
          rw [e1]
          have H7 := Lib.hid h7
          clear hb2 e1 e2 h7 hbl
          go_wp2_with fail
          go_round
          case rel => exact ⟨k + 1, by omega, by go_num, by rw [← H7.out]⟩
          case measure => simp [intOf]; omega
        · obtain rfl : k = n := by omega
          go_wp2_with fail
          go_ret
          exact ⟨ret_u32 (by rw [List.take_of_length_le (by rw [HN.out]; omega)]), (Below.refl _ _).alloc (Nat.le_refl _) _⟩
end Go.Proofs.YtjcikhacekmcfaaGreatDoor.Fm
namespace Go.Proofs.YtjcikhacekmcfaaGreatDoor.Fm
set_option maxRecDepth 20000
open Go.RowKit
set_option linter.unusedVariables false

theorem inv32 (x : Nat) (h : x < 4294967296) : bits .xor .u32 IntKind.u32.max (x : Int) = ((4294967295 - x : Nat) : Int) := by
  have h1 := u32_xor_nat 4294967295 x (by omega) h
  rw [← Pl.inv_xor h] at h1
  exact h1

set_option maxRecDepth 20000 in
theorem sum_any (bs : List UInt8) (A : Option Addr) (n cap : Nat) (w : World) (hb : BytesAt w w.heap.size A bs) (hn : bs.length = n) (hc : n ≤ 9223372036854775807) : Calls Tryz.prog 169 #[.slice A n cap] w (RetBelow (.int .u32 (Pl.sum bs : Nat)) w) := by
  have HN := Lib.hid hn
  have HB := Lib.hid hb
  clear hn hb
  go_enter Tryz.func169, Tryz.ntmps169
  go_wp2_with fail
  refine (process_any 4294967295 bs A n cap w (by omega) HB.out HN.out hc).mono ?_
  rintro e w1 ⟨rfl, hb1⟩
  have hl := Pl.more0_lt bs 4294967295 (by omega)
  have HS := Lib.hid (show Pl.sum bs = 4294967295 - Pl.more0 4294967295 bs from rfl)
  generalize Pl.more0 4294967295 bs = R at *
  go_wp2_with fail
  go_ret
  exact ⟨ret_u32 (by rw [HS.out]; exact inv32 R hl), hb1⟩

theorem Pl.bitsOf_snoc : ∀ (k c : Nat), Pl.bitsOf (k + 1) c = Pl.bitsOf k c ++ [c / 2 ^ k % 2] := by
  intro k
  induction k with
  | zero => intro c; simp [Pl.bitsOf]
  | succ k ih =>
    intro c
    rw [Pl.bitsOf, ih, Pl.bitsOf, List.cons_append, Nat.div_div_eq_div_mul, Nat.pow_succ, Nat.mul_comm 2]
theorem Pl.run_snoc (s k c : Nat) : Pl.run s (Pl.bitsOf (k + 1) c) = Pl.step (Pl.run s (Pl.bitsOf k c)) (c / 2 ^ k % 2) := by
  rw [Pl.bitsOf_snoc, Pl.run_append]; rfl

def RO (s : Nat) (bs : List UInt8) (n : Nat) (v i : Value) : Prop := ∃ k : Nat, k ≤ n ∧ i = .int .i64 k ∧ v = .int .u32 (Pl.more0 s (bs.take k) : Nat)
def RI (R : Nat) (x : UInt8) (v c i : Value) : Prop := ∃ k : Nat, k ≤ 8 ∧ i = .int .i64 k ∧ c = .int .u8 ((x.toNat / 2 ^ k : Nat) : Int) ∧ v = .int .u32 (Pl.run R (Pl.bitsOf k x.toNat) : Nat)

set_option maxRecDepth 20000 in
theorem refMore_any (s : Nat) (bs : List UInt8) (A : Option Addr) (n cap B : Nat) (w : World) (hs : s < 4294967296) (hb : BytesAt w B A bs) (hn : bs.length = n) (hc : n ≤ 9223372036854775807) : Calls Tryz.prog 190 #[.int .u32 s, .slice A n cap] w fun e w' => e = .returned (.int .u32 (Pl.more s bs : Nat)) ∧ w = w' := by
  have HN := Lib.hid hn
  have HB := Lib.hid hb
  have HS := Lib.hid (show Pl.more s bs = 4294967295 - Pl.more0 (4294967295 - s) bs from rfl)
  clear hn hb
  go_enter Tryz.func190, Tryz.ntmps190
  go_wp2_with fail
  rw [show (4294967295 - (s : Int)) = ((4294967295 - s : Nat) : Int) from by omega]
  have hsl : 4294967295 - s < 4294967296 := by omega
  generalize 4294967295 - s = s' at *
  go_loop [5, 6] (RO s' bs n) (fun _ i => n - (intOf i).toNat)
  case atStart => exact ⟨0, Nat.zero_le _, rfl, rfl⟩
  case round =>
    obtain ⟨k, hk, rfl, rfl⟩ := hrel
    by_cases hlt : k < n
    · have hbl : k < bs.length := by rw [HN.out]; exact hlt
      obtain ⟨b, off, rfl, hb1, hb2⟩ := HB.out (fun e => by rw [e] at hbl; simp at hbl)
      have hcell : w.cell? ⟨b, off + k, none⟩ = some (.int .u8 (bs[k].toNat : Int)) := hb2 k bs[k] (List.getElem?_eq_getElem hbl)
      have HSN := Lib.hid (show Pl.more0 s' (bs.take (k + 1)) = Pl.byte (Pl.more0 s' (bs.take k)) bs[k] from by
        rw [List.take_succ_eq_append_getElem hbl]
        unfold Pl.more0
        rw [List.foldl_append]
        rfl)
      have hR := Pl.more0_lt (bs.take k) s' hsl
      generalize Pl.more0 s' (bs.take k) = R at *
      have hdk : decide (k < n) = true := by simpa using hlt
      have hx := bs[k].toNat_lt
      generalize bs[k] = x at *
      clear hb2 hbl
      go_wp2_with fail
      go_loop [5, 7, 8] (RI R x) (fun _ _ i => 8 - (intOf i).toNat)
      case atStart => exact ⟨0, by omega, rfl, by simp, by rfl⟩
      case round =>
        obtain ⟨m, hm, rfl, rfl, rfl⟩ := hrel
        by_cases hlt2 : m < 8
        · have hql : x.toNat / 2 ^ m < 256 := Nat.lt_of_le_of_lt (Nat.div_le_self _ _) hx
          have HQ := Lib.hid (show x.toNat / 2 ^ m / 2 = x.toNat / 2 ^ (m + 1) from by rw [Nat.div_div_eq_div_mul, Nat.pow_succ])
          have HRS := Lib.hid (Pl.run_snoc R m x.toNat)
          have hrl := Pl.run_lt (Pl.bitsOf m x.toNat) R hR (Pl.bitsOf_two m _)
          generalize Pl.run R (Pl.bitsOf m x.toNat) = S at *
          generalize x.toNat / 2 ^ m = q at *
          go_wp2_with fail
          refine (refStep_any S (q % 2) w hrl (by omega)).mono ?_
          rintro e w' ⟨rfl, rfl⟩
          go_wp2_with fail
          go_round
          case rel => exact ⟨m + 1, by omega, by go_num, by rw [← HQ.out]; go_num, by rw [HRS.out]⟩
          case measure => simp [intOf]; omega
        · obtain rfl : m = 8 := by omega
          go_wp2_with fail
          go_round
          case rel => exact ⟨k + 1, by omega, by go_num, by rw [HSN.out]; rfl⟩
          case measure => simp [intOf]; omega
    · obtain rfl : k = n := by omega
      rw [List.take_of_length_le (by rw [HN.out]; omega)]
      have hl := Pl.more0_lt bs s' hsl
      generalize Pl.more0 s' bs = R at *
      go_wp2_with fail
      go_ret
      exact ⟨ret_u32 (by rw [HS.out]; omega), rfl⟩
set_option maxRecDepth 20000 in
theorem refSum_any (bs : List UInt8) (A : Option Addr) (n cap B : Nat) (w : World) (hb : BytesAt w B A bs) (hn : bs.length = n) (hc : n ≤ 9223372036854775807) : Calls Tryz.prog 148 #[.slice A n cap] w fun e w' => e = .returned (.int .u32 (Pl.sum bs : Nat)) ∧ w = w' := by
  have HN := Lib.hid hn
  have HB := Lib.hid hb
  clear hn hb
  go_enter Tryz.func148, Tryz.ntmps148
  go_wp2_with fail
  refine (refMore_any 0 bs A n cap B w (by omega) HB.out HN.out hc).mono ?_
  rintro e w' ⟨rfl, rfl⟩
  go_wp2_with fail
  go_ret
  exact ⟨rfl, rfl⟩
end Go.Proofs.YtjcikhacekmcfaaGreatDoor.Fm
