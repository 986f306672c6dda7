import Derived.Test.YtkhhmpcpcdadaaaSum
import Derived.Test.YtkhhmpcpcdadaaaFp
import Derived.Laws.CopyOwn
import Derived.Deep.RegionHeld3
import Derived.IntWalk
namespace Go.Proofs.Ytkhhmpcpcdadaaa
open Go.RowKit
set_option linter.unusedVariables false

/-- bytes laid over others from a place on -/
def ovr (L : List UInt8) (off : Nat) (bs : List UInt8) : List UInt8 := L.take off ++ (bs ++ L.drop (off + bs.length))
theorem ovr_nil (L : List UInt8) (off : Nat) : ovr L off [] = L := by simp [ovr]
theorem ovr_length (L : List UInt8) (off : Nat) (bs : List UInt8) (h : off + bs.length ≤ L.length) : (ovr L off bs).length = L.length := by simp [ovr]; omega
theorem ovr_get (L : List UInt8) (off : Nat) (bs : List UInt8) (h : off + bs.length ≤ L.length) (i : Nat) : (ovr L off bs)[i]? = if off ≤ i ∧ i < off + bs.length then bs[i - off]? else L[i]? := by
  unfold ovr
  have l1 : (L.take off).length = off := by rw [List.length_take]; omega
  by_cases h1 : i < off
  · rw [List.getElem?_append_left (by omega), if_neg (by omega), List.getElem?_take, if_pos h1]
  · rw [List.getElem?_append_right (by omega), l1]
    by_cases h2 : i < off + bs.length
    · rw [if_pos ⟨by omega, h2⟩, List.getElem?_append_left (by omega)]
    · rw [if_neg (by omega), List.getElem?_append_right (by omega), List.getElem?_drop]
      congr 1
      omega
theorem ovr_set (L : List UInt8) (off k : Nat) (bs : List UInt8) (x : UInt8) (h : off + bs.length ≤ L.length) (hk : bs[k]? = some x) : (ovr L off (bs.take k)).set (off + k) x = ovr L off (bs.take (k + 1)) := by
  obtain ⟨hk', _⟩ := List.getElem?_eq_some_iff.1 hk
  have l1 : (bs.take k).length = k := by rw [List.length_take]; omega
  have l2 : (bs.take (k + 1)).length = k + 1 := by rw [List.length_take]; omega
  apply List.ext_getElem?
  intro i
  rw [List.getElem?_set, ovr_get _ _ _ (by omega), ovr_get _ _ _ (by omega), ovr_length _ _ _ (by omega), l1, l2]
  by_cases e : off + k = i
  · subst e
    rw [if_pos rfl, if_pos (by omega), if_pos (by omega), List.getElem?_take, if_pos (by omega), show off + k - off = k by omega]
    exact hk.symm
  · rw [if_neg e]
    by_cases h1 : off ≤ i ∧ i < off + k
    · rw [if_pos h1, if_pos (by omega), List.getElem?_take, List.getElem?_take, if_pos (by omega), if_pos (by omega)]
    · rw [if_neg h1, if_neg (by omega)]

/-- a row of bytes that is known whole -/
def RowIs (w : World) (g : Nat) (L : List UInt8) : Prop := w.heap[g]? = some (.cells (vB L).toArray 5 (0, 0))
theorem RowIs.lt {w : World} {g : Nat} {L : List UInt8} (h : RowIs w g L) : g < w.heap.size := (Array.getElem?_eq_some_iff.1 h).1
theorem RowIs.keep {w w' : World} {g : Nat} {L : List UInt8} (h : RowIs w g L) (hk : w'.heap[g]? = w.heap[g]?) : RowIs w' g L := hk.trans h
theorem RowIs.below {w w' : World} {g B : Nat} {L : List UInt8} (h : RowIs w g L) (hb : Below B w w') (hg : g < B) : RowIs w' g L := h.keep (hb.block g hg)
theorem RowIs.set {w : World} {g : Nat} {L : List UInt8} (h : RowIs w g L) (j : Nat) (x : UInt8) : RowIs (w.setCell ⟨g, j, none⟩ (.int .u8 (x.toNat : Int))) g (L.set j x) := by
  unfold RowIs
  rw [heap_set w g j _ _ 5 h]
  simp [vB, List.map_set]
theorem RowIs.cell {w : World} {g : Nat} {L : List UInt8} (h : RowIs w g L) (j : Nat) (x : UInt8) (hx : L[j]? = some x) : w.cell? ⟨g, j, none⟩ = some (.int .u8 (x.toNat : Int)) := by
  rw [Lib.cell_of_heap h]
  simp [vB, hx]
theorem RowIs.frozen {w : World} {g : Nat} {L : List UInt8} (h : RowIs w g L) (j : Nat) : w.frozen? ⟨g, j, none⟩ = false := by
  simp [World.frozen?, show w.heap[g]? = _ from h]
theorem RowIs.bytes {w : World} {g B : Nat} {L : List UInt8} (h : RowIs w g L) (hB : g < B) (off : Nat) : BytesAt w B (some ⟨g, off, none⟩) (L.drop off) := fun _ =>
  ⟨g, off, rfl, hB, fun j u hu => h.cell _ _ (by rw [List.getElem?_drop] at hu; exact hu)⟩
theorem RowIs.own {w : World} {g base : Nat} {L : List UInt8} (h : RowIs w g L) (hb : base ≤ g) (hl : L.length ≤ 140737488355328) : OwnB w base (.slice (some ⟨g, 0, none⟩) L.length L.length) L := by
  unfold OwnB
  refine ⟨by simp [vB], .inr ⟨g, L.length, _, rfl, hb, h, Nat.le_refl _, by simp only [maxLen]; omega, by simp [vB], ?_⟩⟩
  simp only [Nat.mul_one]
  exact List.take_of_length_le (by simp [vB])
theorem RowIs.new (w : World) (N : Nat) : RowIs (w.alloc (.cells (vB (List.replicate N 0)).toArray 5)) w.heap.size (List.replicate N 0) := heap_alloc_new w _
theorem mkB (N : Nat) (h : N ≤ 281474976710656) (w : World) : (Instr.makeSlice 22 (.int .i64 (N : Int)) (.int .i64 (N : Int))).run Try.prog w = .ok (.slice (some ⟨w.heap.size, 0, none⟩) N N) (w.alloc (.cells (vB (List.replicate N 0)).toArray 5)) := by
  obtain ⟨i5, hi5, hz0, hz1, hz2⟩ := info_parts info5
  have := run_make (P := Try.prog) w 22 5 i5 _ Try.underlying22 hi5 hz0 .i64 .i64 (N : Int) (N : Int) (by omega) (by omega) (by rw [hz2]; omega) (by omega)
  rw [hz1] at this
  have e : madeCells (Value.int .u8 0).cells N = (vB (List.replicate N 0)).toArray := by
    apply Array.ext'
    rw [show (Value.int .u8 0).cells = #[.int .u8 0] from rfl, toList_madeCells_one]
    simp [vB]
  rw [Int.toNat_natCast, Nat.mul_one, e] at this
  exact this

/-! ### putNumber -/
def PutRel (L : List UInt8) (g off x : Nat) (w : World) (i : Value) (wr : World) : Prop :=
  ∃ k : Nat, k ≤ 4 ∧ i = .int .i64 k ∧ RowIs wr g (ovr L off ((Fr.be x).take k)) ∧ Below g w wr

set_option maxRecDepth 20000 in
theorem putNumber_any (x g off c : Nat) (L : List UInt8) (w : World) (hx : x < 4294967296) (hr : RowIs w g L) (h : off + 4 ≤ L.length) :
    Calls Try.prog 21 #[.slice (some ⟨g, off, none⟩) 4 c, .int .u32 x] w fun e w' => e = .returned (.tuple #[]) ∧ RowIs w' g (ovr L off (Fr.be x)) ∧ Below g w w' := by
  have HR := Lib.hid hr
  have HL := Lib.hid h
  clear hr h
  go_enter Try.func21, Try.ntmps21
  go_wp2_with fail
  go_loopw [7] (PutRel L g off x w) (fun i _ => 4 - (intOf i).toNat)
  case atStart => exact ⟨0, by omega, rfl, by rw [List.take_zero, ovr_nil]; exact HR.out, Below.refl _ _⟩
  case round =>
    obtain ⟨k, hk, rfl, row, bel⟩ := hrel
    by_cases hlt : k < 4
    · have hg := Fr.be_get x k hlt
      have hle : off + k < (ovr L off ((Fr.be x).take k)).length := by
        rw [ovr_length _ _ _ (by have := HL.out; rw [List.length_take, Fr.be_length]; omega)]; have := HL.out; omega
      have hc : wr.cell? ⟨g, off + k, none⟩ = some (.int .u8 (((ovr L off ((Fr.be x).take k))[off + k]).toNat : Int)) := row.cell _ _ (List.getElem?_eq_getElem hle)
      have hf := row.frozen (off + k)
      have R' := Lib.hid (row.set (off + k) (Fr.bet x k))
      rw [ovr_set L off k (Fr.be x) (Fr.bet x k) HL.out hg] at R'
      have B' := Lib.hid (bel.setCell (p := ⟨g, off + k, none⟩) (Nat.le_refl _) (.int .u8 ((Fr.bet x k).toNat : Int)))
      clear row bel hg
      have hbn : ((Fr.bet x k).toNat : Int) = (x : Int) / 2 ^ (8 * (3 - k)) % 256 := by rw [Fr.bet_nat]; simp
      rw [hbn] at R' B'
      clear hbn
      go_wp2_with fail
      go_roundw
      case rel => exact ⟨k + 1, by omega, by go_num, R'.out, B'.out⟩
      case measure => simp [intOf]; omega
    · obtain rfl : k = 4 := by omega
      have R' := Lib.hid row
      have B' := Lib.hid bel
      clear row bel
      go_wp2_with fail
      go_end0
      exact ⟨rfl, R'.out, B'.out⟩
theorem ovr_ovr (L : List UInt8) (off m : Nat) (a b : List UInt8) (hm : m = off + a.length) (h : m + b.length ≤ L.length) : ovr (ovr L m b) off a = ovr L off (a ++ b) := by
  subst hm
  apply List.ext_getElem?
  intro i
  rw [ovr_get _ _ _ (by rw [ovr_length _ _ _ (by omega)]; omega), ovr_get _ _ _ (by omega), ovr_get _ _ _ (by rw [List.length_append]; omega), List.length_append]
  by_cases h1 : off ≤ i ∧ i < off + a.length
  · rw [if_pos h1, if_pos (by omega), List.getElem?_append_left (by omega)]
  · rw [if_neg h1]
    by_cases h2 : off + a.length ≤ i ∧ i < off + a.length + b.length
    · rw [if_pos h2, if_pos (by omega), List.getElem?_append_right (by omega)]
      congr 1
      omega
    · rw [if_neg h2, if_neg (by omega)]
theorem ovr_drop (L : List UInt8) (off : Nat) (bs : List UInt8) (h : off + bs.length ≤ L.length) : (ovr L off bs).drop off = bs ++ L.drop (off + bs.length) := by
  have l1 : (L.take off).length = off := by rw [List.length_take]; omega
  unfold ovr
  rw [List.drop_append_of_le_length (by omega), List.drop_of_length_le (by omega), List.nil_append]
theorem ovr_all (L : List UInt8) (off : Nat) (bs : List UInt8) (h : off + bs.length = L.length) : ovr L off bs = L.take off ++ bs := by
  unfold ovr
  rw [List.drop_of_length_le (by omega), List.append_nil]
theorem splice_vB (L : List UInt8) (off : Nat) (bs : List UInt8) : splice (vB L) off (vB bs) = vB (ovr L off bs) := by
  unfold splice ovr
  rw [vB_length]
  simp [vB, List.map_take, List.map_drop]
theorem vB_get {bs : List UInt8} {j : Nat} {v : Value} (h : (vB bs)[j]? = some v) : ∃ u, bs[j]? = some u ∧ v = .int .u8 (u.toNat : Int) := by
  simp only [vB, List.getElem?_map, Option.map_eq_some_iff] at h
  obtain ⟨u, h1, h2⟩ := h
  exact ⟨u, h1, h2.symm⟩
theorem info5s : (Try.prog.info? 5).map (·.size) = some 1 := by kernel_rfl
theorem BytesAt.src {w : World} {B : Nat} {A : Option Addr} {bs : List UInt8} (h : BytesAt w B A bs) (hne : 0 < (vB bs).length) : ∃ ad, A = some ad ∧ ∀ j v, (vB bs)[j]? = some v → w.cell? (ad.add j) = some v := by
  obtain ⟨b, off, h1, h2, h3⟩ := h (fun e => by rw [e] at hne; simp [vB] at hne)
  refine ⟨_, h1, fun j v hv => ?_⟩
  obtain ⟨u, hu, rfl⟩ := vB_get hv
  have := h3 j u hu
  unfold Addr.add
  split
  · subst j; exact this
  · exact this
/-- bytes are copied into a row that is known whole -/
theorem wp_copy {ops : Array Oper} {rest : List Oper} {o : Oper} {a : Act} {Q : Exit → Act → World → Prop} {w : World} (hgd : o.guard = none) (d s : Operand)
    (ho : o.op = .call { callee := .builtin .copy, args := #[d, s], argTypes := #[22, 22] })
    (g off dLen dCap : Nat) (dp A : Option Addr) (n cap : Nat) (hd : a.eval d = .slice dp dLen dCap) (hs : a.eval s = .slice A n cap)
    (L bs : List UInt8) (hr : RowIs w g L) (B : Nat) (hb : BytesAt w B A bs) (hn : bs.length = n) (hnd : n ≤ dLen) (hdp : 0 < n → dp = some ⟨g, off, none⟩) (hfit : off + n ≤ L.length)
    (h : ∀ w', Hid (RowIs w' g (ovr L off bs)) → Hid (Below g w w') → wpList Try.prog ops Q rest (a.put o.dst (.int .i64 n)) w') :
    wpList Try.prog ops Q (o :: rest) a w := by
  refine wpList_copy_splice hgd d s 22 22 ho 5 Try.underlying22 info5s dp A dLen dCap n cap hd hs g off (vB L) 5 hr (vB bs) (by rw [vB_length, hn]; exact (Nat.min_eq_left hnd).symm) ?_ (by rw [vB_length, vB_length]; omega) (vB_oneCell _) g w (Below.refl _ _) (Nat.le_refl _) ?_
  · intro hp
    refine ⟨hdp (by rw [vB_length] at hp; omega), hb.src hp⟩
  · intro w' h1 h2
    have e : goInt (vB bs).length = .int .i64 n := by rw [vB_length, hn]; rfl
    rw [e]
    refine h w' ?_ h2
    have := h1.out
    rw [splice_vB] at this
    exact this

def FillPost (L : List UInt8) (g off : Nat) (p : List UInt8) (w : World) (e : Ending) (w' : World) : Prop := e = .returned (.tuple #[]) ∧ RowIs w' g (ovr L off (Fr.rcd p)) ∧ Below g w w'
set_option maxRecDepth 20000 in
theorem fill_any (L p : List UInt8) (g off N : Nat) (A : Option Addr) (n cap : Nat) (w : World) (hr : RowIs w g L) (hN : N = 8 + n) (hL : L.length = off + N) (hb : BytesAt w g A p) (hn : p.length = n) (hn4 : n ≤ 4096) (hnc : n ≤ cap) (hc : cap ≤ 9223372036854775807) (hoff : off ≤ 140737488355328) :
    Calls Try.prog 18 #[.slice (some ⟨g, off, none⟩) N N, .slice A n cap] w (FillPost L g off p w) := by
  have HR := Lib.hid hr
  have HL := Lib.hid hL
  have HB := Lib.hid hb
  have HP := Lib.hid hn
  have n4 : ¬ N = 4 := by omega
  have n8 : (8 : Int) ≤ (N : Int) := by omega
  have n48 : (4 : Int) ≤ (N : Int) := by omega
  have hn5 : n < 4294967296 := by omega
  clear hr hL hb hn
  obtain ⟨A8, hsl, hA8⟩ : ∃ A8, (∀ W : World, (Instr.slice 22 (.slice (some ⟨g, off, none⟩) N N) (some (.int .i64 8)) none none).run Try.prog W = .ok (.slice A8 (N - 8) (N - 8)) W) ∧ (0 < n → A8 = some ⟨g, off + 8, none⟩) := by
    refine ⟨if N = 8 then some ⟨g, off, none⟩ else some ⟨g, off + 8, none⟩, fun W => ?_, fun h => by rw [if_neg (by omega)]⟩
    clear hN
    go_simp
  have HA := Lib.hid hA8
  have HN := Lib.hid hN
  clear hN hA8
  go_enter Try.func18, Try.ntmps18
  go_wp2_with (with_reducible refine wp_copy rfl (.tmp 5) (.tmp 6) rfl g (off + 8) (N - 8) (N - 8) A8 A n cap rfl rfl L p HR.out g HB.out HP.out (by have := HN.out; omega) HA.out (by have := HN.out; have := HL.out; omega) ?_)
  rintro w2 HR2 HB2
  clear hsl
  go_wp2_with fail
  have hc2 := putNumber_any n g (off + 4) (N - 4) _ w2 hn5 HR2.out (by rw [ovr_length _ _ _ (by rw [HP.out, HL.out]; have := HN.out; omega), HL.out]; have := HN.out; omega)
  refine hc2.mono ?_
  clear hc2
  rintro e w3 ⟨rfl, row3, bel3⟩
  rw [ovr_ovr L (off + 4) (off + 8) (Fr.be n) p (by rw [Fr.be_length]) (by rw [HP.out, HL.out]; have := HN.out; omega), show Fr.be n ++ p = Fr.body p by unfold Fr.body; rw [HP.out]] at row3
  have hbl : (Fr.body p).length = N - 4 := by rw [Fr.body_length, HP.out]; have := HN.out; omega
  have HBL := Lib.hid hbl
  have hby := row3.bytes (B := w3.heap.size) row3.lt (off + 4)
  rw [ovr_drop _ _ _ (by rw [hbl, HL.out]; omega), List.drop_of_length_le (by rw [hbl, HL.out]; omega), List.append_nil] at hby
  have HBY := Lib.hid hby
  have R3 := Lib.hid row3
  have B3 := Lib.hid (HB2.out.trans bel3)
  clear hby row3 bel3 hbl
  have csum := Lib.hid (fun (W : World) (h : Below w3.heap.size w3 W) => sum_any (Fr.body p) (some ⟨g, off + 4, none⟩) (N - 4) (N - 4) W ((HBY.out.keep fun q hq => h.block q hq).mono h.size) HBL.out (by have := HN.out; omega))
  have sl : Pl.sum (Fr.body p) < 4294967296 := Pl.more_lt _ _
  have cput := Lib.hid (fun (W : World) (h : Below w3.heap.size w3 W) => putNumber_any (Pl.sum (Fr.body p)) g off N _ W sl (R3.out.below h R3.out.lt) (by rw [ovr_length _ _ _ (by rw [HBL.out, HL.out]; omega), HL.out]; omega))
  go_wp2_with fail
  have D0 : Hid (Below w3.heap.size w3 w3.drew) := Lib.hid ((Below.refl _ w3).drew)
  go_region_held3 (fun _ => True) (trivial) (first
    | (go_at_call 22; (with_reducible refine (csum.out _ D0.out).mono ?_); rintro e w4 ⟨rfl, hb4⟩; have B4 : Hid (Below w3.heap.size w3 w4) := Lib.hid (D0.out.trans hb4); clear hb4)
    | (go_at_call 21; (with_reducible refine (cput.out _ B4.out).mono ?_); rintro e w5 ⟨rfl, row5, bel5⟩; have R5 : Hid (RowIs w5 g (ovr (ovr L (off + 4) (Fr.body p)) off (Fr.be (Pl.sum (Fr.body p))))) := Lib.hid row5; have B5 : Hid (Below g w5 w5) := Lib.hid (Below.refl _ _); have B6 : Hid (Below g w4 w5) := Lib.hid bel5; clear row5 bel5))
  rw [ovr_ovr L off (off + 4) (Fr.be (Pl.sum (Fr.body p))) (Fr.body p) (by rw [Fr.be_length]) (by rw [HBL.out, HL.out]; have := HN.out; omega), show Fr.be (Pl.sum (Fr.body p)) ++ Fr.body p = Fr.rcd p from rfl] at R5
  go_end0
  exact ⟨rfl, R5.out, B3.out.trans ((B4.out.mono (Nat.le_of_lt R3.out.lt)).trans B6.out)⟩

/-! ### Put -/
def PutPost (b p : List UInt8) (w : World) (e : Ending) (w' : World) : Prop :=
  e = .returned (.tuple #[.slice (some ⟨w.heap.size, 0, none⟩) (b ++ Fr.rcd p).length (b ++ Fr.rcd p).length, .int .i64 0]) ∧ RowIs w' w.heap.size (b ++ Fr.rcd p) ∧ Below w.heap.size w w'
def PutNo (w : World) (e : Ending) (w' : World) : Prop := e = .returned (.tuple #[.slice none 0 0, .int .i64 3]) ∧ w = w'

theorem put_no (A A2 : Option Addr) (m cm n cn : Nat) (w : World) (hn : 4096 < n) (hnc : n ≤ 9223372036854775807) : Calls Try.prog 11 #[.slice A m cm, .slice A2 n cn] w (PutNo w) := by
  go_enter Try.func11, Try.ntmps11
  go_wp2_with fail
  go_ret2
  exact ⟨rfl, rfl⟩
set_option maxRecDepth 20000 in
theorem put_any (b p : List UInt8) (A A2 : Option Addr) (m cm n cn : Nat) (w : World) (hb : BytesAt w w.heap.size A b) (hm : b.length = m) (hml : m ≤ 140737488350000) (hmc : m ≤ cm) (hcm : cm ≤ 9223372036854775807)
    (hp : BytesAt w w.heap.size A2 p) (hn : p.length = n) (hn4 : n ≤ 4096) (hnc : n ≤ cn) (hcn : cn ≤ 9223372036854775807) :
    Calls Try.prog 11 #[.slice A m cm, .slice A2 n cn] w (PutPost b p w) := by
  have HB := Lib.hid hb
  have HM := Lib.hid hm
  have HP := Lib.hid hp
  have HNN := Lib.hid hn
  obtain ⟨N, hN⟩ : ∃ N, N = m + 8 + n := ⟨_, rfl⟩
  have hNi : (m : Int) + 8 + (n : Int) = (N : Int) := by omega
  have hmk := mkB N (by omega) w
  have R1 := Lib.hid (RowIs.new w N)
  have B1 : Hid (Below w.heap.size w (w.alloc (.cells (vB (List.replicate N 0)).toArray 5))) := Lib.hid ((Below.refl _ w).alloc (Nat.le_refl _) _)
  have HN := Lib.hid hN
  have hmN : ¬ N = m := by omega
  have hmN2 : (m : Int) ≤ (N : Int) := by omega
  clear hb hm hp hn hN
  have h0 : (n : Int) ≤ 4096 := by omega
  go_enter Try.func11, Try.ntmps11
  go_wp2_with (with_reducible refine wp_copy rfl (.tmp 17) (.tmp 18) rfl w.heap.size 0 N N (some ⟨w.heap.size, 0, none⟩) A m cm rfl rfl (List.replicate N 0) b R1.out w.heap.size (HB.out.keep fun q hq => B1.out.block q hq) HM.out (by have := HN.out; omega) (fun _ => rfl) (by rw [List.length_replicate]; have := HN.out; omega) ?_)
  rintro w2 HR2 HB2
  clear hmk
  go_wp2_with fail
  have hc2 := fill_any _ p w.heap.size m (N - m) A2 n cn w2 HR2.out (by have := HN.out; omega) (by rw [ovr_length _ _ _ (by rw [HM.out, List.length_replicate]; have := HN.out; omega), List.length_replicate]; have := HN.out; omega) (HP.out.keep fun q hq => (HB2.out.block q hq).trans (B1.out.block q hq)) HNN.out hn4 hnc hcn (by omega)
  refine hc2.mono ?_
  clear hc2
  rintro e w3 ⟨rfl, row3, bel3⟩
  have hl : (ovr (List.replicate N 0) 0 b).length = N := by rw [ovr_length _ _ _ (by rw [HM.out, List.length_replicate]; have := HN.out; omega), List.length_replicate]
  rw [ovr_all _ _ _ (by rw [hl, Fr.rcd_length, HNN.out]; have := HN.out; omega)] at row3
  have e2 : (ovr (List.replicate N 0) 0 b).take m = b := by
    unfold ovr
    rw [List.take_zero, List.nil_append, List.take_append_of_le_length (by rw [HM.out]; omega), List.take_of_length_le (by rw [HM.out]; omega)]
  rw [e2] at row3
  have R3 := Lib.hid row3
  have HL : Hid ((b ++ Fr.rcd p).length = N) := Lib.hid (by rw [List.length_append, Fr.rcd_length, HM.out, HNN.out]; have := HN.out; omega)
  have B3 := Lib.hid (B1.out.trans (HB2.out.trans bel3))
  clear row3 bel3 hl e2
  go_wp2_with fail
  go_ret2
  exact ⟨by rw [HL.out]; rfl, R3.out, B3.out⟩
end Go.Proofs.Ytkhhmpcpcdadaaa
