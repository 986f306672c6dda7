import Derived.Test.YtjcikhacekmcfaaGreatDoorFb
import Derived.Test.YtjcikhacekmcfaaGreatDoorFa
import Derived.Laws.CopyOwn
import Derived.Deep.RegionHeld3
import Derived.IntWalk
namespace Go.Proofs.YtjcikhacekmcfaaGreatDoor.Fm
set_option maxRecDepth 20000
open Go.RowKit
set_option linter.unusedVariables false

/-- bytes laid over others from a place on -/
def ovr (L : List UInt8) (off : Nat) (bs : List UInt8) : List UInt8 := L.take off ++ (bs ++ L.drop (off + bs.length))
theorem ovr_nil (L : List UInt8) (off : Nat) : ovr L off [] = L := by simp [ovr]
theorem ovr_length (L : List UInt8) (off : Nat) (bs : List UInt8) (h : off + bs.length ≤ L.length) : (ovr L off bs).length = L.length := by simp [ovr]; omega
theorem ovr_get (L : List UInt8) (off : Nat) (bs : List UInt8) (h : off + bs.length ≤ L.length) (i : Nat) : (ovr L off bs)[i]? = if off ≤ i ∧ i < off + bs.length then bs[i - off]? else L[i]? := by
  unfold ovr
  have l1 : (L.take off).length = off := by rw [List.length_take]; omega
  by_cases h1 : i < off
  · rw [List.getElem?_append_left (by omega), if_neg (by omega), List.getElem?_take, if_pos h1]
  · rw [List.getElem?_append_right (by omega), l1]
    by_cases h2 : i < off + bs.length
    · rw [if_pos ⟨by omega, h2⟩, List.getElem?_append_left (by omega)]
    · rw [if_neg (by omega), List.getElem?_append_right (by omega), List.getElem?_drop]
      congr 1
      omega
theorem ovr_set (L : List UInt8) (off k : Nat) (bs : List UInt8) (x : UInt8) (h : off + bs.length ≤ L.length) (hk : bs[k]? = some x) : (ovr L off (bs.take k)).set (off + k) x = ovr L off (bs.take (k + 1)) := by
  obtain ⟨hk', _⟩ := List.getElem?_eq_some_iff.1 hk
  have l1 : (bs.take k).length = k := by rw [List.length_take]; omega
  have l2 : (bs.take (k + 1)).length = k + 1 := by rw [List.length_take]; omega
  apply List.ext_getElem?
  intro i
  rw [List.getElem?_set, ovr_get _ _ _ (by omega), ovr_get _ _ _ (by omega), ovr_length _ _ _ (by omega), l1, l2]
  by_cases e : off + k = i
  · subst e
    rw [if_pos rfl, if_pos (by omega), if_pos (by omega), List.getElem?_take, if_pos (by omega), show off + k - off = k by omega]
    exact hk.symm
  · rw [if_neg e]
    by_cases h1 : off ≤ i ∧ i < off + k
    · rw [if_pos h1, if_pos (by omega), List.getElem?_take, List.getElem?_take, if_pos (by omega), if_pos (by omega)]
    · rw [if_neg h1, if_neg (by omega)]

/-- a row of bytes that is known whole -/
def RowIs (w : World) (g : Nat) (L : List UInt8) : Prop := w.heap[g]? = some (.cells (vB L).toArray 5 (0, 0))
theorem RowIs.lt {w : World} {g : Nat} {L : List UInt8} (h : RowIs w g L) : g < w.heap.size := (Array.getElem?_eq_some_iff.1 h).1
theorem RowIs.keep {w w' : World} {g : Nat} {L : List UInt8} (h : RowIs w g L) (hk : w'.heap[g]? = w.heap[g]?) : RowIs w' g L := hk.trans h
theorem RowIs.below {w w' : World} {g B : Nat} {L : List UInt8} (h : RowIs w g L) (hb : Below B w w') (hg : g < B) : RowIs w' g L := h.keep (hb.block g hg)
theorem RowIs.set {w : World} {g : Nat} {L : List UInt8} (h : RowIs w g L) (j : Nat) (x : UInt8) : RowIs (w.setCell ⟨g, j, none⟩ (.int .u8 (x.toNat : Int))) g (L.set j x) := by
  unfold RowIs
  rw [heap_set w g j _ _ 5 h]
  simp [vB, List.map_set]
theorem RowIs.cell {w : World} {g : Nat} {L : List UInt8} (h : RowIs w g L) (j : Nat) (x : UInt8) (hx : L[j]? = some x) : w.cell? ⟨g, j, none⟩ = some (.int .u8 (x.toNat : Int)) := by
  rw [Lib.cell_of_heap h]
  simp [vB, hx]
theorem RowIs.frozen {w : World} {g : Nat} {L : List UInt8} (h : RowIs w g L) (j : Nat) : w.frozen? ⟨g, j, none⟩ = false := by
  simp [World.frozen?, show w.heap[g]? = _ from h]
theorem RowIs.bytes {w : World} {g B : Nat} {L : List UInt8} (h : RowIs w g L) (hB : g < B) (off : Nat) : BytesAt w B (some ⟨g, off, none⟩) (L.drop off) := fun _ =>
  ⟨g, off, rfl, hB, fun j u hu => h.cell _ _ (by rw [List.getElem?_drop] at hu; exact hu)⟩
theorem RowIs.own {w : World} {g base : Nat} {L : List UInt8} (h : RowIs w g L) (hb : base ≤ g) (hl : L.length ≤ 140737488355328) : OwnB w base (.slice (some ⟨g, 0, none⟩) L.length L.length) L := by
  unfold OwnB
  refine ⟨by simp [vB], .inr ⟨g, L.length, _, rfl, hb, h, Nat.le_refl _, by simp only [maxLen]; omega, by simp [vB], ?_⟩⟩
  simp only [Nat.mul_one]
  exact List.take_of_length_le (by simp [vB])
theorem RowIs.new (w : World) (N : Nat) : RowIs (w.alloc (.cells (vB (List.replicate N 0)).toArray 5)) w.heap.size (List.replicate N 0) := heap_alloc_new w _
theorem mkB (N : Nat) (h : N ≤ 281474976710656) (w : World) : (Instr.makeSlice 60 (.int .i64 (N : Int)) (.int .i64 (N : Int))).run Tryz.prog w = .ok (.slice (some ⟨w.heap.size, 0, none⟩) N N) (w.alloc (.cells (vB (List.replicate N 0)).toArray 5)) := by
  obtain ⟨i5, hi5, hz0, hz1, hz2⟩ := info_parts info5
  have := run_make (P := Tryz.prog) w 60 5 i5 _ Tryz.underlying60 hi5 hz0 .i64 .i64 (N : Int) (N : Int) (by omega) (by omega) (by rw [hz2]; omega) (by omega)
  rw [hz1] at this
  have e : madeCells (Value.int .u8 0).cells N = (vB (List.replicate N 0)).toArray := by
    apply Array.ext'
    rw [show (Value.int .u8 0).cells = #[.int .u8 0] from rfl, toList_madeCells_one]
    simp [vB]
  rw [Int.toNat_natCast, Nat.mul_one, e] at this
  exact this

/-! ### putNumber -/
def PutRel (L : List UInt8) (g off x : Nat) (w : World) (i : Value) (wr : World) : Prop :=
  ∃ k : Nat, k ≤ 4 ∧ i = .int .i64 k ∧ RowIs wr g (ovr L off ((Fr.be x).take k)) ∧ Below g w wr

set_option maxRecDepth 20000 in
theorem putNumber_any (x g off c : Nat) (L : List UInt8) (w : World) (hx : x < 4294967296) (hr : RowIs w g L) (h : off + 4 ≤ L.length) :
    Calls Tryz.prog 205 #[.slice (some ⟨g, off, none⟩) 4 c, .int .u32 x] w fun e w' => e = .returned (.tuple #[]) ∧ RowIs w' g (ovr L off (Fr.be x)) ∧ Below g w w' := by
  have HR := Lib.hid hr
  have HL := Lib.hid h
  clear hr h
  go_enter Tryz.func205, Tryz.ntmps205
  go_wp2_with fail
  go_loopw [7] (PutRel L g off x w) (fun i _ => 4 - (intOf i).toNat)
  case atStart => exact ⟨0, by omega, rfl, by rw [List.take_zero, ovr_nil]; exact HR.out, Below.refl _ _⟩
  case round =>
    obtain ⟨k, hk, rfl, row, bel⟩ := hrel
    by_cases hlt : k < 4
    · have hg := Fr.be_get x k hlt
      have hle : off + k < (ovr L off ((Fr.be x).take k)).length := by
        rw [ovr_length _ _ _ (by have := HL.out; rw [List.length_take, Fr.be_length]; omega)]; have := HL.out; omega
      have hc : wr.cell? ⟨g, off + k, none⟩ = some (.int .u8 (((ovr L off ((Fr.be x).take k))[off + k]).toNat : Int)) := row.cell _ _ (List.getElem?_eq_getElem hle)
      have hf := row.frozen (off + k)
      have R' := Lib.hid (row.set (off + k) (Fr.bet x k))
      rw [ovr_set L off k (Fr.be x) (Fr.bet x k) HL.out hg] at R'
      have B' := Lib.hid (bel.setCell (p := ⟨g, off + k, none⟩) (Nat.le_refl _) (.int .u8 ((Fr.bet x k).toNat : Int)))
      clear row bel hg
      have hbn : ((Fr.bet x k).toNat : Int) = (x : Int) / 2 ^ (8 * (3 - k)) % 256 := by rw [Fr.bet_nat]; simp
      rw [hbn] at R' B'
      clear hbn
      go_wp2_with fail
      go_roundw
      case rel => exact ⟨k + 1, by omega, by go_num, R'.out, B'.out⟩
      case measure => simp [intOf]; omega
    · obtain rfl : k = 4 := by omega
      have R' := Lib.hid row
      have B' := Lib.hid bel
      clear row bel
      go_wp2_with fail
      go_end0
      exact ⟨rfl, R'.out, B'.out⟩
theorem ovr_ovr (L : List UInt8) (off m : Nat) (a b : List UInt8) (hm : m = off + a.length) (h : m + b.length ≤ L.length) : ovr (ovr L m b) off a = ovr L off (a ++ b) := by
  subst hm
  apply List.ext_getElem?
  intro i
  rw [ovr_get _ _ _ (by rw [ovr_length _ _ _ (by omega)]; omega), ovr_get _ _ _ (by omega), ovr_get _ _ _ (by rw [List.length_append]; omega), List.length_append]
  by_cases h1 : off ≤ i ∧ i < off + a.length
  · rw [if_pos h1, if_pos (by omega), List.getElem?_append_left (by omega)]
  · rw [if_neg h1]
    by_cases h2 : off + a.length ≤ i ∧ i < off + a.length + b.length
    · rw [if_pos h2, if_pos (by omega), List.getElem?_append_right (by omega)]
      congr 1
      omega
    · rw [if_neg h2, if_neg (by omega)]
theorem ovr_drop (L : List UInt8) (off : Nat) (bs : List UInt8) (h : off + bs.length ≤ L.length) : (ovr L off bs).drop off = bs ++ L.drop (off + bs.length) := by
  have l1 : (L.take off).length = off := by rw [List.length_take]; omega
  unfold ovr
  rw [List.drop_append_of_le_length (by omega), List.drop_of_length_le (by omega), List.nil_append]
theorem ovr_all (L : List UInt8) (off : Nat) (bs : List UInt8) (h : off + bs.length = L.length) : ovr L off bs = L.take off ++ bs := by
  unfold ovr
  rw [List.drop_of_length_le (by omega), List.append_nil]
theorem splice_vB (L : List UInt8) (off : Nat) (bs : List UInt8) : splice (vB L) off (vB bs) = vB (ovr L off bs) := by
  unfold splice ovr
  rw [vB_length]
  simp [vB, List.map_take, List.map_drop]
theorem vB_get {bs : List UInt8} {j : Nat} {v : Value} (h : (vB bs)[j]? = some v) : ∃ u, bs[j]? = some u ∧ v = .int .u8 (u.toNat : Int) := by
  simp only [vB, List.getElem?_map, Option.map_eq_some_iff] at h
  obtain ⟨u, h1, h2⟩ := h
  exact ⟨u, h1, h2.symm⟩
theorem info5s : (Tryz.prog.info? 5).map (·.size) = some 1 := by kernel_rfl
theorem BytesAt.src {w : World} {B : Nat} {A : Option Addr} {bs : List UInt8} (h : BytesAt w B A bs) (hne : 0 < (vB bs).length) : ∃ ad, A = some ad ∧ ∀ j v, (vB bs)[j]? = some v → w.cell? (ad.add j) = some v := by
  obtain ⟨b, off, h1, h2, h3⟩ := h (fun e => by rw [e] at hne; simp [vB] at hne)
  refine ⟨_, h1, fun j v hv => ?_⟩
  obtain ⟨u, hu, rfl⟩ := vB_get hv
  have := h3 j u hu
  unfold Addr.add
  split
  · subst j; exact this
  · exact this
/-- bytes are copied into a row that is known whole -/
theorem wp_copy {ops : Array Oper} {rest : List Oper} {o : Oper} {a : Act} {Q : Exit → Act → World → Prop} {w : World} (hgd : o.guard = none) (d s : Operand)
    (ho : o.op = .call { callee := .builtin .copy, args := #[d, s], argTypes := #[60, 60] })
    (g off dLen dCap : Nat) (dp A : Option Addr) (n cap : Nat) (hd : a.eval d = .slice dp dLen dCap) (hs : a.eval s = .slice A n cap)
    (L bs : List UInt8) (hr : RowIs w g L) (B : Nat) (hb : BytesAt w B A bs) (hn : bs.length = n) (hnd : n ≤ dLen) (hdp : 0 < n → dp = some ⟨g, off, none⟩) (hfit : off + n ≤ L.length)
    (h : ∀ w', Hid (RowIs w' g (ovr L off bs)) → Hid (Below g w w') → wpList Tryz.prog ops Q rest (a.put o.dst (.int .i64 n)) w') :
    wpList Tryz.prog ops Q (o :: rest) a w := by
  refine wpList_copy_splice hgd d s 60 60 ho 5 Tryz.underlying60 info5s dp A dLen dCap n cap hd hs g off (vB L) 5 hr (vB bs) (by rw [vB_length, hn]; exact (Nat.min_eq_left hnd).symm) ?_ (by rw [vB_length, vB_length]; omega) (vB_oneCell _) g w (Below.refl _ _) (Nat.le_refl _) ?_
  · intro hp
    refine ⟨hdp (by rw [vB_length] at hp; omega), hb.src hp⟩
  · intro w' h1 h2
    have e : goInt (vB bs).length = .int .i64 n := by rw [vB_length, hn]; rfl
    rw [e]
    refine h w' ?_ h2
    have := h1.out
    rw [splice_vB] at this
    exact this

def FillPost (L : List UInt8) (g off : Nat) (p : List UInt8) (w : World) (e : Ending) (w' : World) : Prop := e = .returned (.tuple #[]) ∧ RowIs w' g (ovr L off (Fr.rcd p)) ∧ Below g w w'
set_option maxRecDepth 20000 in
theorem fill_any (L p : List UInt8) (g off N : Nat) (A : Option Addr) (n cap : Nat) (w : World) (hr : RowIs w g L) (hN : N = 8 + n) (hL : L.length = off + N) (hb : BytesAt w g A p) (hn : p.length = n) (hn4 : n ≤ 4096) (hnc : n ≤ cap) (hc : cap ≤ 9223372036854775807) (hoff : off ≤ 140737488355328) :
    Calls Tryz.prog 167 #[.slice (some ⟨g, off, none⟩) N N, .slice A n cap] w (FillPost L g off p w) := by
  have HR := Lib.hid hr
  have HL := Lib.hid hL
  have HB := Lib.hid hb
  have HP := Lib.hid hn
  have n4 : ¬ N = 4 := by omega
  have n8 : (8 : Int) ≤ (N : Int) := by omega
  have n48 : (4 : Int) ≤ (N : Int) := by omega
  have hn5 : n < 4294967296 := by omega
  clear hr hL hb hn
  obtain ⟨A8, hsl, hA8⟩ : ∃ A8, (∀ W : World, (Instr.slice 60 (.slice (some ⟨g, off, none⟩) N N) (some (.int .i64 8)) none none).run Tryz.prog W = .ok (.slice A8 (N - 8) (N - 8)) W) ∧ (0 < n → A8 = some ⟨g, off + 8, none⟩) := by
    refine ⟨if N = 8 then some ⟨g, off, none⟩ else some ⟨g, off + 8, none⟩, fun W => ?_, fun h => by rw [if_neg (by omega)]⟩
    clear hN
    go_simp
  have HA := Lib.hid hA8
  have HN := Lib.hid hN
  clear hN hA8
  go_enter Tryz.func167, Tryz.ntmps167
  go_wp2_with (with_reducible refine wp_copy rfl (.tmp 5) (.tmp 6) rfl g (off + 8) (N - 8) (N - 8) A8 A n cap rfl rfl L p HR.out g HB.out HP.out (by have := HN.out; omega) HA.out (by have := HN.out; have := HL.out; omega) ?_)
  rintro w2 HR2 HB2
  clear hsl
  go_wp2_with fail
  have hc2 := putNumber_any n g (off + 4) (N - 4) _ w2 hn5 HR2.out (by rw [ovr_length _ _ _ (by rw [HP.out, HL.out]; have := HN.out; omega), HL.out]; have := HN.out; omega)
  refine hc2.mono ?_
  clear hc2
  rintro e w3 ⟨rfl, row3, bel3⟩
  rw [ovr_ovr L (off + 4) (off + 8) (Fr.be n) p (by rw [Fr.be_length]) (by rw [HP.out, HL.out]; have := HN.out; omega), show Fr.be n ++ p = Fr.body p by unfold Fr.body; rw [HP.out]] at row3
  have hbl : (Fr.body p).length = N - 4 := by rw [Fr.body_length, HP.out]; have := HN.out; omega
  have HBL := Lib.hid hbl
  have hby := row3.bytes (B := w3.heap.size) row3.lt (off + 4)
  rw [ovr_drop _ _ _ (by rw [hbl, HL.out]; omega), List.drop_of_length_le (by rw [hbl, HL.out]; omega), List.append_nil] at hby
  have HBY := Lib.hid hby
  have R3 := Lib.hid row3
  have B3 := Lib.hid (HB2.out.trans bel3)
  clear hby row3 bel3 hbl
  have csum := Lib.hid (fun (W : World) (h : Below w3.heap.size w3 W) => sum_any (Fr.body p) (some ⟨g, off + 4, none⟩) (N - 4) (N - 4) W ((HBY.out.keep fun q hq => h.block q hq).mono h.size) HBL.out (by have := HN.out; omega))
  have sl : Pl.sum (Fr.body p) < 4294967296 := Pl.more_lt _ _
  have cput := Lib.hid (fun (W : World) (h : Below w3.heap.size w3 W) => putNumber_any (Pl.sum (Fr.body p)) g off N _ W sl (R3.out.below h R3.out.lt) (by rw [ovr_length _ _ _ (by rw [HBL.out, HL.out]; omega), HL.out]; omega))
  go_wp2_with fail
  have D0 : Hid (Below w3.heap.size w3 w3.drew) := Lib.hid ((Below.refl _ w3).drew)
  go_region_held3 (fun _ => True) (trivial) (first
    | (go_at_call 169; (with_reducible refine (csum.out _ D0.out).mono ?_); rintro e w4 ⟨rfl, hb4⟩; have B4 : Hid (Below w3.heap.size w3 w4) := Lib.hid (D0.out.trans hb4); clear hb4)
    | (go_at_call 205; (with_reducible refine (cput.out _ B4.out).mono ?_); rintro e w5 ⟨rfl, row5, bel5⟩; have R5 : Hid (RowIs w5 g (ovr (ovr L (off + 4) (Fr.body p)) off (Fr.be (Pl.sum (Fr.body p))))) := Lib.hid row5; have B5 : Hid (Below g w5 w5) := Lib.hid (Below.refl _ _); have B6 : Hid (Below g w4 w5) := Lib.hid bel5; clear row5 bel5))
  rw [ovr_ovr L off (off + 4) (Fr.be (Pl.sum (Fr.body p))) (Fr.body p) (by rw [Fr.be_length]) (by rw [HBL.out, HL.out]; have := HN.out; omega), show Fr.be (Pl.sum (Fr.body p)) ++ Fr.body p = Fr.rcd p from rfl] at R5
  go_end0
  exact ⟨rfl, R5.out, B3.out.trans ((B4.out.mono (Nat.le_of_lt R3.out.lt)).trans B6.out)⟩

/-! ### Put -/
def PutPost (b p : List UInt8) (w : World) (e : Ending) (w' : World) : Prop :=
  e = .returned (.tuple #[.slice (some ⟨w.heap.size, 0, none⟩) (b ++ Fr.rcd p).length (b ++ Fr.rcd p).length, .int .i64 0]) ∧ RowIs w' w.heap.size (b ++ Fr.rcd p) ∧ Below w.heap.size w w'
def PutNo (w : World) (e : Ending) (w' : World) : Prop := e = .returned (.tuple #[.slice none 0 0, .int .i64 3]) ∧ w = w'

theorem put_no (A A2 : Option Addr) (m cm n cn : Nat) (w : World) (hn : 4096 < n) (hnc : n ≤ 9223372036854775807) : Calls Tryz.prog 129 #[.slice A m cm, .slice A2 n cn] w (PutNo w) := by
  go_enter Tryz.func129, Tryz.ntmps129
  go_wp2_with fail
  go_ret2
  exact ⟨rfl, rfl⟩
set_option maxRecDepth 20000 in
theorem put_any (b p : List UInt8) (A A2 : Option Addr) (m cm n cn : Nat) (w : World) (hb : BytesAt w w.heap.size A b) (hm : b.length = m) (hml : m ≤ 140737488350000) (hmc : m ≤ cm) (hcm : cm ≤ 9223372036854775807)
    (hp : BytesAt w w.heap.size A2 p) (hn : p.length = n) (hn4 : n ≤ 4096) (hnc : n ≤ cn) (hcn : cn ≤ 9223372036854775807) :
    Calls Tryz.prog 129 #[.slice A m cm, .slice A2 n cn] w (PutPost b p w) := by
  have HB := Lib.hid hb
  have HM := Lib.hid hm
  have HP := Lib.hid hp
  have HNN := Lib.hid hn
  obtain ⟨N, hN⟩ : ∃ N, N = m + 8 + n := ⟨_, rfl⟩
  have hNi : (m : Int) + 8 + (n : Int) = (N : Int) := by omega
  have hmk := mkB N (by omega) w
  have R1 := Lib.hid (RowIs.new w N)
  have B1 : Hid (Below w.heap.size w (w.alloc (.cells (vB (List.replicate N 0)).toArray 5))) := Lib.hid ((Below.refl _ w).alloc (Nat.le_refl _) _)
  have HN := Lib.hid hN
  have hmN : ¬ N = m := by omega
  have hmN2 : (m : Int) ≤ (N : Int) := by omega
  clear hb hm hp hn hN
  have h0 : (n : Int) ≤ 4096 := by omega
  go_enter Tryz.func129, Tryz.ntmps129
  go_wp2_with (with_reducible refine wp_copy rfl (.tmp 17) (.tmp 18) rfl w.heap.size 0 N N (some ⟨w.heap.size, 0, none⟩) A m cm rfl rfl (List.replicate N 0) b R1.out w.heap.size (HB.out.keep fun q hq => B1.out.block q hq) HM.out (by have := HN.out; omega) (fun _ => rfl) (by rw [List.length_replicate]; have := HN.out; omega) ?_)
  rintro w2 HR2 HB2
  clear hmk
  go_wp2_with fail
  have hc2 := fill_any _ p w.heap.size m (N - m) A2 n cn w2 HR2.out (by have := HN.out; omega) (by rw [ovr_length _ _ _ (by rw [HM.out, List.length_replicate]; have := HN.out; omega), List.length_replicate]; have := HN.out; omega) (HP.out.keep fun q hq => (HB2.out.block q hq).trans (B1.out.block q hq)) HNN.out hn4 hnc hcn (by omega)
  refine hc2.mono ?_
  clear hc2
  rintro e w3 ⟨rfl, row3, bel3⟩
  have hl : (ovr (List.replicate N 0) 0 b).length = N := by rw [ovr_length _ _ _ (by rw [HM.out, List.length_replicate]; have := HN.out; omega), List.length_replicate]
  rw [ovr_all _ _ _ (by rw [hl, Fr.rcd_length, HNN.out]; have := HN.out; omega)] at row3
  have e2 : (ovr (List.replicate N 0) 0 b).take m = b := by
    unfold ovr
    rw [List.take_zero, List.nil_append, List.take_append_of_le_length (by rw [HM.out]; omega), List.take_of_length_le (by rw [HM.out]; omega)]
  rw [e2] at row3
  have R3 := Lib.hid row3
  have HL : Hid ((b ++ Fr.rcd p).length = N) := Lib.hid (by rw [List.length_append, Fr.rcd_length, HM.out, HNN.out]; have := HN.out; omega)
  have B3 := Lib.hid (B1.out.trans (HB2.out.trans bel3))
  clear row3 bel3 hl e2
  go_wp2_with fail
  go_ret2
  exact ⟨by rw [HL.out]; rfl, R3.out, B3.out⟩
end Go.Proofs.YtjcikhacekmcfaaGreatDoor.Fm
namespace Go.Proofs.YtjcikhacekmcfaaGreatDoor.Fm
set_option maxRecDepth 20000
open Go.RowKit
set_option linter.unusedVariables false

/-! ### number -/
theorem or_byte (n : Nat) (x : UInt8) (h : n < 16777216) : bits .or .u32 ((n * 256 : Nat) : Int) (x.toNat : Int) = ((n * 256 + x.toNat : Nat) : Int) := by
  have hx := x.toNat_lt
  rw [u32_or_nat _ _ (by omega) (by omega)]
  congr 1
  rw [show n * 256 = 2 ^ 8 * n by omega, Nat.two_pow_add_eq_or_of_lt (by omega)]
theorem num_take_snoc (bs : List UInt8) (k : Nat) (x : UInt8) (h : bs[k]? = some x) : Fr.num (bs.take (k + 1)) = Fr.num (bs.take k) * 256 + x.toNat := by
  obtain ⟨hk, rfl⟩ := List.getElem?_eq_some_iff.1 h
  rw [List.take_succ_eq_append_getElem hk, Fr.num_snoc]
theorem num_take_lt (bs : List UInt8) (k : Nat) (hk : k < 4) : Fr.num (bs.take k) < 16777216 := by
  have h := Fr.num_lt (bs.take k)
  have h2 : 256 ^ (bs.take k).length ≤ 256 ^ 3 := Nat.pow_le_pow_right (by omega) (by rw [List.length_take]; omega)
  have : (256 : Nat) ^ 3 = 16777216 := by decide
  omega
def NumRel (bs : List UInt8) (v i : Value) : Prop := ∃ k : Nat, k ≤ 4 ∧ i = .int .i64 k ∧ v = .int .u32 (Fr.num (bs.take k) : Nat)
set_option maxRecDepth 20000 in
theorem number_any (bs : List UInt8) (A : Option Addr) (c B : Nat) (w : World) (hb : BytesAt w B A bs) (hn : bs.length = 4) : Calls Tryz.prog 168 #[.slice A 4 c] w fun e w' => e = .returned (.int .u32 (Fr.num bs : Nat)) ∧ w = w' := by
  have HN := Lib.hid hn
  obtain ⟨b, off, rfl, hb1, hb2⟩ := hb (fun e => by rw [e] at hn; simp at hn)
  have HB := Lib.hid hb2
  clear hn hb hb2
  go_enter Tryz.func168, Tryz.ntmps168
  go_wp2_with fail
  go_loop [3, 8] (NumRel bs) (fun _ i => 4 - (intOf i).toNat)
  case atStart => exact ⟨0, by omega, rfl, rfl⟩
  case round =>
    obtain ⟨k, hk, rfl, rfl⟩ := hrel
    by_cases hlt : k < 4
    · have hbl : k < bs.length := by rw [HN.out]; exact hlt
      have hx : bs[k]? = some bs[k] := List.getElem?_eq_getElem hbl
      have hcell : w.cell? ⟨b, off + k, none⟩ = some (.int .u8 (bs[k].toNat : Int)) := HB.out k _ hx
      have HS := Lib.hid (num_take_snoc bs k _ hx)
      have hl := num_take_lt bs k hlt
      have ho := or_byte _ bs[k] hl
      have hxl : (bs[k].toNat : Int) ≤ 255 := by have := bs[k].toNat_lt; omega
      clear hx
      generalize Fr.num (bs.take k) = q at *
      generalize bs[k] = x at *
      clear hbl
      have hq : ((q * 256 : Nat) : Int) = (q : Int) * 256 := by omega
      rw [hq] at ho
      clear hq
      go_wp2_with fail
      go_round
      case rel => exact ⟨k + 1, by omega, by go_num, by rw [HS.out]; go_num⟩
      case measure => simp [intOf]; omega
    · obtain rfl : k = 4 := by omega
      go_wp2_with fail
      go_ret
      exact ⟨by rw [List.take_of_length_le (by rw [HN.out]; omega)]; rfl, rfl⟩

/-! ### first -/
def FirstPost (bs : List UInt8) (B : Nat) (w : World) (e : Ending) (w' : World) : Prop := Below w.heap.size w w' ∧
  ((Fr.first bs = none ∧ e = .returned (.tuple #[.slice none 0 0, .bool false])) ∨
    ∃ p A', Fr.first bs = some p ∧ e = .returned (.tuple #[.slice A' p.length p.length, .bool true]) ∧ BytesAt w B A' p)
theorem first_short (bs : List UInt8) (A : Option Addr) (n cap B : Nat) (w : World) (hn : bs.length = n) (h8 : n < 8) : Calls Tryz.prog 131 #[.slice A n cap] w (FirstPost bs B w) := by
  have H : Hid (Fr.first bs = none) := Lib.hid (by unfold Fr.first; rw [if_pos (by omega)])
  clear hn
  go_enter Tryz.func131, Tryz.ntmps131
  go_wp2_with fail
  go_ret2
  exact ⟨Below.refl _ _, .inl ⟨H.out, rfl⟩⟩
theorem BytesAt.at {w : World} {B b off : Nat} {bs : List UInt8} (h : BytesAt w B (some ⟨b, off, none⟩) bs) (hb : b < B) (k n : Nat) : BytesAt w B (some ⟨b, off + k, none⟩) ((bs.take n).drop k) := fun hne => by
  obtain ⟨b2, off2, e, h2, h3⟩ := h (fun e => hne (by rw [e]; simp))
  injection e with e
  injection e with e1 e2
  subst e1 e2
  refine ⟨b, off + k, rfl, hb, fun j u hu => ?_⟩
  rw [List.getElem?_drop, List.getElem?_take] at hu
  split at hu
  · have := h3 (k + j) u hu
    rw [← Nat.add_assoc] at this
    exact this
  · cases hu
set_option maxRecDepth 20000 in
theorem first_any (bs : List UInt8) (A : Option Addr) (n cap B : Nat) (w : World) (hB : B ≤ w.heap.size) (hb : BytesAt w B A bs) (hn : bs.length = n) (hnc : n ≤ cap) (hc : cap ≤ 9223372036854775807) : Calls Tryz.prog 131 #[.slice A n cap] w (FirstPost bs B w) := by
  by_cases h8 : n < 8
  · exact first_short bs A n cap B w hn h8
  have h8' : ¬ (n : Int) < 8 := by omega
  obtain ⟨b, off, rfl, hb1, _⟩ := id (hb (fun e => by rw [e] at hn; simp at hn; omega))
  have c4 : ¬ cap = 4 := by omega
  have hb48 := hb.at hb1 4 8
  have cn1 := Lib.hid (fun c => number_any ((bs.take 8).drop 4) (some ⟨b, off + 4, none⟩) c B w hb48 (by simp; omega))
  have l4 : Fr.lenOf bs < 4294967296 := Fr.num_four _ (by simp; omega)
  have hL : Fr.num ((bs.take 8).drop 4) = Fr.lenOf bs := rfl
  rw [hL] at cn1
  have hi8 : (8 : Int) ≤ cap := by omega
  have hi4 : (4 : Int) ≤ cap := by omega
  clear hL hb48
  have HF := Lib.hid (Fr.first_eq bs)
  rw [if_neg (by omega), hn] at HF
  have HN := Lib.hid hn
  have HB := Lib.hid hb
  clear hn hb h8
  by_cases hbig : 4096 < Fr.lenOf bs ∨ n - 8 < Fr.lenOf bs
  · rw [if_pos hbig] at HF
    generalize Fr.lenOf bs = q at *
    by_cases h1 : 4096 < q
    · clear hbig
      have q4 : (4096 : Int) < q := by omega
      go_enter Tryz.func131, Tryz.ntmps131
      go_wp2_with (go_at_call 168; refine (cn1.out _).mono ?_; rintro e w' ⟨rfl, rfl⟩)
      go_ret2
      exact ⟨Below.refl _ _, .inl ⟨HF.out, rfl⟩⟩
    · have q4 : ¬ (4096 : Int) < q := by omega
      have q3 : (n : Int) - 8 < q := by omega
      clear hbig
      go_enter Tryz.func131, Tryz.ntmps131
      go_wp2_with (go_at_call 168; refine (cn1.out _).mono ?_; rintro e w' ⟨rfl, rfl⟩)
      go_ret2
      exact ⟨Below.refl _ _, .inl ⟨HF.out, rfl⟩⟩
  · rw [if_neg hbig] at HF
    have q1 : Fr.lenOf bs ≤ 4096 := by omega
    have q2 : Fr.lenOf bs + 8 ≤ n := by omega
    clear hbig
    obtain ⟨E, hE⟩ : ∃ E, E = 8 + Fr.lenOf bs := ⟨_, rfl⟩
    rw [← hE] at HF
    have hEi : (8 : Int) + (Fr.lenOf bs : Int) = (E : Int) := by omega
    have hE8 : (8 : Int) ≤ E := by omega
    have hE4 : (4 : Int) ≤ E := by omega
    have hEc : (E : Int) ≤ cap := by omega
    have hbl := (HB.out.at hb1 4 E)
    have hll : ((bs.take E).drop 4).length = E - 4 := by rw [List.length_drop, List.length_take, HN.out]; omega
    have cn2 := Lib.hid (fun (W : World) (h : Below w.heap.size w W) => number_any (bs.take 4) (some ⟨b, off, none⟩) cap B W ((HB.out.take 4).keep fun q hq => h.block q (by omega)) (by rw [List.length_take, HN.out]; omega))
    have cs := Lib.hid (fun (W : World) (h : Below w.heap.size w W) => sum_any _ (some ⟨b, off + 4, none⟩) (E - 4) (cap - 4) W ((hbl.keep fun q hq => h.block q (by omega)).mono (Nat.le_trans hB h.size)) hll (by omega))
    have hp8 : BytesAt w B (if E = 8 then some ⟨b, off, none⟩ else some ⟨b, off + 8, none⟩) ((bs.take E).drop 8) := by
      split
      · rename_i h; rw [h, List.drop_of_length_le (by rw [List.length_take]; omega)]; exact BytesAt.nil _ _ _
      · exact HB.out.at hb1 8 _
    have hpl : ((bs.take E).drop 8).length = E - 8 := by rw [List.length_drop, List.length_take, HN.out]; omega
    have HP8 := Lib.hid hp8
    have HPL := Lib.hid hpl
    have sl : Pl.sum ((bs.take E).drop 4) < 4294967296 := Pl.more_lt _ _
    have nl : Fr.num (bs.take 4) < 4294967296 := Fr.num_four _ (by rw [List.length_take, HN.out]; omega)
    have HE := Lib.hid hE
    have hcut : ∀ W : World, (Instr.slice 60 (.slice (some ⟨b, off, none⟩) n cap) (some (.int .i64 8)) (some (.int .i64 E)) (some (.int .i64 E))).run Tryz.prog W = .ok (.slice (if E = 8 then some ⟨b, off, none⟩ else some ⟨b, off + 8, none⟩) (E - 8) (E - 8)) W := fun W => by
      clear hEi hE
      go_simp
    clear hbl hll hp8 hpl hE
    generalize (if E = 8 then some (⟨b, off, none⟩ : Addr) else some ⟨b, off + 8, none⟩) = A8 at *
    generalize (bs.take E).drop 8 = p at *
    generalize Pl.sum ((bs.take E).drop 4) = S at *
    generalize Fr.num (bs.take 4) = T at *
    generalize Fr.lenOf bs = q at *
    have q3 : ¬ (n : Int) - 8 < q := by omega
    have q4 : ¬ (4096 : Int) < q := by omega
    by_cases hTS : T = S
    · rw [if_pos hTS] at HF
      subst hTS
      have hne : ((T : Int) != (T : Int)) = false := by rw [bne_self_eq_false]
      go_enter Tryz.func131, Tryz.ntmps131
      go_wp2_with (go_at_call 168; refine (cn1.out _).mono ?_; rintro e w' ⟨rfl, rfl⟩)
      have D0 : Hid (Below w.heap.size w w.drew) := Lib.hid ((Below.refl _ w).drew)
      go_region_held3 (fun _ => True) (trivial) (first
        | (go_at_call 168; (with_reducible refine (cn2.out _ D0.out).mono ?_); rintro e w4 ⟨rfl, rfl⟩)
        | (go_at_call 169; (with_reducible refine (cs.out _ D0.out).mono ?_); rintro e w5 ⟨rfl, hb4⟩; have B4 : Hid (Below w.heap.size w w5) := Lib.hid (D0.out.trans hb4); clear hb4))
      go_wp2_with fail
      go_ret2
      exact ⟨B4.out, .inr ⟨p, A8, HF.out, by rw [HPL.out]; rfl, HP8.out⟩⟩
    · rw [if_neg hTS] at HF
      have hne : ((T : Int) != (S : Int)) = true := by rw [bne_iff_ne]; omega
      go_enter Tryz.func131, Tryz.ntmps131
      go_wp2_with (go_at_call 168; refine (cn1.out _).mono ?_; rintro e w' ⟨rfl, rfl⟩)
      have D0 : Hid (Below w.heap.size w w.drew) := Lib.hid ((Below.refl _ w).drew)
      go_region_held3 (fun _ => True) (trivial) (first
        | (go_at_call 168; (with_reducible refine (cn2.out _ D0.out).mono ?_); rintro e w4 ⟨rfl, rfl⟩)
        | (go_at_call 169; (with_reducible refine (cs.out _ D0.out).mono ?_); rintro e w5 ⟨rfl, hb4⟩; have B4 : Hid (Below w.heap.size w w5) := Lib.hid (D0.out.trans hb4); clear hb4))
      go_wp2_with fail
      go_ret2
      exact ⟨B4.out, .inl ⟨HF.out, rfl⟩⟩
end Go.Proofs.YtjcikhacekmcfaaGreatDoor.Fm
namespace Go.Proofs.YtjcikhacekmcfaaGreatDoor.Fm
set_option maxRecDepth 20000
open Go.RowKit
set_option linter.unusedVariables false

theorem info_parts3 {P : Program} {t : TypeId} {z : Value} {n m : Nat} (h : (P.info? t).map (fun i => (i.zero, i.size, i.bytes)) = some (some z, n, m)) : ∃ i, P.info? t = some i ∧ i.zero = some z ∧ i.size = n ∧ i.bytes = m := by
  obtain ⟨i, hi, e⟩ := Option.map_eq_some_iff.1 h
  simp only [Prod.mk.injEq] at e
  exact ⟨i, hi, e.1, e.2.1, e.2.2⟩
theorem OwnB.new (w : World) : OwnB (w.alloc (.cells #[] 5)) w.heap.size (.slice (some ⟨w.heap.size, 0, none⟩) 0 0) [] := World.ownsRow_made w #[] 0 (Nat.le_refl _) (by simp [maxLen]) (by simp)
theorem OwnB.lt {w : World} {base : Nat} {v : Value} {l : List UInt8} (h : OwnB w base v l) : ∀ k, v.ownBlock = some k → base ≤ k ∧ k < w.heap.size := World.ownsRow.lt h
theorem OwnB.keep {w w' : World} {base : Nat} {v : Value} {l : List UInt8} (h : OwnB w base v l) (hk : ∀ g, v.ownBlock = some g → w'.heap[g]? = w.heap[g]?) : OwnB w' base v l := by
  refine ⟨h.1, ?_⟩
  rcases h.2 with q | ⟨g, cap, cur, e, hb, hh, r⟩
  · exact .inl q
  · exact .inr ⟨g, cap, cur, e, hb, (hk g (by rw [e]; rfl)).trans hh, r⟩
theorem info22 : (Tryz.prog.info? 60).map (fun i => (i.zero, i.size, i.bytes)) = some (some (.slice none 0 0), 1, 24) := by kernel_rfl
/-- a row of slices that the call has built -/
def OwnV (w : World) (base : Nat) (v : Value) (vs : List Value) : Prop := w.ownsRow base 60 1 v vs.length vs
theorem own_kp {w w' : World} {base e size n : Nat} {v : Value} {xs : List Value} (h : w.ownsRow base e size v n xs) (hk : ∀ k, base ≤ k → k < w.heap.size → w'.heap[k]? = w.heap[k]?) : w'.ownsRow base e size v n xs := by
  refine ⟨h.1, ?_⟩
  rcases h.2 with q | ⟨g, cap, cur, q1, hb, hh, r⟩
  · exact .inl q
  · exact .inr ⟨g, cap, cur, q1, hb, (hk g hb (Array.getElem?_eq_some_iff.1 hh).1).trans hh, r⟩
theorem OwnV.at {w : World} {base : Nat} {A : Option Addr} {n c : Nat} {vs : List Value} (h : OwnV w base (.slice A n c) vs) {i : Nat} {v : Value} (hi : vs[i]? = some v) : ∃ g, A = some ⟨g, 0, none⟩ ∧ w.cell? ⟨g, i, none⟩ = some v := by
  rcases h.2 with ⟨_, q⟩ | ⟨g, cap, cur, e, hb, hh, h1, h2, h3, h4⟩
  · have : vs = [] := List.eq_nil_of_length_eq_zero q
    subst this; simp at hi
  · injection e with e1
    refine ⟨g, e1, ?_⟩
    rw [Lib.cell_of_heap hh]
    show cur[i]? = some v
    rw [← Array.getElem?_toList]
    have hl := (List.getElem?_eq_some_iff.1 hi).1
    rw [← h4, List.getElem?_take] at hi
    split at hi
    · exact hi
    · omega
theorem OwnV.form {w : World} {base : Nat} {v : Value} {vs : List Value} (h : OwnV w base v vs) : ∃ A c, v = .slice A vs.length c ∧ vs.length ≤ c ∧ c ≤ 9223372036854775807 := by
  rcases h.2 with ⟨e, q⟩ | ⟨g, cap, cur, e, hb, hh, h1, h2, h3, h4⟩
  · exact ⟨none, 0, by rw [e, q], by omega, by omega⟩
  · exact ⟨_, cap, e, h1, by simp only [maxLen] at h2; omega⟩
theorem OwnV.lt {w : World} {base : Nat} {v : Value} {vs : List Value} (h : OwnV w base v vs) : ∀ k, v.ownBlock = some k → base ≤ k ∧ k < w.heap.size := World.ownsRow.lt h
theorem wp_appV {ops : Array Oper} {rest : List Oper} {o : Oper} {a : Act} {Q : Exit → Act → World → Prop} {w : World} (hgd : o.guard = none) (s x : Operand)
    (ho : o.op = .call { callee := .builtin .append, args := #[s, x], argTypes := #[129, 129] })
    (base : Nat) (v : Value) (vs : List Value) (hs : a.eval s = v) (hown : OwnV w base v vs) (k : Nat) (u : Value) (hu0 : ∃ A n c, u = .slice A n c) (hx : a.eval x = .slice (some ⟨k, 0, none⟩) 1 1)
    (hk : w.heap[k]? = some (.cells #[u] 60 (0, 0)))
    (hlen : vs.length ≤ 1000000) (hbase : base ≤ w.heap.size)
    (h : ∀ v' w', OwnV w' base v' (vs ++ [u]) → w.grownBy w' v.ownBlock → wpList Tryz.prog ops Q rest (a.put o.dst v') w') : wpList Tryz.prog ops Q (o :: rest) a w := by
  obtain ⟨i, hi, hz, hz1, hz2⟩ := info_parts3 info22
  refine wpList_append_own w hgd s x 129 ho base 60 i _ 1 24 Tryz.underlying129 hi hz hz1 hz2 rfl (by omega) v vs.length vs hs hown ⟨k, 0, none⟩ 1 1 [u] hx rfl ?_ ?_ (by simp only [maxLen]; omega) (by omega) hbase ?_
  · intro j y hy
    unfold Addr.add
    have hc : w.cell? ⟨k, j, none⟩ = some y := by
      rw [Lib.cell_of_heap hk]
      rw [← hy]
      show (#[u] : Array Value)[j]? = _
      simp
    split
    · subst j; exact hc
    · simpa using hc
  · intro y hy
    rw [List.mem_singleton] at hy
    subst hy
    obtain ⟨A, n, c, rfl⟩ := hu0
    rfl
  · intro v' w' h2 h3 _
    refine h v' w' ?_ h3
    unfold OwnV
    rw [List.length_append]
    exact h2
theorem OwnB.take {w : World} {base : Nat} {A : Option Addr} {c k : Nat} {l : List UInt8} (h : OwnB w base (.slice A l.length c) l) (hk : k ≤ l.length) : OwnB w base (.slice A k c) (l.take k) := by
  have hl : (l.take k).length = k := by rw [List.length_take]; omega
  unfold OwnB
  rw [hl]
  refine ⟨by simp [vB]; omega, ?_⟩
  rcases h.2 with ⟨e, hn⟩ | ⟨g, cap, cur, e, hb, hh, h1, h2, h3, h4⟩
  · injection e with e1 e2 e3
    subst e1 e3
    have : k = 0 := by omega
    subst this
    exact .inl ⟨rfl, rfl⟩
  · injection e with e1 e2 e3
    subst e1 e3
    refine .inr ⟨g, c, cur, rfl, hb, hh, by omega, h2, h3, ?_⟩
    have e : vB (l.take k) = (vB l).take k := by simp [vB, List.map_take]
    rw [e, ← h4, List.take_take]
    congr 1
    omega
theorem own_mono {w : World} {base base' e size n : Nat} {v : Value} {xs : List Value} (h : w.ownsRow base e size v n xs) (hb : base' ≤ base) : w.ownsRow base' e size v n xs := by
  refine ⟨h.1, ?_⟩
  rcases h.2 with q | ⟨g, cap, cur, e, hg, r⟩
  · exact .inl q
  · exact .inr ⟨g, cap, cur, e, Nat.le_trans hb hg, r⟩
theorem OwnB.mono {w : World} {base base' : Nat} {v : Value} {l : List UInt8} (h : OwnB w base v l) (hb : base' ≤ base) : OwnB w base' v l := own_mono h hb
/-- slices of bytes, one for each of ls -/
def Was (w : World) (base : Nat) (ls : List (List UInt8)) (vs : List Value) : Prop :=
  ls.length = vs.length ∧ ∀ (i : Nat) (l : List UInt8), ls[i]? = some l → ∃ A c, vs[i]? = some (.slice A l.length c) ∧ OwnB w base (.slice A l.length c) l
theorem Was.add {w : World} {base : Nat} {ls : List (List UInt8)} {vs : List Value} (h : Was w base ls vs) {A : Option Addr} {c : Nat} {l : List UInt8} (hl : OwnB w base (.slice A l.length c) l) : Was w base (ls ++ [l]) (vs ++ [.slice A l.length c]) := by
  refine ⟨by simp [h.1], fun i x hx => ?_⟩
  by_cases hi : i < ls.length
  · rw [List.getElem?_append_left hi] at hx
    obtain ⟨A2, c2, q1, q2⟩ := h.2 i x hx
    exact ⟨A2, c2, by rw [List.getElem?_append_left (by rw [← h.1]; exact hi)]; exact q1, q2⟩
  · rw [List.getElem?_append_right (by omega)] at hx
    have e : i - ls.length = 0 := by
      have := (List.getElem?_eq_some_iff.1 hx).1
      simp at this; omega
    rw [e] at hx
    have hx : l = x := by simpa using hx
    subst hx
    have h1 := h.1
    exact ⟨A, c, by rw [List.getElem?_append_right (by omega)]; rw [show i - vs.length = 0 by omega]; rfl, hl⟩
theorem Was.kp {w w' : World} {base : Nat} {ls : List (List UInt8)} {vs : List Value} (h : Was w base ls vs) (hk : ∀ k, base ≤ k → k < w.heap.size → w'.heap[k]? = w.heap[k]?) : Was w' base ls vs :=
  ⟨h.1, fun i l hl => by obtain ⟨A, c, q1, q2⟩ := h.2 i l hl; exact ⟨A, c, q1, own_kp q2 hk⟩⟩
theorem Was.belows {w w' : World} {base : Nat} {ls : List (List UInt8)} {vs : List Value} (h : Was w base ls vs) (hb : Below w.heap.size w w') : Was w' base ls vs := h.kp fun k _ h2 => hb.block k h2
theorem OwnV.belows {w w' : World} {base : Nat} {v : Value} {vs : List Value} (h : OwnV w base v vs) (hb : Below w.heap.size w w') : OwnV w' base v vs := own_kp h fun k _ h2 => hb.block k h2
/-- the row grows: what isn't the row stays -/
theorem OwnB.grown {w w' : World} {base b2 : Nat} {v rv : Value} {l : List UInt8} {vs : List Value} (h : OwnB w base v l) (hr : OwnV w b2 rv vs) (hg : w.grownBy w' rv.ownBlock) : OwnB w' base v l := by
  refine h.keep fun g hg2 => ?_
  refine hg.block g (h.lt g hg2).2 fun e => ?_
  rcases hr.2 with ⟨q, _⟩ | ⟨g3, cap, cur, q, _, hh, _⟩
  · rw [q] at e; cases e
  · rw [q] at e
    injection e with e
    have e : g = g3 := e
    subst e
    rcases h.2 with ⟨q2, _⟩ | ⟨g4, cap4, cur4, q2, _, hh2, _⟩
    · rw [q2] at hg2; cases hg2
    · rw [q2] at hg2
      injection hg2 with hg2
      have e : g4 = g := hg2
      subst e
      rw [hh] at hh2
      injection hh2 with hh2
      injection hh2 with _ e1 _
      cases e1
theorem Was.grown {w w' : World} {base b2 : Nat} {rv : Value} {ls : List (List UInt8)} {vs vs2 : List Value} (h : Was w base ls vs) (hr : OwnV w b2 rv vs2) (hg : w.grownBy w' rv.ownBlock) : Was w' base ls vs :=
  ⟨h.1, fun i l hl => by obtain ⟨A, c, q1, q2⟩ := h.2 i l hl; exact ⟨A, c, q1, q2.grown hr hg⟩⟩

theorem OwnV.none (w : World) (base : Nat) : OwnV w base (.slice none 0 0) [] := ⟨rfl, .inl ⟨rfl, rfl⟩⟩
theorem OwnV.new (w : World) : OwnV (w.alloc (.cells #[] 60)) w.heap.size (.slice (some ⟨w.heap.size, 0, Option.none⟩) 0 0) [] := World.ownsRow_made w #[] 0 (Nat.le_refl _) (by simp [maxLen]) (by simp)
/-! ### rows of bytes that are read -/
def SlAt (w : World) (B : Nat) (v : Value) (l : List UInt8) : Prop := ∃ A c, v = .slice A l.length c ∧ l.length ≤ c ∧ c ≤ 9223372036854775807 ∧ (A = Option.none → c = 0) ∧ BytesAt w B A l
theorem SlAt.keep {w w' : World} {B : Nat} {v : Value} {l : List UInt8} (h : SlAt w B v l) (hk : ∀ q, q < B → w'.heap[q]? = w.heap[q]?) : SlAt w' B v l := by
  obtain ⟨A, c, h1, h2, h3, h4, h5⟩ := h
  exact ⟨A, c, h1, h2, h3, h4, h5.keep hk⟩
theorem SlAt.mono {w : World} {B B' : Nat} {v : Value} {l : List UInt8} (h : SlAt w B v l) (hB : B ≤ B') : SlAt w B' v l := by
  obtain ⟨A, c, h1, h2, h3, h4, h5⟩ := h
  exact ⟨A, c, h1, h2, h3, h4, h5.mono hB⟩
def Rows (w : World) (B : Nat) (ls : List (List UInt8)) (vs : List Value) : Prop := ls.length = vs.length ∧ ∀ (i : Nat) (l : List UInt8), ls[i]? = some l → ∃ v, vs[i]? = some v ∧ SlAt w B v l
theorem Rows.nil (w : World) (B : Nat) : Rows w B [] [] := ⟨rfl, fun i l h => by simp at h⟩
theorem Rows.add {w : World} {B : Nat} {ls : List (List UInt8)} {vs : List Value} (h : Rows w B ls vs) {v : Value} {l : List UInt8} (hl : SlAt w B v l) : Rows w B (ls ++ [l]) (vs ++ [v]) := by
  refine ⟨by simp [h.1], fun i x hx => ?_⟩
  have h1 := h.1
  by_cases hi : i < ls.length
  · rw [List.getElem?_append_left hi] at hx
    obtain ⟨u, q1, q2⟩ := h.2 i x hx
    exact ⟨u, by rw [List.getElem?_append_left (by omega)]; exact q1, q2⟩
  · rw [List.getElem?_append_right (by omega)] at hx
    have e : i - ls.length = 0 := by
      have := (List.getElem?_eq_some_iff.1 hx).1
      simp at this; omega
    rw [e] at hx
    have hx : l = x := by simpa using hx
    subst hx
    exact ⟨v, by rw [List.getElem?_append_right (by omega), show i - vs.length = 0 by omega]; rfl, hl⟩
theorem Rows.keep {w w' : World} {B : Nat} {ls : List (List UInt8)} {vs : List Value} (h : Rows w B ls vs) (hk : ∀ q, q < B → w'.heap[q]? = w.heap[q]?) : Rows w' B ls vs :=
  ⟨h.1, fun i l hl => by obtain ⟨v, q1, q2⟩ := h.2 i l hl; exact ⟨v, q1, q2.keep hk⟩⟩
theorem Rows.mono {w : World} {B B' : Nat} {ls : List (List UInt8)} {vs : List Value} (h : Rows w B ls vs) (hB : B ≤ B') : Rows w B' ls vs :=
  ⟨h.1, fun i l hl => by obtain ⟨v, q1, q2⟩ := h.2 i l hl; exact ⟨v, q1, q2.mono hB⟩⟩
theorem OwnB.slAt {w : World} {base : Nat} {v : Value} {l : List UInt8} (h : OwnB w base v l) : SlAt w w.heap.size v l := by
  obtain ⟨A, c, h1, h2, h3, h4⟩ := h.form
  refine ⟨A, c, h1, h3, h4, fun e => ?_, h2⟩
  subst e
  rcases h.2 with ⟨e, _⟩ | ⟨g, cap, cur, e, _⟩
  · rw [h1] at e; injection e
  · rw [h1] at e; injection e with e; cases e
theorem Was.rows {w : World} {base : Nat} {ls : List (List UInt8)} {vs : List Value} (h : Was w base ls vs) : Rows w w.heap.size ls vs :=
  ⟨h.1, fun i l hl => by obtain ⟨A, c, q1, q2⟩ := h.2 i l hl; exact ⟨_, q1, q2.slAt⟩⟩
/-- a slice of slices of bytes, that is read -/
def RowsAt (w : World) (B : Nat) (A : Option Addr) (ls : List (List UInt8)) : Prop :=
  ls ≠ [] → ∃ b off, A = some ⟨b, off, Option.none⟩ ∧ b < B ∧ ∀ i l, ls[i]? = some l → ∃ v, w.cell? ⟨b, off + i, Option.none⟩ = some v ∧ SlAt w B v l
theorem RowsAt.keep {w w' : World} {B : Nat} {A : Option Addr} {ls : List (List UInt8)} (h : RowsAt w B A ls) (hk : ∀ q, q < B → w'.heap[q]? = w.heap[q]?) : RowsAt w' B A ls := fun hne => by
  obtain ⟨b, off, h1, h2, h3⟩ := h hne
  refine ⟨b, off, h1, h2, fun i l hl => ?_⟩
  obtain ⟨v, q1, q2⟩ := h3 i l hl
  exact ⟨v, (World.cell?_of_block (w := w) (hk b h2)).trans q1, q2.keep hk⟩
theorem RowsAt.mono {w : World} {B B' : Nat} {A : Option Addr} {ls : List (List UInt8)} (h : RowsAt w B A ls) (hB : B ≤ B') : RowsAt w B' A ls := fun hne => by
  obtain ⟨b, off, h1, h2, h3⟩ := h hne
  refine ⟨b, off, h1, by omega, fun i l hl => ?_⟩
  obtain ⟨v, q1, q2⟩ := h3 i l hl
  exact ⟨v, q1, q2.mono hB⟩
theorem RowsAt.take {w : World} {B : Nat} {A : Option Addr} {ls : List (List UInt8)} (h : RowsAt w B A ls) (n : Nat) : RowsAt w B A (ls.take n) := fun hne => by
  obtain ⟨b, off, h1, h2, h3⟩ := h (fun e => hne (by rw [e]; simp))
  refine ⟨b, off, h1, h2, fun j u hu => h3 j u ?_⟩
  rw [List.getElem?_take] at hu
  split at hu
  · exact hu
  · cases hu
theorem OwnV.rowsAt {w : World} {base : Nat} {A : Option Addr} {n c : Nat} {vs : List Value} {ls : List (List UInt8)} (h : OwnV w base (.slice A n c) vs) (hr : Rows w w.heap.size ls vs) : RowsAt w w.heap.size A ls := fun hne => by
  rcases h.2 with ⟨_, q⟩ | ⟨g, cap, cur, e, hb, hh, h1, h2, h3, h4⟩
  · have h1 := hr.1
    exact absurd (List.eq_nil_of_length_eq_zero (by omega)) hne
  · injection e with e1
    refine ⟨g, 0, e1, (Array.getElem?_eq_some_iff.1 hh).1, fun i l hl => ?_⟩
    obtain ⟨v, q1, q2⟩ := hr.2 i l hl
    obtain ⟨g2, e2, e3⟩ := h.at q1
    rw [e1] at e2
    injection e2 with e2
    injection e2 with e2
    subst e2
    exact ⟨v, by rw [Nat.zero_add]; exact e3, q2⟩
end Go.Proofs.YtjcikhacekmcfaaGreatDoor.Fm
namespace Go.Proofs.YtjcikhacekmcfaaGreatDoor.Fm
set_option maxRecDepth 20000
open Go.RowKit
set_option linter.unusedVariables false

/-- a slice is cut at its front -/
theorem slice_from {w : World} {A : Option Addr} {c n B : Nat} {bs : List UInt8} (h : BytesAt w B A bs) (k : Nat) (hn : bs.length = n) (h1 : k ≤ n) (h2 : n ≤ c) :
    ∃ A', (∀ W : World, (Instr.slice 60 (.slice A n c) (some (.int .i64 (k : Nat))) none none).run Tryz.prog W = .ok (.slice A' (n - k) (c - k)) W) ∧ BytesAt w B A' (bs.drop k) := by
  have hk : (k : Int) ≤ (n : Int) := by omega
  have h0 : (0 : Int) ≤ (k : Int) := by omega
  refine ⟨if c = k then A else A.map (·.add (k * 1)), fun W => ?_, ?_⟩
  · clear hn
    go_simp
  · split
    · rename_i e
      rw [List.drop_of_length_le (by omega)]
      exact BytesAt.nil _ _ _
    · rw [Nat.mul_one]; exact h.drop' k
/-- every slice ends with its bytes -/
def Tight (vs : List Value) : Prop := ∀ v ∈ vs, ∃ A n, v = .slice A n n
def ScanPost (bs : List UInt8) (B : Nat) (w : World) (e : Ending) (w' : World) : Prop := Below w.heap.size w w' ∧
  ∃ A c vs, e = .returned (.tuple #[.slice A (Fr.scan bs).1.length c, .int .i64 (Fr.scan bs).2]) ∧ OwnV w' w.heap.size (.slice A (Fr.scan bs).1.length c) vs ∧ Rows w B (Fr.scan bs).1 vs ∧ Tight vs
def SRel (bs : List UInt8) (B : Nat) (w : World) (pv sv : Value) (wr : World) : Prop :=
  ∃ (k : Nat) (ls : List (List UInt8)) (vs : List Value), k ≤ bs.length ∧ 8 * ls.length ≤ k ∧ sv = .int .i64 k ∧ OwnV wr w.heap.size pv vs ∧ Rows w B ls vs ∧ Tight vs ∧ Below w.heap.size w wr ∧
    (Fr.scan bs).1 = ls ++ (Fr.scan (bs.drop k)).1 ∧ (Fr.scan bs).2 = k + (Fr.scan (bs.drop k)).2
set_option maxRecDepth 20000 in
theorem scan_any (bs : List UInt8) (A : Option Addr) (n cap B : Nat) (w : World) (hB : B ≤ w.heap.size) (hb : BytesAt w B A bs) (hn : bs.length = n) (hnm : n ≤ 1100000) (hnc : n ≤ cap) (hc : cap ≤ 9223372036854775807) : Calls Tryz.prog 78 #[.slice A n cap] w (ScanPost bs B w) := by
  have HB := Lib.hid hb
  have HN := Lib.hid hn
  clear hb hn
  go_enter Tryz.func78, Tryz.ntmps78
  go_wp2_with fail
  go_loopw [4, 5] (SRel bs B w) (fun _ i _ => n - (intOf i).toNat)
  case atStart => exact ⟨0, [], [], by omega, by simp, rfl, OwnV.none _ _, Rows.nil _ _, (fun v hv => by cases hv), Below.refl _ _, by rw [List.drop_zero, List.nil_append], by rw [List.drop_zero, Nat.zero_add]⟩
  case round =>
    obtain ⟨k, ls, vs, hk, hk8, rfl, own, rows, tight, bel, s1, s2⟩ := hrel
    have hkn : k ≤ n := by rw [HN.out] at hk; exact hk
    have bel' := bel
    obtain ⟨A', hsl, hba⟩ := slice_from (HB.out.keep fun q hq => bel'.block q (by omega)) k HN.out hkn hnc
    have OW := Lib.hid own
    have RO := Lib.hid rows
    have TI := Lib.hid tight
    have BE := Lib.hid bel
    have S1 := Lib.hid s1
    have S2 := Lib.hid s2
    have HL : Hid ((bs.drop k).length = n - k) := Lib.hid (by rw [List.length_drop, HN.out])
    clear hk own rows tight bel bel' s1 s2
    go_wp2_with fail
    refine (first_any (bs.drop k) A' (n - k) (cap - k) B wr (Nat.le_trans hB BE.out.size) hba HL.out (by omega) (by omega)).mono ?_
    clear hsl hba
    rintro e w1 ⟨b1, hcase⟩
    rcases hcase with ⟨hf, rfl⟩ | ⟨p, Ap, hf, rfl, hp⟩
    · rw [Fr.scan_none hf, List.append_nil] at S1
      rw [Fr.scan_none hf, Nat.add_zero] at S2
      have B1 := Lib.hid b1
      clear b1 hf
      obtain ⟨Av, cv, rfl, _, _⟩ := OW.out.form
      have HLV : Hid ((Fr.scan bs).1.length = vs.length) := Lib.hid (by rw [S1.out]; exact RO.out.1)
      go_wp2_with fail
      go_ret2
      refine ⟨BE.out.trans (B1.out.mono BE.out.size), Av, cv, vs, ?_, ?_, ?_, TI.out⟩
      · rw [HLV.out, S2.out]; rfl
      · rw [HLV.out]; exact OW.out.belows B1.out
      · rw [S1.out]; exact RO.out
    · have hl := Fr.first_len hf
      rw [List.length_drop, HN.out] at hl
      obtain ⟨s1, s2⟩ := Fr.scan_step S1.out S2.out hf
      have S1' := Lib.hid s1
      have S2' := Lib.hid s2
      have P' : BytesAt w B Ap p := hp.keep fun q hq => (BE.out.block q (by omega)).symm
      have RO' := Lib.hid (RO.out.add (v := .slice Ap p.length p.length) (l := p) ⟨Ap, p.length, rfl, Nat.le_refl _, by omega, (fun e => by
        subst e
        cases p with
        | nil => rfl
        | cons x r => (obtain ⟨b, off, h1, _⟩ := hp (by simp); cases h1)), P'⟩)
      have TI' : Hid (Tight (vs ++ [.slice Ap p.length p.length])) := Lib.hid (fun v hv => by
        rcases List.mem_append.1 hv with h | h
        · exact TI.out v h
        · rw [List.mem_singleton] at h; exact ⟨Ap, p.length, h⟩)
      have B1 := Lib.hid b1
      obtain ⟨q, hq⟩ : ∃ q, q = p.length := ⟨_, rfl⟩
      rw [← hq] at S1' S2' RO' TI' hl ⊢
      have H8 : Hid (8 * (ls ++ [p]).length ≤ k + (8 + q)) := Lib.hid (by rw [List.length_append, List.length_singleton]; omega)
      have HV : Hid (vs.length = ls.length) := Lib.hid RO.out.1.symm
      obtain ⟨hl1, hl2, hl3⟩ := hl
      have hk2 : k + 8 + q ≤ n := by omega
      have HK : Hid (k + (8 + q) ≤ bs.length) := Lib.hid (by rw [HN.out]; omega)
      have OW1 := Lib.hid (OW.out.belows B1.out)
      have BE1 := Lib.hid (BE.out.trans (B1.out.mono BE.out.size))
      clear s1 s2 b1 hf hp P' hq hl1 hl2 hl3
      have OW2 : Hid (OwnV (w1.alloc (.cells #[.slice Ap q q] 60)) w.heap.size u4 vs) := Lib.hid (OW1.out.belows ((Below.refl _ _).alloc (Nat.le_refl _) _))
      go_wp2_with (with_reducible refine wp_appV rfl (.tmp 19) (.tmp 21) rfl w.heap.size u4 vs rfl OW2.out w1.heap.size (.slice Ap q q) ⟨_, _, _, rfl⟩ rfl (heap_alloc_new w1 _) (by have := HV.out; omega) (by rw [World.size_alloc]; have := BE1.out.size; omega) ?_)
      rintro v2 w2 own2 grow2
      have OW3 := Lib.hid own2
      have BE3 : Hid (Below w.heap.size w w2) := Lib.hid ((BE1.out.alloc BE1.out.size _).grown grow2 (by rw [World.size_alloc]; have := BE1.out.size; omega) fun g hg => (OW2.out.lt g hg).1)
      clear own2 grow2
      go_wp2_with fail
      go_roundw
      case rel => exact ⟨k + (8 + q), ls ++ [p], _, HK.out, H8.out, by go_num, OW3.out, RO'.out, TI'.out, BE3.out, S1'.out, S2'.out⟩
      case measure => simp [intOf]; omega
end Go.Proofs.YtjcikhacekmcfaaGreatDoor.Fm
namespace Go.Proofs.YtjcikhacekmcfaaGreatDoor.Fm
set_option maxRecDepth 20000
open Go.RowKit
set_option linter.unusedVariables false

/-! ### scan's payloads lie in the block of what was scanned -/
def SameBlk (A A' : Option Addr) : Prop := ∀ x, A' = some x → ∃ y, A = some y ∧ x.block = y.block
theorem SameBlk.trans {A B C : Option Addr} (h : SameBlk A B) (k : SameBlk B C) : SameBlk A C := fun x hx => by
  obtain ⟨y, e, q⟩ := k x hx
  obtain ⟨z, e2, q2⟩ := h y e
  exact ⟨z, e2, q.trans q2⟩
theorem slice_from2 {w : World} {A : Option Addr} {c n B : Nat} {bs : List UInt8} (h : BytesAt w B A bs) (k : Nat) (hn : bs.length = n) (h1 : k ≤ n) (h2 : n ≤ c) :
    ∃ A', (∀ W : World, (Instr.slice 60 (.slice A n c) (some (.int .i64 (k : Nat))) none none).run Tryz.prog W = .ok (.slice A' (n - k) (c - k)) W) ∧ BytesAt w B A' (bs.drop k) ∧ SameBlk A A' := by
  have hk : (k : Int) ≤ (n : Int) := by omega
  have h0 : (0 : Int) ≤ (k : Int) := by omega
  refine ⟨if c = k then A else A.map (·.add (k * 1)), fun W => ?_, ?_, ?_⟩
  · clear hn
    go_simp
  · split
    · rename_i e
      rw [List.drop_of_length_le (by omega)]
      exact BytesAt.nil _ _ _
    · rw [Nat.mul_one]; exact h.drop' k
  · intro x hx
    split at hx
    · exact ⟨x, hx, rfl⟩
    · cases A with
      | none => cases hx
      | some a =>
        injection hx with hx
        subst hx
        refine ⟨a, rfl, ?_⟩
        unfold Addr.add
        split <;> rfl
def FirstPost2 (A : Option Addr) (bs : List UInt8) (B : Nat) (w : World) (e : Ending) (w' : World) : Prop := Below w.heap.size w w' ∧
  ((Fr.first bs = none ∧ e = .returned (.tuple #[.slice none 0 0, .bool false])) ∨
    ∃ p A', Fr.first bs = some p ∧ e = .returned (.tuple #[.slice A' p.length p.length, .bool true]) ∧ BytesAt w B A' p ∧ SameBlk A A')
theorem first_short2 (bs : List UInt8) (A : Option Addr) (n cap B : Nat) (w : World) (hn : bs.length = n) (h8 : n < 8) : Calls Tryz.prog 131 #[.slice A n cap] w (FirstPost2 A bs B w) := by
  have H : Hid (Fr.first bs = none) := Lib.hid (by unfold Fr.first; rw [if_pos (by omega)])
  clear hn
  go_enter Tryz.func131, Tryz.ntmps131
  go_wp2_with fail
  go_ret2
  exact ⟨Below.refl _ _, .inl ⟨H.out, rfl⟩⟩
set_option maxRecDepth 20000 in
theorem first_in (bs : List UInt8) (A : Option Addr) (n cap B : Nat) (w : World) (hB : B ≤ w.heap.size) (hb : BytesAt w B A bs) (hn : bs.length = n) (hnc : n ≤ cap) (hc : cap ≤ 9223372036854775807) : Calls Tryz.prog 131 #[.slice A n cap] w (FirstPost2 A bs B w) := by
  by_cases h8 : n < 8
  · exact first_short2 bs A n cap B w hn h8
  have h8' : ¬ (n : Int) < 8 := by omega
  obtain ⟨b, off, rfl, hb1, _⟩ := id (hb (fun e => by rw [e] at hn; simp at hn; omega))
  have c4 : ¬ cap = 4 := by omega
  have hb48 := hb.at hb1 4 8
  have cn1 := Lib.hid (fun c => number_any ((bs.take 8).drop 4) (some ⟨b, off + 4, none⟩) c B w hb48 (by simp; omega))
  have l4 : Fr.lenOf bs < 4294967296 := Fr.num_four _ (by simp; omega)
  have hL : Fr.num ((bs.take 8).drop 4) = Fr.lenOf bs := rfl
  rw [hL] at cn1
  have hi8 : (8 : Int) ≤ cap := by omega
  have hi4 : (4 : Int) ≤ cap := by omega
  clear hL hb48
  have HF := Lib.hid (Fr.first_eq bs)
  rw [if_neg (by omega), hn] at HF
  have HN := Lib.hid hn
  have HB := Lib.hid hb
  clear hn hb h8
  by_cases hbig : 4096 < Fr.lenOf bs ∨ n - 8 < Fr.lenOf bs
  · rw [if_pos hbig] at HF
    generalize Fr.lenOf bs = q at *
    by_cases h1 : 4096 < q
    · clear hbig
      have q4 : (4096 : Int) < q := by omega
      go_enter Tryz.func131, Tryz.ntmps131
      go_wp2_with (go_at_call 168; refine (cn1.out _).mono ?_; rintro e w' ⟨rfl, rfl⟩)
      go_ret2
      exact ⟨Below.refl _ _, .inl ⟨HF.out, rfl⟩⟩
    · have q4 : ¬ (4096 : Int) < q := by omega
      have q3 : (n : Int) - 8 < q := by omega
      clear hbig
      go_enter Tryz.func131, Tryz.ntmps131
      go_wp2_with (go_at_call 168; refine (cn1.out _).mono ?_; rintro e w' ⟨rfl, rfl⟩)
      go_ret2
      exact ⟨Below.refl _ _, .inl ⟨HF.out, rfl⟩⟩
  · rw [if_neg hbig] at HF
    have q1 : Fr.lenOf bs ≤ 4096 := by omega
    have q2 : Fr.lenOf bs + 8 ≤ n := by omega
    clear hbig
    obtain ⟨E, hE⟩ : ∃ E, E = 8 + Fr.lenOf bs := ⟨_, rfl⟩
    rw [← hE] at HF
    have hEi : (8 : Int) + (Fr.lenOf bs : Int) = (E : Int) := by omega
    have hE8 : (8 : Int) ≤ E := by omega
    have hE4 : (4 : Int) ≤ E := by omega
    have hEc : (E : Int) ≤ cap := by omega
    have hbl := (HB.out.at hb1 4 E)
    have hll : ((bs.take E).drop 4).length = E - 4 := by rw [List.length_drop, List.length_take, HN.out]; omega
    have cn2 := Lib.hid (fun (W : World) (h : Below w.heap.size w W) => number_any (bs.take 4) (some ⟨b, off, none⟩) cap B W ((HB.out.take 4).keep fun q hq => h.block q (by omega)) (by rw [List.length_take, HN.out]; omega))
    have cs := Lib.hid (fun (W : World) (h : Below w.heap.size w W) => sum_any _ (some ⟨b, off + 4, none⟩) (E - 4) (cap - 4) W ((hbl.keep fun q hq => h.block q (by omega)).mono (Nat.le_trans hB h.size)) hll (by omega))
    have hp8 : BytesAt w B (if E = 8 then some ⟨b, off, none⟩ else some ⟨b, off + 8, none⟩) ((bs.take E).drop 8) := by
      split
      · rename_i h; rw [h, List.drop_of_length_le (by rw [List.length_take]; omega)]; exact BytesAt.nil _ _ _
      · exact HB.out.at hb1 8 _
    have hsb : SameBlk (some ⟨b, off, none⟩) (if E = 8 then some ⟨b, off, none⟩ else some ⟨b, off + 8, none⟩) := by
      intro x hx
      split at hx <;> (injection hx with hx; subst hx; exact ⟨_, rfl, rfl⟩)
    have HSB := Lib.hid hsb
    have hpl : ((bs.take E).drop 8).length = E - 8 := by rw [List.length_drop, List.length_take, HN.out]; omega
    have HP8 := Lib.hid hp8
    have HPL := Lib.hid hpl
    have sl : Pl.sum ((bs.take E).drop 4) < 4294967296 := Pl.more_lt _ _
    have nl : Fr.num (bs.take 4) < 4294967296 := Fr.num_four _ (by rw [List.length_take, HN.out]; omega)
    have HE := Lib.hid hE
    have hcut : ∀ W : World, (Instr.slice 60 (.slice (some ⟨b, off, none⟩) n cap) (some (.int .i64 8)) (some (.int .i64 E)) (some (.int .i64 E))).run Tryz.prog W = .ok (.slice (if E = 8 then some ⟨b, off, none⟩ else some ⟨b, off + 8, none⟩) (E - 8) (E - 8)) W := fun W => by
      clear hEi hE
      go_simp
    clear hbl hll hp8 hpl hE hsb
    generalize (if E = 8 then some (⟨b, off, none⟩ : Addr) else some ⟨b, off + 8, none⟩) = A8 at *
    generalize (bs.take E).drop 8 = p at *
    generalize Pl.sum ((bs.take E).drop 4) = S at *
    generalize Fr.num (bs.take 4) = T at *
    generalize Fr.lenOf bs = q at *
    have q3 : ¬ (n : Int) - 8 < q := by omega
    have q4 : ¬ (4096 : Int) < q := by omega
    by_cases hTS : T = S
    · rw [if_pos hTS] at HF
      subst hTS
      have hne : ((T : Int) != (T : Int)) = false := by rw [bne_self_eq_false]
      go_enter Tryz.func131, Tryz.ntmps131
      go_wp2_with (go_at_call 168; refine (cn1.out _).mono ?_; rintro e w' ⟨rfl, rfl⟩)
      have D0 : Hid (Below w.heap.size w w.drew) := Lib.hid ((Below.refl _ w).drew)
      go_region_held3 (fun _ => True) (trivial) (first
        | (go_at_call 168; (with_reducible refine (cn2.out _ D0.out).mono ?_); rintro e w4 ⟨rfl, rfl⟩)
        | (go_at_call 169; (with_reducible refine (cs.out _ D0.out).mono ?_); rintro e w5 ⟨rfl, hb4⟩; have B4 : Hid (Below w.heap.size w w5) := Lib.hid (D0.out.trans hb4); clear hb4))
      go_wp2_with fail
      go_ret2
      exact ⟨B4.out, .inr ⟨p, A8, HF.out, by rw [HPL.out]; rfl, HP8.out, HSB.out⟩⟩
    · rw [if_neg hTS] at HF
      have hne : ((T : Int) != (S : Int)) = true := by rw [bne_iff_ne]; omega
      go_enter Tryz.func131, Tryz.ntmps131
      go_wp2_with (go_at_call 168; refine (cn1.out _).mono ?_; rintro e w' ⟨rfl, rfl⟩)
      have D0 : Hid (Below w.heap.size w w.drew) := Lib.hid ((Below.refl _ w).drew)
      go_region_held3 (fun _ => True) (trivial) (first
        | (go_at_call 168; (with_reducible refine (cn2.out _ D0.out).mono ?_); rintro e w4 ⟨rfl, rfl⟩)
        | (go_at_call 169; (with_reducible refine (cs.out _ D0.out).mono ?_); rintro e w5 ⟨rfl, hb4⟩; have B4 : Hid (Below w.heap.size w w5) := Lib.hid (D0.out.trans hb4); clear hb4))
      go_wp2_with fail
      go_ret2
      exact ⟨B4.out, .inl ⟨HF.out, rfl⟩⟩
def TightIn (A : Option Addr) (vs : List Value) : Prop := ∀ v ∈ vs, ∃ A' n, v = .slice A' n n ∧ SameBlk A A'
def ScanPost2 (A0 : Option Addr) (bs : List UInt8) (B : Nat) (w : World) (e : Ending) (w' : World) : Prop := Below w.heap.size w w' ∧
  ∃ A c vs, e = .returned (.tuple #[.slice A (Fr.scan bs).1.length c, .int .i64 (Fr.scan bs).2]) ∧ OwnV w' w.heap.size (.slice A (Fr.scan bs).1.length c) vs ∧ Rows w B (Fr.scan bs).1 vs ∧ TightIn A0 vs
def SRel2 (A0 : Option Addr) (bs : List UInt8) (B : Nat) (w : World) (pv sv : Value) (wr : World) : Prop :=
  ∃ (k : Nat) (ls : List (List UInt8)) (vs : List Value), k ≤ bs.length ∧ 8 * ls.length ≤ k ∧ sv = .int .i64 k ∧ OwnV wr w.heap.size pv vs ∧ Rows w B ls vs ∧ TightIn A0 vs ∧ Below w.heap.size w wr ∧
    (Fr.scan bs).1 = ls ++ (Fr.scan (bs.drop k)).1 ∧ (Fr.scan bs).2 = k + (Fr.scan (bs.drop k)).2
set_option maxRecDepth 20000 in
theorem scan_held (bs : List UInt8) (A : Option Addr) (n cap B : Nat) (w : World) (hB : B ≤ w.heap.size) (hb : BytesAt w B A bs) (hn : bs.length = n) (hnm : n ≤ 1100000) (hnc : n ≤ cap) (hc : cap ≤ 9223372036854775807) : Calls Tryz.prog 78 #[.slice A n cap] w (ScanPost2 A bs B w) := by
  have HB := Lib.hid hb
  have HN := Lib.hid hn
  clear hb hn
  go_enter Tryz.func78, Tryz.ntmps78
  go_wp2_with fail
  go_loopw [4, 5] (SRel2 A bs B w) (fun _ i _ => n - (intOf i).toNat)
  case atStart => exact ⟨0, [], [], by omega, by simp, rfl, OwnV.none _ _, Rows.nil _ _, (fun v hv => by cases hv), Below.refl _ _, by rw [List.drop_zero, List.nil_append], by rw [List.drop_zero, Nat.zero_add]⟩
  case round =>
    obtain ⟨k, ls, vs, hk, hk8, rfl, own, rows, tight, bel, s1, s2⟩ := hrel
    have hkn : k ≤ n := by rw [HN.out] at hk; exact hk
    have bel' := bel
    obtain ⟨A', hsl, hba, hsb⟩ := slice_from2 (HB.out.keep fun q hq => bel'.block q (by omega)) k HN.out hkn hnc
    have OW := Lib.hid own
    have RO := Lib.hid rows
    have TI := Lib.hid tight
    have BE := Lib.hid bel
    have S1 := Lib.hid s1
    have S2 := Lib.hid s2
    have HL : Hid ((bs.drop k).length = n - k) := Lib.hid (by rw [List.length_drop, HN.out])
    have HSB := Lib.hid hsb
    clear hk own rows tight bel bel' s1 s2 hsb
    go_wp2_with fail
    refine (first_in (bs.drop k) A' (n - k) (cap - k) B wr (Nat.le_trans hB BE.out.size) hba HL.out (by omega) (by omega)).mono ?_
    clear hsl hba
    rintro e w1 ⟨b1, hcase⟩
    rcases hcase with ⟨hf, rfl⟩ | ⟨p, Ap, hf, rfl, hp, hsp⟩
    · rw [Fr.scan_none hf, List.append_nil] at S1
      rw [Fr.scan_none hf, Nat.add_zero] at S2
      have B1 := Lib.hid b1
      clear b1 hf
      obtain ⟨Av, cv, rfl, _, _⟩ := OW.out.form
      have HLV : Hid ((Fr.scan bs).1.length = vs.length) := Lib.hid (by rw [S1.out]; exact RO.out.1)
      go_wp2_with fail
      go_ret2
      refine ⟨BE.out.trans (B1.out.mono BE.out.size), Av, cv, vs, ?_, ?_, ?_, TI.out⟩
      · rw [HLV.out, S2.out]; rfl
      · rw [HLV.out]; exact OW.out.belows B1.out
      · rw [S1.out]; exact RO.out
    · have hl := Fr.first_len hf
      rw [List.length_drop, HN.out] at hl
      obtain ⟨s1, s2⟩ := Fr.scan_step S1.out S2.out hf
      have S1' := Lib.hid s1
      have S2' := Lib.hid s2
      have P' : BytesAt w B Ap p := hp.keep fun q hq => (BE.out.block q (by omega)).symm
      have RO' := Lib.hid (RO.out.add (v := .slice Ap p.length p.length) (l := p) ⟨Ap, p.length, rfl, Nat.le_refl _, by omega, (fun e => by
        subst e
        cases p with
        | nil => rfl
        | cons x r => (obtain ⟨b, off, h1, _⟩ := hp (by simp); cases h1)), P'⟩)
      have TI' : Hid (TightIn A (vs ++ [.slice Ap p.length p.length])) := Lib.hid (fun v hv => by
        rcases List.mem_append.1 hv with h | h
        · exact TI.out v h
        · rw [List.mem_singleton] at h; exact ⟨Ap, p.length, h, HSB.out.trans hsp⟩)
      have B1 := Lib.hid b1
      obtain ⟨q, hq⟩ : ∃ q, q = p.length := ⟨_, rfl⟩
      rw [← hq] at S1' S2' RO' TI' hl ⊢
      have H8 : Hid (8 * (ls ++ [p]).length ≤ k + (8 + q)) := Lib.hid (by rw [List.length_append, List.length_singleton]; omega)
      have HV : Hid (vs.length = ls.length) := Lib.hid RO.out.1.symm
      obtain ⟨hl1, hl2, hl3⟩ := hl
      have hk2 : k + 8 + q ≤ n := by omega
      have HK : Hid (k + (8 + q) ≤ bs.length) := Lib.hid (by rw [HN.out]; omega)
      have OW1 := Lib.hid (OW.out.belows B1.out)
      have BE1 := Lib.hid (BE.out.trans (B1.out.mono BE.out.size))
      clear s1 s2 b1 hf hp P' hq hl1 hl2 hl3 hsp
      have OW2 : Hid (OwnV (w1.alloc (.cells #[.slice Ap q q] 60)) w.heap.size u4 vs) := Lib.hid (OW1.out.belows ((Below.refl _ _).alloc (Nat.le_refl _) _))
      go_wp2_with (with_reducible refine wp_appV rfl (.tmp 19) (.tmp 21) rfl w.heap.size u4 vs rfl OW2.out w1.heap.size (.slice Ap q q) ⟨_, _, _, rfl⟩ rfl (heap_alloc_new w1 _) (by have := HV.out; omega) (by rw [World.size_alloc]; have := BE1.out.size; omega) ?_)
      rintro v2 w2 own2 grow2
      have OW3 := Lib.hid own2
      have BE3 : Hid (Below w.heap.size w w2) := Lib.hid ((BE1.out.alloc BE1.out.size _).grown grow2 (by rw [World.size_alloc]; have := BE1.out.size; omega) fun g hg => (OW2.out.lt g hg).1)
      clear own2 grow2
      go_wp2_with fail
      go_roundw
      case rel => exact ⟨k + (8 + q), ls ++ [p], _, HK.out, H8.out, by go_num, OW3.out, RO'.out, TI'.out, BE3.out, S1'.out, S2'.out⟩
      case measure => simp [intOf]; omega
end Go.Proofs.YtjcikhacekmcfaaGreatDoor.Fm
