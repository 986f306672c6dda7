import Derived.Test.YtebacdegjmcnlaaGreatWb
import Derived.Deep.RegionWith
import Derived.Test.YtebacdegjmcnlaaGreatWa
namespace Go.Proofs.YtebacdegjmcnlaaGreat
open Go.RowKit Pl
set_option linter.unusedVariables false
theorem mk5 (c : Nat) (h : c ≤ 281474976710656) (w : World) : (Instr.makeSlice 58 (.int .i64 0) (.int .i64 (c : Int))).run Tryz.prog w = .ok (.slice (some ⟨w.heap.size, 0, none⟩) 0 c) (w.alloc (.cells (madeCells #[.int .u8 0] c) 5)) := by
  obtain ⟨i5, hi5, hz0, hz1, hz2⟩ := info_parts info5
  have := run_make (P := Tryz.prog) w 58 5 i5 _ Tryz.underlying58 hi5 hz0 .i64 .i64 0 (c : Int) (by omega) (by omega) (by rw [hz2]; omega) (by omega)
  rw [hz1] at this
  simpa [Value.cells] using this
/-- Encode: the error, and, if there is none, the bytes in memory of its own -/
def EncPost (t : It) (w : World) (e : Ending) (w' : World) : Prop :=
  ∃ v, e = .returned (.tuple #[v, .int .i64 (errOf t)]) ∧ Below w.heap.size w w' ∧ OwnB w' w.heap.size v (if errOf t = 0 then t.enc else [])
theorem errOf_zero {t : It} (h : errOf t = 0) : fits t 0 1 = true ∧ t.good = true := by
  unfold errOf at h
  by_cases h1 : fits t 0 1 = true
  · rw [if_pos h1] at h
    by_cases h2 : t.good = true
    · exact ⟨h1, h2⟩
    · rw [if_neg h2] at h; omega
  · rw [if_neg h1] at h; omega
theorem ownB_made (w : World) (base L : Nat) (hb : base ≤ w.heap.size) (hL : L ≤ 1099511627775) : OwnB (w.alloc (.cells (madeCells #[.int .u8 0] L) 5)) base (.slice (some ⟨w.heap.size, 0, none⟩) 0 L) [] :=
  World.ownsRow_made w _ L hb (by simp only [maxLen]; omega) (by simp [size_madeCells])
set_option maxRecDepth 20000 in
theorem encode_any (t : It) (v : Value) (w : World) (hv : IsIt w (· < w.heap.size) t v) (hle : errOf t = 0 → t.enc.length ≤ 1099511627775) : Calls Tryz.prog 30 #[v] w (EncPost t w) := by
  have hv0 := hv
  obtain ⟨k, n, s, l⟩ := t
  rw [IsIt] at hv0
  obtain ⟨a, c, rfl, _, _, _, _, _⟩ := hv0
  generalize htt : It.mk k n s l = t at *
  have HTT := Lib.hid htt
  have HV := Lib.hid hv
  have HLE := Lib.hid hle
  clear htt hv hle
  go_enter Tryz.func30, Tryz.ntmps30
  go_wp2_with fail
  refine (measure_any t _ _ (IsIt.mono (fun q hq => by simp; omega) t (IsIt.keep (fun q hq => Below.heap_alloc _ _ q hq) t HV.out))).mono ?_
  rintro e w1 ⟨rfl, hb1⟩
  have hx1 : w1.heap[w.heap.size]? = some (.cells #[.int .i64 k, .int .i64 n, .string s, .slice a l.length c] 50 (0, 0)) := (hb1.block _ (by simp)).trans (heap_alloc_new _ _)
  have hb2 : Below w.heap.size w w1 := ((Below.refl _ _).alloc (Nat.le_refl _) _).trans (hb1.mono (by simp))
  have hsz : w.heap.size + 1 ≤ w1.heap.size := by have := hb1.size; simpa using this
  have hlt : w.heap.size < w1.heap.size := by omega
  have HB := Lib.hid hb2
  clear hb1 hb2
  by_cases he : errOf t = 0
  · obtain ⟨e1, e2⟩ := errOf_zero he
    have hl := HLE.out he
    rw [show szOf t = ((t.enc.length : Nat) : Int) from by rw [szOf, if_pos ⟨e1, e2⟩], he]
    have HE := Lib.hid he
    have hlo : t.long = false := by simp only [fits, Bool.and_eq_true, Bool.not_eq_true'] at e1; exact e1.2
    have HL := Lib.hid hlo
    have HG := Lib.hid e2
    clear he e1 e2 hlo
    have hc0 : w1.cell? ⟨w.heap.size, 0, none⟩ = some (.int .i64 k) := cell_of_row w1 _ 0 _ _ _ hx1
    have hc1 : w1.cell? ⟨w.heap.size, 1, none⟩ = some (.int .i64 n) := cell_of_row w1 _ 1 _ _ _ hx1
    have hc2 : w1.cell? ⟨w.heap.size, 2, none⟩ = some (.string s) := cell_of_row w1 _ 2 _ _ _ hx1
    have hc3 : w1.cell? ⟨w.heap.size, 3, none⟩ = some (.slice a l.length c) := cell_of_row w1 _ 3 _ _ _ hx1
    clear hx1
    generalize hL : t.enc.length = L at *
    have HLL := Lib.hid hL
    clear hL
    have hmk := fun W => mk5 L (by omega) W
    go_wp2_with fail
    go_region_with (go_at_call 48; (refine (appItem_all t.cnt t w.heap.size _ _ [] _ (Nat.le_refl _) HG.out HL.out (IsIt.below HV.out (by exact ((HB.out.alloc (Nat.le_of_lt hlt) _).drew))) (by exact ownB_made w1 w.heap.size L (Nat.le_of_lt hlt) hl) (by simp; omega) (by simp only [List.length_nil]; rw [HLL.out]; omega)).mono ?_; rintro e w3 ⟨v3, rfl, hown3, hb3⟩))
    all_goals
      go_wp2_with fail
      go_ret2
      refine ⟨v3, by rw [HE.out]; rfl, (HB.out.alloc (Nat.le_of_lt hlt) _).drew.trans hb3, ?_⟩
      rw [if_pos HE.out]
      exact hown3
  · have hne : (errOf t != 0) = true := by simpa using he
    have HE := Lib.hid he
    clear he hx1
    generalize hq : errOf t = q at *
    have HQ := Lib.hid hq
    clear hq
    go_wp2_with fail
    go_ret2
    refine ⟨.slice none 0 0, by rw [HQ.out]; rfl, HB.out, ?_⟩
    rw [if_neg (by rw [HQ.out]; exact HE.out)]
    exact World.ownsRow_nil _ _ _ _
end Go.Proofs.YtebacdegjmcnlaaGreat
namespace Go.Proofs.YtebacdegjmcnlaaGreat
open Go.RowKit Pl
set_option linter.unusedVariables false
/-- a slice of bytes that reads as bs, in a block below B -/
def BytesAt (w : World) (B : Nat) (A : Option Addr) (bs : List UInt8) : Prop :=
  bs ≠ [] → ∃ b off, A = some ⟨b, off, none⟩ ∧ b < B ∧ ∀ j u, bs[j]? = some u → w.cell? ⟨b, off + j, none⟩ = some (.int .u8 (u.toNat : Int))
theorem BytesAt.keep {w w' : World} {B : Nat} {A : Option Addr} {bs : List UInt8} (h : BytesAt w B A bs) (hk : ∀ q, q < B → w'.heap[q]? = w.heap[q]?) : BytesAt w' B A bs := fun hne => by
  obtain ⟨b, off, h1, h2, h3⟩ := h hne
  exact ⟨b, off, h1, h2, fun j u hu => (World.cell?_of_block (w := w) (hk b h2)).trans (h3 j u hu)⟩
theorem BytesAt.take {w : World} {B : Nat} {A : Option Addr} {bs : List UInt8} (h : BytesAt w B A bs) (n : Nat) : BytesAt w B A (bs.take n) := fun hne => by
  obtain ⟨b, off, h1, h2, h3⟩ := h (fun e => hne (by rw [e]; simp))
  refine ⟨b, off, h1, h2, fun j u hu => h3 j u ?_⟩
  rw [List.getElem?_take] at hu
  split at hu
  · exact hu
  · cases hu
theorem BytesAt.drop {w : World} {B : Nat} {b off : Nat} {bs : List UInt8} (h : BytesAt w B (some ⟨b, off, none⟩) bs) (n : Nat) : BytesAt w B (some ⟨b, off + n, none⟩) (bs.drop n) := fun hne => by
  obtain ⟨b', off', h1, h2, h3⟩ := h (fun e => hne (by rw [e]; simp))
  injection h1 with h1
  injection h1 with h1 h4 _
  subst h1 h4
  refine ⟨b, off + n, rfl, h2, fun j u hu => ?_⟩
  rw [List.getElem?_drop] at hu
  have := h3 (n + j) u hu
  rwa [← Nat.add_assoc] at this
theorem BytesAt.drop' {w : World} {B : Nat} {A : Option Addr} {bs : List UInt8} (h : BytesAt w B A bs) (n : Nat) : BytesAt w B (A.map (·.add n)) (bs.drop n) := fun hne => by
  obtain ⟨b, off, rfl, h2, h3⟩ := h (fun e => hne (by rw [e]; simp))
  refine ⟨b, off + n, ?_, h2, fun j u hu => ?_⟩
  · simp only [Option.map_some, Addr.add]
    split
    · subst n; rfl
    · rfl
  · rw [List.getElem?_drop] at hu
    have := h3 (n + j) u hu
    rwa [← Nat.add_assoc] at this
theorem BytesAt.nil (w : World) (B : Nat) (A : Option Addr) : BytesAt w B A [] := fun h => absurd rfl h
/-- the reader in block g: bs is left, left more items may come -/
def RSt (w : World) (g : Nat) (bs : List UInt8) (left : Nat) : Prop :=
  ∃ A cap, w.heap[g]? = some (.cells #[.slice A bs.length cap, .int .i64 left] 118 (0, 0)) ∧ bs.length ≤ cap ∧ cap ≤ 9223372036854775807 ∧ BytesAt w g A bs
def RefPanic : List PanicEntry := [{ v := .iface 131 (.agg #[.int .i64 4]), recovered := false }]
def Refused (g : Nat) (w : World) (e : Ending) (w' : World) : Prop := e = .panicked RefPanic ∧ w.grownBy w' (some g)
set_option maxRecDepth 20000 in
theorem refuse_any (a : Value) (w : World) : Calls Tryz.prog 103 #[a] w fun e w' => e = .panicked RefPanic ∧ w = w' := by
  go_enter Tryz.func103, Tryz.ntmps103
  go_wp2_with fail
  exact ⟨rfl, rfl, rfl⟩
set_option maxRecDepth 20000 in
theorem reserve_no (g : Nat) (bs : List UInt8) (left : Nat) (n : Int) (w : World) (h : RSt w g bs left) (hl : left ≤ 4096) (hn : (left : Int) < n) (hn2 : n ≤ 18446744073709551615) :
    Calls Tryz.prog 85 #[.pointer (some ⟨g, 0, none⟩), .int .u64 n] w (Refused g w) := by
  obtain ⟨A, cap, hh, h1, h2, h3⟩ := h
  have c1 : w.cell? ⟨g, 1, none⟩ = some (.int .i64 left) := cell_of_row w g 1 _ _ _ hh
  clear hh h3
  go_enter Tryz.func85, Tryz.ntmps85
  go_wp2_with (go_at_call 103; refine (refuse_any _ _).mono ?_; rintro e w' ⟨rfl, rfl⟩)
  exact ⟨rfl, rfl, World.grownBy.refl _ _⟩
set_option maxRecDepth 20000 in
theorem reserve_yes (g : Nat) (bs : List UInt8) (left : Nat) (n : Nat) (w : World) (h : RSt w g bs left) (hl : left ≤ 4096) (hn : (n : Int) ≤ left) :
    Calls Tryz.prog 85 #[.pointer (some ⟨g, 0, none⟩), .int .u64 n] w fun e w' => e = .returned (.tuple #[]) ∧ RSt w' g bs (left - n) ∧ w.grownBy w' (some g) := by
  obtain ⟨A, cap, hh, h1, h2, h3⟩ := h
  have c1 : w.cell? ⟨g, 1, none⟩ = some (.int .i64 left) := cell_of_row w g 1 _ _ _ hh
  have f1 : w.frozen? ⟨g, 1, none⟩ = false := by simp [World.frozen?, hh]
  have HH := Lib.hid hh
  have H3 := Lib.hid h3
  clear hh h3
  go_enter Tryz.func85, Tryz.ntmps85
  go_wp2_with fail
  go_end0
  refine ⟨rfl, ⟨A, cap, ?_, h1, h2, H3.out.keep fun q hq => Below.heap_setCell _ _ _ _ (by simp; omega)⟩, grownBy_set _ _ _ _⟩
  have := heap_set w g 1 (.int .i64 (left - n)) _ _ HH.out
  rw [this, show ((left - n : Nat) : Int) = (left : Int) - n from by omega]
  rfl
set_option maxRecDepth 20000 in
theorem end_no (g : Nat) (bs : List UInt8) (left : Nat) (w : World) (h : RSt w g bs left) (hn : (0 : Int) < bs.length) : Calls Tryz.prog 87 #[.pointer (some ⟨g, 0, none⟩)] w (Refused g w) := by
  obtain ⟨A, cap, hh, h1, h2, h3⟩ := h
  have c0 : w.cell? ⟨g, 0, none⟩ = some (.slice A bs.length cap) := cell_of_row w g 0 _ _ _ hh
  clear hh h3
  go_enter Tryz.func87, Tryz.ntmps87
  go_wp2_with (go_at_call 103; refine (refuse_any _ _).mono ?_; rintro e w' ⟨rfl, rfl⟩)
  exact ⟨rfl, rfl, World.grownBy.refl _ _⟩
set_option maxRecDepth 20000 in
theorem end_yes (g : Nat) (left : Nat) (w : World) (h : RSt w g [] left) : Calls Tryz.prog 87 #[.pointer (some ⟨g, 0, none⟩)] w fun e w' => e = .returned (.tuple #[]) ∧ w = w' := by
  obtain ⟨A, cap, hh, h1, h2, h3⟩ := h
  have c0 : w.cell? ⟨g, 0, none⟩ = some (.slice A 0 cap) := cell_of_row w g 0 _ _ _ hh
  clear hh h3
  go_enter Tryz.func87, Tryz.ntmps87
  go_wp2_with fail
  go_end0
  exact ⟨rfl, rfl⟩
set_option maxRecDepth 20000 in
theorem take_no (g : Nat) (bs : List UInt8) (left : Nat) (n : Int) (w : World) (h : RSt w g bs left) (hn : (bs.length : Int) < n) (hn2 : n ≤ 18446744073709551615) : Calls Tryz.prog 104 #[.pointer (some ⟨g, 0, none⟩), .int .u64 n] w (Refused g w) := by
  obtain ⟨A, cap, hh, h1, h2, h3⟩ := h
  have c0 : w.cell? ⟨g, 0, none⟩ = some (.slice A bs.length cap) := cell_of_row w g 0 _ _ _ hh
  clear hh h3
  go_enter Tryz.func104, Tryz.ntmps104
  go_wp2_with (go_at_call 103; refine (refuse_any _ _).mono ?_; rintro e w' ⟨rfl, rfl⟩)
  exact ⟨rfl, rfl, World.grownBy.refl _ _⟩
/-- the first n bytes, and the reader behind them -/
def Took (g : Nat) (bs : List UInt8) (left n : Nat) (w : World) (e : Ending) (w' : World) : Prop :=
  ∃ A cap, e = .returned (.slice A n cap) ∧ BytesAt w' g A (bs.take n) ∧ RSt w' g (bs.drop n) left ∧ w.grownBy w' (some g)
set_option maxRecDepth 20000 in
theorem take_yes (g : Nat) (bs : List UInt8) (left n : Nat) (w : World) (h : RSt w g bs left) (hn : n ≤ bs.length) : Calls Tryz.prog 104 #[.pointer (some ⟨g, 0, none⟩), .int .u64 n] w (Took g bs left n w) := by
  obtain ⟨A, cap, hh, h1, h2, h3⟩ := h
  have c0 : w.cell? ⟨g, 0, none⟩ = some (.slice A bs.length cap) := cell_of_row w g 0 _ _ _ hh
  have f0 : w.frozen? ⟨g, 0, none⟩ = false := by simp [World.frozen?, hh]
  have HH := Lib.hid hh
  have H3 := Lib.hid h3
  clear hh h3
  by_cases hcap : cap = n
  · have hlen : bs.length = n := by omega
    have HL := Lib.hid hlen
    have HC := Lib.hid hcap
    clear hlen
    subst hcap
    have hz : bs.length - cap = 0 := by omega
    go_enter Tryz.func104, Tryz.ntmps104
    go_wp2_with fail
    go_ret
    have hd : bs.drop cap = [] := List.drop_of_length_le (by omega)
    refine ⟨A, cap, rfl, (H3.out.take cap).keep fun q hq => Below.heap_setCell _ _ _ _ (by simp; omega), ?_, grownBy_set _ _ _ _⟩
    rw [hd]
    refine ⟨A, 0, ?_, by simp, by omega, BytesAt.nil _ _ _⟩
    have := heap_set w g 0 (.slice A (bs.length - cap) 0) _ _ HH.out
    rw [hz] at this
    simpa using this
  · go_enter Tryz.func104, Tryz.ntmps104
    go_wp2_with fail
    go_ret
    refine ⟨A, cap, rfl, (H3.out.take n).keep fun q hq => Below.heap_setCell _ _ _ _ (by simp; omega), ?_, grownBy_set _ _ _ _⟩
    refine ⟨A.map (·.add n), cap - n, ?_, by rw [List.length_drop]; omega, by omega, (H3.out.drop' n).keep fun q hq => Below.heap_setCell _ _ _ _ (by simp; omega)⟩
    have := heap_set w g 0 (.slice (A.map (·.add n)) (bs.length - n) (cap - n)) _ _ HH.out
    rw [List.length_drop]
    exact this
end Go.Proofs.YtebacdegjmcnlaaGreat
namespace Go.Proofs.YtebacdegjmcnlaaGreat
open Go.RowKit Pl
set_option linter.unusedVariables false
def CountAny (g : Nat) (bs : List UInt8) (left : Nat) (w : World) (e : Ending) (w' : World) : Prop :=
  (∀ n r, pcnt bs = some (n, r) → e = .returned (.int .u64 n) ∧ RSt w' g r left) ∧ (pcnt bs = none → e = .panicked RefPanic) ∧ w.grownBy w' (some g)
theorem countAny_no {g : Nat} {bs : List UInt8} {left : Nat} {w w' : World} (h : pcnt bs = none) (hg : w.grownBy w' (some g)) : CountAny g bs left w (.panicked RefPanic) w' :=
  ⟨fun n r h' => (by rw [h] at h'; cases h'), fun _ => rfl, hg⟩
theorem countAny_yes {g : Nat} {bs r : List UInt8} {left n : Nat} {w w' : World} (h : pcnt bs = some (n, r)) (hr : RSt w' g r left) (hg : w.grownBy w' (some g)) : CountAny g bs left w (.returned (.int .u64 n)) w' :=
  ⟨fun n' r' h' => (by rw [h] at h'; simp only [Option.some.injEq, Prod.mk.injEq] at h'; obtain ⟨rfl, rfl⟩ := h'; exact ⟨rfl, hr⟩), fun h' => (by rw [h] at h'; cases h'), hg⟩
set_option maxRecDepth 20000 in
theorem count_nil (g left : Nat) (w : World) (h : RSt w g [] left) : Calls Tryz.prog 106 #[.pointer (some ⟨g, 0, none⟩)] w (CountAny g [] left w) := by
  go_enter Tryz.func106, Tryz.ntmps106
  go_wp2_with fail
  refine (take_no g [] left 1 w h (by simp) (by omega)).mono ?_
  rintro e w1 ⟨rfl, hg⟩
  exact ⟨rfl, countAny_no rfl hg⟩
set_option maxRecDepth 20000 in
theorem count_long (g left : Nat) (d : UInt8) (t : List UInt8) (w : World) (h : RSt w g (d :: t) left) (hd : (8 : Int) < d.toNat) : Calls Tryz.prog 106 #[.pointer (some ⟨g, 0, none⟩)] w (CountAny g (d :: t) left w) := by
  go_enter Tryz.func106, Tryz.ntmps106
  go_wp2_with fail
  refine (take_yes g (d :: t) left 1 w h (by simp)).mono ?_
  rintro e w1 ⟨A, cap, rfl, hb, hr, hg⟩
  obtain ⟨b, off, rfl, hlt, hc⟩ := hb (by simp)
  have hc0 : w1.cell? ⟨b, off, none⟩ = some (.int .u8 (d.toNat : Int)) := hc 0 d rfl
  have HG := Lib.hid hg
  clear hb hr hc hg
  go_wp2_with (go_at_call 103; refine (refuse_any _ _).mono ?_; rintro e w' ⟨rfl, rfl⟩)
  exact ⟨rfl, countAny_no (by rw [pcnt, if_pos (by omega)]) HG.out⟩
set_option maxRecDepth 20000 in
theorem count_short (g left : Nat) (d : UInt8) (t : List UInt8) (w : World) (h : RSt w g (d :: t) left) (hd : (d.toNat : Int) ≤ 8) (ht : (t.length : Int) < d.toNat) : Calls Tryz.prog 106 #[.pointer (some ⟨g, 0, none⟩)] w (CountAny g (d :: t) left w) := by
  go_enter Tryz.func106, Tryz.ntmps106
  go_wp2_with fail
  refine (take_yes g (d :: t) left 1 w h (by simp)).mono ?_
  rintro e w1 ⟨A, cap, rfl, hb, hr, hg⟩
  obtain ⟨b, off, rfl, hlt, hc⟩ := hb (by simp)
  have hc0 : w1.cell? ⟨b, off, none⟩ = some (.int .u8 (d.toNat : Int)) := hc 0 d rfl
  have HG := Lib.hid hg
  have HR := Lib.hid hr
  clear hb hr hc hg
  go_wp2_with fail
  refine (take_no g t left d.toNat w1 HR.out ht (by omega)).mono ?_
  rintro e w2 ⟨rfl, hg2⟩
  exact ⟨rfl, countAny_no (by rw [pcnt, if_neg (by omega), if_pos (by omega)]) (grownBy_trans HG.out hg2)⟩
def CntRel (ds : List UInt8) (n i : Value) : Prop := ∃ j : Nat, j ≤ ds.length ∧ i = .int .i64 j ∧ n = .int .u64 (val (ds.take j)) ∧ (0 < j → ds[0]? ≠ some 0)
theorem or_shift (n : Nat) (b : UInt8) (h : n < 72057594037927936) : bits BinOp.or IntKind.u64 (IntKind.u64.wrap ((n : Int) * 256)) (b.toNat : Int) = ((n * 256 + b.toNat : Nat) : Int) := by
  have hb : b.toNat < 256 := b.toNat_lt
  have e : IntKind.u64.wrap ((n : Int) * 256) = ((n * 256 : Nat) : Int) := by rw [IntKind.wrap_u64]; omega
  rw [e, u64_or_nat _ _ (by omega) (by omega), nat_join 8 _ _ (by omega) (by omega)]
set_option maxRecDepth 20000 in
theorem count_loop (g left : Nat) (d : UInt8) (t : List UInt8) (w : World) (h : RSt w g (d :: t) left) (hd : (d.toNat : Int) ≤ 8) (ht : (d.toNat : Int) ≤ t.length) : Calls Tryz.prog 106 #[.pointer (some ⟨g, 0, none⟩)] w (CountAny g (d :: t) left w) := by
  go_enter Tryz.func106, Tryz.ntmps106
  go_wp2_with fail
  refine (take_yes g (d :: t) left 1 w h (by simp)).mono ?_
  rintro e w1 ⟨A, cap, rfl, hb, hr, hg⟩
  obtain ⟨b, off, rfl, hlt, hc⟩ := hb (by simp)
  have hc0 : w1.cell? ⟨b, off, none⟩ = some (.int .u8 (d.toNat : Int)) := hc 0 d rfl
  have HG := Lib.hid hg
  have HR := Lib.hid hr
  clear hb hr hc hg
  go_wp2_with fail
  refine (take_yes g t left d.toNat w1 HR.out (by omega)).mono ?_
  rintro e w2 ⟨A2, cap2, rfl, hb2, hr2, hg2⟩
  have hlen : (t.take d.toNat).length = d.toNat := by rw [List.length_take]; omega
  have hpc : pcnt (d :: t) = if (t.take d.toNat)[0]? = some 0 then none else some (val (t.take d.toNat), t.drop d.toNat) := by rw [pcnt, if_neg (by omega), if_neg (by omega)]
  have hgg := grownBy_trans HG.out hg2
  generalize hds : t.take d.toNat = ds at *
  generalize hrs : t.drop d.toNat = rs at *
  have HL := Lib.hid hlen
  have HP := Lib.hid hpc
  have HB := Lib.hid hb2
  have HR2 := Lib.hid hr2
  have HGG := Lib.hid hgg
  generalize hdn : d.toNat = dn at *
  clear hlen hpc hb2 hr2 hg2 hc0 hds hrs hgg HG hdn
  go_wp2_with fail
  go_loop [4, 20] (fun n i => CntRel ds n i) (fun _ i => dn - (intOf i).toNat)
  case atStart => exact ⟨0, by omega, rfl, rfl, fun h => by omega⟩
  case round =>
    obtain ⟨j, hj, rfl, rfl, hz⟩ := hrel
    have hHL := HL.out
    by_cases hlt2 : j < dn
    · obtain ⟨b2, off2, rfl, hlt3, hc2⟩ := HB.out (fun e => by rw [e] at hHL; simp at hHL; omega)
      have hx : ds[j]? = some (ds[j]'(by omega)) := List.getElem?_eq_getElem (by omega)
      have hcj := hc2 j _ hx
      have hts := take_succ' ds j _ hx
      have hvl := val_lt (ds.take j)
      have hvl2 : val (ds.take j) < 72057594037927936 := by
        rw [List.length_take] at hvl
        have hj8 : min j ds.length ≤ 7 := by omega
        exact Nat.lt_of_lt_of_le hvl (Nat.le_trans (Nat.pow_le_pow_right (by omega) hj8) (by decide))
      generalize ds[j]'(by omega) = x at hx hcj hts
      have hor := or_shift (val (ds.take j)) x hvl2
      have hxb : (x.toNat : Int) ≤ 255 := by have := x.toNat_lt; omega
      have HTS := Lib.hid hts
      have HX := Lib.hid hx
      have HZ := Lib.hid hz
      have HOR := Lib.hid hor
      clear hc2 hHL hvl hvl2 hx hts hz h hor
      by_cases hj0 : j = 0
      · subst hj0
        rw [Nat.add_zero] at hcj
        by_cases hx0 : x = 0
        · subst hx0
          have hcj' : w2.cell? ⟨b2, off2, none⟩ = some (.int .u8 0) := hcj
          clear hcj hxb
          go_wp2_with (go_at_call 103; refine (refuse_any _ _).mono ?_; rintro e w' ⟨rfl, rfl⟩)
          exact ⟨rfl, countAny_no (by rw [HP.out, if_pos HX.out]) HGG.out⟩
        · have hxn : ((x.toNat : Int) == 0) = false := by
            simp only [beq_eq_false_iff_ne, ne_eq]
            intro e
            exact hx0 (UInt8.toNat_inj.1 (by simpa using e))
          have HX0 := Lib.hid hx0
          clear hx0
          go_wp2_with fail
          rw [show val ([] : List UInt8) = val (ds.take 0) from rfl, HOR.out]
          go_round
          case rel => exact ⟨1, by have := HL.out; omega, rfl, by rw [HTS.out, val_snoc], fun _ => by rw [HX.out]; simpa using HX0.out⟩
          case measure => simp [intOf]; omega
      · have hjn : ((j : Int) == 0) = false := by simpa using hj0
        go_wp2_with fail
        rw [HOR.out]
        go_round
        case rel => exact ⟨j + 1, by have := HL.out; omega, by go_num, by rw [HTS.out, val_snoc], fun _ => HZ.out (by omega)⟩
        case measure => simp [intOf]; omega
    · have ej : j = ds.length := by omega
      subst ej
      rw [List.take_length]
      have hz' : ds[0]? ≠ some 0 := by
        rcases Nat.eq_zero_or_pos ds.length with h0 | h0
        · rw [List.eq_nil_of_length_eq_zero h0]; simp
        · exact hz h0
      have HZ := Lib.hid hz'
      clear hz hz' hHL h
      go_wp2_with fail
      go_ret
      exact countAny_yes (by rw [HP.out, if_neg HZ.out]) HR2.out HGG.out
theorem count_any (g : Nat) (bs : List UInt8) (left : Nat) (w : World) (h : RSt w g bs left) : Calls Tryz.prog 106 #[.pointer (some ⟨g, 0, none⟩)] w (CountAny g bs left w) := by
  cases bs with
  | nil => exact count_nil g left w h
  | cons d t =>
    by_cases h1 : (8 : Int) < d.toNat
    · exact count_long g left d t w h h1
    by_cases h2 : (t.length : Int) < d.toNat
    · exact count_short g left d t w h (by omega) h2
    exact count_loop g left d t w h (by omega) (by omega)
/-- bytes that stand in memory, made a text -/
theorem conv_str {w : World} {B : Nat} {A : Option Addr} {bs : List UInt8} (h : BytesAt w B A bs) (n cap : Nat) (hn : bs.length = n) :
    (convert 58 9 (.slice A n cap)).run Tryz.prog w = .ok (.string ⟨bs.toArray⟩) w := by
  subst hn
  cases A with
  | none =>
    have : bs = [] := by
      cases bs with
      | nil => rfl
      | cons x r => obtain ⟨b, off, h1, _⟩ := h (by simp); cases h1
    subst this
    show (convert 58 9 (.slice none 0 cap)).run Tryz.prog w = _
    rw [run_convert_bytes_string w 58 9 5 none 0 cap Tryz.underlying58 Tryz.underlying5 Tryz.underlying9]
    simp [Conv.bytesToString]
    rfl
  | some ad =>
    refine run_convert_bytes_back w 58 9 5 ad cap bs Tryz.underlying58 Tryz.underlying5 Tryz.underlying9 fun j hj => ?_
    obtain ⟨b, off, h1, _, h3⟩ := h (fun e => by rw [e] at hj; simp at hj)
    injection h1 with h1
    subst h1
    have := h3 j _ (List.getElem?_eq_getElem hj)
    unfold Addr.add
    split
    · subst j; simpa using this
    · exact this
def ptext (bs : List UInt8) : Option (ByteArray × List UInt8) :=
  match pcnt bs with
  | none => none
  | some (n, r) => if 4096 < n then none else if r.length < n then none else some (⟨(r.take n).toArray⟩, r.drop n)
def TextAny (g : Nat) (bs : List UInt8) (left : Nat) (w : World) (e : Ending) (w' : World) : Prop :=
  (∀ s r, ptext bs = some (s, r) → e = .returned (.string s) ∧ RSt w' g r left) ∧ (ptext bs = none → e = .panicked RefPanic) ∧ w.grownBy w' (some g)
theorem textAny_no {g : Nat} {bs : List UInt8} {left : Nat} {w w' : World} (h : ptext bs = none) (hg : w.grownBy w' (some g)) : TextAny g bs left w (.panicked RefPanic) w' :=
  ⟨fun n r h' => (by rw [h] at h'; cases h'), fun _ => rfl, hg⟩
theorem textAny_yes {g : Nat} {bs r : List UInt8} {left : Nat} {s : ByteArray} {w w' : World} (h : ptext bs = some (s, r)) (hr : RSt w' g r left) (hg : w.grownBy w' (some g)) : TextAny g bs left w (.returned (.string s)) w' :=
  ⟨fun n' r' h' => (by rw [h] at h'; simp only [Option.some.injEq, Prod.mk.injEq] at h'; obtain ⟨rfl, rfl⟩ := h'; exact ⟨rfl, hr⟩), fun h' => (by rw [h] at h'; cases h'), hg⟩
set_option maxRecDepth 20000 in
theorem text_any (g : Nat) (bs : List UInt8) (left : Nat) (w : World) (h : RSt w g bs left) : Calls Tryz.prog 107 #[.pointer (some ⟨g, 0, none⟩)] w (TextAny g bs left w) := by
  go_enter Tryz.func107, Tryz.ntmps107
  go_wp2_with fail
  refine (count_any g bs left w h).mono ?_
  rintro e w1 ⟨hy, hn, hg⟩
  cases hp : pcnt bs with
  | none =>
    obtain rfl := hn hp
    exact ⟨rfl, textAny_no (by simp [ptext, hp]) hg⟩
  | some x =>
    obtain ⟨n, r⟩ := x
    obtain ⟨rfl, hr⟩ := hy n r hp
    have hlt := (of_pcnt hp).1
    have HP := Lib.hid hp
    have HG := Lib.hid hg
    have HR := Lib.hid hr
    clear hp hg hr hy hn h
    by_cases h1 : (4096 : Int) < n
    · go_wp2_with (go_at_call 103; refine (refuse_any _ _).mono ?_; rintro e w' ⟨rfl, rfl⟩)
      exact ⟨rfl, textAny_no (by simp [ptext, HP.out]; omega) HG.out⟩
    by_cases h2 : (r.length : Int) < n
    · go_wp2_with fail
      refine (take_no g r left n w1 HR.out h2 (by omega)).mono ?_
      rintro e w2 ⟨rfl, hg2⟩
      exact ⟨rfl, textAny_no (by simp [ptext, HP.out]; omega) (grownBy_trans HG.out hg2)⟩
    go_wp2_with fail
    refine (take_yes g r left n w1 HR.out (by omega)).mono ?_
    rintro e w2 ⟨A, cap, rfl, hb, hr2, hg2⟩
    have hcv := conv_str hb n cap (by rw [List.length_take]; omega)
    have hfin : TextAny g bs left w (.returned (.string ⟨(r.take n).toArray⟩)) w2 :=
      textAny_yes (by rw [ptext, HP.out]; simp only []; rw [if_neg (by omega), if_neg (by omega)]) hr2 (grownBy_trans HG.out hg2)
    have HF := Lib.hid hfin
    clear hfin hb hr2 hg2 h1 h2
    generalize (⟨(r.take n).toArray⟩ : ByteArray) = s at *
    go_wp2_with fail
    go_ret
    exact HF.out
end Go.Proofs.YtebacdegjmcnlaaGreat
