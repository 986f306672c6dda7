import Derived.Test.YtjcikhacekmcfaaGreatDoorOa
import Derived.Test.YtjcikhacekmcfaaGreatDoorFc
import Derived.Test.YtjcikhacekmcfaaGreatDoorMe
namespace Go.Proofs.YtjcikhacekmcfaaGreatDoor
open Go.RowKit
open PlainDisk (File Disk)
set_option linter.unusedVariables false
set_option maxRecDepth 100000

/-! ### items and records -/
def numV (n : Int) : Value := .agg #[.int .i64 1, .int .i64 n, .string ⟨#[]⟩, .slice none 0 0]
def txtV (s : ByteArray) : Value := .agg #[.int .i64 2, .int .i64 0, .string s, .slice none 0 0]
theorem bld161a (n : Int) (w : World) : (Instr.build 161 #[(0, .int .i64 1), (1, .int .i64 n)]).run Tryz.prog w = .ok (numV n) w := run_build w 161 _ _ (by kernel_rfl)
theorem bld161b (s : ByteArray) (w : World) : (Instr.build 161 #[(0, .int .i64 2), (2, .string s)]).run Tryz.prog w = .ok (txtV s) w := run_build w 161 _ _ (by kernel_rfl)
theorem bld161c (a : Option Addr) (n c : Nat) (w : World) : (Instr.build 161 #[(0, .int .i64 3), (3, .slice a n c)]).run Tryz.prog w = .ok (.agg #[.int .i64 3, .int .i64 0, .string ⟨#[]⟩, .slice a n c]) w := run_build w 161 _ _ (by kernel_rfl)
theorem number_any (n : Int) (w : World) : Calls Tryz.prog 128 #[.int .i64 n] w fun e w' => e = .returned (numV n) ∧ Below w.heap.size w w' := by
  have hb := bld161a
  unfold numV at *
  go_enter Tryz.func128, Tryz.ntmps128
  go_wp2_with fail
  exact bodyPost_ret (v := .agg #[.int .i64 1, .int .i64 n, .string ⟨#[]⟩, .slice none 0 0]) (by simp [results, Tryz.results128, go_sem]) rfl ⟨rfl, below_new _ _⟩
theorem text_any (s : ByteArray) (w : World) : Calls Tryz.prog 152 #[.string s] w fun e w' => e = .returned (txtV s) ∧ Below w.heap.size w w' := by
  have hb := bld161b
  unfold txtV at *
  go_enter Tryz.func152, Tryz.ntmps152
  go_wp2_with fail
  exact bodyPost_ret (v := .agg #[.int .i64 2, .int .i64 0, .string s, .slice none 0 0]) (by simp [results, Tryz.results152, go_sem]) rfl ⟨rfl, below_new _ _⟩

/-- new bytes, in a row of their own -/
def RecP (bs : List UInt8) (w : World) (e : Ending) (w' : World) : Prop :=
  ∃ g, e = .returned (.slice (some ⟨g, 0, none⟩) bs.length bs.length) ∧ w.heap.size ≤ g ∧ Fm.RowIs w' g bs ∧ Below w.heap.size w w'
theorem rec_any (l : List Wr.Pl.It) (a : Option Addr) (c : Nat) (w : World) (hv : Wr.IsIt w (· < w.heap.size) (PWal.row l) (.agg #[.int .i64 3, .int .i64 0, .string ⟨#[]⟩, .slice a l.length c]))
    (he : Wr.errOf (PWal.row l) = 0) (hlen : (PWal.row l).enc.length ≤ 4096) : Calls Tryz.prog 127 #[.slice a l.length c] w (RecP (PWal.rcdOf l) w) := by
  have hb := bld161c
  have HE := Lib.hid (Wr.encode_any _ _ w hv (fun _ => by omega))
  have HE0 := Lib.hid he
  have HL := Lib.hid hlen
  clear hv he hlen
  obtain ⟨n, hn⟩ : ∃ n, n = l.length := ⟨_, rfl⟩
  rw [← hn] at HE ⊢
  clear hn
  go_enter Tryz.func127, Tryz.ntmps127
  go_wp2_with fail
  refine HE.out.mono ?_
  rintro e w1 ⟨v, rfl, b1, own⟩
  rw [if_pos HE0.out] at own
  rw [HE0.out]
  obtain ⟨A, cp, rfl, hba, hc1, hc2⟩ := Fm.OwnB.form (w := w1) (base := w.heap.size) (v := v) (l := (PWal.row l).enc) own
  have HP := Lib.hid (Fm.put_any [] (PWal.row l).enc none A 0 0 _ cp w1 (Fm.BytesAt.nil _ _ _) rfl (by omega) (by omega) (by omega) hba rfl HL.out hc1 hc2)
  have HB := Lib.hid b1
  obtain ⟨m, hm⟩ : ∃ m, m = (PWal.row l).enc.length := ⟨_, rfl⟩
  rw [← hm] at HP ⊢
  clear own hba hc1 hc2 b1 hm
  go_wp2_with fail
  refine HP.out.mono ?_
  rintro e w2 ⟨rfl, row, b2⟩
  rw [List.nil_append] at row ⊢
  have HR := Lib.hid row
  have HB2 := Lib.hid (HB.out.trans (b2.mono HB.out.size))
  obtain ⟨q, hq⟩ : ∃ q, q = (Fm.Fr.rcd (PWal.row l).enc).length := ⟨_, rfl⟩
  have HQ := Lib.hid hq
  rw [← hq]
  clear row b2 hq
  go_wp2_with fail
  go_ret
  exact ⟨w1.heap.size, by rw [HQ.out]; rfl, HB.out.size, HR.out, HB2.out⟩

/-! ### items that stand alone -/
open Wr.Pl (It) in
def Atom (x : It) : Prop := match x with | .mk k n s l => l = [] ∧ Wr.InR k ∧ Wr.InR n ∧ s.size ≤ maxLen
open Wr.Pl (It) in
def itc (x : It) : List Value := match x with | .mk k n s l => [.int .i64 k, .int .i64 n, .string s, .slice none 0 0]
theorem atom_num {n : Int} (h : Wr.InR n) : Atom (PWal.num n) := ⟨rfl, ⟨by decide, by decide⟩, h, by decide⟩
theorem atom_txt {s : List UInt8} (h : s.length ≤ 1000000) : Atom (PWal.txt s) := ⟨rfl, ⟨by decide, by decide⟩, ⟨by decide, by decide⟩, by show s.toArray.size ≤ _; simp [maxLen]; omega⟩
open Wr.Pl (It) in
theorem are_atoms {w : World} {S : Nat → Prop} {g : Nat} {t : TypeId} {fz : Nat × Nat} {cs : Array Value} (hg : w.heap[g]? = some (.cells cs t fz)) (hS : S g) :
    ∀ (l : List It) (i : Nat), (∀ x ∈ l, Atom x) → (∀ j v, (l.flatMap itc)[j]? = some v → cs[i * 4 + j]? = some v) → Wr.AreIts w S l (some ⟨g, 0, none⟩) i := by
  intro l
  induction l with
  | nil => intro i _ _; rw [Wr.AreIts]; trivial
  | cons x r ih =>
    intro i ha hc
    obtain ⟨k, n, s, m⟩ := x
    obtain ⟨rfl, h1, h2, h3⟩ := ha (It.mk k n s m) (by simp)
    have e : (List.flatMap itc (It.mk k n s [] :: r)) = [.int .i64 k, .int .i64 n, .string s, .slice none 0 0] ++ r.flatMap itc := by rw [List.flatMap_cons]; rfl
    rw [e] at hc
    have cell : ∀ o v, cs[o]? = some v → w.cell? ⟨g, o, none⟩ = some v := fun o v hv => by rw [Lib.cell_of_heap hg]; exact hv
    rw [Wr.AreIts]
    refine ⟨⟨g, 0, _, _, _, _, rfl, hS, cell _ _ (by rw [Nat.zero_add]; exact hc 0 _ rfl), cell _ _ (by rw [Nat.zero_add]; exact hc 1 _ rfl), cell _ _ (by rw [Nat.zero_add]; exact hc 2 _ rfl), cell _ _ (by rw [Nat.zero_add]; exact hc 3 _ rfl), ?_⟩, ih (i + 1) (fun y hy => ha y (by simp [hy])) fun j v hv => ?_⟩
    · rw [Wr.IsIt]
      exact ⟨none, 0, rfl, h1, h2, h3, by simp, by rw [Wr.AreIts]; trivial⟩
    · have := hc (4 + j) v (by rw [List.getElem?_append_right (by simp)]; simpa using hv)
      rwa [show i * 4 + (4 + j) = (i + 1) * 4 + j by omega] at this
open Wr.Pl (It) in
theorem row_atoms {w : World} {g c : Nat} {t : TypeId} {fz : Nat × Nat} {l : List It} (hg : w.heap[g]? = some (.cells (l.flatMap itc).toArray t fz)) (ha : ∀ x ∈ l, Atom x) (hl : l.length ≤ 1000) :
    Wr.IsIt w (· < w.heap.size) (PWal.row l) (.agg #[.int .i64 3, .int .i64 0, .string ⟨#[]⟩, .slice (some ⟨g, 0, none⟩) l.length c]) := by
  unfold PWal.row
  rw [Wr.IsIt]
  refine ⟨_, _, rfl, ⟨by decide, by decide⟩, ⟨by decide, by decide⟩, by decide, by simp only [maxLen]; omega, ?_⟩
  refine are_atoms hg (Array.getElem?_eq_some_iff.1 hg).1 l 0 ha fun j v hv => ?_
  rw [Nat.zero_mul, Nat.zero_add]
  simpa using hv
theorem num_len (n : Int) : (PWal.num n).enc.length ≤ 10 := by
  unfold PWal.num
  rw [Wr.Pl.It.enc, if_pos rfl, List.length_cons, Wr.Pl.cntB_length]
  have := Wr.Pl.dgs_le (Wr.Pl.foldN n)
  omega
theorem txt_len (s : List UInt8) : (PWal.txt s).enc.length ≤ 10 + s.length := by
  unfold PWal.txt
  rw [Wr.Pl.It.enc, if_neg (by decide), if_pos rfl, List.length_cons, List.length_append, Wr.Pl.cntB_length]
  have := Wr.Pl.dgs_le (⟨s.toArray⟩ : ByteArray).size
  simp
  omega
theorem row_len (l : List Wr.Pl.It) : (PWal.row l).enc.length ≤ 10 + (Wr.Pl.encs l).length := by
  unfold PWal.row
  rw [Wr.Pl.It.enc, if_neg (by decide), if_neg (by decide), List.length_cons, List.length_append, Wr.Pl.cntB_length]
  have := Wr.Pl.dgs_le l.length
  omega
theorem encs_cons (x : Wr.Pl.It) (l : List Wr.Pl.It) : (Wr.Pl.encs (x :: l)).length = x.enc.length + (Wr.Pl.encs l).length := by rw [Wr.Pl.encs, List.length_append]
theorem encs_nil : (Wr.Pl.encs []).length = 0 := by rw [Wr.Pl.encs]; rfl
theorem err_one (a : Int) : Wr.errOf (PWal.row [PWal.num a]) = 0 := rfl
theorem err_vote (a b : Int) : Wr.errOf (PWal.row [PWal.num a, PWal.num b]) = 0 := rfl
theorem err_snap (a b c : Int) : Wr.errOf (PWal.row [PWal.num a, PWal.num b, PWal.num c]) = 0 := rfl
theorem err_ent (a b : Int) {s : List UInt8} (h : s.length ≤ 4000) : Wr.errOf (PWal.row [PWal.num a, PWal.num b, PWal.txt s]) = 0 := by
  have hs : (⟨s.toArray⟩ : ByteArray).size = s.length := by show s.toArray.size = _; simp
  have hf : Wr.Pl.fits (PWal.row [PWal.num a, PWal.num b, PWal.txt s]) 0 1 = true := by
    unfold Wr.Pl.fits
    have hl : (PWal.row [PWal.num a, PWal.num b, PWal.txt s]).long = false := by
      simp [PWal.row, PWal.num, PWal.txt, Wr.Pl.It.long, Wr.Pl.longs]
      rw [hs]; omega
    rw [hl]; rfl
  unfold Wr.errOf
  rw [if_pos hf]; rfl
theorem voteRecord_any (t v : Int) (w : World) (ht : Wr.InR t) (hv : Wr.InR v) : Calls Tryz.prog 81 #[.int .i64 t, .int .i64 v] w (RecP (PWal.rcdOf [PWal.num t, PWal.num v]) w) := by
  have HR := Lib.hid (fun (w0 w1 : World) (g : Nat) (hb : Below w0.heap.size w0 w1) (hg : w1.heap[g]? = some (.cells #[.int .i64 1, .int .i64 t, .string ⟨#[]⟩, .slice none 0 0, .int .i64 1, .int .i64 v, .string ⟨#[]⟩, .slice none 0 0] 161 (0, 0))) =>
    (rec_any [PWal.num t, PWal.num v] (some ⟨g, 0, none⟩) 2 w1 (row_atoms hg (by intro x hx; simp at hx; rcases hx with rfl | rfl; exact atom_num ht; exact atom_num hv) (by simp)) (err_vote t v)
      (by have := row_len [PWal.num t, PWal.num v]; have := num_len t; have := num_len v; rw [encs_cons, encs_cons, encs_nil] at *; omega)).mono
      (R' := RecP (PWal.rcdOf [PWal.num t, PWal.num v]) w0) fun e w' ⟨g, h1, h2, h3, h4⟩ => ⟨g, h1, Nat.le_trans hb.size h2, h3, hb.trans (h4.mono hb.size)⟩)
  have HN := Lib.hid (fun n W => number_any n W)
  unfold numV at HN
  go_enter Tryz.func81, Tryz.ntmps81
  go_wp2_with fail
  refine (HN.out _ _).mono ?_
  rintro e w1 ⟨rfl, b1⟩
  have B1 := Lib.hid b1
  clear b1
  go_wp2_with fail
  refine (HN.out _ _).mono ?_
  rintro e w2 ⟨rfl, b2⟩
  have B2 := Lib.hid (B1.out.trans (b2.mono B1.out.size))
  clear b2
  go_wp2_with fail
  refine (HR.out w _ _ (B2.out.alloc B2.out.size _) (heap_alloc_new w2 _)).mono ?_
  rintro e w3 ⟨g, rfl, h2, h3, h4⟩
  have H3 := Lib.hid h3
  have H4 := Lib.hid h4
  clear h3 h4
  go_wp2_with fail
  go_ret
  exact ⟨g, rfl, h2, H3.out, H4.out⟩

/-! ### a change's record -/
def chgV (c : PWal.Chg) : Value := .agg #[.int .i64 c.index, .bool c.trunc, .int .i64 c.ent.term, .string (str c.ent.data)]
theorem box4 (w : World) (x y z u : Value) (t : TypeId) : ∀ W, Below (w.alloc (.cells #[x, y, z, u] t)).heap.size (w.alloc (.cells #[x, y, z, u] t)) W → W.cell? ⟨w.heap.size, 0, none⟩ = some x ∧ W.cell? ⟨w.heap.size, 1, none⟩ = some y ∧ W.cell? ⟨w.heap.size, 2, none⟩ = some z ∧ W.cell? ⟨w.heap.size, 3, none⟩ = some u := fun W hb =>
  ⟨(hb.cell (p := ⟨w.heap.size, 0, none⟩) (by simp)).trans (by simp [go_sem]), (hb.cell (p := ⟨w.heap.size, 1, none⟩) (by simp)).trans (by simp [go_sem]), (hb.cell (p := ⟨w.heap.size, 2, none⟩) (by simp)).trans (by simp [go_sem]), (hb.cell (p := ⟨w.heap.size, 3, none⟩) (by simp)).trans (by simp [go_sem])⟩
structure OkC (c : PWal.Chg) : Prop where
  i : Wr.InR c.index
  t : Wr.InR c.ent.term
  d : c.ent.data.length ≤ 4000
theorem cut_rec (i t : Int) (s : ByteArray) (w : World) (hi : Wr.InR i) : Calls Tryz.prog 119 #[.agg #[.int .i64 i, .bool true, .int .i64 t, .string s]] w (RecP (PWal.rcdOf [PWal.num i]) w) := by
  have HR := Lib.hid (fun (w0 w1 : World) (g : Nat) (hb : Below w0.heap.size w0 w1) (hg : w1.heap[g]? = some (.cells #[.int .i64 1, .int .i64 i, .string ⟨#[]⟩, .slice none 0 0] 161 (0, 0))) =>
    (rec_any [PWal.num i] (some ⟨g, 0, none⟩) 1 w1 (row_atoms hg (by intro x hx; simp at hx; subst hx; exact atom_num hi) (by simp)) (err_one i)
      (by have := row_len [PWal.num i]; have := num_len i; rw [encs_cons, encs_nil] at *; omega)).mono
      (R' := RecP (PWal.rcdOf [PWal.num i]) w0) fun e w' ⟨g, h1, h2, h3, h4⟩ => ⟨g, h1, Nat.le_trans hb.size h2, h3, hb.trans (h4.mono hb.size)⟩)
  have HN := Lib.hid (fun n W => number_any n W)
  unfold numV at HN
  have HB := Lib.hid (below_new w (.cells #[.int .i64 i, .bool true, .int .i64 t, .string s] 112))
  go_enter Tryz.func119, Tryz.ntmps119
  go_wp2_with fail
  refine (HN.out _ _).mono ?_
  rintro e w1 ⟨rfl, b1⟩
  have B1 := Lib.hid (HB.out.trans (b1.mono HB.out.size))
  clear b1
  go_wp2_with fail
  refine (HR.out w _ _ (B1.out.alloc B1.out.size _) (heap_alloc_new w1 _)).mono ?_
  rintro e w3 ⟨g, rfl, h2, h3, h4⟩
  have H3 := Lib.hid h3
  have H4 := Lib.hid h4
  clear h3 h4
  go_wp2_with fail
  go_ret
  exact ⟨g, rfl, h2, H3.out, H4.out⟩
set_option maxHeartbeats 2000000 in
theorem put_rec (i t : Int) (d : List UInt8) (w : World) (hi : Wr.InR i) (ht : Wr.InR t) (hd : d.length ≤ 4000) : Calls Tryz.prog 119 #[.agg #[.int .i64 i, .bool false, .int .i64 t, .string (str d)]] w (RecP (PWal.rcdOf [PWal.num i, PWal.num t, PWal.txt d]) w) := by
  have HR := Lib.hid (fun (w0 w1 : World) (g : Nat) (hb : Below w0.heap.size w0 w1) (hg : w1.heap[g]? = some (.cells #[.int .i64 1, .int .i64 i, .string ⟨#[]⟩, .slice none 0 0, .int .i64 1, .int .i64 t, .string ⟨#[]⟩, .slice none 0 0, .int .i64 2, .int .i64 0, .string (str d), .slice none 0 0] 161 (0, 0))) =>
    show Calls Tryz.prog 127 #[.slice (some ⟨g, 0, none⟩) 3 3] w1 (RecP (PWal.rcdOf [PWal.num i, PWal.num t, PWal.txt d]) w0) from (rec_any [PWal.num i, PWal.num t, PWal.txt d] (some ⟨g, 0, none⟩) 3 w1 (row_atoms hg (by intro x hx; simp at hx; rcases hx with rfl | rfl | rfl; exact atom_num hi; exact atom_num ht; exact atom_txt (by omega)) (by simp)) (err_ent i t hd)
      (by have := row_len [PWal.num i, PWal.num t, PWal.txt d]; have := num_len i; have := num_len t; have := txt_len d; rw [encs_cons, encs_cons, encs_cons, encs_nil] at *; omega)).mono
      (R' := RecP (PWal.rcdOf [PWal.num i, PWal.num t, PWal.txt d]) w0) fun e w' ⟨g, h1, h2, h3, h4⟩ => ⟨g, h1, Nat.le_trans hb.size h2, h3, hb.trans (h4.mono hb.size)⟩)
  have HN := Lib.hid (fun n W => number_any n W)
  have HT := Lib.hid (fun s W => text_any s W)
  unfold numV at HN
  unfold txtV at HT
  generalize str d = s at *
  have HAT := Lib.hid (box4 w (.int .i64 i) (.bool false) (.int .i64 t) (.string s) 112)
  have HB := Lib.hid (below_new w (.cells #[.int .i64 i, .bool false, .int .i64 t, .string s] 112))
  obtain ⟨W, hW⟩ : ∃ W, w.alloc (.cells #[.int .i64 i, .bool false, .int .i64 t, .string s] 112) = W := ⟨_, rfl⟩
  have HW := Lib.hid hW
  rw [hW] at HAT HB
  clear hW
  obtain ⟨r0, r1, r2, r3⟩ := HAT.out W (Below.refl _ _)
  go_enter Tryz.func119, Tryz.ntmps119
  go_wp2_with fail
  rw [HW.out]
  go_wp2_with fail
  have E0 : Hid (Below W.heap.size W W.drew) := Lib.hid (Below.refl _ W).drew
  have HA3 := Lib.hid (fun V (h : Below W.heap.size W V) => (⟨(HAT.out V h).1, (HAT.out V h).2.2.1, (HAT.out V h).2.2.2⟩ : V.cell? ⟨w.heap.size, 0, none⟩ = some (.int .i64 i) ∧ V.cell? ⟨w.heap.size, 2, none⟩ = some (.int .i64 t) ∧ V.cell? ⟨w.heap.size, 3, none⟩ = some (.string s)))
  obtain ⟨e1, e2, e3⟩ := HA3.out _ E0.out
  go_region_held3 (fun V => V.cell? ⟨w.heap.size, 0, none⟩ = some (.int .i64 i) ∧ V.cell? ⟨w.heap.size, 2, none⟩ = some (.int .i64 t) ∧ V.cell? ⟨w.heap.size, 3, none⟩ = some (.string s))
    (first | exact HA3.out _ BD.out | exact HA3.out _ (BC.out.alloc BC.out.size _) | exact HA3.out _ BC.out | exact HA3.out _ BB.out | exact HA3.out _ BA.out | exact HA3.out _ E0.out)
    (first
      | (go_at_call 127; (with_reducible refine (HR.out W _ _ (BC.out.alloc BC.out.size _) (heap_alloc_new wc _)).mono ?_); rintro e w5 ⟨g, rfl, h2, h3, h4⟩; have H3 := Lib.hid h3; have H4 := Lib.hid h4; have BD : Hid (Below W.heap.size W w5) := Lib.hid h4; clear h3 h4)
      | (go_at_call 152; (with_reducible refine (HT.out _ _).mono ?_); rintro e wc ⟨rfl, b2⟩; have BC : Hid (Below W.heap.size W wc) := Lib.hid (BB.out.trans (b2.mono BB.out.size)); clear b2; obtain ⟨i1, i2, i3⟩ := HA3.out wc BC.out)
      | (go_at_call 128; (with_reducible refine (HN.out _ _).mono ?_); rintro e wb ⟨rfl, b2⟩; have BB : Hid (Below W.heap.size W wb) := Lib.hid (BA.out.trans (b2.mono BA.out.size)); clear b2; obtain ⟨g1, g2, g3⟩ := HA3.out wb BB.out)
      | (go_at_call 128; (with_reducible refine (HN.out _ _).mono ?_); rintro e wa ⟨rfl, b2⟩; have BA : Hid (Below W.heap.size W wa) := Lib.hid (E0.out.trans b2); clear b2; obtain ⟨f1, f2, f3⟩ := HA3.out wa BA.out))
  all_goals
    go_wp2_with fail
    go_ret
    exact ⟨g, rfl, Nat.le_trans HB.out.size h2, H3.out, HB.out.trans (H4.out.mono HB.out.size)⟩
theorem chgRec_any (c : PWal.Chg) (w : World) (h : OkC c) : Calls Tryz.prog 119 #[chgV c] w (RecP c.enc w) := by
  obtain ⟨i, tr, ⟨t, d⟩⟩ := c
  obtain ⟨h1, h2, h3⟩ := h
  cases tr with
  | true => exact cut_rec i t (str d) w h1
  | false => exact put_rec i t d w h1 h2 h3
theorem RecP.src {bs : List UInt8} {w w' : World} {g b : Nat} (hb : b < w.heap.size) (hg : w.heap.size ≤ g) (hr : Fm.RowIs w' g bs) (hl : bs.length ≤ 1000000000) : Src w' (.slice (some ⟨g, 0, none⟩) bs.length bs.length) bs b := by
  refine ⟨some ⟨g, 0, none⟩, bs.length, rfl, Nat.le_refl _, by omega, (fun e => by cases e), fun _ => ⟨g, 0, rfl, by omega, fun j u hu => ?_⟩⟩
  have := Fm.RowIs.cell hr j u hu
  rw [Nat.zero_add]; exact this
end Go.Proofs.YtjcikhacekmcfaaGreatDoor
namespace Go.Proofs.YtjcikhacekmcfaaGreatDoor
open Go.RowKit
open PlainDisk (File Disk)
open Wr.Pl (It)
set_option linter.unusedVariables false
set_option maxRecDepth 100000

/-! ### rows of any elements that a call has built -/
theorem own_at {w : World} {base e sz n m : Nat} {A : Option Addr} {c : Nat} {xs : List Value} (h : w.ownsRow base e sz (.slice A m c) n xs) {i : Nat} {v : Value} (hi : xs[i]? = some v) : ∃ g, A = some ⟨g, 0, none⟩ ∧ w.cell? ⟨g, i, none⟩ = some v ∧ w.frozen? ⟨g, i, none⟩ = false := by
  rcases h.2 with ⟨_, q⟩ | ⟨g, cap, cur, e, hb, hh, h1, h2, h3, h4⟩
  · have h1 := h.1
    rw [q, Nat.zero_mul] at h1
    have : xs = [] := List.eq_nil_of_length_eq_zero h1
    subst this; simp at hi
  · injection e with e1
    refine ⟨g, e1, ?_, Lib.frozen_of_heap hh i⟩
    rw [Lib.cell_of_heap hh]
    show cur[i]? = some v
    rw [← Array.getElem?_toList]
    have hl := (List.getElem?_eq_some_iff.1 hi).1
    have hl2 := h.1
    rw [← h4, List.getElem?_take] at hi
    split at hi
    · exact hi
    · omega
theorem own_form {w : World} {base e sz n : Nat} {v : Value} {xs : List Value} (h : w.ownsRow base e sz v n xs) : ∃ A c, v = .slice A n c ∧ n ≤ c ∧ c ≤ 9223372036854775807 ∧ (A = none → c = 0) := by
  rcases h.2 with ⟨e, q⟩ | ⟨g, cap, cur, e, hb, hh, h1, h2, h3, h4⟩
  · exact ⟨none, 0, by rw [e, q], by omega, by omega, fun _ => rfl⟩
  · exact ⟨_, cap, e, h1, by simp only [maxLen] at h2; omega, fun q => by cases q⟩
theorem own_belows {w w' : World} {base e sz n : Nat} {v : Value} {xs : List Value} (h : w.ownsRow base e sz v n xs) (hb : Below w.heap.size w w') : w'.ownsRow base e sz v n xs := Fm.own_kp h fun k _ h2 => hb.block k h2
theorem own_frame {w w' : World} {base e sz n : Nat} {v : Value} {xs : List Value} (h : w.ownsRow base e sz v n xs) (hk : ∀ k, v.ownBlock = some k → w'.heap[k]? = w.heap[k]?) : w'.ownsRow base e sz v n xs := by
  refine ⟨h.1, ?_⟩
  rcases h.2 with q | ⟨g, cap, cur, q1, hb, hh, r⟩
  · exact .inl q
  · exact .inr ⟨g, cap, cur, q1, hb, (hk g (by rw [q1]; rfl)).trans hh, r⟩
/-- append of one element -/
theorem wp_app1 {T e sz bt : Nat} {z : Value} (hT : Tryz.prog.underlying T = some (.slice e)) (hin : (Tryz.prog.info? e).map (fun i => (i.zero, i.size, i.bytes)) = some (some z, sz, bt)) (hsz : 1 ≤ sz) (hz : z.cells.size = sz) (hbt : bt ≤ 64)
    {ops : Array Oper} {rest : List Oper} {o : Oper} {a : Act} {Q : Exit → Act → World → Prop} {w : World} (hgd : o.guard = none) (s x : Operand)
    (ho : o.op = .call { callee := .builtin .append, args := #[s, x], argTypes := #[T, T] })
    (base : Nat) (v : Value) (n : Nat) (xs : List Value) (hs : a.eval s = v) (hown : w.ownsRow base e sz v n xs) (k : Nat) (us : List Value) (hus : us.length = sz) (hu1 : ∀ u ∈ us, u.oneCell' = true) (c1 : Nat) (hx : a.eval x = .slice (some ⟨k, 0, none⟩) 1 c1)
    (hk : w.heap[k]? = some (.cells us.toArray e (0, 0)))
    (hlen : n ≤ 1000000000) (hbase : base ≤ w.heap.size)
    (h : ∀ v' w', w'.ownsRow base e sz v' (n + 1) (xs ++ us) → w.grownBy w' v.ownBlock → (v'.ownBlock = v.ownBlock ∨ v'.ownBlock = some w.heap.size) → wpList Tryz.prog ops Q rest (a.put o.dst v') w') : wpList Tryz.prog ops Q (o :: rest) a w := by
  obtain ⟨i, hi, hz0, hz1, hz2⟩ := Fm.info_parts3 hin
  refine wpList_append_own_at w hgd s x T ho base e i z sz bt hT hi hz0 hz1 hz2 hz (by omega) v n xs hs hown ⟨k, 0, none⟩ 1 c1 us hx (by rw [hus, Nat.one_mul]) ?_ hu1 (by simp only [maxLen]; omega) ?_ hbase ?_
  · intro j y hy
    unfold Addr.add
    have hc : w.cell? ⟨k, j, none⟩ = some y := by
      rw [Lib.cell_of_heap hk]
      rw [← hy]
      show (us.toArray)[j]? = _
      simp
    split
    · subst j; exact hc
    · simpa using hc
  · have : (n + 1) * bt ≤ (n + 1) * 64 := Nat.mul_le_mul_left _ hbt
    omega
  · intro v' w' h2 h3 h4 h5
    exact h v' w' h2 h3 h5

/-! ### what an item says -/
def sayK (k n : Int) (s : ByteArray) : Value := if k = 1 then .iface 2 (.int .i64 n) else if k = 2 then .iface 9 (.string s) else .nilIface
def sayV (x : It) : Value := match x with | .mk k n s l => sayK k n s
theorem say_any (k n : Int) (s : ByteArray) (a : Option Addr) (m c : Nat) (l : List It) (w : World) : Calls Tryz.prog 172 #[.agg #[.int .i64 k, .int .i64 n, .string s, .slice a m c]] w fun e w' => e = .returned (sayV (.mk k n s l)) ∧ Below w.heap.size w w' := by
  have hmi : ∀ (n : Int) (W : World), (Instr.makeInterface 2 (.int .i64 n)).run Tryz.prog W = .ok (.iface 2 (.int .i64 n)) W := fun _ _ => rfl
  have hms : ∀ (s : ByteArray) (W : World), (Instr.makeInterface 9 (.string s)).run Tryz.prog W = .ok (.iface 9 (.string s)) W := fun _ _ => rfl
  show Calls Tryz.prog 172 #[.agg #[.int .i64 k, .int .i64 n, .string s, .slice a m c]] w fun e w' => e = .returned (sayK k n s) ∧ Below w.heap.size w w'
  unfold sayK
  by_cases h1 : k = 1
  · subst h1
    rw [if_pos rfl]
    go_enter Tryz.func172, Tryz.ntmps172
    go_wp2_with fail
    go_ret
    exact ⟨rfl, below_new _ _⟩
  · rw [if_neg h1]
    by_cases h2 : k = 2
    · subst h2
      rw [if_pos rfl]
      clear h1
      go_enter Tryz.func172, Tryz.ntmps172
      go_wp2_with fail
      go_ret
      exact ⟨rfl, below_new _ _⟩
    · rw [if_neg h2]
      have e1 : (k == 1) = false := by simpa using h1
      have e2 : (k == 2) = false := by simpa using h2
      go_enter Tryz.func172, Tryz.ntmps172
      go_wp2_with fail
      go_ret
      exact ⟨rfl, below_new _ _⟩
theorem info20 : (Tryz.prog.info? 20).map (fun i => (i.zero, i.size, i.bytes)) = some (some .nilIface, 1, 16) := by kernel_rfl
def OwnI (w : World) (base : Nat) (v : Value) (l : List It) : Prop := w.ownsRow base 20 1 v l.length (l.map sayV)
theorem sayV_form (x : It) : (∃ t v, sayV x = .iface t v) ∨ sayV x = .nilIface := by
  obtain ⟨k, n, s, l⟩ := x
  unfold sayV sayK
  dsimp only
  split
  · exact .inl ⟨_, _, rfl⟩
  · split
    · exact .inl ⟨_, _, rfl⟩
    · exact .inr rfl
theorem sayV_one (x : It) : (sayV x).oneCell' = true := by
  rcases sayV_form x with ⟨t, v, e⟩ | e <;> rw [e] <;> rfl
def PartsP (bs : List UInt8) (w : World) (e : Ending) (w' : World) : Prop :=
  ∃ A c, e = .returned (.slice A (PWal.parts bs).length c) ∧ OwnI w' w.heap.size (.slice A (PWal.parts bs).length c) (PWal.parts bs) ∧ Below w.heap.size w w'
def PRel (l : List It) (B : Nat) (w : World) (lV iV : Value) (wr : World) : Prop :=
  ∃ i : Nat, i ≤ l.length ∧ iV = .int .i64 i ∧ OwnI wr B lV (l.take i) ∧ Below w.heap.size w wr
theorem parts_none {bs : List UInt8} (h : Wr.Pl.dec bs = none) : PWal.parts bs = [] := by unfold PWal.parts; rw [h]
theorem parts_some {bs : List UInt8} {k n : Int} {s : ByteArray} {l : List It} (h : Wr.Pl.dec bs = some (.mk k n s l)) : PWal.parts bs = l ∧ l.length ≤ 4096 := by
  obtain ⟨h1, _, h2, _⟩ := (Wr.Pl.dec_iff bs _).1 h
  unfold PWal.parts
  rw [h]
  dsimp only
  rw [Wr.Pl.It.ok] at h1
  simp only [Bool.and_eq_true, decide_eq_true_eq] at h1
  have hf := h1.1.1.1.1
  constructor
  · by_cases hk : k = 3
    · rw [if_pos hk]
    · rw [if_neg hk]
      unfold Wr.Pl.form at hf
      have : l = [] := by
        simp [hk] at hf
        rcases hf with h | h
        · exact h.2
        · exact h.2
      exact this.symm
  · have hc : ∀ l : List It, l.length ≤ Wr.Pl.cnts l := by
      intro l
      induction l with
      | nil => simp
      | cons x r ih => rw [Wr.Pl.cnts, List.length_cons]; have := Wr.Pl.cnt_pos x; omega
    have := hc l
    rw [Wr.Pl.It.cnt] at h2
    omega
theorem partsP_of {bs : List UInt8} {l : List It} {N : Nat} {w w' : World} {e : Ending} (h : PWal.parts bs = l) (hN : N = l.length) (hx : ∃ A c, e = .returned (.slice A N c) ∧ OwnI w' w.heap.size (.slice A N c) l ∧ Below w.heap.size w w') : PartsP bs w e w' := by
  subst hN; subst h; exact hx
set_option maxHeartbeats 1000000 in
theorem parts_any (bs : List UInt8) (A : Option Addr) (m c : Nat) (w : World) (hb : Fm.BytesAt w w.heap.size A bs) (hn : bs.length = m) (hc : m ≤ c) (hcm : c ≤ 9223372036854775807) : Calls Tryz.prog 134 #[.slice A m c] w (PartsP bs w) := by
  have HD := Lib.hid (Wr.decode_any bs A m c w hb hn hc hcm)
  clear hb hn hc hcm
  go_enter Tryz.func134, Tryz.ntmps134
  go_wp2_with fail
  refine HD.out.mono ?_
  rintro e w1 ⟨b1, hy, hno⟩
  have HB := Lib.hid b1
  cases hdec : Wr.Pl.dec bs with
  | none =>
    have HP := Lib.hid (parts_none hdec)
    obtain rfl := hno hdec
    clear hy hno hdec b1
    unfold Wr.zeroItem
    go_wp2_with fail
    have B2 : Hid (Below w.heap.size w (w1.alloc (.cells #[.int .i64 0, .int .i64 0, .string ⟨#[]⟩, .slice none 0 0] 161))) := Lib.hid (HB.out.alloc HB.out.size _)
    generalize w1.alloc (.cells #[.int .i64 0, .int .i64 0, .string ⟨#[]⟩, .slice none 0 0] 161) = W at *
    go_loopw [5, 16] (fun lV iV wr => lV = .slice none 0 0 ∧ iV = .int .i64 0 ∧ wr = W) (fun _ _ _ => 0)
    case atStart => exact ⟨rfl, rfl, rfl⟩
    case round =>
      obtain ⟨rfl, rfl, rfl⟩ := hrel
      go_wp2_with fail
      go_ret
      exact partsP_of HP.out (N := 0) rfl ⟨none, 0, rfl, ⟨rfl, .inl ⟨rfl, rfl⟩⟩, B2.out⟩
  | some t =>
    obtain ⟨v, rfl, hit⟩ := hy t hdec
    obtain ⟨k, n, s, l⟩ := t
    obtain ⟨hp, hl⟩ := parts_some hdec
    have HP := Lib.hid hp
    have HV := hit
    rw [Wr.IsIt] at HV
    obtain ⟨a, cp, rfl, _, _, _, _, har⟩ := HV
    have HA := Lib.hid har
    obtain ⟨N, hN⟩ : ∃ N, N = l.length := ⟨_, rfl⟩
    have HN := Lib.hid hN
    rw [← hN] at hl
    rw [← hN]
    clear hy hno hdec hp b1 hit har hN
    go_wp2_with fail
    obtain ⟨W0, hW0⟩ : ∃ W0, w1.alloc (.cells #[.int .i64 k, .int .i64 n, .string s, .slice a N cp] 161) = W0 := ⟨_, rfl⟩
    have HW : Hid (Below w1.heap.size w1 W0) := Lib.hid (hW0 ▸ below_new w1 _)
    rw [hW0]
    clear hW0
    go_loopw [5, 16] (PRel l w1.heap.size w1) (fun _ i _ => N - (intOf i).toNat)
    case atStart => exact ⟨0, by omega, rfl, by unfold OwnI; rw [List.take_zero]; exact ⟨rfl, .inl ⟨rfl, rfl⟩⟩, HW.out⟩
    case round =>
      obtain ⟨i, hi, rfl, own, bel⟩ := hrel
      have OW := Lib.hid own
      have BE := Lib.hid bel
      rw [← HN.out] at hi
      by_cases hlt : i < N
      · obtain ⟨x, hx⟩ : ∃ x, l[i]? = some x := ⟨_, List.getElem?_eq_getElem (by rw [← HN.out]; exact hlt)⟩
        obtain ⟨b, off, u0, u1, u2, u3, ha, hS, c0, c1, c2, c3, hit⟩ := Wr.AreIts.at_ HA.out hx
        obtain ⟨xk, xn, xs, xl⟩ := x
        rw [Wr.IsIt] at hit
        obtain ⟨xa, xc, he, _⟩ := hit
        have hbb : b < w1.heap.size := hS.2
        injection he with he
        simp only [Array.mk.injEq, List.cons.injEq, and_true] at he
        obtain ⟨rfl, rfl, rfl, rfl⟩ := he
        subst ha
        rw [Nat.zero_add] at c0 c1 c2 c3
        have q0 := (BE.out.cell (p := ⟨b, off + i * 4, none⟩) hbb).trans c0
        have q1 := (BE.out.cell (p := ⟨b, off + i * 4 + 1, none⟩) hbb).trans c1
        have q2 := (BE.out.cell (p := ⟨b, off + i * 4 + 2, none⟩) hbb).trans c2
        have q3 := (BE.out.cell (p := ⟨b, off + i * 4 + 3, none⟩) hbb).trans c3
        have hbw : b < wr.heap.size := by have := BE.out.size; omega
        have HS := Lib.hid (fun W => say_any xk xn xs xa xl.length xc xl W)
        have HX := Lib.hid hx
        have h0 : (0 : Int) ≤ (i : Int) := by omega
        have hlt2 : (i : Int) < (N : Int) := by omega
        clear own bel hx hS c0 c1 c2 c3
        go_wp2_with fail
        refine (HS.out _).mono ?_
        rintro e w3 ⟨rfl, b3⟩
        have B3 := Lib.hid ((BE.out.alloc BE.out.size _).trans (b3.mono (by rw [World.size_alloc]; have := BE.out.size; omega)))
        have OW3 : Hid (OwnI w3 w1.heap.size u5 (l.take i)) := Lib.hid (by
          have h1 := OW.out
          unfold OwnI at h1 ⊢
          exact own_belows (own_belows h1 (below_new _ _)) b3)
        clear b3 q0 q1 q2 q3
        generalize hsx : sayV (.mk xk xn xs xl) = sx at *
        have hsf : (∃ t v, sx = .iface t v) ∨ sx = .nilIface := hsx ▸ sayV_form _
        have HSX := Lib.hid hsx
        clear hsx
        have HT : Hid ((l.take (i + 1)) = l.take i ++ [.mk xk xn xs xl]) := Lib.hid (by rw [List.take_add_one, HX.out]; rfl)
        have HLT : Hid ((l.take i).length = i) := Lib.hid (by rw [List.length_take, ← HN.out]; omega)
        obtain ⟨ys, hys⟩ : ∃ ys, ys = (l.take i).map sayV := ⟨_, rfl⟩
        have FIN : Hid (∀ (V : World) (v' : Value), V.ownsRow w1.heap.size 20 1 v' (i + 1) (ys ++ [sx]) → OwnI V w1.heap.size v' (l.take (i + 1))) := Lib.hid (fun V v' h => by
          unfold OwnI
          rw [HT.out, List.length_append, List.map_append, List.length_singleton, List.map_singleton, HSX.out, ← hys, HLT.out]
          exact h)
        have OW4 : Hid ((w3.alloc (.cells #[sx] 20)).ownsRow w1.heap.size 20 1 u5 i ys) := Lib.hid (by
          have h1 := OW3.out
          unfold OwnI at h1
          rw [HLT.out, ← hys] at h1
          exact own_belows h1 (below_new _ _))
        clear hys
        rcases hsf with ⟨t, v, rfl⟩ | rfl
        all_goals
          go_wp2_with (at_builtin; (refine wp_app1 (T := 184) (e := 20) (sz := 1) (bt := 16) Tryz.underlying184 info20 (by omega) rfl (by omega) rfl (.tmp 20) (.tmp 23) rfl w1.heap.size u5 _ _ rfl OW4.out w3.heap.size [_] rfl (by intro u hu; rw [List.mem_singleton] at hu; rw [hu]; rfl) 1 rfl (heap_alloc_new w3 _) (by omega) (by rw [World.size_alloc]; have := B3.out.size; omega) ?_))
          rintro v' w5 own5 grow5 _
          have OW5 := Lib.hid (FIN.out w5 v' own5)
          have B5 : Hid (Below w1.heap.size w1 w5) := Lib.hid ((B3.out.alloc B3.out.size _).grown grow5 (by rw [World.size_alloc]; have := B3.out.size; omega) fun g hg => (World.ownsRow.lt OW4.out g hg).1)
          clear own5 grow5
          go_wp2_with fail
          go_roundw
          case rel => exact ⟨i + 1, by rw [← HN.out]; omega, by go_num, OW5.out, B5.out⟩
          case measure => simp [intOf]; omega
      · have hie : i = N := by omega
        subst hie
        have HO : Hid (wr.ownsRow w.heap.size 20 1 u5 i (l.map sayV)) := Lib.hid (by
          have := OW.out
          unfold OwnI at this
          rw [List.take_of_length_le (by rw [HN.out]; exact Nat.le_refl _), ← HN.out] at this
          exact Fm.own_mono this HB.out.size)
        obtain ⟨A5, c5, rfl, _⟩ := own_form HO.out
        have HO2 : Hid (OwnI wr w.heap.size (.slice A5 i c5) l) := Lib.hid (by unfold OwnI; rw [← HN.out]; exact HO.out)
        clear own bel HO
        go_wp2_with fail
        go_ret
        exact partsP_of HP.out HN.out ⟨A5, c5, rfl, HO2.out, HB.out.trans (BE.out.mono HB.out.size)⟩
end Go.Proofs.YtjcikhacekmcfaaGreatDoor
namespace Go.Proofs.YtjcikhacekmcfaaGreatDoor
open Go.RowKit
open PlainDisk (File Disk)
open Wr.Pl (It)
open PWal (Say)
set_option linter.unusedVariables false
set_option maxRecDepth 100000

/-! ### what parts say -/
def vS : Say → Value
  | .num n => .iface 2 (.int .i64 n)
  | .txt l => .iface 9 (.string (str l))
  | .nil => .nilIface
theorem sayV_vS (x : It) : sayV x = vS (PWal.say x) := by
  obtain ⟨k, n, s, l⟩ := x
  show sayK k n s = vS (if k = 1 then .num n else if k = 2 then .txt s.data.toList else .nil)
  unfold sayK
  by_cases h1 : k = 1
  · rw [if_pos h1, if_pos h1]; rfl
  · rw [if_neg h1, if_neg h1]
    by_cases h2 : k = 2
    · rw [if_pos h2, if_pos h2]
      show Value.iface 9 (.string s) = .iface 9 (.string (str s.data.toList))
      congr 1
    · rw [if_neg h2, if_neg h2]; rfl
def asI : Say → Int × Bool
  | .num n => (n, true)
  | _ => (0, false)
def asT : Say → List UInt8 × Bool
  | .txt l => (l, true)
  | _ => ([], false)
theorem asI_num {s : Say} {n : Int} (h : asI s = (n, true)) : s = .num n := by cases s <;> simp [asI] at h <;> simp [h]
theorem asT_txt {s : Say} {l : List UInt8} (h : asT s = (l, true)) : s = .txt l := by cases s <;> simp [asT] at h <;> simp [h]
theorem asI_no {s : Say} {n m : Int} (h : asI s = (n, false)) : s ≠ .num m := by rintro rfl; simp [asI] at h
theorem asT_no {s : Say} {l m : List UInt8} (h : asT s = (l, false)) : s ≠ .txt m := by rintro rfl; simp [asT] at h
theorem ta_num (n : Int) (w : World) : (Instr.typeAssert (.iface 2 (.int .i64 n)) 20 2 true).run Tryz.prog w = .ok (.tuple #[.int .i64 n, .bool true]) w := by kernel_rfl
theorem ta_txt (s : ByteArray) (w : World) : (Instr.typeAssert (.iface 9 (.string s)) 20 2 true).run Tryz.prog w = .ok (.tuple #[.int .i64 0, .bool false]) w := by kernel_rfl
theorem ta_nil (w : World) : (Instr.typeAssert .nilIface 20 2 true).run Tryz.prog w = .ok (.tuple #[.int .i64 0, .bool false]) w := by kernel_rfl
theorem tt_num (n : Int) (w : World) : (Instr.typeAssert (.iface 2 (.int .i64 n)) 20 9 true).run Tryz.prog w = .ok (.tuple #[.string ⟨#[]⟩, .bool false]) w := by kernel_rfl
theorem tt_txt (s : ByteArray) (w : World) : (Instr.typeAssert (.iface 9 (.string s)) 20 9 true).run Tryz.prog w = .ok (.tuple #[.string s, .bool true]) w := by kernel_rfl
theorem tt_nil (w : World) : (Instr.typeAssert .nilIface 20 9 true).run Tryz.prog w = .ok (.tuple #[.string ⟨#[]⟩, .bool false]) w := by kernel_rfl
theorem ta_any (s : Say) {n : Int} {b : Bool} (h : asI s = (n, b)) (w : World) : (Instr.typeAssert (vS s) 20 2 true).run Tryz.prog w = .ok (.tuple #[.int .i64 n, .bool b]) w := by
  cases s <;> simp only [asI, Prod.mk.injEq] at h <;> obtain ⟨rfl, rfl⟩ := h
  · exact ta_num _ _
  · exact ta_txt _ _
  · exact ta_nil _
theorem tt_any (s : Say) {l : List UInt8} {b : Bool} (h : asT s = (l, b)) (w : World) : (Instr.typeAssert (vS s) 20 9 true).run Tryz.prog w = .ok (.tuple #[.string (str l), .bool b]) w := by
  cases s <;> simp only [asT, Prod.mk.injEq] at h <;> obtain ⟨rfl, rfl⟩ := h
  · exact tt_num _ _
  · exact tt_txt _ _
  · exact tt_nil _
/-- what the payload's parts say, in memory -/
def SaysP (bs : List UInt8) (w : World) (e : Ending) (w' : World) : Prop :=
  ∃ A c, e = .returned (.slice A ((PWal.parts bs).map PWal.say).length c) ∧ w'.ownsRow w.heap.size 20 1 (.slice A ((PWal.parts bs).map PWal.say).length c) ((PWal.parts bs).map PWal.say).length (((PWal.parts bs).map PWal.say).map vS) ∧ Below w.heap.size w w'
theorem says_any (bs : List UInt8) (A : Option Addr) (m c : Nat) (w : World) (hb : Fm.BytesAt w w.heap.size A bs) (hn : bs.length = m) (hc : m ≤ c) (hcm : c ≤ 9223372036854775807) : Calls Tryz.prog 134 #[.slice A m c] w (SaysP bs w) := by
  refine (parts_any bs A m c w hb hn hc hcm).mono ?_
  rintro e w' ⟨A', c', rfl, h1, h2⟩
  have hl : ((PWal.parts bs).map PWal.say).length = (PWal.parts bs).length := List.length_map ..
  refine ⟨A', c', by rw [hl], ?_, h2⟩
  rw [hl, List.map_map]
  unfold OwnI at h1
  rwa [show (PWal.parts bs).map sayV = (PWal.parts bs).map (vS ∘ PWal.say) from List.map_congr_left fun x _ => sayV_vS x] at h1

/-! ### changeOf -/
def ChgP (bs : List UInt8) (w : World) (e : Ending) (w' : World) : Prop := Below w.heap.size w w' ∧
  ((∃ c, PWal.chgOf bs = some c ∧ e = .returned (.tuple #[chgV c, .bool true])) ∨
   (PWal.chgOf bs = none ∧ ∃ (i : Int) (b : Bool) (t : Int) (s : ByteArray), e = .returned (.tuple #[.agg #[.int .i64 i, .bool b, .int .i64 t, .string s], .bool false])))
theorem bld112a (i : Int) (w : World) : (Instr.build 112 #[(0, .int .i64 i), (1, .bool true)]).run Tryz.prog w = .ok (.agg #[.int .i64 i, .bool true, .int .i64 0, .string ⟨#[]⟩]) w := run_build w 112 _ _ (by kernel_rfl)
theorem bld112z (w : World) : (Instr.build 112 #[]).run Tryz.prog w = .ok (.agg #[.int .i64 0, .bool false, .int .i64 0, .string ⟨#[]⟩]) w := run_build w 112 _ _ (by kernel_rfl)
theorem bld75 (t : Int) (s : ByteArray) (w : World) : (Instr.build 75 #[(0, .int .i64 t), (1, .string s)]).run Tryz.prog w = .ok (.agg #[.int .i64 t, .string s]) w := run_build w 75 _ _ (by kernel_rfl)
theorem bld112b (i t : Int) (s : ByteArray) (w : World) : (Instr.build 112 #[(0, .int .i64 i), (2, .agg #[.int .i64 t, .string s])]).run Tryz.prog w = .ok (.agg #[.int .i64 i, .bool false, .int .i64 t, .string s]) w := run_build w 112 _ _ (by kernel_rfl)
theorem chg_one {bs : List UInt8} {s : Say} (h : (PWal.parts bs).map PWal.say = [s]) {n : Int} {b : Bool} (ha : asI s = (n, b)) :
    (b = true ∧ PWal.chgOf bs = some ⟨n, true, ⟨0, []⟩⟩) ∨ (b = false ∧ PWal.chgOf bs = none) := by
  unfold PWal.chgOf
  rw [h]
  cases s <;> simp only [asI, Prod.mk.injEq] at ha <;> obtain ⟨rfl, rfl⟩ := ha
  · exact .inl ⟨rfl, rfl⟩
  · exact .inr ⟨rfl, rfl⟩
  · exact .inr ⟨rfl, rfl⟩
theorem chg_three {bs : List UInt8} {s0 s1 s2 : Say} (h : (PWal.parts bs).map PWal.say = [s0, s1, s2]) {n0 n1 : Int} {d : List UInt8} {b0 b1 b2 : Bool} (h0 : asI s0 = (n0, b0)) (h1 : asI s1 = (n1, b1)) (h2 : asT s2 = (d, b2)) :
    (b0 = true ∧ b1 = true ∧ b2 = true ∧ PWal.chgOf bs = some ⟨n0, false, ⟨n1, d⟩⟩) ∨ ((b0 = false ∨ b1 = false ∨ b2 = false) ∧ PWal.chgOf bs = none) := by
  unfold PWal.chgOf
  rw [h]
  cases s0 <;> simp only [asI, Prod.mk.injEq] at h0 <;> obtain ⟨rfl, rfl⟩ := h0
  · cases s1 <;> simp only [asI, Prod.mk.injEq] at h1 <;> obtain ⟨rfl, rfl⟩ := h1
    · cases s2 <;> simp only [asT, Prod.mk.injEq] at h2 <;> obtain ⟨rfl, rfl⟩ := h2
      · exact .inr ⟨.inr (.inr rfl), rfl⟩
      · exact .inl ⟨rfl, rfl, rfl, rfl⟩
      · exact .inr ⟨.inr (.inr rfl), rfl⟩
    · exact .inr ⟨.inr (.inl rfl), rfl⟩
    · exact .inr ⟨.inr (.inl rfl), rfl⟩
  · exact .inr ⟨.inl rfl, rfl⟩
  · exact .inr ⟨.inl rfl, rfl⟩
theorem chg_other {bs : List UInt8} (h1 : ((PWal.parts bs).map PWal.say).length ≠ 1) (h3 : ((PWal.parts bs).map PWal.say).length ≠ 3) : PWal.chgOf bs = none := by
  unfold PWal.chgOf
  split
  · rename_i q; rw [q] at h1; simp at h1
  · rename_i q; rw [q] at h3; simp at h3
  · rfl
theorem one_of {α : Type} {l : List α} (h : l.length = 1) : ∃ a, l = [a] := by
  match l, h with
  | [a], _ => exact ⟨a, rfl⟩
theorem two_of {α : Type} {l : List α} (h : l.length = 2) : ∃ a b, l = [a, b] := by
  match l, h with
  | [a, b], _ => exact ⟨a, b, rfl⟩
theorem three_of {α : Type} {l : List α} (h : l.length = 3) : ∃ a b c, l = [a, b, c] := by
  match l, h with
  | [a, b, c], _ => exact ⟨a, b, c, rfl⟩
theorem bytes_on {w W : World} {A : Option Addr} {bs : List UInt8} (h : Fm.BytesAt w w.heap.size A bs) (hb : Below w.heap.size w W) : Fm.BytesAt W W.heap.size A bs := (h.keep fun q hq => hb.block q hq).mono hb.size
set_option maxHeartbeats 1000000 in
theorem changeOf_any (bs : List UInt8) (A : Option Addr) (m c : Nat) (w : World) (hb : Fm.BytesAt w w.heap.size A bs) (hn : bs.length = m) (hc : m ≤ c) (hcm : c ≤ 9223372036854775807) : Calls Tryz.prog 138 #[.slice A m c] w (ChgP bs w) := by
  have B0 := Lib.hid (below_new w (.cells #[.int .i64 0, .bool false, .int .i64 0, .string ⟨#[]⟩] 112))
  have HD := Lib.hid (says_any bs A m c _ (bytes_on hb B0.out) hn hc hcm)
  have hz := bld112z
  have h12 := bld112a
  have h12b := bld112b
  have h75 := bld75
  have hr0 : (w.alloc (.cells #[.int .i64 0, .bool false, .int .i64 0, .string ⟨#[]⟩] 112)).heap[w.heap.size]? = some (.cells #[.int .i64 0, .bool false, .int .i64 0, .string ⟨#[]⟩] 112 (0, 0)) := heap_alloc_new w _
  have HR0 := Lib.hid hr0
  clear hb hn hc hcm hr0
  go_enter Tryz.func138, Tryz.ntmps138
  go_wp2_with fail
  generalize w.alloc (.cells #[.int .i64 0, .bool false, .int .i64 0, .string ⟨#[]⟩] 112) = W at *
  refine HD.out.mono ?_
  rintro e w1 ⟨A1, c1, rfl, own, b1⟩
  have B1 := Lib.hid (B0.out.trans (b1.mono B0.out.size))
  have hbx : w1.heap[w.heap.size]? = some (.cells #[.int .i64 0, .bool false, .int .i64 0, .string ⟨#[]⟩] 112 (0, 0)) := (b1.block _ (Array.getElem?_eq_some_iff.1 HR0.out).1).trans HR0.out
  have HBX := Lib.hid hbx
  have k0 : w1.cell? ⟨w.heap.size, 0, none⟩ = some (.int .i64 0) := by rw [Lib.cell_of_heap hbx]; rfl
  have k1 : w1.cell? ⟨w.heap.size, 1, none⟩ = some (.bool false) := by rw [Lib.cell_of_heap hbx]; rfl
  have k2 : w1.cell? ⟨w.heap.size, 2, none⟩ = some (.int .i64 0) := by rw [Lib.cell_of_heap hbx]; rfl
  have k3 : w1.cell? ⟨w.heap.size, 3, none⟩ = some (.string ⟨#[]⟩) := by rw [Lib.cell_of_heap hbx]; rfl
  have f0 := Lib.frozen_of_heap hbx 0
  have f1 := Lib.frozen_of_heap hbx 1
  have f2 := Lib.frozen_of_heap hbx 2
  have f3 := Lib.frozen_of_heap hbx 3
  have CH := Lib.hid (fun (V : World) (x y z u : Value) (h : V = (((w1.setCell ⟨w.heap.size, 0, none⟩ x).setCell ⟨w.heap.size, 1, none⟩ y).setCell ⟨w.heap.size, 2, none⟩ z).setCell ⟨w.heap.size, 3, none⟩ u) => (h ▸ (((B1.out.setCell (Nat.le_refl _) x).setCell (Nat.le_refl _) y).setCell (Nat.le_refl _) z).setCell (Nat.le_refl _) u : Below w.heap.size w V))
  clear b1 hbx
  by_cases hl1 : ((PWal.parts bs).map PWal.say).length = 1
  · obtain ⟨s, hs⟩ := one_of hl1
    obtain ⟨n, b, ha⟩ : ∃ n b, asI s = (n, b) := ⟨_, _, rfl⟩
    have HC := Lib.hid (chg_one hs ha)
    have hta := ta_any s ha
    rw [hs] at own ⊢
    obtain ⟨g, rfl, hg, _⟩ := own_at own (i := 0) rfl
    have hgl := World.block_lt_of_cell? w1 _ hg
    generalize vS s = v at *
    clear own hs ha hl1
    go_wp2_with fail
    refine bodyPost_ret (v := .tuple #[.agg #[.int .i64 n, .bool true, .int .i64 0, .string ⟨#[]⟩], .bool b]) (by simp [results, Tryz.results138, go_sem, k0, k1, k2, k3]) rfl ⟨?_, ?_⟩
    · exact CH.out _ _ _ _ _ rfl
    · rcases HC.out with ⟨rfl, e1⟩ | ⟨rfl, e1⟩
      · exact .inl ⟨_, e1, rfl⟩
      · exact .inr ⟨e1, _, _, _, _, rfl⟩
  · by_cases hl3 : ((PWal.parts bs).map PWal.say).length = 3
    · obtain ⟨s0, s1, s2, hs⟩ := three_of hl3
      obtain ⟨n0, b0, ha0⟩ : ∃ n b, asI s0 = (n, b) := ⟨_, _, rfl⟩
      obtain ⟨n1, b1, ha1⟩ : ∃ n b, asI s1 = (n, b) := ⟨_, _, rfl⟩
      obtain ⟨d, b2, ha2⟩ : ∃ n b, asT s2 = (n, b) := ⟨_, _, rfl⟩
      have HC := Lib.hid (chg_three hs ha0 ha1 ha2)
      have hta := ta_any s0 ha0
      have hta1 := ta_any s1 ha1
      have hta2 := tt_any s2 ha2
      rw [hs] at own ⊢
      obtain ⟨g, rfl, hg, _⟩ := own_at own (i := 0) rfl
      obtain ⟨g', e', hg1, _⟩ := own_at own (i := 1) rfl
      obtain rfl : g = g' := by injection e' with e'; injection e'
      obtain ⟨g', e2', hg2, _⟩ := own_at own (i := 2) rfl
      obtain rfl : g = g' := by injection e2' with e'; injection e'
      have hgl := World.block_lt_of_cell? w1 _ hg
      generalize vS s0 = v0 at *
      generalize vS s1 = v1 at *
      generalize vS s2 = v2 at *
      generalize hsd : str d = sd at *
      have HSD := Lib.hid hsd
      clear own hs ha0 ha1 ha2 hl1 hl3 hsd e' e2'
      obtain ⟨B, hBB⟩ : ∃ B, B = (b0 && b1 && b2) := ⟨_, rfl⟩
      have HBB := Lib.hid hBB
      clear hBB
      cases b0 <;> cases b1 <;> cases b2
      all_goals
        go_wp2_with fail
        have hB := HBB.out
        refine bodyPost_ret (v := .tuple #[.agg #[.int .i64 n0, .bool false, .int .i64 n1, .string sd], .bool B]) (by simp [results, Tryz.results138, go_sem, k0, k1, k2, k3, hB]) rfl ⟨?_, ?_⟩
        · exact CH.out _ _ _ _ _ rfl
        · rcases HC.out with ⟨e0, e1, e2, e3⟩ | ⟨e0, e3⟩
          · first
              | exact absurd e0 (by decide)
              | exact absurd e1 (by decide)
              | exact absurd e2 (by decide)
              | exact .inl ⟨_, e3, by rw [hB, ← HSD.out]; rfl⟩
          · first
              | exact .inr ⟨e3, _, _, _, _, by rw [hB]; rfl⟩
              | (rcases e0 with e | e | e <;> exact absurd e (by decide))
    · have e3 := chg_other hl1 hl3
      have hl1' : ¬ (((PWal.parts bs).map PWal.say).length : Int) = 1 := by omega
      have hl3' : ¬ (((PWal.parts bs).map PWal.say).length : Int) = 3 := by omega
      generalize ((PWal.parts bs).map PWal.say).length = L at *
      have E3 := Lib.hid e3
      clear own e3
      go_wp2_with fail
      refine bodyPost_ret (v := .tuple #[.agg #[.int .i64 0, .bool false, .int .i64 0, .string ⟨#[]⟩], .bool false]) (by simp [results, Tryz.results138, go_sem, k0, k1, k2, k3]) rfl ⟨?_, ?_⟩
      · first | exact CH.out _ _ _ _ _ rfl | exact B1.out
      · exact .inr ⟨E3.out, _, _, _, _, rfl⟩
end Go.Proofs.YtjcikhacekmcfaaGreatDoor
namespace Go.Proofs.YtjcikhacekmcfaaGreatDoor
open Go.RowKit
open PlainDisk (File Disk)
set_option linter.unusedVariables false
set_option maxRecDepth 100000

/-! ### a wal that points to its disk -/
structure Ws (w : World) (bw b : Nat) (D : Disk) (S : Nat → Prop) : Prop where
  dk : Dk w b D S
  ptr : w.cell? ⟨bw, 0, none⟩ = some (.pointer (some ⟨b, 0, none⟩))
  nin : ¬ S bw
section
variable {w w1 w' : World} {bw b : Nat} {D D' : Disk} {S : Nat → Prop}
theorem Ws.lt (h : Ws w bw b D S) : bw < w.heap.size := World.block_lt_of_cell? w _ h.ptr
theorem Ws.below (h : Ws w bw b D S) (hb : Below w.heap.size w w') : Ws w' bw b D S :=
  ⟨h.dk.below hb, (hb.cell (p := ⟨bw, 0, none⟩) h.lt).trans h.ptr, h.nin⟩
theorem Ws.to (h : Ws w bw b D S) (ht : DkTo w w' b D' S) : ∃ S', Ws w' bw b D' S' ∧ (∀ k, S' k → Up S w w' k) ∧ Fr S w w' := by
  obtain ⟨S', h1, h2, h3⟩ := ht
  exact ⟨S', ⟨h1, (World.cell?_of_block (w := w) (h3.block bw h.lt h.nin)).trans h.ptr, fun q => (h2 bw q).elim h.nin fun r => by have := h.lt; omega⟩, h2, h3⟩
/-- a step, then another -/
theorem Ws.next (h : Ws w bw b D S) (ht : DkTo w w1 b D' S) {D2 : Disk} (k : ∀ S1, Ws w1 bw b D' S1 → DkTo w1 w' b D2 S1) : DkTo w w' b D2 S := by
  obtain ⟨S1, h1, h2, h3⟩ := h.to ht
  exact DkTo.go (fun _ _ => trivial) h2 h3 (k S1 h1)
end

/-! ### the segments -/
def segV (l : List Nat) : List Value := l.map fun n => .int .i64 ((n : Nat) : Int)
theorem info118 : (Tryz.prog.info? 118).map (fun i => (i.zero, i.size, i.bytes)) = some (some (.int .i64 0), 1, 8) := by kernel_rfl
def OwnN (w : World) (base : Nat) (v : Value) (l : List Nat) : Prop := w.ownsRow base 118 1 v l.length (segV l)
theorem segsOf_snoc (l : List (List UInt8)) (x : List UInt8) : PWal.segsOf (l ++ [x]) = PWal.segsOf l ++ if 0 < PWal.segNo x then [PWal.segNo x] else [] := by
  unfold PWal.segsOf
  rw [List.map_append, List.filter_append]
  congr 1
  by_cases h : 0 < PWal.segNo x <;> simp [h]
theorem segsOf_len (l : List (List UInt8)) : (PWal.segsOf l).length ≤ l.length := by
  unfold PWal.segsOf
  exact Nat.le_trans (List.length_filter_le _ _) (by simp)
def SegsP (D : Disk) (w : World) (e : Ending) (w' : World) : Prop :=
  ∃ A c, e = .returned (.slice A (PWal.segs D).length c) ∧ OwnN w' w.heap.size (.slice A (PWal.segs D).length c) (PWal.segs D) ∧ Below w.heap.size w w'
def SegRel (l : List (List UInt8)) (B : Nat) (w : World) (lV iV : Value) (wr : World) : Prop :=
  ∃ i : Nat, i ≤ l.length ∧ iV = .int .i64 i ∧ OwnN wr B lV (PWal.segsOf (l.take i)) ∧ Below w.heap.size w wr
set_option maxHeartbeats 1000000 in
theorem segments_any {w : World} {bw b : Nat} {D : Disk} {S : Nat → Prop} (h : Ws w bw b D S) : Calls Tryz.prog 67 #[.pointer (some ⟨bw, 0, none⟩)] w (SegsP D w) := by
  have hc := h.ptr
  have HF := Lib.hid (files_dk h.dk)
  have HG := Lib.hid h.dk.glob
  have HM := Lib.hid h.dk.fine.inv.many
  have hlt := h.lt
  clear h
  go_enter Tryz.func67, Tryz.ntmps67
  go_wp2_with fail
  refine HF.out.mono ?_
  rintro e w1 ⟨v, rfl, own, b1⟩
  have HO := Lib.hid own
  have HB := Lib.hid b1
  obtain ⟨A, c, rfl, hfc⟩ := own_form own
  obtain ⟨l, hl⟩ : ∃ l, l = D.fs.map (·.name) := ⟨_, rfl⟩
  have hlen : l.length ≤ 64 := by rw [hl, List.length_map]; exact HM.out
  have HL := Lib.hid hl
  rw [← hl] at HO ⊢
  obtain ⟨N, hN⟩ : ∃ N, N = l.length := ⟨_, rfl⟩
  have HN := Lib.hid hN
  rw [← hN] at hlen ⊢
  clear own b1 hfc hl hN
  go_wp2_with fail
  go_loopw [3, 14] (SegRel l w1.heap.size w1) (fun _ i _ => N - (intOf i).toNat)
  case atStart => exact ⟨0, by omega, rfl, by unfold OwnN PWal.segsOf; rw [List.take_zero]; exact ⟨rfl, .inl ⟨rfl, rfl⟩⟩, Below.refl _ _⟩
  case round =>
    obtain ⟨i, hi, rfl, own, bel⟩ := hrel
    have OW := Lib.hid own
    have BE := Lib.hid bel
    rw [← HN.out] at hi
    by_cases hlt2 : i < N
    · obtain ⟨nm, hx⟩ : ∃ x, l[i]? = some x := ⟨_, List.getElem?_eq_getElem (by rw [← HN.out]; exact hlt2)⟩
      obtain ⟨g, c0, he, hcell⟩ := OwnS.at HO.out hx
      obtain ⟨rfl, rfl⟩ : A = some ⟨g, 0, none⟩ ∧ c = c0 := by injection he with q1 q2 q3; exact ⟨q1, q3⟩
      have hgl : g < w1.heap.size := World.block_lt_of_cell? w1 _ hcell
      have q0 := (bel.cell (p := ⟨g, i, none⟩) hgl).trans hcell
      have hgw : g < wr.heap.size := by have := bel.size; omega
      have HT : Hid (PWal.segsOf (l.take (i + 1)) = PWal.segsOf (l.take i) ++ if 0 < PWal.segNo nm then [PWal.segNo nm] else []) := Lib.hid (by rw [List.take_add_one, hx, Option.toList_some, segsOf_snoc])
      have HS := Lib.hid (fun V (hb : Below w1.heap.size w1 V) => segOf_any nm V ((HG.out.belows HB.out).belows hb))
      have hI0 : (0 : Int) ≤ (i : Int) := by omega
      have hI1 : (i : Int) < (N : Int) := by omega
      have hlen2 : (PWal.segsOf (l.take i)).length ≤ 64 := by have := segsOf_len (l.take i); have := List.length_take_le i l; have := HN.out; omega
      have HL2 := Lib.hid hlen2
      have hv := segNo_lt nm
      unfold SegOf at HS
      generalize PWal.segNo nm = sn at *
      clear own bel hx hcell he hlen2
      by_cases hp : 0 < sn
      · rw [if_pos hp] at HT
        rw [show decide (0 < sn) = true from by simpa using hp] at HS
        clear hp
        go_wp2_with fail
        refine (HS.out wr BE.out).mono ?_
        rintro e w3 ⟨rfl, b3⟩
        have B3 := Lib.hid (BE.out.trans (b3.mono BE.out.size))
        have OW3 := Lib.hid (own_belows OW.out b3)
        obtain ⟨ys, hys⟩ : ∃ ys, ys = segV (PWal.segsOf (l.take i)) := ⟨_, rfl⟩
        obtain ⟨n, hn⟩ : ∃ n, n = (PWal.segsOf (l.take i)).length := ⟨_, rfl⟩
        have HYN : Hid (n ≤ 64) := Lib.hid (by rw [hn]; exact HL2.out)
        rw [← hys, ← hn] at OW3
        have FIN : Hid (∀ (V : World) (v' : Value), V.ownsRow w1.heap.size 118 1 v' (n + 1) (ys ++ [.int .i64 (sn : Nat)]) → OwnN V w1.heap.size v' (PWal.segsOf (l.take (i + 1)))) := Lib.hid (fun V v' h => by
          unfold OwnN segV
          rw [HT.out, List.length_append, List.map_append, ← hn]
          rw [hys] at h
          exact h)
        have OW4 := Lib.hid (own_belows OW3.out (below_new w3 (.cells #[.int .i64 (sn : Nat)] 118)))
        clear b3 hys hn q0
        go_wp2_with (at_builtin; (refine wp_app1 (T := 116) (e := 118) (sz := 1) (bt := 8) Tryz.underlying116 info118 (by omega) rfl (by omega) rfl (.tmp 24) (.tmp 26) rfl w1.heap.size u3 _ _ rfl OW4.out w3.heap.size [_] rfl (by intro u hu; rw [List.mem_singleton] at hu; rw [hu]; rfl) 1 rfl (heap_alloc_new w3 _) (by have := HYN.out; omega) (by rw [World.size_alloc]; have := B3.out.size; omega) ?_))
        rintro v' w5 own5 grow5 _
        have OW5 := Lib.hid (FIN.out w5 v' own5)
        have B5 : Hid (Below w1.heap.size w1 w5) := Lib.hid ((B3.out.alloc B3.out.size _).grown grow5 (by rw [World.size_alloc]; have := B3.out.size; omega) fun g hg => (World.ownsRow.lt OW4.out g hg).1)
        clear own5 grow5
        go_wp2_with fail
        go_roundw
        case rel => exact ⟨i + 1, by rw [← HN.out]; omega, by go_num, OW5.out, B5.out⟩
        case measure => simp [intOf]; omega
      · rw [if_neg hp, List.append_nil] at HT
        rw [show decide (0 < sn) = false from by simpa using hp] at HS
        clear hp
        go_wp2_with fail
        refine (HS.out wr BE.out).mono ?_
        rintro e w3 ⟨rfl, b3⟩
        have B3 := Lib.hid (BE.out.trans (b3.mono BE.out.size))
        have OW3 : Hid (OwnN w3 w1.heap.size u3 (PWal.segsOf (l.take (i + 1)))) := Lib.hid (by rw [HT.out]; exact own_belows OW.out b3)
        clear b3 q0
        go_wp2_with fail
        go_roundw
        case rel => exact ⟨i + 1, by rw [← HN.out]; omega, by go_num, OW3.out, B3.out⟩
        case measure => simp [intOf]; omega
    · have hie : i = N := by omega
      subst hie
      have HO2 : Hid (OwnN wr w.heap.size u3 (PWal.segs D)) := Lib.hid (by
        have := OW.out
        rw [List.take_of_length_le (by rw [HN.out]; exact Nat.le_refl _), HL.out] at this
        exact Fm.own_mono this HB.out.size)
      obtain ⟨A5, c5, rfl, _⟩ := own_form HO2.out
      have HBB := Lib.hid (HB.out.trans (BE.out.mono HB.out.size))
      obtain ⟨M, hM⟩ : ∃ M, M = (PWal.segs D).length := ⟨_, rfl⟩
      rw [← hM] at HO2 ⊢
      have HMM := Lib.hid hM
      clear own bel hM
      go_wp2_with fail
      go_ret
      exact ⟨A5, c5, by rw [← HMM.out]; rfl, by rw [← HMM.out]; exact HO2.out, HBB.out⟩

/-! ### loops over segments -/
def Steps (f : List Nat → Disk → Disk × Int) (one : Disk → List UInt8 → Disk × Int) : Prop := (∀ D, f [] D = (D, 0)) ∧ ∀ s r D, f (s :: r) D = PWal.andThen (one D (PWal.segN s)) (f r)
def LoopRel (f : List Nat → Disk → Disk × Int) (l : List Nat) (R : Disk × Int) (bw b : Nat) (S : Nat → Prop) (w : World) (iV : Value) (wr : World) : Prop :=
  ∃ (i : Nat) (D' : Disk) (S' : Nat → Prop), i ≤ l.length ∧ iV = .int .i64 i ∧ Ws wr bw b D' S' ∧ (∀ k, S' k → Up S w wr k) ∧ Fr S w wr ∧ f (l.drop i) D' = R
theorem own_num {w : World} {base : Nat} {A : Option Addr} {n c : Nat} {l : List Nat} (h : w.ownsRow base 118 1 (.slice A n c) l.length (segV l)) {i x : Nat} (hi : l[i]? = some x) : ∃ g, A = some ⟨g, 0, none⟩ ∧ w.cell? ⟨g, i, none⟩ = some (.int .i64 (x : Nat)) := by
  obtain ⟨g, h1, h2, _⟩ := own_at h (i := i) (v := .int .i64 (x : Nat)) (by unfold segV; rw [List.getElem?_map, hi]; rfl)
  exact ⟨g, h1, h2⟩
theorem segs_lt (D : Disk) {n : Nat} (h : n ∈ PWal.segs D) : n ≤ 9999999999 := by
  unfold PWal.segs PWal.segsOf at h
  rw [List.mem_filter, List.mem_map] at h
  obtain ⟨⟨x, _, rfl⟩, _⟩ := h
  have := segNo_lt x
  omega
theorem segs_many {D : Disk} (h : D.fs.length ≤ 64) : (PWal.segs D).length ≤ 64 := by
  unfold PWal.segs
  have := segsOf_len (D.fs.map (·.name))
  rw [List.length_map] at this
  omega
theorem drop_get {l : List Nat} {i x : Nat} (h : l[i]? = some x) : l.drop i = x :: l.drop (i + 1) := by
  obtain ⟨h1, h2⟩ := List.getElem?_eq_some_iff.1 h
  rw [List.drop_eq_getElem_cons h1, h2]
theorem settles_steps : Steps PWal.settles PWal.settle := ⟨fun _ => rfl, fun _ _ _ => rfl⟩
theorem drops_steps : Steps PWal.drops PWal.dropF := ⟨fun _ => rfl, fun _ _ _ => rfl⟩
set_option maxHeartbeats 2000000 in
theorem sync_any {w : World} {bw b : Nat} {D : Disk} {S : Nat → Prop} (h : Ws w bw b D S) : Calls Tryz.prog 28 #[.pointer (some ⟨bw, 0, none⟩)] w (StepP (PWal.sync D) b S w) := by
  have hmf : ∀ (fn : Fn) (first cap : Array Value) (w : World), (Instr.makeFunc fn first cap).run Tryz.prog w = .ok (.func fn first cap) w := fun _ _ _ _ => rfl
  have HS := Lib.hid (segments_any h)
  have HW := Lib.hid h
  have HL := Lib.hid (segs_many h.dk.fine.inv.many)
  have HLT := Lib.hid (fun n (hn : n ∈ PWal.segs D) => segs_lt D hn)
  have HD : Hid (PWal.sync D = PWal.settles (PWal.segs D) D) := Lib.hid rfl
  have HX := Lib.hid settles_steps
  clear h
  go_enter Tryz.func28, Tryz.ntmps28
  go_wp2_with fail
  refine HS.out.mono ?_
  rintro e w1 ⟨A, c, rfl, own, b1⟩
  have HO := Lib.hid own
  have HB := Lib.hid b1
  obtain ⟨l, hl⟩ : ∃ l, l = PWal.segs D := ⟨_, rfl⟩
  rw [← hl] at HO HL HLT HD ⊢
  obtain ⟨N, hN⟩ : ∃ N, N = l.length := ⟨_, rfl⟩
  have HN := Lib.hid hN
  rw [← hN] at HL ⊢
  clear own b1 hl hN
  go_wp2_with fail
  go_loopw [11] (LoopRel PWal.settles l (PWal.sync D) bw b S w1) (fun i _ => N - (intOf i).toNat)
  case atStart => exact ⟨0, D, S, by omega, rfl, HW.out.below HB.out, fun k hk => .inl hk, Fr.refl _ _, by rw [List.drop_zero, HD.out]⟩
  case round =>
    obtain ⟨i, D', S', hi, rfl, hws, hup, hfr, hR⟩ := hrel
    have W2 := Lib.hid hws
    have UP := Lib.hid hup
    have FR := Lib.hid hfr
    have RR := Lib.hid hR
    have hptr := hws.ptr
    have hblt := hws.lt
    rw [← HN.out] at hi
    by_cases hlt2 : i < N
    · obtain ⟨n, hx⟩ : ∃ x, l[i]? = some x := ⟨_, List.getElem?_eq_getElem (by rw [← HN.out]; exact hlt2)⟩
      obtain ⟨g, rfl, hcell⟩ := own_num HO.out hx
      have hgl : g < w1.heap.size := World.block_lt_of_cell? w1 _ hcell
      have hgS : ¬ S g := fun q => by
        have h1 := (HW.out.dk.blk g q).2
        have h2 := (World.ownsRow.lt HO.out g rfl).1
        omega
      have q0 := (World.cell?_of_block (w := w1) (a := ⟨g, i, none⟩) (hfr.block g hgl hgS)).trans hcell
      have hgw : g < wr.heap.size := by have := hfr.size; omega
      have hn := HLT.out n (List.mem_of_getElem? hx)
      have HNI := Lib.hid (nameIs_seg n hn)
      have HFI := Lib.hid (file_any (w := wr) (b := b) (bw := bw) (nameIs_seg n hn) hptr)
      rw [drop_get hx, HX.out.2] at RR
      have hI0 : (0 : Int) ≤ (i : Int) := by omega
      have hI1 : (i : Int) < (N : Int) := by omega
      have hI2 : (N : Int) ≤ 64 := by have := HL.out; omega
      clear hws hup hfr hR hx hcell
      go_wp2_with fail
      refine HFI.out.mono ?_
      rintro e w3 ⟨rfl, b3⟩
      have HSE := Lib.hid (settle_file ((W2.out.below b3).dk) HNI.out)
      have B3 := Lib.hid b3
      clear b3 q0
      go_wp2_with fail
      refine HSE.out.mono ?_
      rintro e w4 ⟨rfl, t4⟩
      obtain ⟨S4, ws4, up4, fr4⟩ := (W2.out.below B3.out).to t4
      have W4 := Lib.hid ws4
      have F4 := Lib.hid (FR.out.trans ((Fr.of_below (S := S') B3.out).trans fr4 (fun k hk => .inl hk)) (fun k hk => (UP.out k hk).imp id And.left))
      have U4 : Hid (∀ k, S4 k → Up S w1 w4 k) := Lib.hid (fun k hk => by
        rcases up4 k hk with q | q
        · rcases UP.out k q with q | q
          · exact .inl q
          · exact .inr ⟨q.1, by have := fr4.size; have := B3.out.size; omega⟩
        · exact .inr ⟨by have := FR.out.size; have := B3.out.size; omega, q.2⟩)
      generalize PWal.settle D' (PWal.segN n) = r at *
      obtain ⟨D4, e4⟩ := r
      clear t4 ws4 up4 fr4
      by_cases he : e4 = 0
      · subst he
        have R4 : Hid (PWal.settles (l.drop (i + 1)) D4 = PWal.sync D) := Lib.hid (by rw [← RR.out]; unfold PWal.andThen; rw [if_pos rfl])
        go_wp2_with fail
        go_roundw
        case rel => exact ⟨i + 1, D4, S4, by rw [← HN.out]; omega, by go_num, W4.out, U4.out, F4.out, R4.out⟩
        case measure => simp [intOf]; omega
      · have R4 : Hid ((D4, e4) = PWal.sync D) := Lib.hid (by rw [← RR.out]; unfold PWal.andThen; rw [if_neg he])
        go_wp2_with fail
        go_ret
        exact ⟨by rw [← R4.out]; rfl, by rw [← R4.out]; exact DkTo.before HB.out ⟨S4, W4.out.dk, U4.out, F4.out⟩⟩
    · have hie : i = N := by omega
      subst hie
      rw [List.drop_of_length_le (by rw [HN.out]; exact Nat.le_refl _), HX.out.1] at RR
      clear hws hup hfr hR
      go_wp2_with fail
      go_ret
      exact ⟨by rw [← RR.out]; rfl, by rw [← RR.out]; exact DkTo.before HB.out ⟨S', W2.out.dk, UP.out, FR.out⟩⟩

/-! ### segments are dropped -/
def NumsAt (w : World) (S : Nat → Prop) (A : Option Addr) (l : List Nat) : Prop := l ≠ [] → ∃ g off, A = some ⟨g, off, none⟩ ∧ ¬ S g ∧ g < w.heap.size ∧ ∀ (i x : Nat), l[i]? = some x → w.cell? ⟨g, off + i, none⟩ = some (.int .i64 (x : Nat))
theorem NumsAt.keep {w w' : World} {S S' : Nat → Prop} {A : Option Addr} {l : List Nat} (h : NumsAt w S A l) (hs : w.heap.size ≤ w'.heap.size) (hk : ∀ k, k < w.heap.size → ¬ S k → ¬ S' k ∧ w'.heap[k]? = w.heap[k]?) : NumsAt w' S' A l := fun hne => by
  obtain ⟨g, off, h1, h2, h3, h4⟩ := h hne
  obtain ⟨q1, q2⟩ := hk g h3 h2
  exact ⟨g, off, h1, q1, by omega, fun i x hx => (World.cell?_of_block (w := w) q2).trans (h4 i x hx)⟩
set_option maxHeartbeats 2000000 in
theorem dropSegs_any {w : World} {bw b : Nat} {D : Disk} {S : Nat → Prop} (h : Ws w bw b D S) (l : List Nat) (A : Option Addr) (N c : Nat) (hN : N = l.length) (h64 : N ≤ 64) (hlt : ∀ n ∈ l, n ≤ 9999999999) (ha : NumsAt w S A l) :
    Calls Tryz.prog 90 #[.pointer (some ⟨bw, 0, none⟩), .slice A N c] w (StepP (PWal.drops l D) b S w) := by
  have hmf : ∀ (fn : Fn) (first cap : Array Value) (w : World), (Instr.makeFunc fn first cap).run Tryz.prog w = .ok (.func fn first cap) w := fun _ _ _ _ => rfl
  have HW := Lib.hid h
  have HL := Lib.hid h64
  have HLT := Lib.hid hlt
  have HX := Lib.hid drops_steps
  have HN := Lib.hid hN
  have HA := Lib.hid ha
  clear h h64 hlt hN ha
  go_enter Tryz.func90, Tryz.ntmps90
  go_wp2_with fail
  go_loopw [10] (LoopRel PWal.drops l (PWal.drops l D) bw b S w) (fun i _ => N - (intOf i).toNat)
  case atStart => exact ⟨0, D, S, by omega, rfl, HW.out, fun k hk => .inl hk, Fr.refl _ _, by rw [List.drop_zero]⟩
  case round =>
    obtain ⟨i, D', S', hi, rfl, hws, hup, hfr, hR⟩ := hrel
    have W2 := Lib.hid hws
    have UP := Lib.hid hup
    have FR := Lib.hid hfr
    have RR := Lib.hid hR
    have hptr := hws.ptr
    have hblt := hws.lt
    rw [← HN.out] at hi
    by_cases hlt2 : i < N
    · obtain ⟨n, hx⟩ : ∃ x, l[i]? = some x := ⟨_, List.getElem?_eq_getElem (by rw [← HN.out]; exact hlt2)⟩
      obtain ⟨g, off, rfl, hgS, hgl, hcells⟩ := HA.out (by intro e; rw [e] at hx; simp at hx)
      have q0 := (World.cell?_of_block (w := w) (a := ⟨g, off + i, none⟩) (hfr.block g hgl hgS)).trans (hcells i n hx)
      have hgw : g < wr.heap.size := by have := hfr.size; omega
      have hn := HLT.out n (List.mem_of_getElem? hx)
      have HNI := Lib.hid (nameIs_seg n hn)
      have HFI := Lib.hid (file_any (w := wr) (b := b) (bw := bw) (nameIs_seg n hn) hptr)
      rw [drop_get hx, HX.out.2] at RR
      have hI0 : (0 : Int) ≤ (i : Int) := by omega
      have hI1 : (i : Int) < (N : Int) := by omega
      have hI2 : (N : Int) ≤ 64 := by have := HL.out; omega
      clear hws hup hfr hR hx hcells
      go_wp2_with fail
      refine HFI.out.mono ?_
      rintro e w3 ⟨rfl, b3⟩
      have HSE := Lib.hid (drop_file ((W2.out.below b3).dk) HNI.out)
      have B3 := Lib.hid b3
      clear b3 q0
      go_wp2_with fail
      refine HSE.out.mono ?_
      rintro e w4 ⟨rfl, t4⟩
      obtain ⟨S4, ws4, up4, fr4⟩ := (W2.out.below B3.out).to t4
      have W4 := Lib.hid ws4
      have F4 := Lib.hid (FR.out.trans ((Fr.of_below (S := S') B3.out).trans fr4 (fun k hk => .inl hk)) (fun k hk => (UP.out k hk).imp id And.left))
      have U4 : Hid (∀ k, S4 k → Up S w w4 k) := Lib.hid (fun k hk => by
        rcases up4 k hk with q | q
        · rcases UP.out k q with q | q
          · exact .inl q
          · exact .inr ⟨q.1, by have := fr4.size; have := B3.out.size; omega⟩
        · exact .inr ⟨by have := FR.out.size; have := B3.out.size; omega, q.2⟩)
      generalize PWal.dropF D' (PWal.segN n) = r at *
      obtain ⟨D4, e4⟩ := r
      clear t4 ws4 up4 fr4
      by_cases he : e4 = 0
      · subst he
        have R4 : Hid (PWal.drops (l.drop (i + 1)) D4 = PWal.drops l D) := Lib.hid (by rw [← RR.out]; unfold PWal.andThen; rw [if_pos rfl])
        go_wp2_with fail
        go_roundw
        case rel => exact ⟨i + 1, D4, S4, by rw [← HN.out]; omega, by go_num, W4.out, U4.out, F4.out, R4.out⟩
        case measure => simp [intOf]; omega
      · have R4 : Hid ((D4, e4) = PWal.drops l D) := Lib.hid (by rw [← RR.out]; unfold PWal.andThen; rw [if_neg he])
        go_wp2_with fail
        go_ret
        exact ⟨by rw [← R4.out]; rfl, by rw [← R4.out]; exact ⟨S4, W4.out.dk, U4.out, F4.out⟩⟩
    · have hie : i = N := by omega
      subst hie
      rw [List.drop_of_length_le (by rw [HN.out]; exact Nat.le_refl _), HX.out.1] at RR
      clear hws hup hfr hR
      go_wp2_with fail
      go_ret
      exact ⟨by rw [← RR.out]; rfl, by rw [← RR.out]; exact ⟨S', W2.out.dk, UP.out, FR.out⟩⟩
end Go.Proofs.YtjcikhacekmcfaaGreatDoor
