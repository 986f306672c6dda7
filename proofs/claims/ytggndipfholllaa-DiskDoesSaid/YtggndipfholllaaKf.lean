import Derived.Test.YtggndipfholllaaKe
import Derived.Lib.AppendStr
import Derived.BigQuiet
import Derived.Deep.QuietTactic
namespace Go.Proofs.Ytggndipfholllaa
open Go.RowKit
open PlainDisk (File Disk Left)
set_option linter.unusedVariables false

theorem info74' : (Try.prog.info? 76).map (fun i => (i.zero, i.size, i.bytes)) = some (some (.agg #[.string ⟨#[]⟩, .slice none 0 0, .int .i64 0]), 3, 48) := by kernel_rfl
def fileV (p : FV) : Value := .agg #[.string (str p.1.name), p.2, .int .i64 (p.1.sure : Nat)]
theorem info_parts3 {P : Program} {t : TypeId} {z : Value} {n m : Nat} (h : (P.info? t).map (fun i => (i.zero, i.size, i.bytes)) = some (some z, n, m)) : ∃ i, P.info? t = some i ∧ i.zero = some z ∧ i.size = n ∧ i.bytes = m := by
  obtain ⟨i, hi, e⟩ := Option.map_eq_some_iff.1 h
  simp only [Prod.mk.injEq] at e
  exact ⟨i, hi, e.1, e.2.1, e.2.2⟩
theorem flat_app (a b : List FV) : flat (a ++ b) = flat a ++ flat b := by
  induction a with
  | nil => rfl
  | cons p r ih => simp only [List.cons_append, flat, ih, List.append_assoc]
def IsSl (v : Value) : Prop := ∃ A n c, v = .slice A n c
theorem one_cell {p : FV} (h : IsSl p.2) : ∀ u ∈ cellsOf1 p, u.oneCell' = true := by
  obtain ⟨A, n, c, e⟩ := h
  intro u hu
  unfold cellsOf1 at hu
  rw [e] at hu
  simp only [List.mem_cons, List.not_mem_nil, or_false] at hu
  rcases hu with rfl | rfl | rfl <;> rfl
/-- a row of files of the call's own -/
def OwnF (w : World) (base : Nat) (v : Value) (qs : List FV) : Prop := w.ownsRow base 76 3 v qs.length (flat qs)
theorem OwnF.alloc {w : World} {base : Nat} {v : Value} {qs : List FV} (h : OwnF w base v qs) (o : Obj) : OwnF (w.alloc o) base v qs := World.ownsRow.alloc h o
theorem OwnF.lt {w : World} {base : Nat} {v : Value} {qs : List FV} (h : OwnF w base v qs) : ∀ k, v.ownBlock = some k → base ≤ k ∧ k < w.heap.size := World.ownsRow.lt h
theorem OwnF.form {w : World} {base : Nat} {v : Value} {qs : List FV} (h : OwnF w base v qs) : ∃ A n cap, v = .slice A n cap := by
  rcases h.2 with ⟨e, _⟩ | ⟨g, cap, cur, e, _⟩
  · exact ⟨_, _, _, e⟩
  · exact ⟨_, _, _, e⟩
theorem OwnF.down {w : World} {B : Nat} {v : Value} {qs : List FV} (h : OwnF w (B + 1) v qs) : OwnF w B v qs := by
  refine ⟨h.1, ?_⟩
  rcases h.2 with h2 | ⟨g, cap, cur, e, hb, r⟩
  · exact .inl h2
  · exact .inr ⟨g, cap, cur, e, by omega, r⟩
/-- append of one file to a row of the call's own -/
theorem wp_appF {ops : Array Oper} {rest : List Oper} {o : Oper} {a : Act} {Q : Exit → Act → World → Prop} {w : World} (hgd : o.guard = none) (s x : Operand)
    (ho : o.op = .call { callee := .builtin .append, args := #[s, x], argTypes := #[38, 38] })
    (base : Nat) (v : Value) (qs : List FV) (hs : a.eval s = v) (hown : OwnF w base v qs) (k : Nat) (p : FV) (hsl : IsSl p.2) (hx : a.eval x = .slice (some ⟨k, 0, none⟩) 1 1)
    (hk : w.heap[k]? = some (.cells #[.string (str p.1.name), p.2, .int .i64 (p.1.sure : Nat)] 76 (0, 0)))
    (hlen : qs.length ≤ 1000) (hbase : base ≤ w.heap.size)
    (h : ∀ v' w', OwnF w' base v' (qs ++ [p]) → w.grownBy w' v.ownBlock → wpList Try.prog ops Q rest (a.put o.dst v') w') : wpList Try.prog ops Q (o :: rest) a w := by
  obtain ⟨i, hi, hz, hz1, hz2⟩ := info_parts3 info74'
  refine wpList_append_own w hgd s x 38 ho base 76 i _ 3 48 Try.underlying38 hi hz hz1 hz2 rfl (by omega) v qs.length (flat qs) hs hown ⟨k, 0, none⟩ 1 1 (cellsOf1 p) hx rfl ?_ (one_cell hsl) (by simp only [maxLen]; omega) (by omega) hbase ?_
  · intro j u hu
    unfold Addr.add
    have hc : w.cell? ⟨k, j, none⟩ = some u := by
      rw [Lib.cell_of_heap hk]
      rw [← hu]
      show (cellsOf1 p).toArray[j]? = _
      simp
    split
    · subst j; exact hc
    · simpa using hc
  · intro v' w' h2 h3 _
    refine h v' w' ?_ h3
    unfold OwnF
    rw [flat_app, List.length_append]
    exact h2

def putF (p : FV) : List FV → List FV
  | [] => [p]
  | q :: r => if PlainDisk.bl p.1.name q.1.name = true then p :: q :: r else q :: putF p r
theorem putF_fst (p : FV) (ps : List FV) : (putF p ps).map (·.1) = PlainDisk.put p.1 (ps.map (·.1)) := by
  induction ps with
  | nil => rfl
  | cons q r ih =>
    simp only [putF, List.map_cons, PlainDisk.put]
    split
    · rfl
    · simp only [List.map_cons, ih]
theorem mem_putF {p q : FV} {ps : List FV} (h : q ∈ putF p ps) : q = p ∨ q ∈ ps := by
  induction ps with
  | nil => simp [putF] at h; exact .inl h
  | cons x r ih =>
    unfold putF at h
    split at h
    · simpa using h
    · rcases List.mem_cons.1 h with rfl | h
      · simp
      · rcases ih h with h | h
        · exact .inl h
        · exact .inr (by simp [h])
theorem below_drewN {B : Nat} {a w : World} (h : Below B a w) (n : Nat) : Below B a (w.drewN n) := ⟨h.os, h.tape, h.output, h.size, h.block⟩
theorem keep_grown {w w2 : World} {row : Option Nat} {o x : Obj} {k : Nat} (hg : (w.alloc o).grownBy w2 row) (hk : w.heap[k]? = some x) (hne : some k ≠ row) : w2.heap[k]? = some x := by
  have hlt := (Array.getElem?_eq_some_iff.1 hk).1
  rw [hg.block k (by simp; omega) hne, Lib.alloc_old w o k hlt]
  exact hk
theorem below_step {a w w2 : World} {B : Nat} {v : Value} {o : Obj} {qs : List FV} (h : Below B a w) (hB : B ≤ w.heap.size) (hown : OwnF w (B + 1) v qs) (hg : (w.alloc o).grownBy w2 v.ownBlock) : Below B a w2 :=
  (h.alloc hB o).grown hg (by simp; omega) (fun k hk => by have := (hown.lt k hk).1; omega)
theorem own_ne {w : World} {B : Nat} {v : Value} {qs : List FV} (hown : OwnF w (B + 1) v qs) : some B ≠ v.ownBlock := fun h => by
  have := (hown.lt B h.symm).1
  omega
theorem name_lt (a b : List UInt8) : Op.bytesLess (str a).toList (str b).toList = PlainDisk.bl a b := by
  rw [ByteArray.toList_eq, ByteArray.toList_eq, list_str, list_str]

set_option maxHeartbeats 1000000 in
set_option maxRecDepth 100000 in
theorem refPut_any (b : Nat) (p : FV) (Lv : Value) (ps : List FV) (r1 r2 r3 : Value) (S : Nat → Prop) (w : World) (hb : w.heap[b]? = some (.cells #[Lv, r1, r2, r3] 40 (0, 0))) (hr : RowF w Lv ps S) (hn : ps.length ≤ 100) (hsl : IsSl p.2) :
    Calls Try.prog 55 #[.pointer (some ⟨b, 0, none⟩), fileV p] w fun e w' => e = .returned (.tuple #[]) ∧ ∃ l w1, w' = w1.setCell ⟨b, 0, none⟩ l ∧ Below w.heap.size w w1 ∧ OwnF w1 w.heap.size l (putF p ps) := by
  obtain ⟨A, cap, rfl, hc, hm, hrow⟩ := hr.form
  have c0 : w.cell? ⟨b, 0, none⟩ = some (.slice A ps.length cap) := by rw [Lib.cell_of_heap hb]; rfl
  have hblt : b < w.heap.size := (Array.getElem?_eq_some_iff.1 hb).1
  have HR := Lib.hid hrow
  have HBy := Lib.hid hr.bytes
  have HB := Lib.hid hb
  clear hrow hr hb
  unfold fileV
  go_enter Try.func55, Try.ntmps55
  go_wp2_with fail
  go_loopw [4, 5, 6] (fun lV dV iV wr => ∃ (i : Nat) (done : Bool) (l : Value) (qs : List FV), l = lV ∧ dV = .bool done ∧ iV = .int .i64 (i : Nat) ∧ i ≤ ps.length ∧ qs.length ≤ 2 * i + 1 ∧
    OwnF wr (w.heap.size + 1) l qs ∧ (if done = true then putF p ps = qs ++ ps.drop i else putF p ps = qs ++ putF p (ps.drop i)) ∧ Below w.heap.size w wr ∧
    wr.heap[w.heap.size]? = some (.cells #[.string (str p.1.name), p.2, .int .i64 (p.1.sure : Nat)] 76 (0, 0))) (fun _ _ iV _ => ps.length - (numOf iV).toNat)
  case atStart =>
    refine ⟨0, false, _, [], rfl, rfl, rfl, by omega, by simp, ?_, by simp, ((Below.refl _ w).alloc (Nat.le_refl _) _).alloc (by simp) _, ?_⟩
    · have := World.ownsRow_made (w.alloc (.cells #[.string (str p.1.name), p.2, .int .i64 (p.1.sure : Nat)] 76)) (base := w.heap.size + 1) (e := 76) (size := 3) #[] 0 (by simp) (by decide) rfl
      rw [World.size_alloc] at this
      exact this
    · refine (Lib.alloc_old _ _ _ (by simp)).trans ?_
      exact heap_alloc_new w _
  case round =>
    obtain ⟨i, done, l, qs, rfl, rfl, rfl, hi, hq, hown, hput, hbw, hbox⟩ := hrel
    by_cases hlt : i < ps.length
    · obtain ⟨g, cs, rfl, hS, hg, hsz, hat⟩ := HR.out (by omega)
      obtain ⟨q, hp⟩ : ∃ q, ps[i]? = some q := ⟨_, List.getElem?_eq_getElem hlt⟩
      obtain ⟨d0, d1, d2⟩ := hat i q hp
      have hglt : g < w.heap.size := (Array.getElem?_eq_some_iff.1 hg).1
      have c0r : wr.cell? ⟨b, 0, none⟩ = some (.slice (some ⟨g, 0, none⟩) ps.length cap) := (hbw.cell hblt).trans c0
      have d0r : wr.cell? ⟨g, i * 3, none⟩ = _ := (hbw.cell hglt).trans d0
      have d1r : wr.cell? ⟨g, i * 3 + 1, none⟩ = _ := (hbw.cell hglt).trans d1
      have d2r : wr.cell? ⟨g, i * 3 + 2, none⟩ = _ := (hbw.cell hglt).trans d2
      have x0 : wr.cell? ⟨w.heap.size, 0, none⟩ = some (.string (str p.1.name)) := by rw [Lib.cell_of_heap hbox]; rfl
      have x1 : wr.cell? ⟨w.heap.size, 1, none⟩ = some p.2 := by rw [Lib.cell_of_heap hbox]; rfl
      have x2 : wr.cell? ⟨w.heap.size, 2, none⟩ = some (.int .i64 (p.1.sure : Nat)) := by rw [Lib.cell_of_heap hbox]; rfl
      have HO := Lib.hid hown
      have HP := Lib.hid hput
      have HW := Lib.hid hbw
      have HX := Lib.hid hbox
      have HDD := Lib.hid (And.intro d0 (And.intro d1 d2))
      clear hown hput hbw hbox hat d0 d1 d2 hg
      have hslq : IsSl q.2 := by
        obtain ⟨A2, c2, e2, _⟩ := HBy.out q (List.mem_of_getElem? hp)
        exact ⟨_, _, _, e2⟩
      have hws : w.heap.size + 1 ≤ wr.heap.size := by have := (Array.getElem?_eq_some_iff.1 HX.out).1; omega
      have hdrop : ps.drop i = q :: ps.drop (i + 1) := by
        rw [List.drop_eq_getElem_cons hlt]
        congr 1
        rw [List.getElem?_eq_getElem hlt] at hp
        exact Option.some.inj hp
      have HDR := Lib.hid hdrop
      clear hdrop hp
      cases done with
      | true =>
        go_wp2_with fail
        go_quiet (fail)
        go_wp2_with (at_builtin; (refine wp_appF rfl (.tmp 36) (.tmp 44) rfl (w.heap.size + 1) l qs rfl (HO.out.alloc _) wr.heap.size q hslq rfl ?hk ?hl ?hbs ?_))
        case hk => exact heap_alloc_new (wr.drewN nq) _
        case hl => omega
        case hbs => simp; omega
        intro v' w2 hown2 hgrow
        have hbw2 := below_step (below_drewN HW.out nq) (show w.heap.size ≤ (wr.drewN nq).heap.size by show w.heap.size ≤ wr.heap.size; omega) HO.out hgrow
        have hbx2 := keep_grown (w := wr.drewN nq) hgrow HX.out (own_ne HO.out)
        go_wp2_with fail
        go_roundw
        case rel =>
          refine ⟨i + 1, true, v', qs ++ [q], rfl, rfl, rfl, by omega, by simp; omega, hown2, ?_, hbw2, hbx2⟩
          have h : putF p ps = qs ++ ps.drop i := by simpa using HP.out
          rw [HDR.out] at h
          show putF p ps = _
          rw [h, List.append_assoc]
          rfl
        case measure => simp [numOf]; omega
      | false =>
        have hlt2 := name_lt p.1.name q.1.name
        cases hcc : PlainDisk.bl p.1.name q.1.name with
        | false =>
          rw [hcc] at hlt2
          have HPR := Lib.hid (show putF p (q :: ps.drop (i + 1)) = q :: putF p (ps.drop (i + 1)) by rw [putF, if_neg (by rw [hcc]; simp)])
          go_wp2_with fail
          go_quiet (fail)
          go_wp2_with (at_builtin; (refine wp_appF rfl (.tmp 36) (.tmp 44) rfl (w.heap.size + 1) l qs rfl (HO.out.alloc _) wr.heap.size q hslq rfl ?hk ?hl ?hbs ?_))
          case hk => exact heap_alloc_new (wr.drewN nq) _
          case hl => omega
          case hbs => simp; omega
          intro v' w2 hown2 hgrow
          have hbw2 := below_step (below_drewN HW.out nq) (show w.heap.size ≤ (wr.drewN nq).heap.size by show w.heap.size ≤ wr.heap.size; omega) HO.out hgrow
          have hbx2 := keep_grown (w := wr.drewN nq) hgrow HX.out (own_ne HO.out)
          go_wp2_with fail
          go_roundw
          case rel =>
            refine ⟨i + 1, false, v', qs ++ [q], rfl, rfl, rfl, by omega, by simp; omega, hown2, ?_, hbw2, hbx2⟩
            have h : putF p ps = qs ++ putF p (ps.drop i) := by simpa using HP.out
            rw [HDR.out, HPR.out] at h
            show putF p ps = _
            rw [h, List.append_assoc]
            rfl
          case measure => simp [numOf]; omega
        | true =>
          rw [hcc] at hlt2
          have HPR := Lib.hid (show putF p (q :: ps.drop (i + 1)) = p :: q :: ps.drop (i + 1) by rw [putF, if_pos hcc])
          go_wp2_with fail
          go_quiet (fail)
          go_wp2_with (at_builtin; (refine wp_appF rfl (.tmp 32) (.tmp 34) rfl (w.heap.size + 1) l qs rfl (HO.out.alloc _) wr.heap.size p hsl rfl ?hk ?hl ?hbs ?_))
          case hk => exact heap_alloc_new (wr.drewN nq) _
          case hl => omega
          case hbs => simp; omega
          intro v' w2 hown2 hgrow
          have hbw2 := below_step (below_drewN HW.out nq) (show w.heap.size ≤ (wr.drewN nq).heap.size by show w.heap.size ≤ wr.heap.size; omega) HO.out hgrow
          have hbx2 := keep_grown (w := wr.drewN nq) hgrow HX.out (own_ne HO.out)
          have c0s : w2.cell? ⟨b, 0, none⟩ = some (.slice (some ⟨g, 0, none⟩) ps.length cap) := (hbw2.cell hblt).trans c0
          have d0s : w2.cell? ⟨g, i * 3, none⟩ = _ := (hbw2.cell hglt).trans HDD.out.1
          have d1s : w2.cell? ⟨g, i * 3 + 1, none⟩ = _ := (hbw2.cell hglt).trans HDD.out.2.1
          have d2s : w2.cell? ⟨g, i * 3 + 2, none⟩ = _ := (hbw2.cell hglt).trans HDD.out.2.2
          have HW2 := Lib.hid hbw2
          have HX2 := Lib.hid hbx2
          have HO2 := Lib.hid hown2
          have hs2 : w.heap.size + 1 ≤ w2.heap.size := by have := (Array.getElem?_eq_some_iff.1 hbx2).1; omega
          clear hbw2 hbx2 hown2 c0r d0r d1r d2r
          go_wp2_with (at_builtin; (refine wp_appF rfl (.tmp 36) (.tmp 44) rfl (w.heap.size + 1) v' (qs ++ [p]) rfl (HO2.out.alloc _) w2.heap.size q hslq rfl ?hk ?hl ?hbs ?_))
          case hk => exact heap_alloc_new w2 _
          case hl => simp; omega
          case hbs => simp; omega
          intro v3 w3 hown3 hgrow3
          have hbw3 := below_step HW2.out (show w.heap.size ≤ w2.heap.size by omega) HO2.out hgrow3
          have hbx3 := keep_grown (w := w2) hgrow3 HX2.out (own_ne HO2.out)
          go_wp2_with fail
          go_roundw
          case rel =>
            refine ⟨i + 1, true, v3, qs ++ [p, q], rfl, rfl, rfl, by omega, by simp; omega, hown3, ?_, hbw3, hbx3⟩
            have h : putF p ps = qs ++ putF p (ps.drop i) := by simpa using HP.out
            rw [HDR.out, HPR.out] at h
            show putF p ps = _
            rw [h]
            simp
          case measure => simp [numOf]; omega
    · have HO := Lib.hid hown
      have HP := Lib.hid hput
      have HW := Lib.hid hbw
      have HX := Lib.hid hbox
      have c0r : wr.cell? ⟨b, 0, none⟩ = _ := (hbw.cell hblt).trans c0
      have f0r : wr.frozen? ⟨b, 0, none⟩ = false := by rw [hbw.frozen hblt]; exact Lib.frozen_of_heap HB.out 0
      have x0 : wr.cell? ⟨w.heap.size, 0, none⟩ = some (.string (str p.1.name)) := by rw [Lib.cell_of_heap hbox]; rfl
      have x1 : wr.cell? ⟨w.heap.size, 1, none⟩ = some p.2 := by rw [Lib.cell_of_heap hbox]; rfl
      have x2 : wr.cell? ⟨w.heap.size, 2, none⟩ = some (.int .i64 (p.1.sure : Nat)) := by rw [Lib.cell_of_heap hbox]; rfl
      have hws : w.heap.size + 1 ≤ wr.heap.size := by have := (Array.getElem?_eq_some_iff.1 hbox).1; omega
      have hnil : ps.drop i = [] := List.drop_eq_nil_of_le (by omega)
      have HNL := Lib.hid hnil
      clear hown hput hbw hbox hnil
      cases done with
      | true =>
        obtain ⟨A3, n3, cap3, rfl⟩ := HO.out.form
        go_wp2_with fail
        go_end0
        refine ⟨rfl, _, wr, rfl, HW.out, ?_⟩
        have h : putF p ps = qs ++ ps.drop i := by simpa using HP.out
        rw [HNL.out, List.append_nil] at h
        rw [h]
        exact HO.out.down
      | false =>
        go_wp2_with (at_builtin; (refine wp_appF rfl (.tmp 48) (.tmp 50) rfl (w.heap.size + 1) l qs rfl (HO.out.alloc _) wr.heap.size p hsl rfl ?hk ?hl ?hbs ?_))
        case hk => exact heap_alloc_new wr _
        case hl => omega
        case hbs => simp; omega
        intro v' w2 hown2 hgrow
        have hbw2 := below_step HW.out (show w.heap.size ≤ wr.heap.size by omega) HO.out hgrow
        have c0s : w2.cell? ⟨b, 0, none⟩ = _ := (hbw2.cell hblt).trans c0
        have f0s : w2.frozen? ⟨b, 0, none⟩ = false := by rw [hbw2.frozen hblt]; exact Lib.frozen_of_heap HB.out 0
        have HW2 := Lib.hid hbw2
        have HO2 := Lib.hid hown2
        clear hbw2 hown2
        obtain ⟨A3, n3, cap3, rfl⟩ := HO2.out.form
        go_wp2_with fail
        go_end0
        refine ⟨rfl, _, w2, rfl, HW2.out, ?_⟩
        have h : putF p ps = qs ++ putF p (ps.drop i) := by simpa using HP.out
        rw [HNL.out] at h
        rw [h]
        exact HO2.out.down
end Go.Proofs.Ytggndipfholllaa
namespace Go.Proofs.Ytggndipfholllaa
open Go.RowKit
open PlainDisk (File Disk Left)
set_option linter.unusedVariables false

def dropF (nm : List UInt8) : List FV → List FV
  | [] => []
  | q :: r => if q.1.name = nm then dropF nm r else q :: dropF nm r
theorem dropF_fst (nm : List UInt8) (ps : List FV) : (dropF nm ps).map (·.1) = PlainDisk.drop (ps.map (·.1)) nm := by
  induction ps with
  | nil => rfl
  | cons q r ih =>
    rw [List.map_cons, PlainDisk.drop_cons, dropF]
    split
    · exact ih
    · rw [List.map_cons, ih]
theorem mem_dropF {nm : List UInt8} {q : FV} {ps : List FV} (h : q ∈ dropF nm ps) : q ∈ ps := by
  induction ps with
  | nil => cases h
  | cons x r ih =>
    unfold dropF at h
    split at h
    · simp [ih h]
    · rcases List.mem_cons.1 h with rfl | h
      · simp
      · simp [ih h]
theorem dropF_len (nm : List UInt8) (ps : List FV) : (dropF nm ps).length ≤ ps.length := by
  induction ps with
  | nil => exact Nat.le_refl _
  | cons x r ih =>
    unfold dropF
    split
    · simp only [List.length_cons]; omega
    · simp only [List.length_cons]; omega

theorem below_step0 {a w w2 : World} {B : Nat} {v : Value} {o : Obj} {qs : List FV} (h : Below B a w) (hB : B ≤ w.heap.size) (hown : OwnF w B v qs) (hg : (w.alloc o).grownBy w2 v.ownBlock) : Below B a w2 :=
  (h.alloc hB o).grown hg (by simp; omega) (fun k hk => (hown.lt k hk).1)

set_option maxHeartbeats 1000000 in
set_option maxRecDepth 100000 in
theorem refDrop_any (b : Nat) (nm : List UInt8) (Lv : Value) (ps : List FV) (r1 r2 r3 : Value) (S : Nat → Prop) (w : World) (hb : w.heap[b]? = some (.cells #[Lv, r1, r2, r3] 40 (0, 0))) (hr : RowF w Lv ps S) (hn : ps.length ≤ 100) :
    Calls Try.prog 57 #[.pointer (some ⟨b, 0, none⟩), .string (str nm)] w fun e w' => e = .returned (.tuple #[]) ∧ ∃ l w1, w' = w1.setCell ⟨b, 0, none⟩ l ∧ Below w.heap.size w w1 ∧ OwnF w1 w.heap.size l (dropF nm ps) := by
  obtain ⟨A, cap, rfl, hc, hm, hrow⟩ := hr.form
  have c0 : w.cell? ⟨b, 0, none⟩ = some (.slice A ps.length cap) := by rw [Lib.cell_of_heap hb]; rfl
  have hblt : b < w.heap.size := (Array.getElem?_eq_some_iff.1 hb).1
  have HR := Lib.hid hrow
  have HBy := Lib.hid hr.bytes
  have HB := Lib.hid hb
  clear hrow hr hb
  go_enter Try.func57, Try.ntmps57
  go_wp2_with fail
  go_loopw [4, 5] (fun lV iV wr => ∃ (i : Nat) (l : Value) (qs : List FV), l = lV ∧ iV = .int .i64 (i : Nat) ∧ i ≤ ps.length ∧ qs.length ≤ i ∧
    OwnF wr w.heap.size l qs ∧ dropF nm ps = qs ++ dropF nm (ps.drop i) ∧ Below w.heap.size w wr) (fun _ iV _ => ps.length - (numOf iV).toNat)
  case atStart =>
    refine ⟨0, _, [], rfl, rfl, by omega, by simp, ?_, by simp, (Below.refl _ w).alloc (Nat.le_refl _) _⟩
    exact World.ownsRow_made w (base := w.heap.size) (e := 76) (size := 3) #[] 0 (Nat.le_refl _) (by decide) rfl
  case round =>
    obtain ⟨i, l, qs, rfl, rfl, hi, hq, hown, hput, hbw⟩ := hrel
    have HO := Lib.hid hown
    have HP := Lib.hid hput
    have HW := Lib.hid hbw
    have hws : w.heap.size ≤ wr.heap.size := hbw.size
    by_cases hlt : i < ps.length
    · obtain ⟨g, cs, rfl, hS, hg, hsz, hat⟩ := HR.out (by omega)
      obtain ⟨q, hp⟩ : ∃ q, ps[i]? = some q := ⟨_, List.getElem?_eq_getElem hlt⟩
      obtain ⟨d0, d1, d2⟩ := hat i q hp
      have hglt : g < w.heap.size := (Array.getElem?_eq_some_iff.1 hg).1
      have c0r : wr.cell? ⟨b, 0, none⟩ = some (.slice (some ⟨g, 0, none⟩) ps.length cap) := (hbw.cell hblt).trans c0
      have d0r : wr.cell? ⟨g, i * 3, none⟩ = _ := (hbw.cell hglt).trans d0
      have d1r : wr.cell? ⟨g, i * 3 + 1, none⟩ = _ := (hbw.cell hglt).trans d1
      have d2r : wr.cell? ⟨g, i * 3 + 2, none⟩ = _ := (hbw.cell hglt).trans d2
      have hslq : IsSl q.2 := by
        obtain ⟨A2, c2, e2, _⟩ := HBy.out q (List.mem_of_getElem? hp)
        exact ⟨_, _, _, e2⟩
      have hdrop : ps.drop i = q :: ps.drop (i + 1) := by
        rw [List.drop_eq_getElem_cons hlt]
        congr 1
        rw [List.getElem?_eq_getElem hlt] at hp
        exact Option.some.inj hp
      have HDR := Lib.hid hdrop
      have hk := cell_eq (a := q.1.name) (b := nm)
      clear hown hput hbw hat d0 d1 d2 hg hdrop hp
      by_cases he : q.1.name = nm
      · rw [decide_eq_true he] at hk
        have HE := Lib.hid (show dropF nm (q :: ps.drop (i + 1)) = dropF nm (ps.drop (i + 1)) by rw [dropF, if_pos he])
        clear he
        go_wp2_with fail
        go_roundw
        case rel =>
          exact ⟨i + 1, l, qs, rfl, rfl, by omega, by omega, HO.out, by rw [HP.out, HDR.out, HE.out], HW.out⟩
        case measure => simp [numOf]; omega
      · rw [decide_eq_false he] at hk
        have HE := Lib.hid (show dropF nm (q :: ps.drop (i + 1)) = q :: dropF nm (ps.drop (i + 1)) by rw [dropF, if_neg he])
        clear he
        go_wp2_with (at_builtin; (refine wp_appF rfl (.tmp 26) (.tmp 34) rfl w.heap.size l qs rfl (HO.out.alloc _) wr.heap.size q hslq rfl ?hk ?hl ?hbs ?_))
        case hk => exact heap_alloc_new wr _
        case hl => omega
        case hbs => simp; omega
        intro v' w2 hown2 hgrow
        have hbw2 := below_step0 HW.out hws HO.out hgrow
        go_wp2_with fail
        go_roundw
        case rel =>
          exact ⟨i + 1, v', qs ++ [q], rfl, rfl, by omega, by simp; omega, hown2, by rw [HP.out, HDR.out, HE.out]; simp, hbw2⟩
        case measure => simp [numOf]; omega
    · have c0r : wr.cell? ⟨b, 0, none⟩ = _ := (hbw.cell hblt).trans c0
      have f0r : wr.frozen? ⟨b, 0, none⟩ = false := by rw [hbw.frozen hblt]; exact Lib.frozen_of_heap HB.out 0
      have hnil : ps.drop i = [] := List.drop_eq_nil_of_le (by omega)
      have HNL := Lib.hid hnil
      clear hown hput hbw hnil
      obtain ⟨A3, n3, cap3, rfl⟩ := HO.out.form
      go_wp2_with fail
      go_end0
      refine ⟨rfl, _, wr, rfl, HW.out, ?_⟩
      have h := HP.out
      rw [HNL.out, show dropF nm [] = [] from rfl, List.append_nil] at h
      rw [h]
      exact HO.out
end Go.Proofs.Ytggndipfholllaa
