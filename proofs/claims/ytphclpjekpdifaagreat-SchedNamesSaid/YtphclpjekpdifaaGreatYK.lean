import Derived.Test.YtphclpjekpdifaaGreatYJ
import Derived.LoopTactic
import Derived.Deep.RegionLaw
import Derived.Test.YtphclpjekpdifaaGreatYG
import Derived.Deep.QuietTactic
namespace Go.Proofs.YtphclpjekpdifaaGreat
set_option maxRecDepth 20000
open Go.RowKit
open Go.Proofs.YtphclpjekpdifaaGreat.Nm (Gr)
open Go.Proofs.YtphclpjekpdifaaGreat.Vc (I64 OwnD DigsAt dC)
set_option linter.unusedVariables false
structure NCo (W : World) (g o : Nat) (n : Nd) : Prop where
  c0 : W.cell? ⟨g, o, none⟩ = some (.string (Nm.str n.s))
  c1 : W.cell? ⟨g, o + 1, none⟩ = some (.int .i64 n.a)
  c2 : W.cell? ⟨g, o + 2, none⟩ = some (.int .i64 n.b)
  c3 : W.cell? ⟨g, o + 3, none⟩ = some (.int .i64 n.c)
  c4 : W.cell? ⟨g, o + 4, none⟩ = some (.int .i64 n.x)
  c5 : W.cell? ⟨g, o + 5, none⟩ = some (.int .i64 n.y)
  c6 : W.cell? ⟨g, o + 6, none⟩ = some (.int .i64 n.z)
  c7 : W.cell? ⟨g, o + 7, none⟩ = some (.bool n.d)
theorem NCo.keep {W W' : World} {g o : Nat} {n : Nd} (h : NCo W g o n) (k : W'.heap[g]? = W.heap[g]?) : NCo W' g o n :=
  ⟨(cell_of_heap k).trans h.c0, (cell_of_heap k).trans h.c1, (cell_of_heap k).trans h.c2, (cell_of_heap k).trans h.c3, (cell_of_heap k).trans h.c4, (cell_of_heap k).trans h.c5, (cell_of_heap k).trans h.c6, (cell_of_heap k).trans h.c7⟩
def NodesAt (W : World) (B : Nat) (A : Option Addr) (L : List Nd) : Prop :=
  L ≠ [] → ∃ g off, A = some ⟨g, off, none⟩ ∧ g < B ∧ ∀ j n, L[j]? = some n → NCo W g (off + j * 8) n
theorem NodesAt.on {W W' : World} {B : Nat} {A : Option Addr} {L : List Nd} (h : NodesAt W B A L) (hb : Below B W W') : NodesAt W' B A L := fun hne => by
  obtain ⟨g, off, h1, h2, h3⟩ := h hne
  exact ⟨g, off, h1, h2, fun j n hn => (h3 j n hn).keep (hb.block g h2)⟩
theorem NodesAt.mono {W : World} {B B' : Nat} {A : Option Addr} {L : List Nd} (h : NodesAt W B A L) (hB : B ≤ B') : NodesAt W B' A L := fun hne => by
  obtain ⟨g, off, h1, h2, h3⟩ := h hne
  exact ⟨g, off, h1, by omega, h3⟩
def RowS (W : World) (g : Nat) (S : List Int) : Prop := W.heap[g]? = some (.cells (S.map (Value.int .i64)).toArray 2 (0, 0))
theorem RowS.lt {W : World} {g : Nat} {S : List Int} (h : RowS W g S) : g < W.heap.size := (Array.getElem?_eq_some_iff.1 h).1
theorem RowS.keep {W W' : World} {g : Nat} {S : List Int} (h : RowS W g S) (k : W'.heap[g]? = W.heap[g]?) : RowS W' g S := k.trans h
theorem RowS.cell {W : World} {g : Nat} {S : List Int} (h : RowS W g S) (j : Nat) (x : Int) (hx : S[j]? = some x) : W.cell? ⟨g, j, none⟩ = some (.int .i64 x) := by
  unfold RowS at h
  simp [World.cell?, h, hx]
theorem RowS.frozen {W : World} {g : Nat} {S : List Int} (h : RowS W g S) (j : Nat) : W.frozen? ⟨g, j, none⟩ = false := by
  simp [World.frozen?, show W.heap[g]? = _ from h]
theorem RowS.set {W : World} {g : Nat} {S : List Int} (h : RowS W g S) (j : Nat) (x : Int) : RowS (W.setCell ⟨g, j, none⟩ (.int .i64 x)) g (S.set j x) := by
  unfold RowS at h ⊢
  simp only [World.setCell, Array.getElem?_modify, if_pos, h, Option.map_some, List.map_set]
  simp
theorem mkS (w : World) (N : Nat) (h : N ≤ 1000000) : (Instr.makeSlice 275 (.int .i64 (N : Int)) (.int .i64 (N : Int))).run Tryz.prog w = .ok (.slice (some ⟨w.heap.size, 0, none⟩) N N) (w.alloc (.cells ((List.replicate N (0 : Int)).map (Value.int .i64)).toArray 2)) := by
  obtain ⟨i5, hi5, hz0, hz1, hz2⟩ := info_parts (show (Tryz.prog.info? 2).map (fun i => (i.zero, i.size, i.bytes)) = some (some (.int .i64 0), 1, 8) by kernel_rfl)
  have := run_make (P := Tryz.prog) w 275 2 i5 _ Tryz.underlying275 hi5 hz0 .i64 .i64 (N : Int) (N : Int) (by omega) (by omega) (by rw [hz2]; omega) (by omega)
  rw [hz1] at this
  have e : madeCells (Value.int .i64 0).cells N = ((List.replicate N (0 : Int)).map (Value.int .i64)).toArray := by
    apply Array.ext'
    rw [show (Value.int .i64 0).cells = #[.int .i64 0] from rfl, toList_madeCells_one]
    simp
  rw [Int.toNat_natCast, Nat.mul_one, e] at this
  exact this
def scL (L : List Nd) (p q r : Int) (i : Nat) : Int := ((L[i]?).map fun n => nscore n p q r).getD (-1)
def nmL (L : List Nd) (i : Nat) : List UInt8 := ((L[i]?).map Nd.s).getD []
def cand (L : List Nd) (p q r : Int) (k : Nat) : List Nat := (List.range k).filter fun i => scL L p q r i != -1
theorem cand_succ (L : List Nd) (p q r : Int) (k : Nat) : cand L p q r (k + 1) = cand L p q r k ++ (if scL L p q r k != -1 then [k] else []) := by
  unfold cand
  rw [List.range_succ, List.filter_append]
  congr 1
  simp only [List.filter_cons, List.filter_nil]
theorem cand_len (L : List Nd) (p q r : Int) (k : Nat) : (cand L p q r k).length ≤ k := by
  unfold cand
  exact Nat.le_trans (List.length_filter_le _ _) (by simp)
theorem cand_lt (L : List Nd) (p q r : Int) (k : Nat) : ∀ u ∈ cand L p q r k, u < k := by
  intro u hu
  unfold cand at hu
  simpa using (List.mem_filter.1 hu).1
def RankOf (L : List Nd) (p q r : Int) (R : List Nat) : Prop := R.Perm (cand L p q r L.length) ∧ R.Pairwise (fun i j => bef (scL L p q r) (nmL L) j i = false)
def scs (L : List Nd) (p q r : Int) (N k : Nat) : List Int := (List.range N).map fun i => if i < k then scL L p q r i else 0
theorem scs_zero (L : List Nd) (p q r : Int) (N : Nat) : scs L p q r N 0 = List.replicate N 0 := by
  unfold scs
  apply List.ext_getElem
  · simp
  · intro i h1 h2
    simp
theorem scs_at {L : List Nd} {p q r : Int} {N k i : Nat} (h : i < N) : (scs L p q r N k)[i]? = some (if i < k then scL L p q r i else 0) := by
  simp [scs, h]
theorem scs_set (L : List Nd) (p q r : Int) (N k : Nat) (h : k < N) : (scs L p q r N k).set k (scL L p q r k) = scs L p q r N (k + 1) := by
  apply List.ext_getElem?
  intro i
  rw [List.getElem?_set]
  by_cases hi : i < N
  · rw [scs_at hi, scs_at hi]
    by_cases e : k = i
    · subst e
      rw [if_pos rfl, if_pos (by simpa [scs] using h), if_pos (by omega)]
    · rw [if_neg e]
      by_cases h2 : i < k
      · rw [if_pos h2, if_pos (by omega)]
      · rw [if_neg h2, if_neg (by omega)]
  · rw [if_neg (by omega), List.getElem?_eq_none (by simp [scs]; omega), List.getElem?_eq_none (by simp [scs]; omega)]
theorem ownD_keep {w w' : World} {base : Nat} {v : Value} {l : List Nat} (h : OwnD w base v l) (hk : ∀ k, base ≤ k → k < w.heap.size → w'.heap[k]? = w.heap[k]?) : OwnD w' base v l := by
  refine ⟨h.1, ?_⟩
  rcases h.2 with hn | ⟨g, cap, cur, rfl, hg, hgg, r⟩
  · exact .inl hn
  · exact .inr ⟨g, cap, cur, rfl, hg, by rw [hk g hg (Array.getElem?_eq_some_iff.1 hgg).1]; exact hgg, r⟩
structure RK (w W : World) (A : Option Addr) (N c : Nat) (L : List Nd) (p q r : Int) (k : Nat) (v : Value) : Prop where
  b : Below w.heap.size w W
  bl : W.heap[w.heap.size]? = some (.cells #[.slice A N c] 36 (0, 0))
  bv : Vc.BK W (w.heap.size + 1) p q r
  gs : RowS W (w.heap.size + 2) (scs L p q r N k)
  bs : W.heap[w.heap.size + 3]? = some (.cells #[.slice (some ⟨w.heap.size + 2, 0, none⟩) N N] 275 (0, 0))
  own : OwnD W (w.heap.size + 4) v (cand L p q r k)
theorem RK.sort {w W : World} {A : Option Addr} {N c : Nat} {L : List Nd} {p q r : Int} {v : Value} (h : RK w W A N c L p q r N v) (hA : NodesAt w w.heap.size A L) (hN : L.length = N) (h1000 : N ≤ 1000) (hlen : ∀ n ∈ L, n.s.length ≤ 281474976710656) :
    Calls Tryz.prog 191 #[v, .func (.func 192) #[] #[.pointer (some ⟨w.heap.size + 1 + 1 + 1, 0, none⟩), .pointer (some ⟨w.heap.size, 0, none⟩)]] W fun e w' => e = .returned (.tuple #[]) ∧
      ∃ A' cap' R, v = .slice A' R.length cap' ∧ RankOf L p q r R ∧ DigsAt w' w'.heap.size A' R ∧ Below w.heap.size w w' := by
  have hcl := cand_len L p q r N
  have hlt := cand_lt L p q r N
  by_cases hc0 : cand L p q r N = []
  · have own := h.own
    rw [hc0] at own
    obtain ⟨A', cap', rfl, _⟩ := own.form
    refine (sort_none W A' cap' _ _).mono ?_
    rintro e w' ⟨rfl, hb⟩
    refine ⟨rfl, A', cap', [], rfl, ⟨by rw [hN, hc0], List.Pairwise.nil⟩, DigsAt.nil _ _ _, h.b.trans (hb.mono h.b.size)⟩
  · have own0 := h.own
    rcases h.own.2 with ⟨_, hn⟩ | ⟨g, cap, cur, rfl, hg, hgg, hcc, hm, _⟩
    · exact absurd (List.eq_nil_of_length_eq_zero hn) hc0
    · have hNp : 0 < N := by
        rcases Nat.eq_zero_or_pos N with h0 | h0
        · subst h0
          exact absurd rfl hc0
        · exact h0
      obtain ⟨b0, off0, rfl, hb0, hcells⟩ := hA (fun e => by rw [e] at hN; simp at hN; omega)
      have hgl : g < W.heap.size := (Array.getElem?_eq_some_iff.1 hgg).1
      have O : Ord W (w.heap.size + 1 + 1 + 1) w.heap.size (w.heap.size + 2) b0 off0 c N (scL L p q r) (nmL L) := {
        hs := by simp only [World.cell?, show w.heap.size + 1 + 1 + 1 = w.heap.size + 3 from rfl, h.bs]; rfl
        hl := by simp only [World.cell?, h.bl]; rfl
        hS := fun i hi => h.gs.cell i _ (by rw [scs_at hi, if_pos hi])
        hN := fun i hi => by
          have hil : i < L.length := by omega
          have := ((hcells i L[i] (List.getElem?_eq_getElem hil)).keep (h.b.block b0 hb0)).c0
          rw [this]
          simp [nmL, hil]
        len := fun i hi => by
          have hil : i < L.length := by omega
          have := hlen L[i] (List.getElem_mem hil)
          simpa [nmL, hil] using this
        l1 := (Array.getElem?_eq_some_iff.1 h.bs).1
        l2 := (Array.getElem?_eq_some_iff.1 h.bl).1
        l3 := h.gs.lt
        l4 := by have := h.b.size; omega }
      have hrow : RowC W g (cand L p q r N) := by
        intro j u hu
        constructor
        · have := own0.cells (g := g) rfl j (.int .i64 (u : Int)) (by simp [dC, hu])
          unfold Addr.add at this
          split at this
          · subst j; simpa using this
          · simpa using this
        · simp [World.frozen?, hgg]
      refine (sort_any W _ _ _ _ _ _ _ g cap _ _ O (by omega) (by omega) (by omega) (by omega) (by omega) (cand L p q r N) hc0 hlt hrow hgl (by omega)).mono ?_
      rintro e w' ⟨rfl, R, h1, h2, h3, h4, h5⟩
      refine ⟨rfl, some ⟨g, 0, none⟩, cap, R, by rw [h1.length_eq], ⟨by rw [hN]; exact h1, h2⟩, fun _ => ⟨g, 0, rfl, by omega, fun j u hu => by rw [Nat.zero_add]; exact (h3 j u hu).1⟩, h.b.trans (h5 _ (by omega))⟩
set_option maxHeartbeats 2000000 in
theorem rank_any (L : List Nd) (A : Option Addr) (N c : Nat) (p q r : Int) (w : World) (hA : NodesAt w w.heap.size A L) (hN : L.length = N) (h1000 : N ≤ 1000) (hok : ∀ n ∈ L, Nok n) (bp : I64 p) (bq : I64 q) (br : I64 r) :
    Calls Tryz.prog 155 #[.slice A N c, .agg #[.int .i64 p, .int .i64 q, .int .i64 r]] w fun e w' => ∃ A' cap' R, e = .returned (.slice A' R.length cap') ∧ RankOf L p q r R ∧ DigsAt w' w'.heap.size A' R ∧ Below w.heap.size w w' := by
  have hmk := fun W => mkS W N (by omega)
  have KS := Lib.hid fun (n : Nd) (hn : n ∈ L) (W : World) => score_any n p q r W (hok n hn) bp bq br
  have HA := Lib.hid hA
  have HN := Lib.hid hN
  have HL := Lib.hid (fun n hn => (hok n hn).s)
  clear hA hN hok bp bq br
  go_enter Tryz.func155, Tryz.ntmps155
  go_wp2_with fail
  go_loopw [5, 14] (fun t5 t14 wr => ∃ (k : Nat) (v : Value), k ≤ N ∧ t5 = v ∧ t14 = .int .i64 k ∧ RK w wr A N c L p q r k v) (fun _ t14 _ => N - (intOf t14).toNat)
  case atStart =>
    refine ⟨0, _, Nat.zero_le _, rfl, rfl, ?_⟩
    have h1 := below3 w (.cells #[.slice A N c] 36) (.cells #[.int .i64 p, .int .i64 q, .int .i64 r] 28) (.cells (Array.replicate N (.int .i64 0)) 2)
    have hz3 : (((w.alloc (.cells #[.slice A N c] 36)).alloc (.cells #[.int .i64 p, .int .i64 q, .int .i64 r] 28)).alloc (.cells (Array.replicate N (.int .i64 0)) 2)).heap.size = w.heap.size + 3 := by simp
    have hz2 : ((w.alloc (.cells #[.slice A N c] 36)).alloc (.cells #[.int .i64 p, .int .i64 q, .int .i64 r] 28)).heap.size = w.heap.size + 2 := by simp
    refine ⟨h1.alloc (by omega) _, ?_, ?_, ?_, ?_, Vc.OwnD.nil _ _⟩
    · rw [Below.heap_alloc _ _ _ (by omega), Below.heap_alloc _ _ _ (by omega), Below.heap_alloc _ _ _ (by simp)]
      exact heap_alloc_new w _
    · have := ((Vc.BK.new (w.alloc (.cells #[.slice A N c] 36)) p q r).alloc (.cells (Array.replicate N (.int .i64 0)) 2)).alloc (.cells #[.slice (some ⟨w.heap.size + 1 + 1, 0, none⟩) N N] 275)
      rw [World.size_alloc] at this
      exact this
    · unfold RowS
      rw [Below.heap_alloc _ _ _ (by omega), scs_zero]
      have := heap_alloc_new ((w.alloc (.cells #[.slice A N c] 36)).alloc (.cells #[.int .i64 p, .int .i64 q, .int .i64 r] 28)) (.cells (Array.replicate N (.int .i64 0)) 2)
      rw [hz2] at this
      rw [this]
      simp
    · have := heap_alloc_new (((w.alloc (.cells #[.slice A N c] 36)).alloc (.cells #[.int .i64 p, .int .i64 q, .int .i64 r] 28)).alloc (.cells (Array.replicate N (.int .i64 0)) 2)) (.cells #[.slice (some ⟨w.heap.size + 1 + 1, 0, none⟩) N N] 275)
      rw [hz3] at this
      exact this
  case round =>
    obtain ⟨k, v, hk, rfl, rfl, hR⟩ := hrel
    have HR := Lib.hid hR
    clear hR
    by_cases hp : k < N
    · have hkl : k < L.length := by rw [HN.out]; exact hp
      obtain ⟨b0, off0, rfl, hb0, hcells⟩ := HA.out (fun e => by rw [e] at hkl; cases hkl)
      have hn := List.getElem?_eq_getElem hkl
      generalize hnd : L[k] = n at *
      have hmem : n ∈ L := by rw [← hnd]; exact List.getElem_mem hkl
      obtain ⟨c0, c1, c2, c3, c4, c5, c6, c7⟩ := (hcells k n hn).keep (HR.out.b.block b0 hb0)
      have hp' : (k : Int) < N := by omega
      have KN := Lib.hid (KS.out n hmem)
      have HCN := Lib.hid hn
      clear hcells hnd hmem hn KS
      have hBL := (HR.out.bl)
      have hb1 := (Below.refl wr.heap.size wr).alloc (Nat.le_refl _) (.cells (nodeC n).toArray 43)
      have hw1 : w.heap.size + 4 ≤ wr.heap.size := by have := (Array.getElem?_eq_some_iff.1 HR.out.bs).1; omega
      obtain ⟨v0, v1, v2⟩ := (HR.out.bv.on hb1 (by omega)).c3
      have s0 : (wr.alloc (.cells (nodeC n).toArray 43)).cell? ⟨w.heap.size + 1 + 1 + 1, 0, none⟩ = some (.slice (some ⟨w.heap.size + 1 + 1, 0, none⟩) N N) := by
        simp only [World.cell?, hb1.block (w.heap.size + 1 + 1 + 1) (by omega), show w.heap.size + 1 + 1 + 1 = w.heap.size + 3 from rfl, HR.out.bs]
        rfl
      obtain ⟨n0, n1, n2, n3, n4, n5, n6, n7⟩ := (NK.new wr n).cells
      have R1 := Lib.hid (HR.out.gs.keep (hb1.block (w.heap.size + 2) (by omega)))
      have B1 := Lib.hid hb1
      have HW1 := Lib.hid hw1
      have NKH := Lib.hid (NK.new wr n)
      have WS : wr.heap.size < (wr.alloc (.cells (nodeC n).toArray 43)).heap.size := by simp
      unfold nodeV at KN
      unfold nodeC at v0 v1 v2 s0 n0 n1 n2 n3 n4 n5 n6 n7 R1 B1 NKH KN WS
      clear hb1 hBL hw1
      go_wp2_with fail
      generalize (wr.alloc (.cells #[.string (Nm.str n.s), .int .i64 n.a, .int .i64 n.b, .int .i64 n.c, .int .i64 n.x, .int .i64 n.y, .int .i64 n.z, .bool n.d] 43)) = W1 at *
      have hsc : (scs L p q r N k)[k]? = some 0 := by rw [scs_at hp, if_neg (by omega)]
      have hset := scs_set L p q r N k hp
      have hscv : scL L p q r k = nscore n p q r := by unfold scL; rw [HCN.out]; rfl
      rw [hscv] at hset
      generalize hSv : nscore n p q r = S at *
      have HSET := Lib.hid hset
      have HSC := Lib.hid hscv
      have e0 : W1.drew.cell? ⟨w.heap.size + 1 + 1 + 1, 0, none⟩ = some (.slice (some ⟨w.heap.size + 1 + 1, 0, none⟩) N N) := s0
      have HQ : ∀ w5 : World, Below W1.drew.heap.size W1.drew w5 → w5.cell? ⟨w.heap.size + 1 + 1 + 1, 0, none⟩ = some (.slice (some ⟨w.heap.size + 1 + 1, 0, none⟩) N N) ∧ w5.cell? ⟨w.heap.size + 1 + 1, k, none⟩ = some (.int .i64 0) ∧ w5.frozen? ⟨w.heap.size + 1 + 1, k, none⟩ = false := by
        intro w5 h
        have hz : W1.drew.heap.size = W1.heap.size := rfl
        have h1 := h.block (w.heap.size + 1 + 1 + 1) (by have := HW1.out; omega)
        have h2 := h.block (w.heap.size + 1 + 1) (by have := HW1.out; omega)
        exact ⟨(cell_of_heap h1).trans e0, (R1.out.keep h2).cell k 0 hsc, (R1.out.keep h2).frozen k⟩
      have HQ := Lib.hid HQ
      clear hset hscv hsc hSv
      go_region_law (first | (go_simp; go_at_call 190; refine (KN.out _).mono ?_; rintro e w5 ⟨rfl, hb5⟩; have HB5 := Lib.hid hb5; obtain ⟨g1, g2, g3⟩ := HQ.out _ hb5; clear hb5))
      all_goals
        have hK6 : ∀ j, j < wr.heap.size → j ≠ w.heap.size + 2 → (w5.setCell ⟨w.heap.size + 1 + 1, k, none⟩ (.int .i64 S)).heap[j]? = wr.heap[j]? := by
          intro j hj hj2
          rw [Below.heap_setCell _ _ _ _ (by exact hj2)]
          exact (HB5.out.block j (by show j < W1.heap.size; omega)).trans (B1.out.block j hj)
        have hR6 : RowS (w5.setCell ⟨w.heap.size + 1 + 1, k, none⟩ (.int .i64 S)) (w.heap.size + 2) (scs L p q r N (k + 1)) := by
          rw [← HSET.out]
          exact (R1.out.keep (W' := w5) (HB5.out.block (w.heap.size + 2) (by show _ < W1.heap.size; have := HW1.out; omega))).set k S
        have hb6 : Below w.heap.size w (w5.setCell ⟨w.heap.size + 1 + 1, k, none⟩ (.int .i64 S)) :=
          (HR.out.b.trans ((B1.out.trans ((Below.refl _ W1).drew.trans (HB5.out.mono (by show _ ≤ W1.heap.size; omega)))).mono (by have := HW1.out; omega))).setCell (by show _ ≤ w.heap.size + 1 + 1; omega) _
        have hz6 : wr.heap.size ≤ (w5.setCell ⟨w.heap.size + 1 + 1, k, none⟩ (.int .i64 S)).heap.size := by
          have h1 := HB5.out.size
          have h2 : W1.drew.heap.size = W1.heap.size := rfl
          have h3 : (w5.setCell ⟨w.heap.size + 1 + 1, k, none⟩ (.int .i64 S)).heap.size = w5.heap.size := by simp [World.setCell]
          omega
        clear HB5 g1 g2 g3
        generalize w5.setCell ⟨w.heap.size + 1 + 1, k, none⟩ (.int .i64 S) = w6 at *
        have K6 := Lib.hid hK6
        have R6 := Lib.hid hR6
        have B6 := Lib.hid hb6
        have Z6 := Lib.hid hz6
        have x0 : w6.cell? ⟨w.heap.size + 1 + 1 + 1, 0, none⟩ = some (.slice (some ⟨w.heap.size + 1 + 1, 0, none⟩) N N) := by
          simp only [World.cell?, hK6 (w.heap.size + 1 + 1 + 1) (by have := HW1.out; omega) (by omega), show w.heap.size + 1 + 1 + 1 = w.heap.size + 3 from rfl, HR.out.bs]
          rfl
        have x1 : w6.cell? ⟨w.heap.size + 1 + 1, k, none⟩ = some (.int .i64 S) := by
          refine hR6.cell k S ?_
          rw [scs_at hp, if_pos (by omega), HSC.out]
        have OWN := Lib.hid (ownD_keep HR.out.own (w' := w6) (fun j h1 h2 => hK6 j h2 (by omega)))
        clear hK6 hR6 hb6 hz6 R1 B1 NKH
        have CS := Lib.hid (cand_succ L p q r k)
        by_cases hS : S = -1
        · have hSb : (S != -1) = false := by simp [hS]
          have hcand : Hid (cand L p q r (k + 1) = cand L p q r k) := Lib.hid (by rw [CS.out, HSC.out, hSb]; simp)
          clear hS
          go_wp2_with fail
          go_roundw
          case rel => exact ⟨k + 1, _, by omega, rfl, by go_num, ⟨B6.out, (K6.out _ (by have := HW1.out; omega) (by omega)).trans HR.out.bl, (K6.out _ (by have := HW1.out; omega) (by omega)).trans HR.out.bv, R6.out, (K6.out _ (by have := HW1.out; omega) (by omega)).trans HR.out.bs, by rw [hcand.out]; exact OWN.out⟩⟩
          case measure => simp [intOf] <;> omega
        · have hSb : (S != -1) = true := by simpa using hS
          have hcand : Hid (cand L p q r (k + 1) = cand L p q r k ++ [k]) := Lib.hid (by rw [CS.out, HSC.out, hSb]; simp)
          have V1 := Lib.hid (Vc.digs_new w6 [k])
          have OW := Lib.hid (OWN.out.below ((Below.refl _ w6).alloc (Nat.le_refl _) (.cells (dC [k]).toArray 3)))
          have OL := Lib.hid (show (cand L p q r k).length + 1 ≤ 1000000 by have := cand_len L p q r k; omega)
          clear hS
          go_wp2_with (at_builtin; (refine Vc.wp_appD rfl (.tmp 30) (.tmp 32) rfl (w.heap.size + 4) _ (cand L p q r k) rfl OW.out (some ⟨w6.heap.size, 0, none⟩) 1 1 _ [k] rfl (fun h => by cases h) V1.out rfl (by omega) OL.out (by have := Z6.out; have := HW1.out; simp; omega) ?_); intro v3 w3 own3 hb3; have O3 := Lib.hid own3; have B3 := Lib.hid hb3; clear own3 hb3)
          go_roundw
          case rel =>
            have hz7 : w6.heap.size ≤ (w6.alloc (.cells #[.int .i64 (k : Nat)] 3)).heap.size := by simp
            have KK : ∀ j, j < w.heap.size + 4 → w3.heap[j]? = w6.heap[j]? := fun j hj =>
              (B3.out.block j hj).trans (Below.heap_alloc w6 _ j (by have := HW1.out; have := Z6.out; omega))
            refine ⟨k + 1, _, by omega, rfl, by go_num, ⟨(B6.out.alloc (by have := HW1.out; have := Z6.out; omega) _).trans (B3.out.mono (by omega)), ?_, ?_, R6.out.keep (KK _ (by omega)), ?_, by rw [hcand.out]; exact O3.out⟩⟩
            · exact ((KK _ (by omega)).trans (K6.out _ (by have := HW1.out; omega) (by omega))).trans HR.out.bl
            · exact ((KK _ (by omega)).trans (K6.out _ (by have := HW1.out; omega) (by omega))).trans HR.out.bv
            · exact ((KK _ (by omega)).trans (K6.out _ (by have := HW1.out; omega) (by omega))).trans HR.out.bs
          case measure => simp [intOf] <;> omega
    · obtain rfl : k = N := by omega
      have hd8 : decide ((k : Int) < k) = false := by simp
      have hd9 : decide (k < k) = false := by simp
      go_wp2_with (go_at_call 191; refine (HR.out.sort HA.out HN.out h1000 HL.out).mono ?_; rintro e w1 ⟨rfl, A', cap', R, rfl, h1, h2, h3⟩; have H1 := Lib.hid h1; have H2 := Lib.hid h2; have H3 := Lib.hid h3; clear h1 h2 h3)
      go_ret
      exact ⟨A', cap', R, rfl, H1.out, H2.out, H3.out⟩
end Go.Proofs.YtphclpjekpdifaaGreat
namespace Go.Proofs.YtphclpjekpdifaaGreat
set_option maxRecDepth 20000
open Go.RowKit
open Go.Proofs.YtphclpjekpdifaaGreat.Nm (Gr)
open Go.Proofs.YtphclpjekpdifaaGreat.Vc (I64 OwnD DigsAt dC fitB RetBelow)
set_option linter.unusedVariables false
def Chosen (L : List Nd) (p q r : Int) (i e : Nat) : Prop :=
  (fitB 0 0 0 p q r = false ∧ i = 0 ∧ e = 1) ∨ (fitB 0 0 0 p q r = true ∧ cand L p q r L.length = [] ∧ i = 0 ∧ e = 12) ∨
    (fitB 0 0 0 p q r = true ∧ e = 0 ∧ i ∈ cand L p q r L.length ∧ ∀ j ∈ cand L p q r L.length, bef (scL L p q r) (nmL L) j i = false)
theorem chosen_one {L : List Nd} {p q r : Int} {i e i' e' : Nat} (h : Chosen L p q r i e) (h' : Chosen L p q r i' e') : i = i' ∧ e = e' := by
  rcases h with ⟨a, b, c⟩ | ⟨a, b, c, d⟩ | ⟨a, b, c, d⟩ <;> rcases h' with ⟨a', b', c'⟩ | ⟨a', b', c', d'⟩ | ⟨a', b', c', d'⟩
  · exact ⟨b.trans b'.symm, c.trans c'.symm⟩
  · rw [a] at a'; cases a'
  · rw [a] at a'; cases a'
  · rw [a] at a'; cases a'
  · exact ⟨c.trans c'.symm, d.trans d'.symm⟩
  · rw [b] at c'; cases c'
  · rw [a] at a'; cases a'
  · rw [b'] at c; cases c
  · exact ⟨bef_total (d' i c) (d i' c'), b.trans b'.symm⟩
set_option maxHeartbeats 1000000 in
theorem choose_any (L : List Nd) (A : Option Addr) (N c : Nat) (p q r : Int) (w : World) (hA : NodesAt w w.heap.size A L) (hN : L.length = N) (h1000 : N ≤ 1000) (hok : ∀ n ∈ L, Nok n) (bp : I64 p) (bq : I64 q) (br : I64 r) :
    Calls Tryz.prog 122 #[.slice A N c, .agg #[.int .i64 p, .int .i64 q, .int .i64 r]] w fun e w' => ∃ i er : Nat, e = .returned (.tuple #[.int .i64 (i : Nat), .int .i64 (er : Nat)]) ∧ Chosen L p q r i er ∧ Below w.heap.size w w' := by
  have k1 := Lib.hid fun W : World => Vc.may_any p q r W
  have k2 := Lib.hid fun (W : World) (h : Below w.heap.size w W) => rank_any L A N c p q r W ((hA.on h).mono h.size) hN h1000 hok bp bq br
  have V := Lib.hid (Vc.BK.new w p q r)
  have B := Lib.hid ((Below.refl w.heap.size w).alloc (Nat.le_refl _) (.cells #[.int .i64 p, .int .i64 q, .int .i64 r] 28))
  clear hA hok bp bq br
  cases hv : fitB 0 0 0 p q r with
  | false =>
    have HV := Lib.hid hv
    rw [hv] at k1
    clear hv
    go_enter Tryz.func122, Tryz.ntmps122
    go_wp2_with (go_at_call 118; (with_reducible refine (k1.out _).mono ?_); rintro e w1 ⟨rfl, hb⟩; have B1 := Lib.hid (B.out.trans (hb.mono B.out.size)); clear hb)
    go_ret2
    exact ⟨0, 1, rfl, .inl ⟨HV.out, rfl, rfl⟩, B1.out⟩
  | true =>
    have HV := Lib.hid hv
    rw [hv] at k1
    clear hv
    have HC : ∀ W : World, Below (w.alloc (.cells #[.int .i64 p, .int .i64 q, .int .i64 r] 28)).heap.size (w.alloc (.cells #[.int .i64 p, .int .i64 q, .int .i64 r] 28)) W → Vc.C3 W w.heap.size p q r := fun W h => (V.out.on h (by simp)).c3
    have HC := Lib.hid HC
    obtain ⟨v0, v1, v2⟩ := V.out.c3
    go_enter Tryz.func122, Tryz.ntmps122
    go_wp2_with (go_at_call 118; (with_reducible refine (k1.out _).mono ?_); rintro e w1 ⟨rfl, hb⟩; have B1 := Lib.hid (B.out.trans (hb.mono B.out.size)); obtain ⟨v0, v1, v2⟩ := HC.out _ hb; clear hb)
    refine (k2.out _ B1.out).mono ?_
    rintro e w2 ⟨A', cap', R, rfl, hR, hD, hb⟩
    have B2 := Lib.hid (B1.out.trans (hb.mono B1.out.size))
    have HR := Lib.hid hR
    clear hb hR
    cases R with
    | nil =>
      simp only [List.length_nil]
      go_wp2_with fail
      go_ret2
      refine ⟨0, 12, rfl, .inr (.inl ⟨HV.out, ?_, rfl, rfl⟩), B2.out⟩
      exact List.Perm.eq_nil HR.out.1.symm
    | cons i R =>
      obtain ⟨b, off, rfl, hbl, hcell⟩ := hD (by simp)
      have hc0 := hcell 0 i rfl
      rw [Nat.add_zero] at hc0
      have hl0 : ((((i :: R).length : Nat) : Int) == 0) = false := by simp <;> omega
      have hl1 : (0 : Int) < (((i :: R).length : Nat) : Int) := by simp <;> omega
      generalize hm : (i :: R).length = m at *
      clear hcell
      go_wp2_with fail
      go_ret2
      refine ⟨i, 0, rfl, .inr (.inr ⟨HV.out, rfl, HR.out.1.mem_iff.1 (by simp), fun j hj => ?_⟩), B2.out⟩
      have hj' := HR.out.1.mem_iff.2 hj
      have hp := List.pairwise_cons.1 HR.out.2
      rcases List.mem_cons.1 hj' with rfl | h
      · exact bef_irrefl _ _ _
      · exact hp.1 j h
def nA : Nd := ⟨[97], 4, 0, 0, 2, 0, 0, false⟩
def nB : Nd := ⟨[98], 4, 0, 0, 1, 0, 0, false⟩
def nZ : Nd := ⟨[], 0, 0, 0, 0, 0, 0, false⟩
def LB (W : World) (g : Nat) : Prop := W.heap[g]? = some (.cells #[.string ⟨#[97]⟩, .int .i64 4, .int .i64 0, .int .i64 0, .int .i64 2, .int .i64 0, .int .i64 0, .bool false, .string ⟨#[98]⟩, .int .i64 4, .int .i64 0, .int .i64 0, .int .i64 1, .int .i64 0, .int .i64 0, .bool false] 43 (0, 0))
theorem LB.nodes {W : World} {g : Nat} (h : LB W g) : NodesAt W W.heap.size (some ⟨g, 0, none⟩) [nA, nB] := fun _ => by
  refine ⟨g, 0, rfl, (Array.getElem?_eq_some_iff.1 h).1, ?_⟩
  unfold LB at h
  intro j n hn
  match j, hn with
  | 0, hn =>
    obtain rfl : nA = n := by simpa using hn
    constructor <;> simp [World.cell?, h, nA, Nm.str]
  | 1, hn =>
    obtain rfl : nB = n := by simpa using hn
    constructor <;> simp [World.cell?, h, nB, Nm.str]
  | k + 2, hn => simp at hn
structure LC (W : World) (g : Nat) : Prop where
  c0 : W.cell? ⟨g, 0, none⟩ = some (.string ⟨#[97]⟩)
  c1 : W.cell? ⟨g, 1, none⟩ = some (.int .i64 4)
  c2 : W.cell? ⟨g, 2, none⟩ = some (.int .i64 0)
  c3 : W.cell? ⟨g, 3, none⟩ = some (.int .i64 0)
  c4 : W.cell? ⟨g, 4, none⟩ = some (.int .i64 2)
  c5 : W.cell? ⟨g, 5, none⟩ = some (.int .i64 0)
  c6 : W.cell? ⟨g, 6, none⟩ = some (.int .i64 0)
  c7 : W.cell? ⟨g, 7, none⟩ = some (.bool false)
  c8 : W.cell? ⟨g, 8, none⟩ = some (.string ⟨#[98]⟩)
  c9 : W.cell? ⟨g, 9, none⟩ = some (.int .i64 4)
  c10 : W.cell? ⟨g, 10, none⟩ = some (.int .i64 0)
  c11 : W.cell? ⟨g, 11, none⟩ = some (.int .i64 0)
  c12 : W.cell? ⟨g, 12, none⟩ = some (.int .i64 1)
  c13 : W.cell? ⟨g, 13, none⟩ = some (.int .i64 0)
  c14 : W.cell? ⟨g, 14, none⟩ = some (.int .i64 0)
  c15 : W.cell? ⟨g, 15, none⟩ = some (.bool false)
theorem LB.cells {W : World} {g : Nat} (h : LB W g) : LC W g := by
  unfold LB at h
  constructor <;> simp [World.cell?, h]
theorem LB.on {W W' : World} {g : Nat} (h : LB W g) (hb : Below W.heap.size W W') : LB W' g := (hb.block g (Array.getElem?_eq_some_iff.1 h).1).trans h
end Go.Proofs.YtphclpjekpdifaaGreat
namespace Go.Proofs.YtphclpjekpdifaaGreat
set_option maxRecDepth 20000
set_option linter.unusedVariables false
open Go.Proofs.YtphclpjekpdifaaGreat.Vc (fitB)
end Go.Proofs.YtphclpjekpdifaaGreat
namespace Go.Proofs.YtphclpjekpdifaaGreat
set_option linter.unusedVariables false
def insR (b : Nat → Nat → Bool) (i : Nat) : List Nat → List Nat
  | [] => [i]
  | o :: r => if b i o then i :: o :: r else o :: insR b i r
theorem insR_perm (b : Nat → Nat → Bool) (i : Nat) : ∀ l, (insR b i l).Perm (i :: l)
  | [] => List.Perm.refl _
  | o :: r => by
    unfold insR
    split
    · exact List.Perm.refl _
    · exact ((insR_perm b i r).cons o).trans (List.Perm.swap i o r)
theorem insR_sorted {b : Nat → Nat → Bool} (hi : ∀ i, b i i = false) (ht : ∀ i j k, b i j = true → b j k = true → b i k = true) (i : Nat) : ∀ l, l.Pairwise (fun x y => b y x = false) → (insR b i l).Pairwise (fun x y => b y x = false)
  | [], _ => by unfold insR; simp
  | o :: r, h => by
    have hc := List.pairwise_cons.1 h
    unfold insR
    split
    · rename_i hb
      rw [List.pairwise_cons]
      refine ⟨fun y hy => ?_, h⟩
      have nb : ∀ y, b y o = false → b y i = false := fun y hy => by
        rw [← Bool.not_eq_true]
        intro h2
        rw [ht y i o h2 hb] at hy
        cases hy
      rcases List.mem_cons.1 hy with rfl | hy
      · rw [← Bool.not_eq_true]
        intro h2
        have := ht _ _ _ hb h2
        rw [hi] at this
        cases this
      · exact nb y (hc.1 y hy)
    · rename_i hb
      rw [List.pairwise_cons]
      refine ⟨fun y hy => ?_, insR_sorted hi ht i r hc.2⟩
      have := (insR_perm b i r).mem_iff.1 hy
      rcases List.mem_cons.1 this with rfl | hy
      · exact Bool.eq_false_iff.2 hb
      · exact hc.1 y hy
end Go.Proofs.YtphclpjekpdifaaGreat
namespace Go.Proofs.YtphclpjekpdifaaGreat
open Go.RowKit
set_option linter.unusedVariables false
structure Wd (C : World → Prop) where
  X : World
  ok : C X
theorem wp_region_class {P : Program} (C : World → Prop) {id : Nat} {Q : Exit → Act → World → Prop} {a : Act} {w : World} {l : List Oper} (hm : P.follows .mixedOrders = true) (hB : Region.lexB .any l.toArray = true) (hC : C w.drew)
    (h : Nonempty (Wd C) → wpQuiet P l.toArray (fun X => ∃ Z : Wd C, X = Z.X) (fun a' => ∀ w', (∃ Z : Wd C, w' = Z.X) → Q .normal a' w') l a) : (Code.region id l.toArray true).wp P Q a w :=
  wp_region_quiet (C := fun X => ∃ Z : Wd C, X = Z.X) hm hB ⟨⟨w.drew, hC⟩, rfl⟩ (by simpa using h ⟨⟨w.drew, hC⟩⟩)
theorem Calls.in_class {P : Program} {f : FuncId} {args : Array Value} {C : World → Prop} {v : Value} (Z : Wd C) (h : Calls P f args Z.X fun e w' => e = .returned v ∧ Below Z.X.heap.size Z.X w') (hC : ∀ X, C Z.X → Below Z.X.heap.size Z.X X → C X) :
    Calls P f args Z.X fun e w'' => e = .returned v ∧ ∃ Y : Wd C, w'' = Y.X :=
  h.mono fun e w'' ⟨h1, h2⟩ => ⟨h1, ⟨w'', hC w'' Z.ok h2⟩, rfl⟩
theorem wpQuiet_struck {P : Program} {ops : Array Oper} {C : World → Prop} {Q : Act → Prop} {a : Act} {o : Oper} {rest : List Oper} (h : Region.wanted o (yielded ops a.tmps) = false) (k : wpQuiet P ops C Q rest (a.put o.dst undef)) : wpQuiet P ops C Q (o :: rest) a := by
  rw [wpQuiet, if_neg (by rw [h]; decide)]
  exact k
end Go.Proofs.YtphclpjekpdifaaGreat
