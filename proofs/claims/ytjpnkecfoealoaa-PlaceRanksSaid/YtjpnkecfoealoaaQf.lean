import Derived.Test.YtjpnkecfoealoaaQe
import Derived.LoopTactic
import Derived.Deep.RegionLaw
namespace Go.Proofs.Ytjpnkecfoealoaa
set_option maxRecDepth 20000
open Go.RowKit
open Go.Proofs.Ytjpnkecfoealoaa.Nm (Gr)
open Go.Proofs.Ytjpnkecfoealoaa.Vc (I64 OwnD DigsAt dC)
set_option linter.unusedVariables false

/-- a node's cells at a place -/
structure NCo (W : World) (g o : Nat) (n : Nd) : Prop where
  c0 : W.cell? ⟨g, o, none⟩ = some (.string (Nm.str n.s))
  c1 : W.cell? ⟨g, o + 1, none⟩ = some (.int .i64 n.a)
  c2 : W.cell? ⟨g, o + 2, none⟩ = some (.int .i64 n.b)
  c3 : W.cell? ⟨g, o + 3, none⟩ = some (.int .i64 n.c)
  c4 : W.cell? ⟨g, o + 4, none⟩ = some (.int .i64 n.x)
  c5 : W.cell? ⟨g, o + 5, none⟩ = some (.int .i64 n.y)
  c6 : W.cell? ⟨g, o + 6, none⟩ = some (.int .i64 n.z)
  c7 : W.cell? ⟨g, o + 7, none⟩ = some (.bool n.d)
theorem NCo.keep {W W' : World} {g o : Nat} {n : Nd} (h : NCo W g o n) (k : W'.heap[g]? = W.heap[g]?) : NCo W' g o n :=
  ⟨(cell_of_heap k).trans h.c0, (cell_of_heap k).trans h.c1, (cell_of_heap k).trans h.c2, (cell_of_heap k).trans h.c3, (cell_of_heap k).trans h.c4, (cell_of_heap k).trans h.c5, (cell_of_heap k).trans h.c6, (cell_of_heap k).trans h.c7⟩
/-- a slice of nodes -/
def NodesAt (W : World) (B : Nat) (A : Option Addr) (L : List Nd) : Prop :=
  L ≠ [] → ∃ g off, A = some ⟨g, off, none⟩ ∧ g < B ∧ ∀ j n, L[j]? = some n → NCo W g (off + j * 8) n
theorem NodesAt.on {W W' : World} {B : Nat} {A : Option Addr} {L : List Nd} (h : NodesAt W B A L) (hb : Below B W W') : NodesAt W' B A L := fun hne => by
  obtain ⟨g, off, h1, h2, h3⟩ := h hne
  exact ⟨g, off, h1, h2, fun j n hn => (h3 j n hn).keep (hb.block g h2)⟩
theorem NodesAt.mono {W : World} {B B' : Nat} {A : Option Addr} {L : List Nd} (h : NodesAt W B A L) (hB : B ≤ B') : NodesAt W B' A L := fun hne => by
  obtain ⟨g, off, h1, h2, h3⟩ := h hne
  exact ⟨g, off, h1, by omega, h3⟩
/-- the row of scores -/
def RowS (W : World) (g : Nat) (S : List Int) : Prop := W.heap[g]? = some (.cells (S.map (Value.int .i64)).toArray 2 (0, 0))
theorem RowS.lt {W : World} {g : Nat} {S : List Int} (h : RowS W g S) : g < W.heap.size := (Array.getElem?_eq_some_iff.1 h).1
theorem RowS.keep {W W' : World} {g : Nat} {S : List Int} (h : RowS W g S) (k : W'.heap[g]? = W.heap[g]?) : RowS W' g S := k.trans h
theorem RowS.cell {W : World} {g : Nat} {S : List Int} (h : RowS W g S) (j : Nat) (x : Int) (hx : S[j]? = some x) : W.cell? ⟨g, j, none⟩ = some (.int .i64 x) := by
  unfold RowS at h
  simp [World.cell?, h, hx]
theorem RowS.frozen {W : World} {g : Nat} {S : List Int} (h : RowS W g S) (j : Nat) : W.frozen? ⟨g, j, none⟩ = false := by
  simp [World.frozen?, show W.heap[g]? = _ from h]
theorem RowS.set {W : World} {g : Nat} {S : List Int} (h : RowS W g S) (j : Nat) (x : Int) : RowS (W.setCell ⟨g, j, none⟩ (.int .i64 x)) g (S.set j x) := by
  unfold RowS at h ⊢
  simp only [World.setCell, Array.getElem?_modify, if_pos, h, Option.map_some, List.map_set]
  simp
theorem mkS (w : World) (N : Nat) (h : N ≤ 1000000) : (Instr.makeSlice 45 (.int .i64 (N : Int)) (.int .i64 (N : Int))).run Try.prog w = .ok (.slice (some ⟨w.heap.size, 0, none⟩) N N) (w.alloc (.cells ((List.replicate N (0 : Int)).map (Value.int .i64)).toArray 2)) := by
  obtain ⟨i5, hi5, hz0, hz1, hz2⟩ := info_parts (show (Try.prog.info? 2).map (fun i => (i.zero, i.size, i.bytes)) = some (some (.int .i64 0), 1, 8) by kernel_rfl)
  have := run_make (P := Try.prog) w 45 2 i5 _ Try.underlying45 hi5 hz0 .i64 .i64 (N : Int) (N : Int) (by omega) (by omega) (by rw [hz2]; omega) (by omega)
  rw [hz1] at this
  have e : madeCells (Value.int .i64 0).cells N = ((List.replicate N (0 : Int)).map (Value.int .i64)).toArray := by
    apply Array.ext'
    rw [show (Value.int .i64 0).cells = #[.int .i64 0] from rfl, toList_madeCells_one]
    simp
  rw [Int.toNat_natCast, Nat.mul_one, e] at this
  exact this
/-- scores and names by place -/
def scL (L : List Nd) (p q r : Int) (i : Nat) : Int := ((L[i]?).map fun n => nscore n p q r).getD (-1)
def nmL (L : List Nd) (i : Nat) : List UInt8 := ((L[i]?).map Nd.s).getD []
/-- the indexes of those that take it, as they stand -/
def cand (L : List Nd) (p q r : Int) (k : Nat) : List Nat := (List.range k).filter fun i => scL L p q r i != -1
theorem cand_succ (L : List Nd) (p q r : Int) (k : Nat) : cand L p q r (k + 1) = cand L p q r k ++ (if scL L p q r k != -1 then [k] else []) := by
  unfold cand
  rw [List.range_succ, List.filter_append]
  congr 1
  simp only [List.filter_cons, List.filter_nil]
theorem cand_len (L : List Nd) (p q r : Int) (k : Nat) : (cand L p q r k).length ≤ k := by
  unfold cand
  exact Nat.le_trans (List.length_filter_le _ _) (by simp)
theorem cand_lt (L : List Nd) (p q r : Int) (k : Nat) : ∀ u ∈ cand L p q r k, u < k := by
  intro u hu
  unfold cand at hu
  simpa using (List.mem_filter.1 hu).1
def RankOf (L : List Nd) (p q r : Int) (R : List Nat) : Prop := R.Perm (cand L p q r L.length) ∧ R.Pairwise (fun i j => bef (scL L p q r) (nmL L) j i = false)
/-- the scores up to k -/
def scs (L : List Nd) (p q r : Int) (N k : Nat) : List Int := (List.range N).map fun i => if i < k then scL L p q r i else 0
theorem scs_zero (L : List Nd) (p q r : Int) (N : Nat) : scs L p q r N 0 = List.replicate N 0 := by
  unfold scs
  apply List.ext_getElem
  · simp
  · intro i h1 h2
    simp
theorem scs_at {L : List Nd} {p q r : Int} {N k i : Nat} (h : i < N) : (scs L p q r N k)[i]? = some (if i < k then scL L p q r i else 0) := by
  simp [scs, h]
theorem scs_set (L : List Nd) (p q r : Int) (N k : Nat) (h : k < N) : (scs L p q r N k).set k (scL L p q r k) = scs L p q r N (k + 1) := by
  apply List.ext_getElem?
  intro i
  rw [List.getElem?_set]
  by_cases hi : i < N
  · rw [scs_at hi, scs_at hi]
    by_cases e : k = i
    · subst e
      rw [if_pos rfl, if_pos (by simpa [scs] using h), if_pos (by omega)]
    · rw [if_neg e]
      by_cases h2 : i < k
      · rw [if_pos h2, if_pos (by omega)]
      · rw [if_neg h2, if_neg (by omega)]
  · rw [if_neg (by omega), List.getElem?_eq_none (by simp [scs]; omega), List.getElem?_eq_none (by simp [scs]; omega)]

theorem ownD_keep {w w' : World} {base : Nat} {v : Value} {l : List Nat} (h : OwnD w base v l) (hk : ∀ k, base ≤ k → k < w.heap.size → w'.heap[k]? = w.heap[k]?) : OwnD w' base v l := by
  refine ⟨h.1, ?_⟩
  rcases h.2 with hn | ⟨g, cap, cur, rfl, hg, hgg, r⟩
  · exact .inl hn
  · exact .inr ⟨g, cap, cur, rfl, hg, by rw [hk g hg (Array.getElem?_eq_some_iff.1 hgg).1]; exact hgg, r⟩
structure RK (w W : World) (A : Option Addr) (N c : Nat) (L : List Nd) (p q r : Int) (k : Nat) (v : Value) : Prop where
  b : Below w.heap.size w W
  bl : W.heap[w.heap.size]? = some (.cells #[.slice A N c] 22 (0, 0))
  bv : Vc.BK W (w.heap.size + 1) p q r
  gs : RowS W (w.heap.size + 2) (scs L p q r N k)
  bs : W.heap[w.heap.size + 3]? = some (.cells #[.slice (some ⟨w.heap.size + 2, 0, none⟩) N N] 45 (0, 0))
  own : OwnD W (w.heap.size + 4) v (cand L p q r k)
theorem RK.sort {w W : World} {A : Option Addr} {N c : Nat} {L : List Nd} {p q r : Int} {v : Value} (h : RK w W A N c L p q r N v) (hA : NodesAt w w.heap.size A L) (hN : L.length = N) (h1000 : N ≤ 1000) (hlen : ∀ n ∈ L, n.s.length ≤ 281474976710656) :
    Calls Try.prog 24 #[v, .func (.func 25) #[] #[.pointer (some ⟨w.heap.size + 1 + 1 + 1, 0, none⟩), .pointer (some ⟨w.heap.size, 0, none⟩)]] W fun e w' => e = .returned (.tuple #[]) ∧
      ∃ A' cap' R, v = .slice A' R.length cap' ∧ RankOf L p q r R ∧ DigsAt w' w'.heap.size A' R ∧ Below w.heap.size w w' := by
  have hcl := cand_len L p q r N
  have hlt := cand_lt L p q r N
  by_cases hc0 : cand L p q r N = []
  · have own := h.own
    rw [hc0] at own
    obtain ⟨A', cap', rfl, _⟩ := own.form
    refine (sort_none W A' cap' _ _).mono ?_
    rintro e w' ⟨rfl, hb⟩
    refine ⟨rfl, A', cap', [], rfl, ⟨by rw [hN, hc0], List.Pairwise.nil⟩, DigsAt.nil _ _ _, h.b.trans (hb.mono h.b.size)⟩
  · have own0 := h.own
    rcases h.own.2 with ⟨_, hn⟩ | ⟨g, cap, cur, rfl, hg, hgg, hcc, hm, _⟩
    · exact absurd (List.eq_nil_of_length_eq_zero hn) hc0
    · have hNp : 0 < N := by
        rcases Nat.eq_zero_or_pos N with h0 | h0
        · subst h0
          exact absurd rfl hc0
        · exact h0
      obtain ⟨b0, off0, rfl, hb0, hcells⟩ := hA (fun e => by rw [e] at hN; simp at hN; omega)
      have hgl : g < W.heap.size := (Array.getElem?_eq_some_iff.1 hgg).1
      have O : Ord W (w.heap.size + 1 + 1 + 1) w.heap.size (w.heap.size + 2) b0 off0 c N (scL L p q r) (nmL L) := {
        hs := by simp only [World.cell?, show w.heap.size + 1 + 1 + 1 = w.heap.size + 3 from rfl, h.bs]; rfl
        hl := by simp only [World.cell?, h.bl]; rfl
        hS := fun i hi => h.gs.cell i _ (by rw [scs_at hi, if_pos hi])
        hN := fun i hi => by
          have hil : i < L.length := by omega
          have := ((hcells i L[i] (List.getElem?_eq_getElem hil)).keep (h.b.block b0 hb0)).c0
          rw [this]
          simp [nmL, hil]
        len := fun i hi => by
          have hil : i < L.length := by omega
          have := hlen L[i] (List.getElem_mem hil)
          simpa [nmL, hil] using this
        l1 := (Array.getElem?_eq_some_iff.1 h.bs).1
        l2 := (Array.getElem?_eq_some_iff.1 h.bl).1
        l3 := h.gs.lt
        l4 := by have := h.b.size; omega }
      have hrow : RowC W g (cand L p q r N) := by
        intro j u hu
        constructor
        · have := own0.cells (g := g) rfl j (.int .i64 (u : Int)) (by simp [dC, hu])
          unfold Addr.add at this
          split at this
          · subst j; simpa using this
          · simpa using this
        · simp [World.frozen?, hgg]
      refine (sort_any W _ _ _ _ _ _ _ g cap _ _ O (by omega) (by omega) (by omega) (by omega) (by omega) (cand L p q r N) hc0 hlt hrow hgl (by omega)).mono ?_
      rintro e w' ⟨rfl, R, h1, h2, h3, h4, h5⟩
      refine ⟨rfl, some ⟨g, 0, none⟩, cap, R, by rw [h1.length_eq], ⟨by rw [hN]; exact h1, h2⟩, fun _ => ⟨g, 0, rfl, by omega, fun j u hu => by rw [Nat.zero_add]; exact (h3 j u hu).1⟩, h.b.trans (h5 _ (by omega))⟩
set_option maxHeartbeats 2000000 in
theorem rank_any (L : List Nd) (A : Option Addr) (N c : Nat) (p q r : Int) (w : World) (hA : NodesAt w w.heap.size A L) (hN : L.length = N) (h1000 : N ≤ 1000) (hok : ∀ n ∈ L, Nok n) (bp : I64 p) (bq : I64 q) (br : I64 r) :
    Calls Try.prog 13 #[.slice A N c, .agg #[.int .i64 p, .int .i64 q, .int .i64 r]] w fun e w' => ∃ A' cap' R, e = .returned (.slice A' R.length cap') ∧ RankOf L p q r R ∧ DigsAt w' w'.heap.size A' R ∧ Below w.heap.size w w' := by
  have hmk := fun W => mkS W N (by omega)
  have KS := Lib.hid fun (n : Nd) (hn : n ∈ L) (W : World) => score_any n p q r W (hok n hn) bp bq br
  have HA := Lib.hid hA
  have HN := Lib.hid hN
  have HL := Lib.hid (fun n hn => (hok n hn).s)
  clear hA hN hok bp bq br
  go_enter Try.func13, Try.ntmps13
  go_wp2_with fail
  go_loopw [5, 14] (fun t5 t14 wr => ∃ (k : Nat) (v : Value), k ≤ N ∧ t5 = v ∧ t14 = .int .i64 k ∧ RK w wr A N c L p q r k v) (fun _ t14 _ => N - (intOf t14).toNat)
  case atStart =>
    refine ⟨0, _, Nat.zero_le _, rfl, rfl, ?_⟩
    have h1 := below3 w (.cells #[.slice A N c] 22) (.cells #[.int .i64 p, .int .i64 q, .int .i64 r] 24) (.cells (Array.replicate N (.int .i64 0)) 2)
    have hz3 : (((w.alloc (.cells #[.slice A N c] 22)).alloc (.cells #[.int .i64 p, .int .i64 q, .int .i64 r] 24)).alloc (.cells (Array.replicate N (.int .i64 0)) 2)).heap.size = w.heap.size + 3 := by simp
    have hz2 : ((w.alloc (.cells #[.slice A N c] 22)).alloc (.cells #[.int .i64 p, .int .i64 q, .int .i64 r] 24)).heap.size = w.heap.size + 2 := by simp
    refine ⟨h1.alloc (by omega) _, ?_, ?_, ?_, ?_, Vc.OwnD.nil _ _⟩
    · rw [Below.heap_alloc _ _ _ (by omega), Below.heap_alloc _ _ _ (by omega), Below.heap_alloc _ _ _ (by simp)]
      exact heap_alloc_new w _
    · have := ((Vc.BK.new (w.alloc (.cells #[.slice A N c] 22)) p q r).alloc (.cells (Array.replicate N (.int .i64 0)) 2)).alloc (.cells #[.slice (some ⟨w.heap.size + 1 + 1, 0, none⟩) N N] 45)
      rw [World.size_alloc] at this
      exact this
    · unfold RowS
      rw [Below.heap_alloc _ _ _ (by omega), scs_zero]
      have := heap_alloc_new ((w.alloc (.cells #[.slice A N c] 22)).alloc (.cells #[.int .i64 p, .int .i64 q, .int .i64 r] 24)) (.cells (Array.replicate N (.int .i64 0)) 2)
      rw [hz2] at this
      rw [this]
      simp
    · have := heap_alloc_new (((w.alloc (.cells #[.slice A N c] 22)).alloc (.cells #[.int .i64 p, .int .i64 q, .int .i64 r] 24)).alloc (.cells (Array.replicate N (.int .i64 0)) 2)) (.cells #[.slice (some ⟨w.heap.size + 1 + 1, 0, none⟩) N N] 45)
      rw [hz3] at this
      exact this
  case round =>
    obtain ⟨k, v, hk, rfl, rfl, hR⟩ := hrel
    have HR := Lib.hid hR
    clear hR
    by_cases hp : k < N
    · have hkl : k < L.length := by rw [HN.out]; exact hp
      obtain ⟨b0, off0, rfl, hb0, hcells⟩ := HA.out (fun e => by rw [e] at hkl; cases hkl)
      have hn := List.getElem?_eq_getElem hkl
      generalize hnd : L[k] = n at *
      have hmem : n ∈ L := by rw [← hnd]; exact List.getElem_mem hkl
      obtain ⟨c0, c1, c2, c3, c4, c5, c6, c7⟩ := (hcells k n hn).keep (HR.out.b.block b0 hb0)
      have hp' : (k : Int) < N := by omega
      have KN := Lib.hid (KS.out n hmem)
      have HCN := Lib.hid hn
      clear hcells hnd hmem hn KS
      have hBL := (HR.out.bl)
      have hb1 := (Below.refl wr.heap.size wr).alloc (Nat.le_refl _) (.cells (nodeC n).toArray 33)
      have hw1 : w.heap.size + 4 ≤ wr.heap.size := by have := (Array.getElem?_eq_some_iff.1 HR.out.bs).1; omega
      obtain ⟨v0, v1, v2⟩ := (HR.out.bv.on hb1 (by omega)).c3
      have s0 : (wr.alloc (.cells (nodeC n).toArray 33)).cell? ⟨w.heap.size + 1 + 1 + 1, 0, none⟩ = some (.slice (some ⟨w.heap.size + 1 + 1, 0, none⟩) N N) := by
        simp only [World.cell?, hb1.block (w.heap.size + 1 + 1 + 1) (by omega), show w.heap.size + 1 + 1 + 1 = w.heap.size + 3 from rfl, HR.out.bs]
        rfl
      obtain ⟨n0, n1, n2, n3, n4, n5, n6, n7⟩ := (NK.new wr n).cells
      have R1 := Lib.hid (HR.out.gs.keep (hb1.block (w.heap.size + 2) (by omega)))
      have B1 := Lib.hid hb1
      have HW1 := Lib.hid hw1
      have NKH := Lib.hid (NK.new wr n)
      have WS : wr.heap.size < (wr.alloc (.cells (nodeC n).toArray 33)).heap.size := by simp
      unfold nodeV at KN
      unfold nodeC at v0 v1 v2 s0 n0 n1 n2 n3 n4 n5 n6 n7 R1 B1 NKH KN WS
      clear hb1 hBL hw1
      go_wp2_with fail
      generalize (wr.alloc (.cells #[.string (Nm.str n.s), .int .i64 n.a, .int .i64 n.b, .int .i64 n.c, .int .i64 n.x, .int .i64 n.y, .int .i64 n.z, .bool n.d] 33)) = W1 at *
      have hsc : (scs L p q r N k)[k]? = some 0 := by rw [scs_at hp, if_neg (by omega)]
      have hset := scs_set L p q r N k hp
      have hscv : scL L p q r k = nscore n p q r := by unfold scL; rw [HCN.out]; rfl
      rw [hscv] at hset
      generalize hSv : nscore n p q r = S at *
      have HSET := Lib.hid hset
      have HSC := Lib.hid hscv
      have e0 : W1.drew.cell? ⟨w.heap.size + 1 + 1 + 1, 0, none⟩ = some (.slice (some ⟨w.heap.size + 1 + 1, 0, none⟩) N N) := s0
      have HQ : ∀ w5 : World, Below W1.drew.heap.size W1.drew w5 → w5.cell? ⟨w.heap.size + 1 + 1 + 1, 0, none⟩ = some (.slice (some ⟨w.heap.size + 1 + 1, 0, none⟩) N N) ∧ w5.cell? ⟨w.heap.size + 1 + 1, k, none⟩ = some (.int .i64 0) ∧ w5.frozen? ⟨w.heap.size + 1 + 1, k, none⟩ = false := by
        intro w5 h
        have hz : W1.drew.heap.size = W1.heap.size := rfl
        have h1 := h.block (w.heap.size + 1 + 1 + 1) (by have := HW1.out; omega)
        have h2 := h.block (w.heap.size + 1 + 1) (by have := HW1.out; omega)
        exact ⟨(cell_of_heap h1).trans e0, (R1.out.keep h2).cell k 0 hsc, (R1.out.keep h2).frozen k⟩
      have HQ := Lib.hid HQ
      clear hset hscv hsc hSv
      go_region_law (first | (go_simp; go_at_call 17; refine (KN.out _).mono ?_; rintro e w5 ⟨rfl, hb5⟩; have HB5 := Lib.hid hb5; obtain ⟨g1, g2, g3⟩ := HQ.out _ hb5; clear hb5))
      all_goals
        have hK6 : ∀ j, j < wr.heap.size → j ≠ w.heap.size + 2 → (w5.setCell ⟨w.heap.size + 1 + 1, k, none⟩ (.int .i64 S)).heap[j]? = wr.heap[j]? := by
          intro j hj hj2
          rw [Below.heap_setCell _ _ _ _ (by exact hj2)]
          exact (HB5.out.block j (by show j < W1.heap.size; omega)).trans (B1.out.block j hj)
        have hR6 : RowS (w5.setCell ⟨w.heap.size + 1 + 1, k, none⟩ (.int .i64 S)) (w.heap.size + 2) (scs L p q r N (k + 1)) := by
          rw [← HSET.out]
          exact (R1.out.keep (W' := w5) (HB5.out.block (w.heap.size + 2) (by show _ < W1.heap.size; have := HW1.out; omega))).set k S
        have hb6 : Below w.heap.size w (w5.setCell ⟨w.heap.size + 1 + 1, k, none⟩ (.int .i64 S)) :=
          (HR.out.b.trans ((B1.out.trans ((Below.refl _ W1).drew.trans (HB5.out.mono (by show _ ≤ W1.heap.size; omega)))).mono (by have := HW1.out; omega))).setCell (by show _ ≤ w.heap.size + 1 + 1; omega) _
        have hz6 : wr.heap.size ≤ (w5.setCell ⟨w.heap.size + 1 + 1, k, none⟩ (.int .i64 S)).heap.size := by
          have h1 := HB5.out.size
          have h2 : W1.drew.heap.size = W1.heap.size := rfl
          have h3 : (w5.setCell ⟨w.heap.size + 1 + 1, k, none⟩ (.int .i64 S)).heap.size = w5.heap.size := by simp [World.setCell]
          omega
        clear HB5 g1 g2 g3
        generalize w5.setCell ⟨w.heap.size + 1 + 1, k, none⟩ (.int .i64 S) = w6 at *
        have K6 := Lib.hid hK6
        have R6 := Lib.hid hR6
        have B6 := Lib.hid hb6
        have Z6 := Lib.hid hz6
        have x0 : w6.cell? ⟨w.heap.size + 1 + 1 + 1, 0, none⟩ = some (.slice (some ⟨w.heap.size + 1 + 1, 0, none⟩) N N) := by
          simp only [World.cell?, hK6 (w.heap.size + 1 + 1 + 1) (by have := HW1.out; omega) (by omega), show w.heap.size + 1 + 1 + 1 = w.heap.size + 3 from rfl, HR.out.bs]
          rfl
        have x1 : w6.cell? ⟨w.heap.size + 1 + 1, k, none⟩ = some (.int .i64 S) := by
          refine hR6.cell k S ?_
          rw [scs_at hp, if_pos (by omega), HSC.out]
        have OWN := Lib.hid (ownD_keep HR.out.own (w' := w6) (fun j h1 h2 => hK6 j h2 (by omega)))
        clear hK6 hR6 hb6 hz6 R1 B1 NKH
        have CS := Lib.hid (cand_succ L p q r k)
        by_cases hS : S = -1
        · have hSb : (S != -1) = false := by simp [hS]
          have hcand : Hid (cand L p q r (k + 1) = cand L p q r k) := Lib.hid (by rw [CS.out, HSC.out, hSb]; simp)
          clear hS
          go_wp2_with fail
          go_roundw
          case rel => exact ⟨k + 1, _, by omega, rfl, by go_num, ⟨B6.out, (K6.out _ (by have := HW1.out; omega) (by omega)).trans HR.out.bl, (K6.out _ (by have := HW1.out; omega) (by omega)).trans HR.out.bv, R6.out, (K6.out _ (by have := HW1.out; omega) (by omega)).trans HR.out.bs, by rw [hcand.out]; exact OWN.out⟩⟩
          case measure => simp [intOf] <;> omega
        · have hSb : (S != -1) = true := by simpa using hS
          have hcand : Hid (cand L p q r (k + 1) = cand L p q r k ++ [k]) := Lib.hid (by rw [CS.out, HSC.out, hSb]; simp)
          have V1 := Lib.hid (Vc.digs_new w6 [k])
          have OW := Lib.hid (OWN.out.below ((Below.refl _ w6).alloc (Nat.le_refl _) (.cells (dC [k]).toArray 3)))
          have OL := Lib.hid (show (cand L p q r k).length + 1 ≤ 1000000 by have := cand_len L p q r k; omega)
          clear hS
          go_wp2_with (at_builtin; (refine Vc.wp_appD rfl (.tmp 30) (.tmp 32) rfl (w.heap.size + 4) _ (cand L p q r k) rfl OW.out (some ⟨w6.heap.size, 0, none⟩) 1 1 _ [k] rfl (fun h => by cases h) V1.out rfl (by omega) OL.out (by have := Z6.out; have := HW1.out; simp; omega) ?_); intro v3 w3 own3 hb3; have O3 := Lib.hid own3; have B3 := Lib.hid hb3; clear own3 hb3)
          go_roundw
          case rel =>
            have hz7 : w6.heap.size ≤ (w6.alloc (.cells #[.int .i64 (k : Nat)] 3)).heap.size := by simp
            have KK : ∀ j, j < w.heap.size + 4 → w3.heap[j]? = w6.heap[j]? := fun j hj =>
              (B3.out.block j hj).trans (Below.heap_alloc w6 _ j (by have := HW1.out; have := Z6.out; omega))
            refine ⟨k + 1, _, by omega, rfl, by go_num, ⟨(B6.out.alloc (by have := HW1.out; have := Z6.out; omega) _).trans (B3.out.mono (by omega)), ?_, ?_, R6.out.keep (KK _ (by omega)), ?_, by rw [hcand.out]; exact O3.out⟩⟩
            · exact ((KK _ (by omega)).trans (K6.out _ (by have := HW1.out; omega) (by omega))).trans HR.out.bl
            · exact ((KK _ (by omega)).trans (K6.out _ (by have := HW1.out; omega) (by omega))).trans HR.out.bv
            · exact ((KK _ (by omega)).trans (K6.out _ (by have := HW1.out; omega) (by omega))).trans HR.out.bs
          case measure => simp [intOf] <;> omega
    · obtain rfl : k = N := by omega
      have hd8 : decide ((k : Int) < k) = false := by simp
      have hd9 : decide (k < k) = false := by simp
      go_wp2_with (go_at_call 24; refine (HR.out.sort HA.out HN.out h1000 HL.out).mono ?_; rintro e w1 ⟨rfl, A', cap', R, rfl, h1, h2, h3⟩; have H1 := Lib.hid h1; have H2 := Lib.hid h2; have H3 := Lib.hid h3; clear h1 h2 h3)
      go_ret
      exact ⟨A', cap', R, rfl, H1.out, H2.out, H3.out⟩
end Go.Proofs.Ytjpnkecfoealoaa
