import Derived.Test.YtjpnkecfoealoaaQd
namespace Go.Proofs.Ytjpnkecfoealoaa
set_option maxRecDepth 20000
open Go.RowKit
open Go.Proofs.Ytjpnkecfoealoaa.Nm (Gr)
set_option linter.unusedVariables false

/-- the rows that the sort's function reads -/
structure Ord (W : World) (bs bl gs b off c N : Nat) (sc : Nat → Int) (nm : Nat → List UInt8) : Prop where
  hs : W.cell? ⟨bs, 0, none⟩ = some (.slice (some ⟨gs, 0, none⟩) N N)
  hl : W.cell? ⟨bl, 0, none⟩ = some (.slice (some ⟨b, off, none⟩) N c)
  hS : ∀ i, i < N → W.cell? ⟨gs, i, none⟩ = some (.int .i64 (sc i))
  hN : ∀ i, i < N → W.cell? ⟨b, off + i * 8, none⟩ = some (.string (Nm.str (nm i)))
  len : ∀ i, i < N → (nm i).length ≤ 281474976710656
  l1 : bs < W.heap.size
  l2 : bl < W.heap.size
  l3 : gs < W.heap.size
  l4 : b < W.heap.size
theorem cell_of_heap {W W' : World} {k o : Nat} (h : W'.heap[k]? = W.heap[k]?) : W'.cell? ⟨k, o, none⟩ = W.cell? ⟨k, o, none⟩ := by simp only [World.cell?, h]
theorem Ord.keep {W W' : World} {bs bl gs b off c N : Nat} {sc : Nat → Int} {nm : Nat → List UInt8} (h : Ord W bs bl gs b off c N sc nm)
    (k1 : W'.heap[bs]? = W.heap[bs]?) (k2 : W'.heap[bl]? = W.heap[bl]?) (k3 : W'.heap[gs]? = W.heap[gs]?) (k4 : W'.heap[b]? = W.heap[b]?) (hz : W.heap.size ≤ W'.heap.size) : Ord W' bs bl gs b off c N sc nm where
  hs := (cell_of_heap k1).trans h.hs
  hl := (cell_of_heap k2).trans h.hl
  hS i hi := (cell_of_heap k3).trans (h.hS i hi)
  hN i hi := (cell_of_heap k4).trans (h.hN i hi)
  len := h.len
  l1 := Nat.lt_of_lt_of_le h.l1 hz
  l2 := Nat.lt_of_lt_of_le h.l2 hz
  l3 := Nat.lt_of_lt_of_le h.l3 hz
  l4 := Nat.lt_of_lt_of_le h.l4 hz
theorem Ord.gr {W W' : World} {bs bl gs b off c N : Nat} {sc : Nat → Int} {nm : Nat → List UInt8} (h : Ord W bs bl gs b off c N sc nm) (g : Gr W W') : Ord W' bs bl gs b off c N sc nm :=
  h.keep (g.1.block _ h.l1) (g.1.block _ h.l2) (g.1.block _ h.l3) (g.1.block _ h.l4) g.1.size
theorem Ord.ahead {W : World} {bs bl gs b off c N : Nat} {sc : Nat → Int} {nm : Nat → List UInt8} (h : Ord W bs bl gs b off c N sc nm) (hN : N ≤ 1000000) {i j : Nat} (hi : i < N) (hj : j < N) :
    Calls Try.prog 25 #[.int .i64 (i : Int), .int .i64 (j : Int), .pointer (some ⟨bs, 0, none⟩), .pointer (some ⟨bl, 0, none⟩)] W fun e w' => e = .returned (.bool (aheadB (sc i) (sc j) (nm i) (nm j))) ∧ Gr W w' :=
  ahead_any W bs bl gs b off N c N i j _ _ _ _ hi hj hi hj hN h.hs (h.hS i hi) (h.hS j hj) h.hl (h.hN i hi) (h.hN j hj) (h.len i hi) (h.len j hj) h.l1 h.l2 h.l4 h.l3
theorem Ord.cmp {W : World} {bs bl gs b off c N : Nat} {sc : Nat → Int} {nm : Nat → List UInt8} (h : Ord W bs bl gs b off c N sc nm) (hN : N ≤ 1000000) (bf : Nat)
    (hf : W.cell? ⟨bf, 0, none⟩ = some (.func (.func 25) #[] #[.pointer (some ⟨bs, 0, none⟩), .pointer (some ⟨bl, 0, none⟩)])) (lt : bf < W.heap.size) (x y : Fin N) :
    Calls Try.prog 38 #[.int .i64 (x.val : Nat), .int .i64 (y.val : Nat), .pointer (some ⟨bf, 0, none⟩)] W fun e w' => e = .returned (.int .i64 (cfF sc nm N x y)) ∧ Gr W w' :=
  cmp_any W bf bs bl x.val y.val _ _ (by have := x.2; omega) (by have := y.2; omega) hf lt (fun U hU => (h.gr hU).ahead hN x.2 y.2) (fun U hU => (h.gr hU).ahead hN y.2 x.2)

theorem sw_heap {α : Type} [Inhabited α] (enc : α → Value) (w : World) (blk off m : Nat) (dk : Array α) (os : Array Obj) (k : Nat) (h : k < w.heap.size) (hne : k ≠ blk) : (Go.Proofs.sortWorld enc w blk off m dk os).heap[k]? = w.heap[k]? := by
  unfold Go.Proofs.sortWorld
  rw [Go.Sort.heap_grow_old _ _ (by simpa [Go.Sort.putRow, Go.Sort.mapBlock, Go.Sort.ahead] using h)]
  simp only [Go.Sort.putRow, Go.Sort.mapBlock, Go.Sort.ahead, Array.getElem?_modify]
  rw [if_neg (fun e => hne e.symm)]
theorem sw_size {α : Type} [Inhabited α] (enc : α → Value) (w : World) (blk off m : Nat) (dk : Array α) (os : Array Obj) : w.heap.size ≤ (Go.Proofs.sortWorld enc w blk off m dk os).heap.size := by
  unfold Go.Proofs.sortWorld
  rw [Go.Sort.size_grow]
  simp [Go.Sort.putRow, Go.Sort.mapBlock, Go.Sort.ahead]
theorem sw_below {α : Type} [Inhabited α] (enc : α → Value) (w : World) (blk off m : Nat) (dk : Array α) (os : Array Obj) (k : Nat) (h : k ≤ blk) (h2 : k ≤ w.heap.size) : Below k w (Go.Proofs.sortWorld enc w blk off m dk os) :=
  ⟨rfl, rfl, rfl, sw_size _ _ _ _ _ _ _, fun j hj => sw_heap _ _ _ _ _ _ _ j (by omega) (by omega)⟩

def encF (N : Nat) (x : Fin N) : Value := .int .i64 ((x.val : Nat) : Int)
theorem encF_one (N : Nat) : Go.Proofs.OneCell (encF N) := fun _ => rfl
/-- the row that is sorted -/
def RowC (W : World) (g : Nat) (d : List Nat) : Prop := ∀ j u, d[j]? = some u → W.cell? ⟨g, j, none⟩ = some (.int .i64 (u : Nat)) ∧ W.frozen? ⟨g, j, none⟩ = false

theorem sort_core (w : World) (bs bl gs b off c N g cap bf : Nat) (sc : Nat → Int) (nm : Nat → List UInt8) (O : Ord w bs bl gs b off c N sc nm) (hN : N ≤ 1000000)
    (n1 : bs ≠ g) (n2 : bl ≠ g) (n3 : gs ≠ g) (n4 : b ≠ g) (n5 : bf ≠ g) (d : List Nat) (hne : d ≠ []) (hd : ∀ u ∈ d, u < N) (hr : RowC w g d) (hg : g < w.heap.size)
    (hf : w.cell? ⟨bf, 0, none⟩ = some (.func (.func 25) #[] #[.pointer (some ⟨bs, 0, none⟩), .pointer (some ⟨bl, 0, none⟩)])) (lt : bf < w.heap.size) (hl : d.length ≤ 1000000) :
    Calls Try.prog 37 #[.slice (some ⟨g, 0, none⟩) d.length cap, .func (.func 38) #[] #[.pointer (some ⟨bf, 0, none⟩)]] w fun e w' => e = .returned (.tuple #[]) ∧
      ∃ d' : List Nat, d'.Perm d ∧ d'.Pairwise (fun i j => bef sc nm j i = false) ∧ RowC w' g d' ∧ w.heap.size ≤ w'.heap.size ∧ (∀ k, k ≤ g → Below k w w') := by
  obtain ⟨u0, r0, rfl⟩ := List.exists_cons_of_ne_nil hne
  haveI : Inhabited (Fin N) := ⟨⟨u0, hd u0 (by simp)⟩⟩
  generalize hdd : u0 :: r0 = d at *
  let D : Array (Fin N) := (d.pmap (fun u h => (⟨u, h⟩ : Fin N)) hd).toArray
  have hsz : D.size = d.length := by simp [D]
  have hmap : D.toList.map Fin.val = d := by
    simp only [D, List.map_pmap]
    simp
  have hget : ∀ j u, d[j]? = some u → ∃ h : j < D.size, D[j]!.val = u := by
    intro j u hu
    have hj : j < d.length := by rw [List.getElem?_eq_some_iff] at hu; exact hu.1
    refine ⟨by rw [hsz]; exact hj, ?_⟩
    rw [← hmap, List.getElem?_map, Array.getElem?_toList] at hu
    rw [getElem!_pos D j (by rw [hsz]; exact hj)]
    rw [Array.getElem?_eq_getElem (by rw [hsz]; exact hj)] at hu
    simpa using hu
  have hH : Go.Sort.Holds (encF N) w g 0 D := by
    intro j hj
    have hj' : j < d.length := by rw [← hsz]; exact hj
    obtain ⟨_, hv⟩ := hget j d[j] (List.getElem?_eq_getElem hj')
    have := hr j d[j] (List.getElem?_eq_getElem hj')
    rw [Nat.zero_add]
    unfold encF
    rw [hv]
    exact this
  have eg : ∀ args W, (callFunc 38 args).run Try.prog W = .ok (.enter 38 args) W := enters_of Try.func38 (by kernel_rfl) rfl
  have hcmp : Go.Proofs.CmpLays1 Try.prog 38 #[.pointer (some ⟨bf, 0, none⟩)] (encF N) (cfF sc nm N) g 0 D.size w := by
    intro m os dk hs x y
    have hk := fun k (h1 : k < w.heap.size) (h2 : k ≠ g) => sw_heap (encF N) w g 0 m dk os k h1 h2
    have hz := sw_size (encF N) w g 0 m dk os
    have O' := O.keep (hk bs O.l1 n1) (hk bl O.l2 n2) (hk gs O.l3 n3) (hk b O.l4 n4) hz
    have := O'.cmp hN bf ((cell_of_heap (hk bf lt n5)).trans hf) (Nat.lt_of_lt_of_le lt hz) x y
    exact this.mono fun e w' ⟨h1, h2⟩ => ⟨h1, gr_grow h2⟩
  have hcon := Go.Proofs.Any.slices_SortFunc Go.Proofs.Try.laysSlF6_f37 (encF N) (encF_one N) (cfF sc nm N) (swoF sc nm N) 38 #[.pointer (some ⟨bf, 0, none⟩)] g 0 cap D w eg hcmp hH hg (by rw [hsz]; omega)
  change Calls Try.prog 37 _ _ _ at hcon
  rw [hsz] at hcon
  refine hcon.mono ?_
  rintro e w' ⟨rfl, D', n, os, hp, hs, rfl⟩
  refine ⟨rfl, D'.toList.map Fin.val, ?_, ?_, ?_, sw_size _ _ _ _ _ _ _, fun k hk => sw_below _ _ _ _ _ _ _ k hk (by omega)⟩
  · obtain ⟨h1, _, h3⟩ := hp
    rw [← hsz] at h3
    have e1 : D.extract 0 D.size = D := Array.extract_size
    have e2 : D'.extract 0 D.size = D' := by rw [hsz, ← hsz, ← h1]; exact Array.extract_size
    rw [e1, e2] at h3
    have := h3.map Fin.val
    rwa [hmap] at this
  · rw [List.pairwise_map]
    rw [List.pairwise_iff_getElem]
    intro i j hi hj hij
    have hD : D'.size = d.length := by rw [hp.1, hsz]
    have := hs i j (Nat.zero_le _) hij (by simpa [hD] using hj)
    rw [ltF] at this
    rw [getElem!_pos D' i (by simpa using hi), getElem!_pos D' j (by simpa using hj)] at this
    simpa using this
  · have hD : D'.size = D.size := hp.1
    have hh := Go.Proofs.holds_sortWorld (encF N) w g 0 n D D' os hg hH hD
    intro j u hu
    rw [List.getElem?_map, Array.getElem?_toList] at hu
    have hj : j < D'.size := by
      rw [← Nat.not_le]
      intro h
      rw [Array.getElem?_eq_none h] at hu
      cases hu
    have := hh j hj
    rw [Nat.zero_add, getElem!_pos D' j hj] at this
    rw [Array.getElem?_eq_getElem hj] at hu
    simp only [Option.map_some, Option.some.injEq] at hu
    unfold encF at this
    rw [hu] at this
    exact this

theorem sort_any (w : World) (bs bl gs b off c N g cap : Nat) (sc : Nat → Int) (nm : Nat → List UInt8) (O : Ord w bs bl gs b off c N sc nm) (hN : N ≤ 1000000)
    (n1 : bs ≠ g) (n2 : bl ≠ g) (n3 : gs ≠ g) (n4 : b ≠ g) (d : List Nat) (hne : d ≠ []) (hd : ∀ u ∈ d, u < N) (hr : RowC w g d) (hg : g < w.heap.size) (hl : d.length ≤ 1000000) :
    Calls Try.prog 24 #[.slice (some ⟨g, 0, none⟩) d.length cap, .func (.func 25) #[] #[.pointer (some ⟨bs, 0, none⟩), .pointer (some ⟨bl, 0, none⟩)]] w fun e w' => e = .returned (.tuple #[]) ∧
      ∃ d' : List Nat, d'.Perm d ∧ d'.Pairwise (fun i j => bef sc nm j i = false) ∧ RowC w' g d' ∧ w.heap.size ≤ w'.heap.size ∧ (∀ k, k ≤ g → Below k w w') := by
  have hb := (Below.refl w.heap.size w).alloc (Nat.le_refl _) (.cells #[.func (.func 25) #[] #[.pointer (some ⟨bs, 0, none⟩), .pointer (some ⟨bl, 0, none⟩)]] 48)
  have hlt : w.heap.size < (w.alloc (.cells #[.func (.func 25) #[] #[.pointer (some ⟨bs, 0, none⟩), .pointer (some ⟨bl, 0, none⟩)]] 48)).heap.size := by simp
  have hc := sort_core (w.alloc (.cells #[.func (.func 25) #[] #[.pointer (some ⟨bs, 0, none⟩), .pointer (some ⟨bl, 0, none⟩)]] 48)) bs bl gs b off c N g cap w.heap.size sc nm
    (O.keep (hb.block _ O.l1) (hb.block _ O.l2) (hb.block _ O.l3) (hb.block _ O.l4) hb.size) hN n1 n2 n3 n4 (by omega) d hne hd
    (fun j u hu => ⟨(cell_of_heap (hb.block g hg)).trans (hr j u hu).1, by simp only [World.frozen?, hb.block g hg]; exact (hr j u hu).2⟩) (by omega)
    (by simp) hlt hl
  have HC := Lib.hid hc
  have HB := Lib.hid hb
  clear hc hb hlt hr O
  go_enter Try.func24, Try.ntmps24
  go_wp2_with (go_at_call 37; refine HC.out.mono ?_; rintro e w1 ⟨rfl, d', h1, h2, h3, h4, h5⟩; have H5 := Lib.hid h5; clear h5)
  go_end0
  refine ⟨rfl, d', h1, h2, h3, Nat.le_trans HB.out.size h4, fun k hk => (HB.out.mono (by omega)).trans (H5.out k hk)⟩
theorem lays0 : Go.Proofs.SlLaysF0.n6 Try.prog Go.Proofs.Try.laysSlF6_f37_ren := { Go.Proofs.Try.laysSlF6_f37 with }
theorem sort_none (w : World) (A : Option Addr) (cap bs bl : Nat) :
    Calls Try.prog 24 #[.slice A 0 cap, .func (.func 25) #[] #[.pointer (some ⟨bs, 0, none⟩), .pointer (some ⟨bl, 0, none⟩)]] w fun e w' => e = .returned (.tuple #[]) ∧ Below w.heap.size w w' := by
  have hb := (Below.refl w.heap.size w).alloc (Nat.le_refl _) (.cells #[.func (.func 25) #[] #[.pointer (some ⟨bs, 0, none⟩), .pointer (some ⟨bl, 0, none⟩)]] 48)
  have hc := fun W : World => Go.Proofs.AnyF.slices_SortFunc_none lays0 A cap (.func (.func 38) #[] #[.pointer (some ⟨w.heap.size, 0, none⟩)]) W
  change ∀ W, Calls Try.prog 37 _ _ _ at hc
  have HC := Lib.hid hc
  have HB := Lib.hid hb
  clear hc hb
  go_enter Try.func24, Try.ntmps24
  go_wp2_with (go_at_call 37; refine (HC.out _).mono ?_; rintro e w1 ⟨rfl, rfl⟩)
  go_end0
  exact ⟨rfl, HB.out⟩
end Go.Proofs.Ytjpnkecfoealoaa
