import Derived.Test.YtphclpjekpdifaaTq
namespace Go.Proofs.Ytphclpjekpdifaa
set_option maxRecDepth 20000
open Go.RowKit
open SP
open Go.Proofs.Ytphclpjekpdifaa.Nm (str)
open Wi (RetBelow)
set_option linter.unusedVariables false
/-! ### a table that is new since the world w, and blocks held beside it -/
structure Lv (w X : World) (b : Nat) (T : Tb) (S : Nat → Prop) (G : List (Nat × Obj)) : Prop where
  tab : Tab X b T S
  new : ∀ k, S k → w.heap.size ≤ k
  bel : Below w.heap.size w X
  inv : Inv T
  held : ∀ p ∈ G, X.heap[p.1]? = some p.2 ∧ ¬ S p.1
def LvE (w X : World) (b : Nat) (T : Tb) (G : List (Nat × Obj)) : Prop := ∃ S, Lv w X b T S G
theorem LvE.bel {w X : World} {b : Nat} {T : Tb} {G : List (Nat × Obj)} (h : LvE w X b T G) : Below w.heap.size w X := let ⟨_, h⟩ := h; h.bel
theorem LvE.inv {w X : World} {b : Nat} {T : Tb} {G : List (Nat × Obj)} (h : LvE w X b T G) : Inv T := let ⟨_, h⟩ := h; h.inv
theorem LvE.held {w X : World} {b : Nat} {T : Tb} {G : List (Nat × Obj)} (h : LvE w X b T G) {p : Nat × Obj} (hp : p ∈ G) : X.heap[p.1]? = some p.2 := let ⟨_, h⟩ := h; (h.held p hp).1
theorem LvE.below {w X Y : World} {b : Nat} {T : Tb} {G : List (Nat × Obj)} (h : LvE w X b T G) (hb : Below X.heap.size X Y) : LvE w Y b T G := by
  obtain ⟨S, h⟩ := h
  exact ⟨S, h.tab.below hb, h.new, h.bel.trans (hb.mono h.bel.size), h.inv, fun p hp => ⟨(hb.block _ (Array.getElem?_eq_some_iff.1 (h.held p hp).1).1).trans (h.held p hp).1, (h.held p hp).2⟩⟩
theorem LvE.to {w X Y : World} {b : Nat} {T T' : Tb} {S : Nat → Prop} {G : List (Nat × Obj)} (h : Lv w X b T S G) (hi : Inv T') (hs : TabTo X Y b T' S) : LvE w Y b T' G := by
  obtain ⟨S', h1, h2, h3⟩ := hs
  have hB := h.bel.size
  refine ⟨S', h1, fun k hk => ?_, h.bel.trans (h3.below hB (fun k hk => h.new k hk)), hi, fun p hp => ?_⟩
  · rcases h2 k hk with q | q
    · exact h.new k q
    · omega
  · have hl := (Array.getElem?_eq_some_iff.1 (h.held p hp).1).1
    refine ⟨(h3.block _ hl (h.held p hp).2).trans (h.held p hp).1, fun q => ?_⟩
    rcases h2 _ q with q | q
    · exact (h.held p hp).2 q
    · omega
/-- a block more is held -/
theorem LvE.box {w X : World} {b : Nat} {T : Tb} {G : List (Nat × Obj)} (h : LvE w X b T G) (cs : Array Value) (t : TypeId) : LvE w (X.alloc (.cells cs t)) b T ((X.heap.size, .cells cs t (0, 0)) :: G) := by
  obtain ⟨S, h⟩ := h
  have hb : Below X.heap.size X (X.alloc (.cells cs t)) := (Below.refl _ X).alloc (Nat.le_refl _) _
  have hlt := h.tab.lt
  refine ⟨S, h.tab.below hb, h.new, h.bel.alloc h.bel.size _, h.inv, fun p hp => ?_⟩
  rcases List.mem_cons.1 hp with rfl | hp
  · exact ⟨heap_alloc_new X _, fun q => by have := hlt _ q; simp at this⟩
  · exact ⟨(hb.block _ (Array.getElem?_eq_some_iff.1 (h.held p hp).1).1).trans (h.held p hp).1, (h.held p hp).2⟩
theorem LvE.less {w X : World} {b : Nat} {T : Tb} {G G' : List (Nat × Obj)} (h : LvE w X b T G) (hs : ∀ p ∈ G', p ∈ G) : LvE w X b T G' := by
  obtain ⟨S, h⟩ := h
  exact ⟨S, h.tab, h.new, h.bel, h.inv, fun p hp => h.held p (hs p hp)⟩
/-- a block that was there already, below the world w, is held -/
theorem LvE.old {w X : World} {b : Nat} {T : Tb} {G : List (Nat × Obj)} (h : LvE w X b T G) {k : Nat} {o : Obj} (hk : w.heap[k]? = some o) : LvE w X b T ((k, o) :: G) := by
  obtain ⟨S, h⟩ := h
  have hl := (Array.getElem?_eq_some_iff.1 hk).1
  refine ⟨S, h.tab, h.new, h.bel, h.inv, fun p hp => ?_⟩
  rcases List.mem_cons.1 hp with rfl | hp
  · exact ⟨(h.bel.block k hl).trans hk, fun q => by have := h.new k q; omega⟩
  · exact h.held p hp
theorem new_lv {w X : World} (hb : Below w.heap.size w X) (G : List (Nat × Obj)) (hG : ∀ p ∈ G, X.heap[p.1]? = some p.2) : Calls Try.prog 5 #[] X fun e Y => ∃ b, e = .returned (.pointer (some ⟨b, 0, none⟩)) ∧ LvE w Y b t0 G := by
  refine (empty_any X).mono ?_
  rintro e Y ⟨b, rfl, h1, h2, h3⟩
  refine ⟨b, rfl, (· = b), h2, fun k hk => by rw [hk]; exact Nat.le_trans hb.size h1, hb.trans (h3.mono hb.size), inv_t0, fun p hp => ?_⟩
  have hl := (Array.getElem?_eq_some_iff.1 (hG p hp)).1
  exact ⟨(h3.block _ hl).trans (hG p hp), fun q => by omega⟩
theorem reg_lv {w X : World} {b : Nat} {T : Tb} {G : List (Nat × Obj)} (h : LvE w X b T G) : Calls Try.prog 11 #[.pointer (some ⟨b, 0, none⟩)] X fun e Y => e = .returned (.tuple #[.int .i64 (reg T).2.1, .int .i64 (reg T).2.2]) ∧ LvE w Y b (reg T).1 G := by
  obtain ⟨S, h⟩ := h
  exact (reg_any h.tab h.inv).mono fun e Y q => ⟨q.1, LvE.to h (inv_reg h.inv) q.2⟩
theorem tick_lv {w X : World} {b : Nat} {T : Tb} {G : List (Nat × Obj)} (h : LvE w X b T G) : Calls Try.prog 13 #[.pointer (some ⟨b, 0, none⟩)] X fun e Y => e = .returned (.tuple #[]) ∧ LvE w Y b (tick T) G := by
  obtain ⟨S, h⟩ := h
  exact (tick_any h.tab h.inv).mono fun e Y q => ⟨q.1, LvE.to h (inv_tick h.inv) q.2⟩
theorem check_lv {w X : World} {b : Nat} {T : Tb} {G : List (Nat × Obj)} (h : LvE w X b T G) (id q : Int) : Calls Try.prog 8 #[.pointer (some ⟨b, 0, none⟩), .int .i64 id, .int .i64 q] X fun e Y => e = .returned (.tuple #[.int .i64 (check T id q).1, rpV (check T id q).2]) ∧ LvE w Y b T G := by
  have h0 := h
  obtain ⟨S, ⟨v, h1⟩, h2, h3, h4, h5⟩ := h
  exact (check_at h1 h4 id q).mono fun e Y q => ⟨q.1, h0.below q.2⟩
theorem done_lv {w X : World} {b : Nat} {T : Tb} {G : List (Nat × Obj)} (h : LvE w X b T G) (id q : Int) {r : Rp} (hr : RpI r) (he : I64 r.e) : Calls Try.prog 9 #[.pointer (some ⟨b, 0, none⟩), .int .i64 id, .int .i64 q, rpV r] X fun e Y => e = .returned (.int .i64 (done T id q r).2) ∧ LvE w Y b (done T id q r).1 G := by
  obtain ⟨S, h⟩ := h
  exact (done_any h.tab h.inv id q r hr he).mono fun e Y p => ⟨p.1, LvE.to h (inv_done h.inv id q hr) p.2⟩
theorem expire_lv {w X : World} {b : Nat} {T : Tb} {G : List (Nat × Obj)} (h : LvE w X b T G) (n : Int) : Calls Try.prog 14 #[.pointer (some ⟨b, 0, none⟩), .int .i64 n] X fun e Y => e = .returned (.int .i64 (expire T n).2) ∧ LvE w Y b (expire T n).1 G := by
  obtain ⟨S, h⟩ := h
  exact (expire_any h.tab h.inv n).mono fun e Y q => ⟨q.1, LvE.to h (inv_expire h.inv n) q.2⟩
theorem save_lv {w X : World} {b : Nat} {T : Tb} {G : List (Nat × Obj)} (h : LvE w X b T G) : Calls Try.prog 7 #[.pointer (some ⟨b, 0, none⟩)] X fun e Y => e = .returned (.string (save T)) ∧ LvE w Y b T G := by
  have h0 := h
  obtain ⟨S, ⟨v, h1⟩, h2, h3, h4, h5⟩ := h
  exact (save_at h1 h4).mono fun e Y q => ⟨q.1, h0.below q.2⟩
theorem ids_lv {w X : World} {b : Nat} {T : Tb} {G : List (Nat × Obj)} (h : LvE w X b T G) : Calls Try.prog 15 #[.pointer (some ⟨b, 0, none⟩)] X fun e Y => ∃ u, e = .returned u ∧ Own DI Y X.heap.size u (ids T) ∧ LvE w Y b T G ∧ Below X.heap.size X Y := by
  have h0 := h
  obtain ⟨S, ⟨v, h1⟩, h2, h3, h4, h5⟩ := h
  exact (ids_at h1 h4).mono fun e Y ⟨u, q1, q2, q3⟩ => ⟨u, q1, q2, h0.below q3, q3⟩
/-! ### an act played -/
def actV (x : SP.Act) : Value := .agg #[.int .i64 x.k, .int .i64 x.id, .int .i64 x.q, .int .i64 x.n, .int .i64 x.r.e, .string x.r.s, .int .i64 x.r.a, .int .i64 x.r.b, .int .i64 x.r.c, .int .i64 x.r.n]
theorem row10 {w : World} {b : Nat} {a0 a1 a2 a3 a4 a5 a6 a7 a8 a9 : Value} {t : TypeId} (h : w.heap[b]? = some (.cells #[a0, a1, a2, a3, a4, a5, a6, a7, a8, a9] t (0, 0))) : w.cell? ⟨b, 0, none⟩ = some a0 ∧ w.cell? ⟨b, 1, none⟩ = some a1 ∧ w.cell? ⟨b, 2, none⟩ = some a2 ∧ w.cell? ⟨b, 3, none⟩ = some a3 ∧ w.cell? ⟨b, 4, none⟩ = some a4 ∧ w.cell? ⟨b, 5, none⟩ = some a5 ∧ w.cell? ⟨b, 6, none⟩ = some a6 ∧ w.cell? ⟨b, 7, none⟩ = some a7 ∧ w.cell? ⟨b, 8, none⟩ = some a8 ∧ w.cell? ⟨b, 9, none⟩ = some a9 := by
  refine ⟨?_, ?_, ?_, ?_, ?_, ?_, ?_, ?_, ?_, ?_⟩
  all_goals (rw [Lib.cell_of_heap h]; rfl)
set_option maxHeartbeats 2000000 in
theorem play_lv {w X : World} {b : Nat} {T : Tb} {G : List (Nat × Obj)} (h : LvE w X b T G) (x : SP.Act) (hr : RpI x.r) (he : I64 x.r.e) : Calls Try.prog 6 #[.pointer (some ⟨b, 0, none⟩), actV x] X fun e Y => e = .returned (.tuple #[]) ∧ LvE w Y b (play T x) G := by
  have HA := Lib.hid (h.box #[.int .i64 x.k, .int .i64 x.id, .int .i64 x.q, .int .i64 x.n, .int .i64 x.r.e, .string x.r.s, .int .i64 x.r.a, .int .i64 x.r.b, .int .i64 x.r.c, .int .i64 x.r.n] 33)
  obtain ⟨x0, x1, x2, x3, x4, x5, x6, x7, x8, x9⟩ := row10 (HA.out.held (p := (X.heap.size, _)) (List.Mem.head _))
  have HL : Hid (∀ Y T', LvE w Y b T' ((X.heap.size, .cells #[.int .i64 x.k, .int .i64 x.id, .int .i64 x.q, .int .i64 x.n, .int .i64 x.r.e, .string x.r.s, .int .i64 x.r.a, .int .i64 x.r.b, .int .i64 x.r.c, .int .i64 x.r.n] 33 (0, 0)) :: G) → LvE w Y b T' G) := Lib.hid fun Y T' h => h.less fun p hp => List.mem_cons_of_mem _ hp
  have HP : Hid (play T x = if x.k = 0 then (reg T).1 else if x.k = 1 then tick T else if x.k = 2 ∨ x.k = 3 then (done T x.id x.q x.r).1 else if x.k = 4 then (expire T x.n).1 else T) := Lib.hid rfl
  have C0 := Lib.hid (reg_lv HA.out)
  have C1 := Lib.hid (tick_lv HA.out)
  have C2 := Lib.hid (done_lv HA.out x.id x.q hr he)
  have C4 := Lib.hid (expire_lv HA.out x.n)
  unfold actV
  clear hr he h
  generalize play T x = PT at *
  obtain ⟨xk, xi, xq, xn, ⟨re, rs, ra, rb, rc, rn⟩⟩ := x
  dsimp only [rpV] at *
  by_cases k0 : xk = 0
  case pos =>
    subst k0
    rw [if_pos rfl] at HP
    have f0 : ((0 : Int) == 0) = true := rfl
    go_enter Try.func6, Try.ntmps6
    go_wp2_with (first | (go_at_call 11; (with_reducible refine (C0.out).mono ?_); rintro e Y ⟨rfl, h⟩; have HH := Lib.hid h; clear h))
    go_end0
    exact ⟨rfl, by rw [HP.out]; exact HL.out _ _ HH.out⟩
  case neg =>
  rw [if_neg k0] at HP
  have f0 : (xk == 0) = false := by simpa using k0
  by_cases k1 : xk = 1
  case pos =>
    subst k1
    rw [if_pos rfl] at HP
    go_enter Try.func6, Try.ntmps6
    go_wp2_with (first | (go_at_call 13; (with_reducible refine (C1.out).mono ?_); rintro e Y ⟨rfl, h⟩; have HH := Lib.hid h; clear h))
    go_end0
    exact ⟨rfl, by rw [HP.out]; exact HL.out _ _ HH.out⟩
  case neg =>
  rw [if_neg k1] at HP
  have f1 : (xk == 1) = false := by simpa using k1
  by_cases k2 : xk = 2
  case pos =>
    subst k2
    rw [if_pos (.inl rfl)] at HP
    go_enter Try.func6, Try.ntmps6
    go_wp2_with (first | (go_at_call 9; (with_reducible refine (C2.out).mono ?_); rintro e Y ⟨rfl, h⟩; have HH := Lib.hid h; clear h))
    go_end0
    exact ⟨rfl, by rw [HP.out]; exact HL.out _ _ HH.out⟩
  case neg =>
  have f2 : (xk == 2) = false := by simpa using k2
  by_cases k3 : xk = 3
  case pos =>
    subst k3
    rw [if_pos (.inr rfl)] at HP
    go_enter Try.func6, Try.ntmps6
    go_wp2_with (first | (go_at_call 9; (with_reducible refine (C2.out).mono ?_); rintro e Y ⟨rfl, h⟩; have HH := Lib.hid h; clear h))
    go_end0
    exact ⟨rfl, by rw [HP.out]; exact HL.out _ _ HH.out⟩
  case neg =>
  rw [if_neg (fun h => h.elim k2 k3)] at HP
  have f3 : (xk == 3) = false := by simpa using k3
  by_cases k4 : xk = 4
  case pos =>
    subst k4
    rw [if_pos rfl] at HP
    go_enter Try.func6, Try.ntmps6
    go_wp2_with (first | (go_at_call 14; (with_reducible refine (C4.out).mono ?_); rintro e Y ⟨rfl, h⟩; have HH := Lib.hid h; clear h))
    go_end0
    exact ⟨rfl, by rw [HP.out]; exact HL.out _ _ HH.out⟩
  case neg =>
    rw [if_neg k4] at HP
    have f4 : (xk == 4) = false := by simpa using k4
    go_enter Try.func6, Try.ntmps6
    go_wp2_with fail
    go_end0
    exact ⟨rfl, by rw [HP.out]; exact HL.out _ _ HA.out⟩
end Go.Proofs.Ytphclpjekpdifaa
namespace Go.Proofs.Ytphclpjekpdifaa
set_option maxRecDepth 20000
open Go.RowKit
open SP
open Go.Proofs.Ytphclpjekpdifaa.Nm (str)
open Wi (RetBelow)
set_option linter.unusedVariables false
/-! ### two tables side by side -/
structure L2 (w X : World) (b : Nat) (T : Tb) (S : Nat → Prop) (c : Nat) (U : Tb) (R : Nat → Prop) (G : List (Nat × Obj)) : Prop where
  t1 : Tab X b T S
  t2 : Tab X c U R
  dis : ∀ k, S k → ¬ R k
  n1 : ∀ k, S k → w.heap.size ≤ k
  n2 : ∀ k, R k → w.heap.size ≤ k
  bel : Below w.heap.size w X
  i1 : Inv T
  i2 : Inv U
  held : ∀ p ∈ G, X.heap[p.1]? = some p.2 ∧ ¬ S p.1 ∧ ¬ R p.1
def L2E (w X : World) (b : Nat) (T : Tb) (c : Nat) (U : Tb) (G : List (Nat × Obj)) : Prop := ∃ S R, L2 w X b T S c U R G
theorem L2E.bel {w X : World} {b c : Nat} {T U : Tb} {G : List (Nat × Obj)} (h : L2E w X b T c U G) : Below w.heap.size w X := let ⟨_, _, h⟩ := h; h.bel
theorem L2E.i1 {w X : World} {b c : Nat} {T U : Tb} {G : List (Nat × Obj)} (h : L2E w X b T c U G) : Inv T := let ⟨_, _, h⟩ := h; h.i1
theorem L2E.held {w X : World} {b c : Nat} {T U : Tb} {G : List (Nat × Obj)} (h : L2E w X b T c U G) {p : Nat × Obj} (hp : p ∈ G) : X.heap[p.1]? = some p.2 := let ⟨_, _, h⟩ := h; (h.held p hp).1
theorem L2E.swap {w X : World} {b c : Nat} {T U : Tb} {G : List (Nat × Obj)} (h : L2E w X b T c U G) : L2E w X c U b T G := by
  obtain ⟨S, R, h⟩ := h
  exact ⟨R, S, h.t2, h.t1, fun k q p => h.dis k p q, h.n2, h.n1, h.bel, h.i2, h.i1, fun p hp => ⟨(h.held p hp).1, (h.held p hp).2.2, (h.held p hp).2.1⟩⟩
theorem L2E.below {w X Y : World} {b c : Nat} {T U : Tb} {G : List (Nat × Obj)} (h : L2E w X b T c U G) (hb : Below X.heap.size X Y) : L2E w Y b T c U G := by
  obtain ⟨S, R, h⟩ := h
  exact ⟨S, R, h.t1.below hb, h.t2.below hb, h.dis, h.n1, h.n2, h.bel.trans (hb.mono h.bel.size), h.i1, h.i2, fun p hp => ⟨(hb.block _ (Array.getElem?_eq_some_iff.1 (h.held p hp).1).1).trans (h.held p hp).1, (h.held p hp).2⟩⟩
theorem L2E.to {w X Y : World} {b c : Nat} {T T' U : Tb} {S R : Nat → Prop} {G : List (Nat × Obj)} (h : L2 w X b T S c U R G) (hi : Inv T') (hs : TabTo X Y b T' S) : L2E w Y b T' c U G := by
  obtain ⟨S', h1, h2, h3⟩ := hs
  have hB := h.bel.size
  refine ⟨S', R, h1, h.t2.fr h3 (fun k q p => h.dis k p q), fun k hk hr => ?_, fun k hk => ?_, h.n2, h.bel.trans (h3.below hB (fun k hk => h.n1 k hk)), hi, h.i2, fun p hp => ?_⟩
  · rcases h2 k hk with q | q
    · exact h.dis k q hr
    · have := h.t2.lt k hr; omega
  · rcases h2 k hk with q | q
    · exact h.n1 k q
    · omega
  · have hl := (Array.getElem?_eq_some_iff.1 (h.held p hp).1).1
    refine ⟨(h3.block _ hl (h.held p hp).2.1).trans (h.held p hp).1, fun q => ?_, (h.held p hp).2.2⟩
    rcases h2 _ q with q | q
    · exact (h.held p hp).2.1 q
    · omega
theorem L2E.box {w X : World} {b c : Nat} {T U : Tb} {G : List (Nat × Obj)} (h : L2E w X b T c U G) (cs : Array Value) (t : TypeId) : L2E w (X.alloc (.cells cs t)) b T c U ((X.heap.size, .cells cs t (0, 0)) :: G) := by
  obtain ⟨S, R, h⟩ := h
  have hb : Below X.heap.size X (X.alloc (.cells cs t)) := (Below.refl _ X).alloc (Nat.le_refl _) _
  have hl1 := h.t1.lt
  have hl2 := h.t2.lt
  refine ⟨S, R, h.t1.below hb, h.t2.below hb, h.dis, h.n1, h.n2, h.bel.alloc h.bel.size _, h.i1, h.i2, fun p hp => ?_⟩
  rcases List.mem_cons.1 hp with rfl | hp
  · exact ⟨heap_alloc_new X _, fun q => by have := hl1 _ q; simp at this, fun q => by have := hl2 _ q; simp at this⟩
  · exact ⟨(hb.block _ (Array.getElem?_eq_some_iff.1 (h.held p hp).1).1).trans (h.held p hp).1, (h.held p hp).2⟩
theorem L2E.less {w X : World} {b c : Nat} {T U : Tb} {G G' : List (Nat × Obj)} (h : L2E w X b T c U G) (hs : ∀ p ∈ G', p ∈ G) : L2E w X b T c U G' := by
  obtain ⟨S, R, h⟩ := h
  exact ⟨S, R, h.t1, h.t2, h.dis, h.n1, h.n2, h.bel, h.i1, h.i2, fun p hp => h.held p (hs p hp)⟩
/-- a second one, made since -/
theorem L2E.start {w X Y : World} {b c : Nat} {T U : Tb} {R : Nat → Prop} {G : List (Nat × Obj)} (h : LvE w X b T G) (h2 : Tab Y c U R) (hR : ∀ k, R k → X.heap.size ≤ k) (hi : Inv U) (hb : Below X.heap.size X Y) : L2E w Y b T c U G := by
  obtain ⟨S, h⟩ := h
  refine ⟨S, R, h.tab.below hb, h2, fun k q p => by have := h.tab.lt k q; have := hR k p; omega, h.new, fun k hk => Nat.le_trans h.bel.size (hR k hk), h.bel.trans (hb.mono h.bel.size), h.inv, hi, fun p hp => ?_⟩
  have hl := (Array.getElem?_eq_some_iff.1 (h.held p hp).1).1
  exact ⟨(hb.block _ hl).trans (h.held p hp).1, (h.held p hp).2, fun q => by have := hR _ q; omega⟩
theorem L2E.one {w X : World} {b c : Nat} {T U : Tb} {G : List (Nat × Obj)} (h : L2E w X b T c U G) : LvE w X b T G := by
  obtain ⟨S, R, h⟩ := h
  exact ⟨S, h.t1, h.n1, h.bel, h.i1, fun p hp => ⟨(h.held p hp).1, (h.held p hp).2.1⟩⟩
theorem tick_l2 {w X : World} {b c : Nat} {T U : Tb} {G : List (Nat × Obj)} (h : L2E w X b T c U G) : Calls Try.prog 13 #[.pointer (some ⟨b, 0, none⟩)] X fun e Y => e = .returned (.tuple #[]) ∧ L2E w Y b (tick T) c U G := by
  obtain ⟨S, R, h⟩ := h
  exact (tick_any h.t1 h.i1).mono fun e Y q => ⟨q.1, L2E.to h (inv_tick h.i1) q.2⟩
theorem reg_l2 {w X : World} {b c : Nat} {T U : Tb} {G : List (Nat × Obj)} (h : L2E w X b T c U G) : Calls Try.prog 11 #[.pointer (some ⟨b, 0, none⟩)] X fun e Y => e = .returned (.tuple #[.int .i64 (reg T).2.1, .int .i64 (reg T).2.2]) ∧ L2E w Y b (reg T).1 c U G := by
  obtain ⟨S, R, h⟩ := h
  exact (reg_any h.t1 h.i1).mono fun e Y q => ⟨q.1, L2E.to h (inv_reg h.i1) q.2⟩
theorem check_l2 {w X : World} {b c : Nat} {T U : Tb} {G : List (Nat × Obj)} (h : L2E w X b T c U G) (id q : Int) : Calls Try.prog 8 #[.pointer (some ⟨b, 0, none⟩), .int .i64 id, .int .i64 q] X fun e Y => e = .returned (.tuple #[.int .i64 (check T id q).1, rpV (check T id q).2]) ∧ L2E w Y b T c U G := by
  have h0 := h
  obtain ⟨S, R, h⟩ := h
  obtain ⟨v, h1⟩ := h.t1
  exact (check_at h1 h.i1 id q).mono fun e Y q => ⟨q.1, h0.below q.2⟩
theorem done_l2 {w X : World} {b c : Nat} {T U : Tb} {G : List (Nat × Obj)} (h : L2E w X b T c U G) (id q : Int) {r : Rp} (hr : RpI r) (he : I64 r.e) : Calls Try.prog 9 #[.pointer (some ⟨b, 0, none⟩), .int .i64 id, .int .i64 q, rpV r] X fun e Y => e = .returned (.int .i64 (done T id q r).2) ∧ L2E w Y b (done T id q r).1 c U G := by
  obtain ⟨S, R, h⟩ := h
  exact (done_any h.t1 h.i1 id q r hr he).mono fun e Y p => ⟨p.1, L2E.to h (inv_done h.i1 id q hr) p.2⟩
theorem expire_l2 {w X : World} {b c : Nat} {T U : Tb} {G : List (Nat × Obj)} (h : L2E w X b T c U G) (n : Int) : Calls Try.prog 14 #[.pointer (some ⟨b, 0, none⟩), .int .i64 n] X fun e Y => e = .returned (.int .i64 (expire T n).2) ∧ L2E w Y b (expire T n).1 c U G := by
  obtain ⟨S, R, h⟩ := h
  exact (expire_any h.t1 h.i1 n).mono fun e Y q => ⟨q.1, L2E.to h (inv_expire h.i1 n) q.2⟩
theorem save_l2 {w X : World} {b c : Nat} {T U : Tb} {G : List (Nat × Obj)} (h : L2E w X b T c U G) : Calls Try.prog 7 #[.pointer (some ⟨b, 0, none⟩)] X fun e Y => e = .returned (.string (save T)) ∧ L2E w Y b T c U G := by
  have h0 := h
  obtain ⟨S, R, h⟩ := h
  obtain ⟨v, h1⟩ := h.t1
  exact (save_at h1 h.i1).mono fun e Y q => ⟨q.1, h0.below q.2⟩
theorem ids_l2 {w X : World} {b c : Nat} {T U : Tb} {G : List (Nat × Obj)} (h : L2E w X b T c U G) : Calls Try.prog 15 #[.pointer (some ⟨b, 0, none⟩)] X fun e Y => ∃ u, e = .returned u ∧ Own DI Y X.heap.size u (ids T) ∧ L2E w Y b T c U G := by
  have h0 := h
  obtain ⟨S, R, h⟩ := h
  obtain ⟨v, h1⟩ := h.t1
  exact (ids_at h1 h.i1).mono fun e Y ⟨u, q1, q2, q3⟩ => ⟨u, q1, q2, h0.below q3⟩
set_option maxHeartbeats 2000000 in
theorem play_l2 {w X : World} {b c : Nat} {T U : Tb} {G : List (Nat × Obj)} (h : L2E w X b T c U G) (x : SP.Act) (hr : RpI x.r) (he : I64 x.r.e) : Calls Try.prog 6 #[.pointer (some ⟨b, 0, none⟩), actV x] X fun e Y => e = .returned (.tuple #[]) ∧ L2E w Y b (play T x) c U G := by
  have HA := Lib.hid (h.box #[.int .i64 x.k, .int .i64 x.id, .int .i64 x.q, .int .i64 x.n, .int .i64 x.r.e, .string x.r.s, .int .i64 x.r.a, .int .i64 x.r.b, .int .i64 x.r.c, .int .i64 x.r.n] 33)
  obtain ⟨x0, x1, x2, x3, x4, x5, x6, x7, x8, x9⟩ := row10 (HA.out.held (p := (X.heap.size, _)) (List.Mem.head _))
  have HL : Hid (∀ Y T', L2E w Y b T' c U ((X.heap.size, .cells #[.int .i64 x.k, .int .i64 x.id, .int .i64 x.q, .int .i64 x.n, .int .i64 x.r.e, .string x.r.s, .int .i64 x.r.a, .int .i64 x.r.b, .int .i64 x.r.c, .int .i64 x.r.n] 33 (0, 0)) :: G) → L2E w Y b T' c U G) := Lib.hid fun Y T' h => h.less fun p hp => List.mem_cons_of_mem _ hp
  have HP : Hid (play T x = if x.k = 0 then (reg T).1 else if x.k = 1 then tick T else if x.k = 2 ∨ x.k = 3 then (done T x.id x.q x.r).1 else if x.k = 4 then (expire T x.n).1 else T) := Lib.hid rfl
  have C0 := Lib.hid (reg_l2 HA.out)
  have C1 := Lib.hid (tick_l2 HA.out)
  have C2 := Lib.hid (done_l2 HA.out x.id x.q hr he)
  have C4 := Lib.hid (expire_l2 HA.out x.n)
  unfold actV
  clear hr he h
  generalize play T x = PT at *
  obtain ⟨xk, xi, xq, xn, ⟨re, rs, ra, rb, rc, rn⟩⟩ := x
  dsimp only [rpV] at *
  by_cases k0 : xk = 0
  case pos =>
    subst k0
    rw [if_pos rfl] at HP
    have f0 : ((0 : Int) == 0) = true := rfl
    go_enter Try.func6, Try.ntmps6
    go_wp2_with (first | (go_at_call 11; (with_reducible refine (C0.out).mono ?_); rintro e Y ⟨rfl, h⟩; have HH := Lib.hid h; clear h))
    go_end0
    exact ⟨rfl, by rw [HP.out]; exact HL.out _ _ HH.out⟩
  case neg =>
  rw [if_neg k0] at HP
  have f0 : (xk == 0) = false := by simpa using k0
  by_cases k1 : xk = 1
  case pos =>
    subst k1
    rw [if_pos rfl] at HP
    go_enter Try.func6, Try.ntmps6
    go_wp2_with (first | (go_at_call 13; (with_reducible refine (C1.out).mono ?_); rintro e Y ⟨rfl, h⟩; have HH := Lib.hid h; clear h))
    go_end0
    exact ⟨rfl, by rw [HP.out]; exact HL.out _ _ HH.out⟩
  case neg =>
  rw [if_neg k1] at HP
  have f1 : (xk == 1) = false := by simpa using k1
  by_cases k2 : xk = 2
  case pos =>
    subst k2
    rw [if_pos (.inl rfl)] at HP
    go_enter Try.func6, Try.ntmps6
    go_wp2_with (first | (go_at_call 9; (with_reducible refine (C2.out).mono ?_); rintro e Y ⟨rfl, h⟩; have HH := Lib.hid h; clear h))
    go_end0
    exact ⟨rfl, by rw [HP.out]; exact HL.out _ _ HH.out⟩
  case neg =>
  have f2 : (xk == 2) = false := by simpa using k2
  by_cases k3 : xk = 3
  case pos =>
    subst k3
    rw [if_pos (.inr rfl)] at HP
    go_enter Try.func6, Try.ntmps6
    go_wp2_with (first | (go_at_call 9; (with_reducible refine (C2.out).mono ?_); rintro e Y ⟨rfl, h⟩; have HH := Lib.hid h; clear h))
    go_end0
    exact ⟨rfl, by rw [HP.out]; exact HL.out _ _ HH.out⟩
  case neg =>
  rw [if_neg (fun h => h.elim k2 k3)] at HP
  have f3 : (xk == 3) = false := by simpa using k3
  by_cases k4 : xk = 4
  case pos =>
    subst k4
    rw [if_pos rfl] at HP
    go_enter Try.func6, Try.ntmps6
    go_wp2_with (first | (go_at_call 14; (with_reducible refine (C4.out).mono ?_); rintro e Y ⟨rfl, h⟩; have HH := Lib.hid h; clear h))
    go_end0
    exact ⟨rfl, by rw [HP.out]; exact HL.out _ _ HH.out⟩
  case neg =>
    rw [if_neg k4] at HP
    have f4 : (xk == 4) = false := by simpa using k4
    go_enter Try.func6, Try.ntmps6
    go_wp2_with fail
    go_end0
    exact ⟨rfl, by rw [HP.out]; exact HL.out _ _ HA.out⟩
end Go.Proofs.Ytphclpjekpdifaa
