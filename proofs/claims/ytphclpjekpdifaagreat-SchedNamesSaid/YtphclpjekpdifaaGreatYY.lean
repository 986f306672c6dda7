import Derived.Test.YtphclpjekpdifaaGreatYW
import Derived.Test.YtphclpjekpdifaaGreatYX
import Derived.Test.YtphclpjekpdifaaGreatYEk
import Derived.Test.YtphclpjekpdifaaGreatYT
import Derived.Test.YtphclpjekpdifaaGreatYQ
import Derived.Deep.RegionWith
namespace Go.Proofs.YtphclpjekpdifaaGreat
set_option maxRecDepth 20000
open Go.RowKit
open PS (Tx putM dropM setM findM Nod Ten Jb kOf St Cm byName krow row)
open Go.Proofs.YtphclpjekpdifaaGreat.Nm (str)
open Go.Proofs.YtphclpjekpdifaaGreat.Vc (RetBelow fitB I64)
set_option linter.unusedVariables false
structure CmOk (c : Cm) : Prop where
  s : c.s.length ≤ 281474976710656
  t : c.t.length ≤ 281474976710656
  i : I64 c.a ∧ I64 c.b ∧ I64 c.c
theorem refusal_any {w : World} {b : Nat} {S : St} {T : Nat → Prop} (h : Sch w b S T) (hok : Ok S) (c : Cm) (hc0 : CmOk c) :
    Calls Tryz.prog 85 #[.pointer (some ⟨b, 0, none⟩), cmV c] w (RetBelow (.int .i64 (PS.refusal S c.s c.t c.a c.b c.c)) w) := by
  obtain ⟨m0, m1, m2, h⟩ := h
  have hB := fun X (hX : Below w.heap.size w X) => h.below hX
  have hc := fun X (hX : Below w.heap.size w X) => box_cells (hB X hX).box
  have HGJ := Lib.hid fun X (hX : Below w.heap.size w X) => getJ_any c.s X (hc X hX).2.2 (hB X hX).j hc0.s
  have HGT := Lib.hid fun X (hX : Below w.heap.size w X) => getT_any c.t X (hc X hX).2.1 (hB X hX).t hc0.t
  have HFL := Lib.hid fun X (hX : Below w.heap.size w X) => fullJ_any 128 X (hc X hX).2.2 (hB X hX).j
  unfold PS.refusal
  generalize hj : (findM S.J (kOf c.s)).getD PS.zj = j at *
  generalize hFJ : (findM S.J (kOf c.s)).isSome = FJ at *
  generalize ht : (findM S.T (kOf c.t)).getD PS.zt = t at *
  refine refusal_core b c.o (str c.s) (str c.t) c.a c.b c.c c.n FJ _ (findM S.T (kOf c.t)).isSome (str j.s) (str j.t) j.p j.q j.r (str j.on) j.st (str t.s) t.a t.b t.c t.x t.y t.z t.n _ 0 w HGJ HGT HFL (Lib.hid fun e => by rw [if_pos e]) (Lib.hid fun e e2 => ?_) (Lib.hid fun e e2 e3 => ?_) (Lib.hid fun e e2 e3 X => ?_)
  · rw [if_neg (by rw [e]; simp), if_pos (by have := of_decide_eq_true e2; omega)]
  · rw [if_neg (by rw [e]; simp), if_neg (by have := of_decide_eq_false e2; omega)]
    cases hf : findM S.T (kOf c.t) with
    | none => rfl
    | some x => rw [hf] at e3; cases e3
  · rw [if_neg (by rw [e]; simp), if_neg (by have := of_decide_eq_false e2; omega)]
    cases hf : findM S.T (kOf c.t) with
    | none => rw [hf] at e3; cases e3
    | some x =>
      rw [hf] at ht
      obtain rfl : x = t := ht
      have hx := (hok.ten hf).i
      exact refT_any x c.a c.b c.c X hx.2.2.2.1 hx.2.2.2.2.1 hx.2.2.2.2.2.1 hc0.i.1 hc0.i.2.1 hc0.i.2.2
theorem byName_len {α : Type} (l : List (Tx × α)) : (byName l).length ≤ l.length := by
  refine Nat.le_trans (List.length_filterMap_le _ _) ?_
  rw [(sortK_perm _).length_eq, List.length_map]
  exact Nat.le_refl _
theorem byName_mem {α : Type} {l : List (Tx × α)} {x : α} (h : x ∈ byName l) : ∃ k, findM l k = some x := by
  obtain ⟨k, _, hk⟩ := List.mem_filterMap.1 h
  exact ⟨k, hk⟩
theorem byN_any {w : World} {b o : Nat} {mv : Option Nat} {l : List (Tx × Nod)} (hc : w.cell? ⟨b, o, none⟩ = some (.map mv)) (h : ThAt nodV w mv l) (hl : l.length ≤ 1000) (hk : ∀ e ∈ l, KeyOk e.1) : Calls Tryz.prog 45 #[.pointer (some ⟨b, o, none⟩)] w (ByN l w) := by
  rcases h with ⟨rfl, rfl⟩ | ⟨m, rfl, hm⟩
  · exact byN_nil w hc
  · exact byN_some w hc hm hl hk
theorem byT_any {w : World} {b o : Nat} {mv : Option Nat} {l : List (Tx × Ten)} (hc : w.cell? ⟨b, o, none⟩ = some (.map mv)) (h : ThAt tenV w mv l) (hl : l.length ≤ 1000) (hk : ∀ e ∈ l, KeyOk e.1) : Calls Tryz.prog 47 #[.pointer (some ⟨b, o, none⟩)] w (ByT l w) := by
  rcases h with ⟨rfl, rfl⟩ | ⟨m, rfl, hm⟩
  · exact byT_nil w hc
  · exact byT_some w hc hm hl hk
theorem byJ_any {w : World} {b o : Nat} {mv : Option Nat} {l : List (Tx × Jb)} (hc : w.cell? ⟨b, o, none⟩ = some (.map mv)) (h : ThAt jobV w mv l) (hl : l.length ≤ 1000) (hk : ∀ e ∈ l, KeyOk e.1) : Calls Tryz.prog 44 #[.pointer (some ⟨b, o, none⟩)] w (ByJ l w) := by
  rcases h with ⟨rfl, rfl⟩ | ⟨m, rfl, hm⟩
  · exact byJ_nil w hc
  · exact byJ_some w hc hm hl hk
theorem krow_ok {n : Nod} (h : NodOk n) : Nok (krow n) :=
  ⟨by show (kOf n.s).length ≤ _; have := kOf_len n.s; have := h.s; omega, h.i.1, h.i.2.1, h.i.2.2.1, h.i.2.2.2.1, h.i.2.2.2.2.1, h.i.2.2.2.2.2.1⟩
theorem pchoose_any {w : World} {b : Nat} {S : St} {T : Nat → Prop} (h : Sch w b S T) (hok : Ok S) (p q r : Int) (bp : I64 p) (bq : I64 q) (br : I64 r) :
    Calls Tryz.prog 86 #[.pointer (some ⟨b, 0, none⟩), .agg #[.int .i64 p, .int .i64 q, .int .i64 r]] w (ChoosePost (PS.choose S p q r) w) := by
  obtain ⟨m0, m1, m2, h⟩ := h
  have hB := fun X (hX : Below w.heap.size w X) => h.below hX
  have hc := fun X (hX : Below w.heap.size w X) => box_cells (hB X hX).box
  have hno : ∀ n ∈ byName S.N, NodOk n := fun n hn => by
    obtain ⟨k, hk⟩ := byName_mem hn
    exact hok.nod hk
  have hl : (byName S.N).length ≤ 1000 := Nat.le_trans (byName_len _) hok.nl
  refine choose_core b (byName S.N) _ p q r (PS.choose S p q r) w hl hno (Lib.hid rfl) (Lib.hid fun X hX => byN_any (hc X hX).1 (hB X hX).n hok.nl (fun e he => (hok.n e he).1)) (Lib.hid fun A N c X hA hN => ?_)
  refine (choose_any _ A N c p q r X hA hN (by rw [← hN, List.length_map]; exact hl) (fun n hn => ?_) bp bq br).mono ?_
  · obtain ⟨x, hx, rfl⟩ := List.mem_map.1 hn
    exact krow_ok (hno x hx)
  · rintro e w' ⟨i, er, he, hch, hb⟩
    refine ⟨i, er, he, ?_, hb⟩
    rcases choose_of hch with ⟨h1, h2⟩ | ⟨h1, n, h2, h3⟩
    · exact .inl ⟨h1, h2⟩
    · exact .inr ⟨h1, n, h2, h3⟩
theorem fr_boxes {w X0 X1 : World} {b : Nat} {S : St} {T : Nat → Prop} (hT : ∀ k, T k → k < w.heap.size) (h : SchTo X0 X1 b S T) : (∀ k, w.heap.size ≤ k → k < X0.heap.size → X1.heap[k]? = X0.heap[k]?) ∧ X0.heap.size ≤ X1.heap.size := by
  obtain ⟨T', _, _, hf⟩ := h
  exact ⟨fun k h1 h2 => hf.block k h2 (fun q => by have := hT k q; omega), hf.size⟩
theorem create_any {w : World} {b : Nat} {S : St} {T : Nat → Prop} (h : Sch w b S T) (hok : Ok S) (c : Cm) (hc0 : CmOk c) (n : Nod) (hn : NodOk n) :
    Calls Tryz.prog 87 #[.pointer (some ⟨b, 0, none⟩), cmV c, nodV n] w fun e w' => e = .returned (.tuple #[]) ∧ SchTo w w' b (PS.create S c.s c.t c.a c.b c.c n) T := by
  have hT := h.lt
  obtain ⟨m0, m1, m2, h⟩ := h
  have hB := fun X (hX : Below w.heap.size w X) => h.below hX
  have hc := fun X (hX : Below w.heap.size w X) => box_cells (hB X hX).box
  have HGT := Lib.hid fun X (hX : Below w.heap.size w X) => getT_any c.t X (hc X hX).2.1 (hB X hX).t hc0.t
  have ht0 : (findM S.T (kOf c.t)).getD PS.zt = PS.tenOf S c.t := rfl
  rw [ht0] at HGT
  have hto : TenOk (PS.tenOf S c.t) := by
    unfold PS.tenOf
    cases hf : findM S.T (kOf c.t) with
    | some x => exact hok.ten hf
    | none => exact ⟨by simp [PS.zt], by simp [PS.zt, I64]⟩
  unfold PS.create
  generalize PS.tenOf S c.t = t at *
  have hR1 : ∀ X0 X, Below w.heap.size w X0 → Below X0.heap.size X0 X → Calls Tryz.prog 84 #[.pointer (some ⟨b, 1, none⟩), .string (str t.s), tenV (PS.takeT t c.a c.b c.c)] X fun e w' => e = .returned (.tuple #[]) ∧ SchTo X0 w' b ⟨S.N, setM (kOf t.s) (PS.takeT t c.a c.b c.c) S.T, S.J⟩ T := fun X0 X h0 hX =>
    (putT_sch (hB X (h0.trans (hX.mono h0.size))) t.s (PS.takeT t c.a c.b c.c) (by have := hto.s; omega) (by have := hok.tl; omega)).mono fun e w' q => ⟨q.1, SchTo.from_ hX q.2⟩
  have hR2 : ∀ X0 X1 X, Below w.heap.size w X0 → SchTo X0 X1 b ⟨S.N, setM (kOf t.s) (PS.takeT t c.a c.b c.c) S.T, S.J⟩ T → Below X1.heap.size X1 X → Calls Tryz.prog 81 #[.pointer (some ⟨b, 0, none⟩), .string (str n.s), nodV (PS.takeN n c.a c.b c.c)] X fun e w' => e = .returned (.tuple #[]) ∧ SchTo X0 w' b ⟨setM (kOf n.s) (PS.takeN n c.a c.b c.c) S.N, setM (kOf t.s) (PS.takeT t c.a c.b c.c) S.T, S.J⟩ T := fun X0 X1 X h0 h1 hX => by
    obtain ⟨T1, ⟨k0, k1, k2, hs⟩, h2, h3⟩ := h1
    exact (putN_sch (hs.below hX) n.s (PS.takeN n c.a c.b c.c) (by have := hn.s; omega) (by have := hok.nl; show S.N.length ≤ _; omega)).mono fun e w' q => ⟨q.1, SchTo.go h2 h3 (SchTo.from_ hX q.2)⟩
  have hR3 : ∀ X0 X1 X, Below w.heap.size w X0 → SchTo X0 X1 b ⟨setM (kOf n.s) (PS.takeN n c.a c.b c.c) S.N, setM (kOf t.s) (PS.takeT t c.a c.b c.c) S.T, S.J⟩ T → Below X1.heap.size X1 X → Calls Tryz.prog 91 #[.pointer (some ⟨b, 2, none⟩), .string (str c.s), jobV ⟨c.s, t.s, c.a, c.b, c.c, n.s, 0⟩] X fun e w' => e = .returned (.tuple #[]) ∧ SchTo X0 w' b ⟨setM (kOf n.s) (PS.takeN n c.a c.b c.c) S.N, setM (kOf t.s) (PS.takeT t c.a c.b c.c) S.T, setM (kOf c.s) ⟨c.s, t.s, c.a, c.b, c.c, n.s, 0⟩ S.J⟩ T := fun X0 X1 X h0 h1 hX => by
    obtain ⟨T1, ⟨k0, k1, k2, hs⟩, h2, h3⟩ := h1
    exact (putJ_sch (hs.below hX) c.s ⟨c.s, t.s, c.a, c.b, c.c, n.s, 0⟩ hc0.s (by have := hok.jl; show S.J.length ≤ _; omega)).mono fun e w' q => ⟨q.1, SchTo.go h2 h3 (SchTo.from_ hX q.2)⟩
  refine (create_core b c.o (str c.s) (str c.t) c.a c.b c.c c.n _ (str n.s) n.a n.b n.c n.x n.y n.z n.n n.d (str t.s) t.a t.b t.c t.x t.y t.z t.n _ _ _ _ _ _ _ _
    (fun X0 X1 => SchTo X0 X1 b ⟨S.N, setM (kOf t.s) (PS.takeT t c.a c.b c.c) S.T, S.J⟩ T) (fun X0 X1 => SchTo X0 X1 b ⟨setM (kOf n.s) (PS.takeN n c.a c.b c.c) S.N, setM (kOf t.s) (PS.takeT t c.a c.b c.c) S.T, S.J⟩ T)
    (fun X0 X1 => SchTo X0 X1 b ⟨setM (kOf n.s) (PS.takeN n c.a c.b c.c) S.N, setM (kOf t.s) (PS.takeT t c.a c.b c.c) S.T, setM (kOf c.s) ⟨c.s, t.s, c.a, c.b, c.c, n.s, 0⟩ S.J⟩ T) w HGT
    (Lib.hid fun g W hr => take_any g _ _ _ _ _ _ _ _ _ _ W hr hto.i.2.2.2.1 hto.i.2.2.2.2.1 hto.i.2.2.2.2.2.1 hc0.i.1 hc0.i.2.1 hc0.i.2.2)
    (Lib.hid fun g W hr => take_any g _ _ _ _ _ _ _ _ _ _ W hr hn.i.2.2.2.1 hn.i.2.2.2.2.1 hn.i.2.2.2.2.2.1 hc0.i.1 hc0.i.2.1 hc0.i.2.2)
    (Lib.hid hR1) (Lib.hid hR2) (Lib.hid hR3) (Lib.hid fun X0 X1 q => q.elim (fr_boxes hT) (fr_boxes hT))).mono ?_
  rintro e w' ⟨he, X0, hX0, hq⟩
  exact ⟨he, SchTo.from_ hX0 hq⟩
def rpV (r : PS.Rp) : Value := .agg #[.int .i64 r.e, .string (str r.s), .int .i64 r.a, .int .i64 r.b, .int .i64 r.c, .int .i64 r.n]
theorem SchTo.only {X0 X1 X2 : World} {b k0 : Nat} {S : St} {T : Nat → Prop} (h : SchTo X0 X1 b S T) (h1 : ¬ T k0) (h2 : k0 < X0.heap.size) (hf : Fr (· = k0) X1 X2) {w : World} (hb : Below w.heap.size w X0) (hk : w.heap.size ≤ k0) (hT : ∀ k, T k → k < w.heap.size) : SchTo w X2 b S T := by
  obtain ⟨T', ⟨m0, m1, m2, hs⟩, hu, hff⟩ := h
  have hn : ∀ k, T' k → k ≠ k0 := fun k q e => by
    subst e
    rcases hu k q with q | q
    · exact h1 q
    · omega
  refine ⟨T', ⟨m0, m1, m2, hs.keep hf.size fun k q => hf.block k (hs.lt k q) (hn k q)⟩, fun k q => ?_, ((Fr.of_below hb).trans hff (fun i q => .inl q)).trans hf fun i q => .inr (by omega)⟩
  rcases hu k q with q2 | q2
  · exact .inl q2
  · exact .inr ⟨Nat.le_trans hb.size q2.1, by have := hf.size; omega⟩
theorem kill_any {w : World} {b : Nat} {S : St} {T : Nat → Prop} (h : Sch w b S T) (hok : Ok S) (c : Cm) (hs0 : c.s.length ≤ 281474976710656) :
    Calls Tryz.prog 42 #[.pointer (some ⟨b, 0, none⟩), cmV c] w fun e w' => e = .returned (rpV (PS.kill S c.s).2) ∧ SchTo w w' b (PS.kill S c.s).1 T := by
  have hT := h.lt
  obtain ⟨m0, m1, m2, h⟩ := h
  have hB := fun X (hX : Below w.heap.size w X) => h.below hX
  have hc := fun X (hX : Below w.heap.size w X) => box_cells (hB X hX).box
  have HGJ := Lib.hid fun X (hX : Below w.heap.size w X) => getJ_any c.s X (hc X hX).2.2 (hB X hX).j hs0
  have hto : ∀ k, TenOk (PS.tenOf S k) := fun k => by
    unfold PS.tenOf
    cases hf : findM S.T (kOf k) with
    | some x => exact hok.ten hf
    | none => exact ⟨by simp [PS.zt], by simp [PS.zt, I64]⟩
  have hno : ∀ k, NodOk (PS.nodOf S k) := fun k => by
    unfold PS.nodOf
    cases hf : findM S.N (kOf k) with
    | some x => exact hok.nod hf
    | none => exact ⟨by simp [PS.zn], by simp [PS.zn, I64]⟩
  have hjo : JbOk ((findM S.J (kOf c.s)).getD PS.zj) := by
    cases hf : findM S.J (kOf c.s) with
    | some x => exact hok.job hf
    | none => exact ⟨by simp [PS.zj], by simp [PS.zj, I64]⟩
  have HJN : ∀ j, findM S.J (kOf c.s) = some j → S.J ≠ [] := fun j hj => find_ne hj
  have hk : PS.kill S c.s = match findM S.J (kOf c.s) with
    | none => (S, PS.err 10)
    | some j => (⟨setM (kOf (PS.nodOf S j.on).s) (PS.freeN (PS.nodOf S j.on) j.p j.q j.r) S.N, setM (kOf (PS.tenOf S j.t).s) (PS.freeT (PS.tenOf S j.t) j.p j.q j.r) S.T, dropM (kOf j.s) S.J⟩, ⟨0, j.on, 0, 0, 0, 0⟩) := rfl
  generalize hj : (findM S.J (kOf c.s)).getD PS.zj = j at *
  have HGT := Lib.hid fun X (hX : Below w.heap.size w X) => getT_any j.t X (hc X hX).2.1 (hB X hX).t (by have := hjo.s.2.1; omega)
  have HGN := Lib.hid fun X (hX : Below w.heap.size w X) => getN_any j.on X (hc X hX).1 (hB X hX).n (by have := hjo.s.2.2; omega)
  have ht0 : (findM S.T (kOf j.t)).getD PS.zt = PS.tenOf S j.t := rfl
  have hn0 : (findM S.N (kOf j.on)).getD PS.zn = PS.nodOf S j.on := rfl
  rw [ht0] at HGT
  rw [hn0] at HGN
  have hto := hto j.t
  have hno := hno j.on
  have hR1 : ∀ X0 X, Below w.heap.size w X0 → Below X0.heap.size X0 X → Calls Tryz.prog 84 #[.pointer (some ⟨b, 1, none⟩), .string (str (PS.tenOf S j.t).s), tenV (PS.freeT (PS.tenOf S j.t) j.p j.q j.r)] X fun e w' => e = .returned (.tuple #[]) ∧ SchTo X0 w' b ⟨S.N, setM (kOf (PS.tenOf S j.t).s) (PS.freeT (PS.tenOf S j.t) j.p j.q j.r) S.T, S.J⟩ T := fun X0 X h0 hX =>
    (putT_sch (hB X (h0.trans (hX.mono h0.size))) (PS.tenOf S j.t).s (PS.freeT (PS.tenOf S j.t) j.p j.q j.r) (by have := hto.s; omega) (by have := hok.tl; omega)).mono fun e w' q => ⟨q.1, SchTo.from_ hX q.2⟩
  have hR2 : ∀ X0 X1 X, Below w.heap.size w X0 → SchTo X0 X1 b ⟨S.N, setM (kOf (PS.tenOf S j.t).s) (PS.freeT (PS.tenOf S j.t) j.p j.q j.r) S.T, S.J⟩ T → Below X1.heap.size X1 X → Calls Tryz.prog 81 #[.pointer (some ⟨b, 0, none⟩), .string (str (PS.nodOf S j.on).s), nodV (PS.freeN (PS.nodOf S j.on) j.p j.q j.r)] X fun e w' => e = .returned (.tuple #[]) ∧ SchTo X0 w' b ⟨setM (kOf (PS.nodOf S j.on).s) (PS.freeN (PS.nodOf S j.on) j.p j.q j.r) S.N, setM (kOf (PS.tenOf S j.t).s) (PS.freeT (PS.tenOf S j.t) j.p j.q j.r) S.T, S.J⟩ T := fun X0 X1 X h0 h1 hX => by
    obtain ⟨T1, ⟨k0, k1, k2, hs⟩, h2, h3⟩ := h1
    exact (putN_sch (hs.below hX) (PS.nodOf S j.on).s (PS.freeN (PS.nodOf S j.on) j.p j.q j.r) (by have := hno.s; omega) (by have := hok.nl; show S.N.length ≤ _; omega)).mono fun e w' q => ⟨q.1, SchTo.go h2 h3 (SchTo.from_ hX q.2)⟩
  have hR3 : S.J ≠ [] → ∀ X0 X1 X, Below w.heap.size w X0 → SchTo X0 X1 b ⟨setM (kOf (PS.nodOf S j.on).s) (PS.freeN (PS.nodOf S j.on) j.p j.q j.r) S.N, setM (kOf (PS.tenOf S j.t).s) (PS.freeT (PS.tenOf S j.t) j.p j.q j.r) S.T, S.J⟩ T → Below X1.heap.size X1 X → Calls Tryz.prog 89 #[.pointer (some ⟨b, 2, none⟩), .string (str j.s)] X fun e w' => e = .returned (.tuple #[]) ∧ SchTo X0 w' b ⟨setM (kOf (PS.nodOf S j.on).s) (PS.freeN (PS.nodOf S j.on) j.p j.q j.r) S.N, setM (kOf (PS.tenOf S j.t).s) (PS.freeT (PS.tenOf S j.t) j.p j.q j.r) S.T, dropM (kOf j.s) S.J⟩ T := fun hne X0 X1 X h0 h1 hX => by
    obtain ⟨T1, ⟨k0, k1, k2, hs⟩, h2, h3⟩ := h1
    exact (remJ_sch (hs.below hX) j.s (by have := hjo.s.1; omega) hne).mono fun e w' q => ⟨q.1, SchTo.go h2 h3 (SchTo.from_ hX q.2)⟩
  generalize hgt : PS.tenOf S j.t = t at *
  generalize hgn : PS.nodOf S j.on = n at *
  have hcore := fun (F : Bool) (hF : F = (findM S.J (kOf c.s)).isSome) => kill_core b c.o (str c.s) (str c.t) c.a c.b c.c c.n F _ _ (str j.s) (str j.t) j.p j.q j.r (str j.on) j.st (str t.s) t.a t.b t.c t.x t.y t.z t.n (str n.s) n.a n.b n.c n.x n.y n.z n.n n.d _ _ _ _ _ _ _ _
    (fun X0 X1 => SchTo X0 X1 b ⟨S.N, setM (kOf t.s) (PS.freeT t j.p j.q j.r) S.T, S.J⟩ T) (fun X0 X1 => SchTo X0 X1 b ⟨setM (kOf n.s) (PS.freeN n j.p j.q j.r) S.N, setM (kOf t.s) (PS.freeT t j.p j.q j.r) S.T, S.J⟩ T)
    (fun X0 X1 => SchTo X0 X1 b ⟨setM (kOf n.s) (PS.freeN n j.p j.q j.r) S.N, setM (kOf t.s) (PS.freeT t j.p j.q j.r) S.T, dropM (kOf j.s) S.J⟩ T) w (hF ▸ HGJ) HGT HGN
    (Lib.hid fun g W hr => free_any g _ _ _ _ _ _ _ _ _ _ W hr hto.i.2.2.2.1 hto.i.2.2.2.2.1 hto.i.2.2.2.2.2.1 hjo.i.1 hjo.i.2.1 hjo.i.2.2.1)
    (Lib.hid fun g W hr => free_any g _ _ _ _ _ _ _ _ _ _ W hr hno.i.2.2.2.1 hno.i.2.2.2.2.1 hno.i.2.2.2.2.2.1 hjo.i.1 hjo.i.2.1 hjo.i.2.2.1)
    (Lib.hid hR1) (Lib.hid hR2) (Lib.hid fun hf => hR3 (by
      rw [hF] at hf
      obtain ⟨x, hx⟩ := Option.isSome_iff_exists.1 hf
      exact find_ne hx)) (Lib.hid fun X0 X1 q => q.elim (fr_boxes hT) fun q => q.elim (fr_boxes hT) (fr_boxes hT))
  refine (hcore _ rfl).mono ?_
  rintro e w' (⟨h1, h2, h3⟩ | ⟨h1, h2, X0, X3, h4, h5, h6, h7⟩)
  · cases hf : findM S.J (kOf c.s) with
    | some x => rw [hf] at h1; cases h1
    | none =>
      rw [hf] at hk
      rw [hk]
      exact ⟨h2, h.stay h3⟩
  · cases hf : findM S.J (kOf c.s) with
    | none => rw [hf] at h1; cases h1
    | some x =>
      rw [hf] at hj hk
      obtain rfl : x = j := hj
      rw [hk]
      refine ⟨h2, ?_⟩
      show SchTo w w' b ⟨setM (kOf (PS.nodOf S x.on).s) (PS.freeN (PS.nodOf S x.on) x.p x.q x.r) S.N, setM (kOf (PS.tenOf S x.t).s) (PS.freeT (PS.tenOf S x.t) x.p x.q x.r) S.T, dropM (kOf x.s) S.J⟩ T
      rw [hgt, hgn]
      exact h5.only (fun q => by have := hT _ q; omega) h6 h7 h4 (by omega) hT
end Go.Proofs.YtphclpjekpdifaaGreat
namespace Go.Proofs.YtphclpjekpdifaaGreat
set_option maxRecDepth 20000
open Go.RowKit
open PS (Tx putM dropM setM findM Nod Ten Jb kOf St)
open Go.Proofs.YtphclpjekpdifaaGreat.Nm (str)
open Go.Proofs.YtphclpjekpdifaaGreat.Vc (RetBelow fitB I64)
set_option linter.unusedVariables false
open PS (Cm)
def rpC (e : Int) (s : ByteArray) : Value := .agg #[.int .i64 e, .string s, .int .i64 0, .int .i64 0, .int .i64 0, .int .i64 0]
def SubPost (E : Int) (F : Bool) (ns : ByteArray) (R : World → World → Prop) (w : World) (e : Ending) (w' : World) : Prop :=
  (E ≠ 0 ∧ e = .returned (rpC E ⟨#[]⟩) ∧ Below w.heap.size w w') ∨ (E = 0 ∧ F = false ∧ e = .returned (rpC 12 ⟨#[]⟩) ∧ Below w.heap.size w w') ∨
    (E = 0 ∧ F = true ∧ e = .returned (rpC 0 ns) ∧ ∃ X0 X3, Below w.heap.size w X0 ∧ R X0 X3 ∧ w.heap.size + 1 < X0.heap.size ∧ Fr (· = w.heap.size + 1) X3 w')
set_option maxHeartbeats 4000000 in
theorem submit_core (b : Nat) (co : Int) (cS cT : ByteArray) (p q r cn : Int) (E : Int) (F : Bool) (n_s : ByteArray) (n_a : Int) (n_b : Int) (n_c : Int) (n_x : Int) (n_y : Int) (n_z : Int) (n_n : Int) (n_d : Bool) (R : World → World → Prop) (w : World)
    (HRF : Hid (∀ X, Below w.heap.size w X → Calls Tryz.prog 85 #[.pointer (some ⟨b, 0, none⟩), .agg #[.int .i64 co, .string cS, .string cT, .int .i64 p, .int .i64 q, .int .i64 r, .int .i64 cn]] X (RetBelow (.int .i64 E) X)))
    (HCH : Hid (∀ X, Below w.heap.size w X → Calls Tryz.prog 86 #[.pointer (some ⟨b, 0, none⟩), .agg #[.int .i64 p, .int .i64 q, .int .i64 r]] X (RetBelow (.tuple #[.agg #[.string n_s, .int .i64 n_a, .int .i64 n_b, .int .i64 n_c, .int .i64 n_x, .int .i64 n_y, .int .i64 n_z, .int .i64 n_n, .bool n_d], .bool F]) X)))
    (HCR : Hid (E = 0 → F = true → ∀ X, Below w.heap.size w X → Calls Tryz.prog 87 #[.pointer (some ⟨b, 0, none⟩), .agg #[.int .i64 co, .string cS, .string cT, .int .i64 p, .int .i64 q, .int .i64 r, .int .i64 cn], .agg #[.string n_s, .int .i64 n_a, .int .i64 n_b, .int .i64 n_c, .int .i64 n_x, .int .i64 n_y, .int .i64 n_z, .int .i64 n_n, .bool n_d]] X fun e w' => e = .returned (.tuple #[]) ∧ R X w'))
    (HFr : Hid (∀ X0 X1, R X0 X1 → (∀ k, w.heap.size ≤ k → k < X0.heap.size → X1.heap[k]? = X0.heap[k]?) ∧ X0.heap.size ≤ X1.heap.size)) :
    Calls Tryz.prog 41 #[.pointer (some ⟨b, 0, none⟩), .agg #[.int .i64 co, .string cS, .string cT, .int .i64 p, .int .i64 q, .int .i64 r, .int .i64 cn]] w (SubPost E F n_s R w) := by
  have HBW0 := Lib.hid (below_2 w (.cells #[.int .i64 co, .string cS, .string cT, .int .i64 p, .int .i64 q, .int .i64 r, .int .i64 cn] 33) (.cells #[.int .i64 0, .string ⟨#[]⟩, .int .i64 0, .int .i64 0, .int .i64 0, .int .i64 0] 30))
  have HCX0 := Lib.hid (show ((w.alloc (.cells #[.int .i64 co, .string cS, .string cT, .int .i64 p, .int .i64 q, .int .i64 r, .int .i64 cn] 33)).alloc (.cells #[.int .i64 0, .string ⟨#[]⟩, .int .i64 0, .int .i64 0, .int .i64 0, .int .i64 0] 30)).heap[w.heap.size]? = some (.cells #[.int .i64 co, .string cS, .string cT, .int .i64 p, .int .i64 q, .int .i64 r, .int .i64 cn] 33 (0, 0)) from (Below.heap_alloc _ _ _ (by simp)).trans (heap_alloc_new w _))
  have HRX0 := Lib.hid (show ((w.alloc (.cells #[.int .i64 co, .string cS, .string cT, .int .i64 p, .int .i64 q, .int .i64 r, .int .i64 cn] 33)).alloc (.cells #[.int .i64 0, .string ⟨#[]⟩, .int .i64 0, .int .i64 0, .int .i64 0, .int .i64 0] 30)).heap[w.heap.size + 1]? = some (.cells #[.int .i64 0, .string ⟨#[]⟩, .int .i64 0, .int .i64 0, .int .i64 0, .int .i64 0] 30 (0, 0)) from by have := heap_alloc_new (w.alloc (.cells #[.int .i64 co, .string cS, .string cT, .int .i64 p, .int .i64 q, .int .i64 r, .int .i64 cn] 33)) (.cells #[.int .i64 0, .string ⟨#[]⟩, .int .i64 0, .int .i64 0, .int .i64 0, .int .i64 0] 30); rwa [show (w.alloc (.cells #[.int .i64 co, .string cS, .string cT, .int .i64 p, .int .i64 q, .int .i64 r, .int .i64 cn] 33)).heap.size = w.heap.size + 1 from by simp] at this)
  obtain ⟨p0, p1, p2, p3, p4, p5, p6, _⟩ := rowc7 HCX0.out
  by_cases hE : E = 0
  case neg =>
    have he1 : (E == 0) = false := by simp [hE]
    have he2 : (E != 0) = true := by simp [hE]
    have hbd : ∀ W : World, (Instr.build 30 #[(0, .int .i64 E)]).run Tryz.prog W = .ok (.agg #[.int .i64 E, .string ⟨#[]⟩, .int .i64 0, .int .i64 0, .int .i64 0, .int .i64 0]) W := fun W => run_build W 30 _ _ (by kernel_rfl)
    go_enter Tryz.func41, Tryz.ntmps41
    go_wp2_with (first | (go_at_call 85; (with_reducible refine (HRF.out _ HBW0.out).mono ?_); rintro e w1 ⟨rfl, hb1⟩; have HB1 := Lib.hid (HBW0.out.trans (hb1.mono HBW0.out.size)); have HR1 := Lib.hid ((hb1.block (w.heap.size + 1) (by simp)).trans HRX0.out); obtain ⟨x0, x1, x2, x3, x4, x5, f0, f1, f2, f3, f4, f5⟩ := rowc6 HR1.out; clear hb1 p0 p1 p2 p3 p4 p5 p6))
    refine (show bodyPost Tryz.prog Tryz.f41 _ Exit.ret _ (wr6 w1 (w.heap.size + 1) (.int .i64 E) (.string ⟨#[]⟩) (.int .i64 0) (.int .i64 0) (.int .i64 0) (.int .i64 0)) from ?_)
    have R := wr6_row (a0 := .int .i64 E) (a1 := .string ⟨#[]⟩) (a2 := .int .i64 0) (a3 := .int .i64 0) (a4 := .int .i64 0) (a5 := .int .i64 0) HR1.out
    have FF := wr6_fr w1 (w.heap.size + 1) (.int .i64 E) (.string ⟨#[]⟩) (.int .i64 0) (.int .i64 0) (.int .i64 0) (.int .i64 0)
    generalize wr6 w1 (w.heap.size + 1) (.int .i64 E) (.string ⟨#[]⟩) (.int .i64 0) (.int .i64 0) (.int .i64 0) (.int .i64 0) = W at *
    obtain ⟨y0, y1, y2, y3, y4, y5, _⟩ := rowc6 R
    refine bodyPost_ret (v := .agg #[.int .i64 E, .string ⟨#[]⟩, .int .i64 0, .int .i64 0, .int .i64 0, .int .i64 0]) (by simp [results, Tryz.results41, go_sem, y0, y1, y2, y3, y4, y5]) rfl (.inl ⟨hE, rfl, HB1.out.trans (FF.below (by have := HB1.out.size; omega) (fun k e => by omega))⟩)
  case pos =>
    subst hE
    go_enter Tryz.func41, Tryz.ntmps41
    cases F with
    | false =>
      have hbd : ∀ W : World, (Instr.build 30 #[(0, .int .i64 12)]).run Tryz.prog W = .ok (.agg #[.int .i64 12, .string ⟨#[]⟩, .int .i64 0, .int .i64 0, .int .i64 0, .int .i64 0]) W := fun W => run_build W 30 _ _ (by kernel_rfl)
      go_wp2_with (first | (go_at_call 85; (with_reducible refine (HRF.out _ HBW0.out).mono ?_); rintro e w1 ⟨rfl, hb1⟩; have HB1 := Lib.hid (HBW0.out.trans (hb1.mono HBW0.out.size)); have HC1 := Lib.hid ((hb1.block w.heap.size (by simp; omega)).trans HCX0.out); have HR1 := Lib.hid ((hb1.block (w.heap.size + 1) (by simp)).trans HRX0.out); clear hb1 p0 p1 p2 p3 p4 p5 p6; obtain ⟨_, _, _, p3, p4, p5, _⟩ := rowc7 HC1.out) | (go_at_call 86; (with_reducible refine (HCH.out _ HB1.out).mono ?_); rintro e w2 ⟨rfl, hb2⟩; have HB2 := Lib.hid ((HB1.out.trans (hb2.mono HB1.out.size)).alloc (by have := HB1.out.size; have := hb2.size; omega) (.cells #[.string n_s, .int .i64 n_a, .int .i64 n_b, .int .i64 n_c, .int .i64 n_x, .int .i64 n_y, .int .i64 n_z, .int .i64 n_n, .bool n_d] 99)); have HR2 := Lib.hid ((Below.heap_alloc w2 (.cells #[.string n_s, .int .i64 n_a, .int .i64 n_b, .int .i64 n_c, .int .i64 n_x, .int .i64 n_y, .int .i64 n_z, .int .i64 n_n, .bool n_d] 99) (w.heap.size + 1) (by have := (Array.getElem?_eq_some_iff.1 HR1.out).1; have := hb2.size; omega)).trans ((hb2.block _ (Array.getElem?_eq_some_iff.1 HR1.out).1).trans HR1.out)); obtain ⟨x0, x1, x2, x3, x4, x5, f0, f1, f2, f3, f4, f5⟩ := rowc6 HR2.out; clear hb2 p3 p4 p5))
      generalize w2.alloc (.cells #[.string n_s, .int .i64 n_a, .int .i64 n_b, .int .i64 n_c, .int .i64 n_x, .int .i64 n_y, .int .i64 n_z, .int .i64 n_n, .bool n_d] 99) = W2 at *
      refine (show bodyPost Tryz.prog Tryz.f41 _ Exit.ret _ (wr6 W2 (w.heap.size + 1) (.int .i64 12) (.string ⟨#[]⟩) (.int .i64 0) (.int .i64 0) (.int .i64 0) (.int .i64 0)) from ?_)
      have R := wr6_row (a0 := .int .i64 12) (a1 := .string ⟨#[]⟩) (a2 := .int .i64 0) (a3 := .int .i64 0) (a4 := .int .i64 0) (a5 := .int .i64 0) HR2.out
      have FF := wr6_fr W2 (w.heap.size + 1) (.int .i64 12) (.string ⟨#[]⟩) (.int .i64 0) (.int .i64 0) (.int .i64 0) (.int .i64 0)
      generalize wr6 W2 (w.heap.size + 1) (.int .i64 12) (.string ⟨#[]⟩) (.int .i64 0) (.int .i64 0) (.int .i64 0) (.int .i64 0) = W at *
      obtain ⟨y0, y1, y2, y3, y4, y5, _⟩ := rowc6 R
      refine bodyPost_ret (v := .agg #[.int .i64 12, .string ⟨#[]⟩, .int .i64 0, .int .i64 0, .int .i64 0, .int .i64 0]) (by simp [results, Tryz.results41, go_sem, y0, y1, y2, y3, y4, y5]) rfl (.inr (.inl ⟨rfl, rfl, rfl, HB2.out.trans (FF.below HB2.out.size (fun k e => by omega))⟩))
    | true =>
      have HCR2 := Lib.hid (HCR.out rfl rfl)
      have hbd : ∀ W : World, (Instr.build 30 #[(1, .string n_s)]).run Tryz.prog W = .ok (.agg #[.int .i64 0, .string n_s, .int .i64 0, .int .i64 0, .int .i64 0, .int .i64 0]) W := fun W => run_build W 30 _ _ (by kernel_rfl)
      go_wp2_with (first | (go_at_call 85; (with_reducible refine (HRF.out _ HBW0.out).mono ?_); rintro e w1 ⟨rfl, hb1⟩; have HB1 := Lib.hid (HBW0.out.trans (hb1.mono HBW0.out.size)); have HC1 := Lib.hid ((hb1.block w.heap.size (by simp; omega)).trans HCX0.out); have HR1 := Lib.hid ((hb1.block (w.heap.size + 1) (by simp)).trans HRX0.out); clear hb1 p0 p1 p2 p3 p4 p5 p6; obtain ⟨_, _, _, p3, p4, p5, _⟩ := rowc7 HC1.out) | (go_at_call 86; (with_reducible refine (HCH.out _ HB1.out).mono ?_); rintro e w2 ⟨rfl, hb2⟩; have HL2 := Lib.hid (show w.heap.size + 1 < w2.heap.size by have := (Array.getElem?_eq_some_iff.1 HR1.out).1; have := hb2.size; omega); have HB2 := Lib.hid ((HB1.out.trans (hb2.mono HB1.out.size)).alloc (by have := HB1.out.size; have := hb2.size; omega) (.cells #[.string n_s, .int .i64 n_a, .int .i64 n_b, .int .i64 n_c, .int .i64 n_x, .int .i64 n_y, .int .i64 n_z, .int .i64 n_n, .bool n_d] 99)); have HC2 := Lib.hid ((Below.heap_alloc w2 (.cells #[.string n_s, .int .i64 n_a, .int .i64 n_b, .int .i64 n_c, .int .i64 n_x, .int .i64 n_y, .int .i64 n_z, .int .i64 n_n, .bool n_d] 99) w.heap.size (by have := HL2.out; omega)).trans ((hb2.block _ (Array.getElem?_eq_some_iff.1 HC1.out).1).trans HC1.out)); have HR2 := Lib.hid ((Below.heap_alloc w2 (.cells #[.string n_s, .int .i64 n_a, .int .i64 n_b, .int .i64 n_c, .int .i64 n_x, .int .i64 n_y, .int .i64 n_z, .int .i64 n_n, .bool n_d] 99) (w.heap.size + 1) HL2.out).trans ((hb2.block _ (Array.getElem?_eq_some_iff.1 HR1.out).1).trans HR1.out)); have HN2 := Lib.hid (heap_alloc_new w2 (.cells #[.string n_s, .int .i64 n_a, .int .i64 n_b, .int .i64 n_c, .int .i64 n_x, .int .i64 n_y, .int .i64 n_z, .int .i64 n_n, .bool n_d] 99)); clear hb2 p3 p4 p5; obtain ⟨p0, p1, p2, p3, p4, p5, p6, _⟩ := rowc7 HC2.out; obtain ⟨q0, q1, q2, q3, q4, q5, q6, q7, q8, _⟩ := rowc9 HN2.out) | (go_at_call 87; (with_reducible refine (HCR2.out _ HB2.out).mono ?_); rintro e W3 ⟨rfl, hP⟩; have HQ := Lib.hid hP; have HE := Lib.hid (HFr.out _ _ hP); have HR3 := Lib.hid ((HE.out.1 (w.heap.size + 1) (by omega) (Array.getElem?_eq_some_iff.1 HR2.out).1).trans HR2.out); have HN3 := Lib.hid ((HE.out.1 w2.heap.size (by have := HL2.out; omega) (Array.getElem?_eq_some_iff.1 HN2.out).1).trans HN2.out); clear hP p0 p1 p2 p3 p4 p5 p6 q0 q1 q2 q3 q4 q5 q6 q7 q8; obtain ⟨q0, _⟩ := rowc9 HN3.out; obtain ⟨x0, x1, x2, x3, x4, x5, f0, f1, f2, f3, f4, f5⟩ := rowc6 HR3.out))
      refine (show bodyPost Tryz.prog Tryz.f41 _ Exit.ret _ (wr6 W3 (w.heap.size + 1) (.int .i64 0) (.string n_s) (.int .i64 0) (.int .i64 0) (.int .i64 0) (.int .i64 0)) from ?_)
      have R := wr6_row (a0 := .int .i64 0) (a1 := .string n_s) (a2 := .int .i64 0) (a3 := .int .i64 0) (a4 := .int .i64 0) (a5 := .int .i64 0) HR3.out
      have FF := wr6_fr W3 (w.heap.size + 1) (.int .i64 0) (.string n_s) (.int .i64 0) (.int .i64 0) (.int .i64 0) (.int .i64 0)
      generalize wr6 W3 (w.heap.size + 1) (.int .i64 0) (.string n_s) (.int .i64 0) (.int .i64 0) (.int .i64 0) (.int .i64 0) = W at *
      obtain ⟨y0, y1, y2, y3, y4, y5, _⟩ := rowc6 R
      refine bodyPost_ret (v := .agg #[.int .i64 0, .string n_s, .int .i64 0, .int .i64 0, .int .i64 0, .int .i64 0]) (by simp [results, Tryz.results41, go_sem, y0, y1, y2, y3, y4, y5]) rfl (.inr (.inr ⟨rfl, rfl, rfl, _, W3, HB2.out, HQ.out, (Array.getElem?_eq_some_iff.1 HR2.out).1, FF⟩))
end Go.Proofs.YtphclpjekpdifaaGreat
namespace Go.Proofs.YtphclpjekpdifaaGreat
set_option maxRecDepth 20000
open Go.RowKit
open PS (Tx putM dropM setM findM Nod Ten Jb kOf St)
open Go.Proofs.YtphclpjekpdifaaGreat.Nm (str)
open Go.Proofs.YtphclpjekpdifaaGreat.Vc (RetBelow fitB I64)
set_option linter.unusedVariables false
open PS (Cm row byName)
def tenR (n : Ten) : List Value := [.string (str n.s), .int .i64 n.a, .int .i64 n.b, .int .i64 n.c, .int .i64 n.x, .int .i64 n.y, .int .i64 n.z]
def DTR : CT Ten := ⟨tenR, 7, 48, 38, .agg #[.string ⟨#[]⟩, .int .i64 0, .int .i64 0, .int .i64 0, .int .i64 0, .int .i64 0, .int .i64 0], 64, fun _ => rfl, fun x u h => by simp only [tenR, List.mem_cons, List.not_mem_nil, or_false] at h; rcases h with rfl | rfl | rfl | rfl | rfl | rfl | rfl <;> rfl, by omega, by omega, by rfl, by omega, by kernel_rfl, Tryz.underlying38⟩
set_option maxHeartbeats 4000000 in
theorem nodes_core (b : Nat) (L : List Nod) (LR : List Nd) (w : World) (hl : L.length ≤ 1000) (HLR : Hid (LR = L.map row))
    (HBY : Hid (∀ X, Below w.heap.size w X → Calls Tryz.prog 45 #[.pointer (some ⟨b, 0, none⟩)] X fun e w' => ∃ v, e = .returned v ∧ Own DN w' X.heap.size v L ∧ Below X.heap.size X w')) :
    Calls Tryz.prog 15 #[.pointer (some ⟨b, 0, none⟩)] w fun e w' => ∃ v, e = .returned v ∧ Own DR w' w.heap.size v LR ∧ Below w.heap.size w w' := by
  have HL := Lib.hid hl
  have HB0 := Lib.hid (Below.refl w.heap.size w)
  clear hl
  go_enter Tryz.func15, Tryz.ntmps15
  go_wp2_with (first | (go_at_call 45; (with_reducible refine (HBY.out _ HB0.out).mono ?_); rintro e w1 ⟨v1, rfl, hown, hb⟩; have HO1 := Lib.hid hown; have HB1 := Lib.hid hb; obtain ⟨A1, c1, hv1, hr1, _, _, _⟩ := hown.form; subst hv1; clear hown hb hr1))
  obtain ⟨N, hN⟩ : ∃ N, N = L.length := ⟨_, rfl⟩
  have HN := Lib.hid hN
  rw [← hN]
  have hNb : N ≤ 1000 := by rw [hN]; exact HL.out
  clear hN
  go_loopw [3, 5, 13] (fun rV _ iV wr => ∃ (v : Value) (j : Nat), v = rV ∧ j ≤ N ∧ iV = .int .i64 j ∧ Own DR wr w1.heap.size v (LR.take j) ∧ Below w1.heap.size w1 wr) (fun _ _ iV _ => N - (intOf iV).toNat)
  case atStart => exact ⟨_, 0, rfl, Nat.zero_le _, rfl, Own.nil _ _ _, Below.refl _ _⟩
  case round =>
    obtain ⟨v, j, rfl, hj, rfl, hown, hbw⟩ := hrel
    have HBW := Lib.hid hbw
    have HO := Lib.hid hown
    clear hown hbw
    by_cases hlt : j < N
    · obtain ⟨n, hn⟩ : ∃ n, L[j]? = some n := ⟨_, List.getElem?_eq_getElem (by have := HN.out; omega)⟩
      have HLT := Lib.hid hlt
      obtain ⟨g, cp, hsl, hg1, hg2, hcs⟩ := HO1.out.at_ hn
      injection hsl with hA hLL hcp
      clear hLL
      subst hcp
      subst hA
      have HCS : ∀ q u, (nodC n)[q]? = some u → wr.cell? ⟨g, j * 9 + q, none⟩ = some u := fun q u hu => cellB (hcs q u hu) HBW.out hg2
      have e0 : wr.cell? ⟨g, j * 9, none⟩ = some (.string (str n.s)) := HCS 0 _ rfl
      have e1 := HCS 1 _ rfl
      have e2 := HCS 2 _ rfl
      have e3 := HCS 3 _ rfl
      have e4 := HCS 4 _ rfl
      have e5 := HCS 5 _ rfl
      have e6 := HCS 6 _ rfl
      have e7 := HCS 7 _ rfl
      have e8 := HCS 8 _ rfl
      clear HCS hcs
      have HST : Hid (LR.take (j + 1) = LR.take j ++ [row n]) := Lib.hid (by rw [List.take_add_one, HLR.out, List.getElem?_map, hn]; rfl)
      have HFL : Hid ((LR.take j).length ≤ 1000) := Lib.hid (by rw [List.length_take, HLR.out, List.length_map]; have := HL.out; omega)
      have HSZ := Lib.hid HBW.out.size
      have HKR : Hid (nodeC (row n) = [.string (str n.s), .int .i64 n.a, .int .i64 n.b, .int .i64 n.c, .int .i64 n.x, .int .i64 n.y, .int .i64 n.z, .bool n.d]) := Lib.hid rfl
      generalize row n = KR at *
      obtain ⟨ns, na, nb, nc, nx, ny, nz, nn, nd⟩ := n
      dsimp only at *
      generalize str ns = SS at *
      clear hn
      have HBXX : ∀ w2 : World, Below wr.heap.size wr w2 → Hid (Below wr.heap.size wr (w2.alloc (.cells #[.string SS, .int .i64 na, .int .i64 nb, .int .i64 nc, .int .i64 nx, .int .i64 ny, .int .i64 nz, .bool nd] 43))) ∧ Hid ((w2.alloc (.cells #[.string SS, .int .i64 na, .int .i64 nb, .int .i64 nc, .int .i64 nx, .int .i64 ny, .int .i64 nz, .bool nd] 43)).heap[w2.heap.size]? = some (.cells (nodeC KR).toArray 43 (0, 0))) := fun w2 h => ⟨Lib.hid (h.alloc h.size _), Lib.hid (by rw [HKR.out]; exact heap_alloc_new w2 _)⟩
      have HBXH := Lib.hid HBXX
      clear HBXX
      go_wp2_with (first | (go_at_call 46; (with_reducible refine (nrow_core SS na nb nc nx ny nz nn nd _).mono ?_); rintro e w2 ⟨rfl, hb2⟩; obtain ⟨HBB, HBX⟩ := HBXH.out w2 (((Below.refl wr.heap.size wr).alloc (Nat.le_refl _) _).trans (hb2.mono (by simp))); clear hb2) | (at_builtin; (refine wp_appX DR rfl (.tmp 17) (.tmp 20) rfl w1.heap.size v _ rfl (HO.out.keep fun g hg => HBB.out.block g (HO.out.lt hg).2) (some ⟨w2.heap.size, 0, none⟩) 1 1 _ [KR] rfl (fun h => by cases h) (Rws.box HBX.out) rfl (Nat.le_refl _) ?hln ?hbs ?_)))
      case hln => have := HFL.out; omega
      case hbs => have := HBB.out.size; have := HSZ.out; omega
      intro v' w4 hown4 hgrow _
      have HO4 := Lib.hid hown4
      have HB4 := Lib.hid ((HBW.out.trans (HBB.out.mono HSZ.out)).grown hgrow (by have := HBB.out.size; have := HSZ.out; omega) (fun k hk => (HO.out.lt hk).1))
      clear hown4 hgrow
      go_wp2_with fail
      go_roundw
      case rel => exact ⟨v', j + 1, rfl, Nat.succ_le_of_lt HLT.out, by go_num, HST.out ▸ HO4.out, HB4.out⟩
      case measure => exact meas_lt HLT.out
    · have hln : LR.length = N := by rw [HLR.out, List.length_map]; exact HN.out.symm
      have hjl : LR.take j = LR := List.take_of_length_le (by omega)
      rw [hjl] at HO
      have HBZ := Lib.hid (HB1.out.trans (HBW.out.mono HB1.out.size))
      have HOZ := Lib.hid (HO.out.mono HB1.out.size)
      clear hjl hln HO
      go_wp2_with fail
      go_ret
      exact ⟨v, rfl, HOZ.out, HBZ.out⟩
set_option maxHeartbeats 4000000 in
theorem tenants_core (b : Nat) (L : List Ten) (LR : List Ten) (w : World) (hl : L.length ≤ 1000) (HLR : Hid (LR = L.map id))
    (HBY : Hid (∀ X, Below w.heap.size w X → Calls Tryz.prog 47 #[.pointer (some ⟨b, 1, none⟩)] X fun e w' => ∃ v, e = .returned v ∧ Own DT w' X.heap.size v L ∧ Below X.heap.size X w')) :
    Calls Tryz.prog 16 #[.pointer (some ⟨b, 0, none⟩)] w fun e w' => ∃ v, e = .returned v ∧ Own DTR w' w.heap.size v LR ∧ Below w.heap.size w w' := by
  have HL := Lib.hid hl
  have HB0 := Lib.hid (Below.refl w.heap.size w)
  clear hl
  go_enter Tryz.func16, Tryz.ntmps16
  go_wp2_with (first | (go_at_call 47; (with_reducible refine (HBY.out _ HB0.out).mono ?_); rintro e w1 ⟨v1, rfl, hown, hb⟩; have HO1 := Lib.hid hown; have HB1 := Lib.hid hb; obtain ⟨A1, c1, hv1, hr1, _, _, _⟩ := hown.form; subst hv1; clear hown hb hr1))
  obtain ⟨N, hN⟩ : ∃ N, N = L.length := ⟨_, rfl⟩
  have HN := Lib.hid hN
  rw [← hN]
  have hNb : N ≤ 1000 := by rw [hN]; exact HL.out
  clear hN
  go_loopw [3, 5, 13] (fun rV _ iV wr => ∃ (v : Value) (j : Nat), v = rV ∧ j ≤ N ∧ iV = .int .i64 j ∧ Own DTR wr w1.heap.size v (LR.take j) ∧ Below w1.heap.size w1 wr) (fun _ _ iV _ => N - (intOf iV).toNat)
  case atStart => exact ⟨_, 0, rfl, Nat.zero_le _, rfl, Own.nil _ _ _, Below.refl _ _⟩
  case round =>
    obtain ⟨v, j, rfl, hj, rfl, hown, hbw⟩ := hrel
    have HBW := Lib.hid hbw
    have HO := Lib.hid hown
    clear hown hbw
    by_cases hlt : j < N
    · obtain ⟨n, hn⟩ : ∃ n, L[j]? = some n := ⟨_, List.getElem?_eq_getElem (by have := HN.out; omega)⟩
      have HLT := Lib.hid hlt
      obtain ⟨g, cp, hsl, hg1, hg2, hcs⟩ := HO1.out.at_ hn
      injection hsl with hA hLL hcp
      clear hLL
      subst hcp
      subst hA
      have HCS : ∀ q u, (tenC n)[q]? = some u → wr.cell? ⟨g, j * 8 + q, none⟩ = some u := fun q u hu => cellB (hcs q u hu) HBW.out hg2
      have e0 : wr.cell? ⟨g, j * 8, none⟩ = some (.string (str n.s)) := HCS 0 _ rfl
      have e1 := HCS 1 _ rfl
      have e2 := HCS 2 _ rfl
      have e3 := HCS 3 _ rfl
      have e4 := HCS 4 _ rfl
      have e5 := HCS 5 _ rfl
      have e6 := HCS 6 _ rfl
      have e7 := HCS 7 _ rfl
      clear HCS hcs
      have HST : Hid (LR.take (j + 1) = LR.take j ++ [id n]) := Lib.hid (by rw [List.take_add_one, HLR.out, List.getElem?_map, hn]; rfl)
      have HFL : Hid ((LR.take j).length ≤ 1000) := Lib.hid (by rw [List.length_take, HLR.out, List.length_map]; have := HL.out; omega)
      have HSZ := Lib.hid HBW.out.size
      have HKR : Hid (tenR (id n) = [.string (str n.s), .int .i64 n.a, .int .i64 n.b, .int .i64 n.c, .int .i64 n.x, .int .i64 n.y, .int .i64 n.z]) := Lib.hid rfl
      generalize id n = KR at *
      obtain ⟨ns, na, nb, nc, nx, ny, nz, nn⟩ := n
      dsimp only at *
      generalize str ns = SS at *
      clear hn
      have HBXX : ∀ w2 : World, Below wr.heap.size wr w2 → Hid (Below wr.heap.size wr (w2.alloc (.cells #[.string SS, .int .i64 na, .int .i64 nb, .int .i64 nc, .int .i64 nx, .int .i64 ny, .int .i64 nz] 48))) ∧ Hid ((w2.alloc (.cells #[.string SS, .int .i64 na, .int .i64 nb, .int .i64 nc, .int .i64 nx, .int .i64 ny, .int .i64 nz] 48)).heap[w2.heap.size]? = some (.cells (tenR KR).toArray 48 (0, 0))) := fun w2 h => ⟨Lib.hid (h.alloc h.size _), Lib.hid (by rw [HKR.out]; exact heap_alloc_new w2 _)⟩
      have HBXH := Lib.hid HBXX
      clear HBXX
      go_wp2_with (first | (go_at_call 48; (with_reducible refine (trow_core SS na nb nc nx ny nz nn _).mono ?_); rintro e w2 ⟨rfl, hb2⟩; obtain ⟨HBB, HBX⟩ := HBXH.out w2 (((Below.refl wr.heap.size wr).alloc (Nat.le_refl _) _).trans (hb2.mono (by simp))); clear hb2) | (at_builtin; (refine wp_appX DTR rfl (.tmp 17) (.tmp 20) rfl w1.heap.size v _ rfl (HO.out.keep fun g hg => HBB.out.block g (HO.out.lt hg).2) (some ⟨w2.heap.size, 0, none⟩) 1 1 _ [KR] rfl (fun h => by cases h) (Rws.box HBX.out) rfl (Nat.le_refl _) ?hln ?hbs ?_)))
      case hln => have := HFL.out; omega
      case hbs => have := HBB.out.size; have := HSZ.out; omega
      intro v' w4 hown4 hgrow _
      have HO4 := Lib.hid hown4
      have HB4 := Lib.hid ((HBW.out.trans (HBB.out.mono HSZ.out)).grown hgrow (by have := HBB.out.size; have := HSZ.out; omega) (fun k hk => (HO.out.lt hk).1))
      clear hown4 hgrow
      go_wp2_with fail
      go_roundw
      case rel => exact ⟨v', j + 1, rfl, Nat.succ_le_of_lt HLT.out, by go_num, HST.out ▸ HO4.out, HB4.out⟩
      case measure => exact meas_lt HLT.out
    · have hln : LR.length = N := by rw [HLR.out, List.length_map]; exact HN.out.symm
      have hjl : LR.take j = LR := List.take_of_length_le (by omega)
      rw [hjl] at HO
      have HBZ := Lib.hid (HB1.out.trans (HBW.out.mono HB1.out.size))
      have HOZ := Lib.hid (HO.out.mono HB1.out.size)
      clear hjl hln HO
      go_wp2_with fail
      go_ret
      exact ⟨v, rfl, HOZ.out, HBZ.out⟩
theorem jobs_core (b : Nat) (L : List Jb) (w : World)
    (HBY : Hid (∀ X, Below w.heap.size w X → Calls Tryz.prog 44 #[.pointer (some ⟨b, 2, none⟩)] X fun e w' => ∃ v, e = .returned v ∧ Own DJ w' X.heap.size v L ∧ Below X.heap.size X w')) :
    Calls Tryz.prog 14 #[.pointer (some ⟨b, 0, none⟩)] w fun e w' => ∃ v, e = .returned v ∧ Own DJ w' w.heap.size v L ∧ Below w.heap.size w w' := by
  have HB0 := Lib.hid (Below.refl w.heap.size w)
  go_enter Tryz.func14, Tryz.ntmps14
  go_wp2_with (first | (go_at_call 44; (with_reducible refine (HBY.out _ HB0.out).mono ?_); rintro e w1 ⟨v1, rfl, hown, hb⟩; have HO1 := Lib.hid hown; have HB1 := Lib.hid hb; clear hown hb))
  go_ret
  exact ⟨v1, rfl, HO1.out, HB1.out⟩
theorem new_any (w : World) : Calls Tryz.prog 12 #[] w fun e w' => ∃ b, e = .returned (.pointer (some ⟨b, 0, none⟩)) ∧ w.heap.size ≤ b ∧ Sch w' b PS.s0 (· = b) ∧ Below w.heap.size w w' := by
  have hbd : ∀ W : World, (Instr.build 91 #[]).run Tryz.prog W = .ok (.agg #[.map none, .map none, .map none]) W := fun W => run_build W 91 _ _ (by kernel_rfl)
  go_enter Tryz.func12, Tryz.ntmps12
  go_wp2_with fail
  go_ret
  refine ⟨w.heap.size, rfl, Nat.le_refl _, ⟨none, none, none, heap_alloc_new w _, rfl, fun k hk => by subst hk; simp, .inl ⟨rfl, rfl⟩, .inl ⟨rfl, rfl⟩, .inl ⟨rfl, rfl⟩, fun k e => (by cases e), fun k e => (by cases e), fun k e => (by cases e), fun k e => (by cases e), fun k e => (by cases e), fun k e => (by cases e)⟩, (Below.refl _ w).alloc (Nat.le_refl _) _⟩
theorem nodes_any {w : World} {b : Nat} {S : St} {T : Nat → Prop} (h : Sch w b S T) (hok : Ok S) : Calls Tryz.prog 15 #[.pointer (some ⟨b, 0, none⟩)] w fun e w' => ∃ v, e = .returned v ∧ Own DR w' w.heap.size v ((byName S.N).map row) ∧ Below w.heap.size w w' := by
  obtain ⟨m0, m1, m2, h⟩ := h
  exact nodes_core b _ _ w (Nat.le_trans (byName_len _) hok.nl) (Lib.hid rfl) (Lib.hid fun X hX => byN_any (box_cells (h.below hX).box).1 (h.below hX).n hok.nl (fun e he => (hok.n e he).1))
theorem tenants_any {w : World} {b : Nat} {S : St} {T : Nat → Prop} (h : Sch w b S T) (hok : Ok S) : Calls Tryz.prog 16 #[.pointer (some ⟨b, 0, none⟩)] w fun e w' => ∃ v, e = .returned v ∧ Own DTR w' w.heap.size v (byName S.T) ∧ Below w.heap.size w w' := by
  obtain ⟨m0, m1, m2, h⟩ := h
  exact tenants_core b _ _ w (Nat.le_trans (byName_len _) hok.tl) (Lib.hid (List.map_id _).symm) (Lib.hid fun X hX => byT_any (box_cells (h.below hX).box).2.1 (h.below hX).t hok.tl (fun e he => (hok.t e he).1))
theorem jobs_any {w : World} {b : Nat} {S : St} {T : Nat → Prop} (h : Sch w b S T) (hok : Ok S) : Calls Tryz.prog 14 #[.pointer (some ⟨b, 0, none⟩)] w fun e w' => ∃ v, e = .returned v ∧ Own DJ w' w.heap.size v (byName S.J) ∧ Below w.heap.size w w' := by
  obtain ⟨m0, m1, m2, h⟩ := h
  exact jobs_core b _ w (Lib.hid fun X hX => byJ_any (box_cells (h.below hX).box).2.2 (h.below hX).j hok.jl (fun e he => (hok.j e he).1))
end Go.Proofs.YtphclpjekpdifaaGreat
