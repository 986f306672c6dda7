import Derived.Test.YtphclpjekpdifaaGreatYU
import Derived.Test.YtphclpjekpdifaaGreatYV
import Derived.Test.YtphclpjekpdifaaGreatYS
import Derived.Test.YtphclpjekpdifaaGreatYT
namespace Go.Proofs.YtphclpjekpdifaaGreat
set_option maxRecDepth 20000
open Go.RowKit
open PS (Tx putM dropM setM findM Nod Ten Jb kOf St Cm)
open Go.Proofs.YtphclpjekpdifaaGreat.Nm (str)
open Go.Proofs.YtphclpjekpdifaaGreat.Vc (RetBelow fitB I64)
set_option linter.unusedVariables false
def cmV (c : Cm) : Value := .agg #[.int .i64 c.o, .string (str c.s), .string (str c.t), .int .i64 c.a, .int .i64 c.b, .int .i64 c.c, .int .i64 c.n]
structure NodOk (n : Nod) : Prop where
  s : n.s.length ≤ 1000
  i : I64 n.a ∧ I64 n.b ∧ I64 n.c ∧ I64 n.x ∧ I64 n.y ∧ I64 n.z ∧ I64 n.n
structure TenOk (n : Ten) : Prop where
  s : n.s.length ≤ 1000
  i : I64 n.a ∧ I64 n.b ∧ I64 n.c ∧ I64 n.x ∧ I64 n.y ∧ I64 n.z ∧ I64 n.n
structure JbOk (j : Jb) : Prop where
  s : j.s.length ≤ 1000 ∧ j.t.length ≤ 1000 ∧ j.on.length ≤ 1000
  i : I64 j.p ∧ I64 j.q ∧ I64 j.r ∧ I64 j.st
def KeyOk (k : Tx) : Prop := k.length ≤ 1000000 ∧ Nm.Pl.okay k = true
structure Ok (S : St) : Prop where
  nl : S.N.length ≤ 1000
  tl : S.T.length ≤ 1000
  jl : S.J.length ≤ 1000
  n : ∀ e ∈ S.N, KeyOk e.1 ∧ NodOk e.2
  t : ∀ e ∈ S.T, KeyOk e.1 ∧ TenOk e.2
  j : ∀ e ∈ S.J, KeyOk e.1 ∧ JbOk e.2
theorem Ok.nod {S : St} (h : Ok S) {k : Tx} {n : Nod} (hn : findM S.N k = some n) : NodOk n := (h.n _ (findM_mem hn)).2
theorem Ok.ten {S : St} (h : Ok S) {k : Tx} {n : Ten} (hn : findM S.T k = some n) : TenOk n := (h.t _ (findM_mem hn)).2
theorem Ok.job {S : St} (h : Ok S) {k : Tx} {n : Jb} (hn : findM S.J k = some n) : JbOk n := (h.j _ (findM_mem hn)).2
theorem SAt.stay {w w' : World} {b : Nat} {S : St} {m0 m1 m2 : Option Nat} {T : Nat → Prop} (h : SAt w b S m0 m1 m2 T) (hb : Below w.heap.size w w') : SchTo w w' b S T := Sch.to ⟨m0, m1, m2, h⟩ hb
theorem setNode_any {w : World} {b : Nat} {S : St} {T : Nat → Prop} (h : Sch w b S T) (hok : Ok S) (c : Cm) (hs : c.s.length ≤ 281474976710656) :
    Calls Tryz.prog 37 #[.pointer (some ⟨b, 0, none⟩), cmV c] w fun e w' => e = .returned (.int .i64 (PS.setNode S c.s c.a c.b c.c).2) ∧ SchTo w w' b (PS.setNode S c.s c.a c.b c.c).1 T := by
  obtain ⟨m0, m1, m2, h⟩ := h
  have h0' := h
  have hB := fun X (hX : Below w.heap.size w X) => h.below hX
  have hc := fun X (hX : Below w.heap.size w X) => box_cells (hB X hX).box
  have HG := Lib.hid fun X (hX : Below w.heap.size w X) => getN_any c.s X (hc X hX).1 (hB X hX).n hs
  have HFL := Lib.hid fun X (hX : Below w.heap.size w X) => fullN_any 32 X (hc X hX).1 (hB X hX).n
  unfold PS.setNode
  cases hf : findM S.N (kOf c.s) with
  | some n =>
    rw [hf] at HG
    have hn := (hok.nod hf).s
    refine setN_core b c.o (str c.s) (str c.t) c.a c.b c.c c.n true _ (fitB n.x n.y n.z c.a c.b c.c) (str n.s) n.a n.b n.c n.x n.y n.z n.n n.d _ _ w HG HFL (Lib.hid rfl) (Lib.hid fun h => by cases h) (Lib.hid fun _ h => ?_) (Lib.hid fun _ h => ?_)
    · dsimp only
      rw [h, if_neg (by simp)]
      exact ⟨rfl, fun X hX => h0'.stay hX⟩
    · dsimp only
      rw [h, if_pos rfl, if_pos rfl]
      exact ⟨rfl, fun X hX => (putN_sch (hB X hX) n.s ⟨n.s, c.a, c.b, c.c, n.x, n.y, n.z, n.n, n.d⟩ (by omega) (by have := hok.nl; omega)).mono fun e w' q => ⟨q.1, SchTo.from_ hX q.2⟩⟩
  | none =>
    rw [hf] at HG
    refine setN_core b c.o (str c.s) (str c.t) c.a c.b c.c c.n false _ (fitB 0 0 0 c.a c.b c.c) (str []) 0 0 0 0 0 0 0 false _ _ w HG HFL (Lib.hid rfl) (Lib.hid fun _ h => ?_) (Lib.hid fun h0 h => ?_) (Lib.hid fun h0 h => ?_)
    · have hl : 32 ≤ S.N.length := by have := of_decide_eq_true h; omega
      dsimp only
      rw [if_pos hl]
      exact ⟨rfl, fun X hX => h0'.stay hX⟩
    · have hl : ¬ 32 ≤ S.N.length := by
        rcases h0 with h0 | h0
        · cases h0
        · have := of_decide_eq_false h0; omega
      dsimp only
      rw [if_neg hl, h, if_neg (by simp)]
      exact ⟨rfl, fun X hX => h0'.stay hX⟩
    · have hl : ¬ 32 ≤ S.N.length := by
        rcases h0 with h0 | h0
        · cases h0
        · have := of_decide_eq_false h0; omega
      dsimp only
      rw [if_neg hl, h, if_pos rfl, if_neg (by simp)]
      exact ⟨rfl, fun X hX => (putN_sch (hB X hX) c.s ⟨c.s, c.a, c.b, c.c, 0, 0, 0, 0, false⟩ hs (by have := hok.nl; omega)).mono fun e w' q => ⟨q.1, SchTo.from_ hX q.2⟩⟩
theorem setTenant_any {w : World} {b : Nat} {S : St} {T : Nat → Prop} (h : Sch w b S T) (hok : Ok S) (c : Cm) (hs : c.s.length ≤ 281474976710656) :
    Calls Tryz.prog 40 #[.pointer (some ⟨b, 0, none⟩), cmV c] w fun e w' => e = .returned (.int .i64 (PS.setTenant S c.s c.a c.b c.c).2) ∧ SchTo w w' b (PS.setTenant S c.s c.a c.b c.c).1 T := by
  obtain ⟨m0, m1, m2, h⟩ := h
  have h0' := h
  have hB := fun X (hX : Below w.heap.size w X) => h.below hX
  have hc := fun X (hX : Below w.heap.size w X) => box_cells (hB X hX).box
  have HG := Lib.hid fun X (hX : Below w.heap.size w X) => getT_any c.s X (hc X hX).2.1 (hB X hX).t hs
  have HFL := Lib.hid fun X (hX : Below w.heap.size w X) => fullT_any 32 X (hc X hX).2.1 (hB X hX).t
  unfold PS.setTenant
  cases hf : findM S.T (kOf c.s) with
  | some n =>
    rw [hf] at HG
    have hn := (hok.ten hf).s
    refine setT_core b c.o (str c.s) (str c.t) c.a c.b c.c c.n true _ (fitB n.x n.y n.z c.a c.b c.c) (str n.s) n.a n.b n.c n.x n.y n.z n.n _ _ w HG HFL (Lib.hid rfl) (Lib.hid fun h => by cases h) (Lib.hid fun _ h => ?_) (Lib.hid fun _ h => ?_)
    · dsimp only
      rw [h, if_neg (by simp)]
      exact ⟨rfl, fun X hX => h0'.stay hX⟩
    · dsimp only
      rw [h, if_pos rfl, if_pos rfl]
      exact ⟨rfl, fun X hX => (putT_sch (hB X hX) n.s ⟨n.s, c.a, c.b, c.c, n.x, n.y, n.z, n.n⟩ (by omega) (by have := hok.tl; omega)).mono fun e w' q => ⟨q.1, SchTo.from_ hX q.2⟩⟩
  | none =>
    rw [hf] at HG
    refine setT_core b c.o (str c.s) (str c.t) c.a c.b c.c c.n false _ (fitB 0 0 0 c.a c.b c.c) (str []) 0 0 0 0 0 0 0 _ _ w HG HFL (Lib.hid rfl) (Lib.hid fun _ h => ?_) (Lib.hid fun h0 h => ?_) (Lib.hid fun h0 h => ?_)
    · have hl : 32 ≤ S.T.length := by have := of_decide_eq_true h; omega
      dsimp only
      rw [if_pos hl]
      exact ⟨rfl, fun X hX => h0'.stay hX⟩
    · have hl : ¬ 32 ≤ S.T.length := by
        rcases h0 with h0 | h0
        · cases h0
        · have := of_decide_eq_false h0; omega
      dsimp only
      rw [if_neg hl, h, if_neg (by simp)]
      exact ⟨rfl, fun X hX => h0'.stay hX⟩
    · have hl : ¬ 32 ≤ S.T.length := by
        rcases h0 with h0 | h0
        · cases h0
        · have := of_decide_eq_false h0; omega
      dsimp only
      rw [if_neg hl, h, if_pos rfl, if_neg (by simp)]
      exact ⟨rfl, fun X hX => (putT_sch (hB X hX) c.s ⟨c.s, c.a, c.b, c.c, 0, 0, 0, 0⟩ hs (by have := hok.tl; omega)).mono fun e w' q => ⟨q.1, SchTo.from_ hX q.2⟩⟩
theorem drain_any {w : World} {b : Nat} {S : St} {T : Nat → Prop} (h : Sch w b S T) (hok : Ok S) (c : Cm) (hs : c.s.length ≤ 281474976710656) :
    Calls Tryz.prog 38 #[.pointer (some ⟨b, 0, none⟩), cmV c] w fun e w' => e = .returned (.int .i64 (PS.drain S c.s c.n).2) ∧ SchTo w w' b (PS.drain S c.s c.n).1 T := by
  obtain ⟨m0, m1, m2, h⟩ := h
  have hB := fun X (hX : Below w.heap.size w X) => h.below hX
  have hc := fun X (hX : Below w.heap.size w X) => box_cells (hB X hX).box
  have HG := Lib.hid fun X (hX : Below w.heap.size w X) => getN_any c.s X (hc X hX).1 (hB X hX).n hs
  unfold PS.drain
  cases hf : findM S.N (kOf c.s) with
  | some n =>
    rw [hf] at HG
    have hn := (hok.nod hf).s
    refine drain_core b c.o (str c.s) (str c.t) c.a c.b c.c c.n true (str n.s) n.a n.b n.c n.x n.y n.z n.n n.d _ _ w HG (Lib.hid fun h => by cases h) (Lib.hid fun _ => ⟨rfl, fun X hX => ?_⟩)
    exact (putN_sch (hB X hX) n.s ⟨n.s, n.a, n.b, n.c, n.x, n.y, n.z, n.n, c.n == 1⟩ (by omega) (by have := hok.nl; omega)).mono fun e w' q => ⟨q.1, SchTo.from_ hX q.2⟩
  | none =>
    rw [hf] at HG
    exact drain_core b c.o (str c.s) (str c.t) c.a c.b c.c c.n false (str []) 0 0 0 0 0 0 0 false _ _ w HG (Lib.hid fun _ => ⟨rfl, fun X hX => h.stay hX⟩) (Lib.hid fun h => by cases h)
theorem find_ne {α : Type} {l : List (Tx × α)} {k : Tx} {x : α} (h : findM l k = some x) : l ≠ [] := by
  rintro rfl
  cases h
theorem drop_any {w : World} {b : Nat} {S : St} {T : Nat → Prop} (h : Sch w b S T) (hok : Ok S) (c : Cm) (hs : c.s.length ≤ 281474976710656) :
    Calls Tryz.prog 39 #[.pointer (some ⟨b, 0, none⟩), cmV c] w fun e w' => e = .returned (.int .i64 (PS.drop S c.s).2) ∧ SchTo w w' b (PS.drop S c.s).1 T := by
  obtain ⟨m0, m1, m2, h⟩ := h
  have hB := fun X (hX : Below w.heap.size w X) => h.below hX
  have hc := fun X (hX : Below w.heap.size w X) => box_cells (hB X hX).box
  have HG := Lib.hid fun X (hX : Below w.heap.size w X) => getN_any c.s X (hc X hX).1 (hB X hX).n hs
  unfold PS.drop
  cases hf : findM S.N (kOf c.s) with
  | some n =>
    rw [hf] at HG
    have hn := (hok.nod hf).s
    refine drop_core b c.o (str c.s) (str c.t) c.a c.b c.c c.n true (str n.s) n.a n.b n.c n.x n.y n.z n.n n.d _ _ w HG (Lib.hid fun h => by cases h) (Lib.hid fun _ hj => ?_) (Lib.hid fun _ hj => ?_)
    · dsimp only
      rw [if_pos hj]
      exact ⟨rfl, fun X hX => h.stay hX⟩
    · dsimp only
      rw [if_neg hj]
      exact ⟨rfl, fun X hX => (remN_sch (hB X hX) n.s (by omega) (find_ne hf)).mono fun e w' q => ⟨q.1, SchTo.from_ hX q.2⟩⟩
  | none =>
    rw [hf] at HG
    exact drop_core b c.o (str c.s) (str c.t) c.a c.b c.c c.n false (str []) 0 0 0 0 0 0 0 false _ _ w HG (Lib.hid fun _ => ⟨rfl, fun X hX => h.stay hX⟩) (Lib.hid fun h => by cases h) (Lib.hid fun h => by cases h)
theorem report_any {w : World} {b : Nat} {S : St} {T : Nat → Prop} (h : Sch w b S T) (hok : Ok S) (c : Cm) (hs : c.s.length ≤ 281474976710656) (ht : c.t.length ≤ 281474976710656) :
    Calls Tryz.prog 43 #[.pointer (some ⟨b, 0, none⟩), cmV c] w fun e w' => e = .returned (.int .i64 (PS.report S c.s c.t c.n).2) ∧ SchTo w w' b (PS.report S c.s c.t c.n).1 T := by
  obtain ⟨m0, m1, m2, h⟩ := h
  have hB := fun X (hX : Below w.heap.size w X) => h.below hX
  have hc := fun X (hX : Below w.heap.size w X) => box_cells (hB X hX).box
  have HG := Lib.hid fun X (hX : Below w.heap.size w X) => getJ_any c.s X (hc X hX).2.2 (hB X hX).j hs
  have HK2 := Lib.hid fun X => keyOf_any c.t X ht
  unfold PS.report
  cases hf : findM S.J (kOf c.s) with
  | some j =>
    rw [hf] at HG
    have hn := (hok.job hf).s
    refine report_core b c.o (str c.s) (str c.t) c.a c.b c.c c.n true (str j.s) (str j.t) j.p j.q j.r (str j.on) j.st (str (kOf j.on)) (str (kOf c.t)) _ _ w HG (Lib.hid fun h => by cases h) (Lib.hid fun X => keyOf_any j.on X (by omega)) HK2 (Lib.hid fun _ hj => ?_) (Lib.hid fun _ hj => ?_)
    · dsimp only
      rw [if_neg (fun e => hj (by rw [e]))]
      exact ⟨rfl, fun X hX => h.stay hX⟩
    · dsimp only
      rw [if_pos (Nm.str_inj.1 hj)]
      exact ⟨rfl, fun X hX => (putJ_sch (hB X hX) j.s ⟨j.s, j.t, j.p, j.q, j.r, j.on, c.n⟩ (by omega) (by have := hok.jl; omega)).mono fun e w' q => ⟨q.1, SchTo.from_ hX q.2⟩⟩
  | none =>
    rw [hf] at HG
    exact report_core b c.o (str c.s) (str c.t) c.a c.b c.c c.n false (str []) (str []) 0 0 0 (str []) 0 (str (kOf [])) (str (kOf c.t)) _ _ w HG (Lib.hid fun _ => ⟨rfl, fun X hX => h.stay hX⟩) (Lib.hid fun X => keyOf_any [] X (by simp)) HK2 (Lib.hid fun h => by cases h) (Lib.hid fun h => by cases h)
end Go.Proofs.YtphclpjekpdifaaGreat
namespace Go.Proofs.YtphclpjekpdifaaGreat
set_option maxRecDepth 20000
open Go.RowKit
open PS (Tx putM dropM setM findM Nod Ten Jb kOf St Cm byName krow row)
open Go.Proofs.YtphclpjekpdifaaGreat.Nm (str)
open Go.Proofs.YtphclpjekpdifaaGreat.Vc (RetBelow fitB I64)
set_option linter.unusedVariables false
def DR : CT Nd := ⟨nodeC, 8, 43, 36, nodeV ⟨[], 0, 0, 0, 0, 0, 0, false⟩, 72, fun _ => rfl, fun x u h => by simp only [nodeC, List.mem_cons, List.not_mem_nil, or_false] at h; rcases h with rfl | rfl | rfl | rfl | rfl | rfl | rfl | rfl <;> rfl, by omega, by omega, by rfl, by omega, by kernel_rfl, Tryz.underlying36⟩
theorem Rws.nodes {w : World} {B : Nat} {A : Option Addr} {L : List Nd} (h : Rws DR w B A L) : NodesAt w B A L := fun hne => by
  obtain ⟨b, off, h1, h2, h3⟩ := h hne
  refine ⟨b, off, h1, h2, fun j n hn => ?_⟩
  have := h3 j n hn
  exact ⟨by have := this 0 _ rfl; rwa [Nat.add_zero] at this, this 1 _ rfl, this 2 _ rfl, this 3 _ rfl, this 4 _ rfl, this 5 _ rfl, this 6 _ rfl, this 7 _ rfl⟩
theorem Own.at_ {α : Type} {D : CT α} {w : World} {base : Nat} {v : Value} {L : List α} (h : Own D w base v L) {i : Nat} {x : α} (hx : L[i]? = some x) :
    ∃ g cap, v = .slice (some ⟨g, 0, none⟩) L.length cap ∧ base ≤ g ∧ g < w.heap.size ∧ ∀ q u, (D.C x)[q]? = some u → w.cell? ⟨g, i * D.m + q, none⟩ = some u := by
  obtain ⟨g, cap, h1, h2, h3, h4⟩ := h.row (fun e => by rw [e] at hx; simp at hx)
  refine ⟨g, cap, h1, h2, h3, fun q u hu => ?_⟩
  have := h.cells (g := g) h4 (i * D.m + q) u (flat_get D L i x hx q u hu)
  unfold Addr.add at this
  split at this
  · rename_i e
    rw [e]
    exact this
  · simpa using this
theorem meas_lt {j N : Nat} (h : j < N) : N - (intOf (.int .i64 ((j : Int) + 1))).toNat < N - (intOf (.int .i64 (j : Int))).toNat := by simp [intOf]; omega
def ChoosePost (o : Option Nod) (w : World) (e : Ending) (w' : World) : Prop := e = .returned (.tuple #[nodV (o.getD PS.zn), .bool o.isSome]) ∧ Below w.heap.size w w'
set_option maxHeartbeats 4000000 in
theorem choose_core (b : Nat) (L : List Nod) (LK : List Nd) (p q r : Int) (RES : Option Nod) (w : World) (hl : L.length ≤ 1000) (hok : ∀ n ∈ L, NodOk n) (HLK : Hid (LK = L.map krow))
    (HBY : Hid (∀ X, Below w.heap.size w X → Calls Tryz.prog 45 #[.pointer (some ⟨b, 0, none⟩)] X fun e w' => ∃ v, e = .returned v ∧ Own DN w' X.heap.size v L ∧ Below X.heap.size X w'))
    (HCH : Hid (∀ (A : Option Addr) (N c : Nat) (X : World), NodesAt X X.heap.size A LK → LK.length = N → Calls Tryz.prog 122 #[.slice A N c, .agg #[.int .i64 p, .int .i64 q, .int .i64 r]] X fun e w' => ∃ i er : Nat, e = .returned (.tuple #[.int .i64 (i : Nat), .int .i64 (er : Nat)]) ∧ ((er ≠ 0 ∧ RES = none) ∨ (er = 0 ∧ ∃ n, L[i]? = some n ∧ RES = some n)) ∧ Below X.heap.size X w')) :
    Calls Tryz.prog 86 #[.pointer (some ⟨b, 0, none⟩), .agg #[.int .i64 p, .int .i64 q, .int .i64 r]] w (ChoosePost RES w) := by
  have HL := Lib.hid hl
  have HOK := Lib.hid hok
  have HB0 := Lib.hid (below_2 w (.cells #[.int .i64 p, .int .i64 q, .int .i64 r] 28) (.cells #[.string ⟨#[]⟩, .int .i64 0, .int .i64 0, .int .i64 0, .int .i64 0, .int .i64 0, .int .i64 0, .int .i64 0, .bool false] 99))
  have HPX0 := Lib.hid (show ((w.alloc (.cells #[.int .i64 p, .int .i64 q, .int .i64 r] 28)).alloc (.cells #[.string ⟨#[]⟩, .int .i64 0, .int .i64 0, .int .i64 0, .int .i64 0, .int .i64 0, .int .i64 0, .int .i64 0, .bool false] 99)).heap[w.heap.size]? = some (.cells #[.int .i64 p, .int .i64 q, .int .i64 r] 28 (0, 0)) from (Below.heap_alloc _ _ _ (by simp)).trans (heap_alloc_new w _))
  have HZX0 := Lib.hid (show ((w.alloc (.cells #[.int .i64 p, .int .i64 q, .int .i64 r] 28)).alloc (.cells #[.string ⟨#[]⟩, .int .i64 0, .int .i64 0, .int .i64 0, .int .i64 0, .int .i64 0, .int .i64 0, .int .i64 0, .bool false] 99)).heap[w.heap.size + 1]? = some (.cells #[.string ⟨#[]⟩, .int .i64 0, .int .i64 0, .int .i64 0, .int .i64 0, .int .i64 0, .int .i64 0, .int .i64 0, .bool false] 99 (0, 0)) from by have := heap_alloc_new (w.alloc (.cells #[.int .i64 p, .int .i64 q, .int .i64 r] 28)) (.cells #[.string ⟨#[]⟩, .int .i64 0, .int .i64 0, .int .i64 0, .int .i64 0, .int .i64 0, .int .i64 0, .int .i64 0, .bool false] 99); rwa [show (w.alloc (.cells #[.int .i64 p, .int .i64 q, .int .i64 r] 28)).heap.size = w.heap.size + 1 from by simp] at this)
  clear hl hok
  go_enter Tryz.func86, Tryz.ntmps86
  go_wp2_with (first | (go_at_call 45; (with_reducible refine (HBY.out _ HB0.out).mono ?_); rintro e w1 ⟨v1, rfl, hown, hb⟩; have HO1 := Lib.hid hown; have HB1 := Lib.hid hb; obtain ⟨A1, c1, hv1, hr1, _, _, _⟩ := hown.form; subst hv1; clear hown hb hr1))
  have HBW1 := Lib.hid (HB0.out.trans (HB1.out.mono HB0.out.size))
  obtain ⟨N, hN⟩ : ∃ N, N = L.length := ⟨_, rfl⟩
  have HN := Lib.hid hN
  rw [← hN]
  have hNb : N ≤ 1000 := by rw [hN]; exact HL.out
  clear hN
  go_loopw [7, 9, 10, 19] (fun rV _ _ iV wr => ∃ (v : Value) (j : Nat), v = rV ∧ j ≤ N ∧ iV = .int .i64 j ∧ Own DR wr w1.heap.size v (LK.take j) ∧ Below w1.heap.size w1 wr) (fun _ _ _ iV _ => N - (intOf iV).toNat)
  case atStart => exact ⟨_, 0, rfl, Nat.zero_le _, rfl, Own.nil _ _ _, Below.refl _ _⟩
  case round =>
    obtain ⟨v, j, rfl, hj, rfl, hown, hbw⟩ := hrel
    have HBW := Lib.hid hbw
    have HO := Lib.hid hown
    clear hown hbw
    by_cases hlt : j < N
    · obtain ⟨n, hn⟩ : ∃ n, L[j]? = some n := ⟨_, List.getElem?_eq_getElem (by have := HN.out; omega)⟩
      have HLT := Lib.hid hlt
      obtain ⟨g, cp, hsl, hg1, hg2, hcs⟩ := HO1.out.at_ hn
      injection hsl with hA hLL hcp
      clear hLL
      subst hcp
      subst hA
      have HCS : ∀ q u, (nodC n)[q]? = some u → wr.cell? ⟨g, j * 9 + q, none⟩ = some u := fun q u hu => cellB (hcs q u hu) HBW.out hg2
      have e0 : wr.cell? ⟨g, j * 9, none⟩ = some (.string (str n.s)) := HCS 0 _ rfl
      have e1 := HCS 1 _ rfl
      have e2 := HCS 2 _ rfl
      have e3 := HCS 3 _ rfl
      have e4 := HCS 4 _ rfl
      have e5 := HCS 5 _ rfl
      have e6 := HCS 6 _ rfl
      have e7 := HCS 7 _ rfl
      have e8 := HCS 8 _ rfl
      clear HCS hcs
      have HST : Hid (LK.take (j + 1) = LK.take j ++ [krow n]) := Lib.hid (by rw [List.take_add_one, HLK.out, List.getElem?_map, hn]; rfl)
      have HFL : Hid ((LK.take j).length ≤ 1000) := Lib.hid (by rw [List.length_take, HLK.out, List.length_map]; have := HL.out; omega)
      have HSZ := Lib.hid HBW.out.size
      have hns := (HOK.out n (List.mem_of_getElem? hn)).s
      have HK := Lib.hid fun X => keyOf_any n.s X (by omega)
      have HKR : Hid (nodeC (krow n) = [.string (str (kOf n.s)), .int .i64 n.a, .int .i64 n.b, .int .i64 n.c, .int .i64 n.x, .int .i64 n.y, .int .i64 n.z, .bool n.d]) := Lib.hid rfl
      generalize krow n = KR at *
      generalize str (kOf n.s) = KS at *
      obtain ⟨ns, na, nb, nc, nx, ny, nz, nn, nd⟩ := n
      dsimp only at *
      generalize str ns = SS at *
      clear hns hn
      go_wp2_with (first | (go_at_call 46; (with_reducible refine (nrow_core SS na nb nc nx ny nz nn nd _).mono ?_); rintro e w2 ⟨rfl, hb2⟩; have HB2 := Lib.hid hb2; have q0 : w2.cell? ⟨wr.heap.size, 0, none⟩ = some (.string SS) := (rowc9 ((hb2.block _ (by simp)).trans (heap_alloc_new wr _))).1; have hq0 := lt_of_cell q0; clear hb2) | (go_at_call 90; (with_reducible refine (HK.out _).mono ?_); rintro e w3 ⟨rfl, hb3⟩; have HB3 := Lib.hid hb3; have HR3 := Lib.hid ((hb3.block w2.heap.size (by simp)).trans (heap_alloc_new w2 _)); obtain ⟨r0, r1, r2, r3, r4, r5, r6, r7, f0, _⟩ := rowc8 HR3.out; have HBA := Lib.hid (((((Below.refl wr.heap.size wr).alloc (Nat.le_refl _) (.cells #[.string SS, .int .i64 na, .int .i64 nb, .int .i64 nc, .int .i64 nx, .int .i64 ny, .int .i64 nz, .int .i64 nn, .bool nd] 99)).trans (HB2.out.mono (by simp))).alloc (by have := HB2.out.size; simp at this; omega) (.cells #[.string SS, .int .i64 na, .int .i64 nb, .int .i64 nc, .int .i64 nx, .int .i64 ny, .int .i64 nz, .bool nd] 43)).trans (HB3.out.mono (by have := HB2.out.size; simp at this; simp; omega))); have HBB := Lib.hid ((HBA.out.setCell (p := ⟨w2.heap.size, 0, none⟩) (show wr.heap.size ≤ w2.heap.size by omega) (.string KS)).alloc (by simp [World.setCell]; have := HBA.out.size; omega) (.cells #[.string KS, .int .i64 na, .int .i64 nb, .int .i64 nc, .int .i64 nx, .int .i64 ny, .int .i64 nz, .bool nd] 43)); have HBX := Lib.hid (show ((w3.setCell ⟨w2.heap.size, 0, none⟩ (.string KS)).alloc (.cells #[.string KS, .int .i64 na, .int .i64 nb, .int .i64 nc, .int .i64 nx, .int .i64 ny, .int .i64 nz, .bool nd] 43)).heap[w3.heap.size]? = some (.cells (nodeC KR).toArray 43 (0, 0)) from by have := heap_alloc_new (w3.setCell ⟨w2.heap.size, 0, none⟩ (.string KS)) (.cells #[.string KS, .int .i64 na, .int .i64 nb, .int .i64 nc, .int .i64 nx, .int .i64 ny, .int .i64 nz, .bool nd] 43); rw [HKR.out]; rwa [show (w3.setCell ⟨w2.heap.size, 0, none⟩ (.string KS)).heap.size = w3.heap.size from by simp [World.setCell]] at this); clear hb3) | (at_builtin; (refine wp_appX DR rfl (.tmp 29) (.tmp 31) rfl w1.heap.size v _ rfl (HO.out.keep fun g hg => HBB.out.block g (HO.out.lt hg).2) (some ⟨w3.heap.size, 0, none⟩) 1 1 _ [KR] rfl (fun h => by cases h) (Rws.box HBX.out) rfl (Nat.le_refl _) ?hln ?hbs ?_)))
      case hln => have := HFL.out; omega
      case hbs => have := HBB.out.size; have := HSZ.out; omega
      intro v' w4 hown4 hgrow _
      have HO4 := Lib.hid hown4
      have HB4 := Lib.hid ((HBW.out.trans (HBB.out.mono HSZ.out)).grown hgrow (by have := HBB.out.size; have := HSZ.out; omega) (fun k hk => (HO.out.lt hk).1))
      clear hown4 hgrow
      go_wp2_with fail
      go_roundw
      case rel => exact ⟨v', j + 1, rfl, Nat.succ_le_of_lt HLT.out, by go_num, HST.out ▸ HO4.out, HB4.out⟩
      case measure => exact meas_lt HLT.out
    · obtain ⟨A, cp, rfl, hrw, _, _, _⟩ := HO.out.form
      have hln : LK.length = N := by rw [HLK.out, List.length_map]; exact HN.out.symm
      have hjl : LK.take j = LK := List.take_of_length_le (by omega)
      rw [hjl] at hrw ⊢
      rw [hln]
      have HQ := Lib.hid (HCH.out A N cp wr hrw.nodes hln)
      have HB01 := Lib.hid (HB1.out.trans (HBW.out.mono HB1.out.size))
      have HPX := Lib.hid ((HB01.out.block w.heap.size (by simp; omega)).trans HPX0.out)
      have HZX := Lib.hid ((HB01.out.block (w.heap.size + 1) (by simp)).trans HZX0.out)
      have HBV := Lib.hid (HBW1.out.trans (HBW.out.mono HBW1.out.size))
      obtain ⟨p0, p1, p2⟩ := rowc3 HPX.out
      clear hjl hln hrw HO HPX0 HZX0 HCH HBY
      go_wp2_with (go_at_call 122; fail)
      refine HQ.out.mono ?_
      rintro e w5 ⟨i, er, rfl, hch, hb5⟩
      have HB5 := Lib.hid hb5
      have HZ5 := Lib.hid ((hb5.block _ (Array.getElem?_eq_some_iff.1 HZX.out).1).trans HZX.out)
      have HB05 := Lib.hid (HBV.out.trans (hb5.mono HBV.out.size))
      obtain ⟨z0, z1, z2, z3, z4, z5, z6, z7, z8, f0, f1, f2, f3, f4, f5, f6, f7, f8⟩ := rowc9 HZ5.out
      clear hb5 p0 p1 p2
      rcases hch with ⟨he, hres⟩ | ⟨rfl, n, hn, hres⟩
      · have HRES := Lib.hid hres
        have he1 : ((er : Int) == 0) = false := by simp; omega
        have he2 : ((er : Int) != 0) = true := by simp; omega
        have hbd : ∀ W : World, (Instr.build 99 #[]).run Tryz.prog W = .ok (.agg #[.string ⟨#[]⟩, .int .i64 0, .int .i64 0, .int .i64 0, .int .i64 0, .int .i64 0, .int .i64 0, .int .i64 0, .bool false]) W := fun W => run_build W 99 _ _ (by kernel_rfl)
        clear he hres
        go_wp2_with fail
        refine (show bodyPost Tryz.prog Tryz.f86 _ Exit.ret _ (wr9 w5 (w.heap.size + 1) (.string ⟨#[]⟩) (.int .i64 0) (.int .i64 0) (.int .i64 0) (.int .i64 0) (.int .i64 0) (.int .i64 0) (.int .i64 0) (.bool false)) from ?_)
        have R := wr9_row (a0 := .string ⟨#[]⟩) (a1 := .int .i64 0) (a2 := .int .i64 0) (a3 := .int .i64 0) (a4 := .int .i64 0) (a5 := .int .i64 0) (a6 := .int .i64 0) (a7 := .int .i64 0) (a8 := .bool false) HZ5.out
        have FF := wr9_below (a0 := .string ⟨#[]⟩) (a1 := .int .i64 0) (a2 := .int .i64 0) (a3 := .int .i64 0) (a4 := .int .i64 0) (a5 := .int .i64 0) (a6 := .int .i64 0) (a7 := .int .i64 0) (a8 := .bool false) HB05.out (Nat.le_succ w.heap.size)
        generalize wr9 w5 (w.heap.size + 1) (.string ⟨#[]⟩) (.int .i64 0) (.int .i64 0) (.int .i64 0) (.int .i64 0) (.int .i64 0) (.int .i64 0) (.int .i64 0) (.bool false) = W at *
        obtain ⟨y0, y1, y2, y3, y4, y5, y6, y7, y8, _⟩ := rowc9 R
        refine bodyPost_ret (v := .tuple #[.agg #[.string ⟨#[]⟩, .int .i64 0, .int .i64 0, .int .i64 0, .int .i64 0, .int .i64 0, .int .i64 0, .int .i64 0, .bool false], .bool false]) (by simp [results, Tryz.results86, go_sem, y0, y1, y2, y3, y4, y5, y6, y7, y8]) rfl ⟨?_, FF⟩
        rw [HRES.out]; rfl
      · have HRES := Lib.hid hres
        obtain ⟨g, cp2, hsl, hg1, hg2, hcs⟩ := HO1.out.at_ hn
        injection hsl with hA hLL hcp
        clear hLL
        subst hcp
        subst hA
        have HCS : ∀ q u, (nodC n)[q]? = some u → w5.cell? ⟨g, i * 9 + q, none⟩ = some u := fun q u hu => cellB (hcs q u hu) (HBW.out.trans (HB5.out.mono HBW.out.size)) hg2
        have hi : i < N := by rw [HN.out]; exact (List.getElem?_eq_some_iff.1 hn).1
        have e0 : w5.cell? ⟨g, i * 9, none⟩ = some (.string (str n.s)) := HCS 0 _ rfl
        have e1 := HCS 1 _ rfl
        have e2 := HCS 2 _ rfl
        have e3 := HCS 3 _ rfl
        have e4 := HCS 4 _ rfl
        have e5 := HCS 5 _ rfl
        have e6 := HCS 6 _ rfl
        have e7 := HCS 7 _ rfl
        have e8 := HCS 8 _ rfl
        have HNV : Hid (nodV n = .agg #[.string (str n.s), .int .i64 n.a, .int .i64 n.b, .int .i64 n.c, .int .i64 n.x, .int .i64 n.y, .int .i64 n.z, .int .i64 n.n, .bool n.d]) := Lib.hid rfl
        clear HCS hcs hres hn
        obtain ⟨ns, na, nb, nc, nx, ny, nz, nn, nd⟩ := n
        dsimp only at *
        generalize str ns = SS at *
        go_wp2_with fail
        refine (show bodyPost Tryz.prog Tryz.f86 _ Exit.ret _ (wr9 w5 (w.heap.size + 1) (.string SS) (.int .i64 na) (.int .i64 nb) (.int .i64 nc) (.int .i64 nx) (.int .i64 ny) (.int .i64 nz) (.int .i64 nn) (.bool nd)) from ?_)
        have R := wr9_row (a0 := .string SS) (a1 := .int .i64 na) (a2 := .int .i64 nb) (a3 := .int .i64 nc) (a4 := .int .i64 nx) (a5 := .int .i64 ny) (a6 := .int .i64 nz) (a7 := .int .i64 nn) (a8 := .bool nd) HZ5.out
        have FF := wr9_below (a0 := .string SS) (a1 := .int .i64 na) (a2 := .int .i64 nb) (a3 := .int .i64 nc) (a4 := .int .i64 nx) (a5 := .int .i64 ny) (a6 := .int .i64 nz) (a7 := .int .i64 nn) (a8 := .bool nd) HB05.out (Nat.le_succ w.heap.size)
        generalize wr9 w5 (w.heap.size + 1) (.string SS) (.int .i64 na) (.int .i64 nb) (.int .i64 nc) (.int .i64 nx) (.int .i64 ny) (.int .i64 nz) (.int .i64 nn) (.bool nd) = W at *
        obtain ⟨y0, y1, y2, y3, y4, y5, y6, y7, y8, _⟩ := rowc9 R
        refine bodyPost_ret (v := .tuple #[.agg #[.string SS, .int .i64 na, .int .i64 nb, .int .i64 nc, .int .i64 nx, .int .i64 ny, .int .i64 nz, .int .i64 nn, .bool nd], .bool true]) (by simp [results, Tryz.results86, go_sem, y0, y1, y2, y3, y4, y5, y6, y7, y8]) rfl ⟨?_, FF⟩
        rw [HRES.out]
        exact congrArg (fun v => Ending.returned (.tuple #[v, .bool true])) HNV.out.symm
end Go.Proofs.YtphclpjekpdifaaGreat
