import Derived.Test.YtphclpjekpdifaaTm
import Derived.Test.YtphclpjekpdifaaMv
namespace Go.Proofs.Ytphclpjekpdifaa.SP
set_option linter.unusedVariables false
open Go.Proofs.Ytphclpjekpdifaa.Wi.Pl (It)
open Go.Proofs.Ytphclpjekpdifaa.Nm (str)
/-! ### loaded, plain -/
def rOf : Option Wi.T6 → Rp
  | some (e, s, a, b, c, n) => ⟨e, s, a, b, c, n⟩
  | none => r0
def sesP (t : It) : Ses := ⟨num (part t 0), num (part t 1), rOf (Wi.resR (txt (part t 3))), num (part t 2)⟩
def okP (t : It) : Bool := (Wi.resR (txt (part t 3))).isSome
def lastId (L : List Ses) : Int := match L.getLast? with
  | some s => s.id
  | none => 0
def canP (clk lst : Int) (L : List Ses) (t : It) : Bool := okP t && (decide (lastId L < (sesP t).id) && mayB clk lst (sesP t))
def resA (clk lst : Int) : List Ses → List It → Option (List Ses)
  | acc, [] => some acc
  | acc, t :: r => if canP clk lst acc t = true then resA clk lst (acc ++ [sesP t]) r else none
def clkI (i : It) : Int := num (part i 0)
def lstI (i : It) : Int := IntKind.i64.wrap (num (part i 1) - 1)
def headB (i : It) : Bool := isIdx (clkI i) && (isIdx (lstI i) && decide ((els (part i 2)).length ≤ 32))
def restore (i : It) : Option Tb := if headB i = true then (resA (clkI i) (lstI i) [] (els (part i 2))).map fun L => ⟨clkI i, lstI i, L⟩ else none
def load (l : List UInt8) : Option Tb := match Wi.Pl.dec l with
  | none => none
  | some i => match restore i with
    | none => none
    | some T => if save T = str l then some T else none
theorem lastId_snoc (L : List Ses) (s : Ses) : lastId (L ++ [s]) = s.id := by simp [lastId]
structure AI (clk lst : Int) (L : List Ses) : Prop where
  l0 : 0 ≤ lastId L
  all : ∀ s ∈ L, s.id ≤ lastId L
  srt : L.Pairwise fun a b => a.id < b.id
  inv : ∀ s ∈ L, SInv ⟨clk, lst, L⟩ s
theorem ai_nil (clk lst : Int) : AI clk lst [] := ⟨by simp [lastId], fun s h => (by cases h), List.Pairwise.nil, fun s h => (by cases h)⟩
theorem ai_step {clk lst : Int} {L : List Ses} (h : AI clk lst L) {t : It} (hc : canP clk lst L t = true) : AI clk lst (L ++ [sesP t]) := by
  unfold canP at hc
  rw [Bool.and_eq_true, Bool.and_eq_true, decide_eq_true_eq] at hc
  obtain ⟨ho, hl, hm⟩ := hc
  have h0 := h.l0
  unfold okP at ho
  obtain ⟨x, hx⟩ := Option.isSome_iff_exists.1 ho
  obtain ⟨e, s, a, b, c, n⟩ := x
  obtain ⟨r1, r2, r3, r4, r5, r6, _⟩ := (Wi.resR_iff _ _ _ _ _ _ _).1 hx
  have hr : (sesP t).r = ⟨e, s, a, b, c, n⟩ := by unfold sesP; rw [hx]; rfl
  unfold mayB at hm
  simp only [Bool.and_eq_true, Bool.or_eq_true, decide_eq_true_eq] at hm
  obtain ⟨m1, m2, m3, m4, m5⟩ := hm
  unfold isIdx at m2 m4
  simp only [Bool.and_eq_true, decide_eq_true_eq] at m2 m4
  refine ⟨by rw [lastId_snoc]; omega, fun u hu => ?_, ?_, fun u hu => ?_⟩
  · rw [lastId_snoc]
    rcases List.mem_append.1 hu with q | q
    · have := h.all u q; omega
    · obtain rfl := List.mem_singleton.1 q; omega
  · rw [List.pairwise_append]
    refine ⟨h.srt, by simp, fun u hu v hv => ?_⟩
    obtain rfl := List.mem_singleton.1 hv
    have := h.all u hu
    omega
  · rcases List.mem_append.1 hu with q | q
    · have q := h.inv u q
      exact ⟨q.id1, q.id2, q.sq1, q.sq2, q.u1, q.u2, q.z, q.p, q.i⟩
    · obtain rfl := List.mem_singleton.1 q
      refine ⟨by omega, m1, m4.1, m4.2, m2.1, m3, fun hz => ?_, ?_, ?_⟩
      · rcases m5 with q | q
        · omega
        · obtain ⟨z1, z2, ⟨z3, z4, z5⟩, z6⟩ := Wi.eqR_iff.1 q
          rw [hr] at z1 z2 z3 z4 z5 z6 ⊢
          dsimp only at z1 z2 z3 z4 z5 z6
          subst z1 z2 z3 z4 z5 z6
          rfl
      · rw [hr]; exact r1
      · rw [hr]; exact ⟨r3, r4, r5, r6⟩
theorem resA_inv {clk lst : Int} : ∀ (l : List It) (L R : List Ses), AI clk lst L → resA clk lst L l = some R → AI clk lst R ∧ R.length = L.length + l.length
  | [], L, R, h, e => by
    simp only [resA, Option.some.injEq] at e
    subst e
    exact ⟨h, by simp⟩
  | t :: r, L, R, h, e => by
    rw [resA] at e
    split at e
    · rename_i hc
      obtain ⟨h1, h2⟩ := resA_inv r _ R (ai_step h hc) e
      exact ⟨h1, by rw [h2]; simp; omega⟩
    · cases e
theorem restore_inv {i : It} {T : Tb} (h : restore i = some T) : Inv T := by
  unfold restore at h
  split at h
  · rename_i hh
    unfold headB isIdx at hh
    simp only [Bool.and_eq_true, decide_eq_true_eq] at hh
    obtain ⟨⟨a1, a2⟩, ⟨b1, b2⟩, c⟩ := hh
    cases hr : resA (clkI i) (lstI i) [] (els (part i 2)) with
    | none => rw [hr] at h; cases h
    | some L =>
      rw [hr] at h
      simp only [Option.map_some, Option.some.injEq] at h
      subst h
      obtain ⟨h1, h2⟩ := resA_inv _ [] L (ai_nil _ _) hr
      exact ⟨a1, a2, b1, b2, by show L.length ≤ 32; rw [h2]; simpa using c, h1.srt, h1.inv⟩
  · cases h
end Go.Proofs.Ytphclpjekpdifaa.SP
