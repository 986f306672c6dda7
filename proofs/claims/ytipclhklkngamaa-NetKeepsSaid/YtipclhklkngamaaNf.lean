import Derived.Test.YtipclhklkngamaaNe
namespace Go.Proofs.Ytipclhklkngamaa
open Go.RowKit
set_option linter.unusedVariables false

/-- what copy has left -/
def Moved (w W' : World) (g : Nat) (cs : Array Value) : Prop := W'.heap = (w.setRow g cs).heap ∧ W'.os = w.os ∧ W'.tape = w.tape ∧ W'.output = w.output
theorem step_copyL {ops : Array Oper} {o : Oper} {a : Act} {w : World} {K : Act → World → Prop} {Q : Exit → Act → World → Prop} {E : Prop}
    (hg : o.guard = none) (d x : Operand) (dT sT : TypeId) (hop : o.op = Op.call { callee := Callee.builtin Builtin.copy, args := #[d, x], argTypes := #[dT, sT] })
    (v u : Value) (hd : a.eval d = v) (hx : a.eval x = u) {v' : Value} {F : World → Prop} (hr : ∃ w', (Builtin.copy_ #[dT, sT] o.type #[v, u]).run Try.prog w = .ok v' w' ∧ F w') (hK : ∀ w', F w' → K (a.put o.dst v') w') :
    if Region.wanted o (yielded ops a.tmps) = true then Oper.wp Try.prog o a w K Q else E := by
  obtain ⟨w', h1, h2⟩ := hr
  exact step_copy_run hg d x dT sT hop v u hd hx h1 (hK w' h2)
theorem take_set_le {α : Type} (l : List α) (n i : Nat) (x : α) (h : n ≤ i) : (l.set i x).take n = l.take n := by
  apply List.ext_getElem?
  intro j
  simp only [List.getElem?_take]
  split
  · rw [List.getElem?_set_ne (by omega)]
  · rfl
theorem remove_to {w W1 : World} {B b g cap k : Nat} {cur : Array Value} {N : Net} (h : NetAt w B b N (.slice (some ⟨g, 0, none⟩) N.q.length cap)) (hg : w.heap[g]? = some (.cells cur 32 (0, 0))) (hs : cur.size = cap * 3) (hc : N.q.length ≤ cap) (hm : cap ≤ maxLen) (ht : cur.toList.take (N.q.length * 3) = flat N.q)
    (hk : k < N.q.length) (M : Moved w W1 g (mv cur k N.q)) (la : Nat) (hla : N.q.length - 1 = la) (u0 u1 u2 : Value) :
    To w ((((W1.setCell ⟨g, la * 3, none⟩ u0).setCell ⟨g, la * 3 + 1, none⟩ u1).setCell ⟨g, la * 3 + 2, none⟩ u2).setCell ⟨b, 0, none⟩ (.slice (some ⟨g, 0, none⟩) la cap)) B b (.slice (some ⟨g, 0, none⟩) N.q.length cap) (N.rem (k : Int)) := by
  have hgb : g ≠ b := by rintro rfl; exact h.apart rfl
  have hB : B ≤ g := (h.row.lt g rfl).1
  obtain ⟨m1, m2, m3, m4⟩ := M
  have hg1 : W1.heap[g]? = some (.cells (mv cur k N.q) 32 (0, 0)) := by rw [m1]; exact setRow_heap w g cur _ 32 _ hg
  have hf : Fr (fun i => i = b ∨ (Value.slice (some ⟨g, 0, none⟩) N.q.length cap).ownBlock = some i) w W1 :=
    ⟨m2, m3, m4, by rw [m1]; simp [World.setRow], fun i _ hn => by rw [m1]; exact setRow_other w g i _ (fun e => hn (.inr (by rw [e]; rfl)))⟩
  have hb1 : W1.heap[b]? = w.heap[b]? := by rw [m1]; exact setRow_other w g b _ (fun e => hgb e.symm)
  have hf2 := ((hf.setCell (p := ⟨g, la * 3, none⟩) (.inl (.inr rfl)) u0).setCell (p := ⟨g, la * 3 + 1, none⟩) (.inl (.inr rfl)) u1).setCell (p := ⟨g, la * 3 + 2, none⟩) (.inl (.inr rfl)) u2
  have e0 := heap_setCell_same W1 g (la * 3) _ 32 u0 hg1
  have e1 := heap_setCell_same _ g (la * 3 + 1) _ 32 u1 e0
  have e2 := heap_setCell_same _ g (la * 3 + 2) _ 32 u2 e1
  have eb : (((W1.setCell ⟨g, la * 3, none⟩ u0).setCell ⟨g, la * 3 + 1, none⟩ u1).setCell ⟨g, la * 3 + 2, none⟩ u2).heap[b]? = w.heap[b]? := by
    rw [Below.heap_setCell _ _ _ b (by exact fun e => hgb e.symm), Below.heap_setCell _ _ _ b (by exact fun e => hgb e.symm), Below.heap_setCell _ _ _ b (by exact fun e => hgb e.symm)]
    exact hb1
  have hlen : (N.q.eraseIdx k).length = la := by rw [List.length_eraseIdx_of_lt hk]; omega
  have ho : OwnL (((W1.setCell ⟨g, la * 3, none⟩ u0).setCell ⟨g, la * 3 + 1, none⟩ u1).setCell ⟨g, la * 3 + 2, none⟩ u2) B (.slice (some ⟨g, 0, none⟩) la cap) (N.q.eraseIdx k) := by
    unfold OwnL
    rw [hlen]
    refine ⟨by rw [flat_len, hlen], .inr ⟨g, cap, _, rfl, hB, e2, by omega, hm, ?_, ?_⟩⟩
    · simp only [Array.size_setIfInBounds]
      exact mv_size hk hs hc
    · simp only [Array.toList_setIfInBounds]
      rw [take_set_le _ _ _ _ (by omega), take_set_le _ _ _ _ (by omega), take_set_le _ _ _ _ (by omega), ← hla]
      exact mv_take hk hs hc ht
  have hok := Net.rem_ok h.ok (k : Int)
  unfold Net.rem at hok ⊢
  rw [Int.toNat_natCast] at hok ⊢
  refine ⟨_, h.setQ eb ho hok, fun x hx => .inl ?_, hf2.setCell (p := ⟨b, 0, none⟩) (.inl (.inl rfl)) _⟩
  injection hx with hx
  rw [← hx]; rfl
set_option maxHeartbeats 2000000 in
set_option maxRecDepth 100000 in
theorem remove_any {w : World} {B b : Nat} {N : Net} {v : Value} (h : NetAt w B b N v) (k : Nat) (hk : k < N.q.length) :
    Calls Try.prog 25 #[.pointer (some ⟨b, 0, none⟩), .int .i64 (k : Nat)] w fun e w' => e = .returned (.tuple #[]) ∧ To w w' B b v (N.rem (k : Int)) := by
  have H := Lib.hid h
  have hblt := h.lt
  obtain ⟨g, cap, cur, rfl, hBg, hg, hc, hm, hs, ht⟩ : ∃ g cap cur, v = .slice (some ⟨g, 0, none⟩) N.q.length cap ∧ B ≤ g ∧ w.heap[g]? = some (.cells cur 32 (0, 0)) ∧ N.q.length ≤ cap ∧ cap ≤ maxLen ∧ cur.size = cap * 3 ∧ cur.toList.take (N.q.length * 3) = flat N.q := by
    rcases h.row.2 with ⟨_, hn⟩ | ⟨g, cap, cur, e, h1, h2, h3, h4, h5, h6⟩
    · omega
    · exact ⟨g, cap, cur, e, h1, h2, h3, h4, h5, h6⟩
  simp only [maxLen] at hm
  have c0 := h.queue
  have hmany := h.ok.many
  have hml : (N.q.length : Int) ≤ 400 := by omega
  have hkl : (k : Int) < (N.q.length : Int) := by omega
  have SL1 := fun W => slice_from g N.q.length cap k (by omega) hc (by omega) W
  have SL2 := fun W => slice_from g N.q.length cap (k + 1) (by omega) hc (by omega) W
  rw [if_neg (by omega)] at SL1
  obtain ⟨A2, hA2⟩ : ∃ A2, (if cap = k + 1 then some (⟨g, 0, none⟩ : Addr) else some ⟨g, (k + 1) * 3, none⟩) = A2 := ⟨_, rfl⟩
  rw [hA2] at SL2
  have HCP : Hid (∀ (W : World) ty, W.heap = w.heap → W.os = w.os → W.tape = w.tape → W.output = w.output → ∃ W', (Builtin.copy_ #[27, 27] ty #[.slice (some ⟨g, k * 3, none⟩) (N.q.length - k) (cap - k), .slice A2 (N.q.length - (k + 1)) (cap - (k + 1))]).run Try.prog W = .ok (.int .i64 (N.q.length - (k + 1) : Nat)) W' ∧ Hid (Moved w W' g (mv cur k N.q))) := Lib.hid fun W ty hW ho h3 h4 =>
    ⟨_, copy_run (by rw [hW]; exact hg) hk ht hs hc (fun hh => by rw [← hA2, if_neg (by omega)]) ty, Lib.hid ⟨by simp only [World.setRow, hW], ho, h3, h4⟩⟩
  have hlast : (k : Int) + 1 = ((k + 1 : Nat) : Int) := by omega
  have hw1 : IntKind.i64.wrap ((k : Int) + 1) = ((k + 1 : Nat) : Int) := IntWalk.i64_in _ (by omega)
  have HG := Lib.hid hg
  have HS := Lib.hid hs
  have HTK := Lib.hid ht
  have HCC := Lib.hid hc
  have HK := Lib.hid hk
  clear h hA2 hmany hlast hg hs ht hBg
  generalize hn : N.q.length = n at *
  have HN := Lib.hid hn
  clear hn
  obtain ⟨k1, hk1⟩ : ∃ k1, k + 1 = k1 := ⟨_, rfl⟩
  rw [hk1] at SL2 hw1 HCP
  have HK1 := Lib.hid hk1
  clear hk1
  obtain ⟨c1, hc1⟩ : ∃ c1, cap - k = c1 := ⟨_, rfl⟩
  obtain ⟨c2, hc2⟩ : ∃ c2, cap - k1 = c2 := ⟨_, rfl⟩
  obtain ⟨n1, hn1⟩ : ∃ n1, n - k = n1 := ⟨_, rfl⟩
  obtain ⟨n2, hn2⟩ : ∃ n2, n - k1 = n2 := ⟨_, rfl⟩
  obtain ⟨k3, hk3⟩ : ∃ k3, k * 3 = k3 := ⟨_, rfl⟩
  rw [hc1, hn1, hk3] at SL1
  rw [hc2, hn2] at SL2
  rw [hc1, hc2, hn1, hn2, hk3] at HCP
  clear hc1 hc2 hn1 hn2 hk3 hk hc hkl
  go_enter Try.func25, Try.ntmps25
  go_wp2_with fail
  go_region_law (first
    | ((refine step_copyL (by rfl) (.tmp 10) (.tmp 17) 27 27 (by rfl) _ _ (by rfl) (by rfl) (HCP.out _ _ (by rfl) (by rfl) (by rfl) (by rfl)) ?_); intro W1 M1))
  all_goals
    have hbox : W1.heap[b]? = w.heap[b]? := by rw [M1.out.1]; exact setRow_other w g b _ (by rintro rfl; exact H.out.apart rfl)
    have hg1 : W1.heap[g]? = some (.cells (mv cur k N.q) 32 (0, 0)) := by rw [M1.out.1]; exact setRow_heap w g cur _ 32 _ HG.out
    have c1 : W1.cell? ⟨b, 0, none⟩ = some (.slice (some ⟨g, 0, none⟩) n cap) := (World.cell?_of_block hbox).trans c0
    obtain ⟨la, hla⟩ : ∃ la, n - 1 = la := ⟨_, rfl⟩
    have hn1 : (n : Int) - 1 = (la : Int) := by have := HK.out; omega
    have hw2 : IntKind.i64.wrap ((n : Int) - 1) = (la : Int) := by rw [hn1]; exact IntWalk.i64_in _ (by omega)
    have hll : (la : Int) < (n : Int) := by omega
    have hsz := mv_size (by rw [HN.out]; exact HK.out) HS.out (by rw [HN.out]; exact HCC.out)
    have cx : ∀ j, j < 3 → ∃ u, W1.cell? ⟨g, la * 3 + j, none⟩ = some u := fun j hj => by
      rw [Lib.cell_of_heap hg1]
      have := HK.out
      have := HCC.out
      exact ⟨_, Array.getElem?_eq_getElem (by rw [hsz]; omega)⟩
    obtain ⟨u0, z0⟩ := cx 0 (by omega)
    obtain ⟨u1, z1⟩ := cx 1 (by omega)
    obtain ⟨u2, z2⟩ := cx 2 (by omega)
    rw [Nat.add_zero] at z0
    have f0 : W1.frozen? ⟨g, la * 3, none⟩ = false := Lib.frozen_of_heap hg1 _
    have f1 : W1.frozen? ⟨g, la * 3 + 1, none⟩ = false := Lib.frozen_of_heap hg1 _
    have f2 : W1.frozen? ⟨g, la * 3 + 2, none⟩ = false := Lib.frozen_of_heap hg1 _
    have fb : W1.frozen? ⟨b, 0, none⟩ = false := Lib.frozen_of_heap (hbox.trans H.out.box) _
    have hgb : g ≠ b := by rintro rfl; exact H.out.apart rfl
    have hgb2 : b ≠ g := fun e => hgb e.symm
    have HB := Lib.hid hbox
    have HG1 := Lib.hid hg1
    have HSZ := Lib.hid hsz
    have HLA := Lib.hid hla
    have HCM : la ≤ cap := by have := HCC.out; have := HK.out; omega
    have hlc : (la : Int) ≤ (cap : Int) := by omega
    clear hbox hg1 hsz hla cx SL1 SL2 HCP
    go_wp2_with fail
    go_end0
    refine ⟨rfl, ?_⟩
    have hx := HN.out
    have hh := H.out
    have ht := HTK.out
    have hlx := HLA.out
    subst hx
    exact remove_to hh HG.out HS.out HCC.out (by simp only [maxLen]; exact hm) ht HK.out M1.out la hlx _ _ _
end Go.Proofs.Ytipclhklkngamaa
