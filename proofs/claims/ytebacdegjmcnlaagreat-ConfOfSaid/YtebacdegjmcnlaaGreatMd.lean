import Derived.Test.YtebacdegjmcnlaaGreatMc
namespace Go.Proofs.YtebacdegjmcnlaaGreat
open Go.RowKit Pl
set_option linter.unusedVariables false
set_option maxRecDepth 20000
/-- the text of an item, and its error -/
def txt (t : It) : ByteArray := if errOf t = 0 then Nm.str t.enc else ⟨#[]⟩
def TxtPost (t : It) (w : World) (e : Ending) (w' : World) : Prop := e = .returned (.tuple #[.string (txt t), .int .i64 (errOf t)]) ∧ Below w.heap.size w w'
theorem encoding_any (ts : List It) (A : Option Addr) (c n : Nat) (w : World) (hn : ts.length = n) (hl : ts.length ≤ maxLen) (h : AreIts w (· < w.heap.size) ts A 0) (hle : (It.mk 3 0 ⟨#[]⟩ ts).enc.length ≤ 1099511627775) :
    Calls Tryz.prog 17 #[.slice A n c] w (TxtPost (.mk 3 0 ⟨#[]⟩ ts) w) := by
  subst hn
  have HI := Lib.hid (isIt_row w _ ts A c hl h)
  have HLE := Lib.hid hle
  clear h hle
  have HL := Lib.hid hl
  clear hl
  generalize hm : ts.length = m at *
  generalize ht : It.mk 3 0 ⟨#[]⟩ ts = t at *
  clear ht hm
  go_enter Tryz.func17, Tryz.ntmps17
  go_wp2_with (go_at_call 31; (refine (clist_any _ _ _ _).mono ?_); rintro e w1 ⟨rfl, hb1⟩)
  have hs1 := hb1.size
  refine (encode_any t _ w1 (IsIt.mono (fun q hq => Nat.lt_of_lt_of_le hq hs1) t (HI.out.below hb1)) (fun _ => HLE.out)).mono ?_
  rintro e w2 ⟨v2, rfl, hb2, hown⟩
  have hbb := hb1.trans (hb2.mono hs1)
  have HB := Lib.hid hbb
  have hc : (convert 58 9 v2).run Tryz.prog w2 = .ok (.string (txt t)) w2 := by
    rw [conv_own hown]
    unfold txt Nm.str
    split <;> rfl
  clear hown hb1 hb2 hbb
  go_wp2_with fail
  go_ret2
  exact ⟨rfl, HB.out⟩
end Go.Proofs.YtebacdegjmcnlaaGreat
