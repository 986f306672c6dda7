import Derived.Test.YtphclpjekpdifaaRows
namespace Go.Proofs.Ytphclpjekpdifaa.Nm
set_option linter.unusedVariables false
def str (l : List UInt8) : ByteArray := ⟨l.toArray⟩
theorem str_list (s : ByteArray) : str s.data.toList = s := by cases s; rfl
theorem list_str (l : List UInt8) : (str l).data.toList = l := rfl
theorem str_size (l : List UInt8) : (str l).size = l.length := by show l.toArray.size = _; simp
theorem str_inj {a b : List UInt8} : str a = str b ↔ a = b := ⟨fun h => by have := congrArg (fun x : ByteArray => x.data.toList) h; simpa [str] using this, fun h => by rw [h]⟩
theorem ext_str {s : ByteArray} {l : List UInt8} (h : s.data.toList = l) : s = str l := by rw [← h, str_list]
theorem nil_str : str [] = ⟨#[]⟩ := rfl
end Go.Proofs.Ytphclpjekpdifaa.Nm
