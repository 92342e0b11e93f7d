/- Bytes as a text: its length, a cut, two of them one behind the other. -/
import Derived.Test.YtalfbdigjaibkaaGreatH0
namespace Go.Proofs.YtalfbdigjaibkaaGreat
open Go.RowKit
/-- bytes as a text -/
def str (l : List UInt8) : ByteArray := ⟨l.toArray⟩
theorem str_size (l : List UInt8) : (str l).size = l.length := by simp [str, ByteArray.size]
theorem str_list (s : ByteArray) : str s.data.toList = s := by cases s; simp [str]
theorem list_str (l : List UInt8) : (str l).data.toList = l := by simp [str]
theorem str_extract (l : List UInt8) (i j : Nat) : (str l).extract i j = str ((l.take j).drop i) := by
  apply ByteArray.ext
  apply Array.toList_inj.1
  rw [ByteArray.data_extract, Array.toList_extract, List.extract_eq_take_drop, list_str, list_str, List.drop_take]
theorem str_append (a b : List UInt8) : str a ++ str b = str (a ++ b) := by
  apply ByteArray.ext
  apply Array.toList_inj.1
  rw [ByteArray.data_append, Array.toList_append, list_str, list_str, list_str]
theorem str_at (l : List UInt8) (k : Nat) (_h : k < (str l).size) (h' : k < l.length) : (str l)[k] = l[k] := by
  show (str l).data[k] = _
  simp [str]
end Go.Proofs.YtalfbdigjaibkaaGreat
