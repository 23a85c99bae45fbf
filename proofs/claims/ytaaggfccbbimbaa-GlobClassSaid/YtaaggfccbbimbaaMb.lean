/- Plain: texts as lists of bytes. -/
import Derived.Lib.Strings
namespace Go.Proofs.Ytaaggfccbbimbaa
theorem ba_ext {a b : ByteArray} (h : a.data.toList = b.data.toList) : a = b := ByteArray.ext (Array.toList_inj.1 h)
theorem ba_append (a b : ByteArray) : (a ++ b).data.toList = a.data.toList ++ b.data.toList := by simp only [ByteArray.data_append, Array.toList_append]
theorem ba_len (a : ByteArray) : a.data.toList.length = a.size := (Lib.size_eq a).symm
def mkB (l : List UInt8) : ByteArray := ⟨l.toArray⟩
theorem mkB_toList (l : List UInt8) : (mkB l).data.toList = l := rfl
theorem mkB_append (a : List UInt8) (s : ByteArray) : mkB a ++ s = mkB (a ++ s.data.toList) := by
  apply ba_ext; rw [ba_append]; rfl
theorem mkB_data (s : ByteArray) : mkB s.data.toList = s := by cases s; rfl
theorem mkB_size (a : List UInt8) : (mkB a).size = a.length := by simp [mkB, ByteArray.size]
theorem mkB_inj {a b : List UInt8} (h : mkB a = mkB b) : a = b := congrArg (fun x : ByteArray => x.data.toList) h
theorem mkB_tl (x : UInt8) (l : List UInt8) : (mkB (x :: l)).extract 1 (mkB (x :: l)).size = mkB l := by
  apply ba_ext; rw [Lib.extract_data, mkB_toList, mkB_toList, mkB_size]; simp
theorem getD_of (s : ByteArray) (i : Nat) (h : i < s.size) : s.data.toList.getD i 0 = s[i]'h := by
  rw [List.getD_eq_getElem?_getD, List.getElem?_eq_getElem (by rw [ba_len]; exact h)]; rfl
theorem mkB_hd (x : UInt8) (l : List UInt8) (h : 0 < (mkB (x :: l)).size) : (mkB (x :: l))[0]'h = x := rfl
end Go.Proofs.Ytaaggfccbbimbaa
