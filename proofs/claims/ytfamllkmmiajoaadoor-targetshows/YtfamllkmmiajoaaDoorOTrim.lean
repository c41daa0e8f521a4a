/-
  Contracts of octet's Trim and Digits, over this seat's program: each returns what the plain mathematics says, and the world is as it was. Conditions: the text's size is such as any text's.
-/
import Derived.Test.YtfamllkmmiajoaaDoorOText
import Derived.Lib.Strings
namespace Go.Proofs.YtfamllkmmiajoaaDoor
open Go.RowKit

theorem trim_fin {s : ByteArray} {k m : Nat} (hkm : k ≤ m) (hm : m ≤ s.size) (ha : (s.data.toList.take k).all Lk.sp = true) (hd : (s.data.toList.drop m).all Lk.sp = true)
    (hf : s.size ≤ k ∨ ∃ h : k < s.size, Lk.sp s[k] = false) (he : k = m ∨ k < m ∧ ∃ h : m - 1 < s.size, Lk.sp s[m - 1] = false) :
    s.extract k m = ⟨(Lk.trimL s.data.toList).toArray⟩ := by
  rw [Lib.extract_eq, Lk.trim_walk s.data.toList k m hkm (by simpa using hm) ha hd]
  rcases he with rfl | ⟨h1, h2, h3⟩
  · exact .inl rfl
  · rcases hf with h | ⟨h4, h5⟩
    · exact .inl (by omega)
    · exact .inr ⟨⟨by simpa using h4, h5⟩, by omega, by simpa using h2, h3⟩

end Go.Proofs.YtfamllkmmiajoaaDoor
