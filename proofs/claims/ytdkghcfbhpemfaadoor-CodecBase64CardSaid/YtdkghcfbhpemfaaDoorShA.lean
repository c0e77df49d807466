/- Contracts: what the library's shelf gives: strings.IndexByte, TrimLeft, TrimRight, Trim. -/
import Derived.Test.YtdkghcfbhpemfaaDoorSlim
import Derived.Test.YtdkghcfbhpemfaaDoorAwQ
import Derived.Test.YtdkghcfbhpemfaaDoorShelf
namespace Go.Proofs.YtdkghcfbhpemfaaDoor.Aw
open Go
set_option linter.unusedSimpArgs false
set_option linter.unusedVariables false

theorem strings_IndexByte_c [Tabs Tryd.prog] (s : ByteArray) (c : UInt8) : Con Tryd.prog n_strings_IndexByte [.sc (.string s), .sc (.int .u8 c.toNat)] (.sc (.int .i64 (Lib.indexByte s.data.toList c))) := by
  refine Con.same (xs := [.string s, .int .u8 c.toNat]) fun w => ?_
  have := Tryd.strings_IndexByte s c.toNat w
  rw [show ((c.toNat : Int).toNat.toUInt8) = c by simp] at this
  exact this
theorem strings_TrimLeft_c [Tabs Tryd.prog] (s : ByteArray) (c : UInt8) (hc : c.toNat < 128) : Con Tryd.prog n_strings_TrimLeft [.sc (.string s), .sc (.string ⟨#[c]⟩)] (str (Lib.trimLeftB s.data.toList c)) :=
  Con.same (xs := [.string s, .string ⟨#[c]⟩]) fun w => Tryd.strings_TrimLeft_one s c hc w
theorem strings_TrimRight_c [Tabs Tryd.prog] (s : ByteArray) (c : UInt8) (hc : c.toNat < 128) (hs : s.size ≤ 9223372036854775807) : Con Tryd.prog n_strings_TrimRight [.sc (.string s), .sc (.string ⟨#[c]⟩)] (str (Lib.trimRightB s.data.toList c)) :=
  Con.same (xs := [.string s, .string ⟨#[c]⟩]) fun w => Tryd.strings_TrimRight_one s c hc w hs
theorem strings_Trim_c [Tabs Tryd.prog] (s : ByteArray) (c : UInt8) (hc : c.toNat < 128) (hs : s.size ≤ 9223372036854775807) : Con Tryd.prog n_strings_Trim [.sc (.string s), .sc (.string ⟨#[c]⟩)] (str (Lib.trimB s.data.toList c)) :=
  Con.drew (xs := [.string s, .string ⟨#[c]⟩]) fun w => Tryd.strings_Trim_one s c hc w hs
end Go.Proofs.YtdkghcfbhpemfaaDoor.Aw
