/-
  NARROWER THAN 'FOR EVERY INPUT', by the rows' own cells (each row's printed sentence says how): DigestCrc: laid · DigestOf: laid · DigestParts: laid · DigestTells: laid.
  DERIVED. THE GIVEN ROWS OF THIS SEAT. 4 by the template 'for every input the law returns true; each argument reads behind the call as it read before'; 0 by the template 'total and deterministic' (their statements: YtmgmlbbbjjnmpaaDoorTotals.lean).
  GIVEN WITH THE SEED: the statements are not yours to turn. If you find one false, say at which input.
  Laid BY PROGRAM, IN A SANDBOX (cutbox-rows.mjs): the forced cells as the released guide's own fill.sh prints them over the translation cd151b5e8d39d7fd… (all of the seat's roots in one cut). By AI agents, Wed Nov 11 2026. No macro, syntax, notation, axiom, sorry.
-/
import Derived.Test.YtmgmlbbbjjnmpaaDoorChecked
import GoSem.Claim
import GoSem.ClaimJoined
import GoSem.ClaimMapViews
import Derived.JoinedTies
import Derived.KernelRfl
namespace Go.Proofs.YtmgmlbbbjjnmpaaDoor
/- THE CELL 'sum', in the pinned program and in every row, IS THE sha256 OF THE DUMP (.gsa) THAT YtmgmlbbbjjnmpaaDoorProg.lean LOADS. Nothing in Lean hashes anything: it is a label: what it is worth is what the hold of that sum in a sandbox is worth. -/
noncomputable def Tryd.pinned : Pinned := { name := "ytmgmlbbbjjnmpaadoor", sum := "cd151b5e8d39d7fdef929ee00edd09180230e38ba59313c3f15abe32d6f3d47c", checked := Tryd.checked }
namespace Rows
def none {H : Type} : Left H := { results := [], args := [] }

/- WHAT THE LISTED PACKAGE-LEVEL VARIABLES READ AS WHEN THE CALL BEGINS. Each datum BY PROGRAM (the guide's laid-datum.mjs) off the statement by which the dump's own 'gosem.cut.vars' lays the variable. In a bare row this is a premise. The card (YtmgmlbbbjjnmpaaDoorCards.lean) ties it to the program's text. -/
def laid_drayage_api_Md5Table {H : Type} : DataW H := .agg [.lit (.int .u32 3614090360), .lit (.int .u32 3905402710), .lit (.int .u32 606105819), .lit (.int .u32 3250441966), .lit (.int .u32 4118548399), .lit (.int .u32 1200080426), .lit (.int .u32 2821735955), .lit (.int .u32 4249261313), .lit (.int .u32 1770035416), .lit (.int .u32 2336552879), .lit (.int .u32 4294925233), .lit (.int .u32 2304563134), .lit (.int .u32 1804603682), .lit (.int .u32 4254626195), .lit (.int .u32 2792965006), .lit (.int .u32 1236535329), .lit (.int .u32 4129170786), .lit (.int .u32 3225465664), .lit (.int .u32 643717713), .lit (.int .u32 3921069994), .lit (.int .u32 3593408605), .lit (.int .u32 38016083), .lit (.int .u32 3634488961), .lit (.int .u32 3889429448), .lit (.int .u32 568446438), .lit (.int .u32 3275163606), .lit (.int .u32 4107603335), .lit (.int .u32 1163531501), .lit (.int .u32 2850285829), .lit (.int .u32 4243563512), .lit (.int .u32 1735328473), .lit (.int .u32 2368359562), .lit (.int .u32 4294588738), .lit (.int .u32 2272392833), .lit (.int .u32 1839030562), .lit (.int .u32 4259657740), .lit (.int .u32 2763975236), .lit (.int .u32 1272893353), .lit (.int .u32 4139469664), .lit (.int .u32 3200236656), .lit (.int .u32 681279174), .lit (.int .u32 3936430074), .lit (.int .u32 3572445317), .lit (.int .u32 76029189), .lit (.int .u32 3654602809), .lit (.int .u32 3873151461), .lit (.int .u32 530742520), .lit (.int .u32 3299628645), .lit (.int .u32 4096336452), .lit (.int .u32 1126891415), .lit (.int .u32 2878612391), .lit (.int .u32 4237533241), .lit (.int .u32 1700485571), .lit (.int .u32 2399980690), .lit (.int .u32 4293915773), .lit (.int .u32 2240044497), .lit (.int .u32 1873313359), .lit (.int .u32 4264355552), .lit (.int .u32 2734768916), .lit (.int .u32 1309151649), .lit (.int .u32 4149444226), .lit (.int .u32 3174756917), .lit (.int .u32 718787259), .lit (.int .u32 3951481745)]
def laid_drayage_api_ShaTable {H : Type} : DataW H := .agg [.lit (.int .u32 1116352408), .lit (.int .u32 1899447441), .lit (.int .u32 3049323471), .lit (.int .u32 3921009573), .lit (.int .u32 961987163), .lit (.int .u32 1508970993), .lit (.int .u32 2453635748), .lit (.int .u32 2870763221), .lit (.int .u32 3624381080), .lit (.int .u32 310598401), .lit (.int .u32 607225278), .lit (.int .u32 1426881987), .lit (.int .u32 1925078388), .lit (.int .u32 2162078206), .lit (.int .u32 2614888103), .lit (.int .u32 3248222580), .lit (.int .u32 3835390401), .lit (.int .u32 4022224774), .lit (.int .u32 264347078), .lit (.int .u32 604807628), .lit (.int .u32 770255983), .lit (.int .u32 1249150122), .lit (.int .u32 1555081692), .lit (.int .u32 1996064986), .lit (.int .u32 2554220882), .lit (.int .u32 2821834349), .lit (.int .u32 2952996808), .lit (.int .u32 3210313671), .lit (.int .u32 3336571891), .lit (.int .u32 3584528711), .lit (.int .u32 113926993), .lit (.int .u32 338241895), .lit (.int .u32 666307205), .lit (.int .u32 773529912), .lit (.int .u32 1294757372), .lit (.int .u32 1396182291), .lit (.int .u32 1695183700), .lit (.int .u32 1986661051), .lit (.int .u32 2177026350), .lit (.int .u32 2456956037), .lit (.int .u32 2730485921), .lit (.int .u32 2820302411), .lit (.int .u32 3259730800), .lit (.int .u32 3345764771), .lit (.int .u32 3516065817), .lit (.int .u32 3600352804), .lit (.int .u32 4094571909), .lit (.int .u32 275423344), .lit (.int .u32 430227734), .lit (.int .u32 506948616), .lit (.int .u32 659060556), .lit (.int .u32 883997877), .lit (.int .u32 958139571), .lit (.int .u32 1322822218), .lit (.int .u32 1537002063), .lit (.int .u32 1747873779), .lit (.int .u32 1955562222), .lit (.int .u32 2024104815), .lit (.int .u32 2227730452), .lit (.int .u32 2361852424), .lit (.int .u32 2428436474), .lit (.int .u32 2756734187), .lit (.int .u32 3204031479), .lit (.int .u32 3329325298)]
def laid_drayage_digest_md5Turns {H : Type} : DataW H := .agg [.agg [.lit (.int .i64 7), .lit (.int .i64 12), .lit (.int .i64 17), .lit (.int .i64 22)], .agg [.lit (.int .i64 5), .lit (.int .i64 9), .lit (.int .i64 14), .lit (.int .i64 20)], .agg [.lit (.int .i64 4), .lit (.int .i64 11), .lit (.int .i64 16), .lit (.int .i64 23)], .agg [.lit (.int .i64 6), .lit (.int .i64 10), .lit (.int .i64 15), .lit (.int .i64 21)]]

/-- 'drayagelaw02.DigestCrc': WHATEVER THE INPUT: true; the input reads as it did. -/
def digestCrcSpec : ChangeSpec := { name := "digestCrc", fn := fun _ => fun
  | [d1, d2] => { results := [.lit (.bool true)], args := [d1, d2] }
  | _ => none }
def digestCrcRow : OpenClaim := { program := "ytmgmlbbbjjnmpaadoor", sum := "cd151b5e8d39d7fdef929ee00edd09180230e38ba59313c3f15abe32d6f3d47c", func := "drayage/drayagelaw02.DigestCrc", spec := "digestCrc", named := ["drayage/api.Md5Table", "drayage/digest.md5Turns", "drayage/api.ShaTable"], apart := false, laid := [("drayage/api.Md5Table", laid_drayage_api_Md5Table), ("drayage/api.ShaTable", laid_drayage_api_ShaTable), ("drayage/digest.md5Turns", laid_drayage_digest_md5Turns)] }
def DigestCrcSaid : Prop := digestCrcRow.holds Tryd.pinned (OpenSpec.ofChange digestCrcSpec)

/-- ITS FALSE NEIGHBOUR: 'it returns false'. Refute it at one input. -/
def digestCrcWrong : ChangeSpec := { name := "digestCrc", fn := fun _ => fun
  | [d1, d2] => { results := [.lit (.bool false)], args := [d1, d2] }
  | _ => none }
def DigestCrcWrongFalsely : Prop := digestCrcRow.holds Tryd.pinned (OpenSpec.ofChange digestCrcWrong)

/-- 'drayagelaw02.DigestOf': WHATEVER THE INPUT: true; the input reads as it did. -/
def digestOfSpec : ChangeSpec := { name := "digestOf", fn := fun _ => fun
  | [d1, d2] => { results := [.lit (.bool true)], args := [d1, d2] }
  | _ => none }
def digestOfRow : OpenClaim := { program := "ytmgmlbbbjjnmpaadoor", sum := "cd151b5e8d39d7fdef929ee00edd09180230e38ba59313c3f15abe32d6f3d47c", func := "drayage/drayagelaw02.DigestOf", spec := "digestOf", named := ["drayage/api.Md5Table", "drayage/digest.md5Turns", "drayage/api.ShaTable"], apart := false, laid := [("drayage/api.Md5Table", laid_drayage_api_Md5Table), ("drayage/api.ShaTable", laid_drayage_api_ShaTable), ("drayage/digest.md5Turns", laid_drayage_digest_md5Turns)] }
def DigestOfSaid : Prop := digestOfRow.holds Tryd.pinned (OpenSpec.ofChange digestOfSpec)

/-- ITS FALSE NEIGHBOUR: 'it returns false'. Refute it at one input. -/
def digestOfWrong : ChangeSpec := { name := "digestOf", fn := fun _ => fun
  | [d1, d2] => { results := [.lit (.bool false)], args := [d1, d2] }
  | _ => none }
def DigestOfWrongFalsely : Prop := digestOfRow.holds Tryd.pinned (OpenSpec.ofChange digestOfWrong)

/-- 'drayagelaw02.DigestParts': WHATEVER THE INPUT: true; the input reads as it did. -/
def digestPartsSpec : ChangeSpec := { name := "digestParts", fn := fun _ => fun
  | [d1, d2] => { results := [.lit (.bool true)], args := [d1, d2] }
  | _ => none }
def digestPartsRow : OpenClaim := { program := "ytmgmlbbbjjnmpaadoor", sum := "cd151b5e8d39d7fdef929ee00edd09180230e38ba59313c3f15abe32d6f3d47c", func := "drayage/drayagelaw02.DigestParts", spec := "digestParts", named := ["drayage/api.Md5Table", "drayage/digest.md5Turns", "drayage/api.ShaTable"], apart := false, laid := [("drayage/api.Md5Table", laid_drayage_api_Md5Table), ("drayage/api.ShaTable", laid_drayage_api_ShaTable), ("drayage/digest.md5Turns", laid_drayage_digest_md5Turns)] }
def DigestPartsSaid : Prop := digestPartsRow.holds Tryd.pinned (OpenSpec.ofChange digestPartsSpec)

/-- ITS FALSE NEIGHBOUR: 'it returns false'. Refute it at one input. -/
def digestPartsWrong : ChangeSpec := { name := "digestParts", fn := fun _ => fun
  | [d1, d2] => { results := [.lit (.bool false)], args := [d1, d2] }
  | _ => none }
def DigestPartsWrongFalsely : Prop := digestPartsRow.holds Tryd.pinned (OpenSpec.ofChange digestPartsWrong)

/-- 'drayagelaw02.DigestTells': WHATEVER THE INPUT: true; the input reads as it did. -/
def digestTellsSpec : ChangeSpec := { name := "digestTells", fn := fun _ => fun
  | [d1, d2, d3] => { results := [.lit (.bool true)], args := [d1, d2, d3] }
  | _ => none }
def digestTellsRow : OpenClaim := { program := "ytmgmlbbbjjnmpaadoor", sum := "cd151b5e8d39d7fdef929ee00edd09180230e38ba59313c3f15abe32d6f3d47c", func := "drayage/drayagelaw02.DigestTells", spec := "digestTells", named := ["drayage/api.Md5Table", "drayage/digest.md5Turns", "drayage/api.ShaTable"], apart := false, laid := [("drayage/api.Md5Table", laid_drayage_api_Md5Table), ("drayage/api.ShaTable", laid_drayage_api_ShaTable), ("drayage/digest.md5Turns", laid_drayage_digest_md5Turns)] }
def DigestTellsSaid : Prop := digestTellsRow.holds Tryd.pinned (OpenSpec.ofChange digestTellsSpec)

/-- ITS FALSE NEIGHBOUR: 'it returns false'. Refute it at one input. -/
def digestTellsWrong : ChangeSpec := { name := "digestTells", fn := fun _ => fun
  | [d1, d2, d3] => { results := [.lit (.bool false)], args := [d1, d2, d3] }
  | _ => none }
def DigestTellsWrongFalsely : Prop := digestTellsRow.holds Tryd.pinned (OpenSpec.ofChange digestTellsWrong)

/- THE SECOND FORM. 'bulk': how many values and letters a reading holds, each counted each time it is reached (what is shared counts as often as it is met; a slice's spare places count too). A statement '..UptoSaid' is the law's where the arguments, and the package variables that the reading takes, are together of bulk at most 1048576: NARROWER than '..Said'. Prove '..Said' where nothing that the law and all that it calls make is longer than what came in: it says more and counts as full. Else prove '..UptoSaid'. A law counts once. -/
mutual
def uptoBulk {H : Type} : DataW H → Nat
  | .lit (.string bytes) => bytes.length + 1
  | .lit _ => 1
  | .nil => 1
  | .ptr d => uptoBulk d + 1
  | .slice elems spare => uptoBulkAll elems + uptoBulkAll spare + 1
  | .agg parts => uptoBulkAll parts + 1
  | .iface _ d => uptoBulk d + 1
  | .map entries => uptoBulkEntries entries + 1
  | .held _ => 1
def uptoBulkAll {H : Type} : List (DataW H) → Nat
  | [] => 0
  | d :: r => uptoBulk d + uptoBulkAll r
def uptoBulkEntries {H : Type} : List (Lit × DataW H) → Nat
  | [] => 0
  | x :: r => uptoBulkEntry x + uptoBulkEntries r
def uptoBulkEntry {H : Type} : Lit × DataW H → Nat
  | (.string bytes, d) => bytes.length + uptoBulk d + 1
  | (_, d) => uptoBulk d + 1
 end
def uptoSmall : (H : Type) → List (DataW H) → Bool := fun _ ds => decide (uptoBulkAll ds ≤ 1048576)
def OpenSpec.upto (s : _root_.Go.ChangeSpec) : _root_.Go.OpenSpec := { _root_.Go.OpenSpec.ofChange s with cond := some uptoSmall }

/-- 'drayagelaw02.DigestCrc', WHERE WHAT IT READS IS OF BULK AT MOST 1048576: true; the input reads as it did. -/
def digestCrcUptoRow : OpenClaim := { program := "ytmgmlbbbjjnmpaadoor", sum := "cd151b5e8d39d7fdef929ee00edd09180230e38ba59313c3f15abe32d6f3d47c", func := "drayage/drayagelaw02.DigestCrc", spec := "digestCrc", named := ["drayage/api.Md5Table", "drayage/digest.md5Turns", "drayage/api.ShaTable"], apart := false, laid := [("drayage/api.Md5Table", laid_drayage_api_Md5Table), ("drayage/api.ShaTable", laid_drayage_api_ShaTable), ("drayage/digest.md5Turns", laid_drayage_digest_md5Turns)], narrowed := true }
def DigestCrcUptoSaid : Prop := digestCrcUptoRow.holds Tryd.pinned (OpenSpec.upto digestCrcSpec)

/-- 'drayagelaw02.DigestOf', WHERE WHAT IT READS IS OF BULK AT MOST 1048576: true; the input reads as it did. -/
def digestOfUptoRow : OpenClaim := { program := "ytmgmlbbbjjnmpaadoor", sum := "cd151b5e8d39d7fdef929ee00edd09180230e38ba59313c3f15abe32d6f3d47c", func := "drayage/drayagelaw02.DigestOf", spec := "digestOf", named := ["drayage/api.Md5Table", "drayage/digest.md5Turns", "drayage/api.ShaTable"], apart := false, laid := [("drayage/api.Md5Table", laid_drayage_api_Md5Table), ("drayage/api.ShaTable", laid_drayage_api_ShaTable), ("drayage/digest.md5Turns", laid_drayage_digest_md5Turns)], narrowed := true }
def DigestOfUptoSaid : Prop := digestOfUptoRow.holds Tryd.pinned (OpenSpec.upto digestOfSpec)

/-- 'drayagelaw02.DigestParts', WHERE WHAT IT READS IS OF BULK AT MOST 1048576: true; the input reads as it did. -/
def digestPartsUptoRow : OpenClaim := { program := "ytmgmlbbbjjnmpaadoor", sum := "cd151b5e8d39d7fdef929ee00edd09180230e38ba59313c3f15abe32d6f3d47c", func := "drayage/drayagelaw02.DigestParts", spec := "digestParts", named := ["drayage/api.Md5Table", "drayage/digest.md5Turns", "drayage/api.ShaTable"], apart := false, laid := [("drayage/api.Md5Table", laid_drayage_api_Md5Table), ("drayage/api.ShaTable", laid_drayage_api_ShaTable), ("drayage/digest.md5Turns", laid_drayage_digest_md5Turns)], narrowed := true }
def DigestPartsUptoSaid : Prop := digestPartsUptoRow.holds Tryd.pinned (OpenSpec.upto digestPartsSpec)

/-- 'drayagelaw02.DigestTells', WHERE WHAT IT READS IS OF BULK AT MOST 1048576: true; the input reads as it did. -/
def digestTellsUptoRow : OpenClaim := { program := "ytmgmlbbbjjnmpaadoor", sum := "cd151b5e8d39d7fdef929ee00edd09180230e38ba59313c3f15abe32d6f3d47c", func := "drayage/drayagelaw02.DigestTells", spec := "digestTells", named := ["drayage/api.Md5Table", "drayage/digest.md5Turns", "drayage/api.ShaTable"], apart := false, laid := [("drayage/api.Md5Table", laid_drayage_api_Md5Table), ("drayage/api.ShaTable", laid_drayage_api_ShaTable), ("drayage/digest.md5Turns", laid_drayage_digest_md5Turns)], narrowed := true }
def DigestTellsUptoSaid : Prop := digestTellsUptoRow.holds Tryd.pinned (OpenSpec.upto digestTellsSpec)

end Rows
end Go.Proofs.YtmgmlbbbjjnmpaaDoor
