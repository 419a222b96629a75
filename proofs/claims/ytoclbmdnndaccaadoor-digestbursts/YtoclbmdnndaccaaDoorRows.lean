/-
  NARROWER THAN 'FOR EVERY INPUT', by the rows' own cells (each row's printed sentence says how): DigestBursts: laid · DigestMixes: laid · DigestCrcs: laid.
  DERIVED. THE GIVEN ROWS OF THIS SEAT. 3 by the template 'for every input the law returns true; each argument reads behind the call as it read before'; 0 by the template 'total and deterministic' (their statements: YtoclbmdnndaccaaDoorTotals.lean).
  GIVEN WITH THE SEED: the statements are not yours to turn. If you find one false, say at which input.
  Laid BY PROGRAM, IN A SANDBOX (cutbox-rows.mjs): the forced cells as the released guide's own fill.sh prints them over the translation 2d904497d6189d34… (all of the seat's roots in one cut). By AI agents, Wed Nov 11 2026. No macro, syntax, notation, axiom, sorry.
-/
import Derived.Test.YtoclbmdnndaccaaDoorChecked
import GoSem.Claim
import GoSem.ClaimJoined
import GoSem.ClaimMapViews
import Derived.JoinedTies
import Derived.KernelRfl
namespace Go.Proofs.YtoclbmdnndaccaaDoor
/- THE CELL 'sum', in the pinned program and in every row, IS THE sha256 OF THE DUMP (.gsa) THAT YtoclbmdnndaccaaDoorProg.lean LOADS. Nothing in Lean hashes anything: it is a label: what it is worth is what the hold of that sum in a sandbox is worth. -/
noncomputable def Tryd.pinned : Pinned := { name := "ytoclbmdnndaccaadoor", sum := "2d904497d6189d349ec0388092b93ca81a1e708bc219dd22cac9a41dce2cd574", checked := Tryd.checked }
namespace Rows
def none {H : Type} : Left H := { results := [], args := [] }

/- WHAT THE LISTED PACKAGE-LEVEL VARIABLES READ AS WHEN THE CALL BEGINS. Each datum BY PROGRAM (the guide's laid-datum.mjs) off the statement by which the dump's own 'gosem.cut.vars' lays the variable. In a bare row this is a premise. The card (YtoclbmdnndaccaaDoorCards.lean) ties it to the program's text. -/
def laid_sigil_digest_sumTable {H : Type} : DataW H := .agg [.lit (.int .u32 0), .lit (.int .u32 274646895), .lit (.int .u32 549293790), .lit (.int .u32 820201905), .lit (.int .u32 1098587580), .lit (.int .u32 1361435347), .lit (.int .u32 1640403810), .lit (.int .u32 1905808397), .lit (.int .u32 2197175160), .lit (.int .u32 2460548119), .lit (.int .u32 2722870694), .lit (.int .u32 2987750089), .lit (.int .u32 3280807620), .lit (.int .u32 3553878443), .lit (.int .u32 3811616794), .lit (.int .u32 4084100981)]

/-- 'sigillaw3.DigestBursts': WHATEVER THE INPUT: true; the input reads as it did. -/
def digestBurstsSpec : ChangeSpec := { name := "digestBursts", fn := fun _ => fun
  | [d1, d2, d3] => { results := [.lit (.bool true)], args := [d1, d2, d3] }
  | _ => none }
def digestBurstsRow : OpenClaim := { program := "ytoclbmdnndaccaadoor", sum := "2d904497d6189d349ec0388092b93ca81a1e708bc219dd22cac9a41dce2cd574", func := "sigil/sigillaw3.DigestBursts", spec := "digestBursts", named := ["sigil/digest.sumTable"], apart := false, laid := [("sigil/digest.sumTable", laid_sigil_digest_sumTable)] }
def DigestBurstsSaid : Prop := digestBurstsRow.holds Tryd.pinned (OpenSpec.ofChange digestBurstsSpec)

/-- ITS FALSE NEIGHBOUR: 'it returns false'. Refute it at one input. -/
def digestBurstsWrong : ChangeSpec := { name := "digestBursts", fn := fun _ => fun
  | [d1, d2, d3] => { results := [.lit (.bool false)], args := [d1, d2, d3] }
  | _ => none }
def DigestBurstsWrongFalsely : Prop := digestBurstsRow.holds Tryd.pinned (OpenSpec.ofChange digestBurstsWrong)

/-- 'sigillaw3.DigestMixes': WHATEVER THE INPUT: true; the input reads as it did. -/
def digestMixesSpec : ChangeSpec := { name := "digestMixes", fn := fun _ => fun
  | [d1, d2, d3] => { results := [.lit (.bool true)], args := [d1, d2, d3] }
  | _ => none }
def digestMixesRow : OpenClaim := { program := "ytoclbmdnndaccaadoor", sum := "2d904497d6189d349ec0388092b93ca81a1e708bc219dd22cac9a41dce2cd574", func := "sigil/sigillaw3.DigestMixes", spec := "digestMixes", named := ["sigil/digest.sumTable"], apart := false, laid := [("sigil/digest.sumTable", laid_sigil_digest_sumTable)] }
def DigestMixesSaid : Prop := digestMixesRow.holds Tryd.pinned (OpenSpec.ofChange digestMixesSpec)

/-- ITS FALSE NEIGHBOUR: 'it returns false'. Refute it at one input. -/
def digestMixesWrong : ChangeSpec := { name := "digestMixes", fn := fun _ => fun
  | [d1, d2, d3] => { results := [.lit (.bool false)], args := [d1, d2, d3] }
  | _ => none }
def DigestMixesWrongFalsely : Prop := digestMixesRow.holds Tryd.pinned (OpenSpec.ofChange digestMixesWrong)

/-- 'sigillaw3.DigestCrcs': WHATEVER THE INPUT: true; the input reads as it did. -/
def digestCrcsSpec : ChangeSpec := { name := "digestCrcs", fn := fun _ => fun
  | [d] => { results := [.lit (.bool true)], args := [d] }
  | _ => none }
def digestCrcsRow : OpenClaim := { program := "ytoclbmdnndaccaadoor", sum := "2d904497d6189d349ec0388092b93ca81a1e708bc219dd22cac9a41dce2cd574", func := "sigil/sigillaw3.DigestCrcs", spec := "digestCrcs", named := ["sigil/digest.sumTable"], apart := false, laid := [("sigil/digest.sumTable", laid_sigil_digest_sumTable)] }
def DigestCrcsSaid : Prop := digestCrcsRow.holds Tryd.pinned (OpenSpec.ofChange digestCrcsSpec)

/-- ITS FALSE NEIGHBOUR: 'it returns false'. Refute it at one input. -/
def digestCrcsWrong : ChangeSpec := { name := "digestCrcs", fn := fun _ => fun
  | [d] => { results := [.lit (.bool false)], args := [d] }
  | _ => none }
def DigestCrcsWrongFalsely : Prop := digestCrcsRow.holds Tryd.pinned (OpenSpec.ofChange digestCrcsWrong)

/- THE SECOND FORM. 'bulk': how many values and letters a reading holds, each counted each time it is reached (what is shared counts as often as it is met; a slice's spare places count too). A statement '..UptoSaid' is the law's where the arguments, and the package variables that the reading takes, are together of bulk at most 1048576: NARROWER than '..Said'. Prove '..Said' where nothing that the law and all that it calls make is longer than what came in: it says more and counts as full. Else prove '..UptoSaid'. A law counts once. -/
mutual
def uptoBulk {H : Type} : DataW H → Nat
  | .lit (.string bytes) => bytes.length + 1
  | .lit _ => 1
  | .nil => 1
  | .ptr d => uptoBulk d + 1
  | .slice elems spare => uptoBulkAll elems + uptoBulkAll spare + 1
  | .agg parts => uptoBulkAll parts + 1
  | .iface _ d => uptoBulk d + 1
  | .map entries => uptoBulkEntries entries + 1
  | .held _ => 1
def uptoBulkAll {H : Type} : List (DataW H) → Nat
  | [] => 0
  | d :: r => uptoBulk d + uptoBulkAll r
def uptoBulkEntries {H : Type} : List (Lit × DataW H) → Nat
  | [] => 0
  | x :: r => uptoBulkEntry x + uptoBulkEntries r
def uptoBulkEntry {H : Type} : Lit × DataW H → Nat
  | (.string bytes, d) => bytes.length + uptoBulk d + 1
  | (_, d) => uptoBulk d + 1
 end
def uptoSmall : (H : Type) → List (DataW H) → Bool := fun _ ds => decide (uptoBulkAll ds ≤ 1048576)
def OpenSpec.upto (s : _root_.Go.ChangeSpec) : _root_.Go.OpenSpec := { _root_.Go.OpenSpec.ofChange s with cond := some uptoSmall }

/-- 'sigillaw3.DigestBursts', WHERE WHAT IT READS IS OF BULK AT MOST 1048576: true; the input reads as it did. -/
def digestBurstsUptoRow : OpenClaim := { program := "ytoclbmdnndaccaadoor", sum := "2d904497d6189d349ec0388092b93ca81a1e708bc219dd22cac9a41dce2cd574", func := "sigil/sigillaw3.DigestBursts", spec := "digestBursts", named := ["sigil/digest.sumTable"], apart := false, laid := [("sigil/digest.sumTable", laid_sigil_digest_sumTable)], narrowed := true }
def DigestBurstsUptoSaid : Prop := digestBurstsUptoRow.holds Tryd.pinned (OpenSpec.upto digestBurstsSpec)

/-- 'sigillaw3.DigestMixes', WHERE WHAT IT READS IS OF BULK AT MOST 1048576: true; the input reads as it did. -/
def digestMixesUptoRow : OpenClaim := { program := "ytoclbmdnndaccaadoor", sum := "2d904497d6189d349ec0388092b93ca81a1e708bc219dd22cac9a41dce2cd574", func := "sigil/sigillaw3.DigestMixes", spec := "digestMixes", named := ["sigil/digest.sumTable"], apart := false, laid := [("sigil/digest.sumTable", laid_sigil_digest_sumTable)], narrowed := true }
def DigestMixesUptoSaid : Prop := digestMixesUptoRow.holds Tryd.pinned (OpenSpec.upto digestMixesSpec)

/-- 'sigillaw3.DigestCrcs', WHERE WHAT IT READS IS OF BULK AT MOST 1048576: true; the input reads as it did. -/
def digestCrcsUptoRow : OpenClaim := { program := "ytoclbmdnndaccaadoor", sum := "2d904497d6189d349ec0388092b93ca81a1e708bc219dd22cac9a41dce2cd574", func := "sigil/sigillaw3.DigestCrcs", spec := "digestCrcs", named := ["sigil/digest.sumTable"], apart := false, laid := [("sigil/digest.sumTable", laid_sigil_digest_sumTable)], narrowed := true }
def DigestCrcsUptoSaid : Prop := digestCrcsUptoRow.holds Tryd.pinned (OpenSpec.upto digestCrcsSpec)

end Rows
end Go.Proofs.YtoclbmdnndaccaaDoor
