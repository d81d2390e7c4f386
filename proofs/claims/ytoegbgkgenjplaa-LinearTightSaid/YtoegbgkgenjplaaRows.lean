/-
  No cell of these rows narrows 'for every input' (looked for: loops, veiled, ifaces, maps, wideKeys, modest, calm, conditions, laid).
  DERIVED. THE GIVEN ROWS OF THIS SEAT. 9 by the template 'for every input the law returns true; each argument reads behind the call as it read before'; 0 by the template 'total and deterministic' (their statements: YtoegbgkgenjplaaTotals.lean).
  GIVEN WITH THE SEED: the statements are not yours to turn. If you find one false, say at which input.
  Laid BY PROGRAM, IN A SANDBOX (cutbox-rows.mjs): the forced cells as the released guide's own fill.sh prints them over the translation 2a420a25a5f97d2f… (all of the seat's roots in one cut). By AI agents, Wed Nov 11 2026. No macro, syntax, notation, axiom, sorry.
-/
import Derived.Test.YtoegbgkgenjplaaChecked
import GoSem.Claim
import GoSem.ClaimJoined
import GoSem.ClaimMapViews
import Derived.JoinedTies
import Derived.KernelRfl
namespace Go.Proofs.Ytoegbgkgenjplaa
/- THE CELL 'sum', in the pinned program and in every row, IS THE sha256 OF THE DUMP (.gsa) THAT YtoegbgkgenjplaaProg.lean LOADS. Nothing in Lean hashes anything: it is a label: what it is worth is what the hold of that sum in a sandbox is worth. -/
noncomputable def Try.pinned : Pinned := { name := "ytoegbgkgenjplaa", sum := "2a420a25a5f97d2f4946beaffe390811a3ab9cc6a235c40b9bb038d4e5b4fbe5", checked := Try.checked }
namespace Rows
def none {H : Type} : Left H := { results := [], args := [] }

/-- 'touchstonelaw11.SenseHolds': WHATEVER THE INPUT: true; the input reads as it did. -/
def senseHoldsSpec : ChangeSpec := { name := "senseHolds", fn := fun _ => fun
  | [d1, d2] => { results := [.lit (.bool true)], args := [d1, d2] }
  | _ => none }
def senseHoldsRow : OpenClaim := { program := "ytoegbgkgenjplaa", sum := "2a420a25a5f97d2f4946beaffe390811a3ab9cc6a235c40b9bb038d4e5b4fbe5", func := "touchstone/touchstonelaw11.SenseHolds", spec := "senseHolds", apart := false }
def SenseHoldsSaid : Prop := senseHoldsRow.holds Try.pinned (OpenSpec.ofChange senseHoldsSpec)

/-- ITS FALSE NEIGHBOUR: 'it returns false'. Refute it at one input. -/
def senseHoldsWrong : ChangeSpec := { name := "senseHolds", fn := fun _ => fun
  | [d1, d2] => { results := [.lit (.bool false)], args := [d1, d2] }
  | _ => none }
def SenseHoldsWrongFalsely : Prop := senseHoldsRow.holds Try.pinned (OpenSpec.ofChange senseHoldsWrong)

/-- 'touchstonelaw11.SenseAll': WHATEVER THE INPUT: true; the input reads as it did. -/
def senseAllSpec : ChangeSpec := { name := "senseAll", fn := fun _ => fun
  | [d1, d2, d3] => { results := [.lit (.bool true)], args := [d1, d2, d3] }
  | _ => none }
def senseAllRow : OpenClaim := { program := "ytoegbgkgenjplaa", sum := "2a420a25a5f97d2f4946beaffe390811a3ab9cc6a235c40b9bb038d4e5b4fbe5", func := "touchstone/touchstonelaw11.SenseAll", spec := "senseAll", apart := false }
def SenseAllSaid : Prop := senseAllRow.holds Try.pinned (OpenSpec.ofChange senseAllSpec)

/-- ITS FALSE NEIGHBOUR: 'it returns false'. Refute it at one input. -/
def senseAllWrong : ChangeSpec := { name := "senseAll", fn := fun _ => fun
  | [d1, d2, d3] => { results := [.lit (.bool false)], args := [d1, d2, d3] }
  | _ => none }
def SenseAllWrongFalsely : Prop := senseAllRow.holds Try.pinned (OpenSpec.ofChange senseAllWrong)

/-- 'touchstonelaw12.LinearKeeps': WHATEVER THE INPUT: true; the input reads as it did. -/
def linearKeepsSpec : ChangeSpec := { name := "linearKeeps", fn := fun _ => fun
  | [d1, d2] => { results := [.lit (.bool true)], args := [d1, d2] }
  | _ => none }
def linearKeepsRow : OpenClaim := { program := "ytoegbgkgenjplaa", sum := "2a420a25a5f97d2f4946beaffe390811a3ab9cc6a235c40b9bb038d4e5b4fbe5", func := "touchstone/touchstonelaw12.LinearKeeps", spec := "linearKeeps", unfollowed := true, recurses := true, apart := false }
def LinearKeepsSaid : Prop := linearKeepsRow.holds Try.pinned (OpenSpec.ofChange linearKeepsSpec)

/-- ITS FALSE NEIGHBOUR: 'it returns false'. Refute it at one input. -/
def linearKeepsWrong : ChangeSpec := { name := "linearKeeps", fn := fun _ => fun
  | [d1, d2] => { results := [.lit (.bool false)], args := [d1, d2] }
  | _ => none }
def LinearKeepsWrongFalsely : Prop := linearKeepsRow.holds Try.pinned (OpenSpec.ofChange linearKeepsWrong)

/-- 'touchstonelaw12.LinearOrder': WHATEVER THE INPUT: true; the input reads as it did. -/
def linearOrderSpec : ChangeSpec := { name := "linearOrder", fn := fun _ => fun
  | [d1, d2, d3] => { results := [.lit (.bool true)], args := [d1, d2, d3] }
  | _ => none }
def linearOrderRow : OpenClaim := { program := "ytoegbgkgenjplaa", sum := "2a420a25a5f97d2f4946beaffe390811a3ab9cc6a235c40b9bb038d4e5b4fbe5", func := "touchstone/touchstonelaw12.LinearOrder", spec := "linearOrder", unfollowed := true, recurses := true, apart := false }
def LinearOrderSaid : Prop := linearOrderRow.holds Try.pinned (OpenSpec.ofChange linearOrderSpec)

/-- ITS FALSE NEIGHBOUR: 'it returns false'. Refute it at one input. -/
def linearOrderWrong : ChangeSpec := { name := "linearOrder", fn := fun _ => fun
  | [d1, d2, d3] => { results := [.lit (.bool false)], args := [d1, d2, d3] }
  | _ => none }
def LinearOrderWrongFalsely : Prop := linearOrderRow.holds Try.pinned (OpenSpec.ofChange linearOrderWrong)

/-- 'touchstonelaw12.LinearTight': WHATEVER THE INPUT: true; the input reads as it did. -/
def linearTightSpec : ChangeSpec := { name := "linearTight", fn := fun _ => fun
  | [d1, d2] => { results := [.lit (.bool true)], args := [d1, d2] }
  | _ => none }
def linearTightRow : OpenClaim := { program := "ytoegbgkgenjplaa", sum := "2a420a25a5f97d2f4946beaffe390811a3ab9cc6a235c40b9bb038d4e5b4fbe5", func := "touchstone/touchstonelaw12.LinearTight", spec := "linearTight", unfollowed := true, recurses := true, apart := false }
def LinearTightSaid : Prop := linearTightRow.holds Try.pinned (OpenSpec.ofChange linearTightSpec)

/-- ITS FALSE NEIGHBOUR: 'it returns false'. Refute it at one input. -/
def linearTightWrong : ChangeSpec := { name := "linearTight", fn := fun _ => fun
  | [d1, d2] => { results := [.lit (.bool false)], args := [d1, d2] }
  | _ => none }
def LinearTightWrongFalsely : Prop := linearTightRow.holds Try.pinned (OpenSpec.ofChange linearTightWrong)

/-- 'touchstonelaw13.ReifyNarrows': WHATEVER THE INPUT: true; the input reads as it did. -/
def reifyNarrowsSpec : ChangeSpec := { name := "reifyNarrows", fn := fun _ => fun
  | [d1, d2] => { results := [.lit (.bool true)], args := [d1, d2] }
  | _ => none }
def reifyNarrowsRow : OpenClaim := { program := "ytoegbgkgenjplaa", sum := "2a420a25a5f97d2f4946beaffe390811a3ab9cc6a235c40b9bb038d4e5b4fbe5", func := "touchstone/touchstonelaw13.ReifyNarrows", spec := "reifyNarrows", unfollowed := true, recurses := true, apart := false }
def ReifyNarrowsSaid : Prop := reifyNarrowsRow.holds Try.pinned (OpenSpec.ofChange reifyNarrowsSpec)

/-- ITS FALSE NEIGHBOUR: 'it returns false'. Refute it at one input. -/
def reifyNarrowsWrong : ChangeSpec := { name := "reifyNarrows", fn := fun _ => fun
  | [d1, d2] => { results := [.lit (.bool false)], args := [d1, d2] }
  | _ => none }
def ReifyNarrowsWrongFalsely : Prop := reifyNarrowsRow.holds Try.pinned (OpenSpec.ofChange reifyNarrowsWrong)

/-- 'touchstonelaw13.ReifyKeeps': WHATEVER THE INPUT: true; the input reads as it did. -/
def reifyKeepsSpec : ChangeSpec := { name := "reifyKeeps", fn := fun _ => fun
  | [d1, d2] => { results := [.lit (.bool true)], args := [d1, d2] }
  | _ => none }
def reifyKeepsRow : OpenClaim := { program := "ytoegbgkgenjplaa", sum := "2a420a25a5f97d2f4946beaffe390811a3ab9cc6a235c40b9bb038d4e5b4fbe5", func := "touchstone/touchstonelaw13.ReifyKeeps", spec := "reifyKeeps", unfollowed := true, recurses := true, apart := false }
def ReifyKeepsSaid : Prop := reifyKeepsRow.holds Try.pinned (OpenSpec.ofChange reifyKeepsSpec)

/-- ITS FALSE NEIGHBOUR: 'it returns false'. Refute it at one input. -/
def reifyKeepsWrong : ChangeSpec := { name := "reifyKeeps", fn := fun _ => fun
  | [d1, d2] => { results := [.lit (.bool false)], args := [d1, d2] }
  | _ => none }
def ReifyKeepsWrongFalsely : Prop := reifyKeepsRow.holds Try.pinned (OpenSpec.ofChange reifyKeepsWrong)

/-- 'touchstonelaw13.ReifyDecides': WHATEVER THE INPUT: true; the input reads as it did. -/
def reifyDecidesSpec : ChangeSpec := { name := "reifyDecides", fn := fun _ => fun
  | [d1, d2] => { results := [.lit (.bool true)], args := [d1, d2] }
  | _ => none }
def reifyDecidesRow : OpenClaim := { program := "ytoegbgkgenjplaa", sum := "2a420a25a5f97d2f4946beaffe390811a3ab9cc6a235c40b9bb038d4e5b4fbe5", func := "touchstone/touchstonelaw13.ReifyDecides", spec := "reifyDecides", unfollowed := true, recurses := true, apart := false }
def ReifyDecidesSaid : Prop := reifyDecidesRow.holds Try.pinned (OpenSpec.ofChange reifyDecidesSpec)

/-- ITS FALSE NEIGHBOUR: 'it returns false'. Refute it at one input. -/
def reifyDecidesWrong : ChangeSpec := { name := "reifyDecides", fn := fun _ => fun
  | [d1, d2] => { results := [.lit (.bool false)], args := [d1, d2] }
  | _ => none }
def ReifyDecidesWrongFalsely : Prop := reifyDecidesRow.holds Try.pinned (OpenSpec.ofChange reifyDecidesWrong)

/-- 'touchstonelaw13.ReifyOther': WHATEVER THE INPUT: true; the input reads as it did. -/
def reifyOtherSpec : ChangeSpec := { name := "reifyOther", fn := fun _ => fun
  | [d1, d2] => { results := [.lit (.bool true)], args := [d1, d2] }
  | _ => none }
def reifyOtherRow : OpenClaim := { program := "ytoegbgkgenjplaa", sum := "2a420a25a5f97d2f4946beaffe390811a3ab9cc6a235c40b9bb038d4e5b4fbe5", func := "touchstone/touchstonelaw13.ReifyOther", spec := "reifyOther", unfollowed := true, recurses := true, apart := false }
def ReifyOtherSaid : Prop := reifyOtherRow.holds Try.pinned (OpenSpec.ofChange reifyOtherSpec)

/-- ITS FALSE NEIGHBOUR: 'it returns false'. Refute it at one input. -/
def reifyOtherWrong : ChangeSpec := { name := "reifyOther", fn := fun _ => fun
  | [d1, d2] => { results := [.lit (.bool false)], args := [d1, d2] }
  | _ => none }
def ReifyOtherWrongFalsely : Prop := reifyOtherRow.holds Try.pinned (OpenSpec.ofChange reifyOtherWrong)

/- THE SECOND FORM. 'bulk': how many values and letters a reading holds, each counted each time it is reached (what is shared counts as often as it is met; a slice's spare places count too). A statement '..UptoSaid' is the law's where the arguments, and the package variables that the reading takes, are together of bulk at most 1048576: NARROWER than '..Said'. Prove '..Said' where nothing that the law and all that it calls make is longer than what came in: it says more and counts as full. Else prove '..UptoSaid'. A law counts once. -/
mutual
def uptoBulk {H : Type} : DataW H → Nat
  | .lit (.string bytes) => bytes.length + 1
  | .lit _ => 1
  | .nil => 1
  | .ptr d => uptoBulk d + 1
  | .slice elems spare => uptoBulkAll elems + uptoBulkAll spare + 1
  | .agg parts => uptoBulkAll parts + 1
  | .iface _ d => uptoBulk d + 1
  | .map entries => uptoBulkEntries entries + 1
  | .held _ => 1
def uptoBulkAll {H : Type} : List (DataW H) → Nat
  | [] => 0
  | d :: r => uptoBulk d + uptoBulkAll r
def uptoBulkEntries {H : Type} : List (Lit × DataW H) → Nat
  | [] => 0
  | x :: r => uptoBulkEntry x + uptoBulkEntries r
def uptoBulkEntry {H : Type} : Lit × DataW H → Nat
  | (.string bytes, d) => bytes.length + uptoBulk d + 1
  | (_, d) => uptoBulk d + 1
 end
def uptoSmall : (H : Type) → List (DataW H) → Bool := fun _ ds => decide (uptoBulkAll ds ≤ 1048576)
def OpenSpec.upto (s : _root_.Go.ChangeSpec) : _root_.Go.OpenSpec := { _root_.Go.OpenSpec.ofChange s with cond := some uptoSmall }

/-- 'touchstonelaw11.SenseHolds', WHERE WHAT IT READS IS OF BULK AT MOST 1048576: true; the input reads as it did. -/
def senseHoldsUptoRow : OpenClaim := { program := "ytoegbgkgenjplaa", sum := "2a420a25a5f97d2f4946beaffe390811a3ab9cc6a235c40b9bb038d4e5b4fbe5", func := "touchstone/touchstonelaw11.SenseHolds", spec := "senseHolds", apart := false, narrowed := true }
def SenseHoldsUptoSaid : Prop := senseHoldsUptoRow.holds Try.pinned (OpenSpec.upto senseHoldsSpec)

/-- 'touchstonelaw11.SenseAll', WHERE WHAT IT READS IS OF BULK AT MOST 1048576: true; the input reads as it did. -/
def senseAllUptoRow : OpenClaim := { program := "ytoegbgkgenjplaa", sum := "2a420a25a5f97d2f4946beaffe390811a3ab9cc6a235c40b9bb038d4e5b4fbe5", func := "touchstone/touchstonelaw11.SenseAll", spec := "senseAll", apart := false, narrowed := true }
def SenseAllUptoSaid : Prop := senseAllUptoRow.holds Try.pinned (OpenSpec.upto senseAllSpec)

/-- 'touchstonelaw12.LinearKeeps', WHERE WHAT IT READS IS OF BULK AT MOST 1048576: true; the input reads as it did. -/
def linearKeepsUptoRow : OpenClaim := { program := "ytoegbgkgenjplaa", sum := "2a420a25a5f97d2f4946beaffe390811a3ab9cc6a235c40b9bb038d4e5b4fbe5", func := "touchstone/touchstonelaw12.LinearKeeps", spec := "linearKeeps", unfollowed := true, recurses := true, apart := false, narrowed := true }
def LinearKeepsUptoSaid : Prop := linearKeepsUptoRow.holds Try.pinned (OpenSpec.upto linearKeepsSpec)

/-- 'touchstonelaw12.LinearOrder', WHERE WHAT IT READS IS OF BULK AT MOST 1048576: true; the input reads as it did. -/
def linearOrderUptoRow : OpenClaim := { program := "ytoegbgkgenjplaa", sum := "2a420a25a5f97d2f4946beaffe390811a3ab9cc6a235c40b9bb038d4e5b4fbe5", func := "touchstone/touchstonelaw12.LinearOrder", spec := "linearOrder", unfollowed := true, recurses := true, apart := false, narrowed := true }
def LinearOrderUptoSaid : Prop := linearOrderUptoRow.holds Try.pinned (OpenSpec.upto linearOrderSpec)

/-- 'touchstonelaw12.LinearTight', WHERE WHAT IT READS IS OF BULK AT MOST 1048576: true; the input reads as it did. -/
def linearTightUptoRow : OpenClaim := { program := "ytoegbgkgenjplaa", sum := "2a420a25a5f97d2f4946beaffe390811a3ab9cc6a235c40b9bb038d4e5b4fbe5", func := "touchstone/touchstonelaw12.LinearTight", spec := "linearTight", unfollowed := true, recurses := true, apart := false, narrowed := true }
def LinearTightUptoSaid : Prop := linearTightUptoRow.holds Try.pinned (OpenSpec.upto linearTightSpec)

/-- 'touchstonelaw13.ReifyNarrows', WHERE WHAT IT READS IS OF BULK AT MOST 1048576: true; the input reads as it did. -/
def reifyNarrowsUptoRow : OpenClaim := { program := "ytoegbgkgenjplaa", sum := "2a420a25a5f97d2f4946beaffe390811a3ab9cc6a235c40b9bb038d4e5b4fbe5", func := "touchstone/touchstonelaw13.ReifyNarrows", spec := "reifyNarrows", unfollowed := true, recurses := true, apart := false, narrowed := true }
def ReifyNarrowsUptoSaid : Prop := reifyNarrowsUptoRow.holds Try.pinned (OpenSpec.upto reifyNarrowsSpec)

/-- 'touchstonelaw13.ReifyKeeps', WHERE WHAT IT READS IS OF BULK AT MOST 1048576: true; the input reads as it did. -/
def reifyKeepsUptoRow : OpenClaim := { program := "ytoegbgkgenjplaa", sum := "2a420a25a5f97d2f4946beaffe390811a3ab9cc6a235c40b9bb038d4e5b4fbe5", func := "touchstone/touchstonelaw13.ReifyKeeps", spec := "reifyKeeps", unfollowed := true, recurses := true, apart := false, narrowed := true }
def ReifyKeepsUptoSaid : Prop := reifyKeepsUptoRow.holds Try.pinned (OpenSpec.upto reifyKeepsSpec)

/-- 'touchstonelaw13.ReifyDecides', WHERE WHAT IT READS IS OF BULK AT MOST 1048576: true; the input reads as it did. -/
def reifyDecidesUptoRow : OpenClaim := { program := "ytoegbgkgenjplaa", sum := "2a420a25a5f97d2f4946beaffe390811a3ab9cc6a235c40b9bb038d4e5b4fbe5", func := "touchstone/touchstonelaw13.ReifyDecides", spec := "reifyDecides", unfollowed := true, recurses := true, apart := false, narrowed := true }
def ReifyDecidesUptoSaid : Prop := reifyDecidesUptoRow.holds Try.pinned (OpenSpec.upto reifyDecidesSpec)

/-- 'touchstonelaw13.ReifyOther', WHERE WHAT IT READS IS OF BULK AT MOST 1048576: true; the input reads as it did. -/
def reifyOtherUptoRow : OpenClaim := { program := "ytoegbgkgenjplaa", sum := "2a420a25a5f97d2f4946beaffe390811a3ab9cc6a235c40b9bb038d4e5b4fbe5", func := "touchstone/touchstonelaw13.ReifyOther", spec := "reifyOther", unfollowed := true, recurses := true, apart := false, narrowed := true }
def ReifyOtherUptoSaid : Prop := reifyOtherUptoRow.holds Try.pinned (OpenSpec.upto reifyOtherSpec)

end Rows
end Go.Proofs.Ytoegbgkgenjplaa
