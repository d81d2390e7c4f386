/-
  No cell of these rows narrows 'for every input' (looked for: loops, veiled, ifaces, maps, wideKeys, modest, calm, conditions, laid).
  DERIVED. THE GIVEN ROWS OF THIS SEAT. 10 by the template 'for every input the law returns true; each argument reads behind the call as it read before'; 0 by the template 'total and deterministic' (their statements: YtalcgjkegohhgaaTotals.lean).
  GIVEN WITH THE SEED: the statements are not yours to turn. If you find one false, say at which input.
  Laid BY PROGRAM, IN A SANDBOX (cutbox-rows.mjs): the forced cells as the released guide's own fill.sh prints them over the translation ca0f2d3108e1c053… (all of the seat's roots in one cut). By AI agents, Wed Nov 11 2026. No macro, syntax, notation, axiom, sorry.
-/
import Derived.Test.YtalcgjkegohhgaaChecked
import GoSem.Claim
import GoSem.ClaimJoined
import GoSem.ClaimMapViews
import Derived.JoinedTies
import Derived.KernelRfl
namespace Go.Proofs.Ytalcgjkegohhgaa
/- THE CELL 'sum', in the pinned program and in every row, IS THE sha256 OF THE DUMP (.gsa) THAT YtalcgjkegohhgaaProg.lean LOADS. Nothing in Lean hashes anything: it is a label: what it is worth is what the hold of that sum in a sandbox is worth. -/
noncomputable def Try.pinned : Pinned := { name := "ytalcgjkegohhgaa", sum := "ca0f2d3108e1c053ce04e11ab3bdccbea000218808d5ade2c79852c622e10fc7", checked := Try.checked }
namespace Rows
def none {H : Type} : Left H := { results := [], args := [] }

/-- 'touchstonelaw10.TrailActs': WHATEVER THE INPUT: true; the input reads as it did. -/
def trailActsSpec : ChangeSpec := { name := "trailActs", fn := fun _ => fun
  | [d1, d2] => { results := [.lit (.bool true)], args := [d1, d2] }
  | _ => none }
def trailActsRow : OpenClaim := { program := "ytalcgjkegohhgaa", sum := "ca0f2d3108e1c053ce04e11ab3bdccbea000218808d5ade2c79852c622e10fc7", func := "touchstone/touchstonelaw10.TrailActs", spec := "trailActs", recurses := true, apart := false }
def TrailActsSaid : Prop := trailActsRow.holds Try.pinned (OpenSpec.ofChange trailActsSpec)

/-- ITS FALSE NEIGHBOUR: 'it returns false'. Refute it at one input. -/
def trailActsWrong : ChangeSpec := { name := "trailActs", fn := fun _ => fun
  | [d1, d2] => { results := [.lit (.bool false)], args := [d1, d2] }
  | _ => none }
def TrailActsWrongFalsely : Prop := trailActsRow.holds Try.pinned (OpenSpec.ofChange trailActsWrong)

/-- 'touchstonelaw11.SenseHolds': WHATEVER THE INPUT: true; the input reads as it did. -/
def senseHoldsSpec : ChangeSpec := { name := "senseHolds", fn := fun _ => fun
  | [d1, d2] => { results := [.lit (.bool true)], args := [d1, d2] }
  | _ => none }
def senseHoldsRow : OpenClaim := { program := "ytalcgjkegohhgaa", sum := "ca0f2d3108e1c053ce04e11ab3bdccbea000218808d5ade2c79852c622e10fc7", func := "touchstone/touchstonelaw11.SenseHolds", spec := "senseHolds", apart := false }
def SenseHoldsSaid : Prop := senseHoldsRow.holds Try.pinned (OpenSpec.ofChange senseHoldsSpec)

/-- ITS FALSE NEIGHBOUR: 'it returns false'. Refute it at one input. -/
def senseHoldsWrong : ChangeSpec := { name := "senseHolds", fn := fun _ => fun
  | [d1, d2] => { results := [.lit (.bool false)], args := [d1, d2] }
  | _ => none }
def SenseHoldsWrongFalsely : Prop := senseHoldsRow.holds Try.pinned (OpenSpec.ofChange senseHoldsWrong)

/-- 'touchstonelaw11.SenseAll': WHATEVER THE INPUT: true; the input reads as it did. -/
def senseAllSpec : ChangeSpec := { name := "senseAll", fn := fun _ => fun
  | [d1, d2, d3] => { results := [.lit (.bool true)], args := [d1, d2, d3] }
  | _ => none }
def senseAllRow : OpenClaim := { program := "ytalcgjkegohhgaa", sum := "ca0f2d3108e1c053ce04e11ab3bdccbea000218808d5ade2c79852c622e10fc7", func := "touchstone/touchstonelaw11.SenseAll", spec := "senseAll", apart := false }
def SenseAllSaid : Prop := senseAllRow.holds Try.pinned (OpenSpec.ofChange senseAllSpec)

/-- ITS FALSE NEIGHBOUR: 'it returns false'. Refute it at one input. -/
def senseAllWrong : ChangeSpec := { name := "senseAll", fn := fun _ => fun
  | [d1, d2, d3] => { results := [.lit (.bool false)], args := [d1, d2, d3] }
  | _ => none }
def SenseAllWrongFalsely : Prop := senseAllRow.holds Try.pinned (OpenSpec.ofChange senseAllWrong)

/-- 'touchstonelaw12.LinearKeeps': WHATEVER THE INPUT: true; the input reads as it did. -/
def linearKeepsSpec : ChangeSpec := { name := "linearKeeps", fn := fun _ => fun
  | [d1, d2] => { results := [.lit (.bool true)], args := [d1, d2] }
  | _ => none }
def linearKeepsRow : OpenClaim := { program := "ytalcgjkegohhgaa", sum := "ca0f2d3108e1c053ce04e11ab3bdccbea000218808d5ade2c79852c622e10fc7", func := "touchstone/touchstonelaw12.LinearKeeps", spec := "linearKeeps", unfollowed := true, recurses := true, apart := false }
def LinearKeepsSaid : Prop := linearKeepsRow.holds Try.pinned (OpenSpec.ofChange linearKeepsSpec)

/-- ITS FALSE NEIGHBOUR: 'it returns false'. Refute it at one input. -/
def linearKeepsWrong : ChangeSpec := { name := "linearKeeps", fn := fun _ => fun
  | [d1, d2] => { results := [.lit (.bool false)], args := [d1, d2] }
  | _ => none }
def LinearKeepsWrongFalsely : Prop := linearKeepsRow.holds Try.pinned (OpenSpec.ofChange linearKeepsWrong)

/-- 'touchstonelaw12.LinearOrder': WHATEVER THE INPUT: true; the input reads as it did. -/
def linearOrderSpec : ChangeSpec := { name := "linearOrder", fn := fun _ => fun
  | [d1, d2, d3] => { results := [.lit (.bool true)], args := [d1, d2, d3] }
  | _ => none }
def linearOrderRow : OpenClaim := { program := "ytalcgjkegohhgaa", sum := "ca0f2d3108e1c053ce04e11ab3bdccbea000218808d5ade2c79852c622e10fc7", func := "touchstone/touchstonelaw12.LinearOrder", spec := "linearOrder", unfollowed := true, recurses := true, apart := false }
def LinearOrderSaid : Prop := linearOrderRow.holds Try.pinned (OpenSpec.ofChange linearOrderSpec)

/-- ITS FALSE NEIGHBOUR: 'it returns false'. Refute it at one input. -/
def linearOrderWrong : ChangeSpec := { name := "linearOrder", fn := fun _ => fun
  | [d1, d2, d3] => { results := [.lit (.bool false)], args := [d1, d2, d3] }
  | _ => none }
def LinearOrderWrongFalsely : Prop := linearOrderRow.holds Try.pinned (OpenSpec.ofChange linearOrderWrong)

/-- 'touchstonelaw14.ArithNarrows': WHATEVER THE INPUT: true; the input reads as it did. -/
def arithNarrowsSpec : ChangeSpec := { name := "arithNarrows", fn := fun _ => fun
  | [d1, d2] => { results := [.lit (.bool true)], args := [d1, d2] }
  | _ => none }
def arithNarrowsRow : OpenClaim := { program := "ytalcgjkegohhgaa", sum := "ca0f2d3108e1c053ce04e11ab3bdccbea000218808d5ade2c79852c622e10fc7", func := "touchstone/touchstonelaw14.ArithNarrows", spec := "arithNarrows", unfollowed := true, recurses := true, apart := false }
def ArithNarrowsSaid : Prop := arithNarrowsRow.holds Try.pinned (OpenSpec.ofChange arithNarrowsSpec)

/-- ITS FALSE NEIGHBOUR: 'it returns false'. Refute it at one input. -/
def arithNarrowsWrong : ChangeSpec := { name := "arithNarrows", fn := fun _ => fun
  | [d1, d2] => { results := [.lit (.bool false)], args := [d1, d2] }
  | _ => none }
def ArithNarrowsWrongFalsely : Prop := arithNarrowsRow.holds Try.pinned (OpenSpec.ofChange arithNarrowsWrong)

/-- 'touchstonelaw14.ArithKeeps': WHATEVER THE INPUT: true; the input reads as it did. -/
def arithKeepsSpec : ChangeSpec := { name := "arithKeeps", fn := fun _ => fun
  | [d1, d2] => { results := [.lit (.bool true)], args := [d1, d2] }
  | _ => none }
def arithKeepsRow : OpenClaim := { program := "ytalcgjkegohhgaa", sum := "ca0f2d3108e1c053ce04e11ab3bdccbea000218808d5ade2c79852c622e10fc7", func := "touchstone/touchstonelaw14.ArithKeeps", spec := "arithKeeps", unfollowed := true, recurses := true, apart := false }
def ArithKeepsSaid : Prop := arithKeepsRow.holds Try.pinned (OpenSpec.ofChange arithKeepsSpec)

/-- ITS FALSE NEIGHBOUR: 'it returns false'. Refute it at one input. -/
def arithKeepsWrong : ChangeSpec := { name := "arithKeeps", fn := fun _ => fun
  | [d1, d2] => { results := [.lit (.bool false)], args := [d1, d2] }
  | _ => none }
def ArithKeepsWrongFalsely : Prop := arithKeepsRow.holds Try.pinned (OpenSpec.ofChange arithKeepsWrong)

/-- 'touchstonelaw14.ArithOrder': WHATEVER THE INPUT: true; the input reads as it did. -/
def arithOrderSpec : ChangeSpec := { name := "arithOrder", fn := fun _ => fun
  | [d1, d2, d3] => { results := [.lit (.bool true)], args := [d1, d2, d3] }
  | _ => none }
def arithOrderRow : OpenClaim := { program := "ytalcgjkegohhgaa", sum := "ca0f2d3108e1c053ce04e11ab3bdccbea000218808d5ade2c79852c622e10fc7", func := "touchstone/touchstonelaw14.ArithOrder", spec := "arithOrder", unfollowed := true, recurses := true, apart := false }
def ArithOrderSaid : Prop := arithOrderRow.holds Try.pinned (OpenSpec.ofChange arithOrderSpec)

/-- ITS FALSE NEIGHBOUR: 'it returns false'. Refute it at one input. -/
def arithOrderWrong : ChangeSpec := { name := "arithOrder", fn := fun _ => fun
  | [d1, d2, d3] => { results := [.lit (.bool false)], args := [d1, d2, d3] }
  | _ => none }
def ArithOrderWrongFalsely : Prop := arithOrderRow.holds Try.pinned (OpenSpec.ofChange arithOrderWrong)

/-- 'touchstonelaw14.ArithDecides': WHATEVER THE INPUT: true; the input reads as it did. -/
def arithDecidesSpec : ChangeSpec := { name := "arithDecides", fn := fun _ => fun
  | [d1, d2] => { results := [.lit (.bool true)], args := [d1, d2] }
  | _ => none }
def arithDecidesRow : OpenClaim := { program := "ytalcgjkegohhgaa", sum := "ca0f2d3108e1c053ce04e11ab3bdccbea000218808d5ade2c79852c622e10fc7", func := "touchstone/touchstonelaw14.ArithDecides", spec := "arithDecides", unfollowed := true, recurses := true, apart := false }
def ArithDecidesSaid : Prop := arithDecidesRow.holds Try.pinned (OpenSpec.ofChange arithDecidesSpec)

/-- ITS FALSE NEIGHBOUR: 'it returns false'. Refute it at one input. -/
def arithDecidesWrong : ChangeSpec := { name := "arithDecides", fn := fun _ => fun
  | [d1, d2] => { results := [.lit (.bool false)], args := [d1, d2] }
  | _ => none }
def ArithDecidesWrongFalsely : Prop := arithDecidesRow.holds Try.pinned (OpenSpec.ofChange arithDecidesWrong)

/-- 'touchstonelaw14.ArithOther': WHATEVER THE INPUT: true; the input reads as it did. -/
def arithOtherSpec : ChangeSpec := { name := "arithOther", fn := fun _ => fun
  | [d1, d2] => { results := [.lit (.bool true)], args := [d1, d2] }
  | _ => none }
def arithOtherRow : OpenClaim := { program := "ytalcgjkegohhgaa", sum := "ca0f2d3108e1c053ce04e11ab3bdccbea000218808d5ade2c79852c622e10fc7", func := "touchstone/touchstonelaw14.ArithOther", spec := "arithOther", unfollowed := true, recurses := true, apart := false }
def ArithOtherSaid : Prop := arithOtherRow.holds Try.pinned (OpenSpec.ofChange arithOtherSpec)

/-- ITS FALSE NEIGHBOUR: 'it returns false'. Refute it at one input. -/
def arithOtherWrong : ChangeSpec := { name := "arithOther", fn := fun _ => fun
  | [d1, d2] => { results := [.lit (.bool false)], args := [d1, d2] }
  | _ => none }
def ArithOtherWrongFalsely : Prop := arithOtherRow.holds Try.pinned (OpenSpec.ofChange arithOtherWrong)

/- THE SECOND FORM. 'bulk': how many values and letters a reading holds, each counted each time it is reached (what is shared counts as often as it is met; a slice's spare places count too). A statement '..UptoSaid' is the law's where the arguments, and the package variables that the reading takes, are together of bulk at most 1048576: NARROWER than '..Said'. Prove '..Said' where nothing that the law and all that it calls make is longer than what came in: it says more and counts as full. Else prove '..UptoSaid'. A law counts once. -/
mutual
def uptoBulk {H : Type} : DataW H → Nat
  | .lit (.string bytes) => bytes.length + 1
  | .lit _ => 1
  | .nil => 1
  | .ptr d => uptoBulk d + 1
  | .slice elems spare => uptoBulkAll elems + uptoBulkAll spare + 1
  | .agg parts => uptoBulkAll parts + 1
  | .iface _ d => uptoBulk d + 1
  | .map entries => uptoBulkEntries entries + 1
  | .held _ => 1
def uptoBulkAll {H : Type} : List (DataW H) → Nat
  | [] => 0
  | d :: r => uptoBulk d + uptoBulkAll r
def uptoBulkEntries {H : Type} : List (Lit × DataW H) → Nat
  | [] => 0
  | x :: r => uptoBulkEntry x + uptoBulkEntries r
def uptoBulkEntry {H : Type} : Lit × DataW H → Nat
  | (.string bytes, d) => bytes.length + uptoBulk d + 1
  | (_, d) => uptoBulk d + 1
 end
def uptoSmall : (H : Type) → List (DataW H) → Bool := fun _ ds => decide (uptoBulkAll ds ≤ 1048576)
def OpenSpec.upto (s : _root_.Go.ChangeSpec) : _root_.Go.OpenSpec := { _root_.Go.OpenSpec.ofChange s with cond := some uptoSmall }

/-- 'touchstonelaw10.TrailActs', WHERE WHAT IT READS IS OF BULK AT MOST 1048576: true; the input reads as it did. -/
def trailActsUptoRow : OpenClaim := { program := "ytalcgjkegohhgaa", sum := "ca0f2d3108e1c053ce04e11ab3bdccbea000218808d5ade2c79852c622e10fc7", func := "touchstone/touchstonelaw10.TrailActs", spec := "trailActs", recurses := true, apart := false, narrowed := true }
def TrailActsUptoSaid : Prop := trailActsUptoRow.holds Try.pinned (OpenSpec.upto trailActsSpec)

/-- 'touchstonelaw11.SenseHolds', WHERE WHAT IT READS IS OF BULK AT MOST 1048576: true; the input reads as it did. -/
def senseHoldsUptoRow : OpenClaim := { program := "ytalcgjkegohhgaa", sum := "ca0f2d3108e1c053ce04e11ab3bdccbea000218808d5ade2c79852c622e10fc7", func := "touchstone/touchstonelaw11.SenseHolds", spec := "senseHolds", apart := false, narrowed := true }
def SenseHoldsUptoSaid : Prop := senseHoldsUptoRow.holds Try.pinned (OpenSpec.upto senseHoldsSpec)

/-- 'touchstonelaw11.SenseAll', WHERE WHAT IT READS IS OF BULK AT MOST 1048576: true; the input reads as it did. -/
def senseAllUptoRow : OpenClaim := { program := "ytalcgjkegohhgaa", sum := "ca0f2d3108e1c053ce04e11ab3bdccbea000218808d5ade2c79852c622e10fc7", func := "touchstone/touchstonelaw11.SenseAll", spec := "senseAll", apart := false, narrowed := true }
def SenseAllUptoSaid : Prop := senseAllUptoRow.holds Try.pinned (OpenSpec.upto senseAllSpec)

/-- 'touchstonelaw12.LinearKeeps', WHERE WHAT IT READS IS OF BULK AT MOST 1048576: true; the input reads as it did. -/
def linearKeepsUptoRow : OpenClaim := { program := "ytalcgjkegohhgaa", sum := "ca0f2d3108e1c053ce04e11ab3bdccbea000218808d5ade2c79852c622e10fc7", func := "touchstone/touchstonelaw12.LinearKeeps", spec := "linearKeeps", unfollowed := true, recurses := true, apart := false, narrowed := true }
def LinearKeepsUptoSaid : Prop := linearKeepsUptoRow.holds Try.pinned (OpenSpec.upto linearKeepsSpec)

/-- 'touchstonelaw12.LinearOrder', WHERE WHAT IT READS IS OF BULK AT MOST 1048576: true; the input reads as it did. -/
def linearOrderUptoRow : OpenClaim := { program := "ytalcgjkegohhgaa", sum := "ca0f2d3108e1c053ce04e11ab3bdccbea000218808d5ade2c79852c622e10fc7", func := "touchstone/touchstonelaw12.LinearOrder", spec := "linearOrder", unfollowed := true, recurses := true, apart := false, narrowed := true }
def LinearOrderUptoSaid : Prop := linearOrderUptoRow.holds Try.pinned (OpenSpec.upto linearOrderSpec)

/-- 'touchstonelaw14.ArithNarrows', WHERE WHAT IT READS IS OF BULK AT MOST 1048576: true; the input reads as it did. -/
def arithNarrowsUptoRow : OpenClaim := { program := "ytalcgjkegohhgaa", sum := "ca0f2d3108e1c053ce04e11ab3bdccbea000218808d5ade2c79852c622e10fc7", func := "touchstone/touchstonelaw14.ArithNarrows", spec := "arithNarrows", unfollowed := true, recurses := true, apart := false, narrowed := true }
def ArithNarrowsUptoSaid : Prop := arithNarrowsUptoRow.holds Try.pinned (OpenSpec.upto arithNarrowsSpec)

/-- 'touchstonelaw14.ArithKeeps', WHERE WHAT IT READS IS OF BULK AT MOST 1048576: true; the input reads as it did. -/
def arithKeepsUptoRow : OpenClaim := { program := "ytalcgjkegohhgaa", sum := "ca0f2d3108e1c053ce04e11ab3bdccbea000218808d5ade2c79852c622e10fc7", func := "touchstone/touchstonelaw14.ArithKeeps", spec := "arithKeeps", unfollowed := true, recurses := true, apart := false, narrowed := true }
def ArithKeepsUptoSaid : Prop := arithKeepsUptoRow.holds Try.pinned (OpenSpec.upto arithKeepsSpec)

/-- 'touchstonelaw14.ArithOrder', WHERE WHAT IT READS IS OF BULK AT MOST 1048576: true; the input reads as it did. -/
def arithOrderUptoRow : OpenClaim := { program := "ytalcgjkegohhgaa", sum := "ca0f2d3108e1c053ce04e11ab3bdccbea000218808d5ade2c79852c622e10fc7", func := "touchstone/touchstonelaw14.ArithOrder", spec := "arithOrder", unfollowed := true, recurses := true, apart := false, narrowed := true }
def ArithOrderUptoSaid : Prop := arithOrderUptoRow.holds Try.pinned (OpenSpec.upto arithOrderSpec)

/-- 'touchstonelaw14.ArithDecides', WHERE WHAT IT READS IS OF BULK AT MOST 1048576: true; the input reads as it did. -/
def arithDecidesUptoRow : OpenClaim := { program := "ytalcgjkegohhgaa", sum := "ca0f2d3108e1c053ce04e11ab3bdccbea000218808d5ade2c79852c622e10fc7", func := "touchstone/touchstonelaw14.ArithDecides", spec := "arithDecides", unfollowed := true, recurses := true, apart := false, narrowed := true }
def ArithDecidesUptoSaid : Prop := arithDecidesUptoRow.holds Try.pinned (OpenSpec.upto arithDecidesSpec)

/-- 'touchstonelaw14.ArithOther', WHERE WHAT IT READS IS OF BULK AT MOST 1048576: true; the input reads as it did. -/
def arithOtherUptoRow : OpenClaim := { program := "ytalcgjkegohhgaa", sum := "ca0f2d3108e1c053ce04e11ab3bdccbea000218808d5ade2c79852c622e10fc7", func := "touchstone/touchstonelaw14.ArithOther", spec := "arithOther", unfollowed := true, recurses := true, apart := false, narrowed := true }
def ArithOtherUptoSaid : Prop := arithOtherUptoRow.holds Try.pinned (OpenSpec.upto arithOtherSpec)

end Rows
end Go.Proofs.Ytalcgjkegohhgaa
