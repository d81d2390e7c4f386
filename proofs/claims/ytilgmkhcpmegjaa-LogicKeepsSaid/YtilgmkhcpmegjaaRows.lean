/-
  No cell of these rows narrows 'for every input' (looked for: loops, veiled, ifaces, maps, wideKeys, modest, calm, conditions, laid).
  DERIVED. THE GIVEN ROWS OF THIS SEAT. 12 by the template 'for every input the law returns true; each argument reads behind the call as it read before'; 0 by the template 'total and deterministic' (their statements: YtilgmkhcpmegjaaTotals.lean).
  GIVEN WITH THE SEED: the statements are not yours to turn. If you find one false, say at which input.
  Laid BY PROGRAM, IN A SANDBOX (cutbox-rows.mjs): the forced cells as the released guide's own fill.sh prints them over the translation bc9267f24991ab99… (all of the seat's roots in one cut). By AI agents, Wed Nov 11 2026. No macro, syntax, notation, axiom, sorry.
-/
import Derived.Test.YtilgmkhcpmegjaaChecked
import GoSem.Claim
import GoSem.ClaimJoined
import GoSem.ClaimMapViews
import Derived.JoinedTies
import Derived.KernelRfl
namespace Go.Proofs.Ytilgmkhcpmegjaa
/- THE CELL 'sum', in the pinned program and in every row, IS THE sha256 OF THE DUMP (.gsa) THAT YtilgmkhcpmegjaaProg.lean LOADS. Nothing in Lean hashes anything: it is a label: what it is worth is what the hold of that sum in a sandbox is worth. -/
noncomputable def Try.pinned : Pinned := { name := "ytilgmkhcpmegjaa", sum := "bc9267f24991ab99188d1b1020eb043b36e7514d534ea594d2d4ac8648cb1845", checked := Try.checked }
namespace Rows
def none {H : Type} : Left H := { results := [], args := [] }

/-- 'touchstonelaw15.LogicNarrows': WHATEVER THE INPUT: true; the input reads as it did. -/
def logicNarrowsSpec : ChangeSpec := { name := "logicNarrows", fn := fun _ => fun
  | [d1, d2] => { results := [.lit (.bool true)], args := [d1, d2] }
  | _ => none }
def logicNarrowsRow : OpenClaim := { program := "ytilgmkhcpmegjaa", sum := "bc9267f24991ab99188d1b1020eb043b36e7514d534ea594d2d4ac8648cb1845", func := "touchstone/touchstonelaw15.LogicNarrows", spec := "logicNarrows", apart := false }
def LogicNarrowsSaid : Prop := logicNarrowsRow.holds Try.pinned (OpenSpec.ofChange logicNarrowsSpec)

/-- ITS FALSE NEIGHBOUR: 'it returns false'. Refute it at one input. -/
def logicNarrowsWrong : ChangeSpec := { name := "logicNarrows", fn := fun _ => fun
  | [d1, d2] => { results := [.lit (.bool false)], args := [d1, d2] }
  | _ => none }
def LogicNarrowsWrongFalsely : Prop := logicNarrowsRow.holds Try.pinned (OpenSpec.ofChange logicNarrowsWrong)

/-- 'touchstonelaw15.LogicKeeps': WHATEVER THE INPUT: true; the input reads as it did. -/
def logicKeepsSpec : ChangeSpec := { name := "logicKeeps", fn := fun _ => fun
  | [d1, d2] => { results := [.lit (.bool true)], args := [d1, d2] }
  | _ => none }
def logicKeepsRow : OpenClaim := { program := "ytilgmkhcpmegjaa", sum := "bc9267f24991ab99188d1b1020eb043b36e7514d534ea594d2d4ac8648cb1845", func := "touchstone/touchstonelaw15.LogicKeeps", spec := "logicKeeps", apart := false }
def LogicKeepsSaid : Prop := logicKeepsRow.holds Try.pinned (OpenSpec.ofChange logicKeepsSpec)

/-- ITS FALSE NEIGHBOUR: 'it returns false'. Refute it at one input. -/
def logicKeepsWrong : ChangeSpec := { name := "logicKeeps", fn := fun _ => fun
  | [d1, d2] => { results := [.lit (.bool false)], args := [d1, d2] }
  | _ => none }
def LogicKeepsWrongFalsely : Prop := logicKeepsRow.holds Try.pinned (OpenSpec.ofChange logicKeepsWrong)

/-- 'touchstonelaw15.LogicOrder': WHATEVER THE INPUT: true; the input reads as it did. -/
def logicOrderSpec : ChangeSpec := { name := "logicOrder", fn := fun _ => fun
  | [d1, d2, d3] => { results := [.lit (.bool true)], args := [d1, d2, d3] }
  | _ => none }
def logicOrderRow : OpenClaim := { program := "ytilgmkhcpmegjaa", sum := "bc9267f24991ab99188d1b1020eb043b36e7514d534ea594d2d4ac8648cb1845", func := "touchstone/touchstonelaw15.LogicOrder", spec := "logicOrder", apart := false }
def LogicOrderSaid : Prop := logicOrderRow.holds Try.pinned (OpenSpec.ofChange logicOrderSpec)

/-- ITS FALSE NEIGHBOUR: 'it returns false'. Refute it at one input. -/
def logicOrderWrong : ChangeSpec := { name := "logicOrder", fn := fun _ => fun
  | [d1, d2, d3] => { results := [.lit (.bool false)], args := [d1, d2, d3] }
  | _ => none }
def LogicOrderWrongFalsely : Prop := logicOrderRow.holds Try.pinned (OpenSpec.ofChange logicOrderWrong)

/-- 'touchstonelaw15.LogicAll': WHATEVER THE INPUT: true; the input reads as it did. -/
def logicAllSpec : ChangeSpec := { name := "logicAll", fn := fun _ => fun
  | [d1, d2] => { results := [.lit (.bool true)], args := [d1, d2] }
  | _ => none }
def logicAllRow : OpenClaim := { program := "ytilgmkhcpmegjaa", sum := "bc9267f24991ab99188d1b1020eb043b36e7514d534ea594d2d4ac8648cb1845", func := "touchstone/touchstonelaw15.LogicAll", spec := "logicAll", apart := false }
def LogicAllSaid : Prop := logicAllRow.holds Try.pinned (OpenSpec.ofChange logicAllSpec)

/-- ITS FALSE NEIGHBOUR: 'it returns false'. Refute it at one input. -/
def logicAllWrong : ChangeSpec := { name := "logicAll", fn := fun _ => fun
  | [d1, d2] => { results := [.lit (.bool false)], args := [d1, d2] }
  | _ => none }
def LogicAllWrongFalsely : Prop := logicAllRow.holds Try.pinned (OpenSpec.ofChange logicAllWrong)

/-- 'touchstonelaw15.LogicOther': WHATEVER THE INPUT: true; the input reads as it did. -/
def logicOtherSpec : ChangeSpec := { name := "logicOther", fn := fun _ => fun
  | [d1, d2] => { results := [.lit (.bool true)], args := [d1, d2] }
  | _ => none }
def logicOtherRow : OpenClaim := { program := "ytilgmkhcpmegjaa", sum := "bc9267f24991ab99188d1b1020eb043b36e7514d534ea594d2d4ac8648cb1845", func := "touchstone/touchstonelaw15.LogicOther", spec := "logicOther", apart := false }
def LogicOtherSaid : Prop := logicOtherRow.holds Try.pinned (OpenSpec.ofChange logicOtherSpec)

/-- ITS FALSE NEIGHBOUR: 'it returns false'. Refute it at one input. -/
def logicOtherWrong : ChangeSpec := { name := "logicOther", fn := fun _ => fun
  | [d1, d2] => { results := [.lit (.bool false)], args := [d1, d2] }
  | _ => none }
def LogicOtherWrongFalsely : Prop := logicOtherRow.holds Try.pinned (OpenSpec.ofChange logicOtherWrong)

/-- 'touchstonetop.WholeClause': WHATEVER THE INPUT: true; the input reads as it did. -/
def wholeClauseSpec : ChangeSpec := { name := "wholeClause", fn := fun _ => fun
  | [d1, d2, d3] => { results := [.lit (.bool true)], args := [d1, d2, d3] }
  | _ => none }
def wholeClauseRow : OpenClaim := { program := "ytilgmkhcpmegjaa", sum := "bc9267f24991ab99188d1b1020eb043b36e7514d534ea594d2d4ac8648cb1845", func := "touchstone/touchstonetop.WholeClause", spec := "wholeClause", apart := false }
def WholeClauseSaid : Prop := wholeClauseRow.holds Try.pinned (OpenSpec.ofChange wholeClauseSpec)

/-- ITS FALSE NEIGHBOUR: 'it returns false'. Refute it at one input. -/
def wholeClauseWrong : ChangeSpec := { name := "wholeClause", fn := fun _ => fun
  | [d1, d2, d3] => { results := [.lit (.bool false)], args := [d1, d2, d3] }
  | _ => none }
def WholeClauseWrongFalsely : Prop := wholeClauseRow.holds Try.pinned (OpenSpec.ofChange wholeClauseWrong)

/-- 'touchstonelaw14.ArithNarrows': WHATEVER THE INPUT: true; the input reads as it did. -/
def arithNarrowsSpec : ChangeSpec := { name := "arithNarrows", fn := fun _ => fun
  | [d1, d2] => { results := [.lit (.bool true)], args := [d1, d2] }
  | _ => none }
def arithNarrowsRow : OpenClaim := { program := "ytilgmkhcpmegjaa", sum := "bc9267f24991ab99188d1b1020eb043b36e7514d534ea594d2d4ac8648cb1845", func := "touchstone/touchstonelaw14.ArithNarrows", spec := "arithNarrows", unfollowed := true, recurses := true, apart := false }
def ArithNarrowsSaid : Prop := arithNarrowsRow.holds Try.pinned (OpenSpec.ofChange arithNarrowsSpec)

/-- ITS FALSE NEIGHBOUR: 'it returns false'. Refute it at one input. -/
def arithNarrowsWrong : ChangeSpec := { name := "arithNarrows", fn := fun _ => fun
  | [d1, d2] => { results := [.lit (.bool false)], args := [d1, d2] }
  | _ => none }
def ArithNarrowsWrongFalsely : Prop := arithNarrowsRow.holds Try.pinned (OpenSpec.ofChange arithNarrowsWrong)

/-- 'touchstonelaw10.TrailActs': WHATEVER THE INPUT: true; the input reads as it did. -/
def trailActsSpec : ChangeSpec := { name := "trailActs", fn := fun _ => fun
  | [d1, d2] => { results := [.lit (.bool true)], args := [d1, d2] }
  | _ => none }
def trailActsRow : OpenClaim := { program := "ytilgmkhcpmegjaa", sum := "bc9267f24991ab99188d1b1020eb043b36e7514d534ea594d2d4ac8648cb1845", func := "touchstone/touchstonelaw10.TrailActs", spec := "trailActs", recurses := true, apart := false }
def TrailActsSaid : Prop := trailActsRow.holds Try.pinned (OpenSpec.ofChange trailActsSpec)

/-- ITS FALSE NEIGHBOUR: 'it returns false'. Refute it at one input. -/
def trailActsWrong : ChangeSpec := { name := "trailActs", fn := fun _ => fun
  | [d1, d2] => { results := [.lit (.bool false)], args := [d1, d2] }
  | _ => none }
def TrailActsWrongFalsely : Prop := trailActsRow.holds Try.pinned (OpenSpec.ofChange trailActsWrong)

/-- 'touchstonelaw12.LinearKeeps': WHATEVER THE INPUT: true; the input reads as it did. -/
def linearKeepsSpec : ChangeSpec := { name := "linearKeeps", fn := fun _ => fun
  | [d1, d2] => { results := [.lit (.bool true)], args := [d1, d2] }
  | _ => none }
def linearKeepsRow : OpenClaim := { program := "ytilgmkhcpmegjaa", sum := "bc9267f24991ab99188d1b1020eb043b36e7514d534ea594d2d4ac8648cb1845", func := "touchstone/touchstonelaw12.LinearKeeps", spec := "linearKeeps", unfollowed := true, recurses := true, apart := false }
def LinearKeepsSaid : Prop := linearKeepsRow.holds Try.pinned (OpenSpec.ofChange linearKeepsSpec)

/-- ITS FALSE NEIGHBOUR: 'it returns false'. Refute it at one input. -/
def linearKeepsWrong : ChangeSpec := { name := "linearKeeps", fn := fun _ => fun
  | [d1, d2] => { results := [.lit (.bool false)], args := [d1, d2] }
  | _ => none }
def LinearKeepsWrongFalsely : Prop := linearKeepsRow.holds Try.pinned (OpenSpec.ofChange linearKeepsWrong)

/-- 'touchstonelaw12.LinearOrder': WHATEVER THE INPUT: true; the input reads as it did. -/
def linearOrderSpec : ChangeSpec := { name := "linearOrder", fn := fun _ => fun
  | [d1, d2, d3] => { results := [.lit (.bool true)], args := [d1, d2, d3] }
  | _ => none }
def linearOrderRow : OpenClaim := { program := "ytilgmkhcpmegjaa", sum := "bc9267f24991ab99188d1b1020eb043b36e7514d534ea594d2d4ac8648cb1845", func := "touchstone/touchstonelaw12.LinearOrder", spec := "linearOrder", unfollowed := true, recurses := true, apart := false }
def LinearOrderSaid : Prop := linearOrderRow.holds Try.pinned (OpenSpec.ofChange linearOrderSpec)

/-- ITS FALSE NEIGHBOUR: 'it returns false'. Refute it at one input. -/
def linearOrderWrong : ChangeSpec := { name := "linearOrder", fn := fun _ => fun
  | [d1, d2, d3] => { results := [.lit (.bool false)], args := [d1, d2, d3] }
  | _ => none }
def LinearOrderWrongFalsely : Prop := linearOrderRow.holds Try.pinned (OpenSpec.ofChange linearOrderWrong)

/-- 'touchstonelaw11.SenseHolds': WHATEVER THE INPUT: true; the input reads as it did. -/
def senseHoldsSpec : ChangeSpec := { name := "senseHolds", fn := fun _ => fun
  | [d1, d2] => { results := [.lit (.bool true)], args := [d1, d2] }
  | _ => none }
def senseHoldsRow : OpenClaim := { program := "ytilgmkhcpmegjaa", sum := "bc9267f24991ab99188d1b1020eb043b36e7514d534ea594d2d4ac8648cb1845", func := "touchstone/touchstonelaw11.SenseHolds", spec := "senseHolds", apart := false }
def SenseHoldsSaid : Prop := senseHoldsRow.holds Try.pinned (OpenSpec.ofChange senseHoldsSpec)

/-- ITS FALSE NEIGHBOUR: 'it returns false'. Refute it at one input. -/
def senseHoldsWrong : ChangeSpec := { name := "senseHolds", fn := fun _ => fun
  | [d1, d2] => { results := [.lit (.bool false)], args := [d1, d2] }
  | _ => none }
def SenseHoldsWrongFalsely : Prop := senseHoldsRow.holds Try.pinned (OpenSpec.ofChange senseHoldsWrong)

/-- 'touchstonelaw11.SenseAll': WHATEVER THE INPUT: true; the input reads as it did. -/
def senseAllSpec : ChangeSpec := { name := "senseAll", fn := fun _ => fun
  | [d1, d2, d3] => { results := [.lit (.bool true)], args := [d1, d2, d3] }
  | _ => none }
def senseAllRow : OpenClaim := { program := "ytilgmkhcpmegjaa", sum := "bc9267f24991ab99188d1b1020eb043b36e7514d534ea594d2d4ac8648cb1845", func := "touchstone/touchstonelaw11.SenseAll", spec := "senseAll", apart := false }
def SenseAllSaid : Prop := senseAllRow.holds Try.pinned (OpenSpec.ofChange senseAllSpec)

/-- ITS FALSE NEIGHBOUR: 'it returns false'. Refute it at one input. -/
def senseAllWrong : ChangeSpec := { name := "senseAll", fn := fun _ => fun
  | [d1, d2, d3] => { results := [.lit (.bool false)], args := [d1, d2, d3] }
  | _ => none }
def SenseAllWrongFalsely : Prop := senseAllRow.holds Try.pinned (OpenSpec.ofChange senseAllWrong)

/- THE SECOND FORM. 'bulk': how many values and letters a reading holds, each counted each time it is reached (what is shared counts as often as it is met; a slice's spare places count too). A statement '..UptoSaid' is the law's where the arguments, and the package variables that the reading takes, are together of bulk at most 1048576: NARROWER than '..Said'. Prove '..Said' where nothing that the law and all that it calls make is longer than what came in: it says more and counts as full. Else prove '..UptoSaid'. A law counts once. -/
mutual
def uptoBulk {H : Type} : DataW H → Nat
  | .lit (.string bytes) => bytes.length + 1
  | .lit _ => 1
  | .nil => 1
  | .ptr d => uptoBulk d + 1
  | .slice elems spare => uptoBulkAll elems + uptoBulkAll spare + 1
  | .agg parts => uptoBulkAll parts + 1
  | .iface _ d => uptoBulk d + 1
  | .map entries => uptoBulkEntries entries + 1
  | .held _ => 1
def uptoBulkAll {H : Type} : List (DataW H) → Nat
  | [] => 0
  | d :: r => uptoBulk d + uptoBulkAll r
def uptoBulkEntries {H : Type} : List (Lit × DataW H) → Nat
  | [] => 0
  | x :: r => uptoBulkEntry x + uptoBulkEntries r
def uptoBulkEntry {H : Type} : Lit × DataW H → Nat
  | (.string bytes, d) => bytes.length + uptoBulk d + 1
  | (_, d) => uptoBulk d + 1
 end
def uptoSmall : (H : Type) → List (DataW H) → Bool := fun _ ds => decide (uptoBulkAll ds ≤ 1048576)
def OpenSpec.upto (s : _root_.Go.ChangeSpec) : _root_.Go.OpenSpec := { _root_.Go.OpenSpec.ofChange s with cond := some uptoSmall }

/-- 'touchstonelaw15.LogicNarrows', WHERE WHAT IT READS IS OF BULK AT MOST 1048576: true; the input reads as it did. -/
def logicNarrowsUptoRow : OpenClaim := { program := "ytilgmkhcpmegjaa", sum := "bc9267f24991ab99188d1b1020eb043b36e7514d534ea594d2d4ac8648cb1845", func := "touchstone/touchstonelaw15.LogicNarrows", spec := "logicNarrows", apart := false, narrowed := true }
def LogicNarrowsUptoSaid : Prop := logicNarrowsUptoRow.holds Try.pinned (OpenSpec.upto logicNarrowsSpec)

/-- 'touchstonelaw15.LogicKeeps', WHERE WHAT IT READS IS OF BULK AT MOST 1048576: true; the input reads as it did. -/
def logicKeepsUptoRow : OpenClaim := { program := "ytilgmkhcpmegjaa", sum := "bc9267f24991ab99188d1b1020eb043b36e7514d534ea594d2d4ac8648cb1845", func := "touchstone/touchstonelaw15.LogicKeeps", spec := "logicKeeps", apart := false, narrowed := true }
def LogicKeepsUptoSaid : Prop := logicKeepsUptoRow.holds Try.pinned (OpenSpec.upto logicKeepsSpec)

/-- 'touchstonelaw15.LogicOrder', WHERE WHAT IT READS IS OF BULK AT MOST 1048576: true; the input reads as it did. -/
def logicOrderUptoRow : OpenClaim := { program := "ytilgmkhcpmegjaa", sum := "bc9267f24991ab99188d1b1020eb043b36e7514d534ea594d2d4ac8648cb1845", func := "touchstone/touchstonelaw15.LogicOrder", spec := "logicOrder", apart := false, narrowed := true }
def LogicOrderUptoSaid : Prop := logicOrderUptoRow.holds Try.pinned (OpenSpec.upto logicOrderSpec)

/-- 'touchstonelaw15.LogicAll', WHERE WHAT IT READS IS OF BULK AT MOST 1048576: true; the input reads as it did. -/
def logicAllUptoRow : OpenClaim := { program := "ytilgmkhcpmegjaa", sum := "bc9267f24991ab99188d1b1020eb043b36e7514d534ea594d2d4ac8648cb1845", func := "touchstone/touchstonelaw15.LogicAll", spec := "logicAll", apart := false, narrowed := true }
def LogicAllUptoSaid : Prop := logicAllUptoRow.holds Try.pinned (OpenSpec.upto logicAllSpec)

/-- 'touchstonelaw15.LogicOther', WHERE WHAT IT READS IS OF BULK AT MOST 1048576: true; the input reads as it did. -/
def logicOtherUptoRow : OpenClaim := { program := "ytilgmkhcpmegjaa", sum := "bc9267f24991ab99188d1b1020eb043b36e7514d534ea594d2d4ac8648cb1845", func := "touchstone/touchstonelaw15.LogicOther", spec := "logicOther", apart := false, narrowed := true }
def LogicOtherUptoSaid : Prop := logicOtherUptoRow.holds Try.pinned (OpenSpec.upto logicOtherSpec)

/-- 'touchstonetop.WholeClause', WHERE WHAT IT READS IS OF BULK AT MOST 1048576: true; the input reads as it did. -/
def wholeClauseUptoRow : OpenClaim := { program := "ytilgmkhcpmegjaa", sum := "bc9267f24991ab99188d1b1020eb043b36e7514d534ea594d2d4ac8648cb1845", func := "touchstone/touchstonetop.WholeClause", spec := "wholeClause", apart := false, narrowed := true }
def WholeClauseUptoSaid : Prop := wholeClauseUptoRow.holds Try.pinned (OpenSpec.upto wholeClauseSpec)

/-- 'touchstonelaw14.ArithNarrows', WHERE WHAT IT READS IS OF BULK AT MOST 1048576: true; the input reads as it did. -/
def arithNarrowsUptoRow : OpenClaim := { program := "ytilgmkhcpmegjaa", sum := "bc9267f24991ab99188d1b1020eb043b36e7514d534ea594d2d4ac8648cb1845", func := "touchstone/touchstonelaw14.ArithNarrows", spec := "arithNarrows", unfollowed := true, recurses := true, apart := false, narrowed := true }
def ArithNarrowsUptoSaid : Prop := arithNarrowsUptoRow.holds Try.pinned (OpenSpec.upto arithNarrowsSpec)

/-- 'touchstonelaw10.TrailActs', WHERE WHAT IT READS IS OF BULK AT MOST 1048576: true; the input reads as it did. -/
def trailActsUptoRow : OpenClaim := { program := "ytilgmkhcpmegjaa", sum := "bc9267f24991ab99188d1b1020eb043b36e7514d534ea594d2d4ac8648cb1845", func := "touchstone/touchstonelaw10.TrailActs", spec := "trailActs", recurses := true, apart := false, narrowed := true }
def TrailActsUptoSaid : Prop := trailActsUptoRow.holds Try.pinned (OpenSpec.upto trailActsSpec)

/-- 'touchstonelaw12.LinearKeeps', WHERE WHAT IT READS IS OF BULK AT MOST 1048576: true; the input reads as it did. -/
def linearKeepsUptoRow : OpenClaim := { program := "ytilgmkhcpmegjaa", sum := "bc9267f24991ab99188d1b1020eb043b36e7514d534ea594d2d4ac8648cb1845", func := "touchstone/touchstonelaw12.LinearKeeps", spec := "linearKeeps", unfollowed := true, recurses := true, apart := false, narrowed := true }
def LinearKeepsUptoSaid : Prop := linearKeepsUptoRow.holds Try.pinned (OpenSpec.upto linearKeepsSpec)

/-- 'touchstonelaw12.LinearOrder', WHERE WHAT IT READS IS OF BULK AT MOST 1048576: true; the input reads as it did. -/
def linearOrderUptoRow : OpenClaim := { program := "ytilgmkhcpmegjaa", sum := "bc9267f24991ab99188d1b1020eb043b36e7514d534ea594d2d4ac8648cb1845", func := "touchstone/touchstonelaw12.LinearOrder", spec := "linearOrder", unfollowed := true, recurses := true, apart := false, narrowed := true }
def LinearOrderUptoSaid : Prop := linearOrderUptoRow.holds Try.pinned (OpenSpec.upto linearOrderSpec)

/-- 'touchstonelaw11.SenseHolds', WHERE WHAT IT READS IS OF BULK AT MOST 1048576: true; the input reads as it did. -/
def senseHoldsUptoRow : OpenClaim := { program := "ytilgmkhcpmegjaa", sum := "bc9267f24991ab99188d1b1020eb043b36e7514d534ea594d2d4ac8648cb1845", func := "touchstone/touchstonelaw11.SenseHolds", spec := "senseHolds", apart := false, narrowed := true }
def SenseHoldsUptoSaid : Prop := senseHoldsUptoRow.holds Try.pinned (OpenSpec.upto senseHoldsSpec)

/-- 'touchstonelaw11.SenseAll', WHERE WHAT IT READS IS OF BULK AT MOST 1048576: true; the input reads as it did. -/
def senseAllUptoRow : OpenClaim := { program := "ytilgmkhcpmegjaa", sum := "bc9267f24991ab99188d1b1020eb043b36e7514d534ea594d2d4ac8648cb1845", func := "touchstone/touchstonelaw11.SenseAll", spec := "senseAll", apart := false, narrowed := true }
def SenseAllUptoSaid : Prop := senseAllUptoRow.holds Try.pinned (OpenSpec.upto senseAllSpec)

end Rows
end Go.Proofs.Ytilgmkhcpmegjaa
