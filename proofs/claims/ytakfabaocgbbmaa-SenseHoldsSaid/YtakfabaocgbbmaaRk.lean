/- A region that draws its order: an operation is taken first; what can be decided of it, is decided. -/
import Derived.Test.YtakfabaocgbbmaaReg
namespace Go.Proofs.Ytakfabaocgbbmaa.Reg
open Go
section
variable {P : Program} {ops : Array Oper} {Q : Exit → Act → World → Prop} {md : Region.Mode} {S : World → Prop} {late : Nat → Bool}
theorem tk {i : Nat} {oi : Oper} {v : Value} {fuel : Nat} {listed : Array Bool} {a : Act} {w : World} (B L : List Nat) (ht : Tame P ops S oi v a w)
    (h : wpG P md ops Q S late fuel (listed.setIfInBounds i true) (a.put oi.dst v) w)
    (hlate : late = fun j => L.contains j := by rfl) (hi : ops[i]? = some oi := by rfl) (hs : Region.noSelect ops = true := by kernel_rfl)
    (hf : Region.free md ops listed i = true := by kernel_rfl) (hr : (Region.ready md ops listed).contains i = true := by kernel_rfl) (hw : waits md ops i B = true := by kernel_rfl) (hL : (L.all fun j => B.contains j) = true := by kernel_rfl) (hli : L.contains i = false := by kernel_rfl)
    (hun : (B.all fun j => !listed.getD j false) = true := by kernel_rfl) (hQ : ∀ c a w, Q (.panic c) (a.put oi.dst v) w → Q (.panic c) a w := by exact fun _ _ _ h => h) : wpG P md ops Q S late (fuel + 1) listed a w :=
  wpG_take B L hlate hi hs hf hr hw hL hli hun hQ ht h
end
end Go.Proofs.Ytakfabaocgbbmaa.Reg
