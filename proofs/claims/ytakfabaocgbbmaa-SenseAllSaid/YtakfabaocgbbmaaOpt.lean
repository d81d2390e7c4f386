/- A slice of tokens that came in reads as a list of tokens. -/
import Derived.ChangeSame
import Derived.Deep.Fields
import Derived.Deep.Slices
import Derived.OpenShut
import Derived.Test.YtakfabaocgbbmaaTk
namespace Go.Proofs.Ytakfabaocgbbmaa.Tk
open Go.RowKit Go.ChangeShapes Go.WideShapes Go.Deep
set_option linter.unusedVariables false
section
variable {H:Type} {enc:TypeId × Value→H} {P:Program} {w:World} {base:Nat} {spare:Nat→Bool} {held:Bool}
theorem list_of {α:Type} (d:α) {p:Nat→α→Prop} : ∀ n,(∀ i,i<n→∃ x,p i x)→∃ l:List α,l.length=n∧∀ i,i<n→p i (l.getD i d)
 | 0,_=>⟨[],rfl,fun i h=>by omega⟩
 | n+1,h=>by
  obtain⟨l,hl,hp⟩:=list_of d n (fun i hi=>h i (by omega))
  obtain⟨x,hx⟩:=h n (by omega)
  refine⟨l ++ [x],by simp[hl],fun i hi => ?_⟩
  by_cases hin:i<n
  · have e:(l ++ [x]).getD i d=l.getD i d:=by simp[List.getD,List.getElem?_append_left (show i<l.length by omega)]
    rw[e]; exact hp i hin
  · obtain rfl:i=n:=by omega
    have e:(l ++ [x]).getD i d=x:=by simp[List.getD,← hl]
    rw[e]; exact hx
end
end Go.Proofs.Ytakfabaocgbbmaa.Tk
