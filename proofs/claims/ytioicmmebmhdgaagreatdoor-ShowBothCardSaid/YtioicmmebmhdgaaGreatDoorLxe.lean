/- The library's range error is there when the call begins. -/
import Derived.Test.YtioicmmebmhdgaaGreatDoorLxp
import Derived.LaidMore
import Derived.LaidLaws
import Derived.FnData
namespace Go.Proofs.YtioicmmebmhdgaaGreatDoor.Lex
open Go.RowKit
set_option linter.unusedVariables false
theorem laid_mem {P : Program} {w : World} {n : String} {d : DataW Unit} : ∀ {l : List (String × DataW Unit)} {ps : List MemPlace}, DataW.LaidVars P w l ps → (n, d) ∈ l →
    ∃ g t cs fuel p, P.globalNamed n = some g ∧ (P.globals[g]?).map (·.type) = some t ∧ w.var? P n = some cs ∧ DataW.trod (fun _ => ()) P w 0 (fun _ => true) false fuel t cs.toList = some (d, p)
  | [], _, _, hm => by simp at hm
  | (m, x) :: r, ps, ⟨g, t, cs, fuel, p, q, h1, h2, h3, h4, hs, _⟩, hm => by
    rcases List.mem_cons.1 hm with e | hm
    · injection e with e1 e2
      subst e1 e2
      exact ⟨g, t, cs, fuel, p, h1, h2, h3, h4⟩
    · exact laid_mem hs hm
theorem err_global : Tryz.prog.globalNamed "strconv.ErrRange" = some 1 := by kernel_rfl
theorem err_type : (Tryz.prog.globals[(1 : Nat)]?).map (·.type) = some 78 := by kernel_rfl
theorem err_of {w : World} {l : List (String × DataW Unit)} (h : laidMetH Tryz.prog l w) (hp : (l.filter fun x => x.2.handleName?.isSome) = []) {nm : String} {d : DataW Unit} (hm : ("strconv.ErrRange", .iface nm d) ∈ l) : ErrIn w := by
  unfold laidMetH at h
  rw [hp] at h
  obtain ⟨ps, h1, _⟩ := h
  obtain ⟨g, t, cs, fuel, p, hg, ht, hv, hd⟩ := laid_mem h1 hm
  obtain rfl := Option.some.inj (err_global.symm.trans hg)
  obtain rfl := Option.some.inj (err_type.symm.trans ht)
  obtain ⟨f1, u, v, hcs, hn, h2⟩ := iface_of_trod Tryz.underlying78 hd
  refine ⟨.iface u v, ?_, .inr ⟨u, v, rfl⟩⟩
  rw [World.var?_cell hg hv 0, ← Array.getElem?_toList, hcs]
  rfl
end Go.Proofs.YtioicmmebmhdgaaGreatDoor.Lex
