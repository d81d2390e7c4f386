/- Layer 11 (sense), pure: a list moved place by place. -/
import Derived.Test.YtakfabaocgbbmaaKf
import Derived.Test.YtakfabaocgbbmaaUwm
namespace Go.Proofs.Ytakfabaocgbbmaa.Sn
set_option linter.unusedVariables false
open Go.RowKit
open Dig Lx Tk Ti Zs Tr
section
set_option linter.unusedVariables false
open Zs
theorem differ_nodup (v:List Int):differ v=true↔v.Pairwise (· ≠ ·):=by
 rw[differ,allI_iff,List.pairwise_iff_getElem]
 have e2:∀ i (hi:i<v.length),v.getD i 0=v[i]:=fun i hi=>by simp[List.getD,hi]
 constructor
 · intro h i j hi hj hij e
   have:=h j hj
   rw[e2 j hj,Bool.not_eq_true',← Bool.not_eq_true,List.contains_iff_mem] at this
   exact this (e ▸ List.mem_take_iff_getElem.2 ⟨i,by omega,rfl⟩)
 · intro h j hj
   rw[e2 j hj,Bool.not_eq_true',← Bool.not_eq_true,List.contains_iff_mem]
   intro hm
   obtain⟨i,hi,e⟩:=List.mem_take_iff_getElem.1 hm
   exact h i j (by omega) hj (by omega) e
section
open Go.RowKit
set_option linter.unusedVariables false
set_option linter.unusedSimpArgs false
open Dig Lx Tk Ti Zs Tr
def Rz (e:TypeId) (n:Nat) (w:World) (v:Value) (xs:List Int):Prop:=∃ cs,w.ownsRow n e 1 v xs.length cs∧Rws 1 QI0 xs cs
theorem Rz.of {e:TypeId} {w1 w:World} {v:Value} {xs:List Int} (h:Rq e QI0 w1 w v xs):Rz e w1.heap.size w v xs:=by
 obtain⟨cs,h1,h2,-⟩:=h
 exact⟨cs,h1,h2⟩
theorem Rz.set {e:TypeId} {n:Nat} {w:World} {v:Value} {xs:List Int} (h:Rz e n w v xs) {a:Addr} (ha:a.block<n) (u:Value):Rz e n (w.setCell a u) v xs:=by
 obtain⟨cs,h1,h2⟩:=h
 exact⟨cs,ownsRow_setCell_below h1 ha u,h2⟩
theorem Rz.since {e:TypeId} {n:Nat} {w w':World} {v:Value} {xs:List Int} (h:Rz e n w v xs) (k:Since w w'):Rz e n w' v xs:=by
 obtain⟨cs,h1,h2⟩:=h
 exact⟨cs,owns_since h1 k,h2⟩
theorem Rz.sl {e:TypeId} {n:Nat} {w:World} {v:Value} {xs:List Int} (h:Rz e n w v xs):Sl 1 QI w v xs:=by
 obtain⟨cs,h1,h2⟩:=h
 have:Sl 1 (fun _=>QI0) w v xs:=Sl.own h1 h2 rfl
 exact this
def Rb (w0 w:World) (v:Value) (xs:List Int):Prop:=∃ b1,Since w0 b1∧Rq 2 QI0 b1 w v xs
theorem Rb.since {w0 w w':World} {v:Value} {xs:List Int} (h:Rb w0 w v xs) (k:Since w w'):Rb w0 w' v xs:=by
 obtain⟨b1,h1,h2⟩:=h
 exact⟨b1,h1,h2.since k⟩
end
end
end Go.Proofs.Ytakfabaocgbbmaa.Sn
