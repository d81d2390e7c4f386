/- An append of tokens, none of them too, to a row of the call's own, behind a guard that says yes. No code is sp -/
import Derived.BigFrame
import Derived.Laws.AppendOwn
import Derived.Test.YtakfabaocgbbmaaTk
set_option linter.unusedVariables false
set_option linter.unusedSimpArgs false
section
namespace Go.Proofs.Ytakfabaocgbbmaa.Tk
open Go.RowKit
theorem Toks.cells {w:World} {b o m c:Nat} {ts:List Tv} (h:Toks w (.slice (some ⟨b,o,none⟩) m c) ts):∀ j u,(tcells ts)[j]?=some u→w.cell? ((⟨b,o,none⟩:Addr).add j)=some u:=by
 intro j u hj
 rw[add_at]
 have hl:j<(tcells ts).length:=by
  apply Decidable.byContradiction; intro hn
  rw[List.getElem?_eq_none (by omega)] at hj; cases hj
 rw[tcells_len] at hl
 obtain⟨b',o',e,h1,h2,h3,h4⟩:=h.el (i:=j / 4) (by omega)
 injection e with e
 injection e with e1 e2
 subst e1 e2
 have ej:j=j / 4*4+j % 4:=by omega
 have hg:=tcells_get ts (j / 4) (j % 4) (by omega) (by omega)
 rw[← ej] at hg
 rw[hg] at hj
 have hr:j % 4=0∨j % 4=1∨j % 4=2∨j % 4=3:=by omega
 rcases hr with hr | hr | hr | hr <;> rw[hr] at hj ej <;> injection hj with hj <;> subst hj
 · rw[show o+j=o+j / 4*4 by omega]; exact h1
 · rw[show o+j=o+j / 4*4+1 by omega]; exact h2
 · rw[show o+j=o+j / 4*4+2 by omega]; exact h3
 · rw[show o+j=o+j / 4*4+3 by omega]; exact h4
end Go.Proofs.Ytakfabaocgbbmaa.Tk
end
section
namespace Go.Proofs.Ytakfabaocgbbmaa.Zs
abbrev Rn:=Int × Int
abbrev mx:Int:=1048576
def okF:Int→List Rn→Bool
 | _,[]=>true
 | b,r :: l=>decide (b≤r.1) && decide (r.1≤r.2) && decide (r.2≤mx) && okF (r.2+2) l
def right (l:List Rn):Bool:=okF (-mx) l
def mem:List Rn→Int→Prop
 | [],_=>False
 | r :: l,v=>(r.1≤v∧v≤r.2)∨mem l v
theorem okF_cons {b:Int} {r:Rn} {l:List Rn} : okF b (r :: l)=true↔b≤r.1∧r.1≤r.2∧r.2≤mx∧okF (r.2+2) l=true:=by
 simp only[okF,Bool.and_eq_true,decide_eq_true_eq,and_assoc]
theorem mem_ge {b:Int} {l:List Rn} (h:okF b l=true) {v:Int} (hv:mem l v):b≤v∧v≤mx:=by
 induction l generalizing b with
 | nil=>exact hv.elim
 | cons r l ih =>
  rw[okF_cons] at h
  rcases hv with hv | hv
  · omega
  · have:=ih h.2.2.2 hv; omega
theorem mem_append {a c:List Rn} {v:Int} : mem (a++c) v↔mem a v∨mem c v:=by
 induction a with
 | nil=>simp[mem]
 | cons r l ih=>simp[mem,ih,or_assoc]
def within (n:Int):Bool:=decide (-mx≤n) && decide (n≤mx)
def full (l:List Rn):Prop:=∀ r ∈ l,r.1≤r.2 ∧ -mx≤r.1∧r.2≤mx
section
def nextF:List Rn→Int→Option Int
 | [],_=>none
 | r :: l,v=>if v≤r.2 then some (max v r.1) else nextF l v
def next (d:List Rn) (v:Int):Option Int:=if right d then nextF d v else none
def hasF:List Rn→Int→Bool
 | [],_=>false
 | r :: l,v=>(decide (r.1≤v) && decide (v≤r.2)) || hasF l v
def has (d:List Rn) (v:Int):Bool:=right d && hasF d v
theorem hasF_iff {d:List Rn} {v:Int} : hasF d v=true↔mem d v:=by
 induction d with
 | nil=>simp[hasF,mem]
 | cons r l ih=>simp[hasF,mem,ih]
theorem nextF_has {d:List Rn} {b:Int} (h:okF b d=true) (v:Int):(nextF d v=some v↔mem d v):=by
 induction d generalizing b with
 | nil=>simp[nextF,mem]
 | cons r l ih =>
  rw[okF_cons] at h
  rw[nextF,mem]
  split
  · rw[Option.some.injEq]
    constructor
    · intro h; exact .inl (by omega)
    · rintro (h | h')
      · omega
      · have:=mem_ge h.2.2.2 h'; omega
  · rw[ih h.2.2.2]
    constructor
    · exact .inr
    · rintro (h | h)
      · omega
      · exact h
theorem has_next (d:List Rn) (v:Int):has d v=decide (next d v=some v):=by
 unfold has next
 cases h:right d with
 | false=>simp
 | true =>
  have:=nextF_has h v
  rw[← hasF_iff] at this
  cases hh:hasF d v <;> simp_all
def sizeF:List Rn→Int
 | []=>0
 | r :: l=>(r.2 - r.1+1)+sizeF l
def size (d:List Rn):Int:=if right d then sizeF d else 0
def ends (d:List Rn):Option Rn:=if right d then (match d.head?,d.getLast? with | some a,some z=>some (a.1,z.2) | _,_=>none) else none
def one (lo hi:Int):List Rn:=if lo≤hi then [(lo,hi)] else []
def same (a c:List Rn):Bool:=right a && decide (a=c)
theorem full_right {b:Int} {l:List Rn} (h:okF b l=true) (hb : -mx≤b):full l:=by
 induction l generalizing b with
 | nil=>intro r hr; cases hr
 | cons r l ih =>
  rw[okF_cons] at h
  intro s hs
  rcases List.mem_cons.1 hs with rfl | hs
  · omega
  · exact ih h.2.2.2 (by omega) s hs
end
end Go.Proofs.Ytakfabaocgbbmaa.Zs
end
