/- Layer 7 (show): a text made of tokens with blanks between them splits into these tokens. No code is spoken of. -/
import Derived.Lib.ItoaNum
import Derived.Test.YtjmmcnldfkjebaaGreatDoorVp
namespace Go.Proofs.YtjmmcnldfkjebaaGreatDoor.Sh
set_option linter.unusedVariables false
set_option linter.unusedSimpArgs false
open Dig Lx Tk Ps
/-! one token -/
def Tok1 (w:Bs):Prop:=(word w).1≠0∧(word w).2=w.length∧((word w).1=2→fits (intD w))
def tokw (w:Bs):Tok:=⟨(word w).1,w,if (word w).1=2 then intD w else 0,0⟩
def glue (w:Bs) (c:UInt8):Bool:=if (word w).1=3 then !(w == [58] && c.toNat == 58) else !wordB c
theorem Tok1.ne {w:Bs} (h:Tok1 w):w ≠ []:=by rintro rfl; exact h.1 rfl
theorem glue_word {w:Bs} {c:UInt8} (h:Tok1 w) (hg:glue w c=true) (r:Bs):word (w++c :: r)=word w:=by
 obtain⟨h1,h2,-⟩:=h
 cases w with
 | nil=>exact absurd rfl h1
 | cons a t =>
  unfold glue at hg
  by_cases a1:letterB a=true
  · have e:word (a :: t)=(1,1+run wordB t):=by simp only[word,if_pos a1]
    rw[e] at hg
    simp only at hg
    have hc:wordB c=false:=by simpa using hg
    simp only[List.cons_append,word,if_pos a1,run_sep hc]
  by_cases a2:digB a=true
  · have e:word (a :: t)=(2,1+run digB t):=by simp only[word,if_neg a1,if_pos a2]
    rw[e] at hg
    simp only at hg
    have hc:wordB c=false:=by simpa using hg
    simp only[List.cons_append,word,if_neg a1,if_pos a2,run_sep (digB_word hc)]
  by_cases a3:a.toNat=45∧0<run digB t
  · have e:word (a :: t)=(2,1+run digB t):=by simp only[word,if_neg a1,if_neg a2,if_pos a3]
    rw[e] at hg
    simp only at hg
    have hc:wordB c=false:=by simpa using hg
    have a3':a.toNat=45∧0<run digB (t++c :: r):=by rw[run_sep (digB_word hc)]; exact a3
    simp only[List.cons_append,word,if_neg a1,if_neg a2,if_pos a3,if_pos a3',run_sep (digB_word hc)]
  by_cases a4:(a.toNat=58∨a.toNat=46)∧t.head?=some a
  · have a3':¬ (a.toNat=45∧0<run digB (t++c :: r)):=by rintro⟨h5,-⟩; rcases a4.1 with h6 | h6 <;> omega
    have a4':(a.toNat=58∨a.toNat=46)∧(t++c :: r).head?=some a:=by
     refine⟨a4.1,?_⟩
     cases t with
     | nil=>simp at a4
     | cons x t=>simpa using a4.2
    simp only[List.cons_append,word,if_neg a1,if_neg a2,if_neg a3,if_neg a3',if_pos a4,if_pos a4']
  by_cases a5:signB a=true
  · have e:word (a :: t)=(3,1):=by simp only[word,if_neg a1,if_neg a2,if_neg a3,if_neg a4,if_pos a5]
    rw[e] at hg h2
    have ht:t = []:=by
     simp only[List.length_cons] at h2
     exact List.eq_nil_of_length_eq_zero (by omega)
    subst ht
    have a3':¬ (a.toNat=45∧0<run digB ([]++c :: r)):=by
     rintro⟨h5,-⟩
     simp only[signB,decide_eq_true_eq] at a5
     omega
    have a4':¬ ((a.toNat=58∨a.toNat=46)∧([]++c :: r:Bs).head?=some a):=by
     rintro⟨h5,h6⟩
     simp only[List.nil_append,List.head?_cons,Option.some.injEq] at h6
     subst h6
     simp only[signB,decide_eq_true_eq] at a5
     have h58:c.toNat=58:=by omega
     have hc:c=58:=UInt8.toNat_inj.1 h58
     subst hc
     simp at hg
    simp only[List.cons_append,word,if_neg a1,if_neg a2,if_neg a3',if_neg a4',if_neg a3,if_neg a4,if_pos a5]
  · exfalso; apply h1
    simp only[word,if_neg a1,if_neg a2,if_neg a3,if_neg a4,if_neg a5]
/-! some,with what is blank behind each -/
abbrev Pcs:=List (Bs × Bs)
def flat:Pcs→Bs
 | [] => []
 | (w,b) :: r=>w++(b++flat r)
theorem flat_append:∀ a b:Pcs,flat (a++b)=flat a++flat b
 | [],b=>rfl
 | (w,c) :: r,b=>by simp only[List.cons_append,flat,flat_append r b,List.append_assoc]
def white (b:Bs):Bool:=b.all whiteB
def headOk (w:Bs):Bs→Bool
 | []=>true
 | c :: _=>glue w c
def Fit:Pcs→Prop
 | []=>True
 | (w,b) :: r=>Tok1 w∧white b=true∧headOk w (b++flat r)=true∧Fit r
theorem blk_white:∀ (b x:Bs),white b=true→blk false (b++x)=b.length+blk false x
 | [],x,_=>by simp
 | c :: t,x,h=>by
  simp only[white,List.all_cons,Bool.and_eq_true] at h
  have ih:=blk_white t x h.2
  have hc:¬ c.toNat=37:=by have:=h.1; simp only[whiteB,decide_eq_true_eq] at this; omega
  simp only[List.cons_append,blk,if_neg hc,h.1,if_true,ih,List.length_cons]
  omega
theorem Fit.word {w b:Bs} {r:Pcs} (h:Fit ((w,b) :: r)):word (w++(b++flat r))=Lx.word w:=by
 obtain⟨h1,-,h3,-⟩:=h
 cases hx:b++flat r with
 | nil=>rw[List.append_nil]
 | cons c y =>
  rw[hx] at h3
  exact glue_word h1 h3 y
theorem Fit.front:∀ {ps:Pcs},Fit ps→blk false (flat ps)=0
 | [],_=>rfl
 | (w,b) :: r,h=>by
  have e:=h.word
  exact word_blk (by show (Lx.word (w++(b++flat r))).1≠0; rw[e]; exact h.1.1)
theorem lexes_flat:∀ (ps:Pcs) (i:Nat),Fit ps→∃ us,Lexes (flat ps) i us∧us.map noAt=ps.map fun p=>tokw p.1
 | [],i,_=>⟨[],.done i,rfl⟩
 | (w,b) :: r,i,h=>by
  have e:=h.word
  have hl:(Lx.word w).2=w.length:=h.1.2.1
  have et:(w++(b++flat r)).take (Lx.word w).2=w:=by rw[hl]; exact List.take_left
  have ed:(w++(b++flat r)).drop (Lx.word w).2=b++flat r:=by rw[hl]; exact List.drop_left
  have en:Lx.next (w++(b++flat r))=w.length+b.length:=by
   rw[next,e,ed,blk_white b _ h.2.1,Fit.front h.2.2.2,hl]; omega
  obtain⟨us,h1,h2⟩:=lexes_flat r (i+Lx.next (w++(b++flat r))) h.2.2.2
  refine⟨tokD (w++(b++flat r)) i :: us,?_,?_⟩
  · show Lexes (w++(b++flat r)) i _
    refine .tok (by rw[e]; exact h.1.1) (by rw[e,et]; exact h.1.2.2) ?_
    rw[show (w++(b++flat r)).drop (Lx.next (w++(b++flat r)))=flat r by rw[en,← List.drop_drop,List.drop_left,List.drop_left]]
    exact h1
  · simp only[List.map_cons,h2,noAt,tokD,tokw,e,et]
/-! numbers -/
open Go.Lib (itoa decDigits)
theorem undec_digits:∀ u:Nat,undec (decDigits u)=u∧run digB (decDigits u)=(decDigits u).length∧decDigits u ≠ []:=by
 intro u
 induction u using Nat.strongRecOn with
 | _ u ih =>
  by_cases h:u<10
  · rw[decDigits,dif_pos h]
    have e:(UInt8.ofNat (48+u)).toNat=48+u:=by rw[UInt8.toNat_ofNat']; omega
    refine⟨?_,?_,by simp⟩
    · simp[undec,e]; omega
    · simp only[run,digB,e]
      rw[if_pos (by simp; omega)]; rfl
  · rw[decDigits,dif_neg h]
    obtain⟨h1,h2,h3⟩:=ih (u / 10) (by omega)
    have e:(UInt8.ofNat (48+u % 10)).toNat=48+u % 10:=by rw[UInt8.toNat_ofNat']; omega
    refine⟨by rw[undec_snoc,h1,e]; omega,?_,by simp⟩
    have run_all:∀ (l:Bs) (c:UInt8),run digB l=l.length→digB c=true→run digB (l ++ [c])=(l ++ [c]).length:=by
     intro l c
     induction l with
     | nil=>intro _ hc; simp[run,hc]
     | cons a t ih2 =>
      intro hl hc
      simp only[run,List.length_cons] at hl
      by_cases ha:digB a=true
      · rw[if_pos ha] at hl
        have:=ih2 (by omega) hc
        simp only[List.cons_append,run,if_pos ha,this,List.length_cons]
        omega
      · rw[if_neg ha] at hl; omega
    exact run_all _ _ h2 (by simp only[digB,e]; simp; omega)
theorem digits_head (u:Nat):∃ a t,decDigits u=a :: t∧digB a=true∧letterB a=false∧a.toNat≠45∧run digB t=t.length:=by
 obtain⟨-,h2,h3⟩:=undec_digits u
 cases hd:decDigits u with
 | nil=>exact absurd hd h3
 | cons a t =>
  rw[hd] at h2
  simp only[run,List.length_cons] at h2
  by_cases ha:digB a=true
  · rw[if_pos ha] at h2
    refine⟨a,t,rfl,ha,?_,?_,by omega⟩
    · simp only[digB,decide_eq_true_eq] at ha
      simp only[letterB,Bool.or_eq_false_iff,decide_eq_false_iff_not]; omega
    · simp only[digB,decide_eq_true_eq] at ha; omega
  · rw[if_neg ha] at h2; omega
theorem itoa_word (v:Int):word (itoa v)=(2,(itoa v).length)∧intD (itoa v)=v:=by
 unfold itoa
 by_cases h:v<0
 · rw[if_pos h]
   obtain⟨a,t,hd,h1,h2,h3,h4⟩:=digits_head v.natAbs
   obtain⟨hu,hr,-⟩:=undec_digits v.natAbs
   have l1:¬ letterB 45=true:=by decide
   have l2:¬ digB 45=true:=by decide
   have l3:(45:UInt8).toNat=45∧0<(decDigits v.natAbs).length:=⟨rfl,by rw[hd]; simp⟩
   refine⟨?_,?_⟩
   · simp only[word,if_neg l1,if_neg l2,hr,List.length_cons]
     rw[if_pos l3,Nat.add_comm]
   · simp only[intD,List.head?_cons,if_true,List.tail_cons,hu]
     omega
 · rw[if_neg h]
   obtain⟨a,t,hd,h1,h2,h3,h4⟩:=digits_head v.toNat
   obtain⟨hu,hr,-⟩:=undec_digits v.toNat
   have l1:¬ letterB a=true:=by rw[h2]; simp
   refine⟨?_,?_⟩
   · rw[hd]
     simp only[word,if_neg l1,if_pos h1,h4,List.length_cons]
     rw[Nat.add_comm]
   · have hh:¬ ((decDigits v.toNat).head?=some 45):=by
      rw[hd]; simp only[List.head?_cons,Option.some.injEq]; rintro rfl; exact h3 rfl
     simp only[intD,if_neg hh,hu]
     omega
theorem tok1_num {v:Int} (h:fits v):Tok1 (itoa v):=by
 obtain⟨h1,h2⟩:=itoa_word v
 exact⟨by rw[h1]; simp,by rw[h1],fun _=>by rw[h2]; exact h⟩
theorem tokw_num (v:Int):tokw (itoa v)=⟨2,itoa v,v,0⟩:=by
 obtain⟨h1,h2⟩:=itoa_word v
 simp only[tokw,h1,if_true,h2]
end Go.Proofs.YtjmmcnldfkjebaaGreatDoor.Sh
namespace Go.Proofs.YtjmmcnldfkjebaaGreatDoor.Sh
set_option linter.unusedVariables false
set_option linter.unusedSimpArgs false
open Dig Lx Tk Ps
open Go.Lib (itoa)
/-! what may be -/
def NameOk (s:ByteArray):Prop:=(word (L s)).1=1∧(word (L s)).2=(L s).length∧keywords.contains (L s)=false
def WfP (p:Pl):Prop:=(p.k=1∧p.s=nos∧fits p.n)∨(p.k=2∧p.s=nos∧(p.n=0∨p.n=1))∨(p.k=3∧p.n=0∧NameOk p.s)
def WfX (x:Xp):Prop:=(WfP ⟨x.k,x.n,x.s⟩∧x.l = [])∨(x.k=4∧x.n=0∧x.s=nos∧x.l.length≤64∧∀ p ∈ x.l,WfP p)
def WfD (d:List (Int × Int)):Prop:=(∃ lo hi,d = [(lo,hi)]∧fits lo∧fits hi)∨(2≤d.length∧d.length≤256∧∀ x ∈ d,x.2=x.1∧fits x.1)
def WfI (x:It):Prop:=
 (x.kind=1∧NameOk x.name∧x.dom = []∧x.size=0∧x.out=false∧x.ask=0∧∃ p:Pl,x.vals = [p.xp]∧WfP p∧p.k=(if x.bool=true then 2 else 1)) ∨
 (x.kind=2∧NameOk x.name∧x.size=0∧x.ask=0∧(if x.bool=true then x.dom = [] else WfD x.dom)∧(x.vals = []∨∃ p:Pl,x.vals = [p.xp]∧WfP p)) ∨
 ((x.kind=3∧x.out=false∨x.kind=4)∧NameOk x.name∧x.dom = []∧x.ask=0∧fits x.size∧∃ l:List Pl,x.vals=l.map Pl.xp∧l.length≤64∧∀ p ∈ l,WfP p) ∨
 (x.kind=5∧NameOk x.name∧x.bool=false∧x.dom = []∧x.size=0∧x.out=false∧x.ask=0∧x.vals.length≤64∧∀ y ∈ x.vals,WfX y) ∨
 (x.kind=6∧x.bool=false∧x.dom = []∧x.size=0∧x.out=false∧x.vals = []∧((x.ask=0∧x.name=nos)∨((x.ask=1∨x.ask=2)∧NameOk x.name)))
/-! the text -/
def plainW (p:Pl):Bs:=if p.k=1 then itoa p.n else if p.k=2 then (if p.n=1 then [116,114,117,101] else [102,97,108,115,101]) else L p.s
def sp:Bs:=[32]
def seps:List Pcs→Pcs
 | [] => []
 | [w]=>w
 | w :: v :: r=>w++([44],sp) :: seps (v :: r)
def one1 (w:Bs):Pcs:=[(w,[])]
def listP (l:List Pl):Pcs:=seps (l.map fun p=>one1 (plainW p))
def exprP (x:Xp):Pcs:=if x.k=4 then ([91],[]) :: listP x.l ++ [([93],[])] else one1 (plainW ⟨x.k,x.n,x.s⟩)
def kindW (b:Bool):Bs:=if b=true then [98,111,111,108] else [105,110,116]
def domP (b:Bool) (d:List (Int × Int)):Pcs:=
 if b=true then one1 [98,111,111,108] else match d with
  | [(lo,hi)] => [(itoa lo,[]),([46,46],[]),(itoa hi,[])]
  | d=>([123],[]) :: seps (d.map fun x=>one1 (itoa x.1)) ++ [([125],[])]
def sizeP (m:Int):Pcs:=[([91],[]),(itoa 1,[]),([46,46],[]),(itoa m,[])]
def itemP (x:It):Pcs:=
 if x.kind=1 then [(kindW x.bool,[]),([58],sp),(L x.name,sp),([61],sp)]++seps (x.vals.map exprP) ++ [([59],[])]
 else if x.kind=2 then ([118,97,114],sp) :: domP x.bool x.dom ++ [([58],sp),(L x.name,if x.out=true∨x.vals ≠ [] then sp else [])] ++
  (if x.out=true then [([58,58],sp),([111,117,116,112,117,116,95,118,97,114],if x.vals ≠ [] then sp else [])] else [])++(if x.vals = [] then [] else ([61],sp) :: seps (x.vals.map exprP)) ++ [([59],[])]
 else if x.kind=3∨x.kind=4 then ([97,114,114,97,121],sp) :: sizeP x.size ++ [([93],sp),([111,102],sp)]++(if x.kind=4 then [([118,97,114],sp)] else []) ++ [(kindW x.bool,[]),([58],sp),(L x.name,sp)] ++
  (if x.out=true then [([58,58],sp),([111,117,116,112,117,116,95,97,114,114,97,121],[]),([40],[])]++sizeP x.size ++ [([93],[]),([41],sp)] else []) ++ [([61],sp),([91],[])]++seps (x.vals.map exprP) ++ [([93],[]),([59],[])]
 else if x.kind=5 then [([99,111,110,115,116,114,97,105,110,116],sp),(L x.name,[]),([40],[])]++seps (x.vals.map exprP) ++ [([41],[]),([59],[])]
 else if x.ask=0 then [([115,111,108,118,101],sp),([115,97,116,105,115,102,121],[]),([59],[])]
 else [([115,111,108,118,101],sp),(if x.ask=1 then [109,105,110,105,109,105,122,101] else [109,97,120,105,109,105,122,101],sp),(L x.name,[]),([59],[])]
/-! tokens -/
def tk (w:Bs):Tv:=tv (tokw w)
def tks (ps:Pcs):Ts:=ps.map fun p=>tk p.1
theorem tks_append (a b:Pcs):tks (a++b)=tks a++tks b:=by simp[tks]
theorem L_tk (w:Bs):L (tk w).s=w:=L_mk w
theorem k_tk (w:Bs):(tk w).k=((word w).1:Int):=rfl
theorem s_tk (s:ByteArray):(tk (L s)).s=s:=L_inj (L_mk _)
theorem isW_tk (c w:Bs) (r:Ts):isW c (tk w :: r)=(w == c):=by simp only[isW,L_tk]
theorem take_tk {c:Bs} {n:Int} {r:Ts} : take c n (tk c :: r) = .ok () r:=by simp[take,alt,isW_tk,ret]
theorem name_tk {s:ByteArray} (h:NameOk s) {n:Int} {r:Ts} : name n (tk (L s) :: r) = .ok s r:=by
 have hb:nameB (tk (L s))=true:=by simp only[nameB,k_tk,h.1,L_tk,h.2.2]; rfl
 simp only[name,hb,if_true,s_tk]
theorem int_tk {v:Int} {n:Int} {r:Ts} : integer n (tk (itoa v) :: r) = .ok v r:=by
 have e:tk (itoa v)=⟨2,⟨(itoa v).toArray⟩,v,0⟩:=by rw[tk,tokw_num]; rfl
 simp only[integer,e,if_true]
theorem exact_tk {v:Int} {n:Int} {r:Ts} : exact v n (tk (itoa v) :: r) = .ok () r:=by
 have e:tk (itoa v)=⟨2,⟨(itoa v).toArray⟩,v,0⟩:=by rw[tk,tokw_num]; rfl
 simp only[exact,e,and_self,if_true]
theorem itoa_ne {v:Int} {c:Bs} (h:(word c).1≠2):itoa v≠c:=by
 rintro rfl; exact h (by rw[(itoa_word v).1])
theorem itoa_nb {v:Int} {c:Bs} (h:(word c).1≠2):(itoa v == c)=false:=by rw[beq_eq_false_iff_ne]; exact itoa_ne h
theorem name_nb {s:ByteArray} (h:NameOk s) {c:Bs} (hc:(word c).1≠1∨keywords.contains c=true):(L s == c)=false:=by
 rw[beq_eq_false_iff_ne]
 rintro rfl
 rcases hc with hc | hc
 · exact hc h.1
 · rw[h.2.2] at hc; exact Bool.false_ne_true hc
theorem plain_tk {p:Pl} (h:WfP p) {n:Int} {r:Ts} : plain n (tk (plainW p) :: r) = .ok p r:=by
 obtain⟨k,m,s⟩:=p
 rcases h with ⟨h1,h2,h3⟩ | ⟨h1,h2,h3⟩ | ⟨h1,h2,h3⟩
 · simp only at h1 h2; subst h1 h2
   have e:tk (itoa m)=⟨2,⟨(itoa m).toArray⟩,m,0⟩:=by rw[tk,tokw_num]; rfl
   simp[plainW,plain,e]
 · simp only at h1 h2 h3; subst h1 h2
   rcases h3 with rfl | rfl
   · simp[plainW,plain,L_tk,k_tk,word,letterB]
   · simp[plainW,plain,L_tk,k_tk,word,letterB]
 · simp only at h1 h2 h3; subst h1 h2
   have hb:nameB (tk (L s))=true:=by simp only[nameB,k_tk,h3.1,L_tk,h3.2.2]; rfl
   have a1:¬ L s = [116,114,117,101]:=by have:=name_nb h3 (c:=[116,114,117,101]) (.inr (by decide)); simpa using this
   have a2:¬ L s = [102,97,108,115,101]:=by have:=name_nb h3 (c:=[102,97,108,115,101]) (.inr (by decide)); simpa using this
   simp[plainW,plain,L_tk,k_tk,h3.1,a1,a2,hb,s_tk]
theorem plainW_nb {p:Pl} (h:WfP p) {c:Bs} (hc:(word c).1=3):(plainW p == c)=false:=by
 obtain⟨k,m,s⟩:=p
 rcases h with ⟨h1,h2,h3⟩ | ⟨h1,h2,h3⟩ | ⟨h1,h2,h3⟩
 · simp only at h1; subst h1
   exact itoa_nb (by omega)
 · simp only at h1 h3; subst h1
   rcases h3 with rfl | rfl
   · rw[show plainW ⟨2,0,s⟩ = [102,97,108,115,101] from rfl,beq_eq_false_iff_ne]; rintro rfl; revert hc; decide
   · rw[show plainW ⟨2,1,s⟩ = [116,114,117,101] from rfl,beq_eq_false_iff_ne]; rintro rfl; revert hc; decide
 · simp only at h1; subst h1
   exact name_nb h3 (.inl (by omega))
theorem seps_cons (w:Pcs) (r:List Pcs) (hr:r ≠ []):seps (w :: r)=w++([44],sp) :: seps r:=by
 cases r with
 | nil=>exact absurd rfl hr
 | cons v r=>rfl
theorem some_tk {α:Type} {p:P α} {close:Bs} (hc:close≠comma) {most:Nat} (f:α→Pcs) (n:Int) (r:Ts) (Q:α→Prop) (hp:∀ (x:α) (ts:Ts),Q x→p n (tks (f x)++ts) = .ok x ts) :
 ∀ (xs:List α) (g:Nat) (out:List α),xs ≠ []→(∀ x ∈ xs,Q x)→out.length+xs.length≤most→most+1≤g+out.length→some_ p close most g out n (tks (seps (xs.map f))++tk close :: r) = .ok (out++xs) r
 | [],g,out,h,_,_,_=>absurd rfl h
 | x :: xs,g,out,h,hq,hl,hg=>by
  simp only[List.length_cons] at hl
  obtain⟨g,rfl⟩:∃ k,g=k+1:=⟨g - 1,by omega⟩
  simp only[some_,if_neg (show ¬ out.length=most by omega)]
  have hcc:(comma == close)=false:=by rw[beq_eq_false_iff_ne]; exact fun h=>hc h.symm
  cases xs with
  | nil =>
   show (p n (tks (f x)++tk close :: r)).bind _=_
   rw[hp x _ (hq x (by simp))]
   simp[R.bind,alt,isW_tk,ret]
  | cons y ys =>
   rw[List.map_cons,seps_cons _ _ (by simp),tks_append,List.append_assoc]
   show (p n (tks (f x)++_)).bind _=_
   rw[hp x _ (hq x (by simp))]
   have e:tks (([44],sp) :: seps ((y :: ys).map f))++tk close :: r=tk comma :: (tks (seps ((y :: ys).map f))++tk close :: r):=rfl
   rw[e]
   simp only[R.bind,alt,isW_tk,hcc,Bool.false_eq_true,if_false,bnd,take_tk]
   have:=some_tk (most:=most) hc f n r Q hp (y :: ys) g (out ++ [x]) (by simp) (fun z hz=>hq z (by simp only[List.mem_cons] at hz ⊢; exact .inr hz)) (by simp only[List.length_append,List.length_cons,List.length_nil] at hl ⊢; omega) (by simp only[List.length_append,List.length_cons,List.length_nil]; omega)
   rw[this]
   simp
end Go.Proofs.YtjmmcnldfkjebaaGreatDoor.Sh
namespace Go.Proofs.YtjmmcnldfkjebaaGreatDoor.Sh
set_option linter.unusedVariables false
set_option linter.unusedSimpArgs false
open Dig Lx Tk Ps
open Go.Lib (itoa)
theorem bnd_at {α β:Type} (p:P α) (q:α→P β) (n:Int) (ts:Ts):bnd p q n ts=(p n ts).bind fun a r=>q a n r:=rfl
theorem bind_ok {α β:Type} (a:α) (r:Ts) (f:α→Ts→R β):(R.ok a r).bind f=f a r:=rfl
theorem seps_first (w:Bs) (r:List Pcs):∃ u,seps (one1 w :: r)=(w,[]) :: u:=by
 cases r with
 | nil=>exact⟨[],rfl⟩
 | cons v r=>exact⟨_,rfl⟩
theorem list_tk {l:List Pl} (hl:l.length≤64) (h:∀ p ∈ l,WfP p) {n:Int} {r:Ts} : list n (tks (listP l)++tk [93] :: r) = .ok l r:=by
 cases l with
 | nil=>simp[listP,seps,tks,list,alt,isW_tk,ret]
 | cons p ps =>
  obtain⟨u,hu⟩:=seps_first (plainW p) (ps.map fun p=>one1 (plainW p))
  have h1:isW [93] (tks (listP (p :: ps))++tk [93] :: r)=false:=by
   rw[listP,List.map_cons,hu]
   show isW [93] (tk (plainW p) :: _)=false
   rw[isW_tk]; exact plainW_nb (h p (by simp)) (by decide)
  simp only[list,alt,h1,Bool.false_eq_true,if_false]
  have:=some_tk (p:=plain) (close:=[93]) (by decide) (most:=64) (fun p=>one1 (plainW p)) n r WfP (fun x ts hx=>plain_tk hx) (p :: ps) 65 [] (by simp) h (by simpa using hl) (by simp)
  rw[List.nil_append] at this
  exact this
theorem wfP_k {p:Pl} (h:WfP p):p.k≠4:=by rcases h with ⟨h,-⟩ | ⟨h,-⟩ | ⟨h,-⟩ <;> omega
theorem exprP_xp {p:Pl} (h:WfP p):exprP p.xp=one1 (plainW p):=by
 have:=wfP_k h
 exact if_neg this
theorem expr_tk {x:Xp} (h:WfX x) {n:Int} {ts:Ts} : expr n (tks (exprP x)++ts) = .ok x ts:=by
 rcases h with ⟨h1,h2⟩ | ⟨h1,h2,h3,h4,h5⟩
 · have hk:=wfP_k h1
   have e:exprP x=one1 (plainW ⟨x.k,x.n,x.s⟩):=by simp only[exprP]; rw[if_neg hk]
   rw[e]
   show expr n (tk (plainW ⟨x.k,x.n,x.s⟩) :: ts)=_
   simp only[expr,alt,isW_tk,plainW_nb h1 (show (word [91]).1=3 by decide),Bool.false_eq_true,if_false,bnd_at,plain_tk h1,bind_ok,ret,Pl.xp]
   obtain⟨k,m,s,l⟩:=x
   simp only at h2
   subst h2
   rfl
 · have e:tks (exprP x)++ts=tk [91] :: (tks (listP x.l)++tk [93] :: ts):=by
    simp only[exprP,if_pos h1]
    simp[tks]
   rw[e]
   simp only[expr,alt,isW_tk,BEq.rfl,if_true,List.tail_cons,bnd_at,list_tk h4 h5,bind_ok,ret]
   obtain⟨k,m,s,l⟩:=x
   simp only at h1 h2 h3
   subst h1 h2 h3
   rfl
theorem exprP_first {x:Xp} (h:WfX x):∃ w b u,exprP x=(w,b) :: u∧(w == [41])=false:=by
 rcases h with ⟨h1,h2⟩ | ⟨h1,h2,h3,h4,h5⟩
 · have hk:=wfP_k h1
   exact⟨_,[],[],by simp only[exprP]; rw[if_neg hk]; rfl,plainW_nb h1 (by decide)⟩
 · exact⟨[91],[],_,by simp only[exprP,if_pos h1]; rfl,by decide⟩
theorem args_tk {l:List Xp} (hl:l.length≤64) (h:∀ x ∈ l,WfX x) {n:Int} {r:Ts} : args n (tks (seps (l.map exprP))++tk [41] :: r) = .ok l r:=by
 cases l with
 | nil=>simp[seps,tks,args,alt,isW_tk,ret]
 | cons x xs =>
  have h1:isW [41] (tks (seps ((x :: xs).map exprP))++tk [41] :: r)=false:=by
   obtain⟨w,b,u,hu,hw⟩:=exprP_first (h x (by simp))
   cases xs with
   | nil =>
    show isW [41] (tks (exprP x)++_)=false
    rw[hu]
    show isW [41] (tk w :: _)=false
    rw[isW_tk]; exact hw
   | cons y ys =>
    rw[List.map_cons,seps_cons _ _ (by simp),hu]
    show isW [41] (tk w :: _)=false
    rw[isW_tk]; exact hw
  simp only[args,alt,h1,Bool.false_eq_true,if_false]
  have:=some_tk (p:=expr) (close:=[41]) (by decide) (most:=64) exprP n r WfX (fun x ts hx=>expr_tk hx) (x :: xs) 65 [] (by simp) h (by simpa using hl) (by simp)
  simpa using this
theorem seps_xp {l:List Pl} (h:∀ p ∈ l,WfP p):seps ((l.map Pl.xp).map exprP)=listP l:=by
 rw[listP,List.map_map]
 congr 1
 exact List.map_congr_left fun p hp=>exprP_xp (h p hp)
theorem dom_tk {b:Bool} {d:List (Int × Int)} (h:if b=true then d = [] else WfD d) {n:Int} {ts:Ts} : dom n (tks (domP b d)++ts) = .ok (b,d) ts:=by
 cases b with
 | true =>
  simp only[if_true] at h
  subst h
  show dom n (tk [98,111,111,108] :: ts)=_
  simp only[dom,alt,isW_tk,BEq.rfl,if_true,List.tail_cons,ret]
 | false =>
  simp only[Bool.false_eq_true,if_false] at h
  rcases h with ⟨lo,hi,rfl,h1,h2⟩ | ⟨h1,h2,h3⟩
  · show dom n (tk (itoa lo) :: tk [46,46] :: tk (itoa hi) :: ts)=_
    simp only[dom,alt,isW_tk,itoa_nb (show (word [98,111,111,108]).1≠2 by decide),itoa_nb (show (word [123]).1≠2 by decide),Bool.false_eq_true,if_false,bnd_at,int_tk,bind_ok,take_tk,ret]
  · have e:tks (domP false d)++ts=tk [123] :: (tks (seps (d.map fun x=>one1 (itoa x.1)))++tk [125] :: ts):=by
     have:domP false d=([123],[]) :: seps (d.map fun x=>one1 (itoa x.1)) ++ [([125],[])]:=by
      cases d with
      | nil=>simp at h1
      | cons x r =>
       cases r with
       | nil=>simp at h1
       | cons y r=>obtain⟨lo,hi⟩:=x; rfl
     rw[this]
     simp[tks]
    rw[e]
    have hb:(([123]:Bs) == [98,111,111,108])=false:=by decide
    have:=some_tk (p:=integer) (close:=[125]) (by decide) (most:=256) (fun v=>one1 (itoa v)) n ts (fun _=>True) (fun v ts _=>int_tk) (d.map (·.1)) 257 [] (by
     intro hh
     rw[List.map_eq_nil_iff] at hh
     subst hh
     simp at h1) (fun _ _=>trivial) (by simpa using h2) (by simp)
    rw[List.map_map,List.nil_append] at this
    simp only[dom,alt,isW_tk,hb,Bool.false_eq_true,if_false,BEq.rfl,if_true,List.tail_cons,bnd_at]
    rw[show (d.map fun x=>one1 (itoa x.1))=d.map ((fun v=>one1 (itoa v)) ∘ fun x=>x.1) from rfl,this]
    simp only[bind_ok,ret,List.map_map]
    congr 1
    rw[Prod.mk.injEq]
    refine⟨rfl,?_⟩
    rw[List.map_congr_left (g:=id) (fun x hx=>by
     obtain⟨lo,hi⟩:=x
     have:=(h3 _ hx).1
     simp only at this
     simp[this]),List.map_id]
end Go.Proofs.YtjmmcnldfkjebaaGreatDoor.Sh
namespace Go.Proofs.YtjmmcnldfkjebaaGreatDoor.Sh
set_option linter.unusedVariables false
set_option linter.unusedSimpArgs false
open Dig Lx Tk Ps
open Go.Lib (itoa)
theorem kind_tk (b:Bool) {n:Int} {r:Ts} : kind n (tk (kindW b) :: r) = .ok b r:=by
 cases b
 · simp[kind,kindW,alt,isW_tk,bnd_at,take_tk,bind_ok,ret]
 · simp[kind,kindW,alt,isW_tk,ret]
theorem value_tk {b:Bool} {p:Pl} (h:WfP p) (hk:p.k=if b=true then 2 else 1) {n:Int} {r:Ts} : value b n (tk (plainW p) :: r) = .ok p r:=by
 obtain⟨k,m,s⟩:=p
 cases b with
 | false =>
  simp only[Bool.false_eq_true,if_false] at hk
  subst hk
  rcases h with ⟨h1,h2,h3⟩ | ⟨h1,h2,h3⟩ | ⟨h1,h2,h3⟩
  · simp only at h2; subst h2
    show value false n (tk (itoa m) :: r)=_
    simp only[value,Bool.false_eq_true,if_false,bnd_at,int_tk,bind_ok,ret]
  · simp only at h1; omega
  · simp only at h1; omega
 | true =>
  simp only[if_true] at hk
  subst hk
  rcases h with ⟨h1,h2,h3⟩ | ⟨h1,h2,h3⟩ | ⟨h1,h2,h3⟩
  · simp only at h1; omega
  · simp only at h2 h3; subst h2
    rcases h3 with rfl | rfl
    · show value true n (tk [102,97,108,115,101] :: r)=_
      simp[value,alt,isW_tk,ret]
    · show value true n (tk [116,114,117,101] :: r)=_
      simp[value,alt,isW_tk,ret]
  · simp only at h1; omega
theorem flag_no {c:Bs} {p:P Unit} {n:Int} {w:Bs} {r:Ts} (h:(w == c)=false):flag c p n (tk w :: r) = .ok false (tk w :: r):=by
 simp only[flag,alt,isW_tk,h,Bool.false_eq_true,if_false,ret]
theorem flag_yes {c:Bs} {p:P Unit} {n:Int} {r r2:Ts} (h:p n r = .ok () r2):flag c p n (tk c :: r) = .ok true r2:=by
 simp only[flag,alt,isW_tk,BEq.rfl,if_true,List.tail_cons,bnd_at,h,bind_ok,ret]
theorem tks_cons (w b:Bs) (r:Pcs):tks ((w,b) :: r)=tk w :: tks r:=rfl
theorem semi_tk {n:Int} {r:Ts} {x:It} {ts:Ts} (h:item n ts = .ok x (tk [59] :: r)):stmt n ts = .ok x r:=by
 simp only[stmt,bnd_at,h,bind_ok,show take semi n (tk [59] :: r) = .ok () r from take_tk,ret]
theorem array_tk {k:Int} {nm:ByteArray} {b:Bool} {sz:Int} {o:Bool} {l:List Pl} (hk:k=3∧o=false∨k=4) (hn:NameOk nm) (hl:l.length≤64) (h:∀ p ∈ l,WfP p) {n:Int} {r:Ts} :
 array n (tks (sizeP sz)++tk [93] :: tk [111,102] :: (tks (if k=4 then [([118,97,114],sp)] else [])++tk (kindW b) :: tk [58] :: tk (L nm) :: (tks (if o=true then [([58,58],sp),([111,117,116,112,117,116,95,97,114,114,97,121],[]),([40],[])]++sizeP sz ++ [([93],[]),([41],sp)] else [])++tk [61] :: tk [91] :: (tks (listP l)++tk [93] :: r)))) =
  .ok ⟨k,nm,b,[],sz,o,l.map Pl.xp,0⟩ r:=by
 obtain⟨Z,hZ⟩:∃ Z,Z=tks (if o=true then [([58,58],sp),([111,117,116,112,117,116,95,97,114,114,97,121],[]),([40],[])]++sizeP sz ++ [([93],[]),([41],sp)] else [])++tk [61] :: tk [91] :: (tks (listP l)++tk [93] :: r):=⟨_,rfl⟩
 rw[← hZ]
 have e:tks (sizeP sz) = [tk [91],tk (itoa 1),tk [46,46],tk (itoa sz)]:=rfl
 rw[e]
 simp only[array,List.cons_append,List.nil_append,bnd_at,take_tk,bind_ok,exact_tk,int_tk]
 rcases hk with ⟨rfl,rfl⟩ | rfl
 · have hv:(kindW b == [118,97,114])=false:=by cases b <;> decide
   simp only[show ¬ ((3:Int)=4) by decide,if_false,show tks [] = [] from rfl,List.nil_append,flag_no hv,bind_ok,kind_tk,take_tk,name_tk hn,Bool.false_eq_true,ret]
   rw[hZ]
   simp only[Bool.false_eq_true,if_false,show tks [] = [] from rfl,List.nil_append,take_tk,bind_ok,list_tk hl h]
 · simp only[if_true]
   have e3:tks [([118,97,114],sp)]++tk (kindW b) :: tk [58] :: tk (L nm) :: Z=tk [118,97,114] :: (tk (kindW b) :: tk [58] :: tk (L nm) :: Z):=rfl
   rw[e3,show flag [118,97,114] (ret ()) n (tk [118,97,114] :: (tk (kindW b) :: tk [58] :: tk (L nm) :: Z)) = .ok true (tk (kindW b) :: tk [58] :: tk (L nm) :: Z) from flag_yes rfl]
   simp only[bind_ok,kind_tk,take_tk,name_tk hn,if_true]
   subst hZ
   cases o with
   | false =>
    simp only[Bool.false_eq_true,if_false,show tks [] = [] from rfl,List.nil_append,flag_no (show (([61]:Bs) == [58,58])=false by decide),bind_ok,take_tk,list_tk hl h,ret]
   | true =>
    have e2:tks (if true=true then [([58,58],sp),([111,117,116,112,117,116,95,97,114,114,97,121],[]),([40],[])]++sizeP sz ++ [([93],[]),([41],sp)] else [])++tk [61] :: tk [91] :: (tks (listP l)++tk [93] :: r) =
     tk [58,58] :: tk [111,117,116,112,117,116,95,97,114,114,97,121] :: tk [40] :: tk [91] :: tk (itoa 1) :: tk [46,46] :: tk (itoa sz) :: tk [93] :: tk [41] :: tk [61] :: tk [91] :: (tks (listP l)++tk [93] :: r):=rfl
    rw[e2,show flag [58,58] (outArr sz) n (tk [58,58] :: tk [111,117,116,112,117,116,95,97,114,114,97,121] :: tk [40] :: tk [91] :: tk (itoa 1) :: tk [46,46] :: tk (itoa sz) :: tk [93] :: tk [41] :: tk [61] :: tk [91] :: (tks (listP l)++tk [93] :: r)) = .ok true (tk [61] :: tk [91] :: (tks (listP l)++tk [93] :: r)) from
     flag_yes (by simp only[outArr,bnd_at,take_tk,bind_ok,exact_tk])]
    simp only[bind_ok,take_tk,list_tk hl h,ret]
theorem stmt_tk {x:It} (h:WfI x) {n:Int} {ts:Ts} : stmt n (tks (itemP x)++ts) = .ok x ts:=by
 obtain⟨ki,nm,b,d,sz,o,vs,ak⟩:=x
 rcases h with ⟨h1,h2,h3,h4,h5,h6,p,h7,h8,h9⟩ | ⟨h1,h2,h3,h4,h5,h6⟩ | ⟨h1,h2,h3,h4,h5,l,h6,h7,h8⟩ | ⟨h1,h2,h3,h4,h5,h6,h7,h8,h9⟩ | ⟨h1,h2,h3,h4,h5,h6,h7⟩
 · simp only at h1 h2 h3 h4 h5 h6 h7 h9
   subst h1 h3 h4 h5 h6 h7
   refine semi_tk ?_
   have e:tks (itemP ⟨1,nm,b,[],0,false,[p.xp],0⟩)++ts=tk (kindW b) :: tk [58] :: tk (L nm) :: tk [61] :: tk (plainW p) :: tk [59] :: ts:=by
    simp only[itemP,if_true,List.map_cons,List.map_nil,exprP_xp h8]; rfl
   rw[e]
   have hi:∀ c ∈ [[118,97,114],[97,114,114,97,121],[99,111,110,115,116,114,97,105,110,116],[115,111,108,118,101]],(kindW b == c)=false:=by cases b <;> decide
   simp only[item,alt,isW_tk,hi [118,97,114] (by decide),hi [97,114,114,97,121] (by decide),hi [99,111,110,115,116,114,97,105,110,116] (by decide),hi [115,111,108,118,101] (by decide),Bool.false_eq_true,if_false]
   simp only[par,bnd_at,kind_tk,bind_ok,take_tk,name_tk h2,value_tk h8 h9,ret]
 · simp only at h1 h2 h3 h4 h5 h6
   subst h1 h3 h4
   refine semi_tk ?_
   have e:tks (itemP ⟨2,nm,b,d,0,o,vs,0⟩)++ts=tk [118,97,114] :: (tks (domP b d)++tk [58] :: tk (L nm) :: (tks (if o=true then [([58,58],sp),([111,117,116,112,117,116,95,118,97,114],if vs ≠ [] then sp else [])] else [])++(tks (if vs = [] then [] else ([61],sp) :: seps (vs.map exprP))++tk [59] :: ts))):=by
    simp[itemP,tks]
   rw[e]
   simp only[item,alt,isW_tk,BEq.rfl,if_true,List.tail_cons]
   simp only[variable_,bnd_at,dom_tk h5,bind_ok,take_tk,name_tk h2]
   have hf:flag [58,58] (take [111,117,116,112,117,116,95,118,97,114]) n (tks (if o=true then [([58,58],sp),([111,117,116,112,117,116,95,118,97,114],if vs ≠ [] then sp else [])] else [])++(tks (if vs = [] then [] else ([61],sp) :: seps (vs.map exprP))++tk [59] :: ts)) = .ok o (tks (if vs = [] then [] else ([61],sp) :: seps (vs.map exprP))++tk [59] :: ts):=by
    cases o with
    | true =>
     show flag [58,58] (take [111,117,116,112,117,116,95,118,97,114]) n (tk [58,58] :: tk [111,117,116,112,117,116,95,118,97,114] :: _)=_
     exact flag_yes take_tk
    | false =>
     rcases h6 with rfl | ⟨p,rfl,-⟩
     · exact flag_no (w:=[59]) (by decide)
     · exact flag_no (w:=[61]) (by decide)
   rw[hf]
   simp only[bind_ok]
   rcases h6 with rfl | ⟨p,rfl,hp⟩
   · have e2:tks (if ([]:List Xp) = [] then [] else ([61],sp) :: seps (([]:List Xp).map exprP))++tk [59] :: ts=tk [59] :: ts:=rfl
     rw[e2]
     simp only[alt,isW_tk,show (([59]:Bs) == [61])=false by decide,Bool.false_eq_true,if_false,ret,bind_ok]
   · have e2:tks (if [p.xp] = [] then [] else ([61],sp) :: seps ([p.xp].map exprP))++tk [59] :: ts=tk [61] :: tk (plainW p) :: tk [59] :: ts:=by
      rw[if_neg (by simp),List.map_cons,List.map_nil,exprP_xp hp]; rfl
     rw[e2]
     simp only[alt,isW_tk,BEq.rfl,if_true,List.tail_cons,bnd_at,plain_tk hp,ret,bind_ok]
 · simp only at h1 h2 h3 h4 h6
   subst h3 h4 h6
   refine semi_tk ?_
   have e:tks (itemP ⟨ki,nm,b,[],sz,o,l.map Pl.xp,0⟩)++ts=tk [97,114,114,97,121] :: (tks (sizeP sz)++tk [93] :: tk [111,102] :: (tks (if ki=4 then [([118,97,114],sp)] else [])++tk (kindW b) :: tk [58] :: tk (L nm) :: (tks (if o=true then [([58,58],sp),([111,117,116,112,117,116,95,97,114,114,97,121],[]),([40],[])]++sizeP sz ++ [([93],[]),([41],sp)] else [])++tk [61] :: tk [91] :: (tks (listP l)++tk [93] :: tk [59] :: ts)))):=by
    have n1:¬ ki=1:=by rcases h1 with ⟨h1,-⟩ | h1 <;> omega
    have n2:¬ ki=2:=by rcases h1 with ⟨h1,-⟩ | h1 <;> omega
    have n3:ki=3∨ki=4:=by rcases h1 with ⟨h1,-⟩ | h1 <;> omega
    simp only[itemP,if_neg n1,if_neg n2,if_pos n3,seps_xp h8,tks_append,tks_cons,List.cons_append,List.append_assoc,List.nil_append,show tks [] = [] from rfl]
   rw[e]
   simp only[item,alt,isW_tk,show (([97,114,114,97,121]:Bs) == [118,97,114])=false by decide,BEq.rfl,if_true,Bool.false_eq_true,if_false,List.tail_cons]
   exact array_tk h1 h2 h7 h8
 · simp only at h1 h2 h3 h4 h5 h6 h7 h8 h9
   subst h1 h3 h4 h5 h6 h7
   refine semi_tk ?_
   have e:tks (itemP ⟨5,nm,false,[],0,false,vs,0⟩)++ts=tk [99,111,110,115,116,114,97,105,110,116] :: tk (L nm) :: tk [40] :: (tks (seps (vs.map exprP))++tk [41] :: tk [59] :: ts):=by
    simp[itemP,tks]
   rw[e]
   simp only[item,alt,isW_tk,show (([99,111,110,115,116,114,97,105,110,116]:Bs) == [118,97,114])=false by decide,show (([99,111,110,115,116,114,97,105,110,116]:Bs) == [97,114,114,97,121])=false by decide,BEq.rfl,if_true,Bool.false_eq_true,if_false,List.tail_cons]
   simp only[constr,bnd_at,name_tk h2,bind_ok,take_tk,args_tk h8 h9,ret]
 · simp only at h1 h2 h3 h4 h5 h6 h7
   subst h1 h2 h3 h4 h5 h6
   refine semi_tk ?_
   rcases h7 with ⟨rfl,rfl⟩ | ⟨rfl | rfl,h8⟩
   · show item n (tk [115,111,108,118,101] :: tk [115,97,116,105,115,102,121] :: tk [59] :: ts)=_
     simp[item,solve,alt,isW_tk,ret]
   · show item n (tk [115,111,108,118,101] :: tk [109,105,110,105,109,105,122,101] :: tk (L nm) :: tk [59] :: ts)=_
     simp[item,solve,alt,isW_tk,bnd_at,name_tk h8,bind_ok,ret]
   · show item n (tk [115,111,108,118,101] :: tk [109,97,120,105,109,105,122,101] :: tk (L nm) :: tk [59] :: ts)=_
     simp[item,solve,alt,isW_tk,bnd_at,name_tk h8,bind_ok,ret]
end Go.Proofs.YtjmmcnldfkjebaaGreatDoor.Sh
namespace Go.Proofs.YtjmmcnldfkjebaaGreatDoor.Sh
set_option linter.unusedVariables false
set_option linter.unusedSimpArgs false
open Dig Lx Tk Ps
open Go.Lib (itoa)
theorem tok1_name {s:ByteArray} (h:NameOk s):Tok1 (L s):=⟨by rw[h.1]; decide,h.2.1,fun h2=>by rw[h.1] at h2; omega⟩
theorem itoa_k3 (v:Int):(word (itoa v)).1≠3:=by rw[(itoa_word v).1]; show 2≠3; decide
theorem tok1_of {w:Bs} (h:(decide ((word w).1=1) || decide ((word w).1=3))=true) (h2:(word w).2=w.length):Tok1 w:=by
 simp only[Bool.or_eq_true,decide_eq_true_eq] at h
 exact⟨by omega,h2,fun h3=>by omega⟩
theorem fit_sp {w:Bs} {r:Pcs} (h:Tok1 w) (hr:Fit r):Fit ((w,sp) :: r):=by
 refine⟨h,by decide,?_,hr⟩
 show glue w 32=true
 unfold glue
 split
 · simp
 · decide
theorem fit_nl {w:Bs} {r:Pcs} (h:Tok1 w) (hr:Fit r):Fit ((w,[10]) :: r):=by
 refine⟨h,by decide,?_,hr⟩
 show glue w 10=true
 unfold glue
 split
 · simp
 · decide
theorem fit_sign {w:Bs} {r:Pcs} (h:Tok1 w) (h3:(word w).1=3) (hn:w ≠ [58]) (hr:Fit r):Fit ((w,[]) :: r):=by
 refine⟨h,rfl,?_,hr⟩
 rw[List.nil_append]
 cases flat r with
 | nil=>rfl
 | cons c y =>
  show glue w c=true
  unfold glue
  rw[if_pos h3]
  have:(w == [58])=false:=by rw[beq_eq_false_iff_ne]; exact hn
  simp[this]
theorem fit_word {w:Bs} {c:UInt8} {t b:Bs} {r:Pcs} (h:Tok1 w) (h3:(word w).1≠3) (hc:wordB c=false) (hr:Fit ((c :: t,b) :: r)):Fit ((w,[]) :: (c :: t,b) :: r):=by
 refine⟨h,rfl,?_,hr⟩
 show glue w c=true
 unfold glue
 rw[if_neg h3,hc]
 rfl
theorem tok1_plain {p:Pl} (h:WfP p):Tok1 (plainW p)∧(word (plainW p)).1≠3:=by
 obtain⟨k,m,s⟩:=p
 rcases h with ⟨h1,h2,h3⟩ | ⟨h1,h2,h3⟩ | ⟨h1,h2,h3⟩
 · simp only at h1; subst h1
   exact⟨tok1_num h3,itoa_k3 m⟩
 · simp only at h1 h3; subst h1
   rcases h3 with rfl | rfl
   · exact show Tok1 [102,97,108,115,101]∧(word [102,97,108,115,101]).1≠3 from⟨tok1_of (by decide) (by decide),by decide⟩
   · exact show Tok1 [116,114,117,101]∧(word [116,114,117,101]).1≠3 from⟨tok1_of (by decide) (by decide),by decide⟩
 · simp only at h1; subst h1
   exact⟨tok1_name h3,by show (word (L s)).1≠3; rw[h3.1]; decide⟩
def Part (f:Pcs):Prop:=∀ (c:UInt8) (t b:Bs) (r:Pcs),wordB c=false→c.toNat≠58→Fit ((c :: t,b) :: r)→Fit (f++(c :: t,b) :: r)
theorem part_plain {p:Pl} (h:WfP p):Part (one1 (plainW p)):=fun c t b r hc _ hr=>fit_word (tok1_plain h).1 (tok1_plain h).2 hc hr
theorem part_num {v:Int} (h:fits v):Part (one1 (itoa v)):=fun c t b r hc _ hr=>fit_word (tok1_num h) (itoa_k3 v) hc hr
theorem fit_seps:∀ (l:List Pcs),(∀ f ∈ l,Part f)→∀ (c:UInt8) (b:Bs) (r:Pcs),wordB c=false→c.toNat≠58→Fit (([c],b) :: r)→Fit (seps l++([c],b) :: r)
 | [],_,c,b,r,_,_,hr=>hr
 | [f],h,c,b,r,hc,h58,hr=>h f (by simp) c [] b r hc h58 hr
 | f :: g :: l,h,c,b,r,hc,h58,hr=>by
  have ih:=fit_seps (g :: l) (fun x hx=>h x (by simp only[List.mem_cons] at hx ⊢; exact .inr hx)) c b r hc h58 hr
  rw[seps_cons _ _ (by simp),List.append_assoc]
  exact h f (by simp) 44 [] sp _ (by decide) (by decide) (fit_sp (tok1_of (by decide) (by decide)) ih)
theorem fit_list {l:List Pl} (h:∀ p ∈ l,WfP p) {b:Bs} {r:Pcs} (hr:Fit (([93],b) :: r)):Fit (listP l++([93],b) :: r):=
 fit_seps _ (fun f hf=>by
  obtain⟨p,hp,rfl⟩:=List.mem_map.1 hf
  exact part_plain (h p hp)) 93 b r (by decide) (by decide) hr
theorem part_expr {x:Xp} (h:WfX x):Part (exprP x):=by
 rcases h with ⟨h1,h2⟩ | ⟨h1,h2,h3,h4,h5⟩
 · have e:exprP x=one1 (plainW ⟨x.k,x.n,x.s⟩):=if_neg (wfP_k h1)
   rw[e]; exact part_plain h1
 · intro c t b r hc h58 hr
   have e:exprP x++(c :: t,b) :: r=([91],[]) :: (listP x.l++([93],[]) :: (c :: t,b) :: r):=by
    simp only[exprP,if_pos h1]; simp
   rw[e]
   exact fit_sign (tok1_of (by decide) (by decide)) (by decide) (by decide) (fit_list h5 (fit_sign (tok1_of (by decide) (by decide)) (by decide) (by decide) hr))
theorem fit_dom {b:Bool} {d:List (Int × Int)} (h:if b=true then d = [] else WfD d) {r:Pcs} (hr:Fit r):Fit (domP b d++([58],sp) :: r):=by
 have h58:Fit (([58],sp) :: r):=fit_sp (tok1_of (by decide) (by decide)) hr
 cases b with
 | true=>exact fit_word (w:=[98,111,111,108]) (tok1_of (by decide) (by decide)) (by decide) (by decide) h58
 | false =>
  simp only[Bool.false_eq_true,if_false] at h
  rcases h with ⟨lo,hi,rfl,h1,h2⟩ | ⟨h1,h2,h3⟩
  · exact fit_word (tok1_num h1) (itoa_k3 lo) (by decide) (fit_sign (w:=[46,46]) (tok1_of (by decide) (by decide)) (by decide) (by decide) (fit_word (tok1_num h2) (itoa_k3 hi) (by decide) h58))
  · have:domP false d=([123],[]) :: seps (d.map fun x=>one1 (itoa x.1)) ++ [([125],[])]:=by
     cases d with
     | nil=>simp at h1
     | cons x r =>
      cases r with
      | nil=>simp at h1
      | cons y r=>obtain⟨lo,hi⟩:=x; rfl
    rw[this]
    simp only[List.cons_append,List.append_assoc,List.nil_append]
    refine fit_sign (tok1_of (by decide) (by decide)) (by decide) (by decide) (fit_seps _ (fun f hf => ?_) 125 [] _ (by decide) (by decide) (fit_sign (tok1_of (by decide) (by decide)) (by decide) (by decide) h58))
    obtain⟨x,hx,rfl⟩:=List.mem_map.1 hf
    exact part_num (h3 x hx).2
theorem fit_size {m:Int} (h:fits m) {c:UInt8} {t b:Bs} {r:Pcs} (hc:wordB c=false) (hr:Fit ((c :: t,b) :: r)):Fit (sizeP m++(c :: t,b) :: r):=
 fit_sign (tok1_of (by decide) (by decide)) (by decide) (by decide) (fit_word (w:=itoa 1) (tok1_num (by decide)) (itoa_k3 1) (by decide)
  (fit_sign (w:=[46,46]) (tok1_of (by decide) (by decide)) (by decide) (by decide) (fit_word (tok1_num h) (itoa_k3 m) hc hr)))
def frontP (x:It):Pcs:=(itemP x).dropLast
def itemE (x:It) (e:Bs):Pcs:=frontP x ++ [([59],e)]
theorem item_front (x:It):itemP x=frontP x ++ [([59],[])]:=by
 have:∃ f,itemP x=f ++ [([59],[])]:=by
  unfold itemP
  split
  · exact⟨_,rfl⟩
  split
  · exact⟨_,rfl⟩
  split
  · rename_i h; exact⟨_,(List.append_cons _ _ _)⟩
  split
  · exact⟨_,(List.append_cons _ _ _)⟩
  split
  · exact⟨[([115,111,108,118,101],sp),([115,97,116,105,115,102,121],[])],rfl⟩
  · exact⟨[([115,111,108,118,101],sp),(if x.ask=1 then [109,105,110,105,109,105,122,101] else [109,97,120,105,109,105,122,101],sp),(L x.name,[])],rfl⟩
 obtain⟨f,hf⟩:=this
 rw[frontP,hf,List.dropLast_concat]
end Go.Proofs.YtjmmcnldfkjebaaGreatDoor.Sh
namespace Go.Proofs.YtjmmcnldfkjebaaGreatDoor.Sh
set_option linter.unusedVariables false
set_option linter.unusedSimpArgs false
open Dig Lx Tk Ps
open Go.Lib (itoa)
theorem front_of {x:It} {F:Pcs} (h:itemP x=F ++ [([59],[])]):frontP x=F:=by rw[frontP,h,List.dropLast_concat]
theorem kind_fit (b:Bool) {r:Pcs} (hr:Fit (([58],sp) :: r)):Fit ((kindW b,[]) :: ([58],sp) :: r):=by
 cases b
 · exact fit_word (w:=[105,110,116]) (tok1_of (by decide) (by decide)) (by decide) (by decide) hr
 · exact fit_word (w:=[98,111,111,108]) (tok1_of (by decide) (by decide)) (by decide) (by decide) hr
theorem name_fit {s:ByteArray} (h:NameOk s) {c:UInt8} {t b:Bs} {r:Pcs} (hc:wordB c=false) (hr:Fit ((c :: t,b) :: r)):Fit ((L s,[]) :: (c :: t,b) :: r):=
 fit_word (tok1_name h) (by rw[h.1]; decide) hc hr
theorem word_fit (w:Bs) {c:UInt8} {t b:Bs} {r:Pcs} (h1:(decide ((word w).1=1) || decide ((word w).1=3))=true) (h2:(word w).2=w.length) (h3:(word w).1≠3) (hc:wordB c=false) (hr:Fit ((c :: t,b) :: r)):Fit ((w,[]) :: (c :: t,b) :: r):=
 fit_word (tok1_of h1 h2) h3 hc hr
theorem sp_fit (w:Bs) {r:Pcs} (h1:(decide ((word w).1=1) || decide ((word w).1=3))=true) (h2:(word w).2=w.length) (hr:Fit r):Fit ((w,sp) :: r):=fit_sp (tok1_of h1 h2) hr
theorem sign_fit (w:Bs) {r:Pcs} (h1:(word w).1=3) (h2:(word w).2=w.length) (hn:w ≠ [58]) (hr:Fit r):Fit ((w,[]) :: r):=fit_sign (tok1_of (by rw[h1]; rfl) h2) h1 hn hr
theorem plain_fit {p:Pl} (h:WfP p) {c:UInt8} {t b:Bs} {r:Pcs} (hc:wordB c=false) (hr:Fit ((c :: t,b) :: r)):Fit ((plainW p,[]) :: (c :: t,b) :: r):=fit_word (tok1_plain h).1 (tok1_plain h).2 hc hr
theorem fit_front {x:It} (h:WfI x) {e:Bs} {r:Pcs} (hr:Fit (([59],e) :: r)):Fit (frontP x++([59],e) :: r):=by
 obtain⟨ki,nm,b,d,sz,o,vs,ak⟩:=x
 rcases h with ⟨h1,h2,h3,h4,h5,h6,p,h7,h8,h9⟩ | ⟨h1,h2,h3,h4,h5,h6⟩ | ⟨h1,h2,h3,h4,h5,l,h6,h7,h8⟩ | ⟨h1,h2,h3,h4,h5,h6,h7,h8,h9⟩ | ⟨h1,h2,h3,h4,h5,h6,h7⟩
 · simp only at h1 h2 h3 h4 h5 h6 h7 h9
   subst h1 h3 h4 h5 h6 h7
   have e1:itemP ⟨1,nm,b,[],0,false,[p.xp],0⟩ = [(kindW b,[]),([58],sp),(L nm,sp),([61],sp),(plainW p,[])] ++ [([59],[])]:=by
    simp only[itemP,if_true,List.map_cons,List.map_nil,exprP_xp h8]; rfl
   rw[front_of e1]
   exact kind_fit b (sp_fit [58] (by decide) (by decide) (fit_sp (tok1_name h2) (sp_fit [61] (by decide) (by decide) (plain_fit h8 (by decide) hr))))
 · simp only at h1 h2 h3 h4 h5 h6
   subst h1 h3 h4
   have e1:itemP ⟨2,nm,b,d,0,o,vs,0⟩=(([118,97,114],sp) :: (domP b d++([58],sp) :: ((L nm,if o=true∨vs ≠ [] then sp else []) :: ((if o=true then [([58,58],sp),([111,117,116,112,117,116,95,118,97,114],if vs ≠ [] then sp else [])] else [])++(if vs = [] then [] else ([61],sp) :: seps (vs.map exprP)))))) ++ [([59],[])]:=by
    simp[itemP]
   rw[front_of e1]
   simp only[List.cons_append,List.append_assoc]
   refine sp_fit [118,97,114] (by decide) (by decide) (fit_dom h5 ?_)
   rcases h6 with rfl | ⟨p,rfl,hp⟩
   · cases o with
     | false=>exact name_fit h2 (by decide) hr
     | true=>exact fit_sp (tok1_name h2) (sp_fit [58,58] (by decide) (by decide) (word_fit [111,117,116,112,117,116,95,118,97,114] (by decide) (by decide) (by decide) (by decide) hr))
   · have e2:(if [p.xp] = [] then ([]:Pcs) else ([61],sp) :: seps ([p.xp].map exprP)) = [([61],sp),(plainW p,[])]:=by
      rw[if_neg (by simp),List.map_cons,List.map_nil,exprP_xp hp]; rfl
     rw[e2]
     have hv:=sp_fit [61] (by decide) (by decide) (plain_fit hp (c:=59) (t:=[]) (by decide) hr)
     cases o with
     | false =>
      have e3:(if false=true ∨ [p.xp] ≠ [] then sp else ([]:Bs))=sp:=by simp
      rw[e3]
      exact fit_sp (tok1_name h2) hv
     | true =>
      have e3:(if true=true ∨ [p.xp] ≠ [] then sp else ([]:Bs))=sp:=by simp
      have e4:(if [p.xp] ≠ [] then sp else ([]:Bs))=sp:=by simp
      rw[e3,e4]
      exact fit_sp (tok1_name h2) (sp_fit [58,58] (by decide) (by decide) (sp_fit [111,117,116,112,117,116,95,118,97,114] (by decide) (by decide) hv))
 · simp only at h1 h2 h3 h4 h5 h6
   subst h3 h4 h6
   have e1:itemP ⟨ki,nm,b,[],sz,o,l.map Pl.xp,0⟩=(([97,114,114,97,121],sp) :: (sizeP sz++([93],sp) :: ([111,102],sp) :: ((if ki=4 then [([118,97,114],sp)] else [])++(kindW b,[]) :: ([58],sp) :: (L nm,sp) :: ((if o=true then [([58,58],sp),([111,117,116,112,117,116,95,97,114,114,97,121],[]),([40],[])]++sizeP sz ++ [([93],[]),([41],sp)] else [])++([61],sp) :: ([91],[]) :: (listP l ++ [([93],[])]))))) ++ [([59],[])]:=by
    have n1:¬ ki=1:=by rcases h1 with ⟨h1,-⟩ | h1 <;> omega
    have n2:¬ ki=2:=by rcases h1 with ⟨h1,-⟩ | h1 <;> omega
    have n3:ki=3∨ki=4:=by rcases h1 with ⟨h1,-⟩ | h1 <;> omega
    simp only[itemP,if_neg n1,if_neg n2,if_pos n3,seps_xp h8,List.cons_append,List.append_assoc,List.nil_append]
   rw[front_of e1]
   simp only[List.cons_append,List.append_assoc,List.nil_append]
   refine sp_fit [97,114,114,97,121] (by decide) (by decide) (fit_size h5 (by decide) (sp_fit [93] (by decide) (by decide) (sp_fit [111,102] (by decide) (by decide) ?_)))
   have hl:Fit (([61],sp) :: ([91],[]) :: (listP l++([93],[]) :: ([59],e) :: r)):=sp_fit [61] (by decide) (by decide) (sign_fit [91] (by decide) (by decide) (by decide) (fit_list h8 (sign_fit [93] (by decide) (by decide) (by decide) hr)))
   have ho:Fit ((L nm,sp) :: ((if o=true then ([58,58],sp) :: ([111,117,116,112,117,116,95,97,114,114,97,121],[]) :: ([40],[]) :: (sizeP sz ++ [([93],[]),([41],sp)]) else [])++([61],sp) :: ([91],[]) :: (listP l++([93],[]) :: ([59],e) :: r))):=by
    refine fit_sp (tok1_name h2) ?_
    cases o with
    | false=>exact hl
    | true =>
     simp only[if_true,List.cons_append,List.append_assoc,List.nil_append]
     exact sp_fit [58,58] (by decide) (by decide) (word_fit [111,117,116,112,117,116,95,97,114,114,97,121] (by decide) (by decide) (by decide) (by decide) (sign_fit [40] (by decide) (by decide) (by decide) (fit_size h5 (by decide) (sign_fit [93] (by decide) (by decide) (by decide) (sp_fit [41] (by decide) (by decide) hl)))))
   by_cases h4:ki=4
   · simp only[if_pos h4,List.cons_append,List.nil_append]
     exact sp_fit [118,97,114] (by decide) (by decide) (kind_fit b (sp_fit [58] (by decide) (by decide) ho))
   · simp only[if_neg h4,List.nil_append]
     exact kind_fit b (sp_fit [58] (by decide) (by decide) ho)
 · simp only at h1 h2 h3 h4 h5 h6 h7 h8 h9
   subst h1 h3 h4 h5 h6 h7
   have e1:itemP ⟨5,nm,false,[],0,false,vs,0⟩=(([99,111,110,115,116,114,97,105,110,116],sp) :: (L nm,[]) :: ([40],[]) :: (seps (vs.map exprP) ++ [([41],[])])) ++ [([59],[])]:=by
    simp[itemP]
   rw[front_of e1]
   simp only[List.cons_append,List.append_assoc,List.nil_append]
   refine sp_fit [99,111,110,115,116,114,97,105,110,116] (by decide) (by decide) (name_fit h2 (by decide) (sign_fit [40] (by decide) (by decide) (by decide) (fit_seps _ (fun f hf => ?_) 41 [] _ (by decide) (by decide) (sign_fit [41] (by decide) (by decide) (by decide) hr))))
   obtain⟨x,hx,rfl⟩:=List.mem_map.1 hf
   exact part_expr (h9 x hx)
 · simp only at h1 h2 h3 h4 h5 h6 h7
   subst h1 h2 h3 h4 h5 h6
   rcases h7 with ⟨rfl,rfl⟩ | ⟨h6,h8⟩
   · rw[front_of (F:=[([115,111,108,118,101],sp),([115,97,116,105,115,102,121],[])]) rfl]
     exact sp_fit [115,111,108,118,101] (by decide) (by decide) (word_fit [115,97,116,105,115,102,121] (by decide) (by decide) (by decide) (by decide) hr)
   · rcases h6 with rfl | rfl
     · rw[front_of (F:=[([115,111,108,118,101],sp),([109,105,110,105,109,105,122,101],sp),(L nm,[])]) rfl]
       exact sp_fit [115,111,108,118,101] (by decide) (by decide) (sp_fit [109,105,110,105,109,105,122,101] (by decide) (by decide) (name_fit h8 (by decide) hr))
     · rw[front_of (F:=[([115,111,108,118,101],sp),([109,97,120,105,109,105,122,101],sp),(L nm,[])]) rfl]
       exact sp_fit [115,111,108,118,101] (by decide) (by decide) (sp_fit [109,97,120,105,109,105,122,101] (by decide) (by decide) (name_fit h8 (by decide) hr))
/-! a text of items,each with a line feed behind it -/
def textP:List It→Pcs
 | [] => []
 | x :: r=>itemE x [10]++textP r
theorem fit_text:∀ {xs:List It},(∀ x ∈ xs,WfI x)→Fit (textP xs)
 | [],_=>trivial
 | x :: r,h=>by
  have ih:=fit_text (xs:=r) (fun y hy=>h y (by simp[hy]))
  show Fit (itemE x [10]++textP r)
  rw[itemE,List.append_assoc]
  exact fit_front (h x (by simp)) (fit_nl (tok1_of (by decide) (by decide)) ih)
theorem fit_item {x:It} (h:WfI x):Fit (itemP x):=by
 rw[item_front]
 exact fit_front h (sign_fit [59] (by decide) (by decide) (by decide) trivial)
theorem tks_item (x:It) (e:Bs):tks (itemE x e)=tks (itemP x):=by
 rw[item_front,itemE,tks_append,tks_append]; rfl
theorem runs_text (n:Int):∀ {xs:List It},(∀ x ∈ xs,WfI x)→Runs n (tks (textP xs)) xs
 | [],_ => .nil
 | x :: r,h=>by
  have ih:=runs_text n (xs:=r) (fun y hy=>h y (by simp[hy]))
  refine .cons (r:=tks (textP r)) ?_ ih
  show stmt n (tks (itemE x [10]++textP r))=_
  rw[tks_append,tks_item]
  exact stmt_tk (h x (by simp))
theorem eqv_of {us:List Tok} {ps:Pcs} (h:us.map noAt=ps.map fun p=>tokw p.1):(us.map tv).map noA=(tks ps).map noA:=by
 have e:(tks ps).map noA=tks ps:=by
  unfold tks tk
  rw[List.map_map]
  rfl
 rw[e,List.map_map]
 have:(us.map tv).map noA=(us.map noAt).map tv:=by rw[List.map_map,List.map_map]; rfl
 rw[List.map_map] at this
 rw[this,h]
 unfold tks tk
 rw[List.map_map]
 rfl
theorem text_of {T:ByteArray} {ps:Pcs} {xs:List It} (hT:L T=flat ps) (hf:Fit ps) (hr:∀ n,Runs n (tks ps) xs) (h8:T.size≤8192) (ht:ps.length≤4096) (hx:xs.length≤512) :
 textD T=(xs,0,0)∧∃ us,splitD (L T)=(us,0,0)∧us.length=ps.length:=by
 obtain⟨us,h1,h2⟩:=lexes_flat ps 0 hf
 have hb:=Fit.front hf
 have hl:us.length=ps.length:=by have:=congrArg List.length h2; simpa using this
 have hs:splitD (L T)=(us,0,0):=by
  refine split_of (by rw[L_len]; exact h8) ?_ (by omega)
  rw[hT,hb]; exact h1
 refine⟨?_,us,hs,hl⟩
 rw[text_all hs]
 have:=runs_eqv (m:=(T.size:Int)) (hr 0) (eqv_of h2).symm
 have k:=all_of this 513 [] rfl (by simpa using hx)
 simpa using k
end Go.Proofs.YtjmmcnldfkjebaaGreatDoor.Sh
namespace Go.Proofs.YtjmmcnldfkjebaaGreatDoor.Sh
set_option linter.unusedVariables false
set_option linter.unusedSimpArgs false
open Dig Lx Tk Ps
open Go.Lib (itoa)
def TokV (t:Tv):Prop:=(t.k=1→(word (L t.s)).1=1∧(word (L t.s)).2=(L t.s).length)∧(t.k=2→fits t.v)
def AllV (ts:Ts):Prop:=∀ t ∈ ts,TokV t
theorem AllV.tail {t:Tv} {r:Ts} (h:AllV (t :: r)):AllV r:=fun x hx=>h x (by simp[hx])
theorem AllV.drop1 {ts:Ts} (h:AllV ts):AllV ts.tail:=by cases ts with | nil=>exact h | cons t r=>exact h.tail
theorem allV_lexes {l:Bs} {i:Nat} {ts:List Tok} (h:Lexes l i ts):AllV (ts.map tv):=by
 induction h with
 | done i=>intro t ht; simp at ht
 | @tok l i ts hw hv h ih =>
  intro t ht
  rw[List.map_cons,List.mem_cons] at ht
  rcases ht with rfl | ht
  · have e:L (tv (tokD l i)).s=l.take (word l).2:=tv_L _
    have ew:=word_take l hw
    refine⟨fun h1 => ?_,fun h2 => ?_⟩
    · rw[e,ew,@Lx.take_len l]
      have h1':((word l).1:Int)=1:=h1
      exact⟨by omega,rfl⟩
    · have h2':((word l).1:Int)=2:=h2
      have h3:(word l).1=2:=by omega
      show fits (if (word l).1=2 then intD (l.take (word l).2) else 0)
      rw[if_pos h3]
      exact hv h3
  · exact ih t ht
def PostV {α:Type} (p:P α) (Q:α→Prop):Prop:=∀ n ts a r,AllV ts→p n ts = .ok a r→Q a∧AllV r
theorem pv_ret {α:Type} {a:α} {Q:α→Prop} (h:Q a):PostV (ret a) Q:=by
 intro n ts b r hv hp
 simp only[ret,R.ok.injEq] at hp
 obtain⟨rfl,rfl⟩:=hp
 exact⟨h,hv⟩
theorem pv_wrong {α:Type} {Q:α→Prop} : PostV (wrong:P α) Q:=by
 intro n ts b r hv hp
 simp[wrong] at hp
theorem pv_bnd {α β:Type} {p:P α} {q:α→P β} {Q1:α→Prop} {Q:β→Prop} (hp:PostV p Q1) (h:∀ a,Q1 a→PostV (q a) Q):PostV (bnd p q) Q:=by
 intro n ts b r hv hb
 simp only[bnd_at] at hb
 cases hx:p n ts with
 | bad x y=>rw[hx] at hb; cases hb
 | ok a r1 =>
  rw[hx] at hb
  obtain⟨h1,h2⟩:=hp n ts a r1 hv hx
  exact h a h1 n r1 b r h2 hb
theorem pv_alt {α:Type} {c:Bs} {p q:P α} {Q:α→Prop} (h1:PostV p Q) (h2:PostV q Q):PostV (alt c p q) Q:=by
 intro n ts b r hv hb
 simp only[alt] at hb
 split at hb
 · exact h1 n _ b r hv.drop1 hb
 · exact h2 n _ b r hv hb
theorem pv_mono {α:Type} {p:P α} {Q Q':α→Prop} (h:PostV p Q) (k:∀ a,Q a→Q' a):PostV p Q':=fun n ts a r hv hp=>⟨k a (h n ts a r hv hp).1,(h n ts a r hv hp).2⟩
theorem pv_take (c:Bs):PostV (take c) fun _=>True:=pv_alt (pv_ret trivial) pv_wrong
theorem pv_name:PostV name NameOk:=by
 intro n ts b r hv hp
 cases ts with
 | nil=>simp[name,wrong] at hp
 | cons t r1 =>
  simp only[name] at hp
  split at hp
  · rename_i hb
    simp only[R.ok.injEq] at hp
    obtain⟨rfl,rfl⟩:=hp
    have hk:=name_kind hb
    obtain⟨h1,h2⟩:=(hv t (by simp)).1 hk
    simp only[nameB,Bool.and_eq_true,Bool.not_eq_true'] at hb
    exact⟨⟨h1,h2,hb.2⟩,hv.tail⟩
  · simp[wrong] at hp
theorem pv_integer:PostV integer fits:=by
 intro n ts b r hv hp
 cases ts with
 | nil=>simp[integer,wrong] at hp
 | cons t r1 =>
  simp only[integer] at hp
  split at hp
  · rename_i hk
    simp only[R.ok.injEq] at hp
    obtain⟨rfl,rfl⟩:=hp
    exact⟨(hv t (by simp)).2 hk,hv.tail⟩
  · simp[wrong] at hp
theorem pv_exact (m:Int):PostV (exact m) fun _=>True:=by
 intro n ts b r hv hp
 cases ts with
 | nil=>simp[exact,wrong] at hp
 | cons t r1 =>
  simp only[exact] at hp
  split at hp
  · simp only[R.ok.injEq] at hp
    obtain⟨-,rfl⟩:=hp
    exact⟨trivial,hv.tail⟩
  · simp[wrong] at hp
theorem pv_plain:PostV plain WfP:=by
 intro n ts b r hv hp
 cases ts with
 | nil=>simp[plain,wrong] at hp
 | cons t r1 =>
  simp only[plain] at hp
  split at hp
  · rename_i hk
    simp only[R.ok.injEq] at hp
    obtain⟨rfl,rfl⟩:=hp
    exact⟨.inl ⟨rfl,rfl,(hv t (by simp)).2 hk⟩,hv.tail⟩
  split at hp
  · simp only[R.ok.injEq] at hp
    obtain⟨rfl,rfl⟩:=hp
    exact⟨.inr (.inl ⟨rfl,rfl,.inr rfl⟩),hv.tail⟩
  split at hp
  · simp only[R.ok.injEq] at hp
    obtain⟨rfl,rfl⟩:=hp
    exact⟨.inr (.inl ⟨rfl,rfl,.inl rfl⟩),hv.tail⟩
  split at hp
  · rename_i hb
    simp only[R.ok.injEq] at hp
    obtain⟨rfl,rfl⟩:=hp
    have hk:=name_kind hb
    obtain⟨h1,h2⟩:=(hv t (by simp)).1 hk
    simp only[nameB,Bool.and_eq_true,Bool.not_eq_true'] at hb
    exact⟨.inr (.inr ⟨rfl,rfl,h1,h2,hb.2⟩),hv.tail⟩
  · simp[wrong] at hp
theorem pv_some {α:Type} {p:P α} {close:Bs} {most:Nat} {Q:α→Prop} (hp:PostV p Q):∀ (f:Nat) (out:List α),out.length≤most→(∀ y ∈ out,Q y)→PostV (some_ p close most f out) (fun l=>l ≠ []∧l.length≤most∧∀ y ∈ l,Q y)
 | 0,out,_,_=>pv_wrong
 | f+1,out,ho,hq=>by
  intro n ts b r hv hb
  simp only[some_] at hb
  split at hb
  · cases hb
  · rename_i hne
    have hk:∀ x,Q x→∀ y ∈ out ++ [x],Q y:=fun x hx y hy=>by
     rcases List.mem_append.1 hy with hy | hy
     · exact hq y hy
     · simp only[List.mem_singleton] at hy; subst hy; exact hx
    refine pv_bnd (Q1:=Q) hp (fun x hx=>pv_alt (pv_ret ⟨by simp,by simp; omega,hk x hx⟩) (pv_bnd (pv_take _) fun _ _=>pv_some hp f (out ++ [x]) (by simp; omega) (hk x hx))) n ts b r hv hb
theorem pv_list:PostV list fun l=>l.length≤64∧∀ p ∈ l,WfP p:=
 pv_alt (pv_ret ⟨by simp,by simp⟩) (pv_mono (pv_some pv_plain 65 [] (by simp) (by simp)) fun l h=>h.2)
theorem pv_expr:PostV expr WfX:=
 pv_alt (pv_bnd pv_list fun l hl=>pv_ret (.inr ⟨rfl,rfl,rfl,hl.1,hl.2⟩)) (pv_bnd pv_plain fun p hp=>pv_ret (.inl ⟨hp,rfl⟩))
theorem pv_args:PostV args fun l=>l.length≤64∧∀ x ∈ l,WfX x:=
 pv_alt (pv_ret ⟨by simp,by simp⟩) (pv_mono (pv_some pv_expr 65 [] (by simp) (by simp)) fun l h=>h.2)
theorem pv_dom:PostV dom fun d=>if d.1=true then d.2 = [] else WfD d.2:=by
 refine pv_alt (pv_ret rfl) (pv_alt (pv_bnd (pv_some pv_integer 257 [] (by simp) (by simp)) fun l hl=>pv_ret ?_) (pv_bnd pv_integer fun lo hlo=>pv_bnd (pv_take _) fun _ _=>pv_bnd pv_integer fun hi hhi=>pv_ret (.inl ⟨lo,hi,rfl,hlo,hhi⟩)))
 obtain⟨h1,h2,h3⟩:=hl
 show WfD (l.map fun i=>(i,i))
 cases l with
 | nil=>exact absurd rfl h1
 | cons a r =>
  cases r with
  | nil=>exact .inl ⟨a,a,rfl,h3 a (by simp),h3 a (by simp)⟩
  | cons b r =>
   refine .inr ⟨by simp,by simpa using h2,fun x hx => ?_⟩
   obtain⟨i,hi,rfl⟩:=List.mem_map.1 hx
   exact⟨rfl,h3 i hi⟩
theorem pv_flag {c:Bs} {p:P Unit} (h:PostV p fun _=>True):PostV (flag c p) fun _=>True:=pv_alt (pv_bnd h fun _ _=>pv_ret trivial) (pv_ret trivial)
theorem pv_kind:PostV kind fun _=>True:=pv_alt (pv_ret trivial) (pv_bnd (pv_take _) fun _ _=>pv_ret trivial)
theorem pv_variable:PostV variable_ WfI:=by
 refine pv_bnd pv_dom fun d hd=>pv_bnd (pv_take _) fun _ _=>pv_bnd pv_name fun w hw=>pv_bnd (pv_flag (pv_take _)) fun o _=>pv_bnd (Q1:=fun v=>v = []∨∃ p:Pl,v = [p.xp]∧WfP p) ?_ fun v hv=>pv_ret ?_
 · exact pv_alt (pv_bnd pv_plain fun y hy=>pv_ret (.inr ⟨y,rfl,hy⟩)) (pv_ret (.inl rfl))
 · exact .inr (.inl ⟨rfl,hw,rfl,rfl,hd,hv⟩)
theorem pv_value (b:Bool):PostV (value b) fun p=>WfP p∧p.k=(if b=true then 2 else 1):=by
 cases b with
 | true=>exact pv_alt (pv_ret ⟨.inr (.inl ⟨rfl,rfl,.inr rfl⟩),rfl⟩) (pv_alt (pv_ret ⟨.inr (.inl ⟨rfl,rfl,.inl rfl⟩),rfl⟩) pv_wrong)
 | false=>exact pv_bnd pv_integer fun i hi=>pv_ret ⟨.inl ⟨rfl,rfl,hi⟩,rfl⟩
theorem pv_par:PostV par WfI:=
 pv_bnd pv_kind fun b _=>pv_bnd (pv_take _) fun _ _=>pv_bnd pv_name fun w hw=>pv_bnd (pv_take _) fun _ _=>pv_bnd (pv_value b) fun y hy=>pv_ret (.inl ⟨rfl,hw,rfl,rfl,rfl,rfl,y,rfl,hy.1,hy.2⟩)
theorem pv_outArr (m:Int):PostV (outArr m) fun _=>True:=
 pv_bnd (pv_take _) fun _ _=>pv_bnd (pv_take _) fun _ _=>pv_bnd (pv_take _) fun _ _=>pv_bnd (pv_exact _) fun _ _=>pv_bnd (pv_take _) fun _ _=>pv_bnd (pv_exact _) fun _ _=>pv_bnd (pv_take _) fun _ _=>pv_take _
theorem pv_array:PostV array WfI:=by
 refine pv_bnd (pv_take _) fun _ _=>pv_bnd (pv_exact _) fun _ _=>pv_bnd (pv_take _) fun _ _=>pv_bnd pv_integer fun m hm=>pv_bnd (pv_take _) fun _ _=>pv_bnd (pv_take _) fun _ _=>pv_bnd (pv_flag (pv_ret trivial)) fun v _=>pv_bnd pv_kind fun b _=>pv_bnd (pv_take _) fun _ _=>pv_bnd pv_name fun w hw =>
  pv_bnd (Q1:=fun o=>v=true∨o=false) ?_ fun o ho=>pv_bnd (pv_take _) fun _ _=>pv_bnd (pv_take _) fun _ _=>pv_bnd pv_list fun l hl=>pv_ret ?_
 · cases v with
   | true=>exact pv_mono (pv_flag (pv_outArr m)) fun _ _ => .inl rfl
   | false=>exact pv_ret (.inr rfl)
 · refine .inr (.inr (.inl ⟨?_,hw,rfl,rfl,hm,l,rfl,hl.1,hl.2⟩))
   cases v with
   | true=>exact .inr rfl
   | false=>exact .inl ⟨rfl,ho.resolve_left (by simp)⟩
theorem pv_constr:PostV constr WfI:=
 pv_bnd pv_name fun w hw=>pv_bnd (pv_take _) fun _ _=>pv_bnd pv_args fun l hl=>pv_ret (.inr (.inr (.inr (.inl ⟨rfl,hw,rfl,rfl,rfl,rfl,rfl,hl.1,hl.2⟩))))
theorem pv_solve:PostV solve WfI:=
 pv_alt (pv_ret (.inr (.inr (.inr (.inr ⟨rfl,rfl,rfl,rfl,rfl,rfl,.inl ⟨rfl,rfl⟩⟩)))))
  (pv_alt (pv_bnd pv_name fun w hw=>pv_ret (.inr (.inr (.inr (.inr ⟨rfl,rfl,rfl,rfl,rfl,rfl,.inr ⟨.inl rfl,hw⟩⟩)))))
   (pv_alt (pv_bnd pv_name fun w hw=>pv_ret (.inr (.inr (.inr (.inr ⟨rfl,rfl,rfl,rfl,rfl,rfl,.inr ⟨.inr rfl,hw⟩⟩))))) pv_wrong))
theorem pv_stmt:PostV stmt WfI:=
 pv_bnd (pv_alt pv_variable (pv_alt pv_array (pv_alt pv_constr (pv_alt pv_solve pv_par)))) fun x hx=>pv_bnd (pv_take _) fun _ _=>pv_ret hx
theorem wf_runs {n:Int} {ts:Ts} {its:List It} (h:Runs n ts its):AllV ts→∀ x ∈ its,WfI x:=by
 induction h with
 | nil=>intro _ x hx; simp at hx
 | @cons ts r x its h _ ih =>
  intro hv y hy
  obtain⟨h1,h2⟩:=pv_stmt n ts x r hv h
  rcases List.mem_cons.1 hy with rfl | hy
  · exact h1
  · exact ih h2 y hy
theorem wf_text {s:ByteArray} {l:List It} {p:Int} (k:textD s=(l,p,0)):∀ x ∈ l,WfI x:=by
 obtain⟨o,h1,h2,h3,h4,-,-,h5⟩:=text_runs k
 exact wf_runs h5 (allV_lexes h4)
end Go.Proofs.YtjmmcnldfkjebaaGreatDoor.Sh
namespace Go.Proofs.YtjmmcnldfkjebaaGreatDoor.Sh
set_option linter.unusedVariables false
set_option linter.unusedSimpArgs false
open Dig Lx Tk Ps
open Go.Lib (itoa)
structure Pq where
 k:Int
 n:Int
 s:ByteArray
 d:Nat
structure Xq where
 k:Int
 n:Int
 s:ByteArray
 l:List Pq
structure Iq where
 kind:Int
 name:ByteArray
 bool:Bool
 dom:List (Int × Int)
 size:Int
 out:Bool
 vals:List Xq
 ask:Int
def plq (p:Pl):Pq:=⟨p.k,p.n,p.s,0⟩
def xpq (x:Xp):Xq:=⟨x.k,x.n,x.s,x.l.map plq⟩
def itq (x:It):Iq:=⟨x.kind,x.name,x.bool,x.dom,x.size,x.out,x.vals.map xpq,x.ask⟩
theorem map_inj {α β:Type} {f:α→β} (hf:∀ a b,f a=f b→a=b):∀ {l m:List α},l.map f=m.map f→l=m
 | [],[],_=>rfl
 | [],b :: m,h=>by simp at h
 | a :: l,[],h=>by simp at h
 | a :: l,b :: m,h=>by
  simp only[List.map_cons,List.cons.injEq] at h
  rw[hf a b h.1,map_inj hf h.2]
theorem plq_inj (a b:Pl) (h:plq a=plq b):a=b:=by
 obtain⟨k,n,s⟩:=a; obtain⟨k',n',s'⟩:=b
 simp only[plq,Pq.mk.injEq] at h
 obtain⟨rfl,rfl,rfl,-⟩:=h; rfl
theorem xpq_inj (a b:Xp) (h:xpq a=xpq b):a=b:=by
 obtain⟨k,n,s,l⟩:=a; obtain⟨k',n',s',l'⟩:=b
 simp only[xpq,Xq.mk.injEq] at h
 obtain⟨rfl,rfl,rfl,h⟩:=h
 rw[map_inj plq_inj h]
theorem itq_inj (a b:It) (h:itq a=itq b):a=b:=by
 obtain⟨a1,a2,a3,a4,a5,a6,a7,a8⟩:=a; obtain⟨b1,b2,b3,b4,b5,b6,b7,b8⟩:=b
 simp only[itq,Iq.mk.injEq] at h
 obtain⟨rfl,rfl,rfl,rfl,rfl,rfl,h,rfl⟩:=h
 rw[map_inj xpq_inj h]
def itemB (y:It):ByteArray:=⟨(flat (itemP y)).toArray⟩
def WfS (y:It):Prop:=WfI y∧(itemB y).size≤8192∧(itemP y).length≤4096
def Valid (x:Iq):Prop:=∃ y:It,x=itq y∧WfS y
def itemsB (ys:List It):ByteArray:=⟨(flat (textP ys)).toArray⟩
theorem L_item (y:It):L (itemB y)=flat (itemP y):=L_mk _
theorem L_items (ys:List It):L (itemsB ys)=flat (textP ys):=L_mk _
theorem textP_append:∀ a b:List It,textP (a++b)=textP a++textP b
 | [],b=>rfl
 | x :: r,b=>by simp only[List.cons_append,textP,textP_append r b,List.append_assoc]
theorem items_append (a b:List It):itemsB (a++b)=itemsB a++itemsB b:=L_inj (by rw[L_append,L_items,L_items,L_items,textP_append,flat_append])
theorem items_cons (y:It) (r:List It):itemsB (y :: r)=itemB y++⟨#[10]⟩++itemsB r:=by
 apply L_inj
 rw[L_append,L_append,L_items,L_items,L_item]
 show flat (itemE y [10]++textP r)=_
 rw[flat_append,itemE,item_front,flat_append,flat_append]
 simp[flat,show L ⟨#[10]⟩ = [10] from rfl]
theorem one_text {y:It} (h:WfS y):textD (itemB y)=([y],0,0):=by
 refine (text_of (L_item y) (fit_item h.1) (fun n => ?_) h.2.1 h.2.2 (by simp)).1
 refine .cons (r:=[]) ?_ .nil
 have:=stmt_tk h.1 (n:=n) (ts:=[])
 rwa [List.append_nil] at this
def ShowsT (l:List Iq) (T:ByteArray) (e:Int):Prop:=
 (512<l.length∧T=nos∧e=3)∨(l.length≤512∧(¬ ∀ x ∈ l,Valid x)∧T=nos∧e=2) ∨
  ∃ ys:List It,l=ys.map itq∧ys.length≤512∧(∀ y ∈ ys,WfS y)∧(((8192<(itemsB ys).size∨4096<(textP ys).length)∧T=nos∧e=3)∨((itemsB ys).size≤8192∧(textP ys).length≤4096∧T=itemsB ys∧e=0))
theorem shows_one {l:List Iq} {T U:ByteArray} {e f:Int} (h:ShowsT l T e) (k:ShowsT l U f):T=U∧e=f:=by
 have valid_of:∀ {ys:List It},(∀ y ∈ ys,WfS y)→∀ x ∈ ys.map itq,Valid x:=fun hw x hx=>by
  obtain⟨y,hy,rfl⟩:=List.mem_map.1 hx
  exact⟨y,rfl,hw y hy⟩
 rcases h with ⟨h1,rfl,rfl⟩ | ⟨h1,h2,rfl,rfl⟩ | ⟨ys,rfl,h2,h3,h4⟩
 · rcases k with ⟨k1,rfl,rfl⟩ | ⟨k1,-⟩ | ⟨zs,rfl,k2,-⟩
   · exact⟨rfl,rfl⟩
   · omega
   · rw[List.length_map] at h1; omega
 · rcases k with ⟨k1,-⟩ | ⟨-,-,rfl,rfl⟩ | ⟨zs,rfl,k2,k3,-⟩
   · omega
   · exact⟨rfl,rfl⟩
   · exact absurd (valid_of k3) h2
 · rcases k with ⟨k1,-⟩ | ⟨-,k2,-⟩ | ⟨zs,k1,k2,k3,k4⟩
   · rw[List.length_map] at k1; omega
   · exact absurd (valid_of h3) k2
   · obtain rfl:=map_inj itq_inj k1
     rcases h4 with ⟨h4,rfl,rfl⟩ | ⟨h4,h5,rfl,rfl⟩
     · rcases k4 with ⟨-,rfl,rfl⟩ | ⟨k4,k5,-⟩
       · exact⟨rfl,rfl⟩
       · omega
     · rcases k4 with ⟨k4,-⟩ | ⟨-,-,rfl,rfl⟩
       · omega
       · exact⟨rfl,rfl⟩
theorem show_back {l:List Iq} {T:ByteArray} {e:Int} (h:ShowsT l T e):(e≠0→T=nos)∧(e=0→∃ ys:List It,l=ys.map itq∧ys.length≤512∧textD T=(ys,0,0)∧T.size≤8192∧(∀ y ∈ ys,WfS y)∧T=itemsB ys):=by
 rcases h with ⟨-,rfl,rfl⟩ | ⟨-,-,rfl,rfl⟩ | ⟨ys,rfl,h5,hw,⟨-,rfl,rfl⟩ | ⟨h8,h4,rfl,rfl⟩⟩
 · exact⟨fun _=>rfl,fun h=>by cases h⟩
 · exact⟨fun _=>rfl,fun h=>by cases h⟩
 · exact⟨fun _=>rfl,fun h=>by cases h⟩
 · refine⟨fun h=>absurd rfl h,fun _=>⟨ys,rfl,h5,?_,h8,hw,rfl⟩⟩
   exact (text_of (L_items ys) (fit_text fun y hy=>(hw y hy).1) (fun n=>runs_text n fun y hy=>(hw y hy).1) h8 h4 h5).1
end Go.Proofs.YtjmmcnldfkjebaaGreatDoor.Sh
namespace Go.Proofs.YtjmmcnldfkjebaaGreatDoor.Sh
set_option linter.unusedVariables false
set_option linter.unusedSimpArgs false
open Dig Lx Tk Ps
open Go.Lib (itoa decDigits nDigits)
/-! numerals are no longer than what was read -/
def M:Ts→Nat
 | []=>0
 | t :: r=>2*t.s.size+1+M r
end Go.Proofs.YtjmmcnldfkjebaaGreatDoor.Sh
namespace Go.Proofs.YtjmmcnldfkjebaaGreatDoor.Sh
set_option linter.unusedVariables false
set_option linter.unusedSimpArgs false
open Dig Lx Tk Ps
open Go.Lib (itoa)
end Go.Proofs.YtjmmcnldfkjebaaGreatDoor.Sh
