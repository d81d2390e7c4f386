/- Layer 6 (parse), as plain functions over tokens: the grammar, and what holds of each of its parts. No code is  -/
import Derived.Test.YtjmmcnldfkjebaaGreatDoorVa
namespace Go.Proofs.YtjmmcnldfkjebaaGreatDoor.Ps
set_option linter.unusedVariables false
set_option linter.unusedSimpArgs false
open Lx Tk
abbrev Ts:=List Tv
inductive R (α:Type) where
 | ok (a:α) (r:Ts)
 | bad (at_ er:Int)
def R.bind {α β:Type} (x:R α) (f:α→Ts→R β):R β:=
 match x with
 | .ok a r=>f a r
 | .bad p e => .bad p e
abbrev P (α:Type):=Int→Ts→R α
def place (n:Int):Ts→Int
 | []=>n
 | t :: _=>t.a
def wrong {α:Type} : P α:=fun n ts => .bad (place n ts) (if ts = [] then 6 else 5)
def ret {α:Type} (a:α):P α:=fun _ ts => .ok a ts
def bnd {α β:Type} (p:P α) (q:α→P β):P β:=fun n ts=>(p n ts).bind fun a r=>q a n r
def isW (c:Bs):Ts→Bool
 | []=>false
 | t :: _=>L t.s == c
def alt {α:Type} (c:Bs) (p q:P α):P α:=fun n ts=>if isW c ts=true then p n ts.tail else q n ts
def take (c:Bs):P Unit:=alt c (ret ()) wrong
def keywords:List Bs:=[[97,114,114,97,121],[98,111,111,108],[99,111,110,115,116,114,97,105,110,116],[102,97,108,115,101],[105,110,116],[109,97,120,105,109,105,122,101],[109,105,110,105,109,105,122,101],[111,102],[111,117,116,112,117,116,95,97,114,114,97,121],[111,117,116,112,117,116,95,118,97,114],[115,97,116,105,115,102,121],[115,111,108,118,101],[116,114,117,101],[118,97,114]]
def nameB (t:Tv):Bool:=decide (t.k=1) && !(keywords.contains (L t.s))
def name:P ByteArray:=fun n ts =>
 match ts with
 | []=>wrong n []
 | t :: r=>if nameB t=true then .ok t.s r else wrong n (t :: r)
def integer:P Int:=fun n ts =>
 match ts with
 | []=>wrong n []
 | t :: r=>if t.k=2 then .ok t.v r else wrong n (t :: r)
def exact (m:Int):P Unit:=fun n ts =>
 match ts with
 | []=>wrong n []
 | t :: r=>if t.k=2∧t.v=m then .ok () r else wrong n (t :: r)
structure Pl where
 k:Int
 n:Int
 s:ByteArray
structure Xp where
 k:Int
 n:Int
 s:ByteArray
 l:List Pl
def nos:ByteArray:=⟨#[]⟩
def Pl.xp (p:Pl):Xp:=⟨p.k,p.n,p.s,[]⟩
def plain:P Pl:=fun n ts =>
 match ts with
 | []=>wrong n []
 | t :: r =>
  if t.k=2 then .ok ⟨1,t.v,nos⟩ r
  else if L t.s = [116,114,117,101] then .ok ⟨2,1,nos⟩ r
  else if L t.s = [102,97,108,115,101] then .ok ⟨2,0,nos⟩ r
  else if nameB t=true then .ok ⟨3,0,t.s⟩ r
  else wrong n (t :: r)
def comma:Bs:=[44]
def some_ {α:Type} (p:P α) (close:Bs) (most:Nat):Nat→List α→P (List α)
 | 0,_=>wrong
 | f+1,out=>fun n ts=>if out.length=most then .bad (place n ts) 3 else
  bnd p (fun x=>alt close (ret (out ++ [x])) (bnd (take comma) fun _=>some_ p close most f (out ++ [x]))) n ts
def list:P (List Pl):=alt [93] (ret []) (some_ plain [93] 64 65 [])
def expr:P Xp:=alt [91] (bnd list fun l=>ret ⟨4,0,nos,l⟩) (bnd plain fun p=>ret p.xp)
def args:P (List Xp):=alt [41] (ret []) (some_ expr [41] 64 65 [])
def dom:P (Bool × List (Int × Int)):=
 alt [98,111,111,108] (ret (true,[]))
  (alt [123] (bnd (some_ integer [125] 256 257 []) fun l=>ret (false,l.map fun i=>(i,i)))
   (bnd integer fun lo=>bnd (take [46,46]) fun _=>bnd integer fun hi=>ret (false,[(lo,hi)])))
structure It where
 kind:Int
 name:ByteArray
 bool:Bool
 dom:List (Int × Int)
 size:Int
 out:Bool
 vals:List Xp
 ask:Int
def flag (c:Bs) (p:P Unit):P Bool:=alt c (bnd p fun _=>ret true) (ret false)
def variable_:P It:=
 bnd dom fun d=>bnd (take [58]) fun _=>bnd name fun w=>bnd (flag [58,58] (take [111,117,116,112,117,116,95,118,97,114])) fun o =>
  bnd (alt [61] (bnd plain fun y=>ret [y.xp]) (ret [])) fun v=>ret ⟨2,w,d.1,d.2,0,o,v,0⟩
def kind:P Bool:=alt [98,111,111,108] (ret true) (bnd (take [105,110,116]) fun _=>ret false)
def value (b:Bool):P Pl:=if b=true then alt [116,114,117,101] (ret ⟨2,1,nos⟩) (alt [102,97,108,115,101] (ret ⟨2,0,nos⟩) wrong) else bnd integer fun i=>ret ⟨1,i,nos⟩
def par:P It:=bnd kind fun b=>bnd (take [58]) fun _=>bnd name fun w=>bnd (take [61]) fun _=>bnd (value b) fun y=>ret ⟨1,w,b,[],0,false,[y.xp],0⟩
def outArr (m:Int):P Unit:=
 bnd (take [111,117,116,112,117,116,95,97,114,114,97,121]) fun _=>bnd (take [40]) fun _=>bnd (take [91]) fun _=>bnd (exact 1) fun _=>bnd (take [46,46]) fun _=>bnd (exact m) fun _=>bnd (take [93]) fun _=>take [41]
def array:P It:=
 bnd (take [91]) fun _=>bnd (exact 1) fun _=>bnd (take [46,46]) fun _=>bnd integer fun m=>bnd (take [93]) fun _=>bnd (take [111,102]) fun _ =>
  bnd (flag [118,97,114] (ret ())) fun v=>bnd kind fun b=>bnd (take [58]) fun _=>bnd name fun w =>
   bnd (if v=true then flag [58,58] (outArr m) else ret false) fun o=>bnd (take [61]) fun _=>bnd (take [91]) fun _=>bnd list fun l =>
    ret ⟨if v=true then 4 else 3,w,b,[],m,o,l.map Pl.xp,0⟩
def constr:P It:=bnd name fun w=>bnd (take [40]) fun _=>bnd args fun l=>ret ⟨5,w,false,[],0,false,l,0⟩
def solve:P It:=
 alt [115,97,116,105,115,102,121] (ret ⟨6,nos,false,[],0,false,[],0⟩)
  (alt [109,105,110,105,109,105,122,101] (bnd name fun w=>ret ⟨6,w,false,[],0,false,[],1⟩)
   (alt [109,97,120,105,109,105,122,101] (bnd name fun w=>ret ⟨6,w,false,[],0,false,[],2⟩) wrong))
def item:P It:=alt [118,97,114] variable_ (alt [97,114,114,97,121] array (alt [99,111,110,115,116,114,97,105,110,116] constr (alt [115,111,108,118,101] solve par)))
def semi:Bs:=[59]
def stmt:P It:=bnd item fun x=>bnd (take semi) fun _=>ret x
def isOne (cs:List Bs):Ts→Bool
 | []=>false
 | t :: _=>cs.contains (L t.s)
def firsts:List Bs:=[[105,110,116],[98,111,111,108],[118,97,114],[97,114,114,97,121],[99,111,110,115,116,114,97,105,110,116],[115,111,108,118,101]]
def allD (n:Int):Nat→List It→Ts→List It × Int × Int
 | 0,out,_=>(out,0,0)
 | f+1,out,ts =>
  if ts = [] then (out,0,0)
  else if out.length=512 then ([],place n ts,if isOne firsts ts=true then 3 else 5)
  else match stmt n ts with
   | .bad p e=>([],p,e)
   | .ok x r=>allD n f (out ++ [x]) r
def textD (s:ByteArray):List It × Int × Int:=
 match splitD (L s) with
 | (o,p,e)=>if e≠0 then ([],(p:Int),e) else allD (s.size:Int) 513 [] (o.map tv)
end Go.Proofs.YtjmmcnldfkjebaaGreatDoor.Ps
namespace Go.Proofs.YtjmmcnldfkjebaaGreatDoor.Ps
open Go.RowKit
set_option linter.unusedVariables false
set_option linter.unusedSimpArgs false
open Lx Tk
def noA (t:Tv):Tv:={ t with a:=0 }
theorem split_cases {s:Bs} (hs:s.length≤8192) {o:List Tok} {p:Nat} {er:Int} (h:splitD s=(o,p,er)) :
 (er=0∧p=0∧o.length≤4096∧Lexes (s.drop (blk false s)) (blk false s) o)∨(er≠0∧o = []∧p<s.length∧(s.length≤4096→¬ ∃ ts,Lexes (s.drop (blk false s)) (blk false s) ts)):=by
 unfold splitD at h
 rw[if_neg (by omega)] at h
 unfold lexA at h
 have hb:=blk_le false s
 rcases lexes_of (s.length+1) (s.drop (blk false s)) (blk false s) [] o p er (by rw[List.length_drop]; omega) h with ⟨h1,h2,ts,h3,h4,h5⟩ | ⟨h1,h2,h3,h4,h5⟩
 · rw[List.nil_append] at h3
   subst h3
   exact .inl ⟨h1,h2,h5 (Nat.zero_le _),h4⟩
 · rw[List.length_drop] at h4 h5
   refine .inr ⟨h2,h1,by omega,fun h=>h5 (by rw[List.length_nil]; omega)⟩
theorem split_of {s:Bs} (hs:s.length≤8192) {ts:List Tok} (h:Lexes (s.drop (blk false s)) (blk false s) ts) (hl:ts.length≤4096):splitD s=(ts,0,0):=by
 unfold splitD
 rw[if_neg (by omega)]
 unfold lexA
 rw[lexG_of h (s.length+1) [] (by rw[List.length_drop]; omega) (by rw[List.length_nil]; omega),List.nil_append]
end Go.Proofs.YtjmmcnldfkjebaaGreatDoor.Ps
namespace Go.Proofs.YtjmmcnldfkjebaaGreatDoor.Ps
set_option linter.unusedVariables false
set_option linter.unusedSimpArgs false
open Lx Tk
def wt:Ts→Nat
 | []=>0
 | t :: r=>t.s.size+wt r
theorem wt_append:∀ a b:Ts,wt (a++b)=wt a+wt b
 | [],b=>by simp[wt]
 | t :: r,b=>by simp only[List.cons_append,wt,wt_append r b]; omega
def Good (ts:Ts):Prop:=∀ t ∈ ts,t.k=1∨t.k=2→L t.s≠semi∧1≤t.s.size
theorem Good.tail {t:Tv} {r:Ts} (h:Good (t :: r)):Good r:=fun x hx=>h x (by simp[hx])
theorem Good.right {a b:Ts} (h:Good (a++b)):Good b:=fun x hx=>h x (by simp[hx])
abbrev Eqv (a b:Ts):Prop:=a.map noA=b.map noA
def Rel {α:Type} : R α→R α→Prop
 | .ok a r,.ok b r'=>a=b∧Eqv r r'
 | .bad _ e,.bad _ e'=>e=e'
 | _,_=>False
structure Fine {α:Type} (p:P α) (w:Nat):Prop where
 ok:∀ n ts a r,Good ts→p n ts = .ok a r→∃ pre,ts=pre++r∧(r ≠ []→∀ us,p n (ts++us) = .ok a (r++us))∧w≤wt pre∧∀ t ∈ pre,L t.s≠semi
 bad:∀ n ts at_ er,Good ts→p n ts = .bad at_ er→(at_=n∨∃ t ∈ ts,at_=t.a)∧er≠0
 eqv:∀ n m ts us,Eqv ts us→Rel (p n ts) (p m us)
theorem Fine.le {α:Type} {p:P α} {w v:Nat} (h:Fine p w) (hv:v≤w):Fine p v:=
 ⟨fun n ts a r hg hp=>by obtain⟨pre,h1,h2,h3,h4⟩:=h.ok n ts a r hg hp; exact⟨pre,h1,h2,by omega,h4⟩,h.bad,h.eqv⟩
theorem place_in (n:Int) (ts:Ts):place n ts=n∨∃ t ∈ ts,place n ts=t.a:=by
 cases ts with
 | nil=>exact .inl rfl
 | cons t r=>exact .inr ⟨t,by simp,rfl⟩
theorem eqv_nil {ts us:Ts} (h:Eqv ts us):ts = []↔us = []:=by
 have:=congrArg List.length h
 simp only[List.length_map] at this
 constructor
 · rintro rfl; exact List.eq_nil_of_length_eq_zero (by simpa using this.symm)
 · rintro rfl; exact List.eq_nil_of_length_eq_zero (by simpa using this)
theorem eqv_cons {t u:Tv} {r v:Ts} (h:Eqv (t :: r) (u :: v)):(t.k=u.k∧t.s=u.s∧t.v=u.v)∧Eqv r v:=by
 simp only[Eqv,List.map_cons,List.cons.injEq,noA,Tv.mk.injEq] at h
 exact⟨⟨h.1.1,h.1.2.1,h.1.2.2.1⟩,h.2⟩
theorem fine_wrong {α:Type} (w:Nat):Fine (wrong:P α) w:=by
 refine⟨fun n ts a r hg hp => ?_,fun n ts at_ er hg hp => ?_,fun n m ts us h => ?_⟩
 · simp[wrong] at hp
 · simp only[wrong,R.bad.injEq] at hp
   refine⟨by rw[← hp.1]; exact place_in n ts,?_⟩
   rw[← hp.2]; split <;> decide
 · have e:=eqv_nil h
   show (if ts = [] then (6:Int) else 5)=(if us = [] then 6 else 5)
   by_cases h2:ts = []
   · rw[if_pos h2,if_pos (e.1 h2)]
   · rw[if_neg h2,if_neg (fun h3=>h2 (e.2 h3))]
theorem fine_ret {α:Type} (a:α):Fine (ret a) 0:=by
 refine⟨fun n ts b r hg hp => ?_,fun n ts at_ er hg hp => ?_,fun n m ts us h=>⟨rfl,h⟩⟩
 · simp only[ret,R.ok.injEq] at hp
   obtain⟨rfl,rfl⟩:=hp
   exact⟨[],rfl,fun _ us=>rfl,Nat.zero_le _,by simp⟩
 · simp[ret] at hp
theorem fine_bnd {α β:Type} {p:P α} {q:α→P β} {w v:Nat} (hp:Fine p w) (hq:∀ a,Fine (q a) v):Fine (bnd p q) (w+v):=by
 refine⟨fun n ts b r hg h => ?_,fun n ts at_ er hg h => ?_,fun n m ts us h => ?_⟩
 · unfold bnd at h
   cases hx:p n ts with
   | bad x y=>rw[hx] at h; simp[R.bind] at h
   | ok a r1 =>
    rw[hx] at h
    simp only[R.bind] at h
    obtain⟨pre,rfl,h2,h3,h4⟩:=hp.ok n ts a r1 hg hx
    obtain⟨pre2,rfl,g2,g3,g4⟩:=(hq a).ok n r1 b r hg.right h
    refine⟨pre++pre2,(List.append_assoc ..).symm,fun hr us => ?_,by rw[wt_append]; omega,fun t ht => ?_⟩
    · have e:=h2 (by simp[hr]) us
      unfold bnd
      rw[e]
      simp only[R.bind]
      exact g2 hr us
    · rcases List.mem_append.1 ht with ht | ht
      · exact h4 t ht
      · exact g4 t ht
 · unfold bnd at h
   cases hx:p n ts with
   | bad x y =>
    rw[hx] at h
    simp only[R.bind,R.bad.injEq] at h
    obtain⟨rfl,rfl⟩:=h
    exact hp.bad n ts _ _ hg hx
   | ok a r1 =>
    rw[hx] at h
    simp only[R.bind] at h
    obtain⟨pre,rfl,-,-,-⟩:=hp.ok n ts a r1 hg hx
    obtain⟨h1,h2⟩:=(hq a).bad n r1 _ _ hg.right h
    refine⟨?_,h2⟩
    rcases h1 with h1 | ⟨t,ht,h1⟩
    · exact .inl h1
    · exact .inr ⟨t,by simp[ht],h1⟩
 · unfold bnd
   have h1:=hp.eqv n m ts us h
   cases hx:p n ts with
   | bad x y =>
    cases hy:p m us with
    | bad x' y'=>rw[hx,hy] at h1; exact h1
    | ok a' r'=>rw[hx,hy] at h1; exact h1.elim
   | ok a r1 =>
    cases hy:p m us with
    | bad x' y'=>rw[hx,hy] at h1; exact h1.elim
    | ok a' r' =>
     rw[hx,hy] at h1
     obtain⟨rfl,h2⟩:=h1
     exact (hq a).eqv n m r1 r' h2
theorem isW_true {c:Bs} {ts:Ts} (h:isW c ts=true):∃ t r,ts=t :: r∧L t.s=c:=by
 cases ts with
 | nil=>simp[isW] at h
 | cons t r=>exact⟨t,r,rfl,by simpa [isW] using h⟩
theorem isW_eqv {c:Bs} {ts us:Ts} (h:Eqv ts us):isW c ts=isW c us:=by
 cases ts with
 | nil =>
  have:=(eqv_nil h).1 rfl
  subst this; rfl
 | cons t r =>
  cases us with
  | nil=>exact absurd ((eqv_nil h).2 rfl) (by simp)
  | cons u v =>
   have:=(eqv_cons h).1.2.1
   simp only[isW,this]
theorem isW_app {c:Bs} {ts us:Ts} (h:ts ≠ []):isW c (ts++us)=isW c ts:=by
 cases ts with
 | nil=>exact absurd rfl h
 | cons t r=>rfl
theorem size_of_L {s:ByteArray} {c:Bs} (h:L s=c):s.size=c.length:=by rw[← h,L_len]
theorem fine_alt {α:Type} {c:Bs} {p q:P α} {w v:Nat} (hc:c≠semi) (hp:Fine p w) (hq:Fine q v):Fine (alt c p q) (min (c.length+w) v):=by
 refine⟨fun n ts a r hg h => ?_,fun n ts at_ er hg h => ?_,fun n m ts us h => ?_⟩
 · unfold alt at h
   by_cases hw:isW c ts=true
   · rw[if_pos hw] at h
     obtain⟨t,r0,rfl,ht⟩:=isW_true hw
     obtain⟨pre,h1,h2,h3,h4⟩:=hp.ok n r0 a r hg.tail h
     have hsz:=size_of_L ht
     refine⟨t :: pre,by rw[h1]; rfl,fun hr us => ?_,by simp only[wt]; omega,fun x hx => ?_⟩
     · unfold alt
       rw[if_pos (by rw[isW_app (by simp)]; exact hw)]
       exact h2 hr us
     · rcases List.mem_cons.1 hx with rfl | hx
       · rw[ht]; exact hc
       · exact h4 x hx
   · rw[if_neg hw] at h
     obtain⟨pre,h1,h2,h3,h4⟩:=hq.ok n ts a r hg h
     refine⟨pre,h1,fun hr us => ?_,by omega,h4⟩
     unfold alt
     rw[if_neg (by rw[isW_app (by rw[h1]; simp[hr])]; exact hw)]
     exact h2 hr us
 · unfold alt at h
   by_cases hw:isW c ts=true
   · rw[if_pos hw] at h
     obtain⟨t,r0,rfl,ht⟩:=isW_true hw
     obtain⟨h1,h2⟩:=hp.bad n r0 _ _ hg.tail h
     refine⟨?_,h2⟩
     rcases h1 with h1 | ⟨x,hx,h1⟩
     · exact .inl h1
     · exact .inr ⟨x,by simp[hx],h1⟩
   · rw[if_neg hw] at h
     exact hq.bad n ts _ _ hg h
 · unfold alt
   rw[isW_eqv h]
   by_cases hw:isW c us=true
   · rw[if_pos hw,if_pos hw]
     obtain⟨u,v,rfl,-⟩:=isW_true hw
     cases ts with
     | nil=>exact absurd ((eqv_nil h).1 rfl) (by simp)
     | cons t r=>exact hp.eqv n m r v (eqv_cons h).2
   · rw[if_neg hw,if_neg hw]
     exact hq.eqv n m ts us h
theorem fine_take {c:Bs} (hc:c≠semi):Fine (take c) c.length:=
 (fine_alt hc (fine_ret ()) (fine_wrong c.length)).le (by omega)
theorem fine_one {α:Type} {p:P α} (f:Tv→Option α) (h0:∀ n,p n []=wrong n []) (h1:∀ n t r,p n (t :: r)=match f t with | some a => .ok a r | none=>wrong n (t :: r))
 (hf:∀ t u,t.k=u.k→t.s=u.s→t.v=u.v→f t=f u) (hk:∀ t a,f t=some a→(t.k=1∨t.k=2)∨L t.s = [116,114,117,101]∨L t.s = [102,97,108,115,101]):Fine p 1:=by
 have hw:=fine_wrong (α:=α) 1
 refine⟨fun n ts a r hg h => ?_,fun n ts at_ er hg h => ?_,fun n m ts us h => ?_⟩
 · cases ts with
   | nil=>rw[h0] at h; simp[wrong] at h
   | cons t r0 =>
    rw[h1] at h
    cases hx:f t with
    | none=>rw[hx] at h; simp[wrong] at h
    | some b =>
     rw[hx] at h
     simp only[R.ok.injEq] at h
     obtain⟨rfl,rfl⟩:=h
     have ht:L t.s≠semi∧1≤t.s.size:=by
      rcases hk t b hx with h | h | h
      · exact hg t (by simp) h
      · exact⟨by rw[h]; decide,by rw[size_of_L h]; decide⟩
      · exact⟨by rw[h]; decide,by rw[size_of_L h]; decide⟩
     refine⟨[t],rfl,fun _ us => ?_,by simp only[wt]; omega,fun x hx => ?_⟩
     · rw[List.cons_append,h1,hx]
     · rw[List.mem_singleton.1 hx]; exact ht.1
 · cases ts with
   | nil=>rw[h0] at h; exact hw.bad n _ _ _ hg h
   | cons t r0 =>
    rw[h1] at h
    cases hx:f t with
    | none=>rw[hx] at h; exact hw.bad n _ _ _ hg h
    | some b=>rw[hx] at h; simp at h
 · cases ts with
   | nil =>
    obtain rfl:=(eqv_nil h).1 rfl
    rw[h0,h0]; exact hw.eqv n m [] [] rfl
   | cons t r0 =>
    cases us with
    | nil=>exact absurd ((eqv_nil h).2 rfl) (by simp)
    | cons u v =>
     obtain⟨⟨e1,e2,e3⟩,e4⟩:=eqv_cons h
     rw[h1,h1,hf t u e1 e2 e3]
     cases hx:f u with
     | none=>exact hw.eqv n m _ _ h
     | some b=>exact⟨rfl,e4⟩
theorem name_kind {t:Tv} (h:nameB t=true):t.k=1:=by
 unfold nameB at h
 simp only[Bool.and_eq_true,decide_eq_true_eq] at h
 exact h.1
theorem nameB_eqv {t u:Tv} (h1:t.k=u.k) (h2:t.s=u.s):nameB t=nameB u:=by unfold nameB; rw[h1,h2]
theorem fine_name:Fine name 1:=by
 refine fine_one (fun t=>if nameB t=true then some t.s else none) (fun n=>rfl) (fun n t r => ?_) (fun t u h1 h2 h3 => ?_) (fun t a h => ?_)
 · unfold name
   simp only
   by_cases h:nameB t=true
   · rw[if_pos h,if_pos h]
   · rw[if_neg h,if_neg h]
 · rw[nameB_eqv h1 h2,h2]
 · by_cases h2:nameB t=true
   · exact .inl (.inl (name_kind h2))
   · rw[if_neg h2] at h; cases h
theorem fine_integer:Fine integer 1:=by
 refine fine_one (fun t=>if t.k=2 then some t.v else none) (fun n=>rfl) (fun n t r => ?_) (fun t u h1 h2 h3 => ?_) (fun t a h => ?_)
 · unfold integer
   simp only
   by_cases h:t.k=2
   · rw[if_pos h,if_pos h]
   · rw[if_neg h,if_neg h]
 · rw[h1,h3]
 · by_cases h2:t.k=2
   · exact .inl (.inr h2)
   · rw[if_neg h2] at h; cases h
theorem fine_exact (m:Int):Fine (exact m) 1:=by
 refine fine_one (fun t=>if t.k=2∧t.v=m then some () else none) (fun n=>rfl) (fun n t r => ?_) (fun t u h1 h2 h3 => ?_) (fun t a h => ?_)
 · unfold exact
   simp only
   by_cases h:t.k=2∧t.v=m
   · rw[if_pos h,if_pos h]
   · rw[if_neg h,if_neg h]
 · rw[h1,h3]
 · by_cases h2:t.k=2∧t.v=m
   · exact .inl (.inr h2.1)
   · rw[if_neg h2] at h; cases h
theorem fine_plain:Fine plain 1:=by
 refine fine_one (fun t=>if t.k=2 then some ⟨1,t.v,nos⟩ else if L t.s = [116,114,117,101] then some ⟨2,1,nos⟩ else if L t.s = [102,97,108,115,101] then some ⟨2,0,nos⟩ else if nameB t=true then some ⟨3,0,t.s⟩ else none) (fun n=>rfl) (fun n t r => ?_) (fun t u h1 h2 h3 => ?_) (fun t a h => ?_)
 · unfold plain
   simp only
   split
   · rfl
   split
   · rfl
   split
   · rfl
   split <;> rfl
 · rw[nameB_eqv h1 h2,h1,h2,h3]
 · split at h
   · exact .inl (.inr (by assumption))
   split at h
   · exact .inr (.inl (by assumption))
   split at h
   · exact .inr (.inr (by assumption))
   split at h
   · exact .inl (.inl (name_kind (by assumption)))
   · cases h
theorem fine_big {α:Type} (w:Nat):Fine (fun n ts=>(.bad (place n ts) 3:R α)) w:=by
 refine⟨fun n ts a r hg hp=>by simp at hp,fun n ts at_ er hg hp => ?_,fun n m ts us h=>rfl⟩
 simp only[R.bad.injEq] at hp
 exact⟨by rw[← hp.1]; exact place_in n ts,by rw[← hp.2]; decide⟩
theorem fine_some {α:Type} {p:P α} {close:Bs} {most:Nat} (hc:close≠semi) (hp:Fine p 1):∀ (f:Nat) (out:List α),Fine (some_ p close most f out) 1
 | 0,out=>fine_wrong 1
 | f+1,out=>by
  by_cases h:out.length=most
  · have e:some_ p close most (f+1) out=fun n ts => .bad (place n ts) 3:=by
     funext n ts
     show (if out.length=most then _ else _)=_
     rw[if_pos h]
    rw[e]; exact fine_big 1
  · have e:some_ p close most (f+1) out=bnd p (fun x=>alt close (ret (out ++ [x])) (bnd (take comma) fun _=>some_ p close most f (out ++ [x]))):=by
     funext n ts
     show (if out.length=most then _ else _)=_
     rw[if_neg h]
    rw[e]
    exact (fine_bnd (v:=0) hp fun x=>(fine_alt hc (fine_ret _) (fine_bnd (fine_take (by decide)) fun _=>fine_some hc hp f (out ++ [x]))).le (Nat.zero_le _)).le (by omega)
theorem fine_list:Fine list 1:=(fine_alt (by decide) (fine_ret _) (fine_some (by decide) fine_plain 65 [])).le (by decide)
theorem fine_expr:Fine expr 1:=(fine_alt (by decide) (fine_bnd fine_list fun l=>fine_ret _) (fine_bnd fine_plain fun p=>fine_ret _)).le (by decide)
theorem fine_args:Fine args 1:=(fine_alt (by decide) (fine_ret _) (fine_some (by decide) fine_expr 65 [])).le (by decide)
theorem fine_dom:Fine dom 2:=
 (fine_alt (by decide) (fine_ret _) (fine_alt (by decide) (fine_bnd (fine_some (by decide) fine_integer 257 []) fun l=>fine_ret _)
  (fine_bnd fine_integer fun lo=>fine_bnd (fine_take (by decide)) fun _=>fine_bnd fine_integer fun hi=>fine_ret _))).le (by decide)
theorem fine_flag {c:Bs} {p:P Unit} {w:Nat} (hc:c≠semi) (hp:Fine p w):Fine (flag c p) 0:=
 (fine_alt hc (fine_bnd hp fun _=>fine_ret true) (fine_ret false)).le (Nat.zero_le _)
theorem fine_variable:Fine variable_ 4:=
 (fine_bnd fine_dom fun d=>fine_bnd (fine_take (by decide)) fun _=>fine_bnd fine_name fun w=>fine_bnd (fine_flag (by decide) (fine_take (by decide))) fun o =>
  fine_bnd (v:=0) ((fine_alt (by decide) (fine_bnd fine_plain fun y=>fine_ret _) (fine_ret _)).le (Nat.zero_le _)) fun v=>fine_ret _).le (by decide)
theorem fine_kind:Fine kind 3:=(fine_alt (by decide) (fine_ret _) (fine_bnd (fine_take (by decide)) fun _=>fine_ret _)).le (by decide)
theorem fine_value (b:Bool):Fine (value b) 1:=by
 unfold value
 cases b
 · exact (fine_bnd fine_integer fun i=>fine_ret _).le (by decide)
 · exact (fine_alt (by decide) (fine_ret _) (fine_alt (by decide) (fine_ret _) (fine_wrong 1))).le (by decide)
theorem fine_par:Fine par 7:=(fine_bnd fine_kind fun b=>fine_bnd (fine_take (by decide)) fun _=>fine_bnd fine_name fun w=>fine_bnd (fine_take (by decide)) fun _=>fine_bnd (fine_value b) fun y=>fine_ret _).le (by decide)
theorem fine_outArr (m:Int):Fine (outArr m) 0:=
 (fine_bnd (fine_take (by decide)) fun _=>fine_bnd (fine_take (by decide)) fun _=>fine_bnd (fine_take (by decide)) fun _=>fine_bnd (fine_exact 1) fun _=>fine_bnd (fine_take (by decide)) fun _=>fine_bnd (fine_exact m) fun _=>fine_bnd (fine_take (by decide)) fun _=>fine_take (by decide)).le (Nat.zero_le _)
theorem fine_array:Fine array 7:=
 (fine_bnd (fine_take (by decide)) fun _=>fine_bnd (fine_exact 1) fun _=>fine_bnd (fine_take (by decide)) fun _=>fine_bnd fine_integer fun m=>fine_bnd (fine_take (by decide)) fun _=>fine_bnd (fine_take (by decide)) fun _ =>
  fine_bnd (fine_flag (by decide) (fine_ret ())) fun v=>fine_bnd fine_kind fun b=>fine_bnd (fine_take (by decide)) fun _=>fine_bnd fine_name fun w =>
   fine_bnd (w:=0) (by cases v <;> simp only[if_true,Bool.false_eq_true,if_false]; exact fine_ret _; exact fine_flag (by decide) (fine_outArr m)) fun o=>fine_bnd (fine_take (by decide)) fun _=>fine_bnd (fine_take (by decide)) fun _=>fine_bnd fine_list fun l=>fine_ret _).le (by decide)
theorem fine_constr:Fine constr 3:=(fine_bnd fine_name fun w=>fine_bnd (fine_take (by decide)) fun _=>fine_bnd fine_args fun l=>fine_ret _).le (by decide)
theorem fine_solve:Fine solve 7:=
 (fine_alt (by decide) (fine_ret _) (fine_alt (by decide) (fine_bnd fine_name fun w=>fine_ret _) (fine_alt (by decide) (fine_bnd fine_name fun w=>fine_ret _) (fine_wrong 7)))).le (by decide)
theorem fine_item:Fine item 7:=
 (fine_alt (by decide) fine_variable (fine_alt (by decide) fine_array (fine_alt (by decide) fine_constr (fine_alt (by decide) fine_solve fine_par)))).le (by decide)
end Go.Proofs.YtjmmcnldfkjebaaGreatDoor.Ps
namespace Go.Proofs.YtjmmcnldfkjebaaGreatDoor.Ps
set_option linter.unusedVariables false
set_option linter.unusedSimpArgs false
open Lx Tk
theorem stmt_eq (n:Int) (ts:Ts):stmt n ts=(item n ts).bind fun x r=>if isW semi r=true then .ok x r.tail else wrong n r:=by
 unfold stmt bnd
 cases item n ts with
 | bad p e=>rfl
 | ok x r =>
  simp only[R.bind,take,alt]
  by_cases h:isW semi r=true
  · rw[if_pos h,if_pos h]; rfl
  · rw[if_neg h,if_neg h]; rfl
theorem stmt_ok {n:Int} {ts r:Ts} {x:It} (hg:Good ts) (h:stmt n ts = .ok x r) :
 ∃ pre t,ts=pre++t :: r∧L t.s=semi∧(∀ y ∈ pre,L y.s≠semi)∧7≤wt pre∧item n ts = .ok x (t :: r)∧∀ us,stmt n (ts++us) = .ok x (r++us):=by
 rw[stmt_eq] at h
 cases hi:item n ts with
 | bad p e=>rw[hi] at h; simp[R.bind] at h
 | ok y r1 =>
  rw[hi] at h
  simp only[R.bind] at h
  by_cases hw:isW semi r1=true
  · rw[if_pos hw] at h
    obtain⟨t,r2,rfl,ht⟩:=isW_true hw
    simp only[List.tail_cons,R.ok.injEq] at h
    obtain⟨rfl,rfl⟩:=h
    obtain⟨pre,h1,h2,h3,h4⟩:=fine_item.ok n ts y _ hg hi
    refine⟨pre,t,h1,ht,h4,h3,rfl,fun us => ?_⟩
    rw[stmt_eq,h2 (by simp) us]
    simp only[R.bind]
    rw[if_pos (by rw[isW_app (by simp)]; exact hw)]
    rfl
  · rw[if_neg hw] at h; simp[wrong] at h
theorem stmt_bad {n:Int} {ts:Ts} {p e:Int} (hg:Good ts) (h:stmt n ts = .bad p e):(p=n∨∃ t ∈ ts,p=t.a)∧e≠0:=by
 rw[stmt_eq] at h
 cases hi:item n ts with
 | bad p' e' =>
  rw[hi] at h
  simp only[R.bind,R.bad.injEq] at h
  obtain⟨rfl,rfl⟩:=h
  exact fine_item.bad n ts _ _ hg hi
 | ok y r1 =>
  rw[hi] at h
  simp only[R.bind] at h
  obtain⟨pre,h1,-,-,-⟩:=fine_item.ok n ts y _ hg hi
  by_cases hw:isW semi r1=true
  · rw[if_pos hw] at h; simp at h
  · rw[if_neg hw] at h
    obtain⟨h2,h3⟩:=(fine_wrong (α:=It) 0).bad n r1 _ _ (by rw[h1] at hg; exact hg.right) h
    refine⟨?_,h3⟩
    rcases h2 with h2 | ⟨t,ht,h2⟩
    · exact .inl h2
    · exact .inr ⟨t,by rw[h1]; simp[ht],h2⟩
theorem stmt_eqv {n m:Int} {ts us:Ts} (h:Eqv ts us):Rel (stmt n ts) (stmt m us):=by
 rw[stmt_eq,stmt_eq]
 have h1:=fine_item.eqv n m ts us h
 cases hx:item n ts with
 | bad x y =>
  cases hy:item m us with
  | bad x' y'=>rw[hx,hy] at h1; exact h1
  | ok a' r'=>rw[hx,hy] at h1; exact h1.elim
 | ok a r1 =>
  cases hy:item m us with
  | bad x' y'=>rw[hx,hy] at h1; exact h1.elim
  | ok a' r' =>
   rw[hx,hy] at h1
   obtain⟨rfl,h2⟩:=h1
   simp only[R.bind]
   rw[isW_eqv h2]
   by_cases hw:isW semi r'=true
   · rw[if_pos hw,if_pos hw]
     obtain⟨u,v,rfl,-⟩:=isW_true hw
     cases r1 with
     | nil=>exact absurd ((eqv_nil h2).1 rfl) (by simp)
     | cons t r=>exact⟨rfl,(eqv_cons h2).2⟩
   · rw[if_neg hw,if_neg hw]
     exact (fine_wrong (α:=It) 0).eqv n m r1 r' h2
theorem stmt_nil (n:Int):stmt n [] = .bad n 6:=rfl
inductive Runs (n:Int):Ts→List It→Prop
 | nil:Runs n [] []
 | cons {ts r:Ts} {x:It} {its:List It} (h:stmt n ts = .ok x r) (k:Runs n r its):Runs n ts (x :: its)
theorem runs_eqv {n m:Int} {ts us:Ts} {its:List It} (h:Runs n ts its) (he:Eqv ts us):Runs m us its:=by
 induction h generalizing us with
 | nil=>rw[(eqv_nil he).1 rfl]; exact .nil
 | @cons ts r x its h k ih =>
  have h1:=stmt_eqv (n:=n) (m:=m) he
  rw[h] at h1
  cases hx:stmt m us with
  | bad p e=>rw[hx] at h1; exact h1.elim
  | ok y r' =>
   rw[hx] at h1
   obtain⟨rfl,h2⟩:=h1
   exact .cons hx (ih h2)
theorem all_of {n:Int} {ts:Ts} {its:List It} (h:Runs n ts its):∀ (f:Nat) (out:List It),f+out.length=513→out.length+its.length≤512→allD n f out ts=(out++its,0,0):=by
 induction h with
 | nil =>
  intro f out hf ho
  obtain⟨f,rfl⟩:∃ k,f=k+1:=⟨f - 1,by simp at ho; omega⟩
  rw[allD,if_pos rfl,List.append_nil]
 | @cons ts r x its h _ ih =>
  intro f out hf ho
  simp only[List.length_cons] at ho
  obtain⟨f,rfl⟩:∃ k,f=k+1:=⟨f - 1,by omega⟩
  have hn:ts ≠ []:=by rintro rfl; rw[stmt_nil] at h; cases h
  rw[allD,if_neg hn,if_neg (by omega),h]
  simp only
  rw[ih f (out ++ [x]) (by simp; omega) (by simp; omega),List.append_assoc]
  rfl
theorem all_cases {n:Int} : ∀ (f:Nat) (out:List It) (ts:Ts) (o:List It) (p e:Int),Good ts→f+out.length=513→out.length≤512→allD n f out ts=(o,p,e) →
 (e=0∧p=0∧∃ its,o=out++its∧Runs n ts its∧o.length≤512)∨(e≠0∧o = []∧(p=n∨∃ t ∈ ts,p=t.a))
 | 0,out,ts,o,p,e,hg,hf,ho,h=>by omega
 | f+1,out,ts,o,p,e,hg,hf,ho,h=>by
  rw[allD] at h
  by_cases h0:ts = []
  · rw[if_pos h0] at h
    simp only[Prod.mk.injEq] at h
    obtain⟨rfl,rfl,rfl⟩:=h
    subst h0
    exact .inl ⟨rfl,rfl,[],by simp,.nil,ho⟩
  rw[if_neg h0] at h
  by_cases h1:out.length=512
  · rw[if_pos h1] at h
    simp only[Prod.mk.injEq] at h
    obtain⟨rfl,rfl,rfl⟩:=h
    exact .inr ⟨by split <;> decide,rfl,place_in n ts⟩
  rw[if_neg h1] at h
  cases hs:stmt n ts with
  | bad p' e' =>
   rw[hs] at h
   simp only[Prod.mk.injEq] at h
   obtain⟨rfl,rfl,rfl⟩:=h
   obtain⟨k1,k2⟩:=stmt_bad hg hs
   exact .inr ⟨k2,rfl,k1⟩
  | ok x r =>
   rw[hs] at h
   simp only at h
   obtain⟨pre,t,h2,-,-,-,-,-⟩:=stmt_ok hg hs
   have hr:Good r:=by rw[h2] at hg; exact hg.right.tail
   rcases all_cases f (out ++ [x]) r o p e hr (by simp; omega) (by simp; omega) h with ⟨e1,e2,its,e3,e4,e5⟩ | ⟨e1,e2,e3⟩
   · exact .inl ⟨e1,e2,x :: its,by rw[e3,List.append_assoc]; rfl,.cons hs e4,e5⟩
   · refine .inr ⟨e1,e2,?_⟩
     rcases e3 with e3 | ⟨t',ht',e3⟩
     · exact .inl e3
     · exact .inr ⟨t',by rw[h2]; simp[ht'],e3⟩
theorem word_semi {l:Bs} (h:(word l).1=1∨(word l).1=2):l.take (word l).2≠semi:=by
 cases l with
 | nil=>simp[word] at h
 | cons c t =>
  have hne:c.toNat≠59:=by
   intro hc
   have e:c=59:=by apply UInt8.toNat.inj; exact hc
   subst e
   have e1:letterB 59=false:=by decide
   have e2:digB 59=false:=by decide
   have e3:signB 59=true:=by decide
   simp[word,e1,e2,e3] at h
  have hp:=(word_pos (l:=c :: t) (by omega)).1
  obtain⟨k,hk⟩:∃ k,(word (c :: t)).2=k+1:=⟨(word (c :: t)).2 - 1,by omega⟩
  rw[hk]
  intro h2
  simp only[List.take_succ_cons,semi,List.cons.injEq] at h2
  exact hne (by rw[h2.1]; rfl)
theorem tv_L (t:Tok):L (tv t).s=t.txt:=L_mk _
theorem tv_size (t:Tok):(tv t).s.size=t.txt.length:=by rw[← L_len,tv_L]
theorem good_lexes {l:Bs} {i:Nat} {ts:List Tok} (h:Lexes l i ts):Good (ts.map tv):=by
 induction h with
 | done i=>intro t ht; simp at ht
 | @tok l i ts hw hv h ih =>
  intro t ht hk
  rcases List.mem_cons.1 ht with rfl | ht
  · have hk2:(word l).1=1∨(word l).1=2:=by
     have e:(tv (tokD l i)).k=((word l).1:Int):=rfl
     rw[e] at hk
     omega
    refine⟨by rw[tv_L]; exact word_semi hk2,?_⟩
    rw[tv_size]
    have h1:=(word_pos hw).1
    have h2:=word_le l
    show 1≤(l.take (word l).2).length
    rw[List.length_take]; omega
  · exact ih t ht hk
theorem wt_lexes {l:Bs} {i:Nat} {ts:List Tok} (h:Lexes l i ts):wt (ts.map tv)≤l.length:=by
 induction h with
 | done i=>simp[wt]
 | @tok l i ts hw hv h ih =>
  simp only[List.map_cons,wt]
  rw[tv_size]
  have e:(tokD l i).txt=l.take (word l).2:=rfl
  have h1:=next_le l
  have h2:(word l).2≤next l:=by unfold next; omega
  rw[List.length_drop] at ih
  rw[e,List.length_take]
  omega
theorem at_lexes {l:Bs} {i:Nat} {ts:List Tok} (h:Lexes l i ts):∀ t ∈ ts.map tv,0≤t.a∧t.a≤((i+l.length:Nat):Int):=by
 induction h with
 | done i=>intro t ht; simp at ht
 | @tok l i ts hw hv h ih =>
  intro t ht
  rcases List.mem_cons.1 ht with rfl | ht
  · show 0≤(i:Int)∧(i:Int)≤_
    omega
  · have h1:=next_le l
    have:=ih t ht
    rw[List.length_drop] at this
    omega
/-! texts -/
theorem text_bad {s:ByteArray} {o:List Tok} {q:Nat} {f:Int} (h:splitD (L s)=(o,q,f)) (hf:f≠0):textD s=([],(q:Int),f):=by
 unfold textD; rw[h]; simp only; rw[if_pos hf]
theorem text_all {s:ByteArray} {o:List Tok} {q:Nat} (h:splitD (L s)=(o,q,0)):textD s=allD (s.size:Int) 513 [] (o.map tv):=by
 unfold textD; rw[h]; simp only; rw[if_neg (by decide)]
theorem split_lexes {s:ByteArray} {o:List Tok} {q:Nat} (h:splitD (L s)=(o,q,0)):q=0∧Lexes ((L s).drop (blk false (L s))) (blk false (L s)) o:=by
 by_cases hs:(L s).length≤8192
 · rcases split_cases hs h with ⟨-,h1,-,h2⟩ | ⟨h1,-⟩
   · exact⟨h1,h2⟩
   · exact absurd rfl h1
 · unfold splitD at h
   rw[if_pos (by omega)] at h
   simp at h
theorem text_places {s:ByteArray} {o:List Tok} {q:Nat} {f:Int} {l:List It} {p e:Int} (h:splitD (L s)=(o,q,f)) (k:textD s=(l,p,e)) :
 (e≠0→0≤p∧p≤(s.size:Int)∧l = []∧(f=0∨f=e))∧(e=0→p=0∧f=0∧(0<l.length↔0<o.length)∧l.length≤512):=by
 by_cases hf:f=0
 · subst hf
   obtain⟨-,hx⟩:=split_lexes h
   rw[text_all h] at k
   rcases all_cases 513 [] _ l p e (good_lexes hx) (by simp) (by simp) k with ⟨rfl,rfl,its,h1,h2,h3⟩ | ⟨h1,h2,h3⟩
   · refine⟨fun h=>absurd rfl h,fun _=>⟨rfl,rfl,?_,h3⟩⟩
     rw[List.nil_append] at h1
     subst h1
     have e0:o = []↔l = []:=by
      constructor
      · rintro rfl
        cases h2 with
        | nil=>rfl
        | cons h _=>rw[List.map_nil,stmt_nil] at h; cases h
      · rintro rfl
        cases ho:o with
        | nil=>rfl
        | cons t r=>rw[ho] at h2; cases h2
     have e1:∀ {α:Type} (x:List α),0<x.length↔¬ x = []:=fun x=>by cases x <;> simp
     rw[e1,e1,e0]
   · refine⟨fun _=>⟨?_,?_,h2,.inl rfl⟩,fun h=>absurd h h1⟩
     · rcases h3 with rfl | ⟨t,ht,rfl⟩
       · omega
       · exact (at_lexes hx t ht).1
     · rcases h3 with rfl | ⟨t,ht,rfl⟩
       · omega
       · have:=(at_lexes hx t ht).2
         have hb:=blk_le false (L s)
         rw[List.length_drop,L_len] at this
         rw[L_len] at hb
         omega
 · rw[text_bad h hf] at k
   simp only[Prod.mk.injEq] at k
   obtain⟨rfl,rfl,rfl⟩:=k
   refine⟨fun _=>⟨by omega,?_,rfl,.inr rfl⟩,fun h=>absurd h hf⟩
   by_cases hs:(L s).length≤8192
   · rcases split_cases hs h with ⟨h1,-⟩ | ⟨-,-,h1,-⟩
     · exact absurd h1 hf
     · rw[L_len] at h1; omega
   · unfold splitD at h
     rw[if_pos (by omega)] at h
     simp only[Prod.mk.injEq] at h
     omega
theorem text_runs {s:ByteArray} {l:List It} {p:Int} (k:textD s=(l,p,0)):∃ o,splitD (L s)=(o,0,0)∧Good (o.map tv)∧wt (o.map tv)≤s.size∧Lexes ((L s).drop (blk false (L s))) (blk false (L s)) o∧p=0∧l.length≤512∧Runs (s.size:Int) (o.map tv) l:=by
 obtain⟨⟨o,q,f⟩,h⟩:∃ r,splitD (L s)=r:=⟨_,rfl⟩
 by_cases hf:f=0
 · subst hf
   obtain⟨rfl,hx⟩:=split_lexes h
   rw[text_all h] at k
   rcases all_cases 513 [] _ l p 0 (good_lexes hx) (by simp) (by simp) k with ⟨-,rfl,its,h1,h2,h3⟩ | ⟨h1,-⟩
   · rw[List.nil_append] at h1
     subst h1
     have hw:=wt_lexes hx
     rw[List.length_drop,L_len] at hw
     exact⟨o,h,good_lexes hx,by omega,hx,rfl,h3,h2⟩
   · exact absurd rfl h1
 · rw[text_bad h hf] at k
   simp only[Prod.mk.injEq] at k
   exact absurd k.2.2 hf
def Post {α:Type} (p:P α) (Q:α→Prop):Prop:=∀ n ts a r,p n ts = .ok a r→Q a
theorem post_ret {α:Type} {a:α} {Q:α→Prop} (h:Q a):Post (ret a) Q:=by
 intro n ts b r hp
 simp only[ret,R.ok.injEq] at hp
 rw[← hp.1]; exact h
theorem post_wrong {α:Type} {Q:α→Prop} : Post (wrong:P α) Q:=by
 intro n ts b r hp
 simp[wrong] at hp
theorem post_bnd {α β:Type} {p:P α} {q:α→P β} {Q:β→Prop} (h:∀ a,Post (q a) Q):Post (bnd p q) Q:=by
 intro n ts b r hp
 unfold bnd at hp
 cases hx:p n ts with
 | bad x y=>rw[hx] at hp; simp[R.bind] at hp
 | ok a r1=>rw[hx] at hp; exact h a n r1 b r hp
theorem post_alt {α:Type} {c:Bs} {p q:P α} {Q:α→Prop} (h1:Post p Q) (h2:Post q Q):Post (alt c p q) Q:=by
 intro n ts b r hp
 unfold alt at hp
 by_cases hw:isW c ts=true
 · rw[if_pos hw] at hp; exact h1 _ _ _ _ hp
 · rw[if_neg hw] at hp; exact h2 _ _ _ _ hp
theorem alt_ok {α:Type} {c:Bs} {p q:P α} {n:Int} {ts r:Ts} {a:α} (h:alt c p q n ts = .ok a r):(isW c ts=true∧p n ts.tail = .ok a r)∨(isW c ts=false∧q n ts = .ok a r):=by
 unfold alt at h
 by_cases hw:isW c ts=true
 · rw[if_pos hw] at h; exact .inl ⟨hw,h⟩
 · rw[if_neg hw] at h; exact .inr ⟨by simpa using hw,h⟩
theorem kind_ok {n:Int} {ts r:Ts} {b:Bool} (h:kind n ts = .ok b r):isW (if b=true then [98,111,111,108] else [105,110,116]) ts=true:=by
 rcases alt_ok h with ⟨h1,h2⟩ | ⟨h1,h2⟩
 · simp only[ret,R.ok.injEq] at h2
   rw[← h2.1,if_pos rfl]; exact h1
 · unfold bnd at h2
   cases hx:take [105,110,116] n ts with
   | bad x y=>rw[hx] at h2; simp[R.bind] at h2
   | ok a r1 =>
    rw[hx] at h2
    simp only[R.bind,ret,R.ok.injEq] at h2
    rw[← h2.1,if_neg (by decide)]
    rcases alt_ok hx with ⟨h3,-⟩ | ⟨-,h3⟩
    · exact h3
    · simp[wrong] at h3
end Go.Proofs.YtjmmcnldfkjebaaGreatDoor.Ps
namespace Go.Proofs.YtjmmcnldfkjebaaGreatDoor.Ps
set_option linter.unusedVariables false
set_option linter.unusedSimpArgs false
open Lx Tk
theorem post_bnd2 {α β:Type} {p:P α} {q:α→P β} {Q1:α→Prop} {Q:β→Prop} (hp:Post p Q1) (h:∀ a,Q1 a→Post (q a) Q):Post (bnd p q) Q:=by
 intro n ts b r hx
 unfold bnd at hx
 cases hy:p n ts with
 | bad x y=>rw[hy] at hx; simp[R.bind] at hx
 | ok a r1=>rw[hy] at hx; exact h a (hp n ts a r1 hy) n r1 b r hx
theorem post_mono {α:Type} {p:P α} {Q Q':α→Prop} (h:Post p Q) (k:∀ a,Q a→Q' a):Post p Q':=fun n ts a r hp=>k a (h n ts a r hp)
theorem post_any {α:Type} {p:P α} : Post p (fun _=>True):=fun _ _ _ _ _=>trivial
theorem post_some {α:Type} {p:P α} {close:Bs} {most:Nat} {Q:α→Prop} (hp:Post p Q):∀ (f:Nat) (out:List α),out.length≤most→(∀ y ∈ out,Q y)→Post (some_ p close most f out) (fun l=>l.length≤most∧∀ y ∈ l,Q y)
 | 0,out,_,_=>post_wrong
 | f+1,out,ho,hq=>by
  intro n ts a r hx
  by_cases h:out.length=most
  · have e:some_ p close most (f+1) out n ts = .bad (place n ts) 3:=if_pos h
    rw[e] at hx; simp at hx
  · have e:some_ p close most (f+1) out n ts=bnd p (fun x=>alt close (ret (out ++ [x])) (bnd (take comma) fun _=>some_ p close most f (out ++ [x]))) n ts:=if_neg h
    rw[e] at hx
    refine post_bnd2 (Q:=fun l:List α=>l.length≤most∧∀ y ∈ l,Q y) hp (fun x hxq => ?_) n ts a r hx
    have h1:(out ++ [x]).length≤most:=by simp; omega
    have h2:∀ y ∈ out ++ [x],Q y:=by
     intro y hy
     rcases List.mem_append.1 hy with hy | hy
     · exact hq y hy
     · rw[List.mem_singleton.1 hy]; exact hxq
    exact post_alt (post_ret ⟨h1,h2⟩) (post_bnd fun _=>post_some hp f (out ++ [x]) h1 h2)
theorem post_list:Post list (fun l=>l.length≤64):=
 post_alt (post_ret (by simp)) (post_mono (post_some (Q:=fun _=>True) post_any 65 [] (by simp) (by simp)) fun l h=>h.1)
theorem post_expr:Post expr (fun x=>x.l.length≤64):=
 post_alt (post_bnd2 post_list fun l h=>post_ret h) (post_bnd fun p=>post_ret (by simp[Pl.xp]))
theorem post_args:Post args (fun l=>l.length≤64∧∀ y ∈ l,y.l.length≤64):=
 post_alt (post_ret (by simp)) (post_some post_expr 65 [] (by simp) (by simp))
theorem post_dom:Post dom (fun d=>d.2.length≤256):=
 post_alt (post_ret (by simp)) (post_alt (post_bnd2 (post_some (Q:=fun _=>True) post_any 257 [] (by simp) (by simp)) fun l h=>post_ret (by simpa using h.1))
  (post_bnd fun lo=>post_bnd fun _=>post_bnd fun hi=>post_ret (by simp)))
def Bd (x:It):Prop:=x.dom.length≤256∧x.vals.length≤64∧∀ y ∈ x.vals,y.l.length≤64
theorem bd_var:Post variable_ Bd:=
 post_bnd2 post_dom fun d hd=>post_bnd fun _=>post_bnd fun w=>post_bnd fun o=>post_bnd2 (Q1:=fun v:List Xp=>v.length≤64∧∀ y ∈ v,y.l.length≤64)
  (post_alt (post_bnd fun y=>post_ret (by simp[Pl.xp])) (post_ret (by simp))) fun v hv=>post_ret ⟨hd,hv⟩
theorem bd_par:Post par Bd:=post_bnd fun b=>post_bnd fun _=>post_bnd fun w=>post_bnd fun _=>post_bnd fun y=>post_ret (by simp[Bd,Pl.xp])
theorem bd_array:Post array Bd:=
 post_bnd fun _=>post_bnd fun _=>post_bnd fun _=>post_bnd fun m=>post_bnd fun _=>post_bnd fun _=>post_bnd fun v=>post_bnd fun b=>post_bnd fun _=>post_bnd fun w=>post_bnd fun o=>post_bnd fun _=>post_bnd fun _=>post_bnd2 post_list fun l hl =>
  post_ret ⟨by simp,by simpa using hl,by simp[Pl.xp]⟩
theorem bd_constr:Post constr Bd:=post_bnd fun w=>post_bnd fun _=>post_bnd2 post_args fun l hl=>post_ret ⟨by simp,hl.1,hl.2⟩
theorem bd_solve:Post solve Bd:=
 post_alt (post_ret (by simp[Bd])) (post_alt (post_bnd fun w=>post_ret (by simp[Bd])) (post_alt (post_bnd fun w=>post_ret (by simp[Bd])) post_wrong))
theorem bd_item:Post item Bd:=post_alt bd_var (post_alt bd_array (post_alt bd_constr (post_alt bd_solve bd_par)))
theorem bd_runs {n:Int} {ts:Ts} {its:List It} (h:Runs n ts its):∀ x ∈ its,Bd x:=by
 induction h with
 | nil=>intro x hx; simp at hx
 | @cons ts r x its h _ ih =>
  intro y hy
  rcases List.mem_cons.1 hy with rfl | hy
  · rw[stmt_eq] at h
    cases hi:item n ts with
    | bad p e=>rw[hi] at h; simp[R.bind] at h
    | ok z r1 =>
     rw[hi] at h
     simp only[R.bind] at h
     by_cases hw:isW semi r1=true
     · rw[if_pos hw] at h
       simp only[R.ok.injEq] at h
       rw[← h.1]
       exact bd_item n ts z r1 hi
     · rw[if_neg hw] at h; simp[wrong] at h
  · exact ih y hy
theorem bd_text {s:ByteArray} {l:List It} {p e:Int} (k:textD s=(l,p,e)):l.length≤512∧∀ x ∈ l,Bd x:=by
 by_cases he:e=0
 · subst he
   obtain⟨o,-,-,-,-,-,h1,h2⟩:=text_runs k
   exact⟨h1,bd_runs h2⟩
 · obtain⟨⟨o,q,f⟩,h⟩:∃ r,splitD (L s)=r:=⟨_,rfl⟩
   have:=((text_places h k).1 he).2.2.1
   subst this
   simp
end Go.Proofs.YtjmmcnldfkjebaaGreatDoor.Ps
