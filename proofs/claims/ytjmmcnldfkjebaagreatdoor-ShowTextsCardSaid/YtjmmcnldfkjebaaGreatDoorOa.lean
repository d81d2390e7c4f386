/- The document's own layer 7: what its texts say. No code is spoken of. -/
import Derived.Test.YtjmmcnldfkjebaaGreatDoorJz
import Derived.Test.YtjmmcnldfkjebaaGreatDoorKc
namespace Go.Proofs.YtjmmcnldfkjebaaGreatDoor.Doc7
set_option linter.unusedVariables false
set_option linter.unusedSimpArgs false
open Dig Lx Tk Ps Ti Sh Law07
open Pge
theorem row_congr {α β:Type} (f:β→ByteArray) (h:α→ByteArray) (g:α→β):∀ (l:List α) (i:Nat),(∀ x ∈ l,f (g x)=h x)→rowB f i (l.map g)=rowB h i l
 | [],_,_=>rfl
 | x :: r,i,hx=>by
  show sepW i++f (g x)++rowB f (i+1) (r.map g)=sepW i++h x++rowB h (i+1) r
  rw[hx x (by simp),row_congr f h g r (i+1) fun y hy=>hx y (by simp[hy])]
theorem plain_eq {k n:Int} {s l:ByteArray} (h:WfP ⟨k,n,s⟩):plainR k n s=exprW k n s l:=by
 rcases h with ⟨rfl,-⟩ | ⟨rfl,-⟩ | ⟨rfl,-⟩ <;> rfl
theorem row_pq {l:List Pl} (h:∀ p ∈ l,WfP p):rowB kR 0 ((l.map plq).map kP)=rowB pqB 0 (l.map plq):=by
 rw[row_congr kR pqB kP]
 intro x hx
 obtain⟨p,hp,rfl⟩:=List.mem_map.1 hx
 exact plain_eq (h p hp)
theorem xR_eq {p:Pl} (h:WfP p):xR (xpq p.xp)=xqB (xpq p.xp):=plain_eq h
theorem row_xq {l:List Pl} (h:∀ p ∈ l,WfP p):rowB kR 0 (((l.map Pl.xp).map xpq).map kX)=rowB xqB 0 ((l.map Pl.xp).map xpq):=by
 rw[row_congr kR xqB kX]
 intro x hx
 obtain⟨y,hy,rfl⟩:=List.mem_map.1 hx
 obtain⟨p,hp,rfl⟩:=List.mem_map.1 hy
 exact plain_eq (h p hp)
theorem aR_eq {x:Xp} (h:WfX x):aR (xpq x)=xqB (xpq x):=by
 rcases h with ⟨h1,h2⟩ | ⟨h1,-,-,-,h5⟩
 · have hk:¬ (xpq x).k=4:=by
    show ¬ x.k=4
    rcases h1 with ⟨h,-⟩ | ⟨h,-⟩ | ⟨h,-⟩ <;> (intro e; simp only at h; omega)
   rw[aR,if_neg hk]
   exact plain_eq h1
 · have hk:(xpq x).k=4:=h1
   rw[aR,if_pos hk,xqB,exprW,if_neg (by omega),if_neg (by omega),if_neg (by omega),if_pos hk]
   show _++rowB kR 0 ((x.l.map plq).map kP)++_=_
   rw[row_pq h5]
   rfl
theorem row_aq {l:List Xp} (h:∀ x ∈ l,WfX x):rowB aR 0 (l.map xpq)=rowB xqB 0 (l.map xpq):=by
 have e:l.map xpq=(l.map xpq).map id:=by rw[List.map_id]
 rw[e,row_congr aR xqB id,← e]
 intro x hx
 obtain⟨y,hy,rfl⟩:=List.mem_map.1 hx
 exact aR_eq (h y hy)
theorem row_one {α:Type} (f:α→ByteArray) (x:α):rowB f 0 [x]=f x:=by
 show sepW 0++f x++⟨#[]⟩=f x
 rw[add_nos]; exact nos_add _
theorem text_wf {y:It} (h:WfI y):textR (itq y)=itemB y:=by
 rw[← item_L h]
 rcases h with ⟨hk,-,-,-,-,-,p,hv,hp,-⟩ | ⟨hk,-,-,-,hd,hv⟩ | ⟨hk,-,-,-,-,l,hv,-,hp⟩ | ⟨hk,-,-,-,-,-,-,-,hp⟩ | ⟨hk,-,-,-,-,-,ha⟩
 · have e1:(itq y).kind=1:=hk
   have e2:=row_xq (l:=[p]) (by simpa using hp)
   have e3:(itq y).vals=([p].map Pl.xp).map xpq:=by show y.vals.map xpq=_; rw[hv]; rfl
   rw[textR,if_pos e1,itB,bodyB,if_pos e1,listR,e3,e2]
   simp only[ByteArray.append_assoc]
 · have e1:¬ (itq y).kind=1:=by show ¬ y.kind=1; omega
   have e2:(itq y).kind=2:=hk
   rw[textR,if_neg e1,if_pos e2,itB,bodyB,if_neg e1,if_pos e2,varB]
   have ef:frontR (itq y)=⟨#[118,97,114,32]⟩++(if (itq y).bool=true then ⟨#[98,111,111,108]⟩ else domB (itq y).dom)++(⟨#[58,32]⟩++(itq y).name):=by
    rw[frontR,domR,ByteArray.append_assoc (c:=(itq y).name)]
   rcases hv with hv | ⟨p,hv,hp⟩
   · have e3:(itq y).vals = []:=by show y.vals.map xpq=_; rw[hv]; rfl
     rw[← ef,if_pos e3]
     cases ho:(itq y).out with
     | false =>
      rw[show varR (itq y)=frontR (itq y)++(⟨#[59]⟩:ByteArray) by unfold varR; rw[ho,e3],if_neg (by decide),add_nos,add_nos]
     | true =>
      rw[show varR (itq y)=frontR (itq y)++(⟨#[32,58,58,32,111,117,116,112,117,116,95,118,97,114]⟩:ByteArray)++(⟨#[59]⟩:ByteArray) by unfold varR; rw[ho,e3],if_pos rfl,add_nos]
   · have e3:(itq y).vals = [xpq p.xp]:=by show y.vals.map xpq=_; rw[hv]; rfl
     rw[← ef,e3,if_neg (show ¬ ([xpq p.xp]=([]:List Xq)) by simp),row_one]
     cases ho:(itq y).out with
     | false =>
      rw[show varR (itq y)=frontR (itq y)++(⟨#[32,61,32]⟩:ByteArray)++xR (xpq p.xp)++(⟨#[59]⟩:ByteArray) by unfold varR; rw[ho,e3],if_neg (by decide),add_nos,xR_eq hp]
      simp only[ByteArray.append_assoc]
     | true =>
      rw[show varR (itq y)=frontR (itq y)++(⟨#[32,58,58,32,111,117,116,112,117,116,95,118,97,114]⟩:ByteArray)++(⟨#[32,61,32]⟩:ByteArray)++xR (xpq p.xp)++(⟨#[59]⟩:ByteArray) by unfold varR; rw[ho,e3],if_pos rfl,xR_eq hp]
      simp only[ByteArray.append_assoc]
 · have e3:(itq y).vals=(l.map Pl.xp).map xpq:=by show y.vals.map xpq=_; rw[hv]
   have e4:listR (itq y)=rowB xqB 0 (itq y).vals:=by rw[listR,e3,row_xq hp]
   have e1:¬ (itq y).kind=1:=by show ¬ y.kind=1; omega
   have e2:¬ (itq y).kind=2:=by show ¬ y.kind=2; omega
   have e34:(itq y).kind=3∨(itq y).kind=4:=by show y.kind=3∨y.kind=4; omega
   rw[textR,if_neg e1,if_neg e2,if_pos e34,itB,bodyB,if_neg e1,if_neg e2,arrR,e4,headR]
   apply L_inj
   by_cases h3:(itq y).kind=3
   · rw[if_pos h3,if_neg (show ¬ (itq y).kind=4 by rw[h3]; decide),arrB]
     by_cases ho:(itq y).out=true
     · rw[if_pos ho,if_pos ho]; simp[L_append,L_lit,spanB]
     · rw[if_neg ho,if_neg ho]; simp[L_append,L_lit,spanB]
   · have h4:(itq y).kind=4:=e34.resolve_left h3
     rw[if_neg h3,if_pos h4,if_pos h4,arrB]
     by_cases ho:(itq y).out=true
     · rw[if_pos ho,if_pos ho]; simp[L_append,L_lit,spanB]
     · rw[if_neg ho,if_neg ho]; simp[L_append,L_lit,spanB]
 · have n1:¬ (itq y).kind=1:=by show ¬ y.kind=1; omega
   have n2:¬ (itq y).kind=2:=by show ¬ y.kind=2; omega
   have n3:¬ (itq y).kind=3:=by show ¬ y.kind=3; omega
   have n4:¬ (itq y).kind=4:=by show ¬ y.kind=4; omega
   have n5:(itq y).kind=5:=hk
   rw[textR,if_neg n1,if_neg n2,if_neg (by omega),if_pos n5,itB,bodyB,if_neg n1,if_neg n2,if_neg n3,if_neg n4,if_pos n5,show (itq y).vals=y.vals.map xpq from rfl,row_aq hp]
   apply L_inj
   simp[L_append,L_lit]
 · have n1:¬ (itq y).kind=1:=by show ¬ y.kind=1; omega
   have n2:¬ (itq y).kind=2:=by show ¬ y.kind=2; omega
   have n3:¬ (itq y).kind=3:=by show ¬ y.kind=3; omega
   have n4:¬ (itq y).kind=4:=by show ¬ y.kind=4; omega
   have n5:¬ (itq y).kind=5:=by show ¬ y.kind=5; omega
   have n6:(itq y).kind=6:=hk
   have ea:(itq y).ask=y.ask:=rfl
   rw[textR,if_neg n1,if_neg n2,if_neg (by omega),if_neg n5,itB,bodyB,if_neg n1,if_neg n2,if_neg n3,if_neg n4,if_neg n5,if_pos n6,askB]
   apply L_inj
   by_cases a0:(itq y).ask=0
   · rw[if_pos a0,if_pos a0]; simp[L_append,L_lit]
   · rw[if_neg a0,if_neg a0]
     by_cases a1:(itq y).ask=1
     · rw[if_pos a1,if_pos a1]; simp[L_append,L_lit]
     · rw[if_neg a1,if_neg a1,if_pos (by rw[ea] at a0 a1 ⊢; omega)]; simp[L_append,L_lit]
theorem text_size {s:ByteArray} {l:List It} {p:Int} (h:textD s=(l,p,0)):s.size≤8192:=by
 obtain⟨o,e2,-⟩:=text_runs h
 apply Decidable.byContradiction
 intro hn
 unfold splitD at e2
 rw[if_pos (by rw[L_len]; omega)] at e2
 injection e2 with _ e2
 injection e2 with _ e2
 cases e2
theorem right_iff (x:Iq):(∃ y p,textD (textR x)=([y],p,0)∧itq y=x)↔Valid x:=by
 constructor
 · rintro⟨y,p,h,rfl⟩
   have hw:WfI y:=wf_text h y (by simp)
   rw[text_wf hw] at h
   have h8:=text_size h
   exact⟨y,rfl,hw,h8,few_tokens (L_item y) (fit_item hw) h8 h⟩
 · rintro⟨y,rfl,hw⟩
   exact⟨y,0,by rw[text_wf hw.1]; exact one_text hw,rfl⟩
theorem valid_small {x:Iq} (h:Valid x):x.vals.length≤64∧x.dom.length≤256∧∀ v ∈ x.vals,v.l.length≤64:=by
 obtain⟨y,rfl,hw,-⟩:=h
 show (y.vals.map xpq).length≤64∧y.dom.length≤256∧∀ v ∈ y.vals.map xpq,v.l.length≤64
 have pl:∀ (l:List Pl),∀ v ∈ (l.map Pl.xp).map xpq,v.l.length≤64:=by
  intro l v hv
  obtain⟨z,hz,rfl⟩:=List.mem_map.1 hv
  obtain⟨q,-,rfl⟩:=List.mem_map.1 hz
  exact Nat.zero_le _
 rcases hw with ⟨-,-,hd,-,-,-,p,hv,-⟩ | ⟨-,-,-,-,hd,hv⟩ | ⟨-,-,hd,-,-,l,hv,hl,-⟩ | ⟨-,-,-,hd,-,-,-,hl,hp⟩ | ⟨-,-,hd,-,-,hv,-⟩
 · rw[hv,hd]; exact⟨by simp,by simp,pl [p]⟩
 · have hd2:y.dom.length≤256:=by
    split at hd
    · rw[hd]; simp
    · rcases hd with ⟨lo,hi,e,-⟩ | ⟨-,h,-⟩
      · rw[e]; simp
      · exact h
   rcases hv with hv | ⟨p,hv,-⟩
   · rw[hv]; exact⟨by simp,hd2,by simp⟩
   · rw[hv]; exact⟨by simp,hd2,pl [p]⟩
 · rw[hv,hd]; exact⟨by simpa using hl,by simp,pl l⟩
 · rw[hd]
   refine⟨by simpa using hl,by simp,?_⟩
   intro v hv
   obtain⟨z,hz,rfl⟩:=List.mem_map.1 hv
   show (z.l.map plq).length≤64
   rw[List.length_map]
   rcases hp z hz with ⟨-,e⟩ | ⟨-,-,-,h,-⟩
   · rw[e]; simp
   · exact h
 · rw[hv,hd]; simp
end Go.Proofs.YtjmmcnldfkjebaaGreatDoor.Doc7
