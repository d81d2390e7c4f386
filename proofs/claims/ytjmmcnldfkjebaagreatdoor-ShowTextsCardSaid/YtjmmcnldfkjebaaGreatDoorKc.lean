/- Layer 7 (show): too many tokens; when an item's text reads as the item. No code is spoken of. What itemText gi -/
import Derived.Test.YtjmmcnldfkjebaaGreatDoorKb
namespace Go.Proofs.YtjmmcnldfkjebaaGreatDoor.Pge
set_option linter.unusedVariables false
set_option linter.unusedSimpArgs false
open Dig Lx Tk Ps Ti Sh Law07
theorem lexG_big {l:Bs} {i:Nat} {ts:List Tok} (h:Lexes l i ts):∀ (f:Nat) (out:List Tok),l.length<f→out.length≤4096→4096<out.length+ts.length→∃ p,lexG f l i out=([],p,3):=by
 induction h with
 | done i =>
  intro f out hf ho hn
  rw[List.length_nil] at hn; omega
 | @tok l i ts hw hv h ih =>
  intro f out hf ho hn
  obtain⟨f,rfl⟩:∃ k,f=k+1:=⟨f - 1,by omega⟩
  have hp:=(word_pos hw).2
  have hx:=next_pos hw
  simp only[List.length_cons] at hn
  by_cases h4:out.length=4096
  · exact⟨i,by rw[lexG,if_neg (by omega),if_pos h4]⟩
  · rw[lexG,if_neg (by omega),if_neg h4,if_neg hw,if_neg (by rintro⟨h1,h2⟩; exact h2 (hv h1))]
    exact ih f _ (by rw[List.length_drop]; omega) (by simp; omega) (by simp; omega)
theorem split_big {T:ByteArray} {ps:Pcs} (hT:L T=flat ps) (hf:Fit ps) (h8:T.size≤8192) (ht:4096<ps.length):∃ p,splitD (L T)=([],p,3):=by
 obtain⟨us,h1,h2⟩:=lexes_flat ps 0 hf
 have hb:=Fit.front hf
 have hl:us.length=ps.length:=by have:=congrArg List.length h2; simpa using this
 have e8:(L T).length≤8192:=by rw[L_len]; exact h8
 unfold splitD
 rw[if_neg (by omega),hT,hb]
 unfold lexA
 exact lexG_big (by exact h1) _ [] (by rw[List.length_drop]; omega) (by simp) (by simp; omega)
theorem split_small {T:ByteArray} {ps:Pcs} (hT:L T=flat ps) (hf:Fit ps) (h8:T.size≤8192) (ht:ps.length≤4096):∃ us,splitD (L T)=(us,0,0):=by
 obtain⟨us,h1,h2⟩:=lexes_flat ps 0 hf
 have hb:=Fit.front hf
 have hl:us.length=ps.length:=by have:=congrArg List.length h2; simpa using this
 refine⟨us,split_of (by rw[L_len]; exact h8) ?_ (by omega)⟩
 rw[hT,hb]; exact h1
theorem few_tokens {T:ByteArray} {ps:Pcs} (hT:L T=flat ps) (hf:Fit ps) (h8:T.size≤8192) {l:List It} {p:Int} (h:textD T=(l,p,0)):ps.length≤4096:=by
 apply Decidable.byContradiction
 intro hn
 obtain⟨q,e1⟩:=split_big hT hf h8 (by omega)
 obtain⟨o,e2,-⟩:=text_runs h
 rw[e1] at e2
 injection e2 with _ e2
 injection e2 with _ e2
 cases e2
def txtOf (x:Iq):ByteArray:=if (itB x).size≤8192 then itB x else nos
theorem txtOf_le (x:Iq):(txtOf x).size≤8192:=by
 unfold txtOf
 split
 · assumption
 · decide
theorem read_nos:textD nos=([],0,0):=by kernel_rfl
theorem txt_valid {x:Iq} (h:Valid x):∃ y:It,textD (txtOf x)=([y],0,0)∧itq y=x:=by
 obtain⟨y,rfl,hw⟩:=h
 have e:txtOf (itq y)=itemB y:=by
  have e1:=item_L hw.1
  unfold txtOf
  rw[e1,if_pos hw.2.1]
 exact⟨y,by rw[e]; exact one_text hw,rfl⟩
theorem txt_yes {x:Iq} {y:It} {p:Int} (h:textD (txtOf x)=([y],p,0)) (hx:itq y=x):ItemS x (txtOf x) 0:=by
 subst hx
 have hw:WfI y:=wf_text h y (by simp)
 have e1:=item_L hw
 have e:(itemB y).size≤8192∧txtOf (itq y)=itemB y:=by
  by_cases hs:(itB (itq y)).size≤8192
  · exact⟨by rw[← e1]; exact hs,by unfold txtOf; rw[if_pos hs,e1]⟩
  · exfalso
    have:txtOf (itq y)=nos:=if_neg hs
    rw[this,read_nos] at h
    injection h with h _
    cases h
 rw[e.2] at h ⊢
 exact .inr ⟨y,rfl,⟨hw,e.1,few_tokens (L_item y) (fit_item hw) e.1 h⟩,rfl,rfl⟩
theorem txt_no {x:Iq} (h:∀ y,textD (txtOf x)=([y],0,0)→itq y=x→False):ItemS x nos 2:=by
 refine .inl ⟨fun hv => ?_,rfl,rfl⟩
 obtain⟨y,h1,h2⟩:=txt_valid hv
 exact h y h1 h2
end Go.Proofs.YtjmmcnldfkjebaaGreatDoor.Pge
namespace Go.Proofs.YtjmmcnldfkjebaaGreatDoor.Pge
open Go.RowKit
set_option linter.unusedVariables false
set_option linter.unusedSimpArgs false
open Dig Lx Tk Ps Ti Sh Law07
theorem Pg.fresh' (w:World) {b:Nat} (hb:w.heap.size=b):Pg w.heap.size b (some ⟨#[]⟩) (w.alloc (.cells #[.pointer none,.slice none 0 0,.bool false] 51)):=hb ▸ Pg.fresh w
set_option maxRecDepth 20000 in
set_option maxHeartbeats 4000000 in
theorem itemText_gen (ki:Int) (nm:ByteArray) (bo:Bool) (sz:Int) (ou:Bool) (ak:Int) (A1 A2:Option Addr) (p m c1 c2:Nat) (T:ByteArray) (w:World)
 (hI:∀ (b:Nat) (W w2:World),Since w W→W.heap.size=b→Pg W.heap.size b (some ⟨#[]⟩) w2→Since W w2→Calls Tryz.prog 30 #[.pointer (some ⟨b,0,none⟩),.agg #[.int .i64 ki,.string nm,.bool bo,.slice A1 p c1,.int .i64 sz,.bool ou,.slice A2 m c2,.int .i64 ak]] w2 (RetE W b (put (some ⟨#[]⟩) T) w2)) :
 Calls Tryz.prog 17 #[.agg #[.int .i64 ki,.string nm,.bool bo,.slice A1 p c1,.int .i64 sz,.bool ou,.slice A2 m c2,.int .i64 ak]] w fun e w'=>e = .returned (.string (if T.size≤8192 then T else nos))∧Since w w':=by
 have ka:=lH (sA w (.cells #[.int .i64 ki,.string nm,.bool bo,.slice A1 p c1,.int .i64 sz,.bool ou,.slice A2 m c2,.int .i64 ak] 42))
 have sz0:(w.alloc (.cells #[.int .i64 ki,.string nm,.bool bo,.slice A1 p c1,.int .i64 sz,.bool ou,.slice A2 m c2,.int .i64 ak] 42)).heap.size=w.heap.size+1:=by simp
 have kp:=lH (sA (w.alloc (.cells #[.int .i64 ki,.string nm,.bool bo,.slice A1 p c1,.int .i64 sz,.bool ou,.slice A2 m c2,.int .i64 ak] 42)) (.cells #[.pointer none,.slice none 0 0,.bool false] 51))
 have PF:=lH (Pg.fresh' (w.alloc (.cells #[.int .i64 ki,.string nm,.bool bo,.slice A1 p c1,.int .i64 sz,.bool ou,.slice A2 m c2,.int .i64 ak] 42)) sz0)
 have HI:=lH (hI (w.heap.size+1) _ _ ka.out sz0 PF.out kp.out)
 have GB:=(Bx.fresh w #[.int .i64 ki,.string nm,.bool bo,.slice A1 p c1,.int .i64 sz,.bool ou,.slice A2 m c2,.int .i64 ak] 42).since kp.out
 obtain⟨g0,g1,g2,g3,g4,g5,g6,g7⟩:=bx8 GB
 clear hI GB
 have e0:(⟨#[]⟩:ByteArray).size=0:=rfl
 obtain⟨R,hR⟩:∃ R:ByteArray,R=if T.size≤8192 then T else nos:=⟨_,rfl⟩
 rw[← hR]
 have HR:=lH hR
 clear hR
 by_cases hs:T.size≤8192
 · have eP:put (some ⟨#[]⟩) T=some T:=by rw[put_yes (by rw[e0]; omega),nos_add]
   rw[eP] at HI
   have eR:R=T:=by rw[HR.out,if_pos hs]
   subst eR
   clear eP HR
   go_enter Tryz.func17,Tryz.ntmps17
   go_wp2_with (first
    | (go_at_call 30; (with_reducible refine HI.out.mono ?_); rintro e w2 ⟨rfl,p2,s2,q2⟩; have f2:=full_cell p2; simp only[Option.isNone_some] at f2; have SA:=lH (string_any _ _ _ _ p2 s2.size))
    | (go_at_call 12; (with_reducible refine SA.out.mono ?_); rintro e w3 ⟨rfl,h3⟩))
   go_ret
   exact⟨rfl,ka.out.trans (Below.trans s2 h3)⟩
 · have eP:put (some ⟨#[]⟩) T=none:=put_no (by rw[e0]; omega)
   rw[eP] at HI
   have eR:R=nos:=by rw[HR.out,if_neg hs]
   subst eR
   clear eP HR
   go_enter Tryz.func17,Tryz.ntmps17
   go_wp2_with (go_at_call 30; (with_reducible refine HI.out.mono ?_); rintro e w2 ⟨rfl,p2,s2,q2⟩; have f2:=full_cell p2; simp only[Option.isNone_none] at f2)
   go_ret
   exact⟨rfl,ka.out.trans s2⟩
theorem itemText_any (x:Iq) (u:Array Value) (w:World) (ht:TabIn w) (ha:ArgI w x u) (hb:BoI x) :
 Calls Tryz.prog 17 #[.agg u] w fun e w'=>e = .returned (.string (txtOf x))∧Since w w':=by
 obtain⟨A1,c1,A2,c2,rfl,k1,k2⟩:=ha
 obtain⟨ki,nm,bo,dm,sz,ou,vs,ak⟩:=x
 obtain⟨b1,b2,b3,b4,b5,b6⟩:=hb
 refine itemText_gen ki nm bo sz ou ak A1 A2 dm.length vs.length c1 c2 _ w (fun b W w2 hW hb hp hs => ?_)
 refine item_any (w0:=W) (b:=b) ki nm bo sz ou ak A1 A2 dm.length vs.length c1 c2 dm vs rfl b6 (ht.since hW) (fun st w hp hs=>domain_any (ht.since hW) _ dm (k1.since stR hW) b5 b2 st w hp hs)
  (exprs_any (ht.since hW) (k2.since (stXq noG) hW) b3 (fun y hy=>⟨(b4 y hy).2.2.2,(b4 y hy).2.1,fun p hp=>(b4 y hy).2.2.1 p hp |>.2⟩)) _ w2 hp hs
end Go.Proofs.YtjmmcnldfkjebaaGreatDoor.Pge
namespace Go.Proofs.YtjmmcnldfkjebaaGreatDoor.Pge
open Go.RowKit
set_option linter.unusedVariables false
set_option linter.unusedSimpArgs false
open Dig Lx Tk Ps Ti Sh
def RetB (P:Prop) (w:World) (e:Ending) (w':World):Prop:=∃ r:Bool,e = .returned (.bool r)∧(r=true↔P)∧Since w w'
theorem RetB.pre {P:Prop} {w v:World} {e:Ending} {w':World} (h:RetB P w e w') (k:Since v w):RetB P v e w':=by
 obtain⟨r,h1,h2,h3⟩:=h
 exact⟨r,h1,h2,k.trans h3⟩
theorem RetB.iff {P Q:Prop} (hq:P↔Q) {w:World} {e:Ending} {w':World} (h:RetB P w e w'):RetB Q w e w':=by
 obtain⟨r,h1,h2,h3⟩:=h
 exact⟨r,h1,h2.trans hq,h3⟩
theorem RetB.yes {P:Prop} (hP:P) {w:World} {e:Ending} {w':World} (h:RetB P w e w'):e = .returned (.bool true)∧Since w w':=by
 obtain⟨r,h1,h2,h3⟩:=h
 rw[h2.2 hP] at h1
 exact⟨h1,h3⟩
theorem RetB.no {P:Prop} (hP:¬ P) {w:World} {e:Ending} {w':World} (h:RetB P w e w'):e = .returned (.bool false)∧Since w w':=by
 obtain⟨r,h1,h2,h3⟩:=h
 cases r
 · exact⟨h1,h3⟩
 · exact absurd (h2.1 rfl) hP
theorem upto {α:Type} {xs ys:List α} {n:Nat} (hx:n=xs.length) (hy:n=ys.length) (h:∀ j,j<n→xs[j]?=ys[j]?):xs=ys:=by
 apply List.ext_getElem?
 intro j
 rcases Nat.lt_or_ge j n with hj | hj
 · exact h j hj
 · rw[List.getElem?_eq_none (by omega),List.getElem?_eq_none (by omega)]
set_option maxRecDepth 20000 in
set_option maxHeartbeats 4000000 in
theorem equal_any (v1 v2:Value) (xs ys:List (Int × Int)) (w0:World) (h1:Sl 2 QR w0 v1 xs) (h2:Sl 2 QR w0 v2 ys) (hl:ys.length≤100000) (w:World) (hs:Since w0 w) :
 Calls Tryz.prog 32 #[v1,v2] w (RetB (xs=ys) w):=by
 have h1:=h1.since stR hs
 have h2:=h2.since stR hs
 clear hs
 have H1:=lH h1
 have H2:=lH h2
 obtain⟨A1,c1,rfl⟩:=h1.form
 obtain⟨A2,c2,rfl⟩:=h2.form
 obtain⟨n,hnn⟩:∃ n,n=xs.length:=⟨_,rfl⟩
 obtain⟨m,hmm⟩:∃ m,m=ys.length:=⟨_,rfl⟩
 rw[← hnn] at H1 ⊢
 rw[← hmm] at H2 hl ⊢
 have HN:=lH hnn
 have HM:=lH hmm
 clear h1 h2 hnn hmm
 by_cases hnm:n=m
 · subst hnm
   go_enter Tryz.func32,Tryz.ntmps32
   go_wp2
   go_loopw [13] (fun i wr=>∃ k:Nat,i = .int .i64 (k:Int)∧k≤n∧Hid (∀ j,j<k→xs[j]?=ys[j]?)∧Hid (Since w wr)) (fun i _=>n - (intOf i).toNat)
   case atStart=>exact⟨0,rfl,Nat.zero_le _,fun j hj=>absurd hj (Nat.not_lt_zero _),Since.refl _⟩
   case round =>
    obtain⟨k,rfl,hk,HJ,HS⟩:=hrel
    by_cases hkn:k<n
    · have k1:k<xs.length:=by have:=HN.out; omega
      have k2:k<ys.length:=by have:=HM.out; omega
      obtain⟨b1,o1,u1,rfl,q1,ul1,cs1⟩:=H1.out.el k1
      obtain⟨b2,o2,u2,rfl,q2,ul2,cs2⟩:=H2.out.el k2
      have x1:xs[k]?=some xs[k]:=List.getElem?_eq_getElem k1
      have x2:ys[k]?=some ys[k]:=List.getElem?_eq_getElem k2
      obtain⟨y1,e1⟩:∃ y,y=xs[k]:=⟨_,rfl⟩
      obtain⟨y2,e2⟩:∃ y,y=ys[k]:=⟨_,rfl⟩
      rw[← e1] at q1 x1
      rw[← e2] at q2 x2
      obtain⟨lo1,hi1⟩:=y1
      obtain⟨lo2,hi2⟩:=y2
      have up:∀ {p:Addr} {u:Value},w.cell? p=some u→wr.cell? p=some u:=fun g=>(HS.out.cell _ (World.block_lt_of_cell? _ _ g)).trans g
      simp only[QR] at q1 q2
      subst q1 q2
      have f0:=up (cs1 0 _ rfl)
      have f1:=up (cs1 1 _ rfl)
      have g0:=up (cs2 0 _ rfl)
      have g1:=up (cs2 1 _ rfl)
      rw[Nat.add_zero] at f0 g0
      have F0:wr.drew.cell? _=_:=f0
      have F1:wr.drew.cell? _=_:=f1
      have G0:wr.drew.cell? _=_:=g0
      have G1:wr.drew.cell? _=_:=g1
      have X1:=lH x1
      have X2:=lH x2
      clear up e1 e2 ul1 ul2 cs1 cs2 x1 x2
      by_cases hll:lo1=lo2
      · by_cases hhh:hi1=hi2
        · subst hll hhh
          go_wp2
          go_region
          all_goals go_wp2
          all_goals go_roundw
          case rel =>
           refine⟨k+1,by go_num,by omega,fun j hj => ?_,by first | exact HS.out | exact Since.drew HS.out⟩
           rcases Nat.lt_or_ge j k with h | h
           · exact HJ.out j h
           · obtain rfl:j=k:=by omega
             rw[X1.out,X2.out]
          case measure=>simp[intOf]; omega
        · have z2:(hi1 == hi2)=false:=by rw[beq_eq_false_iff_ne]; exact hhh
          subst hll
          have NO:¬ xs=ys:=fun e=>hhh (by
           have:=X1.out.symm.trans ((congrArg (fun l=>l[k]?) e).trans X2.out)
           injection this with this; injection this)
          go_wp2
          go_region
          all_goals go_wp2
          all_goals go_ret
          all_goals exact⟨false,rfl,⟨fun h=>(by cases h),fun h=>absurd h NO⟩,by first | exact HS.out | exact Since.drew HS.out⟩
      · have z1:(lo1 == lo2)=false:=by rw[beq_eq_false_iff_ne]; exact hll
        have NO:¬ xs=ys:=fun e=>hll (by
         have:=X1.out.symm.trans ((congrArg (fun l=>l[k]?) e).trans X2.out)
         injection this with this; injection this)
        go_wp2
        go_region
        all_goals go_wp2
        all_goals go_ret
        all_goals exact⟨false,rfl,⟨fun h=>(by cases h),fun h=>absurd h NO⟩,by first | exact HS.out | exact Since.drew HS.out⟩
    · obtain rfl:k=n:=by omega
      have YES:=upto HN.out HM.out HJ.out
      go_wp2
      go_ret
      exact⟨true,rfl,⟨fun _=>YES,fun _=>rfl⟩,HS.out⟩
 · have NO:¬ xs=ys:=fun e=>hnm (by rw[HN.out,HM.out,e])
   have z1:((n:Int) == (m:Int))=false:=by rw[beq_eq_false_iff_ne]; omega
   go_enter Tryz.func32,Tryz.ntmps32
   go_wp2
   go_ret
   exact⟨false,rfl,⟨fun h=>(by cases h),fun h=>absurd h NO⟩,Since.refl _⟩
def Alike {α β:Type} (S:α→β→Prop) (xs:List α) (ys:List β):Prop:=xs.length=ys.length∧∀ (j:Nat) (x:α) (y:β),xs[j]?=some x→ys[j]?=some y→S x y
set_option maxRecDepth 20000 in
set_option maxHeartbeats 4000000 in
theorem equalFunc_any {α β:Type} {Q1:World→α→List Value→Prop} {Q2:World→β→List Value→Prop} (S:α→β→Prop) (v1 v2:Value) (xs:List α) (ys:List β) (w0:World) (h1:Sl 4 Q1 w0 v1 xs) (h2:Sl 4 Q2 w0 v2 ys) (hl:ys.length≤100000)
 (hQ1:∀ x u,x ∈ xs→Q1 w0 x u→∃ (k n:Int) (s:ByteArray) (A:Option Addr) (m c:Nat),u = [.int .i64 k,.int .i64 n,.string s,.slice A m c]) (hQ2:∀ y u,y ∈ ys→Q2 w0 y u→∃ (k n:Int) (s:ByteArray) (A:Option Addr) (m c:Nat),u = [.int .i64 k,.int .i64 n,.string s,.slice A m c])
 (hS:∀ x y u1 u2,x ∈ xs→y ∈ ys→Q1 w0 x u1→Q2 w0 y u2→∀ w,Since w0 w→Calls Tryz.prog 34 #[.agg u1.toArray,.agg u2.toArray] w (RetB (S x y) w)) (w:World) (hs:Since w0 w) :
 Calls Tryz.prog 33 #[v1,v2,.func (.func 34) #[] #[]] w (RetB (Alike S xs ys) w):=by
 have H1:=lH h1
 have H2:=lH h2
 have SE:=lH hS
 have HQ1:=lH hQ1
 have HQ2:=lH hQ2
 have HW:=lH hs
 obtain⟨A1,c1,rfl⟩:=h1.form
 obtain⟨A2,c2,rfl⟩:=h2.form
 obtain⟨n,hnn⟩:∃ n,n=xs.length:=⟨_,rfl⟩
 obtain⟨m,hmm⟩:∃ m,m=ys.length:=⟨_,rfl⟩
 rw[← hnn] at H1 ⊢
 rw[← hmm] at H2 hl ⊢
 have HN:=lH hnn
 have HM:=lH hmm
 clear h1 h2 hnn hmm hS hs hQ1 hQ2
 by_cases hnm:n=m
 · subst hnm
   go_enter Tryz.func33,Tryz.ntmps33
   go_wp2
   go_loopw [17] (fun i wr=>∃ k:Nat,i = .int .i64 (k:Int)∧k≤n∧Hid (∀ j:Nat,j<k→∀ (x:α) (y:β),xs[j]?=some x→ys[j]?=some y→S x y)∧Hid (Since w wr)) (fun i _=>n - (intOf i).toNat)
   case atStart=>exact⟨0,rfl,Nat.zero_le _,fun j hj=>absurd hj (Nat.not_lt_zero _),Since.refl _⟩
   case round =>
    obtain⟨k,rfl,hk,HJ,HS⟩:=hrel
    by_cases hkn:k<n
    · have k1:k<xs.length:=by have:=HN.out; omega
      have k2:k<ys.length:=by have:=HM.out; omega
      obtain⟨b1,o1,u1,rfl,q1,ul1,cs1⟩:=H1.out.el k1
      obtain⟨b2,o2,u2,rfl,q2,ul2,cs2⟩:=H2.out.el k2
      obtain⟨ka,na,sa,Aa,ma,ca,rfl⟩:=HQ1.out _ _ (List.getElem_mem k1) q1
      obtain⟨kb,nb,sb,Ab,mb,cb,rfl⟩:=HQ2.out _ _ (List.getElem_mem k2) q2
      have x1:xs[k]?=some xs[k]:=List.getElem?_eq_getElem k1
      have x2:ys[k]?=some ys[k]:=List.getElem?_eq_getElem k2
      have SS:=lH (SE.out xs[k] ys[k] _ _ (List.getElem_mem k1) (List.getElem_mem k2) q1 q2)
      obtain⟨P,hP⟩:∃ P,P=S xs[k] ys[k]:=⟨_,rfl⟩
      rw[← hP] at SS
      have HP:=lH hP
      have up:∀ {p:Addr} {u:Value},w0.cell? p=some u→wr.cell? p=some u:=fun g=>((HW.out.trans HS.out).cell _ (World.block_lt_of_cell? _ _ g)).trans g
      have f0:=up (cs1 0 _ rfl)
      have f1:=up (cs1 1 _ rfl)
      have f2:=up (cs1 2 _ rfl)
      have f3:=up (cs1 3 _ rfl)
      have g0:=up (cs2 0 _ rfl)
      have g1:=up (cs2 1 _ rfl)
      have g2:=up (cs2 2 _ rfl)
      have g3:=up (cs2 3 _ rfl)
      rw[Nat.add_zero] at f0 g0
      have X1:=lH x1
      have X2:=lH x2
      have s1:=HW.out.trans HS.out
      have s2:=s1.trans (sA wr (.cells #[.int .i64 ka,.int .i64 na,.string sa,.slice Aa ma ca] 93))
      have s3:=s2.trans (sA _ (.cells #[.int .i64 kb,.int .i64 nb,.string sb,.slice Ab mb cb] 93))
      have hb1:=World.block_lt_of_cell? _ _ g0
      clear up ul1 ul2 cs1 cs2 x1 x2 q1 q2 hP
      go_wp2_with (go_at_call 34; (with_reducible refine (SS.out _ s3).mono ?_); rintro e w3 ⟨r,rfl,hr,h3⟩; cases r)
      · go_ret
        have NO:¬ Alike S xs ys:=fun e=>absurd (hr.2 (by rw[HP.out]; exact e.2 k _ _ X1.out X2.out)) (by decide)
        exact⟨false,rfl,⟨fun h=>(by cases h),fun h=>absurd h NO⟩,HS.out.trans (((sA _ _).trans (sA _ _)).trans h3)⟩
      · go_roundw
        case rel =>
         refine⟨k+1,by go_num,by omega,fun j hj x y hx hy => ?_,HS.out.trans (((sA _ _).trans (sA _ _)).trans h3)⟩
         rcases Nat.lt_or_ge j k with h | h
         · exact HJ.out j h x y hx hy
         · obtain rfl:j=k:=by omega
           rw[X1.out] at hx; rw[X2.out] at hy
           injection hx with hx; injection hy with hy
           subst hx hy
           rw[← HP.out]; exact hr.1 (by trivial)
        case measure=>simp[intOf]; omega
    · obtain rfl:k=n:=by omega
      have YES:Alike S xs ys:=⟨by rw[← HN.out,← HM.out],fun j x y hx hy=>HJ.out j (by
       rw[HN.out]
       apply Decidable.byContradiction; intro hn
       rw[List.getElem?_eq_none (by omega)] at hx; cases hx) x y hx hy⟩
      go_wp2
      go_ret
      exact⟨true,rfl,⟨fun _=>YES,fun _=>rfl⟩,HS.out⟩
 · have NO:¬ Alike S xs ys:=fun e=>hnm (by rw[HN.out,HM.out]; exact e.1)
   have z1:((n:Int) == (m:Int))=false:=by rw[beq_eq_false_iff_ne]; omega
   go_enter Tryz.func33,Tryz.ntmps33
   go_wp2
   go_ret
   exact⟨false,rfl,⟨fun h=>(by cases h),fun h=>absurd h NO⟩,Since.refl _⟩
end Go.Proofs.YtjmmcnldfkjebaaGreatDoor.Pge
namespace Go.Proofs.YtjmmcnldfkjebaaGreatDoor.Pge
open Go.RowKit
set_option linter.unusedVariables false
set_option linter.unusedSimpArgs false
open Dig Lx Tk Ps Ti Sh
theorem equalFunc_none (A1 A2:Option Addr) (c1 m c2:Nat) (hm:m≤100000) (w:World):Calls Tryz.prog 33 #[.slice A1 0 c1,.slice A2 m c2,.func (.func 34) #[] #[]] w (RetB (m=0) w):=by
 by_cases h:m=0
 · subst h
   go_enter Tryz.func33,Tryz.ntmps33
   go_wp2
   go_loopw [17] (fun i wr=>i = .int .i64 0∧Hid (wr=w)) (fun i _=>0)
   case atStart=>exact⟨rfl,rfl⟩
   case round =>
    obtain⟨rfl,HW⟩:=hrel
    go_wp2
    go_ret
    exact⟨true,rfl,⟨fun _=>by trivial,fun _=>rfl⟩,HW.out ▸ Since.refl _⟩
 · have z1:((0:Int) == (m:Int))=false:=by rw[beq_eq_false_iff_ne]; omega
   go_enter Tryz.func33,Tryz.ntmps33
   go_wp2
   go_ret
   exact⟨false,rfl,⟨fun h=>(by cases h),fun h'=>absurd h' h⟩,Since.refl _⟩
theorem four4 {W:World} {g:Nat} {z0 z1 z2 z3:Value} {t:TypeId} (h:Bx W g #[z0,z1,z2,z3] t) :
 W.cell? ⟨g,0,none⟩=some z0∧W.cell? ⟨g,1,none⟩=some z1∧W.cell? ⟨g,2,none⟩=some z2∧W.cell? ⟨g,3,none⟩=some z3:=
 ⟨h.cell 0,h.cell 1,h.cell 2,h.cell 3⟩
set_option maxRecDepth 20000 in
set_option maxHeartbeats 4000000 in
theorem same_gen (k n k' n':Int) (s s':ByteArray) (A A':Option Addr) (m c m' c':Nat) (P:Prop) (w:World)
 (hE:∀ W,Since w W→Calls Tryz.prog 33 #[.slice A m c,.slice A' m' c',.func (.func 34) #[] #[]] W (RetB P W)) :
 Calls Tryz.prog 34 #[.agg #[.int .i64 k,.int .i64 n,.string s,.slice A m c],.agg #[.int .i64 k',.int .i64 n',.string s',.slice A' m' c']] w (RetB (k=k'∧n=n'∧s=s'∧P) w):=by
 have HE:=lH hE
 clear hE
 obtain⟨R,hR⟩:∃ R:Prop,R=(k=k'∧n=n'∧s=s'∧P):=⟨_,rfl⟩
 rw[← hR]
 have HR:=lH hR
 clear hR
 have ka:=lH (sA w (.cells #[.int .i64 k,.int .i64 n,.string s,.slice A m c] 93))
 have kb:=lH (sA (w.alloc (.cells #[.int .i64 k,.int .i64 n,.string s,.slice A m c] 93)) (.cells #[.int .i64 k',.int .i64 n',.string s',.slice A' m' c'] 93))
 have GA:=lH ((Bx.fresh w #[.int .i64 k,.int .i64 n,.string s,.slice A m c] 93).since kb.out)
 have GB:=lH (Bx.fresh (w.alloc (.cells #[.int .i64 k,.int .i64 n,.string s,.slice A m c] 93)) #[.int .i64 k',.int .i64 n',.string s',.slice A' m' c'] 93)
 obtain⟨g0,g1,g2,g3⟩:=four4 GA.out
 obtain⟨d0,d1,d2,d3⟩:=four4 GB.out
 have hsz:(w.alloc (.cells #[.int .i64 k,.int .i64 n,.string s,.slice A m c] 93)).heap.size=w.heap.size+1:=by simp
 simp only[hsz] at d0 d1 d2 d3
 by_cases e0:k=k'
 rotate_left
 · have z0:(k == k')=false:=by rw[beq_eq_false_iff_ne]; exact e0
   go_enter Tryz.func34,Tryz.ntmps34
   go_wp2
   go_ret
   exact⟨false,rfl,⟨fun h=>(by cases h),fun h=>absurd (HR.out.mp h).1 e0⟩,ka.out.trans kb.out⟩
 subst e0
 by_cases e1:n=n'
 rotate_left
 · have z1:(n == n')=false:=by rw[beq_eq_false_iff_ne]; exact e1
   go_enter Tryz.func34,Tryz.ntmps34
   go_wp2
   go_ret
   exact⟨false,rfl,⟨fun h=>(by cases h),fun h=>absurd (HR.out.mp h).2.1 e1⟩,ka.out.trans kb.out⟩
 subst e1
 by_cases e2:s=s'
 rotate_left
 · have z2:(s.toList == s'.toList)=false:=by rw[ByteArray.toList_eq,ByteArray.toList_eq,beq_eq_false_iff_ne]; exact fun h=>e2 (L_inj h)
   go_enter Tryz.func34,Tryz.ntmps34
   go_wp2
   go_ret
   exact⟨false,rfl,⟨fun h=>(by cases h),fun h=>absurd (HR.out.mp h).2.2.1 e2⟩,ka.out.trans kb.out⟩
 subst e2
 go_enter Tryz.func34,Tryz.ntmps34
 go_wp2_with (go_at_call 33; (with_reducible refine (HE.out _ (ka.out.trans kb.out)).mono ?_); rintro e w3 ⟨r,rfl,hr,h3⟩)
 go_ret
 exact⟨r,rfl,hr.trans ⟨fun h=>HR.out.mpr ⟨by trivial,by trivial,by trivial,h⟩,fun h=>(HR.out.mp h).2.2.2⟩,(ka.out.trans kb.out).trans h3⟩
theorem same_inner {w0:World} {G:Nat→Prop} (p:Pl) (q:Pq) (u1 u2:List Value) (h1:QP w0 p u1) (h2:QPq G w0 q u2) (hq:q.d≤100000) (w:World):Calls Tryz.prog 34 #[.agg u1.toArray,.agg u2.toArray] w (RetB (plq p=q) w):=by
 obtain⟨A,c,rfl⟩:=h1
 obtain⟨A',c',rfl,-⟩:=h2
 have hd:dlen q.d≤100000:=by
  rcases q with ⟨_,_,_,d⟩
  match d,hq with
  | 0,_=>exact Nat.zero_le _
  | 1,_=>exact (by decide:1≤100000)
  | d+2,h =>
   have h2:d+2≤100000:=h
   exact (by omega:d+1≤100000)
 refine (same_gen p.k p.n q.k q.n p.s q.s A A' 0 c (dlen q.d) c' (dlen q.d=0) w (fun W _=>equalFunc_none A A' c (dlen q.d) c' hd W)).mono fun e w' r=>r.iff ?_
 obtain⟨k,n,s⟩:=p
 obtain⟨k',n',s',d⟩:=q
 simp only[plq,Pq.mk.injEq]
 have e:dlen d=0↔0=d:=by
  match d with
  | 0=>exact⟨fun _=>rfl,fun _=>rfl⟩
  | 1=>exact⟨fun h=>(by cases h),fun h=>(by cases h)⟩
  | d+2=>exact⟨fun h=>(by cases h),fun h=>(by cases h)⟩
 rw[e]
theorem alike_map {α β:Type} (f:α→β) (xs:List α) (ys:List β):Alike (fun x y=>f x=y) xs ys↔xs.map f=ys:=by
 constructor
 · rintro⟨h1,h2⟩
   refine upto (n:=xs.length) (by rw[List.length_map]) h1 fun j hj => ?_
   have hj2:j<ys.length:=by omega
   rw[List.getElem?_map,List.getElem?_eq_getElem hj,List.getElem?_eq_getElem hj2]
   exact congrArg some (h2 j _ _ (List.getElem?_eq_getElem hj) (List.getElem?_eq_getElem hj2))
 · rintro rfl
   refine⟨by rw[List.length_map],fun j x y hx hy => ?_⟩
   rw[List.getElem?_map,hx] at hy
   injection hy
theorem same_expr {w0:World} {G G':Nat→Prop} (x:Xp) (y:Xq) (u1 u2:List Value) (h1:QX G' w0 x u1) (h2:QXq G w0 y u2) (hl:y.l.length≤100000) (hy:∀ p ∈ y.l,p.d≤100000) (w:World) (hs:Since w0 w):Calls Tryz.prog 34 #[.agg u1.toArray,.agg u2.toArray] w (RetB (xpq x=y) w):=by
 obtain⟨v1,rfl,g1,-⟩:=h1
 obtain⟨v2,rfl,g2,-⟩:=h2
 have f1:=g1.form
 have f2:=g2.form
 obtain⟨A1,c1,rfl⟩:=f1
 obtain⟨A2,c2,rfl⟩:=f2
 refine (same_gen x.k x.n y.k y.n x.s y.s A1 A2 _ c1 _ c2 (Alike (fun p q=>plq p=q) x.l y.l) w (fun W k => ?_)).mono fun e w' r=>r.iff ?_
 · refine equalFunc_any (Q1:=QP) (Q2:=QPq G) (fun p q=>plq p=q) _ _ x.l y.l w0 g1 g2 hl ?_ ?_ ?_ W (hs.trans k)
   · rintro p u - ⟨A,c,rfl⟩
     exact⟨_,_,_,_,_,_,rfl⟩
   · rintro p u - ⟨A,c,rfl,-⟩
     exact⟨_,_,_,_,_,_,rfl⟩
   · intro p q u1 u2 _ hq k1 k2 W' _
     exact same_inner p q u1 u2 k1 k2 (hy q hq) W'
 · rw[alike_map]
   obtain⟨k,n,s,l⟩:=x
   obtain⟨k',n',s',l'⟩:=y
   simp only[xpq,Xq.mk.injEq]
theorem same_exprs {w0:World} {G G':Nat→Prop} (xs:List Xp) (ys:List Xq) (v1 v2:Value) (h1:Sl 4 (QX G') w0 v1 xs) (h2:Sl 4 (QXq G) w0 v2 ys) (hl:ys.length≤100000) (hy:∀ y ∈ ys,y.l.length≤100000∧∀ p ∈ y.l,p.d≤100000) (w:World) (hs:Since w0 w) :
 Calls Tryz.prog 33 #[v1,v2,.func (.func 34) #[] #[]] w (RetB (xs.map xpq=ys) w):=by
 refine (equalFunc_any (Q1:=QX G') (Q2:=QXq G) (fun x y=>xpq x=y) v1 v2 xs ys w0 h1 h2 hl ?_ ?_ ?_ w hs).mono fun e w' r=>r.iff (alike_map xpq xs ys)
 · rintro p u - ⟨v,rfl,k,-⟩
   obtain⟨A,c,rfl⟩:=k.form
   exact⟨_,_,_,_,_,_,rfl⟩
 · rintro p u - ⟨v,rfl,k,-⟩
   obtain⟨A,c,rfl⟩:=k.form
   exact⟨_,_,_,_,_,_,rfl⟩
 · intro x y u1 u2 _ hq k1 k2 W' hW
   exact same_expr x y u1 u2 k1 k2 (hy y hq).1 (hy y hq).2 W' hW
end Go.Proofs.YtjmmcnldfkjebaaGreatDoor.Pge
namespace Go.Proofs.YtjmmcnldfkjebaaGreatDoor.Pge
open Go.RowKit
set_option linter.unusedVariables false
set_option linter.unusedSimpArgs false
open Dig Lx Tk Ps Ti Sh
set_option maxRecDepth 20000 in
set_option maxHeartbeats 8000000 in
theorem item_no0 (ki:Int) (nm:ByteArray) (bo:Bool) (sz:Int) (ou:Bool) (ak:Int) (ki':Int) (nm':ByteArray) (bo':Bool) (sz':Int) (ou':Bool) (ak':Int) (D1 V1 D2 V2:Option Addr) (dn1 dc1 vn1 vc1 dn2 dc2 vn2 vc2:Nat) (w:World) (hne:ki≠ki') :
 Calls Tryz.prog 19 #[.agg #[.int .i64 ki,.string nm,.bool bo,.slice D1 dn1 dc1,.int .i64 sz,.bool ou,.slice V1 vn1 vc1,.int .i64 ak],.agg #[.int .i64 ki',.string nm',.bool bo',.slice D2 dn2 dc2,.int .i64 sz',.bool ou',.slice V2 vn2 vc2,.int .i64 ak']] w fun e w'=>e = .returned (.bool false)∧Since w w':=by
 have ka:=lH (sA w (.cells #[.int .i64 ki,.string nm,.bool bo,.slice D1 dn1 dc1,.int .i64 sz,.bool ou,.slice V1 vn1 vc1,.int .i64 ak] 42))
 have kb:=lH (sA (w.alloc (.cells #[.int .i64 ki,.string nm,.bool bo,.slice D1 dn1 dc1,.int .i64 sz,.bool ou,.slice V1 vn1 vc1,.int .i64 ak] 42)) (.cells #[.int .i64 ki',.string nm',.bool bo',.slice D2 dn2 dc2,.int .i64 sz',.bool ou',.slice V2 vn2 vc2,.int .i64 ak'] 42))
 have GA:=lH ((Bx.fresh w #[.int .i64 ki,.string nm,.bool bo,.slice D1 dn1 dc1,.int .i64 sz,.bool ou,.slice V1 vn1 vc1,.int .i64 ak] 42).since kb.out)
 have GB:=lH (Bx.fresh (w.alloc (.cells #[.int .i64 ki,.string nm,.bool bo,.slice D1 dn1 dc1,.int .i64 sz,.bool ou,.slice V1 vn1 vc1,.int .i64 ak] 42)) #[.int .i64 ki',.string nm',.bool bo',.slice D2 dn2 dc2,.int .i64 sz',.bool ou',.slice V2 vn2 vc2,.int .i64 ak'] 42)
 obtain⟨g0,g1,g2,g3,g4,g5,g6,g7⟩:=bx8 GA.out
 obtain⟨d0,d1,d2,d3,d4,d5,d6,d7⟩:=bx8 GB.out
 have hsz:(w.alloc (.cells #[.int .i64 ki,.string nm,.bool bo,.slice D1 dn1 dc1,.int .i64 sz,.bool ou,.slice V1 vn1 vc1,.int .i64 ak] 42)).heap.size=w.heap.size+1:=by simp
 simp only[hsz] at d0 d1 d2 d3 d4 d5 d6 d7
 have z:(ki == ki')=false:=by rw[beq_eq_false_iff_ne]; exact hne
 clear hne
 go_enter Tryz.func19,Tryz.ntmps19
 go_wp2
 go_ret
 exact⟨rfl,ka.out.trans kb.out⟩
set_option maxRecDepth 20000 in
set_option maxHeartbeats 8000000 in
theorem item_no1 (ki:Int) (nm:ByteArray) (bo:Bool) (sz:Int) (ou:Bool) (ak:Int) (nm':ByteArray) (bo':Bool) (sz':Int) (ou':Bool) (ak':Int) (D1 V1 D2 V2:Option Addr) (dn1 dc1 vn1 vc1 dn2 dc2 vn2 vc2:Nat) (w:World) (hne:nm≠nm') :
 Calls Tryz.prog 19 #[.agg #[.int .i64 ki,.string nm,.bool bo,.slice D1 dn1 dc1,.int .i64 sz,.bool ou,.slice V1 vn1 vc1,.int .i64 ak],.agg #[.int .i64 ki,.string nm',.bool bo',.slice D2 dn2 dc2,.int .i64 sz',.bool ou',.slice V2 vn2 vc2,.int .i64 ak']] w fun e w'=>e = .returned (.bool false)∧Since w w':=by
 have ka:=lH (sA w (.cells #[.int .i64 ki,.string nm,.bool bo,.slice D1 dn1 dc1,.int .i64 sz,.bool ou,.slice V1 vn1 vc1,.int .i64 ak] 42))
 have kb:=lH (sA (w.alloc (.cells #[.int .i64 ki,.string nm,.bool bo,.slice D1 dn1 dc1,.int .i64 sz,.bool ou,.slice V1 vn1 vc1,.int .i64 ak] 42)) (.cells #[.int .i64 ki,.string nm',.bool bo',.slice D2 dn2 dc2,.int .i64 sz',.bool ou',.slice V2 vn2 vc2,.int .i64 ak'] 42))
 have GA:=lH ((Bx.fresh w #[.int .i64 ki,.string nm,.bool bo,.slice D1 dn1 dc1,.int .i64 sz,.bool ou,.slice V1 vn1 vc1,.int .i64 ak] 42).since kb.out)
 have GB:=lH (Bx.fresh (w.alloc (.cells #[.int .i64 ki,.string nm,.bool bo,.slice D1 dn1 dc1,.int .i64 sz,.bool ou,.slice V1 vn1 vc1,.int .i64 ak] 42)) #[.int .i64 ki,.string nm',.bool bo',.slice D2 dn2 dc2,.int .i64 sz',.bool ou',.slice V2 vn2 vc2,.int .i64 ak'] 42)
 obtain⟨g0,g1,g2,g3,g4,g5,g6,g7⟩:=bx8 GA.out
 obtain⟨d0,d1,d2,d3,d4,d5,d6,d7⟩:=bx8 GB.out
 have hsz:(w.alloc (.cells #[.int .i64 ki,.string nm,.bool bo,.slice D1 dn1 dc1,.int .i64 sz,.bool ou,.slice V1 vn1 vc1,.int .i64 ak] 42)).heap.size=w.heap.size+1:=by simp
 simp only[hsz] at d0 d1 d2 d3 d4 d5 d6 d7
 have z:(nm.toList == nm'.toList)=false:=by rw[ByteArray.toList_eq,ByteArray.toList_eq,beq_eq_false_iff_ne]; exact fun h=>hne (L_inj h)
 clear hne
 go_enter Tryz.func19,Tryz.ntmps19
 go_wp2
 go_ret
 exact⟨rfl,ka.out.trans kb.out⟩
end Go.Proofs.YtjmmcnldfkjebaaGreatDoor.Pge
namespace Go.Proofs.YtjmmcnldfkjebaaGreatDoor.Pge
open Go.RowKit
set_option linter.unusedVariables false
set_option linter.unusedSimpArgs false
open Dig Lx Tk Ps Ti Sh
set_option maxRecDepth 20000 in
set_option maxHeartbeats 8000000 in
theorem item_no2 (ki:Int) (nm:ByteArray) (bo:Bool) (sz:Int) (ou:Bool) (ak:Int) (bo':Bool) (sz':Int) (ou':Bool) (ak':Int) (D1 V1 D2 V2:Option Addr) (dn1 dc1 vn1 vc1 dn2 dc2 vn2 vc2:Nat) (w:World) (hne:bo≠bo') :
 Calls Tryz.prog 19 #[.agg #[.int .i64 ki,.string nm,.bool bo,.slice D1 dn1 dc1,.int .i64 sz,.bool ou,.slice V1 vn1 vc1,.int .i64 ak],.agg #[.int .i64 ki,.string nm,.bool bo',.slice D2 dn2 dc2,.int .i64 sz',.bool ou',.slice V2 vn2 vc2,.int .i64 ak']] w fun e w'=>e = .returned (.bool false)∧Since w w':=by
 have ka:=lH (sA w (.cells #[.int .i64 ki,.string nm,.bool bo,.slice D1 dn1 dc1,.int .i64 sz,.bool ou,.slice V1 vn1 vc1,.int .i64 ak] 42))
 have kb:=lH (sA (w.alloc (.cells #[.int .i64 ki,.string nm,.bool bo,.slice D1 dn1 dc1,.int .i64 sz,.bool ou,.slice V1 vn1 vc1,.int .i64 ak] 42)) (.cells #[.int .i64 ki,.string nm,.bool bo',.slice D2 dn2 dc2,.int .i64 sz',.bool ou',.slice V2 vn2 vc2,.int .i64 ak'] 42))
 have GA:=lH ((Bx.fresh w #[.int .i64 ki,.string nm,.bool bo,.slice D1 dn1 dc1,.int .i64 sz,.bool ou,.slice V1 vn1 vc1,.int .i64 ak] 42).since kb.out)
 have GB:=lH (Bx.fresh (w.alloc (.cells #[.int .i64 ki,.string nm,.bool bo,.slice D1 dn1 dc1,.int .i64 sz,.bool ou,.slice V1 vn1 vc1,.int .i64 ak] 42)) #[.int .i64 ki,.string nm,.bool bo',.slice D2 dn2 dc2,.int .i64 sz',.bool ou',.slice V2 vn2 vc2,.int .i64 ak'] 42)
 obtain⟨g0,g1,g2,g3,g4,g5,g6,g7⟩:=bx8 GA.out
 obtain⟨d0,d1,d2,d3,d4,d5,d6,d7⟩:=bx8 GB.out
 have hsz:(w.alloc (.cells #[.int .i64 ki,.string nm,.bool bo,.slice D1 dn1 dc1,.int .i64 sz,.bool ou,.slice V1 vn1 vc1,.int .i64 ak] 42)).heap.size=w.heap.size+1:=by simp
 simp only[hsz] at d0 d1 d2 d3 d4 d5 d6 d7
 have z:(bo == bo')=false:=by rw[beq_eq_false_iff_ne]; exact hne
 clear hne
 go_enter Tryz.func19,Tryz.ntmps19
 go_wp2
 go_ret
 exact⟨rfl,ka.out.trans kb.out⟩
set_option maxRecDepth 20000 in
set_option maxHeartbeats 8000000 in
theorem item_no3 (ki:Int) (nm:ByteArray) (bo:Bool) (sz:Int) (ou:Bool) (ak:Int) (sz':Int) (ou':Bool) (ak':Int) (D1 V1 D2 V2:Option Addr) (dn1 dc1 vn1 vc1 dn2 dc2 vn2 vc2:Nat) (w:World) (hne:sz≠sz') :
 Calls Tryz.prog 19 #[.agg #[.int .i64 ki,.string nm,.bool bo,.slice D1 dn1 dc1,.int .i64 sz,.bool ou,.slice V1 vn1 vc1,.int .i64 ak],.agg #[.int .i64 ki,.string nm,.bool bo,.slice D2 dn2 dc2,.int .i64 sz',.bool ou',.slice V2 vn2 vc2,.int .i64 ak']] w fun e w'=>e = .returned (.bool false)∧Since w w':=by
 have ka:=lH (sA w (.cells #[.int .i64 ki,.string nm,.bool bo,.slice D1 dn1 dc1,.int .i64 sz,.bool ou,.slice V1 vn1 vc1,.int .i64 ak] 42))
 have kb:=lH (sA (w.alloc (.cells #[.int .i64 ki,.string nm,.bool bo,.slice D1 dn1 dc1,.int .i64 sz,.bool ou,.slice V1 vn1 vc1,.int .i64 ak] 42)) (.cells #[.int .i64 ki,.string nm,.bool bo,.slice D2 dn2 dc2,.int .i64 sz',.bool ou',.slice V2 vn2 vc2,.int .i64 ak'] 42))
 have GA:=lH ((Bx.fresh w #[.int .i64 ki,.string nm,.bool bo,.slice D1 dn1 dc1,.int .i64 sz,.bool ou,.slice V1 vn1 vc1,.int .i64 ak] 42).since kb.out)
 have GB:=lH (Bx.fresh (w.alloc (.cells #[.int .i64 ki,.string nm,.bool bo,.slice D1 dn1 dc1,.int .i64 sz,.bool ou,.slice V1 vn1 vc1,.int .i64 ak] 42)) #[.int .i64 ki,.string nm,.bool bo,.slice D2 dn2 dc2,.int .i64 sz',.bool ou',.slice V2 vn2 vc2,.int .i64 ak'] 42)
 obtain⟨g0,g1,g2,g3,g4,g5,g6,g7⟩:=bx8 GA.out
 obtain⟨d0,d1,d2,d3,d4,d5,d6,d7⟩:=bx8 GB.out
 have hsz:(w.alloc (.cells #[.int .i64 ki,.string nm,.bool bo,.slice D1 dn1 dc1,.int .i64 sz,.bool ou,.slice V1 vn1 vc1,.int .i64 ak] 42)).heap.size=w.heap.size+1:=by simp
 simp only[hsz] at d0 d1 d2 d3 d4 d5 d6 d7
 have z:(sz == sz')=false:=by rw[beq_eq_false_iff_ne]; exact hne
 clear hne
 go_enter Tryz.func19,Tryz.ntmps19
 go_wp2
 go_ret
 exact⟨rfl,ka.out.trans kb.out⟩
end Go.Proofs.YtjmmcnldfkjebaaGreatDoor.Pge
namespace Go.Proofs.YtjmmcnldfkjebaaGreatDoor.Pge
open Go.RowKit
set_option linter.unusedVariables false
set_option linter.unusedSimpArgs false
open Dig Lx Tk Ps Ti Sh
set_option maxRecDepth 20000 in
set_option maxHeartbeats 8000000 in
theorem item_no4 (ki:Int) (nm:ByteArray) (bo:Bool) (sz:Int) (ou:Bool) (ak:Int) (ou':Bool) (ak':Int) (D1 V1 D2 V2:Option Addr) (dn1 dc1 vn1 vc1 dn2 dc2 vn2 vc2:Nat) (w:World) (hne:ou≠ou') :
 Calls Tryz.prog 19 #[.agg #[.int .i64 ki,.string nm,.bool bo,.slice D1 dn1 dc1,.int .i64 sz,.bool ou,.slice V1 vn1 vc1,.int .i64 ak],.agg #[.int .i64 ki,.string nm,.bool bo,.slice D2 dn2 dc2,.int .i64 sz,.bool ou',.slice V2 vn2 vc2,.int .i64 ak']] w fun e w'=>e = .returned (.bool false)∧Since w w':=by
 have ka:=lH (sA w (.cells #[.int .i64 ki,.string nm,.bool bo,.slice D1 dn1 dc1,.int .i64 sz,.bool ou,.slice V1 vn1 vc1,.int .i64 ak] 42))
 have kb:=lH (sA (w.alloc (.cells #[.int .i64 ki,.string nm,.bool bo,.slice D1 dn1 dc1,.int .i64 sz,.bool ou,.slice V1 vn1 vc1,.int .i64 ak] 42)) (.cells #[.int .i64 ki,.string nm,.bool bo,.slice D2 dn2 dc2,.int .i64 sz,.bool ou',.slice V2 vn2 vc2,.int .i64 ak'] 42))
 have GA:=lH ((Bx.fresh w #[.int .i64 ki,.string nm,.bool bo,.slice D1 dn1 dc1,.int .i64 sz,.bool ou,.slice V1 vn1 vc1,.int .i64 ak] 42).since kb.out)
 have GB:=lH (Bx.fresh (w.alloc (.cells #[.int .i64 ki,.string nm,.bool bo,.slice D1 dn1 dc1,.int .i64 sz,.bool ou,.slice V1 vn1 vc1,.int .i64 ak] 42)) #[.int .i64 ki,.string nm,.bool bo,.slice D2 dn2 dc2,.int .i64 sz,.bool ou',.slice V2 vn2 vc2,.int .i64 ak'] 42)
 obtain⟨g0,g1,g2,g3,g4,g5,g6,g7⟩:=bx8 GA.out
 obtain⟨d0,d1,d2,d3,d4,d5,d6,d7⟩:=bx8 GB.out
 have hsz:(w.alloc (.cells #[.int .i64 ki,.string nm,.bool bo,.slice D1 dn1 dc1,.int .i64 sz,.bool ou,.slice V1 vn1 vc1,.int .i64 ak] 42)).heap.size=w.heap.size+1:=by simp
 simp only[hsz] at d0 d1 d2 d3 d4 d5 d6 d7
 have z:(ou == ou')=false:=by rw[beq_eq_false_iff_ne]; exact hne
 clear hne
 go_enter Tryz.func19,Tryz.ntmps19
 go_wp2
 go_ret
 exact⟨rfl,ka.out.trans kb.out⟩
set_option maxRecDepth 20000 in
set_option maxHeartbeats 8000000 in
theorem item_no5 (ki:Int) (nm:ByteArray) (bo:Bool) (sz:Int) (ou:Bool) (ak:Int) (ak':Int) (D1 V1 D2 V2:Option Addr) (dn1 dc1 vn1 vc1 dn2 dc2 vn2 vc2:Nat) (w:World) (hne:ak≠ak') :
 Calls Tryz.prog 19 #[.agg #[.int .i64 ki,.string nm,.bool bo,.slice D1 dn1 dc1,.int .i64 sz,.bool ou,.slice V1 vn1 vc1,.int .i64 ak],.agg #[.int .i64 ki,.string nm,.bool bo,.slice D2 dn2 dc2,.int .i64 sz,.bool ou,.slice V2 vn2 vc2,.int .i64 ak']] w fun e w'=>e = .returned (.bool false)∧Since w w':=by
 have ka:=lH (sA w (.cells #[.int .i64 ki,.string nm,.bool bo,.slice D1 dn1 dc1,.int .i64 sz,.bool ou,.slice V1 vn1 vc1,.int .i64 ak] 42))
 have kb:=lH (sA (w.alloc (.cells #[.int .i64 ki,.string nm,.bool bo,.slice D1 dn1 dc1,.int .i64 sz,.bool ou,.slice V1 vn1 vc1,.int .i64 ak] 42)) (.cells #[.int .i64 ki,.string nm,.bool bo,.slice D2 dn2 dc2,.int .i64 sz,.bool ou,.slice V2 vn2 vc2,.int .i64 ak'] 42))
 have GA:=lH ((Bx.fresh w #[.int .i64 ki,.string nm,.bool bo,.slice D1 dn1 dc1,.int .i64 sz,.bool ou,.slice V1 vn1 vc1,.int .i64 ak] 42).since kb.out)
 have GB:=lH (Bx.fresh (w.alloc (.cells #[.int .i64 ki,.string nm,.bool bo,.slice D1 dn1 dc1,.int .i64 sz,.bool ou,.slice V1 vn1 vc1,.int .i64 ak] 42)) #[.int .i64 ki,.string nm,.bool bo,.slice D2 dn2 dc2,.int .i64 sz,.bool ou,.slice V2 vn2 vc2,.int .i64 ak'] 42)
 obtain⟨g0,g1,g2,g3,g4,g5,g6,g7⟩:=bx8 GA.out
 obtain⟨d0,d1,d2,d3,d4,d5,d6,d7⟩:=bx8 GB.out
 have hsz:(w.alloc (.cells #[.int .i64 ki,.string nm,.bool bo,.slice D1 dn1 dc1,.int .i64 sz,.bool ou,.slice V1 vn1 vc1,.int .i64 ak] 42)).heap.size=w.heap.size+1:=by simp
 simp only[hsz] at d0 d1 d2 d3 d4 d5 d6 d7
 have z:(ak == ak')=false:=by rw[beq_eq_false_iff_ne]; exact hne
 clear hne
 go_enter Tryz.func19,Tryz.ntmps19
 go_wp2
 go_ret
 exact⟨rfl,ka.out.trans kb.out⟩
end Go.Proofs.YtjmmcnldfkjebaaGreatDoor.Pge
namespace Go.Proofs.YtjmmcnldfkjebaaGreatDoor.Pge
open Go.RowKit
set_option linter.unusedVariables false
set_option linter.unusedSimpArgs false
open Dig Lx Tk Ps Ti Sh
set_option maxRecDepth 20000 in
set_option maxHeartbeats 8000000 in
theorem item_dom (ki:Int) (nm:ByteArray) (bo:Bool) (sz:Int) (ou:Bool) (ak:Int) (D1 V1 D2 V2:Option Addr) (dn1 dc1 vn1 vc1 dn2 dc2 vn2 vc2:Nat) (Q:Prop) (w:World)
 (hE:∀ W,Since w W→Calls Tryz.prog 32 #[.slice D1 dn1 dc1,.slice D2 dn2 dc2] W fun e w'=>e = .returned (.bool false)∧Since W w') :
 Calls Tryz.prog 19 #[.agg #[.int .i64 ki,.string nm,.bool bo,.slice D1 dn1 dc1,.int .i64 sz,.bool ou,.slice V1 vn1 vc1,.int .i64 ak],.agg #[.int .i64 ki,.string nm,.bool bo,.slice D2 dn2 dc2,.int .i64 sz,.bool ou,.slice V2 vn2 vc2,.int .i64 ak]] w (fun e w'=>e = .returned (.bool false)∧Since w w'):=by
 have HE:=lH hE
 clear hE
 have ka:=lH (sA w (.cells #[.int .i64 ki,.string nm,.bool bo,.slice D1 dn1 dc1,.int .i64 sz,.bool ou,.slice V1 vn1 vc1,.int .i64 ak] 42))
 have kb:=lH (sA (w.alloc (.cells #[.int .i64 ki,.string nm,.bool bo,.slice D1 dn1 dc1,.int .i64 sz,.bool ou,.slice V1 vn1 vc1,.int .i64 ak] 42)) (.cells #[.int .i64 ki,.string nm,.bool bo,.slice D2 dn2 dc2,.int .i64 sz,.bool ou,.slice V2 vn2 vc2,.int .i64 ak] 42))
 have GA:=lH ((Bx.fresh w #[.int .i64 ki,.string nm,.bool bo,.slice D1 dn1 dc1,.int .i64 sz,.bool ou,.slice V1 vn1 vc1,.int .i64 ak] 42).since kb.out)
 have GB:=lH (Bx.fresh (w.alloc (.cells #[.int .i64 ki,.string nm,.bool bo,.slice D1 dn1 dc1,.int .i64 sz,.bool ou,.slice V1 vn1 vc1,.int .i64 ak] 42)) #[.int .i64 ki,.string nm,.bool bo,.slice D2 dn2 dc2,.int .i64 sz,.bool ou,.slice V2 vn2 vc2,.int .i64 ak] 42)
 obtain⟨g0,g1,g2,g3,g4,g5,g6,g7⟩:=bx8 GA.out
 obtain⟨d0,d1,d2,d3,d4,d5,d6,d7⟩:=bx8 GB.out
 have hsz:(w.alloc (.cells #[.int .i64 ki,.string nm,.bool bo,.slice D1 dn1 dc1,.int .i64 sz,.bool ou,.slice V1 vn1 vc1,.int .i64 ak] 42)).heap.size=w.heap.size+1:=by simp
 simp only[hsz] at d0 d1 d2 d3 d4 d5 d6 d7
 have kab:=lH (ka.out.trans kb.out)
 go_enter Tryz.func19,Tryz.ntmps19
 go_wp2_with (go_at_call 32; (with_reducible refine (HE.out _ kab.out).mono ?_); rintro e w3 ⟨rfl,h3⟩)
 go_ret
 exact⟨rfl,kab.out.trans h3⟩
end Go.Proofs.YtjmmcnldfkjebaaGreatDoor.Pge
namespace Go.Proofs.YtjmmcnldfkjebaaGreatDoor.Pge
open Go.RowKit
set_option linter.unusedVariables false
set_option linter.unusedSimpArgs false
open Dig Lx Tk Ps Ti Sh
set_option maxRecDepth 20000 in
set_option maxHeartbeats 8000000 in
theorem item_yes8 (ki:Int) (nm:ByteArray) (bo:Bool) (sz:Int) (ou:Bool) (ak:Int) (D1 V1 D2 V2:Option Addr) (dn1 dc1 vn1 vc1 dn2 dc2 vn2 vc2:Nat) (Q:Prop) (w:World)
 (hE:∀ W,Since w W→Calls Tryz.prog 32 #[.slice D1 dn1 dc1,.slice D2 dn2 dc2] W fun e w'=>e = .returned (.bool true)∧Since W w')
 (hF:∀ W,Since w W→Calls Tryz.prog 33 #[.slice V1 vn1 vc1,.slice V2 vn2 vc2,.func (.func 34) #[] #[]] W (RetB Q W)) :
 Calls Tryz.prog 19 #[.agg #[.int .i64 ki,.string nm,.bool bo,.slice D1 dn1 dc1,.int .i64 sz,.bool ou,.slice V1 vn1 vc1,.int .i64 ak],.agg #[.int .i64 ki,.string nm,.bool bo,.slice D2 dn2 dc2,.int .i64 sz,.bool ou,.slice V2 vn2 vc2,.int .i64 ak]] w (RetB Q w):=by
 have HE:=lH hE
 have HF:=lH hF
 clear hE hF
 have ka:=lH (sA w (.cells #[.int .i64 ki,.string nm,.bool bo,.slice D1 dn1 dc1,.int .i64 sz,.bool ou,.slice V1 vn1 vc1,.int .i64 ak] 42))
 have kb:=lH (sA (w.alloc (.cells #[.int .i64 ki,.string nm,.bool bo,.slice D1 dn1 dc1,.int .i64 sz,.bool ou,.slice V1 vn1 vc1,.int .i64 ak] 42)) (.cells #[.int .i64 ki,.string nm,.bool bo,.slice D2 dn2 dc2,.int .i64 sz,.bool ou,.slice V2 vn2 vc2,.int .i64 ak] 42))
 have GA:=lH ((Bx.fresh w #[.int .i64 ki,.string nm,.bool bo,.slice D1 dn1 dc1,.int .i64 sz,.bool ou,.slice V1 vn1 vc1,.int .i64 ak] 42).since kb.out)
 have GB:=lH (Bx.fresh (w.alloc (.cells #[.int .i64 ki,.string nm,.bool bo,.slice D1 dn1 dc1,.int .i64 sz,.bool ou,.slice V1 vn1 vc1,.int .i64 ak] 42)) #[.int .i64 ki,.string nm,.bool bo,.slice D2 dn2 dc2,.int .i64 sz,.bool ou,.slice V2 vn2 vc2,.int .i64 ak] 42)
 obtain⟨g0,g1,g2,g3,g4,g5,g6,g7⟩:=bx8 GA.out
 obtain⟨d0,d1,d2,d3,d4,d5,d6,d7⟩:=bx8 GB.out
 have hsz:(w.alloc (.cells #[.int .i64 ki,.string nm,.bool bo,.slice D1 dn1 dc1,.int .i64 sz,.bool ou,.slice V1 vn1 vc1,.int .i64 ak] 42)).heap.size=w.heap.size+1:=by simp
 simp only[hsz] at d0 d1 d2 d3 d4 d5 d6 d7
 have kab:=lH (ka.out.trans kb.out)
 go_enter Tryz.func19,Tryz.ntmps19
 go_wp2_with (first
  | (go_at_call 32; (with_reducible refine (HE.out _ kab.out).mono ?_); rintro e w3 ⟨rfl,h3⟩; have k3:=kab.out.trans h3; have GA3:=lH (GA.out.since h3); have GB3:=lH (hsz ▸ GB.out.since h3); obtain⟨g0,g1,g2,g3,g4,g5,g6,g7⟩:=bx8 GA3.out; obtain⟨d0,d1,d2,d3,d4,d5,d6,d7⟩:=bx8 GB3.out)
  | (go_at_call 33; (with_reducible refine (HF.out _ k3).mono ?_); rintro e w4 ⟨r2,rfl,hr2,h4⟩))
 go_ret
 exact⟨r2,rfl,hr2,k3.trans h4⟩
end Go.Proofs.YtjmmcnldfkjebaaGreatDoor.Pge
namespace Go.Proofs.YtjmmcnldfkjebaaGreatDoor.Pge
open Go.RowKit
set_option linter.unusedVariables false
set_option linter.unusedSimpArgs false
open Dig Lx Tk Ps Ti Sh Law07
theorem item_gen (ki sz ak ki' sz' ak':Int) (nm nm':ByteArray) (bo ou bo' ou':Bool) (D1 V1 D2 V2:Option Addr) (dn1 dc1 vn1 vc1 dn2 dc2 vn2 vc2:Nat) (P Q:Prop) (w:World)
 (hE:∀ W,Since w W→Calls Tryz.prog 32 #[.slice D1 dn1 dc1,.slice D2 dn2 dc2] W (RetB P W))
 (hF:∀ W,Since w W→Calls Tryz.prog 33 #[.slice V1 vn1 vc1,.slice V2 vn2 vc2,.func (.func 34) #[] #[]] W (RetB Q W)) :
 Calls Tryz.prog 19 #[.agg #[.int .i64 ki,.string nm,.bool bo,.slice D1 dn1 dc1,.int .i64 sz,.bool ou,.slice V1 vn1 vc1,.int .i64 ak],.agg #[.int .i64 ki',.string nm',.bool bo',.slice D2 dn2 dc2,.int .i64 sz',.bool ou',.slice V2 vn2 vc2,.int .i64 ak']] w (RetB (ki=ki'∧nm=nm'∧bo=bo'∧sz=sz'∧ou=ou'∧ak=ak'∧P∧Q) w):=by
 by_cases e0:ki=ki'
 rotate_left
 · refine (item_no0 ki nm bo sz ou ak ki' nm' bo' sz' ou' ak' D1 V1 D2 V2 dn1 dc1 vn1 vc1 dn2 dc2 vn2 vc2 w e0).mono ?_
   rintro e w' ⟨rfl,hs⟩
   exact⟨false,rfl,⟨fun h=>(by cases h),fun h=>absurd h.1 e0⟩,hs⟩
 subst e0
 by_cases e1:nm=nm'
 rotate_left
 · refine (item_no1 ki nm bo sz ou ak nm' bo' sz' ou' ak' D1 V1 D2 V2 dn1 dc1 vn1 vc1 dn2 dc2 vn2 vc2 w e1).mono ?_
   rintro e w' ⟨rfl,hs⟩
   exact⟨false,rfl,⟨fun h=>(by cases h),fun h=>absurd h.2.1 e1⟩,hs⟩
 subst e1
 by_cases e2:bo=bo'
 rotate_left
 · refine (item_no2 ki nm bo sz ou ak bo' sz' ou' ak' D1 V1 D2 V2 dn1 dc1 vn1 vc1 dn2 dc2 vn2 vc2 w e2).mono ?_
   rintro e w' ⟨rfl,hs⟩
   exact⟨false,rfl,⟨fun h=>(by cases h),fun h=>absurd h.2.2.1 e2⟩,hs⟩
 subst e2
 by_cases e3:sz=sz'
 rotate_left
 · refine (item_no3 ki nm bo sz ou ak sz' ou' ak' D1 V1 D2 V2 dn1 dc1 vn1 vc1 dn2 dc2 vn2 vc2 w e3).mono ?_
   rintro e w' ⟨rfl,hs⟩
   exact⟨false,rfl,⟨fun h=>(by cases h),fun h=>absurd h.2.2.2.1 e3⟩,hs⟩
 subst e3
 by_cases e4:ou=ou'
 rotate_left
 · refine (item_no4 ki nm bo sz ou ak ou' ak' D1 V1 D2 V2 dn1 dc1 vn1 vc1 dn2 dc2 vn2 vc2 w e4).mono ?_
   rintro e w' ⟨rfl,hs⟩
   exact⟨false,rfl,⟨fun h=>(by cases h),fun h=>absurd h.2.2.2.2.1 e4⟩,hs⟩
 subst e4
 by_cases e5:ak=ak'
 rotate_left
 · refine (item_no5 ki nm bo sz ou ak ak' D1 V1 D2 V2 dn1 dc1 vn1 vc1 dn2 dc2 vn2 vc2 w e5).mono ?_
   rintro e w' ⟨rfl,hs⟩
   exact⟨false,rfl,⟨fun h=>(by cases h),fun h=>absurd h.2.2.2.2.2.1 e5⟩,hs⟩
 subst e5
 by_cases hP:P
 · exact (item_yes8 ki nm bo sz ou ak D1 V1 D2 V2 dn1 dc1 vn1 vc1 dn2 dc2 vn2 vc2 Q w (fun W k=>(hE W k).mono fun e w' r=>r.yes hP) hF).mono fun e w' r=>r.iff ⟨fun h=>⟨rfl,rfl,rfl,rfl,rfl,rfl,hP,h⟩,fun h=>h.2.2.2.2.2.2.2⟩
 · refine (item_dom ki nm bo sz ou ak D1 V1 D2 V2 dn1 dc1 vn1 vc1 dn2 dc2 vn2 vc2 Q w (fun W k=>(hE W k).mono fun e w' r=>r.no hP)).mono ?_
   rintro e w' ⟨rfl,hs⟩
   exact⟨false,rfl,⟨fun h=>(by cases h),fun h=>absurd h.2.2.2.2.2.2.1 hP⟩,hs⟩
theorem same_item {w0:World} {G:Nat→Prop} (y:It) (x:Iq) (u1:List Value) (u2:Array Value) (h1:QI G w0 y u1) (h2:ArgI w0 x u2) (hb:BoI x) (w:World) (hs:Since w0 w):Calls Tryz.prog 19 #[.agg u1.toArray,.agg u2] w (RetB (itq y=x) w):=by
 obtain⟨D1,V1,rfl,g1,-,g2,-⟩:=h1
 obtain⟨A1,c1,A2,c2,rfl,k1,k2⟩:=h2
 have f1:=g1.form
 have f2:=g2.form
 obtain⟨B1,b1,rfl⟩:=f1
 obtain⟨B2,b2,rfl⟩:=f2
 obtain⟨-,b3,b4,b5,-,-⟩:=hb
 refine (item_gen y.kind y.size y.ask x.kind x.size x.ask y.name x.name y.bool y.out x.bool x.out B1 B2 A1 A2 _ b1 _ b2 _ c1 _ c2 (y.dom=x.dom) (y.vals.map xpq=x.vals) w
  (fun W k=>equal_any _ _ _ _ w0 g1 k1 (by omega) W (hs.trans k)) (fun W k=>same_exprs _ _ _ _ g2 k2 (by omega) (fun z hz=>⟨Nat.le_trans (b5 z hz).2.1 (by decide),fun p hp=>Nat.le_trans ((b5 z hz).2.2.1 p hp).2.2 (by decide)⟩) W (hs.trans k))).mono fun e w' r=>r.iff ?_
 obtain⟨a1,a2,a3,a4,a5,a6,a7,a8⟩:=y
 obtain⟨b1,b2,b3,b4,b5,b6,b7,b8⟩:=x
 simp only[itq,Iq.mk.injEq]
 constructor
 · rintro⟨h1,h2,h3,h4,h5,h6,h7,h8⟩
   exact⟨h1,h2,h3,h7,h4,h5,h8,h6⟩
 · rintro⟨h1,h2,h3,h4,h5,h6,h7,h8⟩
   exact⟨h1,h2,h3,h5,h6,h8,h4,h7⟩
end Go.Proofs.YtjmmcnldfkjebaaGreatDoor.Pge
