/- The document's own parser: the arguments of a constraint. -/
import Derived.Test.YtjmmcnldfkjebaaGreatDoorQao
set_option maxHeartbeats 8000000
set_option maxRecDepth 20000
namespace Go.Proofs.YtjmmcnldfkjebaaGreatDoor.Doc6
open Go.RowKit
set_option linter.unusedVariables false
set_option linter.unusedSimpArgs false
open Dig Lx Tk Ps Ti
open Fq
open Prs (Only owns_only lenV Old)
theorem expr_u (A:Option Addr) (m c:Nat) (n:Int) (ts:List Tv) (w:World) (H:Toks w (.slice A m c) ts) (hl:ts.length≤10000) {β:Type} {F:R β} {q:Xp→P β} {i at_ er:Int} (h:Th ts n F (bnd expr q) i at_ er) :
 Calls Tryz.prog 144 #[.agg #[.slice A m c,.int .i64 i,.int .i64 n,.int .i64 at_,.int .i64 er]] w fun e w'=>∃ (i' at' er':Int) (x:Xp) (A1:Option Addr) (c1:Nat),e = .returned (.tuple #[.agg #[.slice A m c,.int .i64 i',.int .i64 n,.int .i64 at',.int .i64 er'],.agg #[.int .i64 x.k,.int .i64 x.n,.string x.s,.slice A1 x.l.length c1]])∧Th ts n F (q x) i' at' er'∧Sl 4 QP w' (.slice A1 x.l.length c1) x.l∧FarO (Old w) (.slice A1 x.l.length c1)∧Since w w':=by
 rcases h with ⟨k,hF,hk,rfl,rfl,rfl⟩ | ⟨p,x,hF,he⟩
 · refine (expr_ok A m c n ts k w H hl hk).mono ?_
   rintro e w' (⟨x,k',v,h1,h2,⟨u,rfl,lv,rfl,h3,h4⟩,rfl,hs⟩ | ⟨p,y,i,at_,er,v,h1,he,⟨kk,rfl⟩,rfl,hs⟩)
   · obtain⟨A1,c1,rfl⟩:=h3.form
     exact⟨_,_,_,x,A1,c1,rfl,.inl ⟨k',hF.trans (by simp only[bnd,R.bind,h1]),h2,rfl,rfl,rfl⟩,h3,h4,hs⟩
   · exact⟨_,_,_,⟨kk,0,nos,[]⟩,none,0,rfl,.inr ⟨p,y,hF.trans (by simp only[bnd,R.bind,h1]),he⟩,Sl.nil _ _ _,faro_nil _,hs⟩
 · refine (expr_no A m c n i at_ er w he.1).mono ?_
   rintro e w' ⟨rfl,hs⟩
   exact⟨_,_,_,⟨0,0,nos,[]⟩,none,0,rfl,.inr ⟨p,x,hF,he⟩,Sl.nil _ _ _,faro_nil _,hs⟩
theorem rx_since {G:Nat→Prop} {w w':World} {xs:List Xp} {cs:List Value} (h:Rws 4 (QX G w) xs cs) (k:Since w w'):Rws 4 (QX G w') xs cs:=h.since (stX _) k
theorem rx_only {G:Nat→Prop} {w w':World} {b:Nat} {xs:List Xp} {cs:List Value} (h:Rws 4 (QX G w) xs cs) (k:Only b w w') (hb:G b):Rws 4 (QX G w') xs cs:=h.mono fun x u h=>QX.grow k (fun y hy=>by injection hy with hy; subst hy; exact hb) (fun b hb => .inl hb) h
theorem rx_app {G:Nat→Prop} {w w':World} {v v':Value} {m:Nat} {xs:List Xp} {cs:List Value} (h:Rws 4 (QX (own G v) w) xs cs) (k:w.grownBy w' v.ownBlock) (hat:v'.ownBlock=v.ownBlock∨v'.ownBlock=some m) (hm:m=w.heap.size):Rws 4 (QX (own G v') w') xs cs:=by
 subst hm
 exact h.mono fun x u h=>QX.grow k own.has (own.app hat) h
theorem rx_less {w W:World} {k:Nat} {v v':Value} {xs:List Xp} (h:Sl 4 (QX (own (Lo (w.heap.size+k)) v)) W v' xs):Sl 4 (QX (Old w)) W v' xs:=h.mono fun x u=>QX.less fun b hb => .inl (.inl (Nat.lt_of_lt_of_le hb (Nat.le_add_right _ _)))
theorem some_step' {α β:Type} {p:P α} {close:Bs} {most f:Nat} {out:List α} {g:List α→P β} (h:out.length≠most):bnd (some_ p close most (f+1) out) g=bnd p fun x=>alt close (g (out ++ [x])) (bnd (take comma) fun _=>bnd (some_ p close most f (out ++ [x])) g):=by
 funext n us
 simp only[bnd,some_,if_neg h]
 cases p n us with
 | bad q e=>rfl
 | ok a r =>
  simp only[R.bind,alt,bnd,ret]
  by_cases hc:isW close r=true
  · simp only[hc,if_true]
  · simp only[hc,if_false,Bool.false_eq_true]
    cases take comma n r <;> rfl
theorem bx_new2 (W:World) (cs:Array Value) (t:TypeId) {g:Nat} (e:W.heap.size=g):Bx (W.alloc (.cells cs t)) g cs t:=Bx.new (Since.refl _) e
def GotA (A:Option Addr) (m c:Nat) (n:Int) (ts:List Tv) (r:R (List Xp)) (w:World) (e:Ending) (w':World):Prop:=
 ∃ (i' at' er':Int) (l:List Xp) (C:Option Addr) (m' c':Nat),e = .returned (.tuple #[.agg #[.slice A m c,.int .i64 i',.int .i64 n,.int .i64 at',.int .i64 er'],.slice C m' c'])∧Th ts n r (ret l) i' at' er'∧Sl 4 (QX (Old w)) w' (.slice C m' c') l∧FarO (Old w) (.slice C m' c')∧Since w w'
theorem args_nil (A:Option Addr) (m c:Nat) (n:Int) (ts:List Tv) (k0:Nat) (w:World) (H:Toks w (.slice A m c) ts) (hl:ts.length≤10000) (hk0:k0≤ts.length) (hb:isW [41] (ts.drop k0)=true) :
 Calls Tryz.prog 113 #[.agg #[.slice A m c,.int .i64 (k0:Int),.int .i64 n,.int .i64 0,.int .i64 0]] w (GotA A m c n ts (args n (ts.drop k0)) w):=by
 have IB:=lH (fun W (kk:Since w W)=>is_ok A m c n ts k0 ⟨#[41]⟩ W (H.since kk) (by decide))
 rw[show L ⟨#[41]⟩ = [41] from rfl,hb] at IB
 have hlt:k0<ts.length:=by
  apply Decidable.byContradiction; intro hn
  rw[drop_end (by omega)] at hb; cases hb
 have NX:=lH (fun W=>next_ok A m c n k0 W (by omega))
 have hs1:Since w ((w.alloc (.cells #[.slice A m c,.int .i64 (k0:Int),.int .i64 n,.int .i64 0,.int .i64 0] 127)).alloc (.cells #[.slice none 0 0,.int .i64 0,.int .i64 0,.int .i64 0,.int .i64 0] 127)):=(sA _ _).trans (sA _ _)
 have HX:=lH (fun W (kz:Since ((w.alloc (.cells #[.slice A m c,.int .i64 (k0:Int),.int .i64 n,.int .i64 0,.int .i64 0] 127)).alloc (.cells #[.slice none 0 0,.int .i64 0,.int .i64 0,.int .i64 0,.int .i64 0] 127)) W)=>((Bx.fresh w #[.slice A m c,.int .i64 (k0:Int),.int .i64 n,.int .i64 0,.int .i64 0] 127).since (sA _ _)).since kz)
 have HZ:=lH (fun W (kz:Since ((w.alloc (.cells #[.slice A m c,.int .i64 (k0:Int),.int .i64 n,.int .i64 0,.int .i64 0] 127)).alloc (.cells #[.slice none 0 0,.int .i64 0,.int .i64 0,.int .i64 0,.int .i64 0] 127)) W)=>(Bx.new kz (by simp):Bx W (w.heap.size+1) #[.slice none 0 0,.int .i64 0,.int .i64 0,.int .i64 0,.int .i64 0] 127))
 have HS:=lH hs1
 clear hs1
 obtain⟨g0,g1,g2,g3,g4⟩:=bx5 (HX.out _ (Since.refl _))
 obtain⟨z0,z1,z2,z3,z4⟩:=bx5 (HZ.out _ (Since.refl _))
 obtain⟨y0,y1,y2,y3,y4⟩:=bx5' (HZ.out _ (Since.refl _))
 have HEQ:=lH (show Th ts n (args n (ts.drop k0)) (ret []) ((k0+1:Nat):Int) 0 0 from .inl ⟨k0+1,(if_pos hb).trans (by rw[List.tail_drop]),hlt,rfl,rfl,rfl⟩)
 clear H hb hl hk0
 go_enter Tryz.func113,Tryz.ntmps113
 go_wp2_with (first
  | (go_at_call 116; (with_reducible refine (IB.out _ HS.out).mono ?_); rintro e0 w1 ⟨rfl,h1⟩; obtain⟨g0,g1,g2,g3,g4⟩:=bx5 (HX.out _ h1); obtain⟨z0,z1,z2,z3,z4⟩:=bx5 (HZ.out _ h1); obtain⟨y0,y1,y2,y3,y4⟩:=bx5' (HZ.out _ h1))
  | (go_at_call 110; (with_reducible refine (NX.out _).mono ?_); rintro e0 w2 ⟨rfl,h2⟩; have k2:=h1.trans h2; obtain⟨z0,z1,z2,z3,z4⟩:=bx5 (HZ.out _ k2); obtain⟨y0,y1,y2,y3,y4⟩:=bx5' (HZ.out _ k2)))
 refine bodyPost_ret (v:=.tuple #[.agg #[.slice A m c,.int .i64 ((k0+1:Nat):Int),.int .i64 n,.int .i64 0,.int .i64 0],.slice none 0 0]) ?_ rfl ?_
 · simp[results,Tryz.results113,go_sem,z0,z1,z2,z3,z4]
 · exact⟨_,_,_,[],none,0,0,rfl,HEQ.out,Sl.nil _ _ _,faro_nil _,since_put5 (HS.out.trans k2) (Nat.le_succ _) _ _ _ _ _⟩
theorem args_more (A:Option Addr) (m c:Nat) (n:Int) (ts:List Tv) (k0:Nat) (w:World) (H:Toks w (.slice A m c) ts) (hl:ts.length≤10000) (hk0:k0≤ts.length) (hb:isW [41] (ts.drop k0)=false) :
 Calls Tryz.prog 113 #[.agg #[.slice A m c,.int .i64 (k0:Int),.int .i64 n,.int .i64 0,.int .i64 0]] w (GotA A m c n ts (args n (ts.drop k0)) w):=by
 have IB:=lH (fun W (kk:Since w W)=>is_ok A m c n ts k0 ⟨#[41]⟩ W (H.since kk) (by decide))
 rw[show L ⟨#[41]⟩ = [41] from rfl,hb] at IB
 obtain⟨r,hr⟩:∃ r,r=args n (ts.drop k0):=⟨_,rfl⟩
 rw[← hr]
 have T0:=lH (show Th ts n r (bnd (some_ expr [41] 64 65 []) fun l=>ret l) (k0:Int) 0 0 from .inl ⟨k0,hr.trans ((if_neg (by rw[hb]; exact Bool.false_ne_true)).trans (by simp only[bnd]; cases some_ expr [41] 64 65 [] n (ts.drop k0) <;> rfl)),hk0,rfl,rfl,rfl⟩)
 have EXU:=lH (fun W (kk:Since w W) (q:Xp→P (List Xp)) (i a e:Int) (h:Th ts n r (bnd expr q) i a e)=>expr_u A m c n ts W (H.since kk) hl h)
 have TK:=lH (fun W (kk:Since w W) (q:Unit→P (List Xp)) (i a e:Int) (h:Th ts n r (bnd (take comma) q) i a e)=>take_u A m c n ts ⟨#[44]⟩ comma rfl (by decide) W (H.since kk) hl h)
 have IS:=lH (fun W (kk:Since w W) (i a e:Int) (h:(∃ k:Nat,k≤ts.length∧i=(k:Int)∧a=0∧e=0)∨e≠0)=>is_u A m c n ts ⟨#[41]⟩ [41] rfl (by decide) W (H.since kk) h)
 have FLA:=lH (fun k W (kk:Since w W)=>fail_ok A m c n ts k 3 W (H.since kk) (by decide))
 have HL:=lH hl
 have hs1:Since w ((w.alloc (.cells #[.slice A m c,.int .i64 (k0:Int),.int .i64 n,.int .i64 0,.int .i64 0] 127)).alloc (.cells #[.slice none 0 0,.int .i64 0,.int .i64 0,.int .i64 0,.int .i64 0] 127)):=(sA _ _).trans (sA _ _)
 have HX:=lH (fun W (kz:Since ((w.alloc (.cells #[.slice A m c,.int .i64 (k0:Int),.int .i64 n,.int .i64 0,.int .i64 0] 127)).alloc (.cells #[.slice none 0 0,.int .i64 0,.int .i64 0,.int .i64 0,.int .i64 0] 127)) W)=>((Bx.fresh w #[.slice A m c,.int .i64 (k0:Int),.int .i64 n,.int .i64 0,.int .i64 0] 127).since (sA _ _)).since kz)
 have HZ:=lH (fun W (kz:Since ((w.alloc (.cells #[.slice A m c,.int .i64 (k0:Int),.int .i64 n,.int .i64 0,.int .i64 0] 127)).alloc (.cells #[.slice none 0 0,.int .i64 0,.int .i64 0,.int .i64 0,.int .i64 0] 127)) W)=>(Bx.new kz (by simp):Bx W (w.heap.size+1) #[.slice none 0 0,.int .i64 0,.int .i64 0,.int .i64 0,.int .i64 0] 127))
 have HS:=lH hs1
 clear hs1
 obtain⟨g0,g1,g2,g3,g4⟩:=bx5 (HX.out _ (Since.refl _))
 obtain⟨z0,z1,z2,z3,z4⟩:=bx5 (HZ.out _ (Since.refl _))
 obtain⟨y0,y1,y2,y3,y4⟩:=bx5' (HZ.out _ (Since.refl _))
 clear H hb hl hk0 hr
 obtain⟨i0,hi,hz0,hz1,hz2⟩:=info_parts Law06.info_rexpr
 go_enter Tryz.func113,Tryz.ntmps113
 go_wp2_with (go_at_call 116; (with_reducible refine (IB.out _ HS.out).mono ?_); rintro e0 w1 ⟨rfl,h1⟩)
 go_loopw [4] (fun out wr=>∃ (B:Option Addr) (nn cp:Nat) (i a e:Int) (xs:List Xp) (cs:List Value),out = .slice B nn cp∧nn≤65∧Hid (xs.length=nn)∧Hid (Since w wr)∧w.heap.size+2≤wr.heap.size∧Hid (Bx wr w.heap.size #[.slice A m c,.int .i64 i,.int .i64 n,.int .i64 a,.int .i64 e] 127)∧Hid (Bx wr (w.heap.size+1) #[.slice none 0 0,.int .i64 0,.int .i64 0,.int .i64 0,.int .i64 0] 127)∧Hid (wr.ownsRow (w.heap.size+2) 45 4 (.slice B nn cp) nn cs)∧Hid (Rws 4 (QX (own (Lo (w.heap.size+2)) (.slice B nn cp)) wr) xs cs)∧Hid ((nn≤64∧Th ts n r (bnd (some_ expr [41] 64 (65 - nn) xs) fun l=>ret l) i a e)∨(∃ p x,r = .bad p x∧Ec e x))) (fun out _=>70 - lenV out)
 case atStart=>exact⟨none,0,0,_,_,_,[],[],rfl,by decide,rfl,HS.out.trans h1,by have:=h1.size; simp at this; omega,HX.out _ h1,HZ.out _ h1,World.ownsRow_nil _ _ _ _,.nil,.inl ⟨by decide,T0.out⟩⟩
 case round =>
  clear HX HZ HS
  obtain⟨B,nn,cp,i,a,e,xs,cs,rfl,hnn,HXL,HW,hsz,HB,HZr,HO,HQ,HT⟩:=hrel
  by_cases he:e=0
  · subst he
    have hT:nn≤64∧Th ts n r (bnd (some_ expr [41] 64 (65 - nn) xs) fun l=>ret l) i a 0:=HT.out.resolve_right (fun ⟨p,x,_,h⟩=>h.1 rfl)
    obtain⟨h64,hT⟩:=hT
    obtain⟨k,hF,hk,rfl,rfl⟩:=hT.good rfl
    clear HT hT
    by_cases h6:nn=64
    · subst h6
      have HBAD:=lH (show ∃ p,r = .bad p 3 by obtain⟨p,h⟩:=some_big (p:=expr) (close:=[41]) (f:=0) (n:=n) (ts:=ts.drop k) HXL.out; exact⟨p,hF.trans (by simp only[bnd,h,R.bind])⟩)
      have FL:=lH (fun W (kk:Since w W)=>FLA.out k W kk)
      clear hF
      obtain⟨g0,g1,g2,g3,g4⟩:=bx5 HB.out
      go_wp2_with (go_at_call 75; (with_reducible refine (FL.out _ HW.out).mono ?_); rintro e0 w4 ⟨i4,a4,e4,rfl,hec,h4⟩; obtain⟨z0,z1,z2,z3,z4⟩:=bx5 (HZr.out.since h4); obtain⟨y0,y1,y2,y3,y4⟩:=bx5' (HZr.out.since h4))
      refine bodyPost_ret (v:=.tuple #[.agg #[.slice A m c,.int .i64 i4,.int .i64 n,.int .i64 a4,.int .i64 e4],.slice none 0 0]) ?_ rfl ?_
      · simp[results,Tryz.results113,go_sem,z0,z1,z2,z3,z4]
      · obtain⟨p,hb⟩:=HBAD.out
        exact⟨_,_,_,[],none,0,0,rfl,.inr ⟨p,3,hb,hec⟩,Sl.nil _ _ _,faro_nil _,since_put5 (HW.out.trans h4) (Nat.le_succ _) _ _ _ _ _⟩
    · have hz:((nn:Int) == 64)=false:=by rw[beq_eq_false_iff_ne]; omega
      obtain⟨f,hf⟩:∃ f,65 - nn=f+1:=⟨64 - nn,by omega⟩
      rw[hf] at hF
      have T1:=lH (show Th ts n r (bnd expr fun x=>alt [41] (ret (xs ++ [x])) (bnd (take comma) fun _=>bnd (some_ expr [41] 64 f (xs ++ [x])) fun l=>ret l)) (k:Int) 0 0 from .inl ⟨k,hF.trans (by rw[some_step' (by rw[HXL.out]; exact h6)]),hk,rfl,rfl,rfl⟩)
      have hnn2:nn+1≤64:=by omega
      have HF:=lH hf
      clear hF hf h6 hnn h64 hk
      obtain⟨g0,g1,g2,g3,g4⟩:=bx5 HB.out
      go_wp2_with fail
      (with_reducible refine (EXU.out _ HW.out _ _ _ _ T1.out).mono ?_)
      rintro e0 w1 ⟨i1,a1,e1,x,A1,c1,rfl,t1,q1,f1,h1⟩
      have kB:Since w1 ((w1.alloc (.cells #[.slice A m c,.int .i64 i1,.int .i64 n,.int .i64 a1,.int .i64 e1] 127)).alloc (.cells #[.int .i64 x.k,.int .i64 x.n,.string x.s,.slice A1 x.l.length c1] 45)):=(sA _ _).trans (sA _ _)
      have kA:Since wr ((w1.alloc (.cells #[.slice A m c,.int .i64 i1,.int .i64 n,.int .i64 a1,.int .i64 e1] 127)).alloc (.cells #[.int .i64 x.k,.int .i64 x.n,.string x.s,.slice A1 x.l.length c1] 45)):=h1.trans kB
      have b1:=lH (HB.out.since kA)
      have hs1:=h1.size
      obtain⟨g0,g1,g2,g3,g4⟩:=bx5 b1.out
      obtain⟨y0,y1,y2,y3,y4⟩:=bx5' b1.out
      have b2:=bxfar5 (bx_new2 (w1.alloc (.cells #[.slice A m c,.int .i64 i1,.int .i64 n,.int .i64 a1,.int .i64 e1] 127)) #[.int .i64 x.k,.int .i64 x.n,.string x.s,.slice A1 x.l.length c1] 45 (g:=w1.heap.size+1) (by simp)) (b':=w.heap.size) (by omega) (.slice A m c) (.int .i64 i1) (.int .i64 n) (.int .i64 a1) (.int .i64 e1)
      obtain⟨e0',e1',e2',e3'⟩:=b2.four
      clear b2
      go_wp2_with (at_builtin; refine wpList_append_own_at _ rfl _ _ 26 rfl (w.heap.size+2) 45 i0 (.agg #[.int .i64 0,.int .i64 0,.string ⟨#[]⟩,.slice none 0 0]) 4 56 Tryz.underlying26 hi hz0 hz1 hz2 rfl (by decide) _ _ _ rfl (owns_since (owns_only (owns_since HO.out kA) (only_put5 ((w1.alloc (.cells #[.slice A m c,.int .i64 i1,.int .i64 n,.int .i64 a1,.int .i64 e1] 127)).alloc (.cells #[.int .i64 x.k,.int .i64 x.n,.string x.s,.slice A1 x.l.length c1] 45)) w.heap.size (.slice A m c) (.int .i64 i1) (.int .i64 n) (.int .i64 a1) (.int .i64 e1)) (by omega)) (sA _ (.cells #[.int .i64 x.k,.int .i64 x.n,.string x.s,.slice A1 x.l.length c1] 45))) ⟨w1.heap.size+1+1,0,none⟩ 1 1 [.int .i64 x.k,.int .i64 x.n,.string x.s,.slice A1 x.l.length c1] rfl rfl ?c1 ?c2 ?c3 ?c4 ?c5 ?_)
      case c1 =>
       intro j u hj
       exact cell_new _ _ _ (by simp) (by simpa using hj)
      case c2=>intro u hu; simp at hu; rcases hu with rfl | rfl | rfl | rfl <;> rfl
      case c3=>unfold maxLen; omega
      case c4=>omega
      case c5=>simp; omega
      intro v4 w4 hown hgrow _ hat
      have hgo:∀ g,(Value.slice B nn cp).ownBlock=some g→w.heap.size+2≤g:=fun g hg=>(HO.out.lt g hg).1
      have hB3:=(bxput5 b1.out (.slice A m c) (.int .i64 i1) (.int .i64 n) (.int .i64 a1) (.int .i64 e1)).since (sA _ (.cells #[.int .i64 x.k,.int .i64 x.n,.string x.s,.slice A1 x.l.length c1] 45))
      have hZ3:=(bxfar5 (HZr.out.since kA) (b':=w.heap.size) (by omega) (.slice A m c) (.int .i64 i1) (.int .i64 n) (.int .i64 a1) (.int .i64 e1)).since (sA _ (.cells #[.int .i64 x.k,.int .i64 x.n,.string x.s,.slice A1 x.l.length c1] 45))
      have hS3:Since w _:=(since_put5 (HW.out.trans kA) (Nat.le_refl _) (.slice A m c) (.int .i64 i1) (.int .i64 n) (.int .i64 a1) (.int .i64 e1)).trans (sA _ (.cells #[.int .i64 x.k,.int .i64 x.n,.string x.s,.slice A1 x.l.length c1] 45))
      have qx1:QX (own (Lo (w.heap.size+2)) (.slice B nn cp)) w1 x [.int .i64 x.k,.int .i64 x.n,.string x.s,.slice A1 x.l.length c1]:=⟨_,rfl,q1,f1.mono (fun g hg=>by rcases hg with hg | hg; exact Nat.lt_of_lt_of_le hg hsz; exact (HO.out.lt g hg).2)⟩
      have qx2:=Rws.snoc (rx_since HQ.out kA) (stX _ _ _ _ _ qx1 kB) rfl
      have qx3:=rx_since (rx_only qx2 (only_put5 _ w.heap.size (.slice A m c) (.int .i64 i1) (.int .i64 n) (.int .i64 a1) (.int .i64 e1)) (.inl (show _<_ by omega))) (sA _ (.cells #[.int .i64 x.k,.int .i64 x.n,.string x.s,.slice A1 x.l.length c1] 45))
      have HQ4:=lH (rx_app qx3 hgrow hat (by simp))
      have HB4:=lH (bx_grown hB3 hgrow (fun g hg=>by have:=hgo g hg; omega))
      have HZ4:=lH (bx_grown hZ3 hgrow (fun g hg=>by have:=hgo g hg; omega))
      have HW4:=lH (show Since w w4 from Below.grown hS3 hgrow hS3.size (fun g hg=>by have:=hgo g hg; omega))
      have hz4:w.heap.size+2≤w4.heap.size:=by have:=hgrow.size; have:=HZ4.out.lt; omega
      have ho4:w4.ownsRow (w.heap.size+2) 45 4 v4 (nn+1) (cs ++ [.int .i64 x.k,.int .i64 x.n,.string x.s,.slice A1 x.l.length c1]):=hown
      obtain⟨B4,cp4,rfl⟩:=owns_slice ho4
      have HO4:=lH ho4
      clear hown hgrow hat hgo hB3 hZ3 hS3 ho4 qx1 qx2 qx3 q1 f1 kB
      have HXL4:=lH (show (xs ++ [x]).length=nn+1 by rw[List.length_append,HXL.out]; rfl)
      clear b1 kA e0' e1' e2' e3' y0 g0 y1 g1 y2 g2 y3 g3 y4 g4
      obtain⟨g0,g1,g2,g3,g4⟩:=bx5 HB4.out
      by_cases he1:e1=0
      · subst he1
        go_wp2_with fail
        (with_reducible refine (IS.out _ HW4.out _ _ _ t1.st).mono ?_)
        rintro e0 w5 ⟨b5,rfl,hb5,h5⟩
        obtain⟨g0,g1,g2,g3,g4⟩:=bx5 (HB4.out.since h5)
        cases b5 with
        | true =>
         obtain⟨t5,l5a,l5b,-⟩:=t1.yes hb5
         have hl5:=HL.out
         go_wp2_with fail
         (with_reducible refine (next_any A m c n i1 a1 0 _ (by omega) (by omega)).mono ?_)
         rintro e0 w6 ⟨rfl,h6⟩
         clear hl5 l5a l5b
         have k6:=h5.trans h6
         obtain⟨z0,z1,z2,z3,z4⟩:=bx5 (HZ4.out.since k6)
         obtain⟨y0,y1,y2,y3,y4⟩:=bx5' (HZ4.out.since k6)
         go_wp2
         refine bodyPost_ret (v:=.tuple #[.agg #[.slice A m c,.int .i64 (i1+1),.int .i64 n,.int .i64 a1,.int .i64 0],.slice B4 (nn+1) cp4]) ?_ rfl ?_
         · simp[results,Tryz.results113,go_sem,z0,z1,z2,z3,z4]
         · have op6:=only_put5 w6 (w.heap.size+1) (.slice A m c) (.int .i64 (i1+1)) (.int .i64 n) (.int .i64 a1) (.int .i64 0)
           have hoe:=owns_only (owns_since HO4.out k6) op6 (by omega)
           have hq6:=rx_only (rx_since HQ4.out k6) op6 (.inl (show _<_ by omega))
           exact⟨_,_,_,xs ++ [x],B4,nn+1,cp4,rfl,t5,rx_less (Sl.own hoe hq6 HXL4.out.symm),FarO.own hoe (fun b hb=>by have:b<w.heap.size:=hb; omega),since_put5 (HW4.out.trans k6) (Nat.le_succ _) _ _ _ _ _⟩
        | false =>
         have t5:=t1.no hb5
         go_wp2_with fail
         (with_reducible refine (TK.out _ (HW4.out.trans h5) _ _ _ _ t5).mono ?_)
         rintro e0 w6 ⟨i6,a6,e6,rfl,t6,h6⟩
         have k6:=h5.trans h6
         obtain⟨g0,g1,g2,g3,g4⟩:=bx5 (HB4.out.since k6)
         obtain⟨y0,y1,y2,y3,y4⟩:=bx5' (HB4.out.since k6)
         have op6:=only_put5 w6 w.heap.size (.slice A m c) (.int .i64 i6) (.int .i64 n) (.int .i64 a6) (.int .i64 e6)
         have HO6:=lH (owns_only (owns_since HO4.out k6) op6 (by omega))
         have HQ6:=lH (rx_only (rx_since HQ4.out k6) op6 (.inl (show _<_ by omega)))
         clear op6
         go_wp2
         go_roundw
         case rel=>exact⟨B4,nn+1,cp4,i6,a6,e6,xs ++ [x],_,rfl,by omega,HXL4.out,since_put5 (HW4.out.trans k6) (Nat.le_refl _) _ _ _ _ _,by have:=k6.size; simp; omega,bxput5 (HB4.out.since k6) _ _ _ _ _,bxfar5 (HZ4.out.since k6) (by omega) _ _ _ _ _,HO6.out,HQ6.out,.inl ⟨hnn2,by rw[show 65 - (nn+1)=f by have:=HF.out; omega]; exact t6⟩⟩
         case measure=>simp[lenV]; omega
      · have ne:(e1 != 0)=true:=by rw[bne_iff_ne]; exact he1
        have eq:(e1 == 0)=false:=by rw[beq_eq_false_iff_ne]; exact he1
        obtain⟨p,x0,hbad,hec⟩:=t1.bad he1
        have HBAD:=lH hbad
        have HEC:=lH hec
        have TN:=lH (fun W=>take_no A m c n i1 a1 e1 ⟨#[44]⟩ W hec.1)
        have ISN:=lH (fun W=>is_no A m c n i1 a1 e1 ⟨#[41]⟩ W hec.1 (by decide))
        clear hbad hec he1
        go_wp2_with fail
        (with_reducible refine (ISN.out _).mono ?_)
        rintro e0 w5 ⟨rfl,h5⟩
        obtain⟨g0,g1,g2,g3,g4⟩:=bx5 (HB4.out.since h5)
        go_wp2_with fail
        (with_reducible refine (TN.out _).mono ?_)
        rintro e0 w6 ⟨rfl,h6⟩
        have k6:=h5.trans h6
        obtain⟨g0,g1,g2,g3,g4⟩:=bx5 (HB4.out.since k6)
        obtain⟨y0,y1,y2,y3,y4⟩:=bx5' (HB4.out.since k6)
        have op6:=only_put5 w6 w.heap.size (.slice A m c) (.int .i64 i1) (.int .i64 n) (.int .i64 a1) (.int .i64 e1)
        have HO6:=lH (owns_only (owns_since HO4.out k6) op6 (by omega))
        have HQ6:=lH (rx_only (rx_since HQ4.out k6) op6 (.inl (show _<_ by omega)))
        clear op6
        go_wp2
        go_roundw
        case rel=>exact⟨B4,nn+1,cp4,i1,a1,e1,xs ++ [x],_,rfl,by omega,HXL4.out,since_put5 (HW4.out.trans k6) (Nat.le_refl _) _ _ _ _ _,by have:=k6.size; simp; omega,bxput5 (HB4.out.since k6) _ _ _ _ _,bxfar5 (HZ4.out.since k6) (by omega) _ _ _ _ _,HO6.out,HQ6.out,.inr ⟨p,x0,HBAD.out,HEC.out⟩⟩
        case measure=>simp[lenV]; omega
  · have hbad:∃ p x,r = .bad p x∧Ec e x:=HT.out.elim (fun h=>h.2.bad he) id
    obtain⟨p,x0,hbad,hec⟩:=hbad
    have ne:(e != 0)=true:=by rw[bne_iff_ne]; exact he
    have eq:(e == 0)=false:=by rw[beq_eq_false_iff_ne]; exact he
    have HBAD:=lH hbad
    have HEC:=lH hec
    clear hbad hec he HT
    obtain⟨g0,g1,g2,g3,g4⟩:=bx5 HB.out
    obtain⟨z0,z1,z2,z3,z4⟩:=bx5 HZr.out
    obtain⟨y0,y1,y2,y3,y4⟩:=bx5' HZr.out
    go_wp2
    refine bodyPost_ret (v:=.tuple #[.agg #[.slice A m c,.int .i64 i,.int .i64 n,.int .i64 a,.int .i64 e],.slice none 0 0]) ?_ rfl ?_
    · simp[results,Tryz.results113,go_sem,z0,z1,z2,z3,z4]
    · exact⟨_,_,_,[],none,0,0,rfl,.inr ⟨p,x0,HBAD.out,HEC.out⟩,Sl.nil _ _ _,faro_nil _,since_put5 HW.out (Nat.le_succ _) _ _ _ _ _⟩
theorem args_u (A:Option Addr) (m c:Nat) (n:Int) (ts:List Tv) (w:World) (H:Toks w (.slice A m c) ts) (hl:ts.length≤10000) {β:Type} {F:R β} {q:List Xp→P β} {i at_:Int} (h:Th ts n F (bnd args q) i at_ 0) :
 Calls Tryz.prog 113 #[.agg #[.slice A m c,.int .i64 i,.int .i64 n,.int .i64 at_,.int .i64 0]] w fun e w'=>∃ (i' at' er':Int) (l:List Xp) (C:Option Addr) (m' c':Nat),e = .returned (.tuple #[.agg #[.slice A m c,.int .i64 i',.int .i64 n,.int .i64 at',.int .i64 er'],.slice C m' c'])∧Th ts n F (q l) i' at' er'∧Sl 4 (QX (Old w)) w' (.slice C m' c') l∧FarO (Old w) (.slice C m' c')∧Since w w':=by
 obtain⟨k,hF,hk,rfl,rfl⟩:=h.good rfl
 have h1:Calls Tryz.prog 113 #[.agg #[.slice A m c,.int .i64 (k:Int),.int .i64 n,.int .i64 0,.int .i64 0]] w (GotA A m c n ts (args n (ts.drop k)) w):=by
  cases hb:isW [41] (ts.drop k) with
  | true=>exact args_nil A m c n ts k w H hl hk hb
  | false=>exact args_more A m c n ts k w H hl hk hb
 refine h1.mono ?_
 rintro e w' ⟨i',at',er',l,C,m',c',rfl,h2,h3,h4,hs⟩
 refine⟨i',at',er',l,C,m',c',rfl,?_,h3,h4,hs⟩
 rcases h2 with ⟨k2,h5,h6,e1,e2,e3⟩ | ⟨p,x,h5,h6⟩
 · exact .inl ⟨k2,hF.trans (by simp only[bnd,R.bind,h5,ret]),h6,e1,e2,e3⟩
 · exact .inr ⟨p,x,hF.trans (by simp only[bnd,R.bind,h5]),h6⟩
end Go.Proofs.YtjmmcnldfkjebaaGreatDoor.Doc6
