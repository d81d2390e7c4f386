/- What is asked of parse.Text: that it says what the document says. What exprs of layer 6's law gives back: the  -/
import Derived.BigRegion
import Derived.ChangeAlike
import Derived.Deep.DeepCutAuto
import Derived.Maps.AppendAt
import Derived.RegionTactic
import Derived.Test.YtjmmcnldfkjebaaGreatDoorJe
import Derived.Test.YtjmmcnldfkjebaaGreatDoorUb
set_option maxHeartbeats 4000000
set_option maxRecDepth 20000
set_option linter.unusedVariables false
set_option linter.unusedSimpArgs false
section
namespace Go.Proofs.YtjmmcnldfkjebaaGreatDoor.Law06
open Go.RowKit
open Dig Lx Tk Ps Ti
def RetP (r:List It × Int × Int) (w:World) (x:Ending) (w':World):Prop:=
 ∃ A c,x = .returned (.tuple #[.slice A r.1.length c,.int .i64 r.2.1,.int .i64 r.2.2])∧Items w' (.slice A r.1.length c) r.1∧Since w w'
def TextSays (Ok:World→Prop):Prop:=
 (∀ w w',Ok w→Since w w'→Ok w')∧∀ (s:ByteArray) (w:World),s.size≤10000→Ok w→Calls Tryz.prog 18 #[.string s] w (RetP (textD s) w)
theorem text_at {Ok:World→Prop} (T:TextSays Ok) (s:ByteArray) (hs:s.size≤10000) {l:List It} {p e:Int} {n:Nat} (hr:textD s=(l,p,e)) (hn:l.length=n) (w:World) (ok:Ok w) :
 Calls Tryz.prog 18 #[.string s] w fun x w'=>∃ A c,x = .returned (.tuple #[.slice A n c,.int .i64 p,.int .i64 e])∧Items w' (.slice A n c) l∧Since w w':=by
 have h:=T.2 s w hs ok
 rw[hr] at h
 subst hn
 exact h
end Go.Proofs.YtjmmcnldfkjebaaGreatDoor.Law06
namespace Go.Proofs.YtjmmcnldfkjebaaGreatDoor.Law06
open Go.RowKit
open Dig Lx Tk Ps Ti
theorem info_rexpr:(Tryz.prog.info? 45).map (fun i=>(i.zero,i.size,i.bytes))=some (some (.agg #[.int .i64 0,.int .i64 0,.string ⟨#[]⟩,.slice none 0 0]),4,56):=by kernel_rfl
def RetX (xs:List Xp) (w:World) (x:Ending) (w':World):Prop:=∃ A c,x = .returned (.slice A xs.length c)∧Sl 4 (QX (fun b=>b<w.heap.size)) w' (.slice A xs.length c) xs∧FarO (fun b=>b<w.heap.size) (.slice A xs.length c)∧Since w w'
end Go.Proofs.YtjmmcnldfkjebaaGreatDoor.Law06
namespace Go.Proofs.YtjmmcnldfkjebaaGreatDoor.Law06
open Go.RowKit
open Dig Lx Tk Ps Ti
theorem info_ritem:(Tryz.prog.info? 28).map (fun i=>(i.zero,i.size,i.bytes))=some (some (.agg #[.int .i64 0,.string ⟨#[]⟩,.bool false,.slice none 0 0,.int .i64 0,.bool false,.slice none 0 0,.int .i64 0]),8,104):=by kernel_rfl
end Go.Proofs.YtjmmcnldfkjebaaGreatDoor.Law06
namespace Go.Proofs.YtjmmcnldfkjebaaGreatDoor.Ref06
open Go.RowKit
open Dig Lx Tk Ps Ti
end Go.Proofs.YtjmmcnldfkjebaaGreatDoor.Ref06
namespace Go.Proofs.YtjmmcnldfkjebaaGreatDoor.Ref06
open Go.RowKit
open Dig Lx Tk Ps Ti
end Go.Proofs.YtjmmcnldfkjebaaGreatDoor.Ref06
namespace Go.Proofs.YtjmmcnldfkjebaaGreatDoor.Law06
open Go.RowKit
open Dig Lx Tk Ps Ti
end Go.Proofs.YtjmmcnldfkjebaaGreatDoor.Law06
end
section
namespace Go.Proofs.YtjmmcnldfkjebaaGreatDoor.Doc6
open Go.RowKit
open Dig Lx Tk Ps Ti
open Prs (Only owns_only lenV Old)
theorem bxput5 {W:World} {b:Nat} {z0 z1 z2 z3 z4:Value} {t:TypeId} (h:Bx W b #[z0,z1,z2,z3,z4] t) (u0 u1 u2 u3 u4:Value):Bx (put5 W b u0 u1 u2 u3 u4) b #[u0,u1,u2,u3,u4] t:=
 bxset (bxset (bxset (bxset (bxset h 0 u0 rfl) 1 u1 rfl) 2 u2 rfl) 3 u3 rfl) 4 u4 rfl
theorem bx_grown {W W':World} {b:Nat} {cs:Array Value} {t:TypeId} {o:Option Nat} (h:Bx W b cs t) (k:W.grownBy W' o) (ho:∀ g,o=some g→g≠b):Bx W' b cs t:=by
 have hl:=h.lt
 unfold Bx at *
 rw[k.block b hl (fun e=>ho b e.symm rfl)]; exact h
theorem got_ok {α:Type} {V:World→α→Value→Prop} {Z:Value→Prop} {A:Option Addr} {m c:Nat} {n:Int} {ts:List Tv} {x:α} {rr:Ts} {w w':World} {e:Ending} (h:Got V Z A m c n ts (.ok x rr) w e w') :
 ∃ k v,rr=ts.drop k∧k≤ts.length∧V w' x v∧e = .returned (.tuple #[.agg #[.slice A m c,.int .i64 (k:Int),.int .i64 n,.int .i64 0,.int .i64 0],v])∧Since w w':=by
 rcases h with ⟨a,k,v,h1,h2⟩ | ⟨p,x,i,at_,er,v,h1,-⟩
 · injection h1 with h1 h3
   subst h1 h3
   exact⟨k,v,rfl,h2⟩
 · cases h1
theorem got_bad {α:Type} {V:World→α→Value→Prop} {Z:Value→Prop} {A:Option Addr} {m c:Nat} {n:Int} {ts:List Tv} {p x:Int} {w w':World} {e:Ending} (h:Got V Z A m c n ts (.bad p x) w e w') :
 ∃ i at_ er v,Ec er x∧Z v∧e = .returned (.tuple #[.agg #[.slice A m c,.int .i64 i,.int .i64 n,.int .i64 at_,.int .i64 er],v])∧Since w w':=by
 rcases h with ⟨a,k,v,h1,-⟩ | ⟨p',x',i,at_,er,v,h1,h2⟩
 · cases h1
 · injection h1 with e1 e2
   subst e1 e2
   exact⟨i,at_,er,v,h2⟩
theorem only_put5 (W:World) (b:Nat) (u0 u1 u2 u3 u4:Value):Only b W (put5 W b u0 u1 u2 u3 u4):=(((((Only.refl b W).set u0).set u1).set u2).set u3).set u4
theorem bxfar5 {W:World} {b b':Nat} {cs:Array Value} {t:TypeId} (h:Bx W b cs t) (hb:b≠b') (u0 u1 u2 u3 u4:Value):Bx (put5 W b' u0 u1 u2 u3 u4) b cs t:=((((h.other hb 0 u0).other hb 1 u1).other hb 2 u2).other hb 3 u3).other hb 4 u4
section
variable {α:Type} {p:P α} {close:Bs} {most f:Nat} {out:List α} {n:Int} {ts r r2:Ts} {x:α} {q er:Int}
theorem some_big (h:out.length=most):∃ a,some_ p close most (f+1) out n ts = .bad a 3:=⟨_,if_pos h⟩
theorem some_bad (h:out.length≠most) (h1:p n ts = .bad q er):some_ p close most (f+1) out n ts = .bad q er:=by
 simp only[some_,if_neg h,bnd,R.bind,h1]
theorem some_end (h:out.length≠most) (h1:p n ts = .ok x r) (h2:isW close r=true):some_ p close most (f+1) out n ts = .ok (out ++ [x]) r.tail:=by
 simp only[some_,if_neg h,bnd,R.bind,h1,alt,h2,if_true,ret]
theorem some_mid (h:out.length≠most) (h1:p n ts = .ok x r) (h2:isW close r=false) (h3:take comma n r = .bad q er):some_ p close most (f+1) out n ts = .bad q er:=by
 simp only[some_,if_neg h,bnd,R.bind,h1,alt,h2,Bool.false_eq_true,if_false,h3]
theorem some_more (h:out.length≠most) (h1:p n ts = .ok x r) (h2:isW close r=false) (h3:take comma n r = .ok () r2):some_ p close most (f+1) out n ts=some_ p close most f (out ++ [x]) n r2:=by
 simp only[some_,if_neg h,bnd,R.bind,h1,alt,h2,Bool.false_eq_true,if_false,h3]
end
theorem list_ok (A:Option Addr) (m c:Nat) (n:Int) (ts:List Tv) (k0:Nat) (w:World) (H:Toks w (.slice A m c) ts) (hl:ts.length≤10000) (hk0:k0≤ts.length) :
 Calls Tryz.prog 142 #[.agg #[.slice A m c,.int .i64 (k0:Int),.int .i64 n,.int .i64 0,.int .i64 0]] w (Got (fun w' l v=>Sl 4 QP w' v l∧FarO (Old w) v) (fun v=>v = .slice none 0 0) A m c n ts (list n (ts.drop k0)) w):=by
 have ISA:=lH (fun k t W (kk:Since w W) (ht:L t ≠ [])=>is_ok A m c n ts k t W (H.since kk) ht)
 have NXA:=lH (fun (k:Nat) W (hk:k≤10000)=>next_ok A m c n k W hk)
 have FLA:=lH (fun k x W (kk:Since w W) (hx:x≠0)=>fail_ok A m c n ts k x W (H.since kk) hx)
 have PLA:=lH (fun k W (kk:Since w W) (hk:k≤ts.length)=>plain_ok A m c n ts k W (H.since kk) hl hk)
 have TKA:=lH (fun k W (kk:Since w W) (hk:k≤ts.length)=>take_ok A m c n ts k ⟨#[44]⟩ W (H.since kk) hl hk (by decide))
 have HL:=lH hl
 have hs1:Since w ((w.alloc (.cells #[.slice A m c,.int .i64 (k0:Int),.int .i64 n,.int .i64 0,.int .i64 0] 127)).alloc (.cells #[.slice none 0 0,.int .i64 0,.int .i64 0,.int .i64 0,.int .i64 0] 127)):=(sA _ _).trans (sA _ _)
 have HX:=lH (fun W (kz:Since ((w.alloc (.cells #[.slice A m c,.int .i64 (k0:Int),.int .i64 n,.int .i64 0,.int .i64 0] 127)).alloc (.cells #[.slice none 0 0,.int .i64 0,.int .i64 0,.int .i64 0,.int .i64 0] 127)) W)=>((Bx.fresh w #[.slice A m c,.int .i64 (k0:Int),.int .i64 n,.int .i64 0,.int .i64 0] 127).since (sA _ _)).since kz)
 have HZ:=lH (fun W (kz:Since ((w.alloc (.cells #[.slice A m c,.int .i64 (k0:Int),.int .i64 n,.int .i64 0,.int .i64 0] 127)).alloc (.cells #[.slice none 0 0,.int .i64 0,.int .i64 0,.int .i64 0,.int .i64 0] 127)) W)=>(Bx.new kz (by simp):Bx W (w.heap.size+1) #[.slice none 0 0,.int .i64 0,.int .i64 0,.int .i64 0,.int .i64 0] 127))
 have HS:=lH hs1
 clear hs1
 obtain⟨g0,g1,g2,g3,g4⟩:=bx5 (HX.out _ (Since.refl _))
 obtain⟨z0,z1,z2,z3,z4⟩:=bx5 (HZ.out _ (Since.refl _))
 obtain⟨y0,y1,y2,y3,y4⟩:=bx5' (HZ.out _ (Since.refl _))
 cases hi:isW [93] (ts.drop k0) with
 | true =>
  have I0:=lH (fun W (kk:Since w W)=>ISA.out k0 ⟨#[93]⟩ W kk (by decide))
  have e93:L ⟨#[93]⟩ = [93]:=rfl
  rw[e93,hi] at I0
  have hlt:k0<ts.length:=by
   apply Decidable.byContradiction; intro hn
   rw[drop_end (by omega)] at hi; cases hi
  have HEQ:=lH (show list n (ts.drop k0) = .ok [] (ts.drop (k0+1)) from (if_pos hi).trans (by rw[List.tail_drop]; rfl))
  have NX:=lH (fun W=>NXA.out k0 W (by omega))
  clear H e93 hi
  go_enter Tryz.func142,Tryz.ntmps142
  go_wp2_with (first
   | (go_at_call 116; (with_reducible refine (I0.out _ HS.out).mono ?_); rintro e0 w1 ⟨rfl,h1⟩; obtain⟨g0,g1,g2,g3,g4⟩:=bx5 (HX.out _ h1))
   | (go_at_call 110; (with_reducible refine (NX.out _).mono ?_); rintro e0 w2 ⟨rfl,h2⟩; have k2:=h1.trans h2; obtain⟨z0,z1,z2,z3,z4⟩:=bx5 (HZ.out _ k2); obtain⟨y0,y1,y2,y3,y4⟩:=bx5' (HZ.out _ k2)))
  refine bodyPost_ret (v:=.tuple #[.agg #[.slice A m c,.int .i64 ((k0+1:Nat):Int),.int .i64 n,.int .i64 0,.int .i64 0],.slice none 0 0]) ?_ rfl ?_
  · simp[results,Tryz.results142,go_sem,z0,z1,z2,z3,z4]
  · exact .inl ⟨[],k0+1,_,HEQ.out,hlt,⟨Sl.nil _ _ _,fun b o n c e hn=>by injection e with e; cases e⟩,rfl,since_put5 (HS.out.trans k2) (Nat.le_succ _) _ _ _ _ _⟩
 | false =>
  have I0:=lH (fun W (kk:Since w W)=>ISA.out k0 ⟨#[93]⟩ W kk (by decide))
  have e93:L ⟨#[93]⟩ = [93]:=rfl
  rw[e93,hi] at I0
  obtain⟨r,hr⟩:∃ r,r=list n (ts.drop k0):=⟨_,rfl⟩
  rw[← hr]
  have HR:=lH (show some_ plain [93] 64 (65 - 0) [] n (ts.drop k0)=r by rw[hr]; exact (if_neg (by rw[hi]; exact Bool.false_ne_true)).symm)
  have HK0:=lH hk0
  clear H hi hr hl hk0
  obtain⟨i0,hi,hz0,hz1,hz2⟩:=info_parts Law06.info_rexpr
  go_enter Tryz.func142,Tryz.ntmps142
  go_wp2_with (go_at_call 116; (with_reducible refine (I0.out _ HS.out).mono ?_); rintro e0 w1 ⟨rfl,h1⟩)
  go_loopw [4] (fun out wr=>∃ (B:Option Addr) (nn cp:Nat),out = .slice B nn cp∧nn≤65∧Hid (Since w wr)∧w.heap.size+2≤wr.heap.size∧Hid (Bx wr (w.heap.size+1) #[.slice none 0 0,.int .i64 0,.int .i64 0,.int .i64 0,.int .i64 0] 127)∧((∃ (k:Nat) (xs:List Pl) (cs:List Value),nn≤64∧k≤ts.length∧Hid (xs.length=nn)∧Hid (wr.ownsRow (w.heap.size+2) 45 4 (.slice B nn cp) nn cs)∧Hid (Rws 4 (QP wr) xs cs)∧Hid (Bx wr w.heap.size #[.slice A m c,.int .i64 (k:Int),.int .i64 n,.int .i64 0,.int .i64 0] 127)∧Hid (some_ plain [93] 64 (65 - nn) xs n (ts.drop k)=r))∨(∃ i at_ er:Int,∃ cd:Int,Ec er cd∧Hid (Bx wr w.heap.size #[.slice A m c,.int .i64 i,.int .i64 n,.int .i64 at_,.int .i64 er] 127)∧Hid (∃ p,r = .bad p cd)))) (fun out _=>70 - lenV out)
  case atStart=>exact⟨none,0,0,rfl,by decide,HS.out.trans h1,by have:=h1.size; simp at this; omega,HZ.out _ h1,.inl ⟨k0,[],[],by decide,HK0.out,rfl,World.ownsRow_nil _ _ _ _,.nil,HX.out _ h1,HR.out⟩⟩
  case round =>
   clear HX HZ HS
   obtain⟨B,nn,cp,rfl,hnn,HW,hsz,HZr,hcase⟩:=hrel
   rcases hcase with ⟨k,xs,cs,h64,hk,HXL,HO,HQ,HB,HE⟩ | ⟨i,at_,er,cd,he,HB,HBAD⟩
   · by_cases h6:nn=64
     · subst h6
       have HBAD:=lH (show ∃ p,r = .bad p 3 by obtain⟨a,e⟩:=some_big (p:=plain) (close:=[93]) (f:=0) (n:=n) (ts:=ts.drop k) HXL.out; exact⟨a,HE.out.symm.trans e⟩)
       have FL:=lH (fun W (kk:Since w W)=>FLA.out k 3 W kk (by decide))
       obtain⟨g0,g1,g2,g3,g4⟩:=bx5 HB.out
       go_wp2_with (go_at_call 75; (with_reducible refine (FL.out _ HW.out).mono ?_); rintro e0 w2 ⟨i,at_,er,rfl,he,h2⟩; obtain⟨z0,z1,z2,z3,z4⟩:=bx5 (HZr.out.since h2); obtain⟨y0,y1,y2,y3,y4⟩:=bx5' (HZr.out.since h2))
       refine bodyPost_ret (v:=.tuple #[.agg #[.slice A m c,.int .i64 i,.int .i64 n,.int .i64 at_,.int .i64 er],.slice none 0 0]) ?_ rfl ?_
       · simp[results,Tryz.results142,go_sem,z0,z1,z2,z3,z4]
       · obtain⟨p,hb⟩:=HBAD.out
         exact .inr ⟨p,_,i,at_,er,_,hb,he,rfl,rfl,since_put5 (HW.out.trans h2) (Nat.le_succ _) _ _ _ _ _⟩
     · have hz:((nn:Int) == 64)=false:=by rw[beq_eq_false_iff_ne]; omega
       have HNEQ:=lH (show xs.length≠64 by rw[HXL.out]; exact h6)
       obtain⟨f,hf⟩:∃ f,65 - nn=f+1:=⟨64 - nn,by omega⟩
       have he:=HE.out
       rw[hf] at he
       have HE1:=lH he
       have hnn2:nn+1≤64:=by omega
       have HF:=lH hf
       clear he HE h6 hf hnn h64
       have HK:=lH hk
       cases hp:plain n (ts.drop k) with
       | ok x rr =>
        have P1:=lH (fun W (kk:Since w W)=>(PLA.out k W kk HK.out).mono (fun e w' h=>got_ok (hp ▸ h)))
        have HP:=lH hp
        clear hp
        obtain⟨g0,g1,g2,g3,g4⟩:=bx5 HB.out
        go_wp2_with (first
       | (go_at_call 138; (with_reducible refine (P1.out _ HW.out).mono ?_); rintro e0 w1 ⟨k1,_,hr1,l1,rfl,rfl,h1⟩; have kA:Since wr ((w1.alloc (.cells #[.slice A m c,.int .i64 (k1:Int),.int .i64 n,.int .i64 0,.int .i64 0] 127)).alloc (.cells #[.int .i64 x.k,.int .i64 x.n,.string x.s,.slice none 0 0] 45)):=h1.trans ((sA _ _).trans (sA _ _)); have b1:=lH (HB.out.since kA); have hs1:=h1.size; obtain⟨g0,g1,g2,g3,g4⟩:=bx5 b1.out; obtain⟨y0,y1,y2,y3,y4⟩:=bx5' b1.out; have b2:=bxfar5 (Bx.fresh (w1.alloc (.cells #[.slice A m c,.int .i64 (k1:Int),.int .i64 n,.int .i64 0,.int .i64 0] 127)) #[.int .i64 x.k,.int .i64 x.n,.string x.s,.slice none 0 0] 45) (b':=w.heap.size) (by simp; omega) (.slice A m c) (.int .i64 (k1:Int)) (.int .i64 n) (.int .i64 0) (.int .i64 0); rw[show (w1.alloc (.cells #[.slice A m c,.int .i64 (k1:Int),.int .i64 n,.int .i64 0,.int .i64 0] 127)).heap.size=w1.heap.size+1 by simp] at b2; obtain⟨e0',e1',e2',e3'⟩:=b2.four; clear b2)
       | (at_builtin; refine wpList_append_own_at _ rfl _ _ 26 rfl (w.heap.size+2) 45 i0 (.agg #[.int .i64 0,.int .i64 0,.string ⟨#[]⟩,.slice none 0 0]) 4 56 Tryz.underlying26 hi hz0 hz1 hz2 rfl (by decide) _ _ _ rfl (owns_since (owns_only (owns_since HO.out kA) (only_put5 ((w1.alloc (.cells #[.slice A m c,.int .i64 (k1:Int),.int .i64 n,.int .i64 0,.int .i64 0] 127)).alloc (.cells #[.int .i64 x.k,.int .i64 x.n,.string x.s,.slice none 0 0] 45)) w.heap.size (.slice A m c) (.int .i64 (k1:Int)) (.int .i64 n) (.int .i64 0) (.int .i64 0)) (by omega)) (sA _ (.cells #[.int .i64 x.k,.int .i64 x.n,.string x.s,.slice none 0 0] 45))) ⟨w1.heap.size+1+1,0,none⟩ 1 1 [.int .i64 x.k,.int .i64 x.n,.string x.s,.slice none 0 0] rfl rfl ?c1 ?c2 ?c3 ?c4 ?c5 ?_))
        case c1 =>
         intro j u hj
         exact cell_new _ _ _ (by simp) (by simpa using hj)
        case c2=>intro u hu; simp at hu; rcases hu with rfl | rfl | rfl | rfl <;> rfl
        case c3=>unfold maxLen; omega
        case c4=>omega
        case c5=>simp; omega
        intro v4 w4 hown hgrow _ hat
        have hgo:∀ g,(Value.slice B nn cp).ownBlock=some g→w.heap.size+2≤g:=fun g hg=>(HO.out.lt g hg).1
        have hB3:=(bxput5 b1.out (.slice A m c) (.int .i64 (k1:Int)) (.int .i64 n) (.int .i64 0) (.int .i64 0)).since (sA _ (.cells #[.int .i64 x.k,.int .i64 x.n,.string x.s,.slice none 0 0] 45))
        have hZ3:=(bxfar5 (HZr.out.since kA) (b':=w.heap.size) (by omega) (.slice A m c) (.int .i64 (k1:Int)) (.int .i64 n) (.int .i64 0) (.int .i64 0)).since (sA _ (.cells #[.int .i64 x.k,.int .i64 x.n,.string x.s,.slice none 0 0] 45))
        have hS3:Since w ((put5 ((w1.alloc (.cells #[.slice A m c,.int .i64 (k1:Int),.int .i64 n,.int .i64 0,.int .i64 0] 127)).alloc (.cells #[.int .i64 x.k,.int .i64 x.n,.string x.s,.slice none 0 0] 45)) w.heap.size (.slice A m c) (.int .i64 (k1:Int)) (.int .i64 n) (.int .i64 0) (.int .i64 0)).alloc (.cells #[.int .i64 x.k,.int .i64 x.n,.string x.s,.slice none 0 0] 45)):=(since_put5 (HW.out.trans kA) (Nat.le_refl _) _ _ _ _ _).trans (sA _ _)
        have HB4:=lH (bx_grown hB3 hgrow (fun g hg=>by have:=hgo g hg; omega))
        have HZ4:=lH (bx_grown hZ3 hgrow (fun g hg=>by have:=hgo g hg; omega))
        have HW4:=lH (show Since w w4 from Below.grown hS3 hgrow hS3.size (fun g hg=>by have:=hgo g hg; omega))
        have hz4:w.heap.size+2≤w4.heap.size:=by have:=hgrow.size; have:=HZ4.out.lt; omega
        have ho4:w4.ownsRow (w.heap.size+2) 45 4 v4 (nn+1) (cs ++ [.int .i64 x.k,.int .i64 x.n,.string x.s,.slice none 0 0]):=hown
        obtain⟨B4,cp4,rfl⟩:=owns_slice ho4
        have HO4:=lH ho4
        clear hown hgrow hat hgo hB3 hZ3 hS3 ho4
        have HR1:=lH (HP.out.trans (by rw[hr1]):plain n (ts.drop k) = .ok x (ts.drop k1))
        have HQ4:=lH (show Rws 4 (QP w4) (xs ++ [x]) (cs ++ [.int .i64 x.k,.int .i64 x.n,.string x.s,.slice none 0 0]) from (HQ.out.mono fun x u h=>h).snoc ⟨none,0,rfl⟩ rfl)
        have HXL4:=lH (show (xs ++ [x]).length=nn+1 by rw[List.length_append,HXL.out]; rfl)
        have I1:=lH (fun W (kk:Since w W)=>ISA.out k1 ⟨#[93]⟩ W kk (by decide))
        rw[e93] at I1
        clear hr1 b1 kA y0 y1 y2 y3 y4 e0' e1' e2' e3' g0 g1 g2 g3 g4
        obtain⟨g0,g1,g2,g3,g4⟩:=bx5 HB4.out
        cases hc:isW [93] (ts.drop k1) with
        | true =>
         rw[hc] at I1
         have NX:=lH (fun W=>NXA.out k1 W (by have:=HL.out; omega))
         have hlt:k1<ts.length:=by
          apply Decidable.byContradiction; intro hn
          rw[drop_end (by omega)] at hc; cases hc
         have HEQ:=lH (HE1.out.symm.trans ((some_end HNEQ.out HR1.out hc).trans (by rw[List.tail_drop])):r = .ok (xs ++ [x]) (ts.drop (k1+1)))
         clear hc
         go_wp2_with (first
        | (go_at_call 116; (with_reducible refine (I1.out _ HW4.out).mono ?_); rintro e0 w5 ⟨rfl,h5⟩; obtain⟨g0,g1,g2,g3,g4⟩:=bx5 (HB4.out.since h5))
        | (go_at_call 110; (with_reducible refine (NX.out _).mono ?_); rintro e0 w6 ⟨rfl,h6⟩; have k6:=h5.trans h6; obtain⟨z0,z1,z2,z3,z4⟩:=bx5 (HZ4.out.since k6); obtain⟨y0,y1,y2,y3,y4⟩:=bx5' (HZ4.out.since k6)))
         refine bodyPost_ret (v:=.tuple #[.agg #[.slice A m c,.int .i64 ((k1+1:Nat):Int),.int .i64 n,.int .i64 0,.int .i64 0],.slice B4 (nn+1) cp4]) ?_ rfl ?_
         · simp[results,Tryz.results142,go_sem,z0,z1,z2,z3,z4]
         · have hoe:=owns_only (owns_since HO4.out k6) (only_put5 _ (w.heap.size+1) (.slice A m c) (.int .i64 ((k1+1:Nat):Int)) (.int .i64 n) (.int .i64 0) (.int .i64 0)) (by omega)
           exact .inl ⟨xs ++ [x],k1+1,_,HEQ.out,hlt,⟨Sl.own hoe (HQ4.out.mono fun x u h=>h) HXL4.out.symm,FarO.own hoe (fun b hb=>by have:b<w.heap.size:=hb; omega)⟩,rfl,since_put5 (HW4.out.trans k6) (Nat.le_succ _) _ _ _ _ _⟩
        | false =>
         rw[hc] at I1
         have TK:=lH (fun W (kk:Since w W)=>TKA.out k1 W kk l1)
         have HC:=lH hc
         clear hc
         go_wp2_with (first
        | (go_at_call 116; (with_reducible refine (I1.out _ HW4.out).mono ?_); rintro e0 w5 ⟨rfl,h5⟩; obtain⟨g0,g1,g2,g3,g4⟩:=bx5 (HB4.out.since h5))
        | (go_at_call 77; (with_reducible refine (TK.out _ (HW4.out.trans h5)).mono ?_); rintro e0 w6 (⟨k2,hr2,l2,rfl,h6⟩ | ⟨p,x',hr2,i,at_,er,rfl,he,h6⟩) <;> have k6:=h5.trans h6 <;> obtain⟨g0,g1,g2,g3,g4⟩:=bx5 (HB4.out.since k6) <;> obtain⟨y0,y1,y2,y3,y4⟩:=bx5' (HB4.out.since k6)))
         · go_roundw
           case rel =>
            refine⟨B4,nn+1,cp4,rfl,by omega,since_put5 (HW4.out.trans k6) (Nat.le_refl _) _ _ _ _ _,by have:=k6.size; simp; omega,bxfar5 (HZ4.out.since k6) (by omega) _ _ _ _ _,.inl ⟨k2,xs ++ [x],_,hnn2,l2,HXL4.out,owns_only (owns_since HO4.out k6) (only_put5 _ w.heap.size _ _ _ _ _) (by omega),HQ4.out.mono fun x u h=>h,bxput5 (HB4.out.since k6) _ _ _ _ _,?_⟩⟩
            rw[show 65 - (nn+1)=f by have:=HF.out; omega]
            exact (some_more HNEQ.out HR1.out HC.out hr2).symm.trans HE1.out
           case measure=>simp[lenV]; omega
         · go_roundw
           case rel =>
            exact⟨B4,nn+1,cp4,rfl,by omega,since_put5 (HW4.out.trans k6) (Nat.le_refl _) _ _ _ _ _,by have:=k6.size; simp; omega,bxfar5 (HZ4.out.since k6) (by omega) _ _ _ _ _,.inr ⟨i,at_,er,_,he,bxput5 (HB4.out.since k6) _ _ _ _ _,⟨p,HE1.out.symm.trans (some_mid HNEQ.out HR1.out HC.out hr2)⟩⟩⟩
           case measure=>simp[lenV]; omega
       | bad p q =>
        have P1:=lH (fun W (kk:Since w W)=>(PLA.out k W kk HK.out).mono (fun e w' h=>got_bad (hp ▸ h)))
        have HBAD:=lH (show ∃ p',r = .bad p' q from⟨_,HE1.out.symm.trans (some_bad HNEQ.out hp)⟩)
        clear hp
        obtain⟨g0,g1,g2,g3,g4⟩:=bx5 HB.out
        go_wp2_with (first
       | (go_at_call 138; (with_reducible refine (P1.out _ HW.out).mono ?_); rintro e0 w1 ⟨i,at_,er,_,he,rfl,rfl,h1⟩; have kA:Since wr ((w1.alloc (.cells #[.slice A m c,.int .i64 i,.int .i64 n,.int .i64 at_,.int .i64 er] 127)).alloc (.cells #[.int .i64 0,.int .i64 0,.string ⟨#[]⟩,.slice none 0 0] 45)):=h1.trans ((sA _ _).trans (sA _ _)); have b1:=lH (HB.out.since kA); have hs1:=h1.size; obtain⟨g0,g1,g2,g3,g4⟩:=bx5 b1.out; obtain⟨y0,y1,y2,y3,y4⟩:=bx5' b1.out; have b2:=bxfar5 (Bx.fresh (w1.alloc (.cells #[.slice A m c,.int .i64 i,.int .i64 n,.int .i64 at_,.int .i64 er] 127)) #[.int .i64 0,.int .i64 0,.string ⟨#[]⟩,.slice none 0 0] 45) (b':=w.heap.size) (by simp; omega) (.slice A m c) (.int .i64 i) (.int .i64 n) (.int .i64 at_) (.int .i64 er); rw[show (w1.alloc (.cells #[.slice A m c,.int .i64 i,.int .i64 n,.int .i64 at_,.int .i64 er] 127)).heap.size=w1.heap.size+1 by simp] at b2; obtain⟨e0',e1',e2',e3'⟩:=b2.four; clear b2)
       | (at_builtin; refine wpList_append_own_at _ rfl _ _ 26 rfl (w.heap.size+2) 45 i0 (.agg #[.int .i64 0,.int .i64 0,.string ⟨#[]⟩,.slice none 0 0]) 4 56 Tryz.underlying26 hi hz0 hz1 hz2 rfl (by decide) _ _ _ rfl (owns_since (owns_only (owns_since HO.out kA) (only_put5 ((w1.alloc (.cells #[.slice A m c,.int .i64 i,.int .i64 n,.int .i64 at_,.int .i64 er] 127)).alloc (.cells #[.int .i64 0,.int .i64 0,.string ⟨#[]⟩,.slice none 0 0] 45)) w.heap.size (.slice A m c) (.int .i64 i) (.int .i64 n) (.int .i64 at_) (.int .i64 er)) (by omega)) (sA _ (.cells #[.int .i64 0,.int .i64 0,.string ⟨#[]⟩,.slice none 0 0] 45))) ⟨w1.heap.size+1+1,0,none⟩ 1 1 [.int .i64 0,.int .i64 0,.string ⟨#[]⟩,.slice none 0 0] rfl rfl ?c1 ?c2 ?c3 ?c4 ?c5 ?_))
        case c1 =>
         intro j u hj
         exact cell_new _ _ _ (by simp) (by simpa using hj)
        case c2=>intro u hu; simp at hu; rcases hu with rfl | rfl | rfl | rfl <;> rfl
        case c3=>unfold maxLen; omega
        case c4=>omega
        case c5=>simp; omega
        intro v4 w4 hown hgrow _ hat
        have hgo:∀ g,(Value.slice B nn cp).ownBlock=some g→w.heap.size+2≤g:=fun g hg=>(HO.out.lt g hg).1
        have hB3:=(bxput5 b1.out (.slice A m c) (.int .i64 i) (.int .i64 n) (.int .i64 at_) (.int .i64 er)).since (sA _ (.cells #[.int .i64 0,.int .i64 0,.string ⟨#[]⟩,.slice none 0 0] 45))
        have hZ3:=(bxfar5 (HZr.out.since kA) (b':=w.heap.size) (by omega) (.slice A m c) (.int .i64 i) (.int .i64 n) (.int .i64 at_) (.int .i64 er)).since (sA _ (.cells #[.int .i64 0,.int .i64 0,.string ⟨#[]⟩,.slice none 0 0] 45))
        have hS3:Since w ((put5 ((w1.alloc (.cells #[.slice A m c,.int .i64 i,.int .i64 n,.int .i64 at_,.int .i64 er] 127)).alloc (.cells #[.int .i64 0,.int .i64 0,.string ⟨#[]⟩,.slice none 0 0] 45)) w.heap.size (.slice A m c) (.int .i64 i) (.int .i64 n) (.int .i64 at_) (.int .i64 er)).alloc (.cells #[.int .i64 0,.int .i64 0,.string ⟨#[]⟩,.slice none 0 0] 45)):=(since_put5 (HW.out.trans kA) (Nat.le_refl _) _ _ _ _ _).trans (sA _ _)
        have HB4:=lH (bx_grown hB3 hgrow (fun g hg=>by have:=hgo g hg; omega))
        have HZ4:=lH (bx_grown hZ3 hgrow (fun g hg=>by have:=hgo g hg; omega))
        have HW4:=lH (show Since w w4 from Below.grown hS3 hgrow hS3.size (fun g hg=>by have:=hgo g hg; omega))
        have hz4:w.heap.size+2≤w4.heap.size:=by have:=hgrow.size; have:=HZ4.out.lt; omega
        have ho4:w4.ownsRow (w.heap.size+2) 45 4 v4 (nn+1) (cs ++ [.int .i64 0,.int .i64 0,.string ⟨#[]⟩,.slice none 0 0]):=hown
        obtain⟨B4,cp4,rfl⟩:=owns_slice ho4
        have HO4:=lH ho4
        clear hown hgrow hat hgo hB3 hZ3 hS3 ho4
        have I1:=lH (fun W=>is_no A m c n i at_ er ⟨#[93]⟩ W he.1 (by decide))
        have TK:=lH (fun W=>take_no A m c n i at_ er ⟨#[44]⟩ W he.1)
        clear b1 kA y0 y1 y2 y3 y4 e0' e1' e2' e3' g0 g1 g2 g3 g4
        obtain⟨g0,g1,g2,g3,g4⟩:=bx5 HB4.out
        go_wp2_with (first
        | (go_at_call 116; (with_reducible refine (I1.out _).mono ?_); rintro e0 w5 ⟨rfl,h5⟩; obtain⟨g0,g1,g2,g3,g4⟩:=bx5 (HB4.out.since h5))
        | (go_at_call 77; (with_reducible refine (TK.out _).mono ?_); rintro e0 w6 ⟨rfl,h6⟩; have k6:=h5.trans h6; obtain⟨g0,g1,g2,g3,g4⟩:=bx5 (HB4.out.since k6); obtain⟨y0,y1,y2,y3,y4⟩:=bx5' (HB4.out.since k6)))
        go_roundw
        case rel=>exact⟨B4,nn+1,cp4,rfl,by omega,since_put5 (HW4.out.trans k6) (Nat.le_refl _) _ _ _ _ _,by have:=k6.size; simp; omega,bxfar5 (HZ4.out.since k6) (by omega) _ _ _ _ _,.inr ⟨i,at_,er,_,he,bxput5 (HB4.out.since k6) _ _ _ _ _,HBAD.out⟩⟩
        case measure=>simp[lenV]; omega
   · have ne:(er != 0)=true:=by rw[bne_iff_ne]; exact he.1
     have eq:(er == 0)=false:=by rw[beq_eq_false_iff_ne]; exact he.1
     have HNE:=lH he
     clear he
     obtain⟨g0,g1,g2,g3,g4⟩:=bx5 HB.out
     obtain⟨z0,z1,z2,z3,z4⟩:=bx5 HZr.out
     obtain⟨y0,y1,y2,y3,y4⟩:=bx5' HZr.out
     go_wp2
     refine bodyPost_ret (v:=.tuple #[.agg #[.slice A m c,.int .i64 i,.int .i64 n,.int .i64 at_,.int .i64 er],.slice none 0 0]) ?_ rfl ?_
     · simp[results,Tryz.results142,go_sem,z0,z1,z2,z3,z4]
     · obtain⟨p,hb⟩:=HBAD.out
       exact .inr ⟨p,_,i,at_,er,_,hb,HNE.out,rfl,rfl,since_put5 HW.out (Nat.le_succ _) _ _ _ _ _⟩
theorem bp5 {W:World} {b:Nat} {z0 z1 z2 z3 z4:Value} {t:TypeId} (h:Bx W b #[z0,z1,z2,z3,z4] t) (A:Option Addr) (m c:Nat) (i n a r:Int):Hid (Bx (put5 W b (.slice A m c) (.int .i64 i) (.int .i64 n) (.int .i64 a) (.int .i64 r)) b #[.slice A m c,.int .i64 i,.int .i64 n,.int .i64 a,.int .i64 r] t):=lH (bxput5 h _ _ _ _ _)
theorem bf5 {W:World} {b b':Nat} {cs:Array Value} {t:TypeId} (h:Bx W b cs t) (hb:b ≠ b') (A:Option Addr) (m c:Nat) (i n a r:Int):Hid (Bx (put5 W b' (.slice A m c) (.int .i64 i) (.int .i64 n) (.int .i64 a) (.int .i64 r)) b cs t):=lH (bxfar5 h hb _ _ _ _ _)
theorem sp5 {w W:World} {b:Nat} (h:Since w W) (hb:w.heap.size ≤ b) (A:Option Addr) (m c:Nat) (i n a r:Int):Hid (Since w (put5 W b (.slice A m c) (.int .i64 i) (.int .i64 n) (.int .i64 a) (.int .i64 r))):=lH (since_put5 h hb _ _ _ _ _)
theorem sal {w W:World} (h:Since w W) (o:Obj):Since W (W.alloc o):=sA W o
end Go.Proofs.YtjmmcnldfkjebaaGreatDoor.Doc6
end
