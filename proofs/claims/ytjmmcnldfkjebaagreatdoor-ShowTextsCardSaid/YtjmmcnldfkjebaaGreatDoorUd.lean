/- What the landed parser's items gives back. The landed parser's deferred closure: it recovers what was thrown.  -/
import Derived.Defers
import Derived.Laws.Pointers
import Derived.Maps.AppendAt
import Derived.Recover
import Derived.Test.YtjmmcnldfkjebaaGreatDoorVk
import Derived.Test.YtjmmcnldfkjebaaGreatDoorQam
set_option maxHeartbeats 4000000
set_option maxRecDepth 20000
namespace Go.Proofs.YtjmmcnldfkjebaaGreatDoor.Prs
open Go.RowKit
set_option linter.unusedVariables false
set_option linter.unusedSimpArgs false
open Dig Lx Tk Ps Ti
def itemsD:Nat→List It→P (List It)
 | 0,_=>wrong
 | f+1,out=>fun n ts=>if ts = [] then .ok out [] else
  bnd (one [L ⟨#[105,110,116]⟩,L ⟨#[98,111,111,108]⟩,L ⟨#[118,97,114]⟩,L ⟨#[97,114,114,97,121]⟩,L ⟨#[99,111,110,115,116,114,97,105,110,116]⟩,L ⟨#[115,111,108,118,101]⟩]) (fun c n' r=>if out.length=512 then .bad (place n ts) 3 else bnd (itemD c) (fun x=>bnd (takes [L ⟨#[59]⟩]) fun _=>itemsD f (out ++ [x])) n' r) n ts
section
variable {f:Nat} {out:List It} {n:Int} {ts r r2 r3:Ts} {x:It} {c:ByteArray} {q er:Int}
theorem itemsD_end:itemsD (f+1) out n [] = .ok out []:=by simp only[itemsD,if_true]
theorem itemsD_bad1 (h:ts ≠ []) (h1:one [L ⟨#[105,110,116]⟩,L ⟨#[98,111,111,108]⟩,L ⟨#[118,97,114]⟩,L ⟨#[97,114,114,97,121]⟩,L ⟨#[99,111,110,115,116,114,97,105,110,116]⟩,L ⟨#[115,111,108,118,101]⟩] n ts = .bad q er):itemsD (f+1) out n ts = .bad q er:=by
 simp only[itemsD,if_neg h,bnd,R.bind,h1]
theorem itemsD_big (h:ts ≠ []) (h1:one [L ⟨#[105,110,116]⟩,L ⟨#[98,111,111,108]⟩,L ⟨#[118,97,114]⟩,L ⟨#[97,114,114,97,121]⟩,L ⟨#[99,111,110,115,116,114,97,105,110,116]⟩,L ⟨#[115,111,108,118,101]⟩] n ts = .ok c r) (h2:out.length=512):itemsD (f+1) out n ts = .bad (place n ts) 3:=by
 simp only[itemsD,if_neg h,bnd,R.bind,h1,if_pos h2]
theorem itemsD_bad2 (h:ts ≠ []) (h1:one [L ⟨#[105,110,116]⟩,L ⟨#[98,111,111,108]⟩,L ⟨#[118,97,114]⟩,L ⟨#[97,114,114,97,121]⟩,L ⟨#[99,111,110,115,116,114,97,105,110,116]⟩,L ⟨#[115,111,108,118,101]⟩] n ts = .ok c r) (h2:out.length≠512) (h3:itemD c n r = .bad q er):itemsD (f+1) out n ts = .bad q er:=by
 simp only[itemsD,if_neg h,bnd,R.bind,h1,if_neg h2,h3]
theorem itemsD_bad3 (h:ts ≠ []) (h1:one [L ⟨#[105,110,116]⟩,L ⟨#[98,111,111,108]⟩,L ⟨#[118,97,114]⟩,L ⟨#[97,114,114,97,121]⟩,L ⟨#[99,111,110,115,116,114,97,105,110,116]⟩,L ⟨#[115,111,108,118,101]⟩] n ts = .ok c r) (h2:out.length≠512) (h3:itemD c n r = .ok x r2) (h4:takes [L ⟨#[59]⟩] n r2 = .bad q er):itemsD (f+1) out n ts = .bad q er:=by
 simp only[itemsD,if_neg h,bnd,R.bind,h1,if_neg h2,h3,h4]
theorem itemsD_more {z:Unit} (h:ts ≠ []) (h1:one [L ⟨#[105,110,116]⟩,L ⟨#[98,111,111,108]⟩,L ⟨#[118,97,114]⟩,L ⟨#[97,114,114,97,121]⟩,L ⟨#[99,111,110,115,116,114,97,105,110,116]⟩,L ⟨#[115,111,108,118,101]⟩] n ts = .ok c r) (h2:out.length≠512) (h3:itemD c n r = .ok x r2) (h4:takes [L ⟨#[59]⟩] n r2 = .ok z r3):itemsD (f+1) out n ts=itemsD f (out ++ [x]) n r3:=by
 simp only[itemsD,if_neg h,bnd,R.bind,h1,if_neg h2,h3,h4]
end
theorem info_pitem:(Tryz.prog.info? 42).map (fun i=>(i.zero,i.size,i.bytes))=some (some (.agg #[.int .i64 0,.string ⟨#[]⟩,.bool false,.slice none 0 0,.int .i64 0,.bool false,.slice none 0 0,.int .i64 0]),8,104):=by kernel_rfl
theorem items_any (b:Nat) (n:Int) (ts:Ts) (w:World) (h0:Rd b n ts w) :
 Calls Tryz.prog 65 #[.pointer (some ⟨b,0,none⟩)] w (Got (fun w' l v=>Sl 8 (QI (Old w)) w' v l∧FarO (Old w) v) b n (itemsD 513 [] n ts) w):=by
 obtain⟨r,hr⟩:∃ r,r=itemsD 513 [] n ts:=⟨_,rfl⟩
 rw[← hr]
 have HR:=lH hr
 clear hr
 obtain⟨i0,hi,hz0,hz1,hz2⟩:=info_parts info_pitem
 have hlt:=h0.lt
 have H0:=lH h0
 clear h0
 go_enter Tryz.func65,Tryz.ntmps65
 go_wp2
 go_loopw [3] (fun out wr=>∃ (k:Nat) (A:Option Addr) (c:Nat) (xs:List It) (cs:List Value) (us:Ts),out = .slice A k c∧k≤512∧Hid (xs.length=k)∧Hid (wr.ownsRow w.heap.size TI 8 (.slice A k c) k cs)∧Hid (Rws 8 (QI (own (Old w) (.slice A k c)) wr) xs cs)∧Hid (itemsD (513 - k) xs n us=r)∧Hid (Rd b n us wr)∧Hid (Only b w wr)) (fun out _=>513 - lenV out)
 case atStart=>exact⟨0,none,0,[],[],ts,rfl,Nat.zero_le _,rfl,World.ownsRow_nil _ _ _ _,.nil,HR.out.symm,H0.out,Only.refl _ _⟩
 case round =>
  clear H0
  obtain⟨k,A,c,xs,cs,us,rfl,hk,HX,HO,HQ,HE,HD,HW⟩:=hrel
  obtain⟨f,hf⟩:∃ f,513 - k=f+1:=⟨512 - k,by omega⟩
  have he:=HE.out
  rw[hf] at he
  have HE1:=lH he
  clear he HE
  have DN:=lH (fun W (k:Since wr W)=>done_any b n us W (HD.out.since k))
  have PL:=lH (fun W (k:Since wr W)=>place_any b n us W (HD.out.since k))
  cases us with
  | nil =>
   rw[decide_eq_true rfl] at DN
   go_wp2_with (go_at_call 94; (with_reducible refine (DN.out _ (Since.refl _)).mono ?_); rintro e w1 ⟨rfl,s1⟩)
   go_ret
   exact .inl ⟨xs,[],_,HE1.out.symm.trans itemsD_end,rfl,⟨(Sl.own (owns_since HO.out s1) (HQ.out.since (stI _) s1) HX.out.symm).mono (fun x u=>QI.less (fun b hb => .inl (.inl hb))),FarO.own HO.out (fun b hb=>hb)⟩,HD.out.since s1,HW.out.trans (.of s1)⟩
  | cons t tr =>
   rw[decide_eq_false (by simp)] at DN
   have hne:t :: tr ≠ []:=by simp
   obtain⟨pl,hpl⟩:∃ pl,pl=place n (t :: tr):=⟨_,rfl⟩
   rw[← hpl] at PL
   by_cases hmost:k=512
   · have hz:((k:Int) == 512)=true:=by rw[beq_iff_eq]; omega
     have HB:=lH (HX.out.trans hmost)
     clear hmost
     go_wp2_with (first | (go_at_call 94; (with_reducible refine (DN.out _ (Since.refl _)).mono ?_); rintro e w1 ⟨rfl,s1⟩) | (go_at_call 95; (with_reducible refine (PL.out _ s1).mono ?_); rintro e w2 ⟨rfl,s2⟩; have hd2:=HD.out.since (s1.trans s2)) | (go_at_call 96; (with_reducible refine (choose6 hd2 (by simp) _ _ _ _ _ _ _).mono ?_); rintro e w3 (⟨c',us3,_,x3,rfl,rfl,h3,o3⟩ | ⟨p,er,x3,rfl,o3⟩)))
     case inr=>exact⟨rfl,.inr ⟨_,_,HE1.out.symm.trans (itemsD_bad1 hne x3),rfl,HW.out.trans ((Only.of (s1.trans s2)).trans o3)⟩⟩
     exact⟨rfl,.inr ⟨_,_,HE1.out.symm.trans ((itemsD_big hne x3 HB.out).trans (by rw[← hpl])),rfl,HW.out.trans ((Only.of (s1.trans s2)).trans o3)⟩⟩
   have hz:((k:Int) == 512)=false:=by rw[beq_eq_false_iff_ne]; omega
   have hnl:xs.length≠512:=by rw[HX.out]; exact hmost
   have HN:=lH hnl
   have hk1:k+1≤512:=by omega
   clear hmost hnl
   go_wp2_with (first
    | (go_at_call 94; (with_reducible refine (DN.out _ (Since.refl _)).mono ?_); rintro e w1 ⟨rfl,s1⟩)
    | (go_at_call 95; (with_reducible refine (PL.out _ s1).mono ?_); rintro e w2 ⟨rfl,s2⟩; have hd2:=HD.out.since (s1.trans s2))
    | (go_at_call 96; (with_reducible refine (choose6 hd2 (by simp) _ _ _ _ _ _ _).mono ?_); rintro e w3 (⟨c',us3,_,x3,rfl,rfl,h3,o3⟩ | ⟨p,er,x3,rfl,o3⟩))
    | (go_at_call 97; (with_reducible refine (item_any b n _ _ _ h3).mono ?_); rintro e w4 (⟨x,us4,_,x4,rfl,⟨A1,c1,A2,c2,rfl,k1,k2,k3,k4⟩,h4,o4⟩ | ⟨p,er,x4,rfl,o4⟩); have oo:=(Only.of (b:=b) (s1.trans s2)).trans (o3.trans o4))
    | (at_builtin; refine wpList_append_own_at _ rfl _ _ 32 rfl w.heap.size TI i0 (.agg #[.int .i64 0,.string ⟨#[]⟩,.bool false,.slice none 0 0,.int .i64 0,.bool false,.slice none 0 0,.int .i64 0]) 8 104 Tryz.underlying32 hi hz0 hz1 hz2 rfl (by decide) _ _ _ rfl (owns_since (owns_only HO.out oo hlt) (sA _ _)) ⟨w4.heap.size,0,none⟩ 1 1 [.int .i64 x.kind,.string x.name,.bool x.bool,.slice A1 x.dom.length c1,.int .i64 x.size,.bool x.out,.slice A2 x.vals.length c2,.int .i64 x.ask] rfl rfl ?c1 ?c2 ?c3 ?c4 ?c5 ?_))
   case inr =>
    first
     | exact⟨rfl,.inr ⟨_,_,HE1.out.symm.trans (itemsD_bad2 hne x3 HN.out x4),rfl,HW.out.trans ((Only.of (s1.trans s2)).trans (o3.trans o4))⟩⟩
     | exact⟨rfl,.inr ⟨_,_,HE1.out.symm.trans (itemsD_bad1 hne x3),rfl,HW.out.trans ((Only.of (s1.trans s2)).trans o3)⟩⟩
   case inr =>
    first
     | exact⟨rfl,.inr ⟨_,_,HE1.out.symm.trans (itemsD_bad2 hne x3 HN.out x4),rfl,HW.out.trans ((Only.of (s1.trans s2)).trans (o3.trans o4))⟩⟩
     | exact⟨rfl,.inr ⟨_,_,HE1.out.symm.trans (itemsD_bad1 hne x3),rfl,HW.out.trans ((Only.of (s1.trans s2)).trans o3)⟩⟩
   case c1 =>
    intro j u hj
    exact cell_new _ _ _ rfl (by simpa using hj)
   case c2=>intro u hu; simp at hu; rcases hu with rfl | rfl | rfl | rfl | rfl | rfl | rfl | rfl <;> rfl
   case c3=>unfold maxLen; omega
   case c4=>omega
   case c5=>have:=HW.out.size; have:=oo.size; simp; omega
   intro v' w5 hown' hgrow _ hat
   have hgo:∀ g,(Value.slice A k c).ownBlock=some g→w.heap.size≤g:=fun g hg=>(HO.out.lt g hg).1
   have hw5:Only b w w5:=((HW.out.trans oo).alloc _).app hgrow hgo
   have hd5:Rd b n us4 w5:=(h4.since (sA _ _)).grow hgrow (fun g hg=>by have:=hgo g hg; omega)
   have hs3:wr.heap.size≤w3.heap.size:=Nat.le_trans (s1.trans s2).size o3.size
   have hGG:∀ g,own (Old w) (.slice A k c) g→Old w3 g:=fun g hg=>by
    rcases hg with hg | hg
    · have h1:g<w.heap.size:=hg
      have h2:=HW.out.size
      show g<_
      omega
    · have:=(HO.out.lt g hg).2
      show g<_
      omega
   have hxn:QI (own (Old w) (.slice A k c)) w4 x [.int .i64 x.kind,.string x.name,.bool x.bool,.slice A1 x.dom.length c1,.int .i64 x.size,.bool x.out,.slice A2 x.vals.length c2,.int .i64 x.ask]:=⟨_,_,rfl,k1,k2.mono hGG,k3.mono (fun x u=>QX.less (fun b hb => .inl (hGG b hb))),k4.mono hGG⟩
   have hq0:Rws 8 (QI (own (Old w) (.slice A k c)) w4) xs cs:=HQ.out.mono fun x u h=>QI.grow oo (fun x hx=>by injection hx with hx; subst hx; exact .inl hlt) (fun b hb => .inl hb) h
   have hq1:Rws 8 (QI (own (Old w) v') w5) (xs ++ [x]) (cs ++ [.int .i64 x.kind,.string x.name,.bool x.bool,.slice A1 x.dom.length c1,.int .i64 x.size,.bool x.out,.slice A2 x.vals.length c2,.int .i64 x.ask]):=Rws.mono (fun x u h=>QI.grow hgrow own.has (own.app (hat.imp id fun e=>e.trans (by simp))) h) ((hq0.snoc hxn rfl).since (stI _) (sA _ _))
   have ho1:w5.ownsRow w.heap.size TI 8 v' (k+1) (cs ++ [.int .i64 x.kind,.string x.name,.bool x.bool,.slice A1 x.dom.length c1,.int .i64 x.size,.bool x.out,.slice A2 x.vals.length c2,.int .i64 x.ask]):=hown'
   clear hown' hgrow hat hgo hxn hq0 k1 k2 k3 k4 hGG
   obtain⟨A',c'',rfl⟩:=owns_slice ho1
   have HO1:=lH ho1
   have HQ1:=lH hq1
   clear ho1 hq1
   have hx1:(xs ++ [x]).length=k+1:=by rw[List.length_append,HX.out]; rfl
   go_wp2_with (first | (go_at_call 98; (with_reducible refine (follow1 hd5 (by simp) _ _).mono ?_); rintro e w6 (⟨z,us6,_,x6,rfl,rfl,h6,o6⟩ | ⟨p,er,x6,rfl,o6⟩)))
   case inr=>exact⟨rfl,.inr ⟨_,_,HE1.out.symm.trans (itemsD_bad3 hne x3 HN.out x4 x6),rfl,hw5.trans o6⟩⟩
   go_roundw
   case rel=>exact⟨k+1,A',c'',xs ++ [x],_,us6,rfl,hk1,hx1,owns_only HO1.out o6 hlt,HQ1.out.mono (fun x u h=>QI.grow o6 (fun x hx=>by injection hx with hx; subst hx; exact .inl hlt) (fun b hb => .inl hb) h),by have:=(itemsD_more hne x3 HN.out x4 x6).symm.trans HE1.out; rwa [show f=513 - (k+1) by omega] at this,h6,hw5.trans o6⟩
   case measure=>simp[lenV]; omega
end Go.Proofs.YtjmmcnldfkjebaaGreatDoor.Prs
namespace Go.Proofs.YtjmmcnldfkjebaaGreatDoor.Prs
open Go.RowKit
set_option linter.unusedVariables false
set_option linter.unusedSimpArgs false
open Dig Lx Tk Ps
theorem catch_idle (p q r:Addr) (w:World) :
 CallsD Tryz.prog 64 #[.pointer (some p),.pointer (some q),.pointer (some r)] .returning w fun e u' w'=>e = .returned (.tuple #[])∧u' = .returning∧w'=w:=by
 refine callsD_of_wpS Tryz.func64 rfl fun c₀ cs hu => ?_
 apply wpS_seq
 apply wpS_region
 simp[wpOpsS,go_sem,recoverD,hu,Tryz.ntmps64,Exit.thenS]
 apply wpS_seq
 apply wpS_region
 simp[wpOpsS,go_sem,Exit.thenS]
 refine wpS_cond (t:=false) (by simp[Act.eval,Array.replicate]) ?_
 simp only[Bool.false_eq_true,if_false]
 refine wpS_of_wp (wp_skip ?_)
 cases c₀
 simp_all [bodyPostS,results,Tryz.results64]
theorem catch_oops (gi ga ge:Nat) (t0 t1 t2:TypeId) (at_ er:Int) (older:List PanicEntry) (w:World) (hi:Bx w gi #[.slice none 0 0] t0) (ha:Bx w ga #[.int .i64 0] t1) (he:Bx w ge #[.int .i64 0] t2) (h1:gi≠ga) (h2:gi≠ge) (h3:ga≠ge) :
 CallsD Tryz.prog 64 #[.pointer (some ⟨gi,0,none⟩),.pointer (some ⟨ga,0,none⟩),.pointer (some ⟨ge,0,none⟩)] (.panicking ({ v:=.iface 118 (.agg #[.int .i64 at_,.int .i64 er]),recovered:=false } :: older)) w fun e u' w' =>
  e = .returned (.tuple #[])∧u' = .panicking ({ v:=.iface 118 (.agg #[.int .i64 at_,.int .i64 er]),recovered:=true } :: older) ∧
  (Bx w' gi #[.slice none 0 0] t0∧Bx w' ga #[.int .i64 at_] t1∧Bx w' ge #[.int .i64 er] t2)∧(∀ wb:World,Since wb w→wb.heap.size≤gi→wb.heap.size≤ga→wb.heap.size≤ge→Since wb w'):=by
 have hta:∀ (x y:Int) (w:World),(Instr.typeAssert (.iface 118 (.agg #[.int .i64 x,.int .i64 y])) 20 118 false).run Tryz.prog w = .ok (.agg #[.int .i64 x,.int .i64 y]) w:=fun x y w=>by kernel_rfl
 refine callsD_of_wpS Tryz.func64 rfl fun c₀ cs hu => ?_
 apply wpS_seq
 apply wpS_region
 simp[wpOpsS,go_sem,recoverD,hu,Tryz.ntmps64,Exit.thenS]
 apply wpS_seq
 apply wpS_region
 simp[wpOpsS,go_sem,Exit.thenS]
 refine wpS_cond (t:=true) (by simp[Act.eval,Array.replicate]) ?_
 simp only[if_true]
 refine wpS_of_wp ?_
 change Code.wp _ _ _ { tmps:=#[.pointer (some ⟨gi,0,none⟩),.pointer (some ⟨ga,0,none⟩),.pointer (some ⟨ge,0,none⟩),(.iface 118 (.agg #[.int .i64 at_,.int .i64 er])),undef,(.iface 118 (.agg #[.int .i64 at_,.int .i64 er])),(.iface 118 (.agg #[.int .i64 at_,.int .i64 er])),.bool true,undef,undef,undef,undef,undef,undef],defers:=[] } _
 go_wp2
 obtain⟨W0,hW0⟩:∃ W0,W0=w.alloc (.cells #[.int .i64 at_,.int .i64 er] 118):=⟨_,rfl⟩
 rw[← hW0]
 have s0:Since w W0:=by rw[hW0]; exact sA _ _
 have B0:Bx W0 w.heap.size #[.int .i64 at_,.int .i64 er] 118:=by rw[hW0]; exact Bx.fresh _ _ _
 have li:=hi.lt
 have la:=ha.lt
 have le:=he.lt
 have hi0:=hi.since s0
 have ha0:=ha.since s0
 have he0:=he.since s0
 have ha1:=ha0.other (Ne.symm h1) 0 (.slice none 0 0)
 have he1:=he0.other (Ne.symm h2) 0 (.slice none 0 0)
 have he2:=he1.other (Ne.symm h3) 0 (.int .i64 at_)
 have hi1:Bx (W0.setCell ⟨gi,0,none⟩ (.slice none 0 0)) gi #[.slice none 0 0] t0:=heap_setCell_same _ _ 0 _ _ _ hi0
 have hi2:=hi1.other h1 0 (.int .i64 at_)
 have hi3:=hi2.other h2 0 (.int .i64 er)
 have ha2:Bx ((W0.setCell ⟨gi,0,none⟩ (.slice none 0 0)).setCell ⟨ga,0,none⟩ (.int .i64 at_)) ga #[.int .i64 at_] t1:=heap_setCell_same _ _ 0 _ _ _ ha1
 have ha3:=ha2.other h3 0 (.int .i64 er)
 have he3:Bx (((W0.setCell ⟨gi,0,none⟩ (.slice none 0 0)).setCell ⟨ga,0,none⟩ (.int .i64 at_)).setCell ⟨ge,0,none⟩ (.int .i64 er)) ge #[.int .i64 er] t2:=heap_setCell_same _ _ 0 _ _ _ he2
 have B1:=B0.other (b':=gi) (by omega) 0 (.slice none 0 0)
 have B2:=B1.other (b':=ga) (by omega) 0 (.int .i64 at_)
 have B3:=B2.other (b':=ge) (by omega) 0 (.int .i64 er)
 have c1:W0.cell? ⟨gi,0,none⟩=some (.slice none 0 0):=hi0.cell 0
 have f1:W0.frozen? ⟨gi,0,none⟩=false:=hi0.no 0
 have c2:(W0.setCell ⟨gi,0,none⟩ (.slice none 0 0)).cell? ⟨ga,0,none⟩=some (.int .i64 0):=ha1.cell 0
 have f2:(W0.setCell ⟨gi,0,none⟩ (.slice none 0 0)).frozen? ⟨ga,0,none⟩=false:=ha1.no 0
 have c3:((W0.setCell ⟨gi,0,none⟩ (.slice none 0 0)).setCell ⟨ga,0,none⟩ (.int .i64 at_)).cell? ⟨ge,0,none⟩=some (.int .i64 0):=he2.cell 0
 have f3:((W0.setCell ⟨gi,0,none⟩ (.slice none 0 0)).setCell ⟨ga,0,none⟩ (.int .i64 at_)).frozen? ⟨ge,0,none⟩=false:=he2.no 0
 have kk:∀ W:World,Bx W w.heap.size #[.int .i64 at_,.int .i64 er] 118→(W.cell? ⟨w.heap.size,0,none⟩=some (.int .i64 at_)∧W.cell? ⟨w.heap.size,1,none⟩=some (.int .i64 er)):=fun W h=>h.two
 have fin:∀ wb:World,Since wb w→wb.heap.size≤gi→wb.heap.size≤ga→wb.heap.size≤ge→Since wb (((W0.setCell ⟨gi,0,none⟩ (.slice none 0 0)).setCell ⟨ga,0,none⟩ (.int .i64 at_)).setCell ⟨ge,0,none⟩ (.int .i64 er)):=
  fun wb k k1 k2 k3=>(((k.trans s0).set k1 _).set k2 _).set k3 _
 clear hW0
 go_region_held3 (fun W=>W.cell? ⟨w.heap.size,0,none⟩=some (.int .i64 at_)∧W.cell? ⟨w.heap.size,1,none⟩=some (.int .i64 er))
  (first | exact kk _ B0 | exact kk _ B1 | exact kk _ B2 | exact kk _ B3)
  (first | fail)
 have sd:=Since.drew (Since.refl (((W0.setCell ⟨gi,0,none⟩ (.slice none 0 0)).setCell ⟨ga,0,none⟩ (.int .i64 at_)).setCell ⟨ge,0,none⟩ (.int .i64 er)))
 have hEND:=(show (Bx (((W0.setCell ⟨gi,0,none⟩ (.slice none 0 0)).setCell ⟨ga,0,none⟩ (.int .i64 at_)).setCell ⟨ge,0,none⟩ (.int .i64 er)).drew gi #[.slice none 0 0] t0∧Bx (((W0.setCell ⟨gi,0,none⟩ (.slice none 0 0)).setCell ⟨ga,0,none⟩ (.int .i64 at_)).setCell ⟨ge,0,none⟩ (.int .i64 er)).drew ga #[.int .i64 at_] t1∧Bx (((W0.setCell ⟨gi,0,none⟩ (.slice none 0 0)).setCell ⟨ga,0,none⟩ (.int .i64 at_)).setCell ⟨ge,0,none⟩ (.int .i64 er)).drew ge #[.int .i64 er] t2)∧(∀ wb:World,Since wb w→wb.heap.size≤gi→wb.heap.size≤ga→wb.heap.size≤ge→Since wb (((W0.setCell ⟨gi,0,none⟩ (.slice none 0 0)).setCell ⟨ga,0,none⟩ (.int .i64 at_)).setCell ⟨ge,0,none⟩ (.int .i64 er)).drew) from
  ⟨⟨hi3.since sd,ha3.since sd,he3.since sd⟩,fun wb k k1 k2 k3=>(fin wb k k1 k2 k3).trans sd⟩)
 clear kk fin c1 f1 c2 f2 c3 f3 B0 B1 B2 B3 hi0 ha0 he0 ha1 he1 he2 hi1 hi2 hi3 ha2 ha3 he3 sd s0
 cases c₀
 refine⟨rfl,_,rfl,.tuple #[],?_,rfl,rfl,hEND⟩
 simp[results,Tryz.results64,go_sem]
end Go.Proofs.YtjmmcnldfkjebaaGreatDoor.Prs
namespace Go.Proofs.YtjmmcnldfkjebaaGreatDoor.Prs
open Go.RowKit
set_option linter.unusedVariables false
set_option linter.unusedSimpArgs false
open Dig Lx Tk Ps Ti
def Past (b:Nat) (w w':World):Prop:=∀ wb:World,Since wb w→wb.heap.size≤b→Since wb w'
def RetR (x:R (List It)) (b:Nat) (w:World) (e:Ending) (w':World):Prop:=
 (∃ l r A c,x = .ok l r∧e = .returned (.tuple #[.slice A l.length c,.int .i64 0,.int .i64 0])∧Items w' (.slice A l.length c) l∧Past b w w') ∨
 (∃ p er,x = .bad p er∧e = .returned (.tuple #[.slice none 0 0,.int .i64 p,.int .i64 er])∧Past b w w')
theorem keepI {g N:Nat} {w w':World} {v:Value} {vs:List It} (h:Sl 8 (QI (fun b=>b<N)) w v vs) (k:Only g w w') (hg:g<N) (hf:FarO (fun b=>b<N) v):Sl 8 (QI (fun b=>b<N)) w' v vs:=
 h.kept k (fun b hb=>by injection hb with hb; subst hb; exact hg) (fun x u h=>QI.grow k (fun b hb=>by injection hb with hb; subst hb; exact hg) (fun b hb => .inl hb) h) hf
theorem text_any (b:Nat) (n:Int) (ts:Ts) (w:World) (h:Rd b n ts w) :
 Calls Tryz.prog 31 #[.pointer (some ⟨b,0,none⟩)] w (RetR (itemsD 513 [] n ts) b w):=by
 have hmf:∀ (fn:Fn) (first cap:Array Value) (w:World),(Instr.makeFunc fn first cap).run Tryz.prog w = .ok (.func fn first cap) w:=fun _ _ _ _=>rfl
 have hlt:=h.lt
 have w3:=(((Since.refl w).alloc (.cells #[.slice none 0 0] 32)).alloc (.cells #[.int .i64 0] 3)).alloc (.cells #[.int .i64 0] 29)
 have h3:=h.since w3
 have o3:=Only.of (b:=b) w3
 have x0:=lH ((Bx.fresh w #[.slice none 0 0] 32).since (((Since.refl _).alloc (.cells #[.int .i64 0] 3)).alloc (.cells #[.int .i64 0] 29)))
 have x1':=lH (show Bx (((w.alloc (.cells #[.slice none 0 0] 32)).alloc (.cells #[.int .i64 0] 3)).alloc (.cells #[.int .i64 0] 29)) (w.heap.size+1) #[.int .i64 0] 3 from (Bx.new (W:=w.alloc (.cells #[.slice none 0 0] 32)) (Since.refl _) (by simp)).since (sA _ _))
 have x2':=lH (show Bx (((w.alloc (.cells #[.slice none 0 0] 32)).alloc (.cells #[.int .i64 0] 3)).alloc (.cells #[.int .i64 0] 29)) (w.heap.size+1+1) #[.int .i64 0] 29 from Bx.new (W:=((w.alloc (.cells #[.slice none 0 0] 32)).alloc (.cells #[.int .i64 0] 3))) (Since.refl _) (by simp))
 obtain⟨r,hr⟩:∃ r,r=itemsD 513 [] n ts:=⟨_,rfl⟩
 rw[← hr]
 have HR:=lH hr
 clear hr h
 go_enter_defers Tryz.func31,Tryz.ntmps31
 go_wp2_with (first | (go_at_call 65; (with_reducible refine (items_any b n _ _ h3).mono ?_); rintro e w1 (⟨l,us1,_,x1,rfl,⟨k1,k2⟩,h1,o1⟩ | ⟨p,er,x1,rfl,o1⟩); obtain⟨A,c,rfl⟩:=k1.form; have y0:=o1.bx x0.out (Nat.ne_of_gt hlt); have y1:=o1.bx x1'.out (by omega); have y2:=o1.bx x2'.out (by omega); have z0:Bx (w1.setCell ⟨w.heap.size,0,none⟩ (.slice A l.length c)) w.heap.size #[.slice A l.length c] 32:=heap_setCell_same _ _ 0 _ _ _ y0; have z1:=y1.other (b':=w.heap.size) (by omega) 0 (.slice A l.length c); have z2:=y2.other (b':=w.heap.size) (by omega) 0 (.slice A l.length c); have z1':Bx ((w1.setCell ⟨w.heap.size,0,none⟩ (.slice A l.length c)).setCell ⟨w.heap.size+1,0,none⟩ (.int .i64 0)) (w.heap.size+1) #[.int .i64 0] 3:=heap_setCell_same _ _ 0 _ _ _ z1; have z2':=z2.other (b':=w.heap.size+1) (by omega) 0 (.int .i64 0); have c1:w1.cell? ⟨w.heap.size,0,none⟩=some (.slice none 0 0):=y0.cell 0; have f1:w1.frozen? ⟨w.heap.size,0,none⟩=false:=y0.no 0; have c2:(w1.setCell ⟨w.heap.size,0,none⟩ (.slice A l.length c)).cell? ⟨w.heap.size+1,0,none⟩=some (.int .i64 0):=z1.cell 0; have f2:(w1.setCell ⟨w.heap.size,0,none⟩ (.slice A l.length c)).frozen? ⟨w.heap.size+1,0,none⟩=false:=z1.no 0; have c3:((w1.setCell ⟨w.heap.size,0,none⟩ (.slice A l.length c)).setCell ⟨w.heap.size+1,0,none⟩ (.int .i64 0)).cell? ⟨w.heap.size+1+1,0,none⟩=some (.int .i64 0):=z2'.cell 0; have f3:((w1.setCell ⟨w.heap.size,0,none⟩ (.slice A l.length c)).setCell ⟨w.heap.size+1,0,none⟩ (.int .i64 0)).frozen? ⟨w.heap.size+1+1,0,none⟩=false:=z2'.no 0))
 case inr =>
  have y0:=o1.bx x0.out (Nat.ne_of_gt hlt)
  have y1:=o1.bx x1'.out (by omega)
  have y2:=o1.bx x2'.out (by omega)
  refine leaves_cons (f:=64) (args:=#[.pointer (some ⟨w.heap.size,0,none⟩),.pointer (some ⟨w.heap.size+1,0,none⟩),.pointer (some ⟨w.heap.size+1+1,0,none⟩)]) (by simp) (by simp[go_sem]) ?_
  refine (catch_oops w.heap.size (w.heap.size+1) (w.heap.size+1+1) _ _ _ p er [] _ y0 y1 y2 (by omega) (by omega) (by omega)).mono ?_
  rintro e u' w2 ⟨rfl,rfl,⟨g0,g1,g2⟩,hs⟩
  have p0:w2.cell? ⟨w.heap.size,0,none⟩=some (.slice none 0 0):=g0.cell 0
  have p1:w2.cell? ⟨w.heap.size+1,0,none⟩=some (.int .i64 p):=g1.cell 0
  have p2:w2.cell? ⟨w.heap.size+1+1,0,none⟩=some (.int .i64 er):=g2.cell 0
  refine⟨.tuple #[.slice none 0 0,.int .i64 p,.int .i64 er],?_,.inr ⟨p,er,HR.out.trans x1,rfl,?_⟩⟩
  · simp[results,Tryz.results31,go_sem,p0,p1,p2]
  · exact fun wb k kb=>hs wb (Only.since k (o3.trans o1) kb) (by omega) (by omega) (by omega)
 have z3:Bx (((w1.setCell ⟨w.heap.size,0,none⟩ (.slice A l.length c)).setCell ⟨w.heap.size+1,0,none⟩ (.int .i64 0)).setCell ⟨w.heap.size+1+1,0,none⟩ (.int .i64 0)) (w.heap.size+1+1) #[.int .i64 0] 29:=heap_setCell_same _ _ 0 _ _ _ z2'
 have p0:(((w1.setCell ⟨w.heap.size,0,none⟩ (.slice A l.length c)).setCell ⟨w.heap.size+1,0,none⟩ (.int .i64 0)).setCell ⟨w.heap.size+1+1,0,none⟩ (.int .i64 0)).cell? ⟨w.heap.size,0,none⟩=some (.slice A l.length c):=((z0.other (b':=w.heap.size+1) (by omega) 0 (.int .i64 0)).other (b':=w.heap.size+1+1) (by omega) 0 (.int .i64 0)).cell 0
 have p1:(((w1.setCell ⟨w.heap.size,0,none⟩ (.slice A l.length c)).setCell ⟨w.heap.size+1,0,none⟩ (.int .i64 0)).setCell ⟨w.heap.size+1+1,0,none⟩ (.int .i64 0)).cell? ⟨w.heap.size+1,0,none⟩=some (.int .i64 0):=(z1'.other (b':=w.heap.size+1+1) (by omega) 0 (.int .i64 0)).cell 0
 have p2:(((w1.setCell ⟨w.heap.size,0,none⟩ (.slice A l.length c)).setCell ⟨w.heap.size+1,0,none⟩ (.int .i64 0)).setCell ⟨w.heap.size+1+1,0,none⟩ (.int .i64 0)).cell? ⟨w.heap.size+1+1,0,none⟩=some (.int .i64 0):=z3.cell 0
 have hz1:=x1'.out.lt
 have hz2:=x2'.out.lt
 have hz0:=x0.out.lt
 have m1:=keepI k1 (Only.set (b:=w.heap.size) (i:=0) (Only.refl _ _) (.slice A l.length c)) hz0 k2
 have m2:=keepI m1 (Only.set (b:=w.heap.size+1) (i:=0) (Only.refl _ _) (.int .i64 0)) hz1 k2
 have m3:=keepI m2 (Only.set (b:=w.heap.size+1+1) (i:=0) (Only.refl _ _) (.int .i64 0)) hz2 k2
 have oF:Past b w (((w1.setCell ⟨w.heap.size,0,none⟩ (.slice A l.length c)).setCell ⟨w.heap.size+1,0,none⟩ (.int .i64 0)).setCell ⟨w.heap.size+1+1,0,none⟩ (.int .i64 0)):=fun wb k kb=>(((Only.since k (o3.trans o1) kb).set (by show _≤w.heap.size; omega) _).set (by show _≤w.heap.size+1; omega) _).set (by show _≤w.heap.size+1+1; omega) _
 have PR:=lH (show RetR r b w (.returned (.tuple #[.slice A l.length c,.int .i64 0,.int .i64 0])) (((w1.setCell ⟨w.heap.size,0,none⟩ (.slice A l.length c)).setCell ⟨w.heap.size+1,0,none⟩ (.int .i64 0)).setCell ⟨w.heap.size+1+1,0,none⟩ (.int .i64 0)) from .inl ⟨l,us1,A,c,HR.out.trans x1,rfl,m3.mono (fun x u=>QI.none),oF⟩)
 clear m1 m2 m3 oF z0 z1 z1' z2 z2' z3
 refine leaves_cons (f:=64) (args:=#[.pointer (some ⟨w.heap.size,0,none⟩),.pointer (some ⟨w.heap.size+1,0,none⟩),.pointer (some ⟨w.heap.size+1+1,0,none⟩)]) (by simp) (by simp[go_sem]) ?_
 refine (catch_idle _ _ _ _).mono ?_
 rintro e u' w2 ⟨rfl,rfl,rfl⟩
 refine⟨.tuple #[.slice A l.length c,.int .i64 0,.int .i64 0],?_,PR.out⟩
 simp[results,Tryz.results31,go_sem,p0,p1,p2]
end Go.Proofs.YtjmmcnldfkjebaaGreatDoor.Prs
namespace Go.Proofs.YtjmmcnldfkjebaaGreatDoor.Prs
set_option linter.unusedVariables false
set_option linter.unusedSimpArgs false
open Dig Lx Tk Ps
theorem bnd_assoc {α β γ:Type} (p:P α) (q:α→P β) (r:β→P γ):bnd (bnd p q) r=bnd p fun a=>bnd (q a) r:=by
 funext n ts
 simp only[bnd,R.bind]
 cases p n ts <;> rfl
theorem ret_bnd {α β:Type} (a:α) (q:α→P β):bnd (ret a) q=q a:=rfl
theorem bnd_ret {α:Type} (p:P α):bnd p ret=p:=by
 funext n ts
 simp only[bnd,R.bind,ret]
 cases p n ts <;> rfl
theorem wrong_bnd {α β:Type} (q:α→P β):bnd (wrong:P α) q=wrong:=rfl
theorem alt_bnd {α β:Type} (c:Bs) (p q:P α) (r:α→P β):bnd (alt c p q) r=alt c (bnd p r) (bnd q r):=by
 funext n ts
 simp only[bnd,alt]
 split <;> rfl
theorem take_bnd {β:Type} (c:Bs) (q:Unit→P β):bnd (take c) q=alt c (q ()) wrong:=by
 rw[take,alt_bnd]; rfl
theorem takes_one (c:Bs):takes [c]=take c:=by
 show bnd (take c) (fun _=>ret ())=take c
 exact bnd_ret (take c)
theorem takes_bnd {β:Type} (c:Bs) (cs:List Bs) (q:Unit→P β):bnd (takes (c :: cs)) q=alt c (bnd (takes cs) q) wrong:=by
 show bnd (bnd (take c) fun _=>takes cs) q=_
 rw[bnd_assoc,take_bnd]
theorem takes_nil_bnd {β:Type} (q:Unit→P β):bnd (takes []) q=q ():=rfl
theorem skp_bnd {β:Type} (c:Bs) (q:Bool→P β):bnd (skp c) q=alt c (q true) (q false):=by
 rw[skp,alt_bnd]; rfl
theorem alt_swap {α:Type} {a b:Bs} (h:a≠b) (x y z:P α):alt a x (alt b y z)=alt b y (alt a x z):=by
 funext n ts
 simp only[alt]
 by_cases h1:isW a ts=true
 · have h2:isW b ts=false:=by
    cases ts with
    | nil=>rfl
    | cons t r =>
     simp only[isW,beq_iff_eq] at h1 ⊢
     rw[h1,beq_eq_false_iff_ne]; exact h
   simp only[h1,h2,if_true,Bool.false_eq_true,if_false]
 · simp only[if_neg h1]
theorem of_L {s:ByteArray} {c:Bs} (h:L s=c):s=⟨c.toArray⟩:=L_inj (by rw[h]; rfl)
theorem one_cons {β:Type} (c:Bs) (cs:List Bs) (q:ByteArray→P β):bnd (one (c :: cs)) q=alt c (q ⟨c.toArray⟩) (bnd (one cs) q):=by
 funext n ts
 cases ts with
 | nil=>simp[bnd,one,R.bind,alt,isW]
 | cons t r =>
  simp only[bnd,one,alt,isW,List.contains_cons,List.tail_cons]
  by_cases h:L t.s=c
  · have:=of_L h
    simp only[h,BEq.rfl,Bool.true_or,if_true,R.bind]
    rw[← this]
  · have h1:(L t.s == c)=false:=by rw[beq_eq_false_iff_ne]; exact h
    simp only[h1,Bool.false_or,Bool.false_eq_true,if_false]
theorem one_nil {β:Type} (q:ByteArray→P β):bnd (one []) q=wrong:=by
 funext n ts
 cases ts <;> simp[bnd,one,R.bind,wrong,place]
theorem ser_some {α:Type} (p:P α) (close:ByteArray) (hc:L close≠comma) (most:Nat):∀ (f:Nat) (out:List α),serD p close most f out=some_ p (L close) most f out
 | 0,out=>rfl
 | f+1,out=>by
  have h1:close=⟨(L close).toArray⟩:=of_L rfl
  have e1:((⟨comma.toArray⟩:ByteArray).toList == close.toList)=false:=by
   rw[toL,toL,beq_eq_false_iff_ne]; exact fun h=>hc h.symm
  have e2:((⟨(L close).toArray⟩:ByteArray).toList == close.toList)=true:=by rw[← h1]; simp
  have key:∀ x,(bnd (one [L ⟨#[44]⟩,L close]) fun s=>if (s.toList == close.toList)=true then ret (out ++ [x]) else serD p close most f (out ++ [x])) =
   alt (L close) (ret (out ++ [x])) (bnd (take comma) fun _=>some_ p (L close) most f (out ++ [x])):=fun x=>by
   rw[show L ⟨#[44]⟩=comma from rfl,one_cons,one_cons,one_nil,e1,e2,take_bnd,alt_swap (fun h=>hc h.symm)]
   simp only[if_true,Bool.false_eq_true,if_false]
   rw[ser_some p close hc most f (out ++ [x])]
  funext n ts
  simp only[serD,some_]
  split
  · rfl
  · rw[show (fun x=>bnd (one [L ⟨#[44]⟩,L close]) fun s=>if (s.toList == close.toList)=true then ret (out ++ [x]) else serD p close most f (out ++ [x]))=_ from funext key]
theorem bnd_app {α β:Type} (p:P α) (q:α→P β) (n:Int) (ts:Ts):bnd p q n ts=(p n ts).bind fun a r=>q a n r:=rfl
theorem some_map {α β:Type} (p:P α) (g:α→β) (c:Bs) (most:Nat):∀ (f:Nat) (out:List α),some_ (bnd p fun x=>ret (g x)) c most f (out.map g)=bnd (some_ p c most f out) fun l=>ret (l.map g)
 | 0,out=>rfl
 | f+1,out=>by
  funext n ts
  rw[bnd_app,some_,some_]
  simp only[List.length_map,bnd_app]
  split
  · rfl
  · simp only[R.bind]
    cases h:p n ts with
    | bad q e=>simp only[ret]
    | ok x r =>
     simp only[ret,alt]
     split
     · simp only[List.map_append,List.map_cons,List.map_nil]
     · simp only[bnd_app,R.bind]
       cases take comma n r with
       | bad q e=>rfl
       | ok z r2 =>
        have:=congrFun (congrFun (some_map p g c most f (out ++ [x])) n) r2
        rw[bnd_app] at this
        simp only[List.map_append,List.map_cons,List.map_nil,R.bind,ret] at this
        exact this
theorem exprs_list:exprsD plain ⟨#[93]⟩=list:=by
 rw[exprsD,skp_bnd,list]
 simp only[if_true,Bool.false_eq_true,if_false]
 rw[ser_some plain ⟨#[93]⟩ (by decide)]
 rfl
theorem list_is:listD=bnd (take [91]) fun _=>list:=by
 rw[listD,exprs_list,show L ⟨#[91]⟩ = [91] from rfl,takes_one]
theorem expr_is:exprE=expr:=by
 funext n ts
 rw[exprE,expr]
 simp only[alt]
 split
 · rename_i h
   rw[list_is,bnd_assoc,take_bnd]
   simp only[alt,h,if_true]
 · rfl
theorem args_is:exprsD exprE ⟨#[41]⟩=args:=by
 rw[exprsD,skp_bnd,args,expr_is]
 simp only[if_true,Bool.false_eq_true,if_false]
 rw[ser_some expr ⟨#[41]⟩ (by decide)]
 rfl
theorem dom_is:domD=alt [123] (bnd (some_ integer [125] 256 257 []) fun l=>ret (l.map fun i=>(i,i))) (bnd integer fun lo=>bnd (take [46,46]) fun _=>bnd integer fun hi=>ret [(lo,hi)]):=by
 rw[domD,skp_bnd,ser_some singleD ⟨#[125]⟩ (by decide)]
 have:=some_map integer (fun i=>(i,i)) (L ⟨#[125]⟩) 256 257 []
 simp only[List.map_nil] at this
 simp only[if_true,Bool.false_eq_true,if_false]
 rw[show singleD=bnd integer fun x=>ret (x,x) from rfl,this,show L ⟨#[46,46]⟩ = [46,46] from rfl,takes_one]
 rfl
end Go.Proofs.YtjmmcnldfkjebaaGreatDoor.Prs
namespace Go.Proofs.YtjmmcnldfkjebaaGreatDoor.Prs
set_option linter.unusedVariables false
set_option linter.unusedSimpArgs false
open Dig Lx Tk Ps
theorem flag_bnd {β:Type} (c:Bs) (p:P Unit) (q:Bool→P β):bnd (flag c p) q=alt c (bnd p fun _=>q true) (q false):=by
 rw[flag,alt_bnd,bnd_assoc]; rfl
theorem kind_bnd {β:Type} (q:Bool→P β):bnd kind q=alt [98,111,111,108] (q true) (alt [105,110,116] (q false) wrong):=by
 rw[kind,alt_bnd,bnd_assoc,take_bnd]; rfl
theorem takes_to {β:Type} (s:ByteArray) (q:Unit→P β):bnd (takes [L s]) q=bnd (take (L s)) q:=by rw[takes_one]
theorem var_is:varD=variable_:=by
 rw[varD,variable_,skp_bnd,dom,alt_bnd,ret_bnd]
 simp only[if_true,Bool.false_eq_true,if_false,ret_bnd]
 rw[dom_is,alt_bnd,alt_bnd]
 simp only[bnd_assoc,ret_bnd,skp_bnd,flag_bnd,if_true,Bool.false_eq_true,if_false,alt_bnd,takes_to]
 rfl
theorem con_is:conD=constr:=by
 rw[conD,constr,args_is]
 simp only[takes_to]
 rfl
theorem span_bnd {β:Type} (q:Int→P β):bnd spanD q=bnd (take [91]) fun _=>bnd (exact 1) fun _=>bnd (take [46,46]) fun _=>bnd integer fun m=>bnd (take [93]) fun _=>q m:=by
 rw[spanD]
 simp only[bnd_assoc,ret_bnd,takes_to]
 rfl
theorem printed_bnd {β:Type} (m:Int) (q:Unit→P β):bnd (printedD m) q=bnd (outArr m) q:=by
 rw[printedD,outArr]
 simp only[bnd_assoc,takes_bnd,takes_nil_bnd,take_bnd,alt_bnd,wrong_bnd]
 rfl
theorem arr_is:arrD=array:=by
 rw[arrD,array,span_bnd]
 simp only[bnd_assoc,ret_bnd,skp_bnd,flag_bnd,kind_bnd,one_cons,one_nil,takes_to,list_is]
 have e1:((⟨(L ⟨#[105,110,116]⟩).toArray⟩:ByteArray).toList == [98,111,111,108])=false:=by rw[toL]; rfl
 have e2:((⟨(L ⟨#[98,111,111,108]⟩).toArray⟩:ByteArray).toList == [98,111,111,108])=true:=by rw[toL]; rfl
 simp only[e1,e2,if_true,Bool.false_eq_true,if_false,skp_bnd,flag_bnd,printed_bnd,ret_bnd]
 simp only[alt_swap (show L ⟨#[105,110,116]⟩≠L ⟨#[98,111,111,108]⟩ by decide)]
 rfl
theorem req_is:reqD=solve:=by
 rw[reqD,solve]
 simp only[one_cons,one_nil]
 have e1:((⟨(L ⟨#[115,97,116,105,115,102,121]⟩).toArray⟩:ByteArray).toList == [109,105,110,105,109,105,122,101])=false:=by rw[toL]; rfl
 have e2:((⟨(L ⟨#[115,97,116,105,115,102,121]⟩).toArray⟩:ByteArray).toList == [109,97,120,105,109,105,122,101])=false:=by rw[toL]; rfl
 have e3:((⟨(L ⟨#[109,105,110,105,109,105,122,101]⟩).toArray⟩:ByteArray).toList == [109,105,110,105,109,105,122,101])=true:=by rw[toL]; rfl
 have e4:((⟨(L ⟨#[109,97,120,105,109,105,122,101]⟩).toArray⟩:ByteArray).toList == [109,105,110,105,109,105,122,101])=false:=by rw[toL]; rfl
 have e5:((⟨(L ⟨#[109,97,120,105,109,105,122,101]⟩).toArray⟩:ByteArray).toList == [109,97,120,105,109,105,122,101])=true:=by rw[toL]; rfl
 simp only[e1,e2,e3,e4,e5,if_true,Bool.false_eq_true,if_false]
 rfl
theorem const_is (b:Bool):constD b=value b:=by
 cases b with
 | false=>rfl
 | true =>
  simp only[constD,value,if_true,one_cons,one_nil]
  have e1:((⟨(L ⟨#[116,114,117,101]⟩).toArray⟩:ByteArray).toList == [116,114,117,101])=true:=by rw[toL]; rfl
  have e2:((⟨(L ⟨#[102,97,108,115,101]⟩).toArray⟩:ByteArray).toList == [116,114,117,101])=false:=by rw[toL]; rfl
  simp only[e1,e2,if_true,Bool.false_eq_true,if_false]
  rfl
theorem par_is (b:Bool):parD b=bnd (take [58]) fun _=>bnd name fun w=>bnd (take [61]) fun _=>bnd (value b) fun y=>ret ⟨1,w,b,[],0,false,[y.xp],0⟩:=by
 rw[parD,const_is]
 simp only[takes_to]
 rfl
theorem stmt_is {t:Tv} {r:Ts} {n:Int} (h:firsts.contains (L t.s)=true):item n (t :: r)=itemD t.s n r:=by
 have hc:L t.s = [105,110,116]∨L t.s = [98,111,111,108]∨L t.s = [118,97,114]∨L t.s = [97,114,114,97,121]∨L t.s = [99,111,110,115,116,114,97,105,110,116]∨L t.s = [115,111,108,118,101]:=by
  simpa [firsts] using h
 rcases hc with h | h | h | h | h | h
 · simp only[itemD,toL,h]
   simp only[item,alt,isW,h]
   simp[par,bnd_app,kind,alt,isW,h,take,ret,R.bind,par_is]
 · simp only[itemD,toL,h]
   simp only[item,alt,isW,h]
   simp[par,bnd_app,kind,alt,isW,h,take,ret,R.bind,par_is]
 · simp only[itemD,toL,h,item,alt,isW,var_is]; simp
 · simp only[itemD,toL,h,item,alt,isW,arr_is]; simp
 · simp only[itemD,toL,h,item,alt,isW,con_is]; simp
 · simp only[itemD,toL,h,item,alt,isW,req_is]; simp
theorem stmt_no {t:Tv} {r:Ts} {n:Int} (h:firsts.contains (L t.s)=false):stmt n (t :: r) = .bad t.a 5:=by
 have hc:¬ L t.s = [105,110,116]∧¬ L t.s = [98,111,111,108]∧¬ L t.s = [118,97,114]∧¬ L t.s = [97,114,114,97,121]∧¬ L t.s = [99,111,110,115,116,114,97,105,110,116]∧¬ L t.s = [115,111,108,118,101]:=by
  simpa [firsts] using h
 obtain⟨h1,h2,h3,h4,h5,h6⟩:=hc
 simp[stmt,bnd_app,item,alt,isW,h1,h2,h3,h4,h5,h6,par,kind,take,wrong,place,R.bind]
def endD:R (List It)→List It × Int × Int
 | .ok l _=>(l,0,0)
 | .bad p e=>([],p,e)
theorem items_is (n:Int):∀ (f:Nat) (out:List It) (ts:Ts),f+out.length=513→out.length≤512→endD (itemsD f out n ts)=allD n f out ts
 | 0,out,ts,hf,ho=>by omega
 | f+1,out,ts,hf,ho=>by
  cases ts with
  | nil=>simp only[itemsD,allD,if_true,endD]
  | cons t r =>
   have hne:¬ (t :: r = []):=by simp
   rw[allD,if_neg hne]
   have e6 : [L ⟨#[105,110,116]⟩,L ⟨#[98,111,111,108]⟩,L ⟨#[118,97,114]⟩,L ⟨#[97,114,114,97,121]⟩,L ⟨#[99,111,110,115,116,114,97,105,110,116]⟩,L ⟨#[115,111,108,118,101]⟩]=firsts:=rfl
   by_cases hc:firsts.contains (L t.s)=true
   · have h1:one firsts n (t :: r) = .ok t.s r:=if_pos hc
     rw[← e6] at h1
     by_cases hm:out.length=512
     · rw[itemsD_big hne h1 hm,if_pos hm]
       simp only[endD,isOne,hc,if_true]
     · rw[if_neg hm,stmt,bnd_app,stmt_is hc]
       cases h3:itemD t.s n r with
       | bad q e =>
        rw[itemsD_bad2 hne h1 hm h3]
        simp only[endD,R.bind]
       | ok x r2 =>
        simp only[R.bind,bnd_app]
        cases h4:take semi n r2 with
        | bad q e =>
         have h5:takes [L ⟨#[59]⟩] n r2 = .bad q e:=by rw[takes_one]; exact h4
         rw[itemsD_bad3 hne h1 hm h3 h5]
         simp only[endD,R.bind]
        | ok z r3 =>
         have h5:takes [L ⟨#[59]⟩] n r2 = .ok z r3:=by rw[takes_one]; exact h4
         rw[itemsD_more hne h1 hm h3 h5]
         simp only[ret,R.bind]
         exact items_is n f (out ++ [x]) r3 (by simp; omega) (by simp; omega)
   · have hc':firsts.contains (L t.s)=false:=by simpa using hc
     have h1:one firsts n (t :: r) = .bad t.a 5:=if_neg hc
     rw[← e6] at h1
     rw[itemsD_bad1 hne h1,stmt_no hc']
     by_cases hm:out.length=512
     · rw[if_pos hm]; simp only[endD,isOne,hc',place,Bool.false_eq_true,if_false]
     · rw[if_neg hm]; simp only[endD]
end Go.Proofs.YtjmmcnldfkjebaaGreatDoor.Prs
namespace Go.Proofs.YtjmmcnldfkjebaaGreatDoor.Law06
open Go.RowKit
set_option linter.unusedVariables false
set_option linter.unusedSimpArgs false
open Dig Lx Tk Ps Ti Prs
open Lex (ErrIn)
theorem text_landed (s:ByteArray) (w:World) (hs:s.size≤10000) (he:ErrIn w):Calls Tryz.prog 18 #[.string s] w (RetP (textD s) w):=by
 have SP:=lH (Lex.split_any s w he (by omega))
 clear he
 obtain⟨⟨o,p,e⟩,hsp⟩:∃ x,splitD (L s)=x:=⟨_,rfl⟩
 rw[hsp] at SP
 by_cases h0:e=0
 · subst h0
   obtain⟨hl,hp⟩:o.length≤8192∧p=0:=by
    by_cases hb:(L s).length≤8192
    · rcases split_cases hb hsp with ⟨-,h1,h2,-⟩ | ⟨h1,-⟩
      · exact⟨by omega,h1⟩
      · exact absurd rfl h1
    · unfold splitD at hsp
      rw[if_pos (by omega)] at hsp
      simp at hsp
   have ht:textD s=endD (itemsD 513 [] (s.size:Int) (o.map tv)):=by
    rw[items_is _ 513 [] _ rfl (by simp)]
    unfold textD; rw[hsp]; simp only; rw[if_neg (by decide)]
   rw[ht]
   obtain⟨x,hx⟩:∃ x,x=itemsD 513 [] (s.size:Int) (o.map tv):=⟨_,rfl⟩
   have HX:=lH hx
   rw[← hx]
   clear hx ht hsp hp
   go_enter Tryz.func18,Tryz.ntmps18
   go_wp2_with (first
    | (go_at_call 13; (with_reducible refine SP.out.mono ?_); rintro e w1 ⟨A,c,rfl,hT,hs1⟩; have hR:=lH (show Rd w1.heap.size (s.size:Int) (o.map tv) (w1.alloc (.cells #[.slice A o.length c,.int .i64 0,.int .i64 (s.size:Int)] 88)) from⟨A,o.length,c,0,o.map tv,w1,hT,Nat.le_refl _,sA _ _,by omega,Nat.zero_le _,rfl,Bx.fresh _ _ _⟩))
    | (go_at_call 31; (with_reducible refine (text_any _ _ _ _ hR.out).mono ?_); rintro e w2 (⟨l,r,A2,c2,hk,rfl,hi,ho⟩ | ⟨q,er,hk,rfl,ho⟩)))
   · go_ret3
     rw[HX.out.trans hk]
     exact⟨A2,c2,rfl,hi,ho w (hs1.trans (sA _ _)) hs1.size⟩
   · go_ret3
     rw[HX.out.trans hk]
     exact⟨none,0,rfl,Sl.nil _ _ _,ho w (hs1.trans (sA _ _)) hs1.size⟩
 · have ht:textD s=([],(p:Int),e):=by
    unfold textD; rw[hsp]; simp only; rw[if_pos h0]
   rw[ht]
   have hz:(e != 0)=true:=by rw[bne_iff_ne]; exact h0
   clear hsp ht h0
   go_enter Tryz.func18,Tryz.ntmps18
   go_wp2_with (go_at_call 13; (with_reducible refine SP.out.mono ?_); rintro e' w1 ⟨A,c,rfl,hT,hs1⟩)
   go_ret3
   exact⟨none,0,rfl,Sl.nil _ _ _,hs1⟩
theorem text_says:TextSays ErrIn:=⟨fun w w' h k=>h.since k,fun s w hs he=>text_landed s w hs he⟩
end Go.Proofs.YtjmmcnldfkjebaaGreatDoor.Law06
