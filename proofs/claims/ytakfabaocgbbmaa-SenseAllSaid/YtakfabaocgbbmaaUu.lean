/- Layer 11 (sense): the landed All and Better. -/
import Derived.Test.YtakfabaocgbbmaaUt
import Derived.Test.YtakfabaocgbbmaaE3
set_option maxHeartbeats 4000000
set_option maxRecDepth 20000
namespace Go.Proofs.Ytakfabaocgbbmaa.Sn
open Go.RowKit
set_option linter.unusedVariables false
set_option linter.unusedSimpArgs false
open Dig Lx Tk Ti Zs Tr
def BdM (m:Md):Prop:=∀ d ∈ m.ds,Bd d
theorem valAt_nat {a:List Int} {q:Nat} : valAt a (q:Int)=a.getD q 0:=by simp[valAt]
theorem sall_any (v va:Value) (m:Md) (a:List Int) (w:World) (h:ModAt w v m) (ha:Sl 1 QI w va a) (hs:SzM m) (hbd:BdM m) (hba:BdI a) (hla:a.length≤1100000) :
 Calls Try.prog 32 #[v,va] w (RetT (allOf m a) w):=by
 have MR:=Lib.hid (fun b (hb:modOk m=b) W (kk:Since w W)=>by have:=mright_any v m W (h.since kk) hs; rw[hb] at this; exact this)
 obtain⟨vd,vc,rfl,h1,h2⟩:=h
 obtain⟨ds,cs,ask,goal⟩:=m
 obtain⟨hs1,hs2⟩:=hs
 simp only[BdM] at h1 h2 hs1 hs2 hbd ⊢
 obtain⟨D,dc,rfl⟩:=h1.form
 obtain⟨C,cc,rfl⟩:=h2.form
 obtain⟨nd,hnd⟩:∃ n,n=ds.length:=⟨_,rfl⟩
 obtain⟨nc,hnc⟩:∃ n,n=cs.length:=⟨_,rfl⟩
 obtain⟨A,ac,rfl⟩:=ha.form
 obtain⟨nl,hnl⟩:∃ n,n=a.length:=⟨_,rfl⟩
 obtain⟨R,hR⟩:∃ R,R=allOf ⟨ds,cs,ask,goal⟩ a:=⟨_,rfl⟩
 obtain⟨f,hf⟩:∃ f:Nat→Bool,f=fun i=>has (ds.getD i []) (a.getD i 0):=⟨_,rfl⟩
 obtain⟨M,hM⟩:∃ M,modOk ⟨ds,cs,ask,goal⟩=M:=⟨_,rfl⟩
 have HR:=Lib.hid (show (M && decide (nl=nd) && allI nd f && cs.all (fun c=>holds c a))=R by rw[hR,hnl,hnd,hf,← hM]; rfl)
 have D0:=Lib.hid (MR.out M hM)
 rw[← hR]
 rw[← hnd,← hnc] at D0 ⊢
 rw[← hnd] at h1
 rw[← hnc] at h2
 rw[← hnl] at ha hla ⊢
 have H1:=Lib.hid h1
 have H2:=Lib.hid h2
 have H3:=Lib.hid ha
 have HND:=Lib.hid hnd
 have HNC:=Lib.hid hnc
 have HNL:=Lib.hid hnl
 have HS1:=Lib.hid hs1
 have HS2:=Lib.hid hs2
 have HBD:=Lib.hid hbd
 have HBA:=Lib.hid hba
 have HF:=Lib.hid hf
 have ka:=Lib.hid (sA w (.cells #[.slice D nd dc,.slice C nc cc,.int .i64 ask,.int .i64 goal] 52))
 have BX:=Lib.hid (fun W (kk:Since (w.alloc (.cells #[.slice D nd dc,.slice C nc cc,.int .i64 ask,.int .i64 goal] 52)) W)=>(Bx.fresh w #[.slice D nd dc,.slice C nc cc,.int .i64 ask,.int .i64 goal] 52).since kk)
 clear h1 h2 ha hnd hnc hnl hs1 hs2 hbd hba hf hR MR
 cases M with
 | false =>
  have E:=Lib.hid (show false=R by rw[← HR.out]; simp)
  clear hM HR
  go_enter Try.func32,Try.ntmps32
  go_wp2_with (go_at_call 71; (with_reducible refine (D0.out _ ka.out).mono ?_); rintro e w1 ⟨rfl,k1⟩)
  go_ret
  exact .of E.out (ka.out.trans k1)
 | true =>
  have HM:=Lib.hid hM
  clear hM
  by_cases cl:nl=nd
  case neg =>
   have E:=Lib.hid (show false=R by rw[← HR.out,decide_eq_false cl]; simp)
   have z:((nl:Int) != (nd:Int))=true:=by rw[bne_iff_ne]; omega
   clear HR
   go_enter Try.func32,Try.ntmps32
   go_wp2_with (go_at_call 71; (with_reducible refine (D0.out _ ka.out).mono ?_); rintro e w1 ⟨rfl,k1⟩; obtain⟨b0,b1,b2,b3⟩:=bx4 (BX.out _ k1))
   go_ret
   exact .of E.out (ka.out.trans k1)
  subst cl
  have HR2:=Lib.hid (show (allI nl f && cs.all (fun c=>holds c a))=R by rw[← HR.out,decide_eq_true rfl]; rfl)
  have z:((nl:Int) != (nl:Int))=false:=by simp
  clear HR
  go_enter Try.func32,Try.ntmps32
  go_wp2_with (go_at_call 71; (with_reducible refine (D0.out _ ka.out).mono ?_); rintro e w1 ⟨rfl,k1⟩; obtain⟨b0,b1,b2,b3⟩:=bx4 (BX.out _ k1))
  have t1:=Lib.hid k1
  clear k1
  go_loopw [23] (fun i wr=>∃ j:Nat,i = .int .i64 (j:Int)∧j≤nl∧Hid (∀ i,i<j→f i=true)∧Hid (Since w1 wr)) (fun i _=>nl - (intOf i).toNat)
  case atStart=>exact⟨0,rfl,Nat.zero_le _,Lib.hid (fun i h=>absurd h (Nat.not_lt_zero _)),Since.refl _⟩
  case round =>
   obtain⟨j,rfl,hj,HE,HW⟩:=hrel
   obtain⟨b0,b1,b2,b3⟩:=bx4 (BX.out _ (t1.out.trans HW.out))
   by_cases hjn:j<nl
   · have hjd:j<ds.length:=by have:=HND.out; omega
     have hja:j<a.length:=by have:=HNL.out; omega
     have S0:=ka.out.trans (t1.out.trans HW.out)
     obtain⟨g,o,B2,d2,rfl,S2,e2⟩:=elD (H1.out.since stD S0) hjd
     obtain⟨g3,o3,rfl,e3⟩:=elI (H3.out.since stI S0) hja
     have hfj:f j=has ds[j] a[j]:=by rw[HF.out]; simp[List.getD,hjd,hja]
     have hsz:=HS1.out _ (List.getElem_mem hjd)
     have hb1:=HBD.out _ (List.getElem_mem hjd)
     have hb2:=HBA.out _ (List.getElem_mem hja)
     generalize ds[j]=y at *
     generalize a[j]=q at *
     have HH:=Lib.hid (fun b (hb:has y q=b)=>by have:=has_any _ y q wr S2 hsz hb1 hb2; rw[hb] at this; exact this)
     obtain⟨p,hp⟩:∃ p,p=y.length:=⟨_,rfl⟩
     rw[← hp] at e2 HH
     have FJ:=Lib.hid hfj
     clear hjd hja S0 S2 hfj hsz hb1 hb2 hp
     cases hc:has y q with
     | false =>
      have E:=Lib.hid (show false=R by rw[← HR2.out,allI_no hjn (by rw[FJ.out,hc])]; rfl)
      have D:=Lib.hid (HH.out false hc)
      clear hc HH FJ
      go_wp2_with (go_at_call 72; (with_reducible refine D.out.mono ?_); rintro e w3 ⟨rfl,k3⟩)
      go_ret
      exact .of E.out (ka.out.trans (t1.out.trans (HW.out.trans k3)))
     | true =>
      have HN:=Lib.hid (show ∀ i,i<j+1→f i=true from fun i hi=>by
       rcases Nat.lt_or_ge i j with h | h
       · exact HE.out i h
       · obtain rfl:i=j:=by omega
         rw[FJ.out,hc])
      have D:=Lib.hid (HH.out true hc)
      clear hc HH FJ
      go_wp2_with (go_at_call 72; (with_reducible refine D.out.mono ?_); rintro e w3 ⟨rfl,k3⟩)
      go_roundw
      case rel=>exact⟨j+1,by go_num,by omega,HN.out,HW.out.trans k3⟩
      case measure=>simp[intOf]; omega
   · obtain rfl:j=nl:=by omega
     have HB:=Lib.hid (show cs.all (fun c=>holds c a)=R by rw[← HR2.out,allI_iff.2 HE.out,Bool.true_and])
     have t5:=Lib.hid (t1.out.trans HW.out)
     have hc64:nc≤64:=by have:=HM.out; have e:=HNC.out; simp only[modOk,Bool.and_eq_true,decide_eq_true_eq] at this; omega
     clear HE
     rename World=>w5
     go_wp2
     go_loopw [39] (fun i wr=>∃ j:Nat,i = .int .i64 (j:Int)∧j≤nc∧Hid ((cs.drop j).all (fun c=>holds c a)=R)∧Hid (Since w5 wr)) (fun i _=>nc - (intOf i).toNat)
     case atStart=>exact⟨0,rfl,Nat.zero_le _,HB.out,Since.refl _⟩
     case round =>
      obtain⟨i,rfl,hi,HE,HV⟩:=hrel
      by_cases hin:i<nc
      · have hil:i<cs.length:=by have:=HNC.out; omega
        have S0:=ka.out.trans (t5.out.trans HV.out)
        obtain⟨g,o,X,xc,Y,yc,rfl,S1,S2,e0,e1,e2,e3⟩:=elC (H2.out.since stC S0) hil
        have hst:=HE.out
        rw[dropC hil,List.all_cons] at hst
        have hsz:=HS2.out _ (List.getElem_mem hil)
        generalize cs[i]=y at *
        obtain⟨yk,yx,ya,y_c⟩:=y
        simp only at S1 S2 e0 e1 e2 e3 hsz
        have CN:=Lib.hid (fun b (hb:holds ⟨yk,yx,ya,y_c⟩ a=b) W (kk:Since wr W)=>by have:=sholds_any (.agg #[.int .i64 yk,.slice X yx.length xc,.slice Y ya.length yc,.int .i64 y_c]) _ ⟨yk,yx,ya,y_c⟩ a W ⟨_,_,rfl,S1.since stI kk,S2.since stI kk⟩ (H3.out.since stI (S0.trans kk)) hsz.2 (by have:=HNL.out; omega); rw[hb] at this; exact this)
        obtain⟨p1,hp1⟩:∃ p,p=yx.length:=⟨_,rfl⟩
        obtain⟨p2,hp2⟩:∃ p,p=ya.length:=⟨_,rfl⟩
        rw[← hp1] at e1 CN
        rw[← hp2] at e2 CN
        have ST:=Lib.hid hst
        have kb:=Lib.hid (sA wr (.cells #[.int .i64 yk,.slice X p1 xc,.slice Y p2 yc,.int .i64 y_c] 25))
        obtain⟨_,_,_,_⟩:=bx4 (BX.out _ (t5.out.trans (HV.out.trans kb.out)))
        have S9:=Lib.hid S0
        clear hst hil HE S0 S1 S2 hsz hp1 hp2
        cases hy:holds ⟨yk,yx,ya,y_c⟩ a with
        | true =>
         have HE:=Lib.hid (show (cs.drop (i+1)).all (fun c=>holds c a)=R by have:=ST.out; rw[hy,Bool.true_and] at this; exact this)
         have D7:=Lib.hid (CN.out true hy _ kb.out)
         clear hy ST CN
         go_wp2_with (go_at_call 29; (with_reducible refine D7.out.mono ?_); rintro e w7 ⟨rfl,k7⟩)
         go_roundw
         case rel=>exact⟨i+1,by go_num,by omega,HE.out,HV.out.trans (kb.out.trans k7)⟩
         case measure=>simp[intOf]; omega
        | false =>
         have HE:=Lib.hid (show false=R by have:=ST.out; rw[hy,Bool.false_and] at this; exact this)
         have D7:=Lib.hid (CN.out false hy _ kb.out)
         clear hy ST CN
         go_wp2_with (go_at_call 29; (with_reducible refine D7.out.mono ?_); rintro e w7 ⟨rfl,k7⟩)
         go_ret
         exact .of HE.out (S9.out.trans (kb.out.trans k7))
      · obtain rfl:i=nc:=by omega
        have HE2:=Lib.hid (show true=R by rw[← HE.out,List.drop_of_length_le (by have:=HNC.out; omega)]; rfl)
        go_wp2
        go_ret
        exact .of HE2.out (ka.out.trans (t5.out.trans HV.out))
theorem sbetter_any (v va vb:Value) (m:Md) (a b:List Int) (w:World) (h:ModAt w v m) (ha:Sl 1 QI w va a) (hb:Sl 1 QI w vb b) (hs:SzM m) (hla:a.length≤1100000) (hlb:b.length≤1100000) :
 Calls Try.prog 34 #[v,va,vb] w (RetT (betterOf m a b) w):=by
 have MR:=Lib.hid (fun q (hq:modOk m=q) W (kk:Since w W)=>by have:=mright_any v m W (h.since kk) hs; rw[hq] at this; exact this)
 obtain⟨vd,vc,rfl,h1,h2⟩:=h
 obtain⟨ds,cs,ask,goal⟩:=m
 obtain⟨hs1,hs2⟩:=hs
 simp only at h1 h2 hs1 hs2 ⊢
 obtain⟨D,dc,rfl⟩:=h1.form
 obtain⟨C,cc,rfl⟩:=h2.form
 obtain⟨nd,hnd⟩:∃ n,n=ds.length:=⟨_,rfl⟩
 obtain⟨nc,hnc⟩:∃ n,n=cs.length:=⟨_,rfl⟩
 obtain⟨A,ac,rfl⟩:=ha.form
 obtain⟨B,bc,rfl⟩:=hb.form
 obtain⟨na,hna⟩:∃ n,n=a.length:=⟨_,rfl⟩
 obtain⟨nb,hnb⟩:∃ n,n=b.length:=⟨_,rfl⟩
 obtain⟨R,hR⟩:∃ R,R=betterOf ⟨ds,cs,ask,goal⟩ a b:=⟨_,rfl⟩
 obtain⟨M,hM⟩:∃ M,modOk ⟨ds,cs,ask,goal⟩=M:=⟨_,rfl⟩
 have HR:=Lib.hid (show (M && decide (na=nd) && decide (nb=nd) && (if ask=1 then decide (valAt a goal<valAt b goal) else if ask=2 then decide (valAt b goal<valAt a goal) else false))=R by rw[hR,hna,hnb,hnd,← hM]; rfl)
 have D0:=Lib.hid (MR.out M hM)
 rw[← hR]
 rw[← hnd,← hnc] at D0 ⊢
 rw[← hna] at ha hla ⊢
 rw[← hnb] at hb hlb ⊢
 have ka:=Lib.hid (sA w (.cells #[.slice D nd dc,.slice C nc cc,.int .i64 ask,.int .i64 goal] 52))
 have BX:=Lib.hid (fun W (kk:Since (w.alloc (.cells #[.slice D nd dc,.slice C nc cc,.int .i64 ask,.int .i64 goal] 52)) W)=>(Bx.fresh w #[.slice D nd dc,.slice C nc cc,.int .i64 ask,.int .i64 goal] 52).since kk)
 have HA:=Lib.hid ha
 have HB:=Lib.hid hb
 have HND:=Lib.hid hnd
 clear h1 h2 ha hb hs1 hs2 hR MR hna hnb hnc hnd
 cases M with
 | false =>
  have E:=Lib.hid (show false=R by rw[← HR.out]; simp)
  clear HR hM
  go_enter Try.func34,Try.ntmps34
  go_wp2_with (go_at_call 71; (with_reducible refine (D0.out _ ka.out).mono ?_); rintro e w1 ⟨rfl,k1⟩)
  go_ret
  exact .of E.out (ka.out.trans k1)
 | true =>
  have HM:=Lib.hid hM
  clear hM
  by_cases ca:na=nd
  case neg =>
   have E:=Lib.hid (show false=R by rw[← HR.out,decide_eq_false ca]; simp)
   have z:((na:Int) != (nd:Int))=true:=by rw[bne_iff_ne]; omega
   clear HR
   go_enter Try.func34,Try.ntmps34
   go_wp2_with (go_at_call 71; (with_reducible refine (D0.out _ ka.out).mono ?_); rintro e w1 ⟨rfl,k1⟩; obtain⟨b0,b1,b2,b3⟩:=bx4 (BX.out _ k1))
   go_ret
   exact .of E.out (ka.out.trans k1)
  by_cases cb:nb=nd
  case neg =>
   have E:=Lib.hid (show false=R by rw[← HR.out,decide_eq_false cb]; simp)
   have z0:((na:Int) != (nd:Int))=false:=by rw[bne_eq_false_iff_eq]; omega
   have z:((nb:Int) != (nd:Int))=true:=by rw[bne_iff_ne]; omega
   clear HR
   go_enter Try.func34,Try.ntmps34
   go_wp2_with (go_at_call 71; (with_reducible refine (D0.out _ ka.out).mono ?_); rintro e w1 ⟨rfl,k1⟩; obtain⟨b0,b1,b2,b3⟩:=bx4 (BX.out _ k1))
   go_ret
   exact .of E.out (ka.out.trans k1)
  subst ca
  subst nb
  have HR2:=Lib.hid (show (if ask=1 then decide (valAt a goal<valAt b goal) else if ask=2 then decide (valAt b goal<valAt a goal) else false)=R by rw[← HR.out]; simp)
  have z:((na:Int) != (na:Int))=false:=by simp
  clear HR
  have hrq:reqOk ⟨ds,cs,ask,goal⟩=true:=by have:=HM.out; simp only[modOk,Bool.and_eq_true] at this; exact this.2
  by_cases a12:ask=1∨ask=2
  case neg =>
   have E:=Lib.hid (show false=R by rw[← HR2.out,if_neg (by omega),if_neg (by omega)])
   have n1:(ask == 1)=false:=by rw[beq_eq_false_iff_ne]; omega
   have n2:(ask == 2)=false:=by rw[beq_eq_false_iff_ne]; omega
   clear HR2 hrq a12
   go_enter Try.func34,Try.ntmps34
   go_wp2_with (go_at_call 71; (with_reducible refine (D0.out _ ka.out).mono ?_); rintro e w1 ⟨rfl,k1⟩; obtain⟨b0,b1,b2,b3⟩:=bx4 (BX.out _ k1))
   go_ret
   exact .of E.out (ka.out.trans k1)
  have hgo:isV ds.length goal=true:=by rw[reqOk] at hrq; simp only at hrq; rw[if_neg (by omega),if_pos a12] at hrq; exact hrq
  obtain⟨q,rfl,hq⟩:=isV_nat hgo
  rw[← HND.out] at hq
  obtain⟨g,o,rfl,e0⟩:=getI HA.out q hq
  obtain⟨g2,o2,rfl,e1⟩:=getI HB.out q hq
  rw[valAt_nat,valAt_nat] at HR2
  generalize a.getD q 0=x at *
  generalize b.getD q 0=y at *
  have HC:=Lib.hid (fun W (kk:Since w W)=>(show W.cell? ⟨g,o+q,none⟩=some (.int .i64 x)∧W.cell? ⟨g2,o2+q,none⟩=some (.int .i64 y) from⟨(kk.cell _ (World.block_lt_of_cell? _ _ e0)).trans e0,(kk.cell _ (World.block_lt_of_cell? _ _ e1)).trans e1⟩))
  clear e0 e1 hrq hgo HM HA HB
  rcases a12 with rfl | rfl
  · have E:=Lib.hid (show decide (x<y)=R by rw[← HR2.out]; simp)
    clear HR2
    go_enter Try.func34,Try.ntmps34
    go_wp2_with (go_at_call 71; (with_reducible refine (D0.out _ ka.out).mono ?_); rintro e w1 ⟨rfl,k1⟩; obtain⟨b0,b1,b2,b3⟩:=bx4 (BX.out _ k1))
    have hr0:Since w1 w1.drew:=Since.drew (Since.refl w1)
    refine wp_region_noPanic ?_
    refine Reg.wp_region_G (S:=fun _=>True) (fun j => [].contains j) (by kernel_rfl) trivial ?_
    refine' Reg.tk (i := 0) (oi := { dst := some 30, op := Op.move (Operand.tmp 1), type := 23, pos := "sense.go:41", after := #[], guard := none }) (v := _) [3, 4, 10, 11] [] (Or.inl ⟨by rfl, Or.inl ?hy2⟩) ?r_2
    case hy2=>(intro w' kk ss; obtain⟨x0,x1,x2,x3⟩:=bx4 (BX.out _ (k1.trans (hr0.trans kk))); obtain⟨u0,u1⟩:=HC.out _ (ka.out.trans (k1.trans (hr0.trans kk))); go_simp; first | done | with_reducible rfl)
    try simp only[Act.put,Reg.l1,Reg.l2,Reg.l3]
    refine' Reg.tk (i := 1) (oi := { dst := some 31, op := Op.fieldAddr 52 (Operand.tmp 3) 3, type := 0, pos := "sense.go:41", after := #[], guard := none }) (v := _) [2, 3, 4, 10, 11] [] (Or.inl ⟨by rfl, Or.inl ?hy3⟩) ?r_3
    case hy3=>(intro w' kk ss; obtain⟨x0,x1,x2,x3⟩:=bx4 (BX.out _ (k1.trans (hr0.trans kk))); obtain⟨u0,u1⟩:=HC.out _ (ka.out.trans (k1.trans (hr0.trans kk))); go_simp; first | done | with_reducible rfl)
    try simp only[Act.put,Reg.l1,Reg.l2,Reg.l3]
    refine' Reg.tk (i := 2) (oi := { dst := some 32, op := Op.load 3 (Operand.tmp 31), type := 3, pos := "sense.go:41", after := #[{ on := 1, ground := Ground.data }], guard := none }) (v := _) [3, 4, 10, 11] [] (Or.inl ⟨by rfl, Or.inl ?hy4⟩) ?r_4
    case hy4=>(intro w' kk ss; obtain⟨x0,x1,x2,x3⟩:=bx4 (BX.out _ (k1.trans (hr0.trans kk))); obtain⟨u0,u1⟩:=HC.out _ (ka.out.trans (k1.trans (hr0.trans kk))); go_simp; first | done | with_reducible rfl)
    try simp only[Act.put,Reg.l1,Reg.l2,Reg.l3]
    refine' Reg.tk (i := 3) (oi := { dst := some 33, op := Op.indexAddr 23 (Operand.tmp 30) (Operand.tmp 32), type := 0, pos := "sense.go:41", after := #[{ on := 0, ground := Ground.data }, { on := 2, ground := Ground.data }], guard := none }) (v := _) [4, 10, 11] [] (Or.inl ⟨by rfl, Or.inl ?hy5⟩) ?r_5
    case hy5=>(intro w' kk ss; obtain⟨x0,x1,x2,x3⟩:=bx4 (BX.out _ (k1.trans (hr0.trans kk))); obtain⟨u0,u1⟩:=HC.out _ (ka.out.trans (k1.trans (hr0.trans kk))); go_simp; first | done | with_reducible rfl)
    try simp only[Act.put,Reg.l1,Reg.l2,Reg.l3]
    refine' Reg.tk (i := 4) (oi := { dst := some 34, op := Op.load 2 (Operand.tmp 33), type := 2, pos := "sense.go:41", after := #[{ on := 3, ground := Ground.data }], guard := none }) (v := _) [10, 11] [] (Or.inl ⟨by rfl, Or.inl ?hy6⟩) ?r_6
    case hy6=>(intro w' kk ss; obtain⟨x0,x1,x2,x3⟩:=bx4 (BX.out _ (k1.trans (hr0.trans kk))); obtain⟨u0,u1⟩:=HC.out _ (ka.out.trans (k1.trans (hr0.trans kk))); go_simp; first | done | with_reducible rfl)
    try simp only[Act.put,Reg.l1,Reg.l2,Reg.l3]
    refine' Reg.tk (i := 5) (oi := { dst := some 35, op := Op.move (Operand.tmp 2), type := 23, pos := "sense.go:41", after := #[], guard := none }) (v := _) [8, 9, 10, 11] [] (Or.inl ⟨by rfl, Or.inl ?hy7⟩) ?r_7
    case hy7=>(intro w' kk ss; obtain⟨x0,x1,x2,x3⟩:=bx4 (BX.out _ (k1.trans (hr0.trans kk))); obtain⟨u0,u1⟩:=HC.out _ (ka.out.trans (k1.trans (hr0.trans kk))); go_simp; first | done | with_reducible rfl)
    try simp only[Act.put,Reg.l1,Reg.l2,Reg.l3]
    refine' Reg.tk (i := 6) (oi := { dst := some 36, op := Op.fieldAddr 52 (Operand.tmp 3) 3, type := 0, pos := "sense.go:41", after := #[], guard := none }) (v := _) [7, 8, 9, 10, 11] [] (Or.inl ⟨by rfl, Or.inl ?hy8⟩) ?r_8
    case hy8=>(intro w' kk ss; obtain⟨x0,x1,x2,x3⟩:=bx4 (BX.out _ (k1.trans (hr0.trans kk))); obtain⟨u0,u1⟩:=HC.out _ (ka.out.trans (k1.trans (hr0.trans kk))); go_simp; first | done | with_reducible rfl)
    try simp only[Act.put,Reg.l1,Reg.l2,Reg.l3]
    refine' Reg.tk (i := 7) (oi := { dst := some 37, op := Op.load 3 (Operand.tmp 36), type := 3, pos := "sense.go:41", after := #[{ on := 6, ground := Ground.data }], guard := none }) (v := _) [8, 9, 10, 11] [] (Or.inl ⟨by rfl, Or.inl ?hy9⟩) ?r_9
    case hy9=>(intro w' kk ss; obtain⟨x0,x1,x2,x3⟩:=bx4 (BX.out _ (k1.trans (hr0.trans kk))); obtain⟨u0,u1⟩:=HC.out _ (ka.out.trans (k1.trans (hr0.trans kk))); go_simp; first | done | with_reducible rfl)
    try simp only[Act.put,Reg.l1,Reg.l2,Reg.l3]
    refine' Reg.tk (i := 8) (oi := { dst := some 38, op := Op.indexAddr 23 (Operand.tmp 35) (Operand.tmp 37), type := 0, pos := "sense.go:41", after := #[{ on := 5, ground := Ground.data }, { on := 7, ground := Ground.data }], guard := none }) (v := _) [9, 10, 11] [] (Or.inl ⟨by rfl, Or.inl ?hy10⟩) ?r_10
    case hy10=>(intro w' kk ss; obtain⟨x0,x1,x2,x3⟩:=bx4 (BX.out _ (k1.trans (hr0.trans kk))); obtain⟨u0,u1⟩:=HC.out _ (ka.out.trans (k1.trans (hr0.trans kk))); go_simp; first | done | with_reducible rfl)
    try simp only[Act.put,Reg.l1,Reg.l2,Reg.l3]
    refine' Reg.tk (i := 9) (oi := { dst := some 39, op := Op.load 2 (Operand.tmp 38), type := 2, pos := "sense.go:41", after := #[{ on := 8, ground := Ground.data }], guard := none }) (v := _) [10, 11] [] (Or.inl ⟨by rfl, Or.inl ?hy11⟩) ?r_11
    case hy11=>(intro w' kk ss; obtain⟨x0,x1,x2,x3⟩:=bx4 (BX.out _ (k1.trans (hr0.trans kk))); obtain⟨u0,u1⟩:=HC.out _ (ka.out.trans (k1.trans (hr0.trans kk))); go_simp; first | done | with_reducible rfl)
    try simp only[Act.put,Reg.l1,Reg.l2,Reg.l3]
    refine' Reg.tk (i := 10) (oi := { dst := some 40, op := Op.binOp BinOp.lss 2 (Operand.tmp 34) (Operand.tmp 39) 2, type := 4, pos := "sense.go:41", after := #[{ on := 4, ground := Ground.data }, { on := 9, ground := Ground.data }], guard := none }) (v := _) [11] [] (Or.inl ⟨by rfl, Or.inl ?hy12⟩) ?r_12
    case hy12=>(intro w' kk ss; obtain⟨x0,x1,x2,x3⟩:=bx4 (BX.out _ (k1.trans (hr0.trans kk))); obtain⟨u0,u1⟩:=HC.out _ (ka.out.trans (k1.trans (hr0.trans kk))); go_simp; first | done | with_reducible rfl)
    try simp only[Act.put,Reg.l1,Reg.l2,Reg.l3]
    refine' Reg.tk (i := 11) (oi := { dst := some 6, op := Op.assign (Operand.tmp 40), type := 4, pos := "sense.go:41", after := #[{ on := 10, ground := Ground.data }, { on := 0, ground := Ground.phase }, { on := 1, ground := Ground.phase }, { on := 2, ground := Ground.phase }, { on := 3, ground := Ground.phase }, { on := 4, ground := Ground.phase }, { on := 5, ground := Ground.phase }, { on := 6, ground := Ground.phase }, { on := 7, ground := Ground.phase }, { on := 8, ground := Ground.phase }, { on := 9, ground := Ground.phase }, { on := 10, ground := Ground.phase }], guard := none }) (v := _) [] [] (Or.inl ⟨by rfl, Or.inl ?hy13⟩) ?r_13
    case hy13=>(intro w' kk ss; obtain⟨x0,x1,x2,x3⟩:=bx4 (BX.out _ (k1.trans (hr0.trans kk))); obtain⟨u0,u1⟩:=HC.out _ (ka.out.trans (k1.trans (hr0.trans kk))); go_simp; first | done | with_reducible rfl)
    try simp only[Act.put,Reg.l1,Reg.l2,Reg.l3]
    refine Reg.wpG_done (by kernel_rfl) (fun we ke se => ?_) _
    refine NoPanic.normal ?_
    have hr0:=hr0.trans ke
    clear ke
    go_wp2
    go_ret
    exact .of E.out (ka.out.trans (k1.trans hr0))
  · have E:=Lib.hid (show decide (y<x)=R by rw[← HR2.out]; simp)
    clear HR2
    go_enter Try.func34,Try.ntmps34
    go_wp2_with (go_at_call 71; (with_reducible refine (D0.out _ ka.out).mono ?_); rintro e w1 ⟨rfl,k1⟩; obtain⟨b0,b1,b2,b3⟩:=bx4 (BX.out _ k1))
    have hr0:Since w1 w1.drew:=Since.drew (Since.refl w1)
    refine wp_region_noPanic ?_
    refine Reg.wp_region_G (S:=fun _=>True) (fun j => [].contains j) (by kernel_rfl) trivial ?_
    refine' Reg.tk (i := 0) (oi := { dst := some 43, op := Op.move (Operand.tmp 1), type := 23, pos := "sense.go:43", after := #[], guard := none }) (v := _) [3, 4, 10, 11] [] (Or.inl ⟨by rfl, Or.inl ?hy15⟩) ?r_15
    case hy15=>(intro w' kk ss; obtain⟨x0,x1,x2,x3⟩:=bx4 (BX.out _ (k1.trans (hr0.trans kk))); obtain⟨u0,u1⟩:=HC.out _ (ka.out.trans (k1.trans (hr0.trans kk))); go_simp; first | done | with_reducible rfl)
    try simp only[Act.put,Reg.l1,Reg.l2,Reg.l3]
    refine' Reg.tk (i := 1) (oi := { dst := some 44, op := Op.fieldAddr 52 (Operand.tmp 3) 3, type := 0, pos := "sense.go:43", after := #[], guard := none }) (v := _) [2, 3, 4, 10, 11] [] (Or.inl ⟨by rfl, Or.inl ?hy16⟩) ?r_16
    case hy16=>(intro w' kk ss; obtain⟨x0,x1,x2,x3⟩:=bx4 (BX.out _ (k1.trans (hr0.trans kk))); obtain⟨u0,u1⟩:=HC.out _ (ka.out.trans (k1.trans (hr0.trans kk))); go_simp; first | done | with_reducible rfl)
    try simp only[Act.put,Reg.l1,Reg.l2,Reg.l3]
    refine' Reg.tk (i := 2) (oi := { dst := some 45, op := Op.load 3 (Operand.tmp 44), type := 3, pos := "sense.go:43", after := #[{ on := 1, ground := Ground.data }], guard := none }) (v := _) [3, 4, 10, 11] [] (Or.inl ⟨by rfl, Or.inl ?hy17⟩) ?r_17
    case hy17=>(intro w' kk ss; obtain⟨x0,x1,x2,x3⟩:=bx4 (BX.out _ (k1.trans (hr0.trans kk))); obtain⟨u0,u1⟩:=HC.out _ (ka.out.trans (k1.trans (hr0.trans kk))); go_simp; first | done | with_reducible rfl)
    try simp only[Act.put,Reg.l1,Reg.l2,Reg.l3]
    refine' Reg.tk (i := 3) (oi := { dst := some 46, op := Op.indexAddr 23 (Operand.tmp 43) (Operand.tmp 45), type := 0, pos := "sense.go:43", after := #[{ on := 0, ground := Ground.data }, { on := 2, ground := Ground.data }], guard := none }) (v := _) [4, 10, 11] [] (Or.inl ⟨by rfl, Or.inl ?hy18⟩) ?r_18
    case hy18=>(intro w' kk ss; obtain⟨x0,x1,x2,x3⟩:=bx4 (BX.out _ (k1.trans (hr0.trans kk))); obtain⟨u0,u1⟩:=HC.out _ (ka.out.trans (k1.trans (hr0.trans kk))); go_simp; first | done | with_reducible rfl)
    try simp only[Act.put,Reg.l1,Reg.l2,Reg.l3]
    refine' Reg.tk (i := 4) (oi := { dst := some 47, op := Op.load 2 (Operand.tmp 46), type := 2, pos := "sense.go:43", after := #[{ on := 3, ground := Ground.data }], guard := none }) (v := _) [10, 11] [] (Or.inl ⟨by rfl, Or.inl ?hy19⟩) ?r_19
    case hy19=>(intro w' kk ss; obtain⟨x0,x1,x2,x3⟩:=bx4 (BX.out _ (k1.trans (hr0.trans kk))); obtain⟨u0,u1⟩:=HC.out _ (ka.out.trans (k1.trans (hr0.trans kk))); go_simp; first | done | with_reducible rfl)
    try simp only[Act.put,Reg.l1,Reg.l2,Reg.l3]
    refine' Reg.tk (i := 5) (oi := { dst := some 48, op := Op.move (Operand.tmp 2), type := 23, pos := "sense.go:43", after := #[], guard := none }) (v := _) [8, 9, 10, 11] [] (Or.inl ⟨by rfl, Or.inl ?hy20⟩) ?r_20
    case hy20=>(intro w' kk ss; obtain⟨x0,x1,x2,x3⟩:=bx4 (BX.out _ (k1.trans (hr0.trans kk))); obtain⟨u0,u1⟩:=HC.out _ (ka.out.trans (k1.trans (hr0.trans kk))); go_simp; first | done | with_reducible rfl)
    try simp only[Act.put,Reg.l1,Reg.l2,Reg.l3]
    refine' Reg.tk (i := 6) (oi := { dst := some 49, op := Op.fieldAddr 52 (Operand.tmp 3) 3, type := 0, pos := "sense.go:43", after := #[], guard := none }) (v := _) [7, 8, 9, 10, 11] [] (Or.inl ⟨by rfl, Or.inl ?hy21⟩) ?r_21
    case hy21=>(intro w' kk ss; obtain⟨x0,x1,x2,x3⟩:=bx4 (BX.out _ (k1.trans (hr0.trans kk))); obtain⟨u0,u1⟩:=HC.out _ (ka.out.trans (k1.trans (hr0.trans kk))); go_simp; first | done | with_reducible rfl)
    try simp only[Act.put,Reg.l1,Reg.l2,Reg.l3]
    refine' Reg.tk (i := 7) (oi := { dst := some 50, op := Op.load 3 (Operand.tmp 49), type := 3, pos := "sense.go:43", after := #[{ on := 6, ground := Ground.data }], guard := none }) (v := _) [8, 9, 10, 11] [] (Or.inl ⟨by rfl, Or.inl ?hy22⟩) ?r_22
    case hy22=>(intro w' kk ss; obtain⟨x0,x1,x2,x3⟩:=bx4 (BX.out _ (k1.trans (hr0.trans kk))); obtain⟨u0,u1⟩:=HC.out _ (ka.out.trans (k1.trans (hr0.trans kk))); go_simp; first | done | with_reducible rfl)
    try simp only[Act.put,Reg.l1,Reg.l2,Reg.l3]
    refine' Reg.tk (i := 8) (oi := { dst := some 51, op := Op.indexAddr 23 (Operand.tmp 48) (Operand.tmp 50), type := 0, pos := "sense.go:43", after := #[{ on := 5, ground := Ground.data }, { on := 7, ground := Ground.data }], guard := none }) (v := _) [9, 10, 11] [] (Or.inl ⟨by rfl, Or.inl ?hy23⟩) ?r_23
    case hy23=>(intro w' kk ss; obtain⟨x0,x1,x2,x3⟩:=bx4 (BX.out _ (k1.trans (hr0.trans kk))); obtain⟨u0,u1⟩:=HC.out _ (ka.out.trans (k1.trans (hr0.trans kk))); go_simp; first | done | with_reducible rfl)
    try simp only[Act.put,Reg.l1,Reg.l2,Reg.l3]
    refine' Reg.tk (i := 9) (oi := { dst := some 52, op := Op.load 2 (Operand.tmp 51), type := 2, pos := "sense.go:43", after := #[{ on := 8, ground := Ground.data }], guard := none }) (v := _) [10, 11] [] (Or.inl ⟨by rfl, Or.inl ?hy24⟩) ?r_24
    case hy24=>(intro w' kk ss; obtain⟨x0,x1,x2,x3⟩:=bx4 (BX.out _ (k1.trans (hr0.trans kk))); obtain⟨u0,u1⟩:=HC.out _ (ka.out.trans (k1.trans (hr0.trans kk))); go_simp; first | done | with_reducible rfl)
    try simp only[Act.put,Reg.l1,Reg.l2,Reg.l3]
    refine' Reg.tk (i := 10) (oi := { dst := some 53, op := Op.binOp BinOp.gtr 2 (Operand.tmp 47) (Operand.tmp 52) 2, type := 4, pos := "sense.go:43", after := #[{ on := 4, ground := Ground.data }, { on := 9, ground := Ground.data }], guard := none }) (v := _) [11] [] (Or.inl ⟨by rfl, Or.inl ?hy25⟩) ?r_25
    case hy25=>(intro w' kk ss; obtain⟨x0,x1,x2,x3⟩:=bx4 (BX.out _ (k1.trans (hr0.trans kk))); obtain⟨u0,u1⟩:=HC.out _ (ka.out.trans (k1.trans (hr0.trans kk))); go_simp; first | done | with_reducible rfl)
    try simp only[Act.put,Reg.l1,Reg.l2,Reg.l3]
    refine' Reg.tk (i := 11) (oi := { dst := some 6, op := Op.assign (Operand.tmp 53), type := 4, pos := "sense.go:43", after := #[{ on := 10, ground := Ground.data }, { on := 0, ground := Ground.phase }, { on := 1, ground := Ground.phase }, { on := 2, ground := Ground.phase }, { on := 3, ground := Ground.phase }, { on := 4, ground := Ground.phase }, { on := 5, ground := Ground.phase }, { on := 6, ground := Ground.phase }, { on := 7, ground := Ground.phase }, { on := 8, ground := Ground.phase }, { on := 9, ground := Ground.phase }, { on := 10, ground := Ground.phase }], guard := none }) (v := _) [] [] (Or.inl ⟨by rfl, Or.inl ?hy26⟩) ?r_26
    case hy26=>(intro w' kk ss; obtain⟨x0,x1,x2,x3⟩:=bx4 (BX.out _ (k1.trans (hr0.trans kk))); obtain⟨u0,u1⟩:=HC.out _ (ka.out.trans (k1.trans (hr0.trans kk))); go_simp; first | done | with_reducible rfl)
    try simp only[Act.put,Reg.l1,Reg.l2,Reg.l3]
    refine Reg.wpG_done (by kernel_rfl) (fun we ke se => ?_) _
    refine NoPanic.normal ?_
    have hr0:=hr0.trans ke
    clear ke
    go_wp2
    go_ret
    exact .of E.out (ka.out.trans (k1.trans hr0))
end Go.Proofs.Ytakfabaocgbbmaa.Sn
