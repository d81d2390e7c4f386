/- Layer 11 (sense): the document's own truth, truths, signs, none, named. -/
import Derived.Test.YtilgmkhcpmegjaaUc
set_option maxHeartbeats 4000000
set_option maxRecDepth 20000
namespace Go.Proofs.Ytilgmkhcpmegjaa.Sn
open Go.RowKit
set_option linter.unusedVariables false
set_option linter.unusedSimpArgs false
open Dig Lx Tk Ti Zs Tr
theorem rnamed_any (k:Int) (w:World):Calls Try.prog 195 #[.int .i64 k] w fun e w'=>e = .returned (.bool (tak k))∧w'=w:=by
 by_cases c1:k ≥ 1
 · by_cases c2:k≤6
   · have e:tak k=true:=by simp only[tak,Bool.or_eq_true,decide_eq_true_eq]; omega
     rw[e]
     go_enter Try.func195,Try.ntmps195
     go_wp2
     go_ret
     exact⟨rfl,rfl⟩
   · by_cases c3:k=19
     · subst c3
       go_enter Try.func195,Try.ntmps195
       go_wp2
       go_ret
       exact⟨rfl,rfl⟩
     · have e:tak k=false:=by simp only[tak,Bool.or_eq_false_iff,decide_eq_false_iff_not]; omega
       have hz:(k == 19)=false:=by rw[beq_eq_false_iff_ne]; exact c3
       rw[e]
       go_enter Try.func195,Try.ntmps195
       go_wp2
       go_ret
       exact⟨rfl,rfl⟩
 · have e:tak k=false:=by simp only[tak,Bool.or_eq_false_iff,decide_eq_false_iff_not]; omega
   have hz:(k == 19)=false:=by rw[beq_eq_false_iff_ne]; omega
   rw[e]
   go_enter Try.func195,Try.ntmps195
   go_wp2
   go_ret
   exact⟨rfl,rfl⟩
theorem rtruth_any (v:Value) (d:List Rn) (w:World) (h:Sl 2 QR w v d) (hl:d.length≤1100000) :
 Calls Try.prog 196 #[v] w fun e w'=>e = .returned (.bool (tru d))∧w'=w:=by
 obtain⟨A,c,rfl⟩:=h.form
 by_cases hz:d.length=0
 · obtain rfl:d = []:=List.eq_nil_of_length_eq_zero hz
   clear h hl hz
   go_enter Try.func196,Try.ntmps196
   go_wp2
   go_ret
   exact⟨rfl,rfl⟩
 have hp:0<d.length:=by omega
 obtain⟨b,o,rfl,e0,e1⟩:=ends_at h hp
 obtain⟨n,hn⟩:∃ n,n=d.length - 1:=⟨_,rfl⟩
 have hn2:d.length=n+1:=by omega
 have et:tru d=(decide (0≤(d.getD 0 (0,0)).1) && decide ((d.getD (d.length - 1) (0,0)).2≤1)):=by rw[tru,decide_eq_true hp,Bool.true_and]
 rw[et]
 rw[← hn] at e1 ⊢
 rw[hn2] at hl ⊢
 generalize (d.getD 0 (0,0)).1=lo at *
 generalize (d.getD n (0,0)).2=hi at *
 clear h hp hn hn2 et hz
 have ei:((n+1:Nat):Int) - 1=(n:Int):=by omega
 have e2:w.cell? ⟨b,o+n*2+1,none⟩=some (.int .i64 hi):=by simpa using e1
 clear e1
 by_cases c1:lo ≥ 0
 · by_cases c2:hi≤1
   · have e:(decide (0≤lo) && decide (hi≤1))=true:=by simp only[Bool.and_eq_true,decide_eq_true_eq]; omega
     rw[e]
     go_enter Try.func196,Try.ntmps196
     go_wp2
     go_ret
     exact⟨rfl,rfl⟩
   · have e:(decide (0≤lo) && decide (hi≤1))=false:=by simp only[Bool.and_eq_false_iff,decide_eq_false_iff_not]; omega
     rw[e]
     go_enter Try.func196,Try.ntmps196
     go_wp2
     go_ret
     exact⟨rfl,rfl⟩
 · have e:(decide (0≤lo) && decide (hi≤1))=false:=by simp only[Bool.and_eq_false_iff,decide_eq_false_iff_not]; omega
   rw[e]
   go_enter Try.func196,Try.ntmps196
   go_wp2
   go_ret
   exact⟨rfl,rfl⟩
def sg1 (n:Int):Bool:=decide (n=1) || decide (n = -1)
def nn0 (n:Int):Bool:=decide (0≤n)
theorem rsigns_any (v:Value) (l:List Int) (w:World) (h:Sl 1 QI w v l) (hl:l.length≤1100000) :
 Calls Try.prog 226 #[v] w (RetT (l.all sg1) w):=by
 obtain⟨A,c,rfl⟩:=h.form
 obtain⟨n,hn⟩:∃ n,n=l.length:=⟨_,rfl⟩
 obtain⟨R,hR⟩:∃ R,R=l.all sg1:=⟨_,rfl⟩
 rw[← hR]
 rw[← hn] at h hl ⊢
 have H:=Lib.hid h
 have HN:=Lib.hid hn
 have HR:=Lib.hid hR
 clear h hn hR
 go_enter Try.func226,Try.ntmps226
 go_wp2
 go_loopw [3] (fun i wr=>∃ k:Nat,i = .int .i64 (k:Int)∧k≤n∧Hid ((l.drop k).all sg1=R)∧Hid (Since w wr)) (fun i _=>n - (intOf i).toNat)
 case atStart=>exact⟨0,rfl,Nat.zero_le _,HR.out.symm,Since.refl _⟩
 case round =>
  obtain⟨k,rfl,hk,HE,HW⟩:=hrel
  by_cases hkn:k<n
  · have hkl:k<l.length:=by have:=HN.out; omega
    obtain⟨g,o,rfl,e0⟩:=elI (H.out.since stI HW.out) hkl
    have hst:=HE.out
    rw[dropI hkl,List.all_cons] at hst
    generalize l[k]=y at *
    have ST:=Lib.hid hst
    clear hst hkl HE
    have FIN:=Lib.hid (fun hy:sg1 y=true=>show (l.drop (k+1)).all sg1=R by have:=ST.out; rw[hy,Bool.true_and] at this; exact this)
    have BAD:=Lib.hid (fun hy:sg1 y=false=>show false=R by have:=ST.out; rw[hy,Bool.false_and] at this; exact this)
    by_cases y1:y=1
    · have HE:=Lib.hid (FIN.out (by subst y1; rfl))
      have z1:(y != 1)=false:=by subst y1; rfl
      clear y1
      go_wp2
      go_roundw
      case rel=>exact⟨k+1,by go_num,by omega,HE.out,HW.out⟩
      case measure=>simp[intOf]; omega
    · have z1:(y != 1)=true:=by rw[bne_iff_ne]; exact y1
      by_cases y2:y = -1
      · have HE:=Lib.hid (FIN.out (by subst y2; rfl))
        have z2:(y != -1)=false:=by subst y2; rfl
        clear y2 y1
        go_wp2
        go_roundw
        case rel=>exact⟨k+1,by go_num,by omega,HE.out,HW.out⟩
        case measure=>simp[intOf]; omega
      · have z2:(y != -1)=true:=by rw[bne_iff_ne]; exact y2
        have HE:=Lib.hid (BAD.out (by simp[sg1,y1,y2]))
        go_wp2
        go_ret
        exact .of HE.out HW.out
  · obtain rfl:k=n:=by omega
    have HE2:=Lib.hid (show true=R by rw[← HE.out,List.drop_of_length_le (by have:=HN.out; omega)]; rfl)
    go_wp2
    go_ret
    exact .of HE2.out HW.out
theorem rnone_any (v:Value) (l:List Int) (w:World) (h:Sl 1 QI w v l) (hl:l.length≤1100000) :
 Calls Try.prog 227 #[v] w (RetT (l.all nn0) w):=by
 obtain⟨A,c,rfl⟩:=h.form
 obtain⟨n,hn⟩:∃ n,n=l.length:=⟨_,rfl⟩
 obtain⟨R,hR⟩:∃ R,R=l.all nn0:=⟨_,rfl⟩
 rw[← hR]
 rw[← hn] at h hl ⊢
 have H:=Lib.hid h
 have HN:=Lib.hid hn
 have HR:=Lib.hid hR
 clear h hn hR
 go_enter Try.func227,Try.ntmps227
 go_wp2
 go_loopw [3] (fun i wr=>∃ k:Nat,i = .int .i64 (k:Int)∧k≤n∧Hid ((l.drop k).all nn0=R)∧Hid (Since w wr)) (fun i _=>n - (intOf i).toNat)
 case atStart=>exact⟨0,rfl,Nat.zero_le _,HR.out.symm,Since.refl _⟩
 case round =>
  obtain⟨k,rfl,hk,HE,HW⟩:=hrel
  by_cases hkn:k<n
  · have hkl:k<l.length:=by have:=HN.out; omega
    obtain⟨g,o,rfl,e0⟩:=elI (H.out.since stI HW.out) hkl
    have hst:=HE.out
    rw[dropI hkl,List.all_cons] at hst
    generalize l[k]=y at *
    have ST:=Lib.hid hst
    clear hst hkl HE
    have FIN:=Lib.hid (fun hy:nn0 y=true=>show (l.drop (k+1)).all nn0=R by have:=ST.out; rw[hy,Bool.true_and] at this; exact this)
    have BAD:=Lib.hid (fun hy:nn0 y=false=>show false=R by have:=ST.out; rw[hy,Bool.false_and] at this; exact this)
    by_cases y1:y<0
    · have HE:=Lib.hid (BAD.out (by simp[nn0]; omega))
      go_wp2
      go_ret
      exact .of HE.out HW.out
    · have HE:=Lib.hid (FIN.out (by simp[nn0]; omega))
      go_wp2
      go_roundw
      case rel=>exact⟨k+1,by go_num,by omega,HE.out,HW.out⟩
      case measure=>simp[intOf]; omega
  · obtain rfl:k=n:=by omega
    have HE2:=Lib.hid (show true=R by rw[← HE.out,List.drop_of_length_le (by have:=HN.out; omega)]; rfl)
    go_wp2
    go_ret
    exact .of HE2.out HW.out
theorem truth_at {v:Value} {d:List Rn} {w:World} (h:Sl 2 QR w v d) (hl:d.length≤1100000) {b:Bool} (hb:tru d=b) (W:World) (k:Since w W):Calls Try.prog 196 #[v] W (fun e w'=>e = .returned (.bool b)∧Since W w'∧True):=by
 subst hb
 exact (rtruth_any v d W (h.since stR k) hl).mono fun e w' h=>⟨h.1,h.2 ▸ Since.refl _,trivial⟩
theorem rtruths_any (v vx:Value) (m:Md) (x:List Int) (w:World) (h:ModAt w v m) (hx:Sl 1 QI w vx x) (hin:∀ y ∈ x,isV m.ds.length y=true) (hok:∀ d ∈ m.ds,d.length≤1100000) (hl:x.length≤1100000) :
 Calls Try.prog 197 #[v,vx] w (RetT (x.all (fun y=>tru (domAt m.ds y))) w):=by
 obtain⟨vd,vc,rfl,h1,h2⟩:=h
 obtain⟨ds,cs,ask,goal⟩:=m
 simp only at h1 h2 hin hok ⊢
 obtain⟨D,dc,rfl⟩:=h1.form
 obtain⟨C,cc,rfl⟩:=h2.form
 obtain⟨X,xc,rfl⟩:=hx.form
 obtain⟨n,hn⟩:∃ n,n=x.length:=⟨_,rfl⟩
 obtain⟨nd,hnd⟩:∃ n,n=ds.length:=⟨_,rfl⟩
 obtain⟨R,hR⟩:∃ R,R=x.all (fun y=>tru (domAt ds y)):=⟨_,rfl⟩
 rw[← hR]
 rw[← hn] at hx hl ⊢
 rw[← hnd] at h1 ⊢
 generalize cs.length=nc at *
 have H1:=Lib.hid h1
 have HX:=Lib.hid hx
 have HN:=Lib.hid hn
 have HND:=Lib.hid hnd
 have HR:=Lib.hid hR
 have HIN:=Lib.hid hin
 have HOK:=Lib.hid hok
 have ka:=Lib.hid (since_alloc w (.cells #[.slice D nd dc,.slice C nc cc,.int .i64 ask,.int .i64 goal] 79))
 have BX:=Lib.hid (fun W (kk:Since (w.alloc (.cells #[.slice D nd dc,.slice C nc cc,.int .i64 ask,.int .i64 goal] 79)) W)=>(Bx.fresh w #[.slice D nd dc,.slice C nc cc,.int .i64 ask,.int .i64 goal] 79).since kk)
 clear h1 h2 hx hn hnd hR hin hok
 go_enter Try.func197,Try.ntmps197
 go_wp2
 go_loopw [5] (fun i wr=>∃ k:Nat,i = .int .i64 (k:Int)∧k≤n∧Hid ((x.drop k).all (fun y=>tru (domAt ds y))=R)∧Hid (Since (w.alloc (.cells #[.slice D nd dc,.slice C nc cc,.int .i64 ask,.int .i64 goal] 79)) wr)) (fun i _=>n - (intOf i).toNat)
 case atStart=>exact⟨0,rfl,Nat.zero_le _,HR.out.symm,Since.refl _⟩
 case round =>
  obtain⟨k,rfl,hk,HE,HW⟩:=hrel
  by_cases hkn:k<n
  · have hkl:k<x.length:=by have:=HN.out; omega
    obtain⟨g,o,rfl,e0⟩:=elI (HX.out.since stI (ka.out.trans HW.out)) hkl
    have hst:=HE.out
    rw[dropI hkl,List.all_cons] at hst
    have hin:=HIN.out _ (List.getElem_mem hkl)
    generalize x[k]=y at *
    obtain⟨q,rfl,hq⟩:=isV_nat hin
    rw[domAt_nat hq] at hst
    obtain⟨g2,o2,B2,d2,rfl,S2,e2⟩:=elD (H1.out.since stD (ka.out.trans HW.out)) hq
    have hdo:=HOK.out _ (List.getElem_mem hq)
    generalize ds[q]=dq at *
    obtain⟨T,hT⟩:∃ T,tru dq=T:=⟨_,rfl⟩
    have TA:=Lib.hid (fun W kk=>truth_at S2 hdo hT W kk)
    obtain⟨p,hp⟩:∃ p,p=dq.length:=⟨_,rfl⟩
    rw[← hp] at e2 TA
    rw[hT] at hst
    have ST:=Lib.hid hst
    have hqn:q<nd:=by have:=HND.out; omega
    have HC:=Lib.hid (fun W (kk:Since wr W)=>(show W.cell? ⟨g,o+k,none⟩=some (.int .i64 (q:Int))∧W.cell? ⟨g2,o2+q,none⟩=some (.slice B2 p d2) from⟨(kk.cell _ (World.block_lt_of_cell? _ _ e0)).trans e0,(kk.cell _ (World.block_lt_of_cell? _ _ e2)).trans e2⟩))
    obtain⟨b0,b1,b2,b3⟩:=bx4 (BX.out _ HW.out)
    clear hst hkl HE hin hq S2 hdo hT hp e0 e2
    cases T with
    | true =>
     have HE:=Lib.hid (show (x.drop (k+1)).all (fun y=>tru (domAt ds y))=R by have:=ST.out; rw[Bool.true_and] at this; exact this)
     clear ST
     go_wp2
     have hr0:Since wr wr.drew:=Since.drew (Since.refl wr)
     refine wp_region_noPanic ?_
     refine Reg.wp_region_G (S:=fun _=>True) (fun j => [].contains j) (by kernel_rfl) trivial ?_
     refine' Reg.tk3 (i := 0) (v := _) (some 12) [1, 6, 7, 8, 9] [] rfl (Or.inl ⟨by rfl, Or.inl ?hy2⟩) ?r_2
     case hy2=>(intro w' kk ss; obtain⟨x0,x1,x2,x3⟩:=bx4 (BX.out _ (HW.out.trans (hr0.trans kk))); obtain⟨u0,u1⟩:=HC.out _ (hr0.trans kk); go_simp; first | done | with_reducible rfl)
     try simp only[Act.put,Reg.l1,Reg.l2,Reg.l3]
     refine' Reg.tk3 (i := 1) (v := _) (some 13) [6, 7, 8, 9] [] rfl (Or.inl ⟨by rfl, Or.inl ?hy3⟩) ?r_3
     case hy3=>(intro w' kk ss; obtain⟨x0,x1,x2,x3⟩:=bx4 (BX.out _ (HW.out.trans (hr0.trans kk))); obtain⟨u0,u1⟩:=HC.out _ (hr0.trans kk); go_simp; first | done | with_reducible rfl)
     try simp only[Act.put,Reg.l1,Reg.l2,Reg.l3]
     refine' Reg.tk3 (i := 2) (v := _) (some 14) [4, 5, 6, 7, 8, 9] [] rfl (Or.inl ⟨by rfl, Or.inl ?hy4⟩) ?r_4
     case hy4=>(intro w' kk ss; obtain⟨x0,x1,x2,x3⟩:=bx4 (BX.out _ (HW.out.trans (hr0.trans kk))); obtain⟨u0,u1⟩:=HC.out _ (hr0.trans kk); go_simp; first | done | with_reducible rfl)
     try simp only[Act.put,Reg.l1,Reg.l2,Reg.l3]
     refine' Reg.tk3 (i := 3) (v := _) (some 15) [4, 5, 6, 7, 8, 9] [] rfl (Or.inl ⟨by rfl, Or.inl ?hy5⟩) ?r_5
     case hy5=>(intro w' kk ss; obtain⟨x0,x1,x2,x3⟩:=bx4 (BX.out _ (HW.out.trans (hr0.trans kk))); obtain⟨u0,u1⟩:=HC.out _ (hr0.trans kk); go_simp; first | done | with_reducible rfl)
     try simp only[Act.put,Reg.l1,Reg.l2,Reg.l3]
     refine' Reg.tk3 (i := 4) (v := _) (some 16) [5, 6, 7, 8, 9] [] rfl (Or.inl ⟨by rfl, Or.inl ?hy6⟩) ?r_6
     case hy6=>(intro w' kk ss; obtain⟨x0,x1,x2,x3⟩:=bx4 (BX.out _ (HW.out.trans (hr0.trans kk))); obtain⟨u0,u1⟩:=HC.out _ (hr0.trans kk); go_simp; first | done | with_reducible rfl)
     try simp only[Act.put,Reg.l1,Reg.l2,Reg.l3]
     refine' Reg.tk3 (i := 5) (v := _) (some 17) [6, 7, 8, 9] [] rfl (Or.inl ⟨by rfl, Or.inl ?hy7⟩) ?r_7
     case hy7=>(intro w' kk ss; obtain⟨x0,x1,x2,x3⟩:=bx4 (BX.out _ (HW.out.trans (hr0.trans kk))); obtain⟨u0,u1⟩:=HC.out _ (hr0.trans kk); go_simp; first | done | with_reducible rfl)
     try simp only[Act.put,Reg.l1,Reg.l2,Reg.l3]
     refine' Reg.tk3 (i := 6) (v := _) (some 18) [7, 8, 9] [] rfl (Or.inl ⟨by rfl, Or.inl ?hy8⟩) ?r_8
     case hy8=>(intro w' kk ss; obtain⟨x0,x1,x2,x3⟩:=bx4 (BX.out _ (HW.out.trans (hr0.trans kk))); obtain⟨u0,u1⟩:=HC.out _ (hr0.trans kk); go_simp; first | done | with_reducible rfl)
     try simp only[Act.put,Reg.l1,Reg.l2,Reg.l3]
     refine' Reg.tk3 (i := 7) (v := _) (some 19) [8, 9] [] rfl (Or.inl ⟨by rfl, Or.inl ?hy9⟩) ?r_9
     case hy9=>(intro w' kk ss; obtain⟨x0,x1,x2,x3⟩:=bx4 (BX.out _ (HW.out.trans (hr0.trans kk))); obtain⟨u0,u1⟩:=HC.out _ (hr0.trans kk); go_simp; first | done | with_reducible rfl)
     try simp only[Act.put,Reg.l1,Reg.l2,Reg.l3]
     refine Reg.tk3 (i := 8) (v := .bool true) (some 20) [9] [] rfl (Or.inl ⟨by rfl, Or.inr ⟨196, #[.slice B2 p d2], fun w' kk ss => ⟨?_, ?_⟩⟩⟩) ?_
     · (try dsimp only at ss); go_simp
     · exact TA.out w' (hr0.trans kk)
     try simp only[Act.put,Reg.l1,Reg.l2,Reg.l3]
     refine' Reg.tk3 (i := 9) (v := _) (some 21) [] [] rfl (Or.inl ⟨by rfl, Or.inl ?hy10⟩) ?r_10
     case hy10=>(intro w' kk ss; obtain⟨x0,x1,x2,x3⟩:=bx4 (BX.out _ (HW.out.trans (hr0.trans kk))); obtain⟨u0,u1⟩:=HC.out _ (hr0.trans kk); go_simp; first | done | with_reducible rfl)
     try simp only[Act.put,Reg.l1,Reg.l2,Reg.l3]
     refine Reg.wpG_done (by kernel_rfl) (fun we ke se => ?_) _
     refine NoPanic.normal ?_
     have hr0:=hr0.trans ke
     clear ke
     go_wp2
     go_roundw
     case rel=>exact⟨k+1,by go_num,by omega,HE.out,HW.out.trans hr0⟩
     case measure=>simp[intOf]; omega
    | false =>
     have HE:=Lib.hid (show false=R by have:=ST.out; rw[Bool.false_and] at this; exact this)
     clear ST
     go_wp2
     have hr0:Since wr wr.drew:=Since.drew (Since.refl wr)
     refine wp_region_noPanic ?_
     refine Reg.wp_region_G (S:=fun _=>True) (fun j => [].contains j) (by kernel_rfl) trivial ?_
     refine' Reg.tk3 (i := 0) (v := _) (some 12) [1, 6, 7, 8, 9] [] rfl (Or.inl ⟨by rfl, Or.inl ?hy12⟩) ?r_12
     case hy12=>(intro w' kk ss; obtain⟨x0,x1,x2,x3⟩:=bx4 (BX.out _ (HW.out.trans (hr0.trans kk))); obtain⟨u0,u1⟩:=HC.out _ (hr0.trans kk); go_simp; first | done | with_reducible rfl)
     try simp only[Act.put,Reg.l1,Reg.l2,Reg.l3]
     refine' Reg.tk3 (i := 1) (v := _) (some 13) [6, 7, 8, 9] [] rfl (Or.inl ⟨by rfl, Or.inl ?hy13⟩) ?r_13
     case hy13=>(intro w' kk ss; obtain⟨x0,x1,x2,x3⟩:=bx4 (BX.out _ (HW.out.trans (hr0.trans kk))); obtain⟨u0,u1⟩:=HC.out _ (hr0.trans kk); go_simp; first | done | with_reducible rfl)
     try simp only[Act.put,Reg.l1,Reg.l2,Reg.l3]
     refine' Reg.tk3 (i := 2) (v := _) (some 14) [4, 5, 6, 7, 8, 9] [] rfl (Or.inl ⟨by rfl, Or.inl ?hy14⟩) ?r_14
     case hy14=>(intro w' kk ss; obtain⟨x0,x1,x2,x3⟩:=bx4 (BX.out _ (HW.out.trans (hr0.trans kk))); obtain⟨u0,u1⟩:=HC.out _ (hr0.trans kk); go_simp; first | done | with_reducible rfl)
     try simp only[Act.put,Reg.l1,Reg.l2,Reg.l3]
     refine' Reg.tk3 (i := 3) (v := _) (some 15) [4, 5, 6, 7, 8, 9] [] rfl (Or.inl ⟨by rfl, Or.inl ?hy15⟩) ?r_15
     case hy15=>(intro w' kk ss; obtain⟨x0,x1,x2,x3⟩:=bx4 (BX.out _ (HW.out.trans (hr0.trans kk))); obtain⟨u0,u1⟩:=HC.out _ (hr0.trans kk); go_simp; first | done | with_reducible rfl)
     try simp only[Act.put,Reg.l1,Reg.l2,Reg.l3]
     refine' Reg.tk3 (i := 4) (v := _) (some 16) [5, 6, 7, 8, 9] [] rfl (Or.inl ⟨by rfl, Or.inl ?hy16⟩) ?r_16
     case hy16=>(intro w' kk ss; obtain⟨x0,x1,x2,x3⟩:=bx4 (BX.out _ (HW.out.trans (hr0.trans kk))); obtain⟨u0,u1⟩:=HC.out _ (hr0.trans kk); go_simp; first | done | with_reducible rfl)
     try simp only[Act.put,Reg.l1,Reg.l2,Reg.l3]
     refine' Reg.tk3 (i := 5) (v := _) (some 17) [6, 7, 8, 9] [] rfl (Or.inl ⟨by rfl, Or.inl ?hy17⟩) ?r_17
     case hy17=>(intro w' kk ss; obtain⟨x0,x1,x2,x3⟩:=bx4 (BX.out _ (HW.out.trans (hr0.trans kk))); obtain⟨u0,u1⟩:=HC.out _ (hr0.trans kk); go_simp; first | done | with_reducible rfl)
     try simp only[Act.put,Reg.l1,Reg.l2,Reg.l3]
     refine' Reg.tk3 (i := 6) (v := _) (some 18) [7, 8, 9] [] rfl (Or.inl ⟨by rfl, Or.inl ?hy18⟩) ?r_18
     case hy18=>(intro w' kk ss; obtain⟨x0,x1,x2,x3⟩:=bx4 (BX.out _ (HW.out.trans (hr0.trans kk))); obtain⟨u0,u1⟩:=HC.out _ (hr0.trans kk); go_simp; first | done | with_reducible rfl)
     try simp only[Act.put,Reg.l1,Reg.l2,Reg.l3]
     refine' Reg.tk3 (i := 7) (v := _) (some 19) [8, 9] [] rfl (Or.inl ⟨by rfl, Or.inl ?hy19⟩) ?r_19
     case hy19=>(intro w' kk ss; obtain⟨x0,x1,x2,x3⟩:=bx4 (BX.out _ (HW.out.trans (hr0.trans kk))); obtain⟨u0,u1⟩:=HC.out _ (hr0.trans kk); go_simp; first | done | with_reducible rfl)
     try simp only[Act.put,Reg.l1,Reg.l2,Reg.l3]
     refine Reg.tk3 (i := 8) (v := .bool false) (some 20) [9] [] rfl (Or.inl ⟨by rfl, Or.inr ⟨196, #[.slice B2 p d2], fun w' kk ss => ⟨?_, ?_⟩⟩⟩) ?_
     · (try dsimp only at ss); go_simp
     · exact TA.out w' (hr0.trans kk)
     try simp only[Act.put,Reg.l1,Reg.l2,Reg.l3]
     refine' Reg.tk3 (i := 9) (v := _) (some 21) [] [] rfl (Or.inl ⟨by rfl, Or.inl ?hy20⟩) ?r_20
     case hy20=>(intro w' kk ss; obtain⟨x0,x1,x2,x3⟩:=bx4 (BX.out _ (HW.out.trans (hr0.trans kk))); obtain⟨u0,u1⟩:=HC.out _ (hr0.trans kk); go_simp; first | done | with_reducible rfl)
     try simp only[Act.put,Reg.l1,Reg.l2,Reg.l3]
     refine Reg.wpG_done (by kernel_rfl) (fun we ke se => ?_) _
     refine NoPanic.normal ?_
     have hr0:=hr0.trans ke
     clear ke
     go_wp2
     go_ret
     exact .of HE.out (ka.out.trans (HW.out.trans hr0))
  · obtain rfl:k=n:=by omega
    have HE2:=Lib.hid (show true=R by rw[← HE.out,List.drop_of_length_le (by have:=HN.out; omega)]; rfl)
    go_wp2
    go_ret
    exact .of HE2.out (ka.out.trans HW.out)
section
open Go.RowKit
set_option linter.unusedVariables false
set_option linter.unusedSimpArgs false
open Dig Lx Tk Ti Zs Tr
theorem sgn_free {k:Int} (h:k≠11) (h2:k≠19) (a:List Int) (c:Int):sgn k a c=true:=by
 have e:a.all (okE k)=true:=List.all_eq_true.2 fun n _=>by simp[okE,h,h2]
 rw[sgn,e]; simp[h2]
theorem sgn_11 (a:List Int) (c:Int):sgn 11 a c=a.all sg1:=by
 have e:okE 11=sg1:=by
  funext n
  by_cases h1:n=1
  · subst h1; rfl
  · by_cases h2:n = -1
    · subst h2; rfl
    · simp[okE,sg1,h1,h2]
 rw[sgn,e]; simp
theorem sgn_19 (a:List Int) (c:Int):sgn 19 a c=(a.all nn0 && decide (0≤c)):=by
 have e:okE 19=nn0:=by
  funext n
  by_cases h1:n<0
  · have h2:¬ (0≤n):=by omega
    simp[okE,nn0,h1,h2]
  · have h2:0≤n:=by omega
    simp[okE,nn0,h1,h2]
 rw[sgn,e]; simp
theorem rshape_any (k:Int) (X:Option Addr) (n xc:Nat) (Y:Option Addr) (m yc:Nat) (a:List Int) (c:Int) (w:World) (h:Sl 1 QI w (.slice Y m yc) a) (hn:n≤1100000) (hm:m≤1100000) :
 Calls Try.prog 194 #[.agg #[.int .i64 k,.slice X n xc,.slice Y m yc,.int .i64 c]] w (RetT (shp k n m && sgn k a c) w):=by
 have hma:=h.at_.1
 have SA:=Lib.hid (fun b (hb:a.all sg1=b) W (kk:Since w W)=>by have:=rsigns_any _ a W (h.since stI kk) (by omega); rw[hb] at this; exact this)
 have NA:=Lib.hid (fun b (hb:a.all nn0=b) W (kk:Since w W)=>by have:=rnone_any _ a W (h.since stI kk) (by omega); rw[hb] at this; exact this)
 clear hma h
 have ka:=Lib.hid (since_alloc w (.cells #[.int .i64 k,.slice X n xc,.slice Y m yc,.int .i64 c] 25))
 have kd:=Lib.hid (Since.drew ka.out)
 have BX:=Lib.hid (fun W (kk:Since (w.alloc (.cells #[.int .i64 k,.slice X n xc,.slice Y m yc,.int .i64 c] 25)).drew W)=>(Bx.fresh w #[.int .i64 k,.slice X n xc,.slice Y m yc,.int .i64 c] 25).since ((Since.drew (Since.refl _)).trans kk))
 by_cases k11:k=11
 · subst k11
   obtain⟨S,hS⟩:∃ S,a.all sg1=S:=⟨_,rfl⟩
   have SB:=Lib.hid (SA.out S hS)
   rw[sgn_11,hS]
   clear SA NA hS
   by_cases e:n=m
   · rw[show shp 11 n m=true from decide_eq_true e,Bool.true_and]
     have z:((n:Int) == (m:Int))=true:=by rw[beq_iff_eq]; omega
     clear e
     go_enter Try.func194,Try.ntmps194
     go_wp2
     go_region
     all_goals go_wp2_with (go_at_call 226; (first | (with_reducible refine (SB.out _ ka.out).mono ?_) | (with_reducible refine (SB.out _ kd.out).mono ?_)); rintro e w1 ⟨rfl,k1⟩)
     all_goals go_ret
     all_goals exact⟨rfl,by first | exact ka.out.trans k1 | exact kd.out.trans k1⟩
   · rw[show shp 11 n m=false from decide_eq_false e,Bool.false_and]
     have z:((n:Int) == (m:Int))=false:=by rw[beq_eq_false_iff_ne]; omega
     clear e
     go_enter Try.func194,Try.ntmps194
     go_wp2
     go_region
     all_goals go_wp2
     all_goals go_ret
     all_goals exact⟨rfl,by first | exact ka.out | exact kd.out⟩
 by_cases k19:k=19
 · subst k19
   obtain⟨S,hS⟩:∃ S,a.all nn0=S:=⟨_,rfl⟩
   have SB:=Lib.hid (NA.out S hS)
   rw[sgn_19,hS]
   clear SA NA hS
   by_cases e:m=2*n
   · rw[show shp 19 n m=true from decide_eq_true e,Bool.true_and]
     have z:((m:Int) == 2*(n:Int))=true:=by rw[beq_iff_eq]; omega
     clear e
     cases S with
     | false =>
      go_enter Try.func194,Try.ntmps194
      go_wp2
      go_region
      all_goals go_wp2_with (go_at_call 227; (first | (with_reducible refine (SB.out _ ka.out).mono ?_) | (with_reducible refine (SB.out _ kd.out).mono ?_)); rintro e w1 ⟨rfl,k1⟩)
      all_goals go_ret
      all_goals exact⟨rfl,by first | exact ka.out.trans k1 | exact kd.out.trans k1⟩
     | true =>
      by_cases c0:c ≥ 0
      · have hz:decide (0≤c)=true:=decide_eq_true c0
        rw[hz]
        go_enter Try.func194,Try.ntmps194
        go_wp2
        go_region
        all_goals go_wp2_with (go_at_call 227; (first | (with_reducible refine (SB.out _ ka.out).mono ?_) | (with_reducible refine (SB.out _ kd.out).mono ?_)); rintro e w1 ⟨rfl,k1⟩; obtain⟨b0,b1,b2,b3⟩:=bx4 (BX.out _ k1))
        all_goals go_ret
        all_goals exact⟨rfl,by first | exact ka.out.trans k1 | exact kd.out.trans k1⟩
      · have hz:decide (0≤c)=false:=decide_eq_false c0
        rw[hz]
        go_enter Try.func194,Try.ntmps194
        go_wp2
        go_region
        all_goals go_wp2_with (go_at_call 227; (first | (with_reducible refine (SB.out _ ka.out).mono ?_) | (with_reducible refine (SB.out _ kd.out).mono ?_)); rintro e w1 ⟨rfl,k1⟩; obtain⟨b0,b1,b2,b3⟩:=bx4 (BX.out _ k1))
        all_goals go_ret
        all_goals exact⟨rfl,by first | exact ka.out.trans k1 | exact kd.out.trans k1⟩
   · rw[show shp 19 n m=false from decide_eq_false e,Bool.false_and]
     have z:((m:Int) == 2*(n:Int))=false:=by rw[beq_eq_false_iff_ne]; omega
     clear e
     go_enter Try.func194,Try.ntmps194
     go_wp2
     go_region
     all_goals go_wp2
     all_goals go_ret
     all_goals exact⟨rfl,by first | exact ka.out | exact kd.out⟩
 rw[sgn_free k11 k19,Bool.and_true]
 clear SA NA
 rcases kd_or k with hk | hk
 · cases hk
   all_goals first | exact absurd rfl k11 | exact absurd rfl k19 | skip
   all_goals clear k11 k19
   all_goals go_enter Try.func194,Try.ntmps194
   all_goals go_wp2
   all_goals go_region
   all_goals go_wp2
   all_goals go_ret
   all_goals refine RetT.of ?_ (by first | exact ka.out | exact kd.out)
   all_goals (rw[Bool.eq_iff_iff]; simp[shp]; try omega)
 · rw[shp_out hk]
   have ne:=ne_lit hk
   have n1:=ne 1 (by decide) (by decide)
   have n2:=ne 2 (by decide) (by decide)
   have n3:=ne 3 (by decide) (by decide)
   have n4:=ne 4 (by decide) (by decide)
   have n5:=ne 5 (by decide) (by decide)
   have n6:=ne 6 (by decide) (by decide)
   have n7:=ne 7 (by decide) (by decide)
   have n8:=ne 8 (by decide) (by decide)
   have n9:=ne 9 (by decide) (by decide)
   have n10:=ne 10 (by decide) (by decide)
   have n11:=ne 11 (by decide) (by decide)
   have n12:=ne 12 (by decide) (by decide)
   have n13:=ne 13 (by decide) (by decide)
   have n14:=ne 14 (by decide) (by decide)
   have n15:=ne 15 (by decide) (by decide)
   have n16:=ne 16 (by decide) (by decide)
   have n17:=ne 17 (by decide) (by decide)
   have n18:=ne 18 (by decide) (by decide)
   have n19:=ne 19 (by decide) (by decide)
   clear ne hk k11 k19
   go_enter Try.func194,Try.ntmps194
   go_wp2
   go_region
   all_goals go_wp2
   all_goals go_ret
   all_goals exact⟨rfl,by first | exact ka.out | exact kd.out⟩
end
section
open Go.RowKit
set_option linter.unusedVariables false
set_option linter.unusedSimpArgs false
open Dig Lx Tk Ti Zs Tr
def lastK (v:List Int):Int:=v.getD (v.length - 1) 0
theorem tail_one {x:List Int} {j:Nat} (h:x.length=j+1):x.drop (x.length - 1) = [lastK x]:=by
 have hj:j<x.length:=by omega
 rw[show x.length - 1=j by omega,List.drop_eq_getElem_cons hj,List.drop_of_length_le (by omega)]
 have:lastK x=x[j]:=by
  rw[lastK,show x.length - 1=j by omega]; simp[List.getD,hj]
 rw[this]
theorem lastK_at {w:World} {A:Option Addr} {c j:Nat} {l:List Int} (h:Sl 1 QI w (.slice A (j+1) c) l):∃ b o,A=some ⟨b,o,none⟩∧w.cell? ⟨b,o+j,none⟩=some (.int .i64 (lastK l)):=by
 have e:=h.at_.1
 obtain⟨b,o,h1,h2⟩:=elI h (i:=j) (by omega)
 have el:lastK l=l[j]:=by
  have:l.length - 1=j:=by omega
  rw[lastK,this]; simp[List.getD,show j<l.length by omega]
 exact⟨b,o,h1,by rw[el]; exact h2⟩
theorem rcon_any (v vc:Value) (m:Md) (c:Cn) (w:World) (h:ModAt w v m) (hc:ConAt w vc c) (hok:∀ d ∈ m.ds,d.length≤1100000) (hx:c.x.length≤1100000) (ha:c.a.length≤1100000) (hdl:m.ds.length≤1100000) :
 Calls Try.prog 141 #[v,vc] w (RetT (conOk m.ds c) w):=by
 have TS:=Lib.hid (fun vx x W (kk:Since w W) hX hin hl=>rtruths_any v vx m x W (h.since kk) hX hin hok hl)
 obtain⟨vd,vcs,rfl,h1,h2⟩:=h
 obtain⟨vx,va,rfl,h3,h4⟩:=hc
 obtain⟨ck,cx,ca,cc⟩:=c
 obtain⟨ds,cs,ask,goal⟩:=m
 simp only at h1 h2 h3 h4 hx ha hok hdl TS ⊢
 obtain⟨D,dc,rfl⟩:=h1.form
 obtain⟨C,cc',rfl⟩:=h2.form
 obtain⟨X,xc,rfl⟩:=h3.form
 obtain⟨Y,yc,rfl⟩:=h4.form
 obtain⟨nd,hnd⟩:∃ n,n=ds.length:=⟨_,rfl⟩
 obtain⟨nx,hnx⟩:∃ n,n=cx.length:=⟨_,rfl⟩
 obtain⟨na,hna⟩:∃ n,n=ca.length:=⟨_,rfl⟩
 generalize cs.length=nc at *
 obtain⟨R,hR⟩:∃ R,R=conOk ds ⟨ck,cx,ca,cc⟩:=⟨_,rfl⟩
 obtain⟨BO,hBO⟩:∃ BO,BO=(bools ck cx).all (fun x=>tru (domAt ds x)):=⟨_,rfl⟩
 have HR:=Lib.hid (show ((shp ck nx na && sgn ck ca cc) && decide (nx≤32) && ca.all within && within cc && (decide (cc=0) || tak ck) && cx.all (isV nd) && BO)=R by rw[hR,hnx,hnd,hna,hBO]; rfl)
 rw[← hR]
 clear hR
 rw[← hnd] at h1 hdl TS ⊢
 rw[← hnx] at h3 hx ⊢
 rw[← hna] at h4 ha ⊢
 have H1:=Lib.hid h1
 have H3:=Lib.hid h3
 have H4:=Lib.hid h4
 have HND:=Lib.hid hnd
 have HNX:=Lib.hid hnx
 have HNA:=Lib.hid hna
 have HBO:=Lib.hid hBO
 have HOK:=Lib.hid hok
 have SH:=Lib.hid (fun b (hb:(shp ck nx na && sgn ck ca cc)=b) W (kk:Since w W)=>by have:=rshape_any ck X nx xc Y na yc ca cc W (h4.since stI kk) hx ha; rw[hb] at this; exact this)
 have WI:=Lib.hid (fun (y:Int) b (hb:within y=b) W=>by have:=Zs.within_any y W; rw[hb] at this; exact this)
 have NM:=Lib.hid (fun b (hb:tak ck=b) W=>by have:=rnamed_any ck W; rw[hb] at this; exact this)
 have ka:=Lib.hid (show Since w ((w.alloc (.cells #[.slice D nd dc,.slice C nc cc',.int .i64 ask,.int .i64 goal] 79)).alloc (.cells #[.int .i64 ck,.slice X nx xc,.slice Y na yc,.int .i64 cc] 25)) from ((Since.refl w).alloc _).alloc _)
 have BM:=Lib.hid (fun W (kk:Since ((w.alloc (.cells #[.slice D nd dc,.slice C nc cc',.int .i64 ask,.int .i64 goal] 79)).alloc (.cells #[.int .i64 ck,.slice X nx xc,.slice Y na yc,.int .i64 cc] 25)) W)=>(show Bx W w.heap.size #[.slice D nd dc,.slice C nc cc',.int .i64 ask,.int .i64 goal] 79 from ((Bx.fresh w #[.slice D nd dc,.slice C nc cc',.int .i64 ask,.int .i64 goal] 79).since (since_alloc _ _)).since kk))
 have BC:=Lib.hid (fun W (kk:Since ((w.alloc (.cells #[.slice D nd dc,.slice C nc cc',.int .i64 ask,.int .i64 goal] 79)).alloc (.cells #[.int .i64 ck,.slice X nx xc,.slice Y na yc,.int .i64 cc] 25)) W)=>(show Bx W (w.heap.size+1) #[.int .i64 ck,.slice X nx xc,.slice Y na yc,.int .i64 cc] 25 from (show Bx ((w.alloc (.cells #[.slice D nd dc,.slice C nc cc',.int .i64 ask,.int .i64 goal] 79)).alloc (.cells #[.int .i64 ck,.slice X nx xc,.slice Y na yc,.int .i64 cc] 25)) (w.heap.size+1) #[.int .i64 ck,.slice X nx xc,.slice Y na yc,.int .i64 cc] 25 from Bx.new (Since.refl _) (by simp)).since kk))
 have t0:=Lib.hid (Since.refl ((w.alloc (.cells #[.slice D nd dc,.slice C nc cc',.int .i64 ask,.int .i64 goal] 79)).alloc (.cells #[.int .i64 ck,.slice X nx xc,.slice Y na yc,.int .i64 cc] 25)))
 clear h1 h2 h3 h4 hnd hnx hna hBO hok
 cases q1:(shp ck nx na && sgn ck ca cc) with
 | false =>
  have D1:=Lib.hid (SH.out false q1)
  have E:=Lib.hid (show false=R by rw[← HR.out,q1]; simp)
  clear HR
  go_enter Try.func141,Try.ntmps141
  go_wp2_with (first | (go_at_call 194; (with_reducible refine (D1.out _ ka.out).mono ?_); rintro e w1 ⟨rfl,k1⟩; have t1:=Lib.hid k1; clear k1; obtain⟨b0,b1,b2,b3⟩:=bx4 (BC.out _ t1.out); obtain⟨m0,m1,m2,m3⟩:=bx4 (BM.out _ t1.out)))
  go_ret
  exact .of E.out (ka.out.trans t1.out)
 | true =>
  have D1:=Lib.hid (SH.out true q1)
  by_cases q3:nx≤32
  case neg =>
   have E:=Lib.hid (show false=R by rw[← HR.out,decide_eq_false q3]; simp)
   clear HR
   go_enter Try.func141,Try.ntmps141
   go_wp2_with (first | (go_at_call 194; (with_reducible refine (D1.out _ ka.out).mono ?_); rintro e w1 ⟨rfl,k1⟩; have t1:=Lib.hid k1; clear k1; obtain⟨b0,b1,b2,b3⟩:=bx4 (BC.out _ t1.out); obtain⟨m0,m1,m2,m3⟩:=bx4 (BM.out _ t1.out)))
   go_ret
   exact .of E.out (ka.out.trans t1.out)
  cases q5:within cc with
  | false =>
   have D5:=Lib.hid (WI.out cc false q5)
   have E:=Lib.hid (show false=R by rw[← HR.out,q5]; simp)
   clear HR
   go_enter Try.func141,Try.ntmps141
   go_wp2_with (first | (go_at_call 194; (with_reducible refine (D1.out _ ka.out).mono ?_); rintro e w1 ⟨rfl,k1⟩; have t1:=Lib.hid k1; clear k1; obtain⟨b0,b1,b2,b3⟩:=bx4 (BC.out _ t1.out); obtain⟨m0,m1,m2,m3⟩:=bx4 (BM.out _ t1.out)) | (go_at_call 136; (with_reducible refine (D5.out _).mono ?_); rintro e w5 ⟨rfl,rfl⟩))
   go_ret
   exact .of E.out (ka.out.trans t1.out)
  | true =>
   have D5:=Lib.hid (WI.out cc true q5)
   by_cases z0:cc=0
   · have z1:(cc != 0)=false:=by rw[bne_eq_false_iff_eq]; exact z0
     have HR2:=Lib.hid (show (ca.all within && cx.all (isV nd) && BO)=R by rw[← HR.out,q1,q5,decide_eq_true q3,decide_eq_true z0]; simp)
     clear z0 HR
     have hs1:shp ck nx na=true:=by rw[Bool.and_eq_true] at q1; exact q1.1
     have HS1:=Lib.hid hs1
     clear q1 q5 hs1 SH NM
     go_enter Try.func141,Try.ntmps141
     go_wp2_with (first | (go_at_call 194; (with_reducible refine (D1.out _ ka.out).mono ?_); rintro e w1 ⟨rfl,k1⟩; have t1:=Lib.hid k1; clear k1; obtain⟨b0,b1,b2,b3⟩:=bx4 (BC.out _ t1.out); obtain⟨m0,m1,m2,m3⟩:=bx4 (BM.out _ t1.out)) | (go_at_call 136; (with_reducible refine (D5.out _).mono ?_); rintro e w5 ⟨rfl,rfl⟩))
     go_loopw [5] (fun i wr=>∃ k:Nat,i = .int .i64 (k:Int)∧k≤nx∧Hid (cx.all (isV nd)=(cx.drop k).all (isV nd))∧Hid (Since ((w.alloc (.cells #[.slice D nd dc,.slice C nc cc',.int .i64 ask,.int .i64 goal] 79)).alloc (.cells #[.int .i64 ck,.slice X nx xc,.slice Y na yc,.int .i64 cc] 25)) wr)) (fun i _=>nx - (intOf i).toNat)
     case atStart=>exact⟨0,rfl,Nat.zero_le _,rfl,t1.out⟩
     case round =>
      obtain⟨k,rfl,hk,HA,HW⟩:=hrel
      obtain⟨b0,b1,b2,b3⟩:=bx4 (BC.out _ HW.out)
      by_cases hkn:k<nx
      · have hkl:k<cx.length:=by have:=HNX.out; omega
        obtain⟨g,o,rfl,e0⟩:=elI (H3.out.since stI (ka.out.trans HW.out)) hkl
        have hsa:=HA.out
        rw[dropI hkl,List.all_cons] at hsa
        generalize cx[k]=y at *
        have SA:=Lib.hid hsa
        have HC:=Lib.hid (fun W (kk:Since wr W)=>(kk.cell _ (World.block_lt_of_cell? _ _ e0)).trans e0)
        clear hsa hkl HA e0
        by_cases y0:y<0
        · have E:=Lib.hid (show false=R by rw[← HR2.out,SA.out,show isV nd y=false by simp only[isV,Bool.and_eq_false_iff,decide_eq_false_iff_not]; omega]; simp)
          clear HR2 SA
          go_wp2
          have hr0:Since wr wr.drew:=Since.drew (Since.refl wr)
          refine wp_region_noPanic ?_
          refine Reg.wp_region_G (S:=fun _=>True) (fun j => [].contains j) (by kernel_rfl) trivial ?_
          refine' Reg.tk3 (i := 0) (v := _) (some 40) [1, 3, 4, 5, 6, 7, 8, 9, 10, 11, 12, 13, 14, 15, 16] [] rfl (Or.inl ⟨by rfl, Or.inl ?hy2⟩) ?r_2
          case hy2=>(intro w' kk ss; obtain⟨x0,x1,x2,x3⟩:=bx4 (BC.out _ (HW.out.trans (hr0.trans kk))); obtain⟨p0,p1,p2,p3⟩:=bx4 (BM.out _ (HW.out.trans (hr0.trans kk))); have u0:=HC.out _ (hr0.trans kk); go_simp; first | done | with_reducible rfl)
          try simp only[Act.put,Reg.l1,Reg.l2,Reg.l3]
          refine' Reg.tk3 (i := 1) (v := _) (some 41) [3, 4, 5, 6, 7, 8, 9, 10, 11, 12, 13, 14, 15, 16] [] rfl (Or.inl ⟨by rfl, Or.inl ?hy3⟩) ?r_3
          case hy3=>(intro w' kk ss; obtain⟨x0,x1,x2,x3⟩:=bx4 (BC.out _ (HW.out.trans (hr0.trans kk))); obtain⟨p0,p1,p2,p3⟩:=bx4 (BM.out _ (HW.out.trans (hr0.trans kk))); have u0:=HC.out _ (hr0.trans kk); go_simp; first | done | with_reducible rfl)
          try simp only[Act.put,Reg.l1,Reg.l2,Reg.l3]
          refine' Reg.tk3 (i := 2) (v := _) (some 42) [3, 4, 5, 6, 7, 8, 9, 10, 11, 12, 13, 14, 15, 16] [] rfl (Or.inl ⟨by rfl, Or.inl ?hy4⟩) ?r_4
          case hy4=>(intro w' kk ss; obtain⟨x0,x1,x2,x3⟩:=bx4 (BC.out _ (HW.out.trans (hr0.trans kk))); obtain⟨p0,p1,p2,p3⟩:=bx4 (BM.out _ (HW.out.trans (hr0.trans kk))); have u0:=HC.out _ (hr0.trans kk); go_simp; first | done | with_reducible rfl)
          try simp only[Act.put,Reg.l1,Reg.l2,Reg.l3]
          refine' Reg.tk3 (i := 3) (v := _) (some 43) [4, 5, 6, 7, 8, 9, 10, 11, 12, 13, 14, 15, 16] [] rfl (Or.inl ⟨by rfl, Or.inl ?hy5⟩) ?r_5
          case hy5=>(intro w' kk ss; obtain⟨x0,x1,x2,x3⟩:=bx4 (BC.out _ (HW.out.trans (hr0.trans kk))); obtain⟨p0,p1,p2,p3⟩:=bx4 (BM.out _ (HW.out.trans (hr0.trans kk))); have u0:=HC.out _ (hr0.trans kk); go_simp; first | done | with_reducible rfl)
          try simp only[Act.put,Reg.l1,Reg.l2,Reg.l3]
          refine' Reg.tk3 (i := 4) (v := _) (some 44) [5, 6, 7, 8, 9, 10, 11, 12, 13, 14, 15, 16] [] rfl (Or.inl ⟨by rfl, Or.inl ?hy6⟩) ?r_6
          case hy6=>(intro w' kk ss; obtain⟨x0,x1,x2,x3⟩:=bx4 (BC.out _ (HW.out.trans (hr0.trans kk))); obtain⟨p0,p1,p2,p3⟩:=bx4 (BM.out _ (HW.out.trans (hr0.trans kk))); have u0:=HC.out _ (hr0.trans kk); go_simp; first | done | with_reducible rfl)
          try simp only[Act.put,Reg.l1,Reg.l2,Reg.l3]
          refine' Reg.tk3 (i := 5) (v := _) (some 45) [6, 7, 8, 9, 10, 11, 12, 13, 14, 15, 16] [] rfl (Or.inl ⟨by rfl, Or.inl ?hy7⟩) ?r_7
          case hy7=>(intro w' kk ss; obtain⟨x0,x1,x2,x3⟩:=bx4 (BC.out _ (HW.out.trans (hr0.trans kk))); obtain⟨p0,p1,p2,p3⟩:=bx4 (BM.out _ (HW.out.trans (hr0.trans kk))); have u0:=HC.out _ (hr0.trans kk); go_simp; first | done | with_reducible rfl)
          try simp only[Act.put,Reg.l1,Reg.l2,Reg.l3]
          refine' Reg.tk3 (i := 6) (v := _) (some 46) [7, 8, 9, 10, 11, 12, 13, 14, 15, 16] [] rfl (Or.inl ⟨by rfl, Or.inl ?hy8⟩) ?r_8
          case hy8=>(intro w' kk ss; obtain⟨x0,x1,x2,x3⟩:=bx4 (BC.out _ (HW.out.trans (hr0.trans kk))); obtain⟨p0,p1,p2,p3⟩:=bx4 (BM.out _ (HW.out.trans (hr0.trans kk))); have u0:=HC.out _ (hr0.trans kk); go_simp; first | done | with_reducible rfl)
          try simp only[Act.put,Reg.l1,Reg.l2,Reg.l3]
          refine Reg.tk3 (i := 7) (v := undef) (some 47) [8, 10, 11, 15, 16] [] rfl (Or.inr ⟨by rfl, rfl⟩) ?_
          try simp only[Act.put,Reg.l1,Reg.l2,Reg.l3]
          refine Reg.tk3 (i := 8) (v := undef) (some 48) [10, 11, 15, 16] [] rfl (Or.inr ⟨by rfl, rfl⟩) ?_
          try simp only[Act.put,Reg.l1,Reg.l2,Reg.l3]
          refine Reg.tk3 (i := 9) (v := undef) (some 49) [10, 11, 15, 16] [] rfl (Or.inr ⟨by rfl, rfl⟩) ?_
          try simp only[Act.put,Reg.l1,Reg.l2,Reg.l3]
          refine Reg.tk3 (i := 10) (v := undef) (some 50) [11, 15, 16] [] rfl (Or.inr ⟨by rfl, rfl⟩) ?_
          try simp only[Act.put,Reg.l1,Reg.l2,Reg.l3]
          refine Reg.tk3 (i := 11) (v := undef) (some 51) [15, 16] [] rfl (Or.inr ⟨by rfl, rfl⟩) ?_
          try simp only[Act.put,Reg.l1,Reg.l2,Reg.l3]
          refine Reg.tk3 (i := 12) (v := undef) (some 52) [13, 14, 15, 16] [] rfl (Or.inr ⟨by rfl, rfl⟩) ?_
          try simp only[Act.put,Reg.l1,Reg.l2,Reg.l3]
          refine Reg.tk3 (i := 13) (v := undef) (some 53) [14, 15, 16] [] rfl (Or.inr ⟨by rfl, rfl⟩) ?_
          try simp only[Act.put,Reg.l1,Reg.l2,Reg.l3]
          refine Reg.tk3 (i := 14) (v := undef) (some 54) [15, 16] [] rfl (Or.inr ⟨by rfl, rfl⟩) ?_
          try simp only[Act.put,Reg.l1,Reg.l2,Reg.l3]
          refine Reg.tk3 (i := 15) (v := undef) (some 55) [16] [] rfl (Or.inr ⟨by rfl, rfl⟩) ?_
          try simp only[Act.put,Reg.l1,Reg.l2,Reg.l3]
          refine' Reg.tk3 (i := 16) (v := _) (some 56) [] [] rfl (Or.inl ⟨by rfl, Or.inl ?hy9⟩) ?r_9
          case hy9=>(intro w' kk ss; obtain⟨x0,x1,x2,x3⟩:=bx4 (BC.out _ (HW.out.trans (hr0.trans kk))); obtain⟨p0,p1,p2,p3⟩:=bx4 (BM.out _ (HW.out.trans (hr0.trans kk))); have u0:=HC.out _ (hr0.trans kk); go_simp; first | done | with_reducible rfl)
          try simp only[Act.put,Reg.l1,Reg.l2,Reg.l3]
          refine Reg.wpG_done (by kernel_rfl) (fun we ke se => ?_) _
          refine NoPanic.normal ?_
          have hr0:=hr0.trans ke
          clear ke
          go_wp2
          go_ret
          exact .of E.out (ka.out.trans (HW.out.trans hr0))
        · by_cases y1:y ≥ (nd:Int)
          · have E:=Lib.hid (show false=R by rw[← HR2.out,SA.out,show isV nd y=false by simp only[isV,Bool.and_eq_false_iff,decide_eq_false_iff_not]; omega]; simp)
            have zz:decide (y<0)=false:=decide_eq_false y0
            clear HR2 SA
            go_wp2
            have hr0:Since wr wr.drew:=Since.drew (Since.refl wr)
            refine wp_region_noPanic ?_
            refine Reg.wp_region_G (S:=fun _=>True) (fun j => [].contains j) (by kernel_rfl) trivial ?_
            refine' Reg.tk3 (i := 0) (v := _) (some 40) [1, 3, 4, 5, 6, 7, 8, 9, 10, 11, 12, 13, 14, 15, 16] [] rfl (Or.inl ⟨by rfl, Or.inl ?hy11⟩) ?r_11
            case hy11=>(intro w' kk ss; obtain⟨x0,x1,x2,x3⟩:=bx4 (BC.out _ (HW.out.trans (hr0.trans kk))); obtain⟨p0,p1,p2,p3⟩:=bx4 (BM.out _ (HW.out.trans (hr0.trans kk))); have u0:=HC.out _ (hr0.trans kk); go_simp; first | done | with_reducible rfl)
            try simp only[Act.put,Reg.l1,Reg.l2,Reg.l3]
            refine' Reg.tk3 (i := 1) (v := _) (some 41) [3, 4, 5, 6, 7, 8, 9, 10, 11, 12, 13, 14, 15, 16] [] rfl (Or.inl ⟨by rfl, Or.inl ?hy12⟩) ?r_12
            case hy12=>(intro w' kk ss; obtain⟨x0,x1,x2,x3⟩:=bx4 (BC.out _ (HW.out.trans (hr0.trans kk))); obtain⟨p0,p1,p2,p3⟩:=bx4 (BM.out _ (HW.out.trans (hr0.trans kk))); have u0:=HC.out _ (hr0.trans kk); go_simp; first | done | with_reducible rfl)
            try simp only[Act.put,Reg.l1,Reg.l2,Reg.l3]
            refine' Reg.tk3 (i := 2) (v := _) (some 42) [3, 4, 5, 6, 7, 8, 9, 10, 11, 12, 13, 14, 15, 16] [] rfl (Or.inl ⟨by rfl, Or.inl ?hy13⟩) ?r_13
            case hy13=>(intro w' kk ss; obtain⟨x0,x1,x2,x3⟩:=bx4 (BC.out _ (HW.out.trans (hr0.trans kk))); obtain⟨p0,p1,p2,p3⟩:=bx4 (BM.out _ (HW.out.trans (hr0.trans kk))); have u0:=HC.out _ (hr0.trans kk); go_simp; first | done | with_reducible rfl)
            try simp only[Act.put,Reg.l1,Reg.l2,Reg.l3]
            refine' Reg.tk3 (i := 3) (v := _) (some 43) [4, 5, 6, 7, 8, 9, 10, 11, 12, 13, 14, 15, 16] [] rfl (Or.inl ⟨by rfl, Or.inl ?hy14⟩) ?r_14
            case hy14=>(intro w' kk ss; obtain⟨x0,x1,x2,x3⟩:=bx4 (BC.out _ (HW.out.trans (hr0.trans kk))); obtain⟨p0,p1,p2,p3⟩:=bx4 (BM.out _ (HW.out.trans (hr0.trans kk))); have u0:=HC.out _ (hr0.trans kk); go_simp; first | done | with_reducible rfl)
            try simp only[Act.put,Reg.l1,Reg.l2,Reg.l3]
            refine' Reg.tk3 (i := 4) (v := _) (some 44) [5, 6, 7, 8, 9, 10, 11, 12, 13, 14, 15, 16] [] rfl (Or.inl ⟨by rfl, Or.inl ?hy15⟩) ?r_15
            case hy15=>(intro w' kk ss; obtain⟨x0,x1,x2,x3⟩:=bx4 (BC.out _ (HW.out.trans (hr0.trans kk))); obtain⟨p0,p1,p2,p3⟩:=bx4 (BM.out _ (HW.out.trans (hr0.trans kk))); have u0:=HC.out _ (hr0.trans kk); go_simp; first | done | with_reducible rfl)
            try simp only[Act.put,Reg.l1,Reg.l2,Reg.l3]
            refine' Reg.tk3 (i := 5) (v := _) (some 45) [6, 7, 8, 9, 10, 11, 12, 13, 14, 15, 16] [] rfl (Or.inl ⟨by rfl, Or.inl ?hy16⟩) ?r_16
            case hy16=>(intro w' kk ss; obtain⟨x0,x1,x2,x3⟩:=bx4 (BC.out _ (HW.out.trans (hr0.trans kk))); obtain⟨p0,p1,p2,p3⟩:=bx4 (BM.out _ (HW.out.trans (hr0.trans kk))); have u0:=HC.out _ (hr0.trans kk); go_simp; first | done | with_reducible rfl)
            try simp only[Act.put,Reg.l1,Reg.l2,Reg.l3]
            refine' Reg.tk3 (i := 6) (v := _) (some 46) [7, 8, 9, 10, 11, 12, 13, 14, 15, 16] [] rfl (Or.inl ⟨by rfl, Or.inl ?hy17⟩) ?r_17
            case hy17=>(intro w' kk ss; obtain⟨x0,x1,x2,x3⟩:=bx4 (BC.out _ (HW.out.trans (hr0.trans kk))); obtain⟨p0,p1,p2,p3⟩:=bx4 (BM.out _ (HW.out.trans (hr0.trans kk))); have u0:=HC.out _ (hr0.trans kk); go_simp; first | done | with_reducible rfl)
            try simp only[Act.put,Reg.l1,Reg.l2,Reg.l3]
            refine' Reg.tk3 (i := 7) (v := _) (some 47) [8, 10, 11, 15, 16] [] rfl (Or.inl ⟨by rfl, Or.inl ?hy18⟩) ?r_18
            case hy18=>(intro w' kk ss; obtain⟨x0,x1,x2,x3⟩:=bx4 (BC.out _ (HW.out.trans (hr0.trans kk))); obtain⟨p0,p1,p2,p3⟩:=bx4 (BM.out _ (HW.out.trans (hr0.trans kk))); have u0:=HC.out _ (hr0.trans kk); go_simp; first | done | with_reducible rfl)
            try simp only[Act.put,Reg.l1,Reg.l2,Reg.l3]
            refine' Reg.tk3 (i := 8) (v := _) (some 48) [10, 11, 15, 16] [] rfl (Or.inl ⟨by rfl, Or.inl ?hy19⟩) ?r_19
            case hy19=>(intro w' kk ss; obtain⟨x0,x1,x2,x3⟩:=bx4 (BC.out _ (HW.out.trans (hr0.trans kk))); obtain⟨p0,p1,p2,p3⟩:=bx4 (BM.out _ (HW.out.trans (hr0.trans kk))); have u0:=HC.out _ (hr0.trans kk); go_simp; first | done | with_reducible rfl)
            try simp only[Act.put,Reg.l1,Reg.l2,Reg.l3]
            refine' Reg.tk3 (i := 9) (v := _) (some 49) [10, 11, 15, 16] [] rfl (Or.inl ⟨by rfl, Or.inl ?hy20⟩) ?r_20
            case hy20=>(intro w' kk ss; obtain⟨x0,x1,x2,x3⟩:=bx4 (BC.out _ (HW.out.trans (hr0.trans kk))); obtain⟨p0,p1,p2,p3⟩:=bx4 (BM.out _ (HW.out.trans (hr0.trans kk))); have u0:=HC.out _ (hr0.trans kk); go_simp; first | done | with_reducible rfl)
            try simp only[Act.put,Reg.l1,Reg.l2,Reg.l3]
            refine' Reg.tk3 (i := 10) (v := _) (some 50) [11, 15, 16] [] rfl (Or.inl ⟨by rfl, Or.inl ?hy21⟩) ?r_21
            case hy21=>(intro w' kk ss; obtain⟨x0,x1,x2,x3⟩:=bx4 (BC.out _ (HW.out.trans (hr0.trans kk))); obtain⟨p0,p1,p2,p3⟩:=bx4 (BM.out _ (HW.out.trans (hr0.trans kk))); have u0:=HC.out _ (hr0.trans kk); go_simp; first | done | with_reducible rfl)
            try simp only[Act.put,Reg.l1,Reg.l2,Reg.l3]
            refine' Reg.tk3 (i := 11) (v := _) (some 51) [15, 16] [] rfl (Or.inl ⟨by rfl, Or.inl ?hy22⟩) ?r_22
            case hy22=>(intro w' kk ss; obtain⟨x0,x1,x2,x3⟩:=bx4 (BC.out _ (HW.out.trans (hr0.trans kk))); obtain⟨p0,p1,p2,p3⟩:=bx4 (BM.out _ (HW.out.trans (hr0.trans kk))); have u0:=HC.out _ (hr0.trans kk); go_simp; first | done | with_reducible rfl)
            try simp only[Act.put,Reg.l1,Reg.l2,Reg.l3]
            refine' Reg.tk3 (i := 12) (v := _) (some 52) [13, 14, 15, 16] [] rfl (Or.inl ⟨by rfl, Or.inl ?hy23⟩) ?r_23
            case hy23=>(intro w' kk ss; obtain⟨x0,x1,x2,x3⟩:=bx4 (BC.out _ (HW.out.trans (hr0.trans kk))); obtain⟨p0,p1,p2,p3⟩:=bx4 (BM.out _ (HW.out.trans (hr0.trans kk))); have u0:=HC.out _ (hr0.trans kk); go_simp; first | done | with_reducible rfl)
            try simp only[Act.put,Reg.l1,Reg.l2,Reg.l3]
            refine' Reg.tk3 (i := 13) (v := _) (some 53) [14, 15, 16] [] rfl (Or.inl ⟨by rfl, Or.inl ?hy24⟩) ?r_24
            case hy24=>(intro w' kk ss; obtain⟨x0,x1,x2,x3⟩:=bx4 (BC.out _ (HW.out.trans (hr0.trans kk))); obtain⟨p0,p1,p2,p3⟩:=bx4 (BM.out _ (HW.out.trans (hr0.trans kk))); have u0:=HC.out _ (hr0.trans kk); go_simp; first | done | with_reducible rfl)
            try simp only[Act.put,Reg.l1,Reg.l2,Reg.l3]
            refine' Reg.tk3 (i := 14) (v := _) (some 54) [15, 16] [] rfl (Or.inl ⟨by rfl, Or.inl ?hy25⟩) ?r_25
            case hy25=>(intro w' kk ss; obtain⟨x0,x1,x2,x3⟩:=bx4 (BC.out _ (HW.out.trans (hr0.trans kk))); obtain⟨p0,p1,p2,p3⟩:=bx4 (BM.out _ (HW.out.trans (hr0.trans kk))); have u0:=HC.out _ (hr0.trans kk); go_simp; first | done | with_reducible rfl)
            try simp only[Act.put,Reg.l1,Reg.l2,Reg.l3]
            refine' Reg.tk3 (i := 15) (v := _) (some 55) [16] [] rfl (Or.inl ⟨by rfl, Or.inl ?hy26⟩) ?r_26
            case hy26=>(intro w' kk ss; obtain⟨x0,x1,x2,x3⟩:=bx4 (BC.out _ (HW.out.trans (hr0.trans kk))); obtain⟨p0,p1,p2,p3⟩:=bx4 (BM.out _ (HW.out.trans (hr0.trans kk))); have u0:=HC.out _ (hr0.trans kk); go_simp; first | done | with_reducible rfl)
            try simp only[Act.put,Reg.l1,Reg.l2,Reg.l3]
            refine' Reg.tk3 (i := 16) (v := _) (some 56) [] [] rfl (Or.inl ⟨by rfl, Or.inl ?hy27⟩) ?r_27
            case hy27=>(intro w' kk ss; obtain⟨x0,x1,x2,x3⟩:=bx4 (BC.out _ (HW.out.trans (hr0.trans kk))); obtain⟨p0,p1,p2,p3⟩:=bx4 (BM.out _ (HW.out.trans (hr0.trans kk))); have u0:=HC.out _ (hr0.trans kk); go_simp; first | done | with_reducible rfl)
            try simp only[Act.put,Reg.l1,Reg.l2,Reg.l3]
            refine Reg.wpG_done (by kernel_rfl) (fun we ke se => ?_) _
            refine NoPanic.normal ?_
            have hr0:=hr0.trans ke
            clear ke
            go_wp2
            go_ret
            exact .of E.out (ka.out.trans (HW.out.trans hr0))
          · have HA2:=Lib.hid (show cx.all (isV nd)=(cx.drop (k+1)).all (isV nd) by have:=SA.out; rw[show isV nd y=true by simp only[isV,Bool.and_eq_true,decide_eq_true_eq]; omega,Bool.true_and] at this; exact this)
            have zz:decide (y<0)=false:=decide_eq_false y0
            have zy:decide ((nd:Int)≤y)=false:=decide_eq_false y1
            clear SA
            go_wp2
            have hr0:Since wr wr.drew:=Since.drew (Since.refl wr)
            refine wp_region_noPanic ?_
            refine Reg.wp_region_G (S:=fun _=>True) (fun j => [].contains j) (by kernel_rfl) trivial ?_
            refine' Reg.tk3 (i := 0) (v := _) (some 40) [1, 3, 4, 5, 6, 7, 8, 9, 10, 11, 12, 13, 14, 15, 16] [] rfl (Or.inl ⟨by rfl, Or.inl ?hy29⟩) ?r_29
            case hy29=>(intro w' kk ss; obtain⟨x0,x1,x2,x3⟩:=bx4 (BC.out _ (HW.out.trans (hr0.trans kk))); obtain⟨p0,p1,p2,p3⟩:=bx4 (BM.out _ (HW.out.trans (hr0.trans kk))); have u0:=HC.out _ (hr0.trans kk); go_simp; first | done | with_reducible rfl)
            try simp only[Act.put,Reg.l1,Reg.l2,Reg.l3]
            refine' Reg.tk3 (i := 1) (v := _) (some 41) [3, 4, 5, 6, 7, 8, 9, 10, 11, 12, 13, 14, 15, 16] [] rfl (Or.inl ⟨by rfl, Or.inl ?hy30⟩) ?r_30
            case hy30=>(intro w' kk ss; obtain⟨x0,x1,x2,x3⟩:=bx4 (BC.out _ (HW.out.trans (hr0.trans kk))); obtain⟨p0,p1,p2,p3⟩:=bx4 (BM.out _ (HW.out.trans (hr0.trans kk))); have u0:=HC.out _ (hr0.trans kk); go_simp; first | done | with_reducible rfl)
            try simp only[Act.put,Reg.l1,Reg.l2,Reg.l3]
            refine' Reg.tk3 (i := 2) (v := _) (some 42) [3, 4, 5, 6, 7, 8, 9, 10, 11, 12, 13, 14, 15, 16] [] rfl (Or.inl ⟨by rfl, Or.inl ?hy31⟩) ?r_31
            case hy31=>(intro w' kk ss; obtain⟨x0,x1,x2,x3⟩:=bx4 (BC.out _ (HW.out.trans (hr0.trans kk))); obtain⟨p0,p1,p2,p3⟩:=bx4 (BM.out _ (HW.out.trans (hr0.trans kk))); have u0:=HC.out _ (hr0.trans kk); go_simp; first | done | with_reducible rfl)
            try simp only[Act.put,Reg.l1,Reg.l2,Reg.l3]
            refine' Reg.tk3 (i := 3) (v := _) (some 43) [4, 5, 6, 7, 8, 9, 10, 11, 12, 13, 14, 15, 16] [] rfl (Or.inl ⟨by rfl, Or.inl ?hy32⟩) ?r_32
            case hy32=>(intro w' kk ss; obtain⟨x0,x1,x2,x3⟩:=bx4 (BC.out _ (HW.out.trans (hr0.trans kk))); obtain⟨p0,p1,p2,p3⟩:=bx4 (BM.out _ (HW.out.trans (hr0.trans kk))); have u0:=HC.out _ (hr0.trans kk); go_simp; first | done | with_reducible rfl)
            try simp only[Act.put,Reg.l1,Reg.l2,Reg.l3]
            refine' Reg.tk3 (i := 4) (v := _) (some 44) [5, 6, 7, 8, 9, 10, 11, 12, 13, 14, 15, 16] [] rfl (Or.inl ⟨by rfl, Or.inl ?hy33⟩) ?r_33
            case hy33=>(intro w' kk ss; obtain⟨x0,x1,x2,x3⟩:=bx4 (BC.out _ (HW.out.trans (hr0.trans kk))); obtain⟨p0,p1,p2,p3⟩:=bx4 (BM.out _ (HW.out.trans (hr0.trans kk))); have u0:=HC.out _ (hr0.trans kk); go_simp; first | done | with_reducible rfl)
            try simp only[Act.put,Reg.l1,Reg.l2,Reg.l3]
            refine' Reg.tk3 (i := 5) (v := _) (some 45) [6, 7, 8, 9, 10, 11, 12, 13, 14, 15, 16] [] rfl (Or.inl ⟨by rfl, Or.inl ?hy34⟩) ?r_34
            case hy34=>(intro w' kk ss; obtain⟨x0,x1,x2,x3⟩:=bx4 (BC.out _ (HW.out.trans (hr0.trans kk))); obtain⟨p0,p1,p2,p3⟩:=bx4 (BM.out _ (HW.out.trans (hr0.trans kk))); have u0:=HC.out _ (hr0.trans kk); go_simp; first | done | with_reducible rfl)
            try simp only[Act.put,Reg.l1,Reg.l2,Reg.l3]
            refine' Reg.tk3 (i := 6) (v := _) (some 46) [7, 8, 9, 10, 11, 12, 13, 14, 15, 16] [] rfl (Or.inl ⟨by rfl, Or.inl ?hy35⟩) ?r_35
            case hy35=>(intro w' kk ss; obtain⟨x0,x1,x2,x3⟩:=bx4 (BC.out _ (HW.out.trans (hr0.trans kk))); obtain⟨p0,p1,p2,p3⟩:=bx4 (BM.out _ (HW.out.trans (hr0.trans kk))); have u0:=HC.out _ (hr0.trans kk); go_simp; first | done | with_reducible rfl)
            try simp only[Act.put,Reg.l1,Reg.l2,Reg.l3]
            refine' Reg.tk3 (i := 7) (v := _) (some 47) [8, 10, 11, 15, 16] [] rfl (Or.inl ⟨by rfl, Or.inl ?hy36⟩) ?r_36
            case hy36=>(intro w' kk ss; obtain⟨x0,x1,x2,x3⟩:=bx4 (BC.out _ (HW.out.trans (hr0.trans kk))); obtain⟨p0,p1,p2,p3⟩:=bx4 (BM.out _ (HW.out.trans (hr0.trans kk))); have u0:=HC.out _ (hr0.trans kk); go_simp; first | done | with_reducible rfl)
            try simp only[Act.put,Reg.l1,Reg.l2,Reg.l3]
            refine' Reg.tk3 (i := 8) (v := _) (some 48) [10, 11, 15, 16] [] rfl (Or.inl ⟨by rfl, Or.inl ?hy37⟩) ?r_37
            case hy37=>(intro w' kk ss; obtain⟨x0,x1,x2,x3⟩:=bx4 (BC.out _ (HW.out.trans (hr0.trans kk))); obtain⟨p0,p1,p2,p3⟩:=bx4 (BM.out _ (HW.out.trans (hr0.trans kk))); have u0:=HC.out _ (hr0.trans kk); go_simp; first | done | with_reducible rfl)
            try simp only[Act.put,Reg.l1,Reg.l2,Reg.l3]
            refine' Reg.tk3 (i := 9) (v := _) (some 49) [10, 11, 15, 16] [] rfl (Or.inl ⟨by rfl, Or.inl ?hy38⟩) ?r_38
            case hy38=>(intro w' kk ss; obtain⟨x0,x1,x2,x3⟩:=bx4 (BC.out _ (HW.out.trans (hr0.trans kk))); obtain⟨p0,p1,p2,p3⟩:=bx4 (BM.out _ (HW.out.trans (hr0.trans kk))); have u0:=HC.out _ (hr0.trans kk); go_simp; first | done | with_reducible rfl)
            try simp only[Act.put,Reg.l1,Reg.l2,Reg.l3]
            refine' Reg.tk3 (i := 10) (v := _) (some 50) [11, 15, 16] [] rfl (Or.inl ⟨by rfl, Or.inl ?hy39⟩) ?r_39
            case hy39=>(intro w' kk ss; obtain⟨x0,x1,x2,x3⟩:=bx4 (BC.out _ (HW.out.trans (hr0.trans kk))); obtain⟨p0,p1,p2,p3⟩:=bx4 (BM.out _ (HW.out.trans (hr0.trans kk))); have u0:=HC.out _ (hr0.trans kk); go_simp; first | done | with_reducible rfl)
            try simp only[Act.put,Reg.l1,Reg.l2,Reg.l3]
            refine' Reg.tk3 (i := 11) (v := _) (some 51) [15, 16] [] rfl (Or.inl ⟨by rfl, Or.inl ?hy40⟩) ?r_40
            case hy40=>(intro w' kk ss; obtain⟨x0,x1,x2,x3⟩:=bx4 (BC.out _ (HW.out.trans (hr0.trans kk))); obtain⟨p0,p1,p2,p3⟩:=bx4 (BM.out _ (HW.out.trans (hr0.trans kk))); have u0:=HC.out _ (hr0.trans kk); go_simp; first | done | with_reducible rfl)
            try simp only[Act.put,Reg.l1,Reg.l2,Reg.l3]
            refine' Reg.tk3 (i := 12) (v := _) (some 52) [13, 14, 15, 16] [] rfl (Or.inl ⟨by rfl, Or.inl ?hy41⟩) ?r_41
            case hy41=>(intro w' kk ss; obtain⟨x0,x1,x2,x3⟩:=bx4 (BC.out _ (HW.out.trans (hr0.trans kk))); obtain⟨p0,p1,p2,p3⟩:=bx4 (BM.out _ (HW.out.trans (hr0.trans kk))); have u0:=HC.out _ (hr0.trans kk); go_simp; first | done | with_reducible rfl)
            try simp only[Act.put,Reg.l1,Reg.l2,Reg.l3]
            refine' Reg.tk3 (i := 13) (v := _) (some 53) [14, 15, 16] [] rfl (Or.inl ⟨by rfl, Or.inl ?hy42⟩) ?r_42
            case hy42=>(intro w' kk ss; obtain⟨x0,x1,x2,x3⟩:=bx4 (BC.out _ (HW.out.trans (hr0.trans kk))); obtain⟨p0,p1,p2,p3⟩:=bx4 (BM.out _ (HW.out.trans (hr0.trans kk))); have u0:=HC.out _ (hr0.trans kk); go_simp; first | done | with_reducible rfl)
            try simp only[Act.put,Reg.l1,Reg.l2,Reg.l3]
            refine' Reg.tk3 (i := 14) (v := _) (some 54) [15, 16] [] rfl (Or.inl ⟨by rfl, Or.inl ?hy43⟩) ?r_43
            case hy43=>(intro w' kk ss; obtain⟨x0,x1,x2,x3⟩:=bx4 (BC.out _ (HW.out.trans (hr0.trans kk))); obtain⟨p0,p1,p2,p3⟩:=bx4 (BM.out _ (HW.out.trans (hr0.trans kk))); have u0:=HC.out _ (hr0.trans kk); go_simp; first | done | with_reducible rfl)
            try simp only[Act.put,Reg.l1,Reg.l2,Reg.l3]
            refine' Reg.tk3 (i := 15) (v := _) (some 55) [16] [] rfl (Or.inl ⟨by rfl, Or.inl ?hy44⟩) ?r_44
            case hy44=>(intro w' kk ss; obtain⟨x0,x1,x2,x3⟩:=bx4 (BC.out _ (HW.out.trans (hr0.trans kk))); obtain⟨p0,p1,p2,p3⟩:=bx4 (BM.out _ (HW.out.trans (hr0.trans kk))); have u0:=HC.out _ (hr0.trans kk); go_simp; first | done | with_reducible rfl)
            try simp only[Act.put,Reg.l1,Reg.l2,Reg.l3]
            refine' Reg.tk3 (i := 16) (v := _) (some 56) [] [] rfl (Or.inl ⟨by rfl, Or.inl ?hy45⟩) ?r_45
            case hy45=>(intro w' kk ss; obtain⟨x0,x1,x2,x3⟩:=bx4 (BC.out _ (HW.out.trans (hr0.trans kk))); obtain⟨p0,p1,p2,p3⟩:=bx4 (BM.out _ (HW.out.trans (hr0.trans kk))); have u0:=HC.out _ (hr0.trans kk); go_simp; first | done | with_reducible rfl)
            try simp only[Act.put,Reg.l1,Reg.l2,Reg.l3]
            refine Reg.wpG_done (by kernel_rfl) (fun we ke se => ?_) _
            refine NoPanic.normal ?_
            have hr0:=hr0.trans ke
            clear ke
            go_wp2
            go_roundw
            case rel=>exact⟨k+1,by go_num,by omega,HA2.out,HW.out.trans hr0⟩
            case measure=>simp[intOf]; omega
      · obtain rfl:nx=k:=by omega
        have hnil:cx.drop nx = []:=List.drop_of_length_le (by have:=HNX.out; omega)
        have HX1:=Lib.hid (show cx.all (isV nd)=true by rw[HA.out,hnil]; rfl)
        have HR3:=Lib.hid (show (ca.all within && BO)=R by rw[← HR2.out,HX1.out]; simp)
        clear hnil HA HR2
        rename World=>w7
        go_wp2
        go_loopw [6] (fun i wr=>∃ k:Nat,i = .int .i64 (k:Int)∧k≤na∧Hid (ca.all within=(ca.drop k).all within)∧Hid (Since w7 wr)) (fun i _=>na - (intOf i).toNat)
        case atStart=>exact⟨0,rfl,Nat.zero_le _,rfl,Since.refl _⟩
        case round =>
         obtain⟨i,rfl,hi,HA,HV⟩:=hrel
         have t7:=Lib.hid (HW.out.trans HV.out)
         obtain⟨b0,b1,b2,b3⟩:=bx4 (BC.out _ t7.out)
         by_cases hin:i<na
         · have hil:i<ca.length:=by have:=HNA.out; omega
           obtain⟨g,o,rfl,e0⟩:=elI (H4.out.since stI (ka.out.trans t7.out)) hil
           have hsa:=HA.out
           rw[dropI hil,List.all_cons] at hsa
           generalize ca[i]=y at *
           have SA:=Lib.hid hsa
           clear hsa hil HA
           cases hy:within y with
           | true =>
            have HA2:=Lib.hid (show ca.all within=(ca.drop (i+1)).all within by have:=SA.out; rw[hy,Bool.true_and] at this; exact this)
            have D7:=Lib.hid (WI.out y true hy)
            clear hy SA
            go_wp2_with (go_at_call 136; (with_reducible refine (D7.out _).mono ?_); rintro e w8 ⟨rfl,rfl⟩)
            go_roundw
            case rel=>exact⟨i+1,by go_num,by omega,HA2.out,HV.out⟩
            case measure=>simp[intOf]; omega
           | false =>
            have E:=Lib.hid (show false=R by rw[← HR3.out,SA.out,hy]; simp)
            have D7:=Lib.hid (WI.out y false hy)
            clear hy SA
            go_wp2_with (go_at_call 136; (with_reducible refine (D7.out _).mono ?_); rintro e w8 ⟨rfl,rfl⟩)
            go_ret
            exact .of E.out (ka.out.trans t7.out)
         · obtain rfl:na=i:=by omega
           have HB:=Lib.hid (show BO=R by rw[← HR3.out,HA.out,List.drop_of_length_le (by have:=HNA.out; omega)]; rfl)
           have HIN:=Lib.hid (List.all_eq_true.1 HX1.out)
           obtain⟨m0,m1,m2,m3⟩:=bx4 (BM.out _ t7.out)
           clear HA HR3 HX1
           rename World=>w9
           by_cases k456:ck=4∨ck=5∨ck=6
           · have hpos:=shp_pos HS1.out k456
             obtain⟨j,hj⟩:∃ j,nx=j+1:=⟨_,hpos⟩
             have hxj:cx.length=j+1:=by rw[← HNX.out,hj]
             have hB:BO=(tru (domAt ds (lastK cx)) && true):=by rw[HBO.out,bools_tail k456,tail_one hxj]; rfl
             have hX:=H3.out
             rw[hj] at hX
             obtain⟨g,o,rfl,e0⟩:=lastK_at hX
             have hin:isV nd (lastK cx)=true:=HIN.out _ (by have h:=tail_one hxj; exact List.mem_of_mem_drop (show lastK cx ∈ cx.drop (cx.length - 1) by rw[h]; simp))
             generalize lastK cx=y at *
             obtain⟨q,rfl,hq⟩:=isV_nat hin
             have hql:q<ds.length:=by have:=HND.out; omega
             obtain⟨g2,o2,B2,d2,rfl,S2,e2⟩:=elD H1.out hql
             rw[domAt_nat hql,Bool.and_true] at hB
             have hdo:=HOK.out _ (List.getElem_mem hql)
             generalize ds[q]=dq at *
             have TA:=Lib.hid (fun W kk=>truth_at S2 hdo (b:=R) (hB.symm.trans HB.out) W kk)
             obtain⟨p,hp⟩:∃ p,p=dq.length:=⟨_,rfl⟩
             rw[← hp] at e2 TA
             have HC:=Lib.hid (fun W (kk:Since w W)=>(show W.cell? ⟨g,o+j,none⟩=some (.int .i64 (q:Int))∧W.cell? ⟨g2,o2+q,none⟩=some (.slice B2 p d2) from⟨(kk.cell _ (World.block_lt_of_cell? _ _ e0)).trans e0,(kk.cell _ (World.block_lt_of_cell? _ _ e2)).trans e2⟩))
             clear hB hX e0 e2 hin hql S2 hdo hp hxj hpos HB HIN HOK
             subst hj
             have ej:((j+1:Nat):Int) - 1=(j:Int):=by omega
             have hjw:IntKind.i64.wrap ((j:Int)+1 - 1)=(j:Int):=by rw[show (j:Int)+1 - 1=(j:Int) by omega]; simp[IntKind.wrap,IntKind.bits,IntKind.signed]; omega
             have hjw2:IntKind.i64.wrap (j:Int)=(j:Int):=by simp[IntKind.wrap,IntKind.bits,IntKind.signed]; omega
             have hjn:(j:Int)<(j:Int)+1:=by omega
             rcases k456 with rfl | rfl | rfl
             · go_wp2
               have hr0:Since w9 w9.drew:=Since.drew (Since.refl w9)
               refine wp_region_noPanic ?_
               refine Reg.wp_region_G (S:=fun _=>True) (fun j => [].contains j) (by kernel_rfl) trivial ?_
               refine' Reg.tk3 (i := 0) (v := _) (some 77) [1, 10, 11, 12, 13] [] rfl (Or.inl ⟨by rfl, Or.inl ?hy47⟩) ?r_47
               case hy47=>(intro w' kk ss; obtain⟨x0,x1,x2,x3⟩:=bx4 (BC.out _ (t7.out.trans (hr0.trans kk))); obtain⟨p0,p1,p2,p3⟩:=bx4 (BM.out _ (t7.out.trans (hr0.trans kk))); obtain⟨u0,u1⟩:=HC.out _ (ka.out.trans (t7.out.trans (hr0.trans kk))); go_simp; first | done | with_reducible rfl)
               try simp only[Act.put,Reg.l1,Reg.l2,Reg.l3]
               refine' Reg.tk3 (i := 1) (v := _) (some 78) [10, 11, 12, 13] [] rfl (Or.inl ⟨by rfl, Or.inl ?hy48⟩) ?r_48
               case hy48=>(intro w' kk ss; obtain⟨x0,x1,x2,x3⟩:=bx4 (BC.out _ (t7.out.trans (hr0.trans kk))); obtain⟨p0,p1,p2,p3⟩:=bx4 (BM.out _ (t7.out.trans (hr0.trans kk))); obtain⟨u0,u1⟩:=HC.out _ (ka.out.trans (t7.out.trans (hr0.trans kk))); go_simp; first | done | with_reducible rfl)
               try simp only[Act.put,Reg.l1,Reg.l2,Reg.l3]
               refine' Reg.tk3 (i := 2) (v := _) (some 79) [3, 8, 9, 10, 11, 12, 13] [] rfl (Or.inl ⟨by rfl, Or.inl ?hy49⟩) ?r_49
               case hy49=>(intro w' kk ss; obtain⟨x0,x1,x2,x3⟩:=bx4 (BC.out _ (t7.out.trans (hr0.trans kk))); obtain⟨p0,p1,p2,p3⟩:=bx4 (BM.out _ (t7.out.trans (hr0.trans kk))); obtain⟨u0,u1⟩:=HC.out _ (ka.out.trans (t7.out.trans (hr0.trans kk))); go_simp; first | done | with_reducible rfl)
               try simp only[Act.put,Reg.l1,Reg.l2,Reg.l3]
               refine' Reg.tk3 (i := 3) (v := _) (some 80) [8, 9, 10, 11, 12, 13] [] rfl (Or.inl ⟨by rfl, Or.inl ?hy50⟩) ?r_50
               case hy50=>(intro w' kk ss; obtain⟨x0,x1,x2,x3⟩:=bx4 (BC.out _ (t7.out.trans (hr0.trans kk))); obtain⟨p0,p1,p2,p3⟩:=bx4 (BM.out _ (t7.out.trans (hr0.trans kk))); obtain⟨u0,u1⟩:=HC.out _ (ka.out.trans (t7.out.trans (hr0.trans kk))); go_simp; first | done | with_reducible rfl)
               try simp only[Act.put,Reg.l1,Reg.l2,Reg.l3]
               refine' Reg.tk3 (i := 4) (v := _) (some 81) [5, 6, 7, 8, 9, 10, 11, 12, 13] [] rfl (Or.inl ⟨by rfl, Or.inl ?hy51⟩) ?r_51
               case hy51=>(intro w' kk ss; obtain⟨x0,x1,x2,x3⟩:=bx4 (BC.out _ (t7.out.trans (hr0.trans kk))); obtain⟨p0,p1,p2,p3⟩:=bx4 (BM.out _ (t7.out.trans (hr0.trans kk))); obtain⟨u0,u1⟩:=HC.out _ (ka.out.trans (t7.out.trans (hr0.trans kk))); go_simp; first | done | with_reducible rfl)
               try simp only[Act.put,Reg.l1,Reg.l2,Reg.l3]
               refine' Reg.tk3 (i := 5) (v := _) (some 82) [6, 7, 8, 9, 10, 11, 12, 13] [] rfl (Or.inl ⟨by rfl, Or.inl ?hy52⟩) ?r_52
               case hy52=>(intro w' kk ss; obtain⟨x0,x1,x2,x3⟩:=bx4 (BC.out _ (t7.out.trans (hr0.trans kk))); obtain⟨p0,p1,p2,p3⟩:=bx4 (BM.out _ (t7.out.trans (hr0.trans kk))); obtain⟨u0,u1⟩:=HC.out _ (ka.out.trans (t7.out.trans (hr0.trans kk))); go_simp; first | done | with_reducible rfl)
               try simp only[Act.put,Reg.l1,Reg.l2,Reg.l3]
               refine' Reg.tk3 (i := 6) (v := _) (some 83) [7, 8, 9, 10, 11, 12, 13] [] rfl (Or.inl ⟨by rfl, Or.inl ?hy53⟩) ?r_53
               case hy53=>(intro w' kk ss; obtain⟨x0,x1,x2,x3⟩:=bx4 (BC.out _ (t7.out.trans (hr0.trans kk))); obtain⟨p0,p1,p2,p3⟩:=bx4 (BM.out _ (t7.out.trans (hr0.trans kk))); obtain⟨u0,u1⟩:=HC.out _ (ka.out.trans (t7.out.trans (hr0.trans kk))); go_simp; first | done | with_reducible rfl)
               try simp only[Act.put,Reg.l1,Reg.l2,Reg.l3]
               refine' Reg.tk3 (i := 7) (v := _) (some 84) [8, 9, 10, 11, 12, 13] [] rfl (Or.inl ⟨by rfl, Or.inl ?hy54⟩) ?r_54
               case hy54=>(intro w' kk ss; obtain⟨x0,x1,x2,x3⟩:=bx4 (BC.out _ (t7.out.trans (hr0.trans kk))); obtain⟨p0,p1,p2,p3⟩:=bx4 (BM.out _ (t7.out.trans (hr0.trans kk))); obtain⟨u0,u1⟩:=HC.out _ (ka.out.trans (t7.out.trans (hr0.trans kk))); go_simp; first | done | with_reducible rfl)
               try simp only[Act.put,Reg.l1,Reg.l2,Reg.l3]
               refine' Reg.tk3 (i := 8) (v := _) (some 85) [9, 10, 11, 12, 13] [] rfl (Or.inl ⟨by rfl, Or.inl ?hy55⟩) ?r_55
               case hy55=>(intro w' kk ss; obtain⟨x0,x1,x2,x3⟩:=bx4 (BC.out _ (t7.out.trans (hr0.trans kk))); obtain⟨p0,p1,p2,p3⟩:=bx4 (BM.out _ (t7.out.trans (hr0.trans kk))); obtain⟨u0,u1⟩:=HC.out _ (ka.out.trans (t7.out.trans (hr0.trans kk))); go_simp; first | done | with_reducible rfl)
               try simp only[Act.put,Reg.l1,Reg.l2,Reg.l3]
               refine' Reg.tk3 (i := 9) (v := _) (some 86) [10, 11, 12, 13] [] rfl (Or.inl ⟨by rfl, Or.inl ?hy56⟩) ?r_56
               case hy56=>(intro w' kk ss; obtain⟨x0,x1,x2,x3⟩:=bx4 (BC.out _ (t7.out.trans (hr0.trans kk))); obtain⟨p0,p1,p2,p3⟩:=bx4 (BM.out _ (t7.out.trans (hr0.trans kk))); obtain⟨u0,u1⟩:=HC.out _ (ka.out.trans (t7.out.trans (hr0.trans kk))); go_simp; first | done | with_reducible rfl)
               try simp only[Act.put,Reg.l1,Reg.l2,Reg.l3]
               refine' Reg.tk3 (i := 10) (v := _) (some 87) [11, 12, 13] [] rfl (Or.inl ⟨by rfl, Or.inl ?hy57⟩) ?r_57
               case hy57=>(intro w' kk ss; obtain⟨x0,x1,x2,x3⟩:=bx4 (BC.out _ (t7.out.trans (hr0.trans kk))); obtain⟨p0,p1,p2,p3⟩:=bx4 (BM.out _ (t7.out.trans (hr0.trans kk))); obtain⟨u0,u1⟩:=HC.out _ (ka.out.trans (t7.out.trans (hr0.trans kk))); go_simp; first | done | with_reducible rfl)
               try simp only[Act.put,Reg.l1,Reg.l2,Reg.l3]
               refine' Reg.tk3 (i := 11) (v := _) (some 88) [12, 13] [] rfl (Or.inl ⟨by rfl, Or.inl ?hy58⟩) ?r_58
               case hy58=>(intro w' kk ss; obtain⟨x0,x1,x2,x3⟩:=bx4 (BC.out _ (t7.out.trans (hr0.trans kk))); obtain⟨p0,p1,p2,p3⟩:=bx4 (BM.out _ (t7.out.trans (hr0.trans kk))); obtain⟨u0,u1⟩:=HC.out _ (ka.out.trans (t7.out.trans (hr0.trans kk))); go_simp; first | done | with_reducible rfl)
               try simp only[Act.put,Reg.l1,Reg.l2,Reg.l3]
               refine Reg.tk3 (i := 12) (v := .bool R) (some 89) [13] [] rfl (Or.inl ⟨by rfl, Or.inr ⟨196, #[.slice B2 p d2], fun w' kk ss => ⟨?_, ?_⟩⟩⟩) ?_
               · (try dsimp only at ss); go_simp
               · exact TA.out w' (ka.out.trans (t7.out.trans (hr0.trans kk)))
               try simp only[Act.put,Reg.l1,Reg.l2,Reg.l3]
               refine' Reg.tk3 (i := 13) (v := _) (some 4) [] [] rfl (Or.inl ⟨by rfl, Or.inl ?hy59⟩) ?r_59
               case hy59=>(intro w' kk ss; obtain⟨x0,x1,x2,x3⟩:=bx4 (BC.out _ (t7.out.trans (hr0.trans kk))); obtain⟨p0,p1,p2,p3⟩:=bx4 (BM.out _ (t7.out.trans (hr0.trans kk))); obtain⟨u0,u1⟩:=HC.out _ (ka.out.trans (t7.out.trans (hr0.trans kk))); go_simp; first | done | with_reducible rfl)
               try simp only[Act.put,Reg.l1,Reg.l2,Reg.l3]
               refine Reg.wpG_done (by kernel_rfl) (fun we ke se => ?_) _
               refine NoPanic.normal ?_
               have hr0:=hr0.trans ke
               clear ke
               go_wp2
               go_ret
               exact⟨rfl,ka.out.trans (t7.out.trans hr0)⟩
             · go_wp2
               have hr0:Since w9 w9.drew:=Since.drew (Since.refl w9)
               refine wp_region_noPanic ?_
               refine Reg.wp_region_G (S:=fun _=>True) (fun j => [].contains j) (by kernel_rfl) trivial ?_
               refine' Reg.tk3 (i := 0) (v := _) (some 77) [1, 10, 11, 12, 13] [] rfl (Or.inl ⟨by rfl, Or.inl ?hy61⟩) ?r_61
               case hy61=>(intro w' kk ss; obtain⟨x0,x1,x2,x3⟩:=bx4 (BC.out _ (t7.out.trans (hr0.trans kk))); obtain⟨p0,p1,p2,p3⟩:=bx4 (BM.out _ (t7.out.trans (hr0.trans kk))); obtain⟨u0,u1⟩:=HC.out _ (ka.out.trans (t7.out.trans (hr0.trans kk))); go_simp; first | done | with_reducible rfl)
               try simp only[Act.put,Reg.l1,Reg.l2,Reg.l3]
               refine' Reg.tk3 (i := 1) (v := _) (some 78) [10, 11, 12, 13] [] rfl (Or.inl ⟨by rfl, Or.inl ?hy62⟩) ?r_62
               case hy62=>(intro w' kk ss; obtain⟨x0,x1,x2,x3⟩:=bx4 (BC.out _ (t7.out.trans (hr0.trans kk))); obtain⟨p0,p1,p2,p3⟩:=bx4 (BM.out _ (t7.out.trans (hr0.trans kk))); obtain⟨u0,u1⟩:=HC.out _ (ka.out.trans (t7.out.trans (hr0.trans kk))); go_simp; first | done | with_reducible rfl)
               try simp only[Act.put,Reg.l1,Reg.l2,Reg.l3]
               refine' Reg.tk3 (i := 2) (v := _) (some 79) [3, 8, 9, 10, 11, 12, 13] [] rfl (Or.inl ⟨by rfl, Or.inl ?hy63⟩) ?r_63
               case hy63=>(intro w' kk ss; obtain⟨x0,x1,x2,x3⟩:=bx4 (BC.out _ (t7.out.trans (hr0.trans kk))); obtain⟨p0,p1,p2,p3⟩:=bx4 (BM.out _ (t7.out.trans (hr0.trans kk))); obtain⟨u0,u1⟩:=HC.out _ (ka.out.trans (t7.out.trans (hr0.trans kk))); go_simp; first | done | with_reducible rfl)
               try simp only[Act.put,Reg.l1,Reg.l2,Reg.l3]
               refine' Reg.tk3 (i := 3) (v := _) (some 80) [8, 9, 10, 11, 12, 13] [] rfl (Or.inl ⟨by rfl, Or.inl ?hy64⟩) ?r_64
               case hy64=>(intro w' kk ss; obtain⟨x0,x1,x2,x3⟩:=bx4 (BC.out _ (t7.out.trans (hr0.trans kk))); obtain⟨p0,p1,p2,p3⟩:=bx4 (BM.out _ (t7.out.trans (hr0.trans kk))); obtain⟨u0,u1⟩:=HC.out _ (ka.out.trans (t7.out.trans (hr0.trans kk))); go_simp; first | done | with_reducible rfl)
               try simp only[Act.put,Reg.l1,Reg.l2,Reg.l3]
               refine' Reg.tk3 (i := 4) (v := _) (some 81) [5, 6, 7, 8, 9, 10, 11, 12, 13] [] rfl (Or.inl ⟨by rfl, Or.inl ?hy65⟩) ?r_65
               case hy65=>(intro w' kk ss; obtain⟨x0,x1,x2,x3⟩:=bx4 (BC.out _ (t7.out.trans (hr0.trans kk))); obtain⟨p0,p1,p2,p3⟩:=bx4 (BM.out _ (t7.out.trans (hr0.trans kk))); obtain⟨u0,u1⟩:=HC.out _ (ka.out.trans (t7.out.trans (hr0.trans kk))); go_simp; first | done | with_reducible rfl)
               try simp only[Act.put,Reg.l1,Reg.l2,Reg.l3]
               refine' Reg.tk3 (i := 5) (v := _) (some 82) [6, 7, 8, 9, 10, 11, 12, 13] [] rfl (Or.inl ⟨by rfl, Or.inl ?hy66⟩) ?r_66
               case hy66=>(intro w' kk ss; obtain⟨x0,x1,x2,x3⟩:=bx4 (BC.out _ (t7.out.trans (hr0.trans kk))); obtain⟨p0,p1,p2,p3⟩:=bx4 (BM.out _ (t7.out.trans (hr0.trans kk))); obtain⟨u0,u1⟩:=HC.out _ (ka.out.trans (t7.out.trans (hr0.trans kk))); go_simp; first | done | with_reducible rfl)
               try simp only[Act.put,Reg.l1,Reg.l2,Reg.l3]
               refine' Reg.tk3 (i := 6) (v := _) (some 83) [7, 8, 9, 10, 11, 12, 13] [] rfl (Or.inl ⟨by rfl, Or.inl ?hy67⟩) ?r_67
               case hy67=>(intro w' kk ss; obtain⟨x0,x1,x2,x3⟩:=bx4 (BC.out _ (t7.out.trans (hr0.trans kk))); obtain⟨p0,p1,p2,p3⟩:=bx4 (BM.out _ (t7.out.trans (hr0.trans kk))); obtain⟨u0,u1⟩:=HC.out _ (ka.out.trans (t7.out.trans (hr0.trans kk))); go_simp; first | done | with_reducible rfl)
               try simp only[Act.put,Reg.l1,Reg.l2,Reg.l3]
               refine' Reg.tk3 (i := 7) (v := _) (some 84) [8, 9, 10, 11, 12, 13] [] rfl (Or.inl ⟨by rfl, Or.inl ?hy68⟩) ?r_68
               case hy68=>(intro w' kk ss; obtain⟨x0,x1,x2,x3⟩:=bx4 (BC.out _ (t7.out.trans (hr0.trans kk))); obtain⟨p0,p1,p2,p3⟩:=bx4 (BM.out _ (t7.out.trans (hr0.trans kk))); obtain⟨u0,u1⟩:=HC.out _ (ka.out.trans (t7.out.trans (hr0.trans kk))); go_simp; first | done | with_reducible rfl)
               try simp only[Act.put,Reg.l1,Reg.l2,Reg.l3]
               refine' Reg.tk3 (i := 8) (v := _) (some 85) [9, 10, 11, 12, 13] [] rfl (Or.inl ⟨by rfl, Or.inl ?hy69⟩) ?r_69
               case hy69=>(intro w' kk ss; obtain⟨x0,x1,x2,x3⟩:=bx4 (BC.out _ (t7.out.trans (hr0.trans kk))); obtain⟨p0,p1,p2,p3⟩:=bx4 (BM.out _ (t7.out.trans (hr0.trans kk))); obtain⟨u0,u1⟩:=HC.out _ (ka.out.trans (t7.out.trans (hr0.trans kk))); go_simp; first | done | with_reducible rfl)
               try simp only[Act.put,Reg.l1,Reg.l2,Reg.l3]
               refine' Reg.tk3 (i := 9) (v := _) (some 86) [10, 11, 12, 13] [] rfl (Or.inl ⟨by rfl, Or.inl ?hy70⟩) ?r_70
               case hy70=>(intro w' kk ss; obtain⟨x0,x1,x2,x3⟩:=bx4 (BC.out _ (t7.out.trans (hr0.trans kk))); obtain⟨p0,p1,p2,p3⟩:=bx4 (BM.out _ (t7.out.trans (hr0.trans kk))); obtain⟨u0,u1⟩:=HC.out _ (ka.out.trans (t7.out.trans (hr0.trans kk))); go_simp; first | done | with_reducible rfl)
               try simp only[Act.put,Reg.l1,Reg.l2,Reg.l3]
               refine' Reg.tk3 (i := 10) (v := _) (some 87) [11, 12, 13] [] rfl (Or.inl ⟨by rfl, Or.inl ?hy71⟩) ?r_71
               case hy71=>(intro w' kk ss; obtain⟨x0,x1,x2,x3⟩:=bx4 (BC.out _ (t7.out.trans (hr0.trans kk))); obtain⟨p0,p1,p2,p3⟩:=bx4 (BM.out _ (t7.out.trans (hr0.trans kk))); obtain⟨u0,u1⟩:=HC.out _ (ka.out.trans (t7.out.trans (hr0.trans kk))); go_simp; first | done | with_reducible rfl)
               try simp only[Act.put,Reg.l1,Reg.l2,Reg.l3]
               refine' Reg.tk3 (i := 11) (v := _) (some 88) [12, 13] [] rfl (Or.inl ⟨by rfl, Or.inl ?hy72⟩) ?r_72
               case hy72=>(intro w' kk ss; obtain⟨x0,x1,x2,x3⟩:=bx4 (BC.out _ (t7.out.trans (hr0.trans kk))); obtain⟨p0,p1,p2,p3⟩:=bx4 (BM.out _ (t7.out.trans (hr0.trans kk))); obtain⟨u0,u1⟩:=HC.out _ (ka.out.trans (t7.out.trans (hr0.trans kk))); go_simp; first | done | with_reducible rfl)
               try simp only[Act.put,Reg.l1,Reg.l2,Reg.l3]
               refine Reg.tk3 (i := 12) (v := .bool R) (some 89) [13] [] rfl (Or.inl ⟨by rfl, Or.inr ⟨196, #[.slice B2 p d2], fun w' kk ss => ⟨?_, ?_⟩⟩⟩) ?_
               · (try dsimp only at ss); go_simp
               · exact TA.out w' (ka.out.trans (t7.out.trans (hr0.trans kk)))
               try simp only[Act.put,Reg.l1,Reg.l2,Reg.l3]
               refine' Reg.tk3 (i := 13) (v := _) (some 4) [] [] rfl (Or.inl ⟨by rfl, Or.inl ?hy73⟩) ?r_73
               case hy73=>(intro w' kk ss; obtain⟨x0,x1,x2,x3⟩:=bx4 (BC.out _ (t7.out.trans (hr0.trans kk))); obtain⟨p0,p1,p2,p3⟩:=bx4 (BM.out _ (t7.out.trans (hr0.trans kk))); obtain⟨u0,u1⟩:=HC.out _ (ka.out.trans (t7.out.trans (hr0.trans kk))); go_simp; first | done | with_reducible rfl)
               try simp only[Act.put,Reg.l1,Reg.l2,Reg.l3]
               refine Reg.wpG_done (by kernel_rfl) (fun we ke se => ?_) _
               refine NoPanic.normal ?_
               have hr0:=hr0.trans ke
               clear ke
               go_wp2
               go_ret
               exact⟨rfl,ka.out.trans (t7.out.trans hr0)⟩
             · go_wp2
               have hr0:Since w9 w9.drew:=Since.drew (Since.refl w9)
               refine wp_region_noPanic ?_
               refine Reg.wp_region_G (S:=fun _=>True) (fun j => [].contains j) (by kernel_rfl) trivial ?_
               refine' Reg.tk3 (i := 0) (v := _) (some 77) [1, 10, 11, 12, 13] [] rfl (Or.inl ⟨by rfl, Or.inl ?hy75⟩) ?r_75
               case hy75=>(intro w' kk ss; obtain⟨x0,x1,x2,x3⟩:=bx4 (BC.out _ (t7.out.trans (hr0.trans kk))); obtain⟨p0,p1,p2,p3⟩:=bx4 (BM.out _ (t7.out.trans (hr0.trans kk))); obtain⟨u0,u1⟩:=HC.out _ (ka.out.trans (t7.out.trans (hr0.trans kk))); go_simp; first | done | with_reducible rfl)
               try simp only[Act.put,Reg.l1,Reg.l2,Reg.l3]
               refine' Reg.tk3 (i := 1) (v := _) (some 78) [10, 11, 12, 13] [] rfl (Or.inl ⟨by rfl, Or.inl ?hy76⟩) ?r_76
               case hy76=>(intro w' kk ss; obtain⟨x0,x1,x2,x3⟩:=bx4 (BC.out _ (t7.out.trans (hr0.trans kk))); obtain⟨p0,p1,p2,p3⟩:=bx4 (BM.out _ (t7.out.trans (hr0.trans kk))); obtain⟨u0,u1⟩:=HC.out _ (ka.out.trans (t7.out.trans (hr0.trans kk))); go_simp; first | done | with_reducible rfl)
               try simp only[Act.put,Reg.l1,Reg.l2,Reg.l3]
               refine' Reg.tk3 (i := 2) (v := _) (some 79) [3, 8, 9, 10, 11, 12, 13] [] rfl (Or.inl ⟨by rfl, Or.inl ?hy77⟩) ?r_77
               case hy77=>(intro w' kk ss; obtain⟨x0,x1,x2,x3⟩:=bx4 (BC.out _ (t7.out.trans (hr0.trans kk))); obtain⟨p0,p1,p2,p3⟩:=bx4 (BM.out _ (t7.out.trans (hr0.trans kk))); obtain⟨u0,u1⟩:=HC.out _ (ka.out.trans (t7.out.trans (hr0.trans kk))); go_simp; first | done | with_reducible rfl)
               try simp only[Act.put,Reg.l1,Reg.l2,Reg.l3]
               refine' Reg.tk3 (i := 3) (v := _) (some 80) [8, 9, 10, 11, 12, 13] [] rfl (Or.inl ⟨by rfl, Or.inl ?hy78⟩) ?r_78
               case hy78=>(intro w' kk ss; obtain⟨x0,x1,x2,x3⟩:=bx4 (BC.out _ (t7.out.trans (hr0.trans kk))); obtain⟨p0,p1,p2,p3⟩:=bx4 (BM.out _ (t7.out.trans (hr0.trans kk))); obtain⟨u0,u1⟩:=HC.out _ (ka.out.trans (t7.out.trans (hr0.trans kk))); go_simp; first | done | with_reducible rfl)
               try simp only[Act.put,Reg.l1,Reg.l2,Reg.l3]
               refine' Reg.tk3 (i := 4) (v := _) (some 81) [5, 6, 7, 8, 9, 10, 11, 12, 13] [] rfl (Or.inl ⟨by rfl, Or.inl ?hy79⟩) ?r_79
               case hy79=>(intro w' kk ss; obtain⟨x0,x1,x2,x3⟩:=bx4 (BC.out _ (t7.out.trans (hr0.trans kk))); obtain⟨p0,p1,p2,p3⟩:=bx4 (BM.out _ (t7.out.trans (hr0.trans kk))); obtain⟨u0,u1⟩:=HC.out _ (ka.out.trans (t7.out.trans (hr0.trans kk))); go_simp; first | done | with_reducible rfl)
               try simp only[Act.put,Reg.l1,Reg.l2,Reg.l3]
               refine' Reg.tk3 (i := 5) (v := _) (some 82) [6, 7, 8, 9, 10, 11, 12, 13] [] rfl (Or.inl ⟨by rfl, Or.inl ?hy80⟩) ?r_80
               case hy80=>(intro w' kk ss; obtain⟨x0,x1,x2,x3⟩:=bx4 (BC.out _ (t7.out.trans (hr0.trans kk))); obtain⟨p0,p1,p2,p3⟩:=bx4 (BM.out _ (t7.out.trans (hr0.trans kk))); obtain⟨u0,u1⟩:=HC.out _ (ka.out.trans (t7.out.trans (hr0.trans kk))); go_simp; first | done | with_reducible rfl)
               try simp only[Act.put,Reg.l1,Reg.l2,Reg.l3]
               refine' Reg.tk3 (i := 6) (v := _) (some 83) [7, 8, 9, 10, 11, 12, 13] [] rfl (Or.inl ⟨by rfl, Or.inl ?hy81⟩) ?r_81
               case hy81=>(intro w' kk ss; obtain⟨x0,x1,x2,x3⟩:=bx4 (BC.out _ (t7.out.trans (hr0.trans kk))); obtain⟨p0,p1,p2,p3⟩:=bx4 (BM.out _ (t7.out.trans (hr0.trans kk))); obtain⟨u0,u1⟩:=HC.out _ (ka.out.trans (t7.out.trans (hr0.trans kk))); go_simp; first | done | with_reducible rfl)
               try simp only[Act.put,Reg.l1,Reg.l2,Reg.l3]
               refine' Reg.tk3 (i := 7) (v := _) (some 84) [8, 9, 10, 11, 12, 13] [] rfl (Or.inl ⟨by rfl, Or.inl ?hy82⟩) ?r_82
               case hy82=>(intro w' kk ss; obtain⟨x0,x1,x2,x3⟩:=bx4 (BC.out _ (t7.out.trans (hr0.trans kk))); obtain⟨p0,p1,p2,p3⟩:=bx4 (BM.out _ (t7.out.trans (hr0.trans kk))); obtain⟨u0,u1⟩:=HC.out _ (ka.out.trans (t7.out.trans (hr0.trans kk))); go_simp; first | done | with_reducible rfl)
               try simp only[Act.put,Reg.l1,Reg.l2,Reg.l3]
               refine' Reg.tk3 (i := 8) (v := _) (some 85) [9, 10, 11, 12, 13] [] rfl (Or.inl ⟨by rfl, Or.inl ?hy83⟩) ?r_83
               case hy83=>(intro w' kk ss; obtain⟨x0,x1,x2,x3⟩:=bx4 (BC.out _ (t7.out.trans (hr0.trans kk))); obtain⟨p0,p1,p2,p3⟩:=bx4 (BM.out _ (t7.out.trans (hr0.trans kk))); obtain⟨u0,u1⟩:=HC.out _ (ka.out.trans (t7.out.trans (hr0.trans kk))); go_simp; first | done | with_reducible rfl)
               try simp only[Act.put,Reg.l1,Reg.l2,Reg.l3]
               refine' Reg.tk3 (i := 9) (v := _) (some 86) [10, 11, 12, 13] [] rfl (Or.inl ⟨by rfl, Or.inl ?hy84⟩) ?r_84
               case hy84=>(intro w' kk ss; obtain⟨x0,x1,x2,x3⟩:=bx4 (BC.out _ (t7.out.trans (hr0.trans kk))); obtain⟨p0,p1,p2,p3⟩:=bx4 (BM.out _ (t7.out.trans (hr0.trans kk))); obtain⟨u0,u1⟩:=HC.out _ (ka.out.trans (t7.out.trans (hr0.trans kk))); go_simp; first | done | with_reducible rfl)
               try simp only[Act.put,Reg.l1,Reg.l2,Reg.l3]
               refine' Reg.tk3 (i := 10) (v := _) (some 87) [11, 12, 13] [] rfl (Or.inl ⟨by rfl, Or.inl ?hy85⟩) ?r_85
               case hy85=>(intro w' kk ss; obtain⟨x0,x1,x2,x3⟩:=bx4 (BC.out _ (t7.out.trans (hr0.trans kk))); obtain⟨p0,p1,p2,p3⟩:=bx4 (BM.out _ (t7.out.trans (hr0.trans kk))); obtain⟨u0,u1⟩:=HC.out _ (ka.out.trans (t7.out.trans (hr0.trans kk))); go_simp; first | done | with_reducible rfl)
               try simp only[Act.put,Reg.l1,Reg.l2,Reg.l3]
               refine' Reg.tk3 (i := 11) (v := _) (some 88) [12, 13] [] rfl (Or.inl ⟨by rfl, Or.inl ?hy86⟩) ?r_86
               case hy86=>(intro w' kk ss; obtain⟨x0,x1,x2,x3⟩:=bx4 (BC.out _ (t7.out.trans (hr0.trans kk))); obtain⟨p0,p1,p2,p3⟩:=bx4 (BM.out _ (t7.out.trans (hr0.trans kk))); obtain⟨u0,u1⟩:=HC.out _ (ka.out.trans (t7.out.trans (hr0.trans kk))); go_simp; first | done | with_reducible rfl)
               try simp only[Act.put,Reg.l1,Reg.l2,Reg.l3]
               refine Reg.tk3 (i := 12) (v := .bool R) (some 89) [13] [] rfl (Or.inl ⟨by rfl, Or.inr ⟨196, #[.slice B2 p d2], fun w' kk ss => ⟨?_, ?_⟩⟩⟩) ?_
               · (try dsimp only at ss); go_simp
               · exact TA.out w' (ka.out.trans (t7.out.trans (hr0.trans kk)))
               try simp only[Act.put,Reg.l1,Reg.l2,Reg.l3]
               refine' Reg.tk3 (i := 13) (v := _) (some 4) [] [] rfl (Or.inl ⟨by rfl, Or.inl ?hy87⟩) ?r_87
               case hy87=>(intro w' kk ss; obtain⟨x0,x1,x2,x3⟩:=bx4 (BC.out _ (t7.out.trans (hr0.trans kk))); obtain⟨p0,p1,p2,p3⟩:=bx4 (BM.out _ (t7.out.trans (hr0.trans kk))); obtain⟨u0,u1⟩:=HC.out _ (ka.out.trans (t7.out.trans (hr0.trans kk))); go_simp; first | done | with_reducible rfl)
               try simp only[Act.put,Reg.l1,Reg.l2,Reg.l3]
               refine Reg.wpG_done (by kernel_rfl) (fun we ke se => ?_) _
               refine NoPanic.normal ?_
               have hr0:=hr0.trans ke
               clear ke
               go_wp2
               go_ret
               exact⟨rfl,ka.out.trans (t7.out.trans hr0)⟩
           · by_cases k114:ck=11∨ck=12∨ck=13∨ck=14
             · have TT:=Lib.hid (show Calls Try.prog 197 #[.agg #[.slice D nd dc,.slice C nc cc',.int .i64 ask,.int .i64 goal],.slice X nx xc] w9 (RetT R w9) by
                have:=TS.out (.slice X nx xc) cx w9 (ka.out.trans t7.out) (H3.out.since stI (ka.out.trans t7.out)) HIN.out (by have:=HNX.out; omega)
                rw[show cx.all (fun y=>tru (domAt ds y))=R by rw[← HB.out,HBO.out,bools_all k114]] at this
                exact this)
               clear HB HIN HBO HOK TS
               rcases k114 with rfl | rfl | rfl | rfl
               all_goals go_wp2_with (go_at_call 197; (with_reducible refine TT.out.mono ?_); rintro e w10 ⟨rfl,k10⟩)
               all_goals go_ret
               all_goals exact⟨rfl,ka.out.trans (t7.out.trans k10)⟩
             · have E:=Lib.hid (show true=R by rw[← HB.out,HBO.out,bools_none k456 k114]; rfl)
               have nn:∀ j:Int,(j=4∨j=5∨j=6∨j=11∨j=12∨j=13∨j=14)→(ck == j)=false:=fun j hj=>by rw[beq_eq_false_iff_ne]; omega
               have n4:=nn 4 (by decide)
               have n5:=nn 5 (by decide)
               have n6:=nn 6 (by decide)
               have n11:=nn 11 (by decide)
               have n12:=nn 12 (by decide)
               have n13:=nn 13 (by decide)
               have n14:=nn 14 (by decide)
               clear nn k456 k114 HB HBO
               go_wp2
               go_ret
               exact .of E.out (ka.out.trans t7.out)
   · have z1:(cc != 0)=true:=by rw[bne_iff_ne]; exact z0
     cases q6:tak ck with
     | false =>
      have D6:=Lib.hid (NM.out false q6)
      have E:=Lib.hid (show false=R by rw[← HR.out,q6,decide_eq_false z0]; simp)
      clear HR
      go_enter Try.func141,Try.ntmps141
      go_wp2_with (first | (go_at_call 194; (with_reducible refine (D1.out _ ka.out).mono ?_); rintro e w1 ⟨rfl,k1⟩; have t1:=Lib.hid k1; clear k1; obtain⟨b0,b1,b2,b3⟩:=bx4 (BC.out _ t1.out); obtain⟨m0,m1,m2,m3⟩:=bx4 (BM.out _ t1.out)) | (go_at_call 136; (with_reducible refine (D5.out _).mono ?_); rintro e w5 ⟨rfl,rfl⟩) | (go_at_call 195; (with_reducible refine (D6.out _).mono ?_); rintro e w6 ⟨rfl,rfl⟩))
      go_ret
      exact .of E.out (ka.out.trans t1.out)
     | true =>
      have D6:=Lib.hid (NM.out true q6)
      have HR2:=Lib.hid (show (ca.all within && cx.all (isV nd) && BO)=R by rw[← HR.out,q1,q5,q6,decide_eq_true q3]; simp)
      clear z0 HR q6
      have hs1:shp ck nx na=true:=by rw[Bool.and_eq_true] at q1; exact q1.1
      have HS1:=Lib.hid hs1
      clear q1 q5 hs1 SH NM
      go_enter Try.func141,Try.ntmps141
      go_wp2_with (first | (go_at_call 194; (with_reducible refine (D1.out _ ka.out).mono ?_); rintro e w1 ⟨rfl,k1⟩; have t1:=Lib.hid k1; clear k1; obtain⟨b0,b1,b2,b3⟩:=bx4 (BC.out _ t1.out); obtain⟨m0,m1,m2,m3⟩:=bx4 (BM.out _ t1.out)) | (go_at_call 136; (with_reducible refine (D5.out _).mono ?_); rintro e w5 ⟨rfl,rfl⟩) | (go_at_call 195; (with_reducible refine (D6.out _).mono ?_); rintro e w6 ⟨rfl,rfl⟩))
      go_loopw [5] (fun i wr=>∃ k:Nat,i = .int .i64 (k:Int)∧k≤nx∧Hid (cx.all (isV nd)=(cx.drop k).all (isV nd))∧Hid (Since ((w.alloc (.cells #[.slice D nd dc,.slice C nc cc',.int .i64 ask,.int .i64 goal] 79)).alloc (.cells #[.int .i64 ck,.slice X nx xc,.slice Y na yc,.int .i64 cc] 25)) wr)) (fun i _=>nx - (intOf i).toNat)
      case atStart=>exact⟨0,rfl,Nat.zero_le _,rfl,t1.out⟩
      case round =>
       obtain⟨k,rfl,hk,HA,HW⟩:=hrel
       obtain⟨b0,b1,b2,b3⟩:=bx4 (BC.out _ HW.out)
       by_cases hkn:k<nx
       · have hkl:k<cx.length:=by have:=HNX.out; omega
         obtain⟨g,o,rfl,e0⟩:=elI (H3.out.since stI (ka.out.trans HW.out)) hkl
         have hsa:=HA.out
         rw[dropI hkl,List.all_cons] at hsa
         generalize cx[k]=y at *
         have SA:=Lib.hid hsa
         have HC:=Lib.hid (fun W (kk:Since wr W)=>(kk.cell _ (World.block_lt_of_cell? _ _ e0)).trans e0)
         clear hsa hkl HA e0
         by_cases y0:y<0
         · have E:=Lib.hid (show false=R by rw[← HR2.out,SA.out,show isV nd y=false by simp only[isV,Bool.and_eq_false_iff,decide_eq_false_iff_not]; omega]; simp)
           clear HR2 SA
           go_wp2
           have hr0:Since wr wr.drew:=Since.drew (Since.refl wr)
           refine wp_region_noPanic ?_
           refine Reg.wp_region_G (S:=fun _=>True) (fun j => [].contains j) (by kernel_rfl) trivial ?_
           refine' Reg.tk3 (i := 0) (v := _) (some 40) [1, 3, 4, 5, 6, 7, 8, 9, 10, 11, 12, 13, 14, 15, 16] [] rfl (Or.inl ⟨by rfl, Or.inl ?hy89⟩) ?r_89
           case hy89=>(intro w' kk ss; obtain⟨x0,x1,x2,x3⟩:=bx4 (BC.out _ (HW.out.trans (hr0.trans kk))); obtain⟨p0,p1,p2,p3⟩:=bx4 (BM.out _ (HW.out.trans (hr0.trans kk))); have u0:=HC.out _ (hr0.trans kk); go_simp; first | done | with_reducible rfl)
           try simp only[Act.put,Reg.l1,Reg.l2,Reg.l3]
           refine' Reg.tk3 (i := 1) (v := _) (some 41) [3, 4, 5, 6, 7, 8, 9, 10, 11, 12, 13, 14, 15, 16] [] rfl (Or.inl ⟨by rfl, Or.inl ?hy90⟩) ?r_90
           case hy90=>(intro w' kk ss; obtain⟨x0,x1,x2,x3⟩:=bx4 (BC.out _ (HW.out.trans (hr0.trans kk))); obtain⟨p0,p1,p2,p3⟩:=bx4 (BM.out _ (HW.out.trans (hr0.trans kk))); have u0:=HC.out _ (hr0.trans kk); go_simp; first | done | with_reducible rfl)
           try simp only[Act.put,Reg.l1,Reg.l2,Reg.l3]
           refine' Reg.tk3 (i := 2) (v := _) (some 42) [3, 4, 5, 6, 7, 8, 9, 10, 11, 12, 13, 14, 15, 16] [] rfl (Or.inl ⟨by rfl, Or.inl ?hy91⟩) ?r_91
           case hy91=>(intro w' kk ss; obtain⟨x0,x1,x2,x3⟩:=bx4 (BC.out _ (HW.out.trans (hr0.trans kk))); obtain⟨p0,p1,p2,p3⟩:=bx4 (BM.out _ (HW.out.trans (hr0.trans kk))); have u0:=HC.out _ (hr0.trans kk); go_simp; first | done | with_reducible rfl)
           try simp only[Act.put,Reg.l1,Reg.l2,Reg.l3]
           refine' Reg.tk3 (i := 3) (v := _) (some 43) [4, 5, 6, 7, 8, 9, 10, 11, 12, 13, 14, 15, 16] [] rfl (Or.inl ⟨by rfl, Or.inl ?hy92⟩) ?r_92
           case hy92=>(intro w' kk ss; obtain⟨x0,x1,x2,x3⟩:=bx4 (BC.out _ (HW.out.trans (hr0.trans kk))); obtain⟨p0,p1,p2,p3⟩:=bx4 (BM.out _ (HW.out.trans (hr0.trans kk))); have u0:=HC.out _ (hr0.trans kk); go_simp; first | done | with_reducible rfl)
           try simp only[Act.put,Reg.l1,Reg.l2,Reg.l3]
           refine' Reg.tk3 (i := 4) (v := _) (some 44) [5, 6, 7, 8, 9, 10, 11, 12, 13, 14, 15, 16] [] rfl (Or.inl ⟨by rfl, Or.inl ?hy93⟩) ?r_93
           case hy93=>(intro w' kk ss; obtain⟨x0,x1,x2,x3⟩:=bx4 (BC.out _ (HW.out.trans (hr0.trans kk))); obtain⟨p0,p1,p2,p3⟩:=bx4 (BM.out _ (HW.out.trans (hr0.trans kk))); have u0:=HC.out _ (hr0.trans kk); go_simp; first | done | with_reducible rfl)
           try simp only[Act.put,Reg.l1,Reg.l2,Reg.l3]
           refine' Reg.tk3 (i := 5) (v := _) (some 45) [6, 7, 8, 9, 10, 11, 12, 13, 14, 15, 16] [] rfl (Or.inl ⟨by rfl, Or.inl ?hy94⟩) ?r_94
           case hy94=>(intro w' kk ss; obtain⟨x0,x1,x2,x3⟩:=bx4 (BC.out _ (HW.out.trans (hr0.trans kk))); obtain⟨p0,p1,p2,p3⟩:=bx4 (BM.out _ (HW.out.trans (hr0.trans kk))); have u0:=HC.out _ (hr0.trans kk); go_simp; first | done | with_reducible rfl)
           try simp only[Act.put,Reg.l1,Reg.l2,Reg.l3]
           refine' Reg.tk3 (i := 6) (v := _) (some 46) [7, 8, 9, 10, 11, 12, 13, 14, 15, 16] [] rfl (Or.inl ⟨by rfl, Or.inl ?hy95⟩) ?r_95
           case hy95=>(intro w' kk ss; obtain⟨x0,x1,x2,x3⟩:=bx4 (BC.out _ (HW.out.trans (hr0.trans kk))); obtain⟨p0,p1,p2,p3⟩:=bx4 (BM.out _ (HW.out.trans (hr0.trans kk))); have u0:=HC.out _ (hr0.trans kk); go_simp; first | done | with_reducible rfl)
           try simp only[Act.put,Reg.l1,Reg.l2,Reg.l3]
           refine Reg.tk3 (i := 7) (v := undef) (some 47) [8, 10, 11, 15, 16] [] rfl (Or.inr ⟨by rfl, rfl⟩) ?_
           try simp only[Act.put,Reg.l1,Reg.l2,Reg.l3]
           refine Reg.tk3 (i := 8) (v := undef) (some 48) [10, 11, 15, 16] [] rfl (Or.inr ⟨by rfl, rfl⟩) ?_
           try simp only[Act.put,Reg.l1,Reg.l2,Reg.l3]
           refine Reg.tk3 (i := 9) (v := undef) (some 49) [10, 11, 15, 16] [] rfl (Or.inr ⟨by rfl, rfl⟩) ?_
           try simp only[Act.put,Reg.l1,Reg.l2,Reg.l3]
           refine Reg.tk3 (i := 10) (v := undef) (some 50) [11, 15, 16] [] rfl (Or.inr ⟨by rfl, rfl⟩) ?_
           try simp only[Act.put,Reg.l1,Reg.l2,Reg.l3]
           refine Reg.tk3 (i := 11) (v := undef) (some 51) [15, 16] [] rfl (Or.inr ⟨by rfl, rfl⟩) ?_
           try simp only[Act.put,Reg.l1,Reg.l2,Reg.l3]
           refine Reg.tk3 (i := 12) (v := undef) (some 52) [13, 14, 15, 16] [] rfl (Or.inr ⟨by rfl, rfl⟩) ?_
           try simp only[Act.put,Reg.l1,Reg.l2,Reg.l3]
           refine Reg.tk3 (i := 13) (v := undef) (some 53) [14, 15, 16] [] rfl (Or.inr ⟨by rfl, rfl⟩) ?_
           try simp only[Act.put,Reg.l1,Reg.l2,Reg.l3]
           refine Reg.tk3 (i := 14) (v := undef) (some 54) [15, 16] [] rfl (Or.inr ⟨by rfl, rfl⟩) ?_
           try simp only[Act.put,Reg.l1,Reg.l2,Reg.l3]
           refine Reg.tk3 (i := 15) (v := undef) (some 55) [16] [] rfl (Or.inr ⟨by rfl, rfl⟩) ?_
           try simp only[Act.put,Reg.l1,Reg.l2,Reg.l3]
           refine' Reg.tk3 (i := 16) (v := _) (some 56) [] [] rfl (Or.inl ⟨by rfl, Or.inl ?hy96⟩) ?r_96
           case hy96=>(intro w' kk ss; obtain⟨x0,x1,x2,x3⟩:=bx4 (BC.out _ (HW.out.trans (hr0.trans kk))); obtain⟨p0,p1,p2,p3⟩:=bx4 (BM.out _ (HW.out.trans (hr0.trans kk))); have u0:=HC.out _ (hr0.trans kk); go_simp; first | done | with_reducible rfl)
           try simp only[Act.put,Reg.l1,Reg.l2,Reg.l3]
           refine Reg.wpG_done (by kernel_rfl) (fun we ke se => ?_) _
           refine NoPanic.normal ?_
           have hr0:=hr0.trans ke
           clear ke
           go_wp2
           go_ret
           exact .of E.out (ka.out.trans (HW.out.trans hr0))
         · by_cases y1:y ≥ (nd:Int)
           · have E:=Lib.hid (show false=R by rw[← HR2.out,SA.out,show isV nd y=false by simp only[isV,Bool.and_eq_false_iff,decide_eq_false_iff_not]; omega]; simp)
             have zz:decide (y<0)=false:=decide_eq_false y0
             clear HR2 SA
             go_wp2
             have hr0:Since wr wr.drew:=Since.drew (Since.refl wr)
             refine wp_region_noPanic ?_
             refine Reg.wp_region_G (S:=fun _=>True) (fun j => [].contains j) (by kernel_rfl) trivial ?_
             refine' Reg.tk3 (i := 0) (v := _) (some 40) [1, 3, 4, 5, 6, 7, 8, 9, 10, 11, 12, 13, 14, 15, 16] [] rfl (Or.inl ⟨by rfl, Or.inl ?hy98⟩) ?r_98
             case hy98=>(intro w' kk ss; obtain⟨x0,x1,x2,x3⟩:=bx4 (BC.out _ (HW.out.trans (hr0.trans kk))); obtain⟨p0,p1,p2,p3⟩:=bx4 (BM.out _ (HW.out.trans (hr0.trans kk))); have u0:=HC.out _ (hr0.trans kk); go_simp; first | done | with_reducible rfl)
             try simp only[Act.put,Reg.l1,Reg.l2,Reg.l3]
             refine' Reg.tk3 (i := 1) (v := _) (some 41) [3, 4, 5, 6, 7, 8, 9, 10, 11, 12, 13, 14, 15, 16] [] rfl (Or.inl ⟨by rfl, Or.inl ?hy99⟩) ?r_99
             case hy99=>(intro w' kk ss; obtain⟨x0,x1,x2,x3⟩:=bx4 (BC.out _ (HW.out.trans (hr0.trans kk))); obtain⟨p0,p1,p2,p3⟩:=bx4 (BM.out _ (HW.out.trans (hr0.trans kk))); have u0:=HC.out _ (hr0.trans kk); go_simp; first | done | with_reducible rfl)
             try simp only[Act.put,Reg.l1,Reg.l2,Reg.l3]
             refine' Reg.tk3 (i := 2) (v := _) (some 42) [3, 4, 5, 6, 7, 8, 9, 10, 11, 12, 13, 14, 15, 16] [] rfl (Or.inl ⟨by rfl, Or.inl ?hy100⟩) ?r_100
             case hy100=>(intro w' kk ss; obtain⟨x0,x1,x2,x3⟩:=bx4 (BC.out _ (HW.out.trans (hr0.trans kk))); obtain⟨p0,p1,p2,p3⟩:=bx4 (BM.out _ (HW.out.trans (hr0.trans kk))); have u0:=HC.out _ (hr0.trans kk); go_simp; first | done | with_reducible rfl)
             try simp only[Act.put,Reg.l1,Reg.l2,Reg.l3]
             refine' Reg.tk3 (i := 3) (v := _) (some 43) [4, 5, 6, 7, 8, 9, 10, 11, 12, 13, 14, 15, 16] [] rfl (Or.inl ⟨by rfl, Or.inl ?hy101⟩) ?r_101
             case hy101=>(intro w' kk ss; obtain⟨x0,x1,x2,x3⟩:=bx4 (BC.out _ (HW.out.trans (hr0.trans kk))); obtain⟨p0,p1,p2,p3⟩:=bx4 (BM.out _ (HW.out.trans (hr0.trans kk))); have u0:=HC.out _ (hr0.trans kk); go_simp; first | done | with_reducible rfl)
             try simp only[Act.put,Reg.l1,Reg.l2,Reg.l3]
             refine' Reg.tk3 (i := 4) (v := _) (some 44) [5, 6, 7, 8, 9, 10, 11, 12, 13, 14, 15, 16] [] rfl (Or.inl ⟨by rfl, Or.inl ?hy102⟩) ?r_102
             case hy102=>(intro w' kk ss; obtain⟨x0,x1,x2,x3⟩:=bx4 (BC.out _ (HW.out.trans (hr0.trans kk))); obtain⟨p0,p1,p2,p3⟩:=bx4 (BM.out _ (HW.out.trans (hr0.trans kk))); have u0:=HC.out _ (hr0.trans kk); go_simp; first | done | with_reducible rfl)
             try simp only[Act.put,Reg.l1,Reg.l2,Reg.l3]
             refine' Reg.tk3 (i := 5) (v := _) (some 45) [6, 7, 8, 9, 10, 11, 12, 13, 14, 15, 16] [] rfl (Or.inl ⟨by rfl, Or.inl ?hy103⟩) ?r_103
             case hy103=>(intro w' kk ss; obtain⟨x0,x1,x2,x3⟩:=bx4 (BC.out _ (HW.out.trans (hr0.trans kk))); obtain⟨p0,p1,p2,p3⟩:=bx4 (BM.out _ (HW.out.trans (hr0.trans kk))); have u0:=HC.out _ (hr0.trans kk); go_simp; first | done | with_reducible rfl)
             try simp only[Act.put,Reg.l1,Reg.l2,Reg.l3]
             refine' Reg.tk3 (i := 6) (v := _) (some 46) [7, 8, 9, 10, 11, 12, 13, 14, 15, 16] [] rfl (Or.inl ⟨by rfl, Or.inl ?hy104⟩) ?r_104
             case hy104=>(intro w' kk ss; obtain⟨x0,x1,x2,x3⟩:=bx4 (BC.out _ (HW.out.trans (hr0.trans kk))); obtain⟨p0,p1,p2,p3⟩:=bx4 (BM.out _ (HW.out.trans (hr0.trans kk))); have u0:=HC.out _ (hr0.trans kk); go_simp; first | done | with_reducible rfl)
             try simp only[Act.put,Reg.l1,Reg.l2,Reg.l3]
             refine' Reg.tk3 (i := 7) (v := _) (some 47) [8, 10, 11, 15, 16] [] rfl (Or.inl ⟨by rfl, Or.inl ?hy105⟩) ?r_105
             case hy105=>(intro w' kk ss; obtain⟨x0,x1,x2,x3⟩:=bx4 (BC.out _ (HW.out.trans (hr0.trans kk))); obtain⟨p0,p1,p2,p3⟩:=bx4 (BM.out _ (HW.out.trans (hr0.trans kk))); have u0:=HC.out _ (hr0.trans kk); go_simp; first | done | with_reducible rfl)
             try simp only[Act.put,Reg.l1,Reg.l2,Reg.l3]
             refine' Reg.tk3 (i := 8) (v := _) (some 48) [10, 11, 15, 16] [] rfl (Or.inl ⟨by rfl, Or.inl ?hy106⟩) ?r_106
             case hy106=>(intro w' kk ss; obtain⟨x0,x1,x2,x3⟩:=bx4 (BC.out _ (HW.out.trans (hr0.trans kk))); obtain⟨p0,p1,p2,p3⟩:=bx4 (BM.out _ (HW.out.trans (hr0.trans kk))); have u0:=HC.out _ (hr0.trans kk); go_simp; first | done | with_reducible rfl)
             try simp only[Act.put,Reg.l1,Reg.l2,Reg.l3]
             refine' Reg.tk3 (i := 9) (v := _) (some 49) [10, 11, 15, 16] [] rfl (Or.inl ⟨by rfl, Or.inl ?hy107⟩) ?r_107
             case hy107=>(intro w' kk ss; obtain⟨x0,x1,x2,x3⟩:=bx4 (BC.out _ (HW.out.trans (hr0.trans kk))); obtain⟨p0,p1,p2,p3⟩:=bx4 (BM.out _ (HW.out.trans (hr0.trans kk))); have u0:=HC.out _ (hr0.trans kk); go_simp; first | done | with_reducible rfl)
             try simp only[Act.put,Reg.l1,Reg.l2,Reg.l3]
             refine' Reg.tk3 (i := 10) (v := _) (some 50) [11, 15, 16] [] rfl (Or.inl ⟨by rfl, Or.inl ?hy108⟩) ?r_108
             case hy108=>(intro w' kk ss; obtain⟨x0,x1,x2,x3⟩:=bx4 (BC.out _ (HW.out.trans (hr0.trans kk))); obtain⟨p0,p1,p2,p3⟩:=bx4 (BM.out _ (HW.out.trans (hr0.trans kk))); have u0:=HC.out _ (hr0.trans kk); go_simp; first | done | with_reducible rfl)
             try simp only[Act.put,Reg.l1,Reg.l2,Reg.l3]
             refine' Reg.tk3 (i := 11) (v := _) (some 51) [15, 16] [] rfl (Or.inl ⟨by rfl, Or.inl ?hy109⟩) ?r_109
             case hy109=>(intro w' kk ss; obtain⟨x0,x1,x2,x3⟩:=bx4 (BC.out _ (HW.out.trans (hr0.trans kk))); obtain⟨p0,p1,p2,p3⟩:=bx4 (BM.out _ (HW.out.trans (hr0.trans kk))); have u0:=HC.out _ (hr0.trans kk); go_simp; first | done | with_reducible rfl)
             try simp only[Act.put,Reg.l1,Reg.l2,Reg.l3]
             refine' Reg.tk3 (i := 12) (v := _) (some 52) [13, 14, 15, 16] [] rfl (Or.inl ⟨by rfl, Or.inl ?hy110⟩) ?r_110
             case hy110=>(intro w' kk ss; obtain⟨x0,x1,x2,x3⟩:=bx4 (BC.out _ (HW.out.trans (hr0.trans kk))); obtain⟨p0,p1,p2,p3⟩:=bx4 (BM.out _ (HW.out.trans (hr0.trans kk))); have u0:=HC.out _ (hr0.trans kk); go_simp; first | done | with_reducible rfl)
             try simp only[Act.put,Reg.l1,Reg.l2,Reg.l3]
             refine' Reg.tk3 (i := 13) (v := _) (some 53) [14, 15, 16] [] rfl (Or.inl ⟨by rfl, Or.inl ?hy111⟩) ?r_111
             case hy111=>(intro w' kk ss; obtain⟨x0,x1,x2,x3⟩:=bx4 (BC.out _ (HW.out.trans (hr0.trans kk))); obtain⟨p0,p1,p2,p3⟩:=bx4 (BM.out _ (HW.out.trans (hr0.trans kk))); have u0:=HC.out _ (hr0.trans kk); go_simp; first | done | with_reducible rfl)
             try simp only[Act.put,Reg.l1,Reg.l2,Reg.l3]
             refine' Reg.tk3 (i := 14) (v := _) (some 54) [15, 16] [] rfl (Or.inl ⟨by rfl, Or.inl ?hy112⟩) ?r_112
             case hy112=>(intro w' kk ss; obtain⟨x0,x1,x2,x3⟩:=bx4 (BC.out _ (HW.out.trans (hr0.trans kk))); obtain⟨p0,p1,p2,p3⟩:=bx4 (BM.out _ (HW.out.trans (hr0.trans kk))); have u0:=HC.out _ (hr0.trans kk); go_simp; first | done | with_reducible rfl)
             try simp only[Act.put,Reg.l1,Reg.l2,Reg.l3]
             refine' Reg.tk3 (i := 15) (v := _) (some 55) [16] [] rfl (Or.inl ⟨by rfl, Or.inl ?hy113⟩) ?r_113
             case hy113=>(intro w' kk ss; obtain⟨x0,x1,x2,x3⟩:=bx4 (BC.out _ (HW.out.trans (hr0.trans kk))); obtain⟨p0,p1,p2,p3⟩:=bx4 (BM.out _ (HW.out.trans (hr0.trans kk))); have u0:=HC.out _ (hr0.trans kk); go_simp; first | done | with_reducible rfl)
             try simp only[Act.put,Reg.l1,Reg.l2,Reg.l3]
             refine' Reg.tk3 (i := 16) (v := _) (some 56) [] [] rfl (Or.inl ⟨by rfl, Or.inl ?hy114⟩) ?r_114
             case hy114=>(intro w' kk ss; obtain⟨x0,x1,x2,x3⟩:=bx4 (BC.out _ (HW.out.trans (hr0.trans kk))); obtain⟨p0,p1,p2,p3⟩:=bx4 (BM.out _ (HW.out.trans (hr0.trans kk))); have u0:=HC.out _ (hr0.trans kk); go_simp; first | done | with_reducible rfl)
             try simp only[Act.put,Reg.l1,Reg.l2,Reg.l3]
             refine Reg.wpG_done (by kernel_rfl) (fun we ke se => ?_) _
             refine NoPanic.normal ?_
             have hr0:=hr0.trans ke
             clear ke
             go_wp2
             go_ret
             exact .of E.out (ka.out.trans (HW.out.trans hr0))
           · have HA2:=Lib.hid (show cx.all (isV nd)=(cx.drop (k+1)).all (isV nd) by have:=SA.out; rw[show isV nd y=true by simp only[isV,Bool.and_eq_true,decide_eq_true_eq]; omega,Bool.true_and] at this; exact this)
             have zz:decide (y<0)=false:=decide_eq_false y0
             have zy:decide ((nd:Int)≤y)=false:=decide_eq_false y1
             clear SA
             go_wp2
             have hr0:Since wr wr.drew:=Since.drew (Since.refl wr)
             refine wp_region_noPanic ?_
             refine Reg.wp_region_G (S:=fun _=>True) (fun j => [].contains j) (by kernel_rfl) trivial ?_
             refine' Reg.tk3 (i := 0) (v := _) (some 40) [1, 3, 4, 5, 6, 7, 8, 9, 10, 11, 12, 13, 14, 15, 16] [] rfl (Or.inl ⟨by rfl, Or.inl ?hy116⟩) ?r_116
             case hy116=>(intro w' kk ss; obtain⟨x0,x1,x2,x3⟩:=bx4 (BC.out _ (HW.out.trans (hr0.trans kk))); obtain⟨p0,p1,p2,p3⟩:=bx4 (BM.out _ (HW.out.trans (hr0.trans kk))); have u0:=HC.out _ (hr0.trans kk); go_simp; first | done | with_reducible rfl)
             try simp only[Act.put,Reg.l1,Reg.l2,Reg.l3]
             refine' Reg.tk3 (i := 1) (v := _) (some 41) [3, 4, 5, 6, 7, 8, 9, 10, 11, 12, 13, 14, 15, 16] [] rfl (Or.inl ⟨by rfl, Or.inl ?hy117⟩) ?r_117
             case hy117=>(intro w' kk ss; obtain⟨x0,x1,x2,x3⟩:=bx4 (BC.out _ (HW.out.trans (hr0.trans kk))); obtain⟨p0,p1,p2,p3⟩:=bx4 (BM.out _ (HW.out.trans (hr0.trans kk))); have u0:=HC.out _ (hr0.trans kk); go_simp; first | done | with_reducible rfl)
             try simp only[Act.put,Reg.l1,Reg.l2,Reg.l3]
             refine' Reg.tk3 (i := 2) (v := _) (some 42) [3, 4, 5, 6, 7, 8, 9, 10, 11, 12, 13, 14, 15, 16] [] rfl (Or.inl ⟨by rfl, Or.inl ?hy118⟩) ?r_118
             case hy118=>(intro w' kk ss; obtain⟨x0,x1,x2,x3⟩:=bx4 (BC.out _ (HW.out.trans (hr0.trans kk))); obtain⟨p0,p1,p2,p3⟩:=bx4 (BM.out _ (HW.out.trans (hr0.trans kk))); have u0:=HC.out _ (hr0.trans kk); go_simp; first | done | with_reducible rfl)
             try simp only[Act.put,Reg.l1,Reg.l2,Reg.l3]
             refine' Reg.tk3 (i := 3) (v := _) (some 43) [4, 5, 6, 7, 8, 9, 10, 11, 12, 13, 14, 15, 16] [] rfl (Or.inl ⟨by rfl, Or.inl ?hy119⟩) ?r_119
             case hy119=>(intro w' kk ss; obtain⟨x0,x1,x2,x3⟩:=bx4 (BC.out _ (HW.out.trans (hr0.trans kk))); obtain⟨p0,p1,p2,p3⟩:=bx4 (BM.out _ (HW.out.trans (hr0.trans kk))); have u0:=HC.out _ (hr0.trans kk); go_simp; first | done | with_reducible rfl)
             try simp only[Act.put,Reg.l1,Reg.l2,Reg.l3]
             refine' Reg.tk3 (i := 4) (v := _) (some 44) [5, 6, 7, 8, 9, 10, 11, 12, 13, 14, 15, 16] [] rfl (Or.inl ⟨by rfl, Or.inl ?hy120⟩) ?r_120
             case hy120=>(intro w' kk ss; obtain⟨x0,x1,x2,x3⟩:=bx4 (BC.out _ (HW.out.trans (hr0.trans kk))); obtain⟨p0,p1,p2,p3⟩:=bx4 (BM.out _ (HW.out.trans (hr0.trans kk))); have u0:=HC.out _ (hr0.trans kk); go_simp; first | done | with_reducible rfl)
             try simp only[Act.put,Reg.l1,Reg.l2,Reg.l3]
             refine' Reg.tk3 (i := 5) (v := _) (some 45) [6, 7, 8, 9, 10, 11, 12, 13, 14, 15, 16] [] rfl (Or.inl ⟨by rfl, Or.inl ?hy121⟩) ?r_121
             case hy121=>(intro w' kk ss; obtain⟨x0,x1,x2,x3⟩:=bx4 (BC.out _ (HW.out.trans (hr0.trans kk))); obtain⟨p0,p1,p2,p3⟩:=bx4 (BM.out _ (HW.out.trans (hr0.trans kk))); have u0:=HC.out _ (hr0.trans kk); go_simp; first | done | with_reducible rfl)
             try simp only[Act.put,Reg.l1,Reg.l2,Reg.l3]
             refine' Reg.tk3 (i := 6) (v := _) (some 46) [7, 8, 9, 10, 11, 12, 13, 14, 15, 16] [] rfl (Or.inl ⟨by rfl, Or.inl ?hy122⟩) ?r_122
             case hy122=>(intro w' kk ss; obtain⟨x0,x1,x2,x3⟩:=bx4 (BC.out _ (HW.out.trans (hr0.trans kk))); obtain⟨p0,p1,p2,p3⟩:=bx4 (BM.out _ (HW.out.trans (hr0.trans kk))); have u0:=HC.out _ (hr0.trans kk); go_simp; first | done | with_reducible rfl)
             try simp only[Act.put,Reg.l1,Reg.l2,Reg.l3]
             refine' Reg.tk3 (i := 7) (v := _) (some 47) [8, 10, 11, 15, 16] [] rfl (Or.inl ⟨by rfl, Or.inl ?hy123⟩) ?r_123
             case hy123=>(intro w' kk ss; obtain⟨x0,x1,x2,x3⟩:=bx4 (BC.out _ (HW.out.trans (hr0.trans kk))); obtain⟨p0,p1,p2,p3⟩:=bx4 (BM.out _ (HW.out.trans (hr0.trans kk))); have u0:=HC.out _ (hr0.trans kk); go_simp; first | done | with_reducible rfl)
             try simp only[Act.put,Reg.l1,Reg.l2,Reg.l3]
             refine' Reg.tk3 (i := 8) (v := _) (some 48) [10, 11, 15, 16] [] rfl (Or.inl ⟨by rfl, Or.inl ?hy124⟩) ?r_124
             case hy124=>(intro w' kk ss; obtain⟨x0,x1,x2,x3⟩:=bx4 (BC.out _ (HW.out.trans (hr0.trans kk))); obtain⟨p0,p1,p2,p3⟩:=bx4 (BM.out _ (HW.out.trans (hr0.trans kk))); have u0:=HC.out _ (hr0.trans kk); go_simp; first | done | with_reducible rfl)
             try simp only[Act.put,Reg.l1,Reg.l2,Reg.l3]
             refine' Reg.tk3 (i := 9) (v := _) (some 49) [10, 11, 15, 16] [] rfl (Or.inl ⟨by rfl, Or.inl ?hy125⟩) ?r_125
             case hy125=>(intro w' kk ss; obtain⟨x0,x1,x2,x3⟩:=bx4 (BC.out _ (HW.out.trans (hr0.trans kk))); obtain⟨p0,p1,p2,p3⟩:=bx4 (BM.out _ (HW.out.trans (hr0.trans kk))); have u0:=HC.out _ (hr0.trans kk); go_simp; first | done | with_reducible rfl)
             try simp only[Act.put,Reg.l1,Reg.l2,Reg.l3]
             refine' Reg.tk3 (i := 10) (v := _) (some 50) [11, 15, 16] [] rfl (Or.inl ⟨by rfl, Or.inl ?hy126⟩) ?r_126
             case hy126=>(intro w' kk ss; obtain⟨x0,x1,x2,x3⟩:=bx4 (BC.out _ (HW.out.trans (hr0.trans kk))); obtain⟨p0,p1,p2,p3⟩:=bx4 (BM.out _ (HW.out.trans (hr0.trans kk))); have u0:=HC.out _ (hr0.trans kk); go_simp; first | done | with_reducible rfl)
             try simp only[Act.put,Reg.l1,Reg.l2,Reg.l3]
             refine' Reg.tk3 (i := 11) (v := _) (some 51) [15, 16] [] rfl (Or.inl ⟨by rfl, Or.inl ?hy127⟩) ?r_127
             case hy127=>(intro w' kk ss; obtain⟨x0,x1,x2,x3⟩:=bx4 (BC.out _ (HW.out.trans (hr0.trans kk))); obtain⟨p0,p1,p2,p3⟩:=bx4 (BM.out _ (HW.out.trans (hr0.trans kk))); have u0:=HC.out _ (hr0.trans kk); go_simp; first | done | with_reducible rfl)
             try simp only[Act.put,Reg.l1,Reg.l2,Reg.l3]
             refine' Reg.tk3 (i := 12) (v := _) (some 52) [13, 14, 15, 16] [] rfl (Or.inl ⟨by rfl, Or.inl ?hy128⟩) ?r_128
             case hy128=>(intro w' kk ss; obtain⟨x0,x1,x2,x3⟩:=bx4 (BC.out _ (HW.out.trans (hr0.trans kk))); obtain⟨p0,p1,p2,p3⟩:=bx4 (BM.out _ (HW.out.trans (hr0.trans kk))); have u0:=HC.out _ (hr0.trans kk); go_simp; first | done | with_reducible rfl)
             try simp only[Act.put,Reg.l1,Reg.l2,Reg.l3]
             refine' Reg.tk3 (i := 13) (v := _) (some 53) [14, 15, 16] [] rfl (Or.inl ⟨by rfl, Or.inl ?hy129⟩) ?r_129
             case hy129=>(intro w' kk ss; obtain⟨x0,x1,x2,x3⟩:=bx4 (BC.out _ (HW.out.trans (hr0.trans kk))); obtain⟨p0,p1,p2,p3⟩:=bx4 (BM.out _ (HW.out.trans (hr0.trans kk))); have u0:=HC.out _ (hr0.trans kk); go_simp; first | done | with_reducible rfl)
             try simp only[Act.put,Reg.l1,Reg.l2,Reg.l3]
             refine' Reg.tk3 (i := 14) (v := _) (some 54) [15, 16] [] rfl (Or.inl ⟨by rfl, Or.inl ?hy130⟩) ?r_130
             case hy130=>(intro w' kk ss; obtain⟨x0,x1,x2,x3⟩:=bx4 (BC.out _ (HW.out.trans (hr0.trans kk))); obtain⟨p0,p1,p2,p3⟩:=bx4 (BM.out _ (HW.out.trans (hr0.trans kk))); have u0:=HC.out _ (hr0.trans kk); go_simp; first | done | with_reducible rfl)
             try simp only[Act.put,Reg.l1,Reg.l2,Reg.l3]
             refine' Reg.tk3 (i := 15) (v := _) (some 55) [16] [] rfl (Or.inl ⟨by rfl, Or.inl ?hy131⟩) ?r_131
             case hy131=>(intro w' kk ss; obtain⟨x0,x1,x2,x3⟩:=bx4 (BC.out _ (HW.out.trans (hr0.trans kk))); obtain⟨p0,p1,p2,p3⟩:=bx4 (BM.out _ (HW.out.trans (hr0.trans kk))); have u0:=HC.out _ (hr0.trans kk); go_simp; first | done | with_reducible rfl)
             try simp only[Act.put,Reg.l1,Reg.l2,Reg.l3]
             refine' Reg.tk3 (i := 16) (v := _) (some 56) [] [] rfl (Or.inl ⟨by rfl, Or.inl ?hy132⟩) ?r_132
             case hy132=>(intro w' kk ss; obtain⟨x0,x1,x2,x3⟩:=bx4 (BC.out _ (HW.out.trans (hr0.trans kk))); obtain⟨p0,p1,p2,p3⟩:=bx4 (BM.out _ (HW.out.trans (hr0.trans kk))); have u0:=HC.out _ (hr0.trans kk); go_simp; first | done | with_reducible rfl)
             try simp only[Act.put,Reg.l1,Reg.l2,Reg.l3]
             refine Reg.wpG_done (by kernel_rfl) (fun we ke se => ?_) _
             refine NoPanic.normal ?_
             have hr0:=hr0.trans ke
             clear ke
             go_wp2
             go_roundw
             case rel=>exact⟨k+1,by go_num,by omega,HA2.out,HW.out.trans hr0⟩
             case measure=>simp[intOf]; omega
       · obtain rfl:nx=k:=by omega
         have hnil:cx.drop nx = []:=List.drop_of_length_le (by have:=HNX.out; omega)
         have HX1:=Lib.hid (show cx.all (isV nd)=true by rw[HA.out,hnil]; rfl)
         have HR3:=Lib.hid (show (ca.all within && BO)=R by rw[← HR2.out,HX1.out]; simp)
         clear hnil HA HR2
         rename World=>w7
         go_wp2
         go_loopw [6] (fun i wr=>∃ k:Nat,i = .int .i64 (k:Int)∧k≤na∧Hid (ca.all within=(ca.drop k).all within)∧Hid (Since w7 wr)) (fun i _=>na - (intOf i).toNat)
         case atStart=>exact⟨0,rfl,Nat.zero_le _,rfl,Since.refl _⟩
         case round =>
          obtain⟨i,rfl,hi,HA,HV⟩:=hrel
          have t7:=Lib.hid (HW.out.trans HV.out)
          obtain⟨b0,b1,b2,b3⟩:=bx4 (BC.out _ t7.out)
          by_cases hin:i<na
          · have hil:i<ca.length:=by have:=HNA.out; omega
            obtain⟨g,o,rfl,e0⟩:=elI (H4.out.since stI (ka.out.trans t7.out)) hil
            have hsa:=HA.out
            rw[dropI hil,List.all_cons] at hsa
            generalize ca[i]=y at *
            have SA:=Lib.hid hsa
            clear hsa hil HA
            cases hy:within y with
            | true =>
             have HA2:=Lib.hid (show ca.all within=(ca.drop (i+1)).all within by have:=SA.out; rw[hy,Bool.true_and] at this; exact this)
             have D7:=Lib.hid (WI.out y true hy)
             clear hy SA
             go_wp2_with (go_at_call 136; (with_reducible refine (D7.out _).mono ?_); rintro e w8 ⟨rfl,rfl⟩)
             go_roundw
             case rel=>exact⟨i+1,by go_num,by omega,HA2.out,HV.out⟩
             case measure=>simp[intOf]; omega
            | false =>
             have E:=Lib.hid (show false=R by rw[← HR3.out,SA.out,hy]; simp)
             have D7:=Lib.hid (WI.out y false hy)
             clear hy SA
             go_wp2_with (go_at_call 136; (with_reducible refine (D7.out _).mono ?_); rintro e w8 ⟨rfl,rfl⟩)
             go_ret
             exact .of E.out (ka.out.trans t7.out)
          · obtain rfl:na=i:=by omega
            have HB:=Lib.hid (show BO=R by rw[← HR3.out,HA.out,List.drop_of_length_le (by have:=HNA.out; omega)]; rfl)
            have HIN:=Lib.hid (List.all_eq_true.1 HX1.out)
            obtain⟨m0,m1,m2,m3⟩:=bx4 (BM.out _ t7.out)
            clear HA HR3 HX1
            rename World=>w9
            by_cases k456:ck=4∨ck=5∨ck=6
            · have hpos:=shp_pos HS1.out k456
              obtain⟨j,hj⟩:∃ j,nx=j+1:=⟨_,hpos⟩
              have hxj:cx.length=j+1:=by rw[← HNX.out,hj]
              have hB:BO=(tru (domAt ds (lastK cx)) && true):=by rw[HBO.out,bools_tail k456,tail_one hxj]; rfl
              have hX:=H3.out
              rw[hj] at hX
              obtain⟨g,o,rfl,e0⟩:=lastK_at hX
              have hin:isV nd (lastK cx)=true:=HIN.out _ (by have h:=tail_one hxj; exact List.mem_of_mem_drop (show lastK cx ∈ cx.drop (cx.length - 1) by rw[h]; simp))
              generalize lastK cx=y at *
              obtain⟨q,rfl,hq⟩:=isV_nat hin
              have hql:q<ds.length:=by have:=HND.out; omega
              obtain⟨g2,o2,B2,d2,rfl,S2,e2⟩:=elD H1.out hql
              rw[domAt_nat hql,Bool.and_true] at hB
              have hdo:=HOK.out _ (List.getElem_mem hql)
              generalize ds[q]=dq at *
              have TA:=Lib.hid (fun W kk=>truth_at S2 hdo (b:=R) (hB.symm.trans HB.out) W kk)
              obtain⟨p,hp⟩:∃ p,p=dq.length:=⟨_,rfl⟩
              rw[← hp] at e2 TA
              have HC:=Lib.hid (fun W (kk:Since w W)=>(show W.cell? ⟨g,o+j,none⟩=some (.int .i64 (q:Int))∧W.cell? ⟨g2,o2+q,none⟩=some (.slice B2 p d2) from⟨(kk.cell _ (World.block_lt_of_cell? _ _ e0)).trans e0,(kk.cell _ (World.block_lt_of_cell? _ _ e2)).trans e2⟩))
              clear hB hX e0 e2 hin hql S2 hdo hp hxj hpos HB HIN HOK
              subst hj
              have ej:((j+1:Nat):Int) - 1=(j:Int):=by omega
              have hjw:IntKind.i64.wrap ((j:Int)+1 - 1)=(j:Int):=by rw[show (j:Int)+1 - 1=(j:Int) by omega]; simp[IntKind.wrap,IntKind.bits,IntKind.signed]; omega
              have hjw2:IntKind.i64.wrap (j:Int)=(j:Int):=by simp[IntKind.wrap,IntKind.bits,IntKind.signed]; omega
              have hjn:(j:Int)<(j:Int)+1:=by omega
              rcases k456 with rfl | rfl | rfl
              · go_wp2
                have hr0:Since w9 w9.drew:=Since.drew (Since.refl w9)
                refine wp_region_noPanic ?_
                refine Reg.wp_region_G (S:=fun _=>True) (fun j => [].contains j) (by kernel_rfl) trivial ?_
                refine' Reg.tk3 (i := 0) (v := _) (some 77) [1, 10, 11, 12, 13] [] rfl (Or.inl ⟨by rfl, Or.inl ?hy134⟩) ?r_134
                case hy134=>(intro w' kk ss; obtain⟨x0,x1,x2,x3⟩:=bx4 (BC.out _ (t7.out.trans (hr0.trans kk))); obtain⟨p0,p1,p2,p3⟩:=bx4 (BM.out _ (t7.out.trans (hr0.trans kk))); obtain⟨u0,u1⟩:=HC.out _ (ka.out.trans (t7.out.trans (hr0.trans kk))); go_simp; first | done | with_reducible rfl)
                try simp only[Act.put,Reg.l1,Reg.l2,Reg.l3]
                refine' Reg.tk3 (i := 1) (v := _) (some 78) [10, 11, 12, 13] [] rfl (Or.inl ⟨by rfl, Or.inl ?hy135⟩) ?r_135
                case hy135=>(intro w' kk ss; obtain⟨x0,x1,x2,x3⟩:=bx4 (BC.out _ (t7.out.trans (hr0.trans kk))); obtain⟨p0,p1,p2,p3⟩:=bx4 (BM.out _ (t7.out.trans (hr0.trans kk))); obtain⟨u0,u1⟩:=HC.out _ (ka.out.trans (t7.out.trans (hr0.trans kk))); go_simp; first | done | with_reducible rfl)
                try simp only[Act.put,Reg.l1,Reg.l2,Reg.l3]
                refine' Reg.tk3 (i := 2) (v := _) (some 79) [3, 8, 9, 10, 11, 12, 13] [] rfl (Or.inl ⟨by rfl, Or.inl ?hy136⟩) ?r_136
                case hy136=>(intro w' kk ss; obtain⟨x0,x1,x2,x3⟩:=bx4 (BC.out _ (t7.out.trans (hr0.trans kk))); obtain⟨p0,p1,p2,p3⟩:=bx4 (BM.out _ (t7.out.trans (hr0.trans kk))); obtain⟨u0,u1⟩:=HC.out _ (ka.out.trans (t7.out.trans (hr0.trans kk))); go_simp; first | done | with_reducible rfl)
                try simp only[Act.put,Reg.l1,Reg.l2,Reg.l3]
                refine' Reg.tk3 (i := 3) (v := _) (some 80) [8, 9, 10, 11, 12, 13] [] rfl (Or.inl ⟨by rfl, Or.inl ?hy137⟩) ?r_137
                case hy137=>(intro w' kk ss; obtain⟨x0,x1,x2,x3⟩:=bx4 (BC.out _ (t7.out.trans (hr0.trans kk))); obtain⟨p0,p1,p2,p3⟩:=bx4 (BM.out _ (t7.out.trans (hr0.trans kk))); obtain⟨u0,u1⟩:=HC.out _ (ka.out.trans (t7.out.trans (hr0.trans kk))); go_simp; first | done | with_reducible rfl)
                try simp only[Act.put,Reg.l1,Reg.l2,Reg.l3]
                refine' Reg.tk3 (i := 4) (v := _) (some 81) [5, 6, 7, 8, 9, 10, 11, 12, 13] [] rfl (Or.inl ⟨by rfl, Or.inl ?hy138⟩) ?r_138
                case hy138=>(intro w' kk ss; obtain⟨x0,x1,x2,x3⟩:=bx4 (BC.out _ (t7.out.trans (hr0.trans kk))); obtain⟨p0,p1,p2,p3⟩:=bx4 (BM.out _ (t7.out.trans (hr0.trans kk))); obtain⟨u0,u1⟩:=HC.out _ (ka.out.trans (t7.out.trans (hr0.trans kk))); go_simp; first | done | with_reducible rfl)
                try simp only[Act.put,Reg.l1,Reg.l2,Reg.l3]
                refine' Reg.tk3 (i := 5) (v := _) (some 82) [6, 7, 8, 9, 10, 11, 12, 13] [] rfl (Or.inl ⟨by rfl, Or.inl ?hy139⟩) ?r_139
                case hy139=>(intro w' kk ss; obtain⟨x0,x1,x2,x3⟩:=bx4 (BC.out _ (t7.out.trans (hr0.trans kk))); obtain⟨p0,p1,p2,p3⟩:=bx4 (BM.out _ (t7.out.trans (hr0.trans kk))); obtain⟨u0,u1⟩:=HC.out _ (ka.out.trans (t7.out.trans (hr0.trans kk))); go_simp; first | done | with_reducible rfl)
                try simp only[Act.put,Reg.l1,Reg.l2,Reg.l3]
                refine' Reg.tk3 (i := 6) (v := _) (some 83) [7, 8, 9, 10, 11, 12, 13] [] rfl (Or.inl ⟨by rfl, Or.inl ?hy140⟩) ?r_140
                case hy140=>(intro w' kk ss; obtain⟨x0,x1,x2,x3⟩:=bx4 (BC.out _ (t7.out.trans (hr0.trans kk))); obtain⟨p0,p1,p2,p3⟩:=bx4 (BM.out _ (t7.out.trans (hr0.trans kk))); obtain⟨u0,u1⟩:=HC.out _ (ka.out.trans (t7.out.trans (hr0.trans kk))); go_simp; first | done | with_reducible rfl)
                try simp only[Act.put,Reg.l1,Reg.l2,Reg.l3]
                refine' Reg.tk3 (i := 7) (v := _) (some 84) [8, 9, 10, 11, 12, 13] [] rfl (Or.inl ⟨by rfl, Or.inl ?hy141⟩) ?r_141
                case hy141=>(intro w' kk ss; obtain⟨x0,x1,x2,x3⟩:=bx4 (BC.out _ (t7.out.trans (hr0.trans kk))); obtain⟨p0,p1,p2,p3⟩:=bx4 (BM.out _ (t7.out.trans (hr0.trans kk))); obtain⟨u0,u1⟩:=HC.out _ (ka.out.trans (t7.out.trans (hr0.trans kk))); go_simp; first | done | with_reducible rfl)
                try simp only[Act.put,Reg.l1,Reg.l2,Reg.l3]
                refine' Reg.tk3 (i := 8) (v := _) (some 85) [9, 10, 11, 12, 13] [] rfl (Or.inl ⟨by rfl, Or.inl ?hy142⟩) ?r_142
                case hy142=>(intro w' kk ss; obtain⟨x0,x1,x2,x3⟩:=bx4 (BC.out _ (t7.out.trans (hr0.trans kk))); obtain⟨p0,p1,p2,p3⟩:=bx4 (BM.out _ (t7.out.trans (hr0.trans kk))); obtain⟨u0,u1⟩:=HC.out _ (ka.out.trans (t7.out.trans (hr0.trans kk))); go_simp; first | done | with_reducible rfl)
                try simp only[Act.put,Reg.l1,Reg.l2,Reg.l3]
                refine' Reg.tk3 (i := 9) (v := _) (some 86) [10, 11, 12, 13] [] rfl (Or.inl ⟨by rfl, Or.inl ?hy143⟩) ?r_143
                case hy143=>(intro w' kk ss; obtain⟨x0,x1,x2,x3⟩:=bx4 (BC.out _ (t7.out.trans (hr0.trans kk))); obtain⟨p0,p1,p2,p3⟩:=bx4 (BM.out _ (t7.out.trans (hr0.trans kk))); obtain⟨u0,u1⟩:=HC.out _ (ka.out.trans (t7.out.trans (hr0.trans kk))); go_simp; first | done | with_reducible rfl)
                try simp only[Act.put,Reg.l1,Reg.l2,Reg.l3]
                refine' Reg.tk3 (i := 10) (v := _) (some 87) [11, 12, 13] [] rfl (Or.inl ⟨by rfl, Or.inl ?hy144⟩) ?r_144
                case hy144=>(intro w' kk ss; obtain⟨x0,x1,x2,x3⟩:=bx4 (BC.out _ (t7.out.trans (hr0.trans kk))); obtain⟨p0,p1,p2,p3⟩:=bx4 (BM.out _ (t7.out.trans (hr0.trans kk))); obtain⟨u0,u1⟩:=HC.out _ (ka.out.trans (t7.out.trans (hr0.trans kk))); go_simp; first | done | with_reducible rfl)
                try simp only[Act.put,Reg.l1,Reg.l2,Reg.l3]
                refine' Reg.tk3 (i := 11) (v := _) (some 88) [12, 13] [] rfl (Or.inl ⟨by rfl, Or.inl ?hy145⟩) ?r_145
                case hy145=>(intro w' kk ss; obtain⟨x0,x1,x2,x3⟩:=bx4 (BC.out _ (t7.out.trans (hr0.trans kk))); obtain⟨p0,p1,p2,p3⟩:=bx4 (BM.out _ (t7.out.trans (hr0.trans kk))); obtain⟨u0,u1⟩:=HC.out _ (ka.out.trans (t7.out.trans (hr0.trans kk))); go_simp; first | done | with_reducible rfl)
                try simp only[Act.put,Reg.l1,Reg.l2,Reg.l3]
                refine Reg.tk3 (i := 12) (v := .bool R) (some 89) [13] [] rfl (Or.inl ⟨by rfl, Or.inr ⟨196, #[.slice B2 p d2], fun w' kk ss => ⟨?_, ?_⟩⟩⟩) ?_
                · (try dsimp only at ss); go_simp
                · exact TA.out w' (ka.out.trans (t7.out.trans (hr0.trans kk)))
                try simp only[Act.put,Reg.l1,Reg.l2,Reg.l3]
                refine' Reg.tk3 (i := 13) (v := _) (some 4) [] [] rfl (Or.inl ⟨by rfl, Or.inl ?hy146⟩) ?r_146
                case hy146=>(intro w' kk ss; obtain⟨x0,x1,x2,x3⟩:=bx4 (BC.out _ (t7.out.trans (hr0.trans kk))); obtain⟨p0,p1,p2,p3⟩:=bx4 (BM.out _ (t7.out.trans (hr0.trans kk))); obtain⟨u0,u1⟩:=HC.out _ (ka.out.trans (t7.out.trans (hr0.trans kk))); go_simp; first | done | with_reducible rfl)
                try simp only[Act.put,Reg.l1,Reg.l2,Reg.l3]
                refine Reg.wpG_done (by kernel_rfl) (fun we ke se => ?_) _
                refine NoPanic.normal ?_
                have hr0:=hr0.trans ke
                clear ke
                go_wp2
                go_ret
                exact⟨rfl,ka.out.trans (t7.out.trans hr0)⟩
              · go_wp2
                have hr0:Since w9 w9.drew:=Since.drew (Since.refl w9)
                refine wp_region_noPanic ?_
                refine Reg.wp_region_G (S:=fun _=>True) (fun j => [].contains j) (by kernel_rfl) trivial ?_
                refine' Reg.tk3 (i := 0) (v := _) (some 77) [1, 10, 11, 12, 13] [] rfl (Or.inl ⟨by rfl, Or.inl ?hy148⟩) ?r_148
                case hy148=>(intro w' kk ss; obtain⟨x0,x1,x2,x3⟩:=bx4 (BC.out _ (t7.out.trans (hr0.trans kk))); obtain⟨p0,p1,p2,p3⟩:=bx4 (BM.out _ (t7.out.trans (hr0.trans kk))); obtain⟨u0,u1⟩:=HC.out _ (ka.out.trans (t7.out.trans (hr0.trans kk))); go_simp; first | done | with_reducible rfl)
                try simp only[Act.put,Reg.l1,Reg.l2,Reg.l3]
                refine' Reg.tk3 (i := 1) (v := _) (some 78) [10, 11, 12, 13] [] rfl (Or.inl ⟨by rfl, Or.inl ?hy149⟩) ?r_149
                case hy149=>(intro w' kk ss; obtain⟨x0,x1,x2,x3⟩:=bx4 (BC.out _ (t7.out.trans (hr0.trans kk))); obtain⟨p0,p1,p2,p3⟩:=bx4 (BM.out _ (t7.out.trans (hr0.trans kk))); obtain⟨u0,u1⟩:=HC.out _ (ka.out.trans (t7.out.trans (hr0.trans kk))); go_simp; first | done | with_reducible rfl)
                try simp only[Act.put,Reg.l1,Reg.l2,Reg.l3]
                refine' Reg.tk3 (i := 2) (v := _) (some 79) [3, 8, 9, 10, 11, 12, 13] [] rfl (Or.inl ⟨by rfl, Or.inl ?hy150⟩) ?r_150
                case hy150=>(intro w' kk ss; obtain⟨x0,x1,x2,x3⟩:=bx4 (BC.out _ (t7.out.trans (hr0.trans kk))); obtain⟨p0,p1,p2,p3⟩:=bx4 (BM.out _ (t7.out.trans (hr0.trans kk))); obtain⟨u0,u1⟩:=HC.out _ (ka.out.trans (t7.out.trans (hr0.trans kk))); go_simp; first | done | with_reducible rfl)
                try simp only[Act.put,Reg.l1,Reg.l2,Reg.l3]
                refine' Reg.tk3 (i := 3) (v := _) (some 80) [8, 9, 10, 11, 12, 13] [] rfl (Or.inl ⟨by rfl, Or.inl ?hy151⟩) ?r_151
                case hy151=>(intro w' kk ss; obtain⟨x0,x1,x2,x3⟩:=bx4 (BC.out _ (t7.out.trans (hr0.trans kk))); obtain⟨p0,p1,p2,p3⟩:=bx4 (BM.out _ (t7.out.trans (hr0.trans kk))); obtain⟨u0,u1⟩:=HC.out _ (ka.out.trans (t7.out.trans (hr0.trans kk))); go_simp; first | done | with_reducible rfl)
                try simp only[Act.put,Reg.l1,Reg.l2,Reg.l3]
                refine' Reg.tk3 (i := 4) (v := _) (some 81) [5, 6, 7, 8, 9, 10, 11, 12, 13] [] rfl (Or.inl ⟨by rfl, Or.inl ?hy152⟩) ?r_152
                case hy152=>(intro w' kk ss; obtain⟨x0,x1,x2,x3⟩:=bx4 (BC.out _ (t7.out.trans (hr0.trans kk))); obtain⟨p0,p1,p2,p3⟩:=bx4 (BM.out _ (t7.out.trans (hr0.trans kk))); obtain⟨u0,u1⟩:=HC.out _ (ka.out.trans (t7.out.trans (hr0.trans kk))); go_simp; first | done | with_reducible rfl)
                try simp only[Act.put,Reg.l1,Reg.l2,Reg.l3]
                refine' Reg.tk3 (i := 5) (v := _) (some 82) [6, 7, 8, 9, 10, 11, 12, 13] [] rfl (Or.inl ⟨by rfl, Or.inl ?hy153⟩) ?r_153
                case hy153=>(intro w' kk ss; obtain⟨x0,x1,x2,x3⟩:=bx4 (BC.out _ (t7.out.trans (hr0.trans kk))); obtain⟨p0,p1,p2,p3⟩:=bx4 (BM.out _ (t7.out.trans (hr0.trans kk))); obtain⟨u0,u1⟩:=HC.out _ (ka.out.trans (t7.out.trans (hr0.trans kk))); go_simp; first | done | with_reducible rfl)
                try simp only[Act.put,Reg.l1,Reg.l2,Reg.l3]
                refine' Reg.tk3 (i := 6) (v := _) (some 83) [7, 8, 9, 10, 11, 12, 13] [] rfl (Or.inl ⟨by rfl, Or.inl ?hy154⟩) ?r_154
                case hy154=>(intro w' kk ss; obtain⟨x0,x1,x2,x3⟩:=bx4 (BC.out _ (t7.out.trans (hr0.trans kk))); obtain⟨p0,p1,p2,p3⟩:=bx4 (BM.out _ (t7.out.trans (hr0.trans kk))); obtain⟨u0,u1⟩:=HC.out _ (ka.out.trans (t7.out.trans (hr0.trans kk))); go_simp; first | done | with_reducible rfl)
                try simp only[Act.put,Reg.l1,Reg.l2,Reg.l3]
                refine' Reg.tk3 (i := 7) (v := _) (some 84) [8, 9, 10, 11, 12, 13] [] rfl (Or.inl ⟨by rfl, Or.inl ?hy155⟩) ?r_155
                case hy155=>(intro w' kk ss; obtain⟨x0,x1,x2,x3⟩:=bx4 (BC.out _ (t7.out.trans (hr0.trans kk))); obtain⟨p0,p1,p2,p3⟩:=bx4 (BM.out _ (t7.out.trans (hr0.trans kk))); obtain⟨u0,u1⟩:=HC.out _ (ka.out.trans (t7.out.trans (hr0.trans kk))); go_simp; first | done | with_reducible rfl)
                try simp only[Act.put,Reg.l1,Reg.l2,Reg.l3]
                refine' Reg.tk3 (i := 8) (v := _) (some 85) [9, 10, 11, 12, 13] [] rfl (Or.inl ⟨by rfl, Or.inl ?hy156⟩) ?r_156
                case hy156=>(intro w' kk ss; obtain⟨x0,x1,x2,x3⟩:=bx4 (BC.out _ (t7.out.trans (hr0.trans kk))); obtain⟨p0,p1,p2,p3⟩:=bx4 (BM.out _ (t7.out.trans (hr0.trans kk))); obtain⟨u0,u1⟩:=HC.out _ (ka.out.trans (t7.out.trans (hr0.trans kk))); go_simp; first | done | with_reducible rfl)
                try simp only[Act.put,Reg.l1,Reg.l2,Reg.l3]
                refine' Reg.tk3 (i := 9) (v := _) (some 86) [10, 11, 12, 13] [] rfl (Or.inl ⟨by rfl, Or.inl ?hy157⟩) ?r_157
                case hy157=>(intro w' kk ss; obtain⟨x0,x1,x2,x3⟩:=bx4 (BC.out _ (t7.out.trans (hr0.trans kk))); obtain⟨p0,p1,p2,p3⟩:=bx4 (BM.out _ (t7.out.trans (hr0.trans kk))); obtain⟨u0,u1⟩:=HC.out _ (ka.out.trans (t7.out.trans (hr0.trans kk))); go_simp; first | done | with_reducible rfl)
                try simp only[Act.put,Reg.l1,Reg.l2,Reg.l3]
                refine' Reg.tk3 (i := 10) (v := _) (some 87) [11, 12, 13] [] rfl (Or.inl ⟨by rfl, Or.inl ?hy158⟩) ?r_158
                case hy158=>(intro w' kk ss; obtain⟨x0,x1,x2,x3⟩:=bx4 (BC.out _ (t7.out.trans (hr0.trans kk))); obtain⟨p0,p1,p2,p3⟩:=bx4 (BM.out _ (t7.out.trans (hr0.trans kk))); obtain⟨u0,u1⟩:=HC.out _ (ka.out.trans (t7.out.trans (hr0.trans kk))); go_simp; first | done | with_reducible rfl)
                try simp only[Act.put,Reg.l1,Reg.l2,Reg.l3]
                refine' Reg.tk3 (i := 11) (v := _) (some 88) [12, 13] [] rfl (Or.inl ⟨by rfl, Or.inl ?hy159⟩) ?r_159
                case hy159=>(intro w' kk ss; obtain⟨x0,x1,x2,x3⟩:=bx4 (BC.out _ (t7.out.trans (hr0.trans kk))); obtain⟨p0,p1,p2,p3⟩:=bx4 (BM.out _ (t7.out.trans (hr0.trans kk))); obtain⟨u0,u1⟩:=HC.out _ (ka.out.trans (t7.out.trans (hr0.trans kk))); go_simp; first | done | with_reducible rfl)
                try simp only[Act.put,Reg.l1,Reg.l2,Reg.l3]
                refine Reg.tk3 (i := 12) (v := .bool R) (some 89) [13] [] rfl (Or.inl ⟨by rfl, Or.inr ⟨196, #[.slice B2 p d2], fun w' kk ss => ⟨?_, ?_⟩⟩⟩) ?_
                · (try dsimp only at ss); go_simp
                · exact TA.out w' (ka.out.trans (t7.out.trans (hr0.trans kk)))
                try simp only[Act.put,Reg.l1,Reg.l2,Reg.l3]
                refine' Reg.tk3 (i := 13) (v := _) (some 4) [] [] rfl (Or.inl ⟨by rfl, Or.inl ?hy160⟩) ?r_160
                case hy160=>(intro w' kk ss; obtain⟨x0,x1,x2,x3⟩:=bx4 (BC.out _ (t7.out.trans (hr0.trans kk))); obtain⟨p0,p1,p2,p3⟩:=bx4 (BM.out _ (t7.out.trans (hr0.trans kk))); obtain⟨u0,u1⟩:=HC.out _ (ka.out.trans (t7.out.trans (hr0.trans kk))); go_simp; first | done | with_reducible rfl)
                try simp only[Act.put,Reg.l1,Reg.l2,Reg.l3]
                refine Reg.wpG_done (by kernel_rfl) (fun we ke se => ?_) _
                refine NoPanic.normal ?_
                have hr0:=hr0.trans ke
                clear ke
                go_wp2
                go_ret
                exact⟨rfl,ka.out.trans (t7.out.trans hr0)⟩
              · go_wp2
                have hr0:Since w9 w9.drew:=Since.drew (Since.refl w9)
                refine wp_region_noPanic ?_
                refine Reg.wp_region_G (S:=fun _=>True) (fun j => [].contains j) (by kernel_rfl) trivial ?_
                refine' Reg.tk3 (i := 0) (v := _) (some 77) [1, 10, 11, 12, 13] [] rfl (Or.inl ⟨by rfl, Or.inl ?hy162⟩) ?r_162
                case hy162=>(intro w' kk ss; obtain⟨x0,x1,x2,x3⟩:=bx4 (BC.out _ (t7.out.trans (hr0.trans kk))); obtain⟨p0,p1,p2,p3⟩:=bx4 (BM.out _ (t7.out.trans (hr0.trans kk))); obtain⟨u0,u1⟩:=HC.out _ (ka.out.trans (t7.out.trans (hr0.trans kk))); go_simp; first | done | with_reducible rfl)
                try simp only[Act.put,Reg.l1,Reg.l2,Reg.l3]
                refine' Reg.tk3 (i := 1) (v := _) (some 78) [10, 11, 12, 13] [] rfl (Or.inl ⟨by rfl, Or.inl ?hy163⟩) ?r_163
                case hy163=>(intro w' kk ss; obtain⟨x0,x1,x2,x3⟩:=bx4 (BC.out _ (t7.out.trans (hr0.trans kk))); obtain⟨p0,p1,p2,p3⟩:=bx4 (BM.out _ (t7.out.trans (hr0.trans kk))); obtain⟨u0,u1⟩:=HC.out _ (ka.out.trans (t7.out.trans (hr0.trans kk))); go_simp; first | done | with_reducible rfl)
                try simp only[Act.put,Reg.l1,Reg.l2,Reg.l3]
                refine' Reg.tk3 (i := 2) (v := _) (some 79) [3, 8, 9, 10, 11, 12, 13] [] rfl (Or.inl ⟨by rfl, Or.inl ?hy164⟩) ?r_164
                case hy164=>(intro w' kk ss; obtain⟨x0,x1,x2,x3⟩:=bx4 (BC.out _ (t7.out.trans (hr0.trans kk))); obtain⟨p0,p1,p2,p3⟩:=bx4 (BM.out _ (t7.out.trans (hr0.trans kk))); obtain⟨u0,u1⟩:=HC.out _ (ka.out.trans (t7.out.trans (hr0.trans kk))); go_simp; first | done | with_reducible rfl)
                try simp only[Act.put,Reg.l1,Reg.l2,Reg.l3]
                refine' Reg.tk3 (i := 3) (v := _) (some 80) [8, 9, 10, 11, 12, 13] [] rfl (Or.inl ⟨by rfl, Or.inl ?hy165⟩) ?r_165
                case hy165=>(intro w' kk ss; obtain⟨x0,x1,x2,x3⟩:=bx4 (BC.out _ (t7.out.trans (hr0.trans kk))); obtain⟨p0,p1,p2,p3⟩:=bx4 (BM.out _ (t7.out.trans (hr0.trans kk))); obtain⟨u0,u1⟩:=HC.out _ (ka.out.trans (t7.out.trans (hr0.trans kk))); go_simp; first | done | with_reducible rfl)
                try simp only[Act.put,Reg.l1,Reg.l2,Reg.l3]
                refine' Reg.tk3 (i := 4) (v := _) (some 81) [5, 6, 7, 8, 9, 10, 11, 12, 13] [] rfl (Or.inl ⟨by rfl, Or.inl ?hy166⟩) ?r_166
                case hy166=>(intro w' kk ss; obtain⟨x0,x1,x2,x3⟩:=bx4 (BC.out _ (t7.out.trans (hr0.trans kk))); obtain⟨p0,p1,p2,p3⟩:=bx4 (BM.out _ (t7.out.trans (hr0.trans kk))); obtain⟨u0,u1⟩:=HC.out _ (ka.out.trans (t7.out.trans (hr0.trans kk))); go_simp; first | done | with_reducible rfl)
                try simp only[Act.put,Reg.l1,Reg.l2,Reg.l3]
                refine' Reg.tk3 (i := 5) (v := _) (some 82) [6, 7, 8, 9, 10, 11, 12, 13] [] rfl (Or.inl ⟨by rfl, Or.inl ?hy167⟩) ?r_167
                case hy167=>(intro w' kk ss; obtain⟨x0,x1,x2,x3⟩:=bx4 (BC.out _ (t7.out.trans (hr0.trans kk))); obtain⟨p0,p1,p2,p3⟩:=bx4 (BM.out _ (t7.out.trans (hr0.trans kk))); obtain⟨u0,u1⟩:=HC.out _ (ka.out.trans (t7.out.trans (hr0.trans kk))); go_simp; first | done | with_reducible rfl)
                try simp only[Act.put,Reg.l1,Reg.l2,Reg.l3]
                refine' Reg.tk3 (i := 6) (v := _) (some 83) [7, 8, 9, 10, 11, 12, 13] [] rfl (Or.inl ⟨by rfl, Or.inl ?hy168⟩) ?r_168
                case hy168=>(intro w' kk ss; obtain⟨x0,x1,x2,x3⟩:=bx4 (BC.out _ (t7.out.trans (hr0.trans kk))); obtain⟨p0,p1,p2,p3⟩:=bx4 (BM.out _ (t7.out.trans (hr0.trans kk))); obtain⟨u0,u1⟩:=HC.out _ (ka.out.trans (t7.out.trans (hr0.trans kk))); go_simp; first | done | with_reducible rfl)
                try simp only[Act.put,Reg.l1,Reg.l2,Reg.l3]
                refine' Reg.tk3 (i := 7) (v := _) (some 84) [8, 9, 10, 11, 12, 13] [] rfl (Or.inl ⟨by rfl, Or.inl ?hy169⟩) ?r_169
                case hy169=>(intro w' kk ss; obtain⟨x0,x1,x2,x3⟩:=bx4 (BC.out _ (t7.out.trans (hr0.trans kk))); obtain⟨p0,p1,p2,p3⟩:=bx4 (BM.out _ (t7.out.trans (hr0.trans kk))); obtain⟨u0,u1⟩:=HC.out _ (ka.out.trans (t7.out.trans (hr0.trans kk))); go_simp; first | done | with_reducible rfl)
                try simp only[Act.put,Reg.l1,Reg.l2,Reg.l3]
                refine' Reg.tk3 (i := 8) (v := _) (some 85) [9, 10, 11, 12, 13] [] rfl (Or.inl ⟨by rfl, Or.inl ?hy170⟩) ?r_170
                case hy170=>(intro w' kk ss; obtain⟨x0,x1,x2,x3⟩:=bx4 (BC.out _ (t7.out.trans (hr0.trans kk))); obtain⟨p0,p1,p2,p3⟩:=bx4 (BM.out _ (t7.out.trans (hr0.trans kk))); obtain⟨u0,u1⟩:=HC.out _ (ka.out.trans (t7.out.trans (hr0.trans kk))); go_simp; first | done | with_reducible rfl)
                try simp only[Act.put,Reg.l1,Reg.l2,Reg.l3]
                refine' Reg.tk3 (i := 9) (v := _) (some 86) [10, 11, 12, 13] [] rfl (Or.inl ⟨by rfl, Or.inl ?hy171⟩) ?r_171
                case hy171=>(intro w' kk ss; obtain⟨x0,x1,x2,x3⟩:=bx4 (BC.out _ (t7.out.trans (hr0.trans kk))); obtain⟨p0,p1,p2,p3⟩:=bx4 (BM.out _ (t7.out.trans (hr0.trans kk))); obtain⟨u0,u1⟩:=HC.out _ (ka.out.trans (t7.out.trans (hr0.trans kk))); go_simp; first | done | with_reducible rfl)
                try simp only[Act.put,Reg.l1,Reg.l2,Reg.l3]
                refine' Reg.tk3 (i := 10) (v := _) (some 87) [11, 12, 13] [] rfl (Or.inl ⟨by rfl, Or.inl ?hy172⟩) ?r_172
                case hy172=>(intro w' kk ss; obtain⟨x0,x1,x2,x3⟩:=bx4 (BC.out _ (t7.out.trans (hr0.trans kk))); obtain⟨p0,p1,p2,p3⟩:=bx4 (BM.out _ (t7.out.trans (hr0.trans kk))); obtain⟨u0,u1⟩:=HC.out _ (ka.out.trans (t7.out.trans (hr0.trans kk))); go_simp; first | done | with_reducible rfl)
                try simp only[Act.put,Reg.l1,Reg.l2,Reg.l3]
                refine' Reg.tk3 (i := 11) (v := _) (some 88) [12, 13] [] rfl (Or.inl ⟨by rfl, Or.inl ?hy173⟩) ?r_173
                case hy173=>(intro w' kk ss; obtain⟨x0,x1,x2,x3⟩:=bx4 (BC.out _ (t7.out.trans (hr0.trans kk))); obtain⟨p0,p1,p2,p3⟩:=bx4 (BM.out _ (t7.out.trans (hr0.trans kk))); obtain⟨u0,u1⟩:=HC.out _ (ka.out.trans (t7.out.trans (hr0.trans kk))); go_simp; first | done | with_reducible rfl)
                try simp only[Act.put,Reg.l1,Reg.l2,Reg.l3]
                refine Reg.tk3 (i := 12) (v := .bool R) (some 89) [13] [] rfl (Or.inl ⟨by rfl, Or.inr ⟨196, #[.slice B2 p d2], fun w' kk ss => ⟨?_, ?_⟩⟩⟩) ?_
                · (try dsimp only at ss); go_simp
                · exact TA.out w' (ka.out.trans (t7.out.trans (hr0.trans kk)))
                try simp only[Act.put,Reg.l1,Reg.l2,Reg.l3]
                refine' Reg.tk3 (i := 13) (v := _) (some 4) [] [] rfl (Or.inl ⟨by rfl, Or.inl ?hy174⟩) ?r_174
                case hy174=>(intro w' kk ss; obtain⟨x0,x1,x2,x3⟩:=bx4 (BC.out _ (t7.out.trans (hr0.trans kk))); obtain⟨p0,p1,p2,p3⟩:=bx4 (BM.out _ (t7.out.trans (hr0.trans kk))); obtain⟨u0,u1⟩:=HC.out _ (ka.out.trans (t7.out.trans (hr0.trans kk))); go_simp; first | done | with_reducible rfl)
                try simp only[Act.put,Reg.l1,Reg.l2,Reg.l3]
                refine Reg.wpG_done (by kernel_rfl) (fun we ke se => ?_) _
                refine NoPanic.normal ?_
                have hr0:=hr0.trans ke
                clear ke
                go_wp2
                go_ret
                exact⟨rfl,ka.out.trans (t7.out.trans hr0)⟩
            · by_cases k114:ck=11∨ck=12∨ck=13∨ck=14
              · have TT:=Lib.hid (show Calls Try.prog 197 #[.agg #[.slice D nd dc,.slice C nc cc',.int .i64 ask,.int .i64 goal],.slice X nx xc] w9 (RetT R w9) by
                 have:=TS.out (.slice X nx xc) cx w9 (ka.out.trans t7.out) (H3.out.since stI (ka.out.trans t7.out)) HIN.out (by have:=HNX.out; omega)
                 rw[show cx.all (fun y=>tru (domAt ds y))=R by rw[← HB.out,HBO.out,bools_all k114]] at this
                 exact this)
                clear HB HIN HBO HOK TS
                rcases k114 with rfl | rfl | rfl | rfl
                all_goals go_wp2_with (go_at_call 197; (with_reducible refine TT.out.mono ?_); rintro e w10 ⟨rfl,k10⟩)
                all_goals go_ret
                all_goals exact⟨rfl,ka.out.trans (t7.out.trans k10)⟩
              · have E:=Lib.hid (show true=R by rw[← HB.out,HBO.out,bools_none k456 k114]; rfl)
                have nn:∀ j:Int,(j=4∨j=5∨j=6∨j=11∨j=12∨j=13∨j=14)→(ck == j)=false:=fun j hj=>by rw[beq_eq_false_iff_ne]; omega
                have n4:=nn 4 (by decide)
                have n5:=nn 5 (by decide)
                have n6:=nn 6 (by decide)
                have n11:=nn 11 (by decide)
                have n12:=nn 12 (by decide)
                have n13:=nn 13 (by decide)
                have n14:=nn 14 (by decide)
                clear nn k456 k114 HB HBO
                go_wp2
                go_ret
                exact .of E.out (ka.out.trans t7.out)
end
end Go.Proofs.Ytilgmkhcpmegjaa.Sn
