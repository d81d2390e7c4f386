/- Layer 11 (sense): the landed model's isDomain, hasCounts, hasSigns, booleans. -/
import Derived.Test.YtilgmkhcpmegjaaUb
set_option maxHeartbeats 8000000
set_option maxRecDepth 20000
namespace Go.Proofs.Ytilgmkhcpmegjaa.Sn
open Go.RowKit
set_option linter.unusedVariables false
set_option linter.unusedSimpArgs false
open Dig Lx Tk Ti Zs Tr
def Pv (l:List Rn) (k:Nat) (b:Int):Prop:=(k=0∧b = -1048576)∨∃ j p,k=j+1∧l[j]?=some p∧b=p.2+2 ∧ -1048576≤p.2∧p.2≤1048576
theorem Pv.ge {l:List Rn} {k:Nat} {b:Int} (h:Pv l k b) : -1048576≤b:=by
 rcases h with ⟨-,h⟩ | ⟨j,p,-,-,h⟩ <;> omega
theorem okF_lo' {b lo hi:Int} {t:List Rn} (h:within lo=false) (h0:¬ lo>hi) (hb : -1048576≤b):okF b ((lo,hi) :: t)=false:=by
 have h2:¬ (-1048576≤lo∧lo≤1048576):=fun e=>by rw[(within_iff' lo).2 e] at h; cases h
 by_cases c:lo<b
 · exact okF_no1 c
 · exact okF_no3 (by simp only[mx]; omega)
theorem okF_hi' {b lo hi:Int} {t:List Rn} (h:within hi=false) (hl : -1048576≤lo) (h0:¬ lo>hi):okF b ((lo,hi) :: t)=false:=by
 have h2:¬ (-1048576≤hi∧hi≤1048576):=fun e=>by rw[(within_iff' hi).2 e] at h; cases h
 exact okF_no3 (by simp only[mx]; omega)
theorem isDomain_any (v:Value) (l:List Rn) (w:World) (h:Sl 2 QR w v l) (hl:l.length≤1100000) :
 Calls Try.prog 181 #[v] w (RetT (domOk l) w):=by
 obtain⟨A,c,rfl⟩:=h.form
 by_cases hz:l.length=0
 · obtain rfl:l = []:=List.eq_nil_of_length_eq_zero hz
   clear hz hl h
   go_enter Try.func181,Try.ntmps181
   go_wp2
   go_loopw [7] (fun i wr=>i = .int .i64 0∧wr=w) (fun i _=>0)
   case atStart=>exact⟨rfl,rfl⟩
   case round =>
    obtain⟨rfl,rfl⟩:=hrel
    go_wp2
    go_ret
    exact⟨rfl,Since.refl _⟩
 obtain⟨n,hn⟩:∃ n,n=l.length:=⟨_,rfl⟩
 obtain⟨R,hR⟩:∃ R,R=right l:=⟨_,rfl⟩
 have e:domOk l=R:=by rw[domOk,decide_eq_true (by omega),Bool.and_true,hR]
 rw[e]
 rw[← hn] at h hl hz ⊢
 have H:=Lib.hid h
 have HN:=Lib.hid hn
 have HR:=Lib.hid hR
 have hn0:0<n:=by omega
 clear h hn hR e hz
 go_enter Try.func181,Try.ntmps181
 go_wp2
 go_loopw [7] (fun i wr=>∃ (k:Nat) (b:Int),i = .int .i64 (k:Int)∧k≤n∧Hid (Pv l k b)∧Hid (okF b (l.drop k)=R)∧Hid (Since w wr)) (fun i _=>n - (intOf i).toNat)
 case atStart=>exact⟨0,-1048576,rfl,Nat.zero_le _,.inl ⟨rfl,rfl⟩,HR.out.symm,Since.refl _⟩
 case round =>
  obtain⟨k,b,rfl,hk,HP,HE,HW⟩:=hrel
  by_cases hkn:k<n
  · have hkl:k<l.length:=by have:=HN.out; omega
    have hek:l[k]?=some l[k]:=List.getElem?_eq_getElem hkl
    obtain⟨g,o,rfl,e0,e1⟩:=elR (H.out.since stR HW.out) hkl
    have hst:=HE.out
    rw[drop_at hkl] at hst
    generalize l[k]=x at *
    obtain⟨lo,hi⟩:=x
    simp only at hst e0 e1
    have hbb:=HP.out.ge
    have ST:=Lib.hid hst
    have HK:=Lib.hid hek
    have ka:=Lib.hid (since_alloc wr (.cells #[.int .i64 lo,.int .i64 hi] 46))
    obtain⟨r0,r1⟩:=(Bx.fresh wr #[.int .i64 lo,.int .i64 hi] 46).two
    clear hst hek
    have IV:=Lib.hid (fun y b (hb:within y=b) W=>by have:=isValue_any y W; rw[hb] at this; exact this)
    by_cases c1:lo>hi
    · have HE:=Lib.hid ((okF_no2 c1).symm.trans ST.out)
      clear HK hkl
      go_wp2
      go_ret
      exact .of HE.out (HW.out.trans ka.out)
    · cases cl:within lo with
      | false =>
       have HE:=Lib.hid ((okF_lo' cl c1 hbb).symm.trans ST.out)
       have I1:=Lib.hid (IV.out lo false cl)
       clear HK hkl cl
       go_wp2_with (go_at_call 218; (with_reducible refine (I1.out _).mono ?_); rintro e w1 ⟨rfl,rfl⟩)
       go_ret
       exact .of HE.out (HW.out.trans ka.out)
      | true =>
       have I1:=Lib.hid (IV.out lo true cl)
       have hl2:=(within_iff' lo).1 cl
       cases ch:within hi with
       | false =>
        have HE:=Lib.hid ((okF_hi' ch hl2.1 c1).symm.trans ST.out)
        have I2:=Lib.hid (IV.out hi false ch)
        clear HK hkl cl ch
        go_wp2_with (first
         | (go_at_call 218; (with_reducible refine (I1.out _).mono ?_); rintro e w1 ⟨rfl,rfl⟩)
         | (go_at_call 218; (with_reducible refine (I2.out _).mono ?_); rintro e w1 ⟨rfl,rfl⟩))
        go_ret
        exact .of HE.out (HW.out.trans ka.out)
       | true =>
        have I2:=Lib.hid (IV.out hi true ch)
        have hh2:=(within_iff' hi).1 ch
        clear cl ch
        rcases HP.out with ⟨hk0,hb0⟩ | ⟨j,p,hkj,hpj,hb0,hp1,hp2⟩
        · subst hk0 hb0
          simp only[Nat.zero_mul,Nat.add_zero] at e0 e1
          have HE2:=Lib.hid ((okF_yes (by omega) c1 (by simp only[mx]; omega)).symm.trans ST.out)
          have HPN:=Lib.hid (show Pv l (0+1) (hi+2) from .inr ⟨0,(lo,hi),rfl,HK.out,rfl,hh2.1,hh2.2⟩)
          clear HK hkl
          go_wp2_with (first
           | (go_at_call 218; (with_reducible refine (I1.out _).mono ?_); rintro e w1 ⟨rfl,rfl⟩)
           | (go_at_call 218; (with_reducible refine (I2.out _).mono ?_); rintro e w1 ⟨rfl,rfl⟩))
          go_region
          all_goals go_wp2
          all_goals go_roundw
          case rel=>exact⟨0+1,hi+2,by go_num,by omega,HPN.out,HE2.out,by first | exact HW.out.trans ka.out | exact Since.drew (HW.out.trans ka.out)⟩
          case measure=>simp[intOf]; omega
        · subst hkj
          have hjl:j<l.length:=by omega
          have ep:l[j]=p:=by rw[List.getElem?_eq_getElem hjl] at hpj; exact Option.some.inj hpj
          obtain⟨g',o',hg,-,f1⟩:=elR (H.out.since stR HW.out) hjl
          simp only[Option.some.injEq,Addr.mk.injEq,and_true] at hg
          obtain⟨rfl,rfl⟩:=hg
          rw[ep] at f1
          obtain⟨pl,ph⟩:=p
          simp only at f1 hb0 hp1 hp2
          have f2:=(ka.out.cell _ (World.block_lt_of_cell? _ _ f1)).trans f1
          have ej:((j+1:Nat):Int) - 1=(j:Int):=by omega
          clear hpj ep hjl f1 hkl
          by_cases c4:lo<ph+2
          · have HE2:=Lib.hid ((okF_no1 (by rw[hb0]; exact c4)).symm.trans ST.out)
            clear HK
            go_wp2_with (first
             | (go_at_call 218; (with_reducible refine (I1.out _).mono ?_); rintro e w1 ⟨rfl,rfl⟩)
             | (go_at_call 218; (with_reducible refine (I2.out _).mono ?_); rintro e w1 ⟨rfl,rfl⟩))
            go_region
            all_goals go_wp2
            all_goals go_ret
            all_goals exact .of HE2.out (by first | exact HW.out.trans ka.out | exact Since.drew (HW.out.trans ka.out))
          · have HE2:=Lib.hid ((okF_yes (by rw[hb0]; exact c4) c1 (by simp only[mx]; omega)).symm.trans ST.out)
            have HPN:=Lib.hid (show Pv l (j+1+1) (hi+2) from .inr ⟨j+1,(lo,hi),rfl,HK.out,rfl,hh2.1,hh2.2⟩)
            clear HK
            go_wp2_with (first
             | (go_at_call 218; (with_reducible refine (I1.out _).mono ?_); rintro e w1 ⟨rfl,rfl⟩)
             | (go_at_call 218; (with_reducible refine (I2.out _).mono ?_); rintro e w1 ⟨rfl,rfl⟩))
            go_region
            all_goals go_wp2
            all_goals go_roundw
            case rel=>exact⟨j+1+1,hi+2,by go_num,by omega,HPN.out,HE2.out,by first | exact HW.out.trans ka.out | exact Since.drew (HW.out.trans ka.out)⟩
            case measure=>simp[intOf]; omega
  · obtain rfl:k=n:=by omega
    have HE2:=Lib.hid (show true=R by rw[← HE.out,List.drop_of_length_le (by have:=HN.out; omega)]; rfl)
    go_wp2
    go_ret
    exact .of HE2.out HW.out
section
open Go.RowKit
set_option linter.unusedVariables false
set_option linter.unusedSimpArgs false
open Dig Lx Tk Ti Zs Tr
theorem ne_lit {k:Int} (h:k<1∨19<k) (n:Int) (h1:1≤n) (h2:n≤19):(k == n)=false:=by rw[beq_eq_false_iff_ne]; omega
theorem hasCounts_any (k:Int) (X Y:Option Addr) (n xc m yc:Nat) (c:Int) (w:World) (hn:n≤1100000) (hm:m≤1100000) :
 Calls Try.prog 219 #[.agg #[.int .i64 k,.slice X n xc,.slice Y m yc,.int .i64 c]] w (RetT (shp k n m) w):=by
 have ka:=Lib.hid (since_alloc w (.cells #[.int .i64 k,.slice X n xc,.slice Y m yc,.int .i64 c] 25))
 rcases kd_or k with hk | hk
 · cases hk
   all_goals go_enter Try.func219,Try.ntmps219
   all_goals go_wp2
   all_goals go_region
   all_goals go_wp2
   all_goals go_ret
   all_goals refine RetT.of ?_ (by first | exact ka.out | exact Since.drew ka.out)
   all_goals (rw[Bool.eq_iff_iff]; simp[shp]; try omega)
 · rw[shp_out hk]
   have ne:=ne_lit hk
   have n1:=ne 1 (by decide) (by decide)
   have n2:=ne 2 (by decide) (by decide)
   have n3:=ne 3 (by decide) (by decide)
   have n4:=ne 4 (by decide) (by decide)
   have n5:=ne 5 (by decide) (by decide)
   have n6:=ne 6 (by decide) (by decide)
   have n7:=ne 7 (by decide) (by decide)
   have n8:=ne 8 (by decide) (by decide)
   have n9:=ne 9 (by decide) (by decide)
   have n10:=ne 10 (by decide) (by decide)
   have n11:=ne 11 (by decide) (by decide)
   have n12:=ne 12 (by decide) (by decide)
   have n13:=ne 13 (by decide) (by decide)
   have n14:=ne 14 (by decide) (by decide)
   have n15:=ne 15 (by decide) (by decide)
   have n16:=ne 16 (by decide) (by decide)
   have n17:=ne 17 (by decide) (by decide)
   have n18:=ne 18 (by decide) (by decide)
   have n19:=ne 19 (by decide) (by decide)
   clear ne hk
   go_enter Try.func219,Try.ntmps219
   go_wp2
   go_region
   all_goals go_wp2
   all_goals go_ret
   all_goals exact⟨rfl,by first | exact ka.out | exact Since.drew ka.out⟩
theorem hasSigns_any (k:Int) (vx va:Value) (a:List Int) (c:Int) (w:World) (hv:∃ X n xc,vx = .slice X n xc) (h:Sl 1 QI w va a) (hl:a.length≤1100000) :
 Calls Try.prog 220 #[.agg #[.int .i64 k,vx,va,.int .i64 c]] w (RetT (sgn k a c) w):=by
 obtain⟨X,nx,xc,rfl⟩:=hv
 obtain⟨Y,yc,rfl⟩:=h.form
 have ka:=Lib.hid (since_alloc w (.cells #[.int .i64 k,.slice X nx xc,.slice Y a.length yc,.int .i64 c] 25))
 obtain⟨n,hn⟩:∃ n,n=a.length:=⟨_,rfl⟩
 obtain⟨R,hR⟩:∃ R,R=sgn k a c:=⟨_,rfl⟩
 rw[← hR]
 rw[← hn] at h hl ka ⊢
 obtain⟨E,hE⟩:∃ E,E=(decide (k≠19) || decide (0≤c)):=⟨_,rfl⟩
 have H:=Lib.hid h
 have HN:=Lib.hid hn
 have HR:=Lib.hid (show (a.all (okE k) && E)=R by rw[hR,hE,sgn])
 have HE0:=Lib.hid hE
 have BX:=Lib.hid (fun W (kk:Since (w.alloc (.cells #[.int .i64 k,.slice X nx xc,.slice Y n yc,.int .i64 c] 25)) W)=>(Bx.fresh w #[.int .i64 k,.slice X nx xc,.slice Y n yc,.int .i64 c] 25).since kk)
 clear h hn hR hE
 go_enter Try.func220,Try.ntmps220
 go_wp2
 obtain⟨W0,hW0⟩:∃ W0,W0=w.alloc (.cells #[.int .i64 k,.slice X nx xc,.slice Y n yc,.int .i64 c] 25):=⟨_,rfl⟩
 rw[← hW0]
 rw[← hW0] at ka BX
 clear hW0
 go_loopw [8] (fun i wr=>∃ j:Nat,i = .int .i64 (j:Int)∧j≤n∧Hid (((a.drop j).all (okE k) && E)=R)∧Hid (Since W0 wr)) (fun i _=>n - (intOf i).toNat)
 case atStart=>exact⟨0,rfl,Nat.zero_le _,HR.out,Since.refl _⟩
 case round =>
  obtain⟨j,rfl,hk,HE,HW⟩:=hrel
  obtain⟨b0,b1,b2,b3⟩:wr.cell? ⟨w.heap.size,0,none⟩=some (.int .i64 k)∧wr.cell? ⟨w.heap.size,1,none⟩=some (.slice X nx xc)∧wr.cell? ⟨w.heap.size,2,none⟩=some (.slice Y n yc)∧wr.cell? ⟨w.heap.size,3,none⟩=some (.int .i64 c):=⟨(BX.out _ HW.out).cell 0,(BX.out _ HW.out).cell 1,(BX.out _ HW.out).cell 2,(BX.out _ HW.out).cell 3⟩
  by_cases hkn:j<n
  · have hkl:j<a.length:=by have:=HN.out; omega
    obtain⟨g,o,rfl,e0⟩:=elI (H.out.since stI (ka.out.trans HW.out)) hkl
    have hst:=HE.out
    rw[dropI hkl,List.all_cons] at hst
    generalize a[j]=y at *
    have ST:=Lib.hid hst
    clear hst hkl HE
    have fin:okE k y=true→Hid (((a.drop (j+1)).all (okE k) && E)=R):=fun hy=>Lib.hid (by have:=ST.out; rw[hy,Bool.true_and] at this; exact this)
    have bad:okE k y=false→Hid (false=R):=fun hy=>Lib.hid (by have:=ST.out; rw[hy,Bool.false_and,Bool.false_and] at this; exact this)
    have FIN:=Lib.hid fin
    have BAD:=Lib.hid bad
    clear fin bad
    by_cases c11:k=11
    · subst c11
      by_cases y1:y=1
      · have HE:=FIN.out (by subst y1; rfl)
        have z1:(y != 1)=false:=by subst y1; rfl
        go_wp2
        go_roundw
        case rel=>exact⟨j+1,by go_num,by omega,HE.out,HW.out⟩
        case measure=>simp[intOf]; omega
      · have z1:(y != 1)=true:=by rw[bne_iff_ne]; exact y1
        by_cases y2:y = -1
        · have HE:=FIN.out (by subst y2; rfl)
          have z2:(y != -1)=false:=by subst y2; rfl
          go_wp2
          go_roundw
          case rel=>exact⟨j+1,by go_num,by omega,HE.out,HW.out⟩
          case measure=>simp[intOf]; omega
        · have z2:(y != -1)=true:=by rw[bne_iff_ne]; exact y2
          have HE:=BAD.out (by simp[okE,y1,y2])
          go_wp2
          go_ret
          exact .of HE.out (ka.out.trans HW.out)
    · have k11:(k == 11)=false:=by rw[beq_eq_false_iff_ne]; exact c11
      by_cases c19:k=19
      · subst c19
        by_cases y3:y<0
        · have HE:=BAD.out (by simp[okE,y3])
          go_wp2
          go_ret
          exact .of HE.out (ka.out.trans HW.out)
        · have HE:=FIN.out (by simp[okE]; omega)
          go_wp2
          go_roundw
          case rel=>exact⟨j+1,by go_num,by omega,HE.out,HW.out⟩
          case measure=>simp[intOf]; omega
      · have k19:(k == 19)=false:=by rw[beq_eq_false_iff_ne]; exact c19
        have HE:=FIN.out (by simp[okE,c11,c19])
        go_wp2
        go_roundw
        case rel=>exact⟨j+1,by go_num,by omega,HE.out,HW.out⟩
        case measure=>simp[intOf]; omega
  · obtain rfl:j=n:=by omega
    have HE2:=Lib.hid (show E=R by rw[← HE.out,List.drop_of_length_le (by have:=HN.out; omega)]; rfl)
    by_cases c19:k=19
    · subst c19
      have z:((19:Int) != 19)=false:=by decide
      by_cases c0:c ≥ 0
      · have e:=Lib.hid (show true=R by rw[← HE2.out,HE0.out]; simp; omega)
        go_wp2
        go_ret
        exact .of e.out (ka.out.trans HW.out)
      · have e:=Lib.hid (show false=R by rw[← HE2.out,HE0.out]; simp; omega)
        go_wp2
        go_ret
        exact .of e.out (ka.out.trans HW.out)
    · have k19:(k != 19)=true:=by rw[bne_iff_ne]; exact c19
      have e:=Lib.hid (show true=R by rw[← HE2.out,HE0.out]; simp[c19])
      go_wp2
      go_ret
      exact .of e.out (ka.out.trans HW.out)
theorem slDropI {w:World} {b:Option Addr} {n c:Nat} {xs:List Int} (h:Sl 1 QI w (.slice b n c) xs) (k:Nat) (hk:k<n):∃ g o,b=some ⟨g,o,none⟩∧Sl 1 QI w (.slice (some ⟨g,o+k,none⟩) (n - k) (c - k)) (xs.drop k):=by
 obtain⟨A,c',h1,h2,h3⟩:=h
 injection h1 with e0 e1 e2
 subst e0 e1 e2
 obtain⟨g,o,rfl,h5⟩:=h3 (by omega)
 refine⟨g,o,rfl,some ⟨g,o+k,none⟩,c - k,by rw[List.length_drop],by rw[List.length_drop]; omega,fun _=>⟨g,o+k,rfl,fun i x hx => ?_⟩⟩
 rw[List.getElem?_drop] at hx
 obtain⟨u,h6,h7,h8⟩:=h5 _ _ hx
 refine⟨u,h6,h7,fun j y hy => ?_⟩
 have:=h8 j y hy
 rw[show o+k+i*1+j=o+(k+i)*1+j by omega]; exact this
theorem bools_tail {α:Type} {k:Int} (h:k=4∨k=5∨k=6) (x:List α):bools k x=x.drop (x.length - 1):=if_pos h
theorem bools_all {α:Type} {k:Int} (h:k=11∨k=12∨k=13∨k=14) (x:List α):bools k x=x:=by rw[bools,if_neg (by omega),if_pos h]
theorem bools_none {α:Type} {k:Int} (h:¬ (k=4∨k=5∨k=6)) (h2:¬ (k=11∨k=12∨k=13∨k=14)) (x:List α):bools k x = []:=by rw[bools,if_neg h,if_neg h2]
theorem booleans_any (k:Int) (vx va:Value) (x:List Int) (c:Int) (w:World) (hv:∃ Y m yc,va = .slice Y m yc) (h:Sl 1 QI w vx x) (hp:k=4∨k=5∨k=6→0<x.length) (hl:x.length≤1100000) :
 Calls Try.prog 224 #[.agg #[.int .i64 k,vx,va,.int .i64 c]] w (fun e w'=>∃ B n' c',e = .returned (.slice B n' c')∧n'=(bools k x).length∧Sl 1 QI w' (.slice B n' c') (bools k x)∧Since w w'):=by
 obtain⟨Y,m,yc,rfl⟩:=hv
 obtain⟨X,xc,rfl⟩:=h.form
 obtain⟨n,hn⟩:∃ n,n=x.length:=⟨_,rfl⟩
 rw[← hn] at h hl hp ⊢
 have ka:=Lib.hid (since_alloc w (.cells #[.int .i64 k,.slice X n xc,.slice Y m yc,.int .i64 c] 25))
 have H:=Lib.hid h
 have HN:=Lib.hid hn
 by_cases ct:k=4∨k=5∨k=6
 · obtain⟨g,o,rfl,hs⟩:=slDropI h (n - 1) (by have:=hp ct; omega)
   obtain⟨j,hj⟩:∃ j,n=j+1:=⟨n - 1,by have:=hp ct; omega⟩
   have hc:=h.at_.2
   rw[← hn] at hc
   have HS:=Lib.hid (show Sl 1 QI w (.slice (some ⟨g,o+j,none⟩) 1 (xc - j)) (bools k x) by
    rw[bools_tail ct,← hn,hj,Nat.add_sub_cancel]
    rw[hj,Nat.add_sub_cancel,Nat.add_sub_cancel_left] at hs; exact hs)
   have HL:=Lib.hid (show 1=(bools k x).length by rw[bools_tail ct,List.length_drop,← hn]; omega)
   clear hs h hn hp
   have ei:((j+1:Nat):Int) - 1=(j:Int):=by omega
   subst hj
   rcases ct with rfl | rfl | rfl
   all_goals go_enter Try.func224,Try.ntmps224
   all_goals go_wp2
   all_goals go_ret
   all_goals exact⟨_,_,_,rfl,HL.out,HS.out.since stI ka.out,ka.out⟩
 · by_cases ca:k=11∨k=12∨k=13∨k=14
   · have HS:=Lib.hid (show Sl 1 QI w (.slice X n xc) (bools k x) by rw[bools_all ca]; exact h)
     have HL:=Lib.hid (show n=(bools k x).length by rw[bools_all ca]; exact hn)
     clear h hn hp ct
     rcases ca with rfl | rfl | rfl | rfl
     all_goals go_enter Try.func224,Try.ntmps224
     all_goals go_wp2
     all_goals go_ret
     all_goals exact⟨_,_,_,rfl,HL.out,HS.out.since stI ka.out,ka.out⟩
   · rw[bools_none ct ca]
     have nn:∀ j:Int,(j=4∨j=5∨j=6∨j=11∨j=12∨j=13∨j=14)→(k == j)=false:=fun j hj=>by rw[beq_eq_false_iff_ne]; omega
     have n4:=nn 4 (by decide)
     have n5:=nn 5 (by decide)
     have n6:=nn 6 (by decide)
     have n11:=nn 11 (by decide)
     have n12:=nn 12 (by decide)
     have n13:=nn 13 (by decide)
     have n14:=nn 14 (by decide)
     clear nn ct ca h hn hp
     go_enter Try.func224,Try.ntmps224
     go_wp2
     go_ret
     exact⟨_,_,_,rfl,rfl,Sl.nil _ _ _,ka.out⟩
end
section
open Go.RowKit
set_option linter.unusedVariables false
set_option linter.unusedSimpArgs false
open Dig Lx Tk Ti Zs Tr
theorem bx4 {W:World} {g:Nat} {z0 z1 z2 z3:Value} {t:TypeId} (h:Bx W g #[z0,z1,z2,z3] t):W.cell? ⟨g,0,none⟩=some z0∧W.cell? ⟨g,1,none⟩=some z1∧W.cell? ⟨g,2,none⟩=some z2∧W.cell? ⟨g,3,none⟩=some z3:=⟨h.cell 0,h.cell 1,h.cell 2,h.cell 3⟩
theorem bools_sub {α:Type} {k:Int} {x:List α} {y:α} (h:y ∈ bools k x):y ∈ x:=by
 unfold bools at h
 split at h
 · exact List.mem_of_mem_drop h
 · split at h
   · exact h
   · cases h
theorem bools_len {α:Type} (k:Int) (x:List α):(bools k x).length≤x.length:=by
 unfold bools
 split
 · rw[List.length_drop]; omega
 · split
   · exact Nat.le_refl _
   · exact Nat.zero_le _
theorem isV_nat {n:Nat} {y:Int} (h:isV n y=true):∃ q:Nat,y=(q:Int)∧q<n:=by
 simp only[isV,Bool.and_eq_true,decide_eq_true_eq] at h
 exact⟨y.toNat,by omega,by omega⟩
theorem domAt_nat {ds:List (List Rn)} {q:Nat} (h:q<ds.length):domAt ds (q:Int)=ds[q]:=by simp[domAt,h]
theorem isConstraint_any (v vd:Value) (c:Cn) (ds:List (List Rn)) (w:World) (h:ConAt w v c) (hd:Sl 1 QD w vd ds) (hok:∀ d ∈ ds,0<d.length∧d.length≤1100000) (hx:c.x.length≤1100000) (ha:c.a.length≤1100000) (hdl:ds.length≤1100000) :
 Calls Try.prog 182 #[v,vd] w (RetT (conOk ds c) w):=by
 obtain⟨vx,va,rfl,h1,h2⟩:=h
 obtain⟨ck,cx,ca,cc⟩:=c
 simp only at h1 h2 hx ha ⊢
 obtain⟨X,xc,rfl⟩:=h1.form
 obtain⟨Y,yc,rfl⟩:=h2.form
 obtain⟨D,dc,rfl⟩:=hd.form
 obtain⟨nx,hnx⟩:∃ n,n=cx.length:=⟨_,rfl⟩
 obtain⟨na,hna⟩:∃ n,n=ca.length:=⟨_,rfl⟩
 obtain⟨nd,hnd⟩:∃ n,n=ds.length:=⟨_,rfl⟩
 obtain⟨R,hR⟩:∃ R,R=conOk ds ⟨ck,cx,ca,cc⟩:=⟨_,rfl⟩
 have HR:=Lib.hid (show (numOk ck nx ca cc && cx.all (isV nd) && (bools ck cx).all (fun x=>tru (domAt ds x)))=R by rw[hR,hnx,hnd]; rfl)
 rw[← hR]
 clear hR
 rw[← hnx] at h1 hx ⊢
 rw[← hna] at h2 ha ⊢
 rw[← hnd] at hd hdl ⊢
 have H1:=Lib.hid h1
 have H2:=Lib.hid h2
 have HD:=Lib.hid hd
 have HNX:=Lib.hid hnx
 have HNA:=Lib.hid hna
 have HND:=Lib.hid hnd
 have HOK:=Lib.hid hok
 have ka:=Lib.hid (since_alloc w (.cells #[.int .i64 ck,.slice X nx xc,.slice Y na yc,.int .i64 cc] 25))
 have BX:=Lib.hid (fun W (kk:Since (w.alloc (.cells #[.int .i64 ck,.slice X nx xc,.slice Y na yc,.int .i64 cc] 25)) W)=>(Bx.fresh w #[.int .i64 ck,.slice X nx xc,.slice Y na yc,.int .i64 cc] 25).since kk)
 have t0:=Lib.hid (Since.refl (w.alloc (.cells #[.int .i64 ck,.slice X nx xc,.slice Y na yc,.int .i64 cc] 25)))
 have C1:=Lib.hid (fun b (hb:shp ck nx na=b) W=>by have:=hasCounts_any ck X Y nx xc na yc cc W hx ha; rw[hb] at this; exact this)
 have C2:=Lib.hid (fun b (hb:sgn ck ca cc=b) W (kk:Since w W)=>by have:=hasSigns_any ck (.slice X nx xc) (.slice Y na yc) ca cc W ⟨_,_,_,rfl⟩ (h2.since stI kk) (by omega); rw[hb] at this; exact this)
 have C4:=Lib.hid (fun b (hb:ca.all within=b) W (kk:Since w W)=>by have:=areValues_any (.slice Y na yc) ca W (h2.since stI kk) (by omega); rw[hb] at this; exact this)
 have C5:=Lib.hid (fun b (hb:within cc=b) W=>by have:=isValue_any cc W; rw[hb] at this; exact this)
 have C6:=Lib.hid (fun b (hb:tak ck=b) W=>by have:=takesNumber_any ck W; rw[hb] at this; exact this)
 have C7:=Lib.hid (fun (y:Int) b (hb:isV nd y=b) W=>by have:=isVariable_any y D nd dc W; rw[hb] at this; exact this)
 have C8:=Lib.hid (fun (hp:ck=4∨ck=5∨ck=6→0<cx.length) W (kk:Since w W)=>booleans_any ck (.slice X nx xc) (.slice Y na yc) cx cc W ⟨_,_,_,rfl⟩ (h1.since stI kk) hp (by omega))
 clear h1 h2 hd hnx hna hnd hok
 cases q1:shp ck nx na with
 | false =>
  have D1:=Lib.hid (C1.out false q1)
  have E:=Lib.hid (show false=R by rw[← HR.out,numOk,← HNA.out,q1]; simp)
  skip
  go_enter Try.func182,Try.ntmps182
  go_wp2_with (first | (go_at_call 219; (with_reducible refine (D1.out _).mono ?_); rintro e w1 ⟨rfl,k1⟩; have t1:=Lib.hid (t0.out.trans k1); obtain⟨b0,b1,b2,b3⟩:=bx4 (BX.out _ t1.out)))
  go_ret
  exact .of E.out (ka.out.trans t1.out)
 | true =>
  have D1:=Lib.hid (C1.out true q1)
  cases q2:sgn ck ca cc with
  | false =>
   have D2:=Lib.hid (C2.out false q2)
   have E:=Lib.hid (show false=R by rw[← HR.out,numOk,← HNA.out,q1,q2]; simp)
   skip
   go_enter Try.func182,Try.ntmps182
   go_wp2_with (first | (go_at_call 219; (with_reducible refine (D1.out _).mono ?_); rintro e w1 ⟨rfl,k1⟩; have t1:=Lib.hid (t0.out.trans k1); obtain⟨b0,b1,b2,b3⟩:=bx4 (BX.out _ t1.out)) | (go_at_call 220; (with_reducible refine (D2.out _ (ka.out.trans t1.out)).mono ?_); rintro e w2 ⟨rfl,k2⟩; have t2:=Lib.hid (t1.out.trans k2); obtain⟨b0,b1,b2,b3⟩:=bx4 (BX.out _ t2.out)))
   go_ret
   exact .of E.out (ka.out.trans t2.out)
  | true =>
   have D2:=Lib.hid (C2.out true q2)
   by_cases q3:nx≤32
   case neg =>
    have q3':decide (nx≤32)=false:=decide_eq_false q3
    have E:=Lib.hid (show false=R by rw[← HR.out,numOk,← HNA.out,q1,q2,q3']; simp)
    go_enter Try.func182,Try.ntmps182
    go_wp2_with (first | (go_at_call 219; (with_reducible refine (D1.out _).mono ?_); rintro e w1 ⟨rfl,k1⟩; have t1:=Lib.hid (t0.out.trans k1); obtain⟨b0,b1,b2,b3⟩:=bx4 (BX.out _ t1.out)) | (go_at_call 220; (with_reducible refine (D2.out _ (ka.out.trans t1.out)).mono ?_); rintro e w2 ⟨rfl,k2⟩; have t2:=Lib.hid (t1.out.trans k2); obtain⟨b0,b1,b2,b3⟩:=bx4 (BX.out _ t2.out)))
    go_ret
    exact .of E.out (ka.out.trans t2.out)
   have q3':decide (nx≤32)=true:=decide_eq_true q3
   cases q4:ca.all within with
   | false =>
    have D4:=Lib.hid (C4.out false q4)
    have E:=Lib.hid (show false=R by rw[← HR.out,numOk,← HNA.out,q1,q2,q3',q4]; simp)
    skip
    go_enter Try.func182,Try.ntmps182
    go_wp2_with (first | (go_at_call 219; (with_reducible refine (D1.out _).mono ?_); rintro e w1 ⟨rfl,k1⟩; have t1:=Lib.hid (t0.out.trans k1); obtain⟨b0,b1,b2,b3⟩:=bx4 (BX.out _ t1.out)) | (go_at_call 220; (with_reducible refine (D2.out _ (ka.out.trans t1.out)).mono ?_); rintro e w2 ⟨rfl,k2⟩; have t2:=Lib.hid (t1.out.trans k2); obtain⟨b0,b1,b2,b3⟩:=bx4 (BX.out _ t2.out)) | (go_at_call 221; (with_reducible refine (D4.out _ (ka.out.trans t2.out)).mono ?_); rintro e w4 ⟨rfl,k4⟩; have t4:=Lib.hid (t2.out.trans k4); obtain⟨b0,b1,b2,b3⟩:=bx4 (BX.out _ t4.out)))
    go_ret
    exact .of E.out (ka.out.trans t4.out)
   | true =>
    have D4:=Lib.hid (C4.out true q4)
    cases q5:within cc with
    | false =>
     have D5:=Lib.hid (C5.out false q5)
     have E:=Lib.hid (show false=R by rw[← HR.out,numOk,← HNA.out,q1,q2,q3',q4,q5]; simp)
     skip
     go_enter Try.func182,Try.ntmps182
     go_wp2_with (first | (go_at_call 219; (with_reducible refine (D1.out _).mono ?_); rintro e w1 ⟨rfl,k1⟩; have t1:=Lib.hid (t0.out.trans k1); obtain⟨b0,b1,b2,b3⟩:=bx4 (BX.out _ t1.out)) | (go_at_call 220; (with_reducible refine (D2.out _ (ka.out.trans t1.out)).mono ?_); rintro e w2 ⟨rfl,k2⟩; have t2:=Lib.hid (t1.out.trans k2); obtain⟨b0,b1,b2,b3⟩:=bx4 (BX.out _ t2.out)) | (go_at_call 221; (with_reducible refine (D4.out _ (ka.out.trans t2.out)).mono ?_); rintro e w4 ⟨rfl,k4⟩; have t4:=Lib.hid (t2.out.trans k4); obtain⟨b0,b1,b2,b3⟩:=bx4 (BX.out _ t4.out)) | (go_at_call 218; (with_reducible refine (D5.out _).mono ?_); rintro e w5 ⟨rfl,rfl⟩))
     go_ret
     exact .of E.out (ka.out.trans t4.out)
    | true =>
     have D5:=Lib.hid (C5.out true q5)
     have cont:(decide (cc=0) || tak ck)=true→Calls Try.prog 182 #[.agg #[.int .i64 ck,.slice X nx xc,.slice Y na yc,.int .i64 cc],.slice D nd dc] w (RetT R w):=by
      intro q6
      have hnum:numOk ck nx ca cc=true:=by rw[numOk,← HNA.out,q1,q2,q3',q4,q5,q6]; rfl
      have HR2:=Lib.hid (show (cx.all (isV nd) && (bools ck cx).all (fun x=>tru (domAt ds x)))=R by rw[← HR.out,hnum,Bool.true_and])
      have hp:ck=4∨ck=5∨ck=6→0<cx.length:=fun e=>by have:=shp_pos q1 e; have:=HNX.out; omega
      have D8:=Lib.hid (C8.out hp)
      have hcc:(cc != 0)=true→tak ck=true:=fun e=>by rw[bne_iff_ne] at e; rw[decide_eq_false e,Bool.false_or] at q6; exact q6
      clear HR hp hnum C1 C2 C4 C5 C8
      by_cases z0:cc=0
      · skip
        have z1:(cc != 0)=false:=by rw[bne_eq_false_iff_eq]; exact z0
        clear z0 hcc q1 q2 q3' q4 q5 q6
        go_enter Try.func182,Try.ntmps182
        go_wp2_with (first | (go_at_call 219; (with_reducible refine (D1.out _).mono ?_); rintro e w1 ⟨rfl,k1⟩; have t1:=Lib.hid (t0.out.trans k1); obtain⟨b0,b1,b2,b3⟩:=bx4 (BX.out _ t1.out)) | (go_at_call 220; (with_reducible refine (D2.out _ (ka.out.trans t1.out)).mono ?_); rintro e w2 ⟨rfl,k2⟩; have t2:=Lib.hid (t1.out.trans k2); obtain⟨b0,b1,b2,b3⟩:=bx4 (BX.out _ t2.out)) | (go_at_call 221; (with_reducible refine (D4.out _ (ka.out.trans t2.out)).mono ?_); rintro e w4 ⟨rfl,k4⟩; have t4:=Lib.hid (t2.out.trans k4); obtain⟨b0,b1,b2,b3⟩:=bx4 (BX.out _ t4.out)) | (go_at_call 218; (with_reducible refine (D5.out _).mono ?_); rintro e w5 ⟨rfl,rfl⟩))
        go_loopw [47] (fun i wr=>∃ k:Nat,i = .int .i64 (k:Int)∧k≤nx∧Hid (((cx.drop k).all (isV nd) && (bools ck cx).all (fun x=>tru (domAt ds x)))=R)∧Hid (cx.all (isV nd)=(cx.drop k).all (isV nd))∧Hid (Since (w.alloc (.cells #[.int .i64 ck,.slice X nx xc,.slice Y na yc,.int .i64 cc] 25)) wr)) (fun i _=>nx - (intOf i).toNat)
        case atStart=>exact⟨0,rfl,Nat.zero_le _,HR2.out,rfl,t4.out⟩
        case round =>
         obtain⟨k,rfl,hk,HE,HA,HW⟩:=hrel
         obtain⟨b0,b1,b2,b3⟩:=bx4 (BX.out _ HW.out)
         by_cases hkn:k<nx
         · have hkl:k<cx.length:=by have:=HNX.out; omega
           obtain⟨g,o,rfl,e0⟩:=elI (H1.out.since stI (ka.out.trans HW.out)) hkl
           have hst:=HE.out
           have hsa:=HA.out
           rw[dropI hkl,List.all_cons] at hst hsa
           generalize cx[k]=y at *
           have ST:=Lib.hid hst
           have SA:=Lib.hid hsa
           clear hst hsa hkl HE HA
           cases hy:isV nd y with
           | true =>
            have HE:=Lib.hid (show ((cx.drop (k+1)).all (isV nd) && (bools ck cx).all (fun x=>tru (domAt ds x)))=R by have:=ST.out; rw[hy,Bool.true_and] at this; exact this)
            have HA:=Lib.hid (show cx.all (isV nd)=(cx.drop (k+1)).all (isV nd) by have:=SA.out; rw[hy,Bool.true_and] at this; exact this)
            have D7:=Lib.hid (C7.out y true hy)
            clear hy ST SA
            go_wp2_with (go_at_call 223; (with_reducible refine (D7.out _).mono ?_); rintro e w7 ⟨rfl,rfl⟩)
            go_roundw
            case rel=>exact⟨k+1,by go_num,by omega,HE.out,HA.out,HW.out⟩
            case measure=>simp[intOf]; omega
           | false =>
            have HE:=Lib.hid (show false=R by have:=ST.out; rw[hy,Bool.false_and,Bool.false_and] at this; exact this)
            have D7:=Lib.hid (C7.out y false hy)
            clear hy ST SA
            go_wp2_with (go_at_call 223; (with_reducible refine (D7.out _).mono ?_); rintro e w7 ⟨rfl,rfl⟩)
            go_ret
            exact .of HE.out (ka.out.trans HW.out)
         · obtain rfl:k=nx:=by omega
           have hnil:cx.drop k = []:=List.drop_of_length_le (by have:=HNX.out; omega)
           have HB:=Lib.hid (show (bools ck cx).all (fun x=>tru (domAt ds x))=R by rw[← HE.out,hnil]; rfl)
           have HIN:=Lib.hid (show ∀ y ∈ cx,isV nd y=true from List.all_eq_true.1 (by rw[HA.out,hnil]; rfl))
           clear hnil HE HA
           go_wp2_with (go_at_call 224; (with_reducible refine (D8.out _ (ka.out.trans HW.out)).mono ?_); rintro e w8 ⟨B,nb,bc,rfl,hnb,hB,k8⟩; have t8:=Lib.hid (HW.out.trans k8); have HBS:=Lib.hid hB; have HNB:=Lib.hid hnb; clear hB hnb)
           have hnb:nb≤1100000:=by have:=HNB.out; have:=bools_len ck cx; have:=HNX.out; omega
           go_loopw [59] (fun i wr=>∃ j:Nat,i = .int .i64 (j:Int)∧j≤nb∧Hid (((bools ck cx).drop j).all (fun x=>tru (domAt ds x))=R)∧Hid (Since w8 wr)) (fun i _=>nb - (intOf i).toNat)
           case atStart=>exact⟨0,rfl,Nat.zero_le _,HB.out,Since.refl _⟩
           case round =>
            obtain⟨j,rfl,hj,HE,HV⟩:=hrel
            by_cases hjn:j<nb
            · have hjl:j<(bools ck cx).length:=by have:=HNB.out; omega
              obtain⟨g,o,rfl,e0⟩:=elI (HBS.out.since stI HV.out) hjl
              have hst:=HE.out
              rw[dropI hjl,List.all_cons] at hst
              have hin:=HIN.out _ (bools_sub (List.getElem_mem hjl))
              generalize (bools ck cx)[j]=y at *
              obtain⟨q,rfl,hq⟩:=isV_nat hin
              have hql:q<ds.length:=by have:=HND.out; omega
              obtain⟨g2,o2,B2,d2,rfl,S2,e2⟩:=elD (HD.out.since stD (ka.out.trans (t8.out.trans HV.out))) hql
              rw[domAt_nat hql] at hst
              have hdo:=HOK.out _ (List.getElem_mem hql)
              generalize ds[q]=dq at *
              have IB:=Lib.hid (fun b (hb:tru dq=b)=>by have:=isBoolean_any _ dq wr S2 hdo.1 hdo.2; rw[hb] at this; exact this)
              obtain⟨p,hp⟩:∃ p,p=dq.length:=⟨_,rfl⟩
              rw[← hp] at e2 IB
              have ST:=Lib.hid hst
              clear hst hjl HE hin hql S2 hdo hp
              cases hy:tru dq with
              | true =>
               have HE:=Lib.hid (show ((bools ck cx).drop (j+1)).all (fun x=>tru (domAt ds x))=R by have:=ST.out; rw[hy,Bool.true_and] at this; exact this)
               have D9:=Lib.hid (IB.out true hy)
               clear hy ST IB
               go_wp2_with (go_at_call 225; (with_reducible refine D9.out.mono ?_); rintro e w9 ⟨rfl,rfl⟩)
               go_roundw
               case rel=>exact⟨j+1,by go_num,by omega,HE.out,HV.out⟩
               case measure=>simp[intOf]; omega
              | false =>
               have HE:=Lib.hid (show false=R by have:=ST.out; rw[hy,Bool.false_and] at this; exact this)
               have D9:=Lib.hid (IB.out false hy)
               clear hy ST IB
               go_wp2_with (go_at_call 225; (with_reducible refine D9.out.mono ?_); rintro e w9 ⟨rfl,rfl⟩)
               go_ret
               exact .of HE.out (ka.out.trans (t8.out.trans HV.out))
            · obtain rfl:j=nb:=by omega
              have HE2:=Lib.hid (show true=R by rw[← HE.out,List.drop_of_length_le (by have:=HNB.out; omega)]; rfl)
              go_wp2
              go_ret
              exact .of HE2.out (ka.out.trans (t8.out.trans HV.out))
      · skip
        have z1:(cc != 0)=true:=by rw[bne_iff_ne]; exact z0
        have D6:=Lib.hid (C6.out true (hcc z1))
        clear z0 hcc q1 q2 q3' q4 q5 q6
        go_enter Try.func182,Try.ntmps182
        go_wp2_with (first | (go_at_call 219; (with_reducible refine (D1.out _).mono ?_); rintro e w1 ⟨rfl,k1⟩; have t1:=Lib.hid (t0.out.trans k1); obtain⟨b0,b1,b2,b3⟩:=bx4 (BX.out _ t1.out)) | (go_at_call 220; (with_reducible refine (D2.out _ (ka.out.trans t1.out)).mono ?_); rintro e w2 ⟨rfl,k2⟩; have t2:=Lib.hid (t1.out.trans k2); obtain⟨b0,b1,b2,b3⟩:=bx4 (BX.out _ t2.out)) | (go_at_call 221; (with_reducible refine (D4.out _ (ka.out.trans t2.out)).mono ?_); rintro e w4 ⟨rfl,k4⟩; have t4:=Lib.hid (t2.out.trans k4); obtain⟨b0,b1,b2,b3⟩:=bx4 (BX.out _ t4.out)) | (go_at_call 218; (with_reducible refine (D5.out _).mono ?_); rintro e w5 ⟨rfl,rfl⟩) | (go_at_call 222; (with_reducible refine (D6.out _).mono ?_); rintro e w6 ⟨rfl,rfl⟩))
        go_loopw [47] (fun i wr=>∃ k:Nat,i = .int .i64 (k:Int)∧k≤nx∧Hid (((cx.drop k).all (isV nd) && (bools ck cx).all (fun x=>tru (domAt ds x)))=R)∧Hid (cx.all (isV nd)=(cx.drop k).all (isV nd))∧Hid (Since (w.alloc (.cells #[.int .i64 ck,.slice X nx xc,.slice Y na yc,.int .i64 cc] 25)) wr)) (fun i _=>nx - (intOf i).toNat)
        case atStart=>exact⟨0,rfl,Nat.zero_le _,HR2.out,rfl,t4.out⟩
        case round =>
         obtain⟨k,rfl,hk,HE,HA,HW⟩:=hrel
         obtain⟨b0,b1,b2,b3⟩:=bx4 (BX.out _ HW.out)
         by_cases hkn:k<nx
         · have hkl:k<cx.length:=by have:=HNX.out; omega
           obtain⟨g,o,rfl,e0⟩:=elI (H1.out.since stI (ka.out.trans HW.out)) hkl
           have hst:=HE.out
           have hsa:=HA.out
           rw[dropI hkl,List.all_cons] at hst hsa
           generalize cx[k]=y at *
           have ST:=Lib.hid hst
           have SA:=Lib.hid hsa
           clear hst hsa hkl HE HA
           cases hy:isV nd y with
           | true =>
            have HE:=Lib.hid (show ((cx.drop (k+1)).all (isV nd) && (bools ck cx).all (fun x=>tru (domAt ds x)))=R by have:=ST.out; rw[hy,Bool.true_and] at this; exact this)
            have HA:=Lib.hid (show cx.all (isV nd)=(cx.drop (k+1)).all (isV nd) by have:=SA.out; rw[hy,Bool.true_and] at this; exact this)
            have D7:=Lib.hid (C7.out y true hy)
            clear hy ST SA
            go_wp2_with (go_at_call 223; (with_reducible refine (D7.out _).mono ?_); rintro e w7 ⟨rfl,rfl⟩)
            go_roundw
            case rel=>exact⟨k+1,by go_num,by omega,HE.out,HA.out,HW.out⟩
            case measure=>simp[intOf]; omega
           | false =>
            have HE:=Lib.hid (show false=R by have:=ST.out; rw[hy,Bool.false_and,Bool.false_and] at this; exact this)
            have D7:=Lib.hid (C7.out y false hy)
            clear hy ST SA
            go_wp2_with (go_at_call 223; (with_reducible refine (D7.out _).mono ?_); rintro e w7 ⟨rfl,rfl⟩)
            go_ret
            exact .of HE.out (ka.out.trans HW.out)
         · obtain rfl:k=nx:=by omega
           have hnil:cx.drop k = []:=List.drop_of_length_le (by have:=HNX.out; omega)
           have HB:=Lib.hid (show (bools ck cx).all (fun x=>tru (domAt ds x))=R by rw[← HE.out,hnil]; rfl)
           have HIN:=Lib.hid (show ∀ y ∈ cx,isV nd y=true from List.all_eq_true.1 (by rw[HA.out,hnil]; rfl))
           clear hnil HE HA
           go_wp2_with (go_at_call 224; (with_reducible refine (D8.out _ (ka.out.trans HW.out)).mono ?_); rintro e w8 ⟨B,nb,bc,rfl,hnb,hB,k8⟩; have t8:=Lib.hid (HW.out.trans k8); have HBS:=Lib.hid hB; have HNB:=Lib.hid hnb; clear hB hnb)
           have hnb:nb≤1100000:=by have:=HNB.out; have:=bools_len ck cx; have:=HNX.out; omega
           go_loopw [59] (fun i wr=>∃ j:Nat,i = .int .i64 (j:Int)∧j≤nb∧Hid (((bools ck cx).drop j).all (fun x=>tru (domAt ds x))=R)∧Hid (Since w8 wr)) (fun i _=>nb - (intOf i).toNat)
           case atStart=>exact⟨0,rfl,Nat.zero_le _,HB.out,Since.refl _⟩
           case round =>
            obtain⟨j,rfl,hj,HE,HV⟩:=hrel
            by_cases hjn:j<nb
            · have hjl:j<(bools ck cx).length:=by have:=HNB.out; omega
              obtain⟨g,o,rfl,e0⟩:=elI (HBS.out.since stI HV.out) hjl
              have hst:=HE.out
              rw[dropI hjl,List.all_cons] at hst
              have hin:=HIN.out _ (bools_sub (List.getElem_mem hjl))
              generalize (bools ck cx)[j]=y at *
              obtain⟨q,rfl,hq⟩:=isV_nat hin
              have hql:q<ds.length:=by have:=HND.out; omega
              obtain⟨g2,o2,B2,d2,rfl,S2,e2⟩:=elD (HD.out.since stD (ka.out.trans (t8.out.trans HV.out))) hql
              rw[domAt_nat hql] at hst
              have hdo:=HOK.out _ (List.getElem_mem hql)
              generalize ds[q]=dq at *
              have IB:=Lib.hid (fun b (hb:tru dq=b)=>by have:=isBoolean_any _ dq wr S2 hdo.1 hdo.2; rw[hb] at this; exact this)
              obtain⟨p,hp⟩:∃ p,p=dq.length:=⟨_,rfl⟩
              rw[← hp] at e2 IB
              have ST:=Lib.hid hst
              clear hst hjl HE hin hql S2 hdo hp
              cases hy:tru dq with
              | true =>
               have HE:=Lib.hid (show ((bools ck cx).drop (j+1)).all (fun x=>tru (domAt ds x))=R by have:=ST.out; rw[hy,Bool.true_and] at this; exact this)
               have D9:=Lib.hid (IB.out true hy)
               clear hy ST IB
               go_wp2_with (go_at_call 225; (with_reducible refine D9.out.mono ?_); rintro e w9 ⟨rfl,rfl⟩)
               go_roundw
               case rel=>exact⟨j+1,by go_num,by omega,HE.out,HV.out⟩
               case measure=>simp[intOf]; omega
              | false =>
               have HE:=Lib.hid (show false=R by have:=ST.out; rw[hy,Bool.false_and] at this; exact this)
               have D9:=Lib.hid (IB.out false hy)
               clear hy ST IB
               go_wp2_with (go_at_call 225; (with_reducible refine D9.out.mono ?_); rintro e w9 ⟨rfl,rfl⟩)
               go_ret
               exact .of HE.out (ka.out.trans (t8.out.trans HV.out))
            · obtain rfl:j=nb:=by omega
              have HE2:=Lib.hid (show true=R by rw[← HE.out,List.drop_of_length_le (by have:=HNB.out; omega)]; rfl)
              go_wp2
              go_ret
              exact .of HE2.out (ka.out.trans (t8.out.trans HV.out))
     by_cases z0:cc=0
     · exact cont (by rw[decide_eq_true z0]; rfl)
     cases q6:tak ck with
     | true=>exact cont (by rw[q6,Bool.or_true])
     | false =>
      have D6:=Lib.hid (C6.out false q6)
      have z1:(cc != 0)=true:=by rw[bne_iff_ne]; exact z0
      have z2:decide (cc=0)=false:=decide_eq_false z0
      have E:=Lib.hid (show false=R by rw[← HR.out,numOk,← HNA.out,q1,q2,q3',q4,q5,q6,z2]; simp)
      clear cont
      go_enter Try.func182,Try.ntmps182
      go_wp2_with (first | (go_at_call 219; (with_reducible refine (D1.out _).mono ?_); rintro e w1 ⟨rfl,k1⟩; have t1:=Lib.hid (t0.out.trans k1); obtain⟨b0,b1,b2,b3⟩:=bx4 (BX.out _ t1.out)) | (go_at_call 220; (with_reducible refine (D2.out _ (ka.out.trans t1.out)).mono ?_); rintro e w2 ⟨rfl,k2⟩; have t2:=Lib.hid (t1.out.trans k2); obtain⟨b0,b1,b2,b3⟩:=bx4 (BX.out _ t2.out)) | (go_at_call 221; (with_reducible refine (D4.out _ (ka.out.trans t2.out)).mono ?_); rintro e w4 ⟨rfl,k4⟩; have t4:=Lib.hid (t2.out.trans k4); obtain⟨b0,b1,b2,b3⟩:=bx4 (BX.out _ t4.out)) | (go_at_call 218; (with_reducible refine (D5.out _).mono ?_); rintro e w5 ⟨rfl,rfl⟩) | (go_at_call 222; (with_reducible refine (D6.out _).mono ?_); rintro e w6 ⟨rfl,rfl⟩))
      go_ret
      exact .of E.out (ka.out.trans t4.out)
end
section
open Go.RowKit
set_option linter.unusedVariables false
set_option linter.unusedSimpArgs false
open Dig Lx Tk Ti Zs Tr
theorem isRequest_any (v:Value) (m:Md) (w:World) (h:ModAt w v m):Calls Try.prog 183 #[v] w (RetT (reqOk m) w):=by
 obtain⟨vd,vc,rfl,h1,h2⟩:=h
 obtain⟨ds,cs,ask,goal⟩:=m
 simp only at h1 h2 ⊢
 obtain⟨D,dc,rfl⟩:=h1.form
 obtain⟨C,cc,rfl⟩:=h2.form
 obtain⟨nd,hnd⟩:∃ n,n=ds.length:=⟨_,rfl⟩
 obtain⟨nc,hnc⟩:∃ n,n=cs.length:=⟨_,rfl⟩
 have er:reqOk ⟨ds,cs,ask,goal⟩=if ask=0 then decide (goal=0) else if ask=1∨ask=2 then isV nd goal else false:=by rw[hnd]; rfl
 rw[er]
 rw[← hnd,← hnc]
 have ka:=Lib.hid (since_alloc w (.cells #[.slice D nd dc,.slice C nc cc,.int .i64 ask,.int .i64 goal] 79))
 have D7:=Lib.hid (fun W=>isVariable_any goal D nd dc W)
 clear h1 h2 hnd hnc er
 by_cases a0:ask=0
 · subst a0
   rw[if_pos rfl]
   by_cases g0:goal=0
   · subst g0
     go_enter Try.func183,Try.ntmps183
     go_wp2
     go_ret
     exact⟨rfl,ka.out⟩
   · have z:(goal == 0)=false:=by rw[beq_eq_false_iff_ne]; exact g0
     rw[decide_eq_false g0]
     clear g0
     go_enter Try.func183,Try.ntmps183
     go_wp2
     go_ret
     exact⟨rfl,ka.out⟩
 · rw[if_neg a0]
   by_cases a12:ask=1∨ask=2
   · rw[if_pos a12]
     clear a0
     rcases a12 with rfl | rfl
     all_goals go_enter Try.func183,Try.ntmps183
     all_goals go_wp2_with (go_at_call 223; (with_reducible refine (D7.out _).mono ?_); rintro e w1 ⟨rfl,rfl⟩)
     all_goals go_ret
     all_goals exact⟨rfl,ka.out⟩
   · rw[if_neg a12]
     have z0:(ask == 0)=false:=by rw[beq_eq_false_iff_ne]; exact a0
     have z1:(ask == 1)=false:=by rw[beq_eq_false_iff_ne]; omega
     have z2:(ask == 2)=false:=by rw[beq_eq_false_iff_ne]; omega
     clear a0 a12
     go_enter Try.func183,Try.ntmps183
     go_wp2
     go_ret
     exact⟨rfl,ka.out⟩
def SzC (c:Cn):Prop:=c.x.length≤1100000∧c.a.length≤1100000
def SzM (m:Md):Prop:=(∀ d ∈ m.ds,d.length≤1100000)∧(∀ c ∈ m.cs,SzC c)
theorem dropC {α:Type} {l:List α} {k:Nat} (h:k<l.length):l.drop k=l[k] :: l.drop (k+1):=List.drop_eq_getElem_cons h
theorem domOk_pos {d:List Rn} (h:domOk d=true):0<d.length:=by
 simp only[domOk,Bool.and_eq_true,decide_eq_true_eq] at h; exact h.2
theorem mright_any (v:Value) (m:Md) (w:World) (h:ModAt w v m) (hs:SzM m):Calls Try.prog 122 #[v] w (RetT (modOk m) w):=by
 have RQ:=Lib.hid (fun b (hb:reqOk m=b) W (kk:Since w W)=>by have:=isRequest_any v m W (h.since kk); rw[hb] at this; exact this)
 obtain⟨vd,vc,rfl,h1,h2⟩:=h
 obtain⟨ds,cs,ask,goal⟩:=m
 simp only at h1 h2 ⊢
 obtain⟨hs1,hs2⟩:=hs
 simp only at hs1 hs2
 obtain⟨D,dc,rfl⟩:=h1.form
 obtain⟨C,cc,rfl⟩:=h2.form
 obtain⟨nd,hnd⟩:∃ n,n=ds.length:=⟨_,rfl⟩
 obtain⟨nc,hnc⟩:∃ n,n=cs.length:=⟨_,rfl⟩
 obtain⟨Q,hQ⟩:∃ Q,Q=reqOk ⟨ds,cs,ask,goal⟩:=⟨_,rfl⟩
 obtain⟨R,hR⟩:∃ R,R=modOk ⟨ds,cs,ask,goal⟩:=⟨_,rfl⟩
 have HR:=Lib.hid (show (decide (nd≤64) && decide (nc≤64) && ds.all domOk && cs.all (conOk ds) && Q)=R by rw[hR,hnd,hnc,hQ]; rfl)
 have RR:=Lib.hid (RQ.out Q hQ.symm)
 rw[← hR]
 clear hR hQ
 rw[← hnd,← hnc] at RR ⊢
 rw[← hnd] at h1
 rw[← hnc] at h2
 have H1:=Lib.hid h1
 have H2:=Lib.hid h2
 have HND:=Lib.hid hnd
 have HNC:=Lib.hid hnc
 have HS1:=Lib.hid hs1
 have HS2:=Lib.hid hs2
 have ka:=Lib.hid (since_alloc w (.cells #[.slice D nd dc,.slice C nc cc,.int .i64 ask,.int .i64 goal] 79))
 have BX:=Lib.hid (fun W (kk:Since (w.alloc (.cells #[.slice D nd dc,.slice C nc cc,.int .i64 ask,.int .i64 goal] 79)) W)=>(Bx.fresh w #[.slice D nd dc,.slice C nc cc,.int .i64 ask,.int .i64 goal] 79).since kk)
 clear h1 h2 hnd hnc hs1 hs2 RQ
 by_cases cd:nd≤64
 case neg =>
  have E:=Lib.hid (show false=R by rw[← HR.out,decide_eq_false cd]; rfl)
  go_enter Try.func122,Try.ntmps122
  go_wp2
  go_ret
  exact .of E.out ka.out
 by_cases cn:nc≤64
 case neg =>
  have E:=Lib.hid (show false=R by rw[← HR.out,decide_eq_false cn,Bool.and_false]; rfl)
  go_enter Try.func122,Try.ntmps122
  go_wp2
  go_ret
  exact .of E.out ka.out
 have HR2:=Lib.hid (show (ds.all domOk && (cs.all (conOk ds) && Q))=R by rw[← HR.out,decide_eq_true cd,decide_eq_true cn,Bool.and_assoc]; rfl)
 clear HR
 go_enter Try.func122,Try.ntmps122
 go_wp2
 go_loopw [20] (fun i wr=>∃ k:Nat,i = .int .i64 (k:Int)∧k≤nd∧Hid (((ds.drop k).all domOk && (cs.all (conOk ds) && Q))=R)∧Hid (ds.all domOk=(ds.drop k).all domOk)∧Hid (Since (w.alloc (.cells #[.slice D nd dc,.slice C nc cc,.int .i64 ask,.int .i64 goal] 79)) wr)) (fun i _=>nd - (intOf i).toNat)
 case atStart=>exact⟨0,rfl,Nat.zero_le _,HR2.out,rfl,Since.refl _⟩
 case round =>
  obtain⟨k,rfl,hk,HE,HA,HW⟩:=hrel
  obtain⟨b0,b1,b2,b3⟩:=bx4 (BX.out _ HW.out)
  by_cases hkn:k<nd
  · have hkl:k<ds.length:=by have:=HND.out; omega
    obtain⟨g,o,B2,d2,rfl,S2,e2⟩:=elD (H1.out.since stD (ka.out.trans HW.out)) hkl
    have hst:=HE.out
    have hsa:=HA.out
    rw[dropC hkl,List.all_cons] at hst hsa
    have hsz:=HS1.out _ (List.getElem_mem hkl)
    generalize ds[k]=y at *
    have ST:=Lib.hid hst
    have SA:=Lib.hid hsa
    have DM:=Lib.hid (fun b (hb:domOk y=b)=>by have:=isDomain_any _ y wr S2 hsz; rw[hb] at this; exact this)
    obtain⟨p,hp⟩:∃ p,p=y.length:=⟨_,rfl⟩
    rw[← hp] at e2 DM
    clear hst hsa hkl HE HA S2 hsz hp
    cases hy:domOk y with
    | true =>
     have HE:=Lib.hid (show ((ds.drop (k+1)).all domOk && (cs.all (conOk ds) && Q))=R by have:=ST.out; rw[hy,Bool.true_and] at this; exact this)
     have HA:=Lib.hid (show ds.all domOk=(ds.drop (k+1)).all domOk by have:=SA.out; rw[hy,Bool.true_and] at this; exact this)
     have D7:=Lib.hid (DM.out true hy)
     clear hy ST SA DM
     go_wp2_with (go_at_call 181; (with_reducible refine D7.out.mono ?_); rintro e w7 ⟨rfl,k7⟩)
     go_roundw
     case rel=>exact⟨k+1,by go_num,by omega,HE.out,HA.out,HW.out.trans k7⟩
     case measure=>simp[intOf]; omega
    | false =>
     have HE:=Lib.hid (show false=R by have:=ST.out; rw[hy,Bool.false_and,Bool.false_and] at this; exact this)
     have D7:=Lib.hid (DM.out false hy)
     clear hy ST SA DM
     go_wp2_with (go_at_call 181; (with_reducible refine D7.out.mono ?_); rintro e w7 ⟨rfl,k7⟩)
     go_ret
     exact .of HE.out (ka.out.trans (HW.out.trans k7))
  · obtain rfl:k=nd:=by omega
    have hnil:ds.drop k = []:=List.drop_of_length_le (by have:=HND.out; omega)
    have HB:=Lib.hid (show (cs.all (conOk ds) && Q)=R by rw[← HE.out,hnil]; rfl)
    have HIN:=Lib.hid (show ∀ d ∈ ds,0<d.length∧d.length≤1100000 from fun d hd=>⟨domOk_pos (List.all_eq_true.1 (show ds.all domOk=true by rw[HA.out,hnil]; rfl) d hd),HS1.out d hd⟩)
    clear hnil HE HA
    rename World=>w5
    go_wp2
    go_loopw [31] (fun i wr=>∃ j:Nat,i = .int .i64 (j:Int)∧j≤nc∧Hid (((cs.drop j).all (conOk ds) && Q)=R)∧Hid (Since w5 wr)) (fun i _=>nc - (intOf i).toNat)
    case atStart=>exact⟨0,rfl,Nat.zero_le _,HB.out,Since.refl _⟩
    case round =>
     obtain⟨j,rfl,hj,HE,HV⟩:=hrel
     obtain⟨b0,b1,b2,b3⟩:=bx4 (BX.out _ (HW.out.trans HV.out))
     by_cases hjn:j<nc
     · have hjl:j<cs.length:=by have:=HNC.out; omega
       obtain⟨g,o,X,xc,Y,yc,rfl,S1,S2,e0,e1,e2,e3⟩:=elC (H2.out.since stC (ka.out.trans (HW.out.trans HV.out))) hjl
       have hst:=HE.out
       rw[dropC hjl,List.all_cons] at hst
       have hsz:=HS2.out _ (List.getElem_mem hjl)
       generalize cs[j]=y at *
       obtain⟨yk,yx,ya,y_c⟩:=y
       simp only at S1 S2 e0 e1 e2 e3 hsz
       have CN:=Lib.hid (fun b (hb:conOk ds ⟨yk,yx,ya,y_c⟩=b) W (kk:Since wr W)=>by have:=isConstraint_any (.agg #[.int .i64 yk,.slice X yx.length xc,.slice Y ya.length yc,.int .i64 y_c]) (.slice D k dc) ⟨yk,yx,ya,y_c⟩ ds W ⟨_,_,rfl,S1.since stI kk,S2.since stI kk⟩ (H1.out.since stD (ka.out.trans (HW.out.trans (HV.out.trans kk)))) HIN.out hsz.1 hsz.2 (by have:=HND.out; omega); rw[hb] at this; exact this)
       obtain⟨p1,hp1⟩:∃ p,p=yx.length:=⟨_,rfl⟩
       obtain⟨p2,hp2⟩:∃ p,p=ya.length:=⟨_,rfl⟩
       rw[← hp1] at e1 CN
       rw[← hp2] at e2 CN
       have ST:=Lib.hid hst
       have kb:=Lib.hid (since_alloc wr (.cells #[.int .i64 yk,.slice X p1 xc,.slice Y p2 yc,.int .i64 y_c] 25))
       obtain⟨_,f1,f2,_⟩:=bx4 (BX.out _ (HW.out.trans (HV.out.trans kb.out)))
       clear hst hjl HE S1 S2 hsz hp1 hp2
       cases hy:conOk ds ⟨yk,yx,ya,y_c⟩ with
       | true =>
        have HE:=Lib.hid (show ((cs.drop (j+1)).all (conOk ds) && Q)=R by have:=ST.out; rw[hy,Bool.true_and] at this; exact this)
        have D7:=Lib.hid (CN.out true hy _ kb.out)
        clear hy ST CN
        go_wp2_with (go_at_call 182; (with_reducible refine D7.out.mono ?_); rintro e w7 ⟨rfl,k7⟩)
        go_roundw
        case rel=>exact⟨j+1,by go_num,by omega,HE.out,HV.out.trans (kb.out.trans k7)⟩
        case measure=>simp[intOf]; omega
       | false =>
        have HE:=Lib.hid (show false=R by have:=ST.out; rw[hy,Bool.false_and,Bool.false_and] at this; exact this)
        have D7:=Lib.hid (CN.out false hy _ kb.out)
        clear hy ST CN
        go_wp2_with (go_at_call 182; (with_reducible refine D7.out.mono ?_); rintro e w7 ⟨rfl,k7⟩)
        go_ret
        exact .of HE.out (ka.out.trans (HW.out.trans (HV.out.trans (kb.out.trans k7))))
     · obtain rfl:j=nc:=by omega
       have HE2:=Lib.hid (show Q=R by rw[← HE.out,List.drop_of_length_le (by have:=HNC.out; omega)]; rfl)
       go_wp2_with (go_at_call 183; (with_reducible refine (RR.out _ (ka.out.trans (HW.out.trans HV.out))).mono ?_); rintro e w9 ⟨rfl,k9⟩)
       go_ret
       exact .of HE2.out (ka.out.trans (HW.out.trans (HV.out.trans k9)))
end
end Go.Proofs.Ytilgmkhcpmegjaa.Sn
