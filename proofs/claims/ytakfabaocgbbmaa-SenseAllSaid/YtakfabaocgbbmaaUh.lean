/- Layer 11 (sense): a constraint with its values beside it: the landed hasSum, last, flag, others, sum, someLite -/
import Derived.Test.YtakfabaocgbbmaaUc
set_option maxHeartbeats 2000000
set_option maxRecDepth 20000
namespace Go.Proofs.Ytakfabaocgbbmaa.Sn
open Go.RowKit
set_option linter.unusedVariables false
set_option linter.unusedSimpArgs false
open Dig Lx Tk Ti Zs Tr
theorem bx5 {W:World} {g:Nat} {z0 z1 z2 z3 z4:Value} {t:TypeId} (h:Bx W g #[z0,z1,z2,z3,z4] t):W.cell? ⟨g,0,none⟩=some z0∧W.cell? ⟨g,1,none⟩=some z1∧W.cell? ⟨g,2,none⟩=some z2∧W.cell? ⟨g,3,none⟩=some z3∧W.cell? ⟨g,4,none⟩=some z4:=⟨h.cell 0,h.cell 1,h.cell 2,h.cell 3,h.cell 4⟩
def PlAt (w:World) (u:Value) (k:Int) (x a:List Int) (c:Int) (v:List Int):Prop:=
 ∃ X xc Y yc V vc,u = .agg #[.int .i64 k,.slice X x.length xc,.slice Y a.length yc,.int .i64 c,.slice V v.length vc]∧Sl 1 QI w (.slice X x.length xc) x∧Sl 1 QI w (.slice Y a.length yc) a∧Sl 1 QI w (.slice V v.length vc) v
theorem PlAt.since {w w':World} {u:Value} {k:Int} {x a:List Int} {c:Int} {v:List Int} (h:PlAt w u k x a c v) (s:Since w w'):PlAt w' u k x a c v:=by
 obtain⟨X,xc,Y,yc,V,vc,h1,h2,h3,h4⟩:=h
 exact⟨X,xc,Y,yc,V,vc,h1,h2.since stI s,h3.since stI s,h4.since stI s⟩
theorem isPos {n:Nat} (h:0<n):∃ j,n=j+1:=⟨n - 1,by omega⟩
theorem lastI {w:World} {A:Option Addr} {c j:Nat} {l:List Int} (h:Sl 1 QI w (.slice A (j+1) c) l):∃ b o,A=some ⟨b,o,none⟩∧w.cell? ⟨b,o+j,none⟩=some (.int .i64 (lastV l)):=by
 have e:=h.at_.1
 obtain⟨b,o,h1,h2⟩:=elI h (i:=j) (by omega)
 have el:lastV l=l[j]:=by
  have:l.length - 1=j:=by omega
  rw[lastV,this]; simp[List.getD,show j<l.length by omega]
 exact⟨b,o,h1,by rw[el]; exact h2⟩
theorem getI {w:World} {A:Option Addr} {n c:Nat} {l:List Int} (h:Sl 1 QI w (.slice A n c) l) (i:Nat) (hi:i<n):∃ b o,A=some ⟨b,o,none⟩∧w.cell? ⟨b,o+i,none⟩=some (.int .i64 (l.getD i 0)):=by
 have e:=h.at_.1
 obtain⟨b,o,h1,h2⟩:=elI h (i:=i) (by omega)
 have el:l.getD i 0=l[i]:=by simp[List.getD,show i<l.length by omega]
 exact⟨b,o,h1,by rw[el]; exact h2⟩
theorem hasSum_any (u:Value) (k:Int) (x a:List Int) (c:Int) (v:List Int) (w:World) (h:PlAt w u k x a c v) :
 Calls Try.prog 59 #[u] w (RetT (decide (1≤k∧k≤6)) w):=by
 obtain⟨X,xc,Y,yc,V,vc,rfl,h1,h2,h3⟩:=h
 generalize x.length=nx at *
 generalize a.length=na at *
 generalize v.length=nv at *
 have ka:=Lib.hid (sA w (.cells #[.int .i64 k,.slice X nx xc,.slice Y na yc,.int .i64 c,.slice V nv vc] 73))
 clear h1 h2 h3
 by_cases c1:k ≥ 1
 · by_cases c2:k≤6
   · rw[decide_eq_true ⟨c1,c2⟩]
     go_enter Try.func59,Try.ntmps59
     go_wp2
     go_ret
     exact⟨rfl,ka.out⟩
   · rw[decide_eq_false (fun e=>c2 e.2)]
     go_enter Try.func59,Try.ntmps59
     go_wp2
     go_ret
     exact⟨rfl,ka.out⟩
 · rw[decide_eq_false (fun e=>c1 e.1)]
   go_enter Try.func59,Try.ntmps59
   go_wp2
   go_ret
   exact⟨rfl,ka.out⟩
theorem last_any (u:Value) (k:Int) (x a:List Int) (c:Int) (v:List Int) (w:World) (h:PlAt w u k x a c v) (hv:0<v.length) (hl:v.length≤1100000) :
 Calls Try.prog 112 #[u] w (fun e w'=>e = .returned (.int .i64 (lastV v))∧Since w w'):=by
 obtain⟨X,xc,Y,yc,V,vc,rfl,h1,h2,h3⟩:=h
 obtain⟨L,hL⟩:∃ L,L=lastV v:=⟨_,rfl⟩
 obtain⟨j,hj⟩:=isPos hv
 have hv2:=h3
 rw[hj] at hv2
 obtain⟨b,o,rfl,e0⟩:=lastI hv2
 rw[← hL] at e0 ⊢
 rw[hj] at hl ⊢
 generalize x.length=nx at *
 generalize a.length=na at *
 have ka:=Lib.hid (sA w (.cells #[.int .i64 k,.slice X nx xc,.slice Y na yc,.int .i64 c,.slice (some ⟨b,o,none⟩) (j+1) vc] 73))
 have e1:=(ka.out.cell _ (World.block_lt_of_cell? _ _ e0)).trans e0
 have ei:((j+1:Nat):Int) - 1=(j:Int):=by omega
 clear h1 h2 h3 hv hj hL hv2
 go_enter Try.func112,Try.ntmps112
 go_wp2
 go_ret
 exact⟨rfl,ka.out⟩
theorem flag_any (u:Value) (k:Int) (x a:List Int) (c:Int) (v:List Int) (w:World) (h:PlAt w u k x a c v) (hv:0<v.length) (hl:v.length≤1100000) :
 Calls Try.prog 93 #[u] w (RetT (flg v) w):=by
 have LA:=Lib.hid (fun W (kk:Since w W)=>last_any u k x a c v W (h.since kk) hv hl)
 obtain⟨X,xc,Y,yc,V,vc,rfl,h1,h2,h3⟩:=h
 have ef:flg v=(lastV v == 1):=rfl
 rw[ef]
 generalize lastV v=L at *
 generalize x.length=nx at *
 generalize a.length=na at *
 generalize v.length=nv at *
 have ka:=Lib.hid (sA w (.cells #[.int .i64 k,.slice X nx xc,.slice Y na yc,.int .i64 c,.slice V nv vc] 73))
 clear h1 h2 h3 ef hv
 go_enter Try.func93,Try.ntmps93
 go_wp2_with (go_at_call 112; (with_reducible refine (LA.out _ ka.out).mono ?_); rintro e w1 ⟨rfl,k1⟩)
 go_ret
 exact⟨rfl,ka.out.trans k1⟩
theorem slTakeI {w:World} {b:Option Addr} {n c:Nat} {xs:List Int} (h:Sl 1 QI w (.slice b n c) xs) (k:Nat) (hk:k≤n):Sl 1 QI w (.slice b k c) (xs.take k):=by
 obtain⟨A,c',h1,h2,h3⟩:=h
 injection h1 with e0 e1 e2
 subst e0 e1 e2
 have hl:(xs.take k).length=k:=by rw[List.length_take]; omega
 refine⟨b,c,by rw[hl],by omega,fun h0 => ?_⟩
 obtain⟨g,o,rfl,h5⟩:=h3 (by omega)
 refine⟨g,o,rfl,fun i x hx => ?_⟩
 have hi:i<k:=by
  apply Decidable.byContradiction; intro hn
  rw[List.getElem?_eq_none (by omega)] at hx; cases hx
 rw[List.getElem?_take_of_lt hi] at hx
 exact h5 i x hx
theorem other_len (v:List Int):(other v).length=v.length - 1:=by rw[other,List.length_take]; omega
theorem mulB {x y:Int} (hx:within x=true) (hy:within y=true) : -1099511627776≤x*y∧x*y≤1099511627776:=by
 rw[within_iff'] at hx hy
 have h:(x*y).natAbs≤1048576*1048576:=by rw[Int.natAbs_mul]; exact Nat.mul_le_mul (by omega) (by omega)
 omega
theorem wrap_id' {x:Int} (h1 : -9223372036854775808≤x) (h2:x≤9223372036854775807):IntKind.i64.wrap x=x:=by simp[IntKind.wrap,IntKind.bits,IntKind.signed]; omega
theorem zip_at {a v:List Int} {k:Nat} (ha:k<a.length) (hv:k<v.length):(a.zip v).drop k=(a[k],v[k]) :: (a.zip v).drop (k+1):=by
 have h:k<(a.zip v).length:=by rw[List.length_zip]; omega
 rw[List.drop_eq_getElem_cons h,List.getElem_zip]
theorem sum_any (u:Value) (k:Int) (x a:List Int) (c:Int) (v:List Int) (w:World) (h:PlAt w u k x a c v) (hn:a.length≤v.length) (hl:v.length≤1000) (ha:a.all within=true) (hv:v.all within=true) :
 Calls Try.prog 60 #[u] w (fun e w'=>e = .returned (.int .i64 (sm a v))∧Since w w'):=by
 obtain⟨X,xc,Y,yc,V,vc,rfl,h1,h2,h3⟩:=h
 obtain⟨R,hR⟩:∃ R,R=sm a v:=⟨_,rfl⟩
 obtain⟨na,hna⟩:∃ n,n=a.length:=⟨_,rfl⟩
 obtain⟨nv,hnv⟩:∃ n,n=v.length:=⟨_,rfl⟩
 rw[← hR]
 have HR:=Lib.hid (show smF (a.zip v)=R from hR.symm)
 rw[← hna] at h2 hn ⊢
 rw[← hnv] at h3 hn hl ⊢
 generalize x.length=nx at *
 have ka:=Lib.hid (sA w (.cells #[.int .i64 k,.slice X nx xc,.slice Y na yc,.int .i64 c,.slice V nv vc] 73))
 have BX:=Lib.hid (fun W (kk:Since (w.alloc (.cells #[.int .i64 k,.slice X nx xc,.slice Y na yc,.int .i64 c,.slice V nv vc] 73)) W)=>(Bx.fresh w #[.int .i64 k,.slice X nx xc,.slice Y na yc,.int .i64 c,.slice V nv vc] 73).since kk)
 have H2:=Lib.hid h2
 have H3:=Lib.hid h3
 have HNA:=Lib.hid hna
 have HNV:=Lib.hid hnv
 have HA:=Lib.hid (List.all_eq_true.1 ha)
 have HV:=Lib.hid (List.all_eq_true.1 hv)
 clear h1 h2 h3 hna hnv hR ha hv
 go_enter Try.func60,Try.ntmps60
 go_wp2
 go_loopw [3,10] (fun s i wr=>∃ (j:Nat) (z:Int),i = .int .i64 (j:Int)∧s = .int .i64 z∧j≤na ∧ -1099511627776*(j:Int)≤z∧z≤1099511627776*(j:Int)∧Hid (z+smF ((a.zip v).drop j)=R)∧Hid (Since (w.alloc (.cells #[.int .i64 k,.slice X nx xc,.slice Y na yc,.int .i64 c,.slice V nv vc] 73)) wr)) (fun _ i _=>na - (intOf i).toNat)
 case atStart=>exact⟨0,0,rfl,rfl,Nat.zero_le _,by omega,by omega,HR.out ▸ Int.zero_add _,Since.refl _⟩
 case round =>
  obtain⟨j,z,rfl,rfl,hj,hz1,hz2,HE,HW⟩:=hrel
  obtain⟨_,_,_,_,_⟩:=bx5 (BX.out _ HW.out)
  by_cases hjn:j<na
  · have hja:j<a.length:=by have:=HNA.out; omega
    have hjv:j<v.length:=by have:=HNV.out; omega
    obtain⟨g,o,rfl,e0⟩:=elI (H2.out.since stI (ka.out.trans HW.out)) hja
    obtain⟨g',o',rfl,e1⟩:=elI (H3.out.since stI (ka.out.trans HW.out)) hjv
    have hst:=HE.out
    rw[zip_at hja hjv,smF] at hst
    have hb:=mulB (HA.out _ (List.getElem_mem hja)) (HV.out _ (List.getElem_mem hjv))
    simp only at hst
    generalize a[j]=y at *
    generalize v[j]=m at *
    obtain⟨p,hp⟩:∃ p,p=y*m:=⟨_,rfl⟩
    rw[← hp] at hst hb
    obtain⟨hb1,hb2⟩:=hb
    have hw:IntKind.i64.wrap (y*m)=p:=by rw[← hp]; exact wrap_id' (by omega) (by omega)
    have ST:=Lib.hid hst
    have hjv2:j<nv:=by omega
    clear hst hja hjv HE hp
    have HE:=Lib.hid (show z+p+smF ((a.zip v).drop (j+1))=R by rw[← ST.out]; omega)
    go_wp2
    go_roundw
    case rel=>exact⟨j+1,z+p,by go_num,by go_num,by omega,by omega,by omega,HE.out,HW.out⟩
    case measure=>simp[intOf]; omega
  · obtain rfl:j=na:=by omega
    have HE2:=Lib.hid (show z=R by rw[← HE.out,List.drop_of_length_le (by rw[List.length_zip]; have:=HNA.out; omega)]; simp[smF])
    go_wp2
    go_ret
    exact RetI.of HE2.out (ka.out.trans HW.out)
theorem indexI_any (vs:Value) (l:List Int) (n:Int) (w:World) (h:Sl 1 QI w vs l) (hl:l.length≤1100000) :
 Calls Try.prog 113 #[vs,.int .i64 n] w fun e w'=>(∃ i:Int,e = .returned (.int .i64 i)∧decide (0≤i)=l.contains n)∧Since w w':=by
 obtain⟨A,c,rfl⟩:=h.form
 obtain⟨m,hm⟩:∃ m,m=l.length:=⟨_,rfl⟩
 rw[← hm] at h hl ⊢
 have H:=Lib.hid h
 have HM:=Lib.hid hm
 clear h hm
 go_enter Try.func113,Try.ntmps113
 go_wp2
 go_loopw [8] (fun i wr=>∃ k:Nat,i = .int .i64 (k:Int)∧k≤m∧Hid ((l.drop k).contains n=l.contains n)∧Hid (Since w wr)) (fun i _=>m - (intOf i).toNat)
 case atStart=>exact⟨0,rfl,Nat.zero_le _,rfl,Since.refl _⟩
 case round =>
  obtain⟨k,rfl,hk,HE,HW⟩:=hrel
  by_cases hkn:k<m
  · have hkl:k<l.length:=by have:=HM.out; omega
    obtain⟨g,o,rfl,e0⟩:=elI (H.out.since stI HW.out) hkl
    have he:=HE.out
    rw[dropI hkl,List.contains_cons] at he
    generalize l[k]=y at *
    have HF:=Lib.hid he
    clear he hkl HE
    by_cases hq:n=y
    · have hz:(n == y)=true:=by rw[beq_iff_eq]; exact hq
      have HB:=Lib.hid (show true=l.contains n by rw[← HF.out,hz]; rfl)
      clear hq
      go_wp2
      go_ret
      exact⟨⟨k,rfl,by rw[← HB.out]; simp⟩,HW.out⟩
    · have hz:(n == y)=false:=by rw[beq_eq_false_iff_ne]; exact hq
      have HE:=Lib.hid (show (l.drop (k+1)).contains n=l.contains n by have:=HF.out; rw[hz,Bool.false_or] at this; exact this)
      clear hq
      go_wp2
      go_roundw
      case rel=>exact⟨k+1,by go_num,by omega,HE.out,HW.out⟩
      case measure=>simp[intOf]; omega
  · obtain rfl:k=m:=by omega
    have HB:=Lib.hid (show false=l.contains n by rw[← HE.out,List.drop_of_length_le (by have:=HM.out; omega)]; rfl)
    go_wp2
    go_ret
    exact⟨⟨-1,rfl,by rw[← HB.out]; rfl⟩,HW.out⟩
theorem containsI_any (vs:Value) (l:List Int) (n:Int) (w:World) (h:Sl 1 QI w vs l) (hl:l.length≤1100000) :
 Calls Try.prog 95 #[vs,.int .i64 n] w (RetT (l.contains n) w):=by
 have I:=Lib.hid (indexI_any vs l n w h hl)
 obtain⟨A,c,rfl⟩:=h.form
 generalize l.contains n=q at *
 generalize l.length=m at *
 clear h
 go_enter Try.func95,Try.ntmps95
 go_wp2_with (go_at_call 113; (with_reducible refine I.out.mono ?_); rintro e w1 ⟨⟨i,rfl,hi⟩,k1⟩)
 go_ret
 exact⟨rfl,k1⟩
end Go.Proofs.Ytakfabaocgbbmaa.Sn
