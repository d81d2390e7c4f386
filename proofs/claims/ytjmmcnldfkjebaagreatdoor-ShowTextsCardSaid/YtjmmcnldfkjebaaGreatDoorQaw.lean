/- The document's own exprs and Same of layer 6, whatever they are given. The document's own Same of layer 6, wha -/
import Derived.BigRegion
import Derived.ChangeAlike
import Derived.Deep.DeepCutAuto
import Derived.RegionTactic
import Derived.Test.YtjmmcnldfkjebaaGreatDoorVw
import Derived.Shelf.LaysM
import Derived.Shelf.Strconv.Itoa4
import Derived.Test.YtjmmcnldfkjebaaGreatDoorProg
set_option maxHeartbeats 8000000
set_option maxRecDepth 100000
set_option linter.unusedVariables false
set_option linter.unusedSimpArgs false
section
namespace Go.Proofs.YtjmmcnldfkjebaaGreatDoor.Doc7
open Go.RowKit
open Dig Lx Tk Ps Ti Sh Law07
def RetB (P:Prop) (w:World) (e:Ending) (w':World):Prop:=∃ r:Bool,e = .returned (.bool r)∧(r=true↔P)∧Since w w'
theorem RetB.no {P:Prop} {w w':World} (h:¬ P) (k:Since w w'):RetB P w (.returned (.bool false)) w':=⟨false,rfl,⟨fun e=>(by cases e),fun e=>absurd e h⟩,k⟩
theorem RetB.yes {P:Prop} {w w':World} (h:P) (k:Since w w'):RetB P w (.returned (.bool true)) w':=⟨true,rfl,⟨fun _=>h,fun _=>rfl⟩,k⟩
theorem ne_at {α β:Type} {f:α→β} {xs:List α} {ys:List β} {k:Nat} {x:α} {y:β} (hx:xs[k]?=some x) (hy:ys[k]?=some y) (h:f x≠y):xs.map f≠ys:=by
 rintro rfl
 rw[List.getElem?_map,hx] at hy
 simp only[Option.map_some,Option.some.injEq] at hy
 exact h hy
theorem step_at {α β:Type} {f:α→β} {xs:List α} {ys:List β} {k:Nat} {x:α} {y:β} (hx:xs[k]?=some x) (hy:ys[k]?=some y) (h:f x=y) (hp:(xs.take k).map f=ys.take k):(xs.take (k+1)).map f=ys.take (k+1):=by
 rw[List.take_add_one,List.take_add_one,hx,hy,List.map_append,hp]
 simp[h]
theorem end_at {α β:Type} {f:α→β} {xs:List α} {ys:List β} {k:Nat} (h1:xs.length≤k) (h2:ys.length≤k) (hp:(xs.take k).map f=ys.take k):xs.map f=ys:=by
 rwa [List.take_of_length_le h1,List.take_of_length_le h2] at hp
theorem at_get {α:Type} {xs:List α} {k:Nat} (h:k<xs.length):xs[k]?=some xs[k]:=List.getElem?_eq_getElem h
theorem exprs_gen (va vb:Value) (xs:List Xp) (ys:List Xq) (w:World) (ha:Exprs w va xs) (hb:Sl 4 (QXq noG) w vb ys) (hn:xs.length≤100000) (hn':ys.length≤100000) (hm:∀ x ∈ xs,x.l.length≤100000) (hm':∀ y ∈ ys,y.l.length≤100000) :
 Calls Tryz.prog 78 #[va,vb] w (RetB (xs.map xpq=ys) w):=by
 have HA:=lH ha
 have HB:=lH hb
 obtain⟨A,c,rfl⟩:=ha.form
 obtain⟨B,d,rfl⟩:=hb.form
 clear ha hb
 obtain⟨n,hnn⟩:∃ n,n=xs.length:=⟨_,rfl⟩
 obtain⟨n',hnn'⟩:∃ n,n=ys.length:=⟨_,rfl⟩
 rw[← hnn] at HA hn ⊢
 rw[← hnn'] at HB hn' ⊢
 have HN:=lH hnn
 have HN':=lH hnn'
 have HM:=lH hm
 have HM':=lH hm'
 clear hnn hnn' hm hm'
 by_cases hlen:n=n'
 rotate_left
 · have hz:((n:Int) == (n':Int))=false:=by rw[beq_eq_false_iff_ne]; omega
   have HL:=lH (show ¬ xs.map xpq=ys by rintro rfl; rw[List.length_map] at HN'; exact hlen (HN.out.trans HN'.out.symm))
   clear hlen
   go_enter Tryz.func78,Tryz.ntmps78
   go_wp2
   go_ret
   exact RetB.no HL.out (Since.refl _)
 subst hlen
 go_enter Tryz.func78,Tryz.ntmps78
 go_wp2
 go_loopw [5] (fun i wr=>∃ k:Nat,k≤n∧i = .int .i64 (k:Int)∧Since w wr∧Hid ((xs.take k).map xpq=ys.take k)) (fun i _=>n - (intOf i).toNat)
 case atStart=>exact⟨0,Nat.zero_le _,rfl,Since.refl _,rfl⟩
 case round =>
  obtain⟨k,hk,rfl,hw,HP⟩:=hrel
  by_cases hlt:k<n
  · have hkx:k<xs.length:=by have:=HN.out; omega
    have hky:k<ys.length:=by have:=HN'.out; omega
    obtain⟨b,o,A1,c1,rfl,hs,h1,h2,h3,h4⟩:=elX (HA.out.since (stX _) hw) hkx
    obtain⟨b',o',A2,c2,rfl,hs',g1,g2,g3,g4⟩:=elXq (HB.out.since (stXq _) hw) hky
    have hml:=HM.out xs[k] (List.getElem_mem hkx)
    have hml':=HM'.out ys[k] (List.getElem_mem hky)
    have hxk:=at_get hkx
    have hyk:=at_get hky
    generalize xs[k]=x at *
    generalize ys[k]=y at *
    obtain⟨kx,nx,sx,lx⟩:=x
    obtain⟨ky,ny,sy,ly⟩:=y
    simp only at hs hs' h1 h2 h3 h4 g1 g2 g3 g4 hml hml'
    have HXK:=lH hxk
    have HYK:=lH hyk
    obtain⟨m,hmm⟩:∃ m,m=lx.length:=⟨_,rfl⟩
    obtain⟨m',hmm'⟩:∃ m,m=ly.length:=⟨_,rfl⟩
    rw[← hmm] at hs h4 hml
    rw[← hmm'] at hs' g4 hml'
    have q1:b<wr.heap.size:=World.block_lt_of_cell? _ _ h1
    have q2:b'<wr.heap.size:=World.block_lt_of_cell? _ _ g1
    have q3:b<wr.heap.size+1:=by omega
    have q4:b'<wr.heap.size+1:=by omega
    have HS:=lH hs
    have HS':=lH hs'
    have HMM:=lH hmm
    have HMM':=lH hmm'
    clear hs hs' hmm hmm' hkx hky hxk hyk
    obtain⟨W,hW⟩:∃ W,W=wr:=⟨_,rfl⟩
    subst hW
    go_wp2
    go_cut [6,7] (fun p q W2=>∃ x0 y0:Nat,p = .pointer (some ⟨x0,0,none⟩)∧q = .pointer (some ⟨y0,0,none⟩)∧Since W W2∧Hid (Box W2 x0 [.int .i64 kx,.int .i64 nx,.string sx,.slice A1 m c1])∧Hid (Box W2 y0 [.int .i64 ky,.int .i64 ny,.string sy,.slice A2 m' c2]))
    case first =>
     go_region
     all_goals
      go_wp2_with fail
      go_meet
      first
       | exact⟨_,_,rfl,rfl,(Box.two W _ _ _ _).1,(Box.two W [.int .i64 kx,.int .i64 nx,.string sx,.slice A1 m c1] [.int .i64 ky,.int .i64 ny,.string sy,.slice A2 m' c2] _ _).2.1,(Box.two W [.int .i64 kx,.int .i64 nx,.string sx,.slice A1 m c1] [.int .i64 ky,.int .i64 ny,.string sy,.slice A2 m' c2] _ _).2.2⟩
       | exact⟨_,_,rfl,rfl,(Box.two W _ _ _ _).1,(Box.two W [.int .i64 ky,.int .i64 ny,.string sy,.slice A2 m' c2] [.int .i64 kx,.int .i64 nx,.string sx,.slice A1 m c1] _ _).2.2,(Box.two W [.int .i64 ky,.int .i64 ny,.string sy,.slice A2 m' c2] [.int .i64 kx,.int .i64 nx,.string sx,.slice A1 m c1] _ _).2.1⟩
    case rest =>
     obtain⟨x0,y0,rfl,rfl,hW2,BX,BY⟩:=hcut
     obtain⟨k0,k1,k2,k3⟩:=BX.out.four
     obtain⟨l0,l1,l2,l3⟩:=BY.out.four
     clear h1 h2 h3 h4 g1 g2 g3 g4 q1 q2 q3 q4
     by_cases e0:kx=ky
     rotate_left
     · have ze0:(kx == ky)=false:=by rw[beq_eq_false_iff_ne]; exact e0
       have ye0:(kx != ky)=true:=by rw[bne_iff_ne]; exact e0
       have HNO:=lH (ne_at (f:=xpq) HXK.out HYK.out (by intro h; simp only[xpq,Xq.mk.injEq] at h; exact e0 h.1))
       clear e0
       go_wp2
       go_ret
       exact RetB.no HNO.out (hw.trans hW2)
     subst e0
     by_cases e1:nx=ny
     rotate_left
     · have ze1:(nx == ny)=false:=by rw[beq_eq_false_iff_ne]; exact e1
       have ye1:(nx != ny)=true:=by rw[bne_iff_ne]; exact e1
       have HNO:=lH (ne_at (f:=xpq) HXK.out HYK.out (by intro h; simp only[xpq,Xq.mk.injEq] at h; exact e1 h.2.1))
       clear e1
       go_wp2
       go_ret
       exact RetB.no HNO.out (hw.trans hW2)
     subst e1
     by_cases e2:sx=sy
     rotate_left
     · have ze2:(sx.toList == sy.toList)=false:=by rw[ByteArray.toList_eq,ByteArray.toList_eq,beq_eq_false_iff_ne]; exact fun e=>e2 (L_inj e)
       have ye2:(sx.toList != sy.toList)=true:=by rw[ByteArray.toList_eq,ByteArray.toList_eq,bne_iff_ne]; exact fun e=>e2 (L_inj e)
       have HNO:=lH (ne_at (f:=xpq) HXK.out HYK.out (by intro h; simp only[xpq,Xq.mk.injEq] at h; exact e2 h.2.2.1))
       clear e2
       go_wp2
       go_ret
       exact RetB.no HNO.out (hw.trans hW2)
     subst e2
     by_cases e3:m=m'
     rotate_left
     · have ze3:(((m:Nat):Int) == ((m':Nat):Int))=false:=by rw[beq_eq_false_iff_ne]; omega
       have ye3:(((m:Nat):Int) != ((m':Nat):Int))=true:=by rw[bne_iff_ne]; omega
       have HNO:=lH (ne_at (f:=xpq) HXK.out HYK.out (by intro h; simp only[xpq,Xq.mk.injEq] at h; have:=congrArg List.length h.2.2.2; rw[List.length_map] at this; have:=HMM.out; have:=HMM'.out; omega))
       clear e3
       go_wp2
       go_ret
       exact RetB.no HNO.out (hw.trans hW2)
     subst e3
     go_wp2
     clear k0 k1 k2 k3 l0 l1 l2 l3
     go_loopw [8] (fun j wr=>∃ q:Nat,q≤m∧j = .int .i64 (q:Int)∧Since wc wr∧Hid ((lx.take q).map plq=ly.take q)) (fun j _=>m - (intOf j).toNat)
     case atStart=>exact⟨0,Nat.zero_le _,rfl,Since.refl _,rfl⟩
     case round =>
      obtain⟨q,hq,rfl,hw3,HQP⟩:=hrel
      obtain⟨k0,k1,k2,k3⟩:=(BX.out.since hw3).four
      obtain⟨l0,l1,l2,l3⟩:=(BY.out.since hw3).four
      by_cases hlt2:q<m
      · have hqx:q<lx.length:=by have:=HMM.out; omega
        have hqy:q<ly.length:=by have:=HMM'.out; omega
        obtain⟨b2,o2,A3,c3,rfl,e0,e1,e2,e3⟩:=elP (HS.out.since stP (hW2.trans hw3)) hqx
        obtain⟨b3,o3,A4,c4,rfl,f0,f1,f2,f3⟩:=elPq (HS'.out.since (stPq _) (hW2.trans hw3)) hqy
        have hxk:=at_get hqx
        have hyk:=at_get hqy
        generalize lx[q]=y at *
        generalize ly[q]=z at *
        obtain⟨ka,na,sa⟩:=y
        obtain⟨kb,nb,sb,db⟩:=z
        simp only at e0 e1 e2 f0 f1 f2 f3
        have HXQ:=lH hxk
        have HYQ:=lH hyk
        obtain⟨dd,hdd⟩:∃ dd,dd=dlen db:=⟨_,rfl⟩
        rw[← hdd] at f3
        have HDD:=lH hdd
        have q1:b2<wr.heap.size:=World.block_lt_of_cell? _ _ e0
        have q2:b3<wr.heap.size:=World.block_lt_of_cell? _ _ f0
        have q3:b2<wr.heap.size+1:=by omega
        have q4:b3<wr.heap.size+1:=by omega
        have q5:x0<wr.heap.size:=World.block_lt_of_cell? _ _ k0
        have q6:y0<wr.heap.size:=World.block_lt_of_cell? _ _ l0
        have q7:x0<wr.heap.size+1:=by omega
        have q8:y0<wr.heap.size+1:=by omega
        clear hqx hqy hxk hyk hdd
        obtain⟨W,hW⟩:∃ W,W=wr:=⟨_,rfl⟩
        subst hW
        go_wp2
        go_cut [9,10] (fun p q W2=>∃ x1 y1:Nat,p = .pointer (some ⟨x1,0,none⟩)∧q = .pointer (some ⟨y1,0,none⟩)∧Since W W2∧Hid (Box W2 x1 [.int .i64 ka,.int .i64 na,.string sa,.slice A3 0 c3])∧Hid (Box W2 y1 [.int .i64 kb,.int .i64 nb,.string sb,.slice A4 dd c4]))
        case first =>
         go_region
         all_goals
          go_wp2_with fail
          go_meet
          first
           | exact⟨_,_,rfl,rfl,(Box.two W _ _ _ _).1,(Box.two W [.int .i64 ka,.int .i64 na,.string sa,.slice A3 0 c3] [.int .i64 kb,.int .i64 nb,.string sb,.slice A4 dd c4] _ _).2.1,(Box.two W [.int .i64 ka,.int .i64 na,.string sa,.slice A3 0 c3] [.int .i64 kb,.int .i64 nb,.string sb,.slice A4 dd c4] _ _).2.2⟩
           | exact⟨_,_,rfl,rfl,(Box.two W _ _ _ _).1,(Box.two W [.int .i64 kb,.int .i64 nb,.string sb,.slice A4 dd c4] [.int .i64 ka,.int .i64 na,.string sa,.slice A3 0 c3] _ _).2.2,(Box.two W [.int .i64 kb,.int .i64 nb,.string sb,.slice A4 dd c4] [.int .i64 ka,.int .i64 na,.string sa,.slice A3 0 c3] _ _).2.1⟩
        case rest =>
         clear k0 k1 k2 k3 l0 l1 l2 l3 e0 e1 e2 e3 f0 f1 f2 f3 q1 q2 q3 q4 q5 q6 q7 q8
         obtain⟨x1,y1,rfl,rfl,hW4,DX,DY⟩:=hcut
         obtain⟨k0,k1,k2,k3⟩:=DX.out.four
         obtain⟨l0,l1,l2,l3⟩:=DY.out.four
         by_cases e0:ka=kb
         rotate_left
         · have ze0:(ka == kb)=false:=by rw[beq_eq_false_iff_ne]; exact e0
           have ye0:(ka != kb)=true:=by rw[bne_iff_ne]; exact e0
           have HNO:=lH (ne_at (f:=plq) HXQ.out HYQ.out (by intro h; simp only[plq,Pq.mk.injEq] at h; exact e0 h.1))
           have HNX:=lH (ne_at (f:=xpq) HXK.out HYK.out (fun h=>HNO.out (by simp only[xpq,Xq.mk.injEq] at h; exact h.2.2.2)))
           clear e0
           go_wp2
           go_ret
           exact RetB.no HNX.out (((hw.trans hW2).trans hw3).trans hW4)
         subst e0
         by_cases e1:na=nb
         rotate_left
         · have ze1:(na == nb)=false:=by rw[beq_eq_false_iff_ne]; exact e1
           have ye1:(na != nb)=true:=by rw[bne_iff_ne]; exact e1
           have HNO:=lH (ne_at (f:=plq) HXQ.out HYQ.out (by intro h; simp only[plq,Pq.mk.injEq] at h; exact e1 h.2.1))
           have HNX:=lH (ne_at (f:=xpq) HXK.out HYK.out (fun h=>HNO.out (by simp only[xpq,Xq.mk.injEq] at h; exact h.2.2.2)))
           clear e1
           go_wp2
           go_ret
           exact RetB.no HNX.out (((hw.trans hW2).trans hw3).trans hW4)
         subst e1
         by_cases e2:sa=sb
         rotate_left
         · have ze2:(sa.toList == sb.toList)=false:=by rw[ByteArray.toList_eq,ByteArray.toList_eq,beq_eq_false_iff_ne]; exact fun e=>e2 (L_inj e)
           have ye2:(sa.toList != sb.toList)=true:=by rw[ByteArray.toList_eq,ByteArray.toList_eq,bne_iff_ne]; exact fun e=>e2 (L_inj e)
           have HNO:=lH (ne_at (f:=plq) HXQ.out HYQ.out (by intro h; simp only[plq,Pq.mk.injEq] at h; exact e2 h.2.2.1))
           have HNX:=lH (ne_at (f:=xpq) HXK.out HYK.out (fun h=>HNO.out (by simp only[xpq,Xq.mk.injEq] at h; exact h.2.2.2)))
           clear e2
           go_wp2
           go_ret
           exact RetB.no HNX.out (((hw.trans hW2).trans hw3).trans hW4)
         subst e2
         by_cases e3:db=0
         rotate_left
         · have z3:0<dd:=by rw[HDD.out]; match db,e3 with | 1,_=>decide | k+2,_=>show 0<k+1; omega
           have z4:decide ((0:Int)<(dd:Int))=true:=by rw[decide_eq_true_iff]; omega
           have HNO:=lH (ne_at (f:=plq) HXQ.out HYQ.out (by intro h; simp only[plq,Pq.mk.injEq] at h; exact e3 h.2.2.2.symm))
           have HNX:=lH (ne_at (f:=xpq) HXK.out HYK.out (fun h=>HNO.out (by simp only[xpq,Xq.mk.injEq] at h; exact h.2.2.2)))
           clear e3
           go_wp2
           go_ret
           exact RetB.no HNX.out (((hw.trans hW2).trans hw3).trans hW4)
         have HSQ:=lH (step_at (f:=plq) HXQ.out HYQ.out (by rw[e3]; rfl) HQP.out)
         have hd0:dd=0:=by rw[HDD.out,e3]; rfl
         subst hd0
         clear e3
         go_wp2
         go_roundw
         case rel=>exact⟨q+1,by omega,by go_num,hw3.trans hW4,HSQ.out⟩
         case measure=>simp[intOf]; omega
      · obtain rfl:q=m:=by omega
        have HSK:=lH (step_at (f:=xpq) HXK.out HYK.out (by simp only[xpq,Xq.mk.injEq]; exact⟨trivial,trivial,trivial,end_at (by have:=HMM.out; omega) (by have:=HMM'.out; omega) HQP.out⟩) HP.out)
        go_wp2
        go_roundw
        case rel=>exact⟨k+1,by omega,by go_num,(hw.trans hW2).trans hw3,HSK.out⟩
        case measure=>simp[intOf]; omega
  · have HEQ:=lH (end_at (f:=xpq) (by have:=HN.out; omega) (by have:=HN'.out; omega) HP.out)
    go_wp2
    go_ret
    exact RetB.yes HEQ.out hw
end Go.Proofs.YtjmmcnldfkjebaaGreatDoor.Doc7
end
section
namespace Go.Proofs.YtjmmcnldfkjebaaGreatDoor.Doc7
open Go.RowKit
open Dig Lx Tk Ps Ti Sh Law07
theorem same_gen (va vb:Value) (xs:List It) (ys:List Iq) (w:World) (ha:Items w va xs) (hb:Sl 8 (QIq noG) w vb ys) (hn:xs.length≤100000) (hn':ys.length≤100000)
 (hm:∀ x ∈ xs,x.dom.length≤100000∧x.vals.length≤100000∧∀ y ∈ x.vals,y.l.length≤100000) (hm':∀ x ∈ ys,x.dom.length≤100000∧x.vals.length≤100000∧∀ y ∈ x.vals,y.l.length≤100000) :
 Calls Tryz.prog 45 #[va,vb] w (RetB (xs.map itq=ys) w):=by
 have HA:=lH ha
 have HB:=lH hb
 obtain⟨A,c,rfl⟩:=ha.form
 obtain⟨B,d,rfl⟩:=hb.form
 clear ha hb
 obtain⟨n,hnn⟩:∃ n,n=xs.length:=⟨_,rfl⟩
 obtain⟨n',hnn'⟩:∃ n,n=ys.length:=⟨_,rfl⟩
 rw[← hnn] at HA hn ⊢
 rw[← hnn'] at HB hn' ⊢
 have HN:=lH hnn
 have HN':=lH hnn'
 have HM:=lH hm
 have HM':=lH hm'
 clear hnn hnn' hm hm'
 by_cases hlen:n=n'
 rotate_left
 · have hz:((n:Int) == (n':Int))=false:=by rw[beq_eq_false_iff_ne]; omega
   have HL:=lH (show ¬ xs.map itq=ys by rintro rfl; rw[List.length_map] at HN'; exact hlen (HN.out.trans HN'.out.symm))
   clear hlen
   go_enter Tryz.func45,Tryz.ntmps45
   go_wp2
   go_ret
   exact RetB.no HL.out (Since.refl _)
 subst hlen
 go_enter Tryz.func45,Tryz.ntmps45
 go_wp2
 go_loopw [5] (fun i wr=>∃ k:Nat,k≤n∧i = .int .i64 (k:Int)∧Since w wr∧Hid ((xs.take k).map itq=ys.take k)) (fun i _=>n - (intOf i).toNat)
 case atStart=>exact⟨0,Nat.zero_le _,rfl,Since.refl _,rfl⟩
 case round =>
  obtain⟨k,hk,rfl,hw,HP⟩:=hrel
  by_cases hlt:k<n
  · have hkx:k<xs.length:=by have:=HN.out; omega
    have hky:k<ys.length:=by have:=HN'.out; omega
    obtain⟨b,o,A1,c1,A2,c2,rfl,hs,-,hv,h0,h1,h2,h3,h4,h5,h6,h7⟩:=elI2 HA.out hw hkx
    obtain⟨b',o',B1,d1,B2,d2,rfl,hs',-,hv',g0,g1,g2,g3,g4,g5,g6,g7⟩:=elIq2 HB.out hw hky
    have hml:=HM.out xs[k] (List.getElem_mem hkx)
    have hml':=HM'.out ys[k] (List.getElem_mem hky)
    have hxk:=at_get hkx
    have hyk:=at_get hky
    generalize xs[k]=x at *
    generalize ys[k]=y at *
    obtain⟨ki,nm,bo,dm,sz,ou,vs,ak⟩:=x
    obtain⟨ki',nm',bo',dm',sz',ou',vs',ak'⟩:=y
    simp only at hs hs' hv hv' h0 h1 h2 h3 h4 h5 h6 h7 g0 g1 g2 g3 g4 g5 g6 g7 hml hml'
    have HXK:=lH hxk
    have HYK:=lH hyk
    have EX:=lH (fun W (k:Since wr W)=>exprs_gen _ _ vs vs' W (hv.since (stX _) (hw.trans k)) (hv'.since (stXq _) (hw.trans k)) hml.2.1 hml'.2.1 hml.2.2 hml'.2.2)
    have hp1:=hml.1
    obtain⟨p,hp⟩:∃ p,p=dm.length:=⟨_,rfl⟩
    obtain⟨p',hp'⟩:∃ p,p=dm'.length:=⟨_,rfl⟩
    obtain⟨m,hm⟩:∃ m,m=vs.length:=⟨_,rfl⟩
    obtain⟨m',hm'⟩:∃ m,m=vs'.length:=⟨_,rfl⟩
    rw[← hp] at hs h3 hp1
    rw[← hp'] at hs' g3
    rw[← hm] at h6 EX
    rw[← hm'] at g6 EX
    have q1:b<wr.heap.size:=World.block_lt_of_cell? _ _ h0
    have q2:b'<wr.heap.size:=World.block_lt_of_cell? _ _ g0
    have q3:b<wr.heap.size+1:=by omega
    have q4:b'<wr.heap.size+1:=by omega
    have HS:=lH (hs.since stR hw)
    have HS':=lH (hs'.since stR hw)
    have HPP:=lH hp
    have HPP':=lH hp'
    clear hs hs' hv hv' hm hm' hp hp' hkx hky hxk hyk hml hml'
    obtain⟨W,hW⟩:∃ W,W=wr:=⟨_,rfl⟩
    subst hW
    go_wp2
    go_cut [6,7] (fun PP QQ W2=>∃ x0 y0:Nat,PP = .pointer (some ⟨x0,0,none⟩)∧QQ = .pointer (some ⟨y0,0,none⟩)∧Since W W2∧Hid (Box W2 x0 [.int .i64 ki,.string nm,.bool bo,.slice A1 p c1,.int .i64 sz,.bool ou,.slice A2 m c2,.int .i64 ak])∧Hid (Box W2 y0 [.int .i64 ki',.string nm',.bool bo',.slice B1 p' d1,.int .i64 sz',.bool ou',.slice B2 m' d2,.int .i64 ak']))
    case first =>
     go_region
     all_goals
      go_wp2_with fail
      go_meet
      first
       | exact⟨_,_,rfl,rfl,(Box.two W _ _ _ _).1,(Box.two W [.int .i64 ki,.string nm,.bool bo,.slice A1 p c1,.int .i64 sz,.bool ou,.slice A2 m c2,.int .i64 ak] [.int .i64 ki',.string nm',.bool bo',.slice B1 p' d1,.int .i64 sz',.bool ou',.slice B2 m' d2,.int .i64 ak'] _ _).2.1,(Box.two W [.int .i64 ki,.string nm,.bool bo,.slice A1 p c1,.int .i64 sz,.bool ou,.slice A2 m c2,.int .i64 ak] [.int .i64 ki',.string nm',.bool bo',.slice B1 p' d1,.int .i64 sz',.bool ou',.slice B2 m' d2,.int .i64 ak'] _ _).2.2⟩
       | exact⟨_,_,rfl,rfl,(Box.two W _ _ _ _).1,(Box.two W [.int .i64 ki',.string nm',.bool bo',.slice B1 p' d1,.int .i64 sz',.bool ou',.slice B2 m' d2,.int .i64 ak'] [.int .i64 ki,.string nm,.bool bo,.slice A1 p c1,.int .i64 sz,.bool ou,.slice A2 m c2,.int .i64 ak] _ _).2.2,(Box.two W [.int .i64 ki',.string nm',.bool bo',.slice B1 p' d1,.int .i64 sz',.bool ou',.slice B2 m' d2,.int .i64 ak'] [.int .i64 ki,.string nm,.bool bo,.slice A1 p c1,.int .i64 sz,.bool ou,.slice A2 m c2,.int .i64 ak] _ _).2.1⟩
    case rest =>
     clear h0 h1 h2 h3 h4 h5 h6 h7 g0 g1 g2 g3 g4 g5 g6 g7 q1 q2 q3 q4
     obtain⟨x0,y0,rfl,rfl,hW2,BX,BY⟩:=hcut
     obtain⟨k0,k1,k2,k3,k4,k5,k6,k7⟩:=BX.out.eight
     obtain⟨l0,l1,l2,l3,l4,l5,l6,l7⟩:=BY.out.eight
     by_cases e0:ki=ki'
     rotate_left
     · have ze0:(ki == ki')=false:=by rw[beq_eq_false_iff_ne]; exact e0
       have ye0:(ki != ki')=true:=by rw[bne_iff_ne]; exact e0
       have HNO:=lH (ne_at (f:=itq) HXK.out HYK.out (by intro h; simp only[itq,Iq.mk.injEq] at h; exact e0 h.1))
       clear e0
       go_wp2
       go_ret
       exact RetB.no HNO.out (hw.trans hW2)
     subst e0
     by_cases e1:nm=nm'
     rotate_left
     · have ze1:(nm.toList == nm'.toList)=false:=by rw[ByteArray.toList_eq,ByteArray.toList_eq,beq_eq_false_iff_ne]; exact fun e=>e1 (L_inj e)
       have ye1:(nm.toList != nm'.toList)=true:=by rw[ByteArray.toList_eq,ByteArray.toList_eq,bne_iff_ne]; exact fun e=>e1 (L_inj e)
       have HNO:=lH (ne_at (f:=itq) HXK.out HYK.out (by intro h; simp only[itq,Iq.mk.injEq] at h; exact e1 h.2.1))
       clear e1
       go_wp2
       go_ret
       exact RetB.no HNO.out (hw.trans hW2)
     subst e1
     by_cases e2:bo=bo'
     rotate_left
     · have ze2:(bo == bo')=false:=by rw[beq_eq_false_iff_ne]; exact e2
       have ye2:(bo != bo')=true:=by rw[bne_iff_ne]; exact e2
       have HNO:=lH (ne_at (f:=itq) HXK.out HYK.out (by intro h; simp only[itq,Iq.mk.injEq] at h; exact e2 h.2.2.1))
       clear e2
       go_wp2
       go_ret
       exact RetB.no HNO.out (hw.trans hW2)
     subst e2
     by_cases e4:sz=sz'
     rotate_left
     · have ze4:(sz == sz')=false:=by rw[beq_eq_false_iff_ne]; exact e4
       have ye4:(sz != sz')=true:=by rw[bne_iff_ne]; exact e4
       have HNO:=lH (ne_at (f:=itq) HXK.out HYK.out (by intro h; simp only[itq,Iq.mk.injEq] at h; exact e4 h.2.2.2.2.1))
       clear e4
       go_wp2
       go_ret
       exact RetB.no HNO.out (hw.trans hW2)
     subst e4
     by_cases e5:ou=ou'
     rotate_left
     · have ze5:(ou == ou')=false:=by rw[beq_eq_false_iff_ne]; exact e5
       have ye5:(ou != ou')=true:=by rw[bne_iff_ne]; exact e5
       have HNO:=lH (ne_at (f:=itq) HXK.out HYK.out (by intro h; simp only[itq,Iq.mk.injEq] at h; exact e5 h.2.2.2.2.2.1))
       clear e5
       go_wp2
       go_ret
       exact RetB.no HNO.out (hw.trans hW2)
     subst e5
     by_cases e7:ak=ak'
     rotate_left
     · have ze7:(ak == ak')=false:=by rw[beq_eq_false_iff_ne]; exact e7
       have ye7:(ak != ak')=true:=by rw[bne_iff_ne]; exact e7
       have HNO:=lH (ne_at (f:=itq) HXK.out HYK.out (by intro h; simp only[itq,Iq.mk.injEq] at h; exact e7 h.2.2.2.2.2.2.2))
       clear e7
       go_wp2
       go_ret
       exact RetB.no HNO.out (hw.trans hW2)
     subst e7
     by_cases e3:p=p'
     rotate_left
     · have ze3:(((p:Nat):Int) == ((p':Nat):Int))=false:=by rw[beq_eq_false_iff_ne]; omega
       have ye3:(((p:Nat):Int) != ((p':Nat):Int))=true:=by rw[bne_iff_ne]; omega
       have HNO:=lH (ne_at (f:=itq) HXK.out HYK.out (by intro h; simp only[itq,Iq.mk.injEq] at h; have:=congrArg List.length h.2.2.2.1; have:=HPP.out; have:=HPP'.out; omega))
       clear e3
       go_wp2
       go_ret
       exact RetB.no HNO.out (hw.trans hW2)
     subst e3
     go_wp2_with fail
     (with_reducible refine (EX.out _ hW2).mono ?_)
     rintro e w4 ⟨rv,rfl,hrv,hW3⟩
     cases rv with
     | false =>
      have HNO:=lH (ne_at (f:=itq) HXK.out HYK.out (fun h=>by simp only[itq,Iq.mk.injEq] at h; have:=hrv.2 h.2.2.2.2.2.2.1; cases this))
      clear hrv
      go_wp2
      go_ret
      exact RetB.no HNO.out ((hw.trans hW2).trans hW3)
     | true =>
      have HVV:=lH (hrv.1 rfl)
      clear hrv
      go_wp2
      clear k0 k1 k2 k3 k4 k5 k6 k7 l0 l1 l2 l3 l4 l5 l6 l7
      go_loopw [8] (fun j wr=>∃ q:Nat,q≤p∧j = .int .i64 (q:Int)∧Since w4 wr∧Hid ((dm.take q).map id=dm'.take q)) (fun j _=>p - (intOf j).toNat)
      case atStart=>exact⟨0,Nat.zero_le _,rfl,Since.refl _,rfl⟩
      case round =>
       obtain⟨q,hq,rfl,hw3,HQP⟩:=hrel
       obtain⟨k0,k1,k2,k3,k4,k5,k6,k7⟩:=(BX.out.since (hW3.trans hw3)).eight
       obtain⟨l0,l1,l2,l3,l4,l5,l6,l7⟩:=(BY.out.since (hW3.trans hw3)).eight
       have hall:=((hw.trans hW2).trans hW3).trans hw3
       have hal2:=(hW2.trans hW3).trans hw3
       by_cases hlt2:q<p
       · have hqx:q<dm.length:=by have:=HPP.out; omega
         have hqy:q<dm'.length:=by have:=HPP'.out; omega
         obtain⟨b2,o2,rfl,e0,e1⟩:=elR (HS.out.since stR hal2) hqx
         obtain⟨b3,o3,rfl,f0,f1⟩:=elR (HS'.out.since stR hal2) hqy
         have hxk:=at_get hqx
         have hyk:=at_get hqy
         generalize dm[q]=y at *
         generalize dm'[q]=z at *
         obtain⟨lo,hi⟩:=y
         obtain⟨lo',hi'⟩:=z
         simp only at e0 e1 f0 f1
         have HXQ:=lH hxk
         have HYQ:=lH hyk
         clear hqx hqy hxk hyk
         by_cases t0:lo=lo'∧hi=hi'
         · obtain⟨rfl,rfl⟩:=t0
           have HSQ:=lH (step_at (f:=id) HXQ.out HYQ.out rfl HQP.out)
           go_wp2
           go_region
           all_goals
            go_wp2
            go_roundw
            case rel=>exact⟨q+1,by omega,by go_num,hw3.drew,HSQ.out⟩
            case measure=>simp[intOf]; omega
         · have HNO:=lH (ne_at (f:=id) HXQ.out HYQ.out (fun h=>t0 (by simpa using h)))
           have HNX:=lH (ne_at (f:=itq) HXK.out HYK.out (fun h=>HNO.out (by simp only[itq,Iq.mk.injEq] at h; rw[List.map_id]; exact h.2.2.2.1)))
           by_cases t1:lo=lo'
           · subst t1
             have z1:(hi == hi')=false:=by rw[beq_eq_false_iff_ne]; exact fun e=>t0 ⟨rfl,e⟩
             have y1:(hi != hi')=true:=by rw[bne_iff_ne]; exact fun e=>t0 ⟨rfl,e⟩
             clear t0
             go_wp2
             go_region
             all_goals
              go_wp2
              go_ret
              exact RetB.no HNX.out hall.drew
           · have z1:(lo == lo')=false:=by rw[beq_eq_false_iff_ne]; exact t1
             have y1:(lo != lo')=true:=by rw[bne_iff_ne]; exact t1
             clear t0 t1
             go_wp2
             go_region
             all_goals
              go_wp2
              go_ret
              exact RetB.no HNX.out hall.drew
       · obtain rfl:q=p:=by omega
         have HDD:=lH (show dm=dm' by have:=end_at (f:=id) (by have:=HPP.out; omega) (by have:=HPP'.out; omega) HQP.out; rwa [List.map_id] at this)
         have HSK:=lH (step_at (f:=itq) HXK.out HYK.out (by simp only[itq,Iq.mk.injEq]; exact⟨trivial,trivial,trivial,HDD.out,trivial,trivial,HVV.out,trivial⟩) HP.out)
         go_wp2
         go_roundw
         case rel=>exact⟨k+1,by omega,by go_num,hall,HSK.out⟩
         case measure=>simp[intOf]; omega
  · have HEQ:=lH (end_at (f:=itq) (by have:=HN.out; omega) (by have:=HN'.out; omega) HP.out)
    go_wp2
    go_ret
    exact RetB.yes HEQ.out hw
end Go.Proofs.YtjmmcnldfkjebaaGreatDoor.Doc7
end
section
namespace Go.Proofs.YtjmmcnldfkjebaaGreatDoor
open Go.Shelf
def Sh.laysM173_ren:Go.Shelf.Ren:=⟨fun | 173=>117 | 246=>145 | 283=>159 | 284=>160 | 285=>161 | 286=>162 | 129=>170 | 317=>169 | 318=>171 | 319=>172 | 320=>173 | 337=>175 | 338=>176 | n=>n,fun | 2=>2 | 3=>3 | 9=>9 | 4=>4 | 171=>199 | 0=>0 | 53=>139 | 37=>47 | 5=>5 | 173=>202 | 212=>210 | 51=>140 | 20 => 20 | 213=>211 | 46=>152 | 232=>215 | 233=>216 | n=>n,fun | 17=>3 | 18=>4 | 19=>5 | n=>n⟩
theorem Sh.laysM173:Go.Proofs.LaysM.n173 Tryz.prog Sh.laysM173_ren:={
 mixed:=by kernel_rfl
 f129:=Tryz.func170.trans (congrArg some (by kernel_rfl))
 f173:=Tryz.func117.trans (congrArg some (by kernel_rfl))
 f246:=Tryz.func145.trans (congrArg some (by kernel_rfl))
 f283:=Tryz.func159.trans (congrArg some (by kernel_rfl))
 f284:=Tryz.func160.trans (congrArg some (by kernel_rfl))
 f285:=Tryz.func161.trans (congrArg some (by kernel_rfl))
 f286:=Tryz.func162.trans (congrArg some (by kernel_rfl))
 f317:=Tryz.func169.trans (congrArg some (by kernel_rfl))
 f318:=Tryz.func171.trans (congrArg some (by kernel_rfl))
 f319:=Tryz.func172.trans (congrArg some (by kernel_rfl))
 f320:=Tryz.func173.trans (congrArg some (by kernel_rfl))
 f337:=Tryz.func175.trans (congrArg some (by kernel_rfl))
 f338:=Tryz.func176.trans (congrArg some (by kernel_rfl))
 t0:=Tryz.underlying0
 a0:=Tryz.isAgg0
 z0:=Tryz.sizeOf0
 v0:=Tryz.zeroValue0
 t2:=Tryz.underlying2
 a2:=Tryz.isAgg2
 z2:=Tryz.sizeOf2
 v2:=Tryz.zeroValue2
 t3:=Tryz.underlying3
 a3:=Tryz.isAgg3
 z3:=Tryz.sizeOf3
 v3:=Tryz.zeroValue3
 t4:=Tryz.underlying4
 a4:=Tryz.isAgg4
 z4:=Tryz.sizeOf4
 v4:=Tryz.zeroValue4
 t5:=Tryz.underlying5
 a5:=Tryz.isAgg5
 z5:=Tryz.sizeOf5
 v5:=Tryz.zeroValue5
 t9:=Tryz.underlying9
 a9:=Tryz.isAgg9
 z9:=Tryz.sizeOf9
 v9:=Tryz.zeroValue9
 t20:=Tryz.underlying20
 a20:=Tryz.isAgg20
 z20:=Tryz.sizeOf20
 v20:=Tryz.zeroValue20
 t37:=Tryz.underlying47
 a37:=Tryz.isAgg47
 z37:=Tryz.sizeOf47
 v37:=Tryz.zeroValue47
 t46:=Tryz.underlying152
 a46:=Tryz.isAgg152
 z46:=Tryz.sizeOf152
 v46:=Tryz.zeroValue152
 t51:=Tryz.underlying140
 a51:=Tryz.isAgg140
 z51:=Tryz.sizeOf140
 v51:=Tryz.zeroValue140
 t53:=Tryz.underlying139
 a53:=Tryz.isAgg139
 z53:=Tryz.sizeOf139
 v53:=Tryz.zeroValue139
 t171:=Tryz.underlying199
 a171:=Tryz.isAgg199
 z171:=Tryz.sizeOf199
 v171:=Tryz.zeroValue199
 t173:=Tryz.underlying202
 a173:=Tryz.isAgg202
 z173:=Tryz.sizeOf202
 v173:=Tryz.zeroValue202
 t212:=Tryz.underlying210
 a212:=Tryz.isAgg210
 z212:=Tryz.sizeOf210
 v212:=Tryz.zeroValue210
 t213:=Tryz.underlying211
 a213:=Tryz.isAgg211
 z213:=Tryz.sizeOf211
 t232:=Tryz.underlying215
 a232:=Tryz.isAgg215
 z232:=Tryz.sizeOf215
 v232:=Tryz.zeroValue215
 t233:=Tryz.underlying216
 a233:=Tryz.isAgg216
 z233:=Tryz.sizeOf216
 v233:=Tryz.zeroValue216
 g17:=by kernel_rfl
 g18:=by kernel_rfl
 g19:=by kernel_rfl
 i0:=by kernel_rfl
 i2:=by kernel_rfl
 i3:=by kernel_rfl
 i4:=by kernel_rfl
 i5:=by kernel_rfl
 i9:=by kernel_rfl
 i20:=by kernel_rfl
 i37:=by kernel_rfl
 i46:=by kernel_rfl
 i51:=by kernel_rfl
 i53:=by kernel_rfl
 i171:=by kernel_rfl
 i173:=by kernel_rfl
 i212:=by kernel_rfl
 i232:=by kernel_rfl
 i233:=by kernel_rfl
 m17:=by kernel_rfl
 m18:=by kernel_rfl
 m19:=by kernel_rfl }
open Go.RowKit Go.Sort Go.Lib in
theorem Sh.strconv_FormatInt_10 (n : Int) (h0 : -9223372036854775808 ≤ n) (h1 : n ≤ 9223372036854775807) (w : World) (htab : Lib.TabIs Tryz.prog w "internal/strconv.uint64pow10" .u64 Lib.pow10Tab) :
 Calls Tryz.prog 117 #[.int .i64 n,.int .i64 10] w fun e w'=>e = .returned (.string ⟨(Lib.itoa n).toArray⟩)∧∃ k os,w'=grow (w.drewN k) os:=Any.strconv_FormatInt_10 Sh.laysM173 n h0 h1 w htab
end Go.Proofs.YtjmmcnldfkjebaaGreatDoor
end
