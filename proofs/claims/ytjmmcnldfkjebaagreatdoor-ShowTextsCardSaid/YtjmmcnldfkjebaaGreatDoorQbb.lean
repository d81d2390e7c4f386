/- The document's own layer 7: numbers, expressions and lists as texts. The document's own layer 7: arguments as  -/
import Derived.Deep.RegionHeld3
import Derived.Lib.ItoaLen
import Derived.Test.YtjmmcnldfkjebaaGreatDoorKa
set_option maxHeartbeats 4000000
set_option maxRecDepth 20000
set_option linter.unusedVariables false
set_option linter.unusedSimpArgs false
section
namespace Go.Proofs.YtjmmcnldfkjebaaGreatDoor.Doc7
open Go.RowKit
open Dig Lx Tk Ps Ti Sh Law07
open Pge
def plainR (k n:Int) (s:ByteArray):ByteArray:=if k=1 then itoaB n else if k=2 then truthB n else s
theorem itoa_size {n:Int} (h:fits n):(itoaB n).size≤21:=by
 rw[← L_len,Pge.L_itoa]
 exact Lib.itoa_length_le n h.1 (by have:=h.2; omega)
theorem plainR_size {k n:Int} {s:ByteArray} (hn:fits n) (hs:s.size≤10000):(plainR k n s).size≤10000:=by
 unfold plainR
 split
 · have:=itoa_size hn; omega
 · split
   · unfold truthB; split <;> decide
   · exact hs
theorem num_any (n:Int) (hn:fits n) (w:World) (ht:TabIn w):Calls Tryz.prog 81 #[.int .i64 n] w fun e w'=>e = .returned (.string (itoaB n))∧Since w w':=by
 have F:=lH (format_any n hn w ht)
 clear hn ht
 go_enter Tryz.func81,Tryz.ntmps81
 go_wp2_with fail
 (with_reducible refine F.out.mono ?_)
 rintro e w1 ⟨rfl,h1⟩
 go_wp2
 go_ret
 exact⟨rfl,h1⟩
theorem kind_any (b:Bool) (w:World):Calls Tryz.prog 46 #[.bool b] w fun e w'=>e = .returned (.string (kindB b))∧Since w w':=by
 cases b
 all_goals go_enter Tryz.func46,Tryz.ntmps46
 all_goals go_wp2
 all_goals go_ret
 all_goals exact⟨rfl,Since.refl _⟩
theorem plain_any (k n:Int) (s:ByteArray) (A:Option Addr) (m c:Nat) (w:World) (ht:TabIn w) (hn:fits n) :
 Calls Tryz.prog 79 #[.agg #[.int .i64 k,.int .i64 n,.string s,.slice A m c]] w fun e w'=>e = .returned (.string (plainR k n s))∧Since w w':=by
 have NU:=lH (fun W (kk:Since w W)=>num_any n hn W (ht.since kk))
 have HS:=lH (sA w (.cells #[.int .i64 k,.int .i64 n,.string s,.slice A m c] 45))
 obtain⟨T,hT⟩:∃ T,T=plainR k n s:=⟨_,rfl⟩
 rw[← hT]
 have HT:=lH hT
 clear hT hn ht
 by_cases h1:k=1
 · subst h1
   obtain rfl:T=itoaB n:=by rw[HT.out]; rfl
   go_enter Tryz.func79,Tryz.ntmps79
   go_wp2_with fail
   (with_reducible refine (NU.out _ HS.out).mono ?_)
   rintro e w1 ⟨rfl,h1⟩
   go_wp2
   go_ret
   exact⟨rfl,HS.out.trans h1⟩
 · have z1:(k == 1)=false:=by rw[beq_eq_false_iff_ne]; exact h1
   by_cases h2:k=2
   · subst h2
     by_cases h3:n=1
     · subst h3
       obtain rfl:T=⟨#[116,114,117,101]⟩:=by rw[HT.out]; rfl
       clear h1
       go_enter Tryz.func79,Tryz.ntmps79
       go_wp2
       go_ret
       exact⟨rfl,HS.out⟩
     · have z3:(n == 1)=false:=by rw[beq_eq_false_iff_ne]; exact h3
       obtain rfl:T=⟨#[102,97,108,115,101]⟩:=by rw[HT.out,plainR,if_neg (by decide),if_pos rfl,truthB,if_neg h3]
       clear h1 h3
       go_enter Tryz.func79,Tryz.ntmps79
       go_wp2
       go_ret
       exact⟨rfl,HS.out⟩
   · have z2:(k == 2)=false:=by rw[beq_eq_false_iff_ne]; exact h2
     obtain rfl:T=s:=by rw[HT.out,plainR,if_neg h1,if_neg h2]
     clear h1 h2
     go_enter Tryz.func79,Tryz.ntmps79
     go_wp2
     go_ret
     exact⟨rfl,HS.out⟩
def QK (w:World) (x:Int × Int × ByteArray) (u:List Value):Prop:=∃ A m c,u = [.int .i64 x.1,.int .i64 x.2.1,.string x.2.2,.slice A m c]
theorem stK:St QK:=fun w w' x u h k=>h
theorem elK {w:World} {A:Option Addr} {n c:Nat} {xs:List (Int × Int × ByteArray)} (h:Sl 4 QK w (.slice A n c) xs) {i:Nat} (hi:i<xs.length) :
 ∃ b o A' m' c',A=some ⟨b,o,none⟩∧w.cell? ⟨b,o+i*4,none⟩=some (.int .i64 xs[i].1)∧w.cell? ⟨b,o+i*4+1,none⟩=some (.int .i64 xs[i].2.1)∧w.cell? ⟨b,o+i*4+2,none⟩=some (.string xs[i].2.2)∧w.cell? ⟨b,o+i*4+3,none⟩=some (.slice A' m' c'):=by
 obtain⟨b,o,u,h1,⟨A',m',c',h2⟩,h3,h4⟩:=h.el hi
 subst h2
 exact⟨b,o,A',m',c',h1,h4 0 _ rfl,h4 1 _ rfl,h4 2 _ rfl,h4 3 _ rfl⟩
def kR (x:Int × Int × ByteArray):ByteArray:=plainR x.1 x.2.1 x.2.2
def BoK (x:Int × Int × ByteArray):Prop:=x.2.2.size≤10000∧fits x.2.1
theorem sep_size (k:Nat):(sepW k).size≤2:=by unfold sepW; split <;> decide
theorem row_size {α:Type} (f:α→ByteArray) (B:Nat):∀ (l:List α) (i:Nat),(∀ x ∈ l,(f x).size≤B)→(rowB f i l).size≤(B+2)*l.length
 | [],i,_=>Nat.zero_le _
 | x :: r,i,h=>by
  have h1:=row_size f B r (i+1) (fun y hy=>h y (by simp[hy]))
  have h2:=h x (by simp)
  have h3:=sep_size i
  simp only[rowB,ByteArray.size_append,List.length_cons,Nat.mul_add,Nat.mul_one]
  omega
theorem list_any (v:Value) (xs:List (Int × Int × ByteArray)) (w:World) (ht:TabIn w) (h:Sl 4 QK w v xs) (hl:xs.length≤10000) (hb:∀ x ∈ xs,BoK x) :
 Calls Tryz.prog 47 #[v] w fun e w'=>e = .returned (.string (rowB kR 0 xs))∧Since w w':=by
 have H:=lH h
 obtain⟨A,c,rfl⟩:=h.form
 clear h
 obtain⟨n,hnn⟩:∃ n,n=xs.length:=⟨_,rfl⟩
 rw[← hnn] at H hl ⊢
 have HN:=lH hnn
 have HB:=lH hb
 have HT:=lH ht
 clear hnn hb ht
 go_enter Tryz.func47,Tryz.ntmps47
 go_wp2
 go_loopw [3,4] (fun s i wr=>∃ (k:Nat) (T:ByteArray),k≤n∧i = .int .i64 (k:Int)∧s = .string T∧T.size≤10002*k∧Hid (T=rowB kR 0 (xs.take k))∧Hid (Since w wr)) (fun _ i _=>n - (intOf i).toNat)
 case atStart=>exact⟨0,⟨#[]⟩,Nat.zero_le _,rfl,rfl,by decide,rfl,Since.refl _⟩
 case round =>
  obtain⟨k,T,hk,rfl,rfl,hsz,HTT,HW⟩:=hrel
  by_cases hlt:k<n
  · have hkx:k<xs.length:=by have:=HN.out; omega
    obtain⟨b,o,A',m',c',rfl,g0,g1,g2,g3⟩:=elK (H.out.since stK HW.out) hkx
    have hbx:=HB.out xs[k] (List.getElem_mem hkx)
    have hrow:=rowB_take kR hkx
    generalize xs[k]=x at *
    obtain⟨kx,nx,sx⟩:=x
    simp only at g0 g1 g2 g3
    have PL:=lH (fun W (kk:Since wr W)=>plain_any kx nx sx A' m' c' W (HT.out.since (HW.out.trans kk)) hbx.2)
    obtain⟨P,hP⟩:∃ P,P=plainR kx nx sx:=⟨_,rfl⟩
    have hps:P.size≤10000:=by rw[hP]; exact plainR_size hbx.2 hbx.1
    rw[← hP] at PL
    have HP:=lH hP
    have HR:=lH hrow
    clear hrow hbx hP hkx
    have gg1:¬ (9223372036854775807<T.size+2):=by omega
    have gg2:¬ (9223372036854775807<T.size+P.size):=by omega
    have gg3:¬ (9223372036854775807<T.size+2+P.size):=by omega
    have HLL:=lH hk
    by_cases h0:k=0
    · subst h0
      simp only[Nat.zero_mul,Nat.add_zero] at g0 g1 g2 g3
      have HE:=lH (show T++P=rowB kR 0 (xs.take (0+1)) by rw[HR.out,HTT.out,HP.out]; show _=_++((⟨#[]⟩:ByteArray)++_); rw[nos_add]; rfl)
      go_wp2_with (go_at_call 79; (with_reducible refine (PL.out _ (Since.refl _)).mono ?_); rintro e w1 ⟨rfl,h1⟩)
      go_roundw
      case rel=>exact⟨1,T++P,by omega,by go_num,rfl,by rw[ByteArray.size_append]; omega,HE.out,HW.out.trans h1⟩
      case measure=>simp[intOf]; omega
    · have hk0:0<k:=by omega
      have HE:=lH (show T++(⟨#[44,32]⟩:ByteArray)++P=rowB kR 0 (xs.take (k+1)) by rw[HR.out,← HTT.out,show sepW k=(⟨#[44,32]⟩:ByteArray) from if_neg h0,HP.out,ByteArray.append_assoc]; rfl)
      clear h0
      go_wp2_with (go_at_call 79; (with_reducible refine (PL.out _ (Since.refl _)).mono ?_); rintro e w1 ⟨rfl,h1⟩)
      go_roundw
      case rel=>exact⟨k+1,T++(⟨#[44,32]⟩:ByteArray)++P,by omega,by go_num,rfl,by rw[ByteArray.size_append,ByteArray.size_append]; show T.size+2+P.size≤_; omega,HE.out,HW.out.trans h1⟩
      case measure=>simp[intOf]; omega
  · have hkn:k=n:=by omega
    have HE:=lH (show T=rowB kR 0 xs by rw[HTT.out,List.take_of_length_le (by have:=HN.out; omega)])
    subst hkn
    go_wp2
    go_ret
    refine⟨?_,HW.out⟩
    rw[← HE.out]
    rfl
end Go.Proofs.YtjmmcnldfkjebaaGreatDoor.Doc7
end
section
namespace Go.Proofs.YtjmmcnldfkjebaaGreatDoor.Doc7
open Go.RowKit
open Dig Lx Tk Ps Ti Sh Law07
open Pge
def BoY (x:Xq):Prop:=x.s.size≤10000∧x.l.length≤10000∧(∀ p ∈ x.l,p.s.size≤10000∧fits p.n∧True)∧fits x.n
def BoJ (x:Iq):Prop:=x.name.size≤10000∧x.dom.length≤10000∧x.vals.length≤10000∧(∀ y ∈ x.vals,BoY y)∧(∀ z ∈ x.dom,BdR z)∧fits x.size
theorem boJ_of {x:Iq} (hb:BdI x) (hs:SmI x):BoJ x:=
 ⟨Nat.le_trans hs.1 (by decide),Nat.le_trans hs.2.2.1 (by decide),Nat.le_trans hs.2.1 (by decide),fun y hy=>⟨Nat.le_trans (hs.2.2.2 y hy).1 (by decide),Nat.le_trans (hs.2.2.2 y hy).2.1 (by decide),fun p hp=>⟨Nat.le_trans ((hs.2.2.2 y hy).2.2 p hp) (by decide),((hb.2.2.2.1 y hy).2.2.1 p hp).2,trivial⟩,(hb.2.2.2.1 y hy).2.2.2⟩,hb.2.2.2.2.1,hb.2.2.2.2.2⟩
def kP (p:Pq):Int × Int × ByteArray:=(p.k,p.n,p.s)
def kX (x:Xq):Int × Int × ByteArray:=(x.k,x.n,x.s)
theorem sl_kP {G:Nat→Prop} {w:World} {v:Value} {l:List Pq} (h:Sl 4 (QPq G) w v l):Sl 4 QK w v (l.map kP):=sl_map kP (fun x u ⟨A,c,e,_⟩=>⟨A,_,c,e⟩) h
theorem sl_kX {G:Nat→Prop} {w:World} {v:Value} {l:List Xq} (h:Sl 4 (QXq G) w v l):Sl 4 QK w v (l.map kX):=sl_map kX (fun x u ⟨lv,e,hs,_⟩=>by obtain⟨A,c,rfl⟩:=hs.form; exact⟨A,_,c,e⟩) h
def aR (x:Xq):ByteArray:=if x.k=4 then ⟨#[91]⟩++rowB kR 0 (x.l.map kP)++⟨#[93]⟩ else plainR x.k x.n x.s
theorem boP {x:Xq} (h:BoY x):∀ y ∈ x.l.map kP,BoK y:=by
 intro y hy
 obtain⟨p,hp,rfl⟩:=List.mem_map.1 hy
 exact⟨(h.2.2.1 p hp).1,(h.2.2.1 p hp).2.1⟩
theorem rowP_size {x:Xq} (h:BoY x):(rowB kR 0 (x.l.map kP)).size≤100020000:=by
 have h1:=row_size kR 10000 (x.l.map kP) 0 (fun y hy=>plainR_size (boP h y hy).2 (boP h y hy).1)
 have h2:=h.2.1
 rw[List.length_map] at h1
 omega
theorem args_any (v:Value) (xs:List Xq) (w:World) (ht:TabIn w) (h:Sl 4 (QXq noG) w v xs) (hl:xs.length≤10000) (hb:∀ x ∈ xs,BoY x) :
 Calls Tryz.prog 50 #[v] w fun e w'=>e = .returned (.string (rowB aR 0 xs))∧Since w w':=by
 have H:=lH h
 obtain⟨A,c,rfl⟩:=h.form
 clear h
 obtain⟨n,hnn⟩:∃ n,n=xs.length:=⟨_,rfl⟩
 rw[← hnn] at H hl ⊢
 have HN:=lH hnn
 have HB:=lH hb
 have HT:=lH ht
 clear hnn hb ht
 go_enter Tryz.func50,Tryz.ntmps50
 go_wp2
 go_loopw [3,4] (fun s i wr=>∃ (k:Nat) (T:ByteArray),k≤n∧i = .int .i64 (k:Int)∧s = .string T∧T.size≤100020004*k∧Hid (T=rowB aR 0 (xs.take k))∧Hid (Since w wr)) (fun _ i _=>n - (intOf i).toNat)
 case atStart=>exact⟨0,⟨#[]⟩,Nat.zero_le _,rfl,rfl,by decide,rfl,Since.refl _⟩
 case round =>
  obtain⟨k,T,hk,rfl,rfl,hsz,HTT,HW⟩:=hrel
  by_cases hlt:k<n
  · have hkx:k<xs.length:=by have:=HN.out; omega
    obtain⟨b,o,A',c',rfl,hin,g0,g1,g2,g3⟩:=elXq (H.out.since (stXq _) HW.out) hkx
    have hbx:=HB.out xs[k] (List.getElem_mem hkx)
    have hrow:=rowB_take aR hkx
    generalize xs[k]=x at *
    have hps:=rowP_size hbx
    have hpl:(plainR x.k x.n x.s).size≤10000:=plainR_size hbx.2.2.2 hbx.1
    have PL:=lH (fun W (kk:Since wr W)=>plain_any x.k x.n x.s A' x.l.length c' W (HT.out.since (HW.out.trans kk)) hbx.2.2.2)
    have LI:=lH (fun W (kk:Since wr W)=>list_any _ (x.l.map kP) W (HT.out.since (HW.out.trans kk)) (sl_kP (hin.since (stPq _) kk)) (by rw[List.length_map]; exact hbx.2.1) (boP hbx))
    have haR:aR x=if x.k=4 then ⟨#[91]⟩++rowB kR 0 (x.l.map kP)++⟨#[93]⟩ else plainR x.k x.n x.s:=rfl
    generalize hp1:plainR x.k x.n x.s=P at *
    generalize hp2:rowB kR 0 (x.l.map kP)=Q at *
    generalize hp3:x.l.length=ln at *
    obtain⟨kx,nx,sx,lx⟩:=x
    simp only at g0 g1 g2 g3 haR PL LI
    have HR:=lH hrow
    have HA:=lH haR
    clear hrow hbx hp1 hp2 hp3 hin haR hkx
    have gg1:¬ (9223372036854775807<T.size+2):=by omega
    have gg2:¬ (9223372036854775807<T.size+P.size):=by omega
    have gg3:¬ (9223372036854775807<T.size+2+P.size):=by omega
    have gg4:¬ (9223372036854775807<T.size+1):=by omega
    have gg5:¬ (9223372036854775807<T.size+1+Q.size):=by omega
    have gg6:¬ (9223372036854775807<T.size+1+Q.size+1):=by omega
    have gg7:¬ (9223372036854775807<T.size+2+1):=by omega
    have gg8:¬ (9223372036854775807<T.size+2+1+Q.size):=by omega
    have gg9:¬ (9223372036854775807<T.size+2+1+Q.size+1):=by omega
    by_cases h4:kx=4
    · subst h4
      by_cases h0:k=0
      · subst h0
        simp only[Nat.zero_mul,Nat.add_zero] at g0 g1 g2 g3
        have HE:=lH (show T++(⟨#[91]⟩:ByteArray)++Q++(⟨#[93]⟩:ByteArray)=rowB aR 0 (xs.take (0+1)) by rw[HR.out,← HTT.out,HA.out,if_pos rfl]; show _=_++((⟨#[]⟩:ByteArray)++_); rw[nos_add,ByteArray.append_assoc,ByteArray.append_assoc,ByteArray.append_assoc])
        go_wp2_with (go_at_call 47; (with_reducible refine (LI.out _ (Since.refl _)).mono ?_); rintro e w1 ⟨rfl,h1⟩)
        go_roundw
        case rel=>exact⟨1,T++(⟨#[91]⟩:ByteArray)++Q++(⟨#[93]⟩:ByteArray),by omega,by go_num,rfl,by rw[ByteArray.size_append,ByteArray.size_append,ByteArray.size_append]; show T.size+1+Q.size+1≤_; omega,HE.out,HW.out.trans h1⟩
        case measure=>simp[intOf]; omega
      · have hk0:0<k:=by omega
        have HE:=lH (show T++(⟨#[44,32]⟩:ByteArray)++(⟨#[91]⟩:ByteArray)++Q++(⟨#[93]⟩:ByteArray)=rowB aR 0 (xs.take (k+1)) by rw[HR.out,← HTT.out,HA.out,if_pos rfl,show sepW k=(⟨#[44,32]⟩:ByteArray) from if_neg h0]; simp only[ByteArray.append_assoc])
        clear h0
        go_wp2_with (go_at_call 47; (with_reducible refine (LI.out _ (Since.refl _)).mono ?_); rintro e w1 ⟨rfl,h1⟩)
        go_roundw
        case rel=>exact⟨k+1,T++(⟨#[44,32]⟩:ByteArray)++(⟨#[91]⟩:ByteArray)++Q++(⟨#[93]⟩:ByteArray),by omega,by go_num,rfl,by rw[ByteArray.size_append,ByteArray.size_append,ByteArray.size_append,ByteArray.size_append]; show T.size+2+1+Q.size+1≤_; omega,HE.out,HW.out.trans h1⟩
        case measure=>simp[intOf]; omega
    · have z4:(kx == 4)=false:=by rw[beq_eq_false_iff_ne]; exact h4
      have HA2:=lH (HA.out.trans (if_neg h4))
      clear h4
      by_cases h0:k=0
      · subst h0
        simp only[Nat.zero_mul,Nat.add_zero] at g0 g1 g2 g3
        have HE:=lH (show T++P=rowB aR 0 (xs.take (0+1)) by rw[HR.out,← HTT.out,HA2.out]; show _=_++((⟨#[]⟩:ByteArray)++_); rw[nos_add])
        go_wp2_with (go_at_call 79; (with_reducible refine (PL.out _ (Since.refl _)).mono ?_); rintro e w1 ⟨rfl,h1⟩)
        go_roundw
        case rel=>exact⟨1,T++P,by omega,by go_num,rfl,by rw[ByteArray.size_append]; omega,HE.out,HW.out.trans h1⟩
        case measure=>simp[intOf]; omega
      · have hk0:0<k:=by omega
        have HE:=lH (show T++(⟨#[44,32]⟩:ByteArray)++P=rowB aR 0 (xs.take (k+1)) by rw[HR.out,← HTT.out,HA2.out,show sepW k=(⟨#[44,32]⟩:ByteArray) from if_neg h0,ByteArray.append_assoc])
        clear h0
        go_wp2_with (go_at_call 79; (with_reducible refine (PL.out _ (Since.refl _)).mono ?_); rintro e w1 ⟨rfl,h1⟩)
        go_roundw
        case rel=>exact⟨k+1,T++(⟨#[44,32]⟩:ByteArray)++P,by omega,by go_num,rfl,by rw[ByteArray.size_append,ByteArray.size_append]; show T.size+2+P.size≤_; omega,HE.out,HW.out.trans h1⟩
        case measure=>simp[intOf]; omega
  · have hkn:k=n:=by omega
    have HE:=lH (show T=rowB aR 0 xs by rw[HTT.out,List.take_of_length_le (by have:=HN.out; omega)])
    subst hkn
    go_wp2
    go_ret
    refine⟨?_,HW.out⟩
    rw[← HE.out]
    rfl
end Go.Proofs.YtjmmcnldfkjebaaGreatDoor.Doc7
end
section
namespace Go.Proofs.YtjmmcnldfkjebaaGreatDoor.Doc7
open Go.RowKit
open Dig Lx Tk Ps Ti Sh Law07
open Pge
theorem bx8 {W:World} {g:Nat} {z0 z1 z2 z3 z4 z5 z6 z7:Value} {t:TypeId} (h:Bx W g #[z0,z1,z2,z3,z4,z5,z6,z7] t) :
 W.cell? ⟨g,0,none⟩=some z0∧W.cell? ⟨g,1,none⟩=some z1∧W.cell? ⟨g,2,none⟩=some z2∧W.cell? ⟨g,3,none⟩=some z3∧W.cell? ⟨g,4,none⟩=some z4∧W.cell? ⟨g,5,none⟩=some z5∧W.cell? ⟨g,6,none⟩=some z6∧W.cell? ⟨g,7,none⟩=some z7:=⟨h.cell 0,h.cell 1,h.cell 2,h.cell 3,h.cell 4,h.cell 5,h.cell 6,h.cell 7⟩
def domR (bo:Bool) (dm:List (Int × Int)):ByteArray:=if bo=true then ⟨#[98,111,111,108]⟩ else domB dm
def loR (z:Int × Int):ByteArray:=itoaB z.1
theorem domB_many {dm:List (Int × Int)} (h:dm.length≠1):domB dm=⟨#[123]⟩++rowB loR 0 dm++⟨#[125]⟩:=by
 match dm,h with
 | [],_=>rfl
 | [z],h=>exact absurd rfl h
 | _ :: _ :: _,_=>rfl
theorem dom_bool (w:World) (ki:Int) (nm:ByteArray) (bo:Bool) (sz:Int) (ou:Bool) (ak:Int) (A1 A2:Option Addr) (p m c1 c2:Nat) (hbo:bo=true) (ht:TabIn w) :
 Calls Tryz.prog 80 #[.agg #[.int .i64 ki,.string nm,.bool bo,.slice A1 p c1,.int .i64 sz,.bool ou,.slice A2 m c2,.int .i64 ak]] w fun e w'=>e = .returned (.string ⟨#[98,111,111,108]⟩)∧Since w w':=by
 subst hbo
 have HS:=lH (sA w (.cells #[.int .i64 ki,.string nm,.bool true,.slice A1 p c1,.int .i64 sz,.bool ou,.slice A2 m c2,.int .i64 ak] 28))
 have HX:=lH (fun W (k:Since (w.alloc (.cells #[.int .i64 ki,.string nm,.bool true,.slice A1 p c1,.int .i64 sz,.bool ou,.slice A2 m c2,.int .i64 ak] 28)) W)=>(Bx.fresh w #[.int .i64 ki,.string nm,.bool true,.slice A1 p c1,.int .i64 sz,.bool ou,.slice A2 m c2,.int .i64 ak] 28).since k)
 obtain⟨_,_,_,_,_,_,_,_⟩:=bx8 (HX.out _ (Since.refl _))
 go_enter Tryz.func80,Tryz.ntmps80
 go_wp2
 go_ret
 exact⟨rfl,HS.out⟩
theorem dom_one (w:World) (ki:Int) (nm:ByteArray) (bo:Bool) (sz:Int) (ou:Bool) (ak:Int) (A1 A2:Option Addr) (p m c1 c2:Nat) (lo hi:Int) (hl:fits lo) (hh:fits hi) (hd:Sl 2 QR w (.slice A1 p c1) [(lo,hi)]) (hbo:bo=false) (ht:TabIn w) :
 Calls Tryz.prog 80 #[.agg #[.int .i64 ki,.string nm,.bool bo,.slice A1 p c1,.int .i64 sz,.bool ou,.slice A2 m c2,.int .i64 ak]] w fun e w'=>e = .returned (.string (itoaB lo++(⟨#[46,46]⟩:ByteArray)++itoaB hi))∧Since w w':=by
 subst hbo
 obtain rfl:p=1:=hd.at_.1
 have HS:=lH (sA w (.cells #[.int .i64 ki,.string nm,.bool false,.slice A1 1 c1,.int .i64 sz,.bool ou,.slice A2 m c2,.int .i64 ak] 28))
 have HX:=lH (fun W (k:Since (w.alloc (.cells #[.int .i64 ki,.string nm,.bool false,.slice A1 1 c1,.int .i64 sz,.bool ou,.slice A2 m c2,.int .i64 ak] 28)) W)=>(Bx.fresh w #[.int .i64 ki,.string nm,.bool false,.slice A1 1 c1,.int .i64 sz,.bool ou,.slice A2 m c2,.int .i64 ak] 28).since k)
 obtain⟨_,_,_,_,_,_,_,_⟩:=bx8 (HX.out _ (Since.refl _))
 have s1:=itoa_size hl
 have s2:=itoa_size hh
 have NL:=lH (fun W (kk:Since w W)=>num_any lo hl W (ht.since kk))
 have NH:=lH (fun W (kk:Since w W)=>num_any hi hh W (ht.since kk))
 obtain⟨X,hX⟩:∃ X,X=itoaB lo:=⟨_,rfl⟩
 obtain⟨Y,hY⟩:∃ Y,Y=itoaB hi:=⟨_,rfl⟩
 rw[← hX] at NL s1 ⊢
 rw[← hY] at NH s2 ⊢
 have gg1:¬ (9223372036854775807<X.size+2):=by omega
 have gg2:¬ (9223372036854775807<X.size+2+Y.size):=by omega
 obtain⟨b,o,rfl,e0,e1⟩:=elR (hd.since stR HS.out) (i:=0) (by simp)
 simp only[Nat.zero_mul,Nat.add_zero,List.getElem_cons_zero] at e0 e1
 have HD:=lH (fun W (k:Since (w.alloc (.cells #[.int .i64 ki,.string nm,.bool false,.slice (some ⟨b,o,none⟩) 1 c1,.int .i64 sz,.bool ou,.slice A2 m c2,.int .i64 ak] 28)) W)=>(show W.cell? ⟨b,o,none⟩=some (.int .i64 lo)∧W.cell? ⟨b,o+1,none⟩=some (.int .i64 hi) from⟨(k.cell _ (World.block_lt_of_cell? _ _ e0)).trans e0,(k.cell _ (World.block_lt_of_cell? _ _ e1)).trans e1⟩))
 clear hX hY hd hl hh ht
 go_enter Tryz.func80,Tryz.ntmps80
 go_wp2
 have HQ:=lH (fun W (k:Since (w.alloc (.cells #[.int .i64 ki,.string nm,.bool false,.slice (some ⟨b,o,none⟩) 1 c1,.int .i64 sz,.bool ou,.slice A2 m c2,.int .i64 ak] 28)) W)=>(show W.cell? ⟨w.heap.size,3,none⟩=some (.slice (some ⟨b,o,none⟩) 1 c1)∧W.cell? ⟨b,o,none⟩=some (.int .i64 lo)∧W.cell? ⟨b,o+1,none⟩=some (.int .i64 hi) from⟨(HX.out W k).cell 3,HD.out W k⟩))
 go_region_held3 (fun W=>W.cell? ⟨w.heap.size,3,none⟩=some (.slice (some ⟨b,o,none⟩) 1 c1)∧W.cell? ⟨b,o,none⟩=some (.int .i64 lo)∧W.cell? ⟨b,o+1,none⟩=some (.int .i64 hi))
  (first | with_reducible exact HQ.out _ kd2 | with_reducible exact HQ.out _ kd1 | with_reducible exact HQ.out _ (Since.drew (Since.refl _)))
  (first
   | (go_at_call 81; (with_reducible refine (NL.out _ (HS.out.trans (Since.drew (Since.refl _)))).mono ?_); rintro e w1 ⟨rfl,h1⟩; have kd1:=(Since.drew (Since.refl _)).trans h1)
   | (go_at_call 81; (with_reducible refine (NH.out _ (HS.out.trans kd1)).mono ?_); rintro e w2 ⟨rfl,h2⟩; have kd2:=kd1.trans h2))
 all_goals go_wp2
 go_ret
 exact⟨rfl,HS.out.trans kd2⟩
theorem dom_many (w:World) (ki:Int) (nm:ByteArray) (bo:Bool) (sz:Int) (ou:Bool) (ak:Int) (A1 A2:Option Addr) (p m c1 c2:Nat) (dm:List (Int × Int)) (hp:dm.length≠1) (hl:dm.length≤10000) (hb:∀ z ∈ dm,BdR z) (hd:Sl 2 QR w (.slice A1 p c1) dm) (hbo:bo=false) (ht:TabIn w) :
 Calls Tryz.prog 80 #[.agg #[.int .i64 ki,.string nm,.bool bo,.slice A1 p c1,.int .i64 sz,.bool ou,.slice A2 m c2,.int .i64 ak]] w fun e w'=>e = .returned (.string ((⟨#[123]⟩:ByteArray)++rowB loR 0 dm++(⟨#[125]⟩:ByteArray)))∧Since w w':=by
 subst hbo
 have hpp:=hd.at_.1
 have HS:=lH (sA w (.cells #[.int .i64 ki,.string nm,.bool false,.slice A1 p c1,.int .i64 sz,.bool ou,.slice A2 m c2,.int .i64 ak] 28))
 have HX:=lH (fun W (k:Since (w.alloc (.cells #[.int .i64 ki,.string nm,.bool false,.slice A1 p c1,.int .i64 sz,.bool ou,.slice A2 m c2,.int .i64 ak] 28)) W)=>(Bx.fresh w #[.int .i64 ki,.string nm,.bool false,.slice A1 p c1,.int .i64 sz,.bool ou,.slice A2 m c2,.int .i64 ak] 28).since k)
 obtain⟨_,_,_,_,_,_,_,_⟩:=bx8 (HX.out _ (Since.refl _))
 have hz:((p:Int) == 1)=false:=by rw[beq_eq_false_iff_ne]; omega
 have HN:=lH hpp
 have HB:=lH hb
 have H:=lH hd
 have HT:=lH ht
 have hpl:p≤10000:=by omega
 clear hpp hb hd ht hp hl
 go_enter Tryz.func80,Tryz.ntmps80
 go_wp2
 go_loopw [3,4] (fun s i wr=>∃ (k:Nat) (T:ByteArray),k≤p∧i = .int .i64 (k:Int)∧s = .string T∧T.size≤1+23*k∧Hid (T=(⟨#[123]⟩:ByteArray)++rowB loR 0 (dm.take k))∧Hid (Since (w.alloc (.cells #[.int .i64 ki,.string nm,.bool false,.slice A1 p c1,.int .i64 sz,.bool ou,.slice A2 m c2,.int .i64 ak] 28)) wr)) (fun _ i _=>p - (intOf i).toNat)
 case atStart=>exact⟨0,(⟨#[123]⟩:ByteArray),Nat.zero_le _,rfl,rfl,by decide,(add_nos _).symm,Since.refl _⟩
 case round =>
  obtain⟨k,T,hk,rfl,rfl,hsz,HTT,HW⟩:=hrel
  obtain⟨_,_,_,_,_,_,_,_⟩:=bx8 (HX.out _ HW.out)
  by_cases hlt:k<p
  · have hkx:k<dm.length:=by have:=HN.out; omega
    obtain⟨b,o,rfl,e0,e1⟩:=elR (H.out.since stR (HS.out.trans HW.out)) hkx
    have hbx:=HB.out dm[k] (List.getElem_mem hkx)
    have hrow:=rowB_take loR hkx
    generalize dm[k]=z at *
    obtain⟨lo,hi⟩:=z
    simp only at e0 e1
    have s1:=itoa_size hbx.1
    have NL:=lH (fun W (kk:Since wr W)=>num_any lo hbx.1 W (HT.out.since ((HS.out.trans HW.out).trans kk)))
    have hx:loR (lo,hi)=itoaB lo:=rfl
    rw[hx] at hrow
    generalize itoaB lo=X at *
    have HR:=lH hrow
    clear hrow hbx hx hkx
    have gg1:¬ (9223372036854775807<T.size+2):=by omega
    have gg2:¬ (9223372036854775807<T.size+X.size):=by omega
    have gg3:¬ (9223372036854775807<T.size+2+X.size):=by omega
    by_cases h0:k=0
    · subst h0
      simp only[Nat.zero_mul,Nat.add_zero] at e0 e1
      have HE:=lH (show T++X=(⟨#[123]⟩:ByteArray)++rowB loR 0 (dm.take (0+1)) by rw[HR.out,← ByteArray.append_assoc,← HTT.out]; show _=_++((⟨#[]⟩:ByteArray)++_); rw[nos_add])
      go_wp2_with (go_at_call 81; (with_reducible refine (NL.out _ (Since.refl _)).mono ?_); rintro e w1 ⟨rfl,h1⟩)
      go_roundw
      case rel=>exact⟨1,T++X,by omega,by go_num,rfl,by rw[ByteArray.size_append]; omega,HE.out,HW.out.trans h1⟩
      case measure=>simp[intOf]; omega
    · have hk0:0<k:=by omega
      have HE:=lH (show T++(⟨#[44,32]⟩:ByteArray)++X=(⟨#[123]⟩:ByteArray)++rowB loR 0 (dm.take (k+1)) by rw[HR.out,← ByteArray.append_assoc,← HTT.out,show sepW k=(⟨#[44,32]⟩:ByteArray) from if_neg h0,ByteArray.append_assoc])
      clear h0
      go_wp2_with (go_at_call 81; (with_reducible refine (NL.out _ (Since.refl _)).mono ?_); rintro e w1 ⟨rfl,h1⟩)
      go_roundw
      case rel=>exact⟨k+1,T++(⟨#[44,32]⟩:ByteArray)++X,by omega,by go_num,rfl,by rw[ByteArray.size_append,ByteArray.size_append]; show T.size+2+X.size≤_; omega,HE.out,HW.out.trans h1⟩
      case measure=>simp[intOf]; omega
  · have hkn:k=p:=by omega
    have HE:=lH (show T=(⟨#[123]⟩:ByteArray)++rowB loR 0 dm by rw[HTT.out,List.take_of_length_le (by have:=HN.out; omega)])
    have gg1:¬ (9223372036854775807<T.size+1):=by omega
    subst hkn
    go_wp2
    go_ret
    refine⟨?_,HS.out.trans HW.out⟩
    rw[← HE.out]
    rfl
theorem dom_any (ki:Int) (nm:ByteArray) (bo:Bool) (sz:Int) (ou:Bool) (ak:Int) (A1 A2:Option Addr) (m c1 c2:Nat) (dm:List (Int × Int)) (w:World) (ht:TabIn w) (hl:dm.length≤10000) (hb:∀ z ∈ dm,BdR z) (hd:Sl 2 QR w (.slice A1 dm.length c1) dm) :
 Calls Tryz.prog 80 #[.agg #[.int .i64 ki,.string nm,.bool bo,.slice A1 dm.length c1,.int .i64 sz,.bool ou,.slice A2 m c2,.int .i64 ak]] w fun e w'=>e = .returned (.string (domR bo dm))∧Since w w':=by
 cases bo with
 | true=>exact dom_bool w ki nm true sz ou ak A1 A2 _ m c1 c2 rfl ht
 | false =>
  by_cases h1:dm.length=1
  · obtain⟨⟨lo,hi⟩,rfl⟩:=List.length_eq_one_iff.1 h1
    have hz:=hb (lo,hi) (by simp)
    exact dom_one w ki nm false sz ou ak A1 A2 _ m c1 c2 lo hi hz.1 hz.2 hd rfl ht
  · have e:domR false dm=(⟨#[123]⟩:ByteArray)++rowB loR 0 dm++(⟨#[125]⟩:ByteArray):=domB_many h1
    rw[e]
    exact dom_many w ki nm false sz ou ak A1 A2 _ m c1 c2 dm h1 hl hb hd rfl ht
end Go.Proofs.YtjmmcnldfkjebaaGreatDoor.Doc7
end
