/- Layer 11 (sense): the landed right: whether a constraint is asked rightly, of its values. -/
import Derived.Test.YtakfabaocgbbmaaUm
import Derived.Test.YtakfabaocgbbmaaUh
set_option maxHeartbeats 4000000
set_option maxRecDepth 20000
namespace Go.Proofs.Ytakfabaocgbbmaa.Sn
open Go.RowKit
set_option linter.unusedVariables false
set_option linter.unusedSimpArgs false
open Dig Lx Tk Ti Zs Tr
theorem bx4' {W:World} {g:Nat} {z0 z1 z2 z3:Value} {t:TypeId} (h:Bx W g #[z0,z1,z2,z3] t):W.frozen? ⟨g,0,none⟩=false∧W.frozen? ⟨g,1,none⟩=false∧W.frozen? ⟨g,2,none⟩=false∧W.frozen? ⟨g,3,none⟩=false:=⟨h.no 0,h.no 1,h.no 2,h.no 3⟩
theorem con_lit (W:World) (c:Cn) (X Y:Value) (hx:Sl 1 QI W X c.x) (ha:Sl 1 QI W Y c.a):Sl 4 QC (W.alloc (.cells #[.int .i64 c.k,X,Y,.int .i64 c.c] 25)) (.slice (some ⟨W.heap.size,0,none⟩) 1 1) [c]:=by
  have hb:=Bx.fresh W #[.int .i64 c.k,X,Y,.int .i64 c.c] 25
  have ks:=sA W (.cells #[.int .i64 c.k,X,Y,.int .i64 c.c] 25)
  refine⟨some ⟨W.heap.size,0,none⟩,1,rfl,Nat.le_refl _,fun _=>⟨W.heap.size,0,rfl,fun i x hi => ?_⟩⟩
  match i,hi with
  | 0,hi =>
    cases hi
    refine⟨_,⟨X,Y,rfl,hx.since stI ks,ha.since stI ks⟩,rfl,fun j y hy => ?_⟩
    match j,hy with
    | 0,hy=>cases hy; exact hb.cell 0
    | 1,hy=>cases hy; exact hb.cell 1
    | 2,hy=>cases hy; exact hb.cell 2
    | 3,hy=>cases hy; exact hb.cell 3
    | j+4,hy=>simp at hy
  | i+1,hi=>simp at hi
theorem two_new (W:World) (y:Int) {g:Nat} (hg:W.heap.size=g):((W.alloc (.cells #[.int .i64 y,.int .i64 y] 36)).alloc (.cells #[.slice (some ⟨g,0,none⟩) 1 1] 46)).cell? ⟨g+1,0,none⟩=some (.slice (some ⟨g,0,none⟩) 1 1) ∧
    Bx ((W.alloc (.cells #[.int .i64 y,.int .i64 y] 36)).alloc (.cells #[.slice (some ⟨g,0,none⟩) 1 1] 46)) g #[.int .i64 y,.int .i64 y] 36:=by
  have h1:=Bx.fresh (W.alloc (.cells #[.int .i64 y,.int .i64 y] 36)) #[.slice (some ⟨g,0,none⟩) 1 1] 46
  have e:(W.alloc (.cells #[.int .i64 y,.int .i64 y] 36)).heap.size=g+1:=by simp[hg]
  rw[e] at h1
  exact⟨h1.cell 0,Bx.new (sA _ _) hg⟩
theorem Two.farX {w1 w:World} {B:Nat→Prop} {X D:Value} {jx jd:Nat} {v:List Int} (h:Two w1 w B X D jx jd v):X.ownBlock≠some w.heap.size:=fun e=>by have:=(h.1.lt _ e).2; omega
theorem Two.farD {w1 w:World} {B:Nat→Prop} {X D:Value} {jx jd:Nat} {v:List Int} (h:Two w1 w B X D jx jd v):D.ownBlock≠some w.heap.size:=fun e=>by have:=(h.2.1.lt _ e).2; omega
theorem Two.farB {w1 w:World} {B:Nat→Prop} {X D:Value} {jx jd:Nat} {v:List Int} (h:Two w1 w B X D jx jd v):¬ B w.heap.size:=fun e=>by have:=(h.2.2.2 _ e).1; omega
theorem pright_any (u:Value) (k:Int) (x a:List Int) (c:Int) (v:List Int) (w:World) (h:PlAt w u k x a c v) (hv:v.length≤32) (ha:a.length≤1100000) :
    Calls Try.prog 92 #[u] w (RetT (askV k v a c) w):=by
  obtain⟨X,xc,Y,yc,V,vc,rfl,h1,h2,h3⟩:=h
  obtain⟨na,hna⟩:∃ n,n=a.length:=⟨_,rfl⟩
  obtain⟨nv,hnv⟩:∃ n,n=v.length:=⟨_,rfl⟩
  rw[← hna] at h2
  rw[← hnv] at h3
  rw[← hna,← hnv]
  generalize x.length=nx at *
  have H2:=Lib.hid h2
  have H3:=Lib.hid h3
  have HNA:=Lib.hid hna
  have HNV:=Lib.hid hnv
  have hnv32:nv≤32:=by omega
  obtain⟨w1,hw1⟩:∃ w1,w1=w.alloc (.cells #[.int .i64 k,.slice X nx xc,.slice Y na yc,.int .i64 c,.slice V nv vc] 73):=⟨_,rfl⟩
  obtain⟨w0,hw0⟩:∃ w0,w0=w1.alloc (.cells #[.int .i64 k,.slice none 0 0,.slice Y na yc,.int .i64 c] 25):=⟨_,rfl⟩
  have S1:=Lib.hid (show Since w w1 by rw[hw1]; exact sA _ _)
  have B1:=Lib.hid (show Bx w1 w.heap.size #[.int .i64 k,.slice X nx xc,.slice Y na yc,.int .i64 c,.slice V nv vc] 73 by rw[hw1]; exact Bx.fresh _ _ _)
  have Z1:=Lib.hid (show w1.heap.size=w.heap.size+1 by rw[hw1]; simp)
  have S0:=Lib.hid (show Since w1 w0 by rw[hw0]; exact sA _ _)
  have B0:=Lib.hid (show Bx w0 (w.heap.size+1) #[.int .i64 k,.slice none 0 0,.slice Y na yc,.int .i64 c] 25 by rw[hw0,← Z1.out]; exact Bx.fresh _ _ _)
  have Z0:=Lib.hid (show w0.heap.size=w.heap.size+2 by rw[hw0]; simp[Z1.out])
  clear h1 h2 h3 hna hnv hv
  go_enter Try.func92,Try.ntmps92
  go_wp2
  rw[← hw1,← hw0]
  clear hw0 hw1
  go_loopw [4,13] (fun d i wr=>∃ (j:Nat) (A:Option Addr) (ca:Nat) (D:Option Addr) (cd:Nat),i = .int .i64 (j:Int)∧d = .slice D j cd∧j≤nv∧Hid (Two w1 wr (fun b=>b=w.heap.size+1) (.slice A j ca) (.slice D j cd) j j v)∧Hid (Bx wr (w.heap.size+1) #[.int .i64 k,.slice A j ca,.slice Y na yc,.int .i64 c] 25)) (fun _ i _=>nv - (intOf i).toNat)
  case atStart=>exact⟨0,none,0,none,0,rfl,rfl,Nat.zero_le _,Two.nil S0.out (fun b hb=>by have:=Z0.out; omega) v,B0.out⟩
  case round =>
    obtain⟨j,A,ca,D,cd,rfl,rfl,hj,T,HB⟩:=hrel
    obtain⟨_,_,_,_,_⟩:=bx5 (B1.out.since T.out.s)
    obtain⟨_,_,_,_⟩:=bx4 HB.out
    obtain⟨hlt,hnx,hnd⟩:=T.out.2.2.2 _ rfl
    have hw1b:w1.heap.size≤w.heap.size+1:=by have:=Z1.out; omega
    by_cases hjn:j<nv
    · have hjv:j<v.length:=by have:=HNV.out; omega
      obtain⟨g,o,rfl,e0⟩:=elI (H3.out.since stI (S1.out.trans T.out.s)) hjv
      obtain⟨y,hy⟩:∃ y,y=v[j]:=⟨_,rfl⟩
      rw[← hy] at e0
      have HY:=Lib.hid hy
      have hj1000:j≤1000:=by omega
      have HL:=Lib.hid (show v.length≤1000 by have:=HNV.out; omega)
      have HJV:=Lib.hid hjv
      have hnx:=Lib.hid hnx
      have hnd:=Lib.hid hnd
      have hlt:=Lib.hid hlt
      have hw1b:=Lib.hid hw1b
      clear hy
      go_wp2_with (first
        | (at_builtin; refine wpList_twoX (T.out.since (sA _ _)) hj1000 wr.heap.size 1 ((Bx.fresh wr _ _).cell 0) (by rfl) _ _ rfl rfl rfl ?_
           intro A2 c2 w2 t2 q2
           have bb:=q2 _ _ _ (HB.out.since (sA _ _)) hnx.out
           obtain⟨_,_,_,_⟩:=bx4 bb
           obtain⟨_,_,_,_⟩:=bx4' bb
           have T3:=Lib.hid (t2.set (i:=1) hw1b.out rfl (.slice A2 (j+1) c2))
           have B3:=Lib.hid (bxset bb 1 (.slice A2 (j+1) c2) rfl)
           have F:=Lib.hid (two_new (w2.setCell ⟨w.heap.size+1,1,none⟩ (.slice A2 (j+1) c2)) y (g:=w2.heap.size) (by simp[World.setCell]))
           have T2:=Lib.hid t2
           clear bb t2)
        | (at_builtin; refine wpList_twoD (T3.out.since (((Since.refl _).alloc _).alloc _)) HJV.out HL.out (w2.heap.size+1) 1 w2.heap.size F.out.1 (HY.out ▸ F.out.2) (T2.out.farX) (T2.out.farD) (T2.out.farB) (by rfl) _ _ rfl rfl rfl ?_
           intro A4 c4 w4 t4 q4
           have T4:=Lib.hid t4
           have B4:=Lib.hid (q4 _ _ _ (B3.out.since (((Since.refl _).alloc _).alloc _)) hnd.out)
           clear t4 q4))
      go_roundw
      case rel=>exact⟨j+1,A2,c2,A4,c4,by go_num,by first | rfl | go_num,by omega,T4.out,B4.out⟩
      case measure=>simp[intOf]; omega
    · obtain rfl:j=nv:=by omega
      have hvt:v.take j=v:=List.take_of_length_le (by have:=HNV.out; omega)
      have hX:=T.out.slX
      have hD:=T.out.slD
      rw[hvt] at hD
      have h2:=H2.out.since stI (S1.out.trans T.out.s)
      have MR:=Lib.hid (show Calls Try.prog 71 #[.agg #[.slice D j cd,.slice (some ⟨wr.heap.size,0,none⟩) 1 1,.int .i64 0,.int .i64 0]] (wr.alloc (.cells #[.int .i64 k,.slice A j ca,.slice Y na yc,.int .i64 c] 25)) (RetT (askV k v a c) (wr.alloc (.cells #[.int .i64 k,.slice A j ca,.slice Y na yc,.int .i64 c] 25))) by
        have ks:=sA wr (.cells #[.int .i64 k,.slice A j ca,.slice Y na yc,.int .i64 c] 25)
        have hc:=con_lit wr ⟨k,iot j,a,c⟩ (.slice A j ca) (.slice Y na yc) hX h2
        have:=mright_any (.agg #[.slice D j cd,.slice (some ⟨wr.heap.size,0,none⟩) 1 1,.int .i64 0,.int .i64 0]) ⟨sing v,[⟨k,iot j,a,c⟩],0,0⟩ _ ⟨_,_,rfl,hD.since stD ks,hc⟩ ⟨by
            intro d hd
            simp only[sing,List.mem_map] at hd
            obtain⟨n,-,rfl⟩:=hd
            simp,by
            intro c0 hc0
            simp only[List.mem_singleton] at hc0
            subst hc0
            exact⟨by simp only[iot_len]; omega,ha⟩⟩
        rw[show iot j=iot v.length by rw[← HNV.out],mod_sing k v a c (by have:=HNV.out; omega)] at this
        exact this)
      have ka:=Lib.hid (sA wr (.cells #[.int .i64 k,.slice A j ca,.slice Y na yc,.int .i64 c] 25))
      clear hX hD h2 hvt
      go_wp2_with (go_at_call 71; (with_reducible refine MR.out.mono ?_); rintro e w9 ⟨rfl,k9⟩)
      go_ret
      exact⟨rfl,S1.out.trans (T.out.s.trans (ka.out.trans k9))⟩
end Go.Proofs.Ytakfabaocgbbmaa.Sn
