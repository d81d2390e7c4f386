/- Layer 11 (sense): the landed place. -/
import Derived.Test.YtakfabaocgbbmaaUk
set_option maxHeartbeats 4000000
set_option maxRecDepth 20000
namespace Go.Proofs.Ytakfabaocgbbmaa.Sn
open Go.RowKit
set_option linter.unusedVariables false
set_option linter.unusedSimpArgs false
open Dig Lx Tk Ti Zs Tr
theorem wp_appW {P:Program} {α:Type} {Q:α→List Value→Prop} {w1 w:World} {t e:TypeId} (K1:Kind1 P t e) {v:Value} {xs:List α} (H:Rq e Q w1 w v xs) (hl:xs.length≤1000000) (x:α) (y:Value) (hQ:Q x [y]) (h1:y.oneCell'=true) (g d:Nat) (hb:w.cell? ⟨g,0,none⟩=some y)
 {o:Oper} {a:Act} {K:Act→World→Prop} {R:Exit→Act→World→Prop} (s z:Operand)
 (ho:o.op = .call { callee:=.builtin .append,args:=#[s,z],argTypes:=#[t,t] }) (hs:a.eval s=v) (hx:a.eval z = .slice (some ⟨g,0,none⟩) 1 d)
 (h:∀ A c w',Rq e Q w1 w' (.slice A (xs.length+1) c) (xs ++ [x])→Wide v (.slice A (xs.length+1) c) w w'→K (a.put o.dst (.slice A (xs.length+1) c)) w'):o.wp P a w K R:=by
 obtain⟨i,zv,bytes,hi,hz0,hz1,hz2,hz3,hz4⟩:=K1.inf
 obtain⟨cs,hown,hrows,hsi⟩:=H
 have hsz:=hsi.size
 have hmul:(xs.length+1)*bytes≤(xs.length+1)*24:=Nat.mul_le_mul_left _ hz3
 refine wp_append_at w s z t ho w1.heap.size e i zv 1 bytes K1.ht hi hz0 hz1 hz2 hz4 (by decide) v xs.length cs hs hown ⟨g,0,none⟩ 1 d [y] hx rfl ?_ ?_ ?_ ?_ hsz fun v' w' h2 h3 h4 => ?_
 · intro j u hj
   rw[add_at,Nat.zero_add]
   match j,hj with
   | 0,hj=>cases hj; exact hb
   | j+1,hj=>simp at hj
 · intro u hu; simp at hu; subst hu; exact h1
 · unfold maxLen; omega
 · omega
 · obtain⟨A,c',rfl⟩:=owns_slice h2
   refine h A c' w' ⟨cs ++ [y],?_,hrows.snoc hQ rfl,?_⟩ ⟨h3,h4⟩
   · rw[List.length_append]; exact h2
   · exact Below.grown hsi h3 hsz (fun g hg=>(hown.lt g hg).1)
theorem Wide.not {v v':Value} {w w':World} (k:Wide v v' w w') {b:Nat} (hb:b<w.heap.size) (h:v.ownBlock≠some b):v'.ownBlock≠some b:=by
 rcases k.2 with e | e
 · rw[e]; exact h
 · rw[e]; intro e2; injection e2 with e2; omega
theorem bx5' {W:World} {g:Nat} {z0 z1 z2 z3 z4:Value} {t:TypeId} (h:Bx W g #[z0,z1,z2,z3,z4] t):W.frozen? ⟨g,0,none⟩=false∧W.frozen? ⟨g,1,none⟩=false∧W.frozen? ⟨g,2,none⟩=false∧W.frozen? ⟨g,3,none⟩=false∧W.frozen? ⟨g,4,none⟩=false:=⟨h.no 0,h.no 1,h.no 2,h.no 3,h.no 4⟩
abbrev put5 (W:World) (b:Nat) (u0 u1 u2 u3 u4:Value):World:=((((W.setCell ⟨b,0,none⟩ u0).setCell ⟨b,1,none⟩ u1).setCell ⟨b,2,none⟩ u2).setCell ⟨b,3,none⟩ u3).setCell ⟨b,4,none⟩ u4
theorem since_put5 {w W:World} {b:Nat} (h:Since w W) (hb:w.heap.size≤b) (u0 u1 u2 u3 u4:Value):Since w (put5 W b u0 u1 u2 u3 u4):=((((h.set hb _).set hb _).set hb _).set hb _).set hb _
theorem rq_sl5 {α:Type} {e:TypeId} {Q:α→List Value→Prop} {w1 w:World} {v:Value} {xs:List α} (h:Rq e Q w1 w v xs) {b:Nat} (hb:b<w1.heap.size) (u0 u1 u2 u3 u4:Value):Sl 1 (fun _=>Q) (put5 w b u0 u1 u2 u3 u4) v xs:=by
 obtain⟨cs,k1,k2,k3⟩:=h
 exact Sl.own (ownsRow_setCell_below (ownsRow_setCell_below (ownsRow_setCell_below (ownsRow_setCell_below (ownsRow_setCell_below k1 hb u0) hb u1) hb u2) hb u3) hb u4) k2 rfl
theorem plMk {w:World} {k c:Int} {X Y V:Option Addr} {nx xc na yc nv vc:Nat} {x a v:List Int} (h1:Sl 1 QI w (.slice X nx xc) x) (h2:Sl 1 QI w (.slice Y na yc) a) (h3:Sl 1 QI w (.slice V nv vc) v):PlAt w (.agg #[.int .i64 k,.slice X nx xc,.slice Y na yc,.int .i64 c,.slice V nv vc]) k x a c v:=by
 obtain rfl:=h1.at_.1
 obtain rfl:=h2.at_.1
 obtain rfl:=h3.at_.1
 exact⟨X,xc,Y,yc,V,vc,rfl,h1,h2,h3⟩
def RetPl (R:Bool) (c:Cn) (vs:List Int) (w:World) (e:Ending) (w':World):Prop:=
 if R=true then ∃ u,e = .returned (.tuple #[u,.bool true])∧PlAt w' u c.k c.x c.a c.c vs∧Since w w'
 else e = .returned (.tuple #[.agg #[.int .i64 0,.slice none 0 0,.slice none 0 0,.int .i64 0,.slice none 0 0],.bool false])∧Since w w'
theorem RetPl.no {R:Bool} {c:Cn} {vs:List Int} {w w':World} (h:false=R) (k:Since w w'):RetPl R c vs w (.returned (.tuple #[.agg #[.int .i64 0,.slice none 0 0,.slice none 0 0,.int .i64 0,.slice none 0 0],.bool false])) w':=by
 subst h; exact⟨rfl,k⟩
theorem vals_snoc {x:List Int} {j:Nat} (h:j<x.length) (a:List Int):vals (x.take j) a ++ [valAt a x[j]]=vals (x.take (j+1)) a:=by
 rw[List.take_succ_eq_append_getElem h,vals,vals,List.map_append]; rfl
theorem vals_take_len {x:List Int} {j:Nat} (h:j≤x.length) (a:List Int):(vals (x.take j) a).length=j:=by rw[vals_len,List.length_take]; omega
theorem place_any (v va:Value) (c:Cn) (a:List Int) (w:World) (h:ConAt w v c) (ha:Sl 1 QI w va a) (hca:c.a.length≤1100000) (hla:a.length≤1100000) :
 Calls Try.prog 58 #[v,va] w (RetPl (asked c a) c (vals c.x a) w):=by
 obtain⟨vx,vy,rfl,h1,h2⟩:=h
 obtain⟨ck,cx,ca,cc⟩:=c
 simp only at h1 h2 hca ⊢
 obtain⟨X,xc,rfl⟩:=h1.form
 obtain⟨Y,yc,rfl⟩:=h2.form
 obtain⟨A,ac,rfl⟩:=ha.form
 obtain⟨nx,hnx⟩:∃ n,n=cx.length:=⟨_,rfl⟩
 obtain⟨na,hna⟩:∃ n,n=ca.length:=⟨_,rfl⟩
 obtain⟨nl,hnl⟩:∃ n,n=a.length:=⟨_,rfl⟩
 obtain⟨R,hR⟩:∃ R,R=asked ⟨ck,cx,ca,cc⟩ a:=⟨_,rfl⟩
 have HR:=Lib.hid (show (cx.all (isV nl) && askV ck (vals cx a) ca cc)=R by rw[hR,hnl]; rfl)
 rw[← hR]
 rw[← hnx] at h1 ⊢
 rw[← hna] at h2 hca ⊢
 rw[← hnl] at ha hla ⊢
 have H1:=Lib.hid h1
 have H2:=Lib.hid h2
 have H3:=Lib.hid ha
 have HNX:=Lib.hid hnx
 have HNA:=Lib.hid hna
 have HNL:=Lib.hid hnl
 clear h1 h2 ha hnx hna hnl hR
 by_cases c32:nx≤32
 case neg =>
  have E:=Lib.hid (show false=R by
   rw[← HR.out,askV,numOk,vals_len,← HNX.out,decide_eq_false c32]; simp)
  go_enter Try.func58,Try.ntmps58
  go_wp2
  refine bodyPost_ret (v:=.tuple #[.agg #[.int .i64 0,.slice none 0 0,.slice none 0 0,.int .i64 0,.slice none 0 0],.bool false]) ?_ rfl (.no E.out ?_)
  · simp[results,Try.results58,go_sem]
  · exact (sA _ _).trans (sA _ _)
 obtain⟨w1,hw1⟩:∃ w1,w1=((w.alloc (.cells #[.int .i64 ck,.slice X nx xc,.slice Y na yc,.int .i64 cc] 25)).alloc (.cells #[.int .i64 0,.slice none 0 0,.slice none 0 0,.int .i64 0,.slice none 0 0] 73)):=⟨_,rfl⟩
 obtain⟨w0,hw0⟩:∃ w0,w0=w1.alloc (.cells #[.int .i64 ck,.slice X nx xc,.slice Y na yc,.int .i64 cc,.slice none 0 0] 73):=⟨_,rfl⟩
 have S1:=Lib.hid (show Since w w1 by rw[hw1]; exact (sA _ _).trans (sA _ _))
 have B1:=Lib.hid (show Bx w1 w.heap.size #[.int .i64 ck,.slice X nx xc,.slice Y na yc,.int .i64 cc] 25 by rw[hw1]; exact (Bx.fresh _ _ _).since (sA _ _))
 have BZ:=Lib.hid (show Bx w1 (w.heap.size+1) #[.int .i64 0,.slice none 0 0,.slice none 0 0,.int .i64 0,.slice none 0 0] 73 by rw[hw1]; exact Bx.new (Since.refl _) (by simp))
 have Z1:=Lib.hid (show w1.heap.size=w.heap.size+1+1 by rw[hw1]; simp)
 have S0:=Lib.hid (show Since w1 w0 by rw[hw0]; exact sA _ _)
 have B0:=Lib.hid (show Bx w0 (w.heap.size+1+1) #[.int .i64 ck,.slice X nx xc,.slice Y na yc,.int .i64 cc,.slice none 0 0] 73 by rw[hw0,← Z1.out]; exact Bx.fresh _ _ _)
 have Z0:=Lib.hid (show w0.heap.size=w.heap.size+3 by rw[hw0]; simp[Z1.out])
 go_enter Try.func58,Try.ntmps58
 go_wp2
 rw[← hw1,← hw0]
 clear hw0 hw1
 go_loopw [19] (fun i wr=>∃ (j:Nat) (V:Option Addr) (vc:Nat),i = .int .i64 (j:Int)∧j≤nx∧Hid (Rq 2 QI0 w1 wr (.slice V j vc) (vals (cx.take j) a))∧Hid ((Value.slice V j vc).ownBlock≠some (w.heap.size+1+1)∧w.heap.size+1+1<wr.heap.size)∧Hid (Bx wr (w.heap.size+1+1) #[.int .i64 ck,.slice X nx xc,.slice Y na yc,.int .i64 cc,.slice V j vc] 73)∧Hid ((cx.drop j).all (isV nl)=cx.all (isV nl))) (fun i _=>nx - (intOf i).toNat)
 case atStart=>exact⟨0,none,0,rfl,Nat.zero_le _,Rq.nil _ _ S0.out,⟨by simp[Value.ownBlock],by rw[Z0.out]; omega⟩,B0.out,rfl⟩
 case round =>
  obtain⟨j,V,vc,rfl,hj,HQ,HO,HB,HE⟩:=hrel
  obtain⟨_,_,_,_⟩:=bx4 (B1.out.since HQ.out.s)
  obtain⟨b0,b1,b2,b3,b4⟩:=bx5 HB.out
  obtain⟨z0,z1,z2,z3,z4⟩:=bx5 (BZ.out.since HQ.out.s)
  obtain⟨y0,y1,y2,y3,y4⟩:=bx5' (BZ.out.since HQ.out.s)
  by_cases hjn:j<nx
  · have hjl:j<cx.length:=by have:=HNX.out; omega
    obtain⟨g,o,rfl,e0⟩:=elI (H1.out.since stI (S1.out.trans HQ.out.s)) hjl
    have hst:=HE.out
    rw[dropI hjl,List.all_cons] at hst
    have hsn:=vals_snoc hjl a
    generalize cx[j]=y at *
    have ST:=Lib.hid hst
    have SN:=Lib.hid hsn
    clear hst hsn hjl
    cases hy:isV nl y with
    | false =>
     have E:=Lib.hid (show false=R by rw[← HR.out,← ST.out,hy]; rfl)
     by_cases y0':y<0
     · go_wp2
       refine bodyPost_ret (v:=.tuple #[.agg #[.int .i64 0,.slice none 0 0,.slice none 0 0,.int .i64 0,.slice none 0 0],.bool false]) ?_ rfl (.no E.out ?_)
       · simp[results,Try.results58,go_sem,z0,z1,z2,z3,z4]
       · exact since_put5 (S1.out.trans HQ.out.s) (Nat.le_succ _) _ _ _ _ _
     · have yn:y ≥ (nl:Int):=by simp only[isV,Bool.and_eq_false_iff,decide_eq_false_iff_not] at hy; omega
       go_wp2
       refine bodyPost_ret (v:=.tuple #[.agg #[.int .i64 0,.slice none 0 0,.slice none 0 0,.int .i64 0,.slice none 0 0],.bool false]) ?_ rfl (.no E.out ?_)
       · simp[results,Try.results58,go_sem,z0,z1,z2,z3,z4]
       · exact since_put5 (S1.out.trans HQ.out.s) (Nat.le_succ _) _ _ _ _ _
    | true =>
     have HE2:=Lib.hid (show (cx.drop (j+1)).all (isV nl)=cx.all (isV nl) by rw[← ST.out,hy,Bool.true_and])
     obtain⟨q,rfl,hq⟩:=isV_nat hy
     have hql:q<a.length:=by have:=HNL.out; omega
     obtain⟨g2,o2,rfl,e2⟩:=elI (H3.out.since stI (S1.out.trans HQ.out.s)) hql
     have hva:valAt a (q:Int)=a[q]:=by simp[valAt,hql]
     rw[hva] at SN
     generalize a[q]=m at *
     have HC:=Lib.hid (fun W (kk:Since wr W)=>(kk.cell _ (World.block_lt_of_cell? _ _ e2)).trans e2)
     have HBB:=Lib.hid (fun W (kk:Since wr W)=>HB.out.since kk)
     have hlx:(vals (cx.take j) a).length≤1000000:=by rw[vals_take_len (by have:=HNX.out; omega)]; omega
     have HVL:=Lib.hid (vals_take_len (x:=cx) (j:=j) (by have:=HNX.out; omega) a)
     clear hy hql hva ST
     go_wp2
     have hr0:Since wr wr.drew:=Since.drew (Since.refl wr)
     refine wp_region_noPanic ?_
     refine Reg.wp_region_G (S:=fun _=>True) (fun j => [7,8,9].contains j) (by kernel_rfl) trivial ?_
     refine' Reg.tk (i := 0) (oi := { dst := some 32, op := Op.fieldAddr 73 (Operand.tmp 6) 1, type := 0, pos := "place.go:25", after := #[], guard := none }) (v := _) [1, 7, 8, 9] [7, 8, 9] (Or.inl ⟨by rfl, Or.inl ?hy1⟩) ?r_1
     case hy1=>(intro w' kk ss; obtain⟨x0,x1,x2,x3,x4⟩:=bx5 (HBB.out _ (hr0.trans kk)); have u0:=HC.out _ (hr0.trans kk); go_simp; first | done | with_reducible rfl)
     try simp only[Act.put,Reg.l1,Reg.l2,Reg.l3]
     refine' Reg.tk (i := 1) (oi := { dst := some 33, op := Op.load 23 (Operand.tmp 32), type := 23, pos := "place.go:25", after := #[{ on := 0, ground := Ground.data }], guard := none }) (v := _) [7, 8, 9] [7, 8, 9] (Or.inl ⟨by rfl, Or.inl ?hy2⟩) ?r_2
     case hy2=>(intro w' kk ss; obtain⟨x0,x1,x2,x3,x4⟩:=bx5 (HBB.out _ (hr0.trans kk)); have u0:=HC.out _ (hr0.trans kk); go_simp; first | done | with_reducible rfl)
     try simp only[Act.put,Reg.l1,Reg.l2,Reg.l3]
     refine' Reg.tk (i := 2) (oi := { dst := some 34, op := Op.move (Operand.tmp 1), type := 23, pos := "place.go:25", after := #[], guard := none }) (v := _) [4, 5, 6, 7, 8, 9] [7, 8, 9] (Or.inl ⟨by rfl, Or.inl ?hy3⟩) ?r_3
     case hy3=>(intro w' kk ss; obtain⟨x0,x1,x2,x3,x4⟩:=bx5 (HBB.out _ (hr0.trans kk)); have u0:=HC.out _ (hr0.trans kk); go_simp; first | done | with_reducible rfl)
     try simp only[Act.put,Reg.l1,Reg.l2,Reg.l3]
     refine' Reg.tk (i := 3) (oi := { dst := some 35, op := Op.move (Operand.tmp 8), type := 3, pos := "place.go:25", after := #[], guard := none }) (v := _) [4, 5, 6, 7, 8, 9] [7, 8, 9] (Or.inl ⟨by rfl, Or.inl ?hy4⟩) ?r_4
     case hy4=>(intro w' kk ss; obtain⟨x0,x1,x2,x3,x4⟩:=bx5 (HBB.out _ (hr0.trans kk)); have u0:=HC.out _ (hr0.trans kk); go_simp; first | done | with_reducible rfl)
     try simp only[Act.put,Reg.l1,Reg.l2,Reg.l3]
     refine' Reg.tk (i := 4) (oi := { dst := some 36, op := Op.indexAddr 23 (Operand.tmp 34) (Operand.tmp 35), type := 0, pos := "place.go:25", after := #[{ on := 2, ground := Ground.data }, { on := 3, ground := Ground.data }], guard := none }) (v := _) [5, 6, 7, 8, 9] [7, 8, 9] (Or.inl ⟨by rfl, Or.inl ?hy5⟩) ?r_5
     case hy5=>(intro w' kk ss; obtain⟨x0,x1,x2,x3,x4⟩:=bx5 (HBB.out _ (hr0.trans kk)); have u0:=HC.out _ (hr0.trans kk); go_simp; first | done | with_reducible rfl)
     try simp only[Act.put,Reg.l1,Reg.l2,Reg.l3]
     refine' Reg.tk (i := 5) (oi := { dst := some 37, op := Op.load 2 (Operand.tmp 36), type := 2, pos := "place.go:25", after := #[{ on := 4, ground := Ground.data }], guard := none }) (v := _) [6, 7, 8, 9] [7, 8, 9] (Or.inl ⟨by rfl, Or.inl ?hy6⟩) ?r_6
     case hy6=>(intro w' kk ss; obtain⟨x0,x1,x2,x3,x4⟩:=bx5 (HBB.out _ (hr0.trans kk)); have u0:=HC.out _ (hr0.trans kk); go_simp; first | done | with_reducible rfl)
     try simp only[Act.put,Reg.l1,Reg.l2,Reg.l3]
     refine Reg.wpG_ready (rs:=[6]) (by kernel_rfl) (by simp) (fun wa1 ka1 sa1 => ?_)
     have hr0:=hr0.trans ka1
     have hgb1:=hr0.size
     refine Reg.AllG.first (o:=⟨some 38,.buildSlice 23 1 #[(0,.tmp 37)],23,"place.go:25",#[⟨5,.data⟩],none⟩) rfl (by rfl) (fun K hK=>?_) Reg.AllG.nil
     go_simp
     have hx:=sA wa1 (.cells #[.int .i64 m] 2)
     refine hK.out _ _ trivial hx ?_
     clear hK K
     have hr0:=hr0.trans hx
     have HG:=Lib.hid (fun W (k:Since _ W)=>(Bx.fresh wa1 #[.int .i64 m] 2).since k)
     clear hx
     try simp only[Act.put,Reg.l1,Reg.l2,Reg.l3]
     refine Reg.wpG_ready (rs:=[7]) (by kernel_rfl) (by simp) (fun wq kq sq => ?_)
     have hr0:=hr0.trans kq
     refine Reg.AllG.last (o := { dst := some 39, op := Op.call { callee := Callee.builtin Builtin.append, args := #[Operand.tmp 33, Operand.tmp 38], argTypes := #[23, 23] }, type := 23, pos := "place.go:25", after := #[{ on := 1, ground := Ground.data }, { on := 6, ground := Ground.data }], guard := none }) rfl (by rfl) (fun K hK => ?_) Reg.AllG.nil
     rw[if_pos (by rfl)]
     refine wp_appW nL (HQ.out.since hr0) hlx m (.int .i64 m) rfl rfl wa1.heap.size 1 ((HG.out _ kq).cell 0) _ _ rfl rfl rfl ?_
     rw[HVL.out]
     intro A3 c3 w3 h3 q3
     have bb:=bx_grown q3.1 (HBB.out _ hr0) HO.out.1
     obtain⟨_,_,_,_,_⟩:=bx5 bb
     obtain⟨_,_,g2,_,_⟩:=bx5' bb
     have O3:=Lib.hid (Wide.not q3 (Nat.lt_of_lt_of_le HO.out.2 hr0.size) HO.out.1)
     have L3:=Lib.hid (Nat.lt_of_lt_of_le HO.out.2 (Nat.le_trans hr0.size (Wide.size q3)))
     have B3:=Lib.hid bb
     have R3:=Lib.hid h3
     clear bb h3 q3
     refine hK.out _ _ trivial (fun hHeld => ?_)
     clear hK K
     try simp only[Act.put,Reg.l1,Reg.l2,Reg.l3]
     refine' wpAnyH_take (i := 8) (oi := { dst := some 40, op := Op.fieldAddr 73 (Operand.tmp 6) 1, type := 0, pos := "place.go:25", after := #[{ on := 0, ground := Ground.phase }, { on := 1, ground := Ground.phase }, { on := 2, ground := Ground.phase }, { on := 3, ground := Ground.phase }, { on := 4, ground := Ground.phase }, { on := 5, ground := Ground.phase }, { on := 6, ground := Ground.phase }, { on := 7, ground := Ground.phase }], guard := none }) (v := _) rfl (by kernel_rfl) (by kernel_rfl) (by kernel_rfl) (fun _ _ _ h => h) (Or.inl ⟨by rfl, ?hy7⟩) (by assumption) ?r_7
     case hy7=>(intro w' ss; (try dsimp only at ss); go_simp; first | done | with_reducible rfl)
     try simp only[Act.put,Reg.l1,Reg.l2,Reg.l3]
     refine wpAnyH_ready (rs:=[9]) (by kernel_rfl) (by simp) ?_
     refine AllReadyH.cons rfl (fun K hK => ?_) AllReadyH.nil
     go_simp
     refine hK.out _ _ trivial (fun hHeld => ?_)
     clear hK K
     try simp only[Act.put,Reg.l1,Reg.l2,Reg.l3]
     refine wpAnyH_done (by kernel_rfl) ?_ _
     refine NoPanic.normal ?_
     go_wp2
     go_roundw
     case rel =>
      refine⟨j+1,A3,c3,by go_num,by omega,?_,⟨O3.out,by simpa [World.setCell] using L3.out⟩,Lib.hid (bxset B3.out 4 (.slice A3 (j+1) c3) rfl),HE2⟩
      rw[← SN.out]
      exact Lib.hid (rqStore R3.out (by have:=Z1.out; omega) O3.out _)
     case measure=>simp[intOf]; omega
  · obtain rfl:j=nx:=by omega
    have hjx:cx.take j=cx:=List.take_of_length_le (by have:=HNX.out; omega)
    have hall:true=cx.all (isV nl):=by rw[← HE.out,List.drop_of_length_le (by have:=HNX.out; omega)]; rfl
    have HQ2:=HQ.out
    rw[hjx] at HQ2
    have PA:=Lib.hid (plMk (k:=ck) (c:=cc) (H1.out.since stI (S1.out.trans HQ.out.s)) (H2.out.since stI (S1.out.trans HQ.out.s)) (show Sl 1 QI wr (.slice V j vc) (vals cx a) from HQ2.sl))
    have PR:=Lib.hid (fun b (hb:askV ck (vals cx a) ca cc=b)=>by have:=pright_any _ ck cx ca cc (vals cx a) wr PA.out (by rw[vals_len]; have:=HNX.out; omega) (by have:=HNA.out; omega); rw[hb] at this; exact this)
    have HR2:=Lib.hid (show askV ck (vals cx a) ca cc=R by rw[← HR.out,← hall,Bool.true_and])
    have QR:=Lib.hid HQ2
    clear hjx hall HQ2 HE HR
    cases hk:askV ck (vals cx a) ca cc with
    | false =>
     have E:=Lib.hid (show false=R by rw[← HR2.out,hk])
     have D:=Lib.hid (PR.out false hk)
     clear hk PR HR2
     go_wp2_with (go_at_call 92; (with_reducible refine D.out.mono ?_); rintro e w9 ⟨rfl,k9⟩; have K9:=Lib.hid k9; have HZ:=Lib.hid (BZ.out.since (HQ.out.s.trans k9)); obtain⟨z0,z1,z2,z3,z4⟩:=bx5 HZ.out; obtain⟨y0,y1,y2,y3,y4⟩:=bx5' HZ.out)
     refine bodyPost_ret (v:=.tuple #[.agg #[.int .i64 0,.slice none 0 0,.slice none 0 0,.int .i64 0,.slice none 0 0],.bool false]) ?_ rfl (.no E.out ?_)
     · simp[results,Try.results58,go_sem,z0,z1,z2,z3,z4]
     · exact since_put5 (S1.out.trans (HQ.out.s.trans K9.out)) (Nat.le_succ _) _ _ _ _ _
    | true =>
     have E:=Lib.hid (show true=R by rw[← HR2.out,hk])
     have D:=Lib.hid (PR.out true hk)
     clear hk PR HR2
     go_wp2_with (go_at_call 92; (with_reducible refine D.out.mono ?_); rintro e w9 ⟨rfl,k9⟩; have K9:=Lib.hid k9; have HZ:=Lib.hid (BZ.out.since (HQ.out.s.trans k9)); have HP:=Lib.hid (HB.out.since k9); obtain⟨z0,z1,z2,z3,z4⟩:=bx5 HZ.out; obtain⟨y0,y1,y2,y3,y4⟩:=bx5' HZ.out; obtain⟨b0,b1,b2,b3,b4⟩:=bx5 HP.out)
     refine bodyPost_ret (v:=.tuple #[.agg #[.int .i64 ck,.slice X j xc,.slice Y na yc,.int .i64 cc,.slice V j vc],.bool true]) ?_ rfl ?_
     · simp[results,Try.results58,go_sem,z0,z1,z2,z3,z4]
     · rw[← E.out]
       refine⟨_,rfl,?_,since_put5 (S1.out.trans (HQ.out.s.trans K9.out)) (Nat.le_succ _) _ _ _ _ _⟩
       have S5:=since_put5 (S1.out.trans (HQ.out.s.trans K9.out)) (b:=w.heap.size+1) (Nat.le_succ _) (.int .i64 ck) (.slice X j xc) (.slice Y na yc) (.int .i64 cc) (.slice V j vc)
       exact plMk (H1.out.since stI S5) (H2.out.since stI S5) (rq_sl5 (QR.out.since K9.out) (by have:=Z1.out; omega) _ _ _ _ _)
end Go.Proofs.Ytakfabaocgbbmaa.Sn
