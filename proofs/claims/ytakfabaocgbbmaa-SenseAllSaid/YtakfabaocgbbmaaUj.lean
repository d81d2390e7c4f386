/- Layer 11 (sense): the landed allDiffer, load, neverAbove. -/
import Derived.Test.YtakfabaocgbbmaaUi
set_option maxHeartbeats 2000000
set_option maxRecDepth 20000
namespace Go.Proofs.Ytakfabaocgbbmaa.Sn
open Go.RowKit
set_option linter.unusedVariables false
set_option linter.unusedSimpArgs false
open Dig Lx Tk Ti Zs Tr
theorem allDiffer_any (u:Value) (k:Int) (x a:List Int) (c:Int) (v:List Int) (w:World) (h:PlAt w u k x a c v) (hl:v.length≤1100000) :
 Calls Try.prog 98 #[u] w (RetT (differ v) w):=by
 obtain⟨R,hR⟩:∃ R,R=differ v:=⟨_,rfl⟩
 obtain⟨f,hf⟩:∃ f:Nat→Bool,f=fun i => !(v.take i).contains (v.getD i 0):=⟨_,rfl⟩
 rw[← hR]
 obtain⟨X,xc,Y,yc,V,vc,rfl,h1,h2,h3⟩:=h
 obtain⟨na,hna⟩:∃ n,n=a.length:=⟨_,rfl⟩
 obtain⟨nv,hnv⟩:∃ n,n=v.length:=⟨_,rfl⟩
 rw[← hna] at h2
 rw[← hnv] at h3
 have HR:=Lib.hid (show allI nv f=R by rw[hR,hf,hnv]; rfl)
 have HF:=Lib.hid hf
 rw[← hnv] at hl ⊢
 rw[← hna]
 generalize x.length=nx at *
 have ka:=Lib.hid (sA w (.cells #[.int .i64 k,.slice X nx xc,.slice Y na yc,.int .i64 c,.slice V nv vc] 73))
 have BX:=Lib.hid (fun W (kk:Since (w.alloc (.cells #[.int .i64 k,.slice X nx xc,.slice Y na yc,.int .i64 c,.slice V nv vc] 73)) W)=>(Bx.fresh w #[.int .i64 k,.slice X nx xc,.slice Y na yc,.int .i64 c,.slice V nv vc] 73).since kk)
 have H2:=Lib.hid h2
 have H3:=Lib.hid h3
 have HNA:=Lib.hid hna
 have HNV:=Lib.hid hnv
 clear h1 h2 h3 hna hnv hR hf
 go_enter Try.func98,Try.ntmps98
 go_wp2
 go_loopw [8] (fun i wr=>∃ j:Nat,i = .int .i64 (j:Int)∧j≤nv∧Hid (∀ i,i<j→f i=true)∧Hid (Since (w.alloc (.cells #[.int .i64 k,.slice X nx xc,.slice Y na yc,.int .i64 c,.slice V nv vc] 73)) wr)) (fun i _=>nv - (intOf i).toNat)
 case atStart=>exact⟨0,rfl,Nat.zero_le _,Lib.hid (fun i h=>absurd h (Nat.not_lt_zero _)),Since.refl _⟩
 case round =>
  obtain⟨j,rfl,hj,HE,HW⟩:=hrel
  obtain⟨_,_,_,_,_⟩:=bx5 (BX.out _ HW.out)
  by_cases hjn:j<nv
  · have hjv:j<v.length:=by have:=HNV.out; omega
    have hs:=H3.out.since stI (ka.out.trans HW.out)
    have hvc:=hs.at_.2
    have ht:=slTakeI hs j (by omega)
    obtain⟨g,o,rfl,e0⟩:=elI hs hjv
    have hfj:f j = !(v.take j).contains v[j]:=by rw[HF.out]; simp[List.getD,hjv]
    have hlen:(v.take j).length≤1100000:=by rw[List.length_take]; omega
    have hjc:j≤vc:=by have:=HNV.out; omega
    generalize v[j]=y at *
    have CI:=Lib.hid (fun b (hb:(v.take j).contains y=b)=>by have:=containsI_any _ (v.take j) y wr ht hlen; rw[hb] at this; exact this)
    have FJ:=Lib.hid hfj
    clear hs ht hfj hlen hjv hvc
    cases hc:(v.take j).contains y with
    | true =>
     have HE:=Lib.hid (show false=R by rw[← HR.out,allI_no hjn (by rw[FJ.out,hc]; rfl)])
     have D:=Lib.hid (CI.out true hc)
     clear hc CI FJ
     go_wp2_with (go_at_call 95; (with_reducible refine D.out.mono ?_); rintro e w1 ⟨rfl,k1⟩)
     go_ret
     exact .of HE.out (ka.out.trans (HW.out.trans k1))
    | false =>
     have HN:=Lib.hid (show ∀ i,i<j+1→f i=true from fun i hi=>by
      rcases Nat.lt_or_ge i j with h | h
      · exact HE.out i h
      · obtain rfl:i=j:=by omega
        rw[FJ.out,hc]; rfl)
     have D:=Lib.hid (CI.out false hc)
     clear hc CI FJ
     go_wp2_with (go_at_call 95; (with_reducible refine D.out.mono ?_); rintro e w1 ⟨rfl,k1⟩)
     go_roundw
     case rel=>exact⟨j+1,by go_num,by omega,HN.out,HW.out.trans k1⟩
     case measure=>simp[intOf]; omega
  · obtain rfl:j=nv:=by omega
    have HE2:=Lib.hid (show true=R by rw[← HR.out]; exact (allI_iff.2 HE.out).symm)
    go_wp2
    go_ret
    exact .of HE2.out (ka.out.trans HW.out)
theorem tks_at {v a:List Int} {j:Nat} (hj:j<v.length) (ha:a.length=2*v.length):(tks v a).drop j=(v[j],a[j]'(by omega),a[v.length+j]'(by omega)) :: (tks v a).drop (j+1):=by
 have h:j<(tks v a).length:=by simp only[tks,List.length_zip,List.length_take,List.length_drop]; omega
 rw[List.drop_eq_getElem_cons h]
 congr 1
 simp[tks,List.getElem_zip]
theorem tks_len {v a:List Int} (ha:a.length=2*v.length):(tks v a).length=v.length:=by simp only[tks,List.length_zip,List.length_take,List.length_drop]; omega
theorem load_any (u:Value) (k:Int) (x a:List Int) (c:Int) (v:List Int) (t:Int) (w:World) (h:PlAt w u k x a c v) (hn:a.length=2*v.length) (hl:v.length≤1000) (ha:a.all within=true) (hv:v.all within=true) (ht:fits t) :
 Calls Try.prog 114 #[u,.int .i64 t] w (RetI (ld (tks v a) t) w):=by
 obtain⟨R,hR⟩:∃ R,R=ld (tks v a) t:=⟨_,rfl⟩
 rw[← hR]
 have HR:=Lib.hid hR.symm
 obtain⟨X,xc,Y,yc,V,vc,rfl,h1,h2,h3⟩:=h
 obtain⟨na,hna⟩:∃ n,n=a.length:=⟨_,rfl⟩
 obtain⟨nv,hnv⟩:∃ n,n=v.length:=⟨_,rfl⟩
 rw[← hna] at h2
 rw[← hnv] at h3
 rw[← hna] at hn ⊢
 rw[← hnv] at hn hl ⊢
 generalize x.length=nx at *
 have ka:=Lib.hid (sA w (.cells #[.int .i64 k,.slice X nx xc,.slice Y na yc,.int .i64 c,.slice V nv vc] 73))
 have BX:=Lib.hid (fun W (kk:Since (w.alloc (.cells #[.int .i64 k,.slice X nx xc,.slice Y na yc,.int .i64 c,.slice V nv vc] 73)) W)=>(Bx.fresh w #[.int .i64 k,.slice X nx xc,.slice Y na yc,.int .i64 c,.slice V nv vc] 73).since kk)
 have H2:=Lib.hid h2
 have H3:=Lib.hid h3
 have HNA:=Lib.hid hna
 have HNV:=Lib.hid hnv
 have HA:=Lib.hid (List.all_eq_true.1 ha)
 have HV:=Lib.hid (List.all_eq_true.1 hv)
 have HN2:=Lib.hid hn
 clear h1 h2 h3 hna hnv hR ha hv hn
 simp only[fits] at ht
 go_enter Try.func114,Try.ntmps114
 go_wp2
 go_loopw [5,11] (fun s i wr=>∃ (j:Nat) (z:Int),i = .int .i64 (j:Int)∧s = .int .i64 z∧j≤nv ∧ -1048576*(j:Int)≤z∧z≤1048576*(j:Int)∧Hid (z+ld ((tks v a).drop j) t=R)∧Hid (Since (w.alloc (.cells #[.int .i64 k,.slice X nx xc,.slice Y na yc,.int .i64 c,.slice V nv vc] 73)) wr)) (fun _ i _=>nv - (intOf i).toNat)
 case atStart=>exact⟨0,0,rfl,rfl,Nat.zero_le _,by omega,by omega,HR.out ▸ Int.zero_add _,Since.refl _⟩
 case round =>
  obtain⟨j,z,rfl,rfl,hj,hz1,hz2,HE,HW⟩:=hrel
  obtain⟨_,_,_,_,_⟩:=bx5 (BX.out _ HW.out)
  by_cases hjn:j<nv
  · have hjv:j<v.length:=by have:=HNV.out; omega
    have hla:a.length=2*v.length:=by have:=HNV.out; have:=HNA.out; have:=HN2.out; omega
    have hja:j<a.length:=by omega
    have hjb:nv+j<a.length:=by have:=HNV.out; omega
    have hs2:=H2.out.since stI (ka.out.trans HW.out)
    obtain⟨g',o',rfl,e1⟩:=elI (H3.out.since stI (ka.out.trans HW.out)) hjv
    obtain⟨g,o,hY,e0⟩:=elI hs2 hja
    obtain⟨g2,o2,hY2,e2⟩:=elI hs2 hjb
    subst hY
    simp only[Option.some.injEq,Addr.mk.injEq,and_true] at hY2
    obtain⟨rfl,rfl⟩:=hY2
    have hst:=HE.out
    rw[tks_at hjv hla,ld,ldE] at hst
    simp only at hst
    have ev:a[v.length+j]'(by omega)=a[nv+j]:=by have:=HNV.out; congr 1; omega
    rw[ev] at hst
    have hb0:=(within_iff' _).1 (HA.out _ (List.getElem_mem hja))
    have hb1:=(within_iff' _).1 (HV.out _ (List.getElem_mem hjv))
    have hb2:=(within_iff' _).1 (HA.out _ (List.getElem_mem hjb))
    clear ev
    generalize a[j]=d at *
    generalize a[nv+j]=r at *
    generalize v[j]=s at *
    have ST:=Lib.hid hst
    have hja2:j<na:=by have:=HN2.out; omega
    have hjb2:nv+j<na:=by have:=HN2.out; omega
    obtain⟨hb0,hb0'⟩:=hb0
    obtain⟨hb1,hb1'⟩:=hb1
    obtain⟨hb2,hb2'⟩:=hb2
    clear hst hja hjv hjb HE hla hs2
    by_cases c1:s≤t
    · by_cases c2:t<s+d
      · have HE:=Lib.hid (show z+r+ld ((tks v a).drop (j+1)) t=R by rw[← ST.out,if_pos ⟨c1,c2⟩]; omega)
        go_wp2
        go_roundw
        case rel=>exact⟨j+1,z+r,by go_num,by go_num,by omega,by omega,by omega,HE.out,HW.out⟩
        case measure=>simp[intOf]; omega
      · have HE:=Lib.hid (show z+ld ((tks v a).drop (j+1)) t=R by rw[← ST.out,if_neg (fun e=>c2 e.2)]; omega)
        go_wp2
        go_roundw
        case rel=>exact⟨j+1,z,by go_num,by go_num,by omega,by omega,by omega,HE.out,HW.out⟩
        case measure=>simp[intOf]; omega
    · have HE:=Lib.hid (show z+ld ((tks v a).drop (j+1)) t=R by rw[← ST.out,if_neg (fun e=>c1 e.1)]; omega)
      go_wp2
      go_roundw
      case rel=>exact⟨j+1,z,by go_num,by go_num,by omega,by omega,by omega,HE.out,HW.out⟩
      case measure=>simp[intOf]; omega
  · obtain rfl:j=nv:=by omega
    have HE2:=Lib.hid (show z=R by rw[← HE.out,List.drop_of_length_le (by rw[tks_len (by have:=HNA.out; have:=HNV.out; have:=HN2.out; omega)]; have:=HNV.out; omega)]; simp[ld])
    go_wp2
    go_ret
    exact RetI.of HE2.out (ka.out.trans HW.out)
theorem load_at {u:Value} {k:Int} {x a:List Int} {c:Int} {v:List Int} {w:World} (h:PlAt w u k x a c v) (hn:a.length=2*v.length) (hl:v.length≤1000) (ha:a.all within=true) (hv:v.all within=true) {t:Int} (ht:fits t) {L:Int} (hL:ld (tks v a) t=L) (W:World) (kk:Since w W) :
 Calls Try.prog 114 #[u,.int .i64 t] W (fun e w'=>e = .returned (.int .i64 L)∧Since W w'∧True):=by
 subst hL
 exact (load_any u k x a c v t W (h.since kk) hn hl ha hv ht).mono fun e w' h=>⟨h.1,h.2,trivial⟩
theorem neverAbove_any (u:Value) (k:Int) (x a:List Int) (c:Int) (v:List Int) (w:World) (h:PlAt w u k x a c v) (hn:a.length=2*v.length) (hl:v.length≤1000) (ha:a.all within=true) (hv:v.all within=true) :
 Calls Try.prog 99 #[u] w (RetT (never v a c) w):=by
 have LA:=Lib.hid (fun t ht L (e:ld (tks v a) t=L)=>load_at h hn hl ha hv (t:=t) ht e)
 obtain⟨R,hR⟩:∃ R,R=never v a c:=⟨_,rfl⟩
 obtain⟨f,hf⟩:∃ f:Nat→Bool,f=fun i=>decide (ld (tks v a) (v.getD i 0)≤c):=⟨_,rfl⟩
 rw[← hR]
 obtain⟨X,xc,Y,yc,V,vc,rfl,h1,h2,h3⟩:=h
 obtain⟨na,hna⟩:∃ n,n=a.length:=⟨_,rfl⟩
 obtain⟨nv,hnv⟩:∃ n,n=v.length:=⟨_,rfl⟩
 rw[← hna] at h2
 rw[← hnv] at h3
 have HR:=Lib.hid (show allI nv f=R by rw[hR,hf,hnv]; rfl)
 have HF:=Lib.hid hf
 have HV:=Lib.hid (List.all_eq_true.1 hv)
 rw[← hna,← hnv] at LA
 rw[← hnv] at hl ⊢
 rw[← hna]
 generalize x.length=nx at *
 have ka:=Lib.hid (sA w (.cells #[.int .i64 k,.slice X nx xc,.slice Y na yc,.int .i64 c,.slice V nv vc] 73))
 have BX:=Lib.hid (fun W (kk:Since (w.alloc (.cells #[.int .i64 k,.slice X nx xc,.slice Y na yc,.int .i64 c,.slice V nv vc] 73)) W)=>(Bx.fresh w #[.int .i64 k,.slice X nx xc,.slice Y na yc,.int .i64 c,.slice V nv vc] 73).since kk)
 have H2:=Lib.hid h2
 have H3:=Lib.hid h3
 have HNA:=Lib.hid hna
 have HNV:=Lib.hid hnv
 clear h1 h2 h3 hna hnv hR hf ha hv hn
 go_enter Try.func99,Try.ntmps99
 go_wp2
 go_loopw [8] (fun i wr=>∃ j:Nat,i = .int .i64 (j:Int)∧j≤nv∧Hid (∀ i,i<j→f i=true)∧Hid (Since (w.alloc (.cells #[.int .i64 k,.slice X nx xc,.slice Y na yc,.int .i64 c,.slice V nv vc] 73)) wr)) (fun i _=>nv - (intOf i).toNat)
 case atStart=>exact⟨0,rfl,Nat.zero_le _,Lib.hid (fun i h=>absurd h (Nat.not_lt_zero _)),Since.refl _⟩
 case round =>
  obtain⟨j,rfl,hj,HE,HW⟩:=hrel
  obtain⟨_,_,_,_,_⟩:=bx5 (BX.out _ HW.out)
  by_cases hjn:j<nv
  · have hjv:j<v.length:=by have:=HNV.out; omega
    obtain⟨g,o,rfl,e0⟩:=elI (H3.out.since stI (ka.out.trans HW.out)) hjv
    have hfj:f j=decide (ld (tks v a) v[j]≤c):=by rw[HF.out]; simp[List.getD,hjv]
    have hb:=(within_iff' _).1 (HV.out _ (List.getElem_mem hjv))
    generalize v[j]=y at *
    obtain⟨L,hL⟩:∃ L,ld (tks v a) y=L:=⟨_,rfl⟩
    have LB:=Lib.hid (LA.out y (by simp only[fits]; omega) L hL)
    rw[hL] at hfj
    have FJ:=Lib.hid hfj
    clear hfj hL hjv
    by_cases hc:L>c
    · have HE:=Lib.hid (show false=R by rw[← HR.out,allI_no hjn (by rw[FJ.out,decide_eq_false (by omega)])])
      clear FJ
      go_wp2
      have hr0:Since wr wr.drew:=Since.drew (Since.refl wr)
      refine wp_region_noPanic ?_
      refine Reg.wp_region_G (S:=fun _=>True) (fun j => [].contains j) (by kernel_rfl) trivial ?_
      refine' Reg.tk (i := 0) (oi := { dst := some 12, op := Op.load 73 (Operand.tmp 1), type := 73, pos := "kinds.go:108", after := #[], guard := none }) (v := _) [2, 6] [] (Or.inl ⟨by rfl, Or.inl ?hy2⟩) ?r_2
      case hy2=>(intro w' kk ss; obtain⟨x0,x1,x2,x3,x4⟩:=bx5 (BX.out _ (HW.out.trans (hr0.trans kk))); go_simp; first | done | with_reducible rfl)
      try simp only[Act.put,Reg.l1,Reg.l2,Reg.l3]
      refine' Reg.tk (i := 1) (oi := { dst := some 13, op := Op.move (Operand.tmp 4), type := 2, pos := "kinds.go:108", after := #[], guard := none }) (v := _) [2, 6] [] (Or.inl ⟨by rfl, Or.inl ?hy3⟩) ?r_3
      case hy3=>(intro w' kk ss; obtain⟨x0,x1,x2,x3,x4⟩:=bx5 (BX.out _ (HW.out.trans (hr0.trans kk))); go_simp; first | done | with_reducible rfl)
      try simp only[Act.put,Reg.l1,Reg.l2,Reg.l3]
      refine Reg.tk (i := 2) (oi := { dst := some 14, op := Op.call { callee := Callee.value (Operand.func 114), args := #[Operand.tmp 12, Operand.tmp 13], argTypes := #[73, 2] }, type := 2, pos := "kinds.go:108", after := #[{ on := 0, ground := Ground.data }, { on := 1, ground := Ground.data }], guard := none }) (v := .int .i64 L) [6] [] (Or.inl ⟨by rfl, Or.inr ⟨114, #[.agg #[.int .i64 k, .slice X nx xc, .slice Y na yc, .int .i64 c, .slice (some ⟨g, o, none⟩) nv vc], .int .i64 y], fun w' kk ss => ⟨?_, ?_⟩⟩⟩) ?_
      · (try dsimp only at ss); go_simp
      · exact LB.out w' (ka.out.trans (HW.out.trans (hr0.trans kk)))
      try simp only[Act.put,Reg.l1,Reg.l2,Reg.l3]
      refine' Reg.tk (i := 3) (oi := { dst := some 15, op := Op.fieldAddr 73 (Operand.tmp 1) 0, type := 0, pos := "kinds.go:108", after := #[], guard := none }) (v := _) [4, 5, 6] [] (Or.inl ⟨by rfl, Or.inl ?hy4⟩) ?r_4
      case hy4=>(intro w' kk ss; obtain⟨x0,x1,x2,x3,x4⟩:=bx5 (BX.out _ (HW.out.trans (hr0.trans kk))); go_simp; first | done | with_reducible rfl)
      try simp only[Act.put,Reg.l1,Reg.l2,Reg.l3]
      refine' Reg.tk (i := 4) (oi := { dst := some 16, op := Op.fieldAddr 25 (Operand.tmp 15) 3, type := 0, pos := "kinds.go:108", after := #[{ on := 3, ground := Ground.data }], guard := none }) (v := _) [5, 6] [] (Or.inl ⟨by rfl, Or.inl ?hy5⟩) ?r_5
      case hy5=>(intro w' kk ss; obtain⟨x0,x1,x2,x3,x4⟩:=bx5 (BX.out _ (HW.out.trans (hr0.trans kk))); go_simp; first | done | with_reducible rfl)
      try simp only[Act.put,Reg.l1,Reg.l2,Reg.l3]
      refine' Reg.tk (i := 5) (oi := { dst := some 17, op := Op.load 2 (Operand.tmp 16), type := 2, pos := "kinds.go:108", after := #[{ on := 4, ground := Ground.data }], guard := none }) (v := _) [6] [] (Or.inl ⟨by rfl, Or.inl ?hy6⟩) ?r_6
      case hy6=>(intro w' kk ss; obtain⟨x0,x1,x2,x3,x4⟩:=bx5 (BX.out _ (HW.out.trans (hr0.trans kk))); go_simp; first | done | with_reducible rfl)
      try simp only[Act.put,Reg.l1,Reg.l2,Reg.l3]
      refine' Reg.tk (i := 6) (oi := { dst := some 18, op := Op.binOp BinOp.gtr 2 (Operand.tmp 14) (Operand.tmp 17) 2, type := 4, pos := "kinds.go:108", after := #[{ on := 2, ground := Ground.data }, { on := 5, ground := Ground.data }], guard := none }) (v := _) [] [] (Or.inl ⟨by rfl, Or.inl ?hy7⟩) ?r_7
      case hy7=>(intro w' kk ss; obtain⟨x0,x1,x2,x3,x4⟩:=bx5 (BX.out _ (HW.out.trans (hr0.trans kk))); go_simp; first | done | with_reducible rfl)
      try simp only[Act.put,Reg.l1,Reg.l2,Reg.l3]
      refine Reg.wpG_done (by kernel_rfl) (fun we ke se => ?_) _
      refine NoPanic.normal ?_
      have hr0:=hr0.trans ke
      clear ke
      go_wp2
      go_ret
      exact .of HE.out (ka.out.trans (HW.out.trans hr0))
    · have HN:=Lib.hid (show ∀ i,i<j+1→f i=true from fun i hi=>by
       rcases Nat.lt_or_ge i j with h | h
       · exact HE.out i h
       · obtain rfl:i=j:=by omega
         rw[FJ.out,decide_eq_true (by omega)])
      have z1:decide (c<L)=false:=decide_eq_false hc
      clear FJ
      go_wp2
      have hr0:Since wr wr.drew:=Since.drew (Since.refl wr)
      refine wp_region_noPanic ?_
      refine Reg.wp_region_G (S:=fun _=>True) (fun j => [].contains j) (by kernel_rfl) trivial ?_
      refine' Reg.tk (i := 0) (oi := { dst := some 12, op := Op.load 73 (Operand.tmp 1), type := 73, pos := "kinds.go:108", after := #[], guard := none }) (v := _) [2, 6] [] (Or.inl ⟨by rfl, Or.inl ?hy9⟩) ?r_9
      case hy9=>(intro w' kk ss; obtain⟨x0,x1,x2,x3,x4⟩:=bx5 (BX.out _ (HW.out.trans (hr0.trans kk))); go_simp; first | done | with_reducible rfl)
      try simp only[Act.put,Reg.l1,Reg.l2,Reg.l3]
      refine' Reg.tk (i := 1) (oi := { dst := some 13, op := Op.move (Operand.tmp 4), type := 2, pos := "kinds.go:108", after := #[], guard := none }) (v := _) [2, 6] [] (Or.inl ⟨by rfl, Or.inl ?hy10⟩) ?r_10
      case hy10=>(intro w' kk ss; obtain⟨x0,x1,x2,x3,x4⟩:=bx5 (BX.out _ (HW.out.trans (hr0.trans kk))); go_simp; first | done | with_reducible rfl)
      try simp only[Act.put,Reg.l1,Reg.l2,Reg.l3]
      refine Reg.tk (i := 2) (oi := { dst := some 14, op := Op.call { callee := Callee.value (Operand.func 114), args := #[Operand.tmp 12, Operand.tmp 13], argTypes := #[73, 2] }, type := 2, pos := "kinds.go:108", after := #[{ on := 0, ground := Ground.data }, { on := 1, ground := Ground.data }], guard := none }) (v := .int .i64 L) [6] [] (Or.inl ⟨by rfl, Or.inr ⟨114, #[.agg #[.int .i64 k, .slice X nx xc, .slice Y na yc, .int .i64 c, .slice (some ⟨g, o, none⟩) nv vc], .int .i64 y], fun w' kk ss => ⟨?_, ?_⟩⟩⟩) ?_
      · (try dsimp only at ss); go_simp
      · exact LB.out w' (ka.out.trans (HW.out.trans (hr0.trans kk)))
      try simp only[Act.put,Reg.l1,Reg.l2,Reg.l3]
      refine' Reg.tk (i := 3) (oi := { dst := some 15, op := Op.fieldAddr 73 (Operand.tmp 1) 0, type := 0, pos := "kinds.go:108", after := #[], guard := none }) (v := _) [4, 5, 6] [] (Or.inl ⟨by rfl, Or.inl ?hy11⟩) ?r_11
      case hy11=>(intro w' kk ss; obtain⟨x0,x1,x2,x3,x4⟩:=bx5 (BX.out _ (HW.out.trans (hr0.trans kk))); go_simp; first | done | with_reducible rfl)
      try simp only[Act.put,Reg.l1,Reg.l2,Reg.l3]
      refine' Reg.tk (i := 4) (oi := { dst := some 16, op := Op.fieldAddr 25 (Operand.tmp 15) 3, type := 0, pos := "kinds.go:108", after := #[{ on := 3, ground := Ground.data }], guard := none }) (v := _) [5, 6] [] (Or.inl ⟨by rfl, Or.inl ?hy12⟩) ?r_12
      case hy12=>(intro w' kk ss; obtain⟨x0,x1,x2,x3,x4⟩:=bx5 (BX.out _ (HW.out.trans (hr0.trans kk))); go_simp; first | done | with_reducible rfl)
      try simp only[Act.put,Reg.l1,Reg.l2,Reg.l3]
      refine' Reg.tk (i := 5) (oi := { dst := some 17, op := Op.load 2 (Operand.tmp 16), type := 2, pos := "kinds.go:108", after := #[{ on := 4, ground := Ground.data }], guard := none }) (v := _) [6] [] (Or.inl ⟨by rfl, Or.inl ?hy13⟩) ?r_13
      case hy13=>(intro w' kk ss; obtain⟨x0,x1,x2,x3,x4⟩:=bx5 (BX.out _ (HW.out.trans (hr0.trans kk))); go_simp; first | done | with_reducible rfl)
      try simp only[Act.put,Reg.l1,Reg.l2,Reg.l3]
      refine' Reg.tk (i := 6) (oi := { dst := some 18, op := Op.binOp BinOp.gtr 2 (Operand.tmp 14) (Operand.tmp 17) 2, type := 4, pos := "kinds.go:108", after := #[{ on := 2, ground := Ground.data }, { on := 5, ground := Ground.data }], guard := none }) (v := _) [] [] (Or.inl ⟨by rfl, Or.inl ?hy14⟩) ?r_14
      case hy14=>(intro w' kk ss; obtain⟨x0,x1,x2,x3,x4⟩:=bx5 (BX.out _ (HW.out.trans (hr0.trans kk))); go_simp; first | done | with_reducible rfl)
      try simp only[Act.put,Reg.l1,Reg.l2,Reg.l3]
      refine Reg.wpG_done (by kernel_rfl) (fun we ke se => ?_) _
      refine NoPanic.normal ?_
      have hr0:=hr0.trans ke
      clear ke
      go_wp2
      go_roundw
      case rel=>exact⟨j+1,by go_num,by omega,HN.out,HW.out.trans hr0⟩
      case measure=>simp[intOf]; omega
  · obtain rfl:j=nv:=by omega
    have HE2:=Lib.hid (show true=R by rw[← HR.out]; exact (allI_iff.2 HE.out).symm)
    go_wp2
    go_ret
    exact .of HE2.out (ka.out.trans HW.out)
end Go.Proofs.Ytakfabaocgbbmaa.Sn
