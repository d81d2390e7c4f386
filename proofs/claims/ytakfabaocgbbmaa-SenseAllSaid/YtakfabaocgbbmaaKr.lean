/- Layer 11 (sense): the document's own sum, load, tasks. -/
import Derived.Test.YtakfabaocgbbmaaKq
import Derived.Test.YtakfabaocgbbmaaUj
set_option maxHeartbeats 3000000
set_option maxRecDepth 20000
namespace Go.Proofs.Ytakfabaocgbbmaa.Sn
open Go.RowKit
set_option linter.unusedVariables false
set_option linter.unusedSimpArgs false
open Dig Lx Tk Ti Zs Tr
theorem mul_abs {d s:Int} (h : -1048576≤d∧d≤1048576) (k : -1048576≤s∧s≤1048576):(d*s).natAbs≤1099511627776:=by
 rw[Int.natAbs_mul]
 exact Nat.le_trans (Nat.mul_le_mul (show d.natAbs≤1048576 by omega) (show s.natAbs≤1048576 by omega)) (by decide)
theorem mul_lo {d s:Int} (h : -1048576≤d∧d≤1048576) (k : -1048576≤s∧s≤1048576) : -1099511627776≤d*s:=by have:=mul_abs h k; omega
theorem mul_hi {d s:Int} (h : -1048576≤d∧d≤1048576) (k : -1048576≤s∧s≤1048576):d*s≤1099511627776:=by have:=mul_abs h k; omega
theorem rsum_any (v vv:Value) (c:Cn) (l:List Int) (w:World) (h:ConAt w v c) (hv:Sl 1 QI w vv l) (hn:c.a.length≤l.length) (hl:c.a.length≤1000) (hwa:c.a.all within=true) (hwv:l.all within=true) :
 Calls Try.prog 63 #[v,vv] w (RetI (sm c.a l) w):=by
 obtain⟨vx,vy,rfl,h1,h2⟩:=h
 obtain⟨ck,cx,ca,cc⟩:=c
 simp only at *
 obtain⟨X,xc,rfl⟩:=h1.form
 obtain⟨Y,yc,rfl⟩:=h2.form
 obtain⟨V,vc,rfl⟩:=hv.form
 obtain⟨R,hR⟩:∃ R,R=sm ca l:=⟨_,rfl⟩
 rw[← hR]
 have HR:=Lib.hid (show smF (ca.zip l)=R from hR.symm)
 obtain⟨na,hna⟩:∃ n,n=ca.length:=⟨_,rfl⟩
 obtain⟨nv,hnv⟩:∃ n,n=l.length:=⟨_,rfl⟩
 generalize cx.length=nx at *
 rw[← hna] at h2 hn hl ⊢
 rw[← hnv] at hv hn ⊢
 have H2:=Lib.hid h2
 have H3:=Lib.hid hv
 have HNA:=Lib.hid hna
 have HNV:=Lib.hid hnv
 have HA:=Lib.hid (List.all_eq_true.1 hwa)
 have HV:=Lib.hid (List.all_eq_true.1 hwv)
 have HN2:=Lib.hid hn
 have ka:=Lib.hid (sA w (.cells #[.int .i64 ck,.slice X nx xc,.slice Y na yc,.int .i64 cc] 25))
 have BC:=Lib.hid (Bx.fresh w #[.int .i64 ck,.slice X nx xc,.slice Y na yc,.int .i64 cc] 25)
 clear h1 h2 hv hna hnv hR hwa hwv
 go_enter Try.func63,Try.ntmps63
 go_wp2
 go_loopw [5,6] (fun s i wr=>∃ (j:Nat) (z:Int),i = .int .i64 (j:Int)∧s = .int .i64 z∧j≤na ∧ -1099511627776*(j:Int)≤z∧z≤1099511627776*(j:Int)∧Hid (z+smF ((ca.zip l).drop j)=R)∧Hid (Since (w.alloc (.cells #[.int .i64 ck,.slice X nx xc,.slice Y na yc,.int .i64 cc] 25)) wr)) (fun _ i _=>na - (intOf i).toNat)
 case atStart=>exact⟨0,0,rfl,rfl,Nat.zero_le _,by omega,by omega,HR.out ▸ Int.zero_add _,Since.refl _⟩
 case round =>
  obtain⟨j,z,rfl,rfl,hj,hz1,hz2,HE,HW⟩:=hrel
  obtain⟨_,_,_,_⟩:=bx4 (BC.out.since HW.out)
  by_cases hjn:j<na
  · have hja:j<ca.length:=by have:=HNA.out; omega
    have hjv:j<l.length:=by have:=HNV.out; have:=HN2.out; omega
    have hjv2:j<nv:=by have:=HN2.out; omega
    obtain⟨g,o,rfl,e0⟩:=elI (H2.out.since stI (ka.out.trans HW.out)) hja
    obtain⟨g2,o2,rfl,e2⟩:=elI (H3.out.since stI (ka.out.trans HW.out)) hjv
    have CA:=Lib.hid (fun W (k:Since wr W)=>show W.cell? ⟨g,o+j,none⟩=some (.int .i64 ca[j]) by obtain⟨g',o',h',e'⟩:=elI (H2.out.since stI (ka.out.trans (HW.out.trans k))) hja; cases h'; exact e')
    have CV:=Lib.hid (fun W (k:Since wr W)=>show W.cell? ⟨g2,o2+j,none⟩=some (.int .i64 l[j]) by obtain⟨g',o',h',e'⟩:=elI (H3.out.since stI (ka.out.trans (HW.out.trans k))) hjv; cases h'; exact e')
    have hst:=HE.out
    rw[zip_at hja hjv,smF] at hst
    simp only at hst
    have hb0:=(within_iff' _).1 (HA.out _ (List.getElem_mem hja))
    have hb1:=(within_iff' _).1 (HV.out _ (List.getElem_mem hjv))
    generalize ca[j]=d at *
    generalize l[j]=s at *
    have hp1 : -1099511627776≤d*s:=mul_lo hb0 hb1
    have hp2:d*s≤1099511627776:=mul_hi hb0 hb1
    have HE2:=Lib.hid (show z+d*s+smF ((ca.zip l).drop (j+1))=R by rw[← hst]; omega)
    obtain⟨hb0,hb0'⟩:=hb0
    obtain⟨hb1,hb1'⟩:=hb1
    clear hst hja hjv HE
    have HWa:=Lib.hid (show IntKind.i64.wrap (d*s)=d*s from wrap_id' (by omega) (by omega))
    have HWb:=Lib.hid (show IntKind.i64.wrap (z+d*s)=z+d*s from wrap_id' (by omega) (by omega))
    go_wp2
    have hr0:Since wr wr.drew:=Since.drew (Since.refl wr)
    refine wp_region_noPanic ?_
    refine Reg.wp_region_G (S:=fun _=>True) (fun j => [].contains j) (by kernel_rfl) trivial ?_
    refine' Reg.tk (i := 0) (oi := { dst := some 14, op := Op.move (Operand.tmp 5), type := 2, pos := "ref.go:56", after := #[], guard := none }) (v := _) [11, 12] [] (Or.inl ⟨by rfl, Or.inl ?hy2⟩) ?r_2
    case hy2=>(intro w' kk ss; obtain⟨x0,x1,x2',x3⟩:=bx4 (BC.out.since (HW.out.trans (hr0.trans kk))); have qa:=CA.out _ (hr0.trans kk); have qv:=CV.out _ (hr0.trans kk); go_simp; first | done | with_reducible rfl)
    try simp only[Act.put,Reg.l1,Reg.l2,Reg.l3]
    refine' Reg.tk (i := 1) (oi := { dst := some 15, op := Op.fieldAddr 25 (Operand.tmp 2) 2, type := 0, pos := "ref.go:56", after := #[], guard := none }) (v := _) [2, 4, 5, 10, 11, 12] [] (Or.inl ⟨by rfl, Or.inl ?hy3⟩) ?r_3
    case hy3=>(intro w' kk ss; obtain⟨x0,x1,x2',x3⟩:=bx4 (BC.out.since (HW.out.trans (hr0.trans kk))); have qa:=CA.out _ (hr0.trans kk); have qv:=CV.out _ (hr0.trans kk); go_simp; first | done | with_reducible rfl)
    try simp only[Act.put,Reg.l1,Reg.l2,Reg.l3]
    refine' Reg.tk (i := 2) (oi := { dst := some 16, op := Op.load 23 (Operand.tmp 15), type := 23, pos := "ref.go:56", after := #[{ on := 1, ground := Ground.data }], guard := none }) (v := _) [4, 5, 10, 11, 12] [] (Or.inl ⟨by rfl, Or.inl ?hy4⟩) ?r_4
    case hy4=>(intro w' kk ss; obtain⟨x0,x1,x2',x3⟩:=bx4 (BC.out.since (HW.out.trans (hr0.trans kk))); have qa:=CA.out _ (hr0.trans kk); have qv:=CV.out _ (hr0.trans kk); go_simp; first | done | with_reducible rfl)
    try simp only[Act.put,Reg.l1,Reg.l2,Reg.l3]
    refine' Reg.tk (i := 3) (oi := { dst := some 17, op := Op.move (Operand.tmp 6), type := 3, pos := "ref.go:56", after := #[], guard := none }) (v := _) [4, 5, 10, 11, 12] [] (Or.inl ⟨by rfl, Or.inl ?hy5⟩) ?r_5
    case hy5=>(intro w' kk ss; obtain⟨x0,x1,x2',x3⟩:=bx4 (BC.out.since (HW.out.trans (hr0.trans kk))); have qa:=CA.out _ (hr0.trans kk); have qv:=CV.out _ (hr0.trans kk); go_simp; first | done | with_reducible rfl)
    try simp only[Act.put,Reg.l1,Reg.l2,Reg.l3]
    refine' Reg.tk (i := 4) (oi := { dst := some 18, op := Op.indexAddr 23 (Operand.tmp 16) (Operand.tmp 17), type := 0, pos := "ref.go:56", after := #[{ on := 2, ground := Ground.data }, { on := 3, ground := Ground.data }], guard := none }) (v := _) [5, 10, 11, 12] [] (Or.inl ⟨by rfl, Or.inl ?hy6⟩) ?r_6
    case hy6=>(intro w' kk ss; obtain⟨x0,x1,x2',x3⟩:=bx4 (BC.out.since (HW.out.trans (hr0.trans kk))); have qa:=CA.out _ (hr0.trans kk); have qv:=CV.out _ (hr0.trans kk); go_simp; first | done | with_reducible rfl)
    try simp only[Act.put,Reg.l1,Reg.l2,Reg.l3]
    refine' Reg.tk (i := 5) (oi := { dst := some 19, op := Op.load 2 (Operand.tmp 18), type := 2, pos := "ref.go:56", after := #[{ on := 4, ground := Ground.data }], guard := none }) (v := _) [10, 11, 12] [] (Or.inl ⟨by rfl, Or.inl ?hy7⟩) ?r_7
    case hy7=>(intro w' kk ss; obtain⟨x0,x1,x2',x3⟩:=bx4 (BC.out.since (HW.out.trans (hr0.trans kk))); have qa:=CA.out _ (hr0.trans kk); have qv:=CV.out _ (hr0.trans kk); go_simp; first | done | with_reducible rfl)
    try simp only[Act.put,Reg.l1,Reg.l2,Reg.l3]
    refine' Reg.tk (i := 6) (oi := { dst := some 20, op := Op.move (Operand.tmp 1), type := 23, pos := "ref.go:56", after := #[], guard := none }) (v := _) [8, 9, 10, 11, 12] [] (Or.inl ⟨by rfl, Or.inl ?hy8⟩) ?r_8
    case hy8=>(intro w' kk ss; obtain⟨x0,x1,x2',x3⟩:=bx4 (BC.out.since (HW.out.trans (hr0.trans kk))); have qa:=CA.out _ (hr0.trans kk); have qv:=CV.out _ (hr0.trans kk); go_simp; first | done | with_reducible rfl)
    try simp only[Act.put,Reg.l1,Reg.l2,Reg.l3]
    refine' Reg.tk (i := 7) (oi := { dst := some 21, op := Op.move (Operand.tmp 6), type := 3, pos := "ref.go:56", after := #[], guard := none }) (v := _) [8, 9, 10, 11, 12] [] (Or.inl ⟨by rfl, Or.inl ?hy9⟩) ?r_9
    case hy9=>(intro w' kk ss; obtain⟨x0,x1,x2',x3⟩:=bx4 (BC.out.since (HW.out.trans (hr0.trans kk))); have qa:=CA.out _ (hr0.trans kk); have qv:=CV.out _ (hr0.trans kk); go_simp; first | done | with_reducible rfl)
    try simp only[Act.put,Reg.l1,Reg.l2,Reg.l3]
    refine' Reg.tk (i := 8) (oi := { dst := some 22, op := Op.indexAddr 23 (Operand.tmp 20) (Operand.tmp 21), type := 0, pos := "ref.go:56", after := #[{ on := 6, ground := Ground.data }, { on := 7, ground := Ground.data }], guard := none }) (v := _) [9, 10, 11, 12] [] (Or.inl ⟨by rfl, Or.inl ?hy10⟩) ?r_10
    case hy10=>(intro w' kk ss; obtain⟨x0,x1,x2',x3⟩:=bx4 (BC.out.since (HW.out.trans (hr0.trans kk))); have qa:=CA.out _ (hr0.trans kk); have qv:=CV.out _ (hr0.trans kk); go_simp; first | done | with_reducible rfl)
    try simp only[Act.put,Reg.l1,Reg.l2,Reg.l3]
    refine' Reg.tk (i := 9) (oi := { dst := some 23, op := Op.load 2 (Operand.tmp 22), type := 2, pos := "ref.go:56", after := #[{ on := 8, ground := Ground.data }], guard := none }) (v := _) [10, 11, 12] [] (Or.inl ⟨by rfl, Or.inl ?hy11⟩) ?r_11
    case hy11=>(intro w' kk ss; obtain⟨x0,x1,x2',x3⟩:=bx4 (BC.out.since (HW.out.trans (hr0.trans kk))); have qa:=CA.out _ (hr0.trans kk); have qv:=CV.out _ (hr0.trans kk); go_simp; first | done | with_reducible rfl)
    try simp only[Act.put,Reg.l1,Reg.l2,Reg.l3]
    refine' Reg.tk (i := 10) (oi := { dst := some 24, op := Op.binOp BinOp.mul 2 (Operand.tmp 19) (Operand.tmp 23) 2, type := 2, pos := "ref.go:56", after := #[{ on := 5, ground := Ground.data }, { on := 9, ground := Ground.data }], guard := none }) (v := _) [11, 12] [] (Or.inl ⟨by rfl, Or.inl ?hy12⟩) ?r_12
    case hy12=>(intro w' kk ss; obtain⟨x0,x1,x2',x3⟩:=bx4 (BC.out.since (HW.out.trans (hr0.trans kk))); have qa:=CA.out _ (hr0.trans kk); have qv:=CV.out _ (hr0.trans kk); go_simp; first | done | with_reducible rfl)
    try simp only[Act.put,Reg.l1,Reg.l2,Reg.l3]
    refine' Reg.tk (i := 11) (oi := { dst := some 25, op := Op.binOp BinOp.add 2 (Operand.tmp 14) (Operand.tmp 24) 2, type := 2, pos := "ref.go:56", after := #[{ on := 0, ground := Ground.data }, { on := 10, ground := Ground.data }], guard := none }) (v := _) [12] [] (Or.inl ⟨by rfl, Or.inl ?hy13⟩) ?r_13
    case hy13=>(intro w' kk ss; obtain⟨x0,x1,x2',x3⟩:=bx4 (BC.out.since (HW.out.trans (hr0.trans kk))); have qa:=CA.out _ (hr0.trans kk); have qv:=CV.out _ (hr0.trans kk); go_simp; first | done | with_reducible rfl)
    try simp only[Act.put,Reg.l1,Reg.l2,Reg.l3]
    refine' Reg.tk (i := 12) (oi := { dst := some 5, op := Op.assign (Operand.tmp 25), type := 2, pos := "ref.go:56", after := #[{ on := 11, ground := Ground.data }, { on := 0, ground := Ground.phase }, { on := 1, ground := Ground.phase }, { on := 2, ground := Ground.phase }, { on := 3, ground := Ground.phase }, { on := 4, ground := Ground.phase }, { on := 5, ground := Ground.phase }, { on := 6, ground := Ground.phase }, { on := 7, ground := Ground.phase }, { on := 8, ground := Ground.phase }, { on := 9, ground := Ground.phase }, { on := 10, ground := Ground.phase }, { on := 11, ground := Ground.phase }], guard := none }) (v := _) [] [] (Or.inl ⟨by rfl, Or.inl ?hy14⟩) ?r_14
    case hy14=>(intro w' kk ss; obtain⟨x0,x1,x2',x3⟩:=bx4 (BC.out.since (HW.out.trans (hr0.trans kk))); have qa:=CA.out _ (hr0.trans kk); have qv:=CV.out _ (hr0.trans kk); go_simp; first | done | with_reducible rfl)
    try simp only[Act.put,Reg.l1,Reg.l2,Reg.l3]
    refine Reg.wpG_done (by kernel_rfl) (fun we ke se => ?_) _
    refine NoPanic.normal ?_
    have hr0:=hr0.trans ke
    clear ke
    simp only[HWa.out,HWb.out]
    go_wp2
    go_roundw
    case rel=>exact⟨j+1,z+d*s,by go_num,by go_num,by omega,by omega,by omega,HE2.out,HW.out.trans hr0⟩
    case measure=>simp[intOf]; omega
  · obtain rfl:na=j:=by omega
    have HE2:=Lib.hid (show z=R by rw[← HE.out,List.drop_of_length_le (by rw[List.length_zip]; have:=HNA.out; omega)]; simp[smF])
    go_wp2
    go_ret
    exact RetI.of HE2.out (ka.out.trans HW.out)
theorem rload_any (v vv:Value) (c:Cn) (l:List Int) (t:Int) (w:World) (h:ConAt w v c) (hv:Sl 1 QI w vv l) (hn:c.a.length=2*l.length) (hl:l.length≤1000) (hwa:c.a.all within=true) (hwv:l.all within=true) (ht:fits t) :
 Calls Try.prog 100 #[v,vv,.int .i64 t] w (RetI (ld (tks l c.a) t) w):=by
 obtain⟨vx,vy,rfl,h1,h2⟩:=h
 obtain⟨ck,cx,ca,cc⟩:=c
 simp only at *
 obtain⟨X,xc,rfl⟩:=h1.form
 obtain⟨Y,yc,rfl⟩:=h2.form
 obtain⟨V,vc,rfl⟩:=hv.form
 obtain⟨R,hR⟩:∃ R,R=ld (tks l ca) t:=⟨_,rfl⟩
 rw[← hR]
 have HR:=Lib.hid hR.symm
 obtain⟨na,hna⟩:∃ n,n=ca.length:=⟨_,rfl⟩
 obtain⟨nv,hnv⟩:∃ n,n=l.length:=⟨_,rfl⟩
 generalize cx.length=nx at *
 rw[← hna] at h2 hn ⊢
 rw[← hnv] at hv hn hl ⊢
 have H2:=Lib.hid h2
 have H3:=Lib.hid hv
 have HNA:=Lib.hid hna
 have HNV:=Lib.hid hnv
 have HA:=Lib.hid (List.all_eq_true.1 hwa)
 have HV:=Lib.hid (List.all_eq_true.1 hwv)
 have HN2:=Lib.hid hn
 have ka:=Lib.hid (sA w (.cells #[.int .i64 ck,.slice X nx xc,.slice Y na yc,.int .i64 cc] 25))
 have BC:=Lib.hid (Bx.fresh w #[.int .i64 ck,.slice X nx xc,.slice Y na yc,.int .i64 cc] 25)
 clear h1 h2 hv hna hnv hR hwa hwv hn
 simp only[fits] at ht
 go_enter Try.func100,Try.ntmps100
 go_wp2
 go_loopw [7,8] (fun s i wr=>∃ (j:Nat) (z:Int),i = .int .i64 (j:Int)∧s = .int .i64 z∧j≤nv ∧ -1048576*(j:Int)≤z∧z≤1048576*(j:Int)∧Hid (z+ld ((tks l ca).drop j) t=R)∧Hid (Since (w.alloc (.cells #[.int .i64 ck,.slice X nx xc,.slice Y na yc,.int .i64 cc] 25)) wr)) (fun _ i _=>nv - (intOf i).toNat)
 case atStart=>exact⟨0,0,rfl,rfl,Nat.zero_le _,by omega,by omega,HR.out ▸ Int.zero_add _,Since.refl _⟩
 case round =>
  obtain⟨j,z,rfl,rfl,hj,hz1,hz2,HE,HW⟩:=hrel
  obtain⟨_,_,_,_⟩:=bx4 (BC.out.since HW.out)
  by_cases hjn:j<nv
  · have hjv:j<l.length:=by have:=HNV.out; omega
    have hla:ca.length=2*l.length:=by have:=HNV.out; have:=HNA.out; have:=HN2.out; omega
    have hja:j<ca.length:=by omega
    have hjb:nv+j<ca.length:=by have:=HNV.out; omega
    have hs2:=H2.out.since stI (ka.out.trans HW.out)
    obtain⟨g',o',rfl,e1⟩:=elI (H3.out.since stI (ka.out.trans HW.out)) hjv
    obtain⟨g,o,hY,e0⟩:=elI hs2 hja
    subst hY
    have CA:=Lib.hid (fun W (k:Since wr W)=>show W.cell? ⟨g,o+j,none⟩=some (.int .i64 ca[j]) by obtain⟨g',o',h',e'⟩:=elI (H2.out.since stI (ka.out.trans (HW.out.trans k))) hja; cases h'; exact e')
    have CB:=Lib.hid (fun W (k:Since wr W)=>show W.cell? ⟨g,o+(nv+j),none⟩=some (.int .i64 ca[nv+j]) by obtain⟨g',o',h',e'⟩:=elI (H2.out.since stI (ka.out.trans (HW.out.trans k))) hjb; cases h'; exact e')
    have CV:=Lib.hid (fun W (k:Since wr W)=>show W.cell? ⟨g',o'+j,none⟩=some (.int .i64 l[j]) by obtain⟨g',o',h',e'⟩:=elI (H3.out.since stI (ka.out.trans (HW.out.trans k))) hjv; cases h'; exact e')
    have hst:=HE.out
    rw[tks_at hjv hla,ld,ldE] at hst
    simp only at hst
    have ev:ca[l.length+j]'(by omega)=ca[nv+j]:=by have:=HNV.out; congr 1; omega
    rw[ev] at hst
    have hb0:=(within_iff' _).1 (HA.out _ (List.getElem_mem hja))
    have hb1:=(within_iff' _).1 (HV.out _ (List.getElem_mem hjv))
    have hb2:=(within_iff' _).1 (HA.out _ (List.getElem_mem hjb))
    clear ev
    generalize ca[j]=d at *
    generalize ca[nv+j]=r at *
    generalize l[j]=s at *
    have ST:=Lib.hid hst
    have hja2:j<na:=by have:=HN2.out; omega
    have hjb2:nv+j<na:=by have:=HN2.out; omega
    obtain⟨hb0,hb0'⟩:=hb0
    obtain⟨hb1,hb1'⟩:=hb1
    obtain⟨hb2,hb2'⟩:=hb2
    clear hst hja hjv hjb HE hla hs2
    have HWa:=Lib.hid (show IntKind.i64.wrap (s+d)=s+d from wrap_id' (by omega) (by omega))
    by_cases c1:s≤t
    · by_cases c2:t<s+d
      · have HE:=Lib.hid (show z+r+ld ((tks l ca).drop (j+1)) t=R by rw[← ST.out,if_pos ⟨c1,c2⟩]; omega)
        clear ST
        have z1:decide (s≤t)=true:=decide_eq_true c1
        go_wp2
        have hr0:Since wr wr.drew:=Since.drew (Since.refl wr)
        refine wp_region_noPanic ?_
        refine Reg.wp_region_G (S:=fun _=>True) (fun j => [].contains j) (by kernel_rfl) trivial ?_
        refine' Reg.tk (i := 0) (oi := { dst := some 15, op := Op.move (Operand.tmp 1), type := 23, pos := "ref.go:104", after := #[], guard := none }) (v := _) [2, 3, 5, 6, 7, 8, 9, 10, 11, 12, 13, 14, 15, 16, 17, 18, 19] [] (Or.inl ⟨by rfl, Or.inl ?hy16⟩) ?r_16
        case hy16=>(intro w' kk ss; obtain⟨x0,x1,x2',x3⟩:=bx4 (BC.out.since (HW.out.trans (hr0.trans kk))); have qa:=CA.out _ (hr0.trans kk); have qb:=CB.out _ (hr0.trans kk); have qv:=CV.out _ (hr0.trans kk); go_simp; first | done | with_reducible rfl)
        try simp only[Act.put,Reg.l1,Reg.l2,Reg.l3]
        refine' Reg.tk (i := 1) (oi := { dst := some 16, op := Op.move (Operand.tmp 8), type := 3, pos := "ref.go:104", after := #[], guard := none }) (v := _) [2, 3, 5, 6, 7, 8, 9, 10, 11, 12, 13, 14, 15, 16, 17, 18, 19] [] (Or.inl ⟨by rfl, Or.inl ?hy17⟩) ?r_17
        case hy17=>(intro w' kk ss; obtain⟨x0,x1,x2',x3⟩:=bx4 (BC.out.since (HW.out.trans (hr0.trans kk))); have qa:=CA.out _ (hr0.trans kk); have qb:=CB.out _ (hr0.trans kk); have qv:=CV.out _ (hr0.trans kk); go_simp; first | done | with_reducible rfl)
        try simp only[Act.put,Reg.l1,Reg.l2,Reg.l3]
        refine' Reg.tk (i := 2) (oi := { dst := some 17, op := Op.indexAddr 23 (Operand.tmp 15) (Operand.tmp 16), type := 0, pos := "ref.go:104", after := #[{ on := 0, ground := Ground.data }, { on := 1, ground := Ground.data }], guard := none }) (v := _) [3, 5, 6, 7, 8, 9, 10, 11, 12, 13, 14, 15, 16, 17, 18, 19] [] (Or.inl ⟨by rfl, Or.inl ?hy18⟩) ?r_18
        case hy18=>(intro w' kk ss; obtain⟨x0,x1,x2',x3⟩:=bx4 (BC.out.since (HW.out.trans (hr0.trans kk))); have qa:=CA.out _ (hr0.trans kk); have qb:=CB.out _ (hr0.trans kk); have qv:=CV.out _ (hr0.trans kk); go_simp; first | done | with_reducible rfl)
        try simp only[Act.put,Reg.l1,Reg.l2,Reg.l3]
        refine' Reg.tk (i := 3) (oi := { dst := some 18, op := Op.load 2 (Operand.tmp 17), type := 2, pos := "ref.go:104", after := #[{ on := 2, ground := Ground.data }], guard := none }) (v := _) [5, 6, 7, 8, 9, 10, 11, 12, 13, 14, 15, 16, 17, 18, 19] [] (Or.inl ⟨by rfl, Or.inl ?hy19⟩) ?r_19
        case hy19=>(intro w' kk ss; obtain⟨x0,x1,x2',x3⟩:=bx4 (BC.out.since (HW.out.trans (hr0.trans kk))); have qa:=CA.out _ (hr0.trans kk); have qb:=CB.out _ (hr0.trans kk); have qv:=CV.out _ (hr0.trans kk); go_simp; first | done | with_reducible rfl)
        try simp only[Act.put,Reg.l1,Reg.l2,Reg.l3]
        refine' Reg.tk (i := 4) (oi := { dst := some 19, op := Op.move (Operand.tmp 2), type := 2, pos := "ref.go:104", after := #[], guard := none }) (v := _) [5, 6, 7, 8, 9, 10, 11, 12, 13, 14, 15, 16, 17, 18, 19] [] (Or.inl ⟨by rfl, Or.inl ?hy20⟩) ?r_20
        case hy20=>(intro w' kk ss; obtain⟨x0,x1,x2',x3⟩:=bx4 (BC.out.since (HW.out.trans (hr0.trans kk))); have qa:=CA.out _ (hr0.trans kk); have qb:=CB.out _ (hr0.trans kk); have qv:=CV.out _ (hr0.trans kk); go_simp; first | done | with_reducible rfl)
        try simp only[Act.put,Reg.l1,Reg.l2,Reg.l3]
        refine' Reg.tk (i := 5) (oi := { dst := some 20, op := Op.binOp BinOp.leq 2 (Operand.tmp 18) (Operand.tmp 19) 2, type := 4, pos := "ref.go:104", after := #[{ on := 3, ground := Ground.data }, { on := 4, ground := Ground.data }], guard := none }) (v := _) [6, 7, 8, 9, 10, 11, 12, 13, 14, 15, 16, 17, 18, 19] [] (Or.inl ⟨by rfl, Or.inl ?hy21⟩) ?r_21
        case hy21=>(intro w' kk ss; obtain⟨x0,x1,x2',x3⟩:=bx4 (BC.out.since (HW.out.trans (hr0.trans kk))); have qa:=CA.out _ (hr0.trans kk); have qb:=CB.out _ (hr0.trans kk); have qv:=CV.out _ (hr0.trans kk); go_simp; first | done | with_reducible rfl)
        try simp only[Act.put,Reg.l1,Reg.l2,Reg.l3]
        refine' Reg.tk (i := 6) (oi := { dst := some 21, op := Op.move (Operand.tmp 20), type := 4, pos := "ref.go:104", after := #[{ on := 5, ground := Ground.data }], guard := none }) (v := _) [7, 8, 9, 10, 11, 12, 13, 14, 15, 16, 17, 18, 19] [] (Or.inl ⟨by rfl, Or.inl ?hy22⟩) ?r_22
        case hy22=>(intro w' kk ss; obtain⟨x0,x1,x2',x3⟩:=bx4 (BC.out.since (HW.out.trans (hr0.trans kk))); have qa:=CA.out _ (hr0.trans kk); have qb:=CB.out _ (hr0.trans kk); have qv:=CV.out _ (hr0.trans kk); go_simp; first | done | with_reducible rfl)
        try simp only[Act.put,Reg.l1,Reg.l2,Reg.l3]
        refine' Reg.tk (i := 7) (oi := { dst := some 22, op := Op.move (Operand.tmp 2), type := 2, pos := "ref.go:104", after := #[{ on := 6, ground := Ground.guard }], guard := some (6, true) }) (v := _) [18, 19] [] (Or.inl ⟨by rfl, Or.inl ?hy23⟩) ?r_23
        case hy23=>(intro w' kk ss; obtain⟨x0,x1,x2',x3⟩:=bx4 (BC.out.since (HW.out.trans (hr0.trans kk))); have qa:=CA.out _ (hr0.trans kk); have qb:=CB.out _ (hr0.trans kk); have qv:=CV.out _ (hr0.trans kk); go_simp; first | done | with_reducible rfl)
        try simp only[Act.put,Reg.l1,Reg.l2,Reg.l3]
        refine' Reg.tk (i := 8) (oi := { dst := some 23, op := Op.move (Operand.tmp 1), type := 23, pos := "ref.go:104", after := #[{ on := 6, ground := Ground.guard }], guard := some (6, true) }) (v := _) [10, 11, 17, 18, 19] [] (Or.inl ⟨by rfl, Or.inl ?hy24⟩) ?r_24
        case hy24=>(intro w' kk ss; obtain⟨x0,x1,x2',x3⟩:=bx4 (BC.out.since (HW.out.trans (hr0.trans kk))); have qa:=CA.out _ (hr0.trans kk); have qb:=CB.out _ (hr0.trans kk); have qv:=CV.out _ (hr0.trans kk); go_simp; first | done | with_reducible rfl)
        try simp only[Act.put,Reg.l1,Reg.l2,Reg.l3]
        refine' Reg.tk (i := 9) (oi := { dst := some 24, op := Op.move (Operand.tmp 8), type := 3, pos := "ref.go:104", after := #[{ on := 6, ground := Ground.guard }], guard := some (6, true) }) (v := _) [10, 11, 17, 18, 19] [] (Or.inl ⟨by rfl, Or.inl ?hy25⟩) ?r_25
        case hy25=>(intro w' kk ss; obtain⟨x0,x1,x2',x3⟩:=bx4 (BC.out.since (HW.out.trans (hr0.trans kk))); have qa:=CA.out _ (hr0.trans kk); have qb:=CB.out _ (hr0.trans kk); have qv:=CV.out _ (hr0.trans kk); go_simp; first | done | with_reducible rfl)
        try simp only[Act.put,Reg.l1,Reg.l2,Reg.l3]
        refine' Reg.tk (i := 10) (oi := { dst := some 25, op := Op.indexAddr 23 (Operand.tmp 23) (Operand.tmp 24), type := 0, pos := "ref.go:104", after := #[{ on := 8, ground := Ground.data }, { on := 9, ground := Ground.data }, { on := 6, ground := Ground.guard }], guard := some (6, true) }) (v := _) [11, 17, 18, 19] [] (Or.inl ⟨by rfl, Or.inl ?hy26⟩) ?r_26
        case hy26=>(intro w' kk ss; obtain⟨x0,x1,x2',x3⟩:=bx4 (BC.out.since (HW.out.trans (hr0.trans kk))); have qa:=CA.out _ (hr0.trans kk); have qb:=CB.out _ (hr0.trans kk); have qv:=CV.out _ (hr0.trans kk); go_simp; first | done | with_reducible rfl)
        try simp only[Act.put,Reg.l1,Reg.l2,Reg.l3]
        refine' Reg.tk (i := 11) (oi := { dst := some 26, op := Op.load 2 (Operand.tmp 25), type := 2, pos := "ref.go:104", after := #[{ on := 10, ground := Ground.data }, { on := 6, ground := Ground.guard }], guard := some (6, true) }) (v := _) [17, 18, 19] [] (Or.inl ⟨by rfl, Or.inl ?hy27⟩) ?r_27
        case hy27=>(intro w' kk ss; obtain⟨x0,x1,x2',x3⟩:=bx4 (BC.out.since (HW.out.trans (hr0.trans kk))); have qa:=CA.out _ (hr0.trans kk); have qb:=CB.out _ (hr0.trans kk); have qv:=CV.out _ (hr0.trans kk); go_simp; first | done | with_reducible rfl)
        try simp only[Act.put,Reg.l1,Reg.l2,Reg.l3]
        refine' Reg.tk (i := 12) (oi := { dst := some 27, op := Op.fieldAddr 25 (Operand.tmp 3) 2, type := 0, pos := "ref.go:104", after := #[{ on := 6, ground := Ground.guard }], guard := some (6, true) }) (v := _) [13, 15, 16, 17, 18, 19] [] (Or.inl ⟨by rfl, Or.inl ?hy28⟩) ?r_28
        case hy28=>(intro w' kk ss; obtain⟨x0,x1,x2',x3⟩:=bx4 (BC.out.since (HW.out.trans (hr0.trans kk))); have qa:=CA.out _ (hr0.trans kk); have qb:=CB.out _ (hr0.trans kk); have qv:=CV.out _ (hr0.trans kk); go_simp; first | done | with_reducible rfl)
        try simp only[Act.put,Reg.l1,Reg.l2,Reg.l3]
        refine' Reg.tk (i := 13) (oi := { dst := some 28, op := Op.load 23 (Operand.tmp 27), type := 23, pos := "ref.go:104", after := #[{ on := 12, ground := Ground.data }, { on := 6, ground := Ground.guard }], guard := some (6, true) }) (v := _) [15, 16, 17, 18, 19] [] (Or.inl ⟨by rfl, Or.inl ?hy29⟩) ?r_29
        case hy29=>(intro w' kk ss; obtain⟨x0,x1,x2',x3⟩:=bx4 (BC.out.since (HW.out.trans (hr0.trans kk))); have qa:=CA.out _ (hr0.trans kk); have qb:=CB.out _ (hr0.trans kk); have qv:=CV.out _ (hr0.trans kk); go_simp; first | done | with_reducible rfl)
        try simp only[Act.put,Reg.l1,Reg.l2,Reg.l3]
        refine' Reg.tk (i := 14) (oi := { dst := some 29, op := Op.move (Operand.tmp 8), type := 3, pos := "ref.go:104", after := #[{ on := 6, ground := Ground.guard }], guard := some (6, true) }) (v := _) [15, 16, 17, 18, 19] [] (Or.inl ⟨by rfl, Or.inl ?hy30⟩) ?r_30
        case hy30=>(intro w' kk ss; obtain⟨x0,x1,x2',x3⟩:=bx4 (BC.out.since (HW.out.trans (hr0.trans kk))); have qa:=CA.out _ (hr0.trans kk); have qb:=CB.out _ (hr0.trans kk); have qv:=CV.out _ (hr0.trans kk); go_simp; first | done | with_reducible rfl)
        try simp only[Act.put,Reg.l1,Reg.l2,Reg.l3]
        refine' Reg.tk (i := 15) (oi := { dst := some 30, op := Op.indexAddr 23 (Operand.tmp 28) (Operand.tmp 29), type := 0, pos := "ref.go:104", after := #[{ on := 13, ground := Ground.data }, { on := 14, ground := Ground.data }, { on := 6, ground := Ground.guard }], guard := some (6, true) }) (v := _) [16, 17, 18, 19] [] (Or.inl ⟨by rfl, Or.inl ?hy31⟩) ?r_31
        case hy31=>(intro w' kk ss; obtain⟨x0,x1,x2',x3⟩:=bx4 (BC.out.since (HW.out.trans (hr0.trans kk))); have qa:=CA.out _ (hr0.trans kk); have qb:=CB.out _ (hr0.trans kk); have qv:=CV.out _ (hr0.trans kk); go_simp; first | done | with_reducible rfl)
        try simp only[Act.put,Reg.l1,Reg.l2,Reg.l3]
        refine' Reg.tk (i := 16) (oi := { dst := some 31, op := Op.load 2 (Operand.tmp 30), type := 2, pos := "ref.go:104", after := #[{ on := 15, ground := Ground.data }, { on := 6, ground := Ground.guard }], guard := some (6, true) }) (v := _) [17, 18, 19] [] (Or.inl ⟨by rfl, Or.inl ?hy32⟩) ?r_32
        case hy32=>(intro w' kk ss; obtain⟨x0,x1,x2',x3⟩:=bx4 (BC.out.since (HW.out.trans (hr0.trans kk))); have qa:=CA.out _ (hr0.trans kk); have qb:=CB.out _ (hr0.trans kk); have qv:=CV.out _ (hr0.trans kk); go_simp; first | done | with_reducible rfl)
        try simp only[Act.put,Reg.l1,Reg.l2,Reg.l3]
        refine' Reg.tk (i := 17) (oi := { dst := some 32, op := Op.binOp BinOp.add 2 (Operand.tmp 26) (Operand.tmp 31) 2, type := 2, pos := "ref.go:104", after := #[{ on := 11, ground := Ground.data }, { on := 16, ground := Ground.data }, { on := 6, ground := Ground.guard }], guard := some (6, true) }) (v := _) [18, 19] [] (Or.inl ⟨by rfl, Or.inl ?hy33⟩) ?r_33
        case hy33=>(intro w' kk ss; obtain⟨x0,x1,x2',x3⟩:=bx4 (BC.out.since (HW.out.trans (hr0.trans kk))); have qa:=CA.out _ (hr0.trans kk); have qb:=CB.out _ (hr0.trans kk); have qv:=CV.out _ (hr0.trans kk); go_simp; first | done | with_reducible rfl)
        try simp only[Act.put,Reg.l1,Reg.l2,Reg.l3]
        refine' Reg.tk (i := 18) (oi := { dst := some 33, op := Op.binOp BinOp.lss 2 (Operand.tmp 22) (Operand.tmp 32) 2, type := 4, pos := "ref.go:104", after := #[{ on := 7, ground := Ground.data }, { on := 17, ground := Ground.data }, { on := 6, ground := Ground.guard }], guard := some (6, true) }) (v := _) [19] [] (Or.inl ⟨by rfl, Or.inl ?hy34⟩) ?r_34
        case hy34=>(intro w' kk ss; obtain⟨x0,x1,x2',x3⟩:=bx4 (BC.out.since (HW.out.trans (hr0.trans kk))); have qa:=CA.out _ (hr0.trans kk); have qb:=CB.out _ (hr0.trans kk); have qv:=CV.out _ (hr0.trans kk); go_simp; first | done | with_reducible rfl)
        try simp only[Act.put,Reg.l1,Reg.l2,Reg.l3]
        refine' Reg.tk (i := 19) (oi := { dst := some 34, op := Op.pick (Operand.tmp 21) (Operand.tmp 33) (Operand.const (Value.bool false)), type := 4, pos := "ref.go:104", after := #[{ on := 6, ground := Ground.data }, { on := 18, ground := Ground.data }], guard := none }) (v := _) [] [] (Or.inl ⟨by rfl, Or.inl ?hy35⟩) ?r_35
        case hy35=>(intro w' kk ss; obtain⟨x0,x1,x2',x3⟩:=bx4 (BC.out.since (HW.out.trans (hr0.trans kk))); have qa:=CA.out _ (hr0.trans kk); have qb:=CB.out _ (hr0.trans kk); have qv:=CV.out _ (hr0.trans kk); go_simp; first | done | with_reducible rfl)
        try simp only[Act.put,Reg.l1,Reg.l2,Reg.l3]
        refine Reg.wpG_done (by kernel_rfl) (fun we ke se => ?_) _
        refine NoPanic.normal ?_
        have hr0:=hr0.trans ke
        clear ke
        simp only[HWa.out]
        obtain⟨_,_,_,_⟩:=bx4 (BC.out.since (HW.out.trans hr0))
        have qb:=CB.out _ hr0
        go_wp2
        go_roundw
        case rel=>exact⟨j+1,z+r,by go_num,by go_num,by omega,by omega,by omega,HE.out,HW.out.trans hr0⟩
        case measure=>simp[intOf]; omega
      · have HE:=Lib.hid (show z+ld ((tks l ca).drop (j+1)) t=R by rw[← ST.out,if_neg (fun e=>c2 e.2)]; omega)
        clear ST
        have z1:decide (s≤t)=true:=decide_eq_true c1
        go_wp2
        have hr0:Since wr wr.drew:=Since.drew (Since.refl wr)
        refine wp_region_noPanic ?_
        refine Reg.wp_region_G (S:=fun _=>True) (fun j => [].contains j) (by kernel_rfl) trivial ?_
        refine' Reg.tk (i := 0) (oi := { dst := some 15, op := Op.move (Operand.tmp 1), type := 23, pos := "ref.go:104", after := #[], guard := none }) (v := _) [2, 3, 5, 6, 7, 8, 9, 10, 11, 12, 13, 14, 15, 16, 17, 18, 19] [] (Or.inl ⟨by rfl, Or.inl ?hy37⟩) ?r_37
        case hy37=>(intro w' kk ss; obtain⟨x0,x1,x2',x3⟩:=bx4 (BC.out.since (HW.out.trans (hr0.trans kk))); have qa:=CA.out _ (hr0.trans kk); have qb:=CB.out _ (hr0.trans kk); have qv:=CV.out _ (hr0.trans kk); go_simp; first | done | with_reducible rfl)
        try simp only[Act.put,Reg.l1,Reg.l2,Reg.l3]
        refine' Reg.tk (i := 1) (oi := { dst := some 16, op := Op.move (Operand.tmp 8), type := 3, pos := "ref.go:104", after := #[], guard := none }) (v := _) [2, 3, 5, 6, 7, 8, 9, 10, 11, 12, 13, 14, 15, 16, 17, 18, 19] [] (Or.inl ⟨by rfl, Or.inl ?hy38⟩) ?r_38
        case hy38=>(intro w' kk ss; obtain⟨x0,x1,x2',x3⟩:=bx4 (BC.out.since (HW.out.trans (hr0.trans kk))); have qa:=CA.out _ (hr0.trans kk); have qb:=CB.out _ (hr0.trans kk); have qv:=CV.out _ (hr0.trans kk); go_simp; first | done | with_reducible rfl)
        try simp only[Act.put,Reg.l1,Reg.l2,Reg.l3]
        refine' Reg.tk (i := 2) (oi := { dst := some 17, op := Op.indexAddr 23 (Operand.tmp 15) (Operand.tmp 16), type := 0, pos := "ref.go:104", after := #[{ on := 0, ground := Ground.data }, { on := 1, ground := Ground.data }], guard := none }) (v := _) [3, 5, 6, 7, 8, 9, 10, 11, 12, 13, 14, 15, 16, 17, 18, 19] [] (Or.inl ⟨by rfl, Or.inl ?hy39⟩) ?r_39
        case hy39=>(intro w' kk ss; obtain⟨x0,x1,x2',x3⟩:=bx4 (BC.out.since (HW.out.trans (hr0.trans kk))); have qa:=CA.out _ (hr0.trans kk); have qb:=CB.out _ (hr0.trans kk); have qv:=CV.out _ (hr0.trans kk); go_simp; first | done | with_reducible rfl)
        try simp only[Act.put,Reg.l1,Reg.l2,Reg.l3]
        refine' Reg.tk (i := 3) (oi := { dst := some 18, op := Op.load 2 (Operand.tmp 17), type := 2, pos := "ref.go:104", after := #[{ on := 2, ground := Ground.data }], guard := none }) (v := _) [5, 6, 7, 8, 9, 10, 11, 12, 13, 14, 15, 16, 17, 18, 19] [] (Or.inl ⟨by rfl, Or.inl ?hy40⟩) ?r_40
        case hy40=>(intro w' kk ss; obtain⟨x0,x1,x2',x3⟩:=bx4 (BC.out.since (HW.out.trans (hr0.trans kk))); have qa:=CA.out _ (hr0.trans kk); have qb:=CB.out _ (hr0.trans kk); have qv:=CV.out _ (hr0.trans kk); go_simp; first | done | with_reducible rfl)
        try simp only[Act.put,Reg.l1,Reg.l2,Reg.l3]
        refine' Reg.tk (i := 4) (oi := { dst := some 19, op := Op.move (Operand.tmp 2), type := 2, pos := "ref.go:104", after := #[], guard := none }) (v := _) [5, 6, 7, 8, 9, 10, 11, 12, 13, 14, 15, 16, 17, 18, 19] [] (Or.inl ⟨by rfl, Or.inl ?hy41⟩) ?r_41
        case hy41=>(intro w' kk ss; obtain⟨x0,x1,x2',x3⟩:=bx4 (BC.out.since (HW.out.trans (hr0.trans kk))); have qa:=CA.out _ (hr0.trans kk); have qb:=CB.out _ (hr0.trans kk); have qv:=CV.out _ (hr0.trans kk); go_simp; first | done | with_reducible rfl)
        try simp only[Act.put,Reg.l1,Reg.l2,Reg.l3]
        refine' Reg.tk (i := 5) (oi := { dst := some 20, op := Op.binOp BinOp.leq 2 (Operand.tmp 18) (Operand.tmp 19) 2, type := 4, pos := "ref.go:104", after := #[{ on := 3, ground := Ground.data }, { on := 4, ground := Ground.data }], guard := none }) (v := _) [6, 7, 8, 9, 10, 11, 12, 13, 14, 15, 16, 17, 18, 19] [] (Or.inl ⟨by rfl, Or.inl ?hy42⟩) ?r_42
        case hy42=>(intro w' kk ss; obtain⟨x0,x1,x2',x3⟩:=bx4 (BC.out.since (HW.out.trans (hr0.trans kk))); have qa:=CA.out _ (hr0.trans kk); have qb:=CB.out _ (hr0.trans kk); have qv:=CV.out _ (hr0.trans kk); go_simp; first | done | with_reducible rfl)
        try simp only[Act.put,Reg.l1,Reg.l2,Reg.l3]
        refine' Reg.tk (i := 6) (oi := { dst := some 21, op := Op.move (Operand.tmp 20), type := 4, pos := "ref.go:104", after := #[{ on := 5, ground := Ground.data }], guard := none }) (v := _) [7, 8, 9, 10, 11, 12, 13, 14, 15, 16, 17, 18, 19] [] (Or.inl ⟨by rfl, Or.inl ?hy43⟩) ?r_43
        case hy43=>(intro w' kk ss; obtain⟨x0,x1,x2',x3⟩:=bx4 (BC.out.since (HW.out.trans (hr0.trans kk))); have qa:=CA.out _ (hr0.trans kk); have qb:=CB.out _ (hr0.trans kk); have qv:=CV.out _ (hr0.trans kk); go_simp; first | done | with_reducible rfl)
        try simp only[Act.put,Reg.l1,Reg.l2,Reg.l3]
        refine' Reg.tk (i := 7) (oi := { dst := some 22, op := Op.move (Operand.tmp 2), type := 2, pos := "ref.go:104", after := #[{ on := 6, ground := Ground.guard }], guard := some (6, true) }) (v := _) [18, 19] [] (Or.inl ⟨by rfl, Or.inl ?hy44⟩) ?r_44
        case hy44=>(intro w' kk ss; obtain⟨x0,x1,x2',x3⟩:=bx4 (BC.out.since (HW.out.trans (hr0.trans kk))); have qa:=CA.out _ (hr0.trans kk); have qb:=CB.out _ (hr0.trans kk); have qv:=CV.out _ (hr0.trans kk); go_simp; first | done | with_reducible rfl)
        try simp only[Act.put,Reg.l1,Reg.l2,Reg.l3]
        refine' Reg.tk (i := 8) (oi := { dst := some 23, op := Op.move (Operand.tmp 1), type := 23, pos := "ref.go:104", after := #[{ on := 6, ground := Ground.guard }], guard := some (6, true) }) (v := _) [10, 11, 17, 18, 19] [] (Or.inl ⟨by rfl, Or.inl ?hy45⟩) ?r_45
        case hy45=>(intro w' kk ss; obtain⟨x0,x1,x2',x3⟩:=bx4 (BC.out.since (HW.out.trans (hr0.trans kk))); have qa:=CA.out _ (hr0.trans kk); have qb:=CB.out _ (hr0.trans kk); have qv:=CV.out _ (hr0.trans kk); go_simp; first | done | with_reducible rfl)
        try simp only[Act.put,Reg.l1,Reg.l2,Reg.l3]
        refine' Reg.tk (i := 9) (oi := { dst := some 24, op := Op.move (Operand.tmp 8), type := 3, pos := "ref.go:104", after := #[{ on := 6, ground := Ground.guard }], guard := some (6, true) }) (v := _) [10, 11, 17, 18, 19] [] (Or.inl ⟨by rfl, Or.inl ?hy46⟩) ?r_46
        case hy46=>(intro w' kk ss; obtain⟨x0,x1,x2',x3⟩:=bx4 (BC.out.since (HW.out.trans (hr0.trans kk))); have qa:=CA.out _ (hr0.trans kk); have qb:=CB.out _ (hr0.trans kk); have qv:=CV.out _ (hr0.trans kk); go_simp; first | done | with_reducible rfl)
        try simp only[Act.put,Reg.l1,Reg.l2,Reg.l3]
        refine' Reg.tk (i := 10) (oi := { dst := some 25, op := Op.indexAddr 23 (Operand.tmp 23) (Operand.tmp 24), type := 0, pos := "ref.go:104", after := #[{ on := 8, ground := Ground.data }, { on := 9, ground := Ground.data }, { on := 6, ground := Ground.guard }], guard := some (6, true) }) (v := _) [11, 17, 18, 19] [] (Or.inl ⟨by rfl, Or.inl ?hy47⟩) ?r_47
        case hy47=>(intro w' kk ss; obtain⟨x0,x1,x2',x3⟩:=bx4 (BC.out.since (HW.out.trans (hr0.trans kk))); have qa:=CA.out _ (hr0.trans kk); have qb:=CB.out _ (hr0.trans kk); have qv:=CV.out _ (hr0.trans kk); go_simp; first | done | with_reducible rfl)
        try simp only[Act.put,Reg.l1,Reg.l2,Reg.l3]
        refine' Reg.tk (i := 11) (oi := { dst := some 26, op := Op.load 2 (Operand.tmp 25), type := 2, pos := "ref.go:104", after := #[{ on := 10, ground := Ground.data }, { on := 6, ground := Ground.guard }], guard := some (6, true) }) (v := _) [17, 18, 19] [] (Or.inl ⟨by rfl, Or.inl ?hy48⟩) ?r_48
        case hy48=>(intro w' kk ss; obtain⟨x0,x1,x2',x3⟩:=bx4 (BC.out.since (HW.out.trans (hr0.trans kk))); have qa:=CA.out _ (hr0.trans kk); have qb:=CB.out _ (hr0.trans kk); have qv:=CV.out _ (hr0.trans kk); go_simp; first | done | with_reducible rfl)
        try simp only[Act.put,Reg.l1,Reg.l2,Reg.l3]
        refine' Reg.tk (i := 12) (oi := { dst := some 27, op := Op.fieldAddr 25 (Operand.tmp 3) 2, type := 0, pos := "ref.go:104", after := #[{ on := 6, ground := Ground.guard }], guard := some (6, true) }) (v := _) [13, 15, 16, 17, 18, 19] [] (Or.inl ⟨by rfl, Or.inl ?hy49⟩) ?r_49
        case hy49=>(intro w' kk ss; obtain⟨x0,x1,x2',x3⟩:=bx4 (BC.out.since (HW.out.trans (hr0.trans kk))); have qa:=CA.out _ (hr0.trans kk); have qb:=CB.out _ (hr0.trans kk); have qv:=CV.out _ (hr0.trans kk); go_simp; first | done | with_reducible rfl)
        try simp only[Act.put,Reg.l1,Reg.l2,Reg.l3]
        refine' Reg.tk (i := 13) (oi := { dst := some 28, op := Op.load 23 (Operand.tmp 27), type := 23, pos := "ref.go:104", after := #[{ on := 12, ground := Ground.data }, { on := 6, ground := Ground.guard }], guard := some (6, true) }) (v := _) [15, 16, 17, 18, 19] [] (Or.inl ⟨by rfl, Or.inl ?hy50⟩) ?r_50
        case hy50=>(intro w' kk ss; obtain⟨x0,x1,x2',x3⟩:=bx4 (BC.out.since (HW.out.trans (hr0.trans kk))); have qa:=CA.out _ (hr0.trans kk); have qb:=CB.out _ (hr0.trans kk); have qv:=CV.out _ (hr0.trans kk); go_simp; first | done | with_reducible rfl)
        try simp only[Act.put,Reg.l1,Reg.l2,Reg.l3]
        refine' Reg.tk (i := 14) (oi := { dst := some 29, op := Op.move (Operand.tmp 8), type := 3, pos := "ref.go:104", after := #[{ on := 6, ground := Ground.guard }], guard := some (6, true) }) (v := _) [15, 16, 17, 18, 19] [] (Or.inl ⟨by rfl, Or.inl ?hy51⟩) ?r_51
        case hy51=>(intro w' kk ss; obtain⟨x0,x1,x2',x3⟩:=bx4 (BC.out.since (HW.out.trans (hr0.trans kk))); have qa:=CA.out _ (hr0.trans kk); have qb:=CB.out _ (hr0.trans kk); have qv:=CV.out _ (hr0.trans kk); go_simp; first | done | with_reducible rfl)
        try simp only[Act.put,Reg.l1,Reg.l2,Reg.l3]
        refine' Reg.tk (i := 15) (oi := { dst := some 30, op := Op.indexAddr 23 (Operand.tmp 28) (Operand.tmp 29), type := 0, pos := "ref.go:104", after := #[{ on := 13, ground := Ground.data }, { on := 14, ground := Ground.data }, { on := 6, ground := Ground.guard }], guard := some (6, true) }) (v := _) [16, 17, 18, 19] [] (Or.inl ⟨by rfl, Or.inl ?hy52⟩) ?r_52
        case hy52=>(intro w' kk ss; obtain⟨x0,x1,x2',x3⟩:=bx4 (BC.out.since (HW.out.trans (hr0.trans kk))); have qa:=CA.out _ (hr0.trans kk); have qb:=CB.out _ (hr0.trans kk); have qv:=CV.out _ (hr0.trans kk); go_simp; first | done | with_reducible rfl)
        try simp only[Act.put,Reg.l1,Reg.l2,Reg.l3]
        refine' Reg.tk (i := 16) (oi := { dst := some 31, op := Op.load 2 (Operand.tmp 30), type := 2, pos := "ref.go:104", after := #[{ on := 15, ground := Ground.data }, { on := 6, ground := Ground.guard }], guard := some (6, true) }) (v := _) [17, 18, 19] [] (Or.inl ⟨by rfl, Or.inl ?hy53⟩) ?r_53
        case hy53=>(intro w' kk ss; obtain⟨x0,x1,x2',x3⟩:=bx4 (BC.out.since (HW.out.trans (hr0.trans kk))); have qa:=CA.out _ (hr0.trans kk); have qb:=CB.out _ (hr0.trans kk); have qv:=CV.out _ (hr0.trans kk); go_simp; first | done | with_reducible rfl)
        try simp only[Act.put,Reg.l1,Reg.l2,Reg.l3]
        refine' Reg.tk (i := 17) (oi := { dst := some 32, op := Op.binOp BinOp.add 2 (Operand.tmp 26) (Operand.tmp 31) 2, type := 2, pos := "ref.go:104", after := #[{ on := 11, ground := Ground.data }, { on := 16, ground := Ground.data }, { on := 6, ground := Ground.guard }], guard := some (6, true) }) (v := _) [18, 19] [] (Or.inl ⟨by rfl, Or.inl ?hy54⟩) ?r_54
        case hy54=>(intro w' kk ss; obtain⟨x0,x1,x2',x3⟩:=bx4 (BC.out.since (HW.out.trans (hr0.trans kk))); have qa:=CA.out _ (hr0.trans kk); have qb:=CB.out _ (hr0.trans kk); have qv:=CV.out _ (hr0.trans kk); go_simp; first | done | with_reducible rfl)
        try simp only[Act.put,Reg.l1,Reg.l2,Reg.l3]
        refine' Reg.tk (i := 18) (oi := { dst := some 33, op := Op.binOp BinOp.lss 2 (Operand.tmp 22) (Operand.tmp 32) 2, type := 4, pos := "ref.go:104", after := #[{ on := 7, ground := Ground.data }, { on := 17, ground := Ground.data }, { on := 6, ground := Ground.guard }], guard := some (6, true) }) (v := _) [19] [] (Or.inl ⟨by rfl, Or.inl ?hy55⟩) ?r_55
        case hy55=>(intro w' kk ss; obtain⟨x0,x1,x2',x3⟩:=bx4 (BC.out.since (HW.out.trans (hr0.trans kk))); have qa:=CA.out _ (hr0.trans kk); have qb:=CB.out _ (hr0.trans kk); have qv:=CV.out _ (hr0.trans kk); go_simp; first | done | with_reducible rfl)
        try simp only[Act.put,Reg.l1,Reg.l2,Reg.l3]
        refine' Reg.tk (i := 19) (oi := { dst := some 34, op := Op.pick (Operand.tmp 21) (Operand.tmp 33) (Operand.const (Value.bool false)), type := 4, pos := "ref.go:104", after := #[{ on := 6, ground := Ground.data }, { on := 18, ground := Ground.data }], guard := none }) (v := _) [] [] (Or.inl ⟨by rfl, Or.inl ?hy56⟩) ?r_56
        case hy56=>(intro w' kk ss; obtain⟨x0,x1,x2',x3⟩:=bx4 (BC.out.since (HW.out.trans (hr0.trans kk))); have qa:=CA.out _ (hr0.trans kk); have qb:=CB.out _ (hr0.trans kk); have qv:=CV.out _ (hr0.trans kk); go_simp; first | done | with_reducible rfl)
        try simp only[Act.put,Reg.l1,Reg.l2,Reg.l3]
        refine Reg.wpG_done (by kernel_rfl) (fun we ke se => ?_) _
        refine NoPanic.normal ?_
        have hr0:=hr0.trans ke
        clear ke
        simp only[HWa.out]
        obtain⟨_,_,_,_⟩:=bx4 (BC.out.since (HW.out.trans hr0))
        have qb:=CB.out _ hr0
        go_wp2
        go_roundw
        case rel=>exact⟨j+1,z,by go_num,by go_num,by omega,by omega,by omega,HE.out,HW.out.trans hr0⟩
        case measure=>simp[intOf]; omega
    · have HE:=Lib.hid (show z+ld ((tks l ca).drop (j+1)) t=R by rw[← ST.out,if_neg (fun e=>c1 e.1)]; omega)
      clear ST
      have z1:decide (s≤t)=false:=decide_eq_false c1
      go_wp2
      have hr0:Since wr wr.drew:=Since.drew (Since.refl wr)
      refine wp_region_noPanic ?_
      refine Reg.wp_region_G (S:=fun _=>True) (fun j => [].contains j) (by kernel_rfl) trivial ?_
      refine' Reg.tk (i := 0) (oi := { dst := some 15, op := Op.move (Operand.tmp 1), type := 23, pos := "ref.go:104", after := #[], guard := none }) (v := _) [2, 3, 5, 6, 7, 8, 9, 10, 11, 12, 13, 14, 15, 16, 17, 18, 19] [] (Or.inl ⟨by rfl, Or.inl ?hy58⟩) ?r_58
      case hy58=>(intro w' kk ss; obtain⟨x0,x1,x2',x3⟩:=bx4 (BC.out.since (HW.out.trans (hr0.trans kk))); have qa:=CA.out _ (hr0.trans kk); have qb:=CB.out _ (hr0.trans kk); have qv:=CV.out _ (hr0.trans kk); go_simp; first | done | with_reducible rfl)
      try simp only[Act.put,Reg.l1,Reg.l2,Reg.l3]
      refine' Reg.tk (i := 1) (oi := { dst := some 16, op := Op.move (Operand.tmp 8), type := 3, pos := "ref.go:104", after := #[], guard := none }) (v := _) [2, 3, 5, 6, 7, 8, 9, 10, 11, 12, 13, 14, 15, 16, 17, 18, 19] [] (Or.inl ⟨by rfl, Or.inl ?hy59⟩) ?r_59
      case hy59=>(intro w' kk ss; obtain⟨x0,x1,x2',x3⟩:=bx4 (BC.out.since (HW.out.trans (hr0.trans kk))); have qa:=CA.out _ (hr0.trans kk); have qb:=CB.out _ (hr0.trans kk); have qv:=CV.out _ (hr0.trans kk); go_simp; first | done | with_reducible rfl)
      try simp only[Act.put,Reg.l1,Reg.l2,Reg.l3]
      refine' Reg.tk (i := 2) (oi := { dst := some 17, op := Op.indexAddr 23 (Operand.tmp 15) (Operand.tmp 16), type := 0, pos := "ref.go:104", after := #[{ on := 0, ground := Ground.data }, { on := 1, ground := Ground.data }], guard := none }) (v := _) [3, 5, 6, 7, 8, 9, 10, 11, 12, 13, 14, 15, 16, 17, 18, 19] [] (Or.inl ⟨by rfl, Or.inl ?hy60⟩) ?r_60
      case hy60=>(intro w' kk ss; obtain⟨x0,x1,x2',x3⟩:=bx4 (BC.out.since (HW.out.trans (hr0.trans kk))); have qa:=CA.out _ (hr0.trans kk); have qb:=CB.out _ (hr0.trans kk); have qv:=CV.out _ (hr0.trans kk); go_simp; first | done | with_reducible rfl)
      try simp only[Act.put,Reg.l1,Reg.l2,Reg.l3]
      refine' Reg.tk (i := 3) (oi := { dst := some 18, op := Op.load 2 (Operand.tmp 17), type := 2, pos := "ref.go:104", after := #[{ on := 2, ground := Ground.data }], guard := none }) (v := _) [5, 6, 7, 8, 9, 10, 11, 12, 13, 14, 15, 16, 17, 18, 19] [] (Or.inl ⟨by rfl, Or.inl ?hy61⟩) ?r_61
      case hy61=>(intro w' kk ss; obtain⟨x0,x1,x2',x3⟩:=bx4 (BC.out.since (HW.out.trans (hr0.trans kk))); have qa:=CA.out _ (hr0.trans kk); have qb:=CB.out _ (hr0.trans kk); have qv:=CV.out _ (hr0.trans kk); go_simp; first | done | with_reducible rfl)
      try simp only[Act.put,Reg.l1,Reg.l2,Reg.l3]
      refine' Reg.tk (i := 4) (oi := { dst := some 19, op := Op.move (Operand.tmp 2), type := 2, pos := "ref.go:104", after := #[], guard := none }) (v := _) [5, 6, 7, 8, 9, 10, 11, 12, 13, 14, 15, 16, 17, 18, 19] [] (Or.inl ⟨by rfl, Or.inl ?hy62⟩) ?r_62
      case hy62=>(intro w' kk ss; obtain⟨x0,x1,x2',x3⟩:=bx4 (BC.out.since (HW.out.trans (hr0.trans kk))); have qa:=CA.out _ (hr0.trans kk); have qb:=CB.out _ (hr0.trans kk); have qv:=CV.out _ (hr0.trans kk); go_simp; first | done | with_reducible rfl)
      try simp only[Act.put,Reg.l1,Reg.l2,Reg.l3]
      refine' Reg.tk (i := 5) (oi := { dst := some 20, op := Op.binOp BinOp.leq 2 (Operand.tmp 18) (Operand.tmp 19) 2, type := 4, pos := "ref.go:104", after := #[{ on := 3, ground := Ground.data }, { on := 4, ground := Ground.data }], guard := none }) (v := _) [6, 7, 8, 9, 10, 11, 12, 13, 14, 15, 16, 17, 18, 19] [] (Or.inl ⟨by rfl, Or.inl ?hy63⟩) ?r_63
      case hy63=>(intro w' kk ss; obtain⟨x0,x1,x2',x3⟩:=bx4 (BC.out.since (HW.out.trans (hr0.trans kk))); have qa:=CA.out _ (hr0.trans kk); have qb:=CB.out _ (hr0.trans kk); have qv:=CV.out _ (hr0.trans kk); go_simp; first | done | with_reducible rfl)
      try simp only[Act.put,Reg.l1,Reg.l2,Reg.l3]
      refine' Reg.tk (i := 6) (oi := { dst := some 21, op := Op.move (Operand.tmp 20), type := 4, pos := "ref.go:104", after := #[{ on := 5, ground := Ground.data }], guard := none }) (v := _) [7, 8, 9, 10, 11, 12, 13, 14, 15, 16, 17, 18, 19] [] (Or.inl ⟨by rfl, Or.inl ?hy64⟩) ?r_64
      case hy64=>(intro w' kk ss; obtain⟨x0,x1,x2',x3⟩:=bx4 (BC.out.since (HW.out.trans (hr0.trans kk))); have qa:=CA.out _ (hr0.trans kk); have qb:=CB.out _ (hr0.trans kk); have qv:=CV.out _ (hr0.trans kk); go_simp; first | done | with_reducible rfl)
      try simp only[Act.put,Reg.l1,Reg.l2,Reg.l3]
      refine Reg.tk (i := 7) (oi := { dst := some 22, op := Op.move (Operand.tmp 2), type := 2, pos := "ref.go:104", after := #[{ on := 6, ground := Ground.guard }], guard := some (6, true) }) (v := undef) [18, 19] [] (Or.inr ⟨by rfl, rfl⟩) ?_
      try simp only[Act.put,Reg.l1,Reg.l2,Reg.l3]
      refine Reg.tk (i := 8) (oi := { dst := some 23, op := Op.move (Operand.tmp 1), type := 23, pos := "ref.go:104", after := #[{ on := 6, ground := Ground.guard }], guard := some (6, true) }) (v := undef) [10, 11, 17, 18, 19] [] (Or.inr ⟨by rfl, rfl⟩) ?_
      try simp only[Act.put,Reg.l1,Reg.l2,Reg.l3]
      refine Reg.tk (i := 9) (oi := { dst := some 24, op := Op.move (Operand.tmp 8), type := 3, pos := "ref.go:104", after := #[{ on := 6, ground := Ground.guard }], guard := some (6, true) }) (v := undef) [10, 11, 17, 18, 19] [] (Or.inr ⟨by rfl, rfl⟩) ?_
      try simp only[Act.put,Reg.l1,Reg.l2,Reg.l3]
      refine Reg.tk (i := 10) (oi := { dst := some 25, op := Op.indexAddr 23 (Operand.tmp 23) (Operand.tmp 24), type := 0, pos := "ref.go:104", after := #[{ on := 8, ground := Ground.data }, { on := 9, ground := Ground.data }, { on := 6, ground := Ground.guard }], guard := some (6, true) }) (v := undef) [11, 17, 18, 19] [] (Or.inr ⟨by rfl, rfl⟩) ?_
      try simp only[Act.put,Reg.l1,Reg.l2,Reg.l3]
      refine Reg.tk (i := 11) (oi := { dst := some 26, op := Op.load 2 (Operand.tmp 25), type := 2, pos := "ref.go:104", after := #[{ on := 10, ground := Ground.data }, { on := 6, ground := Ground.guard }], guard := some (6, true) }) (v := undef) [17, 18, 19] [] (Or.inr ⟨by rfl, rfl⟩) ?_
      try simp only[Act.put,Reg.l1,Reg.l2,Reg.l3]
      refine Reg.tk (i := 12) (oi := { dst := some 27, op := Op.fieldAddr 25 (Operand.tmp 3) 2, type := 0, pos := "ref.go:104", after := #[{ on := 6, ground := Ground.guard }], guard := some (6, true) }) (v := undef) [13, 15, 16, 17, 18, 19] [] (Or.inr ⟨by rfl, rfl⟩) ?_
      try simp only[Act.put,Reg.l1,Reg.l2,Reg.l3]
      refine Reg.tk (i := 13) (oi := { dst := some 28, op := Op.load 23 (Operand.tmp 27), type := 23, pos := "ref.go:104", after := #[{ on := 12, ground := Ground.data }, { on := 6, ground := Ground.guard }], guard := some (6, true) }) (v := undef) [15, 16, 17, 18, 19] [] (Or.inr ⟨by rfl, rfl⟩) ?_
      try simp only[Act.put,Reg.l1,Reg.l2,Reg.l3]
      refine Reg.tk (i := 14) (oi := { dst := some 29, op := Op.move (Operand.tmp 8), type := 3, pos := "ref.go:104", after := #[{ on := 6, ground := Ground.guard }], guard := some (6, true) }) (v := undef) [15, 16, 17, 18, 19] [] (Or.inr ⟨by rfl, rfl⟩) ?_
      try simp only[Act.put,Reg.l1,Reg.l2,Reg.l3]
      refine Reg.tk (i := 15) (oi := { dst := some 30, op := Op.indexAddr 23 (Operand.tmp 28) (Operand.tmp 29), type := 0, pos := "ref.go:104", after := #[{ on := 13, ground := Ground.data }, { on := 14, ground := Ground.data }, { on := 6, ground := Ground.guard }], guard := some (6, true) }) (v := undef) [16, 17, 18, 19] [] (Or.inr ⟨by rfl, rfl⟩) ?_
      try simp only[Act.put,Reg.l1,Reg.l2,Reg.l3]
      refine Reg.tk (i := 16) (oi := { dst := some 31, op := Op.load 2 (Operand.tmp 30), type := 2, pos := "ref.go:104", after := #[{ on := 15, ground := Ground.data }, { on := 6, ground := Ground.guard }], guard := some (6, true) }) (v := undef) [17, 18, 19] [] (Or.inr ⟨by rfl, rfl⟩) ?_
      try simp only[Act.put,Reg.l1,Reg.l2,Reg.l3]
      refine Reg.tk (i := 17) (oi := { dst := some 32, op := Op.binOp BinOp.add 2 (Operand.tmp 26) (Operand.tmp 31) 2, type := 2, pos := "ref.go:104", after := #[{ on := 11, ground := Ground.data }, { on := 16, ground := Ground.data }, { on := 6, ground := Ground.guard }], guard := some (6, true) }) (v := undef) [18, 19] [] (Or.inr ⟨by rfl, rfl⟩) ?_
      try simp only[Act.put,Reg.l1,Reg.l2,Reg.l3]
      refine Reg.tk (i := 18) (oi := { dst := some 33, op := Op.binOp BinOp.lss 2 (Operand.tmp 22) (Operand.tmp 32) 2, type := 4, pos := "ref.go:104", after := #[{ on := 7, ground := Ground.data }, { on := 17, ground := Ground.data }, { on := 6, ground := Ground.guard }], guard := some (6, true) }) (v := undef) [19] [] (Or.inr ⟨by rfl, rfl⟩) ?_
      try simp only[Act.put,Reg.l1,Reg.l2,Reg.l3]
      refine' Reg.tk (i := 19) (oi := { dst := some 34, op := Op.pick (Operand.tmp 21) (Operand.tmp 33) (Operand.const (Value.bool false)), type := 4, pos := "ref.go:104", after := #[{ on := 6, ground := Ground.data }, { on := 18, ground := Ground.data }], guard := none }) (v := _) [] [] (Or.inl ⟨by rfl, Or.inl ?hy65⟩) ?r_65
      case hy65=>(intro w' kk ss; obtain⟨x0,x1,x2',x3⟩:=bx4 (BC.out.since (HW.out.trans (hr0.trans kk))); have qa:=CA.out _ (hr0.trans kk); have qb:=CB.out _ (hr0.trans kk); have qv:=CV.out _ (hr0.trans kk); go_simp; first | done | with_reducible rfl)
      try simp only[Act.put,Reg.l1,Reg.l2,Reg.l3]
      refine Reg.wpG_done (by kernel_rfl) (fun we ke se => ?_) _
      refine NoPanic.normal ?_
      have hr0:=hr0.trans ke
      clear ke
      obtain⟨_,_,_,_⟩:=bx4 (BC.out.since (HW.out.trans hr0))
      have qb:=CB.out _ hr0
      go_wp2
      go_roundw
      case rel=>exact⟨j+1,z,by go_num,by go_num,by omega,by omega,by omega,HE.out,HW.out.trans hr0⟩
      case measure=>simp[intOf]; omega
  · obtain rfl:nv=j:=by omega
    have HE2:=Lib.hid (show z=R by rw[← HE.out,List.drop_of_length_le (by rw[tks_len (by have:=HNA.out; have:=HNV.out; have:=HN2.out; omega)]; have:=HNV.out; omega)]; simp[ld])
    go_wp2
    go_ret
    exact RetI.of HE2.out (ka.out.trans HW.out)
def tskE (c:Int) (v a:List Int) (i:Nat):Bool:=!(decide (0<a.getD i 0) && decide (c<ld (tks v a) (v.getD i 0)))
theorem rtasks_any (v vv:Value) (c:Cn) (l:List Int) (w:World) (h:ConAt w v c) (hv:Sl 1 QI w vv l) (hn:c.a.length=2*l.length) (hl:l.length≤1000) (hwa:c.a.all within=true) (hwv:l.all within=true) :
 Calls Try.prog 70 #[v,vv] w (RetT (tasksV l c.a c.c) w):=by
 obtain⟨vx,vy,rfl,h1,h2⟩:=h
 obtain⟨ck,cx,ca,cc⟩:=c
 simp only at *
 obtain⟨X,xc,rfl⟩:=h1.form
 obtain⟨Y,yc,rfl⟩:=h2.form
 obtain⟨V,vc,rfl⟩:=hv.form
 obtain⟨R,hR⟩:∃ R,R=tasksV l ca cc:=⟨_,rfl⟩
 rw[← hR]
 have HR:=Lib.hid (show allI l.length (tskE cc l ca)=R from hR.symm)
 have LD:=Lib.hid (fun (t:Int) (ht:fits t) (L:Int) (hL:ld (tks l ca) t=L) W (k:Since w W)=>show Calls Try.prog 100 #[.agg #[.int .i64 ck,.slice X cx.length xc,.slice Y ca.length yc,.int .i64 cc],.slice V l.length vc,.int .i64 t] W (fun e w'=>e = .returned (.int .i64 L)∧Since W w'∧True) by subst hL; exact (rload_any _ _ ⟨ck,cx,ca,cc⟩ l t W ⟨_,_,rfl,h1.since stI k,h2.since stI k⟩ (hv.since stI k) hn hl hwa hwv ht).mono fun e w' h=>⟨h.1,h.2,trivial⟩)
 obtain⟨na,hna⟩:∃ n,n=ca.length:=⟨_,rfl⟩
 obtain⟨nv,hnv⟩:∃ n,n=l.length:=⟨_,rfl⟩
 obtain⟨nx,hnx⟩:∃ n,n=cx.length:=⟨_,rfl⟩
 rw[← hnx] at LD ⊢
 rw[← hna] at LD h2 hn ⊢
 rw[← hnv] at LD HR hv hn hl ⊢
 have H2:=Lib.hid h2
 have H3:=Lib.hid hv
 have HNA:=Lib.hid hna
 have HNV:=Lib.hid hnv
 have HA:=Lib.hid (List.all_eq_true.1 hwa)
 have HV:=Lib.hid (List.all_eq_true.1 hwv)
 have HN2:=Lib.hid hn
 have ka:=Lib.hid (sA w (.cells #[.int .i64 ck,.slice X nx xc,.slice Y na yc,.int .i64 cc] 25))
 have BC:=Lib.hid (Bx.fresh w #[.int .i64 ck,.slice X nx xc,.slice Y na yc,.int .i64 cc] 25)
 clear h1 h2 hv hna hnv hnx hR hwa hwv hn
 go_enter Try.func70,Try.ntmps70
 go_wp2
 go_loopw [5] (fun i wr=>∃ (j:Nat),i = .int .i64 (j:Int)∧j≤nv∧Hid (∀ i,i<j→tskE cc l ca i=true)∧Hid (Since (w.alloc (.cells #[.int .i64 ck,.slice X nx xc,.slice Y na yc,.int .i64 cc] 25)) wr)) (fun i _=>nv - (intOf i).toNat)
 case atStart=>exact⟨0,rfl,Nat.zero_le _,fun i hi=>absurd hi (Nat.not_lt_zero _),Since.refl _⟩
 case round =>
  obtain⟨j,rfl,hj,HE,HW⟩:=hrel
  obtain⟨_,_,_,_⟩:=bx4 (BC.out.since HW.out)
  by_cases hjn:j<nv
  · have hjv:j<l.length:=by have:=HNV.out; omega
    have hja:j<ca.length:=by have:=HNA.out; have:=HN2.out; omega
    have hja2:j<na:=by have:=HN2.out; omega
    obtain⟨g',o',rfl,e1⟩:=elI (H3.out.since stI (ka.out.trans HW.out)) hjv
    obtain⟨g,o,hY,e0⟩:=elI (H2.out.since stI (ka.out.trans HW.out)) hja
    subst hY
    have CA:=Lib.hid (fun W (k:Since wr W)=>show W.cell? ⟨g,o+j,none⟩=some (.int .i64 ca[j]) by obtain⟨g',o',h',e'⟩:=elI (H2.out.since stI (ka.out.trans (HW.out.trans k))) hja; cases h'; exact e')
    have CV:=Lib.hid (fun W (k:Since wr W)=>show W.cell? ⟨g',o'+j,none⟩=some (.int .i64 l[j]) by obtain⟨g',o',h',e'⟩:=elI (H3.out.since stI (ka.out.trans (HW.out.trans k))) hjv; cases h'; exact e')
    have hft:fits l[j]:=by have:=(within_iff' _).1 (HV.out _ (List.getElem_mem hjv)); simp only[fits]; omega
    obtain⟨L,hL⟩:∃ L,ld (tks l ca) l[j]=L:=⟨_,rfl⟩
    have LB:=Lib.hid (LD.out _ hft L hL)
    have ht:tskE cc l ca j = !(decide (0<ca[j]) && decide (cc<L)):=by rw[tskE,show ca.getD j 0=ca[j] by simp[List.getD,hja],show l.getD j 0=l[j] by simp[List.getD,hjv],hL]
    generalize ca[j]=d at *
    generalize l[j]=s at *
    have HT:=Lib.hid ht
    clear ht hft hL hja hjv
    by_cases c1:0<d
    · have z1:decide (0<d)=true:=decide_eq_true c1
      by_cases c2:cc<L
      · have z2:decide (cc<L)=true:=decide_eq_true c2
        have HE2:=Lib.hid (show false=R by rw[← HR.out]; exact (allI_no hjn (by rw[HT.out,z1,z2]; rfl)).symm)
        go_wp2
        have hr0:Since wr wr.drew:=Since.drew (Since.refl wr)
        refine wp_region_noPanic ?_
        refine Reg.wp_region_G (S:=fun _=>True) (fun j => [].contains j) (by kernel_rfl) trivial ?_
        refine' Reg.tk (i := 0) (oi := { dst := some 12, op := Op.fieldAddr 25 (Operand.tmp 2) 2, type := 0, pos := "ref.go:114", after := #[], guard := none }) (v := _) [1, 3, 4, 5, 6, 7, 8, 9, 10, 11, 12, 13, 14, 15, 16, 17] [] (Or.inl ⟨by rfl, Or.inl ?hy67⟩) ?r_67
        case hy67=>(intro w' kk ss; obtain⟨x0,x1,x2',x3⟩:=bx4 (BC.out.since (HW.out.trans (hr0.trans kk))); have qa:=CA.out _ (hr0.trans kk); have qv:=CV.out _ (hr0.trans kk); go_simp; first | done | with_reducible rfl)
        try simp only[Act.put,Reg.l1,Reg.l2,Reg.l3]
        refine' Reg.tk (i := 1) (oi := { dst := some 13, op := Op.load 23 (Operand.tmp 12), type := 23, pos := "ref.go:114", after := #[{ on := 0, ground := Ground.data }], guard := none }) (v := _) [3, 4, 5, 6, 7, 8, 9, 10, 11, 12, 13, 14, 15, 16, 17] [] (Or.inl ⟨by rfl, Or.inl ?hy68⟩) ?r_68
        case hy68=>(intro w' kk ss; obtain⟨x0,x1,x2',x3⟩:=bx4 (BC.out.since (HW.out.trans (hr0.trans kk))); have qa:=CA.out _ (hr0.trans kk); have qv:=CV.out _ (hr0.trans kk); go_simp; first | done | with_reducible rfl)
        try simp only[Act.put,Reg.l1,Reg.l2,Reg.l3]
        refine' Reg.tk (i := 2) (oi := { dst := some 14, op := Op.move (Operand.tmp 5), type := 3, pos := "ref.go:114", after := #[], guard := none }) (v := _) [3, 4, 5, 6, 7, 8, 9, 10, 11, 12, 13, 14, 15, 16, 17] [] (Or.inl ⟨by rfl, Or.inl ?hy69⟩) ?r_69
        case hy69=>(intro w' kk ss; obtain⟨x0,x1,x2',x3⟩:=bx4 (BC.out.since (HW.out.trans (hr0.trans kk))); have qa:=CA.out _ (hr0.trans kk); have qv:=CV.out _ (hr0.trans kk); go_simp; first | done | with_reducible rfl)
        try simp only[Act.put,Reg.l1,Reg.l2,Reg.l3]
        refine' Reg.tk (i := 3) (oi := { dst := some 15, op := Op.indexAddr 23 (Operand.tmp 13) (Operand.tmp 14), type := 0, pos := "ref.go:114", after := #[{ on := 1, ground := Ground.data }, { on := 2, ground := Ground.data }], guard := none }) (v := _) [4, 5, 6, 7, 8, 9, 10, 11, 12, 13, 14, 15, 16, 17] [] (Or.inl ⟨by rfl, Or.inl ?hy70⟩) ?r_70
        case hy70=>(intro w' kk ss; obtain⟨x0,x1,x2',x3⟩:=bx4 (BC.out.since (HW.out.trans (hr0.trans kk))); have qa:=CA.out _ (hr0.trans kk); have qv:=CV.out _ (hr0.trans kk); go_simp; first | done | with_reducible rfl)
        try simp only[Act.put,Reg.l1,Reg.l2,Reg.l3]
        refine' Reg.tk (i := 4) (oi := { dst := some 16, op := Op.load 2 (Operand.tmp 15), type := 2, pos := "ref.go:114", after := #[{ on := 3, ground := Ground.data }], guard := none }) (v := _) [5, 6, 7, 8, 9, 10, 11, 12, 13, 14, 15, 16, 17] [] (Or.inl ⟨by rfl, Or.inl ?hy71⟩) ?r_71
        case hy71=>(intro w' kk ss; obtain⟨x0,x1,x2',x3⟩:=bx4 (BC.out.since (HW.out.trans (hr0.trans kk))); have qa:=CA.out _ (hr0.trans kk); have qv:=CV.out _ (hr0.trans kk); go_simp; first | done | with_reducible rfl)
        try simp only[Act.put,Reg.l1,Reg.l2,Reg.l3]
        refine' Reg.tk (i := 5) (oi := { dst := some 17, op := Op.binOp BinOp.gtr 2 (Operand.tmp 16) (Operand.const (Value.int IntKind.i64 0)) 2, type := 4, pos := "ref.go:114", after := #[{ on := 4, ground := Ground.data }], guard := none }) (v := _) [6, 7, 8, 9, 10, 11, 12, 13, 14, 15, 16, 17] [] (Or.inl ⟨by rfl, Or.inl ?hy72⟩) ?r_72
        case hy72=>(intro w' kk ss; obtain⟨x0,x1,x2',x3⟩:=bx4 (BC.out.since (HW.out.trans (hr0.trans kk))); have qa:=CA.out _ (hr0.trans kk); have qv:=CV.out _ (hr0.trans kk); go_simp; first | done | with_reducible rfl)
        try simp only[Act.put,Reg.l1,Reg.l2,Reg.l3]
        refine' Reg.tk (i := 6) (oi := { dst := some 18, op := Op.move (Operand.tmp 17), type := 4, pos := "ref.go:114", after := #[{ on := 5, ground := Ground.data }], guard := none }) (v := _) [7, 8, 9, 10, 11, 12, 13, 14, 15, 16, 17] [] (Or.inl ⟨by rfl, Or.inl ?hy73⟩) ?r_73
        case hy73=>(intro w' kk ss; obtain⟨x0,x1,x2',x3⟩:=bx4 (BC.out.since (HW.out.trans (hr0.trans kk))); have qa:=CA.out _ (hr0.trans kk); have qv:=CV.out _ (hr0.trans kk); go_simp; first | done | with_reducible rfl)
        try simp only[Act.put,Reg.l1,Reg.l2,Reg.l3]
        refine' Reg.tk (i := 7) (oi := { dst := some 19, op := Op.load 25 (Operand.tmp 2), type := 25, pos := "ref.go:114", after := #[{ on := 6, ground := Ground.guard }], guard := some (6, true) }) (v := _) [13, 16, 17] [] (Or.inl ⟨by rfl, Or.inl ?hy74⟩) ?r_74
        case hy74=>(intro w' kk ss; obtain⟨x0,x1,x2',x3⟩:=bx4 (BC.out.since (HW.out.trans (hr0.trans kk))); have qa:=CA.out _ (hr0.trans kk); have qv:=CV.out _ (hr0.trans kk); go_simp; first | done | with_reducible rfl)
        try simp only[Act.put,Reg.l1,Reg.l2,Reg.l3]
        refine' Reg.tk (i := 8) (oi := { dst := some 20, op := Op.move (Operand.tmp 1), type := 23, pos := "ref.go:114", after := #[{ on := 6, ground := Ground.guard }], guard := some (6, true) }) (v := _) [13, 16, 17] [] (Or.inl ⟨by rfl, Or.inl ?hy75⟩) ?r_75
        case hy75=>(intro w' kk ss; obtain⟨x0,x1,x2',x3⟩:=bx4 (BC.out.since (HW.out.trans (hr0.trans kk))); have qa:=CA.out _ (hr0.trans kk); have qv:=CV.out _ (hr0.trans kk); go_simp; first | done | with_reducible rfl)
        try simp only[Act.put,Reg.l1,Reg.l2,Reg.l3]
        refine' Reg.tk (i := 9) (oi := { dst := some 21, op := Op.move (Operand.tmp 1), type := 23, pos := "ref.go:114", after := #[{ on := 6, ground := Ground.guard }], guard := some (6, true) }) (v := _) [11, 12, 13, 16, 17] [] (Or.inl ⟨by rfl, Or.inl ?hy76⟩) ?r_76
        case hy76=>(intro w' kk ss; obtain⟨x0,x1,x2',x3⟩:=bx4 (BC.out.since (HW.out.trans (hr0.trans kk))); have qa:=CA.out _ (hr0.trans kk); have qv:=CV.out _ (hr0.trans kk); go_simp; first | done | with_reducible rfl)
        try simp only[Act.put,Reg.l1,Reg.l2,Reg.l3]
        refine' Reg.tk (i := 10) (oi := { dst := some 22, op := Op.move (Operand.tmp 5), type := 3, pos := "ref.go:114", after := #[{ on := 6, ground := Ground.guard }], guard := some (6, true) }) (v := _) [11, 12, 13, 16, 17] [] (Or.inl ⟨by rfl, Or.inl ?hy77⟩) ?r_77
        case hy77=>(intro w' kk ss; obtain⟨x0,x1,x2',x3⟩:=bx4 (BC.out.since (HW.out.trans (hr0.trans kk))); have qa:=CA.out _ (hr0.trans kk); have qv:=CV.out _ (hr0.trans kk); go_simp; first | done | with_reducible rfl)
        try simp only[Act.put,Reg.l1,Reg.l2,Reg.l3]
        refine' Reg.tk (i := 11) (oi := { dst := some 23, op := Op.indexAddr 23 (Operand.tmp 21) (Operand.tmp 22), type := 0, pos := "ref.go:114", after := #[{ on := 9, ground := Ground.data }, { on := 10, ground := Ground.data }, { on := 6, ground := Ground.guard }], guard := some (6, true) }) (v := _) [12, 13, 16, 17] [] (Or.inl ⟨by rfl, Or.inl ?hy78⟩) ?r_78
        case hy78=>(intro w' kk ss; obtain⟨x0,x1,x2',x3⟩:=bx4 (BC.out.since (HW.out.trans (hr0.trans kk))); have qa:=CA.out _ (hr0.trans kk); have qv:=CV.out _ (hr0.trans kk); go_simp; first | done | with_reducible rfl)
        try simp only[Act.put,Reg.l1,Reg.l2,Reg.l3]
        refine' Reg.tk (i := 12) (oi := { dst := some 24, op := Op.load 2 (Operand.tmp 23), type := 2, pos := "ref.go:114", after := #[{ on := 11, ground := Ground.data }, { on := 6, ground := Ground.guard }], guard := some (6, true) }) (v := _) [13, 16, 17] [] (Or.inl ⟨by rfl, Or.inl ?hy79⟩) ?r_79
        case hy79=>(intro w' kk ss; obtain⟨x0,x1,x2',x3⟩:=bx4 (BC.out.since (HW.out.trans (hr0.trans kk))); have qa:=CA.out _ (hr0.trans kk); have qv:=CV.out _ (hr0.trans kk); go_simp; first | done | with_reducible rfl)
        try simp only[Act.put,Reg.l1,Reg.l2,Reg.l3]
        refine Reg.tk (i := 13) (oi := { dst := some 25, op := Op.call { callee := Callee.value (Operand.func 100), args := #[Operand.tmp 19, Operand.tmp 20, Operand.tmp 24], argTypes := #[25, 23, 2] }, type := 2, pos := "ref.go:114", after := #[{ on := 7, ground := Ground.data }, { on := 8, ground := Ground.data }, { on := 12, ground := Ground.data }, { on := 6, ground := Ground.chain }, { on := 6, ground := Ground.guard }], guard := some (6, true) }) (v := .int .i64 L) [16, 17] [] (Or.inl ⟨by rfl, Or.inr ⟨100, #[.agg #[.int .i64 ck, .slice X nx xc, .slice (some ⟨g, o, none⟩) na yc, .int .i64 cc], .slice (some ⟨g', o', none⟩) nv vc, .int .i64 s], fun w' kk ss => ⟨?_, ?_⟩⟩⟩) ?_
        · (try dsimp only at ss); go_simp
        · exact LB.out w' (ka.out.trans (HW.out.trans (hr0.trans kk)))
        try simp only[Act.put,Reg.l1,Reg.l2,Reg.l3]
        refine' Reg.tk (i := 14) (oi := { dst := some 26, op := Op.fieldAddr 25 (Operand.tmp 2) 3, type := 0, pos := "ref.go:114", after := #[{ on := 6, ground := Ground.guard }], guard := some (6, true) }) (v := _) [15, 16, 17] [] (Or.inl ⟨by rfl, Or.inl ?hy80⟩) ?r_80
        case hy80=>(intro w' kk ss; obtain⟨x0,x1,x2',x3⟩:=bx4 (BC.out.since (HW.out.trans (hr0.trans kk))); have qa:=CA.out _ (hr0.trans kk); have qv:=CV.out _ (hr0.trans kk); go_simp; first | done | with_reducible rfl)
        try simp only[Act.put,Reg.l1,Reg.l2,Reg.l3]
        refine' Reg.tk (i := 15) (oi := { dst := some 27, op := Op.load 2 (Operand.tmp 26), type := 2, pos := "ref.go:114", after := #[{ on := 14, ground := Ground.data }, { on := 6, ground := Ground.guard }], guard := some (6, true) }) (v := _) [16, 17] [] (Or.inl ⟨by rfl, Or.inl ?hy81⟩) ?r_81
        case hy81=>(intro w' kk ss; obtain⟨x0,x1,x2',x3⟩:=bx4 (BC.out.since (HW.out.trans (hr0.trans kk))); have qa:=CA.out _ (hr0.trans kk); have qv:=CV.out _ (hr0.trans kk); go_simp; first | done | with_reducible rfl)
        try simp only[Act.put,Reg.l1,Reg.l2,Reg.l3]
        refine' Reg.tk (i := 16) (oi := { dst := some 28, op := Op.binOp BinOp.gtr 2 (Operand.tmp 25) (Operand.tmp 27) 2, type := 4, pos := "ref.go:114", after := #[{ on := 13, ground := Ground.data }, { on := 15, ground := Ground.data }, { on := 6, ground := Ground.guard }], guard := some (6, true) }) (v := _) [17] [] (Or.inl ⟨by rfl, Or.inl ?hy82⟩) ?r_82
        case hy82=>(intro w' kk ss; obtain⟨x0,x1,x2',x3⟩:=bx4 (BC.out.since (HW.out.trans (hr0.trans kk))); have qa:=CA.out _ (hr0.trans kk); have qv:=CV.out _ (hr0.trans kk); go_simp; first | done | with_reducible rfl)
        try simp only[Act.put,Reg.l1,Reg.l2,Reg.l3]
        refine' Reg.tk (i := 17) (oi := { dst := some 29, op := Op.pick (Operand.tmp 18) (Operand.tmp 28) (Operand.const (Value.bool false)), type := 4, pos := "ref.go:114", after := #[{ on := 6, ground := Ground.data }, { on := 16, ground := Ground.data }], guard := none }) (v := _) [] [] (Or.inl ⟨by rfl, Or.inl ?hy83⟩) ?r_83
        case hy83=>(intro w' kk ss; obtain⟨x0,x1,x2',x3⟩:=bx4 (BC.out.since (HW.out.trans (hr0.trans kk))); have qa:=CA.out _ (hr0.trans kk); have qv:=CV.out _ (hr0.trans kk); go_simp; first | done | with_reducible rfl)
        try simp only[Act.put,Reg.l1,Reg.l2,Reg.l3]
        refine Reg.wpG_done (by kernel_rfl) (fun we ke se => ?_) _
        refine NoPanic.normal ?_
        have hr0:=hr0.trans ke
        clear ke
        go_wp2
        go_ret
        exact .of HE2.out (ka.out.trans (HW.out.trans hr0))
      · have z2:decide (cc<L)=false:=decide_eq_false c2
        have zz:(decide (0<d) && decide (cc<L))=false:=by rw[z1,z2]; rfl
        have HE2:=Lib.hid (show ∀ i,i<j+1→tskE cc l ca i=true from fun i hi=>by
         rcases Nat.lt_or_ge i j with h | h
         · exact HE.out i h
         · obtain rfl:i=j:=by omega
           rw[HT.out,zz]; rfl)
        clear zz
        go_wp2
        have hr0:Since wr wr.drew:=Since.drew (Since.refl wr)
        refine wp_region_noPanic ?_
        refine Reg.wp_region_G (S:=fun _=>True) (fun j => [].contains j) (by kernel_rfl) trivial ?_
        refine' Reg.tk (i := 0) (oi := { dst := some 12, op := Op.fieldAddr 25 (Operand.tmp 2) 2, type := 0, pos := "ref.go:114", after := #[], guard := none }) (v := _) [1, 3, 4, 5, 6, 7, 8, 9, 10, 11, 12, 13, 14, 15, 16, 17] [] (Or.inl ⟨by rfl, Or.inl ?hy85⟩) ?r_85
        case hy85=>(intro w' kk ss; obtain⟨x0,x1,x2',x3⟩:=bx4 (BC.out.since (HW.out.trans (hr0.trans kk))); have qa:=CA.out _ (hr0.trans kk); have qv:=CV.out _ (hr0.trans kk); go_simp; first | done | with_reducible rfl)
        try simp only[Act.put,Reg.l1,Reg.l2,Reg.l3]
        refine' Reg.tk (i := 1) (oi := { dst := some 13, op := Op.load 23 (Operand.tmp 12), type := 23, pos := "ref.go:114", after := #[{ on := 0, ground := Ground.data }], guard := none }) (v := _) [3, 4, 5, 6, 7, 8, 9, 10, 11, 12, 13, 14, 15, 16, 17] [] (Or.inl ⟨by rfl, Or.inl ?hy86⟩) ?r_86
        case hy86=>(intro w' kk ss; obtain⟨x0,x1,x2',x3⟩:=bx4 (BC.out.since (HW.out.trans (hr0.trans kk))); have qa:=CA.out _ (hr0.trans kk); have qv:=CV.out _ (hr0.trans kk); go_simp; first | done | with_reducible rfl)
        try simp only[Act.put,Reg.l1,Reg.l2,Reg.l3]
        refine' Reg.tk (i := 2) (oi := { dst := some 14, op := Op.move (Operand.tmp 5), type := 3, pos := "ref.go:114", after := #[], guard := none }) (v := _) [3, 4, 5, 6, 7, 8, 9, 10, 11, 12, 13, 14, 15, 16, 17] [] (Or.inl ⟨by rfl, Or.inl ?hy87⟩) ?r_87
        case hy87=>(intro w' kk ss; obtain⟨x0,x1,x2',x3⟩:=bx4 (BC.out.since (HW.out.trans (hr0.trans kk))); have qa:=CA.out _ (hr0.trans kk); have qv:=CV.out _ (hr0.trans kk); go_simp; first | done | with_reducible rfl)
        try simp only[Act.put,Reg.l1,Reg.l2,Reg.l3]
        refine' Reg.tk (i := 3) (oi := { dst := some 15, op := Op.indexAddr 23 (Operand.tmp 13) (Operand.tmp 14), type := 0, pos := "ref.go:114", after := #[{ on := 1, ground := Ground.data }, { on := 2, ground := Ground.data }], guard := none }) (v := _) [4, 5, 6, 7, 8, 9, 10, 11, 12, 13, 14, 15, 16, 17] [] (Or.inl ⟨by rfl, Or.inl ?hy88⟩) ?r_88
        case hy88=>(intro w' kk ss; obtain⟨x0,x1,x2',x3⟩:=bx4 (BC.out.since (HW.out.trans (hr0.trans kk))); have qa:=CA.out _ (hr0.trans kk); have qv:=CV.out _ (hr0.trans kk); go_simp; first | done | with_reducible rfl)
        try simp only[Act.put,Reg.l1,Reg.l2,Reg.l3]
        refine' Reg.tk (i := 4) (oi := { dst := some 16, op := Op.load 2 (Operand.tmp 15), type := 2, pos := "ref.go:114", after := #[{ on := 3, ground := Ground.data }], guard := none }) (v := _) [5, 6, 7, 8, 9, 10, 11, 12, 13, 14, 15, 16, 17] [] (Or.inl ⟨by rfl, Or.inl ?hy89⟩) ?r_89
        case hy89=>(intro w' kk ss; obtain⟨x0,x1,x2',x3⟩:=bx4 (BC.out.since (HW.out.trans (hr0.trans kk))); have qa:=CA.out _ (hr0.trans kk); have qv:=CV.out _ (hr0.trans kk); go_simp; first | done | with_reducible rfl)
        try simp only[Act.put,Reg.l1,Reg.l2,Reg.l3]
        refine' Reg.tk (i := 5) (oi := { dst := some 17, op := Op.binOp BinOp.gtr 2 (Operand.tmp 16) (Operand.const (Value.int IntKind.i64 0)) 2, type := 4, pos := "ref.go:114", after := #[{ on := 4, ground := Ground.data }], guard := none }) (v := _) [6, 7, 8, 9, 10, 11, 12, 13, 14, 15, 16, 17] [] (Or.inl ⟨by rfl, Or.inl ?hy90⟩) ?r_90
        case hy90=>(intro w' kk ss; obtain⟨x0,x1,x2',x3⟩:=bx4 (BC.out.since (HW.out.trans (hr0.trans kk))); have qa:=CA.out _ (hr0.trans kk); have qv:=CV.out _ (hr0.trans kk); go_simp; first | done | with_reducible rfl)
        try simp only[Act.put,Reg.l1,Reg.l2,Reg.l3]
        refine' Reg.tk (i := 6) (oi := { dst := some 18, op := Op.move (Operand.tmp 17), type := 4, pos := "ref.go:114", after := #[{ on := 5, ground := Ground.data }], guard := none }) (v := _) [7, 8, 9, 10, 11, 12, 13, 14, 15, 16, 17] [] (Or.inl ⟨by rfl, Or.inl ?hy91⟩) ?r_91
        case hy91=>(intro w' kk ss; obtain⟨x0,x1,x2',x3⟩:=bx4 (BC.out.since (HW.out.trans (hr0.trans kk))); have qa:=CA.out _ (hr0.trans kk); have qv:=CV.out _ (hr0.trans kk); go_simp; first | done | with_reducible rfl)
        try simp only[Act.put,Reg.l1,Reg.l2,Reg.l3]
        refine' Reg.tk (i := 7) (oi := { dst := some 19, op := Op.load 25 (Operand.tmp 2), type := 25, pos := "ref.go:114", after := #[{ on := 6, ground := Ground.guard }], guard := some (6, true) }) (v := _) [13, 16, 17] [] (Or.inl ⟨by rfl, Or.inl ?hy92⟩) ?r_92
        case hy92=>(intro w' kk ss; obtain⟨x0,x1,x2',x3⟩:=bx4 (BC.out.since (HW.out.trans (hr0.trans kk))); have qa:=CA.out _ (hr0.trans kk); have qv:=CV.out _ (hr0.trans kk); go_simp; first | done | with_reducible rfl)
        try simp only[Act.put,Reg.l1,Reg.l2,Reg.l3]
        refine' Reg.tk (i := 8) (oi := { dst := some 20, op := Op.move (Operand.tmp 1), type := 23, pos := "ref.go:114", after := #[{ on := 6, ground := Ground.guard }], guard := some (6, true) }) (v := _) [13, 16, 17] [] (Or.inl ⟨by rfl, Or.inl ?hy93⟩) ?r_93
        case hy93=>(intro w' kk ss; obtain⟨x0,x1,x2',x3⟩:=bx4 (BC.out.since (HW.out.trans (hr0.trans kk))); have qa:=CA.out _ (hr0.trans kk); have qv:=CV.out _ (hr0.trans kk); go_simp; first | done | with_reducible rfl)
        try simp only[Act.put,Reg.l1,Reg.l2,Reg.l3]
        refine' Reg.tk (i := 9) (oi := { dst := some 21, op := Op.move (Operand.tmp 1), type := 23, pos := "ref.go:114", after := #[{ on := 6, ground := Ground.guard }], guard := some (6, true) }) (v := _) [11, 12, 13, 16, 17] [] (Or.inl ⟨by rfl, Or.inl ?hy94⟩) ?r_94
        case hy94=>(intro w' kk ss; obtain⟨x0,x1,x2',x3⟩:=bx4 (BC.out.since (HW.out.trans (hr0.trans kk))); have qa:=CA.out _ (hr0.trans kk); have qv:=CV.out _ (hr0.trans kk); go_simp; first | done | with_reducible rfl)
        try simp only[Act.put,Reg.l1,Reg.l2,Reg.l3]
        refine' Reg.tk (i := 10) (oi := { dst := some 22, op := Op.move (Operand.tmp 5), type := 3, pos := "ref.go:114", after := #[{ on := 6, ground := Ground.guard }], guard := some (6, true) }) (v := _) [11, 12, 13, 16, 17] [] (Or.inl ⟨by rfl, Or.inl ?hy95⟩) ?r_95
        case hy95=>(intro w' kk ss; obtain⟨x0,x1,x2',x3⟩:=bx4 (BC.out.since (HW.out.trans (hr0.trans kk))); have qa:=CA.out _ (hr0.trans kk); have qv:=CV.out _ (hr0.trans kk); go_simp; first | done | with_reducible rfl)
        try simp only[Act.put,Reg.l1,Reg.l2,Reg.l3]
        refine' Reg.tk (i := 11) (oi := { dst := some 23, op := Op.indexAddr 23 (Operand.tmp 21) (Operand.tmp 22), type := 0, pos := "ref.go:114", after := #[{ on := 9, ground := Ground.data }, { on := 10, ground := Ground.data }, { on := 6, ground := Ground.guard }], guard := some (6, true) }) (v := _) [12, 13, 16, 17] [] (Or.inl ⟨by rfl, Or.inl ?hy96⟩) ?r_96
        case hy96=>(intro w' kk ss; obtain⟨x0,x1,x2',x3⟩:=bx4 (BC.out.since (HW.out.trans (hr0.trans kk))); have qa:=CA.out _ (hr0.trans kk); have qv:=CV.out _ (hr0.trans kk); go_simp; first | done | with_reducible rfl)
        try simp only[Act.put,Reg.l1,Reg.l2,Reg.l3]
        refine' Reg.tk (i := 12) (oi := { dst := some 24, op := Op.load 2 (Operand.tmp 23), type := 2, pos := "ref.go:114", after := #[{ on := 11, ground := Ground.data }, { on := 6, ground := Ground.guard }], guard := some (6, true) }) (v := _) [13, 16, 17] [] (Or.inl ⟨by rfl, Or.inl ?hy97⟩) ?r_97
        case hy97=>(intro w' kk ss; obtain⟨x0,x1,x2',x3⟩:=bx4 (BC.out.since (HW.out.trans (hr0.trans kk))); have qa:=CA.out _ (hr0.trans kk); have qv:=CV.out _ (hr0.trans kk); go_simp; first | done | with_reducible rfl)
        try simp only[Act.put,Reg.l1,Reg.l2,Reg.l3]
        refine Reg.tk (i := 13) (oi := { dst := some 25, op := Op.call { callee := Callee.value (Operand.func 100), args := #[Operand.tmp 19, Operand.tmp 20, Operand.tmp 24], argTypes := #[25, 23, 2] }, type := 2, pos := "ref.go:114", after := #[{ on := 7, ground := Ground.data }, { on := 8, ground := Ground.data }, { on := 12, ground := Ground.data }, { on := 6, ground := Ground.chain }, { on := 6, ground := Ground.guard }], guard := some (6, true) }) (v := .int .i64 L) [16, 17] [] (Or.inl ⟨by rfl, Or.inr ⟨100, #[.agg #[.int .i64 ck, .slice X nx xc, .slice (some ⟨g, o, none⟩) na yc, .int .i64 cc], .slice (some ⟨g', o', none⟩) nv vc, .int .i64 s], fun w' kk ss => ⟨?_, ?_⟩⟩⟩) ?_
        · (try dsimp only at ss); go_simp
        · exact LB.out w' (ka.out.trans (HW.out.trans (hr0.trans kk)))
        try simp only[Act.put,Reg.l1,Reg.l2,Reg.l3]
        refine' Reg.tk (i := 14) (oi := { dst := some 26, op := Op.fieldAddr 25 (Operand.tmp 2) 3, type := 0, pos := "ref.go:114", after := #[{ on := 6, ground := Ground.guard }], guard := some (6, true) }) (v := _) [15, 16, 17] [] (Or.inl ⟨by rfl, Or.inl ?hy98⟩) ?r_98
        case hy98=>(intro w' kk ss; obtain⟨x0,x1,x2',x3⟩:=bx4 (BC.out.since (HW.out.trans (hr0.trans kk))); have qa:=CA.out _ (hr0.trans kk); have qv:=CV.out _ (hr0.trans kk); go_simp; first | done | with_reducible rfl)
        try simp only[Act.put,Reg.l1,Reg.l2,Reg.l3]
        refine' Reg.tk (i := 15) (oi := { dst := some 27, op := Op.load 2 (Operand.tmp 26), type := 2, pos := "ref.go:114", after := #[{ on := 14, ground := Ground.data }, { on := 6, ground := Ground.guard }], guard := some (6, true) }) (v := _) [16, 17] [] (Or.inl ⟨by rfl, Or.inl ?hy99⟩) ?r_99
        case hy99=>(intro w' kk ss; obtain⟨x0,x1,x2',x3⟩:=bx4 (BC.out.since (HW.out.trans (hr0.trans kk))); have qa:=CA.out _ (hr0.trans kk); have qv:=CV.out _ (hr0.trans kk); go_simp; first | done | with_reducible rfl)
        try simp only[Act.put,Reg.l1,Reg.l2,Reg.l3]
        refine' Reg.tk (i := 16) (oi := { dst := some 28, op := Op.binOp BinOp.gtr 2 (Operand.tmp 25) (Operand.tmp 27) 2, type := 4, pos := "ref.go:114", after := #[{ on := 13, ground := Ground.data }, { on := 15, ground := Ground.data }, { on := 6, ground := Ground.guard }], guard := some (6, true) }) (v := _) [17] [] (Or.inl ⟨by rfl, Or.inl ?hy100⟩) ?r_100
        case hy100=>(intro w' kk ss; obtain⟨x0,x1,x2',x3⟩:=bx4 (BC.out.since (HW.out.trans (hr0.trans kk))); have qa:=CA.out _ (hr0.trans kk); have qv:=CV.out _ (hr0.trans kk); go_simp; first | done | with_reducible rfl)
        try simp only[Act.put,Reg.l1,Reg.l2,Reg.l3]
        refine' Reg.tk (i := 17) (oi := { dst := some 29, op := Op.pick (Operand.tmp 18) (Operand.tmp 28) (Operand.const (Value.bool false)), type := 4, pos := "ref.go:114", after := #[{ on := 6, ground := Ground.data }, { on := 16, ground := Ground.data }], guard := none }) (v := _) [] [] (Or.inl ⟨by rfl, Or.inl ?hy101⟩) ?r_101
        case hy101=>(intro w' kk ss; obtain⟨x0,x1,x2',x3⟩:=bx4 (BC.out.since (HW.out.trans (hr0.trans kk))); have qa:=CA.out _ (hr0.trans kk); have qv:=CV.out _ (hr0.trans kk); go_simp; first | done | with_reducible rfl)
        try simp only[Act.put,Reg.l1,Reg.l2,Reg.l3]
        refine Reg.wpG_done (by kernel_rfl) (fun we ke se => ?_) _
        refine NoPanic.normal ?_
        have hr0:=hr0.trans ke
        clear ke
        go_wp2
        go_roundw
        case rel=>exact⟨j+1,by go_num,by omega,HE2.out,HW.out.trans hr0⟩
        case measure=>simp[intOf]; omega
    · have z1:decide (0<d)=false:=decide_eq_false c1
      have zz:(decide (0<d) && decide (cc<L))=false:=by rw[z1]; rfl
      have HE2:=Lib.hid (show ∀ i,i<j+1→tskE cc l ca i=true from fun i hi=>by
       rcases Nat.lt_or_ge i j with h | h
       · exact HE.out i h
       · obtain rfl:i=j:=by omega
         rw[HT.out,zz]; rfl)
      clear zz
      go_wp2
      have hr0:Since wr wr.drew:=Since.drew (Since.refl wr)
      refine wp_region_noPanic ?_
      refine Reg.wp_region_G (S:=fun _=>True) (fun j => [].contains j) (by kernel_rfl) trivial ?_
      refine' Reg.tk (i := 0) (oi := { dst := some 12, op := Op.fieldAddr 25 (Operand.tmp 2) 2, type := 0, pos := "ref.go:114", after := #[], guard := none }) (v := _) [1, 3, 4, 5, 6, 7, 8, 9, 10, 11, 12, 13, 14, 15, 16, 17] [] (Or.inl ⟨by rfl, Or.inl ?hy103⟩) ?r_103
      case hy103=>(intro w' kk ss; obtain⟨x0,x1,x2',x3⟩:=bx4 (BC.out.since (HW.out.trans (hr0.trans kk))); have qa:=CA.out _ (hr0.trans kk); have qv:=CV.out _ (hr0.trans kk); go_simp; first | done | with_reducible rfl)
      try simp only[Act.put,Reg.l1,Reg.l2,Reg.l3]
      refine' Reg.tk (i := 1) (oi := { dst := some 13, op := Op.load 23 (Operand.tmp 12), type := 23, pos := "ref.go:114", after := #[{ on := 0, ground := Ground.data }], guard := none }) (v := _) [3, 4, 5, 6, 7, 8, 9, 10, 11, 12, 13, 14, 15, 16, 17] [] (Or.inl ⟨by rfl, Or.inl ?hy104⟩) ?r_104
      case hy104=>(intro w' kk ss; obtain⟨x0,x1,x2',x3⟩:=bx4 (BC.out.since (HW.out.trans (hr0.trans kk))); have qa:=CA.out _ (hr0.trans kk); have qv:=CV.out _ (hr0.trans kk); go_simp; first | done | with_reducible rfl)
      try simp only[Act.put,Reg.l1,Reg.l2,Reg.l3]
      refine' Reg.tk (i := 2) (oi := { dst := some 14, op := Op.move (Operand.tmp 5), type := 3, pos := "ref.go:114", after := #[], guard := none }) (v := _) [3, 4, 5, 6, 7, 8, 9, 10, 11, 12, 13, 14, 15, 16, 17] [] (Or.inl ⟨by rfl, Or.inl ?hy105⟩) ?r_105
      case hy105=>(intro w' kk ss; obtain⟨x0,x1,x2',x3⟩:=bx4 (BC.out.since (HW.out.trans (hr0.trans kk))); have qa:=CA.out _ (hr0.trans kk); have qv:=CV.out _ (hr0.trans kk); go_simp; first | done | with_reducible rfl)
      try simp only[Act.put,Reg.l1,Reg.l2,Reg.l3]
      refine' Reg.tk (i := 3) (oi := { dst := some 15, op := Op.indexAddr 23 (Operand.tmp 13) (Operand.tmp 14), type := 0, pos := "ref.go:114", after := #[{ on := 1, ground := Ground.data }, { on := 2, ground := Ground.data }], guard := none }) (v := _) [4, 5, 6, 7, 8, 9, 10, 11, 12, 13, 14, 15, 16, 17] [] (Or.inl ⟨by rfl, Or.inl ?hy106⟩) ?r_106
      case hy106=>(intro w' kk ss; obtain⟨x0,x1,x2',x3⟩:=bx4 (BC.out.since (HW.out.trans (hr0.trans kk))); have qa:=CA.out _ (hr0.trans kk); have qv:=CV.out _ (hr0.trans kk); go_simp; first | done | with_reducible rfl)
      try simp only[Act.put,Reg.l1,Reg.l2,Reg.l3]
      refine' Reg.tk (i := 4) (oi := { dst := some 16, op := Op.load 2 (Operand.tmp 15), type := 2, pos := "ref.go:114", after := #[{ on := 3, ground := Ground.data }], guard := none }) (v := _) [5, 6, 7, 8, 9, 10, 11, 12, 13, 14, 15, 16, 17] [] (Or.inl ⟨by rfl, Or.inl ?hy107⟩) ?r_107
      case hy107=>(intro w' kk ss; obtain⟨x0,x1,x2',x3⟩:=bx4 (BC.out.since (HW.out.trans (hr0.trans kk))); have qa:=CA.out _ (hr0.trans kk); have qv:=CV.out _ (hr0.trans kk); go_simp; first | done | with_reducible rfl)
      try simp only[Act.put,Reg.l1,Reg.l2,Reg.l3]
      refine' Reg.tk (i := 5) (oi := { dst := some 17, op := Op.binOp BinOp.gtr 2 (Operand.tmp 16) (Operand.const (Value.int IntKind.i64 0)) 2, type := 4, pos := "ref.go:114", after := #[{ on := 4, ground := Ground.data }], guard := none }) (v := _) [6, 7, 8, 9, 10, 11, 12, 13, 14, 15, 16, 17] [] (Or.inl ⟨by rfl, Or.inl ?hy108⟩) ?r_108
      case hy108=>(intro w' kk ss; obtain⟨x0,x1,x2',x3⟩:=bx4 (BC.out.since (HW.out.trans (hr0.trans kk))); have qa:=CA.out _ (hr0.trans kk); have qv:=CV.out _ (hr0.trans kk); go_simp; first | done | with_reducible rfl)
      try simp only[Act.put,Reg.l1,Reg.l2,Reg.l3]
      refine' Reg.tk (i := 6) (oi := { dst := some 18, op := Op.move (Operand.tmp 17), type := 4, pos := "ref.go:114", after := #[{ on := 5, ground := Ground.data }], guard := none }) (v := _) [7, 8, 9, 10, 11, 12, 13, 14, 15, 16, 17] [] (Or.inl ⟨by rfl, Or.inl ?hy109⟩) ?r_109
      case hy109=>(intro w' kk ss; obtain⟨x0,x1,x2',x3⟩:=bx4 (BC.out.since (HW.out.trans (hr0.trans kk))); have qa:=CA.out _ (hr0.trans kk); have qv:=CV.out _ (hr0.trans kk); go_simp; first | done | with_reducible rfl)
      try simp only[Act.put,Reg.l1,Reg.l2,Reg.l3]
      refine Reg.tk (i := 7) (oi := { dst := some 19, op := Op.load 25 (Operand.tmp 2), type := 25, pos := "ref.go:114", after := #[{ on := 6, ground := Ground.guard }], guard := some (6, true) }) (v := undef) [13, 16, 17] [] (Or.inr ⟨by rfl, rfl⟩) ?_
      try simp only[Act.put,Reg.l1,Reg.l2,Reg.l3]
      refine Reg.tk (i := 8) (oi := { dst := some 20, op := Op.move (Operand.tmp 1), type := 23, pos := "ref.go:114", after := #[{ on := 6, ground := Ground.guard }], guard := some (6, true) }) (v := undef) [13, 16, 17] [] (Or.inr ⟨by rfl, rfl⟩) ?_
      try simp only[Act.put,Reg.l1,Reg.l2,Reg.l3]
      refine Reg.tk (i := 9) (oi := { dst := some 21, op := Op.move (Operand.tmp 1), type := 23, pos := "ref.go:114", after := #[{ on := 6, ground := Ground.guard }], guard := some (6, true) }) (v := undef) [11, 12, 13, 16, 17] [] (Or.inr ⟨by rfl, rfl⟩) ?_
      try simp only[Act.put,Reg.l1,Reg.l2,Reg.l3]
      refine Reg.tk (i := 10) (oi := { dst := some 22, op := Op.move (Operand.tmp 5), type := 3, pos := "ref.go:114", after := #[{ on := 6, ground := Ground.guard }], guard := some (6, true) }) (v := undef) [11, 12, 13, 16, 17] [] (Or.inr ⟨by rfl, rfl⟩) ?_
      try simp only[Act.put,Reg.l1,Reg.l2,Reg.l3]
      refine Reg.tk (i := 11) (oi := { dst := some 23, op := Op.indexAddr 23 (Operand.tmp 21) (Operand.tmp 22), type := 0, pos := "ref.go:114", after := #[{ on := 9, ground := Ground.data }, { on := 10, ground := Ground.data }, { on := 6, ground := Ground.guard }], guard := some (6, true) }) (v := undef) [12, 13, 16, 17] [] (Or.inr ⟨by rfl, rfl⟩) ?_
      try simp only[Act.put,Reg.l1,Reg.l2,Reg.l3]
      refine Reg.tk (i := 12) (oi := { dst := some 24, op := Op.load 2 (Operand.tmp 23), type := 2, pos := "ref.go:114", after := #[{ on := 11, ground := Ground.data }, { on := 6, ground := Ground.guard }], guard := some (6, true) }) (v := undef) [13, 16, 17] [] (Or.inr ⟨by rfl, rfl⟩) ?_
      try simp only[Act.put,Reg.l1,Reg.l2,Reg.l3]
      refine Reg.tk (i := 13) (oi := { dst := some 25, op := Op.call { callee := Callee.value (Operand.func 100), args := #[Operand.tmp 19, Operand.tmp 20, Operand.tmp 24], argTypes := #[25, 23, 2] }, type := 2, pos := "ref.go:114", after := #[{ on := 7, ground := Ground.data }, { on := 8, ground := Ground.data }, { on := 12, ground := Ground.data }, { on := 6, ground := Ground.chain }, { on := 6, ground := Ground.guard }], guard := some (6, true) }) (v := undef) [16, 17] [] (Or.inr ⟨by rfl, rfl⟩) ?_
      try simp only[Act.put,Reg.l1,Reg.l2,Reg.l3]
      refine Reg.tk (i := 14) (oi := { dst := some 26, op := Op.fieldAddr 25 (Operand.tmp 2) 3, type := 0, pos := "ref.go:114", after := #[{ on := 6, ground := Ground.guard }], guard := some (6, true) }) (v := undef) [15, 16, 17] [] (Or.inr ⟨by rfl, rfl⟩) ?_
      try simp only[Act.put,Reg.l1,Reg.l2,Reg.l3]
      refine Reg.tk (i := 15) (oi := { dst := some 27, op := Op.load 2 (Operand.tmp 26), type := 2, pos := "ref.go:114", after := #[{ on := 14, ground := Ground.data }, { on := 6, ground := Ground.guard }], guard := some (6, true) }) (v := undef) [16, 17] [] (Or.inr ⟨by rfl, rfl⟩) ?_
      try simp only[Act.put,Reg.l1,Reg.l2,Reg.l3]
      refine Reg.tk (i := 16) (oi := { dst := some 28, op := Op.binOp BinOp.gtr 2 (Operand.tmp 25) (Operand.tmp 27) 2, type := 4, pos := "ref.go:114", after := #[{ on := 13, ground := Ground.data }, { on := 15, ground := Ground.data }, { on := 6, ground := Ground.guard }], guard := some (6, true) }) (v := undef) [17] [] (Or.inr ⟨by rfl, rfl⟩) ?_
      try simp only[Act.put,Reg.l1,Reg.l2,Reg.l3]
      refine' Reg.tk (i := 17) (oi := { dst := some 29, op := Op.pick (Operand.tmp 18) (Operand.tmp 28) (Operand.const (Value.bool false)), type := 4, pos := "ref.go:114", after := #[{ on := 6, ground := Ground.data }, { on := 16, ground := Ground.data }], guard := none }) (v := _) [] [] (Or.inl ⟨by rfl, Or.inl ?hy110⟩) ?r_110
      case hy110=>(intro w' kk ss; obtain⟨x0,x1,x2',x3⟩:=bx4 (BC.out.since (HW.out.trans (hr0.trans kk))); have qa:=CA.out _ (hr0.trans kk); have qv:=CV.out _ (hr0.trans kk); go_simp; first | done | with_reducible rfl)
      try simp only[Act.put,Reg.l1,Reg.l2,Reg.l3]
      refine Reg.wpG_done (by kernel_rfl) (fun we ke se => ?_) _
      refine NoPanic.normal ?_
      have hr0:=hr0.trans ke
      clear ke
      go_wp2
      go_roundw
      case rel=>exact⟨j+1,by go_num,by omega,HE2.out,HW.out.trans hr0⟩
      case measure=>simp[intOf]; omega
  · obtain rfl:nv=j:=by omega
    have HE2:=Lib.hid (show true=R by rw[← HR.out]; exact (allI_iff.2 HE.out).symm)
    go_wp2
    go_ret
    exact .of HE2.out (ka.out.trans HW.out)
end Go.Proofs.Ytakfabaocgbbmaa.Sn
