/- Layer 11 (sense): the landed holds, of products and the like. -/
import Derived.Test.YtakfabaocgbbmaaUn
set_option maxHeartbeats 4000000
set_option maxRecDepth 20000
namespace Go.Proofs.Ytakfabaocgbbmaa.Sn
open Go.RowKit
set_option linter.unusedVariables false
set_option linter.unusedSimpArgs false
open Dig Lx Tk Ti Zs Tr
theorem holds_k7 (u:Value) (x a:List Int) (c:Int) (v:List Int) (w:World) (h:PlAt w u 7 x a c v) (hv:v.all within=true) (hn:v.length=3) :
 Calls Try.prog 65 #[u] w (RetT (v.getD 0 0*v.getD 1 0 == v.getD 2 0) w):=by
 have hb0:=fits_at hv (i:=0) (by omega)
 have hb1:=fits_at hv (i:=1) (by omega)
 have hb2:=fits_at hv (i:=2) (by omega)
 obtain⟨X,xc,Y,yc,V,vc,rfl,h1,h2,h3⟩:=h
 rw[hn] at h3 ⊢
 obtain⟨b,o,rfl,e0⟩:=getI h3 0 (by omega)
 obtain⟨b1,o1,g1,e1⟩:=getI h3 1 (by omega)
 simp only[Option.some.injEq,Addr.mk.injEq,and_true] at g1
 obtain⟨rfl,rfl⟩:=g1
 obtain⟨b2,o2,g2,e2⟩:=getI h3 2 (by omega)
 simp only[Option.some.injEq,Addr.mk.injEq,and_true] at g2
 obtain⟨rfl,rfl⟩:=g2
 simp only[Nat.add_zero] at e0
 generalize v.getD 0 0=p at *
 generalize v.getD 1 0=q at *
 generalize v.getD 2 0=r at *
 generalize x.length=nx at *
 generalize a.length=na at *
 have HC:=Lib.hid (fun W (kk:Since w W)=>(show W.cell? ⟨b,o,none⟩=some (.int .i64 p)∧W.cell? ⟨b,o+1,none⟩=some (.int .i64 q)∧W.cell? ⟨b,o+2,none⟩=some (.int .i64 r) from⟨(kk.cell _ (World.block_lt_of_cell? _ _ e0)).trans e0,(kk.cell _ (World.block_lt_of_cell? _ _ e1)).trans e1,(kk.cell _ (World.block_lt_of_cell? _ _ e2)).trans e2⟩))
 clear h1 h2 h3 hv hn e0 e1 e2
 have hw:IntKind.i64.wrap (p*q)=p*q:=by have:=mulB ((within_iff' p).2 hb0) ((within_iff' q).2 hb1); exact wrap_id' (by omega) (by omega)
 have ka:=Lib.hid (sA w (.cells #[.int .i64 7,.slice X nx xc,.slice Y na yc,.int .i64 c,.slice (some ⟨b,o,none⟩) 3 vc] 73))
 have BX:=Lib.hid (fun W (kk:Since (w.alloc (.cells #[.int .i64 7,.slice X nx xc,.slice Y na yc,.int .i64 c,.slice (some ⟨b,o,none⟩) 3 vc] 73)) W)=>(Bx.fresh w #[.int .i64 7,.slice X nx xc,.slice Y na yc,.int .i64 c,.slice (some ⟨b,o,none⟩) 3 vc] 73).since kk)
 go_enter Try.func65,Try.ntmps65
 go_wp2
 obtain⟨W0,hW0⟩:∃ W0,W0=w.alloc (.cells #[.int .i64 7,.slice X nx xc,.slice Y na yc,.int .i64 c,.slice (some ⟨b,o,none⟩) 3 vc] 73):=⟨_,rfl⟩
 rw[← hW0]
 rw[← hW0] at ka BX
 clear hW0
 have hr0:Since W0 W0.drew:=Since.drew (Since.refl W0)
 refine wp_region_noPanic ?_
 refine Reg.wp_region_G (S:=fun _=>True) (fun j => [].contains j) (by kernel_rfl) trivial ?_
 refine' Reg.tk (i := 0) (oi := { dst := some 67, op := Op.fieldAddr 73 (Operand.tmp 1) 1, type := 0, pos := "kinds.go:25", after := #[], guard := none }) (v := _) [1, 2, 3, 8, 13, 14] [] (Or.inl ⟨by rfl, Or.inl ?hy58⟩) ?r_58
 case hy58=>(intro w' kk ss; obtain⟨x0,x1,x2,x3,x4⟩:=bx5 (BX.out _ (hr0.trans kk)); obtain⟨u0,u1,u2⟩:=HC.out _ (ka.out.trans (hr0.trans kk)); go_simp; first | done | with_reducible rfl)
 try simp only[Act.put,Reg.l1,Reg.l2,Reg.l3]
 refine' Reg.tk (i := 1) (oi := { dst := some 68, op := Op.load 23 (Operand.tmp 67), type := 23, pos := "kinds.go:25", after := #[{ on := 0, ground := Ground.data }], guard := none }) (v := _) [2, 3, 8, 13, 14] [] (Or.inl ⟨by rfl, Or.inl ?hy59⟩) ?r_59
 case hy59=>(intro w' kk ss; obtain⟨x0,x1,x2,x3,x4⟩:=bx5 (BX.out _ (hr0.trans kk)); obtain⟨u0,u1,u2⟩:=HC.out _ (ka.out.trans (hr0.trans kk)); go_simp; first | done | with_reducible rfl)
 try simp only[Act.put,Reg.l1,Reg.l2,Reg.l3]
 refine' Reg.tk (i := 2) (oi := { dst := some 69, op := Op.indexAddr 23 (Operand.tmp 68) (Operand.const (Value.int IntKind.i64 0)), type := 0, pos := "kinds.go:25", after := #[{ on := 1, ground := Ground.data }], guard := none }) (v := _) [3, 8, 13, 14] [] (Or.inl ⟨by rfl, Or.inl ?hy60⟩) ?r_60
 case hy60=>(intro w' kk ss; obtain⟨x0,x1,x2,x3,x4⟩:=bx5 (BX.out _ (hr0.trans kk)); obtain⟨u0,u1,u2⟩:=HC.out _ (ka.out.trans (hr0.trans kk)); go_simp; first | done | with_reducible rfl)
 try simp only[Act.put,Reg.l1,Reg.l2,Reg.l3]
 refine' Reg.tk (i := 3) (oi := { dst := some 70, op := Op.load 2 (Operand.tmp 69), type := 2, pos := "kinds.go:25", after := #[{ on := 2, ground := Ground.data }], guard := none }) (v := _) [8, 13, 14] [] (Or.inl ⟨by rfl, Or.inl ?hy61⟩) ?r_61
 case hy61=>(intro w' kk ss; obtain⟨x0,x1,x2,x3,x4⟩:=bx5 (BX.out _ (hr0.trans kk)); obtain⟨u0,u1,u2⟩:=HC.out _ (ka.out.trans (hr0.trans kk)); go_simp; first | done | with_reducible rfl)
 try simp only[Act.put,Reg.l1,Reg.l2,Reg.l3]
 refine' Reg.tk (i := 4) (oi := { dst := some 71, op := Op.fieldAddr 73 (Operand.tmp 1) 1, type := 0, pos := "kinds.go:25", after := #[], guard := none }) (v := _) [5, 6, 7, 8, 13, 14] [] (Or.inl ⟨by rfl, Or.inl ?hy62⟩) ?r_62
 case hy62=>(intro w' kk ss; obtain⟨x0,x1,x2,x3,x4⟩:=bx5 (BX.out _ (hr0.trans kk)); obtain⟨u0,u1,u2⟩:=HC.out _ (ka.out.trans (hr0.trans kk)); go_simp; first | done | with_reducible rfl)
 try simp only[Act.put,Reg.l1,Reg.l2,Reg.l3]
 refine' Reg.tk (i := 5) (oi := { dst := some 72, op := Op.load 23 (Operand.tmp 71), type := 23, pos := "kinds.go:25", after := #[{ on := 4, ground := Ground.data }], guard := none }) (v := _) [6, 7, 8, 13, 14] [] (Or.inl ⟨by rfl, Or.inl ?hy63⟩) ?r_63
 case hy63=>(intro w' kk ss; obtain⟨x0,x1,x2,x3,x4⟩:=bx5 (BX.out _ (hr0.trans kk)); obtain⟨u0,u1,u2⟩:=HC.out _ (ka.out.trans (hr0.trans kk)); go_simp; first | done | with_reducible rfl)
 try simp only[Act.put,Reg.l1,Reg.l2,Reg.l3]
 refine' Reg.tk (i := 6) (oi := { dst := some 73, op := Op.indexAddr 23 (Operand.tmp 72) (Operand.const (Value.int IntKind.i64 1)), type := 0, pos := "kinds.go:25", after := #[{ on := 5, ground := Ground.data }], guard := none }) (v := _) [7, 8, 13, 14] [] (Or.inl ⟨by rfl, Or.inl ?hy64⟩) ?r_64
 case hy64=>(intro w' kk ss; obtain⟨x0,x1,x2,x3,x4⟩:=bx5 (BX.out _ (hr0.trans kk)); obtain⟨u0,u1,u2⟩:=HC.out _ (ka.out.trans (hr0.trans kk)); go_simp; first | done | with_reducible rfl)
 try simp only[Act.put,Reg.l1,Reg.l2,Reg.l3]
 refine' Reg.tk (i := 7) (oi := { dst := some 74, op := Op.load 2 (Operand.tmp 73), type := 2, pos := "kinds.go:25", after := #[{ on := 6, ground := Ground.data }], guard := none }) (v := _) [8, 13, 14] [] (Or.inl ⟨by rfl, Or.inl ?hy65⟩) ?r_65
 case hy65=>(intro w' kk ss; obtain⟨x0,x1,x2,x3,x4⟩:=bx5 (BX.out _ (hr0.trans kk)); obtain⟨u0,u1,u2⟩:=HC.out _ (ka.out.trans (hr0.trans kk)); go_simp; first | done | with_reducible rfl)
 try simp only[Act.put,Reg.l1,Reg.l2,Reg.l3]
 refine' Reg.tk (i := 8) (oi := { dst := some 75, op := Op.binOp BinOp.mul 2 (Operand.tmp 70) (Operand.tmp 74) 2, type := 2, pos := "kinds.go:25", after := #[{ on := 3, ground := Ground.data }, { on := 7, ground := Ground.data }], guard := none }) (v := _) [13, 14] [] (Or.inl ⟨by rfl, Or.inl ?hy66⟩) ?r_66
 case hy66=>(intro w' kk ss; obtain⟨x0,x1,x2,x3,x4⟩:=bx5 (BX.out _ (hr0.trans kk)); obtain⟨u0,u1,u2⟩:=HC.out _ (ka.out.trans (hr0.trans kk)); go_simp; first | done | with_reducible rfl)
 try simp only[Act.put,Reg.l1,Reg.l2,Reg.l3]
 refine' Reg.tk (i := 9) (oi := { dst := some 76, op := Op.fieldAddr 73 (Operand.tmp 1) 1, type := 0, pos := "kinds.go:25", after := #[], guard := none }) (v := _) [10, 11, 12, 13, 14] [] (Or.inl ⟨by rfl, Or.inl ?hy67⟩) ?r_67
 case hy67=>(intro w' kk ss; obtain⟨x0,x1,x2,x3,x4⟩:=bx5 (BX.out _ (hr0.trans kk)); obtain⟨u0,u1,u2⟩:=HC.out _ (ka.out.trans (hr0.trans kk)); go_simp; first | done | with_reducible rfl)
 try simp only[Act.put,Reg.l1,Reg.l2,Reg.l3]
 refine' Reg.tk (i := 10) (oi := { dst := some 77, op := Op.load 23 (Operand.tmp 76), type := 23, pos := "kinds.go:25", after := #[{ on := 9, ground := Ground.data }], guard := none }) (v := _) [11, 12, 13, 14] [] (Or.inl ⟨by rfl, Or.inl ?hy68⟩) ?r_68
 case hy68=>(intro w' kk ss; obtain⟨x0,x1,x2,x3,x4⟩:=bx5 (BX.out _ (hr0.trans kk)); obtain⟨u0,u1,u2⟩:=HC.out _ (ka.out.trans (hr0.trans kk)); go_simp; first | done | with_reducible rfl)
 try simp only[Act.put,Reg.l1,Reg.l2,Reg.l3]
 refine' Reg.tk (i := 11) (oi := { dst := some 78, op := Op.indexAddr 23 (Operand.tmp 77) (Operand.const (Value.int IntKind.i64 2)), type := 0, pos := "kinds.go:25", after := #[{ on := 10, ground := Ground.data }], guard := none }) (v := _) [12, 13, 14] [] (Or.inl ⟨by rfl, Or.inl ?hy69⟩) ?r_69
 case hy69=>(intro w' kk ss; obtain⟨x0,x1,x2,x3,x4⟩:=bx5 (BX.out _ (hr0.trans kk)); obtain⟨u0,u1,u2⟩:=HC.out _ (ka.out.trans (hr0.trans kk)); go_simp; first | done | with_reducible rfl)
 try simp only[Act.put,Reg.l1,Reg.l2,Reg.l3]
 refine' Reg.tk (i := 12) (oi := { dst := some 79, op := Op.load 2 (Operand.tmp 78), type := 2, pos := "kinds.go:25", after := #[{ on := 11, ground := Ground.data }], guard := none }) (v := _) [13, 14] [] (Or.inl ⟨by rfl, Or.inl ?hy70⟩) ?r_70
 case hy70=>(intro w' kk ss; obtain⟨x0,x1,x2,x3,x4⟩:=bx5 (BX.out _ (hr0.trans kk)); obtain⟨u0,u1,u2⟩:=HC.out _ (ka.out.trans (hr0.trans kk)); go_simp; first | done | with_reducible rfl)
 try simp only[Act.put,Reg.l1,Reg.l2,Reg.l3]
 refine' Reg.tk (i := 13) (oi := { dst := some 80, op := Op.binOp BinOp.eql 2 (Operand.tmp 75) (Operand.tmp 79) 2, type := 4, pos := "kinds.go:25", after := #[{ on := 8, ground := Ground.data }, { on := 12, ground := Ground.data }], guard := none }) (v := _) [14] [] (Or.inl ⟨by rfl, Or.inl ?hy71⟩) ?r_71
 case hy71=>(intro w' kk ss; obtain⟨x0,x1,x2,x3,x4⟩:=bx5 (BX.out _ (hr0.trans kk)); obtain⟨u0,u1,u2⟩:=HC.out _ (ka.out.trans (hr0.trans kk)); go_simp; first | done | with_reducible rfl)
 try simp only[Act.put,Reg.l1,Reg.l2,Reg.l3]
 refine' Reg.tk (i := 14) (oi := { dst := some 2, op := Op.assign (Operand.tmp 80), type := 4, pos := "kinds.go:25", after := #[{ on := 13, ground := Ground.data }, { on := 0, ground := Ground.phase }, { on := 1, ground := Ground.phase }, { on := 2, ground := Ground.phase }, { on := 3, ground := Ground.phase }, { on := 4, ground := Ground.phase }, { on := 5, ground := Ground.phase }, { on := 6, ground := Ground.phase }, { on := 7, ground := Ground.phase }, { on := 8, ground := Ground.phase }, { on := 9, ground := Ground.phase }, { on := 10, ground := Ground.phase }, { on := 11, ground := Ground.phase }, { on := 12, ground := Ground.phase }, { on := 13, ground := Ground.phase }], guard := none }) (v := _) [] [] (Or.inl ⟨by rfl, Or.inl ?hy72⟩) ?r_72
 case hy72=>(intro w' kk ss; obtain⟨x0,x1,x2,x3,x4⟩:=bx5 (BX.out _ (hr0.trans kk)); obtain⟨u0,u1,u2⟩:=HC.out _ (ka.out.trans (hr0.trans kk)); go_simp; first | done | with_reducible rfl)
 try simp only[Act.put,Reg.l1,Reg.l2,Reg.l3]
 refine Reg.wpG_done (by kernel_rfl) (fun we ke se => ?_) _
 refine NoPanic.normal ?_
 have hr0:=hr0.trans ke
 clear ke
 go_wp2
 all_goals go_ret
 exact⟨rfl,ka.out.trans hr0⟩
theorem holds_k8 (u:Value) (x a:List Int) (c:Int) (v:List Int) (w:World) (h:PlAt w u 8 x a c v) (hv:v.all within=true) (hn:v.length=3) :
 Calls Try.prog 65 #[u] w (RetT (min (v.getD 0 0) (v.getD 1 0) == v.getD 2 0) w):=by
 have hb0:=fits_at hv (i:=0) (by omega)
 have hb1:=fits_at hv (i:=1) (by omega)
 have hb2:=fits_at hv (i:=2) (by omega)
 obtain⟨X,xc,Y,yc,V,vc,rfl,h1,h2,h3⟩:=h
 rw[hn] at h3 ⊢
 obtain⟨b,o,rfl,e0⟩:=getI h3 0 (by omega)
 obtain⟨b1,o1,g1,e1⟩:=getI h3 1 (by omega)
 simp only[Option.some.injEq,Addr.mk.injEq,and_true] at g1
 obtain⟨rfl,rfl⟩:=g1
 obtain⟨b2,o2,g2,e2⟩:=getI h3 2 (by omega)
 simp only[Option.some.injEq,Addr.mk.injEq,and_true] at g2
 obtain⟨rfl,rfl⟩:=g2
 simp only[Nat.add_zero] at e0
 generalize v.getD 0 0=p at *
 generalize v.getD 1 0=q at *
 generalize v.getD 2 0=r at *
 generalize x.length=nx at *
 generalize a.length=na at *
 have HC:=Lib.hid (fun W (kk:Since w W)=>(show W.cell? ⟨b,o,none⟩=some (.int .i64 p)∧W.cell? ⟨b,o+1,none⟩=some (.int .i64 q)∧W.cell? ⟨b,o+2,none⟩=some (.int .i64 r) from⟨(kk.cell _ (World.block_lt_of_cell? _ _ e0)).trans e0,(kk.cell _ (World.block_lt_of_cell? _ _ e1)).trans e1,(kk.cell _ (World.block_lt_of_cell? _ _ e2)).trans e2⟩))
 clear h1 h2 h3 hv hn e0 e1 e2
 have ka:=Lib.hid (sA w (.cells #[.int .i64 8,.slice X nx xc,.slice Y na yc,.int .i64 c,.slice (some ⟨b,o,none⟩) 3 vc] 73))
 have BX:=Lib.hid (fun W (kk:Since (w.alloc (.cells #[.int .i64 8,.slice X nx xc,.slice Y na yc,.int .i64 c,.slice (some ⟨b,o,none⟩) 3 vc] 73)) W)=>(Bx.fresh w #[.int .i64 8,.slice X nx xc,.slice Y na yc,.int .i64 c,.slice (some ⟨b,o,none⟩) 3 vc] 73).since kk)
 go_enter Try.func65,Try.ntmps65
 go_wp2
 obtain⟨W0,hW0⟩:∃ W0,W0=w.alloc (.cells #[.int .i64 8,.slice X nx xc,.slice Y na yc,.int .i64 c,.slice (some ⟨b,o,none⟩) 3 vc] 73):=⟨_,rfl⟩
 rw[← hW0]
 rw[← hW0] at ka BX
 clear hW0
 have hr0:Since W0 W0.drew:=Since.drew (Since.refl W0)
 refine wp_region_noPanic ?_
 refine Reg.wp_region_G (S:=fun _=>True) (fun j => [].contains j) (by kernel_rfl) trivial ?_
 refine' Reg.tk (i := 0) (oi := { dst := some 83, op := Op.fieldAddr 73 (Operand.tmp 1) 1, type := 0, pos := "kinds.go:27", after := #[], guard := none }) (v := _) [1, 2, 3, 8, 13, 14] [] (Or.inl ⟨by rfl, Or.inl ?hy74⟩) ?r_74
 case hy74=>(intro w' kk ss; obtain⟨x0,x1,x2,x3,x4⟩:=bx5 (BX.out _ (hr0.trans kk)); obtain⟨u0,u1,u2⟩:=HC.out _ (ka.out.trans (hr0.trans kk)); go_simp; first | done | with_reducible rfl)
 try simp only[Act.put,Reg.l1,Reg.l2,Reg.l3]
 refine' Reg.tk (i := 1) (oi := { dst := some 84, op := Op.load 23 (Operand.tmp 83), type := 23, pos := "kinds.go:27", after := #[{ on := 0, ground := Ground.data }], guard := none }) (v := _) [2, 3, 8, 13, 14] [] (Or.inl ⟨by rfl, Or.inl ?hy75⟩) ?r_75
 case hy75=>(intro w' kk ss; obtain⟨x0,x1,x2,x3,x4⟩:=bx5 (BX.out _ (hr0.trans kk)); obtain⟨u0,u1,u2⟩:=HC.out _ (ka.out.trans (hr0.trans kk)); go_simp; first | done | with_reducible rfl)
 try simp only[Act.put,Reg.l1,Reg.l2,Reg.l3]
 refine' Reg.tk (i := 2) (oi := { dst := some 85, op := Op.indexAddr 23 (Operand.tmp 84) (Operand.const (Value.int IntKind.i64 0)), type := 0, pos := "kinds.go:27", after := #[{ on := 1, ground := Ground.data }], guard := none }) (v := _) [3, 8, 13, 14] [] (Or.inl ⟨by rfl, Or.inl ?hy76⟩) ?r_76
 case hy76=>(intro w' kk ss; obtain⟨x0,x1,x2,x3,x4⟩:=bx5 (BX.out _ (hr0.trans kk)); obtain⟨u0,u1,u2⟩:=HC.out _ (ka.out.trans (hr0.trans kk)); go_simp; first | done | with_reducible rfl)
 try simp only[Act.put,Reg.l1,Reg.l2,Reg.l3]
 refine' Reg.tk (i := 3) (oi := { dst := some 86, op := Op.load 2 (Operand.tmp 85), type := 2, pos := "kinds.go:27", after := #[{ on := 2, ground := Ground.data }], guard := none }) (v := _) [8, 13, 14] [] (Or.inl ⟨by rfl, Or.inl ?hy77⟩) ?r_77
 case hy77=>(intro w' kk ss; obtain⟨x0,x1,x2,x3,x4⟩:=bx5 (BX.out _ (hr0.trans kk)); obtain⟨u0,u1,u2⟩:=HC.out _ (ka.out.trans (hr0.trans kk)); go_simp; first | done | with_reducible rfl)
 try simp only[Act.put,Reg.l1,Reg.l2,Reg.l3]
 refine' Reg.tk (i := 4) (oi := { dst := some 87, op := Op.fieldAddr 73 (Operand.tmp 1) 1, type := 0, pos := "kinds.go:27", after := #[], guard := none }) (v := _) [5, 6, 7, 8, 13, 14] [] (Or.inl ⟨by rfl, Or.inl ?hy78⟩) ?r_78
 case hy78=>(intro w' kk ss; obtain⟨x0,x1,x2,x3,x4⟩:=bx5 (BX.out _ (hr0.trans kk)); obtain⟨u0,u1,u2⟩:=HC.out _ (ka.out.trans (hr0.trans kk)); go_simp; first | done | with_reducible rfl)
 try simp only[Act.put,Reg.l1,Reg.l2,Reg.l3]
 refine' Reg.tk (i := 5) (oi := { dst := some 88, op := Op.load 23 (Operand.tmp 87), type := 23, pos := "kinds.go:27", after := #[{ on := 4, ground := Ground.data }], guard := none }) (v := _) [6, 7, 8, 13, 14] [] (Or.inl ⟨by rfl, Or.inl ?hy79⟩) ?r_79
 case hy79=>(intro w' kk ss; obtain⟨x0,x1,x2,x3,x4⟩:=bx5 (BX.out _ (hr0.trans kk)); obtain⟨u0,u1,u2⟩:=HC.out _ (ka.out.trans (hr0.trans kk)); go_simp; first | done | with_reducible rfl)
 try simp only[Act.put,Reg.l1,Reg.l2,Reg.l3]
 refine' Reg.tk (i := 6) (oi := { dst := some 89, op := Op.indexAddr 23 (Operand.tmp 88) (Operand.const (Value.int IntKind.i64 1)), type := 0, pos := "kinds.go:27", after := #[{ on := 5, ground := Ground.data }], guard := none }) (v := _) [7, 8, 13, 14] [] (Or.inl ⟨by rfl, Or.inl ?hy80⟩) ?r_80
 case hy80=>(intro w' kk ss; obtain⟨x0,x1,x2,x3,x4⟩:=bx5 (BX.out _ (hr0.trans kk)); obtain⟨u0,u1,u2⟩:=HC.out _ (ka.out.trans (hr0.trans kk)); go_simp; first | done | with_reducible rfl)
 try simp only[Act.put,Reg.l1,Reg.l2,Reg.l3]
 refine' Reg.tk (i := 7) (oi := { dst := some 90, op := Op.load 2 (Operand.tmp 89), type := 2, pos := "kinds.go:27", after := #[{ on := 6, ground := Ground.data }], guard := none }) (v := _) [8, 13, 14] [] (Or.inl ⟨by rfl, Or.inl ?hy81⟩) ?r_81
 case hy81=>(intro w' kk ss; obtain⟨x0,x1,x2,x3,x4⟩:=bx5 (BX.out _ (hr0.trans kk)); obtain⟨u0,u1,u2⟩:=HC.out _ (ka.out.trans (hr0.trans kk)); go_simp; first | done | with_reducible rfl)
 try simp only[Act.put,Reg.l1,Reg.l2,Reg.l3]
 refine' Reg.tk (i := 8) (oi := { dst := some 91, op := Op.call { callee := Callee.builtin Builtin.min, args := #[Operand.tmp 86, Operand.tmp 90], argTypes := #[2, 2] }, type := 2, pos := "kinds.go:27", after := #[{ on := 3, ground := Ground.data }, { on := 7, ground := Ground.data }], guard := none }) (v := _) [13, 14] [] (Or.inl ⟨by rfl, Or.inl ?hy82⟩) ?r_82
 case hy82=>(intro w' kk ss; obtain⟨x0,x1,x2,x3,x4⟩:=bx5 (BX.out _ (hr0.trans kk)); obtain⟨u0,u1,u2⟩:=HC.out _ (ka.out.trans (hr0.trans kk)); go_simp; first | done | with_reducible rfl)
 try simp only[Act.put,Reg.l1,Reg.l2,Reg.l3]
 refine' Reg.tk (i := 9) (oi := { dst := some 92, op := Op.fieldAddr 73 (Operand.tmp 1) 1, type := 0, pos := "kinds.go:27", after := #[], guard := none }) (v := _) [10, 11, 12, 13, 14] [] (Or.inl ⟨by rfl, Or.inl ?hy83⟩) ?r_83
 case hy83=>(intro w' kk ss; obtain⟨x0,x1,x2,x3,x4⟩:=bx5 (BX.out _ (hr0.trans kk)); obtain⟨u0,u1,u2⟩:=HC.out _ (ka.out.trans (hr0.trans kk)); go_simp; first | done | with_reducible rfl)
 try simp only[Act.put,Reg.l1,Reg.l2,Reg.l3]
 refine' Reg.tk (i := 10) (oi := { dst := some 93, op := Op.load 23 (Operand.tmp 92), type := 23, pos := "kinds.go:27", after := #[{ on := 9, ground := Ground.data }], guard := none }) (v := _) [11, 12, 13, 14] [] (Or.inl ⟨by rfl, Or.inl ?hy84⟩) ?r_84
 case hy84=>(intro w' kk ss; obtain⟨x0,x1,x2,x3,x4⟩:=bx5 (BX.out _ (hr0.trans kk)); obtain⟨u0,u1,u2⟩:=HC.out _ (ka.out.trans (hr0.trans kk)); go_simp; first | done | with_reducible rfl)
 try simp only[Act.put,Reg.l1,Reg.l2,Reg.l3]
 refine' Reg.tk (i := 11) (oi := { dst := some 94, op := Op.indexAddr 23 (Operand.tmp 93) (Operand.const (Value.int IntKind.i64 2)), type := 0, pos := "kinds.go:27", after := #[{ on := 10, ground := Ground.data }], guard := none }) (v := _) [12, 13, 14] [] (Or.inl ⟨by rfl, Or.inl ?hy85⟩) ?r_85
 case hy85=>(intro w' kk ss; obtain⟨x0,x1,x2,x3,x4⟩:=bx5 (BX.out _ (hr0.trans kk)); obtain⟨u0,u1,u2⟩:=HC.out _ (ka.out.trans (hr0.trans kk)); go_simp; first | done | with_reducible rfl)
 try simp only[Act.put,Reg.l1,Reg.l2,Reg.l3]
 refine' Reg.tk (i := 12) (oi := { dst := some 95, op := Op.load 2 (Operand.tmp 94), type := 2, pos := "kinds.go:27", after := #[{ on := 11, ground := Ground.data }], guard := none }) (v := _) [13, 14] [] (Or.inl ⟨by rfl, Or.inl ?hy86⟩) ?r_86
 case hy86=>(intro w' kk ss; obtain⟨x0,x1,x2,x3,x4⟩:=bx5 (BX.out _ (hr0.trans kk)); obtain⟨u0,u1,u2⟩:=HC.out _ (ka.out.trans (hr0.trans kk)); go_simp; first | done | with_reducible rfl)
 try simp only[Act.put,Reg.l1,Reg.l2,Reg.l3]
 refine' Reg.tk (i := 13) (oi := { dst := some 96, op := Op.binOp BinOp.eql 2 (Operand.tmp 91) (Operand.tmp 95) 2, type := 4, pos := "kinds.go:27", after := #[{ on := 8, ground := Ground.data }, { on := 12, ground := Ground.data }], guard := none }) (v := _) [14] [] (Or.inl ⟨by rfl, Or.inl ?hy87⟩) ?r_87
 case hy87=>(intro w' kk ss; obtain⟨x0,x1,x2,x3,x4⟩:=bx5 (BX.out _ (hr0.trans kk)); obtain⟨u0,u1,u2⟩:=HC.out _ (ka.out.trans (hr0.trans kk)); go_simp; first | done | with_reducible rfl)
 try simp only[Act.put,Reg.l1,Reg.l2,Reg.l3]
 refine' Reg.tk (i := 14) (oi := { dst := some 2, op := Op.assign (Operand.tmp 96), type := 4, pos := "kinds.go:27", after := #[{ on := 13, ground := Ground.data }, { on := 0, ground := Ground.phase }, { on := 1, ground := Ground.phase }, { on := 2, ground := Ground.phase }, { on := 3, ground := Ground.phase }, { on := 4, ground := Ground.phase }, { on := 5, ground := Ground.phase }, { on := 6, ground := Ground.phase }, { on := 7, ground := Ground.phase }, { on := 8, ground := Ground.phase }, { on := 9, ground := Ground.phase }, { on := 10, ground := Ground.phase }, { on := 11, ground := Ground.phase }, { on := 12, ground := Ground.phase }, { on := 13, ground := Ground.phase }], guard := none }) (v := _) [] [] (Or.inl ⟨by rfl, Or.inl ?hy88⟩) ?r_88
 case hy88=>(intro w' kk ss; obtain⟨x0,x1,x2,x3,x4⟩:=bx5 (BX.out _ (hr0.trans kk)); obtain⟨u0,u1,u2⟩:=HC.out _ (ka.out.trans (hr0.trans kk)); go_simp; first | done | with_reducible rfl)
 try simp only[Act.put,Reg.l1,Reg.l2,Reg.l3]
 refine Reg.wpG_done (by kernel_rfl) (fun we ke se => ?_) _
 refine NoPanic.normal ?_
 have hr0:=hr0.trans ke
 clear ke
 go_wp2
 all_goals go_ret
 all_goals exact RetT.of (by congr 1 <;> omega) (ka.out.trans hr0)
theorem holds_k9 (u:Value) (x a:List Int) (c:Int) (v:List Int) (w:World) (h:PlAt w u 9 x a c v) (hv:v.all within=true) (hn:v.length=3) :
 Calls Try.prog 65 #[u] w (RetT (max (v.getD 0 0) (v.getD 1 0) == v.getD 2 0) w):=by
 have hb0:=fits_at hv (i:=0) (by omega)
 have hb1:=fits_at hv (i:=1) (by omega)
 have hb2:=fits_at hv (i:=2) (by omega)
 obtain⟨X,xc,Y,yc,V,vc,rfl,h1,h2,h3⟩:=h
 rw[hn] at h3 ⊢
 obtain⟨b,o,rfl,e0⟩:=getI h3 0 (by omega)
 obtain⟨b1,o1,g1,e1⟩:=getI h3 1 (by omega)
 simp only[Option.some.injEq,Addr.mk.injEq,and_true] at g1
 obtain⟨rfl,rfl⟩:=g1
 obtain⟨b2,o2,g2,e2⟩:=getI h3 2 (by omega)
 simp only[Option.some.injEq,Addr.mk.injEq,and_true] at g2
 obtain⟨rfl,rfl⟩:=g2
 simp only[Nat.add_zero] at e0
 generalize v.getD 0 0=p at *
 generalize v.getD 1 0=q at *
 generalize v.getD 2 0=r at *
 generalize x.length=nx at *
 generalize a.length=na at *
 have HC:=Lib.hid (fun W (kk:Since w W)=>(show W.cell? ⟨b,o,none⟩=some (.int .i64 p)∧W.cell? ⟨b,o+1,none⟩=some (.int .i64 q)∧W.cell? ⟨b,o+2,none⟩=some (.int .i64 r) from⟨(kk.cell _ (World.block_lt_of_cell? _ _ e0)).trans e0,(kk.cell _ (World.block_lt_of_cell? _ _ e1)).trans e1,(kk.cell _ (World.block_lt_of_cell? _ _ e2)).trans e2⟩))
 clear h1 h2 h3 hv hn e0 e1 e2
 have ka:=Lib.hid (sA w (.cells #[.int .i64 9,.slice X nx xc,.slice Y na yc,.int .i64 c,.slice (some ⟨b,o,none⟩) 3 vc] 73))
 have BX:=Lib.hid (fun W (kk:Since (w.alloc (.cells #[.int .i64 9,.slice X nx xc,.slice Y na yc,.int .i64 c,.slice (some ⟨b,o,none⟩) 3 vc] 73)) W)=>(Bx.fresh w #[.int .i64 9,.slice X nx xc,.slice Y na yc,.int .i64 c,.slice (some ⟨b,o,none⟩) 3 vc] 73).since kk)
 go_enter Try.func65,Try.ntmps65
 go_wp2
 obtain⟨W0,hW0⟩:∃ W0,W0=w.alloc (.cells #[.int .i64 9,.slice X nx xc,.slice Y na yc,.int .i64 c,.slice (some ⟨b,o,none⟩) 3 vc] 73):=⟨_,rfl⟩
 rw[← hW0]
 rw[← hW0] at ka BX
 clear hW0
 have hr0:Since W0 W0.drew:=Since.drew (Since.refl W0)
 refine wp_region_noPanic ?_
 refine Reg.wp_region_G (S:=fun _=>True) (fun j => [].contains j) (by kernel_rfl) trivial ?_
 refine' Reg.tk (i := 0) (oi := { dst := some 99, op := Op.fieldAddr 73 (Operand.tmp 1) 1, type := 0, pos := "kinds.go:29", after := #[], guard := none }) (v := _) [1, 2, 3, 8, 13, 14] [] (Or.inl ⟨by rfl, Or.inl ?hy90⟩) ?r_90
 case hy90=>(intro w' kk ss; obtain⟨x0,x1,x2,x3,x4⟩:=bx5 (BX.out _ (hr0.trans kk)); obtain⟨u0,u1,u2⟩:=HC.out _ (ka.out.trans (hr0.trans kk)); go_simp; first | done | with_reducible rfl)
 try simp only[Act.put,Reg.l1,Reg.l2,Reg.l3]
 refine' Reg.tk (i := 1) (oi := { dst := some 100, op := Op.load 23 (Operand.tmp 99), type := 23, pos := "kinds.go:29", after := #[{ on := 0, ground := Ground.data }], guard := none }) (v := _) [2, 3, 8, 13, 14] [] (Or.inl ⟨by rfl, Or.inl ?hy91⟩) ?r_91
 case hy91=>(intro w' kk ss; obtain⟨x0,x1,x2,x3,x4⟩:=bx5 (BX.out _ (hr0.trans kk)); obtain⟨u0,u1,u2⟩:=HC.out _ (ka.out.trans (hr0.trans kk)); go_simp; first | done | with_reducible rfl)
 try simp only[Act.put,Reg.l1,Reg.l2,Reg.l3]
 refine' Reg.tk (i := 2) (oi := { dst := some 101, op := Op.indexAddr 23 (Operand.tmp 100) (Operand.const (Value.int IntKind.i64 0)), type := 0, pos := "kinds.go:29", after := #[{ on := 1, ground := Ground.data }], guard := none }) (v := _) [3, 8, 13, 14] [] (Or.inl ⟨by rfl, Or.inl ?hy92⟩) ?r_92
 case hy92=>(intro w' kk ss; obtain⟨x0,x1,x2,x3,x4⟩:=bx5 (BX.out _ (hr0.trans kk)); obtain⟨u0,u1,u2⟩:=HC.out _ (ka.out.trans (hr0.trans kk)); go_simp; first | done | with_reducible rfl)
 try simp only[Act.put,Reg.l1,Reg.l2,Reg.l3]
 refine' Reg.tk (i := 3) (oi := { dst := some 102, op := Op.load 2 (Operand.tmp 101), type := 2, pos := "kinds.go:29", after := #[{ on := 2, ground := Ground.data }], guard := none }) (v := _) [8, 13, 14] [] (Or.inl ⟨by rfl, Or.inl ?hy93⟩) ?r_93
 case hy93=>(intro w' kk ss; obtain⟨x0,x1,x2,x3,x4⟩:=bx5 (BX.out _ (hr0.trans kk)); obtain⟨u0,u1,u2⟩:=HC.out _ (ka.out.trans (hr0.trans kk)); go_simp; first | done | with_reducible rfl)
 try simp only[Act.put,Reg.l1,Reg.l2,Reg.l3]
 refine' Reg.tk (i := 4) (oi := { dst := some 103, op := Op.fieldAddr 73 (Operand.tmp 1) 1, type := 0, pos := "kinds.go:29", after := #[], guard := none }) (v := _) [5, 6, 7, 8, 13, 14] [] (Or.inl ⟨by rfl, Or.inl ?hy94⟩) ?r_94
 case hy94=>(intro w' kk ss; obtain⟨x0,x1,x2,x3,x4⟩:=bx5 (BX.out _ (hr0.trans kk)); obtain⟨u0,u1,u2⟩:=HC.out _ (ka.out.trans (hr0.trans kk)); go_simp; first | done | with_reducible rfl)
 try simp only[Act.put,Reg.l1,Reg.l2,Reg.l3]
 refine' Reg.tk (i := 5) (oi := { dst := some 104, op := Op.load 23 (Operand.tmp 103), type := 23, pos := "kinds.go:29", after := #[{ on := 4, ground := Ground.data }], guard := none }) (v := _) [6, 7, 8, 13, 14] [] (Or.inl ⟨by rfl, Or.inl ?hy95⟩) ?r_95
 case hy95=>(intro w' kk ss; obtain⟨x0,x1,x2,x3,x4⟩:=bx5 (BX.out _ (hr0.trans kk)); obtain⟨u0,u1,u2⟩:=HC.out _ (ka.out.trans (hr0.trans kk)); go_simp; first | done | with_reducible rfl)
 try simp only[Act.put,Reg.l1,Reg.l2,Reg.l3]
 refine' Reg.tk (i := 6) (oi := { dst := some 105, op := Op.indexAddr 23 (Operand.tmp 104) (Operand.const (Value.int IntKind.i64 1)), type := 0, pos := "kinds.go:29", after := #[{ on := 5, ground := Ground.data }], guard := none }) (v := _) [7, 8, 13, 14] [] (Or.inl ⟨by rfl, Or.inl ?hy96⟩) ?r_96
 case hy96=>(intro w' kk ss; obtain⟨x0,x1,x2,x3,x4⟩:=bx5 (BX.out _ (hr0.trans kk)); obtain⟨u0,u1,u2⟩:=HC.out _ (ka.out.trans (hr0.trans kk)); go_simp; first | done | with_reducible rfl)
 try simp only[Act.put,Reg.l1,Reg.l2,Reg.l3]
 refine' Reg.tk (i := 7) (oi := { dst := some 106, op := Op.load 2 (Operand.tmp 105), type := 2, pos := "kinds.go:29", after := #[{ on := 6, ground := Ground.data }], guard := none }) (v := _) [8, 13, 14] [] (Or.inl ⟨by rfl, Or.inl ?hy97⟩) ?r_97
 case hy97=>(intro w' kk ss; obtain⟨x0,x1,x2,x3,x4⟩:=bx5 (BX.out _ (hr0.trans kk)); obtain⟨u0,u1,u2⟩:=HC.out _ (ka.out.trans (hr0.trans kk)); go_simp; first | done | with_reducible rfl)
 try simp only[Act.put,Reg.l1,Reg.l2,Reg.l3]
 refine' Reg.tk (i := 8) (oi := { dst := some 107, op := Op.call { callee := Callee.builtin Builtin.max, args := #[Operand.tmp 102, Operand.tmp 106], argTypes := #[2, 2] }, type := 2, pos := "kinds.go:29", after := #[{ on := 3, ground := Ground.data }, { on := 7, ground := Ground.data }], guard := none }) (v := _) [13, 14] [] (Or.inl ⟨by rfl, Or.inl ?hy98⟩) ?r_98
 case hy98=>(intro w' kk ss; obtain⟨x0,x1,x2,x3,x4⟩:=bx5 (BX.out _ (hr0.trans kk)); obtain⟨u0,u1,u2⟩:=HC.out _ (ka.out.trans (hr0.trans kk)); go_simp; first | done | with_reducible rfl)
 try simp only[Act.put,Reg.l1,Reg.l2,Reg.l3]
 refine' Reg.tk (i := 9) (oi := { dst := some 108, op := Op.fieldAddr 73 (Operand.tmp 1) 1, type := 0, pos := "kinds.go:29", after := #[], guard := none }) (v := _) [10, 11, 12, 13, 14] [] (Or.inl ⟨by rfl, Or.inl ?hy99⟩) ?r_99
 case hy99=>(intro w' kk ss; obtain⟨x0,x1,x2,x3,x4⟩:=bx5 (BX.out _ (hr0.trans kk)); obtain⟨u0,u1,u2⟩:=HC.out _ (ka.out.trans (hr0.trans kk)); go_simp; first | done | with_reducible rfl)
 try simp only[Act.put,Reg.l1,Reg.l2,Reg.l3]
 refine' Reg.tk (i := 10) (oi := { dst := some 109, op := Op.load 23 (Operand.tmp 108), type := 23, pos := "kinds.go:29", after := #[{ on := 9, ground := Ground.data }], guard := none }) (v := _) [11, 12, 13, 14] [] (Or.inl ⟨by rfl, Or.inl ?hy100⟩) ?r_100
 case hy100=>(intro w' kk ss; obtain⟨x0,x1,x2,x3,x4⟩:=bx5 (BX.out _ (hr0.trans kk)); obtain⟨u0,u1,u2⟩:=HC.out _ (ka.out.trans (hr0.trans kk)); go_simp; first | done | with_reducible rfl)
 try simp only[Act.put,Reg.l1,Reg.l2,Reg.l3]
 refine' Reg.tk (i := 11) (oi := { dst := some 110, op := Op.indexAddr 23 (Operand.tmp 109) (Operand.const (Value.int IntKind.i64 2)), type := 0, pos := "kinds.go:29", after := #[{ on := 10, ground := Ground.data }], guard := none }) (v := _) [12, 13, 14] [] (Or.inl ⟨by rfl, Or.inl ?hy101⟩) ?r_101
 case hy101=>(intro w' kk ss; obtain⟨x0,x1,x2,x3,x4⟩:=bx5 (BX.out _ (hr0.trans kk)); obtain⟨u0,u1,u2⟩:=HC.out _ (ka.out.trans (hr0.trans kk)); go_simp; first | done | with_reducible rfl)
 try simp only[Act.put,Reg.l1,Reg.l2,Reg.l3]
 refine' Reg.tk (i := 12) (oi := { dst := some 111, op := Op.load 2 (Operand.tmp 110), type := 2, pos := "kinds.go:29", after := #[{ on := 11, ground := Ground.data }], guard := none }) (v := _) [13, 14] [] (Or.inl ⟨by rfl, Or.inl ?hy102⟩) ?r_102
 case hy102=>(intro w' kk ss; obtain⟨x0,x1,x2,x3,x4⟩:=bx5 (BX.out _ (hr0.trans kk)); obtain⟨u0,u1,u2⟩:=HC.out _ (ka.out.trans (hr0.trans kk)); go_simp; first | done | with_reducible rfl)
 try simp only[Act.put,Reg.l1,Reg.l2,Reg.l3]
 refine' Reg.tk (i := 13) (oi := { dst := some 112, op := Op.binOp BinOp.eql 2 (Operand.tmp 107) (Operand.tmp 111) 2, type := 4, pos := "kinds.go:29", after := #[{ on := 8, ground := Ground.data }, { on := 12, ground := Ground.data }], guard := none }) (v := _) [14] [] (Or.inl ⟨by rfl, Or.inl ?hy103⟩) ?r_103
 case hy103=>(intro w' kk ss; obtain⟨x0,x1,x2,x3,x4⟩:=bx5 (BX.out _ (hr0.trans kk)); obtain⟨u0,u1,u2⟩:=HC.out _ (ka.out.trans (hr0.trans kk)); go_simp; first | done | with_reducible rfl)
 try simp only[Act.put,Reg.l1,Reg.l2,Reg.l3]
 refine' Reg.tk (i := 14) (oi := { dst := some 2, op := Op.assign (Operand.tmp 112), type := 4, pos := "kinds.go:29", after := #[{ on := 13, ground := Ground.data }, { on := 0, ground := Ground.phase }, { on := 1, ground := Ground.phase }, { on := 2, ground := Ground.phase }, { on := 3, ground := Ground.phase }, { on := 4, ground := Ground.phase }, { on := 5, ground := Ground.phase }, { on := 6, ground := Ground.phase }, { on := 7, ground := Ground.phase }, { on := 8, ground := Ground.phase }, { on := 9, ground := Ground.phase }, { on := 10, ground := Ground.phase }, { on := 11, ground := Ground.phase }, { on := 12, ground := Ground.phase }, { on := 13, ground := Ground.phase }], guard := none }) (v := _) [] [] (Or.inl ⟨by rfl, Or.inl ?hy104⟩) ?r_104
 case hy104=>(intro w' kk ss; obtain⟨x0,x1,x2,x3,x4⟩:=bx5 (BX.out _ (hr0.trans kk)); obtain⟨u0,u1,u2⟩:=HC.out _ (ka.out.trans (hr0.trans kk)); go_simp; first | done | with_reducible rfl)
 try simp only[Act.put,Reg.l1,Reg.l2,Reg.l3]
 refine Reg.wpG_done (by kernel_rfl) (fun we ke se => ?_) _
 refine NoPanic.normal ?_
 have hr0:=hr0.trans ke
 clear ke
 go_wp2
 all_goals go_ret
 all_goals exact RetT.of (by congr 1 <;> omega) (ka.out.trans hr0)
end Go.Proofs.Ytakfabaocgbbmaa.Sn
