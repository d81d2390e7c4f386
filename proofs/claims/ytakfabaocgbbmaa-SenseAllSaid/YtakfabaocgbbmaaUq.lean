/- Layer 11 (sense): the landed holds, of Abs, Same, Xor. -/
import Derived.Test.YtakfabaocgbbmaaUn
set_option maxHeartbeats 4000000
set_option maxRecDepth 20000
namespace Go.Proofs.Ytakfabaocgbbmaa.Sn
open Go.RowKit
set_option linter.unusedVariables false
set_option linter.unusedSimpArgs false
open Dig Lx Tk Ti Zs Tr
theorem holds_k10 (u:Value) (x a:List Int) (c:Int) (v:List Int) (w:World) (h:PlAt w u 10 x a c v) (hv:v.all within=true) (hn:v.length=2) :
 Calls Try.prog 65 #[u] w (RetT (max (v.getD 0 0) (-v.getD 0 0) == v.getD 1 0) w):=by
 have hb0:=fits_at hv (i:=0) (by omega)
 have hb1:=fits_at hv (i:=1) (by omega)
 obtain⟨X,xc,Y,yc,V,vc,rfl,h1,h2,h3⟩:=h
 rw[hn] at h3 ⊢
 obtain⟨b,o,rfl,e0⟩:=getI h3 0 (by omega)
 obtain⟨b1,o1,g1,e1⟩:=getI h3 1 (by omega)
 simp only[Option.some.injEq,Addr.mk.injEq,and_true] at g1
 obtain⟨rfl,rfl⟩:=g1
 simp only[Nat.add_zero] at e0
 generalize v.getD 0 0=p at *
 generalize v.getD 1 0=q at *
 generalize x.length=nx at *
 generalize a.length=na at *
 have HC:=Lib.hid (fun W (kk:Since w W)=>(show W.cell? ⟨b,o,none⟩=some (.int .i64 p)∧W.cell? ⟨b,o+1,none⟩=some (.int .i64 q) from⟨(kk.cell _ (World.block_lt_of_cell? _ _ e0)).trans e0,(kk.cell _ (World.block_lt_of_cell? _ _ e1)).trans e1⟩))
 clear h1 h2 h3 hv hn e0 e1
 have hw:IntKind.i64.wrap (-p) = -p:=wrap_id' (by omega) (by omega)
 have ka:=Lib.hid (sA w (.cells #[.int .i64 10,.slice X nx xc,.slice Y na yc,.int .i64 c,.slice (some ⟨b,o,none⟩) 2 vc] 73))
 have BX:=Lib.hid (fun W (kk:Since (w.alloc (.cells #[.int .i64 10,.slice X nx xc,.slice Y na yc,.int .i64 c,.slice (some ⟨b,o,none⟩) 2 vc] 73)) W)=>(Bx.fresh w #[.int .i64 10,.slice X nx xc,.slice Y na yc,.int .i64 c,.slice (some ⟨b,o,none⟩) 2 vc] 73).since kk)
 go_enter Try.func65,Try.ntmps65
 go_wp2
 obtain⟨W0,hW0⟩:∃ W0,W0=w.alloc (.cells #[.int .i64 10,.slice X nx xc,.slice Y na yc,.int .i64 c,.slice (some ⟨b,o,none⟩) 2 vc] 73):=⟨_,rfl⟩
 rw[← hW0]
 rw[← hW0] at ka BX
 clear hW0
 have hr0:Since W0 W0.drew:=Since.drew (Since.refl W0)
 refine wp_region_noPanic ?_
 refine Reg.wp_region_G (S:=fun _=>True) (fun j => [].contains j) (by kernel_rfl) trivial ?_
 refine' Reg.tk (i := 0) (oi := { dst := some 115, op := Op.fieldAddr 73 (Operand.tmp 1) 1, type := 0, pos := "kinds.go:31", after := #[], guard := none }) (v := _) [1, 2, 3, 9, 14, 15] [] (Or.inl ⟨by rfl, Or.inl ?hy106⟩) ?r_106
 case hy106=>(intro w' kk ss; obtain⟨x0,x1,x2,x3,x4⟩:=bx5 (BX.out _ (hr0.trans kk)); obtain⟨u0,u1⟩:=HC.out _ (ka.out.trans (hr0.trans kk)); go_simp; first | done | with_reducible rfl)
 try simp only[Act.put,Reg.l1,Reg.l2,Reg.l3]
 refine' Reg.tk (i := 1) (oi := { dst := some 116, op := Op.load 23 (Operand.tmp 115), type := 23, pos := "kinds.go:31", after := #[{ on := 0, ground := Ground.data }], guard := none }) (v := _) [2, 3, 9, 14, 15] [] (Or.inl ⟨by rfl, Or.inl ?hy107⟩) ?r_107
 case hy107=>(intro w' kk ss; obtain⟨x0,x1,x2,x3,x4⟩:=bx5 (BX.out _ (hr0.trans kk)); obtain⟨u0,u1⟩:=HC.out _ (ka.out.trans (hr0.trans kk)); go_simp; first | done | with_reducible rfl)
 try simp only[Act.put,Reg.l1,Reg.l2,Reg.l3]
 refine' Reg.tk (i := 2) (oi := { dst := some 117, op := Op.indexAddr 23 (Operand.tmp 116) (Operand.const (Value.int IntKind.i64 0)), type := 0, pos := "kinds.go:31", after := #[{ on := 1, ground := Ground.data }], guard := none }) (v := _) [3, 9, 14, 15] [] (Or.inl ⟨by rfl, Or.inl ?hy108⟩) ?r_108
 case hy108=>(intro w' kk ss; obtain⟨x0,x1,x2,x3,x4⟩:=bx5 (BX.out _ (hr0.trans kk)); obtain⟨u0,u1⟩:=HC.out _ (ka.out.trans (hr0.trans kk)); go_simp; first | done | with_reducible rfl)
 try simp only[Act.put,Reg.l1,Reg.l2,Reg.l3]
 refine' Reg.tk (i := 3) (oi := { dst := some 118, op := Op.load 2 (Operand.tmp 117), type := 2, pos := "kinds.go:31", after := #[{ on := 2, ground := Ground.data }], guard := none }) (v := _) [9, 14, 15] [] (Or.inl ⟨by rfl, Or.inl ?hy109⟩) ?r_109
 case hy109=>(intro w' kk ss; obtain⟨x0,x1,x2,x3,x4⟩:=bx5 (BX.out _ (hr0.trans kk)); obtain⟨u0,u1⟩:=HC.out _ (ka.out.trans (hr0.trans kk)); go_simp; first | done | with_reducible rfl)
 try simp only[Act.put,Reg.l1,Reg.l2,Reg.l3]
 refine' Reg.tk (i := 4) (oi := { dst := some 119, op := Op.fieldAddr 73 (Operand.tmp 1) 1, type := 0, pos := "kinds.go:31", after := #[], guard := none }) (v := _) [5, 6, 7, 8, 9, 14, 15] [] (Or.inl ⟨by rfl, Or.inl ?hy110⟩) ?r_110
 case hy110=>(intro w' kk ss; obtain⟨x0,x1,x2,x3,x4⟩:=bx5 (BX.out _ (hr0.trans kk)); obtain⟨u0,u1⟩:=HC.out _ (ka.out.trans (hr0.trans kk)); go_simp; first | done | with_reducible rfl)
 try simp only[Act.put,Reg.l1,Reg.l2,Reg.l3]
 refine' Reg.tk (i := 5) (oi := { dst := some 120, op := Op.load 23 (Operand.tmp 119), type := 23, pos := "kinds.go:31", after := #[{ on := 4, ground := Ground.data }], guard := none }) (v := _) [6, 7, 8, 9, 14, 15] [] (Or.inl ⟨by rfl, Or.inl ?hy111⟩) ?r_111
 case hy111=>(intro w' kk ss; obtain⟨x0,x1,x2,x3,x4⟩:=bx5 (BX.out _ (hr0.trans kk)); obtain⟨u0,u1⟩:=HC.out _ (ka.out.trans (hr0.trans kk)); go_simp; first | done | with_reducible rfl)
 try simp only[Act.put,Reg.l1,Reg.l2,Reg.l3]
 refine' Reg.tk (i := 6) (oi := { dst := some 121, op := Op.indexAddr 23 (Operand.tmp 120) (Operand.const (Value.int IntKind.i64 0)), type := 0, pos := "kinds.go:31", after := #[{ on := 5, ground := Ground.data }], guard := none }) (v := _) [7, 8, 9, 14, 15] [] (Or.inl ⟨by rfl, Or.inl ?hy112⟩) ?r_112
 case hy112=>(intro w' kk ss; obtain⟨x0,x1,x2,x3,x4⟩:=bx5 (BX.out _ (hr0.trans kk)); obtain⟨u0,u1⟩:=HC.out _ (ka.out.trans (hr0.trans kk)); go_simp; first | done | with_reducible rfl)
 try simp only[Act.put,Reg.l1,Reg.l2,Reg.l3]
 refine' Reg.tk (i := 7) (oi := { dst := some 122, op := Op.load 2 (Operand.tmp 121), type := 2, pos := "kinds.go:31", after := #[{ on := 6, ground := Ground.data }], guard := none }) (v := _) [8, 9, 14, 15] [] (Or.inl ⟨by rfl, Or.inl ?hy113⟩) ?r_113
 case hy113=>(intro w' kk ss; obtain⟨x0,x1,x2,x3,x4⟩:=bx5 (BX.out _ (hr0.trans kk)); obtain⟨u0,u1⟩:=HC.out _ (ka.out.trans (hr0.trans kk)); go_simp; first | done | with_reducible rfl)
 try simp only[Act.put,Reg.l1,Reg.l2,Reg.l3]
 refine' Reg.tk (i := 8) (oi := { dst := some 123, op := Op.unOp UnOp.neg 2 (Operand.tmp 122), type := 2, pos := "kinds.go:31", after := #[{ on := 7, ground := Ground.data }], guard := none }) (v := _) [9, 14, 15] [] (Or.inl ⟨by rfl, Or.inl ?hy114⟩) ?r_114
 case hy114=>(intro w' kk ss; obtain⟨x0,x1,x2,x3,x4⟩:=bx5 (BX.out _ (hr0.trans kk)); obtain⟨u0,u1⟩:=HC.out _ (ka.out.trans (hr0.trans kk)); go_simp; first | done | with_reducible rfl)
 try simp only[Act.put,Reg.l1,Reg.l2,Reg.l3]
 refine' Reg.tk (i := 9) (oi := { dst := some 124, op := Op.call { callee := Callee.builtin Builtin.max, args := #[Operand.tmp 118, Operand.tmp 123], argTypes := #[2, 2] }, type := 2, pos := "kinds.go:31", after := #[{ on := 3, ground := Ground.data }, { on := 8, ground := Ground.data }], guard := none }) (v := _) [14, 15] [] (Or.inl ⟨by rfl, Or.inl ?hy115⟩) ?r_115
 case hy115=>(intro w' kk ss; obtain⟨x0,x1,x2,x3,x4⟩:=bx5 (BX.out _ (hr0.trans kk)); obtain⟨u0,u1⟩:=HC.out _ (ka.out.trans (hr0.trans kk)); go_simp; first | done | with_reducible rfl)
 try simp only[Act.put,Reg.l1,Reg.l2,Reg.l3]
 refine' Reg.tk (i := 10) (oi := { dst := some 125, op := Op.fieldAddr 73 (Operand.tmp 1) 1, type := 0, pos := "kinds.go:31", after := #[], guard := none }) (v := _) [11, 12, 13, 14, 15] [] (Or.inl ⟨by rfl, Or.inl ?hy116⟩) ?r_116
 case hy116=>(intro w' kk ss; obtain⟨x0,x1,x2,x3,x4⟩:=bx5 (BX.out _ (hr0.trans kk)); obtain⟨u0,u1⟩:=HC.out _ (ka.out.trans (hr0.trans kk)); go_simp; first | done | with_reducible rfl)
 try simp only[Act.put,Reg.l1,Reg.l2,Reg.l3]
 refine' Reg.tk (i := 11) (oi := { dst := some 126, op := Op.load 23 (Operand.tmp 125), type := 23, pos := "kinds.go:31", after := #[{ on := 10, ground := Ground.data }], guard := none }) (v := _) [12, 13, 14, 15] [] (Or.inl ⟨by rfl, Or.inl ?hy117⟩) ?r_117
 case hy117=>(intro w' kk ss; obtain⟨x0,x1,x2,x3,x4⟩:=bx5 (BX.out _ (hr0.trans kk)); obtain⟨u0,u1⟩:=HC.out _ (ka.out.trans (hr0.trans kk)); go_simp; first | done | with_reducible rfl)
 try simp only[Act.put,Reg.l1,Reg.l2,Reg.l3]
 refine' Reg.tk (i := 12) (oi := { dst := some 127, op := Op.indexAddr 23 (Operand.tmp 126) (Operand.const (Value.int IntKind.i64 1)), type := 0, pos := "kinds.go:31", after := #[{ on := 11, ground := Ground.data }], guard := none }) (v := _) [13, 14, 15] [] (Or.inl ⟨by rfl, Or.inl ?hy118⟩) ?r_118
 case hy118=>(intro w' kk ss; obtain⟨x0,x1,x2,x3,x4⟩:=bx5 (BX.out _ (hr0.trans kk)); obtain⟨u0,u1⟩:=HC.out _ (ka.out.trans (hr0.trans kk)); go_simp; first | done | with_reducible rfl)
 try simp only[Act.put,Reg.l1,Reg.l2,Reg.l3]
 refine' Reg.tk (i := 13) (oi := { dst := some 128, op := Op.load 2 (Operand.tmp 127), type := 2, pos := "kinds.go:31", after := #[{ on := 12, ground := Ground.data }], guard := none }) (v := _) [14, 15] [] (Or.inl ⟨by rfl, Or.inl ?hy119⟩) ?r_119
 case hy119=>(intro w' kk ss; obtain⟨x0,x1,x2,x3,x4⟩:=bx5 (BX.out _ (hr0.trans kk)); obtain⟨u0,u1⟩:=HC.out _ (ka.out.trans (hr0.trans kk)); go_simp; first | done | with_reducible rfl)
 try simp only[Act.put,Reg.l1,Reg.l2,Reg.l3]
 refine' Reg.tk (i := 14) (oi := { dst := some 129, op := Op.binOp BinOp.eql 2 (Operand.tmp 124) (Operand.tmp 128) 2, type := 4, pos := "kinds.go:31", after := #[{ on := 9, ground := Ground.data }, { on := 13, ground := Ground.data }], guard := none }) (v := _) [15] [] (Or.inl ⟨by rfl, Or.inl ?hy120⟩) ?r_120
 case hy120=>(intro w' kk ss; obtain⟨x0,x1,x2,x3,x4⟩:=bx5 (BX.out _ (hr0.trans kk)); obtain⟨u0,u1⟩:=HC.out _ (ka.out.trans (hr0.trans kk)); go_simp; first | done | with_reducible rfl)
 try simp only[Act.put,Reg.l1,Reg.l2,Reg.l3]
 refine' Reg.tk (i := 15) (oi := { dst := some 2, op := Op.assign (Operand.tmp 129), type := 4, pos := "kinds.go:31", after := #[{ on := 14, ground := Ground.data }, { on := 0, ground := Ground.phase }, { on := 1, ground := Ground.phase }, { on := 2, ground := Ground.phase }, { on := 3, ground := Ground.phase }, { on := 4, ground := Ground.phase }, { on := 5, ground := Ground.phase }, { on := 6, ground := Ground.phase }, { on := 7, ground := Ground.phase }, { on := 8, ground := Ground.phase }, { on := 9, ground := Ground.phase }, { on := 10, ground := Ground.phase }, { on := 11, ground := Ground.phase }, { on := 12, ground := Ground.phase }, { on := 13, ground := Ground.phase }, { on := 14, ground := Ground.phase }], guard := none }) (v := _) [] [] (Or.inl ⟨by rfl, Or.inl ?hy121⟩) ?r_121
 case hy121=>(intro w' kk ss; obtain⟨x0,x1,x2,x3,x4⟩:=bx5 (BX.out _ (hr0.trans kk)); obtain⟨u0,u1⟩:=HC.out _ (ka.out.trans (hr0.trans kk)); go_simp; first | done | with_reducible rfl)
 try simp only[Act.put,Reg.l1,Reg.l2,Reg.l3]
 refine Reg.wpG_done (by kernel_rfl) (fun we ke se => ?_) _
 refine NoPanic.normal ?_
 have hr0:=hr0.trans ke
 clear ke
 go_wp2
 all_goals go_ret
 all_goals exact RetT.of (by congr 1 <;> omega) (ka.out.trans hr0)
theorem holds_k15 (u:Value) (x a:List Int) (c:Int) (v:List Int) (w:World) (h:PlAt w u 15 x a c v) (hv:v.all within=true) (hn:v.length=2) :
 Calls Try.prog 65 #[u] w (RetT (v.getD 0 0 == v.getD 1 0) w):=by
 have hb0:=fits_at hv (i:=0) (by omega)
 have hb1:=fits_at hv (i:=1) (by omega)
 obtain⟨X,xc,Y,yc,V,vc,rfl,h1,h2,h3⟩:=h
 rw[hn] at h3 ⊢
 obtain⟨b,o,rfl,e0⟩:=getI h3 0 (by omega)
 obtain⟨b1,o1,g1,e1⟩:=getI h3 1 (by omega)
 simp only[Option.some.injEq,Addr.mk.injEq,and_true] at g1
 obtain⟨rfl,rfl⟩:=g1
 simp only[Nat.add_zero] at e0
 generalize v.getD 0 0=p at *
 generalize v.getD 1 0=q at *
 generalize x.length=nx at *
 generalize a.length=na at *
 have HC:=Lib.hid (fun W (kk:Since w W)=>(show W.cell? ⟨b,o,none⟩=some (.int .i64 p)∧W.cell? ⟨b,o+1,none⟩=some (.int .i64 q) from⟨(kk.cell _ (World.block_lt_of_cell? _ _ e0)).trans e0,(kk.cell _ (World.block_lt_of_cell? _ _ e1)).trans e1⟩))
 clear h1 h2 h3 hv hn e0 e1
 have ka:=Lib.hid (sA w (.cells #[.int .i64 15,.slice X nx xc,.slice Y na yc,.int .i64 c,.slice (some ⟨b,o,none⟩) 2 vc] 73))
 have BX:=Lib.hid (fun W (kk:Since (w.alloc (.cells #[.int .i64 15,.slice X nx xc,.slice Y na yc,.int .i64 c,.slice (some ⟨b,o,none⟩) 2 vc] 73)) W)=>(Bx.fresh w #[.int .i64 15,.slice X nx xc,.slice Y na yc,.int .i64 c,.slice (some ⟨b,o,none⟩) 2 vc] 73).since kk)
 go_enter Try.func65,Try.ntmps65
 go_wp2
 obtain⟨W0,hW0⟩:∃ W0,W0=w.alloc (.cells #[.int .i64 15,.slice X nx xc,.slice Y na yc,.int .i64 c,.slice (some ⟨b,o,none⟩) 2 vc] 73):=⟨_,rfl⟩
 rw[← hW0]
 rw[← hW0] at ka BX
 clear hW0
 have hr0:Since W0 W0.drew:=Since.drew (Since.refl W0)
 refine wp_region_noPanic ?_
 refine Reg.wp_region_G (S:=fun _=>True) (fun j => [].contains j) (by kernel_rfl) trivial ?_
 refine' Reg.tk (i := 0) (oi := { dst := some 132, op := Op.fieldAddr 73 (Operand.tmp 1) 1, type := 0, pos := "kinds.go:33", after := #[], guard := none }) (v := _) [1, 2, 3, 8, 9] [] (Or.inl ⟨by rfl, Or.inl ?hy123⟩) ?r_123
 case hy123=>(intro w' kk ss; obtain⟨x0,x1,x2,x3,x4⟩:=bx5 (BX.out _ (hr0.trans kk)); obtain⟨u0,u1⟩:=HC.out _ (ka.out.trans (hr0.trans kk)); go_simp; first | done | with_reducible rfl)
 try simp only[Act.put,Reg.l1,Reg.l2,Reg.l3]
 refine' Reg.tk (i := 1) (oi := { dst := some 133, op := Op.load 23 (Operand.tmp 132), type := 23, pos := "kinds.go:33", after := #[{ on := 0, ground := Ground.data }], guard := none }) (v := _) [2, 3, 8, 9] [] (Or.inl ⟨by rfl, Or.inl ?hy124⟩) ?r_124
 case hy124=>(intro w' kk ss; obtain⟨x0,x1,x2,x3,x4⟩:=bx5 (BX.out _ (hr0.trans kk)); obtain⟨u0,u1⟩:=HC.out _ (ka.out.trans (hr0.trans kk)); go_simp; first | done | with_reducible rfl)
 try simp only[Act.put,Reg.l1,Reg.l2,Reg.l3]
 refine' Reg.tk (i := 2) (oi := { dst := some 134, op := Op.indexAddr 23 (Operand.tmp 133) (Operand.const (Value.int IntKind.i64 0)), type := 0, pos := "kinds.go:33", after := #[{ on := 1, ground := Ground.data }], guard := none }) (v := _) [3, 8, 9] [] (Or.inl ⟨by rfl, Or.inl ?hy125⟩) ?r_125
 case hy125=>(intro w' kk ss; obtain⟨x0,x1,x2,x3,x4⟩:=bx5 (BX.out _ (hr0.trans kk)); obtain⟨u0,u1⟩:=HC.out _ (ka.out.trans (hr0.trans kk)); go_simp; first | done | with_reducible rfl)
 try simp only[Act.put,Reg.l1,Reg.l2,Reg.l3]
 refine' Reg.tk (i := 3) (oi := { dst := some 135, op := Op.load 2 (Operand.tmp 134), type := 2, pos := "kinds.go:33", after := #[{ on := 2, ground := Ground.data }], guard := none }) (v := _) [8, 9] [] (Or.inl ⟨by rfl, Or.inl ?hy126⟩) ?r_126
 case hy126=>(intro w' kk ss; obtain⟨x0,x1,x2,x3,x4⟩:=bx5 (BX.out _ (hr0.trans kk)); obtain⟨u0,u1⟩:=HC.out _ (ka.out.trans (hr0.trans kk)); go_simp; first | done | with_reducible rfl)
 try simp only[Act.put,Reg.l1,Reg.l2,Reg.l3]
 refine' Reg.tk (i := 4) (oi := { dst := some 136, op := Op.fieldAddr 73 (Operand.tmp 1) 1, type := 0, pos := "kinds.go:33", after := #[], guard := none }) (v := _) [5, 6, 7, 8, 9] [] (Or.inl ⟨by rfl, Or.inl ?hy127⟩) ?r_127
 case hy127=>(intro w' kk ss; obtain⟨x0,x1,x2,x3,x4⟩:=bx5 (BX.out _ (hr0.trans kk)); obtain⟨u0,u1⟩:=HC.out _ (ka.out.trans (hr0.trans kk)); go_simp; first | done | with_reducible rfl)
 try simp only[Act.put,Reg.l1,Reg.l2,Reg.l3]
 refine' Reg.tk (i := 5) (oi := { dst := some 137, op := Op.load 23 (Operand.tmp 136), type := 23, pos := "kinds.go:33", after := #[{ on := 4, ground := Ground.data }], guard := none }) (v := _) [6, 7, 8, 9] [] (Or.inl ⟨by rfl, Or.inl ?hy128⟩) ?r_128
 case hy128=>(intro w' kk ss; obtain⟨x0,x1,x2,x3,x4⟩:=bx5 (BX.out _ (hr0.trans kk)); obtain⟨u0,u1⟩:=HC.out _ (ka.out.trans (hr0.trans kk)); go_simp; first | done | with_reducible rfl)
 try simp only[Act.put,Reg.l1,Reg.l2,Reg.l3]
 refine' Reg.tk (i := 6) (oi := { dst := some 138, op := Op.indexAddr 23 (Operand.tmp 137) (Operand.const (Value.int IntKind.i64 1)), type := 0, pos := "kinds.go:33", after := #[{ on := 5, ground := Ground.data }], guard := none }) (v := _) [7, 8, 9] [] (Or.inl ⟨by rfl, Or.inl ?hy129⟩) ?r_129
 case hy129=>(intro w' kk ss; obtain⟨x0,x1,x2,x3,x4⟩:=bx5 (BX.out _ (hr0.trans kk)); obtain⟨u0,u1⟩:=HC.out _ (ka.out.trans (hr0.trans kk)); go_simp; first | done | with_reducible rfl)
 try simp only[Act.put,Reg.l1,Reg.l2,Reg.l3]
 refine' Reg.tk (i := 7) (oi := { dst := some 139, op := Op.load 2 (Operand.tmp 138), type := 2, pos := "kinds.go:33", after := #[{ on := 6, ground := Ground.data }], guard := none }) (v := _) [8, 9] [] (Or.inl ⟨by rfl, Or.inl ?hy130⟩) ?r_130
 case hy130=>(intro w' kk ss; obtain⟨x0,x1,x2,x3,x4⟩:=bx5 (BX.out _ (hr0.trans kk)); obtain⟨u0,u1⟩:=HC.out _ (ka.out.trans (hr0.trans kk)); go_simp; first | done | with_reducible rfl)
 try simp only[Act.put,Reg.l1,Reg.l2,Reg.l3]
 refine' Reg.tk (i := 8) (oi := { dst := some 140, op := Op.binOp BinOp.eql 2 (Operand.tmp 135) (Operand.tmp 139) 2, type := 4, pos := "kinds.go:33", after := #[{ on := 3, ground := Ground.data }, { on := 7, ground := Ground.data }], guard := none }) (v := _) [9] [] (Or.inl ⟨by rfl, Or.inl ?hy131⟩) ?r_131
 case hy131=>(intro w' kk ss; obtain⟨x0,x1,x2,x3,x4⟩:=bx5 (BX.out _ (hr0.trans kk)); obtain⟨u0,u1⟩:=HC.out _ (ka.out.trans (hr0.trans kk)); go_simp; first | done | with_reducible rfl)
 try simp only[Act.put,Reg.l1,Reg.l2,Reg.l3]
 refine' Reg.tk (i := 9) (oi := { dst := some 2, op := Op.assign (Operand.tmp 140), type := 4, pos := "kinds.go:33", after := #[{ on := 8, ground := Ground.data }, { on := 0, ground := Ground.phase }, { on := 1, ground := Ground.phase }, { on := 2, ground := Ground.phase }, { on := 3, ground := Ground.phase }, { on := 4, ground := Ground.phase }, { on := 5, ground := Ground.phase }, { on := 6, ground := Ground.phase }, { on := 7, ground := Ground.phase }, { on := 8, ground := Ground.phase }], guard := none }) (v := _) [] [] (Or.inl ⟨by rfl, Or.inl ?hy132⟩) ?r_132
 case hy132=>(intro w' kk ss; obtain⟨x0,x1,x2,x3,x4⟩:=bx5 (BX.out _ (hr0.trans kk)); obtain⟨u0,u1⟩:=HC.out _ (ka.out.trans (hr0.trans kk)); go_simp; first | done | with_reducible rfl)
 try simp only[Act.put,Reg.l1,Reg.l2,Reg.l3]
 refine Reg.wpG_done (by kernel_rfl) (fun we ke se => ?_) _
 refine NoPanic.normal ?_
 have hr0:=hr0.trans ke
 clear ke
 go_wp2
 all_goals go_ret
 exact⟨rfl,ka.out.trans hr0⟩
theorem holds_k14 (u:Value) (x a:List Int) (c:Int) (v:List Int) (w:World) (h:PlAt w u 14 x a c v) (hv:v.all within=true) (hn:v.length=3) :
 Calls Try.prog 65 #[u] w (RetT (flg v == (v.getD 0 0 != v.getD 1 0)) w):=by
 obtain⟨F,hF⟩:∃ F,flg v=F:=⟨_,rfl⟩
 have FA:=Lib.hid (fun W kk=>flag_at h (by omega) (by omega) hF W kk)
 rw[hF]
 have hb0:=fits_at hv (i:=0) (by omega)
 have hb1:=fits_at hv (i:=1) (by omega)
 have hb2:=fits_at hv (i:=2) (by omega)
 obtain⟨X,xc,Y,yc,V,vc,rfl,h1,h2,h3⟩:=h
 rw[hn] at h3 FA ⊢
 obtain⟨b,o,rfl,e0⟩:=getI h3 0 (by omega)
 obtain⟨b1,o1,g1,e1⟩:=getI h3 1 (by omega)
 simp only[Option.some.injEq,Addr.mk.injEq,and_true] at g1
 obtain⟨rfl,rfl⟩:=g1
 obtain⟨b2,o2,g2,e2⟩:=getI h3 2 (by omega)
 simp only[Option.some.injEq,Addr.mk.injEq,and_true] at g2
 obtain⟨rfl,rfl⟩:=g2
 simp only[Nat.add_zero] at e0
 generalize v.getD 0 0=p at *
 generalize v.getD 1 0=q at *
 generalize v.getD 2 0=r at *
 generalize x.length=nx at *
 generalize a.length=na at *
 have HC:=Lib.hid (fun W (kk:Since w W)=>(show W.cell? ⟨b,o,none⟩=some (.int .i64 p)∧W.cell? ⟨b,o+1,none⟩=some (.int .i64 q)∧W.cell? ⟨b,o+2,none⟩=some (.int .i64 r) from⟨(kk.cell _ (World.block_lt_of_cell? _ _ e0)).trans e0,(kk.cell _ (World.block_lt_of_cell? _ _ e1)).trans e1,(kk.cell _ (World.block_lt_of_cell? _ _ e2)).trans e2⟩))
 clear h1 h2 h3 hv hn hF e0 e1 e2
 have ka:=Lib.hid (sA w (.cells #[.int .i64 14,.slice X nx xc,.slice Y na yc,.int .i64 c,.slice (some ⟨b,o,none⟩) 3 vc] 73))
 have BX:=Lib.hid (fun W (kk:Since (w.alloc (.cells #[.int .i64 14,.slice X nx xc,.slice Y na yc,.int .i64 c,.slice (some ⟨b,o,none⟩) 3 vc] 73)) W)=>(Bx.fresh w #[.int .i64 14,.slice X nx xc,.slice Y na yc,.int .i64 c,.slice (some ⟨b,o,none⟩) 3 vc] 73).since kk)
 go_enter Try.func65,Try.ntmps65
 go_wp2
 obtain⟨W0,hW0⟩:∃ W0,W0=w.alloc (.cells #[.int .i64 14,.slice X nx xc,.slice Y na yc,.int .i64 c,.slice (some ⟨b,o,none⟩) 3 vc] 73):=⟨_,rfl⟩
 rw[← hW0]
 rw[← hW0] at ka BX
 clear hW0
 have hr0:Since W0 W0.drew:=Since.drew (Since.refl W0)
 refine wp_region_noPanic ?_
 refine Reg.wp_region_G (S:=fun _=>True) (fun j => [].contains j) (by kernel_rfl) trivial ?_
 refine' Reg.tk (i := 0) (oi := { dst := some 164, op := Op.load 73 (Operand.tmp 1), type := 73, pos := "kinds.go:41", after := #[], guard := none }) (v := _) [1, 11, 12] [] (Or.inl ⟨by rfl, Or.inl ?hy134⟩) ?r_134
 case hy134=>(intro w' kk ss; obtain⟨x0,x1,x2,x3,x4⟩:=bx5 (BX.out _ (hr0.trans kk)); obtain⟨u0,u1,u2⟩:=HC.out _ (ka.out.trans (hr0.trans kk)); go_simp; first | done | with_reducible rfl)
 try simp only[Act.put,Reg.l1,Reg.l2,Reg.l3]
 refine Reg.tk (i := 1) (oi := { dst := some 165, op := Op.call { callee := Callee.value (Operand.func 93), args := #[Operand.tmp 164], argTypes := #[73] }, type := 4, pos := "kinds.go:41", after := #[{ on := 0, ground := Ground.data }], guard := none }) (v := .bool F) [11, 12] [] (Or.inl ⟨by rfl, Or.inr ⟨93, #[.agg #[.int .i64 14, .slice X nx xc, .slice Y na yc, .int .i64 c, .slice (some ⟨b, o, none⟩) 3 vc]], fun w' kk ss => ⟨?_, ?_⟩⟩⟩) ?_
 · (try dsimp only at ss); go_simp
 · exact FA.out w' (ka.out.trans (hr0.trans kk))
 try simp only[Act.put,Reg.l1,Reg.l2,Reg.l3]
 refine' Reg.tk (i := 2) (oi := { dst := some 166, op := Op.fieldAddr 73 (Operand.tmp 1) 1, type := 0, pos := "kinds.go:41", after := #[], guard := none }) (v := _) [3, 4, 5, 10, 11, 12] [] (Or.inl ⟨by rfl, Or.inl ?hy135⟩) ?r_135
 case hy135=>(intro w' kk ss; obtain⟨x0,x1,x2,x3,x4⟩:=bx5 (BX.out _ (hr0.trans kk)); obtain⟨u0,u1,u2⟩:=HC.out _ (ka.out.trans (hr0.trans kk)); go_simp; first | done | with_reducible rfl)
 try simp only[Act.put,Reg.l1,Reg.l2,Reg.l3]
 refine' Reg.tk (i := 3) (oi := { dst := some 167, op := Op.load 23 (Operand.tmp 166), type := 23, pos := "kinds.go:41", after := #[{ on := 2, ground := Ground.data }], guard := none }) (v := _) [4, 5, 10, 11, 12] [] (Or.inl ⟨by rfl, Or.inl ?hy136⟩) ?r_136
 case hy136=>(intro w' kk ss; obtain⟨x0,x1,x2,x3,x4⟩:=bx5 (BX.out _ (hr0.trans kk)); obtain⟨u0,u1,u2⟩:=HC.out _ (ka.out.trans (hr0.trans kk)); go_simp; first | done | with_reducible rfl)
 try simp only[Act.put,Reg.l1,Reg.l2,Reg.l3]
 refine' Reg.tk (i := 4) (oi := { dst := some 168, op := Op.indexAddr 23 (Operand.tmp 167) (Operand.const (Value.int IntKind.i64 0)), type := 0, pos := "kinds.go:41", after := #[{ on := 3, ground := Ground.data }], guard := none }) (v := _) [5, 10, 11, 12] [] (Or.inl ⟨by rfl, Or.inl ?hy137⟩) ?r_137
 case hy137=>(intro w' kk ss; obtain⟨x0,x1,x2,x3,x4⟩:=bx5 (BX.out _ (hr0.trans kk)); obtain⟨u0,u1,u2⟩:=HC.out _ (ka.out.trans (hr0.trans kk)); go_simp; first | done | with_reducible rfl)
 try simp only[Act.put,Reg.l1,Reg.l2,Reg.l3]
 refine' Reg.tk (i := 5) (oi := { dst := some 169, op := Op.load 2 (Operand.tmp 168), type := 2, pos := "kinds.go:41", after := #[{ on := 4, ground := Ground.data }], guard := none }) (v := _) [10, 11, 12] [] (Or.inl ⟨by rfl, Or.inl ?hy138⟩) ?r_138
 case hy138=>(intro w' kk ss; obtain⟨x0,x1,x2,x3,x4⟩:=bx5 (BX.out _ (hr0.trans kk)); obtain⟨u0,u1,u2⟩:=HC.out _ (ka.out.trans (hr0.trans kk)); go_simp; first | done | with_reducible rfl)
 try simp only[Act.put,Reg.l1,Reg.l2,Reg.l3]
 refine' Reg.tk (i := 6) (oi := { dst := some 170, op := Op.fieldAddr 73 (Operand.tmp 1) 1, type := 0, pos := "kinds.go:41", after := #[], guard := none }) (v := _) [7, 8, 9, 10, 11, 12] [] (Or.inl ⟨by rfl, Or.inl ?hy139⟩) ?r_139
 case hy139=>(intro w' kk ss; obtain⟨x0,x1,x2,x3,x4⟩:=bx5 (BX.out _ (hr0.trans kk)); obtain⟨u0,u1,u2⟩:=HC.out _ (ka.out.trans (hr0.trans kk)); go_simp; first | done | with_reducible rfl)
 try simp only[Act.put,Reg.l1,Reg.l2,Reg.l3]
 refine' Reg.tk (i := 7) (oi := { dst := some 171, op := Op.load 23 (Operand.tmp 170), type := 23, pos := "kinds.go:41", after := #[{ on := 6, ground := Ground.data }], guard := none }) (v := _) [8, 9, 10, 11, 12] [] (Or.inl ⟨by rfl, Or.inl ?hy140⟩) ?r_140
 case hy140=>(intro w' kk ss; obtain⟨x0,x1,x2,x3,x4⟩:=bx5 (BX.out _ (hr0.trans kk)); obtain⟨u0,u1,u2⟩:=HC.out _ (ka.out.trans (hr0.trans kk)); go_simp; first | done | with_reducible rfl)
 try simp only[Act.put,Reg.l1,Reg.l2,Reg.l3]
 refine' Reg.tk (i := 8) (oi := { dst := some 172, op := Op.indexAddr 23 (Operand.tmp 171) (Operand.const (Value.int IntKind.i64 1)), type := 0, pos := "kinds.go:41", after := #[{ on := 7, ground := Ground.data }], guard := none }) (v := _) [9, 10, 11, 12] [] (Or.inl ⟨by rfl, Or.inl ?hy141⟩) ?r_141
 case hy141=>(intro w' kk ss; obtain⟨x0,x1,x2,x3,x4⟩:=bx5 (BX.out _ (hr0.trans kk)); obtain⟨u0,u1,u2⟩:=HC.out _ (ka.out.trans (hr0.trans kk)); go_simp; first | done | with_reducible rfl)
 try simp only[Act.put,Reg.l1,Reg.l2,Reg.l3]
 refine' Reg.tk (i := 9) (oi := { dst := some 173, op := Op.load 2 (Operand.tmp 172), type := 2, pos := "kinds.go:41", after := #[{ on := 8, ground := Ground.data }], guard := none }) (v := _) [10, 11, 12] [] (Or.inl ⟨by rfl, Or.inl ?hy142⟩) ?r_142
 case hy142=>(intro w' kk ss; obtain⟨x0,x1,x2,x3,x4⟩:=bx5 (BX.out _ (hr0.trans kk)); obtain⟨u0,u1,u2⟩:=HC.out _ (ka.out.trans (hr0.trans kk)); go_simp; first | done | with_reducible rfl)
 try simp only[Act.put,Reg.l1,Reg.l2,Reg.l3]
 refine' Reg.tk (i := 10) (oi := { dst := some 174, op := Op.binOp BinOp.neq 2 (Operand.tmp 169) (Operand.tmp 173) 2, type := 4, pos := "kinds.go:41", after := #[{ on := 5, ground := Ground.data }, { on := 9, ground := Ground.data }], guard := none }) (v := _) [11, 12] [] (Or.inl ⟨by rfl, Or.inl ?hy143⟩) ?r_143
 case hy143=>(intro w' kk ss; obtain⟨x0,x1,x2,x3,x4⟩:=bx5 (BX.out _ (hr0.trans kk)); obtain⟨u0,u1,u2⟩:=HC.out _ (ka.out.trans (hr0.trans kk)); go_simp; first | done | with_reducible rfl)
 try simp only[Act.put,Reg.l1,Reg.l2,Reg.l3]
 refine' Reg.tk (i := 11) (oi := { dst := some 175, op := Op.binOp BinOp.eql 4 (Operand.tmp 165) (Operand.tmp 174) 4, type := 4, pos := "kinds.go:41", after := #[{ on := 1, ground := Ground.data }, { on := 10, ground := Ground.data }], guard := none }) (v := _) [12] [] (Or.inl ⟨by rfl, Or.inl ?hy144⟩) ?r_144
 case hy144=>(intro w' kk ss; obtain⟨x0,x1,x2,x3,x4⟩:=bx5 (BX.out _ (hr0.trans kk)); obtain⟨u0,u1,u2⟩:=HC.out _ (ka.out.trans (hr0.trans kk)); go_simp; first | done | with_reducible rfl)
 try simp only[Act.put,Reg.l1,Reg.l2,Reg.l3]
 refine' Reg.tk (i := 12) (oi := { dst := some 2, op := Op.assign (Operand.tmp 175), type := 4, pos := "kinds.go:41", after := #[{ on := 11, ground := Ground.data }, { on := 1, ground := Ground.chain }, { on := 0, ground := Ground.phase }, { on := 1, ground := Ground.phase }, { on := 2, ground := Ground.phase }, { on := 3, ground := Ground.phase }, { on := 4, ground := Ground.phase }, { on := 5, ground := Ground.phase }, { on := 6, ground := Ground.phase }, { on := 7, ground := Ground.phase }, { on := 8, ground := Ground.phase }, { on := 9, ground := Ground.phase }, { on := 10, ground := Ground.phase }, { on := 11, ground := Ground.phase }], guard := none }) (v := _) [] [] (Or.inl ⟨by rfl, Or.inl ?hy145⟩) ?r_145
 case hy145=>(intro w' kk ss; obtain⟨x0,x1,x2,x3,x4⟩:=bx5 (BX.out _ (hr0.trans kk)); obtain⟨u0,u1,u2⟩:=HC.out _ (ka.out.trans (hr0.trans kk)); go_simp; first | done | with_reducible rfl)
 try simp only[Act.put,Reg.l1,Reg.l2,Reg.l3]
 refine Reg.wpG_done (by kernel_rfl) (fun we ke se => ?_) _
 refine NoPanic.normal ?_
 have hr0:=hr0.trans ke
 clear ke
 go_wp2
 all_goals go_ret
 exact⟨rfl,ka.out.trans hr0⟩
end Go.Proofs.Ytakfabaocgbbmaa.Sn
