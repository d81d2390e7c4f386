/- Layer 11 (sense): the landed holds, of the kinds that have a sum. -/
import Derived.Test.YtakfabaocgbbmaaUn
set_option maxHeartbeats 4000000
set_option maxRecDepth 20000
namespace Go.Proofs.Ytakfabaocgbbmaa.Sn
open Go.RowKit
set_option linter.unusedVariables false
set_option linter.unusedSimpArgs false
open Dig Lx Tk Ti Zs Tr
theorem holds_k1 (u:Value) (x a:List Int) (c:Int) (v:List Int) (w:World) (h:PlAt w u 1 x a c v) (hn:a.length≤v.length) (hl:v.length≤1000) (ha:a.all within=true) (hv:v.all within=true) :
 Calls Try.prog 65 #[u] w (RetT (sm a v == c) w):=by
 obtain⟨S,hS⟩:∃ S,sm a v=S:=⟨_,rfl⟩
 have SA:=Lib.hid (fun W kk=>sum_at h hn hl ha hv hS W kk)
 rw[hS]
 obtain⟨X,xc,Y,yc,V,vc,rfl,h1,h2,h3⟩:=h
 generalize x.length=nx at *
 generalize a.length=na at *
 generalize v.length=nv at *
 clear h1 h2 h3 hS ha hv hn
 have ka:=Lib.hid (sA w (.cells #[.int .i64 1,.slice X nx xc,.slice Y na yc,.int .i64 c,.slice V nv vc] 73))
 have BX:=Lib.hid (fun W (kk:Since (w.alloc (.cells #[.int .i64 1,.slice X nx xc,.slice Y na yc,.int .i64 c,.slice V nv vc] 73)) W)=>(Bx.fresh w #[.int .i64 1,.slice X nx xc,.slice Y na yc,.int .i64 c,.slice V nv vc] 73).since kk)
 go_enter Try.func65,Try.ntmps65
 go_wp2
 obtain⟨W0,hW0⟩:∃ W0,W0=w.alloc (.cells #[.int .i64 1,.slice X nx xc,.slice Y na yc,.int .i64 c,.slice V nv vc] 73):=⟨_,rfl⟩
 rw[← hW0]
 rw[← hW0] at ka BX
 clear hW0
 have hr0:Since W0 W0.drew:=Since.drew (Since.refl W0)
 refine wp_region_noPanic ?_
 refine Reg.wp_region_G (S:=fun _=>True) (fun j => [].contains j) (by kernel_rfl) trivial ?_
 refine' Reg.tk (i := 0) (oi := { dst := some 8, op := Op.load 73 (Operand.tmp 1), type := 73, pos := "kinds.go:13", after := #[], guard := none }) (v := _) [1, 5, 6] [] (Or.inl ⟨by rfl, Or.inl ?hy2⟩) ?r_2
 case hy2=>(intro w' kk ss; obtain⟨x0,x1,x2,x3,x4⟩:=bx5 (BX.out _ (hr0.trans kk)); go_simp; first | done | with_reducible rfl)
 try simp only[Act.put,Reg.l1,Reg.l2,Reg.l3]
 refine Reg.tk (i := 1) (oi := { dst := some 9, op := Op.call { callee := Callee.value (Operand.func 60), args := #[Operand.tmp 8], argTypes := #[73] }, type := 2, pos := "kinds.go:13", after := #[{ on := 0, ground := Ground.data }], guard := none }) (v := .int .i64 S) [5, 6] [] (Or.inl ⟨by rfl, Or.inr ⟨60, #[.agg #[.int .i64 1, .slice X nx xc, .slice Y na yc, .int .i64 c, .slice V nv vc]], fun w' kk ss => ⟨?_, ?_⟩⟩⟩) ?_
 · (try dsimp only at ss); go_simp
 · exact SA.out w' (ka.out.trans (hr0.trans kk))
 try simp only[Act.put,Reg.l1,Reg.l2,Reg.l3]
 refine' Reg.tk (i := 2) (oi := { dst := some 10, op := Op.fieldAddr 73 (Operand.tmp 1) 0, type := 0, pos := "kinds.go:13", after := #[], guard := none }) (v := _) [3, 4, 5, 6] [] (Or.inl ⟨by rfl, Or.inl ?hy3⟩) ?r_3
 case hy3=>(intro w' kk ss; obtain⟨x0,x1,x2,x3,x4⟩:=bx5 (BX.out _ (hr0.trans kk)); go_simp; first | done | with_reducible rfl)
 try simp only[Act.put,Reg.l1,Reg.l2,Reg.l3]
 refine' Reg.tk (i := 3) (oi := { dst := some 11, op := Op.fieldAddr 25 (Operand.tmp 10) 3, type := 0, pos := "kinds.go:13", after := #[{ on := 2, ground := Ground.data }], guard := none }) (v := _) [4, 5, 6] [] (Or.inl ⟨by rfl, Or.inl ?hy4⟩) ?r_4
 case hy4=>(intro w' kk ss; obtain⟨x0,x1,x2,x3,x4⟩:=bx5 (BX.out _ (hr0.trans kk)); go_simp; first | done | with_reducible rfl)
 try simp only[Act.put,Reg.l1,Reg.l2,Reg.l3]
 refine' Reg.tk (i := 4) (oi := { dst := some 12, op := Op.load 2 (Operand.tmp 11), type := 2, pos := "kinds.go:13", after := #[{ on := 3, ground := Ground.data }], guard := none }) (v := _) [5, 6] [] (Or.inl ⟨by rfl, Or.inl ?hy5⟩) ?r_5
 case hy5=>(intro w' kk ss; obtain⟨x0,x1,x2,x3,x4⟩:=bx5 (BX.out _ (hr0.trans kk)); go_simp; first | done | with_reducible rfl)
 try simp only[Act.put,Reg.l1,Reg.l2,Reg.l3]
 refine' Reg.tk (i := 5) (oi := { dst := some 13, op := Op.binOp BinOp.eql 2 (Operand.tmp 9) (Operand.tmp 12) 2, type := 4, pos := "kinds.go:13", after := #[{ on := 1, ground := Ground.data }, { on := 4, ground := Ground.data }], guard := none }) (v := _) [6] [] (Or.inl ⟨by rfl, Or.inl ?hy6⟩) ?r_6
 case hy6=>(intro w' kk ss; obtain⟨x0,x1,x2,x3,x4⟩:=bx5 (BX.out _ (hr0.trans kk)); go_simp; first | done | with_reducible rfl)
 try simp only[Act.put,Reg.l1,Reg.l2,Reg.l3]
 refine' Reg.tk (i := 6) (oi := { dst := some 2, op := Op.assign (Operand.tmp 13), type := 4, pos := "kinds.go:13", after := #[{ on := 5, ground := Ground.data }, { on := 1, ground := Ground.chain }, { on := 0, ground := Ground.phase }, { on := 1, ground := Ground.phase }, { on := 2, ground := Ground.phase }, { on := 3, ground := Ground.phase }, { on := 4, ground := Ground.phase }, { on := 5, ground := Ground.phase }], guard := none }) (v := _) [] [] (Or.inl ⟨by rfl, Or.inl ?hy7⟩) ?r_7
 case hy7=>(intro w' kk ss; obtain⟨x0,x1,x2,x3,x4⟩:=bx5 (BX.out _ (hr0.trans kk)); go_simp; first | done | with_reducible rfl)
 try simp only[Act.put,Reg.l1,Reg.l2,Reg.l3]
 refine Reg.wpG_done (by kernel_rfl) (fun we ke se => ?_) _
 refine NoPanic.normal ?_
 have hr0:=hr0.trans ke
 clear ke
 go_wp2
 all_goals go_ret
 exact⟨rfl,ka.out.trans hr0⟩
theorem holds_k2 (u:Value) (x a:List Int) (c:Int) (v:List Int) (w:World) (h:PlAt w u 2 x a c v) (hn:a.length≤v.length) (hl:v.length≤1000) (ha:a.all within=true) (hv:v.all within=true) :
 Calls Try.prog 65 #[u] w (RetT (decide (sm a v≤c)) w):=by
 obtain⟨S,hS⟩:∃ S,sm a v=S:=⟨_,rfl⟩
 have SA:=Lib.hid (fun W kk=>sum_at h hn hl ha hv hS W kk)
 rw[hS]
 obtain⟨X,xc,Y,yc,V,vc,rfl,h1,h2,h3⟩:=h
 generalize x.length=nx at *
 generalize a.length=na at *
 generalize v.length=nv at *
 clear h1 h2 h3 hS ha hv hn
 have ka:=Lib.hid (sA w (.cells #[.int .i64 2,.slice X nx xc,.slice Y na yc,.int .i64 c,.slice V nv vc] 73))
 have BX:=Lib.hid (fun W (kk:Since (w.alloc (.cells #[.int .i64 2,.slice X nx xc,.slice Y na yc,.int .i64 c,.slice V nv vc] 73)) W)=>(Bx.fresh w #[.int .i64 2,.slice X nx xc,.slice Y na yc,.int .i64 c,.slice V nv vc] 73).since kk)
 go_enter Try.func65,Try.ntmps65
 go_wp2
 obtain⟨W0,hW0⟩:∃ W0,W0=w.alloc (.cells #[.int .i64 2,.slice X nx xc,.slice Y na yc,.int .i64 c,.slice V nv vc] 73):=⟨_,rfl⟩
 rw[← hW0]
 rw[← hW0] at ka BX
 clear hW0
 have hr0:Since W0 W0.drew:=Since.drew (Since.refl W0)
 refine wp_region_noPanic ?_
 refine Reg.wp_region_G (S:=fun _=>True) (fun j => [].contains j) (by kernel_rfl) trivial ?_
 refine' Reg.tk (i := 0) (oi := { dst := some 16, op := Op.load 73 (Operand.tmp 1), type := 73, pos := "kinds.go:15", after := #[], guard := none }) (v := _) [1, 5, 6] [] (Or.inl ⟨by rfl, Or.inl ?hy9⟩) ?r_9
 case hy9=>(intro w' kk ss; obtain⟨x0,x1,x2,x3,x4⟩:=bx5 (BX.out _ (hr0.trans kk)); go_simp; first | done | with_reducible rfl)
 try simp only[Act.put,Reg.l1,Reg.l2,Reg.l3]
 refine Reg.tk (i := 1) (oi := { dst := some 17, op := Op.call { callee := Callee.value (Operand.func 60), args := #[Operand.tmp 16], argTypes := #[73] }, type := 2, pos := "kinds.go:15", after := #[{ on := 0, ground := Ground.data }], guard := none }) (v := .int .i64 S) [5, 6] [] (Or.inl ⟨by rfl, Or.inr ⟨60, #[.agg #[.int .i64 2, .slice X nx xc, .slice Y na yc, .int .i64 c, .slice V nv vc]], fun w' kk ss => ⟨?_, ?_⟩⟩⟩) ?_
 · (try dsimp only at ss); go_simp
 · exact SA.out w' (ka.out.trans (hr0.trans kk))
 try simp only[Act.put,Reg.l1,Reg.l2,Reg.l3]
 refine' Reg.tk (i := 2) (oi := { dst := some 18, op := Op.fieldAddr 73 (Operand.tmp 1) 0, type := 0, pos := "kinds.go:15", after := #[], guard := none }) (v := _) [3, 4, 5, 6] [] (Or.inl ⟨by rfl, Or.inl ?hy10⟩) ?r_10
 case hy10=>(intro w' kk ss; obtain⟨x0,x1,x2,x3,x4⟩:=bx5 (BX.out _ (hr0.trans kk)); go_simp; first | done | with_reducible rfl)
 try simp only[Act.put,Reg.l1,Reg.l2,Reg.l3]
 refine' Reg.tk (i := 3) (oi := { dst := some 19, op := Op.fieldAddr 25 (Operand.tmp 18) 3, type := 0, pos := "kinds.go:15", after := #[{ on := 2, ground := Ground.data }], guard := none }) (v := _) [4, 5, 6] [] (Or.inl ⟨by rfl, Or.inl ?hy11⟩) ?r_11
 case hy11=>(intro w' kk ss; obtain⟨x0,x1,x2,x3,x4⟩:=bx5 (BX.out _ (hr0.trans kk)); go_simp; first | done | with_reducible rfl)
 try simp only[Act.put,Reg.l1,Reg.l2,Reg.l3]
 refine' Reg.tk (i := 4) (oi := { dst := some 20, op := Op.load 2 (Operand.tmp 19), type := 2, pos := "kinds.go:15", after := #[{ on := 3, ground := Ground.data }], guard := none }) (v := _) [5, 6] [] (Or.inl ⟨by rfl, Or.inl ?hy12⟩) ?r_12
 case hy12=>(intro w' kk ss; obtain⟨x0,x1,x2,x3,x4⟩:=bx5 (BX.out _ (hr0.trans kk)); go_simp; first | done | with_reducible rfl)
 try simp only[Act.put,Reg.l1,Reg.l2,Reg.l3]
 refine' Reg.tk (i := 5) (oi := { dst := some 21, op := Op.binOp BinOp.leq 2 (Operand.tmp 17) (Operand.tmp 20) 2, type := 4, pos := "kinds.go:15", after := #[{ on := 1, ground := Ground.data }, { on := 4, ground := Ground.data }], guard := none }) (v := _) [6] [] (Or.inl ⟨by rfl, Or.inl ?hy13⟩) ?r_13
 case hy13=>(intro w' kk ss; obtain⟨x0,x1,x2,x3,x4⟩:=bx5 (BX.out _ (hr0.trans kk)); go_simp; first | done | with_reducible rfl)
 try simp only[Act.put,Reg.l1,Reg.l2,Reg.l3]
 refine' Reg.tk (i := 6) (oi := { dst := some 2, op := Op.assign (Operand.tmp 21), type := 4, pos := "kinds.go:15", after := #[{ on := 5, ground := Ground.data }, { on := 1, ground := Ground.chain }, { on := 0, ground := Ground.phase }, { on := 1, ground := Ground.phase }, { on := 2, ground := Ground.phase }, { on := 3, ground := Ground.phase }, { on := 4, ground := Ground.phase }, { on := 5, ground := Ground.phase }], guard := none }) (v := _) [] [] (Or.inl ⟨by rfl, Or.inl ?hy14⟩) ?r_14
 case hy14=>(intro w' kk ss; obtain⟨x0,x1,x2,x3,x4⟩:=bx5 (BX.out _ (hr0.trans kk)); go_simp; first | done | with_reducible rfl)
 try simp only[Act.put,Reg.l1,Reg.l2,Reg.l3]
 refine Reg.wpG_done (by kernel_rfl) (fun we ke se => ?_) _
 refine NoPanic.normal ?_
 have hr0:=hr0.trans ke
 clear ke
 go_wp2
 all_goals go_ret
 exact⟨rfl,ka.out.trans hr0⟩
theorem holds_k3 (u:Value) (x a:List Int) (c:Int) (v:List Int) (w:World) (h:PlAt w u 3 x a c v) (hn:a.length≤v.length) (hl:v.length≤1000) (ha:a.all within=true) (hv:v.all within=true) :
 Calls Try.prog 65 #[u] w (RetT (sm a v != c) w):=by
 obtain⟨S,hS⟩:∃ S,sm a v=S:=⟨_,rfl⟩
 have SA:=Lib.hid (fun W kk=>sum_at h hn hl ha hv hS W kk)
 rw[hS]
 obtain⟨X,xc,Y,yc,V,vc,rfl,h1,h2,h3⟩:=h
 generalize x.length=nx at *
 generalize a.length=na at *
 generalize v.length=nv at *
 clear h1 h2 h3 hS ha hv hn
 have ka:=Lib.hid (sA w (.cells #[.int .i64 3,.slice X nx xc,.slice Y na yc,.int .i64 c,.slice V nv vc] 73))
 have BX:=Lib.hid (fun W (kk:Since (w.alloc (.cells #[.int .i64 3,.slice X nx xc,.slice Y na yc,.int .i64 c,.slice V nv vc] 73)) W)=>(Bx.fresh w #[.int .i64 3,.slice X nx xc,.slice Y na yc,.int .i64 c,.slice V nv vc] 73).since kk)
 go_enter Try.func65,Try.ntmps65
 go_wp2
 obtain⟨W0,hW0⟩:∃ W0,W0=w.alloc (.cells #[.int .i64 3,.slice X nx xc,.slice Y na yc,.int .i64 c,.slice V nv vc] 73):=⟨_,rfl⟩
 rw[← hW0]
 rw[← hW0] at ka BX
 clear hW0
 have hr0:Since W0 W0.drew:=Since.drew (Since.refl W0)
 refine wp_region_noPanic ?_
 refine Reg.wp_region_G (S:=fun _=>True) (fun j => [].contains j) (by kernel_rfl) trivial ?_
 refine' Reg.tk (i := 0) (oi := { dst := some 24, op := Op.load 73 (Operand.tmp 1), type := 73, pos := "kinds.go:17", after := #[], guard := none }) (v := _) [1, 5, 6] [] (Or.inl ⟨by rfl, Or.inl ?hy16⟩) ?r_16
 case hy16=>(intro w' kk ss; obtain⟨x0,x1,x2,x3,x4⟩:=bx5 (BX.out _ (hr0.trans kk)); go_simp; first | done | with_reducible rfl)
 try simp only[Act.put,Reg.l1,Reg.l2,Reg.l3]
 refine Reg.tk (i := 1) (oi := { dst := some 25, op := Op.call { callee := Callee.value (Operand.func 60), args := #[Operand.tmp 24], argTypes := #[73] }, type := 2, pos := "kinds.go:17", after := #[{ on := 0, ground := Ground.data }], guard := none }) (v := .int .i64 S) [5, 6] [] (Or.inl ⟨by rfl, Or.inr ⟨60, #[.agg #[.int .i64 3, .slice X nx xc, .slice Y na yc, .int .i64 c, .slice V nv vc]], fun w' kk ss => ⟨?_, ?_⟩⟩⟩) ?_
 · (try dsimp only at ss); go_simp
 · exact SA.out w' (ka.out.trans (hr0.trans kk))
 try simp only[Act.put,Reg.l1,Reg.l2,Reg.l3]
 refine' Reg.tk (i := 2) (oi := { dst := some 26, op := Op.fieldAddr 73 (Operand.tmp 1) 0, type := 0, pos := "kinds.go:17", after := #[], guard := none }) (v := _) [3, 4, 5, 6] [] (Or.inl ⟨by rfl, Or.inl ?hy17⟩) ?r_17
 case hy17=>(intro w' kk ss; obtain⟨x0,x1,x2,x3,x4⟩:=bx5 (BX.out _ (hr0.trans kk)); go_simp; first | done | with_reducible rfl)
 try simp only[Act.put,Reg.l1,Reg.l2,Reg.l3]
 refine' Reg.tk (i := 3) (oi := { dst := some 27, op := Op.fieldAddr 25 (Operand.tmp 26) 3, type := 0, pos := "kinds.go:17", after := #[{ on := 2, ground := Ground.data }], guard := none }) (v := _) [4, 5, 6] [] (Or.inl ⟨by rfl, Or.inl ?hy18⟩) ?r_18
 case hy18=>(intro w' kk ss; obtain⟨x0,x1,x2,x3,x4⟩:=bx5 (BX.out _ (hr0.trans kk)); go_simp; first | done | with_reducible rfl)
 try simp only[Act.put,Reg.l1,Reg.l2,Reg.l3]
 refine' Reg.tk (i := 4) (oi := { dst := some 28, op := Op.load 2 (Operand.tmp 27), type := 2, pos := "kinds.go:17", after := #[{ on := 3, ground := Ground.data }], guard := none }) (v := _) [5, 6] [] (Or.inl ⟨by rfl, Or.inl ?hy19⟩) ?r_19
 case hy19=>(intro w' kk ss; obtain⟨x0,x1,x2,x3,x4⟩:=bx5 (BX.out _ (hr0.trans kk)); go_simp; first | done | with_reducible rfl)
 try simp only[Act.put,Reg.l1,Reg.l2,Reg.l3]
 refine' Reg.tk (i := 5) (oi := { dst := some 29, op := Op.binOp BinOp.neq 2 (Operand.tmp 25) (Operand.tmp 28) 2, type := 4, pos := "kinds.go:17", after := #[{ on := 1, ground := Ground.data }, { on := 4, ground := Ground.data }], guard := none }) (v := _) [6] [] (Or.inl ⟨by rfl, Or.inl ?hy20⟩) ?r_20
 case hy20=>(intro w' kk ss; obtain⟨x0,x1,x2,x3,x4⟩:=bx5 (BX.out _ (hr0.trans kk)); go_simp; first | done | with_reducible rfl)
 try simp only[Act.put,Reg.l1,Reg.l2,Reg.l3]
 refine' Reg.tk (i := 6) (oi := { dst := some 2, op := Op.assign (Operand.tmp 29), type := 4, pos := "kinds.go:17", after := #[{ on := 5, ground := Ground.data }, { on := 1, ground := Ground.chain }, { on := 0, ground := Ground.phase }, { on := 1, ground := Ground.phase }, { on := 2, ground := Ground.phase }, { on := 3, ground := Ground.phase }, { on := 4, ground := Ground.phase }, { on := 5, ground := Ground.phase }], guard := none }) (v := _) [] [] (Or.inl ⟨by rfl, Or.inl ?hy21⟩) ?r_21
 case hy21=>(intro w' kk ss; obtain⟨x0,x1,x2,x3,x4⟩:=bx5 (BX.out _ (hr0.trans kk)); go_simp; first | done | with_reducible rfl)
 try simp only[Act.put,Reg.l1,Reg.l2,Reg.l3]
 refine Reg.wpG_done (by kernel_rfl) (fun we ke se => ?_) _
 refine NoPanic.normal ?_
 have hr0:=hr0.trans ke
 clear ke
 go_wp2
 all_goals go_ret
 exact⟨rfl,ka.out.trans hr0⟩
theorem holds_k4 (u:Value) (x a:List Int) (c:Int) (v:List Int) (w:World) (h:PlAt w u 4 x a c v) (hn:a.length≤v.length) (hl:v.length≤1000) (ha:a.all within=true) (hv:v.all within=true) (hp:0<v.length) :
 Calls Try.prog 65 #[u] w (RetT (flg v == (sm a v == c)) w):=by
 obtain⟨S,hS⟩:∃ S,sm a v=S:=⟨_,rfl⟩
 have SA:=Lib.hid (fun W kk=>sum_at h hn hl ha hv hS W kk)
 obtain⟨F,hF⟩:∃ F,flg v=F:=⟨_,rfl⟩
 have FA:=Lib.hid (fun W kk=>flag_at h hp (by omega) hF W kk)
 rw[hS,hF]
 obtain⟨X,xc,Y,yc,V,vc,rfl,h1,h2,h3⟩:=h
 generalize x.length=nx at *
 generalize a.length=na at *
 generalize v.length=nv at *
 clear h1 h2 h3 hS ha hv hn hF hp
 have ka:=Lib.hid (sA w (.cells #[.int .i64 4,.slice X nx xc,.slice Y na yc,.int .i64 c,.slice V nv vc] 73))
 have BX:=Lib.hid (fun W (kk:Since (w.alloc (.cells #[.int .i64 4,.slice X nx xc,.slice Y na yc,.int .i64 c,.slice V nv vc] 73)) W)=>(Bx.fresh w #[.int .i64 4,.slice X nx xc,.slice Y na yc,.int .i64 c,.slice V nv vc] 73).since kk)
 go_enter Try.func65,Try.ntmps65
 go_wp2
 obtain⟨W0,hW0⟩:∃ W0,W0=w.alloc (.cells #[.int .i64 4,.slice X nx xc,.slice Y na yc,.int .i64 c,.slice V nv vc] 73):=⟨_,rfl⟩
 rw[← hW0]
 rw[← hW0] at ka BX
 clear hW0
 have hr0:Since W0 W0.drew:=Since.drew (Since.refl W0)
 refine wp_region_noPanic ?_
 refine Reg.wp_region_G (S:=fun _=>True) (fun j => [].contains j) (by kernel_rfl) trivial ?_
 refine' Reg.tk (i := 0) (oi := { dst := some 32, op := Op.load 73 (Operand.tmp 1), type := 73, pos := "kinds.go:19", after := #[], guard := none }) (v := _) [1, 3, 7, 8, 9] [] (Or.inl ⟨by rfl, Or.inl ?hy23⟩) ?r_23
 case hy23=>(intro w' kk ss; obtain⟨x0,x1,x2,x3,x4⟩:=bx5 (BX.out _ (hr0.trans kk)); go_simp; first | done | with_reducible rfl)
 try simp only[Act.put,Reg.l1,Reg.l2,Reg.l3]
 refine Reg.tk (i := 1) (oi := { dst := some 33, op := Op.call { callee := Callee.value (Operand.func 93), args := #[Operand.tmp 32], argTypes := #[73] }, type := 4, pos := "kinds.go:19", after := #[{ on := 0, ground := Ground.data }], guard := none }) (v := .bool F) [3, 7, 8, 9] [] (Or.inl ⟨by rfl, Or.inr ⟨93, #[.agg #[.int .i64 4, .slice X nx xc, .slice Y na yc, .int .i64 c, .slice V nv vc]], fun w' kk ss => ⟨?_, ?_⟩⟩⟩) ?_
 · (try dsimp only at ss); go_simp
 · exact FA.out w' (ka.out.trans (hr0.trans kk))
 try simp only[Act.put,Reg.l1,Reg.l2,Reg.l3]
 refine' Reg.tk (i := 2) (oi := { dst := some 34, op := Op.load 73 (Operand.tmp 1), type := 73, pos := "kinds.go:19", after := #[], guard := none }) (v := _) [3, 7, 8, 9] [] (Or.inl ⟨by rfl, Or.inl ?hy24⟩) ?r_24
 case hy24=>(intro w' kk ss; obtain⟨x0,x1,x2,x3,x4⟩:=bx5 (BX.out _ (hr0.trans kk)); go_simp; first | done | with_reducible rfl)
 try simp only[Act.put,Reg.l1,Reg.l2,Reg.l3]
 refine Reg.tk (i := 3) (oi := { dst := some 35, op := Op.call { callee := Callee.value (Operand.func 60), args := #[Operand.tmp 34], argTypes := #[73] }, type := 2, pos := "kinds.go:19", after := #[{ on := 2, ground := Ground.data }, { on := 1, ground := Ground.chain }], guard := none }) (v := .int .i64 S) [7, 8, 9] [] (Or.inl ⟨by rfl, Or.inr ⟨60, #[.agg #[.int .i64 4, .slice X nx xc, .slice Y na yc, .int .i64 c, .slice V nv vc]], fun w' kk ss => ⟨?_, ?_⟩⟩⟩) ?_
 · (try dsimp only at ss); go_simp
 · exact SA.out w' (ka.out.trans (hr0.trans kk))
 try simp only[Act.put,Reg.l1,Reg.l2,Reg.l3]
 refine' Reg.tk (i := 4) (oi := { dst := some 36, op := Op.fieldAddr 73 (Operand.tmp 1) 0, type := 0, pos := "kinds.go:19", after := #[], guard := none }) (v := _) [5, 6, 7, 8, 9] [] (Or.inl ⟨by rfl, Or.inl ?hy25⟩) ?r_25
 case hy25=>(intro w' kk ss; obtain⟨x0,x1,x2,x3,x4⟩:=bx5 (BX.out _ (hr0.trans kk)); go_simp; first | done | with_reducible rfl)
 try simp only[Act.put,Reg.l1,Reg.l2,Reg.l3]
 refine' Reg.tk (i := 5) (oi := { dst := some 37, op := Op.fieldAddr 25 (Operand.tmp 36) 3, type := 0, pos := "kinds.go:19", after := #[{ on := 4, ground := Ground.data }], guard := none }) (v := _) [6, 7, 8, 9] [] (Or.inl ⟨by rfl, Or.inl ?hy26⟩) ?r_26
 case hy26=>(intro w' kk ss; obtain⟨x0,x1,x2,x3,x4⟩:=bx5 (BX.out _ (hr0.trans kk)); go_simp; first | done | with_reducible rfl)
 try simp only[Act.put,Reg.l1,Reg.l2,Reg.l3]
 refine' Reg.tk (i := 6) (oi := { dst := some 38, op := Op.load 2 (Operand.tmp 37), type := 2, pos := "kinds.go:19", after := #[{ on := 5, ground := Ground.data }], guard := none }) (v := _) [7, 8, 9] [] (Or.inl ⟨by rfl, Or.inl ?hy27⟩) ?r_27
 case hy27=>(intro w' kk ss; obtain⟨x0,x1,x2,x3,x4⟩:=bx5 (BX.out _ (hr0.trans kk)); go_simp; first | done | with_reducible rfl)
 try simp only[Act.put,Reg.l1,Reg.l2,Reg.l3]
 refine' Reg.tk (i := 7) (oi := { dst := some 39, op := Op.binOp BinOp.eql 2 (Operand.tmp 35) (Operand.tmp 38) 2, type := 4, pos := "kinds.go:19", after := #[{ on := 3, ground := Ground.data }, { on := 6, ground := Ground.data }], guard := none }) (v := _) [8, 9] [] (Or.inl ⟨by rfl, Or.inl ?hy28⟩) ?r_28
 case hy28=>(intro w' kk ss; obtain⟨x0,x1,x2,x3,x4⟩:=bx5 (BX.out _ (hr0.trans kk)); go_simp; first | done | with_reducible rfl)
 try simp only[Act.put,Reg.l1,Reg.l2,Reg.l3]
 refine' Reg.tk (i := 8) (oi := { dst := some 40, op := Op.binOp BinOp.eql 4 (Operand.tmp 33) (Operand.tmp 39) 4, type := 4, pos := "kinds.go:19", after := #[{ on := 1, ground := Ground.data }, { on := 7, ground := Ground.data }], guard := none }) (v := _) [9] [] (Or.inl ⟨by rfl, Or.inl ?hy29⟩) ?r_29
 case hy29=>(intro w' kk ss; obtain⟨x0,x1,x2,x3,x4⟩:=bx5 (BX.out _ (hr0.trans kk)); go_simp; first | done | with_reducible rfl)
 try simp only[Act.put,Reg.l1,Reg.l2,Reg.l3]
 refine' Reg.tk (i := 9) (oi := { dst := some 2, op := Op.assign (Operand.tmp 40), type := 4, pos := "kinds.go:19", after := #[{ on := 8, ground := Ground.data }, { on := 3, ground := Ground.chain }, { on := 0, ground := Ground.phase }, { on := 1, ground := Ground.phase }, { on := 2, ground := Ground.phase }, { on := 3, ground := Ground.phase }, { on := 4, ground := Ground.phase }, { on := 5, ground := Ground.phase }, { on := 6, ground := Ground.phase }, { on := 7, ground := Ground.phase }, { on := 8, ground := Ground.phase }], guard := none }) (v := _) [] [] (Or.inl ⟨by rfl, Or.inl ?hy30⟩) ?r_30
 case hy30=>(intro w' kk ss; obtain⟨x0,x1,x2,x3,x4⟩:=bx5 (BX.out _ (hr0.trans kk)); go_simp; first | done | with_reducible rfl)
 try simp only[Act.put,Reg.l1,Reg.l2,Reg.l3]
 refine Reg.wpG_done (by kernel_rfl) (fun we ke se => ?_) _
 refine NoPanic.normal ?_
 have hr0:=hr0.trans ke
 clear ke
 go_wp2
 all_goals go_ret
 exact⟨rfl,ka.out.trans hr0⟩
theorem holds_k5 (u:Value) (x a:List Int) (c:Int) (v:List Int) (w:World) (h:PlAt w u 5 x a c v) (hn:a.length≤v.length) (hl:v.length≤1000) (ha:a.all within=true) (hv:v.all within=true) (hp:0<v.length) :
 Calls Try.prog 65 #[u] w (RetT (flg v == decide (sm a v≤c)) w):=by
 obtain⟨S,hS⟩:∃ S,sm a v=S:=⟨_,rfl⟩
 have SA:=Lib.hid (fun W kk=>sum_at h hn hl ha hv hS W kk)
 obtain⟨F,hF⟩:∃ F,flg v=F:=⟨_,rfl⟩
 have FA:=Lib.hid (fun W kk=>flag_at h hp (by omega) hF W kk)
 rw[hS,hF]
 obtain⟨X,xc,Y,yc,V,vc,rfl,h1,h2,h3⟩:=h
 generalize x.length=nx at *
 generalize a.length=na at *
 generalize v.length=nv at *
 clear h1 h2 h3 hS ha hv hn hF hp
 have ka:=Lib.hid (sA w (.cells #[.int .i64 5,.slice X nx xc,.slice Y na yc,.int .i64 c,.slice V nv vc] 73))
 have BX:=Lib.hid (fun W (kk:Since (w.alloc (.cells #[.int .i64 5,.slice X nx xc,.slice Y na yc,.int .i64 c,.slice V nv vc] 73)) W)=>(Bx.fresh w #[.int .i64 5,.slice X nx xc,.slice Y na yc,.int .i64 c,.slice V nv vc] 73).since kk)
 go_enter Try.func65,Try.ntmps65
 go_wp2
 obtain⟨W0,hW0⟩:∃ W0,W0=w.alloc (.cells #[.int .i64 5,.slice X nx xc,.slice Y na yc,.int .i64 c,.slice V nv vc] 73):=⟨_,rfl⟩
 rw[← hW0]
 rw[← hW0] at ka BX
 clear hW0
 have hr0:Since W0 W0.drew:=Since.drew (Since.refl W0)
 refine wp_region_noPanic ?_
 refine Reg.wp_region_G (S:=fun _=>True) (fun j => [].contains j) (by kernel_rfl) trivial ?_
 refine' Reg.tk (i := 0) (oi := { dst := some 43, op := Op.load 73 (Operand.tmp 1), type := 73, pos := "kinds.go:21", after := #[], guard := none }) (v := _) [1, 3, 7, 8, 9] [] (Or.inl ⟨by rfl, Or.inl ?hy32⟩) ?r_32
 case hy32=>(intro w' kk ss; obtain⟨x0,x1,x2,x3,x4⟩:=bx5 (BX.out _ (hr0.trans kk)); go_simp; first | done | with_reducible rfl)
 try simp only[Act.put,Reg.l1,Reg.l2,Reg.l3]
 refine Reg.tk (i := 1) (oi := { dst := some 44, op := Op.call { callee := Callee.value (Operand.func 93), args := #[Operand.tmp 43], argTypes := #[73] }, type := 4, pos := "kinds.go:21", after := #[{ on := 0, ground := Ground.data }], guard := none }) (v := .bool F) [3, 7, 8, 9] [] (Or.inl ⟨by rfl, Or.inr ⟨93, #[.agg #[.int .i64 5, .slice X nx xc, .slice Y na yc, .int .i64 c, .slice V nv vc]], fun w' kk ss => ⟨?_, ?_⟩⟩⟩) ?_
 · (try dsimp only at ss); go_simp
 · exact FA.out w' (ka.out.trans (hr0.trans kk))
 try simp only[Act.put,Reg.l1,Reg.l2,Reg.l3]
 refine' Reg.tk (i := 2) (oi := { dst := some 45, op := Op.load 73 (Operand.tmp 1), type := 73, pos := "kinds.go:21", after := #[], guard := none }) (v := _) [3, 7, 8, 9] [] (Or.inl ⟨by rfl, Or.inl ?hy33⟩) ?r_33
 case hy33=>(intro w' kk ss; obtain⟨x0,x1,x2,x3,x4⟩:=bx5 (BX.out _ (hr0.trans kk)); go_simp; first | done | with_reducible rfl)
 try simp only[Act.put,Reg.l1,Reg.l2,Reg.l3]
 refine Reg.tk (i := 3) (oi := { dst := some 46, op := Op.call { callee := Callee.value (Operand.func 60), args := #[Operand.tmp 45], argTypes := #[73] }, type := 2, pos := "kinds.go:21", after := #[{ on := 2, ground := Ground.data }, { on := 1, ground := Ground.chain }], guard := none }) (v := .int .i64 S) [7, 8, 9] [] (Or.inl ⟨by rfl, Or.inr ⟨60, #[.agg #[.int .i64 5, .slice X nx xc, .slice Y na yc, .int .i64 c, .slice V nv vc]], fun w' kk ss => ⟨?_, ?_⟩⟩⟩) ?_
 · (try dsimp only at ss); go_simp
 · exact SA.out w' (ka.out.trans (hr0.trans kk))
 try simp only[Act.put,Reg.l1,Reg.l2,Reg.l3]
 refine' Reg.tk (i := 4) (oi := { dst := some 47, op := Op.fieldAddr 73 (Operand.tmp 1) 0, type := 0, pos := "kinds.go:21", after := #[], guard := none }) (v := _) [5, 6, 7, 8, 9] [] (Or.inl ⟨by rfl, Or.inl ?hy34⟩) ?r_34
 case hy34=>(intro w' kk ss; obtain⟨x0,x1,x2,x3,x4⟩:=bx5 (BX.out _ (hr0.trans kk)); go_simp; first | done | with_reducible rfl)
 try simp only[Act.put,Reg.l1,Reg.l2,Reg.l3]
 refine' Reg.tk (i := 5) (oi := { dst := some 48, op := Op.fieldAddr 25 (Operand.tmp 47) 3, type := 0, pos := "kinds.go:21", after := #[{ on := 4, ground := Ground.data }], guard := none }) (v := _) [6, 7, 8, 9] [] (Or.inl ⟨by rfl, Or.inl ?hy35⟩) ?r_35
 case hy35=>(intro w' kk ss; obtain⟨x0,x1,x2,x3,x4⟩:=bx5 (BX.out _ (hr0.trans kk)); go_simp; first | done | with_reducible rfl)
 try simp only[Act.put,Reg.l1,Reg.l2,Reg.l3]
 refine' Reg.tk (i := 6) (oi := { dst := some 49, op := Op.load 2 (Operand.tmp 48), type := 2, pos := "kinds.go:21", after := #[{ on := 5, ground := Ground.data }], guard := none }) (v := _) [7, 8, 9] [] (Or.inl ⟨by rfl, Or.inl ?hy36⟩) ?r_36
 case hy36=>(intro w' kk ss; obtain⟨x0,x1,x2,x3,x4⟩:=bx5 (BX.out _ (hr0.trans kk)); go_simp; first | done | with_reducible rfl)
 try simp only[Act.put,Reg.l1,Reg.l2,Reg.l3]
 refine' Reg.tk (i := 7) (oi := { dst := some 50, op := Op.binOp BinOp.leq 2 (Operand.tmp 46) (Operand.tmp 49) 2, type := 4, pos := "kinds.go:21", after := #[{ on := 3, ground := Ground.data }, { on := 6, ground := Ground.data }], guard := none }) (v := _) [8, 9] [] (Or.inl ⟨by rfl, Or.inl ?hy37⟩) ?r_37
 case hy37=>(intro w' kk ss; obtain⟨x0,x1,x2,x3,x4⟩:=bx5 (BX.out _ (hr0.trans kk)); go_simp; first | done | with_reducible rfl)
 try simp only[Act.put,Reg.l1,Reg.l2,Reg.l3]
 refine' Reg.tk (i := 8) (oi := { dst := some 51, op := Op.binOp BinOp.eql 4 (Operand.tmp 44) (Operand.tmp 50) 4, type := 4, pos := "kinds.go:21", after := #[{ on := 1, ground := Ground.data }, { on := 7, ground := Ground.data }], guard := none }) (v := _) [9] [] (Or.inl ⟨by rfl, Or.inl ?hy38⟩) ?r_38
 case hy38=>(intro w' kk ss; obtain⟨x0,x1,x2,x3,x4⟩:=bx5 (BX.out _ (hr0.trans kk)); go_simp; first | done | with_reducible rfl)
 try simp only[Act.put,Reg.l1,Reg.l2,Reg.l3]
 refine' Reg.tk (i := 9) (oi := { dst := some 2, op := Op.assign (Operand.tmp 51), type := 4, pos := "kinds.go:21", after := #[{ on := 8, ground := Ground.data }, { on := 3, ground := Ground.chain }, { on := 0, ground := Ground.phase }, { on := 1, ground := Ground.phase }, { on := 2, ground := Ground.phase }, { on := 3, ground := Ground.phase }, { on := 4, ground := Ground.phase }, { on := 5, ground := Ground.phase }, { on := 6, ground := Ground.phase }, { on := 7, ground := Ground.phase }, { on := 8, ground := Ground.phase }], guard := none }) (v := _) [] [] (Or.inl ⟨by rfl, Or.inl ?hy39⟩) ?r_39
 case hy39=>(intro w' kk ss; obtain⟨x0,x1,x2,x3,x4⟩:=bx5 (BX.out _ (hr0.trans kk)); go_simp; first | done | with_reducible rfl)
 try simp only[Act.put,Reg.l1,Reg.l2,Reg.l3]
 refine Reg.wpG_done (by kernel_rfl) (fun we ke se => ?_) _
 refine NoPanic.normal ?_
 have hr0:=hr0.trans ke
 clear ke
 go_wp2
 all_goals go_ret
 exact⟨rfl,ka.out.trans hr0⟩
theorem holds_k6 (u:Value) (x a:List Int) (c:Int) (v:List Int) (w:World) (h:PlAt w u 6 x a c v) (hn:a.length≤v.length) (hl:v.length≤1000) (ha:a.all within=true) (hv:v.all within=true) (hp:0<v.length) :
 Calls Try.prog 65 #[u] w (RetT (!flg v || decide (sm a v≤c)) w):=by
 obtain⟨S,hS⟩:∃ S,sm a v=S:=⟨_,rfl⟩
 have SA:=Lib.hid (fun W kk=>sum_at h hn hl ha hv hS W kk)
 obtain⟨F,hF⟩:∃ F,flg v=F:=⟨_,rfl⟩
 have FA:=Lib.hid (fun W kk=>flag_at h hp (by omega) hF W kk)
 rw[hS,hF]
 obtain⟨X,xc,Y,yc,V,vc,rfl,h1,h2,h3⟩:=h
 generalize x.length=nx at *
 generalize a.length=na at *
 generalize v.length=nv at *
 clear h1 h2 h3 hS ha hv hn hF hp
 cases F with
 | false =>
  clear SA
  have ka:=Lib.hid (sA w (.cells #[.int .i64 6,.slice X nx xc,.slice Y na yc,.int .i64 c,.slice V nv vc] 73))
  have BX:=Lib.hid (fun W (kk:Since (w.alloc (.cells #[.int .i64 6,.slice X nx xc,.slice Y na yc,.int .i64 c,.slice V nv vc] 73)) W)=>(Bx.fresh w #[.int .i64 6,.slice X nx xc,.slice Y na yc,.int .i64 c,.slice V nv vc] 73).since kk)
  go_enter Try.func65,Try.ntmps65
  go_wp2
  obtain⟨W0,hW0⟩:∃ W0,W0=w.alloc (.cells #[.int .i64 6,.slice X nx xc,.slice Y na yc,.int .i64 c,.slice V nv vc] 73):=⟨_,rfl⟩
  rw[← hW0]
  rw[← hW0] at ka BX
  clear hW0
  have hr0:Since W0 W0.drew:=Since.drew (Since.refl W0)
  refine wp_region_noPanic ?_
  refine Reg.wp_region_G (S:=fun _=>True) (fun j => [].contains j) (by kernel_rfl) trivial ?_
  refine' Reg.tk (i := 0) (oi := { dst := some 54, op := Op.load 73 (Operand.tmp 1), type := 73, pos := "kinds.go:23", after := #[], guard := none }) (v := _) [1, 2, 3, 4, 5, 6, 7, 8, 9, 10, 11] [] (Or.inl ⟨by rfl, Or.inl ?hy41⟩) ?r_41
  case hy41=>(intro w' kk ss; obtain⟨x0,x1,x2,x3,x4⟩:=bx5 (BX.out _ (hr0.trans kk)); go_simp; first | done | with_reducible rfl)
  try simp only[Act.put,Reg.l1,Reg.l2,Reg.l3]
  refine Reg.tk (i := 1) (oi := { dst := some 55, op := Op.call { callee := Callee.value (Operand.func 93), args := #[Operand.tmp 54], argTypes := #[73] }, type := 4, pos := "kinds.go:23", after := #[{ on := 0, ground := Ground.data }], guard := none }) (v := .bool false) [2, 3, 4, 5, 6, 7, 8, 9, 10, 11] [] (Or.inl ⟨by rfl, Or.inr ⟨93, #[.agg #[.int .i64 6, .slice X nx xc, .slice Y na yc, .int .i64 c, .slice V nv vc]], fun w' kk ss => ⟨?_, ?_⟩⟩⟩) ?_
  · (try dsimp only at ss); go_simp
  · exact FA.out w' (ka.out.trans (hr0.trans kk))
  try simp only[Act.put,Reg.l1,Reg.l2,Reg.l3]
  refine' Reg.tk (i := 2) (oi := { dst := some 56, op := Op.unOp UnOp.not 4 (Operand.tmp 55), type := 4, pos := "kinds.go:23", after := #[{ on := 1, ground := Ground.data }], guard := none }) (v := _) [3, 4, 5, 6, 7, 8, 9, 10, 11] [] (Or.inl ⟨by rfl, Or.inl ?hy42⟩) ?r_42
  case hy42=>(intro w' kk ss; obtain⟨x0,x1,x2,x3,x4⟩:=bx5 (BX.out _ (hr0.trans kk)); go_simp; first | done | with_reducible rfl)
  try simp only[Act.put,Reg.l1,Reg.l2,Reg.l3]
  refine' Reg.tk (i := 3) (oi := { dst := some 57, op := Op.move (Operand.tmp 56), type := 4, pos := "kinds.go:23", after := #[{ on := 2, ground := Ground.data }, { on := 1, ground := Ground.chain }], guard := none }) (v := _) [4, 5, 6, 7, 8, 9, 10, 11] [] (Or.inl ⟨by rfl, Or.inl ?hy43⟩) ?r_43
  case hy43=>(intro w' kk ss; obtain⟨x0,x1,x2,x3,x4⟩:=bx5 (BX.out _ (hr0.trans kk)); go_simp; first | done | with_reducible rfl)
  try simp only[Act.put,Reg.l1,Reg.l2,Reg.l3]
  refine Reg.tk (i := 4) (oi := { dst := some 58, op := Op.load 73 (Operand.tmp 1), type := 73, pos := "kinds.go:23", after := #[{ on := 3, ground := Ground.guard }], guard := some (3, false) }) (v := undef) [5, 9, 10, 11] [] (Or.inr ⟨by rfl, rfl⟩) ?_
  try simp only[Act.put,Reg.l1,Reg.l2,Reg.l3]
  refine Reg.tk (i := 5) (oi := { dst := some 59, op := Op.call { callee := Callee.value (Operand.func 60), args := #[Operand.tmp 58], argTypes := #[73] }, type := 2, pos := "kinds.go:23", after := #[{ on := 4, ground := Ground.data }, { on := 3, ground := Ground.chain }, { on := 3, ground := Ground.guard }], guard := some (3, false) }) (v := undef) [9, 10, 11] [] (Or.inr ⟨by rfl, rfl⟩) ?_
  try simp only[Act.put,Reg.l1,Reg.l2,Reg.l3]
  refine Reg.tk (i := 6) (oi := { dst := some 60, op := Op.fieldAddr 73 (Operand.tmp 1) 0, type := 0, pos := "kinds.go:23", after := #[{ on := 3, ground := Ground.guard }], guard := some (3, false) }) (v := undef) [7, 8, 9, 10, 11] [] (Or.inr ⟨by rfl, rfl⟩) ?_
  try simp only[Act.put,Reg.l1,Reg.l2,Reg.l3]
  refine Reg.tk (i := 7) (oi := { dst := some 61, op := Op.fieldAddr 25 (Operand.tmp 60) 3, type := 0, pos := "kinds.go:23", after := #[{ on := 6, ground := Ground.data }, { on := 3, ground := Ground.guard }], guard := some (3, false) }) (v := undef) [8, 9, 10, 11] [] (Or.inr ⟨by rfl, rfl⟩) ?_
  try simp only[Act.put,Reg.l1,Reg.l2,Reg.l3]
  refine Reg.tk (i := 8) (oi := { dst := some 62, op := Op.load 2 (Operand.tmp 61), type := 2, pos := "kinds.go:23", after := #[{ on := 7, ground := Ground.data }, { on := 3, ground := Ground.guard }], guard := some (3, false) }) (v := undef) [9, 10, 11] [] (Or.inr ⟨by rfl, rfl⟩) ?_
  try simp only[Act.put,Reg.l1,Reg.l2,Reg.l3]
  refine Reg.tk (i := 9) (oi := { dst := some 63, op := Op.binOp BinOp.leq 2 (Operand.tmp 59) (Operand.tmp 62) 2, type := 4, pos := "kinds.go:23", after := #[{ on := 5, ground := Ground.data }, { on := 8, ground := Ground.data }, { on := 3, ground := Ground.guard }], guard := some (3, false) }) (v := undef) [10, 11] [] (Or.inr ⟨by rfl, rfl⟩) ?_
  try simp only[Act.put,Reg.l1,Reg.l2,Reg.l3]
  refine' Reg.tk (i := 10) (oi := { dst := some 64, op := Op.pick (Operand.tmp 57) (Operand.const (Value.bool true)) (Operand.tmp 63), type := 4, pos := "kinds.go:23", after := #[{ on := 3, ground := Ground.data }, { on := 9, ground := Ground.data }], guard := none }) (v := _) [11] [] (Or.inl ⟨by rfl, Or.inl ?hy44⟩) ?r_44
  case hy44=>(intro w' kk ss; obtain⟨x0,x1,x2,x3,x4⟩:=bx5 (BX.out _ (hr0.trans kk)); go_simp; first | done | with_reducible rfl)
  try simp only[Act.put,Reg.l1,Reg.l2,Reg.l3]
  refine' Reg.tk (i := 11) (oi := { dst := some 2, op := Op.assign (Operand.tmp 64), type := 4, pos := "kinds.go:23", after := #[{ on := 10, ground := Ground.data }, { on := 5, ground := Ground.chain }, { on := 0, ground := Ground.phase }, { on := 1, ground := Ground.phase }, { on := 2, ground := Ground.phase }, { on := 3, ground := Ground.phase }, { on := 4, ground := Ground.phase }, { on := 5, ground := Ground.phase }, { on := 6, ground := Ground.phase }, { on := 7, ground := Ground.phase }, { on := 8, ground := Ground.phase }, { on := 9, ground := Ground.phase }, { on := 10, ground := Ground.phase }], guard := none }) (v := _) [] [] (Or.inl ⟨by rfl, Or.inl ?hy45⟩) ?r_45
  case hy45=>(intro w' kk ss; obtain⟨x0,x1,x2,x3,x4⟩:=bx5 (BX.out _ (hr0.trans kk)); go_simp; first | done | with_reducible rfl)
  try simp only[Act.put,Reg.l1,Reg.l2,Reg.l3]
  refine Reg.wpG_done (by kernel_rfl) (fun we ke se => ?_) _
  refine NoPanic.normal ?_
  have hr0:=hr0.trans ke
  clear ke
  go_wp2
  all_goals go_ret
  exact⟨rfl,ka.out.trans hr0⟩
 | true =>
  have ka:=Lib.hid (sA w (.cells #[.int .i64 6,.slice X nx xc,.slice Y na yc,.int .i64 c,.slice V nv vc] 73))
  have BX:=Lib.hid (fun W (kk:Since (w.alloc (.cells #[.int .i64 6,.slice X nx xc,.slice Y na yc,.int .i64 c,.slice V nv vc] 73)) W)=>(Bx.fresh w #[.int .i64 6,.slice X nx xc,.slice Y na yc,.int .i64 c,.slice V nv vc] 73).since kk)
  go_enter Try.func65,Try.ntmps65
  go_wp2
  obtain⟨W0,hW0⟩:∃ W0,W0=w.alloc (.cells #[.int .i64 6,.slice X nx xc,.slice Y na yc,.int .i64 c,.slice V nv vc] 73):=⟨_,rfl⟩
  rw[← hW0]
  rw[← hW0] at ka BX
  clear hW0
  have hr0:Since W0 W0.drew:=Since.drew (Since.refl W0)
  refine wp_region_noPanic ?_
  refine Reg.wp_region_G (S:=fun _=>True) (fun j => [].contains j) (by kernel_rfl) trivial ?_
  refine' Reg.tk (i := 0) (oi := { dst := some 54, op := Op.load 73 (Operand.tmp 1), type := 73, pos := "kinds.go:23", after := #[], guard := none }) (v := _) [1, 2, 3, 4, 5, 6, 7, 8, 9, 10, 11] [] (Or.inl ⟨by rfl, Or.inl ?hy47⟩) ?r_47
  case hy47=>(intro w' kk ss; obtain⟨x0,x1,x2,x3,x4⟩:=bx5 (BX.out _ (hr0.trans kk)); go_simp; first | done | with_reducible rfl)
  try simp only[Act.put,Reg.l1,Reg.l2,Reg.l3]
  refine Reg.tk (i := 1) (oi := { dst := some 55, op := Op.call { callee := Callee.value (Operand.func 93), args := #[Operand.tmp 54], argTypes := #[73] }, type := 4, pos := "kinds.go:23", after := #[{ on := 0, ground := Ground.data }], guard := none }) (v := .bool true) [2, 3, 4, 5, 6, 7, 8, 9, 10, 11] [] (Or.inl ⟨by rfl, Or.inr ⟨93, #[.agg #[.int .i64 6, .slice X nx xc, .slice Y na yc, .int .i64 c, .slice V nv vc]], fun w' kk ss => ⟨?_, ?_⟩⟩⟩) ?_
  · (try dsimp only at ss); go_simp
  · exact FA.out w' (ka.out.trans (hr0.trans kk))
  try simp only[Act.put,Reg.l1,Reg.l2,Reg.l3]
  refine' Reg.tk (i := 2) (oi := { dst := some 56, op := Op.unOp UnOp.not 4 (Operand.tmp 55), type := 4, pos := "kinds.go:23", after := #[{ on := 1, ground := Ground.data }], guard := none }) (v := _) [3, 4, 5, 6, 7, 8, 9, 10, 11] [] (Or.inl ⟨by rfl, Or.inl ?hy48⟩) ?r_48
  case hy48=>(intro w' kk ss; obtain⟨x0,x1,x2,x3,x4⟩:=bx5 (BX.out _ (hr0.trans kk)); go_simp; first | done | with_reducible rfl)
  try simp only[Act.put,Reg.l1,Reg.l2,Reg.l3]
  refine' Reg.tk (i := 3) (oi := { dst := some 57, op := Op.move (Operand.tmp 56), type := 4, pos := "kinds.go:23", after := #[{ on := 2, ground := Ground.data }, { on := 1, ground := Ground.chain }], guard := none }) (v := _) [4, 5, 6, 7, 8, 9, 10, 11] [] (Or.inl ⟨by rfl, Or.inl ?hy49⟩) ?r_49
  case hy49=>(intro w' kk ss; obtain⟨x0,x1,x2,x3,x4⟩:=bx5 (BX.out _ (hr0.trans kk)); go_simp; first | done | with_reducible rfl)
  try simp only[Act.put,Reg.l1,Reg.l2,Reg.l3]
  refine' Reg.tk (i := 4) (oi := { dst := some 58, op := Op.load 73 (Operand.tmp 1), type := 73, pos := "kinds.go:23", after := #[{ on := 3, ground := Ground.guard }], guard := some (3, false) }) (v := _) [5, 9, 10, 11] [] (Or.inl ⟨by rfl, Or.inl ?hy50⟩) ?r_50
  case hy50=>(intro w' kk ss; obtain⟨x0,x1,x2,x3,x4⟩:=bx5 (BX.out _ (hr0.trans kk)); go_simp; first | done | with_reducible rfl)
  try simp only[Act.put,Reg.l1,Reg.l2,Reg.l3]
  refine Reg.tk (i := 5) (oi := { dst := some 59, op := Op.call { callee := Callee.value (Operand.func 60), args := #[Operand.tmp 58], argTypes := #[73] }, type := 2, pos := "kinds.go:23", after := #[{ on := 4, ground := Ground.data }, { on := 3, ground := Ground.chain }, { on := 3, ground := Ground.guard }], guard := some (3, false) }) (v := .int .i64 S) [9, 10, 11] [] (Or.inl ⟨by rfl, Or.inr ⟨60, #[.agg #[.int .i64 6, .slice X nx xc, .slice Y na yc, .int .i64 c, .slice V nv vc]], fun w' kk ss => ⟨?_, ?_⟩⟩⟩) ?_
  · (try dsimp only at ss); go_simp
  · exact SA.out w' (ka.out.trans (hr0.trans kk))
  try simp only[Act.put,Reg.l1,Reg.l2,Reg.l3]
  refine' Reg.tk (i := 6) (oi := { dst := some 60, op := Op.fieldAddr 73 (Operand.tmp 1) 0, type := 0, pos := "kinds.go:23", after := #[{ on := 3, ground := Ground.guard }], guard := some (3, false) }) (v := _) [7, 8, 9, 10, 11] [] (Or.inl ⟨by rfl, Or.inl ?hy51⟩) ?r_51
  case hy51=>(intro w' kk ss; obtain⟨x0,x1,x2,x3,x4⟩:=bx5 (BX.out _ (hr0.trans kk)); go_simp; first | done | with_reducible rfl)
  try simp only[Act.put,Reg.l1,Reg.l2,Reg.l3]
  refine' Reg.tk (i := 7) (oi := { dst := some 61, op := Op.fieldAddr 25 (Operand.tmp 60) 3, type := 0, pos := "kinds.go:23", after := #[{ on := 6, ground := Ground.data }, { on := 3, ground := Ground.guard }], guard := some (3, false) }) (v := _) [8, 9, 10, 11] [] (Or.inl ⟨by rfl, Or.inl ?hy52⟩) ?r_52
  case hy52=>(intro w' kk ss; obtain⟨x0,x1,x2,x3,x4⟩:=bx5 (BX.out _ (hr0.trans kk)); go_simp; first | done | with_reducible rfl)
  try simp only[Act.put,Reg.l1,Reg.l2,Reg.l3]
  refine' Reg.tk (i := 8) (oi := { dst := some 62, op := Op.load 2 (Operand.tmp 61), type := 2, pos := "kinds.go:23", after := #[{ on := 7, ground := Ground.data }, { on := 3, ground := Ground.guard }], guard := some (3, false) }) (v := _) [9, 10, 11] [] (Or.inl ⟨by rfl, Or.inl ?hy53⟩) ?r_53
  case hy53=>(intro w' kk ss; obtain⟨x0,x1,x2,x3,x4⟩:=bx5 (BX.out _ (hr0.trans kk)); go_simp; first | done | with_reducible rfl)
  try simp only[Act.put,Reg.l1,Reg.l2,Reg.l3]
  refine' Reg.tk (i := 9) (oi := { dst := some 63, op := Op.binOp BinOp.leq 2 (Operand.tmp 59) (Operand.tmp 62) 2, type := 4, pos := "kinds.go:23", after := #[{ on := 5, ground := Ground.data }, { on := 8, ground := Ground.data }, { on := 3, ground := Ground.guard }], guard := some (3, false) }) (v := _) [10, 11] [] (Or.inl ⟨by rfl, Or.inl ?hy54⟩) ?r_54
  case hy54=>(intro w' kk ss; obtain⟨x0,x1,x2,x3,x4⟩:=bx5 (BX.out _ (hr0.trans kk)); go_simp; first | done | with_reducible rfl)
  try simp only[Act.put,Reg.l1,Reg.l2,Reg.l3]
  refine' Reg.tk (i := 10) (oi := { dst := some 64, op := Op.pick (Operand.tmp 57) (Operand.const (Value.bool true)) (Operand.tmp 63), type := 4, pos := "kinds.go:23", after := #[{ on := 3, ground := Ground.data }, { on := 9, ground := Ground.data }], guard := none }) (v := _) [11] [] (Or.inl ⟨by rfl, Or.inl ?hy55⟩) ?r_55
  case hy55=>(intro w' kk ss; obtain⟨x0,x1,x2,x3,x4⟩:=bx5 (BX.out _ (hr0.trans kk)); go_simp; first | done | with_reducible rfl)
  try simp only[Act.put,Reg.l1,Reg.l2,Reg.l3]
  refine' Reg.tk (i := 11) (oi := { dst := some 2, op := Op.assign (Operand.tmp 64), type := 4, pos := "kinds.go:23", after := #[{ on := 10, ground := Ground.data }, { on := 5, ground := Ground.chain }, { on := 0, ground := Ground.phase }, { on := 1, ground := Ground.phase }, { on := 2, ground := Ground.phase }, { on := 3, ground := Ground.phase }, { on := 4, ground := Ground.phase }, { on := 5, ground := Ground.phase }, { on := 6, ground := Ground.phase }, { on := 7, ground := Ground.phase }, { on := 8, ground := Ground.phase }, { on := 9, ground := Ground.phase }, { on := 10, ground := Ground.phase }], guard := none }) (v := _) [] [] (Or.inl ⟨by rfl, Or.inl ?hy56⟩) ?r_56
  case hy56=>(intro w' kk ss; obtain⟨x0,x1,x2,x3,x4⟩:=bx5 (BX.out _ (hr0.trans kk)); go_simp; first | done | with_reducible rfl)
  try simp only[Act.put,Reg.l1,Reg.l2,Reg.l3]
  refine Reg.wpG_done (by kernel_rfl) (fun we ke se => ?_) _
  refine NoPanic.normal ?_
  have hr0:=hr0.trans ke
  clear ke
  go_wp2
  all_goals go_ret
  exact⟨rfl,ka.out.trans hr0⟩
end Go.Proofs.Ytakfabaocgbbmaa.Sn
