/- Layer 11 (sense): the landed holds, of Clause, And, Or. -/
import Derived.Test.YtakfabaocgbbmaaUn
set_option maxHeartbeats 4000000
set_option maxRecDepth 20000
namespace Go.Proofs.Ytakfabaocgbbmaa.Sn
open Go.RowKit
set_option linter.unusedVariables false
set_option linter.unusedSimpArgs false
open Dig Lx Tk Ti Zs Tr
theorem holds_k11 (u:Value) (x a:List Int) (c:Int) (v:List Int) (w:World) (h:PlAt w u 11 x a c v) (hn:a.length≤v.length) (hl:v.length≤1100000) :
 Calls Try.prog 65 #[u] w (RetT (lits a v) w):=by
 obtain⟨R,hR⟩:∃ R,lits a v=R:=⟨_,rfl⟩
 have CA:=Lib.hid (fun W (kk:Since w W)=>by have:=someLiteral_any u 11 x a c v W (h.since kk) hn hl; rw[hR] at this; exact this)
 rw[hR]
 obtain⟨X,xc,Y,yc,V,vc,rfl,h1,h2,h3⟩:=h
 generalize x.length=nx at *
 generalize a.length=na at *
 generalize v.length=nv at *
 clear h1 h2 h3 hR hn hl
 have ka:=Lib.hid (sA w (.cells #[.int .i64 11,.slice X nx xc,.slice Y na yc,.int .i64 c,.slice V nv vc] 73))
 go_enter Try.func65,Try.ntmps65
 go_wp2_with (go_at_call 94; (with_reducible refine (CA.out _ ka.out).mono ?_); rintro e w1 ⟨rfl,k1⟩)
 go_ret
 exact⟨rfl,ka.out.trans k1⟩
theorem holds_k12 (u:Value) (x a:List Int) (c:Int) (v:List Int) (w:World) (h:PlAt w u 12 x a c v) (hp:0<v.length) (hl:v.length≤1000) :
 Calls Try.prog 65 #[u] w (RetT (flg v == !(other v).contains 0) w):=by
 obtain⟨F,hF⟩:∃ F,flg v=F:=⟨_,rfl⟩
 have FA:=Lib.hid (fun W kk=>flag_at h (by omega) (by omega) hF W kk)
 rw[hF]
 obtain⟨X,xc,Y,yc,V,vc,rfl,h1,h2,h3⟩:=h
 obtain⟨j,hj⟩:=isPos hp
 have h4:=h3
 rw[hj] at h4
 have hvc:=h4.at_.2
 have ht:=slTakeI h4 j (by omega)
 rw[show v.take j=other v by rw[other,hj]; rfl] at ht
 obtain⟨B,hB⟩:∃ B,(other v).contains 0=B:=⟨_,rfl⟩
 have CA:=Lib.hid (fun W kk=>contains_at ht (by rw[other_len]; omega) hB W kk)
 rw[hB]
 rw[hj] at hvc FA ⊢
 generalize x.length=nx at *
 generalize a.length=na at *
 have OA:=Lib.hid (fun W kk=>others_at 12 X Y V nx xc na yc j vc c w (by omega) hvc W kk)
 clear h1 h2 h3 h4 ht hF hB hp hl hj
 have ka:=Lib.hid (sA w (.cells #[.int .i64 12,.slice X nx xc,.slice Y na yc,.int .i64 c,.slice V (j+1) vc] 73))
 have BX:=Lib.hid (fun W (kk:Since (w.alloc (.cells #[.int .i64 12,.slice X nx xc,.slice Y na yc,.int .i64 c,.slice V (j+1) vc] 73)) W)=>(Bx.fresh w #[.int .i64 12,.slice X nx xc,.slice Y na yc,.int .i64 c,.slice V (j+1) vc] 73).since kk)
 go_enter Try.func65,Try.ntmps65
 go_wp2
 obtain⟨W0,hW0⟩:∃ W0,W0=w.alloc (.cells #[.int .i64 12,.slice X nx xc,.slice Y na yc,.int .i64 c,.slice V (j+1) vc] 73):=⟨_,rfl⟩
 rw[← hW0]
 rw[← hW0] at ka BX
 clear hW0
 have hr0:Since W0 W0.drew:=Since.drew (Since.refl W0)
 refine wp_region_noPanic ?_
 refine Reg.wp_region_G (S:=fun _=>True) (fun j => [].contains j) (by kernel_rfl) trivial ?_
 refine' Reg.tk (i := 0) (oi := { dst := some 147, op := Op.load 73 (Operand.tmp 1), type := 73, pos := "kinds.go:37", after := #[], guard := none }) (v := _) [1, 3, 4, 5, 6, 7] [] (Or.inl ⟨by rfl, Or.inl ?hy147⟩) ?r_147
 case hy147=>(intro w' kk ss; obtain⟨x0,x1,x2,x3,x4⟩:=bx5 (BX.out _ (hr0.trans kk)); go_simp; first | done | with_reducible rfl)
 try simp only[Act.put,Reg.l1,Reg.l2,Reg.l3]
 refine Reg.tk (i := 1) (oi := { dst := some 148, op := Op.call { callee := Callee.value (Operand.func 93), args := #[Operand.tmp 147], argTypes := #[73] }, type := 4, pos := "kinds.go:37", after := #[{ on := 0, ground := Ground.data }], guard := none }) (v := .bool F) [3, 4, 5, 6, 7] [] (Or.inl ⟨by rfl, Or.inr ⟨93, #[.agg #[.int .i64 12, .slice X nx xc, .slice Y na yc, .int .i64 c, .slice V (j + 1) vc]], fun w' kk ss => ⟨?_, ?_⟩⟩⟩) ?_
 · (try dsimp only at ss); go_simp
 · exact FA.out w' (ka.out.trans (hr0.trans kk))
 try simp only[Act.put,Reg.l1,Reg.l2,Reg.l3]
 refine' Reg.tk (i := 2) (oi := { dst := some 149, op := Op.load 73 (Operand.tmp 1), type := 73, pos := "kinds.go:37", after := #[], guard := none }) (v := _) [3, 4, 5, 6, 7] [] (Or.inl ⟨by rfl, Or.inl ?hy148⟩) ?r_148
 case hy148=>(intro w' kk ss; obtain⟨x0,x1,x2,x3,x4⟩:=bx5 (BX.out _ (hr0.trans kk)); go_simp; first | done | with_reducible rfl)
 try simp only[Act.put,Reg.l1,Reg.l2,Reg.l3]
 refine Reg.tk (i := 3) (oi := { dst := some 150, op := Op.call { callee := Callee.value (Operand.func 96), args := #[Operand.tmp 149], argTypes := #[73] }, type := 23, pos := "kinds.go:37", after := #[{ on := 2, ground := Ground.data }, { on := 1, ground := Ground.chain }], guard := none }) (v := .slice V j vc) [4, 5, 6, 7] [] (Or.inl ⟨by rfl, Or.inr ⟨96, #[.agg #[.int .i64 12, .slice X nx xc, .slice Y na yc, .int .i64 c, .slice V (j + 1) vc]], fun w' kk ss => ⟨?_, ?_⟩⟩⟩) ?_
 · (try dsimp only at ss); go_simp
 · exact OA.out w' (ka.out.trans (hr0.trans kk))
 try simp only[Act.put,Reg.l1,Reg.l2,Reg.l3]
 refine Reg.tk (i := 4) (oi := { dst := some 151, op := Op.call { callee := Callee.value (Operand.func 95), args := #[Operand.tmp 150, Operand.const (Value.int IntKind.i64 0)], argTypes := #[23, 2] }, type := 4, pos := "kinds.go:37", after := #[{ on := 3, ground := Ground.data }, { on := 3, ground := Ground.chain }], guard := none }) (v := .bool B) [5, 6, 7] [] (Or.inl ⟨by rfl, Or.inr ⟨95, #[.slice V j vc, .int .i64 0], fun w' kk ss => ⟨?_, ?_⟩⟩⟩) ?_
 · (try dsimp only at ss); go_simp
 · exact CA.out w' (ka.out.trans (hr0.trans kk))
 try simp only[Act.put,Reg.l1,Reg.l2,Reg.l3]
 refine' Reg.tk (i := 5) (oi := { dst := some 152, op := Op.unOp UnOp.not 4 (Operand.tmp 151), type := 4, pos := "kinds.go:37", after := #[{ on := 4, ground := Ground.data }], guard := none }) (v := _) [6, 7] [] (Or.inl ⟨by rfl, Or.inl ?hy149⟩) ?r_149
 case hy149=>(intro w' kk ss; obtain⟨x0,x1,x2,x3,x4⟩:=bx5 (BX.out _ (hr0.trans kk)); go_simp; first | done | with_reducible rfl)
 try simp only[Act.put,Reg.l1,Reg.l2,Reg.l3]
 refine' Reg.tk (i := 6) (oi := { dst := some 153, op := Op.binOp BinOp.eql 4 (Operand.tmp 148) (Operand.tmp 152) 4, type := 4, pos := "kinds.go:37", after := #[{ on := 1, ground := Ground.data }, { on := 5, ground := Ground.data }], guard := none }) (v := _) [7] [] (Or.inl ⟨by rfl, Or.inl ?hy150⟩) ?r_150
 case hy150=>(intro w' kk ss; obtain⟨x0,x1,x2,x3,x4⟩:=bx5 (BX.out _ (hr0.trans kk)); go_simp; first | done | with_reducible rfl)
 try simp only[Act.put,Reg.l1,Reg.l2,Reg.l3]
 refine' Reg.tk (i := 7) (oi := { dst := some 2, op := Op.assign (Operand.tmp 153), type := 4, pos := "kinds.go:37", after := #[{ on := 6, ground := Ground.data }, { on := 4, ground := Ground.chain }, { on := 0, ground := Ground.phase }, { on := 1, ground := Ground.phase }, { on := 2, ground := Ground.phase }, { on := 3, ground := Ground.phase }, { on := 4, ground := Ground.phase }, { on := 5, ground := Ground.phase }, { on := 6, ground := Ground.phase }], guard := none }) (v := _) [] [] (Or.inl ⟨by rfl, Or.inl ?hy151⟩) ?r_151
 case hy151=>(intro w' kk ss; obtain⟨x0,x1,x2,x3,x4⟩:=bx5 (BX.out _ (hr0.trans kk)); go_simp; first | done | with_reducible rfl)
 try simp only[Act.put,Reg.l1,Reg.l2,Reg.l3]
 refine Reg.wpG_done (by kernel_rfl) (fun we ke se => ?_) _
 refine NoPanic.normal ?_
 have hr0:=hr0.trans ke
 clear ke
 go_wp2
 all_goals go_ret
 exact⟨rfl,ka.out.trans hr0⟩
theorem holds_k13 (u:Value) (x a:List Int) (c:Int) (v:List Int) (w:World) (h:PlAt w u 13 x a c v) (hp:0<v.length) (hl:v.length≤1000) :
 Calls Try.prog 65 #[u] w (RetT (flg v == (other v).contains 1) w):=by
 obtain⟨F,hF⟩:∃ F,flg v=F:=⟨_,rfl⟩
 have FA:=Lib.hid (fun W kk=>flag_at h (by omega) (by omega) hF W kk)
 rw[hF]
 obtain⟨X,xc,Y,yc,V,vc,rfl,h1,h2,h3⟩:=h
 obtain⟨j,hj⟩:=isPos hp
 have h4:=h3
 rw[hj] at h4
 have hvc:=h4.at_.2
 have ht:=slTakeI h4 j (by omega)
 rw[show v.take j=other v by rw[other,hj]; rfl] at ht
 obtain⟨B,hB⟩:∃ B,(other v).contains 1=B:=⟨_,rfl⟩
 have CA:=Lib.hid (fun W kk=>contains_at ht (by rw[other_len]; omega) hB W kk)
 rw[hB]
 rw[hj] at hvc FA ⊢
 generalize x.length=nx at *
 generalize a.length=na at *
 have OA:=Lib.hid (fun W kk=>others_at 13 X Y V nx xc na yc j vc c w (by omega) hvc W kk)
 clear h1 h2 h3 h4 ht hF hB hp hl hj
 have ka:=Lib.hid (sA w (.cells #[.int .i64 13,.slice X nx xc,.slice Y na yc,.int .i64 c,.slice V (j+1) vc] 73))
 have BX:=Lib.hid (fun W (kk:Since (w.alloc (.cells #[.int .i64 13,.slice X nx xc,.slice Y na yc,.int .i64 c,.slice V (j+1) vc] 73)) W)=>(Bx.fresh w #[.int .i64 13,.slice X nx xc,.slice Y na yc,.int .i64 c,.slice V (j+1) vc] 73).since kk)
 go_enter Try.func65,Try.ntmps65
 go_wp2
 obtain⟨W0,hW0⟩:∃ W0,W0=w.alloc (.cells #[.int .i64 13,.slice X nx xc,.slice Y na yc,.int .i64 c,.slice V (j+1) vc] 73):=⟨_,rfl⟩
 rw[← hW0]
 rw[← hW0] at ka BX
 clear hW0
 have hr0:Since W0 W0.drew:=Since.drew (Since.refl W0)
 refine wp_region_noPanic ?_
 refine Reg.wp_region_G (S:=fun _=>True) (fun j => [].contains j) (by kernel_rfl) trivial ?_
 refine' Reg.tk (i := 0) (oi := { dst := some 156, op := Op.load 73 (Operand.tmp 1), type := 73, pos := "kinds.go:39", after := #[], guard := none }) (v := _) [1, 3, 4, 5, 6] [] (Or.inl ⟨by rfl, Or.inl ?hy153⟩) ?r_153
 case hy153=>(intro w' kk ss; obtain⟨x0,x1,x2,x3,x4⟩:=bx5 (BX.out _ (hr0.trans kk)); go_simp; first | done | with_reducible rfl)
 try simp only[Act.put,Reg.l1,Reg.l2,Reg.l3]
 refine Reg.tk (i := 1) (oi := { dst := some 157, op := Op.call { callee := Callee.value (Operand.func 93), args := #[Operand.tmp 156], argTypes := #[73] }, type := 4, pos := "kinds.go:39", after := #[{ on := 0, ground := Ground.data }], guard := none }) (v := .bool F) [3, 4, 5, 6] [] (Or.inl ⟨by rfl, Or.inr ⟨93, #[.agg #[.int .i64 13, .slice X nx xc, .slice Y na yc, .int .i64 c, .slice V (j + 1) vc]], fun w' kk ss => ⟨?_, ?_⟩⟩⟩) ?_
 · (try dsimp only at ss); go_simp
 · exact FA.out w' (ka.out.trans (hr0.trans kk))
 try simp only[Act.put,Reg.l1,Reg.l2,Reg.l3]
 refine' Reg.tk (i := 2) (oi := { dst := some 158, op := Op.load 73 (Operand.tmp 1), type := 73, pos := "kinds.go:39", after := #[], guard := none }) (v := _) [3, 4, 5, 6] [] (Or.inl ⟨by rfl, Or.inl ?hy154⟩) ?r_154
 case hy154=>(intro w' kk ss; obtain⟨x0,x1,x2,x3,x4⟩:=bx5 (BX.out _ (hr0.trans kk)); go_simp; first | done | with_reducible rfl)
 try simp only[Act.put,Reg.l1,Reg.l2,Reg.l3]
 refine Reg.tk (i := 3) (oi := { dst := some 159, op := Op.call { callee := Callee.value (Operand.func 96), args := #[Operand.tmp 158], argTypes := #[73] }, type := 23, pos := "kinds.go:39", after := #[{ on := 2, ground := Ground.data }, { on := 1, ground := Ground.chain }], guard := none }) (v := .slice V j vc) [4, 5, 6] [] (Or.inl ⟨by rfl, Or.inr ⟨96, #[.agg #[.int .i64 13, .slice X nx xc, .slice Y na yc, .int .i64 c, .slice V (j + 1) vc]], fun w' kk ss => ⟨?_, ?_⟩⟩⟩) ?_
 · (try dsimp only at ss); go_simp
 · exact OA.out w' (ka.out.trans (hr0.trans kk))
 try simp only[Act.put,Reg.l1,Reg.l2,Reg.l3]
 refine Reg.tk (i := 4) (oi := { dst := some 160, op := Op.call { callee := Callee.value (Operand.func 95), args := #[Operand.tmp 159, Operand.const (Value.int IntKind.i64 1)], argTypes := #[23, 2] }, type := 4, pos := "kinds.go:39", after := #[{ on := 3, ground := Ground.data }, { on := 3, ground := Ground.chain }], guard := none }) (v := .bool B) [5, 6] [] (Or.inl ⟨by rfl, Or.inr ⟨95, #[.slice V j vc, .int .i64 1], fun w' kk ss => ⟨?_, ?_⟩⟩⟩) ?_
 · (try dsimp only at ss); go_simp
 · exact CA.out w' (ka.out.trans (hr0.trans kk))
 try simp only[Act.put,Reg.l1,Reg.l2,Reg.l3]
 refine' Reg.tk (i := 5) (oi := { dst := some 161, op := Op.binOp BinOp.eql 4 (Operand.tmp 157) (Operand.tmp 160) 4, type := 4, pos := "kinds.go:39", after := #[{ on := 1, ground := Ground.data }, { on := 4, ground := Ground.data }], guard := none }) (v := _) [6] [] (Or.inl ⟨by rfl, Or.inl ?hy155⟩) ?r_155
 case hy155=>(intro w' kk ss; obtain⟨x0,x1,x2,x3,x4⟩:=bx5 (BX.out _ (hr0.trans kk)); go_simp; first | done | with_reducible rfl)
 try simp only[Act.put,Reg.l1,Reg.l2,Reg.l3]
 refine' Reg.tk (i := 6) (oi := { dst := some 2, op := Op.assign (Operand.tmp 161), type := 4, pos := "kinds.go:39", after := #[{ on := 5, ground := Ground.data }, { on := 4, ground := Ground.chain }, { on := 0, ground := Ground.phase }, { on := 1, ground := Ground.phase }, { on := 2, ground := Ground.phase }, { on := 3, ground := Ground.phase }, { on := 4, ground := Ground.phase }, { on := 5, ground := Ground.phase }], guard := none }) (v := _) [] [] (Or.inl ⟨by rfl, Or.inl ?hy156⟩) ?r_156
 case hy156=>(intro w' kk ss; obtain⟨x0,x1,x2,x3,x4⟩:=bx5 (BX.out _ (hr0.trans kk)); go_simp; first | done | with_reducible rfl)
 try simp only[Act.put,Reg.l1,Reg.l2,Reg.l3]
 refine Reg.wpG_done (by kernel_rfl) (fun we ke se => ?_) _
 refine NoPanic.normal ?_
 have hr0:=hr0.trans ke
 clear ke
 go_wp2
 all_goals go_ret
 exact⟨rfl,ka.out.trans hr0⟩
end Go.Proofs.Ytakfabaocgbbmaa.Sn
