/- Layer 11 (sense): the landed holds, of Element, VarElement, AllDiff, Cumulative. -/
import Derived.Test.YtakfabaocgbbmaaUn
set_option maxHeartbeats 4000000
set_option maxRecDepth 20000
namespace Go.Proofs.Ytakfabaocgbbmaa.Sn
open Go.RowKit
set_option linter.unusedVariables false
set_option linter.unusedSimpArgs false
open Dig Lx Tk Ti Zs Tr
theorem holds_k16 (u:Value) (x a:List Int) (c:Int) (v:List Int) (w:World) (h:PlAt w u 16 x a c v) (hp:0<v.length) (hl:v.length≤1100000) (hla:a.length≤1100000) (hq:fits (v.getD 0 0)) :
 Calls Try.prog 65 #[u] w (RetT (chosen v a) w):=by
 obtain⟨R,hR⟩:∃ R,chosen v a=R:=⟨_,rfl⟩
 have h0:=h
 obtain⟨X,xc,Y,yc,V,vc,rfl,h1,h2,h3⟩:=h
 have CA:=Lib.hid (fun W (kk:Since w W)=>by have:=chosenFrom_any _ (.slice Y a.length yc) 16 x a c v a W (h0.since kk) (h2.since stI kk) hp hl hla hq; rw[hR] at this; exact this)
 rw[hR]
 generalize x.length=nx at *
 generalize a.length=na at *
 generalize v.length=nv at *
 clear h0 h1 h2 h3 hR hp hl hla hq
 have ka:=Lib.hid (sA w (.cells #[.int .i64 16,.slice X nx xc,.slice Y na yc,.int .i64 c,.slice V nv vc] 73))
 go_enter Try.func65,Try.ntmps65
 go_wp2_with (go_at_call 97; (with_reducible refine (CA.out _ ka.out).mono ?_); rintro e w1 ⟨rfl,k1⟩)
 go_ret
 exact⟨rfl,ka.out.trans k1⟩
theorem holds_k17 (u:Value) (x a:List Int) (c:Int) (v:List Int) (w:World) (h:PlAt w u 17 x a c v) (hp:3≤v.length) (hl:v.length≤1000) (hq:fits (v.getD 0 0)) :
 Calls Try.prog 65 #[u] w (RetT (chosen v ((other v).drop 1)) w):=by
 obtain⟨R,hR⟩:∃ R,chosen v ((other v).drop 1)=R:=⟨_,rfl⟩
 have h0:=h
 obtain⟨X,xc,Y,yc,V,vc,rfl,h1,h2,h3⟩:=h
 obtain⟨i,hi⟩:∃ i,v.length=i+1+1:=⟨v.length - 2,by omega⟩
 have h4:=h3
 rw[hi] at h4
 have hvc:=h4.at_.2
 have ht:=slTakeI h4 (i+1) (by omega)
 rw[show v.take (i+1)=other v by rw[other,hi]; rfl] at ht
 obtain⟨b,o,rfl,hs⟩:=slDropI ht 1 (by omega)
 rw[Nat.add_sub_cancel] at hs
 have CA:=Lib.hid (fun W kk=>chosen_at h0 hs (by omega) (by omega) (by rw[List.length_drop,other_len]; omega) hq hR W kk)
 rw[hR]
 rw[hi] at hvc CA ⊢
 have hi1:1≤i:=by omega
 have hi2:(1:Int)≤(i:Int)+1:=by omega
 have hv1:¬ (vc=1):=by omega
 generalize x.length=nx at *
 generalize a.length=na at *
 have OA:=Lib.hid (fun W kk=>others_at 17 X Y (some ⟨b,o,none⟩) nx xc na yc (i+1) vc c w (by omega) (by omega) W kk)
 clear h0 h1 h2 h3 h4 ht hs hR hp hl hi hq
 have ka:=Lib.hid (sA w (.cells #[.int .i64 17,.slice X nx xc,.slice Y na yc,.int .i64 c,.slice (some ⟨b,o,none⟩) (i+1+1) vc] 73))
 have BX:=Lib.hid (fun W (kk:Since (w.alloc (.cells #[.int .i64 17,.slice X nx xc,.slice Y na yc,.int .i64 c,.slice (some ⟨b,o,none⟩) (i+1+1) vc] 73)) W)=>(Bx.fresh w #[.int .i64 17,.slice X nx xc,.slice Y na yc,.int .i64 c,.slice (some ⟨b,o,none⟩) (i+1+1) vc] 73).since kk)
 go_enter Try.func65,Try.ntmps65
 go_wp2
 obtain⟨W0,hW0⟩:∃ W0,W0=w.alloc (.cells #[.int .i64 17,.slice X nx xc,.slice Y na yc,.int .i64 c,.slice (some ⟨b,o,none⟩) (i+1+1) vc] 73):=⟨_,rfl⟩
 rw[← hW0]
 rw[← hW0] at ka BX
 clear hW0
 have hr0:Since W0 W0.drew:=Since.drew (Since.refl W0)
 refine wp_region_noPanic ?_
 refine Reg.wp_region_G (S:=fun _=>True) (fun j => [].contains j) (by kernel_rfl) trivial ?_
 refine' Reg.tk (i := 0) (oi := { dst := some 185, op := Op.load 73 (Operand.tmp 1), type := 73, pos := "kinds.go:45", after := #[], guard := none }) (v := _) [4, 5] [] (Or.inl ⟨by rfl, Or.inl ?hy158⟩) ?r_158
 case hy158=>(intro w' kk ss; obtain⟨x0,x1,x2,x3,x4⟩:=bx5 (BX.out _ (hr0.trans kk)); go_simp; first | done | with_reducible rfl)
 try simp only[Act.put,Reg.l1,Reg.l2,Reg.l3]
 refine' Reg.tk (i := 1) (oi := { dst := some 186, op := Op.load 73 (Operand.tmp 1), type := 73, pos := "kinds.go:45", after := #[], guard := none }) (v := _) [2, 3, 4, 5] [] (Or.inl ⟨by rfl, Or.inl ?hy159⟩) ?r_159
 case hy159=>(intro w' kk ss; obtain⟨x0,x1,x2,x3,x4⟩:=bx5 (BX.out _ (hr0.trans kk)); go_simp; first | done | with_reducible rfl)
 try simp only[Act.put,Reg.l1,Reg.l2,Reg.l3]
 refine Reg.tk (i := 2) (oi := { dst := some 187, op := Op.call { callee := Callee.value (Operand.func 96), args := #[Operand.tmp 186], argTypes := #[73] }, type := 23, pos := "kinds.go:45", after := #[{ on := 1, ground := Ground.data }], guard := none }) (v := .slice (some ⟨b, o, none⟩) (i + 1) vc) [3, 4, 5] [] (Or.inl ⟨by rfl, Or.inr ⟨96, #[.agg #[.int .i64 17, .slice X nx xc, .slice Y na yc, .int .i64 c, .slice (some ⟨b, o, none⟩) (i + 1 + 1) vc]], fun w' kk ss => ⟨?_, ?_⟩⟩⟩) ?_
 · (try dsimp only at ss); go_simp
 · exact OA.out w' (ka.out.trans (hr0.trans kk))
 try simp only[Act.put,Reg.l1,Reg.l2,Reg.l3]
 refine' Reg.tk (i := 3) (oi := { dst := some 188, op := Op.slice 23 (Operand.tmp 187) (some (Operand.const (Value.int IntKind.i64 1))) none none, type := 23, pos := "kinds.go:45", after := #[{ on := 2, ground := Ground.data }], guard := none }) (v := _) [4, 5] [] (Or.inl ⟨by rfl, Or.inl ?hy160⟩) ?r_160
 case hy160=>(intro w' kk ss; obtain⟨x0,x1,x2,x3,x4⟩:=bx5 (BX.out _ (hr0.trans kk)); go_simp; first | done | with_reducible rfl)
 try simp only[Act.put,Reg.l1,Reg.l2,Reg.l3]
 refine Reg.tk (i := 4) (oi := { dst := some 189, op := Op.call { callee := Callee.value (Operand.func 97), args := #[Operand.tmp 185, Operand.tmp 188], argTypes := #[73, 23] }, type := 4, pos := "kinds.go:45", after := #[{ on := 0, ground := Ground.data }, { on := 3, ground := Ground.data }, { on := 2, ground := Ground.chain }], guard := none }) (v := .bool R) [5] [] (Or.inl ⟨by rfl, Or.inr ⟨97, #[.agg #[.int .i64 17, .slice X nx xc, .slice Y na yc, .int .i64 c, .slice (some ⟨b, o, none⟩) (i + 1 + 1) vc], .slice (some ⟨b, o + 1, none⟩) i (vc - 1)], fun w' kk ss => ⟨?_, ?_⟩⟩⟩) ?_
 · (try dsimp only at ss); go_simp
 · exact CA.out w' (ka.out.trans (hr0.trans kk))
 try simp only[Act.put,Reg.l1,Reg.l2,Reg.l3]
 refine' Reg.tk (i := 5) (oi := { dst := some 2, op := Op.assign (Operand.tmp 189), type := 4, pos := "kinds.go:45", after := #[{ on := 4, ground := Ground.data }, { on := 4, ground := Ground.chain }, { on := 0, ground := Ground.phase }, { on := 1, ground := Ground.phase }, { on := 2, ground := Ground.phase }, { on := 3, ground := Ground.phase }, { on := 4, ground := Ground.phase }], guard := none }) (v := _) [] [] (Or.inl ⟨by rfl, Or.inl ?hy161⟩) ?r_161
 case hy161=>(intro w' kk ss; obtain⟨x0,x1,x2,x3,x4⟩:=bx5 (BX.out _ (hr0.trans kk)); go_simp; first | done | with_reducible rfl)
 try simp only[Act.put,Reg.l1,Reg.l2,Reg.l3]
 refine Reg.wpG_done (by kernel_rfl) (fun we ke se => ?_) _
 refine NoPanic.normal ?_
 have hr0:=hr0.trans ke
 clear ke
 go_wp2
 all_goals go_ret
 exact⟨rfl,ka.out.trans hr0⟩
theorem holds_k18 (u:Value) (x a:List Int) (c:Int) (v:List Int) (w:World) (h:PlAt w u 18 x a c v) (hl:v.length≤1100000) :
 Calls Try.prog 65 #[u] w (RetT (differ v) w):=by
 obtain⟨R,hR⟩:∃ R,differ v=R:=⟨_,rfl⟩
 have CA:=Lib.hid (fun W (kk:Since w W)=>by have:=allDiffer_any u 18 x a c v W (h.since kk) hl; rw[hR] at this; exact this)
 rw[hR]
 obtain⟨X,xc,Y,yc,V,vc,rfl,h1,h2,h3⟩:=h
 generalize x.length=nx at *
 generalize a.length=na at *
 generalize v.length=nv at *
 clear h1 h2 h3 hR hl
 have ka:=Lib.hid (sA w (.cells #[.int .i64 18,.slice X nx xc,.slice Y na yc,.int .i64 c,.slice V nv vc] 73))
 go_enter Try.func65,Try.ntmps65
 go_wp2_with (go_at_call 98; (with_reducible refine (CA.out _ ka.out).mono ?_); rintro e w1 ⟨rfl,k1⟩)
 go_ret
 exact⟨rfl,ka.out.trans k1⟩
theorem holds_k19 (u:Value) (x a:List Int) (c:Int) (v:List Int) (w:World) (h:PlAt w u 19 x a c v) (hn:a.length=2*v.length) (hl:v.length≤1000) (ha:a.all within=true) (hv:v.all within=true) :
 Calls Try.prog 65 #[u] w (RetT (never v a c) w):=by
 obtain⟨R,hR⟩:∃ R,never v a c=R:=⟨_,rfl⟩
 have CA:=Lib.hid (fun W (kk:Since w W)=>by have:=neverAbove_any u 19 x a c v W (h.since kk) hn hl ha hv; rw[hR] at this; exact this)
 rw[hR]
 obtain⟨X,xc,Y,yc,V,vc,rfl,h1,h2,h3⟩:=h
 generalize x.length=nx at *
 generalize a.length=na at *
 generalize v.length=nv at *
 clear h1 h2 h3 hR hn hl ha hv
 have ka:=Lib.hid (sA w (.cells #[.int .i64 19,.slice X nx xc,.slice Y na yc,.int .i64 c,.slice V nv vc] 73))
 go_enter Try.func65,Try.ntmps65
 go_wp2_with (go_at_call 99; (with_reducible refine (CA.out _ ka.out).mono ?_); rintro e w1 ⟨rfl,k1⟩)
 go_ret
 exact⟨rfl,ka.out.trans k1⟩
end Go.Proofs.Ytakfabaocgbbmaa.Sn
