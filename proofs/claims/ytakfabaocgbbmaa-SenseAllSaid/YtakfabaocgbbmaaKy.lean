/- Layer 11 (sense): the document's own Holds. -/
import Derived.Test.YtakfabaocgbbmaaKw
set_option maxHeartbeats 3000000
set_option maxRecDepth 20000
namespace Go.Proofs.Ytakfabaocgbbmaa.Sn
open Go.RowKit
set_option linter.unusedVariables false
set_option linter.unusedSimpArgs false
open Dig Lx Tk Ti Zs Tr
theorem rholds8 (v va:Value) (cx ca:List Int) (cc:Int) (a:List Int) (w:World) (h:ConAt w v ⟨8,cx,ca,cc⟩) (ha:Sl 1 QI w va a) (hx:cx.length≤1100000) (hca:ca.length≤1100000) (hla:a.length≤1100000) (hq:asked ⟨8,cx,ca,cc⟩ a=true) :
 Calls Try.prog 30 #[v,va] w (RetT (holdV 8 (vals cx a) ca cc) w):=by
 obtain⟨hin,hkv⟩:=asked_parts hq
 simp only at hin hkv
 obtain⟨p1,p2,p3,p4,p5,p6,p7,p8⟩:=askV_all hkv
 have hp3:(vals cx a).length=3:=by have:=p2; simp[shp] at this; omega
 have hx3:cx.length=3:=by rw[← vals_len cx a]; exact hp3
 have AK:=Lib.hid (fun W (k:Since w W)=>by have:=rasked_any v va _ a W (h.since k) (ha.since stI k) hx hca hla; rw[hq] at this; exact this)
 have VA:=Lib.hid (fun W (k:Since w W)=>show Calls Try.prog 64 #[v,va] W (fun e w'=>∃ B bc,e = .returned (.slice B 3 bc)∧Rb w w' (.slice B 3 bc) (vals cx a)∧Since W w') by have:=rvalues_at h ha (by simp only; omega) hin W k; simp only[hx3] at this; exact this)
 have LN:=Lib.hid (fun W=>rlinear_any 8 W)
 generalize vals cx a=vl at *
 obtain⟨p,q,r,rfl⟩:=len3 hp3
 have hpa:=List.all_eq_true.1 p1
 obtain⟨pl,ph⟩:=(within_iff2 p).1 (hpa p (by simp))
 obtain⟨ql,qh⟩:=(within_iff2 q).1 (hpa q (by simp))
 obtain⟨rl,rh⟩:=(within_iff2 r).1 (hpa r (by simp))
 obtain⟨vx,vy,rfl,h1,h2⟩:=h
 simp only at *
 obtain⟨X,xc,rfl⟩:=h1.form
 obtain⟨Y,yc,rfl⟩:=h2.form
 obtain⟨A,ac,rfl⟩:=ha.form
 generalize cx.length=nx at *
 generalize ca.length=na at *
 generalize a.length=nl at *
 have ka:=Lib.hid (sA w (.cells #[.int .i64 8,.slice X nx xc,.slice Y na yc,.int .i64 cc] 25))
 have BC:=Lib.hid (Bx.fresh w #[.int .i64 8,.slice X nx xc,.slice Y na yc,.int .i64 cc] 25)
 clear h1 h2 ha hq hkv p1 p2 p3 p4 p5 p6 p7 p8 hin hpa hp3 hx3
 go_enter Try.func30,Try.ntmps30
 go_wp2_with (first | (go_at_call 62; (with_reducible refine (AK.out _ ka.out).mono ?_); rintro e w2 ⟨rfl,k2⟩; have K2:=Lib.hid (ka.out.trans k2); have L2:=Lib.hid k2; clear k2; obtain⟨b0,b1,b2,b3⟩:=bx4 (BC.out.since L2.out)) | (go_at_call 64; (with_reducible refine (VA.out _ K2.out).mono ?_); rintro e w3 ⟨B,bc,rfl,q1,k3⟩; have K3:=Lib.hid (K2.out.trans k3); have L3:=Lib.hid (L2.out.trans k3); have Q1:=Lib.hid q1.sl; clear q1 k3; obtain⟨b0,b1,b2,b3⟩:=bx4 (BC.out.since L3.out); obtain⟨gb,ob,hB,CC⟩:=cells3 Q1.out; subst hB; have CC:=Lib.hid CC; obtain⟨c0,c1,c2⟩:=CC.out _ (Since.refl _)) | (go_at_call 61; (with_reducible refine (LN.out _).mono ?_); rintro e w4 ⟨rfl,rfl⟩))
 have hr0:Since w4 w4.drew:=Since.drew (Since.refl w4)
 refine wp_region_noPanic ?_
 refine Reg.wp_region_G (S:=fun _=>True) (fun j => [].contains j) (by kernel_rfl) trivial ?_
 refine' Reg.tk (i := 0) (oi := { dst := some 51, op := Op.move (Operand.tmp 5), type := 23, pos := "ref.go:139", after := #[], guard := none }) (v := _) [1, 2, 6, 10, 11] [] (Or.inl ⟨by rfl, Or.inl ?hy38⟩) ?r_38
 case hy38=>(intro w' kk ss; obtain⟨x0,x1,x2',x3⟩:=bx4 (BC.out.since (L3.out.trans (hr0.trans kk))); obtain⟨y0,y1,y2⟩:=CC.out _ (hr0.trans kk); go_simp; first | done | with_reducible rfl)
 try simp only[Act.put,Reg.l1,Reg.l2,Reg.l3]
 refine' Reg.tk (i := 1) (oi := { dst := some 52, op := Op.indexAddr 23 (Operand.tmp 51) (Operand.const (Value.int IntKind.i64 0)), type := 0, pos := "ref.go:139", after := #[{ on := 0, ground := Ground.data }], guard := none }) (v := _) [2, 6, 10, 11] [] (Or.inl ⟨by rfl, Or.inl ?hy39⟩) ?r_39
 case hy39=>(intro w' kk ss; obtain⟨x0,x1,x2',x3⟩:=bx4 (BC.out.since (L3.out.trans (hr0.trans kk))); obtain⟨y0,y1,y2⟩:=CC.out _ (hr0.trans kk); go_simp; first | done | with_reducible rfl)
 try simp only[Act.put,Reg.l1,Reg.l2,Reg.l3]
 refine' Reg.tk (i := 2) (oi := { dst := some 53, op := Op.load 2 (Operand.tmp 52), type := 2, pos := "ref.go:139", after := #[{ on := 1, ground := Ground.data }], guard := none }) (v := _) [6, 10, 11] [] (Or.inl ⟨by rfl, Or.inl ?hy40⟩) ?r_40
 case hy40=>(intro w' kk ss; obtain⟨x0,x1,x2',x3⟩:=bx4 (BC.out.since (L3.out.trans (hr0.trans kk))); obtain⟨y0,y1,y2⟩:=CC.out _ (hr0.trans kk); go_simp; first | done | with_reducible rfl)
 try simp only[Act.put,Reg.l1,Reg.l2,Reg.l3]
 refine' Reg.tk (i := 3) (oi := { dst := some 54, op := Op.move (Operand.tmp 5), type := 23, pos := "ref.go:139", after := #[], guard := none }) (v := _) [4, 5, 6, 10, 11] [] (Or.inl ⟨by rfl, Or.inl ?hy41⟩) ?r_41
 case hy41=>(intro w' kk ss; obtain⟨x0,x1,x2',x3⟩:=bx4 (BC.out.since (L3.out.trans (hr0.trans kk))); obtain⟨y0,y1,y2⟩:=CC.out _ (hr0.trans kk); go_simp; first | done | with_reducible rfl)
 try simp only[Act.put,Reg.l1,Reg.l2,Reg.l3]
 refine' Reg.tk (i := 4) (oi := { dst := some 55, op := Op.indexAddr 23 (Operand.tmp 54) (Operand.const (Value.int IntKind.i64 1)), type := 0, pos := "ref.go:139", after := #[{ on := 3, ground := Ground.data }], guard := none }) (v := _) [5, 6, 10, 11] [] (Or.inl ⟨by rfl, Or.inl ?hy42⟩) ?r_42
 case hy42=>(intro w' kk ss; obtain⟨x0,x1,x2',x3⟩:=bx4 (BC.out.since (L3.out.trans (hr0.trans kk))); obtain⟨y0,y1,y2⟩:=CC.out _ (hr0.trans kk); go_simp; first | done | with_reducible rfl)
 try simp only[Act.put,Reg.l1,Reg.l2,Reg.l3]
 refine' Reg.tk (i := 5) (oi := { dst := some 56, op := Op.load 2 (Operand.tmp 55), type := 2, pos := "ref.go:139", after := #[{ on := 4, ground := Ground.data }], guard := none }) (v := _) [6, 10, 11] [] (Or.inl ⟨by rfl, Or.inl ?hy43⟩) ?r_43
 case hy43=>(intro w' kk ss; obtain⟨x0,x1,x2',x3⟩:=bx4 (BC.out.since (L3.out.trans (hr0.trans kk))); obtain⟨y0,y1,y2⟩:=CC.out _ (hr0.trans kk); go_simp; first | done | with_reducible rfl)
 try simp only[Act.put,Reg.l1,Reg.l2,Reg.l3]
 refine' Reg.tk (i := 6) (oi := { dst := some 57, op := Op.call { callee := Callee.builtin Builtin.min, args := #[Operand.tmp 53, Operand.tmp 56], argTypes := #[2, 2] }, type := 2, pos := "ref.go:139", after := #[{ on := 2, ground := Ground.data }, { on := 5, ground := Ground.data }], guard := none }) (v := _) [10, 11] [] (Or.inl ⟨by rfl, Or.inl ?hy44⟩) ?r_44
 case hy44=>(intro w' kk ss; obtain⟨x0,x1,x2',x3⟩:=bx4 (BC.out.since (L3.out.trans (hr0.trans kk))); obtain⟨y0,y1,y2⟩:=CC.out _ (hr0.trans kk); go_simp; first | done | with_reducible rfl)
 try simp only[Act.put,Reg.l1,Reg.l2,Reg.l3]
 refine' Reg.tk (i := 7) (oi := { dst := some 58, op := Op.move (Operand.tmp 5), type := 23, pos := "ref.go:139", after := #[], guard := none }) (v := _) [8, 9, 10, 11] [] (Or.inl ⟨by rfl, Or.inl ?hy45⟩) ?r_45
 case hy45=>(intro w' kk ss; obtain⟨x0,x1,x2',x3⟩:=bx4 (BC.out.since (L3.out.trans (hr0.trans kk))); obtain⟨y0,y1,y2⟩:=CC.out _ (hr0.trans kk); go_simp; first | done | with_reducible rfl)
 try simp only[Act.put,Reg.l1,Reg.l2,Reg.l3]
 refine' Reg.tk (i := 8) (oi := { dst := some 59, op := Op.indexAddr 23 (Operand.tmp 58) (Operand.const (Value.int IntKind.i64 2)), type := 0, pos := "ref.go:139", after := #[{ on := 7, ground := Ground.data }], guard := none }) (v := _) [9, 10, 11] [] (Or.inl ⟨by rfl, Or.inl ?hy46⟩) ?r_46
 case hy46=>(intro w' kk ss; obtain⟨x0,x1,x2',x3⟩:=bx4 (BC.out.since (L3.out.trans (hr0.trans kk))); obtain⟨y0,y1,y2⟩:=CC.out _ (hr0.trans kk); go_simp; first | done | with_reducible rfl)
 try simp only[Act.put,Reg.l1,Reg.l2,Reg.l3]
 refine' Reg.tk (i := 9) (oi := { dst := some 60, op := Op.load 2 (Operand.tmp 59), type := 2, pos := "ref.go:139", after := #[{ on := 8, ground := Ground.data }], guard := none }) (v := _) [10, 11] [] (Or.inl ⟨by rfl, Or.inl ?hy47⟩) ?r_47
 case hy47=>(intro w' kk ss; obtain⟨x0,x1,x2',x3⟩:=bx4 (BC.out.since (L3.out.trans (hr0.trans kk))); obtain⟨y0,y1,y2⟩:=CC.out _ (hr0.trans kk); go_simp; first | done | with_reducible rfl)
 try simp only[Act.put,Reg.l1,Reg.l2,Reg.l3]
 refine' Reg.tk (i := 10) (oi := { dst := some 61, op := Op.binOp BinOp.eql 2 (Operand.tmp 57) (Operand.tmp 60) 2, type := 4, pos := "ref.go:139", after := #[{ on := 6, ground := Ground.data }, { on := 9, ground := Ground.data }], guard := none }) (v := _) [11] [] (Or.inl ⟨by rfl, Or.inl ?hy48⟩) ?r_48
 case hy48=>(intro w' kk ss; obtain⟨x0,x1,x2',x3⟩:=bx4 (BC.out.since (L3.out.trans (hr0.trans kk))); obtain⟨y0,y1,y2⟩:=CC.out _ (hr0.trans kk); go_simp; first | done | with_reducible rfl)
 try simp only[Act.put,Reg.l1,Reg.l2,Reg.l3]
 refine' Reg.tk (i := 11) (oi := { dst := some 4, op := Op.assign (Operand.tmp 61), type := 4, pos := "ref.go:139", after := #[{ on := 10, ground := Ground.data }, { on := 0, ground := Ground.phase }, { on := 1, ground := Ground.phase }, { on := 2, ground := Ground.phase }, { on := 3, ground := Ground.phase }, { on := 4, ground := Ground.phase }, { on := 5, ground := Ground.phase }, { on := 6, ground := Ground.phase }, { on := 7, ground := Ground.phase }, { on := 8, ground := Ground.phase }, { on := 9, ground := Ground.phase }, { on := 10, ground := Ground.phase }], guard := none }) (v := _) [] [] (Or.inl ⟨by rfl, Or.inl ?hy49⟩) ?r_49
 case hy49=>(intro w' kk ss; obtain⟨x0,x1,x2',x3⟩:=bx4 (BC.out.since (L3.out.trans (hr0.trans kk))); obtain⟨y0,y1,y2⟩:=CC.out _ (hr0.trans kk); go_simp; first | done | with_reducible rfl)
 try simp only[Act.put,Reg.l1,Reg.l2,Reg.l3]
 refine Reg.wpG_done (by kernel_rfl) (fun we ke se => ?_) _
 refine NoPanic.normal ?_
 have hr0:=hr0.trans ke
 clear ke
 go_wp2
 all_goals
  go_ret
  refine RetT.of ?_ (K3.out.trans hr0)
  first | rfl | (simp[holdV,flg,lastV]; done) | (rw[Bool.eq_iff_iff]; simp[holdV]; omega)
theorem rholds9 (v va:Value) (cx ca:List Int) (cc:Int) (a:List Int) (w:World) (h:ConAt w v ⟨9,cx,ca,cc⟩) (ha:Sl 1 QI w va a) (hx:cx.length≤1100000) (hca:ca.length≤1100000) (hla:a.length≤1100000) (hq:asked ⟨9,cx,ca,cc⟩ a=true) :
 Calls Try.prog 30 #[v,va] w (RetT (holdV 9 (vals cx a) ca cc) w):=by
 obtain⟨hin,hkv⟩:=asked_parts hq
 simp only at hin hkv
 obtain⟨p1,p2,p3,p4,p5,p6,p7,p8⟩:=askV_all hkv
 have hp3:(vals cx a).length=3:=by have:=p2; simp[shp] at this; omega
 have hx3:cx.length=3:=by rw[← vals_len cx a]; exact hp3
 have AK:=Lib.hid (fun W (k:Since w W)=>by have:=rasked_any v va _ a W (h.since k) (ha.since stI k) hx hca hla; rw[hq] at this; exact this)
 have VA:=Lib.hid (fun W (k:Since w W)=>show Calls Try.prog 64 #[v,va] W (fun e w'=>∃ B bc,e = .returned (.slice B 3 bc)∧Rb w w' (.slice B 3 bc) (vals cx a)∧Since W w') by have:=rvalues_at h ha (by simp only; omega) hin W k; simp only[hx3] at this; exact this)
 have LN:=Lib.hid (fun W=>rlinear_any 9 W)
 generalize vals cx a=vl at *
 obtain⟨p,q,r,rfl⟩:=len3 hp3
 have hpa:=List.all_eq_true.1 p1
 obtain⟨pl,ph⟩:=(within_iff2 p).1 (hpa p (by simp))
 obtain⟨ql,qh⟩:=(within_iff2 q).1 (hpa q (by simp))
 obtain⟨rl,rh⟩:=(within_iff2 r).1 (hpa r (by simp))
 obtain⟨vx,vy,rfl,h1,h2⟩:=h
 simp only at *
 obtain⟨X,xc,rfl⟩:=h1.form
 obtain⟨Y,yc,rfl⟩:=h2.form
 obtain⟨A,ac,rfl⟩:=ha.form
 generalize cx.length=nx at *
 generalize ca.length=na at *
 generalize a.length=nl at *
 have ka:=Lib.hid (sA w (.cells #[.int .i64 9,.slice X nx xc,.slice Y na yc,.int .i64 cc] 25))
 have BC:=Lib.hid (Bx.fresh w #[.int .i64 9,.slice X nx xc,.slice Y na yc,.int .i64 cc] 25)
 clear h1 h2 ha hq hkv p1 p2 p3 p4 p5 p6 p7 p8 hin hpa hp3 hx3
 go_enter Try.func30,Try.ntmps30
 go_wp2_with (first | (go_at_call 62; (with_reducible refine (AK.out _ ka.out).mono ?_); rintro e w2 ⟨rfl,k2⟩; have K2:=Lib.hid (ka.out.trans k2); have L2:=Lib.hid k2; clear k2; obtain⟨b0,b1,b2,b3⟩:=bx4 (BC.out.since L2.out)) | (go_at_call 64; (with_reducible refine (VA.out _ K2.out).mono ?_); rintro e w3 ⟨B,bc,rfl,q1,k3⟩; have K3:=Lib.hid (K2.out.trans k3); have L3:=Lib.hid (L2.out.trans k3); have Q1:=Lib.hid q1.sl; clear q1 k3; obtain⟨b0,b1,b2,b3⟩:=bx4 (BC.out.since L3.out); obtain⟨gb,ob,hB,CC⟩:=cells3 Q1.out; subst hB; have CC:=Lib.hid CC; obtain⟨c0,c1,c2⟩:=CC.out _ (Since.refl _)) | (go_at_call 61; (with_reducible refine (LN.out _).mono ?_); rintro e w4 ⟨rfl,rfl⟩))
 have hr0:Since w4 w4.drew:=Since.drew (Since.refl w4)
 refine wp_region_noPanic ?_
 refine Reg.wp_region_G (S:=fun _=>True) (fun j => [].contains j) (by kernel_rfl) trivial ?_
 refine' Reg.tk (i := 0) (oi := { dst := some 64, op := Op.move (Operand.tmp 5), type := 23, pos := "ref.go:141", after := #[], guard := none }) (v := _) [1, 2, 6, 10, 11] [] (Or.inl ⟨by rfl, Or.inl ?hy51⟩) ?r_51
 case hy51=>(intro w' kk ss; obtain⟨x0,x1,x2',x3⟩:=bx4 (BC.out.since (L3.out.trans (hr0.trans kk))); obtain⟨y0,y1,y2⟩:=CC.out _ (hr0.trans kk); go_simp; first | done | with_reducible rfl)
 try simp only[Act.put,Reg.l1,Reg.l2,Reg.l3]
 refine' Reg.tk (i := 1) (oi := { dst := some 65, op := Op.indexAddr 23 (Operand.tmp 64) (Operand.const (Value.int IntKind.i64 0)), type := 0, pos := "ref.go:141", after := #[{ on := 0, ground := Ground.data }], guard := none }) (v := _) [2, 6, 10, 11] [] (Or.inl ⟨by rfl, Or.inl ?hy52⟩) ?r_52
 case hy52=>(intro w' kk ss; obtain⟨x0,x1,x2',x3⟩:=bx4 (BC.out.since (L3.out.trans (hr0.trans kk))); obtain⟨y0,y1,y2⟩:=CC.out _ (hr0.trans kk); go_simp; first | done | with_reducible rfl)
 try simp only[Act.put,Reg.l1,Reg.l2,Reg.l3]
 refine' Reg.tk (i := 2) (oi := { dst := some 66, op := Op.load 2 (Operand.tmp 65), type := 2, pos := "ref.go:141", after := #[{ on := 1, ground := Ground.data }], guard := none }) (v := _) [6, 10, 11] [] (Or.inl ⟨by rfl, Or.inl ?hy53⟩) ?r_53
 case hy53=>(intro w' kk ss; obtain⟨x0,x1,x2',x3⟩:=bx4 (BC.out.since (L3.out.trans (hr0.trans kk))); obtain⟨y0,y1,y2⟩:=CC.out _ (hr0.trans kk); go_simp; first | done | with_reducible rfl)
 try simp only[Act.put,Reg.l1,Reg.l2,Reg.l3]
 refine' Reg.tk (i := 3) (oi := { dst := some 67, op := Op.move (Operand.tmp 5), type := 23, pos := "ref.go:141", after := #[], guard := none }) (v := _) [4, 5, 6, 10, 11] [] (Or.inl ⟨by rfl, Or.inl ?hy54⟩) ?r_54
 case hy54=>(intro w' kk ss; obtain⟨x0,x1,x2',x3⟩:=bx4 (BC.out.since (L3.out.trans (hr0.trans kk))); obtain⟨y0,y1,y2⟩:=CC.out _ (hr0.trans kk); go_simp; first | done | with_reducible rfl)
 try simp only[Act.put,Reg.l1,Reg.l2,Reg.l3]
 refine' Reg.tk (i := 4) (oi := { dst := some 68, op := Op.indexAddr 23 (Operand.tmp 67) (Operand.const (Value.int IntKind.i64 1)), type := 0, pos := "ref.go:141", after := #[{ on := 3, ground := Ground.data }], guard := none }) (v := _) [5, 6, 10, 11] [] (Or.inl ⟨by rfl, Or.inl ?hy55⟩) ?r_55
 case hy55=>(intro w' kk ss; obtain⟨x0,x1,x2',x3⟩:=bx4 (BC.out.since (L3.out.trans (hr0.trans kk))); obtain⟨y0,y1,y2⟩:=CC.out _ (hr0.trans kk); go_simp; first | done | with_reducible rfl)
 try simp only[Act.put,Reg.l1,Reg.l2,Reg.l3]
 refine' Reg.tk (i := 5) (oi := { dst := some 69, op := Op.load 2 (Operand.tmp 68), type := 2, pos := "ref.go:141", after := #[{ on := 4, ground := Ground.data }], guard := none }) (v := _) [6, 10, 11] [] (Or.inl ⟨by rfl, Or.inl ?hy56⟩) ?r_56
 case hy56=>(intro w' kk ss; obtain⟨x0,x1,x2',x3⟩:=bx4 (BC.out.since (L3.out.trans (hr0.trans kk))); obtain⟨y0,y1,y2⟩:=CC.out _ (hr0.trans kk); go_simp; first | done | with_reducible rfl)
 try simp only[Act.put,Reg.l1,Reg.l2,Reg.l3]
 refine' Reg.tk (i := 6) (oi := { dst := some 70, op := Op.call { callee := Callee.builtin Builtin.max, args := #[Operand.tmp 66, Operand.tmp 69], argTypes := #[2, 2] }, type := 2, pos := "ref.go:141", after := #[{ on := 2, ground := Ground.data }, { on := 5, ground := Ground.data }], guard := none }) (v := _) [10, 11] [] (Or.inl ⟨by rfl, Or.inl ?hy57⟩) ?r_57
 case hy57=>(intro w' kk ss; obtain⟨x0,x1,x2',x3⟩:=bx4 (BC.out.since (L3.out.trans (hr0.trans kk))); obtain⟨y0,y1,y2⟩:=CC.out _ (hr0.trans kk); go_simp; first | done | with_reducible rfl)
 try simp only[Act.put,Reg.l1,Reg.l2,Reg.l3]
 refine' Reg.tk (i := 7) (oi := { dst := some 71, op := Op.move (Operand.tmp 5), type := 23, pos := "ref.go:141", after := #[], guard := none }) (v := _) [8, 9, 10, 11] [] (Or.inl ⟨by rfl, Or.inl ?hy58⟩) ?r_58
 case hy58=>(intro w' kk ss; obtain⟨x0,x1,x2',x3⟩:=bx4 (BC.out.since (L3.out.trans (hr0.trans kk))); obtain⟨y0,y1,y2⟩:=CC.out _ (hr0.trans kk); go_simp; first | done | with_reducible rfl)
 try simp only[Act.put,Reg.l1,Reg.l2,Reg.l3]
 refine' Reg.tk (i := 8) (oi := { dst := some 72, op := Op.indexAddr 23 (Operand.tmp 71) (Operand.const (Value.int IntKind.i64 2)), type := 0, pos := "ref.go:141", after := #[{ on := 7, ground := Ground.data }], guard := none }) (v := _) [9, 10, 11] [] (Or.inl ⟨by rfl, Or.inl ?hy59⟩) ?r_59
 case hy59=>(intro w' kk ss; obtain⟨x0,x1,x2',x3⟩:=bx4 (BC.out.since (L3.out.trans (hr0.trans kk))); obtain⟨y0,y1,y2⟩:=CC.out _ (hr0.trans kk); go_simp; first | done | with_reducible rfl)
 try simp only[Act.put,Reg.l1,Reg.l2,Reg.l3]
 refine' Reg.tk (i := 9) (oi := { dst := some 73, op := Op.load 2 (Operand.tmp 72), type := 2, pos := "ref.go:141", after := #[{ on := 8, ground := Ground.data }], guard := none }) (v := _) [10, 11] [] (Or.inl ⟨by rfl, Or.inl ?hy60⟩) ?r_60
 case hy60=>(intro w' kk ss; obtain⟨x0,x1,x2',x3⟩:=bx4 (BC.out.since (L3.out.trans (hr0.trans kk))); obtain⟨y0,y1,y2⟩:=CC.out _ (hr0.trans kk); go_simp; first | done | with_reducible rfl)
 try simp only[Act.put,Reg.l1,Reg.l2,Reg.l3]
 refine' Reg.tk (i := 10) (oi := { dst := some 74, op := Op.binOp BinOp.eql 2 (Operand.tmp 70) (Operand.tmp 73) 2, type := 4, pos := "ref.go:141", after := #[{ on := 6, ground := Ground.data }, { on := 9, ground := Ground.data }], guard := none }) (v := _) [11] [] (Or.inl ⟨by rfl, Or.inl ?hy61⟩) ?r_61
 case hy61=>(intro w' kk ss; obtain⟨x0,x1,x2',x3⟩:=bx4 (BC.out.since (L3.out.trans (hr0.trans kk))); obtain⟨y0,y1,y2⟩:=CC.out _ (hr0.trans kk); go_simp; first | done | with_reducible rfl)
 try simp only[Act.put,Reg.l1,Reg.l2,Reg.l3]
 refine' Reg.tk (i := 11) (oi := { dst := some 4, op := Op.assign (Operand.tmp 74), type := 4, pos := "ref.go:141", after := #[{ on := 10, ground := Ground.data }, { on := 0, ground := Ground.phase }, { on := 1, ground := Ground.phase }, { on := 2, ground := Ground.phase }, { on := 3, ground := Ground.phase }, { on := 4, ground := Ground.phase }, { on := 5, ground := Ground.phase }, { on := 6, ground := Ground.phase }, { on := 7, ground := Ground.phase }, { on := 8, ground := Ground.phase }, { on := 9, ground := Ground.phase }, { on := 10, ground := Ground.phase }], guard := none }) (v := _) [] [] (Or.inl ⟨by rfl, Or.inl ?hy62⟩) ?r_62
 case hy62=>(intro w' kk ss; obtain⟨x0,x1,x2',x3⟩:=bx4 (BC.out.since (L3.out.trans (hr0.trans kk))); obtain⟨y0,y1,y2⟩:=CC.out _ (hr0.trans kk); go_simp; first | done | with_reducible rfl)
 try simp only[Act.put,Reg.l1,Reg.l2,Reg.l3]
 refine Reg.wpG_done (by kernel_rfl) (fun we ke se => ?_) _
 refine NoPanic.normal ?_
 have hr0:=hr0.trans ke
 clear ke
 go_wp2
 all_goals
  go_ret
  refine RetT.of ?_ (K3.out.trans hr0)
  first | rfl | (simp[holdV,flg,lastV]; done) | (rw[Bool.eq_iff_iff]; simp[holdV]; omega)
theorem rholds10 (v va:Value) (cx ca:List Int) (cc:Int) (a:List Int) (w:World) (h:ConAt w v ⟨10,cx,ca,cc⟩) (ha:Sl 1 QI w va a) (hx:cx.length≤1100000) (hca:ca.length≤1100000) (hla:a.length≤1100000) (hq:asked ⟨10,cx,ca,cc⟩ a=true) :
 Calls Try.prog 30 #[v,va] w (RetT (holdV 10 (vals cx a) ca cc) w):=by
 obtain⟨hin,hkv⟩:=asked_parts hq
 simp only at hin hkv
 obtain⟨p1,p2,p3,p4,p5,p6,p7,p8⟩:=askV_all hkv
 have hp3:(vals cx a).length=2:=by have:=p2; simp[shp] at this; omega
 have hx3:cx.length=2:=by rw[← vals_len cx a]; exact hp3
 have AK:=Lib.hid (fun W (k:Since w W)=>by have:=rasked_any v va _ a W (h.since k) (ha.since stI k) hx hca hla; rw[hq] at this; exact this)
 have VA:=Lib.hid (fun W (k:Since w W)=>show Calls Try.prog 64 #[v,va] W (fun e w'=>∃ B bc,e = .returned (.slice B 2 bc)∧Rb w w' (.slice B 2 bc) (vals cx a)∧Since W w') by have:=rvalues_at h ha (by simp only; omega) hin W k; simp only[hx3] at this; exact this)
 have LN:=Lib.hid (fun W=>rlinear_any 10 W)
 generalize vals cx a=vl at *
 obtain⟨p,q,rfl⟩:=len2 hp3
 have hpa:=List.all_eq_true.1 p1
 obtain⟨pl,ph⟩:=(within_iff2 p).1 (hpa p (by simp))
 obtain⟨ql,qh⟩:=(within_iff2 q).1 (hpa q (by simp))
 obtain⟨vx,vy,rfl,h1,h2⟩:=h
 simp only at *
 obtain⟨X,xc,rfl⟩:=h1.form
 obtain⟨Y,yc,rfl⟩:=h2.form
 obtain⟨A,ac,rfl⟩:=ha.form
 generalize cx.length=nx at *
 generalize ca.length=na at *
 generalize a.length=nl at *
 have ka:=Lib.hid (sA w (.cells #[.int .i64 10,.slice X nx xc,.slice Y na yc,.int .i64 cc] 25))
 have BC:=Lib.hid (Bx.fresh w #[.int .i64 10,.slice X nx xc,.slice Y na yc,.int .i64 cc] 25)
 clear h1 h2 ha hq hkv p1 p2 p3 p4 p5 p6 p7 p8 hin hpa hp3 hx3
 have HWa:=Lib.hid (show IntKind.i64.wrap (-p) = -p from wrap_id' (by omega) (by omega))
 go_enter Try.func30,Try.ntmps30
 go_wp2_with (first | (go_at_call 62; (with_reducible refine (AK.out _ ka.out).mono ?_); rintro e w2 ⟨rfl,k2⟩; have K2:=Lib.hid (ka.out.trans k2); have L2:=Lib.hid k2; clear k2; obtain⟨b0,b1,b2,b3⟩:=bx4 (BC.out.since L2.out)) | (go_at_call 64; (with_reducible refine (VA.out _ K2.out).mono ?_); rintro e w3 ⟨B,bc,rfl,q1,k3⟩; have K3:=Lib.hid (K2.out.trans k3); have L3:=Lib.hid (L2.out.trans k3); have Q1:=Lib.hid q1.sl; clear q1 k3; obtain⟨b0,b1,b2,b3⟩:=bx4 (BC.out.since L3.out); obtain⟨gb,ob,hB,CC⟩:=cells2 Q1.out; subst hB; have CC:=Lib.hid CC; obtain⟨c0,c1⟩:=CC.out _ (Since.refl _)) | (go_at_call 61; (with_reducible refine (LN.out _).mono ?_); rintro e w4 ⟨rfl,rfl⟩))
 have hr0:Since w4 w4.drew:=Since.drew (Since.refl w4)
 refine wp_region_noPanic ?_
 refine Reg.wp_region_G (S:=fun _=>True) (fun j => [].contains j) (by kernel_rfl) trivial ?_
 refine' Reg.tk (i := 0) (oi := { dst := some 77, op := Op.move (Operand.tmp 5), type := 23, pos := "ref.go:143", after := #[], guard := none }) (v := _) [1, 2, 7, 11, 12] [] (Or.inl ⟨by rfl, Or.inl ?hy64⟩) ?r_64
 case hy64=>(intro w' kk ss; obtain⟨x0,x1,x2',x3⟩:=bx4 (BC.out.since (L3.out.trans (hr0.trans kk))); obtain⟨y0,y1⟩:=CC.out _ (hr0.trans kk); go_simp; first | done | with_reducible rfl)
 try simp only[Act.put,Reg.l1,Reg.l2,Reg.l3]
 refine' Reg.tk (i := 1) (oi := { dst := some 78, op := Op.indexAddr 23 (Operand.tmp 77) (Operand.const (Value.int IntKind.i64 0)), type := 0, pos := "ref.go:143", after := #[{ on := 0, ground := Ground.data }], guard := none }) (v := _) [2, 7, 11, 12] [] (Or.inl ⟨by rfl, Or.inl ?hy65⟩) ?r_65
 case hy65=>(intro w' kk ss; obtain⟨x0,x1,x2',x3⟩:=bx4 (BC.out.since (L3.out.trans (hr0.trans kk))); obtain⟨y0,y1⟩:=CC.out _ (hr0.trans kk); go_simp; first | done | with_reducible rfl)
 try simp only[Act.put,Reg.l1,Reg.l2,Reg.l3]
 refine' Reg.tk (i := 2) (oi := { dst := some 79, op := Op.load 2 (Operand.tmp 78), type := 2, pos := "ref.go:143", after := #[{ on := 1, ground := Ground.data }], guard := none }) (v := _) [7, 11, 12] [] (Or.inl ⟨by rfl, Or.inl ?hy66⟩) ?r_66
 case hy66=>(intro w' kk ss; obtain⟨x0,x1,x2',x3⟩:=bx4 (BC.out.since (L3.out.trans (hr0.trans kk))); obtain⟨y0,y1⟩:=CC.out _ (hr0.trans kk); go_simp; first | done | with_reducible rfl)
 try simp only[Act.put,Reg.l1,Reg.l2,Reg.l3]
 refine' Reg.tk (i := 3) (oi := { dst := some 80, op := Op.move (Operand.tmp 5), type := 23, pos := "ref.go:143", after := #[], guard := none }) (v := _) [4, 5, 6, 7, 11, 12] [] (Or.inl ⟨by rfl, Or.inl ?hy67⟩) ?r_67
 case hy67=>(intro w' kk ss; obtain⟨x0,x1,x2',x3⟩:=bx4 (BC.out.since (L3.out.trans (hr0.trans kk))); obtain⟨y0,y1⟩:=CC.out _ (hr0.trans kk); go_simp; first | done | with_reducible rfl)
 try simp only[Act.put,Reg.l1,Reg.l2,Reg.l3]
 refine' Reg.tk (i := 4) (oi := { dst := some 81, op := Op.indexAddr 23 (Operand.tmp 80) (Operand.const (Value.int IntKind.i64 0)), type := 0, pos := "ref.go:143", after := #[{ on := 3, ground := Ground.data }], guard := none }) (v := _) [5, 6, 7, 11, 12] [] (Or.inl ⟨by rfl, Or.inl ?hy68⟩) ?r_68
 case hy68=>(intro w' kk ss; obtain⟨x0,x1,x2',x3⟩:=bx4 (BC.out.since (L3.out.trans (hr0.trans kk))); obtain⟨y0,y1⟩:=CC.out _ (hr0.trans kk); go_simp; first | done | with_reducible rfl)
 try simp only[Act.put,Reg.l1,Reg.l2,Reg.l3]
 refine' Reg.tk (i := 5) (oi := { dst := some 82, op := Op.load 2 (Operand.tmp 81), type := 2, pos := "ref.go:143", after := #[{ on := 4, ground := Ground.data }], guard := none }) (v := _) [6, 7, 11, 12] [] (Or.inl ⟨by rfl, Or.inl ?hy69⟩) ?r_69
 case hy69=>(intro w' kk ss; obtain⟨x0,x1,x2',x3⟩:=bx4 (BC.out.since (L3.out.trans (hr0.trans kk))); obtain⟨y0,y1⟩:=CC.out _ (hr0.trans kk); go_simp; first | done | with_reducible rfl)
 try simp only[Act.put,Reg.l1,Reg.l2,Reg.l3]
 refine' Reg.tk (i := 6) (oi := { dst := some 83, op := Op.unOp UnOp.neg 2 (Operand.tmp 82), type := 2, pos := "ref.go:143", after := #[{ on := 5, ground := Ground.data }], guard := none }) (v := _) [7, 11, 12] [] (Or.inl ⟨by rfl, Or.inl ?hy70⟩) ?r_70
 case hy70=>(intro w' kk ss; obtain⟨x0,x1,x2',x3⟩:=bx4 (BC.out.since (L3.out.trans (hr0.trans kk))); obtain⟨y0,y1⟩:=CC.out _ (hr0.trans kk); go_simp; first | done | with_reducible rfl)
 try simp only[Act.put,Reg.l1,Reg.l2,Reg.l3]
 refine' Reg.tk (i := 7) (oi := { dst := some 84, op := Op.call { callee := Callee.builtin Builtin.max, args := #[Operand.tmp 79, Operand.tmp 83], argTypes := #[2, 2] }, type := 2, pos := "ref.go:143", after := #[{ on := 2, ground := Ground.data }, { on := 6, ground := Ground.data }], guard := none }) (v := _) [11, 12] [] (Or.inl ⟨by rfl, Or.inl ?hy71⟩) ?r_71
 case hy71=>(intro w' kk ss; obtain⟨x0,x1,x2',x3⟩:=bx4 (BC.out.since (L3.out.trans (hr0.trans kk))); obtain⟨y0,y1⟩:=CC.out _ (hr0.trans kk); go_simp; first | done | with_reducible rfl)
 try simp only[Act.put,Reg.l1,Reg.l2,Reg.l3]
 refine' Reg.tk (i := 8) (oi := { dst := some 85, op := Op.move (Operand.tmp 5), type := 23, pos := "ref.go:143", after := #[], guard := none }) (v := _) [9, 10, 11, 12] [] (Or.inl ⟨by rfl, Or.inl ?hy72⟩) ?r_72
 case hy72=>(intro w' kk ss; obtain⟨x0,x1,x2',x3⟩:=bx4 (BC.out.since (L3.out.trans (hr0.trans kk))); obtain⟨y0,y1⟩:=CC.out _ (hr0.trans kk); go_simp; first | done | with_reducible rfl)
 try simp only[Act.put,Reg.l1,Reg.l2,Reg.l3]
 refine' Reg.tk (i := 9) (oi := { dst := some 86, op := Op.indexAddr 23 (Operand.tmp 85) (Operand.const (Value.int IntKind.i64 1)), type := 0, pos := "ref.go:143", after := #[{ on := 8, ground := Ground.data }], guard := none }) (v := _) [10, 11, 12] [] (Or.inl ⟨by rfl, Or.inl ?hy73⟩) ?r_73
 case hy73=>(intro w' kk ss; obtain⟨x0,x1,x2',x3⟩:=bx4 (BC.out.since (L3.out.trans (hr0.trans kk))); obtain⟨y0,y1⟩:=CC.out _ (hr0.trans kk); go_simp; first | done | with_reducible rfl)
 try simp only[Act.put,Reg.l1,Reg.l2,Reg.l3]
 refine' Reg.tk (i := 10) (oi := { dst := some 87, op := Op.load 2 (Operand.tmp 86), type := 2, pos := "ref.go:143", after := #[{ on := 9, ground := Ground.data }], guard := none }) (v := _) [11, 12] [] (Or.inl ⟨by rfl, Or.inl ?hy74⟩) ?r_74
 case hy74=>(intro w' kk ss; obtain⟨x0,x1,x2',x3⟩:=bx4 (BC.out.since (L3.out.trans (hr0.trans kk))); obtain⟨y0,y1⟩:=CC.out _ (hr0.trans kk); go_simp; first | done | with_reducible rfl)
 try simp only[Act.put,Reg.l1,Reg.l2,Reg.l3]
 refine' Reg.tk (i := 11) (oi := { dst := some 88, op := Op.binOp BinOp.eql 2 (Operand.tmp 84) (Operand.tmp 87) 2, type := 4, pos := "ref.go:143", after := #[{ on := 7, ground := Ground.data }, { on := 10, ground := Ground.data }], guard := none }) (v := _) [12] [] (Or.inl ⟨by rfl, Or.inl ?hy75⟩) ?r_75
 case hy75=>(intro w' kk ss; obtain⟨x0,x1,x2',x3⟩:=bx4 (BC.out.since (L3.out.trans (hr0.trans kk))); obtain⟨y0,y1⟩:=CC.out _ (hr0.trans kk); go_simp; first | done | with_reducible rfl)
 try simp only[Act.put,Reg.l1,Reg.l2,Reg.l3]
 refine' Reg.tk (i := 12) (oi := { dst := some 4, op := Op.assign (Operand.tmp 88), type := 4, pos := "ref.go:143", after := #[{ on := 11, ground := Ground.data }, { on := 0, ground := Ground.phase }, { on := 1, ground := Ground.phase }, { on := 2, ground := Ground.phase }, { on := 3, ground := Ground.phase }, { on := 4, ground := Ground.phase }, { on := 5, ground := Ground.phase }, { on := 6, ground := Ground.phase }, { on := 7, ground := Ground.phase }, { on := 8, ground := Ground.phase }, { on := 9, ground := Ground.phase }, { on := 10, ground := Ground.phase }, { on := 11, ground := Ground.phase }], guard := none }) (v := _) [] [] (Or.inl ⟨by rfl, Or.inl ?hy76⟩) ?r_76
 case hy76=>(intro w' kk ss; obtain⟨x0,x1,x2',x3⟩:=bx4 (BC.out.since (L3.out.trans (hr0.trans kk))); obtain⟨y0,y1⟩:=CC.out _ (hr0.trans kk); go_simp; first | done | with_reducible rfl)
 try simp only[Act.put,Reg.l1,Reg.l2,Reg.l3]
 refine Reg.wpG_done (by kernel_rfl) (fun we ke se => ?_) _
 refine NoPanic.normal ?_
 have hr0:=hr0.trans ke
 clear ke
 simp only[HWa.out]
 go_wp2
 all_goals
  go_ret
  refine RetT.of ?_ (K3.out.trans hr0)
  first | rfl | (simp[holdV,flg,lastV]; done) | (rw[Bool.eq_iff_iff]; simp[holdV]; omega)
end Go.Proofs.Ytakfabaocgbbmaa.Sn
