/- Layer 11 (sense): the document's own Holds. -/
import Derived.Test.YtakfabaocgbbmaaKv
set_option maxHeartbeats 3000000
set_option maxRecDepth 20000
namespace Go.Proofs.Ytakfabaocgbbmaa.Sn
open Go.RowKit
set_option linter.unusedVariables false
set_option linter.unusedSimpArgs false
open Dig Lx Tk Ti Zs Tr
theorem len2 {v:List Int} (h:v.length=2):∃ p q,v = [p,q]:=by
 match v,h with
 | [p,q],_=>exact⟨p,q,rfl⟩
theorem len3 {v:List Int} (h:v.length=3):∃ p q r,v = [p,q,r]:=by
 match v,h with
 | [p,q,r],_=>exact⟨p,q,r,rfl⟩
theorem cells2 {w:World} {B:Option Addr} {bc:Nat} {p q:Int} (h:Sl 1 QI w (.slice B 2 bc) [p,q]):∃ g o,B=some ⟨g,o,none⟩∧∀ W,Since w W→W.cell? ⟨g,o,none⟩=some (.int .i64 p)∧W.cell? ⟨g,o+1,none⟩=some (.int .i64 q):=by
 obtain⟨g,o,rfl,-⟩:=elI h (i:=0) (by simp)
 refine⟨g,o,rfl,fun W k => ?_⟩
 obtain⟨g1,o1,e1,c1⟩:=elI (h.since stI k) (i:=0) (by simp)
 obtain⟨g2,o2,e2,c2⟩:=elI (h.since stI k) (i:=1) (by simp)
 cases e1; cases e2
 exact⟨c1,c2⟩
theorem cells3 {w:World} {B:Option Addr} {bc:Nat} {p q r:Int} (h:Sl 1 QI w (.slice B 3 bc) [p,q,r]):∃ g o,B=some ⟨g,o,none⟩∧∀ W,Since w W→W.cell? ⟨g,o,none⟩=some (.int .i64 p)∧W.cell? ⟨g,o+1,none⟩=some (.int .i64 q)∧W.cell? ⟨g,o+2,none⟩=some (.int .i64 r):=by
 obtain⟨g,o,rfl,-⟩:=elI h (i:=0) (by simp)
 refine⟨g,o,rfl,fun W k => ?_⟩
 obtain⟨g1,o1,e1,c1⟩:=elI (h.since stI k) (i:=0) (by simp)
 obtain⟨g2,o2,e2,c2⟩:=elI (h.since stI k) (i:=1) (by simp)
 obtain⟨g3,o3,e3,c3⟩:=elI (h.since stI k) (i:=2) (by simp)
 cases e1; cases e2; cases e3
 exact⟨c1,c2,c3⟩
theorem rholds15 (v va:Value) (cx ca:List Int) (cc:Int) (a:List Int) (w:World) (h:ConAt w v ⟨15,cx,ca,cc⟩) (ha:Sl 1 QI w va a) (hx:cx.length≤1100000) (hca:ca.length≤1100000) (hla:a.length≤1100000) (hq:asked ⟨15,cx,ca,cc⟩ a=true) :
 Calls Try.prog 30 #[v,va] w (RetT (holdV 15 (vals cx a) ca cc) w):=by
 obtain⟨hin,hkv⟩:=asked_parts hq
 simp only at hin hkv
 obtain⟨p1,p2,p3,p4,p5,p6,p7,p8⟩:=askV_all hkv
 have hp3:(vals cx a).length=2:=by have:=p2; simp[shp] at this; omega
 have hx3:cx.length=2:=by rw[← vals_len cx a]; exact hp3
 have AK:=Lib.hid (fun W (k:Since w W)=>by have:=rasked_any v va _ a W (h.since k) (ha.since stI k) hx hca hla; rw[hq] at this; exact this)
 have VA:=Lib.hid (fun W (k:Since w W)=>show Calls Try.prog 64 #[v,va] W (fun e w'=>∃ B bc,e = .returned (.slice B 2 bc)∧Rb w w' (.slice B 2 bc) (vals cx a)∧Since W w') by have:=rvalues_at h ha (by simp only; omega) hin W k; simp only[hx3] at this; exact this)
 have LN:=Lib.hid (fun W=>rlinear_any 15 W)
 generalize vals cx a=vl at *
 obtain⟨p,q,rfl⟩:=len2 hp3
 have hpa:=List.all_eq_true.1 p1
 obtain⟨pl,ph⟩:=(within_iff2 p).1 (hpa p (by simp))
 obtain⟨ql,qh⟩:=(within_iff2 q).1 (hpa q (by simp))
 obtain⟨vx,vy,rfl,h1,h2⟩:=h
 simp only at *
 obtain⟨X,xc,rfl⟩:=h1.form
 obtain⟨Y,yc,rfl⟩:=h2.form
 obtain⟨A,ac,rfl⟩:=ha.form
 generalize cx.length=nx at *
 generalize ca.length=na at *
 generalize a.length=nl at *
 have ka:=Lib.hid (sA w (.cells #[.int .i64 15,.slice X nx xc,.slice Y na yc,.int .i64 cc] 25))
 have BC:=Lib.hid (Bx.fresh w #[.int .i64 15,.slice X nx xc,.slice Y na yc,.int .i64 cc] 25)
 clear h1 h2 ha hq hkv p1 p2 p3 p4 p5 p6 p7 p8 hin hpa hp3 hx3
 go_enter Try.func30,Try.ntmps30
 go_wp2_with (first | (go_at_call 62; (with_reducible refine (AK.out _ ka.out).mono ?_); rintro e w2 ⟨rfl,k2⟩; have K2:=Lib.hid (ka.out.trans k2); have L2:=Lib.hid k2; clear k2; obtain⟨b0,b1,b2,b3⟩:=bx4 (BC.out.since L2.out)) | (go_at_call 64; (with_reducible refine (VA.out _ K2.out).mono ?_); rintro e w3 ⟨B,bc,rfl,q1,k3⟩; have K3:=Lib.hid (K2.out.trans k3); have L3:=Lib.hid (L2.out.trans k3); have Q1:=Lib.hid q1.sl; clear q1 k3; obtain⟨b0,b1,b2,b3⟩:=bx4 (BC.out.since L3.out); obtain⟨gb,ob,hB,CC⟩:=cells2 Q1.out; subst hB; have CC:=Lib.hid CC; obtain⟨c0,c1⟩:=CC.out _ (Since.refl _)) | (go_at_call 61; (with_reducible refine (LN.out _).mono ?_); rintro e w4 ⟨rfl,rfl⟩))
 have hr0:Since w4 w4.drew:=Since.drew (Since.refl w4)
 refine wp_region_noPanic ?_
 refine Reg.wp_region_G (S:=fun _=>True) (fun j => [].contains j) (by kernel_rfl) trivial ?_
 refine' Reg.tk (i := 0) (oi := { dst := some 91, op := Op.move (Operand.tmp 5), type := 23, pos := "ref.go:145", after := #[], guard := none }) (v := _) [1, 2, 6, 7] [] (Or.inl ⟨by rfl, Or.inl ?hy2⟩) ?r_2
 case hy2=>(intro w' kk ss; obtain⟨x0,x1,x2',x3⟩:=bx4 (BC.out.since (L3.out.trans (hr0.trans kk))); obtain⟨y0,y1⟩:=CC.out _ (hr0.trans kk); go_simp; first | done | with_reducible rfl)
 try simp only[Act.put,Reg.l1,Reg.l2,Reg.l3]
 refine' Reg.tk (i := 1) (oi := { dst := some 92, op := Op.indexAddr 23 (Operand.tmp 91) (Operand.const (Value.int IntKind.i64 0)), type := 0, pos := "ref.go:145", after := #[{ on := 0, ground := Ground.data }], guard := none }) (v := _) [2, 6, 7] [] (Or.inl ⟨by rfl, Or.inl ?hy3⟩) ?r_3
 case hy3=>(intro w' kk ss; obtain⟨x0,x1,x2',x3⟩:=bx4 (BC.out.since (L3.out.trans (hr0.trans kk))); obtain⟨y0,y1⟩:=CC.out _ (hr0.trans kk); go_simp; first | done | with_reducible rfl)
 try simp only[Act.put,Reg.l1,Reg.l2,Reg.l3]
 refine' Reg.tk (i := 2) (oi := { dst := some 93, op := Op.load 2 (Operand.tmp 92), type := 2, pos := "ref.go:145", after := #[{ on := 1, ground := Ground.data }], guard := none }) (v := _) [6, 7] [] (Or.inl ⟨by rfl, Or.inl ?hy4⟩) ?r_4
 case hy4=>(intro w' kk ss; obtain⟨x0,x1,x2',x3⟩:=bx4 (BC.out.since (L3.out.trans (hr0.trans kk))); obtain⟨y0,y1⟩:=CC.out _ (hr0.trans kk); go_simp; first | done | with_reducible rfl)
 try simp only[Act.put,Reg.l1,Reg.l2,Reg.l3]
 refine' Reg.tk (i := 3) (oi := { dst := some 94, op := Op.move (Operand.tmp 5), type := 23, pos := "ref.go:145", after := #[], guard := none }) (v := _) [4, 5, 6, 7] [] (Or.inl ⟨by rfl, Or.inl ?hy5⟩) ?r_5
 case hy5=>(intro w' kk ss; obtain⟨x0,x1,x2',x3⟩:=bx4 (BC.out.since (L3.out.trans (hr0.trans kk))); obtain⟨y0,y1⟩:=CC.out _ (hr0.trans kk); go_simp; first | done | with_reducible rfl)
 try simp only[Act.put,Reg.l1,Reg.l2,Reg.l3]
 refine' Reg.tk (i := 4) (oi := { dst := some 95, op := Op.indexAddr 23 (Operand.tmp 94) (Operand.const (Value.int IntKind.i64 1)), type := 0, pos := "ref.go:145", after := #[{ on := 3, ground := Ground.data }], guard := none }) (v := _) [5, 6, 7] [] (Or.inl ⟨by rfl, Or.inl ?hy6⟩) ?r_6
 case hy6=>(intro w' kk ss; obtain⟨x0,x1,x2',x3⟩:=bx4 (BC.out.since (L3.out.trans (hr0.trans kk))); obtain⟨y0,y1⟩:=CC.out _ (hr0.trans kk); go_simp; first | done | with_reducible rfl)
 try simp only[Act.put,Reg.l1,Reg.l2,Reg.l3]
 refine' Reg.tk (i := 5) (oi := { dst := some 96, op := Op.load 2 (Operand.tmp 95), type := 2, pos := "ref.go:145", after := #[{ on := 4, ground := Ground.data }], guard := none }) (v := _) [6, 7] [] (Or.inl ⟨by rfl, Or.inl ?hy7⟩) ?r_7
 case hy7=>(intro w' kk ss; obtain⟨x0,x1,x2',x3⟩:=bx4 (BC.out.since (L3.out.trans (hr0.trans kk))); obtain⟨y0,y1⟩:=CC.out _ (hr0.trans kk); go_simp; first | done | with_reducible rfl)
 try simp only[Act.put,Reg.l1,Reg.l2,Reg.l3]
 refine' Reg.tk (i := 6) (oi := { dst := some 97, op := Op.binOp BinOp.eql 2 (Operand.tmp 93) (Operand.tmp 96) 2, type := 4, pos := "ref.go:145", after := #[{ on := 2, ground := Ground.data }, { on := 5, ground := Ground.data }], guard := none }) (v := _) [7] [] (Or.inl ⟨by rfl, Or.inl ?hy8⟩) ?r_8
 case hy8=>(intro w' kk ss; obtain⟨x0,x1,x2',x3⟩:=bx4 (BC.out.since (L3.out.trans (hr0.trans kk))); obtain⟨y0,y1⟩:=CC.out _ (hr0.trans kk); go_simp; first | done | with_reducible rfl)
 try simp only[Act.put,Reg.l1,Reg.l2,Reg.l3]
 refine' Reg.tk (i := 7) (oi := { dst := some 4, op := Op.assign (Operand.tmp 97), type := 4, pos := "ref.go:145", after := #[{ on := 6, ground := Ground.data }, { on := 0, ground := Ground.phase }, { on := 1, ground := Ground.phase }, { on := 2, ground := Ground.phase }, { on := 3, ground := Ground.phase }, { on := 4, ground := Ground.phase }, { on := 5, ground := Ground.phase }, { on := 6, ground := Ground.phase }], guard := none }) (v := _) [] [] (Or.inl ⟨by rfl, Or.inl ?hy9⟩) ?r_9
 case hy9=>(intro w' kk ss; obtain⟨x0,x1,x2',x3⟩:=bx4 (BC.out.since (L3.out.trans (hr0.trans kk))); obtain⟨y0,y1⟩:=CC.out _ (hr0.trans kk); go_simp; first | done | with_reducible rfl)
 try simp only[Act.put,Reg.l1,Reg.l2,Reg.l3]
 refine Reg.wpG_done (by kernel_rfl) (fun we ke se => ?_) _
 refine NoPanic.normal ?_
 have hr0:=hr0.trans ke
 clear ke
 go_wp2
 all_goals
  go_ret
  refine RetT.of ?_ (K3.out.trans hr0)
  first | rfl | (simp[holdV,flg,lastV]; done) | (rw[Bool.eq_iff_iff]; simp[holdV]; omega)
theorem rholds14 (v va:Value) (cx ca:List Int) (cc:Int) (a:List Int) (w:World) (h:ConAt w v ⟨14,cx,ca,cc⟩) (ha:Sl 1 QI w va a) (hx:cx.length≤1100000) (hca:ca.length≤1100000) (hla:a.length≤1100000) (hq:asked ⟨14,cx,ca,cc⟩ a=true) :
 Calls Try.prog 30 #[v,va] w (RetT (holdV 14 (vals cx a) ca cc) w):=by
 obtain⟨hin,hkv⟩:=asked_parts hq
 simp only at hin hkv
 obtain⟨p1,p2,p3,p4,p5,p6,p7,p8⟩:=askV_all hkv
 have hp3:(vals cx a).length=3:=by have:=p2; simp[shp] at this; omega
 have hx3:cx.length=3:=by rw[← vals_len cx a]; exact hp3
 have AK:=Lib.hid (fun W (k:Since w W)=>by have:=rasked_any v va _ a W (h.since k) (ha.since stI k) hx hca hla; rw[hq] at this; exact this)
 have VA:=Lib.hid (fun W (k:Since w W)=>show Calls Try.prog 64 #[v,va] W (fun e w'=>∃ B bc,e = .returned (.slice B 3 bc)∧Rb w w' (.slice B 3 bc) (vals cx a)∧Since W w') by have:=rvalues_at h ha (by simp only; omega) hin W k; simp only[hx3] at this; exact this)
 have LN:=Lib.hid (fun W=>rlinear_any 14 W)
 generalize vals cx a=vl at *
 obtain⟨p,q,r,rfl⟩:=len3 hp3
 have hpa:=List.all_eq_true.1 p1
 obtain⟨pl,ph⟩:=(within_iff2 p).1 (hpa p (by simp))
 obtain⟨ql,qh⟩:=(within_iff2 q).1 (hpa q (by simp))
 obtain⟨rl,rh⟩:=(within_iff2 r).1 (hpa r (by simp))
 obtain⟨vx,vy,rfl,h1,h2⟩:=h
 simp only at *
 obtain⟨X,xc,rfl⟩:=h1.form
 obtain⟨Y,yc,rfl⟩:=h2.form
 obtain⟨A,ac,rfl⟩:=ha.form
 generalize cx.length=nx at *
 generalize ca.length=na at *
 generalize a.length=nl at *
 have ka:=Lib.hid (sA w (.cells #[.int .i64 14,.slice X nx xc,.slice Y na yc,.int .i64 cc] 25))
 have BC:=Lib.hid (Bx.fresh w #[.int .i64 14,.slice X nx xc,.slice Y na yc,.int .i64 cc] 25)
 clear h1 h2 ha hq hkv p1 p2 p3 p4 p5 p6 p7 p8 hin hpa hp3 hx3
 go_enter Try.func30,Try.ntmps30
 go_wp2_with (first | (go_at_call 62; (with_reducible refine (AK.out _ ka.out).mono ?_); rintro e w2 ⟨rfl,k2⟩; have K2:=Lib.hid (ka.out.trans k2); have L2:=Lib.hid k2; clear k2; obtain⟨b0,b1,b2,b3⟩:=bx4 (BC.out.since L2.out)) | (go_at_call 64; (with_reducible refine (VA.out _ K2.out).mono ?_); rintro e w3 ⟨B,bc,rfl,q1,k3⟩; have K3:=Lib.hid (K2.out.trans k3); have L3:=Lib.hid (L2.out.trans k3); have Q1:=Lib.hid q1.sl; clear q1 k3; obtain⟨b0,b1,b2,b3⟩:=bx4 (BC.out.since L3.out); obtain⟨gb,ob,hB,CC⟩:=cells3 Q1.out; subst hB; have CC:=Lib.hid CC; obtain⟨c0,c1,c2⟩:=CC.out _ (Since.refl _)) | (go_at_call 61; (with_reducible refine (LN.out _).mono ?_); rintro e w4 ⟨rfl,rfl⟩))
 have hr0:Since w4 w4.drew:=Since.drew (Since.refl w4)
 refine wp_region_noPanic ?_
 refine Reg.wp_region_G (S:=fun _=>True) (fun j => [].contains j) (by kernel_rfl) trivial ?_
 refine' Reg.tk (i := 0) (oi := { dst := some 126, op := Op.move (Operand.tmp 5), type := 23, pos := "ref.go:153", after := #[], guard := none }) (v := _) [1, 2, 3, 11, 12] [] (Or.inl ⟨by rfl, Or.inl ?hy11⟩) ?r_11
 case hy11=>(intro w' kk ss; obtain⟨x0,x1,x2',x3⟩:=bx4 (BC.out.since (L3.out.trans (hr0.trans kk))); obtain⟨y0,y1,y2⟩:=CC.out _ (hr0.trans kk); go_simp; first | done | with_reducible rfl)
 try simp only[Act.put,Reg.l1,Reg.l2,Reg.l3]
 refine' Reg.tk (i := 1) (oi := { dst := some 127, op := Op.indexAddr 23 (Operand.tmp 126) (Operand.const (Value.int IntKind.i64 2)), type := 0, pos := "ref.go:153", after := #[{ on := 0, ground := Ground.data }], guard := none }) (v := _) [2, 3, 11, 12] [] (Or.inl ⟨by rfl, Or.inl ?hy12⟩) ?r_12
 case hy12=>(intro w' kk ss; obtain⟨x0,x1,x2',x3⟩:=bx4 (BC.out.since (L3.out.trans (hr0.trans kk))); obtain⟨y0,y1,y2⟩:=CC.out _ (hr0.trans kk); go_simp; first | done | with_reducible rfl)
 try simp only[Act.put,Reg.l1,Reg.l2,Reg.l3]
 refine' Reg.tk (i := 2) (oi := { dst := some 128, op := Op.load 2 (Operand.tmp 127), type := 2, pos := "ref.go:153", after := #[{ on := 1, ground := Ground.data }], guard := none }) (v := _) [3, 11, 12] [] (Or.inl ⟨by rfl, Or.inl ?hy13⟩) ?r_13
 case hy13=>(intro w' kk ss; obtain⟨x0,x1,x2',x3⟩:=bx4 (BC.out.since (L3.out.trans (hr0.trans kk))); obtain⟨y0,y1,y2⟩:=CC.out _ (hr0.trans kk); go_simp; first | done | with_reducible rfl)
 try simp only[Act.put,Reg.l1,Reg.l2,Reg.l3]
 refine' Reg.tk (i := 3) (oi := { dst := some 129, op := Op.binOp BinOp.eql 2 (Operand.tmp 128) (Operand.const (Value.int IntKind.i64 1)) 2, type := 4, pos := "ref.go:153", after := #[{ on := 2, ground := Ground.data }], guard := none }) (v := _) [11, 12] [] (Or.inl ⟨by rfl, Or.inl ?hy14⟩) ?r_14
 case hy14=>(intro w' kk ss; obtain⟨x0,x1,x2',x3⟩:=bx4 (BC.out.since (L3.out.trans (hr0.trans kk))); obtain⟨y0,y1,y2⟩:=CC.out _ (hr0.trans kk); go_simp; first | done | with_reducible rfl)
 try simp only[Act.put,Reg.l1,Reg.l2,Reg.l3]
 refine' Reg.tk (i := 4) (oi := { dst := some 130, op := Op.move (Operand.tmp 5), type := 23, pos := "ref.go:153", after := #[], guard := none }) (v := _) [5, 6, 10, 11, 12] [] (Or.inl ⟨by rfl, Or.inl ?hy15⟩) ?r_15
 case hy15=>(intro w' kk ss; obtain⟨x0,x1,x2',x3⟩:=bx4 (BC.out.since (L3.out.trans (hr0.trans kk))); obtain⟨y0,y1,y2⟩:=CC.out _ (hr0.trans kk); go_simp; first | done | with_reducible rfl)
 try simp only[Act.put,Reg.l1,Reg.l2,Reg.l3]
 refine' Reg.tk (i := 5) (oi := { dst := some 131, op := Op.indexAddr 23 (Operand.tmp 130) (Operand.const (Value.int IntKind.i64 0)), type := 0, pos := "ref.go:153", after := #[{ on := 4, ground := Ground.data }], guard := none }) (v := _) [6, 10, 11, 12] [] (Or.inl ⟨by rfl, Or.inl ?hy16⟩) ?r_16
 case hy16=>(intro w' kk ss; obtain⟨x0,x1,x2',x3⟩:=bx4 (BC.out.since (L3.out.trans (hr0.trans kk))); obtain⟨y0,y1,y2⟩:=CC.out _ (hr0.trans kk); go_simp; first | done | with_reducible rfl)
 try simp only[Act.put,Reg.l1,Reg.l2,Reg.l3]
 refine' Reg.tk (i := 6) (oi := { dst := some 132, op := Op.load 2 (Operand.tmp 131), type := 2, pos := "ref.go:153", after := #[{ on := 5, ground := Ground.data }], guard := none }) (v := _) [10, 11, 12] [] (Or.inl ⟨by rfl, Or.inl ?hy17⟩) ?r_17
 case hy17=>(intro w' kk ss; obtain⟨x0,x1,x2',x3⟩:=bx4 (BC.out.since (L3.out.trans (hr0.trans kk))); obtain⟨y0,y1,y2⟩:=CC.out _ (hr0.trans kk); go_simp; first | done | with_reducible rfl)
 try simp only[Act.put,Reg.l1,Reg.l2,Reg.l3]
 refine' Reg.tk (i := 7) (oi := { dst := some 133, op := Op.move (Operand.tmp 5), type := 23, pos := "ref.go:153", after := #[], guard := none }) (v := _) [8, 9, 10, 11, 12] [] (Or.inl ⟨by rfl, Or.inl ?hy18⟩) ?r_18
 case hy18=>(intro w' kk ss; obtain⟨x0,x1,x2',x3⟩:=bx4 (BC.out.since (L3.out.trans (hr0.trans kk))); obtain⟨y0,y1,y2⟩:=CC.out _ (hr0.trans kk); go_simp; first | done | with_reducible rfl)
 try simp only[Act.put,Reg.l1,Reg.l2,Reg.l3]
 refine' Reg.tk (i := 8) (oi := { dst := some 134, op := Op.indexAddr 23 (Operand.tmp 133) (Operand.const (Value.int IntKind.i64 1)), type := 0, pos := "ref.go:153", after := #[{ on := 7, ground := Ground.data }], guard := none }) (v := _) [9, 10, 11, 12] [] (Or.inl ⟨by rfl, Or.inl ?hy19⟩) ?r_19
 case hy19=>(intro w' kk ss; obtain⟨x0,x1,x2',x3⟩:=bx4 (BC.out.since (L3.out.trans (hr0.trans kk))); obtain⟨y0,y1,y2⟩:=CC.out _ (hr0.trans kk); go_simp; first | done | with_reducible rfl)
 try simp only[Act.put,Reg.l1,Reg.l2,Reg.l3]
 refine' Reg.tk (i := 9) (oi := { dst := some 135, op := Op.load 2 (Operand.tmp 134), type := 2, pos := "ref.go:153", after := #[{ on := 8, ground := Ground.data }], guard := none }) (v := _) [10, 11, 12] [] (Or.inl ⟨by rfl, Or.inl ?hy20⟩) ?r_20
 case hy20=>(intro w' kk ss; obtain⟨x0,x1,x2',x3⟩:=bx4 (BC.out.since (L3.out.trans (hr0.trans kk))); obtain⟨y0,y1,y2⟩:=CC.out _ (hr0.trans kk); go_simp; first | done | with_reducible rfl)
 try simp only[Act.put,Reg.l1,Reg.l2,Reg.l3]
 refine' Reg.tk (i := 10) (oi := { dst := some 136, op := Op.binOp BinOp.neq 2 (Operand.tmp 132) (Operand.tmp 135) 2, type := 4, pos := "ref.go:153", after := #[{ on := 6, ground := Ground.data }, { on := 9, ground := Ground.data }], guard := none }) (v := _) [11, 12] [] (Or.inl ⟨by rfl, Or.inl ?hy21⟩) ?r_21
 case hy21=>(intro w' kk ss; obtain⟨x0,x1,x2',x3⟩:=bx4 (BC.out.since (L3.out.trans (hr0.trans kk))); obtain⟨y0,y1,y2⟩:=CC.out _ (hr0.trans kk); go_simp; first | done | with_reducible rfl)
 try simp only[Act.put,Reg.l1,Reg.l2,Reg.l3]
 refine' Reg.tk (i := 11) (oi := { dst := some 137, op := Op.binOp BinOp.eql 4 (Operand.tmp 129) (Operand.tmp 136) 4, type := 4, pos := "ref.go:153", after := #[{ on := 3, ground := Ground.data }, { on := 10, ground := Ground.data }], guard := none }) (v := _) [12] [] (Or.inl ⟨by rfl, Or.inl ?hy22⟩) ?r_22
 case hy22=>(intro w' kk ss; obtain⟨x0,x1,x2',x3⟩:=bx4 (BC.out.since (L3.out.trans (hr0.trans kk))); obtain⟨y0,y1,y2⟩:=CC.out _ (hr0.trans kk); go_simp; first | done | with_reducible rfl)
 try simp only[Act.put,Reg.l1,Reg.l2,Reg.l3]
 refine' Reg.tk (i := 12) (oi := { dst := some 4, op := Op.assign (Operand.tmp 137), type := 4, pos := "ref.go:153", after := #[{ on := 11, ground := Ground.data }, { on := 0, ground := Ground.phase }, { on := 1, ground := Ground.phase }, { on := 2, ground := Ground.phase }, { on := 3, ground := Ground.phase }, { on := 4, ground := Ground.phase }, { on := 5, ground := Ground.phase }, { on := 6, ground := Ground.phase }, { on := 7, ground := Ground.phase }, { on := 8, ground := Ground.phase }, { on := 9, ground := Ground.phase }, { on := 10, ground := Ground.phase }, { on := 11, ground := Ground.phase }], guard := none }) (v := _) [] [] (Or.inl ⟨by rfl, Or.inl ?hy23⟩) ?r_23
 case hy23=>(intro w' kk ss; obtain⟨x0,x1,x2',x3⟩:=bx4 (BC.out.since (L3.out.trans (hr0.trans kk))); obtain⟨y0,y1,y2⟩:=CC.out _ (hr0.trans kk); go_simp; first | done | with_reducible rfl)
 try simp only[Act.put,Reg.l1,Reg.l2,Reg.l3]
 refine Reg.wpG_done (by kernel_rfl) (fun we ke se => ?_) _
 refine NoPanic.normal ?_
 have hr0:=hr0.trans ke
 clear ke
 go_wp2
 all_goals
  go_ret
  refine RetT.of ?_ (K3.out.trans hr0)
  first | rfl | (simp[holdV,flg,lastV]; done) | (rw[Bool.eq_iff_iff]; simp[holdV]; omega)
theorem rholds7 (v va:Value) (cx ca:List Int) (cc:Int) (a:List Int) (w:World) (h:ConAt w v ⟨7,cx,ca,cc⟩) (ha:Sl 1 QI w va a) (hx:cx.length≤1100000) (hca:ca.length≤1100000) (hla:a.length≤1100000) (hq:asked ⟨7,cx,ca,cc⟩ a=true) :
 Calls Try.prog 30 #[v,va] w (RetT (holdV 7 (vals cx a) ca cc) w):=by
 obtain⟨hin,hkv⟩:=asked_parts hq
 simp only at hin hkv
 obtain⟨p1,p2,p3,p4,p5,p6,p7,p8⟩:=askV_all hkv
 have hp3:(vals cx a).length=3:=by have:=p2; simp[shp] at this; omega
 have hx3:cx.length=3:=by rw[← vals_len cx a]; exact hp3
 have AK:=Lib.hid (fun W (k:Since w W)=>by have:=rasked_any v va _ a W (h.since k) (ha.since stI k) hx hca hla; rw[hq] at this; exact this)
 have VA:=Lib.hid (fun W (k:Since w W)=>show Calls Try.prog 64 #[v,va] W (fun e w'=>∃ B bc,e = .returned (.slice B 3 bc)∧Rb w w' (.slice B 3 bc) (vals cx a)∧Since W w') by have:=rvalues_at h ha (by simp only; omega) hin W k; simp only[hx3] at this; exact this)
 have LN:=Lib.hid (fun W=>rlinear_any 7 W)
 generalize vals cx a=vl at *
 obtain⟨p,q,r,rfl⟩:=len3 hp3
 have hpa:=List.all_eq_true.1 p1
 obtain⟨pl,ph⟩:=(within_iff2 p).1 (hpa p (by simp))
 obtain⟨ql,qh⟩:=(within_iff2 q).1 (hpa q (by simp))
 obtain⟨rl,rh⟩:=(within_iff2 r).1 (hpa r (by simp))
 obtain⟨vx,vy,rfl,h1,h2⟩:=h
 simp only at *
 obtain⟨X,xc,rfl⟩:=h1.form
 obtain⟨Y,yc,rfl⟩:=h2.form
 obtain⟨A,ac,rfl⟩:=ha.form
 generalize cx.length=nx at *
 generalize ca.length=na at *
 generalize a.length=nl at *
 have ka:=Lib.hid (sA w (.cells #[.int .i64 7,.slice X nx xc,.slice Y na yc,.int .i64 cc] 25))
 have BC:=Lib.hid (Bx.fresh w #[.int .i64 7,.slice X nx xc,.slice Y na yc,.int .i64 cc] 25)
 clear h1 h2 ha hq hkv p1 p2 p3 p4 p5 p6 p7 p8 hin hpa hp3 hx3
 have HWa:=Lib.hid (show IntKind.i64.wrap (p*q)=p*q from by have h1:=mul_lo ⟨pl,ph⟩ ⟨ql,qh⟩; have h2:=mul_hi ⟨pl,ph⟩ ⟨ql,qh⟩; exact wrap_id' (by omega) (by omega))
 go_enter Try.func30,Try.ntmps30
 go_wp2_with (first | (go_at_call 62; (with_reducible refine (AK.out _ ka.out).mono ?_); rintro e w2 ⟨rfl,k2⟩; have K2:=Lib.hid (ka.out.trans k2); have L2:=Lib.hid k2; clear k2; obtain⟨b0,b1,b2,b3⟩:=bx4 (BC.out.since L2.out)) | (go_at_call 64; (with_reducible refine (VA.out _ K2.out).mono ?_); rintro e w3 ⟨B,bc,rfl,q1,k3⟩; have K3:=Lib.hid (K2.out.trans k3); have L3:=Lib.hid (L2.out.trans k3); have Q1:=Lib.hid q1.sl; clear q1 k3; obtain⟨b0,b1,b2,b3⟩:=bx4 (BC.out.since L3.out); obtain⟨gb,ob,hB,CC⟩:=cells3 Q1.out; subst hB; have CC:=Lib.hid CC; obtain⟨c0,c1,c2⟩:=CC.out _ (Since.refl _)) | (go_at_call 61; (with_reducible refine (LN.out _).mono ?_); rintro e w4 ⟨rfl,rfl⟩))
 have hr0:Since w4 w4.drew:=Since.drew (Since.refl w4)
 refine wp_region_noPanic ?_
 refine Reg.wp_region_G (S:=fun _=>True) (fun j => [].contains j) (by kernel_rfl) trivial ?_
 refine' Reg.tk (i := 0) (oi := { dst := some 38, op := Op.move (Operand.tmp 5), type := 23, pos := "ref.go:137", after := #[], guard := none }) (v := _) [1, 2, 6, 10, 11] [] (Or.inl ⟨by rfl, Or.inl ?hy25⟩) ?r_25
 case hy25=>(intro w' kk ss; obtain⟨x0,x1,x2',x3⟩:=bx4 (BC.out.since (L3.out.trans (hr0.trans kk))); obtain⟨y0,y1,y2⟩:=CC.out _ (hr0.trans kk); go_simp; first | done | with_reducible rfl)
 try simp only[Act.put,Reg.l1,Reg.l2,Reg.l3]
 refine' Reg.tk (i := 1) (oi := { dst := some 39, op := Op.indexAddr 23 (Operand.tmp 38) (Operand.const (Value.int IntKind.i64 0)), type := 0, pos := "ref.go:137", after := #[{ on := 0, ground := Ground.data }], guard := none }) (v := _) [2, 6, 10, 11] [] (Or.inl ⟨by rfl, Or.inl ?hy26⟩) ?r_26
 case hy26=>(intro w' kk ss; obtain⟨x0,x1,x2',x3⟩:=bx4 (BC.out.since (L3.out.trans (hr0.trans kk))); obtain⟨y0,y1,y2⟩:=CC.out _ (hr0.trans kk); go_simp; first | done | with_reducible rfl)
 try simp only[Act.put,Reg.l1,Reg.l2,Reg.l3]
 refine' Reg.tk (i := 2) (oi := { dst := some 40, op := Op.load 2 (Operand.tmp 39), type := 2, pos := "ref.go:137", after := #[{ on := 1, ground := Ground.data }], guard := none }) (v := _) [6, 10, 11] [] (Or.inl ⟨by rfl, Or.inl ?hy27⟩) ?r_27
 case hy27=>(intro w' kk ss; obtain⟨x0,x1,x2',x3⟩:=bx4 (BC.out.since (L3.out.trans (hr0.trans kk))); obtain⟨y0,y1,y2⟩:=CC.out _ (hr0.trans kk); go_simp; first | done | with_reducible rfl)
 try simp only[Act.put,Reg.l1,Reg.l2,Reg.l3]
 refine' Reg.tk (i := 3) (oi := { dst := some 41, op := Op.move (Operand.tmp 5), type := 23, pos := "ref.go:137", after := #[], guard := none }) (v := _) [4, 5, 6, 10, 11] [] (Or.inl ⟨by rfl, Or.inl ?hy28⟩) ?r_28
 case hy28=>(intro w' kk ss; obtain⟨x0,x1,x2',x3⟩:=bx4 (BC.out.since (L3.out.trans (hr0.trans kk))); obtain⟨y0,y1,y2⟩:=CC.out _ (hr0.trans kk); go_simp; first | done | with_reducible rfl)
 try simp only[Act.put,Reg.l1,Reg.l2,Reg.l3]
 refine' Reg.tk (i := 4) (oi := { dst := some 42, op := Op.indexAddr 23 (Operand.tmp 41) (Operand.const (Value.int IntKind.i64 1)), type := 0, pos := "ref.go:137", after := #[{ on := 3, ground := Ground.data }], guard := none }) (v := _) [5, 6, 10, 11] [] (Or.inl ⟨by rfl, Or.inl ?hy29⟩) ?r_29
 case hy29=>(intro w' kk ss; obtain⟨x0,x1,x2',x3⟩:=bx4 (BC.out.since (L3.out.trans (hr0.trans kk))); obtain⟨y0,y1,y2⟩:=CC.out _ (hr0.trans kk); go_simp; first | done | with_reducible rfl)
 try simp only[Act.put,Reg.l1,Reg.l2,Reg.l3]
 refine' Reg.tk (i := 5) (oi := { dst := some 43, op := Op.load 2 (Operand.tmp 42), type := 2, pos := "ref.go:137", after := #[{ on := 4, ground := Ground.data }], guard := none }) (v := _) [6, 10, 11] [] (Or.inl ⟨by rfl, Or.inl ?hy30⟩) ?r_30
 case hy30=>(intro w' kk ss; obtain⟨x0,x1,x2',x3⟩:=bx4 (BC.out.since (L3.out.trans (hr0.trans kk))); obtain⟨y0,y1,y2⟩:=CC.out _ (hr0.trans kk); go_simp; first | done | with_reducible rfl)
 try simp only[Act.put,Reg.l1,Reg.l2,Reg.l3]
 refine' Reg.tk (i := 6) (oi := { dst := some 44, op := Op.binOp BinOp.mul 2 (Operand.tmp 40) (Operand.tmp 43) 2, type := 2, pos := "ref.go:137", after := #[{ on := 2, ground := Ground.data }, { on := 5, ground := Ground.data }], guard := none }) (v := _) [10, 11] [] (Or.inl ⟨by rfl, Or.inl ?hy31⟩) ?r_31
 case hy31=>(intro w' kk ss; obtain⟨x0,x1,x2',x3⟩:=bx4 (BC.out.since (L3.out.trans (hr0.trans kk))); obtain⟨y0,y1,y2⟩:=CC.out _ (hr0.trans kk); go_simp; first | done | with_reducible rfl)
 try simp only[Act.put,Reg.l1,Reg.l2,Reg.l3]
 refine' Reg.tk (i := 7) (oi := { dst := some 45, op := Op.move (Operand.tmp 5), type := 23, pos := "ref.go:137", after := #[], guard := none }) (v := _) [8, 9, 10, 11] [] (Or.inl ⟨by rfl, Or.inl ?hy32⟩) ?r_32
 case hy32=>(intro w' kk ss; obtain⟨x0,x1,x2',x3⟩:=bx4 (BC.out.since (L3.out.trans (hr0.trans kk))); obtain⟨y0,y1,y2⟩:=CC.out _ (hr0.trans kk); go_simp; first | done | with_reducible rfl)
 try simp only[Act.put,Reg.l1,Reg.l2,Reg.l3]
 refine' Reg.tk (i := 8) (oi := { dst := some 46, op := Op.indexAddr 23 (Operand.tmp 45) (Operand.const (Value.int IntKind.i64 2)), type := 0, pos := "ref.go:137", after := #[{ on := 7, ground := Ground.data }], guard := none }) (v := _) [9, 10, 11] [] (Or.inl ⟨by rfl, Or.inl ?hy33⟩) ?r_33
 case hy33=>(intro w' kk ss; obtain⟨x0,x1,x2',x3⟩:=bx4 (BC.out.since (L3.out.trans (hr0.trans kk))); obtain⟨y0,y1,y2⟩:=CC.out _ (hr0.trans kk); go_simp; first | done | with_reducible rfl)
 try simp only[Act.put,Reg.l1,Reg.l2,Reg.l3]
 refine' Reg.tk (i := 9) (oi := { dst := some 47, op := Op.load 2 (Operand.tmp 46), type := 2, pos := "ref.go:137", after := #[{ on := 8, ground := Ground.data }], guard := none }) (v := _) [10, 11] [] (Or.inl ⟨by rfl, Or.inl ?hy34⟩) ?r_34
 case hy34=>(intro w' kk ss; obtain⟨x0,x1,x2',x3⟩:=bx4 (BC.out.since (L3.out.trans (hr0.trans kk))); obtain⟨y0,y1,y2⟩:=CC.out _ (hr0.trans kk); go_simp; first | done | with_reducible rfl)
 try simp only[Act.put,Reg.l1,Reg.l2,Reg.l3]
 refine' Reg.tk (i := 10) (oi := { dst := some 48, op := Op.binOp BinOp.eql 2 (Operand.tmp 44) (Operand.tmp 47) 2, type := 4, pos := "ref.go:137", after := #[{ on := 6, ground := Ground.data }, { on := 9, ground := Ground.data }], guard := none }) (v := _) [11] [] (Or.inl ⟨by rfl, Or.inl ?hy35⟩) ?r_35
 case hy35=>(intro w' kk ss; obtain⟨x0,x1,x2',x3⟩:=bx4 (BC.out.since (L3.out.trans (hr0.trans kk))); obtain⟨y0,y1,y2⟩:=CC.out _ (hr0.trans kk); go_simp; first | done | with_reducible rfl)
 try simp only[Act.put,Reg.l1,Reg.l2,Reg.l3]
 refine' Reg.tk (i := 11) (oi := { dst := some 4, op := Op.assign (Operand.tmp 48), type := 4, pos := "ref.go:137", after := #[{ on := 10, ground := Ground.data }, { on := 0, ground := Ground.phase }, { on := 1, ground := Ground.phase }, { on := 2, ground := Ground.phase }, { on := 3, ground := Ground.phase }, { on := 4, ground := Ground.phase }, { on := 5, ground := Ground.phase }, { on := 6, ground := Ground.phase }, { on := 7, ground := Ground.phase }, { on := 8, ground := Ground.phase }, { on := 9, ground := Ground.phase }, { on := 10, ground := Ground.phase }], guard := none }) (v := _) [] [] (Or.inl ⟨by rfl, Or.inl ?hy36⟩) ?r_36
 case hy36=>(intro w' kk ss; obtain⟨x0,x1,x2',x3⟩:=bx4 (BC.out.since (L3.out.trans (hr0.trans kk))); obtain⟨y0,y1,y2⟩:=CC.out _ (hr0.trans kk); go_simp; first | done | with_reducible rfl)
 try simp only[Act.put,Reg.l1,Reg.l2,Reg.l3]
 refine Reg.wpG_done (by kernel_rfl) (fun we ke se => ?_) _
 refine NoPanic.normal ?_
 have hr0:=hr0.trans ke
 clear ke
 simp only[HWa.out]
 go_wp2
 all_goals
  go_ret
  refine RetT.of ?_ (K3.out.trans hr0)
  first | rfl | (simp[holdV,flg,lastV]; done) | (rw[Bool.eq_iff_iff]; simp[holdV]; omega)
end Go.Proofs.Ytakfabaocgbbmaa.Sn
