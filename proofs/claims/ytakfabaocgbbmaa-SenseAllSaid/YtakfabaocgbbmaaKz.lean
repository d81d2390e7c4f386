/- Layer 11 (sense): the document's own Holds. -/
import Derived.Test.YtakfabaocgbbmaaKw
set_option maxHeartbeats 4000000
set_option maxRecDepth 20000
namespace Go.Proofs.Ytakfabaocgbbmaa.Sn
open Go.RowKit
set_option linter.unusedVariables false
set_option linter.unusedSimpArgs false
open Dig Lx Tk Ti Zs Tr
theorem rholds16 (v va:Value) (cx ca:List Int) (cc:Int) (a:List Int) (w:World) (h:ConAt w v ⟨16,cx,ca,cc⟩) (ha:Sl 1 QI w va a) (hx:cx.length≤1100000) (hca:ca.length≤1100000) (hla:a.length≤1100000) (hq:asked ⟨16,cx,ca,cc⟩ a=true) :
 Calls Try.prog 30 #[v,va] w (RetT (holdV 16 (vals cx a) ca cc) w):=by
 obtain⟨hin,hkv⟩:=asked_parts hq
 simp only at hin hkv
 obtain⟨p1,p2,p3,p4,p5,p6,p7,p8⟩:=askV_all hkv
 have hp3:(vals cx a).length=2:=by have:=p2; simp[shp] at this; omega
 have hx3:cx.length=2:=by rw[← vals_len cx a]; exact hp3
 have AK:=Lib.hid (fun W (k:Since w W)=>by have:=rasked_any v va _ a W (h.since k) (ha.since stI k) hx hca hla; rw[hq] at this; exact this)
 have VA:=Lib.hid (fun W (k:Since w W)=>show Calls Try.prog 64 #[v,va] W (fun e w'=>∃ B bc,e = .returned (.slice B 2 bc)∧Rb w w' (.slice B 2 bc) (vals cx a)∧Since W w') by have:=rvalues_at h ha (by simp only; omega) hin W k; simp only[hx3] at this; exact this)
 have LN:=Lib.hid (fun W=>rlinear_any 16 W)
 generalize vals cx a=vl at *
 obtain⟨p,q,rfl⟩:=len2 hp3
 have hpa:=List.all_eq_true.1 p1
 obtain⟨pl,ph⟩:=(within_iff2 p).1 (hpa p (by simp))
 obtain⟨ql,qh⟩:=(within_iff2 q).1 (hpa q (by simp))
 have HV:=Lib.hid (show (decide (1≤p) && decide (p≤(ca.length:Int)) && (ca.getD (p - 1).toNat 0 == q))=holdV 16 [p,q] ca cc by rfl)
 obtain⟨vx,vy,rfl,h1,h2⟩:=h
 simp only at *
 obtain⟨X,xc,rfl⟩:=h1.form
 obtain⟨Y,yc,rfl⟩:=h2.form
 obtain⟨A,ac,rfl⟩:=ha.form
 have HY:=Lib.hid h2
 generalize cx.length=nx at *
 have hna0:ca.length≤1100000:=hca
 generalize hna:ca.length=na at *
 generalize a.length=nl at *
 generalize holdV 16 [p,q] ca cc=R at *
 have ka:=Lib.hid (sA w (.cells #[.int .i64 16,.slice X nx xc,.slice Y na yc,.int .i64 cc] 25))
 have BC:=Lib.hid (Bx.fresh w #[.int .i64 16,.slice X nx xc,.slice Y na yc,.int .i64 cc] 25)
 clear h1 h2 ha hq hkv p1 p2 p3 p4 p5 p6 p7 p8 hin hpa hp3 hx3
 by_cases c1:1≤p
 case neg =>
  have E:=Lib.hid (show false=R by rw[← HV.out,decide_eq_false c1]; rfl)
  have hd1:decide (1≤p)=false:=decide_eq_false c1
  have hd2:decide (p ≥ 1)=false:=decide_eq_false c1
  go_enter Try.func30,Try.ntmps30
  go_wp2_with (first | (go_at_call 62; (with_reducible refine (AK.out _ ka.out).mono ?_); rintro e w2 ⟨rfl,k2⟩; have K2:=Lib.hid (ka.out.trans k2); have L2:=Lib.hid k2; clear k2; obtain⟨b0,b1,b2,b3⟩:=bx4 (BC.out.since L2.out)) | (go_at_call 64; (with_reducible refine (VA.out _ K2.out).mono ?_); rintro e w3 ⟨B,bc,rfl,q1,k3⟩; have K3:=Lib.hid (K2.out.trans k3); have L3:=Lib.hid (L2.out.trans k3); have Q1:=Lib.hid q1.sl; clear q1 k3; obtain⟨b0,b1,b2,b3⟩:=bx4 (BC.out.since L3.out); obtain⟨gb,ob,hB,CC⟩:=cells2 Q1.out; subst hB; have CC:=Lib.hid CC; obtain⟨c0,c1⟩:=CC.out _ (Since.refl _)) | (go_at_call 61; (with_reducible refine (LN.out _).mono ?_); rintro e w4 ⟨rfl,rfl⟩))
  have hr0:Since w4 w4.drew:=Since.drew (Since.refl w4)
  refine wp_region_noPanic ?_
  refine Reg.wp_region_G (S:=fun _=>True) (fun j => [].contains j) (by kernel_rfl) trivial ?_
  refine' Reg.tk (i := 0) (oi := { dst := some 140, op := Op.move (Operand.tmp 5), type := 23, pos := "ref.go:155", after := #[], guard := none }) (v := _) [1, 2, 3, 4, 5, 6, 7, 8, 9, 10, 11, 12, 13, 14, 15, 16, 17, 18, 19, 20, 21, 22, 23, 24, 25, 26, 27] [] (Or.inl ⟨by rfl, Or.inl ?hy78⟩) ?r_78
  case hy78=>(intro w' kk ss; obtain⟨x0,x1,x2',x3⟩:=bx4 (BC.out.since (L3.out.trans (hr0.trans kk))); obtain⟨y0,y1⟩:=CC.out _ (hr0.trans kk); go_simp; first | done | with_reducible rfl)
  try simp only[Act.put,Reg.l1,Reg.l2,Reg.l3]
  refine' Reg.tk (i := 1) (oi := { dst := some 141, op := Op.indexAddr 23 (Operand.tmp 140) (Operand.const (Value.int IntKind.i64 0)), type := 0, pos := "ref.go:155", after := #[{ on := 0, ground := Ground.data }], guard := none }) (v := _) [2, 3, 4, 5, 6, 7, 8, 9, 10, 11, 12, 13, 14, 15, 16, 17, 18, 19, 20, 21, 22, 23, 24, 25, 26, 27] [] (Or.inl ⟨by rfl, Or.inl ?hy79⟩) ?r_79
  case hy79=>(intro w' kk ss; obtain⟨x0,x1,x2',x3⟩:=bx4 (BC.out.since (L3.out.trans (hr0.trans kk))); obtain⟨y0,y1⟩:=CC.out _ (hr0.trans kk); go_simp; first | done | with_reducible rfl)
  try simp only[Act.put,Reg.l1,Reg.l2,Reg.l3]
  refine' Reg.tk (i := 2) (oi := { dst := some 142, op := Op.load 2 (Operand.tmp 141), type := 2, pos := "ref.go:155", after := #[{ on := 1, ground := Ground.data }], guard := none }) (v := _) [3, 4, 5, 6, 7, 8, 9, 10, 11, 12, 13, 14, 15, 16, 17, 18, 19, 20, 21, 22, 23, 24, 25, 26, 27] [] (Or.inl ⟨by rfl, Or.inl ?hy80⟩) ?r_80
  case hy80=>(intro w' kk ss; obtain⟨x0,x1,x2',x3⟩:=bx4 (BC.out.since (L3.out.trans (hr0.trans kk))); obtain⟨y0,y1⟩:=CC.out _ (hr0.trans kk); go_simp; first | done | with_reducible rfl)
  try simp only[Act.put,Reg.l1,Reg.l2,Reg.l3]
  refine' Reg.tk (i := 3) (oi := { dst := some 143, op := Op.binOp BinOp.geq 2 (Operand.tmp 142) (Operand.const (Value.int IntKind.i64 1)) 2, type := 4, pos := "ref.go:155", after := #[{ on := 2, ground := Ground.data }], guard := none }) (v := _) [4, 5, 6, 7, 8, 9, 10, 11, 12, 13, 14, 15, 16, 17, 18, 19, 20, 21, 22, 23, 24, 25, 26, 27] [] (Or.inl ⟨by rfl, Or.inl ?hy81⟩) ?r_81
  case hy81=>(intro w' kk ss; obtain⟨x0,x1,x2',x3⟩:=bx4 (BC.out.since (L3.out.trans (hr0.trans kk))); obtain⟨y0,y1⟩:=CC.out _ (hr0.trans kk); go_simp; first | done | with_reducible rfl)
  try simp only[Act.put,Reg.l1,Reg.l2,Reg.l3]
  refine' Reg.tk (i := 4) (oi := { dst := some 144, op := Op.move (Operand.tmp 143), type := 4, pos := "ref.go:155", after := #[{ on := 3, ground := Ground.data }], guard := none }) (v := _) [5, 6, 7, 8, 9, 10, 11, 12, 13, 14, 15, 16, 17, 18, 19, 20, 21, 22, 23, 24, 25, 26, 27] [] (Or.inl ⟨by rfl, Or.inl ?hy82⟩) ?r_82
  case hy82=>(intro w' kk ss; obtain⟨x0,x1,x2',x3⟩:=bx4 (BC.out.since (L3.out.trans (hr0.trans kk))); obtain⟨y0,y1⟩:=CC.out _ (hr0.trans kk); go_simp; first | done | with_reducible rfl)
  try simp only[Act.put,Reg.l1,Reg.l2,Reg.l3]
  refine Reg.tk (i := 5) (oi := { dst := some 145, op := Op.move (Operand.tmp 5), type := 23, pos := "ref.go:155", after := #[{ on := 4, ground := Ground.guard }], guard := some (4, true) }) (v := undef) [6, 7, 11, 12, 13, 14, 15, 16, 17, 18, 19, 20, 21, 22, 23, 24, 25, 26, 27] [] (Or.inr ⟨by rfl, rfl⟩) ?_
  try simp only[Act.put,Reg.l1,Reg.l2,Reg.l3]
  refine Reg.tk (i := 6) (oi := { dst := some 146, op := Op.indexAddr 23 (Operand.tmp 145) (Operand.const (Value.int IntKind.i64 0)), type := 0, pos := "ref.go:155", after := #[{ on := 5, ground := Ground.data }, { on := 4, ground := Ground.guard }], guard := some (4, true) }) (v := undef) [7, 11, 12, 13, 14, 15, 16, 17, 18, 19, 20, 21, 22, 23, 24, 25, 26, 27] [] (Or.inr ⟨by rfl, rfl⟩) ?_
  try simp only[Act.put,Reg.l1,Reg.l2,Reg.l3]
  refine Reg.tk (i := 7) (oi := { dst := some 147, op := Op.load 2 (Operand.tmp 146), type := 2, pos := "ref.go:155", after := #[{ on := 6, ground := Ground.data }, { on := 4, ground := Ground.guard }], guard := some (4, true) }) (v := undef) [11, 12, 13, 14, 15, 16, 17, 18, 19, 20, 21, 22, 23, 24, 25, 26, 27] [] (Or.inr ⟨by rfl, rfl⟩) ?_
  try simp only[Act.put,Reg.l1,Reg.l2,Reg.l3]
  refine Reg.tk (i := 8) (oi := { dst := some 148, op := Op.fieldAddr 25 (Operand.tmp 2) 2, type := 0, pos := "ref.go:155", after := #[{ on := 4, ground := Ground.guard }], guard := some (4, true) }) (v := undef) [9, 10, 11, 12, 13, 14, 15, 16, 17, 18, 19, 20, 21, 22, 23, 24, 25, 26, 27] [] (Or.inr ⟨by rfl, rfl⟩) ?_
  try simp only[Act.put,Reg.l1,Reg.l2,Reg.l3]
  refine Reg.tk (i := 9) (oi := { dst := some 149, op := Op.load 23 (Operand.tmp 148), type := 23, pos := "ref.go:155", after := #[{ on := 8, ground := Ground.data }, { on := 4, ground := Ground.guard }], guard := some (4, true) }) (v := undef) [10, 11, 12, 13, 14, 15, 16, 17, 18, 19, 20, 21, 22, 23, 24, 25, 26, 27] [] (Or.inr ⟨by rfl, rfl⟩) ?_
  try simp only[Act.put,Reg.l1,Reg.l2,Reg.l3]
  refine Reg.tk (i := 10) (oi := { dst := some 150, op := Op.call { callee := Callee.builtin Builtin.len, args := #[Operand.tmp 149], argTypes := #[23] }, type := 3, pos := "ref.go:155", after := #[{ on := 9, ground := Ground.data }, { on := 4, ground := Ground.guard }], guard := some (4, true) }) (v := undef) [11, 12, 13, 14, 15, 16, 17, 18, 19, 20, 21, 22, 23, 24, 25, 26, 27] [] (Or.inr ⟨by rfl, rfl⟩) ?_
  try simp only[Act.put,Reg.l1,Reg.l2,Reg.l3]
  refine Reg.tk (i := 11) (oi := { dst := some 151, op := Op.binOp BinOp.leq 2 (Operand.tmp 147) (Operand.tmp 150) 2, type := 4, pos := "ref.go:155", after := #[{ on := 7, ground := Ground.data }, { on := 10, ground := Ground.data }, { on := 4, ground := Ground.guard }], guard := some (4, true) }) (v := undef) [12, 13, 14, 15, 16, 17, 18, 19, 20, 21, 22, 23, 24, 25, 26, 27] [] (Or.inr ⟨by rfl, rfl⟩) ?_
  try simp only[Act.put,Reg.l1,Reg.l2,Reg.l3]
  refine' Reg.tk (i := 12) (oi := { dst := some 152, op := Op.pick (Operand.tmp 144) (Operand.tmp 151) (Operand.const (Value.bool false)), type := 4, pos := "ref.go:155", after := #[{ on := 4, ground := Ground.data }, { on := 11, ground := Ground.data }], guard := none }) (v := _) [13, 14, 15, 16, 17, 18, 19, 20, 21, 22, 23, 24, 25, 26, 27] [] (Or.inl ⟨by rfl, Or.inl ?hy83⟩) ?r_83
  case hy83=>(intro w' kk ss; obtain⟨x0,x1,x2',x3⟩:=bx4 (BC.out.since (L3.out.trans (hr0.trans kk))); obtain⟨y0,y1⟩:=CC.out _ (hr0.trans kk); go_simp; first | done | with_reducible rfl)
  try simp only[Act.put,Reg.l1,Reg.l2,Reg.l3]
  refine' Reg.tk (i := 13) (oi := { dst := some 153, op := Op.move (Operand.tmp 152), type := 4, pos := "ref.go:155", after := #[{ on := 12, ground := Ground.data }, { on := 4, ground := Ground.chain }], guard := none }) (v := _) [14, 15, 16, 17, 18, 19, 20, 21, 22, 23, 24, 25, 26, 27] [] (Or.inl ⟨by rfl, Or.inl ?hy84⟩) ?r_84
  case hy84=>(intro w' kk ss; obtain⟨x0,x1,x2',x3⟩:=bx4 (BC.out.since (L3.out.trans (hr0.trans kk))); obtain⟨y0,y1⟩:=CC.out _ (hr0.trans kk); go_simp; first | done | with_reducible rfl)
  try simp only[Act.put,Reg.l1,Reg.l2,Reg.l3]
  refine Reg.tk (i := 14) (oi := { dst := some 154, op := Op.fieldAddr 25 (Operand.tmp 2) 2, type := 0, pos := "ref.go:155", after := #[{ on := 13, ground := Ground.guard }], guard := some (13, true) }) (v := undef) [15, 20, 21, 25, 26, 27] [] (Or.inr ⟨by rfl, rfl⟩) ?_
  try simp only[Act.put,Reg.l1,Reg.l2,Reg.l3]
  refine Reg.tk (i := 15) (oi := { dst := some 155, op := Op.load 23 (Operand.tmp 154), type := 23, pos := "ref.go:155", after := #[{ on := 14, ground := Ground.data }, { on := 13, ground := Ground.guard }], guard := some (13, true) }) (v := undef) [20, 21, 25, 26, 27] [] (Or.inr ⟨by rfl, rfl⟩) ?_
  try simp only[Act.put,Reg.l1,Reg.l2,Reg.l3]
  refine Reg.tk (i := 16) (oi := { dst := some 156, op := Op.move (Operand.tmp 5), type := 23, pos := "ref.go:155", after := #[{ on := 13, ground := Ground.guard }], guard := some (13, true) }) (v := undef) [17, 18, 19, 20, 21, 25, 26, 27] [] (Or.inr ⟨by rfl, rfl⟩) ?_
  try simp only[Act.put,Reg.l1,Reg.l2,Reg.l3]
  refine Reg.tk (i := 17) (oi := { dst := some 157, op := Op.indexAddr 23 (Operand.tmp 156) (Operand.const (Value.int IntKind.i64 0)), type := 0, pos := "ref.go:155", after := #[{ on := 16, ground := Ground.data }, { on := 13, ground := Ground.guard }], guard := some (13, true) }) (v := undef) [18, 19, 20, 21, 25, 26, 27] [] (Or.inr ⟨by rfl, rfl⟩) ?_
  try simp only[Act.put,Reg.l1,Reg.l2,Reg.l3]
  refine Reg.tk (i := 18) (oi := { dst := some 158, op := Op.load 2 (Operand.tmp 157), type := 2, pos := "ref.go:155", after := #[{ on := 17, ground := Ground.data }, { on := 13, ground := Ground.guard }], guard := some (13, true) }) (v := undef) [19, 20, 21, 25, 26, 27] [] (Or.inr ⟨by rfl, rfl⟩) ?_
  try simp only[Act.put,Reg.l1,Reg.l2,Reg.l3]
  refine Reg.tk (i := 19) (oi := { dst := some 159, op := Op.binOp BinOp.sub 2 (Operand.tmp 158) (Operand.const (Value.int IntKind.i64 1)) 2, type := 2, pos := "ref.go:155", after := #[{ on := 18, ground := Ground.data }, { on := 13, ground := Ground.guard }], guard := some (13, true) }) (v := undef) [20, 21, 25, 26, 27] [] (Or.inr ⟨by rfl, rfl⟩) ?_
  try simp only[Act.put,Reg.l1,Reg.l2,Reg.l3]
  refine Reg.tk (i := 20) (oi := { dst := some 160, op := Op.indexAddr 23 (Operand.tmp 155) (Operand.tmp 159), type := 0, pos := "ref.go:155", after := #[{ on := 15, ground := Ground.data }, { on := 19, ground := Ground.data }, { on := 13, ground := Ground.guard }], guard := some (13, true) }) (v := undef) [21, 25, 26, 27] [] (Or.inr ⟨by rfl, rfl⟩) ?_
  try simp only[Act.put,Reg.l1,Reg.l2,Reg.l3]
  refine Reg.tk (i := 21) (oi := { dst := some 161, op := Op.load 2 (Operand.tmp 160), type := 2, pos := "ref.go:155", after := #[{ on := 20, ground := Ground.data }, { on := 13, ground := Ground.guard }], guard := some (13, true) }) (v := undef) [25, 26, 27] [] (Or.inr ⟨by rfl, rfl⟩) ?_
  try simp only[Act.put,Reg.l1,Reg.l2,Reg.l3]
  refine Reg.tk (i := 22) (oi := { dst := some 162, op := Op.move (Operand.tmp 5), type := 23, pos := "ref.go:155", after := #[{ on := 13, ground := Ground.guard }], guard := some (13, true) }) (v := undef) [23, 24, 25, 26, 27] [] (Or.inr ⟨by rfl, rfl⟩) ?_
  try simp only[Act.put,Reg.l1,Reg.l2,Reg.l3]
  refine Reg.tk (i := 23) (oi := { dst := some 163, op := Op.indexAddr 23 (Operand.tmp 162) (Operand.const (Value.int IntKind.i64 1)), type := 0, pos := "ref.go:155", after := #[{ on := 22, ground := Ground.data }, { on := 13, ground := Ground.guard }], guard := some (13, true) }) (v := undef) [24, 25, 26, 27] [] (Or.inr ⟨by rfl, rfl⟩) ?_
  try simp only[Act.put,Reg.l1,Reg.l2,Reg.l3]
  refine Reg.tk (i := 24) (oi := { dst := some 164, op := Op.load 2 (Operand.tmp 163), type := 2, pos := "ref.go:155", after := #[{ on := 23, ground := Ground.data }, { on := 13, ground := Ground.guard }], guard := some (13, true) }) (v := undef) [25, 26, 27] [] (Or.inr ⟨by rfl, rfl⟩) ?_
  try simp only[Act.put,Reg.l1,Reg.l2,Reg.l3]
  refine Reg.tk (i := 25) (oi := { dst := some 165, op := Op.binOp BinOp.eql 2 (Operand.tmp 161) (Operand.tmp 164) 2, type := 4, pos := "ref.go:155", after := #[{ on := 21, ground := Ground.data }, { on := 24, ground := Ground.data }, { on := 13, ground := Ground.guard }], guard := some (13, true) }) (v := undef) [26, 27] [] (Or.inr ⟨by rfl, rfl⟩) ?_
  try simp only[Act.put,Reg.l1,Reg.l2,Reg.l3]
  refine' Reg.tk (i := 26) (oi := { dst := some 166, op := Op.pick (Operand.tmp 153) (Operand.tmp 165) (Operand.const (Value.bool false)), type := 4, pos := "ref.go:155", after := #[{ on := 13, ground := Ground.data }, { on := 25, ground := Ground.data }], guard := none }) (v := _) [27] [] (Or.inl ⟨by rfl, Or.inl ?hy85⟩) ?r_85
  case hy85=>(intro w' kk ss; obtain⟨x0,x1,x2',x3⟩:=bx4 (BC.out.since (L3.out.trans (hr0.trans kk))); obtain⟨y0,y1⟩:=CC.out _ (hr0.trans kk); go_simp; first | done | with_reducible rfl)
  try simp only[Act.put,Reg.l1,Reg.l2,Reg.l3]
  refine' Reg.tk (i := 27) (oi := { dst := some 4, op := Op.assign (Operand.tmp 166), type := 4, pos := "ref.go:155", after := #[{ on := 26, ground := Ground.data }, { on := 13, ground := Ground.chain }, { on := 0, ground := Ground.phase }, { on := 1, ground := Ground.phase }, { on := 2, ground := Ground.phase }, { on := 3, ground := Ground.phase }, { on := 4, ground := Ground.phase }, { on := 5, ground := Ground.phase }, { on := 6, ground := Ground.phase }, { on := 7, ground := Ground.phase }, { on := 8, ground := Ground.phase }, { on := 9, ground := Ground.phase }, { on := 10, ground := Ground.phase }, { on := 11, ground := Ground.phase }, { on := 12, ground := Ground.phase }, { on := 13, ground := Ground.phase }, { on := 14, ground := Ground.phase }, { on := 15, ground := Ground.phase }, { on := 16, ground := Ground.phase }, { on := 17, ground := Ground.phase }, { on := 18, ground := Ground.phase }, { on := 19, ground := Ground.phase }, { on := 20, ground := Ground.phase }, { on := 21, ground := Ground.phase }, { on := 22, ground := Ground.phase }, { on := 23, ground := Ground.phase }, { on := 24, ground := Ground.phase }, { on := 25, ground := Ground.phase }, { on := 26, ground := Ground.phase }], guard := none }) (v := _) [] [] (Or.inl ⟨by rfl, Or.inl ?hy86⟩) ?r_86
  case hy86=>(intro w' kk ss; obtain⟨x0,x1,x2',x3⟩:=bx4 (BC.out.since (L3.out.trans (hr0.trans kk))); obtain⟨y0,y1⟩:=CC.out _ (hr0.trans kk); go_simp; first | done | with_reducible rfl)
  try simp only[Act.put,Reg.l1,Reg.l2,Reg.l3]
  refine Reg.wpG_done (by kernel_rfl) (fun we ke se => ?_) _
  refine NoPanic.normal ?_
  have hr0:=hr0.trans ke
  clear ke
  go_wp2
  all_goals
   go_ret
   exact RetT.of E.out (K3.out.trans hr0)
 by_cases c2:p≤(na:Int)
 case neg =>
  have E:=Lib.hid (show false=R by rw[← HV.out,decide_eq_false c2,Bool.and_false]; rfl)
  have hd1:decide (1≤p)=true:=decide_eq_true c1
  have hd2:decide (p ≥ 1)=true:=decide_eq_true c1
  have hd3:decide (p≤(na:Int))=false:=decide_eq_false c2
  go_enter Try.func30,Try.ntmps30
  go_wp2_with (first | (go_at_call 62; (with_reducible refine (AK.out _ ka.out).mono ?_); rintro e w2 ⟨rfl,k2⟩; have K2:=Lib.hid (ka.out.trans k2); have L2:=Lib.hid k2; clear k2; obtain⟨b0,b1,b2,b3⟩:=bx4 (BC.out.since L2.out)) | (go_at_call 64; (with_reducible refine (VA.out _ K2.out).mono ?_); rintro e w3 ⟨B,bc,rfl,q1,k3⟩; have K3:=Lib.hid (K2.out.trans k3); have L3:=Lib.hid (L2.out.trans k3); have Q1:=Lib.hid q1.sl; clear q1 k3; obtain⟨b0,b1,b2,b3⟩:=bx4 (BC.out.since L3.out); obtain⟨gb,ob,hB,CC⟩:=cells2 Q1.out; subst hB; have CC:=Lib.hid CC; obtain⟨c0,c1⟩:=CC.out _ (Since.refl _)) | (go_at_call 61; (with_reducible refine (LN.out _).mono ?_); rintro e w4 ⟨rfl,rfl⟩))
  have hr0:Since w4 w4.drew:=Since.drew (Since.refl w4)
  refine wp_region_noPanic ?_
  refine Reg.wp_region_G (S:=fun _=>True) (fun j => [].contains j) (by kernel_rfl) trivial ?_
  refine' Reg.tk (i := 0) (oi := { dst := some 140, op := Op.move (Operand.tmp 5), type := 23, pos := "ref.go:155", after := #[], guard := none }) (v := _) [1, 2, 3, 4, 5, 6, 7, 8, 9, 10, 11, 12, 13, 14, 15, 16, 17, 18, 19, 20, 21, 22, 23, 24, 25, 26, 27] [] (Or.inl ⟨by rfl, Or.inl ?hy88⟩) ?r_88
  case hy88=>(intro w' kk ss; obtain⟨x0,x1,x2',x3⟩:=bx4 (BC.out.since (L3.out.trans (hr0.trans kk))); obtain⟨y0,y1⟩:=CC.out _ (hr0.trans kk); go_simp; first | done | with_reducible rfl)
  try simp only[Act.put,Reg.l1,Reg.l2,Reg.l3]
  refine' Reg.tk (i := 1) (oi := { dst := some 141, op := Op.indexAddr 23 (Operand.tmp 140) (Operand.const (Value.int IntKind.i64 0)), type := 0, pos := "ref.go:155", after := #[{ on := 0, ground := Ground.data }], guard := none }) (v := _) [2, 3, 4, 5, 6, 7, 8, 9, 10, 11, 12, 13, 14, 15, 16, 17, 18, 19, 20, 21, 22, 23, 24, 25, 26, 27] [] (Or.inl ⟨by rfl, Or.inl ?hy89⟩) ?r_89
  case hy89=>(intro w' kk ss; obtain⟨x0,x1,x2',x3⟩:=bx4 (BC.out.since (L3.out.trans (hr0.trans kk))); obtain⟨y0,y1⟩:=CC.out _ (hr0.trans kk); go_simp; first | done | with_reducible rfl)
  try simp only[Act.put,Reg.l1,Reg.l2,Reg.l3]
  refine' Reg.tk (i := 2) (oi := { dst := some 142, op := Op.load 2 (Operand.tmp 141), type := 2, pos := "ref.go:155", after := #[{ on := 1, ground := Ground.data }], guard := none }) (v := _) [3, 4, 5, 6, 7, 8, 9, 10, 11, 12, 13, 14, 15, 16, 17, 18, 19, 20, 21, 22, 23, 24, 25, 26, 27] [] (Or.inl ⟨by rfl, Or.inl ?hy90⟩) ?r_90
  case hy90=>(intro w' kk ss; obtain⟨x0,x1,x2',x3⟩:=bx4 (BC.out.since (L3.out.trans (hr0.trans kk))); obtain⟨y0,y1⟩:=CC.out _ (hr0.trans kk); go_simp; first | done | with_reducible rfl)
  try simp only[Act.put,Reg.l1,Reg.l2,Reg.l3]
  refine' Reg.tk (i := 3) (oi := { dst := some 143, op := Op.binOp BinOp.geq 2 (Operand.tmp 142) (Operand.const (Value.int IntKind.i64 1)) 2, type := 4, pos := "ref.go:155", after := #[{ on := 2, ground := Ground.data }], guard := none }) (v := _) [4, 5, 6, 7, 8, 9, 10, 11, 12, 13, 14, 15, 16, 17, 18, 19, 20, 21, 22, 23, 24, 25, 26, 27] [] (Or.inl ⟨by rfl, Or.inl ?hy91⟩) ?r_91
  case hy91=>(intro w' kk ss; obtain⟨x0,x1,x2',x3⟩:=bx4 (BC.out.since (L3.out.trans (hr0.trans kk))); obtain⟨y0,y1⟩:=CC.out _ (hr0.trans kk); go_simp; first | done | with_reducible rfl)
  try simp only[Act.put,Reg.l1,Reg.l2,Reg.l3]
  refine' Reg.tk (i := 4) (oi := { dst := some 144, op := Op.move (Operand.tmp 143), type := 4, pos := "ref.go:155", after := #[{ on := 3, ground := Ground.data }], guard := none }) (v := _) [5, 6, 7, 8, 9, 10, 11, 12, 13, 14, 15, 16, 17, 18, 19, 20, 21, 22, 23, 24, 25, 26, 27] [] (Or.inl ⟨by rfl, Or.inl ?hy92⟩) ?r_92
  case hy92=>(intro w' kk ss; obtain⟨x0,x1,x2',x3⟩:=bx4 (BC.out.since (L3.out.trans (hr0.trans kk))); obtain⟨y0,y1⟩:=CC.out _ (hr0.trans kk); go_simp; first | done | with_reducible rfl)
  try simp only[Act.put,Reg.l1,Reg.l2,Reg.l3]
  refine' Reg.tk (i := 5) (oi := { dst := some 145, op := Op.move (Operand.tmp 5), type := 23, pos := "ref.go:155", after := #[{ on := 4, ground := Ground.guard }], guard := some (4, true) }) (v := _) [6, 7, 11, 12, 13, 14, 15, 16, 17, 18, 19, 20, 21, 22, 23, 24, 25, 26, 27] [] (Or.inl ⟨by rfl, Or.inl ?hy93⟩) ?r_93
  case hy93=>(intro w' kk ss; obtain⟨x0,x1,x2',x3⟩:=bx4 (BC.out.since (L3.out.trans (hr0.trans kk))); obtain⟨y0,y1⟩:=CC.out _ (hr0.trans kk); go_simp; first | done | with_reducible rfl)
  try simp only[Act.put,Reg.l1,Reg.l2,Reg.l3]
  refine' Reg.tk (i := 6) (oi := { dst := some 146, op := Op.indexAddr 23 (Operand.tmp 145) (Operand.const (Value.int IntKind.i64 0)), type := 0, pos := "ref.go:155", after := #[{ on := 5, ground := Ground.data }, { on := 4, ground := Ground.guard }], guard := some (4, true) }) (v := _) [7, 11, 12, 13, 14, 15, 16, 17, 18, 19, 20, 21, 22, 23, 24, 25, 26, 27] [] (Or.inl ⟨by rfl, Or.inl ?hy94⟩) ?r_94
  case hy94=>(intro w' kk ss; obtain⟨x0,x1,x2',x3⟩:=bx4 (BC.out.since (L3.out.trans (hr0.trans kk))); obtain⟨y0,y1⟩:=CC.out _ (hr0.trans kk); go_simp; first | done | with_reducible rfl)
  try simp only[Act.put,Reg.l1,Reg.l2,Reg.l3]
  refine' Reg.tk (i := 7) (oi := { dst := some 147, op := Op.load 2 (Operand.tmp 146), type := 2, pos := "ref.go:155", after := #[{ on := 6, ground := Ground.data }, { on := 4, ground := Ground.guard }], guard := some (4, true) }) (v := _) [11, 12, 13, 14, 15, 16, 17, 18, 19, 20, 21, 22, 23, 24, 25, 26, 27] [] (Or.inl ⟨by rfl, Or.inl ?hy95⟩) ?r_95
  case hy95=>(intro w' kk ss; obtain⟨x0,x1,x2',x3⟩:=bx4 (BC.out.since (L3.out.trans (hr0.trans kk))); obtain⟨y0,y1⟩:=CC.out _ (hr0.trans kk); go_simp; first | done | with_reducible rfl)
  try simp only[Act.put,Reg.l1,Reg.l2,Reg.l3]
  refine' Reg.tk (i := 8) (oi := { dst := some 148, op := Op.fieldAddr 25 (Operand.tmp 2) 2, type := 0, pos := "ref.go:155", after := #[{ on := 4, ground := Ground.guard }], guard := some (4, true) }) (v := _) [9, 10, 11, 12, 13, 14, 15, 16, 17, 18, 19, 20, 21, 22, 23, 24, 25, 26, 27] [] (Or.inl ⟨by rfl, Or.inl ?hy96⟩) ?r_96
  case hy96=>(intro w' kk ss; obtain⟨x0,x1,x2',x3⟩:=bx4 (BC.out.since (L3.out.trans (hr0.trans kk))); obtain⟨y0,y1⟩:=CC.out _ (hr0.trans kk); go_simp; first | done | with_reducible rfl)
  try simp only[Act.put,Reg.l1,Reg.l2,Reg.l3]
  refine' Reg.tk (i := 9) (oi := { dst := some 149, op := Op.load 23 (Operand.tmp 148), type := 23, pos := "ref.go:155", after := #[{ on := 8, ground := Ground.data }, { on := 4, ground := Ground.guard }], guard := some (4, true) }) (v := _) [10, 11, 12, 13, 14, 15, 16, 17, 18, 19, 20, 21, 22, 23, 24, 25, 26, 27] [] (Or.inl ⟨by rfl, Or.inl ?hy97⟩) ?r_97
  case hy97=>(intro w' kk ss; obtain⟨x0,x1,x2',x3⟩:=bx4 (BC.out.since (L3.out.trans (hr0.trans kk))); obtain⟨y0,y1⟩:=CC.out _ (hr0.trans kk); go_simp; first | done | with_reducible rfl)
  try simp only[Act.put,Reg.l1,Reg.l2,Reg.l3]
  refine' Reg.tk (i := 10) (oi := { dst := some 150, op := Op.call { callee := Callee.builtin Builtin.len, args := #[Operand.tmp 149], argTypes := #[23] }, type := 3, pos := "ref.go:155", after := #[{ on := 9, ground := Ground.data }, { on := 4, ground := Ground.guard }], guard := some (4, true) }) (v := _) [11, 12, 13, 14, 15, 16, 17, 18, 19, 20, 21, 22, 23, 24, 25, 26, 27] [] (Or.inl ⟨by rfl, Or.inl ?hy98⟩) ?r_98
  case hy98=>(intro w' kk ss; obtain⟨x0,x1,x2',x3⟩:=bx4 (BC.out.since (L3.out.trans (hr0.trans kk))); obtain⟨y0,y1⟩:=CC.out _ (hr0.trans kk); go_simp; first | done | with_reducible rfl)
  try simp only[Act.put,Reg.l1,Reg.l2,Reg.l3]
  refine' Reg.tk (i := 11) (oi := { dst := some 151, op := Op.binOp BinOp.leq 2 (Operand.tmp 147) (Operand.tmp 150) 2, type := 4, pos := "ref.go:155", after := #[{ on := 7, ground := Ground.data }, { on := 10, ground := Ground.data }, { on := 4, ground := Ground.guard }], guard := some (4, true) }) (v := _) [12, 13, 14, 15, 16, 17, 18, 19, 20, 21, 22, 23, 24, 25, 26, 27] [] (Or.inl ⟨by rfl, Or.inl ?hy99⟩) ?r_99
  case hy99=>(intro w' kk ss; obtain⟨x0,x1,x2',x3⟩:=bx4 (BC.out.since (L3.out.trans (hr0.trans kk))); obtain⟨y0,y1⟩:=CC.out _ (hr0.trans kk); go_simp; first | done | with_reducible rfl)
  try simp only[Act.put,Reg.l1,Reg.l2,Reg.l3]
  refine' Reg.tk (i := 12) (oi := { dst := some 152, op := Op.pick (Operand.tmp 144) (Operand.tmp 151) (Operand.const (Value.bool false)), type := 4, pos := "ref.go:155", after := #[{ on := 4, ground := Ground.data }, { on := 11, ground := Ground.data }], guard := none }) (v := _) [13, 14, 15, 16, 17, 18, 19, 20, 21, 22, 23, 24, 25, 26, 27] [] (Or.inl ⟨by rfl, Or.inl ?hy100⟩) ?r_100
  case hy100=>(intro w' kk ss; obtain⟨x0,x1,x2',x3⟩:=bx4 (BC.out.since (L3.out.trans (hr0.trans kk))); obtain⟨y0,y1⟩:=CC.out _ (hr0.trans kk); go_simp; first | done | with_reducible rfl)
  try simp only[Act.put,Reg.l1,Reg.l2,Reg.l3]
  refine' Reg.tk (i := 13) (oi := { dst := some 153, op := Op.move (Operand.tmp 152), type := 4, pos := "ref.go:155", after := #[{ on := 12, ground := Ground.data }, { on := 4, ground := Ground.chain }], guard := none }) (v := _) [14, 15, 16, 17, 18, 19, 20, 21, 22, 23, 24, 25, 26, 27] [] (Or.inl ⟨by rfl, Or.inl ?hy101⟩) ?r_101
  case hy101=>(intro w' kk ss; obtain⟨x0,x1,x2',x3⟩:=bx4 (BC.out.since (L3.out.trans (hr0.trans kk))); obtain⟨y0,y1⟩:=CC.out _ (hr0.trans kk); go_simp; first | done | with_reducible rfl)
  try simp only[Act.put,Reg.l1,Reg.l2,Reg.l3]
  refine Reg.tk (i := 14) (oi := { dst := some 154, op := Op.fieldAddr 25 (Operand.tmp 2) 2, type := 0, pos := "ref.go:155", after := #[{ on := 13, ground := Ground.guard }], guard := some (13, true) }) (v := undef) [15, 20, 21, 25, 26, 27] [] (Or.inr ⟨by rfl, rfl⟩) ?_
  try simp only[Act.put,Reg.l1,Reg.l2,Reg.l3]
  refine Reg.tk (i := 15) (oi := { dst := some 155, op := Op.load 23 (Operand.tmp 154), type := 23, pos := "ref.go:155", after := #[{ on := 14, ground := Ground.data }, { on := 13, ground := Ground.guard }], guard := some (13, true) }) (v := undef) [20, 21, 25, 26, 27] [] (Or.inr ⟨by rfl, rfl⟩) ?_
  try simp only[Act.put,Reg.l1,Reg.l2,Reg.l3]
  refine Reg.tk (i := 16) (oi := { dst := some 156, op := Op.move (Operand.tmp 5), type := 23, pos := "ref.go:155", after := #[{ on := 13, ground := Ground.guard }], guard := some (13, true) }) (v := undef) [17, 18, 19, 20, 21, 25, 26, 27] [] (Or.inr ⟨by rfl, rfl⟩) ?_
  try simp only[Act.put,Reg.l1,Reg.l2,Reg.l3]
  refine Reg.tk (i := 17) (oi := { dst := some 157, op := Op.indexAddr 23 (Operand.tmp 156) (Operand.const (Value.int IntKind.i64 0)), type := 0, pos := "ref.go:155", after := #[{ on := 16, ground := Ground.data }, { on := 13, ground := Ground.guard }], guard := some (13, true) }) (v := undef) [18, 19, 20, 21, 25, 26, 27] [] (Or.inr ⟨by rfl, rfl⟩) ?_
  try simp only[Act.put,Reg.l1,Reg.l2,Reg.l3]
  refine Reg.tk (i := 18) (oi := { dst := some 158, op := Op.load 2 (Operand.tmp 157), type := 2, pos := "ref.go:155", after := #[{ on := 17, ground := Ground.data }, { on := 13, ground := Ground.guard }], guard := some (13, true) }) (v := undef) [19, 20, 21, 25, 26, 27] [] (Or.inr ⟨by rfl, rfl⟩) ?_
  try simp only[Act.put,Reg.l1,Reg.l2,Reg.l3]
  refine Reg.tk (i := 19) (oi := { dst := some 159, op := Op.binOp BinOp.sub 2 (Operand.tmp 158) (Operand.const (Value.int IntKind.i64 1)) 2, type := 2, pos := "ref.go:155", after := #[{ on := 18, ground := Ground.data }, { on := 13, ground := Ground.guard }], guard := some (13, true) }) (v := undef) [20, 21, 25, 26, 27] [] (Or.inr ⟨by rfl, rfl⟩) ?_
  try simp only[Act.put,Reg.l1,Reg.l2,Reg.l3]
  refine Reg.tk (i := 20) (oi := { dst := some 160, op := Op.indexAddr 23 (Operand.tmp 155) (Operand.tmp 159), type := 0, pos := "ref.go:155", after := #[{ on := 15, ground := Ground.data }, { on := 19, ground := Ground.data }, { on := 13, ground := Ground.guard }], guard := some (13, true) }) (v := undef) [21, 25, 26, 27] [] (Or.inr ⟨by rfl, rfl⟩) ?_
  try simp only[Act.put,Reg.l1,Reg.l2,Reg.l3]
  refine Reg.tk (i := 21) (oi := { dst := some 161, op := Op.load 2 (Operand.tmp 160), type := 2, pos := "ref.go:155", after := #[{ on := 20, ground := Ground.data }, { on := 13, ground := Ground.guard }], guard := some (13, true) }) (v := undef) [25, 26, 27] [] (Or.inr ⟨by rfl, rfl⟩) ?_
  try simp only[Act.put,Reg.l1,Reg.l2,Reg.l3]
  refine Reg.tk (i := 22) (oi := { dst := some 162, op := Op.move (Operand.tmp 5), type := 23, pos := "ref.go:155", after := #[{ on := 13, ground := Ground.guard }], guard := some (13, true) }) (v := undef) [23, 24, 25, 26, 27] [] (Or.inr ⟨by rfl, rfl⟩) ?_
  try simp only[Act.put,Reg.l1,Reg.l2,Reg.l3]
  refine Reg.tk (i := 23) (oi := { dst := some 163, op := Op.indexAddr 23 (Operand.tmp 162) (Operand.const (Value.int IntKind.i64 1)), type := 0, pos := "ref.go:155", after := #[{ on := 22, ground := Ground.data }, { on := 13, ground := Ground.guard }], guard := some (13, true) }) (v := undef) [24, 25, 26, 27] [] (Or.inr ⟨by rfl, rfl⟩) ?_
  try simp only[Act.put,Reg.l1,Reg.l2,Reg.l3]
  refine Reg.tk (i := 24) (oi := { dst := some 164, op := Op.load 2 (Operand.tmp 163), type := 2, pos := "ref.go:155", after := #[{ on := 23, ground := Ground.data }, { on := 13, ground := Ground.guard }], guard := some (13, true) }) (v := undef) [25, 26, 27] [] (Or.inr ⟨by rfl, rfl⟩) ?_
  try simp only[Act.put,Reg.l1,Reg.l2,Reg.l3]
  refine Reg.tk (i := 25) (oi := { dst := some 165, op := Op.binOp BinOp.eql 2 (Operand.tmp 161) (Operand.tmp 164) 2, type := 4, pos := "ref.go:155", after := #[{ on := 21, ground := Ground.data }, { on := 24, ground := Ground.data }, { on := 13, ground := Ground.guard }], guard := some (13, true) }) (v := undef) [26, 27] [] (Or.inr ⟨by rfl, rfl⟩) ?_
  try simp only[Act.put,Reg.l1,Reg.l2,Reg.l3]
  refine' Reg.tk (i := 26) (oi := { dst := some 166, op := Op.pick (Operand.tmp 153) (Operand.tmp 165) (Operand.const (Value.bool false)), type := 4, pos := "ref.go:155", after := #[{ on := 13, ground := Ground.data }, { on := 25, ground := Ground.data }], guard := none }) (v := _) [27] [] (Or.inl ⟨by rfl, Or.inl ?hy102⟩) ?r_102
  case hy102=>(intro w' kk ss; obtain⟨x0,x1,x2',x3⟩:=bx4 (BC.out.since (L3.out.trans (hr0.trans kk))); obtain⟨y0,y1⟩:=CC.out _ (hr0.trans kk); go_simp; first | done | with_reducible rfl)
  try simp only[Act.put,Reg.l1,Reg.l2,Reg.l3]
  refine' Reg.tk (i := 27) (oi := { dst := some 4, op := Op.assign (Operand.tmp 166), type := 4, pos := "ref.go:155", after := #[{ on := 26, ground := Ground.data }, { on := 13, ground := Ground.chain }, { on := 0, ground := Ground.phase }, { on := 1, ground := Ground.phase }, { on := 2, ground := Ground.phase }, { on := 3, ground := Ground.phase }, { on := 4, ground := Ground.phase }, { on := 5, ground := Ground.phase }, { on := 6, ground := Ground.phase }, { on := 7, ground := Ground.phase }, { on := 8, ground := Ground.phase }, { on := 9, ground := Ground.phase }, { on := 10, ground := Ground.phase }, { on := 11, ground := Ground.phase }, { on := 12, ground := Ground.phase }, { on := 13, ground := Ground.phase }, { on := 14, ground := Ground.phase }, { on := 15, ground := Ground.phase }, { on := 16, ground := Ground.phase }, { on := 17, ground := Ground.phase }, { on := 18, ground := Ground.phase }, { on := 19, ground := Ground.phase }, { on := 20, ground := Ground.phase }, { on := 21, ground := Ground.phase }, { on := 22, ground := Ground.phase }, { on := 23, ground := Ground.phase }, { on := 24, ground := Ground.phase }, { on := 25, ground := Ground.phase }, { on := 26, ground := Ground.phase }], guard := none }) (v := _) [] [] (Or.inl ⟨by rfl, Or.inl ?hy103⟩) ?r_103
  case hy103=>(intro w' kk ss; obtain⟨x0,x1,x2',x3⟩:=bx4 (BC.out.since (L3.out.trans (hr0.trans kk))); obtain⟨y0,y1⟩:=CC.out _ (hr0.trans kk); go_simp; first | done | with_reducible rfl)
  try simp only[Act.put,Reg.l1,Reg.l2,Reg.l3]
  refine Reg.wpG_done (by kernel_rfl) (fun we ke se => ?_) _
  refine NoPanic.normal ?_
  have hr0:=hr0.trans ke
  clear ke
  go_wp2
  all_goals
   go_ret
   exact RetT.of E.out (K3.out.trans hr0)
 obtain⟨i,rfl⟩:∃ i:Nat,p=(i:Int)+1:=⟨(p - 1).toNat,by omega⟩
 have hin:i<na:=by omega
 have hil:i<ca.length:=by rw[hna]; exact hin
 have E:=Lib.hid (show (ca[i] == q)=R by rw[← HV.out,decide_eq_true c1,decide_eq_true c2,show ((i:Int)+1 - 1).toNat=i by omega]; simp[List.getD,hil])
 obtain⟨gy,oy,rfl,ey⟩:=elI HY.out hil
 generalize ca[i]=y at *
 have CY:=Lib.hid (fun W (k:Since w W)=>show W.cell? ⟨gy,oy+i,none⟩=some (.int .i64 y) from (k.cell _ (World.block_lt_of_cell? _ _ ey)).trans ey)
 have hwi:IntKind.i64.wrap (i:Int)=(i:Int):=wrap_id' (by omega) (by omega)
 have hwi2:IntKind.i64.wrap ((i:Int)+1 - 1)=(i:Int):=by rw[show (i:Int)+1 - 1=i by omega]; exact hwi
 have hd1:decide (1≤(i:Int)+1)=true:=decide_eq_true c1
 have hd2:decide ((i:Int)+1 ≥ 1)=true:=decide_eq_true c1
 have hd3:decide ((i:Int)+1≤(na:Int))=true:=decide_eq_true c2
 clear hil hna ey
 go_enter Try.func30,Try.ntmps30
 go_wp2_with (first | (go_at_call 62; (with_reducible refine (AK.out _ ka.out).mono ?_); rintro e w2 ⟨rfl,k2⟩; have K2:=Lib.hid (ka.out.trans k2); have L2:=Lib.hid k2; clear k2; obtain⟨b0,b1,b2,b3⟩:=bx4 (BC.out.since L2.out)) | (go_at_call 64; (with_reducible refine (VA.out _ K2.out).mono ?_); rintro e w3 ⟨B,bc,rfl,q1,k3⟩; have K3:=Lib.hid (K2.out.trans k3); have L3:=Lib.hid (L2.out.trans k3); have Q1:=Lib.hid q1.sl; clear q1 k3; obtain⟨b0,b1,b2,b3⟩:=bx4 (BC.out.since L3.out); obtain⟨gb,ob,hB,CC⟩:=cells2 Q1.out; subst hB; have CC:=Lib.hid CC; obtain⟨c0,c1⟩:=CC.out _ (Since.refl _)) | (go_at_call 61; (with_reducible refine (LN.out _).mono ?_); rintro e w4 ⟨rfl,rfl⟩))
 have hr0:Since w4 w4.drew:=Since.drew (Since.refl w4)
 refine wp_region_noPanic ?_
 refine Reg.wp_region_G (S:=fun _=>True) (fun j => [].contains j) (by kernel_rfl) trivial ?_
 refine' Reg.tk (i := 0) (oi := { dst := some 140, op := Op.move (Operand.tmp 5), type := 23, pos := "ref.go:155", after := #[], guard := none }) (v := _) [1, 2, 3, 4, 5, 6, 7, 8, 9, 10, 11, 12, 13, 14, 15, 16, 17, 18, 19, 20, 21, 22, 23, 24, 25, 26, 27] [] (Or.inl ⟨by rfl, Or.inl ?hy105⟩) ?r_105
 case hy105=>(intro w' kk ss; obtain⟨x0,x1,x2',x3⟩:=bx4 (BC.out.since (L3.out.trans (hr0.trans kk))); obtain⟨y0,y1⟩:=CC.out _ (hr0.trans kk); have z0:=CY.out _ (K3.out.trans (hr0.trans kk)); go_simp; first | done | with_reducible rfl)
 try simp only[Act.put,Reg.l1,Reg.l2,Reg.l3]
 refine' Reg.tk (i := 1) (oi := { dst := some 141, op := Op.indexAddr 23 (Operand.tmp 140) (Operand.const (Value.int IntKind.i64 0)), type := 0, pos := "ref.go:155", after := #[{ on := 0, ground := Ground.data }], guard := none }) (v := _) [2, 3, 4, 5, 6, 7, 8, 9, 10, 11, 12, 13, 14, 15, 16, 17, 18, 19, 20, 21, 22, 23, 24, 25, 26, 27] [] (Or.inl ⟨by rfl, Or.inl ?hy106⟩) ?r_106
 case hy106=>(intro w' kk ss; obtain⟨x0,x1,x2',x3⟩:=bx4 (BC.out.since (L3.out.trans (hr0.trans kk))); obtain⟨y0,y1⟩:=CC.out _ (hr0.trans kk); have z0:=CY.out _ (K3.out.trans (hr0.trans kk)); go_simp; first | done | with_reducible rfl)
 try simp only[Act.put,Reg.l1,Reg.l2,Reg.l3]
 refine' Reg.tk (i := 2) (oi := { dst := some 142, op := Op.load 2 (Operand.tmp 141), type := 2, pos := "ref.go:155", after := #[{ on := 1, ground := Ground.data }], guard := none }) (v := _) [3, 4, 5, 6, 7, 8, 9, 10, 11, 12, 13, 14, 15, 16, 17, 18, 19, 20, 21, 22, 23, 24, 25, 26, 27] [] (Or.inl ⟨by rfl, Or.inl ?hy107⟩) ?r_107
 case hy107=>(intro w' kk ss; obtain⟨x0,x1,x2',x3⟩:=bx4 (BC.out.since (L3.out.trans (hr0.trans kk))); obtain⟨y0,y1⟩:=CC.out _ (hr0.trans kk); have z0:=CY.out _ (K3.out.trans (hr0.trans kk)); go_simp; first | done | with_reducible rfl)
 try simp only[Act.put,Reg.l1,Reg.l2,Reg.l3]
 refine' Reg.tk (i := 3) (oi := { dst := some 143, op := Op.binOp BinOp.geq 2 (Operand.tmp 142) (Operand.const (Value.int IntKind.i64 1)) 2, type := 4, pos := "ref.go:155", after := #[{ on := 2, ground := Ground.data }], guard := none }) (v := _) [4, 5, 6, 7, 8, 9, 10, 11, 12, 13, 14, 15, 16, 17, 18, 19, 20, 21, 22, 23, 24, 25, 26, 27] [] (Or.inl ⟨by rfl, Or.inl ?hy108⟩) ?r_108
 case hy108=>(intro w' kk ss; obtain⟨x0,x1,x2',x3⟩:=bx4 (BC.out.since (L3.out.trans (hr0.trans kk))); obtain⟨y0,y1⟩:=CC.out _ (hr0.trans kk); have z0:=CY.out _ (K3.out.trans (hr0.trans kk)); go_simp; first | done | with_reducible rfl)
 try simp only[Act.put,Reg.l1,Reg.l2,Reg.l3]
 refine' Reg.tk (i := 4) (oi := { dst := some 144, op := Op.move (Operand.tmp 143), type := 4, pos := "ref.go:155", after := #[{ on := 3, ground := Ground.data }], guard := none }) (v := _) [5, 6, 7, 8, 9, 10, 11, 12, 13, 14, 15, 16, 17, 18, 19, 20, 21, 22, 23, 24, 25, 26, 27] [] (Or.inl ⟨by rfl, Or.inl ?hy109⟩) ?r_109
 case hy109=>(intro w' kk ss; obtain⟨x0,x1,x2',x3⟩:=bx4 (BC.out.since (L3.out.trans (hr0.trans kk))); obtain⟨y0,y1⟩:=CC.out _ (hr0.trans kk); have z0:=CY.out _ (K3.out.trans (hr0.trans kk)); go_simp; first | done | with_reducible rfl)
 try simp only[Act.put,Reg.l1,Reg.l2,Reg.l3]
 refine' Reg.tk (i := 5) (oi := { dst := some 145, op := Op.move (Operand.tmp 5), type := 23, pos := "ref.go:155", after := #[{ on := 4, ground := Ground.guard }], guard := some (4, true) }) (v := _) [6, 7, 11, 12, 13, 14, 15, 16, 17, 18, 19, 20, 21, 22, 23, 24, 25, 26, 27] [] (Or.inl ⟨by rfl, Or.inl ?hy110⟩) ?r_110
 case hy110=>(intro w' kk ss; obtain⟨x0,x1,x2',x3⟩:=bx4 (BC.out.since (L3.out.trans (hr0.trans kk))); obtain⟨y0,y1⟩:=CC.out _ (hr0.trans kk); have z0:=CY.out _ (K3.out.trans (hr0.trans kk)); go_simp; first | done | with_reducible rfl)
 try simp only[Act.put,Reg.l1,Reg.l2,Reg.l3]
 refine' Reg.tk (i := 6) (oi := { dst := some 146, op := Op.indexAddr 23 (Operand.tmp 145) (Operand.const (Value.int IntKind.i64 0)), type := 0, pos := "ref.go:155", after := #[{ on := 5, ground := Ground.data }, { on := 4, ground := Ground.guard }], guard := some (4, true) }) (v := _) [7, 11, 12, 13, 14, 15, 16, 17, 18, 19, 20, 21, 22, 23, 24, 25, 26, 27] [] (Or.inl ⟨by rfl, Or.inl ?hy111⟩) ?r_111
 case hy111=>(intro w' kk ss; obtain⟨x0,x1,x2',x3⟩:=bx4 (BC.out.since (L3.out.trans (hr0.trans kk))); obtain⟨y0,y1⟩:=CC.out _ (hr0.trans kk); have z0:=CY.out _ (K3.out.trans (hr0.trans kk)); go_simp; first | done | with_reducible rfl)
 try simp only[Act.put,Reg.l1,Reg.l2,Reg.l3]
 refine' Reg.tk (i := 7) (oi := { dst := some 147, op := Op.load 2 (Operand.tmp 146), type := 2, pos := "ref.go:155", after := #[{ on := 6, ground := Ground.data }, { on := 4, ground := Ground.guard }], guard := some (4, true) }) (v := _) [11, 12, 13, 14, 15, 16, 17, 18, 19, 20, 21, 22, 23, 24, 25, 26, 27] [] (Or.inl ⟨by rfl, Or.inl ?hy112⟩) ?r_112
 case hy112=>(intro w' kk ss; obtain⟨x0,x1,x2',x3⟩:=bx4 (BC.out.since (L3.out.trans (hr0.trans kk))); obtain⟨y0,y1⟩:=CC.out _ (hr0.trans kk); have z0:=CY.out _ (K3.out.trans (hr0.trans kk)); go_simp; first | done | with_reducible rfl)
 try simp only[Act.put,Reg.l1,Reg.l2,Reg.l3]
 refine' Reg.tk (i := 8) (oi := { dst := some 148, op := Op.fieldAddr 25 (Operand.tmp 2) 2, type := 0, pos := "ref.go:155", after := #[{ on := 4, ground := Ground.guard }], guard := some (4, true) }) (v := _) [9, 10, 11, 12, 13, 14, 15, 16, 17, 18, 19, 20, 21, 22, 23, 24, 25, 26, 27] [] (Or.inl ⟨by rfl, Or.inl ?hy113⟩) ?r_113
 case hy113=>(intro w' kk ss; obtain⟨x0,x1,x2',x3⟩:=bx4 (BC.out.since (L3.out.trans (hr0.trans kk))); obtain⟨y0,y1⟩:=CC.out _ (hr0.trans kk); have z0:=CY.out _ (K3.out.trans (hr0.trans kk)); go_simp; first | done | with_reducible rfl)
 try simp only[Act.put,Reg.l1,Reg.l2,Reg.l3]
 refine' Reg.tk (i := 9) (oi := { dst := some 149, op := Op.load 23 (Operand.tmp 148), type := 23, pos := "ref.go:155", after := #[{ on := 8, ground := Ground.data }, { on := 4, ground := Ground.guard }], guard := some (4, true) }) (v := _) [10, 11, 12, 13, 14, 15, 16, 17, 18, 19, 20, 21, 22, 23, 24, 25, 26, 27] [] (Or.inl ⟨by rfl, Or.inl ?hy114⟩) ?r_114
 case hy114=>(intro w' kk ss; obtain⟨x0,x1,x2',x3⟩:=bx4 (BC.out.since (L3.out.trans (hr0.trans kk))); obtain⟨y0,y1⟩:=CC.out _ (hr0.trans kk); have z0:=CY.out _ (K3.out.trans (hr0.trans kk)); go_simp; first | done | with_reducible rfl)
 try simp only[Act.put,Reg.l1,Reg.l2,Reg.l3]
 refine' Reg.tk (i := 10) (oi := { dst := some 150, op := Op.call { callee := Callee.builtin Builtin.len, args := #[Operand.tmp 149], argTypes := #[23] }, type := 3, pos := "ref.go:155", after := #[{ on := 9, ground := Ground.data }, { on := 4, ground := Ground.guard }], guard := some (4, true) }) (v := _) [11, 12, 13, 14, 15, 16, 17, 18, 19, 20, 21, 22, 23, 24, 25, 26, 27] [] (Or.inl ⟨by rfl, Or.inl ?hy115⟩) ?r_115
 case hy115=>(intro w' kk ss; obtain⟨x0,x1,x2',x3⟩:=bx4 (BC.out.since (L3.out.trans (hr0.trans kk))); obtain⟨y0,y1⟩:=CC.out _ (hr0.trans kk); have z0:=CY.out _ (K3.out.trans (hr0.trans kk)); go_simp; first | done | with_reducible rfl)
 try simp only[Act.put,Reg.l1,Reg.l2,Reg.l3]
 refine' Reg.tk (i := 11) (oi := { dst := some 151, op := Op.binOp BinOp.leq 2 (Operand.tmp 147) (Operand.tmp 150) 2, type := 4, pos := "ref.go:155", after := #[{ on := 7, ground := Ground.data }, { on := 10, ground := Ground.data }, { on := 4, ground := Ground.guard }], guard := some (4, true) }) (v := _) [12, 13, 14, 15, 16, 17, 18, 19, 20, 21, 22, 23, 24, 25, 26, 27] [] (Or.inl ⟨by rfl, Or.inl ?hy116⟩) ?r_116
 case hy116=>(intro w' kk ss; obtain⟨x0,x1,x2',x3⟩:=bx4 (BC.out.since (L3.out.trans (hr0.trans kk))); obtain⟨y0,y1⟩:=CC.out _ (hr0.trans kk); have z0:=CY.out _ (K3.out.trans (hr0.trans kk)); go_simp; first | done | with_reducible rfl)
 try simp only[Act.put,Reg.l1,Reg.l2,Reg.l3]
 refine' Reg.tk (i := 12) (oi := { dst := some 152, op := Op.pick (Operand.tmp 144) (Operand.tmp 151) (Operand.const (Value.bool false)), type := 4, pos := "ref.go:155", after := #[{ on := 4, ground := Ground.data }, { on := 11, ground := Ground.data }], guard := none }) (v := _) [13, 14, 15, 16, 17, 18, 19, 20, 21, 22, 23, 24, 25, 26, 27] [] (Or.inl ⟨by rfl, Or.inl ?hy117⟩) ?r_117
 case hy117=>(intro w' kk ss; obtain⟨x0,x1,x2',x3⟩:=bx4 (BC.out.since (L3.out.trans (hr0.trans kk))); obtain⟨y0,y1⟩:=CC.out _ (hr0.trans kk); have z0:=CY.out _ (K3.out.trans (hr0.trans kk)); go_simp; first | done | with_reducible rfl)
 try simp only[Act.put,Reg.l1,Reg.l2,Reg.l3]
 refine' Reg.tk (i := 13) (oi := { dst := some 153, op := Op.move (Operand.tmp 152), type := 4, pos := "ref.go:155", after := #[{ on := 12, ground := Ground.data }, { on := 4, ground := Ground.chain }], guard := none }) (v := _) [14, 15, 16, 17, 18, 19, 20, 21, 22, 23, 24, 25, 26, 27] [] (Or.inl ⟨by rfl, Or.inl ?hy118⟩) ?r_118
 case hy118=>(intro w' kk ss; obtain⟨x0,x1,x2',x3⟩:=bx4 (BC.out.since (L3.out.trans (hr0.trans kk))); obtain⟨y0,y1⟩:=CC.out _ (hr0.trans kk); have z0:=CY.out _ (K3.out.trans (hr0.trans kk)); go_simp; first | done | with_reducible rfl)
 try simp only[Act.put,Reg.l1,Reg.l2,Reg.l3]
 refine' Reg.tk (i := 14) (oi := { dst := some 154, op := Op.fieldAddr 25 (Operand.tmp 2) 2, type := 0, pos := "ref.go:155", after := #[{ on := 13, ground := Ground.guard }], guard := some (13, true) }) (v := _) [15, 20, 21, 25, 26, 27] [] (Or.inl ⟨by rfl, Or.inl ?hy119⟩) ?r_119
 case hy119=>(intro w' kk ss; obtain⟨x0,x1,x2',x3⟩:=bx4 (BC.out.since (L3.out.trans (hr0.trans kk))); obtain⟨y0,y1⟩:=CC.out _ (hr0.trans kk); have z0:=CY.out _ (K3.out.trans (hr0.trans kk)); go_simp; first | done | with_reducible rfl)
 try simp only[Act.put,Reg.l1,Reg.l2,Reg.l3]
 refine' Reg.tk (i := 15) (oi := { dst := some 155, op := Op.load 23 (Operand.tmp 154), type := 23, pos := "ref.go:155", after := #[{ on := 14, ground := Ground.data }, { on := 13, ground := Ground.guard }], guard := some (13, true) }) (v := _) [20, 21, 25, 26, 27] [] (Or.inl ⟨by rfl, Or.inl ?hy120⟩) ?r_120
 case hy120=>(intro w' kk ss; obtain⟨x0,x1,x2',x3⟩:=bx4 (BC.out.since (L3.out.trans (hr0.trans kk))); obtain⟨y0,y1⟩:=CC.out _ (hr0.trans kk); have z0:=CY.out _ (K3.out.trans (hr0.trans kk)); go_simp; first | done | with_reducible rfl)
 try simp only[Act.put,Reg.l1,Reg.l2,Reg.l3]
 refine' Reg.tk (i := 16) (oi := { dst := some 156, op := Op.move (Operand.tmp 5), type := 23, pos := "ref.go:155", after := #[{ on := 13, ground := Ground.guard }], guard := some (13, true) }) (v := _) [17, 18, 19, 20, 21, 25, 26, 27] [] (Or.inl ⟨by rfl, Or.inl ?hy121⟩) ?r_121
 case hy121=>(intro w' kk ss; obtain⟨x0,x1,x2',x3⟩:=bx4 (BC.out.since (L3.out.trans (hr0.trans kk))); obtain⟨y0,y1⟩:=CC.out _ (hr0.trans kk); have z0:=CY.out _ (K3.out.trans (hr0.trans kk)); go_simp; first | done | with_reducible rfl)
 try simp only[Act.put,Reg.l1,Reg.l2,Reg.l3]
 refine' Reg.tk (i := 17) (oi := { dst := some 157, op := Op.indexAddr 23 (Operand.tmp 156) (Operand.const (Value.int IntKind.i64 0)), type := 0, pos := "ref.go:155", after := #[{ on := 16, ground := Ground.data }, { on := 13, ground := Ground.guard }], guard := some (13, true) }) (v := _) [18, 19, 20, 21, 25, 26, 27] [] (Or.inl ⟨by rfl, Or.inl ?hy122⟩) ?r_122
 case hy122=>(intro w' kk ss; obtain⟨x0,x1,x2',x3⟩:=bx4 (BC.out.since (L3.out.trans (hr0.trans kk))); obtain⟨y0,y1⟩:=CC.out _ (hr0.trans kk); have z0:=CY.out _ (K3.out.trans (hr0.trans kk)); go_simp; first | done | with_reducible rfl)
 try simp only[Act.put,Reg.l1,Reg.l2,Reg.l3]
 refine' Reg.tk (i := 18) (oi := { dst := some 158, op := Op.load 2 (Operand.tmp 157), type := 2, pos := "ref.go:155", after := #[{ on := 17, ground := Ground.data }, { on := 13, ground := Ground.guard }], guard := some (13, true) }) (v := _) [19, 20, 21, 25, 26, 27] [] (Or.inl ⟨by rfl, Or.inl ?hy123⟩) ?r_123
 case hy123=>(intro w' kk ss; obtain⟨x0,x1,x2',x3⟩:=bx4 (BC.out.since (L3.out.trans (hr0.trans kk))); obtain⟨y0,y1⟩:=CC.out _ (hr0.trans kk); have z0:=CY.out _ (K3.out.trans (hr0.trans kk)); go_simp; first | done | with_reducible rfl)
 try simp only[Act.put,Reg.l1,Reg.l2,Reg.l3]
 refine' Reg.tk (i := 19) (oi := { dst := some 159, op := Op.binOp BinOp.sub 2 (Operand.tmp 158) (Operand.const (Value.int IntKind.i64 1)) 2, type := 2, pos := "ref.go:155", after := #[{ on := 18, ground := Ground.data }, { on := 13, ground := Ground.guard }], guard := some (13, true) }) (v := _) [20, 21, 25, 26, 27] [] (Or.inl ⟨by rfl, Or.inl ?hy124⟩) ?r_124
 case hy124=>(intro w' kk ss; obtain⟨x0,x1,x2',x3⟩:=bx4 (BC.out.since (L3.out.trans (hr0.trans kk))); obtain⟨y0,y1⟩:=CC.out _ (hr0.trans kk); have z0:=CY.out _ (K3.out.trans (hr0.trans kk)); go_simp; first | done | with_reducible rfl)
 try simp only[Act.put,Reg.l1,Reg.l2,Reg.l3]
 refine' Reg.tk (i := 20) (oi := { dst := some 160, op := Op.indexAddr 23 (Operand.tmp 155) (Operand.tmp 159), type := 0, pos := "ref.go:155", after := #[{ on := 15, ground := Ground.data }, { on := 19, ground := Ground.data }, { on := 13, ground := Ground.guard }], guard := some (13, true) }) (v := _) [21, 25, 26, 27] [] (Or.inl ⟨by rfl, Or.inl ?hy125⟩) ?r_125
 case hy125=>(intro w' kk ss; obtain⟨x0,x1,x2',x3⟩:=bx4 (BC.out.since (L3.out.trans (hr0.trans kk))); obtain⟨y0,y1⟩:=CC.out _ (hr0.trans kk); have z0:=CY.out _ (K3.out.trans (hr0.trans kk)); go_simp; first | done | with_reducible rfl)
 try simp only[Act.put,Reg.l1,Reg.l2,Reg.l3]
 refine' Reg.tk (i := 21) (oi := { dst := some 161, op := Op.load 2 (Operand.tmp 160), type := 2, pos := "ref.go:155", after := #[{ on := 20, ground := Ground.data }, { on := 13, ground := Ground.guard }], guard := some (13, true) }) (v := _) [25, 26, 27] [] (Or.inl ⟨by rfl, Or.inl ?hy126⟩) ?r_126
 case hy126=>(intro w' kk ss; obtain⟨x0,x1,x2',x3⟩:=bx4 (BC.out.since (L3.out.trans (hr0.trans kk))); obtain⟨y0,y1⟩:=CC.out _ (hr0.trans kk); have z0:=CY.out _ (K3.out.trans (hr0.trans kk)); go_simp; first | done | with_reducible rfl)
 try simp only[Act.put,Reg.l1,Reg.l2,Reg.l3]
 refine' Reg.tk (i := 22) (oi := { dst := some 162, op := Op.move (Operand.tmp 5), type := 23, pos := "ref.go:155", after := #[{ on := 13, ground := Ground.guard }], guard := some (13, true) }) (v := _) [23, 24, 25, 26, 27] [] (Or.inl ⟨by rfl, Or.inl ?hy127⟩) ?r_127
 case hy127=>(intro w' kk ss; obtain⟨x0,x1,x2',x3⟩:=bx4 (BC.out.since (L3.out.trans (hr0.trans kk))); obtain⟨y0,y1⟩:=CC.out _ (hr0.trans kk); have z0:=CY.out _ (K3.out.trans (hr0.trans kk)); go_simp; first | done | with_reducible rfl)
 try simp only[Act.put,Reg.l1,Reg.l2,Reg.l3]
 refine' Reg.tk (i := 23) (oi := { dst := some 163, op := Op.indexAddr 23 (Operand.tmp 162) (Operand.const (Value.int IntKind.i64 1)), type := 0, pos := "ref.go:155", after := #[{ on := 22, ground := Ground.data }, { on := 13, ground := Ground.guard }], guard := some (13, true) }) (v := _) [24, 25, 26, 27] [] (Or.inl ⟨by rfl, Or.inl ?hy128⟩) ?r_128
 case hy128=>(intro w' kk ss; obtain⟨x0,x1,x2',x3⟩:=bx4 (BC.out.since (L3.out.trans (hr0.trans kk))); obtain⟨y0,y1⟩:=CC.out _ (hr0.trans kk); have z0:=CY.out _ (K3.out.trans (hr0.trans kk)); go_simp; first | done | with_reducible rfl)
 try simp only[Act.put,Reg.l1,Reg.l2,Reg.l3]
 refine' Reg.tk (i := 24) (oi := { dst := some 164, op := Op.load 2 (Operand.tmp 163), type := 2, pos := "ref.go:155", after := #[{ on := 23, ground := Ground.data }, { on := 13, ground := Ground.guard }], guard := some (13, true) }) (v := _) [25, 26, 27] [] (Or.inl ⟨by rfl, Or.inl ?hy129⟩) ?r_129
 case hy129=>(intro w' kk ss; obtain⟨x0,x1,x2',x3⟩:=bx4 (BC.out.since (L3.out.trans (hr0.trans kk))); obtain⟨y0,y1⟩:=CC.out _ (hr0.trans kk); have z0:=CY.out _ (K3.out.trans (hr0.trans kk)); go_simp; first | done | with_reducible rfl)
 try simp only[Act.put,Reg.l1,Reg.l2,Reg.l3]
 refine' Reg.tk (i := 25) (oi := { dst := some 165, op := Op.binOp BinOp.eql 2 (Operand.tmp 161) (Operand.tmp 164) 2, type := 4, pos := "ref.go:155", after := #[{ on := 21, ground := Ground.data }, { on := 24, ground := Ground.data }, { on := 13, ground := Ground.guard }], guard := some (13, true) }) (v := _) [26, 27] [] (Or.inl ⟨by rfl, Or.inl ?hy130⟩) ?r_130
 case hy130=>(intro w' kk ss; obtain⟨x0,x1,x2',x3⟩:=bx4 (BC.out.since (L3.out.trans (hr0.trans kk))); obtain⟨y0,y1⟩:=CC.out _ (hr0.trans kk); have z0:=CY.out _ (K3.out.trans (hr0.trans kk)); go_simp; first | done | with_reducible rfl)
 try simp only[Act.put,Reg.l1,Reg.l2,Reg.l3]
 refine' Reg.tk (i := 26) (oi := { dst := some 166, op := Op.pick (Operand.tmp 153) (Operand.tmp 165) (Operand.const (Value.bool false)), type := 4, pos := "ref.go:155", after := #[{ on := 13, ground := Ground.data }, { on := 25, ground := Ground.data }], guard := none }) (v := _) [27] [] (Or.inl ⟨by rfl, Or.inl ?hy131⟩) ?r_131
 case hy131=>(intro w' kk ss; obtain⟨x0,x1,x2',x3⟩:=bx4 (BC.out.since (L3.out.trans (hr0.trans kk))); obtain⟨y0,y1⟩:=CC.out _ (hr0.trans kk); have z0:=CY.out _ (K3.out.trans (hr0.trans kk)); go_simp; first | done | with_reducible rfl)
 try simp only[Act.put,Reg.l1,Reg.l2,Reg.l3]
 refine' Reg.tk (i := 27) (oi := { dst := some 4, op := Op.assign (Operand.tmp 166), type := 4, pos := "ref.go:155", after := #[{ on := 26, ground := Ground.data }, { on := 13, ground := Ground.chain }, { on := 0, ground := Ground.phase }, { on := 1, ground := Ground.phase }, { on := 2, ground := Ground.phase }, { on := 3, ground := Ground.phase }, { on := 4, ground := Ground.phase }, { on := 5, ground := Ground.phase }, { on := 6, ground := Ground.phase }, { on := 7, ground := Ground.phase }, { on := 8, ground := Ground.phase }, { on := 9, ground := Ground.phase }, { on := 10, ground := Ground.phase }, { on := 11, ground := Ground.phase }, { on := 12, ground := Ground.phase }, { on := 13, ground := Ground.phase }, { on := 14, ground := Ground.phase }, { on := 15, ground := Ground.phase }, { on := 16, ground := Ground.phase }, { on := 17, ground := Ground.phase }, { on := 18, ground := Ground.phase }, { on := 19, ground := Ground.phase }, { on := 20, ground := Ground.phase }, { on := 21, ground := Ground.phase }, { on := 22, ground := Ground.phase }, { on := 23, ground := Ground.phase }, { on := 24, ground := Ground.phase }, { on := 25, ground := Ground.phase }, { on := 26, ground := Ground.phase }], guard := none }) (v := _) [] [] (Or.inl ⟨by rfl, Or.inl ?hy132⟩) ?r_132
 case hy132=>(intro w' kk ss; obtain⟨x0,x1,x2',x3⟩:=bx4 (BC.out.since (L3.out.trans (hr0.trans kk))); obtain⟨y0,y1⟩:=CC.out _ (hr0.trans kk); have z0:=CY.out _ (K3.out.trans (hr0.trans kk)); go_simp; first | done | with_reducible rfl)
 try simp only[Act.put,Reg.l1,Reg.l2,Reg.l3]
 refine Reg.wpG_done (by kernel_rfl) (fun we ke se => ?_) _
 refine NoPanic.normal ?_
 have hr0:=hr0.trans ke
 clear ke
 go_wp2
 all_goals
  go_ret
  exact RetT.of E.out (K3.out.trans hr0)
theorem rholds17 (v va:Value) (cx ca:List Int) (cc:Int) (a:List Int) (w:World) (h:ConAt w v ⟨17,cx,ca,cc⟩) (ha:Sl 1 QI w va a) (hx:cx.length≤1100000) (hca:ca.length≤1100000) (hla:a.length≤1100000) (hq:asked ⟨17,cx,ca,cc⟩ a=true) :
 Calls Try.prog 30 #[v,va] w (RetT (holdV 17 (vals cx a) ca cc) w):=by
 obtain⟨hin,hkv⟩:=asked_parts hq
 simp only at hin hkv
 have HV0:=hold_velem hkv
 obtain⟨p1,p2,p3,p4,p5,p6,p7,p8⟩:=askV_all hkv
 have hp1:3≤cx.length:=by have:=p2; simp[shp] at this; have h3:=this.1; rw[vals_len] at h3; exact h3
 obtain⟨j,hj⟩:∃ j,cx.length=j+1:=⟨cx.length - 1,by omega⟩
 have hnx:(vals cx a).length=cx.length:=vals_len cx a
 have AK:=Lib.hid (fun W (k:Since w W)=>by have:=rasked_any v va _ a W (h.since k) (ha.since stI k) hx hca hla; rw[hq] at this; exact this)
 have VA:=Lib.hid (fun W (k:Since w W)=>rvalues_at h ha (by simp only; omega) hin W k)
 have LN:=Lib.hid (fun W=>rlinear_any 17 W)
 obtain⟨vx,vy,rfl,h1,h2⟩:=h
 simp only at *
 obtain⟨X,xc,rfl⟩:=h1.form
 obtain⟨Y,yc,rfl⟩:=h2.form
 obtain⟨A,ac,rfl⟩:=ha.form
 generalize vals cx a=vl at *
 generalize cx.length=nx at *
 subst hj
 generalize ca.length=na at *
 generalize a.length=nl at *
 rw[hnx] at HV0
 have hv0:vl.getD 0 0=vl[0]'(by omega):=by simp[List.getD,show 0<vl.length by omega]
 obtain⟨p,hp⟩:∃ p,p=vl[0]'(by omega):=⟨_,rfl⟩
 rw[hv0,← hp] at HV0
 obtain⟨pl,ph⟩:=(within_iff2 p).1 (hp ▸ List.all_eq_true.1 p1 _ (List.getElem_mem _))
 have HV:=Lib.hid HV0
 generalize holdV 17 vl ca cc=R at *
 have HLV:=Lib.hid (fun (hh:j<vl.length)=>show vl[j]=lastV vl by simp[lastV,List.getD,hnx])
 have HNX:=Lib.hid hnx
 have HP:=Lib.hid (fun (hh:0<vl.length)=>show vl[0]=p from hp.symm)
 have ka:=Lib.hid (sA w (.cells #[.int .i64 17,.slice X (j+1) xc,.slice Y na yc,.int .i64 cc] 25))
 have BC:=Lib.hid (Bx.fresh w #[.int .i64 17,.slice X (j+1) xc,.slice Y na yc,.int .i64 cc] 25)
 have hwj:IntKind.i64.wrap (j:Int)=(j:Int):=wrap_id' (by omega) (by omega)
 clear h1 h2 ha hq hkv p1 p2 p3 p4 p5 p6 p7 p8 hin HV0 hv0 hp hnx
 by_cases c1:1≤p
 case neg =>
  have E:=Lib.hid (show false=R by rw[← HV.out,decide_eq_false c1]; rfl)
  have c2:¬ p ≥ 1:=c1
  go_enter Try.func30,Try.ntmps30
  go_wp2_with (first | (go_at_call 62; (with_reducible refine (AK.out _ ka.out).mono ?_); rintro e w2 ⟨rfl,k2⟩; have K2:=Lib.hid (ka.out.trans k2); have L2:=Lib.hid k2; clear k2; obtain⟨b0,b1,b2,b3⟩:=bx4 (BC.out.since L2.out)) | (go_at_call 64; (with_reducible refine (VA.out _ K2.out).mono ?_); rintro e w3 ⟨B,bc,rfl,q1,k3⟩; have K3:=Lib.hid (K2.out.trans k3); have L3:=Lib.hid (L2.out.trans k3); have Q1:=Lib.hid q1.sl; clear q1 k3; obtain⟨b0,b1,b2,b3⟩:=bx4 (BC.out.since L3.out); obtain⟨gb,ob,hB,cl⟩:=elI Q1.out (i:=j) (by have:=HNX.out; omega); subst hB; rw[HLV.out] at cl; obtain⟨gb2,ob2,hB2,c00⟩:=elI Q1.out (i:=0) (by have:=HNX.out; omega); cases hB2; rw[HP.out] at c00; simp only[Nat.add_zero] at c00) | (go_at_call 61; (with_reducible refine (LN.out _).mono ?_); rintro e w4 ⟨rfl,rfl⟩))
  go_ret
  exact RetT.of E.out K3.out
 by_cases c2:p<(j:Int)
 case neg =>
  have E:=Lib.hid (show false=R by rw[← HV.out,decide_eq_false (show ¬ p<((j+1:Nat):Int) - 1 by omega),Bool.and_false]; rfl)
  have c3:p ≥ 1:=c1
  go_enter Try.func30,Try.ntmps30
  go_wp2_with (first | (go_at_call 62; (with_reducible refine (AK.out _ ka.out).mono ?_); rintro e w2 ⟨rfl,k2⟩; have K2:=Lib.hid (ka.out.trans k2); have L2:=Lib.hid k2; clear k2; obtain⟨b0,b1,b2,b3⟩:=bx4 (BC.out.since L2.out)) | (go_at_call 64; (with_reducible refine (VA.out _ K2.out).mono ?_); rintro e w3 ⟨B,bc,rfl,q1,k3⟩; have K3:=Lib.hid (K2.out.trans k3); have L3:=Lib.hid (L2.out.trans k3); have Q1:=Lib.hid q1.sl; clear q1 k3; obtain⟨b0,b1,b2,b3⟩:=bx4 (BC.out.since L3.out); obtain⟨gb,ob,hB,cl⟩:=elI Q1.out (i:=j) (by have:=HNX.out; omega); subst hB; rw[HLV.out] at cl; obtain⟨gb2,ob2,hB2,c00⟩:=elI Q1.out (i:=0) (by have:=HNX.out; omega); cases hB2; rw[HP.out] at c00; simp only[Nat.add_zero] at c00) | (go_at_call 61; (with_reducible refine (LN.out _).mono ?_); rintro e w4 ⟨rfl,rfl⟩))
  go_ret
  exact RetT.of E.out K3.out
 obtain⟨i,rfl⟩:∃ i:Nat,p=(i:Int):=⟨p.toNat,by omega⟩
 have hij:i<j:=by omega
 have hil:i<vl.length:=by have:=HNX.out; omega
 have E:=Lib.hid (show (vl[i] == lastV vl)=R by rw[← HV.out,decide_eq_true c1,decide_eq_true (show (i:Int)<((j+1:Nat):Int) - 1 by omega),Int.toNat_natCast]; simp[List.getD,hil])
 have c3:(i:Int) ≥ 1:=c1
 have hij1:i<j+1:=by omega
 have hij2:(i:Int)<(j:Int):=c2
 go_enter Try.func30,Try.ntmps30
 go_wp2_with (first | (go_at_call 62; (with_reducible refine (AK.out _ ka.out).mono ?_); rintro e w2 ⟨rfl,k2⟩; have K2:=Lib.hid (ka.out.trans k2); have L2:=Lib.hid k2; clear k2; obtain⟨b0,b1,b2,b3⟩:=bx4 (BC.out.since L2.out)) | (go_at_call 64; (with_reducible refine (VA.out _ K2.out).mono ?_); rintro e w3 ⟨B,bc,rfl,q1,k3⟩; have K3:=Lib.hid (K2.out.trans k3); have L3:=Lib.hid (L2.out.trans k3); have Q1:=Lib.hid q1.sl; clear q1 k3; obtain⟨b0,b1,b2,b3⟩:=bx4 (BC.out.since L3.out); obtain⟨gb,ob,hB,cl⟩:=elI Q1.out (i:=j) (by have:=HNX.out; omega); subst hB; rw[HLV.out] at cl; obtain⟨gb2,ob2,hB2,c00⟩:=elI Q1.out (i:=0) (by have:=HNX.out; omega); cases hB2; rw[HP.out] at c00; simp only[Nat.add_zero] at c00; obtain⟨gb3,ob3,hB3,ci⟩:=elI Q1.out (i:=i) (by have:=HNX.out; omega); cases hB3) | (go_at_call 61; (with_reducible refine (LN.out _).mono ?_); rintro e w4 ⟨rfl,rfl⟩))
 go_ret
 exact RetT.of E.out K3.out
end Go.Proofs.Ytakfabaocgbbmaa.Sn
