/- Layer 11 (sense): the document's own Holds. -/
import Derived.Test.YtakfabaocgbbmaaKv
set_option maxHeartbeats 3000000
set_option maxRecDepth 20000
namespace Go.Proofs.Ytakfabaocgbbmaa.Sn
open Go.RowKit
set_option linter.unusedVariables false
set_option linter.unusedSimpArgs false
open Dig Lx Tk Ti Zs Tr
theorem rholds12 (v va:Value) (cx ca:List Int) (cc:Int) (a:List Int) (w:World) (h:ConAt w v ⟨12,cx,ca,cc⟩) (ha:Sl 1 QI w va a) (hx:cx.length≤1100000) (hca:ca.length≤1100000) (hla:a.length≤1100000) (hq:asked ⟨12,cx,ca,cc⟩ a=true) :
 Calls Try.prog 30 #[v,va] w (RetT (holdV 12 (vals cx a) ca cc) w):=by
 obtain⟨hin,hkv⟩:=asked_parts hq
 simp only at hin hkv
 obtain⟨p1,p2,p3,p4,p5,p6,p7,p8⟩:=askV_all hkv
 have hnx:(vals cx a).length=cx.length:=vals_len cx a
 have AK:=Lib.hid (fun W (k:Since w W)=>by have:=rasked_any v va _ a W (h.since k) (ha.since stI k) hx hca hla; rw[hq] at this; exact this)
 have VA:=Lib.hid (fun W (k:Since w W)=>rvalues_at h ha (by simp only; omega) hin W k)
 have LN:=Lib.hid (fun W=>rlinear_any 12 W)
 have hp1:1≤cx.length:=by have:=p2; simp[shp] at this; omega
 obtain⟨j,hj⟩:∃ j,cx.length=j+1:=⟨cx.length - 1,by omega⟩
 have FN:=Lib.hid (fun B bc W (hl1:Sl 1 QI W (.slice B (j+1) bc) (vals cx a))=>show Calls Try.prog 68 #[.slice B j bc,.int .i64 1] W (fun e w'=>e = .returned (.int .i64 ((other (vals cx a)).count 1:Int))∧Since W w'∧True) from rcount_any _ _ 1 W (by have:=slTakeI hl1 j (by omega); rw[show other (vals cx a)=(vals cx a).take j by rw[other,vals_len,hj]; rfl]; exact this) (by simp[other]; omega))
 have HOL:=Lib.hid (show (other (vals cx a)).length=j by simp[other]; omega)
 obtain⟨vx,vy,rfl,h1,h2⟩:=h
 simp only at *
 obtain⟨X,xc,rfl⟩:=h1.form
 obtain⟨Y,yc,rfl⟩:=h2.form
 obtain⟨A,ac,rfl⟩:=ha.form
 generalize vals cx a=vl at *
 generalize cx.length=nx at *
 generalize ca.length=na at *
 generalize a.length=nl at *
 have ka:=Lib.hid (sA w (.cells #[.int .i64 12,.slice X nx xc,.slice Y na yc,.int .i64 cc] 25))
 have BC:=Lib.hid (Bx.fresh w #[.int .i64 12,.slice X nx xc,.slice Y na yc,.int .i64 cc] 25)
 subst hj
 have HV:=Lib.hid (hold_and hkv)
 have HLV:=Lib.hid (fun (hh:j<vl.length)=>show vl[j]=lastV vl by simp[lastV,List.getD,hnx])
 have HNX:=Lib.hid hnx
 clear h1 h2 ha hq hkv p1 p2 p3 p4 p5 p6 p7 p8 hin hnx hp1
 rw[HOL.out] at HV
 generalize (other vl).count 1=m at *
 generalize holdV 12 vl ca cc=R at *
 go_enter Try.func30,Try.ntmps30
 go_wp2_with (first | (go_at_call 62; (with_reducible refine (AK.out _ ka.out).mono ?_); rintro e w2 ⟨rfl,k2⟩; have K2:=Lib.hid (ka.out.trans k2); have L2:=Lib.hid k2; clear k2; obtain⟨b0,b1,b2,b3⟩:=bx4 (BC.out.since L2.out)) | (go_at_call 64; (with_reducible refine (VA.out _ K2.out).mono ?_); rintro e w3 ⟨B,bc,rfl,q1,k3⟩; have K3:=Lib.hid (K2.out.trans k3); have L3:=Lib.hid (L2.out.trans k3); have Q1:=Lib.hid q1.sl; clear q1 k3; obtain⟨b0,b1,b2,b3⟩:=bx4 (BC.out.since L3.out); have hcap:=Q1.out.at_.2; have hcap2:j≤bc:=(by have:=HNX.out; omega); obtain⟨gb,ob,hB,cl⟩:=elI Q1.out (i:=j) (by have:=HNX.out; omega); subst hB; rw[HLV.out] at cl) | (go_at_call 61; (with_reducible refine (LN.out _).mono ?_); rintro e w4 ⟨rfl,rfl⟩) | (go_at_call 68; (with_reducible refine (FN.out _ _ _ Q1.out).mono ?_); rintro e w5 ⟨rfl,k5,-⟩; have K5:=Lib.hid (K3.out.trans k5); clear k5))
 go_ret
 refine RetT.of ?_ K5.out
 rw[← HV.out]
 all_goals first | rfl | (congr 1; rw[Bool.eq_iff_iff]; simp only[beq_iff_eq,decide_eq_true_eq]; omega)
theorem rholds13 (v va:Value) (cx ca:List Int) (cc:Int) (a:List Int) (w:World) (h:ConAt w v ⟨13,cx,ca,cc⟩) (ha:Sl 1 QI w va a) (hx:cx.length≤1100000) (hca:ca.length≤1100000) (hla:a.length≤1100000) (hq:asked ⟨13,cx,ca,cc⟩ a=true) :
 Calls Try.prog 30 #[v,va] w (RetT (holdV 13 (vals cx a) ca cc) w):=by
 obtain⟨hin,hkv⟩:=asked_parts hq
 simp only at hin hkv
 obtain⟨p1,p2,p3,p4,p5,p6,p7,p8⟩:=askV_all hkv
 have hnx:(vals cx a).length=cx.length:=vals_len cx a
 have AK:=Lib.hid (fun W (k:Since w W)=>by have:=rasked_any v va _ a W (h.since k) (ha.since stI k) hx hca hla; rw[hq] at this; exact this)
 have VA:=Lib.hid (fun W (k:Since w W)=>rvalues_at h ha (by simp only; omega) hin W k)
 have LN:=Lib.hid (fun W=>rlinear_any 13 W)
 have hp1:1≤cx.length:=by have:=p2; simp[shp] at this; omega
 obtain⟨j,hj⟩:∃ j,cx.length=j+1:=⟨cx.length - 1,by omega⟩
 have FN:=Lib.hid (fun B bc W (hl1:Sl 1 QI W (.slice B (j+1) bc) (vals cx a))=>show Calls Try.prog 68 #[.slice B j bc,.int .i64 1] W (fun e w'=>e = .returned (.int .i64 ((other (vals cx a)).count 1:Int))∧Since W w'∧True) from rcount_any _ _ 1 W (by have:=slTakeI hl1 j (by omega); rw[show other (vals cx a)=(vals cx a).take j by rw[other,vals_len,hj]; rfl]; exact this) (by simp[other]; omega))
 have HOL:=Lib.hid (show (other (vals cx a)).length=j by simp[other]; omega)
 obtain⟨vx,vy,rfl,h1,h2⟩:=h
 simp only at *
 obtain⟨X,xc,rfl⟩:=h1.form
 obtain⟨Y,yc,rfl⟩:=h2.form
 obtain⟨A,ac,rfl⟩:=ha.form
 generalize vals cx a=vl at *
 generalize cx.length=nx at *
 generalize ca.length=na at *
 generalize a.length=nl at *
 have ka:=Lib.hid (sA w (.cells #[.int .i64 13,.slice X nx xc,.slice Y na yc,.int .i64 cc] 25))
 have BC:=Lib.hid (Bx.fresh w #[.int .i64 13,.slice X nx xc,.slice Y na yc,.int .i64 cc] 25)
 subst hj
 have HV:=Lib.hid ((hold_or:_=holdV 13 vl ca cc))
 have HLV:=Lib.hid (fun (hh:j<vl.length)=>show vl[j]=lastV vl by simp[lastV,List.getD,hnx])
 have HNX:=Lib.hid hnx
 clear h1 h2 ha hq hkv p1 p2 p3 p4 p5 p6 p7 p8 hin hnx hp1
 generalize (other vl).count 1=m at *
 generalize holdV 13 vl ca cc=R at *
 go_enter Try.func30,Try.ntmps30
 go_wp2_with (first | (go_at_call 62; (with_reducible refine (AK.out _ ka.out).mono ?_); rintro e w2 ⟨rfl,k2⟩; have K2:=Lib.hid (ka.out.trans k2); have L2:=Lib.hid k2; clear k2; obtain⟨b0,b1,b2,b3⟩:=bx4 (BC.out.since L2.out)) | (go_at_call 64; (with_reducible refine (VA.out _ K2.out).mono ?_); rintro e w3 ⟨B,bc,rfl,q1,k3⟩; have K3:=Lib.hid (K2.out.trans k3); have L3:=Lib.hid (L2.out.trans k3); have Q1:=Lib.hid q1.sl; clear q1 k3; obtain⟨b0,b1,b2,b3⟩:=bx4 (BC.out.since L3.out); have hcap:=Q1.out.at_.2; have hcap2:j≤bc:=(by have:=HNX.out; omega); obtain⟨gb,ob,hB,cl⟩:=elI Q1.out (i:=j) (by have:=HNX.out; omega); subst hB; rw[HLV.out] at cl) | (go_at_call 61; (with_reducible refine (LN.out _).mono ?_); rintro e w4 ⟨rfl,rfl⟩) | (go_at_call 68; (with_reducible refine (FN.out _ _ _ Q1.out).mono ?_); rintro e w5 ⟨rfl,k5,-⟩; have K5:=Lib.hid (K3.out.trans k5); clear k5))
 go_ret
 refine RetT.of ?_ K5.out
 rw[← HV.out]
 all_goals first | rfl | (congr 1; rw[Bool.eq_iff_iff]; simp only[beq_iff_eq,decide_eq_true_eq]; omega)
end Go.Proofs.Ytakfabaocgbbmaa.Sn
