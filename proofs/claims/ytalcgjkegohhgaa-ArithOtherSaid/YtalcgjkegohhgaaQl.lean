/- Layer 14 (arith): the landed Narrow. -/
import Derived.Test.YtalcgjkegohhgaaQi
import Derived.Test.YtalcgjkegohhgaaQbs
import Derived.Test.YtalcgjkegohhgaaQn
set_option maxHeartbeats 16000000
set_option maxRecDepth 20000
namespace Go.Proofs.Ytalcgjkegohhgaa.At
open Go.RowKit
set_option linter.unusedVariables false
set_option linter.unusedSimpArgs false
open Dig Lx Tk Ti Zs Tr Sn Ln
theorem rnr_no {p:Int} {w w':World} (k:Since w w'):RetNr (none,p) w (.returned (.tuple #[.slice none 0 0,.int .i64 p])) w':=⟨k,rfl⟩
theorem rnr_yes {p:Int} {E:Ln.Ds} {g n:Nat} {w w':World} (k:Since w w') (h1:w.heap.size≤g) (h2:g<w'.heap.size) (h3:DAt g n w w' E):RetNr (some E,p) w (.returned (.tuple #[.slice (some ⟨g,0,none⟩) n n,.int .i64 p])) w':=⟨k,g,n,rfl,h1,h2,h3⟩
theorem arith_any (v vd:Value) (c:Cn) (ds:Ln.Ds) (w:World) (h:ConAt w v c) (hd:Sl 1 QD w vd ds) (hs:SzM ⟨ds,[c],0,0⟩) :
 Calls Try.prog 54 #[v,vd] w (RetNr (ariO c ds) w):=by
 have FT:=Lib.hid (fun W (k:Since w W)=>afit_any v vd c ds W (h.since k) (hd.since stD k) hs)
 cases hm:modOk ⟨ds,[c],0,0⟩ with
 | false =>
  rw[hm] at FT
  rw[ariO_no hm]
  clear hm
  obtain⟨vx,vy,rfl,h1,h2⟩:=h
  obtain⟨ck,cx,ca,cc⟩:=c
  simp only at *
  obtain⟨X,xc,rfl⟩:=h1.form
  obtain⟨Y,yc,rfl⟩:=h2.form
  obtain⟨D,dc,rfl⟩:=hd.form
  generalize hnx:cx.length=nx at *
  generalize hny:ca.length=ny at *
  generalize hnd:List.length ds=nd at *
  have ka:=Lib.hid (since_alloc w (.cells #[.int .i64 ck,.slice X nx xc,.slice Y ny yc,.int .i64 cc] 58))
  have BC:=Lib.hid (Bx.fresh w #[.int .i64 ck,.slice X nx xc,.slice Y ny yc,.int .i64 cc] 58)
  obtain⟨b0,b1,b2,b3⟩:=bx4 BC.out
  clear h1 h2 hd hs hnx hny hnd
  go_enter Try.func54,Try.ntmps54
  go_wp2_with (go_at_call 95; (with_reducible refine (FT.out _ ka.out).mono ?_); rintro e w1 ⟨rfl,k1,-⟩; have K1:=Lib.hid (ka.out.trans k1); have L1:=Lib.hid k1; obtain⟨b0,b1,b2,b3⟩:=bx4 (BC.out.since k1); clear k1)
  go_ret2
  exact rnr_no K1.out
 | true =>
 rw[hm] at FT
 obtain⟨m1,m2,m3⟩:=mod_parts hm
 have hcx:=con_x m3
 have DO:=Lib.hid (fun W (k:Since w W)=>domainsOf_any vd ds W (hd.since stD k) (by omega) fun d hd=>right_len (m1 d hd).1)
 have VA:=Lib.hid (fun W (k:Since w W) g n (hn:n=ds.length)=>vars_any v c g n W (h.since k) (hn ▸ hcx.1) (by have:=hcx.2.1; omega))
 have GD:=Lib.hid m1
 have hld:ds.length≤64:=m2
 clear hcx
 by_cases hk:Ak c.k
 case neg =>
  rw[ariO_know hm hk]
  clear hm m1 m2 m3
  obtain⟨vx,vy,rfl,h1,h2⟩:=h
  obtain⟨ck,cx,ca,cc⟩:=c
  simp only at *
  obtain⟨X,xc,rfl⟩:=h1.form
  obtain⟨Y,yc,rfl⟩:=h2.form
  obtain⟨D,dc,rfl⟩:=hd.form
  generalize hnx:cx.length=nx at *
  generalize hny:ca.length=ny at *
  generalize hnd:List.length ds=nd at *
  have ka:=Lib.hid (since_alloc w (.cells #[.int .i64 ck,.slice X nx xc,.slice Y ny yc,.int .i64 cc] 58))
  have BC:=Lib.hid (Bx.fresh w #[.int .i64 ck,.slice X nx xc,.slice Y ny yc,.int .i64 cc] 58)
  obtain⟨b0,b1,b2,b3⟩:=bx4 BC.out
  clear h1 h2 hd hs hny hnd hld
  unfold Ak at hk
  have c7:¬ ck=7:=by omega
  have c8:¬ ck=8:=by omega
  have c9:¬ ck=9:=by omega
  have c10:¬ ck=10:=by omega
  have c15:¬ ck=15:=by omega
  clear hk
  go_enter Try.func54,Try.ntmps54
  go_wp2_with (first | (go_at_call 95; (with_reducible refine (FT.out _ ka.out).mono ?_); rintro e w1 ⟨rfl,k1,-⟩; have K1:=Lib.hid (ka.out.trans k1); have L1:=Lib.hid k1; obtain⟨b0,b1,b2,b3⟩:=bx4 (BC.out.since k1); clear k1) | (go_at_call 96; (with_reducible refine (DO.out _ K1.out).mono ?_); rintro e w2 ⟨g,n,rfl,hn2,hg1,hg2,hD2,k2⟩; have HN:=Lib.hid hn2; have HG:=Lib.hid (And.intro hg1 hg2); have M2:=Lib.hid (DM.mk hD2 hg1 hg2 GD.out); have L2:=Lib.hid (L1.out.trans k2); have K2:=Lib.hid (K1.out.trans k2); obtain⟨b0,b1,b2,b3⟩:=bx4 (BC.out.since L2.out); clear k2 hn2 hg1 hg2 hD2) | (go_at_call 97; (with_reducible refine (VA.out _ K2.out g n HN.out).mono ?_); rintro e w3 ⟨A3,c3,rfl,hV3,k3⟩; have V3:=Lib.hid hV3; have M3:=Lib.hid (M2.out.since k3); have K3:=Lib.hid (K2.out.trans k3); obtain⟨b0,b1,b2,b3⟩:=bx4 (BC.out.since (L2.out.trans k3)); clear k3 hV3))
  go_ret2
  exact rnr_no K3.out
 have h5:c.k=7∨c.k=8∨c.k=9∨c.k=10∨c.k=15:=by unfold Ak at hk; omega
 rcases h5 with hkk | hkk | hkk | hkk | hkk
 · obtain⟨x,y,z,hcx,hv⟩:=three_of (ds:=ds) (c:=c) m3 (by omega)
   have HV0:=Lib.hid hv
   obtain⟨R,hR⟩:∃ R,timS (x:Int) (y:Int) (z:Int) ds=R:=⟨_,rfl⟩
   have HR:=Lib.hid hR
   rw[ariO_is hm hk (R:=R) (by rw[ariL,hcx]; rw[if_pos hkk]; exact hR)]
   clear hR hm m1 m2 m3 hk
   obtain⟨vx,vy,rfl,h1,h2⟩:=h
   obtain⟨ck,cx,ca,cc⟩:=c
   simp only at *
   obtain⟨X,xc,rfl⟩:=h1.form
   obtain⟨Y,yc,rfl⟩:=h2.form
   obtain⟨D,dc,rfl⟩:=hd.form
   generalize hnx:cx.length=nx at *
   generalize hny:ca.length=ny at *
   generalize hnd:List.length ds=nd at *
   have ka:=Lib.hid (since_alloc w (.cells #[.int .i64 ck,.slice X nx xc,.slice Y ny yc,.int .i64 cc] 58))
   have BC:=Lib.hid (Bx.fresh w #[.int .i64 ck,.slice X nx xc,.slice Y ny yc,.int .i64 cc] 58)
   obtain⟨b0,b1,b2,b3⟩:=bx4 BC.out
   have hk7:ck=7:=hkk
   subst hk7
   subst hcx
   have LD:=Lib.hid hld
   have hnx3:nx=3:=by simpa using hnx.symm
   subst hnx3
   have HV:=Lib.hid (fun (n:Nat) (hn:n=nd)=>show x<n∧y<n∧z<n from (by subst hn; exact HV0.out))
   clear h1 h2 hd hs hny hnd hld hv hkk hnx
   cases R with
   | none =>
    simp only[Option.isSome_none,Bool.false_eq_true,if_false,if_true]
    go_enter Try.func54,Try.ntmps54
    go_wp2_with (first | (go_at_call 95; (with_reducible refine (FT.out _ ka.out).mono ?_); rintro e w1 ⟨rfl,k1,-⟩; have K1:=Lib.hid (ka.out.trans k1); have L1:=Lib.hid k1; obtain⟨b0,b1,b2,b3⟩:=bx4 (BC.out.since k1); clear k1) | (go_at_call 96; (with_reducible refine (DO.out _ K1.out).mono ?_); rintro e w2 ⟨g,n,rfl,hn2,hg1,hg2,hD2,k2⟩; have HN:=Lib.hid hn2; have HG:=Lib.hid (And.intro hg1 hg2); have M2:=Lib.hid (DM.mk hD2 hg1 hg2 GD.out); have L2:=Lib.hid (L1.out.trans k2); have K2:=Lib.hid (K1.out.trans k2); obtain⟨b0,b1,b2,b3⟩:=bx4 (BC.out.since L2.out); clear k2 hn2 hg1 hg2 hD2) | (go_at_call 97; (with_reducible refine (VA.out _ K2.out g n HN.out).mono ?_); rintro e w3 ⟨A3,c3,rfl,hV3,k3⟩; have V3:=Lib.hid hV3; have M3:=Lib.hid (M2.out.since k3); have K3:=Lib.hid (K2.out.trans k3); obtain⟨b0,b1,b2,b3⟩:=bx4 (BC.out.since (L2.out.trans k3)); clear k3 hV3))
    obtain⟨ba,oa,y9,rfl,-,-⟩:=el1 V3.out (i:=0) (by simp)
    have E0:=Lib.hid (fun W (k:Since w3 W)=>show W.cell? ⟨ba,oa,none⟩=some (.pointer (some ⟨g,x,none⟩)) from (by obtain⟨bb,ob,yy,ee,qq,cc9⟩:=el1 (V3.out.since (fun _ _ _ _ h _=>h) k) (i:=0) (by simp); injection ee with ee; injection ee with e7 e8; subst e7 e8; injection qq with qq; subst qq; exact cc9))
    have E1:=Lib.hid (fun W (k:Since w3 W)=>show W.cell? ⟨ba,oa+1,none⟩=some (.pointer (some ⟨g,y,none⟩)) from (by obtain⟨bb,ob,yy,ee,qq,cc9⟩:=el1 (V3.out.since (fun _ _ _ _ h _=>h) k) (i:=1) (by simp); injection ee with ee; injection ee with e7 e8; subst e7 e8; injection qq with qq; subst qq; exact cc9))
    have E2:=Lib.hid (fun W (k:Since w3 W)=>show W.cell? ⟨ba,oa+2,none⟩=some (.pointer (some ⟨g,z,none⟩)) from (by obtain⟨bb,ob,yy,ee,qq,cc9⟩:=el1 (V3.out.since (fun _ _ _ _ h _=>h) k) (i:=2) (by simp); injection ee with ee; injection ee with e7 e8; subst e7 e8; injection qq with qq; subst qq; exact cc9))
    have TI:=Lib.hid (fun W (k:Since w3 W)=>(times_d (M3.out.since k) (HV.out _ HN.out).1 (HV.out _ HN.out).2.1 (HV.out _ HN.out).2.2).mono fun e w' hh=>RetS.is_none hh (HR.out))
    have hr0:Since w3 w3.drew:=Since.drew (Since.refl w3)
    refine wp_region_noPanic ?_
    refine Reg.wp_region_G (S:=fun _=>True) (fun j => [9,10].contains j) (by kernel_rfl) trivial ?_
    refine' Reg.tk3 (i := 0) (v := _) (some 22) [1, 2, 9, 10] [9, 10] rfl (Or.inl ⟨by rfl, Or.inl ?hy1⟩) ?r_1
    case hy1=>(intro w' kk ss; have y0:=E0.out _ (hr0.trans kk); have y1:=E1.out _ (hr0.trans kk); have y2:=E2.out _ (hr0.trans kk); go_simp; first | done | with_reducible rfl)
    try simp only[Act.put,Reg.l1,Reg.l2,Reg.l3]
    refine' Reg.tk3 (i := 1) (v := _) (some 23) [2, 9, 10] [9, 10] rfl (Or.inl ⟨by rfl, Or.inl ?hy2⟩) ?r_2
    case hy2=>(intro w' kk ss; have y0:=E0.out _ (hr0.trans kk); have y1:=E1.out _ (hr0.trans kk); have y2:=E2.out _ (hr0.trans kk); go_simp; first | done | with_reducible rfl)
    try simp only[Act.put,Reg.l1,Reg.l2,Reg.l3]
    refine' Reg.tk3 (i := 2) (v := _) (some 24) [9, 10] [9, 10] rfl (Or.inl ⟨by rfl, Or.inl ?hy3⟩) ?r_3
    case hy3=>(intro w' kk ss; have y0:=E0.out _ (hr0.trans kk); have y1:=E1.out _ (hr0.trans kk); have y2:=E2.out _ (hr0.trans kk); go_simp; first | done | with_reducible rfl)
    try simp only[Act.put,Reg.l1,Reg.l2,Reg.l3]
    refine' Reg.tk3 (i := 3) (v := _) (some 25) [4, 5, 9, 10] [9, 10] rfl (Or.inl ⟨by rfl, Or.inl ?hy4⟩) ?r_4
    case hy4=>(intro w' kk ss; have y0:=E0.out _ (hr0.trans kk); have y1:=E1.out _ (hr0.trans kk); have y2:=E2.out _ (hr0.trans kk); go_simp; first | done | with_reducible rfl)
    try simp only[Act.put,Reg.l1,Reg.l2,Reg.l3]
    refine' Reg.tk3 (i := 4) (v := _) (some 26) [5, 9, 10] [9, 10] rfl (Or.inl ⟨by rfl, Or.inl ?hy5⟩) ?r_5
    case hy5=>(intro w' kk ss; have y0:=E0.out _ (hr0.trans kk); have y1:=E1.out _ (hr0.trans kk); have y2:=E2.out _ (hr0.trans kk); go_simp; first | done | with_reducible rfl)
    try simp only[Act.put,Reg.l1,Reg.l2,Reg.l3]
    refine' Reg.tk3 (i := 5) (v := _) (some 27) [9, 10] [9, 10] rfl (Or.inl ⟨by rfl, Or.inl ?hy6⟩) ?r_6
    case hy6=>(intro w' kk ss; have y0:=E0.out _ (hr0.trans kk); have y1:=E1.out _ (hr0.trans kk); have y2:=E2.out _ (hr0.trans kk); go_simp; first | done | with_reducible rfl)
    try simp only[Act.put,Reg.l1,Reg.l2,Reg.l3]
    refine' Reg.tk3 (i := 6) (v := _) (some 28) [7, 8, 9, 10] [9, 10] rfl (Or.inl ⟨by rfl, Or.inl ?hy7⟩) ?r_7
    case hy7=>(intro w' kk ss; have y0:=E0.out _ (hr0.trans kk); have y1:=E1.out _ (hr0.trans kk); have y2:=E2.out _ (hr0.trans kk); go_simp; first | done | with_reducible rfl)
    try simp only[Act.put,Reg.l1,Reg.l2,Reg.l3]
    refine' Reg.tk3 (i := 7) (v := _) (some 29) [8, 9, 10] [9, 10] rfl (Or.inl ⟨by rfl, Or.inl ?hy8⟩) ?r_8
    case hy8=>(intro w' kk ss; have y0:=E0.out _ (hr0.trans kk); have y1:=E1.out _ (hr0.trans kk); have y2:=E2.out _ (hr0.trans kk); go_simp; first | done | with_reducible rfl)
    try simp only[Act.put,Reg.l1,Reg.l2,Reg.l3]
    refine' Reg.tk3 (i := 8) (v := _) (some 30) [9, 10] [9, 10] rfl (Or.inl ⟨by rfl, Or.inl ?hy9⟩) ?r_9
    case hy9=>(intro w' kk ss; have y0:=E0.out _ (hr0.trans kk); have y1:=E1.out _ (hr0.trans kk); have y2:=E2.out _ (hr0.trans kk); go_simp; first | done | with_reducible rfl)
    try simp only[Act.put,Reg.l1,Reg.l2,Reg.l3]
    refine Reg.wpG_ready (rs:=[9]) (by kernel_rfl) (by simp) (fun wq kq sq => ?_)
    have hr0:=hr0.trans kq
    refine Reg.AllG.last (o := { dst := some 31, op := Op.call { callee := Callee.value (Operand.func 98), args := #[Operand.tmp 24, Operand.tmp 27, Operand.tmp 30], argTypes := #[112, 112, 112] }, type := 4, pos := "arith.go:19", after := #[{ on := 2, ground := Ground.data }, { on := 5, ground := Ground.data }, { on := 8, ground := Ground.data }], guard := none }) rfl (by rfl) (fun K hK => ?_) Reg.AllG.nil
    go_simp
    (with_reducible refine (TI.out wq hr0).mono ?_)
    rintro e yw ⟨rfl,ko⟩
    refine hK.out _ _ trivial (fun hHeld => ?_)
    clear hK K
    try simp only[Act.put,Reg.l1,Reg.l2,Reg.l3]
    refine' Reg.ah3 (i := 10) (v := _) (some 8) rfl (by kernel_rfl) (by kernel_rfl) (by kernel_rfl) (fun _ _ _ h => h) (Or.inl ⟨by rfl, ?hy10⟩) (by assumption) ?r_10
    case hy10=>(intro w' ss; (try dsimp only at ss); go_simp; first | done | with_reducible rfl)
    try simp only[Act.put,Reg.l1,Reg.l2,Reg.l3]
    refine wpAnyH_done (by kernel_rfl) ?_ _
    refine NoPanic.normal ?_
    go_wp2
    go_ret2
    exact rnr_no (Og.all (K3.out.trans hr0) ko (Nat.le_trans K1.out.size HG.out.1))
   | some E =>
    simp only[Option.isSome_some,Bool.false_eq_true,if_false,if_true]
    go_enter Try.func54,Try.ntmps54
    go_wp2_with (first | (go_at_call 95; (with_reducible refine (FT.out _ ka.out).mono ?_); rintro e w1 ⟨rfl,k1,-⟩; have K1:=Lib.hid (ka.out.trans k1); have L1:=Lib.hid k1; obtain⟨b0,b1,b2,b3⟩:=bx4 (BC.out.since k1); clear k1) | (go_at_call 96; (with_reducible refine (DO.out _ K1.out).mono ?_); rintro e w2 ⟨g,n,rfl,hn2,hg1,hg2,hD2,k2⟩; have HN:=Lib.hid hn2; have HG:=Lib.hid (And.intro hg1 hg2); have M2:=Lib.hid (DM.mk hD2 hg1 hg2 GD.out); have L2:=Lib.hid (L1.out.trans k2); have K2:=Lib.hid (K1.out.trans k2); obtain⟨b0,b1,b2,b3⟩:=bx4 (BC.out.since L2.out); clear k2 hn2 hg1 hg2 hD2) | (go_at_call 97; (with_reducible refine (VA.out _ K2.out g n HN.out).mono ?_); rintro e w3 ⟨A3,c3,rfl,hV3,k3⟩; have V3:=Lib.hid hV3; have M3:=Lib.hid (M2.out.since k3); have K3:=Lib.hid (K2.out.trans k3); obtain⟨b0,b1,b2,b3⟩:=bx4 (BC.out.since (L2.out.trans k3)); clear k3 hV3))
    obtain⟨ba,oa,y9,rfl,-,-⟩:=el1 V3.out (i:=0) (by simp)
    have E0:=Lib.hid (fun W (k:Since w3 W)=>show W.cell? ⟨ba,oa,none⟩=some (.pointer (some ⟨g,x,none⟩)) from (by obtain⟨bb,ob,yy,ee,qq,cc9⟩:=el1 (V3.out.since (fun _ _ _ _ h _=>h) k) (i:=0) (by simp); injection ee with ee; injection ee with e7 e8; subst e7 e8; injection qq with qq; subst qq; exact cc9))
    have E1:=Lib.hid (fun W (k:Since w3 W)=>show W.cell? ⟨ba,oa+1,none⟩=some (.pointer (some ⟨g,y,none⟩)) from (by obtain⟨bb,ob,yy,ee,qq,cc9⟩:=el1 (V3.out.since (fun _ _ _ _ h _=>h) k) (i:=1) (by simp); injection ee with ee; injection ee with e7 e8; subst e7 e8; injection qq with qq; subst qq; exact cc9))
    have E2:=Lib.hid (fun W (k:Since w3 W)=>show W.cell? ⟨ba,oa+2,none⟩=some (.pointer (some ⟨g,z,none⟩)) from (by obtain⟨bb,ob,yy,ee,qq,cc9⟩:=el1 (V3.out.since (fun _ _ _ _ h _=>h) k) (i:=2) (by simp); injection ee with ee; injection ee with e7 e8; subst e7 e8; injection qq with qq; subst qq; exact cc9))
    have TI:=Lib.hid (fun W (k:Since w3 W)=>(times_d (M3.out.since k) (HV.out _ HN.out).1 (HV.out _ HN.out).2.1 (HV.out _ HN.out).2.2).mono fun e w' hh=>RetS.is_some hh (HR.out))
    have hr0:Since w3 w3.drew:=Since.drew (Since.refl w3)
    refine wp_region_noPanic ?_
    refine Reg.wp_region_G (S:=fun _=>True) (fun j => [9,10].contains j) (by kernel_rfl) trivial ?_
    refine' Reg.tk3 (i := 0) (v := _) (some 22) [1, 2, 9, 10] [9, 10] rfl (Or.inl ⟨by rfl, Or.inl ?hy11⟩) ?r_11
    case hy11=>(intro w' kk ss; have y0:=E0.out _ (hr0.trans kk); have y1:=E1.out _ (hr0.trans kk); have y2:=E2.out _ (hr0.trans kk); go_simp; first | done | with_reducible rfl)
    try simp only[Act.put,Reg.l1,Reg.l2,Reg.l3]
    refine' Reg.tk3 (i := 1) (v := _) (some 23) [2, 9, 10] [9, 10] rfl (Or.inl ⟨by rfl, Or.inl ?hy12⟩) ?r_12
    case hy12=>(intro w' kk ss; have y0:=E0.out _ (hr0.trans kk); have y1:=E1.out _ (hr0.trans kk); have y2:=E2.out _ (hr0.trans kk); go_simp; first | done | with_reducible rfl)
    try simp only[Act.put,Reg.l1,Reg.l2,Reg.l3]
    refine' Reg.tk3 (i := 2) (v := _) (some 24) [9, 10] [9, 10] rfl (Or.inl ⟨by rfl, Or.inl ?hy13⟩) ?r_13
    case hy13=>(intro w' kk ss; have y0:=E0.out _ (hr0.trans kk); have y1:=E1.out _ (hr0.trans kk); have y2:=E2.out _ (hr0.trans kk); go_simp; first | done | with_reducible rfl)
    try simp only[Act.put,Reg.l1,Reg.l2,Reg.l3]
    refine' Reg.tk3 (i := 3) (v := _) (some 25) [4, 5, 9, 10] [9, 10] rfl (Or.inl ⟨by rfl, Or.inl ?hy14⟩) ?r_14
    case hy14=>(intro w' kk ss; have y0:=E0.out _ (hr0.trans kk); have y1:=E1.out _ (hr0.trans kk); have y2:=E2.out _ (hr0.trans kk); go_simp; first | done | with_reducible rfl)
    try simp only[Act.put,Reg.l1,Reg.l2,Reg.l3]
    refine' Reg.tk3 (i := 4) (v := _) (some 26) [5, 9, 10] [9, 10] rfl (Or.inl ⟨by rfl, Or.inl ?hy15⟩) ?r_15
    case hy15=>(intro w' kk ss; have y0:=E0.out _ (hr0.trans kk); have y1:=E1.out _ (hr0.trans kk); have y2:=E2.out _ (hr0.trans kk); go_simp; first | done | with_reducible rfl)
    try simp only[Act.put,Reg.l1,Reg.l2,Reg.l3]
    refine' Reg.tk3 (i := 5) (v := _) (some 27) [9, 10] [9, 10] rfl (Or.inl ⟨by rfl, Or.inl ?hy16⟩) ?r_16
    case hy16=>(intro w' kk ss; have y0:=E0.out _ (hr0.trans kk); have y1:=E1.out _ (hr0.trans kk); have y2:=E2.out _ (hr0.trans kk); go_simp; first | done | with_reducible rfl)
    try simp only[Act.put,Reg.l1,Reg.l2,Reg.l3]
    refine' Reg.tk3 (i := 6) (v := _) (some 28) [7, 8, 9, 10] [9, 10] rfl (Or.inl ⟨by rfl, Or.inl ?hy17⟩) ?r_17
    case hy17=>(intro w' kk ss; have y0:=E0.out _ (hr0.trans kk); have y1:=E1.out _ (hr0.trans kk); have y2:=E2.out _ (hr0.trans kk); go_simp; first | done | with_reducible rfl)
    try simp only[Act.put,Reg.l1,Reg.l2,Reg.l3]
    refine' Reg.tk3 (i := 7) (v := _) (some 29) [8, 9, 10] [9, 10] rfl (Or.inl ⟨by rfl, Or.inl ?hy18⟩) ?r_18
    case hy18=>(intro w' kk ss; have y0:=E0.out _ (hr0.trans kk); have y1:=E1.out _ (hr0.trans kk); have y2:=E2.out _ (hr0.trans kk); go_simp; first | done | with_reducible rfl)
    try simp only[Act.put,Reg.l1,Reg.l2,Reg.l3]
    refine' Reg.tk3 (i := 8) (v := _) (some 30) [9, 10] [9, 10] rfl (Or.inl ⟨by rfl, Or.inl ?hy19⟩) ?r_19
    case hy19=>(intro w' kk ss; have y0:=E0.out _ (hr0.trans kk); have y1:=E1.out _ (hr0.trans kk); have y2:=E2.out _ (hr0.trans kk); go_simp; first | done | with_reducible rfl)
    try simp only[Act.put,Reg.l1,Reg.l2,Reg.l3]
    refine Reg.wpG_ready (rs:=[9]) (by kernel_rfl) (by simp) (fun wq kq sq => ?_)
    have hr0:=hr0.trans kq
    refine Reg.AllG.last (o := { dst := some 31, op := Op.call { callee := Callee.value (Operand.func 98), args := #[Operand.tmp 24, Operand.tmp 27, Operand.tmp 30], argTypes := #[112, 112, 112] }, type := 4, pos := "arith.go:19", after := #[{ on := 2, ground := Ground.data }, { on := 5, ground := Ground.data }, { on := 8, ground := Ground.data }], guard := none }) rfl (by rfl) (fun K hK => ?_) Reg.AllG.nil
    go_simp
    (with_reducible refine (TI.out wq hr0).mono ?_)
    rintro e yw ⟨rfl,hd5,ko⟩
    refine hK.out _ _ trivial (fun hHeld => ?_)
    clear hK K
    try simp only[Act.put,Reg.l1,Reg.l2,Reg.l3]
    refine' Reg.ah3 (i := 10) (v := _) (some 8) rfl (by kernel_rfl) (by kernel_rfl) (by kernel_rfl) (fun _ _ _ h => h) (Or.inl ⟨by rfl, ?hy20⟩) (by assumption) ?r_20
    case hy20=>(intro w' ss; (try dsimp only at ss); go_simp; first | done | with_reducible rfl)
    try simp only[Act.put,Reg.l1,Reg.l2,Reg.l3]
    refine wpAnyH_done (by kernel_rfl) ?_ _
    refine NoPanic.normal ?_
    have RO:=Lib.hid (rangesOf_any hd5 (by have:=HN.out; have:=LD.out; omega))
    have KE:=Lib.hid (Og.all (K3.out.trans hr0) ko (Nat.le_trans K1.out.size HG.out.1))
    clear hd5
    go_wp2_with (go_at_call 103; (with_reducible refine (RO.out).mono ?_); rintro e w6 ⟨g2,rfl,hh1,hh2,hh3,k6⟩; have R6:=Lib.hid (And.intro hh1 (And.intro hh2 hh3)); have K6:=Lib.hid k6; clear hh1 hh2 hh3 k6)
    go_ret2
    exact rnr_yes (KE.out.trans K6.out) (Nat.le_trans KE.out.size R6.out.1) R6.out.2.1 (R6.out.2.2.low K1.out.size)
 · obtain⟨x,y,z,hcx,hv⟩:=three_of (ds:=ds) (c:=c) m3 (by omega)
   have HV0:=Lib.hid hv
   obtain⟨R,hR⟩:∃ R,minS (x:Int) (y:Int) (z:Int) ds=R:=⟨_,rfl⟩
   have HR:=Lib.hid hR
   rw[ariO_is hm hk (R:=R) (by rw[ariL,hcx]; rw[if_neg (by omega),if_pos hkk]; exact hR)]
   clear hR hm m1 m2 m3 hk
   obtain⟨vx,vy,rfl,h1,h2⟩:=h
   obtain⟨ck,cx,ca,cc⟩:=c
   simp only at *
   obtain⟨X,xc,rfl⟩:=h1.form
   obtain⟨Y,yc,rfl⟩:=h2.form
   obtain⟨D,dc,rfl⟩:=hd.form
   generalize hnx:cx.length=nx at *
   generalize hny:ca.length=ny at *
   generalize hnd:List.length ds=nd at *
   have ka:=Lib.hid (since_alloc w (.cells #[.int .i64 ck,.slice X nx xc,.slice Y ny yc,.int .i64 cc] 58))
   have BC:=Lib.hid (Bx.fresh w #[.int .i64 ck,.slice X nx xc,.slice Y ny yc,.int .i64 cc] 58)
   obtain⟨b0,b1,b2,b3⟩:=bx4 BC.out
   have hk7:ck=8:=hkk
   subst hk7
   subst hcx
   have LD:=Lib.hid hld
   have hnx3:nx=3:=by simpa using hnx.symm
   subst hnx3
   have HV:=Lib.hid (fun (n:Nat) (hn:n=nd)=>show x<n∧y<n∧z<n from (by subst hn; exact HV0.out))
   clear h1 h2 hd hs hny hnd hld hv hkk hnx
   cases R with
   | none =>
    simp only[Option.isSome_none,Bool.false_eq_true,if_false,if_true]
    go_enter Try.func54,Try.ntmps54
    go_wp2_with (first | (go_at_call 95; (with_reducible refine (FT.out _ ka.out).mono ?_); rintro e w1 ⟨rfl,k1,-⟩; have K1:=Lib.hid (ka.out.trans k1); have L1:=Lib.hid k1; obtain⟨b0,b1,b2,b3⟩:=bx4 (BC.out.since k1); clear k1) | (go_at_call 96; (with_reducible refine (DO.out _ K1.out).mono ?_); rintro e w2 ⟨g,n,rfl,hn2,hg1,hg2,hD2,k2⟩; have HN:=Lib.hid hn2; have HG:=Lib.hid (And.intro hg1 hg2); have M2:=Lib.hid (DM.mk hD2 hg1 hg2 GD.out); have L2:=Lib.hid (L1.out.trans k2); have K2:=Lib.hid (K1.out.trans k2); obtain⟨b0,b1,b2,b3⟩:=bx4 (BC.out.since L2.out); clear k2 hn2 hg1 hg2 hD2) | (go_at_call 97; (with_reducible refine (VA.out _ K2.out g n HN.out).mono ?_); rintro e w3 ⟨A3,c3,rfl,hV3,k3⟩; have V3:=Lib.hid hV3; have M3:=Lib.hid (M2.out.since k3); have K3:=Lib.hid (K2.out.trans k3); obtain⟨b0,b1,b2,b3⟩:=bx4 (BC.out.since (L2.out.trans k3)); clear k3 hV3))
    obtain⟨ba,oa,y9,rfl,-,-⟩:=el1 V3.out (i:=0) (by simp)
    have E0:=Lib.hid (fun W (k:Since w3 W)=>show W.cell? ⟨ba,oa,none⟩=some (.pointer (some ⟨g,x,none⟩)) from (by obtain⟨bb,ob,yy,ee,qq,cc9⟩:=el1 (V3.out.since (fun _ _ _ _ h _=>h) k) (i:=0) (by simp); injection ee with ee; injection ee with e7 e8; subst e7 e8; injection qq with qq; subst qq; exact cc9))
    have E1:=Lib.hid (fun W (k:Since w3 W)=>show W.cell? ⟨ba,oa+1,none⟩=some (.pointer (some ⟨g,y,none⟩)) from (by obtain⟨bb,ob,yy,ee,qq,cc9⟩:=el1 (V3.out.since (fun _ _ _ _ h _=>h) k) (i:=1) (by simp); injection ee with ee; injection ee with e7 e8; subst e7 e8; injection qq with qq; subst qq; exact cc9))
    have E2:=Lib.hid (fun W (k:Since w3 W)=>show W.cell? ⟨ba,oa+2,none⟩=some (.pointer (some ⟨g,z,none⟩)) from (by obtain⟨bb,ob,yy,ee,qq,cc9⟩:=el1 (V3.out.since (fun _ _ _ _ h _=>h) k) (i:=2) (by simp); injection ee with ee; injection ee with e7 e8; subst e7 e8; injection qq with qq; subst qq; exact cc9))
    have TI:=Lib.hid (fun W (k:Since w3 W)=>(min_d (M3.out.since k) (HV.out _ HN.out).1 (HV.out _ HN.out).2.1 (HV.out _ HN.out).2.2).mono fun e w' hh=>RetS.is_none hh (HR.out))
    have hr0:Since w3 w3.drew:=Since.drew (Since.refl w3)
    refine wp_region_noPanic ?_
    refine Reg.wp_region_G (S:=fun _=>True) (fun j => [9,10].contains j) (by kernel_rfl) trivial ?_
    refine' Reg.tk3 (i := 0) (v := _) (some 34) [1, 2, 9, 10] [9, 10] rfl (Or.inl ⟨by rfl, Or.inl ?hy21⟩) ?r_21
    case hy21=>(intro w' kk ss; have y0:=E0.out _ (hr0.trans kk); have y1:=E1.out _ (hr0.trans kk); have y2:=E2.out _ (hr0.trans kk); go_simp; first | done | with_reducible rfl)
    try simp only[Act.put,Reg.l1,Reg.l2,Reg.l3]
    refine' Reg.tk3 (i := 1) (v := _) (some 35) [2, 9, 10] [9, 10] rfl (Or.inl ⟨by rfl, Or.inl ?hy22⟩) ?r_22
    case hy22=>(intro w' kk ss; have y0:=E0.out _ (hr0.trans kk); have y1:=E1.out _ (hr0.trans kk); have y2:=E2.out _ (hr0.trans kk); go_simp; first | done | with_reducible rfl)
    try simp only[Act.put,Reg.l1,Reg.l2,Reg.l3]
    refine' Reg.tk3 (i := 2) (v := _) (some 36) [9, 10] [9, 10] rfl (Or.inl ⟨by rfl, Or.inl ?hy23⟩) ?r_23
    case hy23=>(intro w' kk ss; have y0:=E0.out _ (hr0.trans kk); have y1:=E1.out _ (hr0.trans kk); have y2:=E2.out _ (hr0.trans kk); go_simp; first | done | with_reducible rfl)
    try simp only[Act.put,Reg.l1,Reg.l2,Reg.l3]
    refine' Reg.tk3 (i := 3) (v := _) (some 37) [4, 5, 9, 10] [9, 10] rfl (Or.inl ⟨by rfl, Or.inl ?hy24⟩) ?r_24
    case hy24=>(intro w' kk ss; have y0:=E0.out _ (hr0.trans kk); have y1:=E1.out _ (hr0.trans kk); have y2:=E2.out _ (hr0.trans kk); go_simp; first | done | with_reducible rfl)
    try simp only[Act.put,Reg.l1,Reg.l2,Reg.l3]
    refine' Reg.tk3 (i := 4) (v := _) (some 38) [5, 9, 10] [9, 10] rfl (Or.inl ⟨by rfl, Or.inl ?hy25⟩) ?r_25
    case hy25=>(intro w' kk ss; have y0:=E0.out _ (hr0.trans kk); have y1:=E1.out _ (hr0.trans kk); have y2:=E2.out _ (hr0.trans kk); go_simp; first | done | with_reducible rfl)
    try simp only[Act.put,Reg.l1,Reg.l2,Reg.l3]
    refine' Reg.tk3 (i := 5) (v := _) (some 39) [9, 10] [9, 10] rfl (Or.inl ⟨by rfl, Or.inl ?hy26⟩) ?r_26
    case hy26=>(intro w' kk ss; have y0:=E0.out _ (hr0.trans kk); have y1:=E1.out _ (hr0.trans kk); have y2:=E2.out _ (hr0.trans kk); go_simp; first | done | with_reducible rfl)
    try simp only[Act.put,Reg.l1,Reg.l2,Reg.l3]
    refine' Reg.tk3 (i := 6) (v := _) (some 40) [7, 8, 9, 10] [9, 10] rfl (Or.inl ⟨by rfl, Or.inl ?hy27⟩) ?r_27
    case hy27=>(intro w' kk ss; have y0:=E0.out _ (hr0.trans kk); have y1:=E1.out _ (hr0.trans kk); have y2:=E2.out _ (hr0.trans kk); go_simp; first | done | with_reducible rfl)
    try simp only[Act.put,Reg.l1,Reg.l2,Reg.l3]
    refine' Reg.tk3 (i := 7) (v := _) (some 41) [8, 9, 10] [9, 10] rfl (Or.inl ⟨by rfl, Or.inl ?hy28⟩) ?r_28
    case hy28=>(intro w' kk ss; have y0:=E0.out _ (hr0.trans kk); have y1:=E1.out _ (hr0.trans kk); have y2:=E2.out _ (hr0.trans kk); go_simp; first | done | with_reducible rfl)
    try simp only[Act.put,Reg.l1,Reg.l2,Reg.l3]
    refine' Reg.tk3 (i := 8) (v := _) (some 42) [9, 10] [9, 10] rfl (Or.inl ⟨by rfl, Or.inl ?hy29⟩) ?r_29
    case hy29=>(intro w' kk ss; have y0:=E0.out _ (hr0.trans kk); have y1:=E1.out _ (hr0.trans kk); have y2:=E2.out _ (hr0.trans kk); go_simp; first | done | with_reducible rfl)
    try simp only[Act.put,Reg.l1,Reg.l2,Reg.l3]
    refine Reg.wpG_ready (rs:=[9]) (by kernel_rfl) (by simp) (fun wq kq sq => ?_)
    have hr0:=hr0.trans kq
    refine Reg.AllG.last (o := { dst := some 43, op := Op.call { callee := Callee.value (Operand.func 99), args := #[Operand.tmp 36, Operand.tmp 39, Operand.tmp 42], argTypes := #[112, 112, 112] }, type := 4, pos := "arith.go:21", after := #[{ on := 2, ground := Ground.data }, { on := 5, ground := Ground.data }, { on := 8, ground := Ground.data }], guard := none }) rfl (by rfl) (fun K hK => ?_) Reg.AllG.nil
    go_simp
    (with_reducible refine (TI.out wq hr0).mono ?_)
    rintro e yw ⟨rfl,ko⟩
    refine hK.out _ _ trivial (fun hHeld => ?_)
    clear hK K
    try simp only[Act.put,Reg.l1,Reg.l2,Reg.l3]
    refine' Reg.ah3 (i := 10) (v := _) (some 8) rfl (by kernel_rfl) (by kernel_rfl) (by kernel_rfl) (fun _ _ _ h => h) (Or.inl ⟨by rfl, ?hy30⟩) (by assumption) ?r_30
    case hy30=>(intro w' ss; (try dsimp only at ss); go_simp; first | done | with_reducible rfl)
    try simp only[Act.put,Reg.l1,Reg.l2,Reg.l3]
    refine wpAnyH_done (by kernel_rfl) ?_ _
    refine NoPanic.normal ?_
    go_wp2
    go_ret2
    exact rnr_no (Og.all (K3.out.trans hr0) ko (Nat.le_trans K1.out.size HG.out.1))
   | some E =>
    simp only[Option.isSome_some,Bool.false_eq_true,if_false,if_true]
    go_enter Try.func54,Try.ntmps54
    go_wp2_with (first | (go_at_call 95; (with_reducible refine (FT.out _ ka.out).mono ?_); rintro e w1 ⟨rfl,k1,-⟩; have K1:=Lib.hid (ka.out.trans k1); have L1:=Lib.hid k1; obtain⟨b0,b1,b2,b3⟩:=bx4 (BC.out.since k1); clear k1) | (go_at_call 96; (with_reducible refine (DO.out _ K1.out).mono ?_); rintro e w2 ⟨g,n,rfl,hn2,hg1,hg2,hD2,k2⟩; have HN:=Lib.hid hn2; have HG:=Lib.hid (And.intro hg1 hg2); have M2:=Lib.hid (DM.mk hD2 hg1 hg2 GD.out); have L2:=Lib.hid (L1.out.trans k2); have K2:=Lib.hid (K1.out.trans k2); obtain⟨b0,b1,b2,b3⟩:=bx4 (BC.out.since L2.out); clear k2 hn2 hg1 hg2 hD2) | (go_at_call 97; (with_reducible refine (VA.out _ K2.out g n HN.out).mono ?_); rintro e w3 ⟨A3,c3,rfl,hV3,k3⟩; have V3:=Lib.hid hV3; have M3:=Lib.hid (M2.out.since k3); have K3:=Lib.hid (K2.out.trans k3); obtain⟨b0,b1,b2,b3⟩:=bx4 (BC.out.since (L2.out.trans k3)); clear k3 hV3))
    obtain⟨ba,oa,y9,rfl,-,-⟩:=el1 V3.out (i:=0) (by simp)
    have E0:=Lib.hid (fun W (k:Since w3 W)=>show W.cell? ⟨ba,oa,none⟩=some (.pointer (some ⟨g,x,none⟩)) from (by obtain⟨bb,ob,yy,ee,qq,cc9⟩:=el1 (V3.out.since (fun _ _ _ _ h _=>h) k) (i:=0) (by simp); injection ee with ee; injection ee with e7 e8; subst e7 e8; injection qq with qq; subst qq; exact cc9))
    have E1:=Lib.hid (fun W (k:Since w3 W)=>show W.cell? ⟨ba,oa+1,none⟩=some (.pointer (some ⟨g,y,none⟩)) from (by obtain⟨bb,ob,yy,ee,qq,cc9⟩:=el1 (V3.out.since (fun _ _ _ _ h _=>h) k) (i:=1) (by simp); injection ee with ee; injection ee with e7 e8; subst e7 e8; injection qq with qq; subst qq; exact cc9))
    have E2:=Lib.hid (fun W (k:Since w3 W)=>show W.cell? ⟨ba,oa+2,none⟩=some (.pointer (some ⟨g,z,none⟩)) from (by obtain⟨bb,ob,yy,ee,qq,cc9⟩:=el1 (V3.out.since (fun _ _ _ _ h _=>h) k) (i:=2) (by simp); injection ee with ee; injection ee with e7 e8; subst e7 e8; injection qq with qq; subst qq; exact cc9))
    have TI:=Lib.hid (fun W (k:Since w3 W)=>(min_d (M3.out.since k) (HV.out _ HN.out).1 (HV.out _ HN.out).2.1 (HV.out _ HN.out).2.2).mono fun e w' hh=>RetS.is_some hh (HR.out))
    have hr0:Since w3 w3.drew:=Since.drew (Since.refl w3)
    refine wp_region_noPanic ?_
    refine Reg.wp_region_G (S:=fun _=>True) (fun j => [9,10].contains j) (by kernel_rfl) trivial ?_
    refine' Reg.tk3 (i := 0) (v := _) (some 34) [1, 2, 9, 10] [9, 10] rfl (Or.inl ⟨by rfl, Or.inl ?hy31⟩) ?r_31
    case hy31=>(intro w' kk ss; have y0:=E0.out _ (hr0.trans kk); have y1:=E1.out _ (hr0.trans kk); have y2:=E2.out _ (hr0.trans kk); go_simp; first | done | with_reducible rfl)
    try simp only[Act.put,Reg.l1,Reg.l2,Reg.l3]
    refine' Reg.tk3 (i := 1) (v := _) (some 35) [2, 9, 10] [9, 10] rfl (Or.inl ⟨by rfl, Or.inl ?hy32⟩) ?r_32
    case hy32=>(intro w' kk ss; have y0:=E0.out _ (hr0.trans kk); have y1:=E1.out _ (hr0.trans kk); have y2:=E2.out _ (hr0.trans kk); go_simp; first | done | with_reducible rfl)
    try simp only[Act.put,Reg.l1,Reg.l2,Reg.l3]
    refine' Reg.tk3 (i := 2) (v := _) (some 36) [9, 10] [9, 10] rfl (Or.inl ⟨by rfl, Or.inl ?hy33⟩) ?r_33
    case hy33=>(intro w' kk ss; have y0:=E0.out _ (hr0.trans kk); have y1:=E1.out _ (hr0.trans kk); have y2:=E2.out _ (hr0.trans kk); go_simp; first | done | with_reducible rfl)
    try simp only[Act.put,Reg.l1,Reg.l2,Reg.l3]
    refine' Reg.tk3 (i := 3) (v := _) (some 37) [4, 5, 9, 10] [9, 10] rfl (Or.inl ⟨by rfl, Or.inl ?hy34⟩) ?r_34
    case hy34=>(intro w' kk ss; have y0:=E0.out _ (hr0.trans kk); have y1:=E1.out _ (hr0.trans kk); have y2:=E2.out _ (hr0.trans kk); go_simp; first | done | with_reducible rfl)
    try simp only[Act.put,Reg.l1,Reg.l2,Reg.l3]
    refine' Reg.tk3 (i := 4) (v := _) (some 38) [5, 9, 10] [9, 10] rfl (Or.inl ⟨by rfl, Or.inl ?hy35⟩) ?r_35
    case hy35=>(intro w' kk ss; have y0:=E0.out _ (hr0.trans kk); have y1:=E1.out _ (hr0.trans kk); have y2:=E2.out _ (hr0.trans kk); go_simp; first | done | with_reducible rfl)
    try simp only[Act.put,Reg.l1,Reg.l2,Reg.l3]
    refine' Reg.tk3 (i := 5) (v := _) (some 39) [9, 10] [9, 10] rfl (Or.inl ⟨by rfl, Or.inl ?hy36⟩) ?r_36
    case hy36=>(intro w' kk ss; have y0:=E0.out _ (hr0.trans kk); have y1:=E1.out _ (hr0.trans kk); have y2:=E2.out _ (hr0.trans kk); go_simp; first | done | with_reducible rfl)
    try simp only[Act.put,Reg.l1,Reg.l2,Reg.l3]
    refine' Reg.tk3 (i := 6) (v := _) (some 40) [7, 8, 9, 10] [9, 10] rfl (Or.inl ⟨by rfl, Or.inl ?hy37⟩) ?r_37
    case hy37=>(intro w' kk ss; have y0:=E0.out _ (hr0.trans kk); have y1:=E1.out _ (hr0.trans kk); have y2:=E2.out _ (hr0.trans kk); go_simp; first | done | with_reducible rfl)
    try simp only[Act.put,Reg.l1,Reg.l2,Reg.l3]
    refine' Reg.tk3 (i := 7) (v := _) (some 41) [8, 9, 10] [9, 10] rfl (Or.inl ⟨by rfl, Or.inl ?hy38⟩) ?r_38
    case hy38=>(intro w' kk ss; have y0:=E0.out _ (hr0.trans kk); have y1:=E1.out _ (hr0.trans kk); have y2:=E2.out _ (hr0.trans kk); go_simp; first | done | with_reducible rfl)
    try simp only[Act.put,Reg.l1,Reg.l2,Reg.l3]
    refine' Reg.tk3 (i := 8) (v := _) (some 42) [9, 10] [9, 10] rfl (Or.inl ⟨by rfl, Or.inl ?hy39⟩) ?r_39
    case hy39=>(intro w' kk ss; have y0:=E0.out _ (hr0.trans kk); have y1:=E1.out _ (hr0.trans kk); have y2:=E2.out _ (hr0.trans kk); go_simp; first | done | with_reducible rfl)
    try simp only[Act.put,Reg.l1,Reg.l2,Reg.l3]
    refine Reg.wpG_ready (rs:=[9]) (by kernel_rfl) (by simp) (fun wq kq sq => ?_)
    have hr0:=hr0.trans kq
    refine Reg.AllG.last (o := { dst := some 43, op := Op.call { callee := Callee.value (Operand.func 99), args := #[Operand.tmp 36, Operand.tmp 39, Operand.tmp 42], argTypes := #[112, 112, 112] }, type := 4, pos := "arith.go:21", after := #[{ on := 2, ground := Ground.data }, { on := 5, ground := Ground.data }, { on := 8, ground := Ground.data }], guard := none }) rfl (by rfl) (fun K hK => ?_) Reg.AllG.nil
    go_simp
    (with_reducible refine (TI.out wq hr0).mono ?_)
    rintro e yw ⟨rfl,hd5,ko⟩
    refine hK.out _ _ trivial (fun hHeld => ?_)
    clear hK K
    try simp only[Act.put,Reg.l1,Reg.l2,Reg.l3]
    refine' Reg.ah3 (i := 10) (v := _) (some 8) rfl (by kernel_rfl) (by kernel_rfl) (by kernel_rfl) (fun _ _ _ h => h) (Or.inl ⟨by rfl, ?hy40⟩) (by assumption) ?r_40
    case hy40=>(intro w' ss; (try dsimp only at ss); go_simp; first | done | with_reducible rfl)
    try simp only[Act.put,Reg.l1,Reg.l2,Reg.l3]
    refine wpAnyH_done (by kernel_rfl) ?_ _
    refine NoPanic.normal ?_
    have RO:=Lib.hid (rangesOf_any hd5 (by have:=HN.out; have:=LD.out; omega))
    have KE:=Lib.hid (Og.all (K3.out.trans hr0) ko (Nat.le_trans K1.out.size HG.out.1))
    clear hd5
    go_wp2_with (go_at_call 103; (with_reducible refine (RO.out).mono ?_); rintro e w6 ⟨g2,rfl,hh1,hh2,hh3,k6⟩; have R6:=Lib.hid (And.intro hh1 (And.intro hh2 hh3)); have K6:=Lib.hid k6; clear hh1 hh2 hh3 k6)
    go_ret2
    exact rnr_yes (KE.out.trans K6.out) (Nat.le_trans KE.out.size R6.out.1) R6.out.2.1 (R6.out.2.2.low K1.out.size)
 · obtain⟨x,y,z,hcx,hv⟩:=three_of (ds:=ds) (c:=c) m3 (by omega)
   have HV0:=Lib.hid hv
   obtain⟨R,hR⟩:∃ R,maxS (x:Int) (y:Int) (z:Int) ds=R:=⟨_,rfl⟩
   have HR:=Lib.hid hR
   rw[ariO_is hm hk (R:=R) (by rw[ariL,hcx]; rw[if_neg (by omega),if_neg (by omega),if_pos hkk]; exact hR)]
   clear hR hm m1 m2 m3 hk
   obtain⟨vx,vy,rfl,h1,h2⟩:=h
   obtain⟨ck,cx,ca,cc⟩:=c
   simp only at *
   obtain⟨X,xc,rfl⟩:=h1.form
   obtain⟨Y,yc,rfl⟩:=h2.form
   obtain⟨D,dc,rfl⟩:=hd.form
   generalize hnx:cx.length=nx at *
   generalize hny:ca.length=ny at *
   generalize hnd:List.length ds=nd at *
   have ka:=Lib.hid (since_alloc w (.cells #[.int .i64 ck,.slice X nx xc,.slice Y ny yc,.int .i64 cc] 58))
   have BC:=Lib.hid (Bx.fresh w #[.int .i64 ck,.slice X nx xc,.slice Y ny yc,.int .i64 cc] 58)
   obtain⟨b0,b1,b2,b3⟩:=bx4 BC.out
   have hk7:ck=9:=hkk
   subst hk7
   subst hcx
   have LD:=Lib.hid hld
   have hnx3:nx=3:=by simpa using hnx.symm
   subst hnx3
   have HV:=Lib.hid (fun (n:Nat) (hn:n=nd)=>show x<n∧y<n∧z<n from (by subst hn; exact HV0.out))
   clear h1 h2 hd hs hny hnd hld hv hkk hnx
   cases R with
   | none =>
    simp only[Option.isSome_none,Bool.false_eq_true,if_false,if_true]
    go_enter Try.func54,Try.ntmps54
    go_wp2_with (first | (go_at_call 95; (with_reducible refine (FT.out _ ka.out).mono ?_); rintro e w1 ⟨rfl,k1,-⟩; have K1:=Lib.hid (ka.out.trans k1); have L1:=Lib.hid k1; obtain⟨b0,b1,b2,b3⟩:=bx4 (BC.out.since k1); clear k1) | (go_at_call 96; (with_reducible refine (DO.out _ K1.out).mono ?_); rintro e w2 ⟨g,n,rfl,hn2,hg1,hg2,hD2,k2⟩; have HN:=Lib.hid hn2; have HG:=Lib.hid (And.intro hg1 hg2); have M2:=Lib.hid (DM.mk hD2 hg1 hg2 GD.out); have L2:=Lib.hid (L1.out.trans k2); have K2:=Lib.hid (K1.out.trans k2); obtain⟨b0,b1,b2,b3⟩:=bx4 (BC.out.since L2.out); clear k2 hn2 hg1 hg2 hD2) | (go_at_call 97; (with_reducible refine (VA.out _ K2.out g n HN.out).mono ?_); rintro e w3 ⟨A3,c3,rfl,hV3,k3⟩; have V3:=Lib.hid hV3; have M3:=Lib.hid (M2.out.since k3); have K3:=Lib.hid (K2.out.trans k3); obtain⟨b0,b1,b2,b3⟩:=bx4 (BC.out.since (L2.out.trans k3)); clear k3 hV3))
    obtain⟨ba,oa,y9,rfl,-,-⟩:=el1 V3.out (i:=0) (by simp)
    have E0:=Lib.hid (fun W (k:Since w3 W)=>show W.cell? ⟨ba,oa,none⟩=some (.pointer (some ⟨g,x,none⟩)) from (by obtain⟨bb,ob,yy,ee,qq,cc9⟩:=el1 (V3.out.since (fun _ _ _ _ h _=>h) k) (i:=0) (by simp); injection ee with ee; injection ee with e7 e8; subst e7 e8; injection qq with qq; subst qq; exact cc9))
    have E1:=Lib.hid (fun W (k:Since w3 W)=>show W.cell? ⟨ba,oa+1,none⟩=some (.pointer (some ⟨g,y,none⟩)) from (by obtain⟨bb,ob,yy,ee,qq,cc9⟩:=el1 (V3.out.since (fun _ _ _ _ h _=>h) k) (i:=1) (by simp); injection ee with ee; injection ee with e7 e8; subst e7 e8; injection qq with qq; subst qq; exact cc9))
    have E2:=Lib.hid (fun W (k:Since w3 W)=>show W.cell? ⟨ba,oa+2,none⟩=some (.pointer (some ⟨g,z,none⟩)) from (by obtain⟨bb,ob,yy,ee,qq,cc9⟩:=el1 (V3.out.since (fun _ _ _ _ h _=>h) k) (i:=2) (by simp); injection ee with ee; injection ee with e7 e8; subst e7 e8; injection qq with qq; subst qq; exact cc9))
    have TI:=Lib.hid (fun W (k:Since w3 W)=>(max_d (M3.out.since k) (HV.out _ HN.out).1 (HV.out _ HN.out).2.1 (HV.out _ HN.out).2.2).mono fun e w' hh=>RetS.is_none hh (HR.out))
    have hr0:Since w3 w3.drew:=Since.drew (Since.refl w3)
    refine wp_region_noPanic ?_
    refine Reg.wp_region_G (S:=fun _=>True) (fun j => [9,10].contains j) (by kernel_rfl) trivial ?_
    refine' Reg.tk3 (i := 0) (v := _) (some 46) [1, 2, 9, 10] [9, 10] rfl (Or.inl ⟨by rfl, Or.inl ?hy41⟩) ?r_41
    case hy41=>(intro w' kk ss; have y0:=E0.out _ (hr0.trans kk); have y1:=E1.out _ (hr0.trans kk); have y2:=E2.out _ (hr0.trans kk); go_simp; first | done | with_reducible rfl)
    try simp only[Act.put,Reg.l1,Reg.l2,Reg.l3]
    refine' Reg.tk3 (i := 1) (v := _) (some 47) [2, 9, 10] [9, 10] rfl (Or.inl ⟨by rfl, Or.inl ?hy42⟩) ?r_42
    case hy42=>(intro w' kk ss; have y0:=E0.out _ (hr0.trans kk); have y1:=E1.out _ (hr0.trans kk); have y2:=E2.out _ (hr0.trans kk); go_simp; first | done | with_reducible rfl)
    try simp only[Act.put,Reg.l1,Reg.l2,Reg.l3]
    refine' Reg.tk3 (i := 2) (v := _) (some 48) [9, 10] [9, 10] rfl (Or.inl ⟨by rfl, Or.inl ?hy43⟩) ?r_43
    case hy43=>(intro w' kk ss; have y0:=E0.out _ (hr0.trans kk); have y1:=E1.out _ (hr0.trans kk); have y2:=E2.out _ (hr0.trans kk); go_simp; first | done | with_reducible rfl)
    try simp only[Act.put,Reg.l1,Reg.l2,Reg.l3]
    refine' Reg.tk3 (i := 3) (v := _) (some 49) [4, 5, 9, 10] [9, 10] rfl (Or.inl ⟨by rfl, Or.inl ?hy44⟩) ?r_44
    case hy44=>(intro w' kk ss; have y0:=E0.out _ (hr0.trans kk); have y1:=E1.out _ (hr0.trans kk); have y2:=E2.out _ (hr0.trans kk); go_simp; first | done | with_reducible rfl)
    try simp only[Act.put,Reg.l1,Reg.l2,Reg.l3]
    refine' Reg.tk3 (i := 4) (v := _) (some 50) [5, 9, 10] [9, 10] rfl (Or.inl ⟨by rfl, Or.inl ?hy45⟩) ?r_45
    case hy45=>(intro w' kk ss; have y0:=E0.out _ (hr0.trans kk); have y1:=E1.out _ (hr0.trans kk); have y2:=E2.out _ (hr0.trans kk); go_simp; first | done | with_reducible rfl)
    try simp only[Act.put,Reg.l1,Reg.l2,Reg.l3]
    refine' Reg.tk3 (i := 5) (v := _) (some 51) [9, 10] [9, 10] rfl (Or.inl ⟨by rfl, Or.inl ?hy46⟩) ?r_46
    case hy46=>(intro w' kk ss; have y0:=E0.out _ (hr0.trans kk); have y1:=E1.out _ (hr0.trans kk); have y2:=E2.out _ (hr0.trans kk); go_simp; first | done | with_reducible rfl)
    try simp only[Act.put,Reg.l1,Reg.l2,Reg.l3]
    refine' Reg.tk3 (i := 6) (v := _) (some 52) [7, 8, 9, 10] [9, 10] rfl (Or.inl ⟨by rfl, Or.inl ?hy47⟩) ?r_47
    case hy47=>(intro w' kk ss; have y0:=E0.out _ (hr0.trans kk); have y1:=E1.out _ (hr0.trans kk); have y2:=E2.out _ (hr0.trans kk); go_simp; first | done | with_reducible rfl)
    try simp only[Act.put,Reg.l1,Reg.l2,Reg.l3]
    refine' Reg.tk3 (i := 7) (v := _) (some 53) [8, 9, 10] [9, 10] rfl (Or.inl ⟨by rfl, Or.inl ?hy48⟩) ?r_48
    case hy48=>(intro w' kk ss; have y0:=E0.out _ (hr0.trans kk); have y1:=E1.out _ (hr0.trans kk); have y2:=E2.out _ (hr0.trans kk); go_simp; first | done | with_reducible rfl)
    try simp only[Act.put,Reg.l1,Reg.l2,Reg.l3]
    refine' Reg.tk3 (i := 8) (v := _) (some 54) [9, 10] [9, 10] rfl (Or.inl ⟨by rfl, Or.inl ?hy49⟩) ?r_49
    case hy49=>(intro w' kk ss; have y0:=E0.out _ (hr0.trans kk); have y1:=E1.out _ (hr0.trans kk); have y2:=E2.out _ (hr0.trans kk); go_simp; first | done | with_reducible rfl)
    try simp only[Act.put,Reg.l1,Reg.l2,Reg.l3]
    refine Reg.wpG_ready (rs:=[9]) (by kernel_rfl) (by simp) (fun wq kq sq => ?_)
    have hr0:=hr0.trans kq
    refine Reg.AllG.last (o := { dst := some 55, op := Op.call { callee := Callee.value (Operand.func 100), args := #[Operand.tmp 48, Operand.tmp 51, Operand.tmp 54], argTypes := #[112, 112, 112] }, type := 4, pos := "arith.go:23", after := #[{ on := 2, ground := Ground.data }, { on := 5, ground := Ground.data }, { on := 8, ground := Ground.data }], guard := none }) rfl (by rfl) (fun K hK => ?_) Reg.AllG.nil
    go_simp
    (with_reducible refine (TI.out wq hr0).mono ?_)
    rintro e yw ⟨rfl,ko⟩
    refine hK.out _ _ trivial (fun hHeld => ?_)
    clear hK K
    try simp only[Act.put,Reg.l1,Reg.l2,Reg.l3]
    refine' Reg.ah3 (i := 10) (v := _) (some 8) rfl (by kernel_rfl) (by kernel_rfl) (by kernel_rfl) (fun _ _ _ h => h) (Or.inl ⟨by rfl, ?hy50⟩) (by assumption) ?r_50
    case hy50=>(intro w' ss; (try dsimp only at ss); go_simp; first | done | with_reducible rfl)
    try simp only[Act.put,Reg.l1,Reg.l2,Reg.l3]
    refine wpAnyH_done (by kernel_rfl) ?_ _
    refine NoPanic.normal ?_
    go_wp2
    go_ret2
    exact rnr_no (Og.all (K3.out.trans hr0) ko (Nat.le_trans K1.out.size HG.out.1))
   | some E =>
    simp only[Option.isSome_some,Bool.false_eq_true,if_false,if_true]
    go_enter Try.func54,Try.ntmps54
    go_wp2_with (first | (go_at_call 95; (with_reducible refine (FT.out _ ka.out).mono ?_); rintro e w1 ⟨rfl,k1,-⟩; have K1:=Lib.hid (ka.out.trans k1); have L1:=Lib.hid k1; obtain⟨b0,b1,b2,b3⟩:=bx4 (BC.out.since k1); clear k1) | (go_at_call 96; (with_reducible refine (DO.out _ K1.out).mono ?_); rintro e w2 ⟨g,n,rfl,hn2,hg1,hg2,hD2,k2⟩; have HN:=Lib.hid hn2; have HG:=Lib.hid (And.intro hg1 hg2); have M2:=Lib.hid (DM.mk hD2 hg1 hg2 GD.out); have L2:=Lib.hid (L1.out.trans k2); have K2:=Lib.hid (K1.out.trans k2); obtain⟨b0,b1,b2,b3⟩:=bx4 (BC.out.since L2.out); clear k2 hn2 hg1 hg2 hD2) | (go_at_call 97; (with_reducible refine (VA.out _ K2.out g n HN.out).mono ?_); rintro e w3 ⟨A3,c3,rfl,hV3,k3⟩; have V3:=Lib.hid hV3; have M3:=Lib.hid (M2.out.since k3); have K3:=Lib.hid (K2.out.trans k3); obtain⟨b0,b1,b2,b3⟩:=bx4 (BC.out.since (L2.out.trans k3)); clear k3 hV3))
    obtain⟨ba,oa,y9,rfl,-,-⟩:=el1 V3.out (i:=0) (by simp)
    have E0:=Lib.hid (fun W (k:Since w3 W)=>show W.cell? ⟨ba,oa,none⟩=some (.pointer (some ⟨g,x,none⟩)) from (by obtain⟨bb,ob,yy,ee,qq,cc9⟩:=el1 (V3.out.since (fun _ _ _ _ h _=>h) k) (i:=0) (by simp); injection ee with ee; injection ee with e7 e8; subst e7 e8; injection qq with qq; subst qq; exact cc9))
    have E1:=Lib.hid (fun W (k:Since w3 W)=>show W.cell? ⟨ba,oa+1,none⟩=some (.pointer (some ⟨g,y,none⟩)) from (by obtain⟨bb,ob,yy,ee,qq,cc9⟩:=el1 (V3.out.since (fun _ _ _ _ h _=>h) k) (i:=1) (by simp); injection ee with ee; injection ee with e7 e8; subst e7 e8; injection qq with qq; subst qq; exact cc9))
    have E2:=Lib.hid (fun W (k:Since w3 W)=>show W.cell? ⟨ba,oa+2,none⟩=some (.pointer (some ⟨g,z,none⟩)) from (by obtain⟨bb,ob,yy,ee,qq,cc9⟩:=el1 (V3.out.since (fun _ _ _ _ h _=>h) k) (i:=2) (by simp); injection ee with ee; injection ee with e7 e8; subst e7 e8; injection qq with qq; subst qq; exact cc9))
    have TI:=Lib.hid (fun W (k:Since w3 W)=>(max_d (M3.out.since k) (HV.out _ HN.out).1 (HV.out _ HN.out).2.1 (HV.out _ HN.out).2.2).mono fun e w' hh=>RetS.is_some hh (HR.out))
    have hr0:Since w3 w3.drew:=Since.drew (Since.refl w3)
    refine wp_region_noPanic ?_
    refine Reg.wp_region_G (S:=fun _=>True) (fun j => [9,10].contains j) (by kernel_rfl) trivial ?_
    refine' Reg.tk3 (i := 0) (v := _) (some 46) [1, 2, 9, 10] [9, 10] rfl (Or.inl ⟨by rfl, Or.inl ?hy51⟩) ?r_51
    case hy51=>(intro w' kk ss; have y0:=E0.out _ (hr0.trans kk); have y1:=E1.out _ (hr0.trans kk); have y2:=E2.out _ (hr0.trans kk); go_simp; first | done | with_reducible rfl)
    try simp only[Act.put,Reg.l1,Reg.l2,Reg.l3]
    refine' Reg.tk3 (i := 1) (v := _) (some 47) [2, 9, 10] [9, 10] rfl (Or.inl ⟨by rfl, Or.inl ?hy52⟩) ?r_52
    case hy52=>(intro w' kk ss; have y0:=E0.out _ (hr0.trans kk); have y1:=E1.out _ (hr0.trans kk); have y2:=E2.out _ (hr0.trans kk); go_simp; first | done | with_reducible rfl)
    try simp only[Act.put,Reg.l1,Reg.l2,Reg.l3]
    refine' Reg.tk3 (i := 2) (v := _) (some 48) [9, 10] [9, 10] rfl (Or.inl ⟨by rfl, Or.inl ?hy53⟩) ?r_53
    case hy53=>(intro w' kk ss; have y0:=E0.out _ (hr0.trans kk); have y1:=E1.out _ (hr0.trans kk); have y2:=E2.out _ (hr0.trans kk); go_simp; first | done | with_reducible rfl)
    try simp only[Act.put,Reg.l1,Reg.l2,Reg.l3]
    refine' Reg.tk3 (i := 3) (v := _) (some 49) [4, 5, 9, 10] [9, 10] rfl (Or.inl ⟨by rfl, Or.inl ?hy54⟩) ?r_54
    case hy54=>(intro w' kk ss; have y0:=E0.out _ (hr0.trans kk); have y1:=E1.out _ (hr0.trans kk); have y2:=E2.out _ (hr0.trans kk); go_simp; first | done | with_reducible rfl)
    try simp only[Act.put,Reg.l1,Reg.l2,Reg.l3]
    refine' Reg.tk3 (i := 4) (v := _) (some 50) [5, 9, 10] [9, 10] rfl (Or.inl ⟨by rfl, Or.inl ?hy55⟩) ?r_55
    case hy55=>(intro w' kk ss; have y0:=E0.out _ (hr0.trans kk); have y1:=E1.out _ (hr0.trans kk); have y2:=E2.out _ (hr0.trans kk); go_simp; first | done | with_reducible rfl)
    try simp only[Act.put,Reg.l1,Reg.l2,Reg.l3]
    refine' Reg.tk3 (i := 5) (v := _) (some 51) [9, 10] [9, 10] rfl (Or.inl ⟨by rfl, Or.inl ?hy56⟩) ?r_56
    case hy56=>(intro w' kk ss; have y0:=E0.out _ (hr0.trans kk); have y1:=E1.out _ (hr0.trans kk); have y2:=E2.out _ (hr0.trans kk); go_simp; first | done | with_reducible rfl)
    try simp only[Act.put,Reg.l1,Reg.l2,Reg.l3]
    refine' Reg.tk3 (i := 6) (v := _) (some 52) [7, 8, 9, 10] [9, 10] rfl (Or.inl ⟨by rfl, Or.inl ?hy57⟩) ?r_57
    case hy57=>(intro w' kk ss; have y0:=E0.out _ (hr0.trans kk); have y1:=E1.out _ (hr0.trans kk); have y2:=E2.out _ (hr0.trans kk); go_simp; first | done | with_reducible rfl)
    try simp only[Act.put,Reg.l1,Reg.l2,Reg.l3]
    refine' Reg.tk3 (i := 7) (v := _) (some 53) [8, 9, 10] [9, 10] rfl (Or.inl ⟨by rfl, Or.inl ?hy58⟩) ?r_58
    case hy58=>(intro w' kk ss; have y0:=E0.out _ (hr0.trans kk); have y1:=E1.out _ (hr0.trans kk); have y2:=E2.out _ (hr0.trans kk); go_simp; first | done | with_reducible rfl)
    try simp only[Act.put,Reg.l1,Reg.l2,Reg.l3]
    refine' Reg.tk3 (i := 8) (v := _) (some 54) [9, 10] [9, 10] rfl (Or.inl ⟨by rfl, Or.inl ?hy59⟩) ?r_59
    case hy59=>(intro w' kk ss; have y0:=E0.out _ (hr0.trans kk); have y1:=E1.out _ (hr0.trans kk); have y2:=E2.out _ (hr0.trans kk); go_simp; first | done | with_reducible rfl)
    try simp only[Act.put,Reg.l1,Reg.l2,Reg.l3]
    refine Reg.wpG_ready (rs:=[9]) (by kernel_rfl) (by simp) (fun wq kq sq => ?_)
    have hr0:=hr0.trans kq
    refine Reg.AllG.last (o := { dst := some 55, op := Op.call { callee := Callee.value (Operand.func 100), args := #[Operand.tmp 48, Operand.tmp 51, Operand.tmp 54], argTypes := #[112, 112, 112] }, type := 4, pos := "arith.go:23", after := #[{ on := 2, ground := Ground.data }, { on := 5, ground := Ground.data }, { on := 8, ground := Ground.data }], guard := none }) rfl (by rfl) (fun K hK => ?_) Reg.AllG.nil
    go_simp
    (with_reducible refine (TI.out wq hr0).mono ?_)
    rintro e yw ⟨rfl,hd5,ko⟩
    refine hK.out _ _ trivial (fun hHeld => ?_)
    clear hK K
    try simp only[Act.put,Reg.l1,Reg.l2,Reg.l3]
    refine' Reg.ah3 (i := 10) (v := _) (some 8) rfl (by kernel_rfl) (by kernel_rfl) (by kernel_rfl) (fun _ _ _ h => h) (Or.inl ⟨by rfl, ?hy60⟩) (by assumption) ?r_60
    case hy60=>(intro w' ss; (try dsimp only at ss); go_simp; first | done | with_reducible rfl)
    try simp only[Act.put,Reg.l1,Reg.l2,Reg.l3]
    refine wpAnyH_done (by kernel_rfl) ?_ _
    refine NoPanic.normal ?_
    have RO:=Lib.hid (rangesOf_any hd5 (by have:=HN.out; have:=LD.out; omega))
    have KE:=Lib.hid (Og.all (K3.out.trans hr0) ko (Nat.le_trans K1.out.size HG.out.1))
    clear hd5
    go_wp2_with (go_at_call 103; (with_reducible refine (RO.out).mono ?_); rintro e w6 ⟨g2,rfl,hh1,hh2,hh3,k6⟩; have R6:=Lib.hid (And.intro hh1 (And.intro hh2 hh3)); have K6:=Lib.hid k6; clear hh1 hh2 hh3 k6)
    go_ret2
    exact rnr_yes (KE.out.trans K6.out) (Nat.le_trans KE.out.size R6.out.1) R6.out.2.1 (R6.out.2.2.low K1.out.size)
 · obtain⟨x,y,hcx,hv⟩:=two_of (ds:=ds) (c:=c) m3 (by omega)
   have HV0:=Lib.hid hv
   obtain⟨R,hR⟩:∃ R,absS (x:Int) (y:Int) ds=R:=⟨_,rfl⟩
   have HR:=Lib.hid hR
   rw[ariO_is hm hk (R:=R) (by rw[ariL,hcx]; rw[if_neg (by omega),if_neg (by omega),if_neg (by omega),if_pos hkk]; exact hR)]
   clear hR hm m1 m2 m3 hk
   obtain⟨vx,vy,rfl,h1,h2⟩:=h
   obtain⟨ck,cx,ca,cc⟩:=c
   simp only at *
   obtain⟨X,xc,rfl⟩:=h1.form
   obtain⟨Y,yc,rfl⟩:=h2.form
   obtain⟨D,dc,rfl⟩:=hd.form
   generalize hnx:cx.length=nx at *
   generalize hny:ca.length=ny at *
   generalize hnd:List.length ds=nd at *
   have ka:=Lib.hid (since_alloc w (.cells #[.int .i64 ck,.slice X nx xc,.slice Y ny yc,.int .i64 cc] 58))
   have BC:=Lib.hid (Bx.fresh w #[.int .i64 ck,.slice X nx xc,.slice Y ny yc,.int .i64 cc] 58)
   obtain⟨b0,b1,b2,b3⟩:=bx4 BC.out
   have hk7:ck=10:=hkk
   subst hk7
   subst hcx
   have LD:=Lib.hid hld
   have hnx3:nx=2:=by simpa using hnx.symm
   subst hnx3
   have HV:=Lib.hid (fun (n:Nat) (hn:n=nd)=>show x<n∧y<n from (by subst hn; exact HV0.out))
   clear h1 h2 hd hs hny hnd hld hv hkk hnx
   cases R with
   | none =>
    simp only[Option.isSome_none,Bool.false_eq_true,if_false,if_true]
    go_enter Try.func54,Try.ntmps54
    go_wp2_with (first | (go_at_call 95; (with_reducible refine (FT.out _ ka.out).mono ?_); rintro e w1 ⟨rfl,k1,-⟩; have K1:=Lib.hid (ka.out.trans k1); have L1:=Lib.hid k1; obtain⟨b0,b1,b2,b3⟩:=bx4 (BC.out.since k1); clear k1) | (go_at_call 96; (with_reducible refine (DO.out _ K1.out).mono ?_); rintro e w2 ⟨g,n,rfl,hn2,hg1,hg2,hD2,k2⟩; have HN:=Lib.hid hn2; have HG:=Lib.hid (And.intro hg1 hg2); have M2:=Lib.hid (DM.mk hD2 hg1 hg2 GD.out); have L2:=Lib.hid (L1.out.trans k2); have K2:=Lib.hid (K1.out.trans k2); obtain⟨b0,b1,b2,b3⟩:=bx4 (BC.out.since L2.out); clear k2 hn2 hg1 hg2 hD2) | (go_at_call 97; (with_reducible refine (VA.out _ K2.out g n HN.out).mono ?_); rintro e w3 ⟨A3,c3,rfl,hV3,k3⟩; have V3:=Lib.hid hV3; have M3:=Lib.hid (M2.out.since k3); have K3:=Lib.hid (K2.out.trans k3); obtain⟨b0,b1,b2,b3⟩:=bx4 (BC.out.since (L2.out.trans k3)); clear k3 hV3))
    obtain⟨ba,oa,y9,rfl,-,-⟩:=el1 V3.out (i:=0) (by simp)
    have E0:=Lib.hid (fun W (k:Since w3 W)=>show W.cell? ⟨ba,oa,none⟩=some (.pointer (some ⟨g,x,none⟩)) from (by obtain⟨bb,ob,yy,ee,qq,cc9⟩:=el1 (V3.out.since (fun _ _ _ _ h _=>h) k) (i:=0) (by simp); injection ee with ee; injection ee with e7 e8; subst e7 e8; injection qq with qq; subst qq; exact cc9))
    have E1:=Lib.hid (fun W (k:Since w3 W)=>show W.cell? ⟨ba,oa+1,none⟩=some (.pointer (some ⟨g,y,none⟩)) from (by obtain⟨bb,ob,yy,ee,qq,cc9⟩:=el1 (V3.out.since (fun _ _ _ _ h _=>h) k) (i:=1) (by simp); injection ee with ee; injection ee with e7 e8; subst e7 e8; injection qq with qq; subst qq; exact cc9))
    have TI:=Lib.hid (fun W (k:Since w3 W)=>(abs_d (M3.out.since k) (HV.out _ HN.out).1 (HV.out _ HN.out).2).mono fun e w' hh=>RetS.is_none hh (HR.out))
    have hr0:Since w3 w3.drew:=Since.drew (Since.refl w3)
    refine wp_region_noPanic ?_
    refine Reg.wp_region_G (S:=fun _=>True) (fun j => [6,7].contains j) (by kernel_rfl) trivial ?_
    refine' Reg.tk3 (i := 0) (v := _) (some 58) [1, 2, 6, 7] [6, 7] rfl (Or.inl ⟨by rfl, Or.inl ?hy61⟩) ?r_61
    case hy61=>(intro w' kk ss; have y0:=E0.out _ (hr0.trans kk); have y1:=E1.out _ (hr0.trans kk); go_simp; first | done | with_reducible rfl)
    try simp only[Act.put,Reg.l1,Reg.l2,Reg.l3]
    refine' Reg.tk3 (i := 1) (v := _) (some 59) [2, 6, 7] [6, 7] rfl (Or.inl ⟨by rfl, Or.inl ?hy62⟩) ?r_62
    case hy62=>(intro w' kk ss; have y0:=E0.out _ (hr0.trans kk); have y1:=E1.out _ (hr0.trans kk); go_simp; first | done | with_reducible rfl)
    try simp only[Act.put,Reg.l1,Reg.l2,Reg.l3]
    refine' Reg.tk3 (i := 2) (v := _) (some 60) [6, 7] [6, 7] rfl (Or.inl ⟨by rfl, Or.inl ?hy63⟩) ?r_63
    case hy63=>(intro w' kk ss; have y0:=E0.out _ (hr0.trans kk); have y1:=E1.out _ (hr0.trans kk); go_simp; first | done | with_reducible rfl)
    try simp only[Act.put,Reg.l1,Reg.l2,Reg.l3]
    refine' Reg.tk3 (i := 3) (v := _) (some 61) [4, 5, 6, 7] [6, 7] rfl (Or.inl ⟨by rfl, Or.inl ?hy64⟩) ?r_64
    case hy64=>(intro w' kk ss; have y0:=E0.out _ (hr0.trans kk); have y1:=E1.out _ (hr0.trans kk); go_simp; first | done | with_reducible rfl)
    try simp only[Act.put,Reg.l1,Reg.l2,Reg.l3]
    refine' Reg.tk3 (i := 4) (v := _) (some 62) [5, 6, 7] [6, 7] rfl (Or.inl ⟨by rfl, Or.inl ?hy65⟩) ?r_65
    case hy65=>(intro w' kk ss; have y0:=E0.out _ (hr0.trans kk); have y1:=E1.out _ (hr0.trans kk); go_simp; first | done | with_reducible rfl)
    try simp only[Act.put,Reg.l1,Reg.l2,Reg.l3]
    refine' Reg.tk3 (i := 5) (v := _) (some 63) [6, 7] [6, 7] rfl (Or.inl ⟨by rfl, Or.inl ?hy66⟩) ?r_66
    case hy66=>(intro w' kk ss; have y0:=E0.out _ (hr0.trans kk); have y1:=E1.out _ (hr0.trans kk); go_simp; first | done | with_reducible rfl)
    try simp only[Act.put,Reg.l1,Reg.l2,Reg.l3]
    refine Reg.wpG_ready (rs:=[6]) (by kernel_rfl) (by simp) (fun wq kq sq => ?_)
    have hr0:=hr0.trans kq
    refine Reg.AllG.last (o := { dst := some 64, op := Op.call { callee := Callee.value (Operand.func 101), args := #[Operand.tmp 60, Operand.tmp 63], argTypes := #[112, 112] }, type := 4, pos := "arith.go:25", after := #[{ on := 2, ground := Ground.data }, { on := 5, ground := Ground.data }], guard := none }) rfl (by rfl) (fun K hK => ?_) Reg.AllG.nil
    go_simp
    (with_reducible refine (TI.out wq hr0).mono ?_)
    rintro e yw ⟨rfl,ko⟩
    refine hK.out _ _ trivial (fun hHeld => ?_)
    clear hK K
    try simp only[Act.put,Reg.l1,Reg.l2,Reg.l3]
    refine' Reg.ah3 (i := 7) (v := _) (some 8) rfl (by kernel_rfl) (by kernel_rfl) (by kernel_rfl) (fun _ _ _ h => h) (Or.inl ⟨by rfl, ?hy67⟩) (by assumption) ?r_67
    case hy67=>(intro w' ss; (try dsimp only at ss); go_simp; first | done | with_reducible rfl)
    try simp only[Act.put,Reg.l1,Reg.l2,Reg.l3]
    refine wpAnyH_done (by kernel_rfl) ?_ _
    refine NoPanic.normal ?_
    go_wp2
    go_ret2
    exact rnr_no (Og.all (K3.out.trans hr0) ko (Nat.le_trans K1.out.size HG.out.1))
   | some E =>
    simp only[Option.isSome_some,Bool.false_eq_true,if_false,if_true]
    go_enter Try.func54,Try.ntmps54
    go_wp2_with (first | (go_at_call 95; (with_reducible refine (FT.out _ ka.out).mono ?_); rintro e w1 ⟨rfl,k1,-⟩; have K1:=Lib.hid (ka.out.trans k1); have L1:=Lib.hid k1; obtain⟨b0,b1,b2,b3⟩:=bx4 (BC.out.since k1); clear k1) | (go_at_call 96; (with_reducible refine (DO.out _ K1.out).mono ?_); rintro e w2 ⟨g,n,rfl,hn2,hg1,hg2,hD2,k2⟩; have HN:=Lib.hid hn2; have HG:=Lib.hid (And.intro hg1 hg2); have M2:=Lib.hid (DM.mk hD2 hg1 hg2 GD.out); have L2:=Lib.hid (L1.out.trans k2); have K2:=Lib.hid (K1.out.trans k2); obtain⟨b0,b1,b2,b3⟩:=bx4 (BC.out.since L2.out); clear k2 hn2 hg1 hg2 hD2) | (go_at_call 97; (with_reducible refine (VA.out _ K2.out g n HN.out).mono ?_); rintro e w3 ⟨A3,c3,rfl,hV3,k3⟩; have V3:=Lib.hid hV3; have M3:=Lib.hid (M2.out.since k3); have K3:=Lib.hid (K2.out.trans k3); obtain⟨b0,b1,b2,b3⟩:=bx4 (BC.out.since (L2.out.trans k3)); clear k3 hV3))
    obtain⟨ba,oa,y9,rfl,-,-⟩:=el1 V3.out (i:=0) (by simp)
    have E0:=Lib.hid (fun W (k:Since w3 W)=>show W.cell? ⟨ba,oa,none⟩=some (.pointer (some ⟨g,x,none⟩)) from (by obtain⟨bb,ob,yy,ee,qq,cc9⟩:=el1 (V3.out.since (fun _ _ _ _ h _=>h) k) (i:=0) (by simp); injection ee with ee; injection ee with e7 e8; subst e7 e8; injection qq with qq; subst qq; exact cc9))
    have E1:=Lib.hid (fun W (k:Since w3 W)=>show W.cell? ⟨ba,oa+1,none⟩=some (.pointer (some ⟨g,y,none⟩)) from (by obtain⟨bb,ob,yy,ee,qq,cc9⟩:=el1 (V3.out.since (fun _ _ _ _ h _=>h) k) (i:=1) (by simp); injection ee with ee; injection ee with e7 e8; subst e7 e8; injection qq with qq; subst qq; exact cc9))
    have TI:=Lib.hid (fun W (k:Since w3 W)=>(abs_d (M3.out.since k) (HV.out _ HN.out).1 (HV.out _ HN.out).2).mono fun e w' hh=>RetS.is_some hh (HR.out))
    have hr0:Since w3 w3.drew:=Since.drew (Since.refl w3)
    refine wp_region_noPanic ?_
    refine Reg.wp_region_G (S:=fun _=>True) (fun j => [6,7].contains j) (by kernel_rfl) trivial ?_
    refine' Reg.tk3 (i := 0) (v := _) (some 58) [1, 2, 6, 7] [6, 7] rfl (Or.inl ⟨by rfl, Or.inl ?hy68⟩) ?r_68
    case hy68=>(intro w' kk ss; have y0:=E0.out _ (hr0.trans kk); have y1:=E1.out _ (hr0.trans kk); go_simp; first | done | with_reducible rfl)
    try simp only[Act.put,Reg.l1,Reg.l2,Reg.l3]
    refine' Reg.tk3 (i := 1) (v := _) (some 59) [2, 6, 7] [6, 7] rfl (Or.inl ⟨by rfl, Or.inl ?hy69⟩) ?r_69
    case hy69=>(intro w' kk ss; have y0:=E0.out _ (hr0.trans kk); have y1:=E1.out _ (hr0.trans kk); go_simp; first | done | with_reducible rfl)
    try simp only[Act.put,Reg.l1,Reg.l2,Reg.l3]
    refine' Reg.tk3 (i := 2) (v := _) (some 60) [6, 7] [6, 7] rfl (Or.inl ⟨by rfl, Or.inl ?hy70⟩) ?r_70
    case hy70=>(intro w' kk ss; have y0:=E0.out _ (hr0.trans kk); have y1:=E1.out _ (hr0.trans kk); go_simp; first | done | with_reducible rfl)
    try simp only[Act.put,Reg.l1,Reg.l2,Reg.l3]
    refine' Reg.tk3 (i := 3) (v := _) (some 61) [4, 5, 6, 7] [6, 7] rfl (Or.inl ⟨by rfl, Or.inl ?hy71⟩) ?r_71
    case hy71=>(intro w' kk ss; have y0:=E0.out _ (hr0.trans kk); have y1:=E1.out _ (hr0.trans kk); go_simp; first | done | with_reducible rfl)
    try simp only[Act.put,Reg.l1,Reg.l2,Reg.l3]
    refine' Reg.tk3 (i := 4) (v := _) (some 62) [5, 6, 7] [6, 7] rfl (Or.inl ⟨by rfl, Or.inl ?hy72⟩) ?r_72
    case hy72=>(intro w' kk ss; have y0:=E0.out _ (hr0.trans kk); have y1:=E1.out _ (hr0.trans kk); go_simp; first | done | with_reducible rfl)
    try simp only[Act.put,Reg.l1,Reg.l2,Reg.l3]
    refine' Reg.tk3 (i := 5) (v := _) (some 63) [6, 7] [6, 7] rfl (Or.inl ⟨by rfl, Or.inl ?hy73⟩) ?r_73
    case hy73=>(intro w' kk ss; have y0:=E0.out _ (hr0.trans kk); have y1:=E1.out _ (hr0.trans kk); go_simp; first | done | with_reducible rfl)
    try simp only[Act.put,Reg.l1,Reg.l2,Reg.l3]
    refine Reg.wpG_ready (rs:=[6]) (by kernel_rfl) (by simp) (fun wq kq sq => ?_)
    have hr0:=hr0.trans kq
    refine Reg.AllG.last (o := { dst := some 64, op := Op.call { callee := Callee.value (Operand.func 101), args := #[Operand.tmp 60, Operand.tmp 63], argTypes := #[112, 112] }, type := 4, pos := "arith.go:25", after := #[{ on := 2, ground := Ground.data }, { on := 5, ground := Ground.data }], guard := none }) rfl (by rfl) (fun K hK => ?_) Reg.AllG.nil
    go_simp
    (with_reducible refine (TI.out wq hr0).mono ?_)
    rintro e yw ⟨rfl,hd5,ko⟩
    refine hK.out _ _ trivial (fun hHeld => ?_)
    clear hK K
    try simp only[Act.put,Reg.l1,Reg.l2,Reg.l3]
    refine' Reg.ah3 (i := 7) (v := _) (some 8) rfl (by kernel_rfl) (by kernel_rfl) (by kernel_rfl) (fun _ _ _ h => h) (Or.inl ⟨by rfl, ?hy74⟩) (by assumption) ?r_74
    case hy74=>(intro w' ss; (try dsimp only at ss); go_simp; first | done | with_reducible rfl)
    try simp only[Act.put,Reg.l1,Reg.l2,Reg.l3]
    refine wpAnyH_done (by kernel_rfl) ?_ _
    refine NoPanic.normal ?_
    have RO:=Lib.hid (rangesOf_any hd5 (by have:=HN.out; have:=LD.out; omega))
    have KE:=Lib.hid (Og.all (K3.out.trans hr0) ko (Nat.le_trans K1.out.size HG.out.1))
    clear hd5
    go_wp2_with (go_at_call 103; (with_reducible refine (RO.out).mono ?_); rintro e w6 ⟨g2,rfl,hh1,hh2,hh3,k6⟩; have R6:=Lib.hid (And.intro hh1 (And.intro hh2 hh3)); have K6:=Lib.hid k6; clear hh1 hh2 hh3 k6)
    go_ret2
    exact rnr_yes (KE.out.trans K6.out) (Nat.le_trans KE.out.size R6.out.1) R6.out.2.1 (R6.out.2.2.low K1.out.size)
 · obtain⟨x,y,hcx,hv⟩:=two_of (ds:=ds) (c:=c) m3 (by omega)
   have HV0:=Lib.hid hv
   obtain⟨R,hR⟩:∃ R,samS (x:Int) (y:Int) ds=R:=⟨_,rfl⟩
   have HR:=Lib.hid hR
   rw[ariO_is hm hk (R:=R) (by rw[ariL,hcx]; rw[if_neg (by omega),if_neg (by omega),if_neg (by omega),if_neg (by omega)]; exact hR)]
   clear hR hm m1 m2 m3 hk
   obtain⟨vx,vy,rfl,h1,h2⟩:=h
   obtain⟨ck,cx,ca,cc⟩:=c
   simp only at *
   obtain⟨X,xc,rfl⟩:=h1.form
   obtain⟨Y,yc,rfl⟩:=h2.form
   obtain⟨D,dc,rfl⟩:=hd.form
   generalize hnx:cx.length=nx at *
   generalize hny:ca.length=ny at *
   generalize hnd:List.length ds=nd at *
   have ka:=Lib.hid (since_alloc w (.cells #[.int .i64 ck,.slice X nx xc,.slice Y ny yc,.int .i64 cc] 58))
   have BC:=Lib.hid (Bx.fresh w #[.int .i64 ck,.slice X nx xc,.slice Y ny yc,.int .i64 cc] 58)
   obtain⟨b0,b1,b2,b3⟩:=bx4 BC.out
   have hk7:ck=15:=hkk
   subst hk7
   subst hcx
   have LD:=Lib.hid hld
   have hnx3:nx=2:=by simpa using hnx.symm
   subst hnx3
   have HV:=Lib.hid (fun (n:Nat) (hn:n=nd)=>show x<n∧y<n from (by subst hn; exact HV0.out))
   clear h1 h2 hd hs hny hnd hld hv hkk hnx
   cases R with
   | none =>
    simp only[Option.isSome_none,Bool.false_eq_true,if_false,if_true]
    go_enter Try.func54,Try.ntmps54
    go_wp2_with (first | (go_at_call 95; (with_reducible refine (FT.out _ ka.out).mono ?_); rintro e w1 ⟨rfl,k1,-⟩; have K1:=Lib.hid (ka.out.trans k1); have L1:=Lib.hid k1; obtain⟨b0,b1,b2,b3⟩:=bx4 (BC.out.since k1); clear k1) | (go_at_call 96; (with_reducible refine (DO.out _ K1.out).mono ?_); rintro e w2 ⟨g,n,rfl,hn2,hg1,hg2,hD2,k2⟩; have HN:=Lib.hid hn2; have HG:=Lib.hid (And.intro hg1 hg2); have M2:=Lib.hid (DM.mk hD2 hg1 hg2 GD.out); have L2:=Lib.hid (L1.out.trans k2); have K2:=Lib.hid (K1.out.trans k2); obtain⟨b0,b1,b2,b3⟩:=bx4 (BC.out.since L2.out); clear k2 hn2 hg1 hg2 hD2) | (go_at_call 97; (with_reducible refine (VA.out _ K2.out g n HN.out).mono ?_); rintro e w3 ⟨A3,c3,rfl,hV3,k3⟩; have V3:=Lib.hid hV3; have M3:=Lib.hid (M2.out.since k3); have K3:=Lib.hid (K2.out.trans k3); obtain⟨b0,b1,b2,b3⟩:=bx4 (BC.out.since (L2.out.trans k3)); clear k3 hV3))
    obtain⟨ba,oa,y9,rfl,-,-⟩:=el1 V3.out (i:=0) (by simp)
    have E0:=Lib.hid (fun W (k:Since w3 W)=>show W.cell? ⟨ba,oa,none⟩=some (.pointer (some ⟨g,x,none⟩)) from (by obtain⟨bb,ob,yy,ee,qq,cc9⟩:=el1 (V3.out.since (fun _ _ _ _ h _=>h) k) (i:=0) (by simp); injection ee with ee; injection ee with e7 e8; subst e7 e8; injection qq with qq; subst qq; exact cc9))
    have E1:=Lib.hid (fun W (k:Since w3 W)=>show W.cell? ⟨ba,oa+1,none⟩=some (.pointer (some ⟨g,y,none⟩)) from (by obtain⟨bb,ob,yy,ee,qq,cc9⟩:=el1 (V3.out.since (fun _ _ _ _ h _=>h) k) (i:=1) (by simp); injection ee with ee; injection ee with e7 e8; subst e7 e8; injection qq with qq; subst qq; exact cc9))
    have TI:=Lib.hid (fun W (k:Since w3 W)=>(same_d (M3.out.since k) (HV.out _ HN.out).1 (HV.out _ HN.out).2).mono fun e w' hh=>RetS.is_none hh (HR.out))
    have hr0:Since w3 w3.drew:=Since.drew (Since.refl w3)
    refine wp_region_noPanic ?_
    refine Reg.wp_region_G (S:=fun _=>True) (fun j => [6,7].contains j) (by kernel_rfl) trivial ?_
    refine' Reg.tk3 (i := 0) (v := _) (some 67) [1, 2, 6, 7] [6, 7] rfl (Or.inl ⟨by rfl, Or.inl ?hy75⟩) ?r_75
    case hy75=>(intro w' kk ss; have y0:=E0.out _ (hr0.trans kk); have y1:=E1.out _ (hr0.trans kk); go_simp; first | done | with_reducible rfl)
    try simp only[Act.put,Reg.l1,Reg.l2,Reg.l3]
    refine' Reg.tk3 (i := 1) (v := _) (some 68) [2, 6, 7] [6, 7] rfl (Or.inl ⟨by rfl, Or.inl ?hy76⟩) ?r_76
    case hy76=>(intro w' kk ss; have y0:=E0.out _ (hr0.trans kk); have y1:=E1.out _ (hr0.trans kk); go_simp; first | done | with_reducible rfl)
    try simp only[Act.put,Reg.l1,Reg.l2,Reg.l3]
    refine' Reg.tk3 (i := 2) (v := _) (some 69) [6, 7] [6, 7] rfl (Or.inl ⟨by rfl, Or.inl ?hy77⟩) ?r_77
    case hy77=>(intro w' kk ss; have y0:=E0.out _ (hr0.trans kk); have y1:=E1.out _ (hr0.trans kk); go_simp; first | done | with_reducible rfl)
    try simp only[Act.put,Reg.l1,Reg.l2,Reg.l3]
    refine' Reg.tk3 (i := 3) (v := _) (some 70) [4, 5, 6, 7] [6, 7] rfl (Or.inl ⟨by rfl, Or.inl ?hy78⟩) ?r_78
    case hy78=>(intro w' kk ss; have y0:=E0.out _ (hr0.trans kk); have y1:=E1.out _ (hr0.trans kk); go_simp; first | done | with_reducible rfl)
    try simp only[Act.put,Reg.l1,Reg.l2,Reg.l3]
    refine' Reg.tk3 (i := 4) (v := _) (some 71) [5, 6, 7] [6, 7] rfl (Or.inl ⟨by rfl, Or.inl ?hy79⟩) ?r_79
    case hy79=>(intro w' kk ss; have y0:=E0.out _ (hr0.trans kk); have y1:=E1.out _ (hr0.trans kk); go_simp; first | done | with_reducible rfl)
    try simp only[Act.put,Reg.l1,Reg.l2,Reg.l3]
    refine' Reg.tk3 (i := 5) (v := _) (some 72) [6, 7] [6, 7] rfl (Or.inl ⟨by rfl, Or.inl ?hy80⟩) ?r_80
    case hy80=>(intro w' kk ss; have y0:=E0.out _ (hr0.trans kk); have y1:=E1.out _ (hr0.trans kk); go_simp; first | done | with_reducible rfl)
    try simp only[Act.put,Reg.l1,Reg.l2,Reg.l3]
    refine Reg.wpG_ready (rs:=[6]) (by kernel_rfl) (by simp) (fun wq kq sq => ?_)
    have hr0:=hr0.trans kq
    refine Reg.AllG.last (o := { dst := some 73, op := Op.call { callee := Callee.value (Operand.func 102), args := #[Operand.tmp 69, Operand.tmp 72], argTypes := #[112, 112] }, type := 4, pos := "arith.go:27", after := #[{ on := 2, ground := Ground.data }, { on := 5, ground := Ground.data }], guard := none }) rfl (by rfl) (fun K hK => ?_) Reg.AllG.nil
    go_simp
    (with_reducible refine (TI.out wq hr0).mono ?_)
    rintro e yw ⟨rfl,ko⟩
    refine hK.out _ _ trivial (fun hHeld => ?_)
    clear hK K
    try simp only[Act.put,Reg.l1,Reg.l2,Reg.l3]
    refine' Reg.ah3 (i := 7) (v := _) (some 8) rfl (by kernel_rfl) (by kernel_rfl) (by kernel_rfl) (fun _ _ _ h => h) (Or.inl ⟨by rfl, ?hy81⟩) (by assumption) ?r_81
    case hy81=>(intro w' ss; (try dsimp only at ss); go_simp; first | done | with_reducible rfl)
    try simp only[Act.put,Reg.l1,Reg.l2,Reg.l3]
    refine wpAnyH_done (by kernel_rfl) ?_ _
    refine NoPanic.normal ?_
    go_wp2
    go_ret2
    exact rnr_no (Og.all (K3.out.trans hr0) ko (Nat.le_trans K1.out.size HG.out.1))
   | some E =>
    simp only[Option.isSome_some,Bool.false_eq_true,if_false,if_true]
    go_enter Try.func54,Try.ntmps54
    go_wp2_with (first | (go_at_call 95; (with_reducible refine (FT.out _ ka.out).mono ?_); rintro e w1 ⟨rfl,k1,-⟩; have K1:=Lib.hid (ka.out.trans k1); have L1:=Lib.hid k1; obtain⟨b0,b1,b2,b3⟩:=bx4 (BC.out.since k1); clear k1) | (go_at_call 96; (with_reducible refine (DO.out _ K1.out).mono ?_); rintro e w2 ⟨g,n,rfl,hn2,hg1,hg2,hD2,k2⟩; have HN:=Lib.hid hn2; have HG:=Lib.hid (And.intro hg1 hg2); have M2:=Lib.hid (DM.mk hD2 hg1 hg2 GD.out); have L2:=Lib.hid (L1.out.trans k2); have K2:=Lib.hid (K1.out.trans k2); obtain⟨b0,b1,b2,b3⟩:=bx4 (BC.out.since L2.out); clear k2 hn2 hg1 hg2 hD2) | (go_at_call 97; (with_reducible refine (VA.out _ K2.out g n HN.out).mono ?_); rintro e w3 ⟨A3,c3,rfl,hV3,k3⟩; have V3:=Lib.hid hV3; have M3:=Lib.hid (M2.out.since k3); have K3:=Lib.hid (K2.out.trans k3); obtain⟨b0,b1,b2,b3⟩:=bx4 (BC.out.since (L2.out.trans k3)); clear k3 hV3))
    obtain⟨ba,oa,y9,rfl,-,-⟩:=el1 V3.out (i:=0) (by simp)
    have E0:=Lib.hid (fun W (k:Since w3 W)=>show W.cell? ⟨ba,oa,none⟩=some (.pointer (some ⟨g,x,none⟩)) from (by obtain⟨bb,ob,yy,ee,qq,cc9⟩:=el1 (V3.out.since (fun _ _ _ _ h _=>h) k) (i:=0) (by simp); injection ee with ee; injection ee with e7 e8; subst e7 e8; injection qq with qq; subst qq; exact cc9))
    have E1:=Lib.hid (fun W (k:Since w3 W)=>show W.cell? ⟨ba,oa+1,none⟩=some (.pointer (some ⟨g,y,none⟩)) from (by obtain⟨bb,ob,yy,ee,qq,cc9⟩:=el1 (V3.out.since (fun _ _ _ _ h _=>h) k) (i:=1) (by simp); injection ee with ee; injection ee with e7 e8; subst e7 e8; injection qq with qq; subst qq; exact cc9))
    have TI:=Lib.hid (fun W (k:Since w3 W)=>(same_d (M3.out.since k) (HV.out _ HN.out).1 (HV.out _ HN.out).2).mono fun e w' hh=>RetS.is_some hh (HR.out))
    have hr0:Since w3 w3.drew:=Since.drew (Since.refl w3)
    refine wp_region_noPanic ?_
    refine Reg.wp_region_G (S:=fun _=>True) (fun j => [6,7].contains j) (by kernel_rfl) trivial ?_
    refine' Reg.tk3 (i := 0) (v := _) (some 67) [1, 2, 6, 7] [6, 7] rfl (Or.inl ⟨by rfl, Or.inl ?hy82⟩) ?r_82
    case hy82=>(intro w' kk ss; have y0:=E0.out _ (hr0.trans kk); have y1:=E1.out _ (hr0.trans kk); go_simp; first | done | with_reducible rfl)
    try simp only[Act.put,Reg.l1,Reg.l2,Reg.l3]
    refine' Reg.tk3 (i := 1) (v := _) (some 68) [2, 6, 7] [6, 7] rfl (Or.inl ⟨by rfl, Or.inl ?hy83⟩) ?r_83
    case hy83=>(intro w' kk ss; have y0:=E0.out _ (hr0.trans kk); have y1:=E1.out _ (hr0.trans kk); go_simp; first | done | with_reducible rfl)
    try simp only[Act.put,Reg.l1,Reg.l2,Reg.l3]
    refine' Reg.tk3 (i := 2) (v := _) (some 69) [6, 7] [6, 7] rfl (Or.inl ⟨by rfl, Or.inl ?hy84⟩) ?r_84
    case hy84=>(intro w' kk ss; have y0:=E0.out _ (hr0.trans kk); have y1:=E1.out _ (hr0.trans kk); go_simp; first | done | with_reducible rfl)
    try simp only[Act.put,Reg.l1,Reg.l2,Reg.l3]
    refine' Reg.tk3 (i := 3) (v := _) (some 70) [4, 5, 6, 7] [6, 7] rfl (Or.inl ⟨by rfl, Or.inl ?hy85⟩) ?r_85
    case hy85=>(intro w' kk ss; have y0:=E0.out _ (hr0.trans kk); have y1:=E1.out _ (hr0.trans kk); go_simp; first | done | with_reducible rfl)
    try simp only[Act.put,Reg.l1,Reg.l2,Reg.l3]
    refine' Reg.tk3 (i := 4) (v := _) (some 71) [5, 6, 7] [6, 7] rfl (Or.inl ⟨by rfl, Or.inl ?hy86⟩) ?r_86
    case hy86=>(intro w' kk ss; have y0:=E0.out _ (hr0.trans kk); have y1:=E1.out _ (hr0.trans kk); go_simp; first | done | with_reducible rfl)
    try simp only[Act.put,Reg.l1,Reg.l2,Reg.l3]
    refine' Reg.tk3 (i := 5) (v := _) (some 72) [6, 7] [6, 7] rfl (Or.inl ⟨by rfl, Or.inl ?hy87⟩) ?r_87
    case hy87=>(intro w' kk ss; have y0:=E0.out _ (hr0.trans kk); have y1:=E1.out _ (hr0.trans kk); go_simp; first | done | with_reducible rfl)
    try simp only[Act.put,Reg.l1,Reg.l2,Reg.l3]
    refine Reg.wpG_ready (rs:=[6]) (by kernel_rfl) (by simp) (fun wq kq sq => ?_)
    have hr0:=hr0.trans kq
    refine Reg.AllG.last (o := { dst := some 73, op := Op.call { callee := Callee.value (Operand.func 102), args := #[Operand.tmp 69, Operand.tmp 72], argTypes := #[112, 112] }, type := 4, pos := "arith.go:27", after := #[{ on := 2, ground := Ground.data }, { on := 5, ground := Ground.data }], guard := none }) rfl (by rfl) (fun K hK => ?_) Reg.AllG.nil
    go_simp
    (with_reducible refine (TI.out wq hr0).mono ?_)
    rintro e yw ⟨rfl,hd5,ko⟩
    refine hK.out _ _ trivial (fun hHeld => ?_)
    clear hK K
    try simp only[Act.put,Reg.l1,Reg.l2,Reg.l3]
    refine' Reg.ah3 (i := 7) (v := _) (some 8) rfl (by kernel_rfl) (by kernel_rfl) (by kernel_rfl) (fun _ _ _ h => h) (Or.inl ⟨by rfl, ?hy88⟩) (by assumption) ?r_88
    case hy88=>(intro w' ss; (try dsimp only at ss); go_simp; first | done | with_reducible rfl)
    try simp only[Act.put,Reg.l1,Reg.l2,Reg.l3]
    refine wpAnyH_done (by kernel_rfl) ?_ _
    refine NoPanic.normal ?_
    have RO:=Lib.hid (rangesOf_any hd5 (by have:=HN.out; have:=LD.out; omega))
    have KE:=Lib.hid (Og.all (K3.out.trans hr0) ko (Nat.le_trans K1.out.size HG.out.1))
    clear hd5
    go_wp2_with (go_at_call 103; (with_reducible refine (RO.out).mono ?_); rintro e w6 ⟨g2,rfl,hh1,hh2,hh3,k6⟩; have R6:=Lib.hid (And.intro hh1 (And.intro hh2 hh3)); have K6:=Lib.hid k6; clear hh1 hh2 hh3 k6)
    go_ret2
    exact rnr_yes (KE.out.trans K6.out) (Nat.le_trans KE.out.size R6.out.1) R6.out.2.1 (R6.out.2.2.low K1.out.size)
end Go.Proofs.Ytalcgjkegohhgaa.At
