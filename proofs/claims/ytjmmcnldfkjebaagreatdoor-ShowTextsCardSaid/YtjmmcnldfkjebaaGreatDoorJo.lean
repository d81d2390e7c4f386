/- The document's own parser: a Par, a Solve. -/
import Derived.BigRegion
import Derived.Deep.RegionHeld3
import Derived.Test.YtjmmcnldfkjebaaGreatDoorJm
set_option maxHeartbeats 8000000
set_option maxRecDepth 20000
namespace Go.Proofs.YtjmmcnldfkjebaaGreatDoor.Doc6
open Go.RowKit
set_option linter.unusedVariables false
set_option linter.unusedSimpArgs false
open Dig Lx Tk Ps Ti
open Fq
open Prs (Old)
theorem held_sx {W:World} {g g':Nat} {a0 a1 a2 a3 a4 b0 b1 b2 b3 b4 b5 b6 b7:Value} {t t':TypeId} (hs:Bx W g #[a0,a1,a2,a3,a4] t) (hx:Bx W g' #[b0,b1,b2,b3,b4,b5,b6,b7] t'):W.cell? ⟨g,0,none⟩=some (a0)∧W.cell? ⟨g,1,none⟩=some (a1)∧W.cell? ⟨g,2,none⟩=some (a2)∧W.cell? ⟨g,3,none⟩=some (a3)∧W.cell? ⟨g,4,none⟩=some (a4)∧W.cell? ⟨g',0,none⟩=some (b0)∧W.cell? ⟨g',1,none⟩=some (b1)∧W.cell? ⟨g',2,none⟩=some (b2)∧W.cell? ⟨g',3,none⟩=some (b3)∧W.cell? ⟨g',4,none⟩=some (b4)∧W.cell? ⟨g',5,none⟩=some (b5)∧W.cell? ⟨g',6,none⟩=some (b6)∧W.cell? ⟨g',7,none⟩=some (b7):=⟨hs.cell 0,hs.cell 1,hs.cell 2,hs.cell 3,hs.cell 4,hx.cell 0,hx.cell 1,hx.cell 2,hx.cell 3,hx.cell 4,hx.cell 5,hx.cell 6,hx.cell 7⟩
theorem held_since {W0:World} {g g':Nat} {a0 a1 a2 a3 a4 b0 b1 b2 b3 b4 b5 b6 b7:Value} {t t':TypeId} (hs:Bx W0 g #[a0,a1,a2,a3,a4] t) (hx:Bx W0 g' #[b0,b1,b2,b3,b4,b5,b6,b7] t'):∀ W,Since W0 W→W.cell? ⟨g,0,none⟩=some (a0)∧W.cell? ⟨g,1,none⟩=some (a1)∧W.cell? ⟨g,2,none⟩=some (a2)∧W.cell? ⟨g,3,none⟩=some (a3)∧W.cell? ⟨g,4,none⟩=some (a4)∧W.cell? ⟨g',0,none⟩=some (b0)∧W.cell? ⟨g',1,none⟩=some (b1)∧W.cell? ⟨g',2,none⟩=some (b2)∧W.cell? ⟨g',3,none⟩=some (b3)∧W.cell? ⟨g',4,none⟩=some (b4)∧W.cell? ⟨g',5,none⟩=some (b5)∧W.cell? ⟨g',6,none⟩=some (b6)∧W.cell? ⟨g',7,none⟩=some (b7):=fun W k=>held_sx (hs.since k) (hx.since k)
theorem held_put5 {W0:World} {g g':Nat} {a0 a1 a2 a3 a4 b0 b1 b2 b3 b4 b5 b6 b7:Value} {t t':TypeId} (hs:Bx W0 g #[a0,a1,a2,a3,a4] t) (hx:Bx W0 g' #[b0,b1,b2,b3,b4,b5,b6,b7] t') {r:Nat} (h1:g≠r) (h2:g'≠r):∀ W u0 u1 u2 u3 u4,Since W0 W→(put5 W r u0 u1 u2 u3 u4).cell? ⟨g,0,none⟩=some (a0)∧(put5 W r u0 u1 u2 u3 u4).cell? ⟨g,1,none⟩=some (a1)∧(put5 W r u0 u1 u2 u3 u4).cell? ⟨g,2,none⟩=some (a2)∧(put5 W r u0 u1 u2 u3 u4).cell? ⟨g,3,none⟩=some (a3)∧(put5 W r u0 u1 u2 u3 u4).cell? ⟨g,4,none⟩=some (a4)∧(put5 W r u0 u1 u2 u3 u4).cell? ⟨g',0,none⟩=some (b0)∧(put5 W r u0 u1 u2 u3 u4).cell? ⟨g',1,none⟩=some (b1)∧(put5 W r u0 u1 u2 u3 u4).cell? ⟨g',2,none⟩=some (b2)∧(put5 W r u0 u1 u2 u3 u4).cell? ⟨g',3,none⟩=some (b3)∧(put5 W r u0 u1 u2 u3 u4).cell? ⟨g',4,none⟩=some (b4)∧(put5 W r u0 u1 u2 u3 u4).cell? ⟨g',5,none⟩=some (b5)∧(put5 W r u0 u1 u2 u3 u4).cell? ⟨g',6,none⟩=some (b6)∧(put5 W r u0 u1 u2 u3 u4).cell? ⟨g',7,none⟩=some (b7):=fun W u0 u1 u2 u3 u4 k=>held_sx (bxfar5 (hs.since k) h1 _ _ _ _ _) (bxfar5 (hx.since k) h2 _ _ _ _ _)
theorem held_put13 {W0:World} {g g':Nat} {a0 a1 a2 a3 a4 b0 b1 b2 b3 b4 b5 b6 b7:Value} {t t':TypeId} (hs:Bx W0 g #[a0,a1,a2,a3,a4] t) (hx:Bx W0 g' #[b0,b1,b2,b3,b4,b5,b6,b7] t') {r r':Nat} (h1:g≠r) (h2:g'≠r) (h3:g≠r') (h4:g'≠r'):∀ W u0 u1 u2 u3 u4 v0 v1 v2 v3 v4 v5 v6 v7,Since W0 W→(put8 (put5 W r u0 u1 u2 u3 u4) r' v0 v1 v2 v3 v4 v5 v6 v7).cell? ⟨g,0,none⟩=some (a0)∧(put8 (put5 W r u0 u1 u2 u3 u4) r' v0 v1 v2 v3 v4 v5 v6 v7).cell? ⟨g,1,none⟩=some (a1)∧(put8 (put5 W r u0 u1 u2 u3 u4) r' v0 v1 v2 v3 v4 v5 v6 v7).cell? ⟨g,2,none⟩=some (a2)∧(put8 (put5 W r u0 u1 u2 u3 u4) r' v0 v1 v2 v3 v4 v5 v6 v7).cell? ⟨g,3,none⟩=some (a3)∧(put8 (put5 W r u0 u1 u2 u3 u4) r' v0 v1 v2 v3 v4 v5 v6 v7).cell? ⟨g,4,none⟩=some (a4)∧(put8 (put5 W r u0 u1 u2 u3 u4) r' v0 v1 v2 v3 v4 v5 v6 v7).cell? ⟨g',0,none⟩=some (b0)∧(put8 (put5 W r u0 u1 u2 u3 u4) r' v0 v1 v2 v3 v4 v5 v6 v7).cell? ⟨g',1,none⟩=some (b1)∧(put8 (put5 W r u0 u1 u2 u3 u4) r' v0 v1 v2 v3 v4 v5 v6 v7).cell? ⟨g',2,none⟩=some (b2)∧(put8 (put5 W r u0 u1 u2 u3 u4) r' v0 v1 v2 v3 v4 v5 v6 v7).cell? ⟨g',3,none⟩=some (b3)∧(put8 (put5 W r u0 u1 u2 u3 u4) r' v0 v1 v2 v3 v4 v5 v6 v7).cell? ⟨g',4,none⟩=some (b4)∧(put8 (put5 W r u0 u1 u2 u3 u4) r' v0 v1 v2 v3 v4 v5 v6 v7).cell? ⟨g',5,none⟩=some (b5)∧(put8 (put5 W r u0 u1 u2 u3 u4) r' v0 v1 v2 v3 v4 v5 v6 v7).cell? ⟨g',6,none⟩=some (b6)∧(put8 (put5 W r u0 u1 u2 u3 u4) r' v0 v1 v2 v3 v4 v5 v6 v7).cell? ⟨g',7,none⟩=some (b7):=fun W u0 u1 u2 u3 u4 v0 v1 v2 v3 v4 v5 v6 v7 k=>held_sx (bxfar8 (bxfar5 (hs.since k) h1 _ _ _ _ _) h3 _ _ _ _ _ _ _ _) (bxfar8 (bxfar5 (hx.since k) h2 _ _ _ _ _) h4 _ _ _ _ _ _ _ _)
theorem number_u (A:Option Addr) (m c:Nat) (n:Int) (ts:List Tv) (w:World) (H:Toks w (.slice A m c) ts) {i at_ er:Int} (h:(∃ k:Nat,k≤ts.length∧i=(k:Int)∧at_=0∧er=0)∨er≠0) :
 Calls Tryz.prog 137 #[.agg #[.slice A m c,.int .i64 i,.int .i64 n,.int .i64 at_,.int .i64 er]] w fun e w'=>∃ b,e = .returned (.bool b)∧((∃ k:Nat,k≤ts.length∧i=(k:Int)∧at_=0∧er=0∧b=numB ts k)∨(er≠0∧b=false))∧Since w w':=by
 rcases h with ⟨k,hk,rfl,rfl,rfl⟩ | h
 · refine (number_ok A m c n ts k w H).mono ?_
   rintro e w' ⟨rfl,hs⟩
   exact⟨_,rfl,.inl ⟨k,hk,rfl,rfl,rfl,rfl⟩,hs⟩
 · refine (number_no A m c n i at_ er w h).mono ?_
   rintro e w' ⟨rfl,hs⟩
   exact⟨_,rfl,.inr ⟨h,rfl⟩,hs⟩
def NumT (ts:List Tv):Prop:=∀ t ∈ ts,t.k=2→L t.s ≠ [116,114,117,101]∧L t.s ≠ [102,97,108,115,101]
theorem th_plain {β:Type} {ts:List Tv} {n:Int} {F:R β} {cl:Bs} {p0:Pl} {q:Pl→P β} {r:P β} {i at_ er:Int} (h:Th ts n F (alt cl (q p0) r) i at_ er) (hb:IsB ts cl i at_ er true) (hp:∀ t us,t ∈ ts→L t.s=cl→plain n (t :: us) = .ok p0 us):Th ts n F (bnd plain q) i at_ er:=by
 rcases hb with ⟨k,hk,rfl,rfl,rfl,hb⟩ | ⟨-,hb⟩
 · obtain⟨k',hF,-,e1,-⟩:=h.good rfl
   obtain rfl:k=k':=by omega
   have hlt:k<ts.length:=by
    apply Decidable.byContradiction; intro hn
    rw[drop_end (by omega)] at hb; cases hb
   have hd:=drop_tok hlt
   rw[hd] at hb hF
   have hL:L (ts.getD k .nil).s=cl:=by simpa [isW] using hb.symm
   have hm:ts.getD k .nil ∈ ts:=by rw[List.getD_eq_getElem?_getD,List.getElem?_eq_getElem hlt]; exact List.getElem_mem hlt
   refine .inl ⟨k,?_,hk,rfl,rfl,rfl⟩
   rw[hd]
   simp only[bnd,hp _ _ hm hL,R.bind]
   exact hF.trans (if_pos hb.symm)
 · cases hb
theorem plain_t {ts:List Tv} {n:Int} (hw:NumT ts) (t:Tv) (us:Ts) (hm:t ∈ ts) (h:L t.s = [116,114,117,101]):plain n (t :: us) = .ok ⟨2,1,nos⟩ us:=by
 have h2:¬ t.k=2:=fun e=>(hw t hm e).1 h
 simp only[plain,if_neg h2,h,if_true]
theorem plain_f {ts:List Tv} {n:Int} (hw:NumT ts) (t:Tv) (us:Ts) (hm:t ∈ ts) (h:L t.s = [102,97,108,115,101]):plain n (t :: us) = .ok ⟨2,0,nos⟩ us:=by
 have h2:¬ t.k=2:=fun e=>(hw t hm e).2 h
 simp only[plain,if_neg h2,h]
 rfl
theorem th_num {β:Type} {ts:List Tv} {n:Int} {F:R β} {q:Pl→P β} {i at_ er:Int} {b:Bool} (h:Th ts n F (bnd integer fun v=>q ⟨1,v,nos⟩) i at_ er) (hb:(∃ k:Nat,k≤ts.length∧i=(k:Int)∧at_=0∧er=0∧b=numB ts k)∨(er≠0∧b=false)) :
 (b=true→Th ts n F (bnd plain q) i at_ er)∧(b=false→er=0→∃ (k:Nat) (p:Int),i=(k:Int)∧at_=0∧F = .bad p (Cd ts k)):=by
 rcases hb with ⟨k,hk,rfl,rfl,rfl,rfl⟩ | ⟨he,rfl⟩
 · obtain⟨k',hF,-,e1,-⟩:=h.good rfl
   obtain rfl:k=k':=by omega
   refine⟨fun hb => ?_,fun hb _ => ?_⟩
   · obtain⟨h1,h2,h3⟩:=(num_drop (n:=n)).1 hb
     refine .inl ⟨k,?_,hk,rfl,rfl,rfl⟩
     rw[hF]
     simp only[bnd,h1,R.bind]
     rw[drop_tok h2,plain,if_pos h3]
   · obtain⟨p,hp⟩:=(num_drop (n:=n)).2 hb
     exact⟨k,p,rfl,rfl,hF.trans (by simp only[bnd,hp,R.bind])⟩
 · exact⟨fun e=>(by cases e),fun _ e=>absurd e he⟩
theorem th_wrong {β:Type} {ts:List Tv} {n:Int} {F:R β} {i at_ er:Int} (h:Th ts n F wrong i at_ er) (h0:er=0):∃ (k:Nat) (p:Int),i=(k:Int)∧at_=0∧F = .bad p (Cd ts k):=by
 obtain⟨k,hF,-,e1,e2⟩:=h.good h0
 exact⟨k,_,e1,e2,hF⟩
theorem bnd_wrong {α β:Type} (f:α→P β):bnd (wrong:P α) f=wrong:=rfl
theorem solve_ok (A:Option Addr) (m c:Nat) (n:Int) (ts:List Tv) (k0:Nat) (w:World) (H:Toks w (.slice A m c) ts) (hl:ts.length≤10000) (hk0:k0≤ts.length) :
 Calls Tryz.prog 114 #[.agg #[.slice A m c,.int .i64 (k0:Int),.int .i64 n,.int .i64 0,.int .i64 0]] w (Got (VI w) ZI A m c n ts (solve n (ts.drop k0)) w):=by
 obtain⟨r,hr⟩:∃ r,r=solve n (ts.drop k0):=⟨_,rfl⟩
 rw[← hr]
 have HTL:=lH hl
 have T0:=lH (show Th ts n r solve (k0:Int) 0 0 from .inl ⟨k0,hr,hk0,rfl,rfl,rfl⟩)
 have t0:=T0.out
 unfold solve at t0
 have K0:=lH (fun W (kk:Since w W) (i a e:Int) (h:(∃ k:Nat,k≤ts.length∧i=(k:Int)∧a=0∧e=0)∨e≠0)=>is_u A m c n ts ⟨#[115,97,116,105,115,102,121]⟩ [115,97,116,105,115,102,121] rfl (by decide) W (H.since kk) h)
 have K1:=lH (fun W (kk:Since w W) (i a e:Int) (h:(∃ k:Nat,k≤ts.length∧i=(k:Int)∧a=0∧e=0)∨e≠0)=>is_u A m c n ts ⟨#[109,105,110,105,109,105,122,101]⟩ [109,105,110,105,109,105,122,101] rfl (by decide) W (H.since kk) h)
 have K2:=lH (fun W (kk:Since w W) (i a e:Int) (h:(∃ k:Nat,k≤ts.length∧i=(k:Int)∧a=0∧e=0)∨e≠0)=>is_u A m c n ts ⟨#[109,97,120,105,109,105,122,101]⟩ [109,97,120,105,109,105,122,101] rfl (by decide) W (H.since kk) h)
 have NM:=lH (fun W (kk:Since w W) (q:ByteArray→P It) (i a e:Int) (h:Th ts n r (bnd name q) i a e)=>name_u A m c n ts W (H.since kk) hl h)
 have WR:=lH (fun k W (kk:Since w W)=>wrong_ok A m c n ts k W (H.since kk))
 have HK0:=lH hk0
 clear H hr hl hk0 T0
 have X1:=lH (bx_new (Since.refl w) #[.slice A m c,.int .i64 (k0:Int),.int .i64 n,.int .i64 0,.int .i64 0] 127 (g:=w.heap.size) (by simp))
 have S2:=lH (Since.trans (Since.refl w) (sA _ (.cells #[.slice A m c,.int .i64 (k0:Int),.int .i64 n,.int .i64 0,.int .i64 0] 127)))
 have a1_:=sal S2.out (.cells #[.slice none 0 0,.int .i64 0,.int .i64 0,.int .i64 0,.int .i64 0] 127)
 have X3:=lH (Bx.since X1.out a1_)
 have X4:=lH (bx_new S2.out #[.slice none 0 0,.int .i64 0,.int .i64 0,.int .i64 0,.int .i64 0] 127 (g:=w.heap.size+1) (by simp))
 have S5:=lH (Since.trans S2.out a1_)
 have a2_:=sal S5.out (.cells #[.int .i64 0,.string ⟨#[]⟩,.bool false,.slice none 0 0,.int .i64 0,.bool false,.slice none 0 0,.int .i64 0] 28)
 have X6:=lH (Bx.since X3.out a2_)
 have X7:=lH (Bx.since X4.out a2_)
 have X8:=lH (bx_new S5.out #[.int .i64 0,.string ⟨#[]⟩,.bool false,.slice none 0 0,.int .i64 0,.bool false,.slice none 0 0,.int .i64 0] 28 (g:=w.heap.size+1+1) (by simp))
 have S9:=lH (Since.trans S5.out a2_)
 have a3_:=sal S9.out (.cells #[.int .i64 6,.string ⟨#[]⟩,.bool false,.slice none 0 0,.int .i64 0,.bool false,.slice none 0 0,.int .i64 0] 28)
 have X10:=lH (Bx.since X6.out a3_)
 have X11:=lH (Bx.since X7.out a3_)
 have X12:=lH (Bx.since X8.out a3_)
 have X13:=lH (bx_new S9.out #[.int .i64 6,.string ⟨#[]⟩,.bool false,.slice none 0 0,.int .i64 0,.bool false,.slice none 0 0,.int .i64 0] 28 (g:=w.heap.size+1+1+1) (by simp))
 have S14:=lH (Since.trans S9.out a3_)
 obtain⟨_,_,_,_,_⟩:=bx5 X10.out
 obtain⟨_,_,_,_,_⟩:=bx5' X10.out
 go_enter Tryz.func114,Tryz.ntmps114
 go_wp2_with fail
 (with_reducible refine (K0.out _ S14.out _ _ _ (Th.st t0)).mono ?_)
 rintro e1 w1 ⟨b1,rfl,hb1,h1⟩
 have z_w1:=h1.size; try simp at z_w1
 cases b1 with
 | false =>
  have tm:=Th.no t0 hb1
  obtain⟨_,_,_,_,_⟩:=bx5 (Bx.since X10.out h1)
  obtain⟨_,_,_,_,_⟩:=bx5' (Bx.since X10.out h1)
  go_wp2_with fail
  (with_reducible refine (K1.out _ (Since.trans S14.out h1) _ _ _ (Th.st tm)).mono ?_)
  rintro e2 w2 ⟨b2,rfl,hb2,h2⟩
  have z_w2:=h2.size; try simp at z_w2
  cases b2 with
  | false =>
   have tx:=Th.no tm hb2
   have u4_:=h1.trans h2
   obtain⟨_,_,_,_,_⟩:=bx5 (Bx.since X10.out u4_)
   obtain⟨_,_,_,_,_⟩:=bx5' (Bx.since X10.out u4_)
   go_wp2_with fail
   (with_reducible refine (K2.out _ (Since.trans (Since.trans S14.out h1) h2) _ _ _ (Th.st tx)).mono ?_)
   rintro e5 w5 ⟨b5,rfl,hb5,h5⟩
   have z_w5:=h5.size; try simp at z_w5
   cases b5 with
   | false =>
    have tw:=Th.no tx hb5
    obtain⟨kw,p,ek,ea,hbad⟩:=th_wrong tw rfl
    obtain rfl:k0=kw:=by omega
    have HBAD:=lH hbad
    clear hbad ek ea
    have u5_:=h1.trans (h2.trans h5)
    have G0:=lH (held_since (Bx.since X10.out u5_) (Bx.since X13.out u5_))
    have G5:=lH (held_put5 (Bx.since X10.out u5_) (Bx.since X13.out u5_) (r:=w.heap.size+1) (by omega) (by omega))
    have G13:=lH (held_put13 (Bx.since X10.out u5_) (Bx.since X13.out u5_) (r:=w.heap.size+1) (r':=w.heap.size+1+1) (by omega) (by omega) (by omega) (by omega))
    go_wp2
    go_region_held3 (fun W=>W.cell? ⟨w.heap.size,0,none⟩=some (.slice A m c)∧W.cell? ⟨w.heap.size,1,none⟩=some (.int .i64 (k0:Int))∧W.cell? ⟨w.heap.size,2,none⟩=some (.int .i64 n)∧W.cell? ⟨w.heap.size,3,none⟩=some (.int .i64 0)∧W.cell? ⟨w.heap.size,4,none⟩=some (.int .i64 0)∧W.cell? ⟨w.heap.size+1+1+1,0,none⟩=some (.int .i64 6)∧W.cell? ⟨w.heap.size+1+1+1,1,none⟩=some (.string ⟨#[]⟩)∧W.cell? ⟨w.heap.size+1+1+1,2,none⟩=some (.bool false)∧W.cell? ⟨w.heap.size+1+1+1,3,none⟩=some (.slice none 0 0)∧W.cell? ⟨w.heap.size+1+1+1,4,none⟩=some (.int .i64 0)∧W.cell? ⟨w.heap.size+1+1+1,5,none⟩=some (.bool false)∧W.cell? ⟨w.heap.size+1+1+1,6,none⟩=some (.slice none 0 0)∧W.cell? ⟨w.heap.size+1+1+1,7,none⟩=some (.int .i64 0))
     (first | with_reducible exact G13.out _ _ _ _ _ _ _ _ _ _ _ _ _ _ kd | with_reducible exact G5.out _ _ _ _ _ _ kd | with_reducible exact G0.out _ kd | with_reducible exact G0.out _ (Since.drew (Since.refl _)))
     (first | (go_at_call 115; (with_reducible refine (WR.out k0 _ (Since.trans (Since.trans (Since.trans (Since.trans S14.out h1) h2) h5) (Since.drew (Since.refl _)))).mono ?_); rintro e0 wn ⟨iw,aw,ew,rfl,hec,hn⟩; have kd:=(Since.drew (Since.refl _)).trans hn; obtain⟨ca0,ca1,ca2,ca3,ca4⟩:=bx5 (Bx.since (Bx.since (Bx.since (Bx.since X11.out h1) h2) h5) kd); obtain⟨caf0,caf1,caf2,caf3,caf4⟩:=bx5' (Bx.since (Bx.since (Bx.since (Bx.since X11.out h1) h2) h5) kd); obtain⟨cz0,cz1,cz2,cz3,cz4,cz5,cz6,cz7⟩:=bx8 (Bx.since (Bx.since (Bx.since (Bx.since X12.out h1) h2) h5) kd); obtain⟨czf0,czf1,czf2,czf3,czf4,czf5,czf6,czf7⟩:=bx8' (Bx.since (Bx.since (Bx.since (Bx.since X12.out h1) h2) h5) kd)))
    all_goals go_wp2
    have zz_wn:=kd.size; try simp at zz_wn
    refine bodyPost_ret (v:=.tuple #[.agg #[.slice A m c,.int .i64 iw,.int .i64 n,.int .i64 aw,.int .i64 ew],.agg #[.int .i64 6,.string ⟨#[]⟩,.bool false,.slice none 0 0,.int .i64 0,.bool false,.slice none 0 0,.int .i64 0]]) ?_ rfl ?_
    · simp[results,Tryz.results114,go_sem,ca0,ca1,ca2,ca3,ca4,cz0,cz1,cz2,cz3,cz4,cz5,cz6,cz7]
    · exact .inr ⟨p,_,_,_,_,_,HBAD.out,hec,⟨_,_,_,_,_,_,_,_,_,_,_,_,rfl⟩,rfl,since_put8 (since_put5 (Since.trans (Since.trans (Since.trans (Since.trans S14.out h1) h2) h5) kd) (b:=w.heap.size+1) (by omega) (.slice A m c) (.int .i64 iw) (.int .i64 n) (.int .i64 aw) (.int .i64 ew)) (b:=w.heap.size+1+1) (by omega) _ _ _ _ _ _ _ _⟩
   | true =>
    have u6_:=h1.trans (h2.trans h5)
    obtain⟨_,_,_,_,_,_,_,_⟩:=bx8 (Bx.since X13.out u6_)
    obtain⟨_,_,_,_,_,_,_,_⟩:=bx8' (Bx.since X13.out u6_)
    obtain⟨_,_,_,_,_⟩:=bx5 (Bx.since X10.out u6_)
    obtain⟨_,_,_,_,_⟩:=bx5' (Bx.since X10.out u6_)
    have X15:=lH (Bx.other (Bx.since X10.out u6_) (b':=w.heap.size+1+1+1) (by omega) 7 (.int .i64 2))
    have X16:=lH (Bx.other (Bx.since X11.out u6_) (b':=w.heap.size+1+1+1) (by omega) 7 (.int .i64 2))
    have X17:=lH (Bx.other (Bx.since X12.out u6_) (b':=w.heap.size+1+1+1) (by omega) 7 (.int .i64 2))
    have X18:=lH (bxset (Bx.since X13.out u6_) 7 (.int .i64 2) (ds:=#[.int .i64 6,.string ⟨#[]⟩,.bool false,.slice none 0 0,.int .i64 0,.bool false,.slice none 0 0,.int .i64 2]) rfl)
    have S19:=lH (Since.set (Since.trans S14.out u6_) (p:=⟨w.heap.size+1+1+1,7,none⟩) (show w.heap.size≤w.heap.size+1+1+1 by omega) (.int .i64 2))
    obtain⟨_,_,_,_,_⟩:=bx5 X15.out
    obtain⟨_,_,_,_,_⟩:=bx5' X15.out
    obtain⟨t6,la6,lb6,-⟩:=Th.yes tx hb5
    have hl6:=HTL.out
    obtain⟨_,_,_,_,_⟩:=bx5 X15.out
    obtain⟨_,_,_,_,_⟩:=bx5' X15.out
    go_wp2_with fail
    (with_reducible refine (next_any A m c n (k0:Int) 0 0 _ (by omega) (by omega)).mono ?_)
    rintro e6 w6 ⟨rfl,h6⟩
    clear hl6 la6 lb6
    have z_w6:=h6.size; try simp at z_w6
    go_wp2_with fail
    (with_reducible refine (NM.out _ (Since.trans S19.out h6) _ _ _ _ t6).mono ?_)
    rintro e7 w7 ⟨i7,a7,r7,word,rfl,t7,h7⟩
    have z_w7:=h7.size; try simp at z_w7
    have a7_:=sal (Since.trans (Since.trans S19.out h6) h7) (.cells #[.slice A m c,.int .i64 i7,.int .i64 n,.int .i64 a7,.int .i64 r7] 127)
    have X20:=lH (Bx.since (Bx.since (Bx.since X15.out h6) h7) a7_)
    have X21:=lH (Bx.since (Bx.since (Bx.since X16.out h6) h7) a7_)
    have X22:=lH (Bx.since (Bx.since (Bx.since X17.out h6) h7) a7_)
    have X23:=lH (Bx.since (Bx.since (Bx.since X18.out h6) h7) a7_)
    have X24:=lH (bx_new (Since.trans (Since.trans S19.out h6) h7) #[.slice A m c,.int .i64 i7,.int .i64 n,.int .i64 a7,.int .i64 r7] 127 (g:=w7.heap.size) (by simp))
    have S25:=lH (Since.trans (Since.trans (Since.trans S19.out h6) h7) a7_)
    obtain⟨_,_,_,_,_,_,_,_⟩:=bx8 X23.out
    obtain⟨_,_,_,_,_,_,_,_⟩:=bx8' X23.out
    obtain⟨_,_,_,_,_⟩:=bx5 X24.out
    obtain⟨_,_,_,_,_⟩:=bx5' X24.out
    have X26:=lH (Bx.other X20.out (b':=w.heap.size+1+1+1) (by omega) 1 (.string word))
    have X27:=lH (Bx.other X21.out (b':=w.heap.size+1+1+1) (by omega) 1 (.string word))
    have X28:=lH (Bx.other X22.out (b':=w.heap.size+1+1+1) (by omega) 1 (.string word))
    have X29:=lH (bxset X23.out 1 (.string word) (ds:=#[.int .i64 6,.string word,.bool false,.slice none 0 0,.int .i64 0,.bool false,.slice none 0 0,.int .i64 2]) rfl)
    have X30:=lH (Bx.other X24.out (b':=w.heap.size+1+1+1) (by omega) 1 (.string word))
    have S31:=lH (Since.set S25.out (p:=⟨w.heap.size+1+1+1,1,none⟩) (show w.heap.size≤w.heap.size+1+1+1 by omega) (.string word))
    obtain⟨ca0,ca1,ca2,ca3,ca4⟩:=bx5 X27.out
    obtain⟨caf0,caf1,caf2,caf3,caf4⟩:=bx5' X27.out
    obtain⟨cz0,cz1,cz2,cz3,cz4,cz5,cz6,cz7⟩:=bx8 X28.out
    obtain⟨czf0,czf1,czf2,czf3,czf4,czf5,czf6,czf7⟩:=bx8' X28.out
    obtain⟨_,_,_,_,_,_,_,_⟩:=bx8 X29.out
    obtain⟨_,_,_,_,_,_,_,_⟩:=bx8' X29.out
    obtain⟨_,_,_,_,_⟩:=bx5 X30.out
    obtain⟨_,_,_,_,_⟩:=bx5' X30.out
    have X32:=bf5 X26.out (b':=w.heap.size+1) (by omega) A m c i7 n a7 r7
    have X33:=bp5 X27.out A m c i7 n a7 r7
    have X34:=bf5 X28.out (b':=w.heap.size+1) (by omega) A m c i7 n a7 r7
    have X35:=bf5 X29.out (b':=w.heap.size+1) (by omega) A m c i7 n a7 r7
    have X36:=bf5 X30.out (b':=w.heap.size+1) (by omega) A m c i7 n a7 r7
    have S37:=sp5 S31.out (b:=w.heap.size+1) (by omega) A m c i7 n a7 r7
    obtain⟨cz0,cz1,cz2,cz3,cz4,cz5,cz6,cz7⟩:=bx8 X34.out
    obtain⟨czf0,czf1,czf2,czf3,czf4,czf5,czf6,czf7⟩:=bx8' X34.out
    obtain⟨_,_,_,_,_,_,_,_⟩:=bx8 X35.out
    obtain⟨_,_,_,_,_,_,_,_⟩:=bx8' X35.out
    obtain⟨_,_,_,_,_⟩:=bx5 X36.out
    obtain⟨_,_,_,_,_⟩:=bx5' X36.out
    go_wp2
    go_region
    go_wp2
    have X38:=lH (bxfar8 X32.out (b':=w.heap.size+1+1) (by omega) (.int .i64 6) (.string word) (.bool false) (.slice none 0 0) (.int .i64 0) (.bool false) (.slice none 0 0) (.int .i64 2))
    have X39:=lH (bxfar8 X33.out (b':=w.heap.size+1+1) (by omega) (.int .i64 6) (.string word) (.bool false) (.slice none 0 0) (.int .i64 0) (.bool false) (.slice none 0 0) (.int .i64 2))
    have X40:=lH (bxput8 X34.out (.int .i64 6) (.string word) (.bool false) (.slice none 0 0) (.int .i64 0) (.bool false) (.slice none 0 0) (.int .i64 2))
    have X41:=lH (bxfar8 X35.out (b':=w.heap.size+1+1) (by omega) (.int .i64 6) (.string word) (.bool false) (.slice none 0 0) (.int .i64 0) (.bool false) (.slice none 0 0) (.int .i64 2))
    have X42:=lH (bxfar8 X36.out (b':=w.heap.size+1+1) (by omega) (.int .i64 6) (.string word) (.bool false) (.slice none 0 0) (.int .i64 0) (.bool false) (.slice none 0 0) (.int .i64 2))
    have S43:=lH (since_put8 S37.out (b:=w.heap.size+1+1) (by omega) (.int .i64 6) (.string word) (.bool false) (.slice none 0 0) (.int .i64 0) (.bool false) (.slice none 0 0) (.int .i64 2))
    refine bodyPost_ret (v:=.tuple #[.agg #[.slice A m c,.int .i64 i7,.int .i64 n,.int .i64 a7,.int .i64 r7],.agg #[.int .i64 6,.string word,.bool false,.slice none 0 0,.int .i64 0,.bool false,.slice none 0 0,.int .i64 2]]) ?_ rfl ?_
    · simp[results,Tryz.results114,go_sem,ca0,ca1,ca2,ca3,ca4,cz0,cz1,cz2,cz3,cz4,cz5,cz6,cz7]
    · exact Th.got t7 (V:=VI w) (fun _=>⟨_,_,rfl,Sl.nil _ _ _,faro_nil _,Sl.nil _ _ _,faro_nil _⟩) ⟨_,_,_,_,_,_,_,_,_,_,_,_,rfl⟩ (Since.trans S43.out (Since.drew (Since.refl _)))
  | true =>
   have u8_:=h1.trans h2
   obtain⟨_,_,_,_,_,_,_,_⟩:=bx8 (Bx.since X13.out u8_)
   obtain⟨_,_,_,_,_,_,_,_⟩:=bx8' (Bx.since X13.out u8_)
   obtain⟨_,_,_,_,_⟩:=bx5 (Bx.since X10.out u8_)
   obtain⟨_,_,_,_,_⟩:=bx5' (Bx.since X10.out u8_)
   have X15:=lH (Bx.other (Bx.since X10.out u8_) (b':=w.heap.size+1+1+1) (by omega) 7 (.int .i64 1))
   have X16:=lH (Bx.other (Bx.since X11.out u8_) (b':=w.heap.size+1+1+1) (by omega) 7 (.int .i64 1))
   have X17:=lH (Bx.other (Bx.since X12.out u8_) (b':=w.heap.size+1+1+1) (by omega) 7 (.int .i64 1))
   have X18:=lH (bxset (Bx.since X13.out u8_) 7 (.int .i64 1) (ds:=#[.int .i64 6,.string ⟨#[]⟩,.bool false,.slice none 0 0,.int .i64 0,.bool false,.slice none 0 0,.int .i64 1]) rfl)
   have S19:=lH (Since.set (Since.trans S14.out u8_) (p:=⟨w.heap.size+1+1+1,7,none⟩) (show w.heap.size≤w.heap.size+1+1+1 by omega) (.int .i64 1))
   obtain⟨_,_,_,_,_⟩:=bx5 X15.out
   obtain⟨_,_,_,_,_⟩:=bx5' X15.out
   obtain⟨t3,la3,lb3,-⟩:=Th.yes tm hb2
   have hl3:=HTL.out
   obtain⟨_,_,_,_,_⟩:=bx5 X15.out
   obtain⟨_,_,_,_,_⟩:=bx5' X15.out
   go_wp2_with fail
   (with_reducible refine (next_any A m c n (k0:Int) 0 0 _ (by omega) (by omega)).mono ?_)
   rintro e3 w3 ⟨rfl,h3⟩
   clear hl3 la3 lb3
   have z_w3:=h3.size; try simp at z_w3
   go_wp2_with fail
   (with_reducible refine (NM.out _ (Since.trans S19.out h3) _ _ _ _ t3).mono ?_)
   rintro e4 w4 ⟨i4,a4,r4,word,rfl,t4,h4⟩
   have z_w4:=h4.size; try simp at z_w4
   have a9_:=sal (Since.trans (Since.trans S19.out h3) h4) (.cells #[.slice A m c,.int .i64 i4,.int .i64 n,.int .i64 a4,.int .i64 r4] 127)
   have X20:=lH (Bx.since (Bx.since (Bx.since X15.out h3) h4) a9_)
   have X21:=lH (Bx.since (Bx.since (Bx.since X16.out h3) h4) a9_)
   have X22:=lH (Bx.since (Bx.since (Bx.since X17.out h3) h4) a9_)
   have X23:=lH (Bx.since (Bx.since (Bx.since X18.out h3) h4) a9_)
   have X24:=lH (bx_new (Since.trans (Since.trans S19.out h3) h4) #[.slice A m c,.int .i64 i4,.int .i64 n,.int .i64 a4,.int .i64 r4] 127 (g:=w4.heap.size) (by simp))
   have S25:=lH (Since.trans (Since.trans (Since.trans S19.out h3) h4) a9_)
   obtain⟨_,_,_,_,_,_,_,_⟩:=bx8 X23.out
   obtain⟨_,_,_,_,_,_,_,_⟩:=bx8' X23.out
   obtain⟨_,_,_,_,_⟩:=bx5 X24.out
   obtain⟨_,_,_,_,_⟩:=bx5' X24.out
   have X26:=lH (Bx.other X20.out (b':=w.heap.size+1+1+1) (by omega) 1 (.string word))
   have X27:=lH (Bx.other X21.out (b':=w.heap.size+1+1+1) (by omega) 1 (.string word))
   have X28:=lH (Bx.other X22.out (b':=w.heap.size+1+1+1) (by omega) 1 (.string word))
   have X29:=lH (bxset X23.out 1 (.string word) (ds:=#[.int .i64 6,.string word,.bool false,.slice none 0 0,.int .i64 0,.bool false,.slice none 0 0,.int .i64 1]) rfl)
   have X30:=lH (Bx.other X24.out (b':=w.heap.size+1+1+1) (by omega) 1 (.string word))
   have S31:=lH (Since.set S25.out (p:=⟨w.heap.size+1+1+1,1,none⟩) (show w.heap.size≤w.heap.size+1+1+1 by omega) (.string word))
   obtain⟨ca0,ca1,ca2,ca3,ca4⟩:=bx5 X27.out
   obtain⟨caf0,caf1,caf2,caf3,caf4⟩:=bx5' X27.out
   obtain⟨cz0,cz1,cz2,cz3,cz4,cz5,cz6,cz7⟩:=bx8 X28.out
   obtain⟨czf0,czf1,czf2,czf3,czf4,czf5,czf6,czf7⟩:=bx8' X28.out
   obtain⟨_,_,_,_,_,_,_,_⟩:=bx8 X29.out
   obtain⟨_,_,_,_,_,_,_,_⟩:=bx8' X29.out
   obtain⟨_,_,_,_,_⟩:=bx5 X30.out
   obtain⟨_,_,_,_,_⟩:=bx5' X30.out
   have X32:=bf5 X26.out (b':=w.heap.size+1) (by omega) A m c i4 n a4 r4
   have X33:=bp5 X27.out A m c i4 n a4 r4
   have X34:=bf5 X28.out (b':=w.heap.size+1) (by omega) A m c i4 n a4 r4
   have X35:=bf5 X29.out (b':=w.heap.size+1) (by omega) A m c i4 n a4 r4
   have X36:=bf5 X30.out (b':=w.heap.size+1) (by omega) A m c i4 n a4 r4
   have S37:=sp5 S31.out (b:=w.heap.size+1) (by omega) A m c i4 n a4 r4
   obtain⟨cz0,cz1,cz2,cz3,cz4,cz5,cz6,cz7⟩:=bx8 X34.out
   obtain⟨czf0,czf1,czf2,czf3,czf4,czf5,czf6,czf7⟩:=bx8' X34.out
   obtain⟨_,_,_,_,_,_,_,_⟩:=bx8 X35.out
   obtain⟨_,_,_,_,_,_,_,_⟩:=bx8' X35.out
   obtain⟨_,_,_,_,_⟩:=bx5 X36.out
   obtain⟨_,_,_,_,_⟩:=bx5' X36.out
   go_wp2
   go_region
   go_wp2
   have X38:=lH (bxfar8 X32.out (b':=w.heap.size+1+1) (by omega) (.int .i64 6) (.string word) (.bool false) (.slice none 0 0) (.int .i64 0) (.bool false) (.slice none 0 0) (.int .i64 1))
   have X39:=lH (bxfar8 X33.out (b':=w.heap.size+1+1) (by omega) (.int .i64 6) (.string word) (.bool false) (.slice none 0 0) (.int .i64 0) (.bool false) (.slice none 0 0) (.int .i64 1))
   have X40:=lH (bxput8 X34.out (.int .i64 6) (.string word) (.bool false) (.slice none 0 0) (.int .i64 0) (.bool false) (.slice none 0 0) (.int .i64 1))
   have X41:=lH (bxfar8 X35.out (b':=w.heap.size+1+1) (by omega) (.int .i64 6) (.string word) (.bool false) (.slice none 0 0) (.int .i64 0) (.bool false) (.slice none 0 0) (.int .i64 1))
   have X42:=lH (bxfar8 X36.out (b':=w.heap.size+1+1) (by omega) (.int .i64 6) (.string word) (.bool false) (.slice none 0 0) (.int .i64 0) (.bool false) (.slice none 0 0) (.int .i64 1))
   have S43:=lH (since_put8 S37.out (b:=w.heap.size+1+1) (by omega) (.int .i64 6) (.string word) (.bool false) (.slice none 0 0) (.int .i64 0) (.bool false) (.slice none 0 0) (.int .i64 1))
   refine bodyPost_ret (v:=.tuple #[.agg #[.slice A m c,.int .i64 i4,.int .i64 n,.int .i64 a4,.int .i64 r4],.agg #[.int .i64 6,.string word,.bool false,.slice none 0 0,.int .i64 0,.bool false,.slice none 0 0,.int .i64 1]]) ?_ rfl ?_
   · simp[results,Tryz.results114,go_sem,ca0,ca1,ca2,ca3,ca4,cz0,cz1,cz2,cz3,cz4,cz5,cz6,cz7]
   · exact Th.got t4 (V:=VI w) (fun _=>⟨_,_,rfl,Sl.nil _ _ _,faro_nil _,Sl.nil _ _ _,faro_nil _⟩) ⟨_,_,_,_,_,_,_,_,_,_,_,_,rfl⟩ (Since.trans S43.out (Since.drew (Since.refl _)))
 | true =>
  obtain⟨ty,-⟩:=Th.yes t0 hb1
  have hl9:=HTL.out
  have hk9:=HK0.out
  have NX:=lH (fun W=>next_any A m c n (k0:Int) 0 0 W (by omega) (by omega))
  clear hl9 hk9
  have G0:=lH (held_since (Bx.since X10.out h1) (Bx.since X13.out h1))
  have G5:=lH (held_put5 (Bx.since X10.out h1) (Bx.since X13.out h1) (r:=w.heap.size+1) (by omega) (by omega))
  have G13:=lH (held_put13 (Bx.since X10.out h1) (Bx.since X13.out h1) (r:=w.heap.size+1) (r':=w.heap.size+1+1) (by omega) (by omega) (by omega) (by omega))
  go_wp2
  go_region_held3 (fun W=>W.cell? ⟨w.heap.size,0,none⟩=some (.slice A m c)∧W.cell? ⟨w.heap.size,1,none⟩=some (.int .i64 (k0:Int))∧W.cell? ⟨w.heap.size,2,none⟩=some (.int .i64 n)∧W.cell? ⟨w.heap.size,3,none⟩=some (.int .i64 0)∧W.cell? ⟨w.heap.size,4,none⟩=some (.int .i64 0)∧W.cell? ⟨w.heap.size+1+1+1,0,none⟩=some (.int .i64 6)∧W.cell? ⟨w.heap.size+1+1+1,1,none⟩=some (.string ⟨#[]⟩)∧W.cell? ⟨w.heap.size+1+1+1,2,none⟩=some (.bool false)∧W.cell? ⟨w.heap.size+1+1+1,3,none⟩=some (.slice none 0 0)∧W.cell? ⟨w.heap.size+1+1+1,4,none⟩=some (.int .i64 0)∧W.cell? ⟨w.heap.size+1+1+1,5,none⟩=some (.bool false)∧W.cell? ⟨w.heap.size+1+1+1,6,none⟩=some (.slice none 0 0)∧W.cell? ⟨w.heap.size+1+1+1,7,none⟩=some (.int .i64 0))
   (first | with_reducible exact G13.out _ _ _ _ _ _ _ _ _ _ _ _ _ _ kd | with_reducible exact G5.out _ _ _ _ _ _ kd | with_reducible exact G0.out _ kd | with_reducible exact G0.out _ (Since.drew (Since.refl _)))
   (first | (go_at_call 110; (with_reducible refine (NX.out _).mono ?_); rintro e0 wn ⟨rfl,hn⟩; have kd:=(Since.drew (Since.refl _)).trans hn; obtain⟨ca0,ca1,ca2,ca3,ca4⟩:=bx5 (Bx.since (Bx.since X11.out h1) kd); obtain⟨caf0,caf1,caf2,caf3,caf4⟩:=bx5' (Bx.since (Bx.since X11.out h1) kd); obtain⟨cz0,cz1,cz2,cz3,cz4,cz5,cz6,cz7⟩:=bx8 (Bx.since (Bx.since X12.out h1) kd); obtain⟨czf0,czf1,czf2,czf3,czf4,czf5,czf6,czf7⟩:=bx8' (Bx.since (Bx.since X12.out h1) kd)))
  all_goals go_wp2
  have zz_wn:=kd.size; try simp at zz_wn
  refine bodyPost_ret (v:=.tuple #[.agg #[.slice A m c,.int .i64 ((k0:Int)+1),.int .i64 n,.int .i64 0,.int .i64 0],.agg #[.int .i64 6,.string ⟨#[]⟩,.bool false,.slice none 0 0,.int .i64 0,.bool false,.slice none 0 0,.int .i64 0]]) ?_ rfl ?_
  · simp[results,Tryz.results114,go_sem,ca0,ca1,ca2,ca3,ca4,cz0,cz1,cz2,cz3,cz4,cz5,cz6,cz7]
  · exact Th.got ty (V:=VI w) (fun _=>⟨_,_,rfl,Sl.nil _ _ _,faro_nil _,Sl.nil _ _ _,faro_nil _⟩) ⟨_,_,_,_,_,_,_,_,_,_,_,_,rfl⟩ (since_put8 (since_put5 (Since.trans (Since.trans S14.out h1) kd) (b:=w.heap.size+1) (by omega) (.slice A m c) (.int .i64 ((k0:Int)+1)) (.int .i64 n) (.int .i64 0) (.int .i64 0)) (b:=w.heap.size+1+1) (by omega) _ _ _ _ _ _ _ _)
end Go.Proofs.YtjmmcnldfkjebaaGreatDoor.Doc6
