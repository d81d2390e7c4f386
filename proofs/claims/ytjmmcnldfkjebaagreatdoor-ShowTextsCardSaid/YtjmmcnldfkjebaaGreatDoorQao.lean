/- The document's own parser: domains. Memory of which some blocks have turned; numbers in slices. No code is spo -/
import Derived.Test.YtjmmcnldfkjebaaGreatDoorQan
import Derived.Maps.AppendAt
import Derived.Maps.OwnSet
set_option maxHeartbeats 8000000
set_option maxRecDepth 20000
set_option linter.unusedVariables false
set_option linter.unusedSimpArgs false
section
namespace Go.Proofs.YtjmmcnldfkjebaaGreatDoor.Doc6
open Go.RowKit
open Dig Lx Tk Ps Ti
open Prs (Only owns_only lenV Old)
theorem info_range:(Tryz.prog.info? 39).map (fun i=>(i.zero,i.size,i.bytes))=some (some (.agg #[.int .i64 0,.int .i64 0]),2,16):=by kernel_rfl
def pairs (l:List Int):List (Int × Int):=l.map fun i=>(i,i)
theorem pairs_snoc (l:List Int) (x:Int):pairs (l ++ [x])=pairs l ++ [(x,x)]:=by simp[pairs]
theorem bx_new' (W:World) (cs:Array Value) (t:TypeId) {g:Nat} (e:W.heap.size=g):Bx (W.alloc (.cells cs t)) g cs t:=Bx.new (Since.refl _) e
theorem sl_pair {W:World} {g:Nat} {x y:Int} {t:TypeId} (h:Bx W g #[.int .i64 x,.int .i64 y] t):Sl 2 QR W (.slice (some ⟨g,0,none⟩) 1 1) [(x,y)]:=by
 refine⟨_,1,rfl,Nat.le_refl _,fun _=>⟨g,0,rfl,fun i p hp => ?_⟩⟩
 cases i with
 | succ i=>simp at hp
 | zero =>
  simp only[List.getElem?_cons_zero,Option.some.injEq] at hp
  subst hp
  obtain⟨q0,q1⟩:=h.two
  refine⟨[.int .i64 x,.int .i64 y],rfl,rfl,fun j u hu => ?_⟩
  rcases j with _ | _ | j
  · simp at hu; subst hu; simpa using q0
  · simp at hu; subst hu; simpa using q1
  · simp at hu
theorem faro_at' {G:Nat→Prop} {g n c:Nat} (h:¬ G g):FarO G (.slice (some ⟨g,0,none⟩) n c):=fun b o n' c' e hn=>by
 injection e with e
 injection e with e
 injection e with e
 subst e; exact h
theorem some_step {α β:Type} {p:P α} {close:Bs} {most f:Nat} {out:List α} {g:List α→P β} (h:out.length≠most):bnd (some_ p close most (f+1) out) g=bnd p fun x=>alt close (g (out ++ [x])) (bnd (take comma) fun _=>bnd (some_ p close most f (out ++ [x])) g):=by
 funext n us
 simp only[bnd,some_,if_neg h]
 cases p n us with
 | bad q e=>rfl
 | ok a r =>
  simp only[R.bind,alt,bnd,ret]
  by_cases hc:isW close r=true
  · simp only[hc,if_true]
  · simp only[hc,if_false,Bool.false_eq_true]
    cases take comma n r <;> rfl
def GotD (A:Option Addr) (m c:Nat) (n:Int) (ts:List Tv) (r:R (Bool × List (Int × Int))) (w:World) (e:Ending) (w':World):Prop:=
 ∃ (i' at' er':Int) (d:Bool × List (Int × Int)) (bq:Bool) (C:Option Addr) (m' c':Nat),e = .returned (.tuple #[.agg #[.slice A m c,.int .i64 i',.int .i64 n,.int .i64 at',.int .i64 er'],.bool bq,.slice C m' c'])∧Th ts n r (ret d) i' at' er'∧bq=d.1∧Sl 2 QR w' (.slice C m' c') d.2∧FarO (Old w) (.slice C m' c')∧Since w w'
theorem dom_bool (A:Option Addr) (m c:Nat) (n:Int) (ts:List Tv) (k0:Nat) (w:World) (H:Toks w (.slice A m c) ts) (hl:ts.length≤10000) (hk0:k0≤ts.length) (hb:isW [98,111,111,108] (ts.drop k0)=true) :
 Calls Tryz.prog 139 #[.agg #[.slice A m c,.int .i64 (k0:Int),.int .i64 n,.int .i64 0,.int .i64 0]] w (GotD A m c n ts (dom n (ts.drop k0)) w):=by
 have IB:=lH (fun W (kk:Since w W)=>is_ok A m c n ts k0 ⟨#[98,111,111,108]⟩ W (H.since kk) (by decide))
 have IC:=lH (fun W (kk:Since w W)=>is_ok A m c n ts k0 ⟨#[123]⟩ W (H.since kk) (by decide))
 rw[show L ⟨#[98,111,111,108]⟩ = [98,111,111,108] from rfl,hb] at IB
 have hlt:k0<ts.length:=by
  apply Decidable.byContradiction; intro hn
  rw[drop_end (by omega)] at hb; cases hb
 have NX:=lH (fun W=>next_ok A m c n k0 W (by omega))
 have hs1:Since w ((w.alloc (.cells #[.slice A m c,.int .i64 (k0:Int),.int .i64 n,.int .i64 0,.int .i64 0] 127)).alloc (.cells #[.slice none 0 0,.int .i64 0,.int .i64 0,.int .i64 0,.int .i64 0] 127)):=(sA _ _).trans (sA _ _)
 have HX:=lH (fun W (kz:Since ((w.alloc (.cells #[.slice A m c,.int .i64 (k0:Int),.int .i64 n,.int .i64 0,.int .i64 0] 127)).alloc (.cells #[.slice none 0 0,.int .i64 0,.int .i64 0,.int .i64 0,.int .i64 0] 127)) W)=>((Bx.fresh w #[.slice A m c,.int .i64 (k0:Int),.int .i64 n,.int .i64 0,.int .i64 0] 127).since (sA _ _)).since kz)
 have HZ:=lH (fun W (kz:Since ((w.alloc (.cells #[.slice A m c,.int .i64 (k0:Int),.int .i64 n,.int .i64 0,.int .i64 0] 127)).alloc (.cells #[.slice none 0 0,.int .i64 0,.int .i64 0,.int .i64 0,.int .i64 0] 127)) W)=>(Bx.new kz (by simp):Bx W (w.heap.size+1) #[.slice none 0 0,.int .i64 0,.int .i64 0,.int .i64 0,.int .i64 0] 127))
 have HS:=lH hs1
 clear hs1
 obtain⟨g0,g1,g2,g3,g4⟩:=bx5 (HX.out _ (Since.refl _))
 obtain⟨z0,z1,z2,z3,z4⟩:=bx5 (HZ.out _ (Since.refl _))
 obtain⟨y0,y1,y2,y3,y4⟩:=bx5' (HZ.out _ (Since.refl _))
 have HEQ:=lH (show Th ts n (dom n (ts.drop k0)) (ret (true,[])) ((k0+1:Nat):Int) 0 0 from .inl ⟨k0+1,(if_pos hb).trans (by rw[List.tail_drop]),hlt,rfl,rfl,rfl⟩)
 clear H hb hl hk0
 go_enter Tryz.func139,Tryz.ntmps139
 go_wp2_with (first
  | (go_at_call 116; (with_reducible refine (IB.out _ HS.out).mono ?_); rintro e0 w1 ⟨rfl,h1⟩; obtain⟨g0,g1,g2,g3,g4⟩:=bx5 (HX.out _ h1); obtain⟨z0,z1,z2,z3,z4⟩:=bx5 (HZ.out _ h1); obtain⟨y0,y1,y2,y3,y4⟩:=bx5' (HZ.out _ h1))
  | (go_at_call 110; (with_reducible refine (NX.out _).mono ?_); rintro e0 w2 ⟨rfl,h2⟩; have k2:=h1.trans h2; obtain⟨z0,z1,z2,z3,z4⟩:=bx5 (HZ.out _ k2); obtain⟨y0,y1,y2,y3,y4⟩:=bx5' (HZ.out _ k2)))
 refine bodyPost_ret (v:=.tuple #[.agg #[.slice A m c,.int .i64 ((k0+1:Nat):Int),.int .i64 n,.int .i64 0,.int .i64 0],.bool true,.slice none 0 0]) ?_ rfl ?_
 · simp[results,Tryz.results139,go_sem,z0,z1,z2,z3,z4]
 · exact⟨_,_,_,(true,[]),true,none,0,0,rfl,HEQ.out,rfl,Sl.nil _ _ _,faro_nil _,since_put5 (HS.out.trans k2) (Nat.le_succ _) _ _ _ _ _⟩
theorem dom_two (A:Option Addr) (m c:Nat) (n:Int) (ts:List Tv) (k0:Nat) (w:World) (H:Toks w (.slice A m c) ts) (hl:ts.length≤10000) (hk0:k0≤ts.length) (hb:isW [98,111,111,108] (ts.drop k0)=false) (hc:isW [123] (ts.drop k0)=false) :
 Calls Tryz.prog 139 #[.agg #[.slice A m c,.int .i64 (k0:Int),.int .i64 n,.int .i64 0,.int .i64 0]] w (GotD A m c n ts (dom n (ts.drop k0)) w):=by
 have IB:=lH (fun W (kk:Since w W)=>is_ok A m c n ts k0 ⟨#[98,111,111,108]⟩ W (H.since kk) (by decide))
 have IC:=lH (fun W (kk:Since w W)=>is_ok A m c n ts k0 ⟨#[123]⟩ W (H.since kk) (by decide))
 rw[show L ⟨#[98,111,111,108]⟩ = [98,111,111,108] from rfl,hb] at IB
 rw[show L ⟨#[123]⟩ = [123] from rfl,hc] at IC
 obtain⟨r,hr⟩:∃ r,r=dom n (ts.drop k0):=⟨_,rfl⟩
 rw[← hr]
 have T0:=lH (show Th ts n r (bnd integer fun lo=>bnd (take [46,46]) fun _=>bnd integer fun hi=>ret (false,[(lo,hi)])) (k0:Int) 0 0 from .inl ⟨k0,hr.trans ((if_neg (by rw[hb]; exact Bool.false_ne_true)).trans (if_neg (by rw[hc]; exact Bool.false_ne_true))),hk0,rfl,rfl,rfl⟩)
 have IN:=lH (fun W (kk:Since w W) (q:Int→P (Bool × List (Int × Int))) (i a e:Int) (h:Th ts n r (bnd integer q) i a e)=>integer_u A m c n ts W (H.since kk) hl h)
 have TK:=lH (fun W (kk:Since w W) (q:Unit→P (Bool × List (Int × Int))) (i a e:Int) (h:Th ts n r (bnd (take [46,46]) q) i a e)=>take_u A m c n ts ⟨#[46,46]⟩ [46,46] rfl (by decide) W (H.since kk) hl h)
 have hs1:Since w ((w.alloc (.cells #[.slice A m c,.int .i64 (k0:Int),.int .i64 n,.int .i64 0,.int .i64 0] 127)).alloc (.cells #[.slice none 0 0,.int .i64 0,.int .i64 0,.int .i64 0,.int .i64 0] 127)):=(sA _ _).trans (sA _ _)
 have HX:=lH (fun W (kz:Since ((w.alloc (.cells #[.slice A m c,.int .i64 (k0:Int),.int .i64 n,.int .i64 0,.int .i64 0] 127)).alloc (.cells #[.slice none 0 0,.int .i64 0,.int .i64 0,.int .i64 0,.int .i64 0] 127)) W)=>((Bx.fresh w #[.slice A m c,.int .i64 (k0:Int),.int .i64 n,.int .i64 0,.int .i64 0] 127).since (sA _ _)).since kz)
 have HZ:=lH (fun W (kz:Since ((w.alloc (.cells #[.slice A m c,.int .i64 (k0:Int),.int .i64 n,.int .i64 0,.int .i64 0] 127)).alloc (.cells #[.slice none 0 0,.int .i64 0,.int .i64 0,.int .i64 0,.int .i64 0] 127)) W)=>(Bx.new kz (by simp):Bx W (w.heap.size+1) #[.slice none 0 0,.int .i64 0,.int .i64 0,.int .i64 0,.int .i64 0] 127))
 have HS:=lH hs1
 clear hs1
 obtain⟨g0,g1,g2,g3,g4⟩:=bx5 (HX.out _ (Since.refl _))
 obtain⟨z0,z1,z2,z3,z4⟩:=bx5 (HZ.out _ (Since.refl _))
 obtain⟨y0,y1,y2,y3,y4⟩:=bx5' (HZ.out _ (Since.refl _))
 clear H hb hc hl hk0 hr
 go_enter Tryz.func139,Tryz.ntmps139
 go_wp2_with (first
  | (go_at_call 116; (with_reducible refine (IB.out _ HS.out).mono ?_); rintro e0 w1 ⟨rfl,h1⟩; obtain⟨g0,g1,g2,g3,g4⟩:=bx5 (HX.out _ h1); obtain⟨z0,z1,z2,z3,z4⟩:=bx5 (HZ.out _ h1); obtain⟨y0,y1,y2,y3,y4⟩:=bx5' (HZ.out _ h1))
  | (go_at_call 116; (with_reducible refine (IC.out _ (HS.out.trans h1)).mono ?_); rintro e0 w2 ⟨rfl,h2⟩; have k2:=h1.trans h2; obtain⟨g0,g1,g2,g3,g4⟩:=bx5 (HX.out _ k2); obtain⟨z0,z1,z2,z3,z4⟩:=bx5 (HZ.out _ k2); obtain⟨y0,y1,y2,y3,y4⟩:=bx5' (HZ.out _ k2))
  | (go_at_call 141; (with_reducible refine (IN.out _ (HS.out.trans k2) _ _ _ _ T0.out).mono ?_); rintro e0 w3 ⟨i3,a3,r3,x3,rfl,t3,h3⟩; have k3:=k2.trans h3; have hs3:=k3.size; have kB:=k3.trans (sA w3 (.cells #[.slice A m c,.int .i64 i3,.int .i64 n,.int .i64 a3,.int .i64 r3] 127)); obtain⟨g0,g1,g2,g3,g4⟩:=bx5 (HX.out _ kB); obtain⟨z0,z1,z2,z3,z4⟩:=bx5 (HZ.out _ kB); obtain⟨y0,y1,y2,y3,y4⟩:=bx5' (HZ.out _ kB))
  | (go_at_call 77; (with_reducible refine (TK.out _ (HS.out.trans kB) _ _ _ _ t3).mono ?_); rintro e0 w4 ⟨i4,a4,r4,rfl,t4,h4⟩; have k4:=kB.trans h4; obtain⟨g0,g1,g2,g3,g4⟩:=bx5 (HX.out _ k4); obtain⟨z0,z1,z2,z3,z4⟩:=bx5 (HZ.out _ k4); obtain⟨y0,y1,y2,y3,y4⟩:=bx5' (HZ.out _ k4))
  | (go_at_call 141; (with_reducible refine (IN.out _ (HS.out.trans k4) _ _ _ _ t4).mono ?_); rintro e0 w5 ⟨i5,a5,r5,x5,rfl,t5,h5⟩; have k5:=((k4.trans h5).trans (sA w5 (.cells #[.slice A m c,.int .i64 i5,.int .i64 n,.int .i64 a5,.int .i64 r5] 127))).trans (sA _ (.cells #[.int .i64 x3,.int .i64 x5] 39)); obtain⟨g0,g1,g2,g3,g4⟩:=bx5 (HX.out _ k5); obtain⟨z0,z1,z2,z3,z4⟩:=bx5 (HZ.out _ k5); obtain⟨y0,y1,y2,y3,y4⟩:=bx5' (HZ.out _ k5)))
 refine bodyPost_ret (v:=.tuple #[.agg #[.slice A m c,.int .i64 i5,.int .i64 n,.int .i64 a5,.int .i64 r5],.bool false,.slice (some ⟨w5.heap.size+1,0,none⟩) 1 1]) ?_ rfl ?_
 · simp[results,Tryz.results139,go_sem,z0,z1,z2,z3,z4]
 · have hs5:=h5.size
   have hs4:=h4.size
   have bR:=bxfar5 (bx_new' (w5.alloc (.cells #[.slice A m c,.int .i64 i5,.int .i64 n,.int .i64 a5,.int .i64 r5] 127)) #[.int .i64 x3,.int .i64 x5] 39 (g:=w5.heap.size+1) (by simp)) (b':=w.heap.size+1) (by simp at hs3 hs4; omega) (.slice A m c) (.int .i64 i5) (.int .i64 n) (.int .i64 a5) (.int .i64 r5)
   exact⟨_,_,_,(false,[(x3,x5)]),false,_,1,1,rfl,t5,rfl,sl_pair bR,faro_at' (by show ¬ _<_; simp at hs3 hs4; omega),since_put5 (HS.out.trans k5) (Nat.le_succ _) _ _ _ _ _⟩
theorem dom_more (A:Option Addr) (m c:Nat) (n:Int) (ts:List Tv) (k0:Nat) (w:World) (H:Toks w (.slice A m c) ts) (hl:ts.length≤10000) (hk0:k0≤ts.length) (hb:isW [98,111,111,108] (ts.drop k0)=false) (hc:isW [123] (ts.drop k0)=true) :
 Calls Tryz.prog 139 #[.agg #[.slice A m c,.int .i64 (k0:Int),.int .i64 n,.int .i64 0,.int .i64 0]] w (GotD A m c n ts (dom n (ts.drop k0)) w):=by
 have IB:=lH (fun W (kk:Since w W)=>is_ok A m c n ts k0 ⟨#[98,111,111,108]⟩ W (H.since kk) (by decide))
 have IC:=lH (fun W (kk:Since w W)=>is_ok A m c n ts k0 ⟨#[123]⟩ W (H.since kk) (by decide))
 rw[show L ⟨#[98,111,111,108]⟩ = [98,111,111,108] from rfl,hb] at IB
 rw[show L ⟨#[123]⟩ = [123] from rfl,hc] at IC
 have hlt:k0<ts.length:=by
  apply Decidable.byContradiction; intro hn
  rw[drop_end (by omega)] at hc; cases hc
 have NX0:=lH (fun W=>next_ok A m c n k0 W (by omega))
 obtain⟨kn,hkn⟩:∃ kn,kn=k0+1:=⟨_,rfl⟩
 rw[← hkn] at NX0
 obtain⟨r,hr⟩:∃ r,r=dom n (ts.drop k0):=⟨_,rfl⟩
 rw[← hr]
 have T0:=lH (show Th ts n r (bnd (some_ integer [125] 256 257 []) fun l=>ret (false,pairs l)) (kn:Int) 0 0 from .inl ⟨kn,hr.trans ((if_neg (by rw[hb]; exact Bool.false_ne_true)).trans ((if_pos hc).trans (by rw[List.tail_drop,hkn]; rfl))),by omega,rfl,rfl,rfl⟩)
 have IN:=lH (fun W (kk:Since w W) (q:Int→P (Bool × List (Int × Int))) (i a e:Int) (h:Th ts n r (bnd integer q) i a e)=>integer_u A m c n ts W (H.since kk) hl h)
 have TK:=lH (fun W (kk:Since w W) (q:Unit→P (Bool × List (Int × Int))) (i a e:Int) (h:Th ts n r (bnd (take comma) q) i a e)=>take_u A m c n ts ⟨#[44]⟩ comma rfl (by decide) W (H.since kk) hl h)
 have IS:=lH (fun W (kk:Since w W) (i a e:Int) (h:(∃ k:Nat,k≤ts.length∧i=(k:Int)∧a=0∧e=0)∨e≠0)=>is_u A m c n ts ⟨#[125]⟩ [125] rfl (by decide) W (H.since kk) h)
 have FLA:=lH (fun k W (kk:Since w W)=>fail_ok A m c n ts k 3 W (H.since kk) (by decide))
 have HL:=lH hl
 have hs1:Since w ((w.alloc (.cells #[.slice A m c,.int .i64 (k0:Int),.int .i64 n,.int .i64 0,.int .i64 0] 127)).alloc (.cells #[.slice none 0 0,.int .i64 0,.int .i64 0,.int .i64 0,.int .i64 0] 127)):=(sA _ _).trans (sA _ _)
 have HX:=lH (fun W (kz:Since ((w.alloc (.cells #[.slice A m c,.int .i64 (k0:Int),.int .i64 n,.int .i64 0,.int .i64 0] 127)).alloc (.cells #[.slice none 0 0,.int .i64 0,.int .i64 0,.int .i64 0,.int .i64 0] 127)) W)=>((Bx.fresh w #[.slice A m c,.int .i64 (k0:Int),.int .i64 n,.int .i64 0,.int .i64 0] 127).since (sA _ _)).since kz)
 have HZ:=lH (fun W (kz:Since ((w.alloc (.cells #[.slice A m c,.int .i64 (k0:Int),.int .i64 n,.int .i64 0,.int .i64 0] 127)).alloc (.cells #[.slice none 0 0,.int .i64 0,.int .i64 0,.int .i64 0,.int .i64 0] 127)) W)=>(Bx.new kz (by simp):Bx W (w.heap.size+1) #[.slice none 0 0,.int .i64 0,.int .i64 0,.int .i64 0,.int .i64 0] 127))
 have HS:=lH hs1
 clear hs1
 obtain⟨g0,g1,g2,g3,g4⟩:=bx5 (HX.out _ (Since.refl _))
 obtain⟨z0,z1,z2,z3,z4⟩:=bx5 (HZ.out _ (Since.refl _))
 obtain⟨y0,y1,y2,y3,y4⟩:=bx5' (HZ.out _ (Since.refl _))
 clear H hb hc hl hk0 hr hkn hlt
 obtain⟨i0,hi,hz0,hz1,hz2⟩:=info_parts info_range
 go_enter Tryz.func139,Tryz.ntmps139
 go_wp2_with (first
  | (go_at_call 116; (with_reducible refine (IB.out _ HS.out).mono ?_); rintro e0 w1 ⟨rfl,h1⟩; obtain⟨g0,g1,g2,g3,g4⟩:=bx5 (HX.out _ h1); obtain⟨z0,z1,z2,z3,z4⟩:=bx5 (HZ.out _ h1); obtain⟨y0,y1,y2,y3,y4⟩:=bx5' (HZ.out _ h1))
  | (go_at_call 116; (with_reducible refine (IC.out _ (HS.out.trans h1)).mono ?_); rintro e0 w2 ⟨rfl,h2⟩; have k2:=h1.trans h2; obtain⟨g0,g1,g2,g3,g4⟩:=bx5 (HX.out _ k2); obtain⟨z0,z1,z2,z3,z4⟩:=bx5 (HZ.out _ k2); obtain⟨y0,y1,y2,y3,y4⟩:=bx5' (HZ.out _ k2))
  | (go_at_call 110; (with_reducible refine (NX0.out _).mono ?_); rintro e0 w3 ⟨rfl,h3⟩; have k3:=k2.trans h3; obtain⟨g0,g1,g2,g3,g4⟩:=bx5 (HX.out _ k3); obtain⟨z0,z1,z2,z3,z4⟩:=bx5 (HZ.out _ k3); obtain⟨y0,y1,y2,y3,y4⟩:=bx5' (HZ.out _ k3); obtain⟨u0,u1,u2,u3,u4⟩:=bx5' (HX.out _ k3)))
 go_loopw [9] (fun out wr=>∃ (B:Option Addr) (nn cp:Nat) (i a e:Int) (xs:List Int) (cs:List Value),out = .slice B nn cp∧nn≤257∧Hid (xs.length=nn)∧Hid (Since w wr)∧w.heap.size+2≤wr.heap.size∧Hid (Bx wr w.heap.size #[.slice A m c,.int .i64 i,.int .i64 n,.int .i64 a,.int .i64 e] 127)∧Hid (Bx wr (w.heap.size+1) #[.slice none 0 0,.int .i64 0,.int .i64 0,.int .i64 0,.int .i64 0] 127)∧Hid (wr.ownsRow (w.heap.size+2) 39 2 (.slice B nn cp) nn cs)∧Hid (Rws 2 (QR wr) (pairs xs) cs)∧Hid ((nn≤256∧Th ts n r (bnd (some_ integer [125] 256 (257 - nn) xs) fun l=>ret (false,pairs l)) i a e)∨(∃ p x,r = .bad p x∧Ec e x))) (fun out _=>260 - lenV out)
 case atStart=>exact⟨none,0,0,_,_,_,[],[],rfl,by decide,rfl,since_put5 (HS.out.trans k3) (Nat.le_refl _) _ _ _ _ _,by have:=k3.size; simp at this; simp; omega,bxput5 (HX.out _ k3) _ _ _ _ _,bxfar5 (HZ.out _ k3) (by omega) _ _ _ _ _,World.ownsRow_nil _ _ _ _,.nil,.inl ⟨by decide,T0.out⟩⟩
 case round =>
  clear HX HZ HS
  obtain⟨B,nn,cp,i,a,e,xs,cs,rfl,hnn,HXL,HW,hsz,HB,HZr,HO,HQ,HT⟩:=hrel
  by_cases he:e=0
  · subst he
    have hT:nn≤256∧Th ts n r (bnd (some_ integer [125] 256 (257 - nn) xs) fun l=>ret (false,pairs l)) i a 0:=HT.out.resolve_right (fun ⟨p,x,_,h⟩=>h.1 rfl)
    obtain⟨h256,hT⟩:=hT
    obtain⟨k,hF,hk,rfl,rfl⟩:=hT.good rfl
    clear HT hT
    by_cases h6:nn=256
    · subst h6
      have HBAD:=lH (show ∃ p,r = .bad p 3 by obtain⟨p,h⟩:=some_big (p:=integer) (close:=[125]) (f:=0) (n:=n) (ts:=ts.drop k) HXL.out; exact⟨p,hF.trans (by simp only[bnd,h,R.bind])⟩)
      have FL:=lH (fun W (kk:Since w W)=>FLA.out k W kk)
      clear hF
      obtain⟨g0,g1,g2,g3,g4⟩:=bx5 HB.out
      go_wp2_with (go_at_call 75; (with_reducible refine (FL.out _ HW.out).mono ?_); rintro e0 w4 ⟨i4,a4,e4,rfl,hec,h4⟩; obtain⟨z0,z1,z2,z3,z4⟩:=bx5 (HZr.out.since h4); obtain⟨y0,y1,y2,y3,y4⟩:=bx5' (HZr.out.since h4))
      refine bodyPost_ret (v:=.tuple #[.agg #[.slice A m c,.int .i64 i4,.int .i64 n,.int .i64 a4,.int .i64 e4],.bool false,.slice none 0 0]) ?_ rfl ?_
      · simp[results,Tryz.results139,go_sem,z0,z1,z2,z3,z4]
      · obtain⟨p,hb⟩:=HBAD.out
        exact⟨_,_,_,(false,[]),false,none,0,0,rfl,.inr ⟨p,3,hb,hec⟩,rfl,Sl.nil _ _ _,faro_nil _,since_put5 (HW.out.trans h4) (Nat.le_succ _) _ _ _ _ _⟩
    · have hz:((nn:Int) == 256)=false:=by rw[beq_eq_false_iff_ne]; omega
      obtain⟨f,hf⟩:∃ f,257 - nn=f+1:=⟨256 - nn,by omega⟩
      rw[hf] at hF
      have T1:=lH (show Th ts n r (bnd integer fun x=>alt [125] (ret (false,pairs (xs ++ [x]))) (bnd (take comma) fun _=>bnd (some_ integer [125] 256 f (xs ++ [x])) fun l=>ret (false,pairs l))) (k:Int) 0 0 from .inl ⟨k,hF.trans (by rw[some_step (by rw[HXL.out]; exact h6)]),hk,rfl,rfl,rfl⟩)
      have hnn2:nn+1≤256:=by omega
      have HF:=lH hf
      clear hF hf h6 hnn h256 hk
      obtain⟨g0,g1,g2,g3,g4⟩:=bx5 HB.out
      go_wp2_with fail
      (with_reducible refine (IN.out _ HW.out _ _ _ _ T1.out).mono ?_)
      rintro e0 w1 ⟨i1,a1,e1,x,rfl,t1,h1⟩
      have kA:Since wr (w1.alloc (.cells #[.slice A m c,.int .i64 i1,.int .i64 n,.int .i64 a1,.int .i64 e1] 127)):=h1.trans (sA _ _)
      have b1:=lH (HB.out.since kA)
      have hs1:=h1.size
      obtain⟨g0,g1,g2,g3,g4⟩:=bx5 b1.out
      obtain⟨y0,y1,y2,y3,y4⟩:=bx5' b1.out
      go_wp2_with (at_builtin; refine wpList_append_own_at _ rfl _ _ 25 rfl (w.heap.size+2) 39 i0 (.agg #[.int .i64 0,.int .i64 0]) 2 16 Tryz.underlying25 hi hz0 hz1 hz2 rfl (by decide) _ _ _ rfl (owns_since (owns_only (owns_since HO.out kA) (only_put5 (w1.alloc (.cells #[.slice A m c,.int .i64 i1,.int .i64 n,.int .i64 a1,.int .i64 e1] 127)) w.heap.size (.slice A m c) (.int .i64 i1) (.int .i64 n) (.int .i64 a1) (.int .i64 e1)) (by omega)) (sA _ (.cells #[.int .i64 x,.int .i64 x] 39))) ⟨w1.heap.size+1,0,none⟩ 1 1 [.int .i64 x,.int .i64 x] rfl rfl ?c1 ?c2 ?c3 ?c4 ?c5 ?_)
      case c1 =>
       intro j u hj
       exact cell_new _ _ _ (by simp) (by simpa using hj)
      case c2=>intro u hu; simp at hu; subst hu; rfl
      case c3=>unfold maxLen; omega
      case c4=>omega
      case c5=>simp; omega
      intro v4 w4 hown hgrow _ hat
      have hgo:∀ g,(Value.slice B nn cp).ownBlock=some g→w.heap.size+2≤g:=fun g hg=>(HO.out.lt g hg).1
      have hB3:=(bxput5 b1.out (.slice A m c) (.int .i64 i1) (.int .i64 n) (.int .i64 a1) (.int .i64 e1)).since (sA _ (.cells #[.int .i64 x,.int .i64 x] 39))
      have hZ3:=(bxfar5 (HZr.out.since kA) (b':=w.heap.size) (by omega) (.slice A m c) (.int .i64 i1) (.int .i64 n) (.int .i64 a1) (.int .i64 e1)).since (sA _ (.cells #[.int .i64 x,.int .i64 x] 39))
      have hS3:Since w _:=(since_put5 (HW.out.trans kA) (Nat.le_refl _) (.slice A m c) (.int .i64 i1) (.int .i64 n) (.int .i64 a1) (.int .i64 e1)).trans (sA _ (.cells #[.int .i64 x,.int .i64 x] 39))
      have HB4:=lH (bx_grown hB3 hgrow (fun g hg=>by have:=hgo g hg; omega))
      have HZ4:=lH (bx_grown hZ3 hgrow (fun g hg=>by have:=hgo g hg; omega))
      have HW4:=lH (show Since w w4 from Below.grown hS3 hgrow hS3.size (fun g hg=>by have:=hgo g hg; omega))
      have hz4:w.heap.size+2≤w4.heap.size:=by have:=hgrow.size; have:=HZ4.out.lt; omega
      have ho4:w4.ownsRow (w.heap.size+2) 39 2 v4 (nn+1) (cs ++ [.int .i64 x,.int .i64 x]):=hown
      obtain⟨B4,cp4,rfl⟩:=owns_slice ho4
      have HO4:=lH ho4
      clear hown hgrow hat hgo hB3 hZ3 hS3 ho4
      have HQ4:=lH (show Rws 2 (QR w4) (pairs (xs ++ [x])) (cs ++ [.int .i64 x,.int .i64 x]) from by rw[pairs_snoc]; exact (HQ.out.mono fun x u h=>h).snoc rfl rfl)
      have HXL4:=lH (show (xs ++ [x]).length=nn+1 by rw[List.length_append,HXL.out]; rfl)
      clear b1 kA y0 g0 y1 g1 y2 g2 y3 g3 y4 g4
      obtain⟨g0,g1,g2,g3,g4⟩:=bx5 HB4.out
      by_cases he1:e1=0
      · subst he1
        go_wp2_with fail
        (with_reducible refine (IS.out _ HW4.out _ _ _ t1.st).mono ?_)
        rintro e0 w5 ⟨b5,rfl,hb5,h5⟩
        obtain⟨g0,g1,g2,g3,g4⟩:=bx5 (HB4.out.since h5)
        cases b5 with
        | true =>
         obtain⟨t5,l5a,l5b,-⟩:=t1.yes hb5
         have hl5:=HL.out
         go_wp2_with fail
         (with_reducible refine (next_any A m c n i1 a1 0 _ (by omega) (by omega)).mono ?_)
         rintro e0 w6 ⟨rfl,h6⟩
         clear hl5 l5a l5b
         have k6:=h5.trans h6
         obtain⟨z0,z1,z2,z3,z4⟩:=bx5 (HZ4.out.since k6)
         obtain⟨y0,y1,y2,y3,y4⟩:=bx5' (HZ4.out.since k6)
         go_wp2
         refine bodyPost_ret (v:=.tuple #[.agg #[.slice A m c,.int .i64 (i1+1),.int .i64 n,.int .i64 a1,.int .i64 0],.bool false,.slice B4 (nn+1) cp4]) ?_ rfl ?_
         · simp[results,Tryz.results139,go_sem,z0,z1,z2,z3,z4]
         · have hoe:=owns_only (owns_since HO4.out k6) (only_put5 _ (w.heap.size+1) (.slice A m c) (.int .i64 (i1+1)) (.int .i64 n) (.int .i64 a1) (.int .i64 0)) (by omega)
           have hpl:(pairs (xs ++ [x])).length=nn+1:=by rw[pairs,List.length_map]; exact HXL4.out
           exact⟨_,_,_,(false,pairs (xs ++ [x])),false,B4,nn+1,cp4,rfl,t5,rfl,Sl.own hoe (HQ4.out.mono fun x u h=>h) hpl.symm,FarO.own hoe (fun b hb=>by have:b<w.heap.size:=hb; omega),since_put5 (HW4.out.trans k6) (Nat.le_succ _) _ _ _ _ _⟩
        | false =>
         have t5:=t1.no hb5
         go_wp2_with fail
         (with_reducible refine (TK.out _ (HW4.out.trans h5) _ _ _ _ t5).mono ?_)
         rintro e0 w6 ⟨i6,a6,e6,rfl,t6,h6⟩
         have k6:=h5.trans h6
         obtain⟨g0,g1,g2,g3,g4⟩:=bx5 (HB4.out.since k6)
         obtain⟨y0,y1,y2,y3,y4⟩:=bx5' (HB4.out.since k6)
         go_wp2
         go_roundw
         case rel=>exact⟨B4,nn+1,cp4,i6,a6,e6,xs ++ [x],_,rfl,by omega,HXL4.out,since_put5 (HW4.out.trans k6) (Nat.le_refl _) _ _ _ _ _,by have:=k6.size; simp; omega,bxput5 (HB4.out.since k6) _ _ _ _ _,bxfar5 (HZ4.out.since k6) (by omega) _ _ _ _ _,owns_only (owns_since HO4.out k6) (only_put5 _ w.heap.size _ _ _ _ _) (by omega),HQ4.out.mono fun x u h=>h,.inl ⟨hnn2,by rw[show 257 - (nn+1)=f by have:=HF.out; omega]; exact t6⟩⟩
         case measure=>simp[lenV]; omega
      · have ne:(e1 != 0)=true:=by rw[bne_iff_ne]; exact he1
        have eq:(e1 == 0)=false:=by rw[beq_eq_false_iff_ne]; exact he1
        obtain⟨p,x0,hbad,hec⟩:=t1.bad he1
        have HBAD:=lH hbad
        have HEC:=lH hec
        have TN:=lH (fun W=>take_no A m c n i1 a1 e1 ⟨#[44]⟩ W hec.1)
        clear hbad hec he1
        go_wp2_with fail
        (with_reducible refine (TN.out _).mono ?_)
        rintro e0 w6 ⟨rfl,k6⟩
        obtain⟨g0,g1,g2,g3,g4⟩:=bx5 (HB4.out.since k6)
        obtain⟨y0,y1,y2,y3,y4⟩:=bx5' (HB4.out.since k6)
        go_wp2
        go_roundw
        case rel=>exact⟨B4,nn+1,cp4,i1,a1,e1,xs ++ [x],_,rfl,by omega,HXL4.out,since_put5 (HW4.out.trans k6) (Nat.le_refl _) _ _ _ _ _,by have:=k6.size; simp; omega,bxput5 (HB4.out.since k6) _ _ _ _ _,bxfar5 (HZ4.out.since k6) (by omega) _ _ _ _ _,owns_only (owns_since HO4.out k6) (only_put5 _ w.heap.size _ _ _ _ _) (by omega),HQ4.out.mono fun x u h=>h,.inr ⟨p,x0,HBAD.out,HEC.out⟩⟩
        case measure=>simp[lenV]; omega
  · have hbad:∃ p x,r = .bad p x∧Ec e x:=HT.out.elim (fun h=>h.2.bad he) id
    obtain⟨p,x0,hbad,hec⟩:=hbad
    have ne:(e != 0)=true:=by rw[bne_iff_ne]; exact he
    have eq:(e == 0)=false:=by rw[beq_eq_false_iff_ne]; exact he
    have HBAD:=lH hbad
    have HEC:=lH hec
    clear hbad hec he HT
    obtain⟨g0,g1,g2,g3,g4⟩:=bx5 HB.out
    obtain⟨z0,z1,z2,z3,z4⟩:=bx5 HZr.out
    obtain⟨y0,y1,y2,y3,y4⟩:=bx5' HZr.out
    go_wp2
    refine bodyPost_ret (v:=.tuple #[.agg #[.slice A m c,.int .i64 i,.int .i64 n,.int .i64 a,.int .i64 e],.bool false,.slice none 0 0]) ?_ rfl ?_
    · simp[results,Tryz.results139,go_sem,z0,z1,z2,z3,z4]
    · exact⟨_,_,_,(false,[]),false,none,0,0,rfl,.inr ⟨p,x0,HBAD.out,HEC.out⟩,rfl,Sl.nil _ _ _,faro_nil _,since_put5 HW.out (Nat.le_succ _) _ _ _ _ _⟩
theorem dom_ok (A:Option Addr) (m c:Nat) (n:Int) (ts:List Tv) (k0:Nat) (w:World) (H:Toks w (.slice A m c) ts) (hl:ts.length≤10000) (hk0:k0≤ts.length) :
 Calls Tryz.prog 139 #[.agg #[.slice A m c,.int .i64 (k0:Int),.int .i64 n,.int .i64 0,.int .i64 0]] w (GotD A m c n ts (dom n (ts.drop k0)) w):=by
 cases hb:isW [98,111,111,108] (ts.drop k0) with
 | true=>exact dom_bool A m c n ts k0 w H hl hk0 hb
 | false =>
  cases hc:isW [123] (ts.drop k0) with
  | true=>exact dom_more A m c n ts k0 w H hl hk0 hb hc
  | false=>exact dom_two A m c n ts k0 w H hl hk0 hb hc
end Go.Proofs.YtjmmcnldfkjebaaGreatDoor.Doc6
end
section
namespace Go.Proofs.YtjmmcnldfkjebaaGreatDoor.Fq
open Go.RowKit
open Dig Lx Tk Ps Ti
abbrev Lo (m:Nat):Nat→Prop:=fun b=>b<m
structure Fr (G:Nat→Prop) (w w':World):Prop where
 os:w'.os=w.os
 tape:w'.tape=w.tape
 output:w'.output=w.output
 size:w.heap.size≤w'.heap.size
 block:∀ k,k<w.heap.size→¬ G k→w'.heap[k]?=w.heap[k]?
theorem Fr.refl (G:Nat→Prop) (w:World):Fr G w w:=⟨rfl,rfl,rfl,Nat.le_refl _,fun _ _ _=>rfl⟩
theorem Fr.of {G:Nat→Prop} {w w':World} (h:Since w w'):Fr G w w':=⟨h.os,h.tape,h.output,h.size,fun k hk _=>h.block k hk⟩
theorem Fr.grown {G:Nat→Prop} {w w':World} {g:Option Nat} (h:w.grownBy w' g) (hg:∀ b,g=some b→G b):Fr G w w':=⟨h.os,h.tape,h.output,h.size,fun k hk hn=>h.block k hk (fun e=>hn (hg k e.symm))⟩
theorem Fr.mono {G G':Nat→Prop} {w w':World} (h:Fr G w w') (hG:∀ b,b<w.heap.size→G b→G' b):Fr G' w w':=⟨h.os,h.tape,h.output,h.size,fun k hk hn=>h.block k hk (fun e=>hn (hG k hk e))⟩
theorem Fr.trans {G G':Nat→Prop} {x y z:World} (h:Fr G x y) (k:Fr G' y z) (hG:∀ b,G' b→G b∨x.heap.size≤b):Fr G x z:=
 ⟨k.os.trans h.os,k.tape.trans h.tape,k.output.trans h.output,Nat.le_trans h.size k.size,fun i hi hn=>(k.block i (Nat.lt_of_lt_of_le hi h.size) (fun e=>(hG i e).elim hn (fun l=>by omega))).trans (h.block i hi hn)⟩
theorem Fr.then_ {G:Nat→Prop} {x y z:World} (h:Fr G x y) (k:Since y z):Fr G x z:=h.trans (.of (G:=G) k) (fun _ h => .inl h)
theorem Fr.since {G:Nat→Prop} {a w w':World} (h:Since a w) (k:Fr G w w') (hG:∀ b,G b→a.heap.size≤b):Since a w':=
 ⟨k.os.trans h.os,k.tape.trans h.tape,k.output.trans h.output,Nat.le_trans h.size k.size,fun i hi=>(k.block i (Nat.lt_of_lt_of_le hi h.size) (fun e=>by have:=hG i e; omega)).trans (h.block i hi)⟩
theorem Fr.bx {G:Nat→Prop} {w w':World} {g:Nat} {cs:Array Value} {t:TypeId} (k:Fr G w w') (h:Bx w g cs t) (hg:¬ G g):Bx w' g cs t:=by
 have hl:=h.lt
 unfold Bx at *
 rw[k.block g hl hg]; exact h
theorem Fr.set {G:Nat→Prop} {x w:World} (h:Fr G x w) {b i:Nat} (hb:G b∨x.heap.size≤b) (u:Value):Fr G x (w.setCell ⟨b,i,none⟩ u):=
 ⟨h.os,h.tape,h.output,by simpa [World.setCell] using h.size,fun k hk hn=>(Below.heap_setCell w ⟨b,i,none⟩ u k (fun e=>by subst e; exact hb.elim hn (fun l=>by omega))).trans (h.block k hk hn)⟩
theorem Fr.sl {α:Type} {size:Nat} {Q Q':World→α→List Value→Prop} {G:Nat→Prop} {w w':World} (k:Fr G w w') (hQ:∀ x u,Q w x u→Q' w' x u) {v:Value} {xs:List α} (h:Sl size Q w v xs) (hf:FarO G v):Sl size Q' w' v xs:=by
 obtain⟨A,c,h1,h2,h3⟩:=h
 refine⟨A,c,h1,h2,fun hl => ?_⟩
 obtain⟨b,o,h4,h5⟩:=h3 hl
 refine⟨b,o,h4,fun i x hx => ?_⟩
 obtain⟨u,h6,h7,h8⟩:=h5 i x hx
 refine⟨u,hQ x u h6,h7,fun j y hy => ?_⟩
 have h9:=h8 j y hy
 subst h4
 have hb:=World.block_lt_of_cell? _ _ h9
 have hne:=hf b o _ c h1 hl
 rw[World.cell?_of_block (w:=w) (k.block b hb hne)]
 exact h9
theorem Fr.slR {G:Nat→Prop} {w w':World} (k:Fr G w w') {v:Value} {xs:List (Int × Int)} (h:Sl 2 QR w v xs) (hf:FarO G v):Sl 2 QR w' v xs:=k.sl (Q':=QR) (fun _ _ h=>h) h hf
theorem Fr.slP {G:Nat→Prop} {w w':World} (k:Fr G w w') {v:Value} {xs:List Pl} (h:Sl 4 QP w v xs) (hf:FarO G v):Sl 4 QP w' v xs:=k.sl (Q':=QP) (fun _ _ h=>h) h hf
theorem Fr.owns {G:Nat→Prop} {w w':World} {base:Nat} {e:TypeId} {size:Nat} {v:Value} {n:Nat} {xs:List Value} (k:Fr G w w') (h:w.ownsRow base e size v n xs) (hg:∀ g,v.ownBlock=some g→¬ G g):w'.ownsRow base e size v n xs:=by
 have hl:=h.lt
 obtain⟨h1,h2⟩:=h
 refine⟨h1,h2.imp id ?_⟩
 rintro⟨g,cap,cur,rfl,h3,h4,h5⟩
 exact⟨g,cap,cur,rfl,h3,(k.block g (hl g rfl).2 (hg g rfl)).trans h4,h5⟩
theorem Fr.map {G:Nat→Prop} {w w':World} {P:Program} {kt:TypeId} {H:Type} {R:Value→Option (DataW H × List MemPlace)} {b n:Nat} {D:DataW H} (k:Fr G w w') (h:w.ownsMap P kt R b n D) (hg:¬ G b):w'.ownsMap P kt R b n D:=by
 have hl:=h.lt
 obtain⟨es,clock,hb,r⟩:=h
 exact⟨es,clock,(k.block b hl hg).trans hb,r⟩
def held (v:Value):Option (DataW Value × List MemPlace):=some (.held v,[])
end Go.Proofs.YtjmmcnldfkjebaaGreatDoor.Fq
end
