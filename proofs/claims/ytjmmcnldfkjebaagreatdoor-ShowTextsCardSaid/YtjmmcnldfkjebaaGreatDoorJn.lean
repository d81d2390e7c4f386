/- The document's own parser: an array. -/
import Derived.Test.YtjmmcnldfkjebaaGreatDoorJm
import Derived.Test.YtjmmcnldfkjebaaGreatDoorVw
set_option maxHeartbeats 8000000
set_option maxRecDepth 20000
namespace Go.Proofs.YtjmmcnldfkjebaaGreatDoor.Doc6
open Go.RowKit
set_option linter.unusedVariables false
set_option linter.unusedSimpArgs false
open Dig Lx Tk Ps Ti
open Fq
open Prs (Old)
open Sh (sl_map)
theorem list_u (A:Option Addr) (m c:Nat) (n:Int) (ts:List Tv) (w:World) (H:Toks w (.slice A m c) ts) (hl:ts.length≤10000) {β:Type} {F:R β} {q:List Pl→P β} {i at_:Int} (h:Th ts n F (bnd list q) i at_ 0) :
 Calls Tryz.prog 142 #[.agg #[.slice A m c,.int .i64 i,.int .i64 n,.int .i64 at_,.int .i64 0]] w fun e w'=>∃ (i' at' er':Int) (l:List Pl) (C:Option Addr) (c':Nat),e = .returned (.tuple #[.agg #[.slice A m c,.int .i64 i',.int .i64 n,.int .i64 at',.int .i64 er'],.slice C l.length c'])∧Th ts n F (q l) i' at' er'∧Sl 4 QP w' (.slice C l.length c') l∧FarO (Old w) (.slice C l.length c')∧Since w w':=by
 obtain⟨k,hF,hk,rfl,rfl⟩:=h.good rfl
 refine (list_ok A m c n ts k w H hl hk).mono ?_
 rintro e w' (⟨l,k',v,h1,h2,⟨h3,h4⟩,rfl,hs⟩ | ⟨p,x,i,at_,er,v,h1,he,rfl,rfl,hs⟩)
 · obtain⟨C,c',rfl⟩:=h3.form
   exact⟨_,_,_,l,C,c',rfl,.inl ⟨k',hF.trans (by simp only[bnd,R.bind,h1]),h2,rfl,rfl,rfl⟩,h3,h4,hs⟩
 · exact⟨_,_,_,[],none,0,rfl,.inr ⟨p,x,hF.trans (by simp only[bnd,R.bind,h1]),he⟩,Sl.nil _ _ _,faro_nil _,hs⟩
theorem sl_xp {G:Nat→Prop} {w:World} {v:Value} {l:List Pl} (h:Sl 4 QP w v l):Sl 4 (QX G) w v (l.map Pl.xp):=
 sl_map Pl.xp (fun x u ⟨A,c,e⟩=>⟨.slice A 0 c,e,⟨A,c,rfl,Nat.zero_le _,fun h=>absurd h (Nat.lt_irrefl 0)⟩,fun b o n c' e hn=>by injection e with _ e; omega⟩) h
theorem array_ok (A:Option Addr) (m c:Nat) (n:Int) (ts:List Tv) (k0:Nat) (w:World) (H:Toks w (.slice A m c) ts) (hl:ts.length≤10000) (hk0:k0≤ts.length) :
 Calls Tryz.prog 111 #[.agg #[.slice A m c,.int .i64 (k0:Int),.int .i64 n,.int .i64 0,.int .i64 0]] w (Got (VI w) ZI A m c n ts (array n (ts.drop k0)) w):=by
 obtain⟨r,hr⟩:∃ r,r=array n (ts.drop k0):=⟨_,rfl⟩
 rw[← hr]
 have HTL:=lH hl
 have T0:=lH (show Th ts n r array (k0:Int) 0 0 from .inl ⟨k0,hr,hk0,rfl,rfl,rfl⟩)
 have t0:=T0.out
 unfold array at t0
 simp only[flag,bnd_alt,bnd_assoc,bnd_ret,bnd_if,outArr,if_true,if_false,Bool.false_eq_true] at t0
 have K0:=lH (fun W (kk:Since w W) (q:Unit→P It) (i a e:Int) (h:Th ts n r (bnd (take [91]) q) i a e)=>take_u A m c n ts ⟨#[91]⟩ [91] rfl (by decide) W (H.since kk) hl h)
 have K1:=lH (fun W (kk:Since w W) (q:Unit→P It) (i a e:Int) (h:Th ts n r (bnd (take [46,46]) q) i a e)=>take_u A m c n ts ⟨#[46,46]⟩ [46,46] rfl (by decide) W (H.since kk) hl h)
 have K2:=lH (fun W (kk:Since w W) (q:Unit→P It) (i a e:Int) (h:Th ts n r (bnd (take [93]) q) i a e)=>take_u A m c n ts ⟨#[93]⟩ [93] rfl (by decide) W (H.since kk) hl h)
 have K3:=lH (fun W (kk:Since w W) (q:Unit→P It) (i a e:Int) (h:Th ts n r (bnd (take [111,102]) q) i a e)=>take_u A m c n ts ⟨#[111,102]⟩ [111,102] rfl (by decide) W (H.since kk) hl h)
 have K4:=lH (fun W (kk:Since w W) (i a e:Int) (h:(∃ k:Nat,k≤ts.length∧i=(k:Int)∧a=0∧e=0)∨e≠0)=>is_u A m c n ts ⟨#[118,97,114]⟩ [118,97,114] rfl (by decide) W (H.since kk) h)
 have K5:=lH (fun W (kk:Since w W) (i a e:Int) (h:(∃ k:Nat,k≤ts.length∧i=(k:Int)∧a=0∧e=0)∨e≠0)=>is_u A m c n ts ⟨#[58,58]⟩ [58,58] rfl (by decide) W (H.since kk) h)
 have K6:=lH (fun W (kk:Since w W) (q:Unit→P It) (i a e:Int) (h:Th ts n r (bnd (take [58]) q) i a e)=>take_u A m c n ts ⟨#[58]⟩ [58] rfl (by decide) W (H.since kk) hl h)
 have K7:=lH (fun W (kk:Since w W) (q:Unit→P It) (i a e:Int) (h:Th ts n r (bnd (take [111,117,116,112,117,116,95,97,114,114,97,121]) q) i a e)=>take_u A m c n ts ⟨#[111,117,116,112,117,116,95,97,114,114,97,121]⟩ [111,117,116,112,117,116,95,97,114,114,97,121] rfl (by decide) W (H.since kk) hl h)
 have K8:=lH (fun W (kk:Since w W) (q:Unit→P It) (i a e:Int) (h:Th ts n r (bnd (take [40]) q) i a e)=>take_u A m c n ts ⟨#[40]⟩ [40] rfl (by decide) W (H.since kk) hl h)
 have K9:=lH (fun W (kk:Since w W) (q:Unit→P It) (i a e:Int) (h:Th ts n r (bnd (take [41]) q) i a e)=>take_u A m c n ts ⟨#[41]⟩ [41] rfl (by decide) W (H.since kk) hl h)
 have K10:=lH (fun W (kk:Since w W) (q:Unit→P It) (i a e:Int) (h:Th ts n r (bnd (take [61]) q) i a e)=>take_u A m c n ts ⟨#[61]⟩ [61] rfl (by decide) W (H.since kk) hl h)
 have NM:=lH (fun W (kk:Since w W) (q:ByteArray→P It) (i a e:Int) (h:Th ts n r (bnd name q) i a e)=>name_u A m c n ts W (H.since kk) hl h)
 have IN:=lH (fun W (kk:Since w W) (q:Int→P It) (i a e:Int) (h:Th ts n r (bnd integer q) i a e)=>integer_u A m c n ts W (H.since kk) hl h)
 have KD:=lH (fun W (kk:Since w W) (q:Bool→P It) (i a e:Int) (h:Th ts n r (bnd kind q) i a e)=>kind_u A m c n ts W (H.since kk) hl h)
 have EX:=lH (fun W (kk:Since w W) (x0:Int) (q:Unit→P It) (i a e:Int) (h:Th ts n r (bnd (exact x0) q) i a e)=>exact_u A m c n ts x0 W (H.since kk) hl h)
 have LS:=lH (fun W (kk:Since w W) (q:List Pl→P It) (i a:Int) (h:Th ts n r (bnd list q) i a 0)=>list_u A m c n ts W (H.since kk) hl h)
 clear H hr hl hk0 T0
 have X1:=lH (bx_new (Since.refl w) #[.slice A m c,.int .i64 (k0:Int),.int .i64 n,.int .i64 0,.int .i64 0] 127 (g:=w.heap.size) (by simp))
 have S2:=lH (Since.trans (Since.refl w) (sA _ (.cells #[.slice A m c,.int .i64 (k0:Int),.int .i64 n,.int .i64 0,.int .i64 0] 127)))
 have a1_:=sal S2.out (.cells #[.slice none 0 0,.int .i64 0,.int .i64 0,.int .i64 0,.int .i64 0] 127)
 have X3:=lH (Bx.since X1.out a1_)
 have X4:=lH (bx_new S2.out #[.slice none 0 0,.int .i64 0,.int .i64 0,.int .i64 0,.int .i64 0] 127 (g:=w.heap.size+1) (by simp))
 have S5:=lH (Since.trans S2.out a1_)
 have a2_:=sal S5.out (.cells #[.int .i64 0,.string ⟨#[]⟩,.bool false,.slice none 0 0,.int .i64 0,.bool false,.slice none 0 0,.int .i64 0] 28)
 have X6:=lH (Bx.since X3.out a2_)
 have X7:=lH (Bx.since X4.out a2_)
 have X8:=lH (bx_new S5.out #[.int .i64 0,.string ⟨#[]⟩,.bool false,.slice none 0 0,.int .i64 0,.bool false,.slice none 0 0,.int .i64 0] 28 (g:=w.heap.size+1+1) (by simp))
 have S9:=lH (Since.trans S5.out a2_)
 have a3_:=sal S9.out (.cells #[.int .i64 3,.string ⟨#[]⟩,.bool false,.slice none 0 0,.int .i64 0,.bool false,.slice none 0 0,.int .i64 0] 28)
 have X10:=lH (Bx.since X6.out a3_)
 have X11:=lH (Bx.since X7.out a3_)
 have X12:=lH (Bx.since X8.out a3_)
 have X13:=lH (bx_new S9.out #[.int .i64 3,.string ⟨#[]⟩,.bool false,.slice none 0 0,.int .i64 0,.bool false,.slice none 0 0,.int .i64 0] 28 (g:=w.heap.size+1+1+1) (by simp))
 have S14:=lH (Since.trans S9.out a3_)
 obtain⟨_,_,_,_,_⟩:=bx5 X10.out
 obtain⟨_,_,_,_,_⟩:=bx5' X10.out
 go_enter Tryz.func111,Tryz.ntmps111
 go_wp2_with fail
 (with_reducible refine (K0.out _ S14.out _ _ _ _ t0).mono ?_)
 rintro e1 w1 ⟨i1,a1,r1,rfl,t1,h1⟩
 have z_w1:=h1.size; try simp at z_w1
 go_wp2_with fail
 (with_reducible refine (EX.out _ (Since.trans S14.out h1) 1 _ _ _ _ t1).mono ?_)
 rintro e2 w2 ⟨i2,a2,r2,rfl,t2,h2⟩
 have z_w2:=h2.size; try simp at z_w2
 go_wp2_with fail
 (with_reducible refine (K1.out _ (Since.trans (Since.trans S14.out h1) h2) _ _ _ _ t2).mono ?_)
 rintro e3 w3 ⟨i3,a3,r3,rfl,t3,h3⟩
 have z_w3:=h3.size; try simp at z_w3
 have u4_:=h1.trans (h2.trans h3)
 obtain⟨_,_,_,_,_⟩:=bx5 (Bx.since X10.out u4_)
 obtain⟨_,_,_,_,_⟩:=bx5' (Bx.since X10.out u4_)
 have X15:=bp5 (Bx.since X10.out u4_) A m c i3 n a3 r3
 have X16:=bf5 (Bx.since X11.out u4_) (b':=w.heap.size) (by omega) A m c i3 n a3 r3
 have X17:=bf5 (Bx.since X12.out u4_) (b':=w.heap.size) (by omega) A m c i3 n a3 r3
 have X18:=bf5 (Bx.since X13.out u4_) (b':=w.heap.size) (by omega) A m c i3 n a3 r3
 have S19:=sp5 (Since.trans S14.out u4_) (b:=w.heap.size) (by omega) A m c i3 n a3 r3
 obtain⟨_,_,_,_,_⟩:=bx5 X15.out
 obtain⟨_,_,_,_,_⟩:=bx5' X15.out
 go_wp2_with fail
 (with_reducible refine (IN.out _ S19.out _ _ _ _ t3).mono ?_)
 rintro e4 w4 ⟨i4,a4,r4,nn,rfl,t4,h4⟩
 have z_w4:=h4.size; try simp at z_w4
 have a5_:=sal (Since.trans S19.out h4) (.cells #[.slice A m c,.int .i64 i4,.int .i64 n,.int .i64 a4,.int .i64 r4] 127)
 have X20:=lH (Bx.since (Bx.since X15.out h4) a5_)
 have X21:=lH (Bx.since (Bx.since X16.out h4) a5_)
 have X22:=lH (Bx.since (Bx.since X17.out h4) a5_)
 have X23:=lH (Bx.since (Bx.since X18.out h4) a5_)
 have X24:=lH (bx_new (Since.trans S19.out h4) #[.slice A m c,.int .i64 i4,.int .i64 n,.int .i64 a4,.int .i64 r4] 127 (g:=w4.heap.size) (by simp))
 have S25:=lH (Since.trans (Since.trans S19.out h4) a5_)
 obtain⟨_,_,_,_,_⟩:=bx5 X24.out
 obtain⟨_,_,_,_,_⟩:=bx5' X24.out
 obtain⟨_,_,_,_,_⟩:=bx5 X20.out
 obtain⟨_,_,_,_,_⟩:=bx5' X20.out
 obtain⟨_,_,_,_,_,_,_,_⟩:=bx8 X23.out
 obtain⟨_,_,_,_,_,_,_,_⟩:=bx8' X23.out
 go_wp2_with fail
 (with_reducible refine (K2.out _ S25.out _ _ _ _ t4).mono ?_)
 rintro e5 w5 ⟨i5,a5,r5,rfl,t5,h5⟩
 have z_w5:=h5.size; try simp at z_w5
 go_wp2_with fail
 (with_reducible refine (K3.out _ (Since.trans S25.out h5) _ _ _ _ t5).mono ?_)
 rintro e6 w6 ⟨i6,a6,r6,rfl,t6,h6⟩
 have z_w6:=h6.size; try simp at z_w6
 have u6_:=h5.trans h6
 obtain⟨_,_,_,_,_⟩:=bx5 (Bx.since X20.out u6_)
 obtain⟨_,_,_,_,_⟩:=bx5' (Bx.since X20.out u6_)
 obtain⟨_,_,_,_,_,_,_,_⟩:=bx8 (Bx.since X23.out u6_)
 obtain⟨_,_,_,_,_,_,_,_⟩:=bx8' (Bx.since X23.out u6_)
 have X26:=bp5 (Bx.since X20.out u6_) A m c i6 n a6 r6
 have X27:=bf5 (Bx.since X21.out u6_) (b':=w.heap.size) (by omega) A m c i6 n a6 r6
 have X28:=bf5 (Bx.since X22.out u6_) (b':=w.heap.size) (by omega) A m c i6 n a6 r6
 have X29:=bf5 (Bx.since X23.out u6_) (b':=w.heap.size) (by omega) A m c i6 n a6 r6
 have X30:=bf5 (Bx.since X24.out u6_) (b':=w.heap.size) (by omega) A m c i6 n a6 r6
 have S31:=sp5 (Since.trans S25.out u6_) (b:=w.heap.size) (by omega) A m c i6 n a6 r6
 obtain⟨_,_,_,_,_⟩:=bx5 X26.out
 obtain⟨_,_,_,_,_⟩:=bx5' X26.out
 obtain⟨_,_,_,_,_,_,_,_⟩:=bx8 X29.out
 obtain⟨_,_,_,_,_,_,_,_⟩:=bx8' X29.out
 have X32:=lH (Bx.other X26.out (b':=w.heap.size+1+1+1) (by omega) 4 (.int .i64 nn))
 have X33:=lH (Bx.other X27.out (b':=w.heap.size+1+1+1) (by omega) 4 (.int .i64 nn))
 have X34:=lH (Bx.other X28.out (b':=w.heap.size+1+1+1) (by omega) 4 (.int .i64 nn))
 have X35:=lH (bxset X29.out 4 (.int .i64 nn) (ds:=#[.int .i64 3,.string ⟨#[]⟩,.bool false,.slice none 0 0,.int .i64 nn,.bool false,.slice none 0 0,.int .i64 0]) rfl)
 have X36:=lH (Bx.other X30.out (b':=w.heap.size+1+1+1) (by omega) 4 (.int .i64 nn))
 have S37:=lH (Since.set S31.out (p:=⟨w.heap.size+1+1+1,4,none⟩) (show w.heap.size≤w.heap.size+1+1+1 by omega) (.int .i64 nn))
 obtain⟨_,_,_,_,_⟩:=bx5 X32.out
 obtain⟨_,_,_,_,_⟩:=bx5' X32.out
 go_wp2_with fail
 (with_reducible refine (K4.out _ S37.out _ _ _ (Th.st t6)).mono ?_)
 rintro e7 w7 ⟨b7,rfl,hb7,h7⟩
 have z_w7:=h7.size; try simp at z_w7
 cases b7 with
 | false =>
  have tv:=Th.no t6 hb7
  obtain⟨_,_,_,_,_⟩:=bx5 (Bx.since X32.out h7)
  obtain⟨_,_,_,_,_⟩:=bx5' (Bx.since X32.out h7)
  go_wp2_with fail
  (with_reducible refine (KD.out _ (Since.trans S37.out h7) _ _ _ _ tv).mono ?_)
  rintro e8 w8 ⟨i8,a8,r8,bb,rfl,t8,h8⟩
  have z_w8:=h8.size; try simp at z_w8
  have u7_:=h7.trans h8
  obtain⟨_,_,_,_,_⟩:=bx5 (Bx.since X36.out u7_)
  obtain⟨_,_,_,_,_⟩:=bx5' (Bx.since X36.out u7_)
  obtain⟨_,_,_,_,_,_,_,_⟩:=bx8 (Bx.since X35.out u7_)
  obtain⟨_,_,_,_,_,_,_,_⟩:=bx8' (Bx.since X35.out u7_)
  have X38:=bf5 (Bx.since X32.out u7_) (b':=w4.heap.size) (by omega) A m c i8 n a8 r8
  have X39:=bf5 (Bx.since X33.out u7_) (b':=w4.heap.size) (by omega) A m c i8 n a8 r8
  have X40:=bf5 (Bx.since X34.out u7_) (b':=w4.heap.size) (by omega) A m c i8 n a8 r8
  have X41:=bf5 (Bx.since X35.out u7_) (b':=w4.heap.size) (by omega) A m c i8 n a8 r8
  have X42:=bp5 (Bx.since X36.out u7_) A m c i8 n a8 r8
  have S43:=sp5 (Since.trans S37.out u7_) (b:=w4.heap.size) (by omega) A m c i8 n a8 r8
  obtain⟨_,_,_,_,_⟩:=bx5 X42.out
  obtain⟨_,_,_,_,_⟩:=bx5' X42.out
  obtain⟨_,_,_,_,_,_,_,_⟩:=bx8 X41.out
  obtain⟨_,_,_,_,_,_,_,_⟩:=bx8' X41.out
  have X44:=lH (Bx.other X38.out (b':=w.heap.size+1+1+1) (by omega) 2 (.bool bb))
  have X45:=lH (Bx.other X39.out (b':=w.heap.size+1+1+1) (by omega) 2 (.bool bb))
  have X46:=lH (Bx.other X40.out (b':=w.heap.size+1+1+1) (by omega) 2 (.bool bb))
  have X47:=lH (bxset X41.out 2 (.bool bb) (ds:=#[.int .i64 3,.string ⟨#[]⟩,.bool bb,.slice none 0 0,.int .i64 nn,.bool false,.slice none 0 0,.int .i64 0]) rfl)
  have X48:=lH (Bx.other X42.out (b':=w.heap.size+1+1+1) (by omega) 2 (.bool bb))
  have S49:=lH (Since.set S43.out (p:=⟨w.heap.size+1+1+1,2,none⟩) (show w.heap.size≤w.heap.size+1+1+1 by omega) (.bool bb))
  obtain⟨_,_,_,_,_⟩:=bx5 X48.out
  obtain⟨_,_,_,_,_⟩:=bx5' X48.out
  go_wp2_with fail
  (with_reducible refine (K6.out _ S49.out _ _ _ _ t8).mono ?_)
  rintro e9 w9 ⟨i9,a9,r9,rfl,t9,h9⟩
  have z_w9:=h9.size; try simp at z_w9
  obtain⟨_,_,_,_,_⟩:=bx5 (Bx.since X48.out h9)
  obtain⟨_,_,_,_,_⟩:=bx5' (Bx.since X48.out h9)
  have X50:=bf5 (Bx.since X44.out h9) (b':=w4.heap.size) (by omega) A m c i9 n a9 r9
  have X51:=bf5 (Bx.since X45.out h9) (b':=w4.heap.size) (by omega) A m c i9 n a9 r9
  have X52:=bf5 (Bx.since X46.out h9) (b':=w4.heap.size) (by omega) A m c i9 n a9 r9
  have X53:=bf5 (Bx.since X47.out h9) (b':=w4.heap.size) (by omega) A m c i9 n a9 r9
  have X54:=bp5 (Bx.since X48.out h9) A m c i9 n a9 r9
  have S55:=sp5 (Since.trans S49.out h9) (b:=w4.heap.size) (by omega) A m c i9 n a9 r9
  obtain⟨_,_,_,_,_⟩:=bx5 X54.out
  obtain⟨_,_,_,_,_⟩:=bx5' X54.out
  go_wp2_with fail
  (with_reducible refine (NM.out _ S55.out _ _ _ _ t9).mono ?_)
  rintro e10 w10 ⟨i10,a10,r10,word,rfl,t10,h10⟩
  have z_w10:=h10.size; try simp at z_w10
  obtain⟨_,_,_,_,_⟩:=bx5 (Bx.since X50.out h10)
  obtain⟨_,_,_,_,_⟩:=bx5' (Bx.since X50.out h10)
  obtain⟨_,_,_,_,_,_,_,_⟩:=bx8 (Bx.since X53.out h10)
  obtain⟨_,_,_,_,_,_,_,_⟩:=bx8' (Bx.since X53.out h10)
  have X56:=bp5 (Bx.since X50.out h10) A m c i10 n a10 r10
  have X57:=bf5 (Bx.since X51.out h10) (b':=w.heap.size) (by omega) A m c i10 n a10 r10
  have X58:=bf5 (Bx.since X52.out h10) (b':=w.heap.size) (by omega) A m c i10 n a10 r10
  have X59:=bf5 (Bx.since X53.out h10) (b':=w.heap.size) (by omega) A m c i10 n a10 r10
  have X60:=bf5 (Bx.since X54.out h10) (b':=w.heap.size) (by omega) A m c i10 n a10 r10
  have S61:=sp5 (Since.trans S55.out h10) (b:=w.heap.size) (by omega) A m c i10 n a10 r10
  obtain⟨_,_,_,_,_⟩:=bx5 X56.out
  obtain⟨_,_,_,_,_⟩:=bx5' X56.out
  obtain⟨_,_,_,_,_,_,_,_⟩:=bx8 X59.out
  obtain⟨_,_,_,_,_,_,_,_⟩:=bx8' X59.out
  have X62:=lH (Bx.other X56.out (b':=w.heap.size+1+1+1) (by omega) 1 (.string word))
  have X63:=lH (Bx.other X57.out (b':=w.heap.size+1+1+1) (by omega) 1 (.string word))
  have X64:=lH (Bx.other X58.out (b':=w.heap.size+1+1+1) (by omega) 1 (.string word))
  have X65:=lH (bxset X59.out 1 (.string word) (ds:=#[.int .i64 3,.string word,.bool bb,.slice none 0 0,.int .i64 nn,.bool false,.slice none 0 0,.int .i64 0]) rfl)
  have X66:=lH (Bx.other X60.out (b':=w.heap.size+1+1+1) (by omega) 1 (.string word))
  have S67:=lH (Since.set S61.out (p:=⟨w.heap.size+1+1+1,1,none⟩) (show w.heap.size≤w.heap.size+1+1+1 by omega) (.string word))
  obtain⟨_,_,_,_,_⟩:=bx5 X62.out
  obtain⟨_,_,_,_,_⟩:=bx5' X62.out
  obtain⟨_,_,_,_,_,_,_,_⟩:=bx8 X65.out
  obtain⟨_,_,_,_,_,_,_,_⟩:=bx8' X65.out
  go_wp2_with fail
  (with_reducible refine (K10.out _ S67.out _ _ _ _ t10).mono ?_)
  rintro e11 w11 ⟨i11,a11,r11,rfl,t11,h11⟩
  have z_w11:=h11.size; try simp at z_w11
  go_wp2_with fail
  (with_reducible refine (K0.out _ (Since.trans S67.out h11) _ _ _ _ t11).mono ?_)
  rintro e12 w12 ⟨i12,a12,r12,rfl,t12,h12⟩
  have z_w12:=h12.size; try simp at z_w12
  by_cases he:r12=0
  · subst he
    have u8_:=h11.trans h12
    obtain⟨_,_,_,_,_⟩:=bx5 (Bx.since X62.out u8_)
    obtain⟨_,_,_,_,_⟩:=bx5' (Bx.since X62.out u8_)
    have X68:=bp5 (Bx.since X62.out u8_) A m c i12 n a12 0
    have X69:=bf5 (Bx.since X63.out u8_) (b':=w.heap.size) (by omega) A m c i12 n a12 0
    have X70:=bf5 (Bx.since X64.out u8_) (b':=w.heap.size) (by omega) A m c i12 n a12 0
    have X71:=bf5 (Bx.since X65.out u8_) (b':=w.heap.size) (by omega) A m c i12 n a12 0
    have S72:=sp5 (Since.trans S67.out u8_) (b:=w.heap.size) (by omega) A m c i12 n a12 0
    obtain⟨_,_,_,_,_⟩:=bx5 X68.out
    obtain⟨_,_,_,_,_⟩:=bx5' X68.out
    go_wp2_with fail
    (with_reducible refine (LS.out _ S72.out _ _ _ t12).mono ?_)
    rintro e13 w13 ⟨i13,a13,r13,l,C,c1,rfl,t13,d1,d2,h13⟩
    have z_w13:=h13.size; try simp at z_w13
    have a9_:=sal (Since.trans S72.out h13) (.cells #[.slice A m c,.int .i64 i13,.int .i64 n,.int .i64 a13,.int .i64 r13] 127)
    have X73:=lH (Bx.since (Bx.since X68.out h13) a9_)
    have X74:=lH (Bx.since (Bx.since X69.out h13) a9_)
    have X75:=lH (Bx.since (Bx.since X70.out h13) a9_)
    have X76:=lH (Bx.since (Bx.since X71.out h13) a9_)
    have X77:=lH (bx_new (Since.trans S72.out h13) #[.slice A m c,.int .i64 i13,.int .i64 n,.int .i64 a13,.int .i64 r13] 127 (g:=w13.heap.size) (by simp))
    have S78:=lH (Since.trans (Since.trans S72.out h13) a9_)
    have F79:=lH (Fr.then_ (Fr.refl (Lo (w.heap.size+4)) w13) a9_)
    obtain⟨_,_,_,_,_,_,_,_⟩:=bx8 X76.out
    obtain⟨_,_,_,_,_,_,_,_⟩:=bx8' X76.out
    obtain⟨_,_,_,_,_⟩:=bx5 X77.out
    obtain⟨_,_,_,_,_⟩:=bx5' X77.out
    have X80:=lH (Bx.other X73.out (b':=w.heap.size+1+1+1) (by omega) 6 (.slice C l.length c1))
    have X81:=lH (Bx.other X74.out (b':=w.heap.size+1+1+1) (by omega) 6 (.slice C l.length c1))
    have X82:=lH (Bx.other X75.out (b':=w.heap.size+1+1+1) (by omega) 6 (.slice C l.length c1))
    have X83:=lH (bxset X76.out 6 (.slice C l.length c1) (ds:=#[.int .i64 3,.string word,.bool bb,.slice none 0 0,.int .i64 nn,.bool false,.slice C l.length c1,.int .i64 0]) rfl)
    have X84:=lH (Bx.other X77.out (b':=w.heap.size+1+1+1) (by omega) 6 (.slice C l.length c1))
    have S85:=lH (Since.set S78.out (p:=⟨w.heap.size+1+1+1,6,none⟩) (show w.heap.size≤w.heap.size+1+1+1 by omega) (.slice C l.length c1))
    have F86:=lH (Fr.set F79.out (b:=w.heap.size+1+1+1) (i:=6) (by first | exact .inl (show _<_ by omega) | exact .inr (by omega)) (.slice C l.length c1))
    obtain⟨_,_,_,_,_,_,_,_⟩:=bx8 X83.out
    obtain⟨_,_,_,_,_,_,_,_⟩:=bx8' X83.out
    obtain⟨_,_,_,_,_⟩:=bx5 X84.out
    obtain⟨_,_,_,_,_⟩:=bx5' X84.out
    obtain⟨ca0,ca1,ca2,ca3,ca4⟩:=bx5 X81.out
    obtain⟨_,_,_,_,_⟩:=bx5' X81.out
    obtain⟨cz0,cz1,cz2,cz3,cz4,cz5,cz6,cz7⟩:=bx8 X82.out
    obtain⟨_,_,_,_,_,_,_,_⟩:=bx8' X82.out
    have X87:=bf5 X80.out (b':=w.heap.size+1) (by omega) A m c i13 n a13 r13
    have X88:=bp5 X81.out A m c i13 n a13 r13
    have X89:=bf5 X82.out (b':=w.heap.size+1) (by omega) A m c i13 n a13 r13
    have X90:=bf5 X83.out (b':=w.heap.size+1) (by omega) A m c i13 n a13 r13
    have X91:=bf5 X84.out (b':=w.heap.size+1) (by omega) A m c i13 n a13 r13
    have S92:=sp5 S85.out (b:=w.heap.size+1) (by omega) A m c i13 n a13 r13
    have F93:=lH (fr_put5 F86.out (b:=w.heap.size+1) (by first | exact .inl (show _<_ by omega) | exact .inr (by omega)) (.slice A m c) (.int .i64 i13) (.int .i64 n) (.int .i64 a13) (.int .i64 r13))
    obtain⟨cz0,cz1,cz2,cz3,cz4,cz5,cz6,cz7⟩:=bx8 X89.out
    obtain⟨_,_,_,_,_,_,_,_⟩:=bx8' X89.out
    obtain⟨_,_,_,_,_,_,_,_⟩:=bx8 X90.out
    obtain⟨_,_,_,_,_,_,_,_⟩:=bx8' X90.out
    go_wp2
    go_region
    go_wp2
    have X94:=lH (bxfar8 X87.out (b':=w.heap.size+1+1) (by omega) (.int .i64 3) (.string word) (.bool bb) (.slice none 0 0) (.int .i64 nn) (.bool false) (.slice C l.length c1) (.int .i64 0))
    have X95:=lH (bxfar8 X88.out (b':=w.heap.size+1+1) (by omega) (.int .i64 3) (.string word) (.bool bb) (.slice none 0 0) (.int .i64 nn) (.bool false) (.slice C l.length c1) (.int .i64 0))
    have X96:=lH (bxput8 X89.out (.int .i64 3) (.string word) (.bool bb) (.slice none 0 0) (.int .i64 nn) (.bool false) (.slice C l.length c1) (.int .i64 0))
    have X97:=lH (bxfar8 X90.out (b':=w.heap.size+1+1) (by omega) (.int .i64 3) (.string word) (.bool bb) (.slice none 0 0) (.int .i64 nn) (.bool false) (.slice C l.length c1) (.int .i64 0))
    have X98:=lH (bxfar8 X91.out (b':=w.heap.size+1+1) (by omega) (.int .i64 3) (.string word) (.bool bb) (.slice none 0 0) (.int .i64 nn) (.bool false) (.slice C l.length c1) (.int .i64 0))
    have S99:=lH (since_put8 S92.out (b:=w.heap.size+1+1) (by omega) (.int .i64 3) (.string word) (.bool bb) (.slice none 0 0) (.int .i64 nn) (.bool false) (.slice C l.length c1) (.int .i64 0))
    have F100:=lH (fr_put8 F93.out (b:=w.heap.size+1+1) (by first | exact .inl (show _<_ by omega) | exact .inr (by omega)) (.int .i64 3) (.string word) (.bool bb) (.slice none 0 0) (.int .i64 nn) (.bool false) (.slice C l.length c1) (.int .i64 0))
    refine bodyPost_ret (v:=.tuple #[.agg #[.slice A m c,.int .i64 i13,.int .i64 n,.int .i64 a13,.int .i64 r13],.agg #[.int .i64 3,.string word,.bool bb,.slice none 0 0,.int .i64 nn,.bool false,.slice C l.length c1,.int .i64 0]]) ?_ rfl ?_
    · simp[results,Tryz.results111,go_sem,ca0,ca1,ca2,ca3,ca4,cz0,cz1,cz2,cz3,cz4,cz5,cz6,cz7]
    · exact Th.got t13 (V:=VI w) (fun _=>⟨_,_,rfl,Sl.nil _ _ _,faro_nil _,sl_xp ((Fr.then_ F100.out (Since.drew (Since.refl _))).slP d1 (d2.mono (fun b hb=>by have:b<w.heap.size+4:=hb; show b<_; simp; omega))),d2.mono (fun b hb=>by have:b<w.heap.size:=hb; show b<_; simp; omega)⟩) ⟨_,_,_,_,_,_,_,_,_,_,_,_,rfl⟩ (Since.trans S99.out (Since.drew (Since.refl _)))
  · have ne:(r12 != 0)=true:=by rw[bne_iff_ne]; exact he
    have HE:=lH he
    clear he
    have u10_:=h11.trans h12
    obtain⟨_,_,_,_,_⟩:=bx5 (Bx.since X62.out u10_)
    obtain⟨_,_,_,_,_⟩:=bx5' (Bx.since X62.out u10_)
    have X68:=bp5 (Bx.since X62.out u10_) A m c i12 n a12 r12
    have X69:=bf5 (Bx.since X63.out u10_) (b':=w.heap.size) (by omega) A m c i12 n a12 r12
    have X70:=bf5 (Bx.since X64.out u10_) (b':=w.heap.size) (by omega) A m c i12 n a12 r12
    have X71:=bf5 (Bx.since X65.out u10_) (b':=w.heap.size) (by omega) A m c i12 n a12 r12
    have S72:=sp5 (Since.trans S67.out u10_) (b:=w.heap.size) (by omega) A m c i12 n a12 r12
    obtain⟨_,_,_,_,_⟩:=bx5 X68.out
    obtain⟨_,_,_,_,_⟩:=bx5' X68.out
    obtain⟨_,_,_,_,_,_,_,_⟩:=bx8 X71.out
    obtain⟨_,_,_,_,_,_,_,_⟩:=bx8' X71.out
    obtain⟨ca0,ca1,ca2,ca3,ca4⟩:=bx5 X69.out
    obtain⟨_,_,_,_,_⟩:=bx5' X69.out
    obtain⟨cz0,cz1,cz2,cz3,cz4,cz5,cz6,cz7⟩:=bx8 X70.out
    obtain⟨_,_,_,_,_,_,_,_⟩:=bx8' X70.out
    have X73:=bf5 X68.out (b':=w.heap.size+1) (by omega) A m c i12 n a12 r12
    have X74:=bp5 X69.out A m c i12 n a12 r12
    have X75:=bf5 X70.out (b':=w.heap.size+1) (by omega) A m c i12 n a12 r12
    have X76:=bf5 X71.out (b':=w.heap.size+1) (by omega) A m c i12 n a12 r12
    have S77:=sp5 S72.out (b:=w.heap.size+1) (by omega) A m c i12 n a12 r12
    obtain⟨cz0,cz1,cz2,cz3,cz4,cz5,cz6,cz7⟩:=bx8 X75.out
    obtain⟨_,_,_,_,_,_,_,_⟩:=bx8' X75.out
    obtain⟨_,_,_,_,_,_,_,_⟩:=bx8 X76.out
    obtain⟨_,_,_,_,_,_,_,_⟩:=bx8' X76.out
    go_wp2
    go_region
    go_wp2
    have X78:=lH (bxfar8 X73.out (b':=w.heap.size+1+1) (by omega) (.int .i64 3) (.string word) (.bool bb) (.slice none 0 0) (.int .i64 nn) (.bool false) (.slice none 0 0) (.int .i64 0))
    have X79:=lH (bxfar8 X74.out (b':=w.heap.size+1+1) (by omega) (.int .i64 3) (.string word) (.bool bb) (.slice none 0 0) (.int .i64 nn) (.bool false) (.slice none 0 0) (.int .i64 0))
    have X80:=lH (bxput8 X75.out (.int .i64 3) (.string word) (.bool bb) (.slice none 0 0) (.int .i64 nn) (.bool false) (.slice none 0 0) (.int .i64 0))
    have X81:=lH (bxfar8 X76.out (b':=w.heap.size+1+1) (by omega) (.int .i64 3) (.string word) (.bool bb) (.slice none 0 0) (.int .i64 nn) (.bool false) (.slice none 0 0) (.int .i64 0))
    have S82:=lH (since_put8 S77.out (b:=w.heap.size+1+1) (by omega) (.int .i64 3) (.string word) (.bool bb) (.slice none 0 0) (.int .i64 nn) (.bool false) (.slice none 0 0) (.int .i64 0))
    obtain⟨p,x0,hbad,hec⟩:=t12.bad HE.out
    refine bodyPost_ret (v:=.tuple #[.agg #[.slice A m c,.int .i64 i12,.int .i64 n,.int .i64 a12,.int .i64 r12],.agg #[.int .i64 3,.string word,.bool bb,.slice none 0 0,.int .i64 nn,.bool false,.slice none 0 0,.int .i64 0]]) ?_ rfl ?_
    · simp[results,Tryz.results111,go_sem,ca0,ca1,ca2,ca3,ca4,cz0,cz1,cz2,cz3,cz4,cz5,cz6,cz7]
    · exact .inr ⟨p,x0,_,_,_,_,hbad,hec,⟨_,_,_,_,_,_,_,_,_,_,_,_,rfl⟩,rfl,(Since.trans S82.out (Since.drew (Since.refl _)))⟩
 | true =>
  obtain⟨t14,la14,lb14,-⟩:=Th.yes t6 hb7
  have hl14:=HTL.out
  obtain⟨_,_,_,_,_⟩:=bx5 (Bx.since X32.out h7)
  obtain⟨_,_,_,_,_⟩:=bx5' (Bx.since X32.out h7)
  go_wp2_with fail
  (with_reducible refine (next_any A m c n i6 a6 r6 _ (by omega) (by omega)).mono ?_)
  rintro e14 w14 ⟨rfl,h14⟩
  clear hl14 la14 lb14
  have z_w14:=h14.size; try simp at z_w14
  have u11_:=h7.trans h14
  obtain⟨_,_,_,_,_⟩:=bx5 (Bx.since X32.out u11_)
  obtain⟨_,_,_,_,_⟩:=bx5' (Bx.since X32.out u11_)
  obtain⟨_,_,_,_,_,_,_,_⟩:=bx8 (Bx.since X35.out u11_)
  obtain⟨_,_,_,_,_,_,_,_⟩:=bx8' (Bx.since X35.out u11_)
  have X38:=bp5 (Bx.since X32.out u11_) A m c (i6+1) n a6 r6
  have X39:=bf5 (Bx.since X33.out u11_) (b':=w.heap.size) (by omega) A m c (i6+1) n a6 r6
  have X40:=bf5 (Bx.since X34.out u11_) (b':=w.heap.size) (by omega) A m c (i6+1) n a6 r6
  have X41:=bf5 (Bx.since X35.out u11_) (b':=w.heap.size) (by omega) A m c (i6+1) n a6 r6
  have X42:=bf5 (Bx.since X36.out u11_) (b':=w.heap.size) (by omega) A m c (i6+1) n a6 r6
  have S43:=sp5 (Since.trans S37.out u11_) (b:=w.heap.size) (by omega) A m c (i6+1) n a6 r6
  obtain⟨_,_,_,_,_⟩:=bx5 X38.out
  obtain⟨_,_,_,_,_⟩:=bx5' X38.out
  obtain⟨_,_,_,_,_,_,_,_⟩:=bx8 X41.out
  obtain⟨_,_,_,_,_,_,_,_⟩:=bx8' X41.out
  have X44:=lH (Bx.other X38.out (b':=w.heap.size+1+1+1) (by omega) 0 (.int .i64 4))
  have X45:=lH (Bx.other X39.out (b':=w.heap.size+1+1+1) (by omega) 0 (.int .i64 4))
  have X46:=lH (Bx.other X40.out (b':=w.heap.size+1+1+1) (by omega) 0 (.int .i64 4))
  have X47:=lH (bxset X41.out 0 (.int .i64 4) (ds:=#[.int .i64 4,.string ⟨#[]⟩,.bool false,.slice none 0 0,.int .i64 nn,.bool false,.slice none 0 0,.int .i64 0]) rfl)
  have X48:=lH (Bx.other X42.out (b':=w.heap.size+1+1+1) (by omega) 0 (.int .i64 4))
  have S49:=lH (Since.set S43.out (p:=⟨w.heap.size+1+1+1,0,none⟩) (show w.heap.size≤w.heap.size+1+1+1 by omega) (.int .i64 4))
  obtain⟨_,_,_,_,_⟩:=bx5 X44.out
  obtain⟨_,_,_,_,_⟩:=bx5' X44.out
  go_wp2_with fail
  (with_reducible refine (KD.out _ S49.out _ _ _ _ t14).mono ?_)
  rintro e15 w15 ⟨i15,a15,r15,bb,rfl,t15,h15⟩
  have z_w15:=h15.size; try simp at z_w15
  obtain⟨_,_,_,_,_⟩:=bx5 (Bx.since X48.out h15)
  obtain⟨_,_,_,_,_⟩:=bx5' (Bx.since X48.out h15)
  obtain⟨_,_,_,_,_,_,_,_⟩:=bx8 (Bx.since X47.out h15)
  obtain⟨_,_,_,_,_,_,_,_⟩:=bx8' (Bx.since X47.out h15)
  have X50:=bf5 (Bx.since X44.out h15) (b':=w4.heap.size) (by omega) A m c i15 n a15 r15
  have X51:=bf5 (Bx.since X45.out h15) (b':=w4.heap.size) (by omega) A m c i15 n a15 r15
  have X52:=bf5 (Bx.since X46.out h15) (b':=w4.heap.size) (by omega) A m c i15 n a15 r15
  have X53:=bf5 (Bx.since X47.out h15) (b':=w4.heap.size) (by omega) A m c i15 n a15 r15
  have X54:=bp5 (Bx.since X48.out h15) A m c i15 n a15 r15
  have S55:=sp5 (Since.trans S49.out h15) (b:=w4.heap.size) (by omega) A m c i15 n a15 r15
  obtain⟨_,_,_,_,_⟩:=bx5 X54.out
  obtain⟨_,_,_,_,_⟩:=bx5' X54.out
  obtain⟨_,_,_,_,_,_,_,_⟩:=bx8 X53.out
  obtain⟨_,_,_,_,_,_,_,_⟩:=bx8' X53.out
  have X56:=lH (Bx.other X50.out (b':=w.heap.size+1+1+1) (by omega) 2 (.bool bb))
  have X57:=lH (Bx.other X51.out (b':=w.heap.size+1+1+1) (by omega) 2 (.bool bb))
  have X58:=lH (Bx.other X52.out (b':=w.heap.size+1+1+1) (by omega) 2 (.bool bb))
  have X59:=lH (bxset X53.out 2 (.bool bb) (ds:=#[.int .i64 4,.string ⟨#[]⟩,.bool bb,.slice none 0 0,.int .i64 nn,.bool false,.slice none 0 0,.int .i64 0]) rfl)
  have X60:=lH (Bx.other X54.out (b':=w.heap.size+1+1+1) (by omega) 2 (.bool bb))
  have S61:=lH (Since.set S55.out (p:=⟨w.heap.size+1+1+1,2,none⟩) (show w.heap.size≤w.heap.size+1+1+1 by omega) (.bool bb))
  obtain⟨_,_,_,_,_⟩:=bx5 X60.out
  obtain⟨_,_,_,_,_⟩:=bx5' X60.out
  go_wp2_with fail
  (with_reducible refine (K6.out _ S61.out _ _ _ _ t15).mono ?_)
  rintro e16 w16 ⟨i16,a16,r16,rfl,t16,h16⟩
  have z_w16:=h16.size; try simp at z_w16
  obtain⟨_,_,_,_,_⟩:=bx5 (Bx.since X60.out h16)
  obtain⟨_,_,_,_,_⟩:=bx5' (Bx.since X60.out h16)
  have X62:=bf5 (Bx.since X56.out h16) (b':=w4.heap.size) (by omega) A m c i16 n a16 r16
  have X63:=bf5 (Bx.since X57.out h16) (b':=w4.heap.size) (by omega) A m c i16 n a16 r16
  have X64:=bf5 (Bx.since X58.out h16) (b':=w4.heap.size) (by omega) A m c i16 n a16 r16
  have X65:=bf5 (Bx.since X59.out h16) (b':=w4.heap.size) (by omega) A m c i16 n a16 r16
  have X66:=bp5 (Bx.since X60.out h16) A m c i16 n a16 r16
  have S67:=sp5 (Since.trans S61.out h16) (b:=w4.heap.size) (by omega) A m c i16 n a16 r16
  obtain⟨_,_,_,_,_⟩:=bx5 X66.out
  obtain⟨_,_,_,_,_⟩:=bx5' X66.out
  go_wp2_with fail
  (with_reducible refine (NM.out _ S67.out _ _ _ _ t16).mono ?_)
  rintro e17 w17 ⟨i17,a17,r17,word,rfl,t17,h17⟩
  have z_w17:=h17.size; try simp at z_w17
  obtain⟨_,_,_,_,_⟩:=bx5 (Bx.since X62.out h17)
  obtain⟨_,_,_,_,_⟩:=bx5' (Bx.since X62.out h17)
  obtain⟨_,_,_,_,_,_,_,_⟩:=bx8 (Bx.since X65.out h17)
  obtain⟨_,_,_,_,_,_,_,_⟩:=bx8' (Bx.since X65.out h17)
  have X68:=bp5 (Bx.since X62.out h17) A m c i17 n a17 r17
  have X69:=bf5 (Bx.since X63.out h17) (b':=w.heap.size) (by omega) A m c i17 n a17 r17
  have X70:=bf5 (Bx.since X64.out h17) (b':=w.heap.size) (by omega) A m c i17 n a17 r17
  have X71:=bf5 (Bx.since X65.out h17) (b':=w.heap.size) (by omega) A m c i17 n a17 r17
  have X72:=bf5 (Bx.since X66.out h17) (b':=w.heap.size) (by omega) A m c i17 n a17 r17
  have S73:=sp5 (Since.trans S67.out h17) (b:=w.heap.size) (by omega) A m c i17 n a17 r17
  obtain⟨_,_,_,_,_⟩:=bx5 X68.out
  obtain⟨_,_,_,_,_⟩:=bx5' X68.out
  obtain⟨_,_,_,_,_,_,_,_⟩:=bx8 X71.out
  obtain⟨_,_,_,_,_,_,_,_⟩:=bx8' X71.out
  have X74:=lH (Bx.other X68.out (b':=w.heap.size+1+1+1) (by omega) 1 (.string word))
  have X75:=lH (Bx.other X69.out (b':=w.heap.size+1+1+1) (by omega) 1 (.string word))
  have X76:=lH (Bx.other X70.out (b':=w.heap.size+1+1+1) (by omega) 1 (.string word))
  have X77:=lH (bxset X71.out 1 (.string word) (ds:=#[.int .i64 4,.string word,.bool bb,.slice none 0 0,.int .i64 nn,.bool false,.slice none 0 0,.int .i64 0]) rfl)
  have X78:=lH (Bx.other X72.out (b':=w.heap.size+1+1+1) (by omega) 1 (.string word))
  have S79:=lH (Since.set S73.out (p:=⟨w.heap.size+1+1+1,1,none⟩) (show w.heap.size≤w.heap.size+1+1+1 by omega) (.string word))
  obtain⟨_,_,_,_,_⟩:=bx5 X74.out
  obtain⟨_,_,_,_,_⟩:=bx5' X74.out
  obtain⟨_,_,_,_,_,_,_,_⟩:=bx8 X77.out
  obtain⟨_,_,_,_,_,_,_,_⟩:=bx8' X77.out
  go_wp2_with fail
  (with_reducible refine (K5.out _ S79.out _ _ _ (Th.st t17)).mono ?_)
  rintro e18 w18 ⟨b18,rfl,hb18,h18⟩
  have z_w18:=h18.size; try simp at z_w18
  cases b18 with
  | false =>
   have tn:=Th.no t17 hb18
   obtain⟨_,_,_,_,_⟩:=bx5 (Bx.since X74.out h18)
   obtain⟨_,_,_,_,_⟩:=bx5' (Bx.since X74.out h18)
   go_wp2_with fail
   (with_reducible refine (K10.out _ (Since.trans S79.out h18) _ _ _ _ tn).mono ?_)
   rintro e19 w19 ⟨i19,a19,r19,rfl,t19,h19⟩
   have z_w19:=h19.size; try simp at z_w19
   go_wp2_with fail
   (with_reducible refine (K0.out _ (Since.trans (Since.trans S79.out h18) h19) _ _ _ _ t19).mono ?_)
   rintro e20 w20 ⟨i20,a20,r20,rfl,t20,h20⟩
   have z_w20:=h20.size; try simp at z_w20
   by_cases he:r20=0
   · subst he
     have u12_:=h18.trans (h19.trans h20)
     obtain⟨_,_,_,_,_⟩:=bx5 (Bx.since X74.out u12_)
     obtain⟨_,_,_,_,_⟩:=bx5' (Bx.since X74.out u12_)
     have X80:=bp5 (Bx.since X74.out u12_) A m c i20 n a20 0
     have X81:=bf5 (Bx.since X75.out u12_) (b':=w.heap.size) (by omega) A m c i20 n a20 0
     have X82:=bf5 (Bx.since X76.out u12_) (b':=w.heap.size) (by omega) A m c i20 n a20 0
     have X83:=bf5 (Bx.since X77.out u12_) (b':=w.heap.size) (by omega) A m c i20 n a20 0
     have S84:=sp5 (Since.trans S79.out u12_) (b:=w.heap.size) (by omega) A m c i20 n a20 0
     obtain⟨_,_,_,_,_⟩:=bx5 X80.out
     obtain⟨_,_,_,_,_⟩:=bx5' X80.out
     go_wp2_with fail
     (with_reducible refine (LS.out _ S84.out _ _ _ t20).mono ?_)
     rintro e21 w21 ⟨i21,a21,r21,l,C,c1,rfl,t21,d1,d2,h21⟩
     have z_w21:=h21.size; try simp at z_w21
     have a13_:=sal (Since.trans S84.out h21) (.cells #[.slice A m c,.int .i64 i21,.int .i64 n,.int .i64 a21,.int .i64 r21] 127)
     have X85:=lH (Bx.since (Bx.since X80.out h21) a13_)
     have X86:=lH (Bx.since (Bx.since X81.out h21) a13_)
     have X87:=lH (Bx.since (Bx.since X82.out h21) a13_)
     have X88:=lH (Bx.since (Bx.since X83.out h21) a13_)
     have X89:=lH (bx_new (Since.trans S84.out h21) #[.slice A m c,.int .i64 i21,.int .i64 n,.int .i64 a21,.int .i64 r21] 127 (g:=w21.heap.size) (by simp))
     have S90:=lH (Since.trans (Since.trans S84.out h21) a13_)
     have F91:=lH (Fr.then_ (Fr.refl (Lo (w.heap.size+4)) w21) a13_)
     obtain⟨_,_,_,_,_,_,_,_⟩:=bx8 X88.out
     obtain⟨_,_,_,_,_,_,_,_⟩:=bx8' X88.out
     obtain⟨_,_,_,_,_⟩:=bx5 X89.out
     obtain⟨_,_,_,_,_⟩:=bx5' X89.out
     have X92:=lH (Bx.other X85.out (b':=w.heap.size+1+1+1) (by omega) 6 (.slice C l.length c1))
     have X93:=lH (Bx.other X86.out (b':=w.heap.size+1+1+1) (by omega) 6 (.slice C l.length c1))
     have X94:=lH (Bx.other X87.out (b':=w.heap.size+1+1+1) (by omega) 6 (.slice C l.length c1))
     have X95:=lH (bxset X88.out 6 (.slice C l.length c1) (ds:=#[.int .i64 4,.string word,.bool bb,.slice none 0 0,.int .i64 nn,.bool false,.slice C l.length c1,.int .i64 0]) rfl)
     have X96:=lH (Bx.other X89.out (b':=w.heap.size+1+1+1) (by omega) 6 (.slice C l.length c1))
     have S97:=lH (Since.set S90.out (p:=⟨w.heap.size+1+1+1,6,none⟩) (show w.heap.size≤w.heap.size+1+1+1 by omega) (.slice C l.length c1))
     have F98:=lH (Fr.set F91.out (b:=w.heap.size+1+1+1) (i:=6) (by first | exact .inl (show _<_ by omega) | exact .inr (by omega)) (.slice C l.length c1))
     obtain⟨_,_,_,_,_,_,_,_⟩:=bx8 X95.out
     obtain⟨_,_,_,_,_,_,_,_⟩:=bx8' X95.out
     obtain⟨_,_,_,_,_⟩:=bx5 X96.out
     obtain⟨_,_,_,_,_⟩:=bx5' X96.out
     obtain⟨ca0,ca1,ca2,ca3,ca4⟩:=bx5 X93.out
     obtain⟨_,_,_,_,_⟩:=bx5' X93.out
     obtain⟨cz0,cz1,cz2,cz3,cz4,cz5,cz6,cz7⟩:=bx8 X94.out
     obtain⟨_,_,_,_,_,_,_,_⟩:=bx8' X94.out
     have X99:=bf5 X92.out (b':=w.heap.size+1) (by omega) A m c i21 n a21 r21
     have X100:=bp5 X93.out A m c i21 n a21 r21
     have X101:=bf5 X94.out (b':=w.heap.size+1) (by omega) A m c i21 n a21 r21
     have X102:=bf5 X95.out (b':=w.heap.size+1) (by omega) A m c i21 n a21 r21
     have X103:=bf5 X96.out (b':=w.heap.size+1) (by omega) A m c i21 n a21 r21
     have S104:=sp5 S97.out (b:=w.heap.size+1) (by omega) A m c i21 n a21 r21
     have F105:=lH (fr_put5 F98.out (b:=w.heap.size+1) (by first | exact .inl (show _<_ by omega) | exact .inr (by omega)) (.slice A m c) (.int .i64 i21) (.int .i64 n) (.int .i64 a21) (.int .i64 r21))
     obtain⟨cz0,cz1,cz2,cz3,cz4,cz5,cz6,cz7⟩:=bx8 X101.out
     obtain⟨_,_,_,_,_,_,_,_⟩:=bx8' X101.out
     obtain⟨_,_,_,_,_,_,_,_⟩:=bx8 X102.out
     obtain⟨_,_,_,_,_,_,_,_⟩:=bx8' X102.out
     go_wp2
     go_region
     go_wp2
     have X106:=lH (bxfar8 X99.out (b':=w.heap.size+1+1) (by omega) (.int .i64 4) (.string word) (.bool bb) (.slice none 0 0) (.int .i64 nn) (.bool false) (.slice C l.length c1) (.int .i64 0))
     have X107:=lH (bxfar8 X100.out (b':=w.heap.size+1+1) (by omega) (.int .i64 4) (.string word) (.bool bb) (.slice none 0 0) (.int .i64 nn) (.bool false) (.slice C l.length c1) (.int .i64 0))
     have X108:=lH (bxput8 X101.out (.int .i64 4) (.string word) (.bool bb) (.slice none 0 0) (.int .i64 nn) (.bool false) (.slice C l.length c1) (.int .i64 0))
     have X109:=lH (bxfar8 X102.out (b':=w.heap.size+1+1) (by omega) (.int .i64 4) (.string word) (.bool bb) (.slice none 0 0) (.int .i64 nn) (.bool false) (.slice C l.length c1) (.int .i64 0))
     have X110:=lH (bxfar8 X103.out (b':=w.heap.size+1+1) (by omega) (.int .i64 4) (.string word) (.bool bb) (.slice none 0 0) (.int .i64 nn) (.bool false) (.slice C l.length c1) (.int .i64 0))
     have S111:=lH (since_put8 S104.out (b:=w.heap.size+1+1) (by omega) (.int .i64 4) (.string word) (.bool bb) (.slice none 0 0) (.int .i64 nn) (.bool false) (.slice C l.length c1) (.int .i64 0))
     have F112:=lH (fr_put8 F105.out (b:=w.heap.size+1+1) (by first | exact .inl (show _<_ by omega) | exact .inr (by omega)) (.int .i64 4) (.string word) (.bool bb) (.slice none 0 0) (.int .i64 nn) (.bool false) (.slice C l.length c1) (.int .i64 0))
     refine bodyPost_ret (v:=.tuple #[.agg #[.slice A m c,.int .i64 i21,.int .i64 n,.int .i64 a21,.int .i64 r21],.agg #[.int .i64 4,.string word,.bool bb,.slice none 0 0,.int .i64 nn,.bool false,.slice C l.length c1,.int .i64 0]]) ?_ rfl ?_
     · simp[results,Tryz.results111,go_sem,ca0,ca1,ca2,ca3,ca4,cz0,cz1,cz2,cz3,cz4,cz5,cz6,cz7]
     · exact Th.got t21 (V:=VI w) (fun _=>⟨_,_,rfl,Sl.nil _ _ _,faro_nil _,sl_xp ((Fr.then_ F112.out (Since.drew (Since.refl _))).slP d1 (d2.mono (fun b hb=>by have:b<w.heap.size+4:=hb; show b<_; simp; omega))),d2.mono (fun b hb=>by have:b<w.heap.size:=hb; show b<_; simp; omega)⟩) ⟨_,_,_,_,_,_,_,_,_,_,_,_,rfl⟩ (Since.trans S111.out (Since.drew (Since.refl _)))
   · have ne:(r20 != 0)=true:=by rw[bne_iff_ne]; exact he
     have HE:=lH he
     clear he
     have u14_:=h18.trans (h19.trans h20)
     obtain⟨_,_,_,_,_⟩:=bx5 (Bx.since X74.out u14_)
     obtain⟨_,_,_,_,_⟩:=bx5' (Bx.since X74.out u14_)
     have X80:=bp5 (Bx.since X74.out u14_) A m c i20 n a20 r20
     have X81:=bf5 (Bx.since X75.out u14_) (b':=w.heap.size) (by omega) A m c i20 n a20 r20
     have X82:=bf5 (Bx.since X76.out u14_) (b':=w.heap.size) (by omega) A m c i20 n a20 r20
     have X83:=bf5 (Bx.since X77.out u14_) (b':=w.heap.size) (by omega) A m c i20 n a20 r20
     have S84:=sp5 (Since.trans S79.out u14_) (b:=w.heap.size) (by omega) A m c i20 n a20 r20
     obtain⟨_,_,_,_,_⟩:=bx5 X80.out
     obtain⟨_,_,_,_,_⟩:=bx5' X80.out
     obtain⟨_,_,_,_,_,_,_,_⟩:=bx8 X83.out
     obtain⟨_,_,_,_,_,_,_,_⟩:=bx8' X83.out
     obtain⟨ca0,ca1,ca2,ca3,ca4⟩:=bx5 X81.out
     obtain⟨_,_,_,_,_⟩:=bx5' X81.out
     obtain⟨cz0,cz1,cz2,cz3,cz4,cz5,cz6,cz7⟩:=bx8 X82.out
     obtain⟨_,_,_,_,_,_,_,_⟩:=bx8' X82.out
     have X85:=bf5 X80.out (b':=w.heap.size+1) (by omega) A m c i20 n a20 r20
     have X86:=bp5 X81.out A m c i20 n a20 r20
     have X87:=bf5 X82.out (b':=w.heap.size+1) (by omega) A m c i20 n a20 r20
     have X88:=bf5 X83.out (b':=w.heap.size+1) (by omega) A m c i20 n a20 r20
     have S89:=sp5 S84.out (b:=w.heap.size+1) (by omega) A m c i20 n a20 r20
     obtain⟨cz0,cz1,cz2,cz3,cz4,cz5,cz6,cz7⟩:=bx8 X87.out
     obtain⟨_,_,_,_,_,_,_,_⟩:=bx8' X87.out
     obtain⟨_,_,_,_,_,_,_,_⟩:=bx8 X88.out
     obtain⟨_,_,_,_,_,_,_,_⟩:=bx8' X88.out
     go_wp2
     go_region
     go_wp2
     have X90:=lH (bxfar8 X85.out (b':=w.heap.size+1+1) (by omega) (.int .i64 4) (.string word) (.bool bb) (.slice none 0 0) (.int .i64 nn) (.bool false) (.slice none 0 0) (.int .i64 0))
     have X91:=lH (bxfar8 X86.out (b':=w.heap.size+1+1) (by omega) (.int .i64 4) (.string word) (.bool bb) (.slice none 0 0) (.int .i64 nn) (.bool false) (.slice none 0 0) (.int .i64 0))
     have X92:=lH (bxput8 X87.out (.int .i64 4) (.string word) (.bool bb) (.slice none 0 0) (.int .i64 nn) (.bool false) (.slice none 0 0) (.int .i64 0))
     have X93:=lH (bxfar8 X88.out (b':=w.heap.size+1+1) (by omega) (.int .i64 4) (.string word) (.bool bb) (.slice none 0 0) (.int .i64 nn) (.bool false) (.slice none 0 0) (.int .i64 0))
     have S94:=lH (since_put8 S89.out (b:=w.heap.size+1+1) (by omega) (.int .i64 4) (.string word) (.bool bb) (.slice none 0 0) (.int .i64 nn) (.bool false) (.slice none 0 0) (.int .i64 0))
     obtain⟨p,x0,hbad,hec⟩:=t20.bad HE.out
     refine bodyPost_ret (v:=.tuple #[.agg #[.slice A m c,.int .i64 i20,.int .i64 n,.int .i64 a20,.int .i64 r20],.agg #[.int .i64 4,.string word,.bool bb,.slice none 0 0,.int .i64 nn,.bool false,.slice none 0 0,.int .i64 0]]) ?_ rfl ?_
     · simp[results,Tryz.results111,go_sem,ca0,ca1,ca2,ca3,ca4,cz0,cz1,cz2,cz3,cz4,cz5,cz6,cz7]
     · exact .inr ⟨p,x0,_,_,_,_,hbad,hec,⟨_,_,_,_,_,_,_,_,_,_,_,_,rfl⟩,rfl,(Since.trans S94.out (Since.drew (Since.refl _)))⟩
  | true =>
   obtain⟨t22,la22,lb22,-⟩:=Th.yes t17 hb18
   have hl22:=HTL.out
   obtain⟨_,_,_,_,_⟩:=bx5 (Bx.since X74.out h18)
   obtain⟨_,_,_,_,_⟩:=bx5' (Bx.since X74.out h18)
   go_wp2_with fail
   (with_reducible refine (next_any A m c n i17 a17 r17 _ (by omega) (by omega)).mono ?_)
   rintro e22 w22 ⟨rfl,h22⟩
   clear hl22 la22 lb22
   have z_w22:=h22.size; try simp at z_w22
   go_wp2_with fail
   (with_reducible refine (K7.out _ (Since.trans (Since.trans S79.out h18) h22) _ _ _ _ t22).mono ?_)
   rintro e23 w23 ⟨i23,a23,r23,rfl,t23,h23⟩
   have z_w23:=h23.size; try simp at z_w23
   go_wp2_with fail
   (with_reducible refine (K8.out _ (Since.trans (Since.trans (Since.trans S79.out h18) h22) h23) _ _ _ _ t23).mono ?_)
   rintro e24 w24 ⟨i24,a24,r24,rfl,t24,h24⟩
   have z_w24:=h24.size; try simp at z_w24
   go_wp2_with fail
   (with_reducible refine (K0.out _ (Since.trans (Since.trans (Since.trans (Since.trans S79.out h18) h22) h23) h24) _ _ _ _ t24).mono ?_)
   rintro e25 w25 ⟨i25,a25,r25,rfl,t25,h25⟩
   have z_w25:=h25.size; try simp at z_w25
   have u15_:=h18.trans (h22.trans (h23.trans (h24.trans h25)))
   obtain⟨_,_,_,_,_⟩:=bx5 (Bx.since X74.out u15_)
   obtain⟨_,_,_,_,_⟩:=bx5' (Bx.since X74.out u15_)
   have X80:=bp5 (Bx.since X74.out u15_) A m c i25 n a25 r25
   have X81:=bf5 (Bx.since X75.out u15_) (b':=w.heap.size) (by omega) A m c i25 n a25 r25
   have X82:=bf5 (Bx.since X76.out u15_) (b':=w.heap.size) (by omega) A m c i25 n a25 r25
   have X83:=bf5 (Bx.since X77.out u15_) (b':=w.heap.size) (by omega) A m c i25 n a25 r25
   have S84:=sp5 (Since.trans S79.out u15_) (b:=w.heap.size) (by omega) A m c i25 n a25 r25
   obtain⟨_,_,_,_,_⟩:=bx5 X80.out
   obtain⟨_,_,_,_,_⟩:=bx5' X80.out
   go_wp2_with fail
   (with_reducible refine (EX.out _ S84.out 1 _ _ _ _ t25).mono ?_)
   rintro e26 w26 ⟨i26,a26,r26,rfl,t26,h26⟩
   have z_w26:=h26.size; try simp at z_w26
   go_wp2_with fail
   (with_reducible refine (K1.out _ (Since.trans S84.out h26) _ _ _ _ t26).mono ?_)
   rintro e27 w27 ⟨i27,a27,r27,rfl,t27,h27⟩
   have z_w27:=h27.size; try simp at z_w27
   have u16_:=h26.trans h27
   obtain⟨_,_,_,_,_⟩:=bx5 (Bx.since X80.out u16_)
   obtain⟨_,_,_,_,_⟩:=bx5' (Bx.since X80.out u16_)
   have X85:=bp5 (Bx.since X80.out u16_) A m c i27 n a27 r27
   have X86:=bf5 (Bx.since X81.out u16_) (b':=w.heap.size) (by omega) A m c i27 n a27 r27
   have X87:=bf5 (Bx.since X82.out u16_) (b':=w.heap.size) (by omega) A m c i27 n a27 r27
   have X88:=bf5 (Bx.since X83.out u16_) (b':=w.heap.size) (by omega) A m c i27 n a27 r27
   have S89:=sp5 (Since.trans S84.out u16_) (b:=w.heap.size) (by omega) A m c i27 n a27 r27
   obtain⟨_,_,_,_,_⟩:=bx5 X85.out
   obtain⟨_,_,_,_,_⟩:=bx5' X85.out
   go_wp2_with fail
   (with_reducible refine (EX.out _ S89.out nn _ _ _ _ t27).mono ?_)
   rintro e28 w28 ⟨i28,a28,r28,rfl,t28,h28⟩
   have z_w28:=h28.size; try simp at z_w28
   go_wp2_with fail
   (with_reducible refine (K2.out _ (Since.trans S89.out h28) _ _ _ _ t28).mono ?_)
   rintro e29 w29 ⟨i29,a29,r29,rfl,t29,h29⟩
   have z_w29:=h29.size; try simp at z_w29
   go_wp2_with fail
   (with_reducible refine (K9.out _ (Since.trans (Since.trans S89.out h28) h29) _ _ _ _ t29).mono ?_)
   rintro e30 w30 ⟨i30,a30,r30,rfl,t30,h30⟩
   have z_w30:=h30.size; try simp at z_w30
   have u17_:=h28.trans (h29.trans h30)
   obtain⟨_,_,_,_,_⟩:=bx5 (Bx.since X85.out u17_)
   obtain⟨_,_,_,_,_⟩:=bx5' (Bx.since X85.out u17_)
   obtain⟨_,_,_,_,_,_,_,_⟩:=bx8 (Bx.since X88.out u17_)
   obtain⟨_,_,_,_,_,_,_,_⟩:=bx8' (Bx.since X88.out u17_)
   have X90:=bp5 (Bx.since X85.out u17_) A m c i30 n a30 r30
   have X91:=bf5 (Bx.since X86.out u17_) (b':=w.heap.size) (by omega) A m c i30 n a30 r30
   have X92:=bf5 (Bx.since X87.out u17_) (b':=w.heap.size) (by omega) A m c i30 n a30 r30
   have X93:=bf5 (Bx.since X88.out u17_) (b':=w.heap.size) (by omega) A m c i30 n a30 r30
   have S94:=sp5 (Since.trans S89.out u17_) (b:=w.heap.size) (by omega) A m c i30 n a30 r30
   obtain⟨_,_,_,_,_⟩:=bx5 X90.out
   obtain⟨_,_,_,_,_⟩:=bx5' X90.out
   obtain⟨_,_,_,_,_,_,_,_⟩:=bx8 X93.out
   obtain⟨_,_,_,_,_,_,_,_⟩:=bx8' X93.out
   have X95:=lH (Bx.other X90.out (b':=w.heap.size+1+1+1) (by omega) 5 (.bool true))
   have X96:=lH (Bx.other X91.out (b':=w.heap.size+1+1+1) (by omega) 5 (.bool true))
   have X97:=lH (Bx.other X92.out (b':=w.heap.size+1+1+1) (by omega) 5 (.bool true))
   have X98:=lH (bxset X93.out 5 (.bool true) (ds:=#[.int .i64 4,.string word,.bool bb,.slice none 0 0,.int .i64 nn,.bool true,.slice none 0 0,.int .i64 0]) rfl)
   have S99:=lH (Since.set S94.out (p:=⟨w.heap.size+1+1+1,5,none⟩) (show w.heap.size≤w.heap.size+1+1+1 by omega) (.bool true))
   obtain⟨_,_,_,_,_⟩:=bx5 X95.out
   obtain⟨_,_,_,_,_⟩:=bx5' X95.out
   go_wp2_with fail
   (with_reducible refine (K10.out _ S99.out _ _ _ _ t30).mono ?_)
   rintro e31 w31 ⟨i31,a31,r31,rfl,t31,h31⟩
   have z_w31:=h31.size; try simp at z_w31
   go_wp2_with fail
   (with_reducible refine (K0.out _ (Since.trans S99.out h31) _ _ _ _ t31).mono ?_)
   rintro e32 w32 ⟨i32,a32,r32,rfl,t32,h32⟩
   have z_w32:=h32.size; try simp at z_w32
   by_cases he:r32=0
   · subst he
     have u18_:=h31.trans h32
     obtain⟨_,_,_,_,_⟩:=bx5 (Bx.since X95.out u18_)
     obtain⟨_,_,_,_,_⟩:=bx5' (Bx.since X95.out u18_)
     have X100:=bp5 (Bx.since X95.out u18_) A m c i32 n a32 0
     have X101:=bf5 (Bx.since X96.out u18_) (b':=w.heap.size) (by omega) A m c i32 n a32 0
     have X102:=bf5 (Bx.since X97.out u18_) (b':=w.heap.size) (by omega) A m c i32 n a32 0
     have X103:=bf5 (Bx.since X98.out u18_) (b':=w.heap.size) (by omega) A m c i32 n a32 0
     have S104:=sp5 (Since.trans S99.out u18_) (b:=w.heap.size) (by omega) A m c i32 n a32 0
     obtain⟨_,_,_,_,_⟩:=bx5 X100.out
     obtain⟨_,_,_,_,_⟩:=bx5' X100.out
     go_wp2_with fail
     (with_reducible refine (LS.out _ S104.out _ _ _ t32).mono ?_)
     rintro e33 w33 ⟨i33,a33,r33,l,C,c1,rfl,t33,d1,d2,h33⟩
     have z_w33:=h33.size; try simp at z_w33
     have a19_:=sal (Since.trans S104.out h33) (.cells #[.slice A m c,.int .i64 i33,.int .i64 n,.int .i64 a33,.int .i64 r33] 127)
     have X105:=lH (Bx.since (Bx.since X100.out h33) a19_)
     have X106:=lH (Bx.since (Bx.since X101.out h33) a19_)
     have X107:=lH (Bx.since (Bx.since X102.out h33) a19_)
     have X108:=lH (Bx.since (Bx.since X103.out h33) a19_)
     have X109:=lH (bx_new (Since.trans S104.out h33) #[.slice A m c,.int .i64 i33,.int .i64 n,.int .i64 a33,.int .i64 r33] 127 (g:=w33.heap.size) (by simp))
     have S110:=lH (Since.trans (Since.trans S104.out h33) a19_)
     have F111:=lH (Fr.then_ (Fr.refl (Lo (w.heap.size+4)) w33) a19_)
     obtain⟨_,_,_,_,_,_,_,_⟩:=bx8 X108.out
     obtain⟨_,_,_,_,_,_,_,_⟩:=bx8' X108.out
     obtain⟨_,_,_,_,_⟩:=bx5 X109.out
     obtain⟨_,_,_,_,_⟩:=bx5' X109.out
     have X112:=lH (Bx.other X105.out (b':=w.heap.size+1+1+1) (by omega) 6 (.slice C l.length c1))
     have X113:=lH (Bx.other X106.out (b':=w.heap.size+1+1+1) (by omega) 6 (.slice C l.length c1))
     have X114:=lH (Bx.other X107.out (b':=w.heap.size+1+1+1) (by omega) 6 (.slice C l.length c1))
     have X115:=lH (bxset X108.out 6 (.slice C l.length c1) (ds:=#[.int .i64 4,.string word,.bool bb,.slice none 0 0,.int .i64 nn,.bool true,.slice C l.length c1,.int .i64 0]) rfl)
     have X116:=lH (Bx.other X109.out (b':=w.heap.size+1+1+1) (by omega) 6 (.slice C l.length c1))
     have S117:=lH (Since.set S110.out (p:=⟨w.heap.size+1+1+1,6,none⟩) (show w.heap.size≤w.heap.size+1+1+1 by omega) (.slice C l.length c1))
     have F118:=lH (Fr.set F111.out (b:=w.heap.size+1+1+1) (i:=6) (by first | exact .inl (show _<_ by omega) | exact .inr (by omega)) (.slice C l.length c1))
     obtain⟨_,_,_,_,_,_,_,_⟩:=bx8 X115.out
     obtain⟨_,_,_,_,_,_,_,_⟩:=bx8' X115.out
     obtain⟨_,_,_,_,_⟩:=bx5 X116.out
     obtain⟨_,_,_,_,_⟩:=bx5' X116.out
     obtain⟨ca0,ca1,ca2,ca3,ca4⟩:=bx5 X113.out
     obtain⟨_,_,_,_,_⟩:=bx5' X113.out
     obtain⟨cz0,cz1,cz2,cz3,cz4,cz5,cz6,cz7⟩:=bx8 X114.out
     obtain⟨_,_,_,_,_,_,_,_⟩:=bx8' X114.out
     have X119:=bf5 X112.out (b':=w.heap.size+1) (by omega) A m c i33 n a33 r33
     have X120:=bp5 X113.out A m c i33 n a33 r33
     have X121:=bf5 X114.out (b':=w.heap.size+1) (by omega) A m c i33 n a33 r33
     have X122:=bf5 X115.out (b':=w.heap.size+1) (by omega) A m c i33 n a33 r33
     have X123:=bf5 X116.out (b':=w.heap.size+1) (by omega) A m c i33 n a33 r33
     have S124:=sp5 S117.out (b:=w.heap.size+1) (by omega) A m c i33 n a33 r33
     have F125:=lH (fr_put5 F118.out (b:=w.heap.size+1) (by first | exact .inl (show _<_ by omega) | exact .inr (by omega)) (.slice A m c) (.int .i64 i33) (.int .i64 n) (.int .i64 a33) (.int .i64 r33))
     obtain⟨cz0,cz1,cz2,cz3,cz4,cz5,cz6,cz7⟩:=bx8 X121.out
     obtain⟨_,_,_,_,_,_,_,_⟩:=bx8' X121.out
     obtain⟨_,_,_,_,_,_,_,_⟩:=bx8 X122.out
     obtain⟨_,_,_,_,_,_,_,_⟩:=bx8' X122.out
     go_wp2
     go_region
     go_wp2
     have X126:=lH (bxfar8 X119.out (b':=w.heap.size+1+1) (by omega) (.int .i64 4) (.string word) (.bool bb) (.slice none 0 0) (.int .i64 nn) (.bool true) (.slice C l.length c1) (.int .i64 0))
     have X127:=lH (bxfar8 X120.out (b':=w.heap.size+1+1) (by omega) (.int .i64 4) (.string word) (.bool bb) (.slice none 0 0) (.int .i64 nn) (.bool true) (.slice C l.length c1) (.int .i64 0))
     have X128:=lH (bxput8 X121.out (.int .i64 4) (.string word) (.bool bb) (.slice none 0 0) (.int .i64 nn) (.bool true) (.slice C l.length c1) (.int .i64 0))
     have X129:=lH (bxfar8 X122.out (b':=w.heap.size+1+1) (by omega) (.int .i64 4) (.string word) (.bool bb) (.slice none 0 0) (.int .i64 nn) (.bool true) (.slice C l.length c1) (.int .i64 0))
     have X130:=lH (bxfar8 X123.out (b':=w.heap.size+1+1) (by omega) (.int .i64 4) (.string word) (.bool bb) (.slice none 0 0) (.int .i64 nn) (.bool true) (.slice C l.length c1) (.int .i64 0))
     have S131:=lH (since_put8 S124.out (b:=w.heap.size+1+1) (by omega) (.int .i64 4) (.string word) (.bool bb) (.slice none 0 0) (.int .i64 nn) (.bool true) (.slice C l.length c1) (.int .i64 0))
     have F132:=lH (fr_put8 F125.out (b:=w.heap.size+1+1) (by first | exact .inl (show _<_ by omega) | exact .inr (by omega)) (.int .i64 4) (.string word) (.bool bb) (.slice none 0 0) (.int .i64 nn) (.bool true) (.slice C l.length c1) (.int .i64 0))
     refine bodyPost_ret (v:=.tuple #[.agg #[.slice A m c,.int .i64 i33,.int .i64 n,.int .i64 a33,.int .i64 r33],.agg #[.int .i64 4,.string word,.bool bb,.slice none 0 0,.int .i64 nn,.bool true,.slice C l.length c1,.int .i64 0]]) ?_ rfl ?_
     · simp[results,Tryz.results111,go_sem,ca0,ca1,ca2,ca3,ca4,cz0,cz1,cz2,cz3,cz4,cz5,cz6,cz7]
     · exact Th.got t33 (V:=VI w) (fun _=>⟨_,_,rfl,Sl.nil _ _ _,faro_nil _,sl_xp ((Fr.then_ F132.out (Since.drew (Since.refl _))).slP d1 (d2.mono (fun b hb=>by have:b<w.heap.size+4:=hb; show b<_; simp; omega))),d2.mono (fun b hb=>by have:b<w.heap.size:=hb; show b<_; simp; omega)⟩) ⟨_,_,_,_,_,_,_,_,_,_,_,_,rfl⟩ (Since.trans S131.out (Since.drew (Since.refl _)))
   · have ne:(r32 != 0)=true:=by rw[bne_iff_ne]; exact he
     have HE:=lH he
     clear he
     have u20_:=h31.trans h32
     obtain⟨_,_,_,_,_⟩:=bx5 (Bx.since X95.out u20_)
     obtain⟨_,_,_,_,_⟩:=bx5' (Bx.since X95.out u20_)
     have X100:=bp5 (Bx.since X95.out u20_) A m c i32 n a32 r32
     have X101:=bf5 (Bx.since X96.out u20_) (b':=w.heap.size) (by omega) A m c i32 n a32 r32
     have X102:=bf5 (Bx.since X97.out u20_) (b':=w.heap.size) (by omega) A m c i32 n a32 r32
     have X103:=bf5 (Bx.since X98.out u20_) (b':=w.heap.size) (by omega) A m c i32 n a32 r32
     have S104:=sp5 (Since.trans S99.out u20_) (b:=w.heap.size) (by omega) A m c i32 n a32 r32
     obtain⟨_,_,_,_,_⟩:=bx5 X100.out
     obtain⟨_,_,_,_,_⟩:=bx5' X100.out
     obtain⟨_,_,_,_,_,_,_,_⟩:=bx8 X103.out
     obtain⟨_,_,_,_,_,_,_,_⟩:=bx8' X103.out
     obtain⟨ca0,ca1,ca2,ca3,ca4⟩:=bx5 X101.out
     obtain⟨_,_,_,_,_⟩:=bx5' X101.out
     obtain⟨cz0,cz1,cz2,cz3,cz4,cz5,cz6,cz7⟩:=bx8 X102.out
     obtain⟨_,_,_,_,_,_,_,_⟩:=bx8' X102.out
     have X105:=bf5 X100.out (b':=w.heap.size+1) (by omega) A m c i32 n a32 r32
     have X106:=bp5 X101.out A m c i32 n a32 r32
     have X107:=bf5 X102.out (b':=w.heap.size+1) (by omega) A m c i32 n a32 r32
     have X108:=bf5 X103.out (b':=w.heap.size+1) (by omega) A m c i32 n a32 r32
     have S109:=sp5 S104.out (b:=w.heap.size+1) (by omega) A m c i32 n a32 r32
     obtain⟨cz0,cz1,cz2,cz3,cz4,cz5,cz6,cz7⟩:=bx8 X107.out
     obtain⟨_,_,_,_,_,_,_,_⟩:=bx8' X107.out
     obtain⟨_,_,_,_,_,_,_,_⟩:=bx8 X108.out
     obtain⟨_,_,_,_,_,_,_,_⟩:=bx8' X108.out
     go_wp2
     go_region
     go_wp2
     have X110:=lH (bxfar8 X105.out (b':=w.heap.size+1+1) (by omega) (.int .i64 4) (.string word) (.bool bb) (.slice none 0 0) (.int .i64 nn) (.bool true) (.slice none 0 0) (.int .i64 0))
     have X111:=lH (bxfar8 X106.out (b':=w.heap.size+1+1) (by omega) (.int .i64 4) (.string word) (.bool bb) (.slice none 0 0) (.int .i64 nn) (.bool true) (.slice none 0 0) (.int .i64 0))
     have X112:=lH (bxput8 X107.out (.int .i64 4) (.string word) (.bool bb) (.slice none 0 0) (.int .i64 nn) (.bool true) (.slice none 0 0) (.int .i64 0))
     have X113:=lH (bxfar8 X108.out (b':=w.heap.size+1+1) (by omega) (.int .i64 4) (.string word) (.bool bb) (.slice none 0 0) (.int .i64 nn) (.bool true) (.slice none 0 0) (.int .i64 0))
     have S114:=lH (since_put8 S109.out (b:=w.heap.size+1+1) (by omega) (.int .i64 4) (.string word) (.bool bb) (.slice none 0 0) (.int .i64 nn) (.bool true) (.slice none 0 0) (.int .i64 0))
     obtain⟨p,x0,hbad,hec⟩:=t32.bad HE.out
     refine bodyPost_ret (v:=.tuple #[.agg #[.slice A m c,.int .i64 i32,.int .i64 n,.int .i64 a32,.int .i64 r32],.agg #[.int .i64 4,.string word,.bool bb,.slice none 0 0,.int .i64 nn,.bool true,.slice none 0 0,.int .i64 0]]) ?_ rfl ?_
     · simp[results,Tryz.results111,go_sem,ca0,ca1,ca2,ca3,ca4,cz0,cz1,cz2,cz3,cz4,cz5,cz6,cz7]
     · exact .inr ⟨p,x0,_,_,_,_,hbad,hec,⟨_,_,_,_,_,_,_,_,_,_,_,_,rfl⟩,rfl,(Since.trans S114.out (Since.drew (Since.refl _)))⟩
end Go.Proofs.YtjmmcnldfkjebaaGreatDoor.Doc6
