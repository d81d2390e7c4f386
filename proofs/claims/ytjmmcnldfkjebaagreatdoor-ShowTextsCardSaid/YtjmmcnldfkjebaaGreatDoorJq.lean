/- The document's own parser: a Par. -/
import Derived.Test.YtjmmcnldfkjebaaGreatDoorJo
set_option maxHeartbeats 8000000
set_option maxRecDepth 20000
namespace Go.Proofs.YtjmmcnldfkjebaaGreatDoor.Doc6
open Go.RowKit
set_option linter.unusedVariables false
set_option linter.unusedSimpArgs false
open Dig Lx Tk Ps Ti
open Fq
open Prs (Old)
theorem par_ok (A:Option Addr) (m c:Nat) (n:Int) (ts:List Tv) (k0:Nat) (w:World) (H:Toks w (.slice A m c) ts) (hl:ts.length≤10000) (hk0:k0≤ts.length) (hw:NumT ts) :
 Calls Tryz.prog 108 #[.agg #[.slice A m c,.int .i64 (k0:Int),.int .i64 n,.int .i64 0,.int .i64 0]] w (Got (VI w) ZI A m c n ts (par n (ts.drop k0)) w):=by
 obtain⟨r,hr⟩:∃ r,r=par n (ts.drop k0):=⟨_,rfl⟩
 rw[← hr]
 have HTL:=lH hl
 have T0:=lH (show Th ts n r par (k0:Int) 0 0 from .inl ⟨k0,hr,hk0,rfl,rfl,rfl⟩)
 have t0:=T0.out
 unfold par at t0
 have K0:=lH (fun W (kk:Since w W) (q:Unit→P It) (i a e:Int) (h:Th ts n r (bnd (take [58]) q) i a e)=>take_u A m c n ts ⟨#[58]⟩ [58] rfl (by decide) W (H.since kk) hl h)
 have K1:=lH (fun W (kk:Since w W) (q:Unit→P It) (i a e:Int) (h:Th ts n r (bnd (take [61]) q) i a e)=>take_u A m c n ts ⟨#[61]⟩ [61] rfl (by decide) W (H.since kk) hl h)
 have L0:=lH (fun W (kk:Since w W) (i a e:Int) (h:(∃ k:Nat,k≤ts.length∧i=(k:Int)∧a=0∧e=0)∨e≠0)=>is_u A m c n ts ⟨#[116,114,117,101]⟩ [116,114,117,101] rfl (by decide) W (H.since kk) h)
 have L1:=lH (fun W (kk:Since w W) (i a e:Int) (h:(∃ k:Nat,k≤ts.length∧i=(k:Int)∧a=0∧e=0)∨e≠0)=>is_u A m c n ts ⟨#[102,97,108,115,101]⟩ [102,97,108,115,101] rfl (by decide) W (H.since kk) h)
 have NM:=lH (fun W (kk:Since w W) (q:ByteArray→P It) (i a e:Int) (h:Th ts n r (bnd name q) i a e)=>name_u A m c n ts W (H.since kk) hl h)
 have KD:=lH (fun W (kk:Since w W) (q:Bool→P It) (i a e:Int) (h:Th ts n r (bnd kind q) i a e)=>kind_u A m c n ts W (H.since kk) hl h)
 have PL:=lH (fun W (kk:Since w W) (q:Pl→P It) (i a e:Int) (h:Th ts n r (bnd plain q) i a e)=>plain_u A m c n ts W (H.since kk) hl h)
 have NU:=lH (fun W (kk:Since w W) (i a e:Int) (h:(∃ k:Nat,k≤ts.length∧i=(k:Int)∧a=0∧e=0)∨e≠0)=>number_u A m c n ts W (H.since kk) h)
 have WR:=lH (fun k W (kk:Since w W)=>wrong_ok A m c n ts k W (H.since kk))
 have HNT:=lH hw
 clear H hr hl hk0 T0 hw
 have X1:=lH (bx_new (Since.refl w) #[.slice A m c,.int .i64 (k0:Int),.int .i64 n,.int .i64 0,.int .i64 0] 127 (g:=w.heap.size) (by simp))
 have S2:=lH (Since.trans (Since.refl w) (sA _ (.cells #[.slice A m c,.int .i64 (k0:Int),.int .i64 n,.int .i64 0,.int .i64 0] 127)))
 have a1_:=sal S2.out (.cells #[.slice none 0 0,.int .i64 0,.int .i64 0,.int .i64 0,.int .i64 0] 127)
 have X3:=lH (Bx.since X1.out a1_)
 have X4:=lH (bx_new S2.out #[.slice none 0 0,.int .i64 0,.int .i64 0,.int .i64 0,.int .i64 0] 127 (g:=w.heap.size+1) (by simp))
 have S5:=lH (Since.trans S2.out a1_)
 have a2_:=sal S5.out (.cells #[.int .i64 0,.string ⟨#[]⟩,.bool false,.slice none 0 0,.int .i64 0,.bool false,.slice none 0 0,.int .i64 0] 28)
 have X6:=lH (Bx.since X3.out a2_)
 have X7:=lH (Bx.since X4.out a2_)
 have X8:=lH (bx_new S5.out #[.int .i64 0,.string ⟨#[]⟩,.bool false,.slice none 0 0,.int .i64 0,.bool false,.slice none 0 0,.int .i64 0] 28 (g:=w.heap.size+1+1) (by simp))
 have S9:=lH (Since.trans S5.out a2_)
 obtain⟨_,_,_,_,_⟩:=bx5 X6.out
 obtain⟨_,_,_,_,_⟩:=bx5' X6.out
 go_enter Tryz.func108,Tryz.ntmps108
 go_wp2_with fail
 (with_reducible refine (KD.out _ S9.out _ _ _ _ t0).mono ?_)
 rintro e1 w1 ⟨i1,a1,r1,bb,rfl,t1,h1⟩
 have z_w1:=h1.size; try simp at z_w1
 have a3_:=sal (Since.trans S9.out h1) (.cells #[.slice A m c,.int .i64 i1,.int .i64 n,.int .i64 a1,.int .i64 r1] 127)
 have X10:=lH (Bx.since (Bx.since X6.out h1) a3_)
 have X11:=lH (Bx.since (Bx.since X7.out h1) a3_)
 have X12:=lH (Bx.since (Bx.since X8.out h1) a3_)
 have X13:=lH (bx_new (Since.trans S9.out h1) #[.slice A m c,.int .i64 i1,.int .i64 n,.int .i64 a1,.int .i64 r1] 127 (g:=w1.heap.size) (by simp))
 have S14:=lH (Since.trans (Since.trans S9.out h1) a3_)
 obtain⟨_,_,_,_,_⟩:=bx5 X13.out
 obtain⟨_,_,_,_,_⟩:=bx5' X13.out
 go_wp2_with fail
 (with_reducible refine (K0.out _ S14.out _ _ _ _ t1).mono ?_)
 rintro e2 w2 ⟨i2,a2,r2,rfl,t2,h2⟩
 have z_w2:=h2.size; try simp at z_w2
 go_wp2_with fail
 (with_reducible refine (NM.out _ (Since.trans S14.out h2) _ _ _ _ t2).mono ?_)
 rintro e3 w3 ⟨i3,a3,r3,word,rfl,t3,h3⟩
 have z_w3:=h3.size; try simp at z_w3
 have u4_:=h2.trans h3
 obtain⟨_,_,_,_,_⟩:=bx5 (Bx.since X13.out u4_)
 obtain⟨_,_,_,_,_⟩:=bx5' (Bx.since X13.out u4_)
 have X15:=bf5 (Bx.since X10.out u4_) (b':=w1.heap.size) (by omega) A m c i3 n a3 r3
 have X16:=bf5 (Bx.since X11.out u4_) (b':=w1.heap.size) (by omega) A m c i3 n a3 r3
 have X17:=bf5 (Bx.since X12.out u4_) (b':=w1.heap.size) (by omega) A m c i3 n a3 r3
 have X18:=bp5 (Bx.since X13.out u4_) A m c i3 n a3 r3
 have S19:=sp5 (Since.trans S14.out u4_) (b:=w1.heap.size) (by omega) A m c i3 n a3 r3
 obtain⟨_,_,_,_,_⟩:=bx5 X18.out
 obtain⟨_,_,_,_,_⟩:=bx5' X18.out
 go_wp2_with fail
 (with_reducible refine (K1.out _ S19.out _ _ _ _ t3).mono ?_)
 rintro e4 w4 ⟨i4,a4,r4,rfl,t4,h4⟩
 have z_w4:=h4.size; try simp at z_w4
 obtain⟨_,_,_,_,_⟩:=bx5 (Bx.since X18.out h4)
 obtain⟨_,_,_,_,_⟩:=bx5' (Bx.since X18.out h4)
 have X20:=bf5 (Bx.since X15.out h4) (b':=w1.heap.size) (by omega) A m c i4 n a4 r4
 have X21:=bf5 (Bx.since X16.out h4) (b':=w1.heap.size) (by omega) A m c i4 n a4 r4
 have X22:=bf5 (Bx.since X17.out h4) (b':=w1.heap.size) (by omega) A m c i4 n a4 r4
 have X23:=bp5 (Bx.since X18.out h4) A m c i4 n a4 r4
 have S24:=sp5 (Since.trans S19.out h4) (b:=w1.heap.size) (by omega) A m c i4 n a4 r4
 have a5_:=sal S24.out (.cells #[.int .i64 1,.string word,.bool bb,.slice none 0 0,.int .i64 0,.bool false,.slice none 0 0,.int .i64 0] 28)
 have X25:=lH (Bx.since X20.out a5_)
 have X26:=lH (Bx.since X21.out a5_)
 have X27:=lH (Bx.since X22.out a5_)
 have X28:=lH (Bx.since X23.out a5_)
 have X29:=lH (bx_new S24.out #[.int .i64 1,.string word,.bool bb,.slice none 0 0,.int .i64 0,.bool false,.slice none 0 0,.int .i64 0] 28 (g:=w4.heap.size) (by simp))
 have S30:=lH (Since.trans S24.out a5_)
 obtain⟨_,_,_,_,_⟩:=bx5 X28.out
 obtain⟨_,_,_,_,_⟩:=bx5' X28.out
 cases bb with
 | false =>
  have tb:=t4
  simp only[flag,bnd_alt,bnd_assoc,bnd_ret,bnd_if,Ps.value,bnd_wrong,if_true,if_false,Bool.false_eq_true] at tb
  go_wp2_with fail
  (with_reducible refine (NU.out _ S30.out _ _ _ (Th.st tb)).mono ?_)
  rintro e9 w9 ⟨b9,rfl,hb9,h9⟩
  have z_w9:=h9.size; try simp at z_w9
  obtain⟨hy,hn0⟩:=th_num (q:=fun y:Pl=>(ret ⟨1,word,false,[],0,false,[y.xp],0⟩:P It)) tb hb9
  have HY:=lH hy
  have HN0:=lH hn0
  clear hy hn0 hb9
  cases b9 with
  | false =>
   by_cases he:r4=0
   · obtain⟨kw,p,ek,ea,hbad⟩:=HN0.out rfl he
     subst he ek ea
     have HBAD:=lH hbad
     clear hbad
     obtain⟨_,_,_,_,_⟩:=bx5 (Bx.since X28.out h9)
     obtain⟨_,_,_,_,_⟩:=bx5' (Bx.since X28.out h9)
     have G0:=lH (held_since (Bx.since X28.out h9) (Bx.since X29.out h9))
     have G5:=lH (held_put5 (Bx.since X28.out h9) (Bx.since X29.out h9) (r:=w.heap.size+1) (by omega) (by omega))
     have G13:=lH (held_put13 (Bx.since X28.out h9) (Bx.since X29.out h9) (r:=w.heap.size+1) (r':=w.heap.size+1+1) (by omega) (by omega) (by omega) (by omega))
     go_wp2
     go_region_held3 (fun W=>W.cell? ⟨w1.heap.size,0,none⟩=some (.slice A m c)∧W.cell? ⟨w1.heap.size,1,none⟩=some (.int .i64 (kw:Int))∧W.cell? ⟨w1.heap.size,2,none⟩=some (.int .i64 n)∧W.cell? ⟨w1.heap.size,3,none⟩=some (.int .i64 0)∧W.cell? ⟨w1.heap.size,4,none⟩=some (.int .i64 0)∧W.cell? ⟨w4.heap.size,0,none⟩=some (.int .i64 1)∧W.cell? ⟨w4.heap.size,1,none⟩=some (.string word)∧W.cell? ⟨w4.heap.size,2,none⟩=some (.bool false)∧W.cell? ⟨w4.heap.size,3,none⟩=some (.slice none 0 0)∧W.cell? ⟨w4.heap.size,4,none⟩=some (.int .i64 0)∧W.cell? ⟨w4.heap.size,5,none⟩=some (.bool false)∧W.cell? ⟨w4.heap.size,6,none⟩=some (.slice none 0 0)∧W.cell? ⟨w4.heap.size,7,none⟩=some (.int .i64 0))
      (first | with_reducible exact G13.out _ _ _ _ _ _ _ _ _ _ _ _ _ _ kd | with_reducible exact G5.out _ _ _ _ _ _ kd | with_reducible exact G0.out _ kd | with_reducible exact G0.out _ (Since.drew (Since.refl _)))
      (first | (go_at_call 115; (with_reducible refine (WR.out kw _ (Since.trans (Since.trans S30.out h9) (Since.drew (Since.refl _)))).mono ?_); rintro e0 wn ⟨iw,aw,ew,rfl,hec,hn⟩; have kd:=(Since.drew (Since.refl _)).trans hn; obtain⟨ca0,ca1,ca2,ca3,ca4⟩:=bx5 (Bx.since (Bx.since X26.out h9) kd); obtain⟨caf0,caf1,caf2,caf3,caf4⟩:=bx5' (Bx.since (Bx.since X26.out h9) kd); obtain⟨cz0,cz1,cz2,cz3,cz4,cz5,cz6,cz7⟩:=bx8 (Bx.since (Bx.since X27.out h9) kd); obtain⟨czf0,czf1,czf2,czf3,czf4,czf5,czf6,czf7⟩:=bx8' (Bx.since (Bx.since X27.out h9) kd)))
     all_goals go_wp2
     have zz_wn:=kd.size; try simp at zz_wn
     refine bodyPost_ret (v:=.tuple #[.agg #[.slice A m c,.int .i64 iw,.int .i64 n,.int .i64 aw,.int .i64 ew],.agg #[.int .i64 1,.string word,.bool false,.slice none 0 0,.int .i64 0,.bool false,.slice none 0 0,.int .i64 0]]) ?_ rfl ?_
     · simp[results,Tryz.results108,go_sem,ca0,ca1,ca2,ca3,ca4,cz0,cz1,cz2,cz3,cz4,cz5,cz6,cz7]
     · exact .inr ⟨p,_,_,_,_,_,HBAD.out,hec,⟨_,_,_,_,_,_,_,_,_,_,_,_,rfl⟩,rfl,since_put8 (since_put5 (Since.trans (Since.trans S30.out h9) kd) (b:=w.heap.size+1) (by omega) (.slice A m c) (.int .i64 iw) (.int .i64 n) (.int .i64 aw) (.int .i64 ew)) (b:=w.heap.size+1+1) (by omega) _ _ _ _ _ _ _ _⟩
   · have ne:(r4 != 0)=true:=by rw[bne_iff_ne]; exact he
     have HB0:=lH (tb.bad he)
     clear he
     obtain⟨_,_,_,_,_⟩:=bx5 (Bx.since X28.out h9)
     obtain⟨_,_,_,_,_⟩:=bx5' (Bx.since X28.out h9)
     obtain⟨ca0,ca1,ca2,ca3,ca4⟩:=bx5 (Bx.since X26.out h9)
     obtain⟨caf0,caf1,caf2,caf3,caf4⟩:=bx5' (Bx.since X26.out h9)
     obtain⟨cz0,cz1,cz2,cz3,cz4,cz5,cz6,cz7⟩:=bx8 (Bx.since X27.out h9)
     obtain⟨czf0,czf1,czf2,czf3,czf4,czf5,czf6,czf7⟩:=bx8' (Bx.since X27.out h9)
     obtain⟨_,_,_,_,_,_,_,_⟩:=bx8 (Bx.since X29.out h9)
     obtain⟨_,_,_,_,_,_,_,_⟩:=bx8' (Bx.since X29.out h9)
     obtain⟨_,_,_,_,_⟩:=bx5 (Bx.since X28.out h9)
     obtain⟨_,_,_,_,_⟩:=bx5' (Bx.since X28.out h9)
     have X31:=bf5 (Bx.since X25.out h9) (b':=w.heap.size+1) (by omega) A m c i4 n a4 r4
     have X32:=bp5 (Bx.since X26.out h9) A m c i4 n a4 r4
     have X33:=bf5 (Bx.since X27.out h9) (b':=w.heap.size+1) (by omega) A m c i4 n a4 r4
     have X34:=bf5 (Bx.since X28.out h9) (b':=w.heap.size+1) (by omega) A m c i4 n a4 r4
     have X35:=bf5 (Bx.since X29.out h9) (b':=w.heap.size+1) (by omega) A m c i4 n a4 r4
     have S36:=sp5 (Since.trans S30.out h9) (b:=w.heap.size+1) (by omega) A m c i4 n a4 r4
     obtain⟨cz0,cz1,cz2,cz3,cz4,cz5,cz6,cz7⟩:=bx8 X33.out
     obtain⟨czf0,czf1,czf2,czf3,czf4,czf5,czf6,czf7⟩:=bx8' X33.out
     obtain⟨_,_,_,_,_,_,_,_⟩:=bx8 X35.out
     obtain⟨_,_,_,_,_,_,_,_⟩:=bx8' X35.out
     obtain⟨_,_,_,_,_⟩:=bx5 X34.out
     obtain⟨_,_,_,_,_⟩:=bx5' X34.out
     go_wp2
     go_region
     go_wp2
     have X37:=lH (bxfar8 X31.out (b':=w.heap.size+1+1) (by omega) (.int .i64 1) (.string word) (.bool false) (.slice none 0 0) (.int .i64 0) (.bool false) (.slice none 0 0) (.int .i64 0))
     have X38:=lH (bxfar8 X32.out (b':=w.heap.size+1+1) (by omega) (.int .i64 1) (.string word) (.bool false) (.slice none 0 0) (.int .i64 0) (.bool false) (.slice none 0 0) (.int .i64 0))
     have X39:=lH (bxput8 X33.out (.int .i64 1) (.string word) (.bool false) (.slice none 0 0) (.int .i64 0) (.bool false) (.slice none 0 0) (.int .i64 0))
     have X40:=lH (bxfar8 X34.out (b':=w.heap.size+1+1) (by omega) (.int .i64 1) (.string word) (.bool false) (.slice none 0 0) (.int .i64 0) (.bool false) (.slice none 0 0) (.int .i64 0))
     have X41:=lH (bxfar8 X35.out (b':=w.heap.size+1+1) (by omega) (.int .i64 1) (.string word) (.bool false) (.slice none 0 0) (.int .i64 0) (.bool false) (.slice none 0 0) (.int .i64 0))
     have S42:=lH (since_put8 S36.out (b:=w.heap.size+1+1) (by omega) (.int .i64 1) (.string word) (.bool false) (.slice none 0 0) (.int .i64 0) (.bool false) (.slice none 0 0) (.int .i64 0))
     refine bodyPost_ret (v:=.tuple #[.agg #[.slice A m c,.int .i64 i4,.int .i64 n,.int .i64 a4,.int .i64 r4],.agg #[.int .i64 1,.string word,.bool false,.slice none 0 0,.int .i64 0,.bool false,.slice none 0 0,.int .i64 0]]) ?_ rfl ?_
     · simp[results,Tryz.results108,go_sem,ca0,ca1,ca2,ca3,ca4,cz0,cz1,cz2,cz3,cz4,cz5,cz6,cz7]
     · obtain⟨p,x0,hbad,hec⟩:=HB0.out
       exact .inr ⟨p,x0,_,_,_,_,hbad,hec,⟨_,_,_,_,_,_,_,_,_,_,_,_,rfl⟩,rfl,(Since.trans S42.out (Since.drew (Since.refl _)))⟩
  | true =>
   have ty:=HY.out rfl
   obtain⟨_,_,_,_,_⟩:=bx5 (Bx.since X28.out h9)
   obtain⟨_,_,_,_,_⟩:=bx5' (Bx.since X28.out h9)
   go_wp2_with fail
   (with_reducible refine (PL.out _ (Since.trans S30.out h9) _ _ _ _ ty).mono ?_)
   rintro e10 w10 ⟨i10,a10,r10,y,rfl,t10,h10⟩
   have z_w10:=h10.size; try simp at z_w10
   have a6_:=sal (Since.trans (Since.trans S30.out h9) h10) (.cells #[.slice A m c,.int .i64 i10,.int .i64 n,.int .i64 a10,.int .i64 r10] 127)
   have X31:=lH (Bx.since (Bx.since (Bx.since X25.out h9) h10) a6_)
   have X32:=lH (Bx.since (Bx.since (Bx.since X26.out h9) h10) a6_)
   have X33:=lH (Bx.since (Bx.since (Bx.since X27.out h9) h10) a6_)
   have X34:=lH (Bx.since (Bx.since (Bx.since X28.out h9) h10) a6_)
   have X35:=lH (Bx.since (Bx.since (Bx.since X29.out h9) h10) a6_)
   have X36:=lH (bx_new (Since.trans (Since.trans S30.out h9) h10) #[.slice A m c,.int .i64 i10,.int .i64 n,.int .i64 a10,.int .i64 r10] 127 (g:=w10.heap.size) (by simp))
   have S37:=lH (Since.trans (Since.trans (Since.trans S30.out h9) h10) a6_)
   have X38:=lH (Bx.since X31.out (sA _ (.cells #[.int .i64 y.k,.int .i64 y.n,.string y.s,.slice none 0 0] 45)))
   have X39:=lH (Bx.since X32.out (sA _ (.cells #[.int .i64 y.k,.int .i64 y.n,.string y.s,.slice none 0 0] 45)))
   have X40:=lH (Bx.since X33.out (sA _ (.cells #[.int .i64 y.k,.int .i64 y.n,.string y.s,.slice none 0 0] 45)))
   have X41:=lH (Bx.since X34.out (sA _ (.cells #[.int .i64 y.k,.int .i64 y.n,.string y.s,.slice none 0 0] 45)))
   have X42:=lH (Bx.since X35.out (sA _ (.cells #[.int .i64 y.k,.int .i64 y.n,.string y.s,.slice none 0 0] 45)))
   have X43:=lH (Bx.since X36.out (sA _ (.cells #[.int .i64 y.k,.int .i64 y.n,.string y.s,.slice none 0 0] 45)))
   have X44:=lH (bx_new S37.out #[.int .i64 y.k,.int .i64 y.n,.string y.s,.slice none 0 0] 45 (g:=w10.heap.size+1) (by simp))
   have S45:=lH (Since.trans S37.out (sA _ (.cells #[.int .i64 y.k,.int .i64 y.n,.string y.s,.slice none 0 0] 45)))
   obtain⟨_,_,_,_,_,_,_,_⟩:=bx8 X42.out
   obtain⟨_,_,_,_,_,_,_,_⟩:=bx8' X42.out
   obtain⟨_,_,_,_⟩:=bx4 X44.out
   obtain⟨_,_,_,_⟩:=bx4' X44.out
   have X46:=lH (Bx.since X38.out (sA _ (.cells #[.int .i64 y.k,.int .i64 y.n,.string y.s,.slice none 0 0] 45)))
   have X47:=lH (Bx.since X39.out (sA _ (.cells #[.int .i64 y.k,.int .i64 y.n,.string y.s,.slice none 0 0] 45)))
   have X48:=lH (Bx.since X40.out (sA _ (.cells #[.int .i64 y.k,.int .i64 y.n,.string y.s,.slice none 0 0] 45)))
   have X49:=lH (Bx.since X41.out (sA _ (.cells #[.int .i64 y.k,.int .i64 y.n,.string y.s,.slice none 0 0] 45)))
   have X50:=lH (Bx.since X42.out (sA _ (.cells #[.int .i64 y.k,.int .i64 y.n,.string y.s,.slice none 0 0] 45)))
   have X51:=lH (Bx.since X43.out (sA _ (.cells #[.int .i64 y.k,.int .i64 y.n,.string y.s,.slice none 0 0] 45)))
   have X52:=lH (bx_new S45.out #[.int .i64 y.k,.int .i64 y.n,.string y.s,.slice none 0 0] 45 (g:=w10.heap.size+1+1) (by simp))
   have S53:=lH (Since.trans S45.out (sA _ (.cells #[.int .i64 y.k,.int .i64 y.n,.string y.s,.slice none 0 0] 45)))
   obtain⟨_,_,_,_,_,_,_,_⟩:=bx8 X50.out
   obtain⟨_,_,_,_,_,_,_,_⟩:=bx8' X50.out
   have X54:=lH (Bx.other X46.out (b':=w4.heap.size) (by omega) 6 (.slice (some ⟨w10.heap.size+1+1,0,none⟩) 1 1))
   have X55:=lH (Bx.other X47.out (b':=w4.heap.size) (by omega) 6 (.slice (some ⟨w10.heap.size+1+1,0,none⟩) 1 1))
   have X56:=lH (Bx.other X48.out (b':=w4.heap.size) (by omega) 6 (.slice (some ⟨w10.heap.size+1+1,0,none⟩) 1 1))
   have X57:=lH (Bx.other X49.out (b':=w4.heap.size) (by omega) 6 (.slice (some ⟨w10.heap.size+1+1,0,none⟩) 1 1))
   have X58:=lH (bxset X50.out 6 (.slice (some ⟨w10.heap.size+1+1,0,none⟩) 1 1) (ds:=#[.int .i64 1,.string word,.bool false,.slice none 0 0,.int .i64 0,.bool false,.slice (some ⟨w10.heap.size+1+1,0,none⟩) 1 1,.int .i64 0]) rfl)
   have X59:=lH (Bx.other X51.out (b':=w4.heap.size) (by omega) 6 (.slice (some ⟨w10.heap.size+1+1,0,none⟩) 1 1))
   have X60:=lH (Bx.other X52.out (b':=w4.heap.size) (by omega) 6 (.slice (some ⟨w10.heap.size+1+1,0,none⟩) 1 1))
   have S61:=lH (Since.set S53.out (p:=⟨w4.heap.size,6,none⟩) (show w.heap.size≤w4.heap.size by omega) (.slice (some ⟨w10.heap.size+1+1,0,none⟩) 1 1))
   obtain⟨ca0,ca1,ca2,ca3,ca4⟩:=bx5 X55.out
   obtain⟨caf0,caf1,caf2,caf3,caf4⟩:=bx5' X55.out
   obtain⟨cz0,cz1,cz2,cz3,cz4,cz5,cz6,cz7⟩:=bx8 X56.out
   obtain⟨czf0,czf1,czf2,czf3,czf4,czf5,czf6,czf7⟩:=bx8' X56.out
   obtain⟨_,_,_,_,_,_,_,_⟩:=bx8 X58.out
   obtain⟨_,_,_,_,_,_,_,_⟩:=bx8' X58.out
   obtain⟨_,_,_,_,_⟩:=bx5 X59.out
   obtain⟨_,_,_,_,_⟩:=bx5' X59.out
   have X62:=bf5 X54.out (b':=w.heap.size+1) (by omega) A m c i10 n a10 r10
   have X63:=bp5 X55.out A m c i10 n a10 r10
   have X64:=bf5 X56.out (b':=w.heap.size+1) (by omega) A m c i10 n a10 r10
   have X65:=bf5 X57.out (b':=w.heap.size+1) (by omega) A m c i10 n a10 r10
   have X66:=bf5 X58.out (b':=w.heap.size+1) (by omega) A m c i10 n a10 r10
   have X67:=bf5 X59.out (b':=w.heap.size+1) (by omega) A m c i10 n a10 r10
   have X68:=bf5 X60.out (b':=w.heap.size+1) (by omega) A m c i10 n a10 r10
   have S69:=sp5 S61.out (b:=w.heap.size+1) (by omega) A m c i10 n a10 r10
   obtain⟨cz0,cz1,cz2,cz3,cz4,cz5,cz6,cz7⟩:=bx8 X64.out
   obtain⟨czf0,czf1,czf2,czf3,czf4,czf5,czf6,czf7⟩:=bx8' X64.out
   obtain⟨_,_,_,_,_,_,_,_⟩:=bx8 X66.out
   obtain⟨_,_,_,_,_,_,_,_⟩:=bx8' X66.out
   obtain⟨_,_,_,_,_⟩:=bx5 X67.out
   obtain⟨_,_,_,_,_⟩:=bx5' X67.out
   go_wp2
   go_region
   go_wp2
   have X70:=lH (bxfar8 X62.out (b':=w.heap.size+1+1) (by omega) (.int .i64 1) (.string word) (.bool false) (.slice none 0 0) (.int .i64 0) (.bool false) (.slice (some ⟨w10.heap.size+1+1,0,none⟩) 1 1) (.int .i64 0))
   have X71:=lH (bxfar8 X63.out (b':=w.heap.size+1+1) (by omega) (.int .i64 1) (.string word) (.bool false) (.slice none 0 0) (.int .i64 0) (.bool false) (.slice (some ⟨w10.heap.size+1+1,0,none⟩) 1 1) (.int .i64 0))
   have X72:=lH (bxput8 X64.out (.int .i64 1) (.string word) (.bool false) (.slice none 0 0) (.int .i64 0) (.bool false) (.slice (some ⟨w10.heap.size+1+1,0,none⟩) 1 1) (.int .i64 0))
   have X73:=lH (bxfar8 X65.out (b':=w.heap.size+1+1) (by omega) (.int .i64 1) (.string word) (.bool false) (.slice none 0 0) (.int .i64 0) (.bool false) (.slice (some ⟨w10.heap.size+1+1,0,none⟩) 1 1) (.int .i64 0))
   have X74:=lH (bxfar8 X66.out (b':=w.heap.size+1+1) (by omega) (.int .i64 1) (.string word) (.bool false) (.slice none 0 0) (.int .i64 0) (.bool false) (.slice (some ⟨w10.heap.size+1+1,0,none⟩) 1 1) (.int .i64 0))
   have X75:=lH (bxfar8 X67.out (b':=w.heap.size+1+1) (by omega) (.int .i64 1) (.string word) (.bool false) (.slice none 0 0) (.int .i64 0) (.bool false) (.slice (some ⟨w10.heap.size+1+1,0,none⟩) 1 1) (.int .i64 0))
   have X76:=lH (bxfar8 X68.out (b':=w.heap.size+1+1) (by omega) (.int .i64 1) (.string word) (.bool false) (.slice none 0 0) (.int .i64 0) (.bool false) (.slice (some ⟨w10.heap.size+1+1,0,none⟩) 1 1) (.int .i64 0))
   have S77:=lH (since_put8 S69.out (b:=w.heap.size+1+1) (by omega) (.int .i64 1) (.string word) (.bool false) (.slice none 0 0) (.int .i64 0) (.bool false) (.slice (some ⟨w10.heap.size+1+1,0,none⟩) 1 1) (.int .i64 0))
   refine bodyPost_ret (v:=.tuple #[.agg #[.slice A m c,.int .i64 i10,.int .i64 n,.int .i64 a10,.int .i64 r10],.agg #[.int .i64 1,.string word,.bool false,.slice none 0 0,.int .i64 0,.bool false,.slice (some ⟨w10.heap.size+1+1,0,none⟩) 1 1,.int .i64 0]]) ?_ rfl ?_
   · simp[results,Tryz.results108,go_sem,ca0,ca1,ca2,ca3,ca4,cz0,cz1,cz2,cz3,cz4,cz5,cz6,cz7]
   · exact Th.got t10 (V:=VI w) (fun _=>⟨_,_,rfl,Sl.nil _ _ _,faro_nil _,sl_one _ (Bx.since X76.out (Since.drew (Since.refl _))),faro_at (by show ¬ _<_; omega)⟩) ⟨_,_,_,_,_,_,_,_,_,_,_,_,rfl⟩ (Since.trans S77.out (Since.drew (Since.refl _)))
 | true =>
  have tb:=t4
  simp only[flag,bnd_alt,bnd_assoc,bnd_ret,bnd_if,Ps.value,bnd_wrong,if_true,if_false,Bool.false_eq_true] at tb
  go_wp2_with fail
  (with_reducible refine (L0.out _ S30.out _ _ _ (Th.st tb)).mono ?_)
  rintro e5 w5 ⟨b5,rfl,hb5,h5⟩
  have z_w5:=h5.size; try simp at z_w5
  cases b5 with
  | false =>
   have tf:=Th.no tb hb5
   obtain⟨_,_,_,_,_⟩:=bx5 (Bx.since X28.out h5)
   obtain⟨_,_,_,_,_⟩:=bx5' (Bx.since X28.out h5)
   go_wp2_with fail
   (with_reducible refine (L1.out _ (Since.trans S30.out h5) _ _ _ (Th.st tf)).mono ?_)
   rintro e7 w7 ⟨b7,rfl,hb7,h7⟩
   have z_w7:=h7.size; try simp at z_w7
   cases b7 with
   | false =>
    have tw:=Th.no tf hb7
    by_cases he:r4=0
    · obtain⟨kw,p,ek,ea,hbad⟩:=th_wrong tw he
      subst he ek ea
      have HBAD:=lH hbad
      clear hbad
      have u7_:=h5.trans h7
      obtain⟨_,_,_,_,_⟩:=bx5 (Bx.since X28.out u7_)
      obtain⟨_,_,_,_,_⟩:=bx5' (Bx.since X28.out u7_)
      have G0:=lH (held_since (Bx.since X28.out u7_) (Bx.since X29.out u7_))
      have G5:=lH (held_put5 (Bx.since X28.out u7_) (Bx.since X29.out u7_) (r:=w.heap.size+1) (by omega) (by omega))
      have G13:=lH (held_put13 (Bx.since X28.out u7_) (Bx.since X29.out u7_) (r:=w.heap.size+1) (r':=w.heap.size+1+1) (by omega) (by omega) (by omega) (by omega))
      go_wp2
      go_region_held3 (fun W=>W.cell? ⟨w1.heap.size,0,none⟩=some (.slice A m c)∧W.cell? ⟨w1.heap.size,1,none⟩=some (.int .i64 (kw:Int))∧W.cell? ⟨w1.heap.size,2,none⟩=some (.int .i64 n)∧W.cell? ⟨w1.heap.size,3,none⟩=some (.int .i64 0)∧W.cell? ⟨w1.heap.size,4,none⟩=some (.int .i64 0)∧W.cell? ⟨w4.heap.size,0,none⟩=some (.int .i64 1)∧W.cell? ⟨w4.heap.size,1,none⟩=some (.string word)∧W.cell? ⟨w4.heap.size,2,none⟩=some (.bool true)∧W.cell? ⟨w4.heap.size,3,none⟩=some (.slice none 0 0)∧W.cell? ⟨w4.heap.size,4,none⟩=some (.int .i64 0)∧W.cell? ⟨w4.heap.size,5,none⟩=some (.bool false)∧W.cell? ⟨w4.heap.size,6,none⟩=some (.slice none 0 0)∧W.cell? ⟨w4.heap.size,7,none⟩=some (.int .i64 0))
       (first | with_reducible exact G13.out _ _ _ _ _ _ _ _ _ _ _ _ _ _ kd | with_reducible exact G5.out _ _ _ _ _ _ kd | with_reducible exact G0.out _ kd | with_reducible exact G0.out _ (Since.drew (Since.refl _)))
       (first | (go_at_call 115; (with_reducible refine (WR.out kw _ (Since.trans (Since.trans (Since.trans S30.out h5) h7) (Since.drew (Since.refl _)))).mono ?_); rintro e0 wn ⟨iw,aw,ew,rfl,hec,hn⟩; have kd:=(Since.drew (Since.refl _)).trans hn; obtain⟨ca0,ca1,ca2,ca3,ca4⟩:=bx5 (Bx.since (Bx.since (Bx.since X26.out h5) h7) kd); obtain⟨caf0,caf1,caf2,caf3,caf4⟩:=bx5' (Bx.since (Bx.since (Bx.since X26.out h5) h7) kd); obtain⟨cz0,cz1,cz2,cz3,cz4,cz5,cz6,cz7⟩:=bx8 (Bx.since (Bx.since (Bx.since X27.out h5) h7) kd); obtain⟨czf0,czf1,czf2,czf3,czf4,czf5,czf6,czf7⟩:=bx8' (Bx.since (Bx.since (Bx.since X27.out h5) h7) kd)))
      all_goals go_wp2
      have zz_wn:=kd.size; try simp at zz_wn
      refine bodyPost_ret (v:=.tuple #[.agg #[.slice A m c,.int .i64 iw,.int .i64 n,.int .i64 aw,.int .i64 ew],.agg #[.int .i64 1,.string word,.bool true,.slice none 0 0,.int .i64 0,.bool false,.slice none 0 0,.int .i64 0]]) ?_ rfl ?_
      · simp[results,Tryz.results108,go_sem,ca0,ca1,ca2,ca3,ca4,cz0,cz1,cz2,cz3,cz4,cz5,cz6,cz7]
      · exact .inr ⟨p,_,_,_,_,_,HBAD.out,hec,⟨_,_,_,_,_,_,_,_,_,_,_,_,rfl⟩,rfl,since_put8 (since_put5 (Since.trans (Since.trans (Since.trans S30.out h5) h7) kd) (b:=w.heap.size+1) (by omega) (.slice A m c) (.int .i64 iw) (.int .i64 n) (.int .i64 aw) (.int .i64 ew)) (b:=w.heap.size+1+1) (by omega) _ _ _ _ _ _ _ _⟩
    · have ne:(r4 != 0)=true:=by rw[bne_iff_ne]; exact he
      have HB0:=lH (tb.bad he)
      clear he
      have u8_:=h5.trans h7
      obtain⟨_,_,_,_,_⟩:=bx5 (Bx.since X28.out u8_)
      obtain⟨_,_,_,_,_⟩:=bx5' (Bx.since X28.out u8_)
      obtain⟨ca0,ca1,ca2,ca3,ca4⟩:=bx5 (Bx.since X26.out u8_)
      obtain⟨caf0,caf1,caf2,caf3,caf4⟩:=bx5' (Bx.since X26.out u8_)
      obtain⟨cz0,cz1,cz2,cz3,cz4,cz5,cz6,cz7⟩:=bx8 (Bx.since X27.out u8_)
      obtain⟨czf0,czf1,czf2,czf3,czf4,czf5,czf6,czf7⟩:=bx8' (Bx.since X27.out u8_)
      obtain⟨_,_,_,_,_,_,_,_⟩:=bx8 (Bx.since X29.out u8_)
      obtain⟨_,_,_,_,_,_,_,_⟩:=bx8' (Bx.since X29.out u8_)
      obtain⟨_,_,_,_,_⟩:=bx5 (Bx.since X28.out u8_)
      obtain⟨_,_,_,_,_⟩:=bx5' (Bx.since X28.out u8_)
      have X31:=bf5 (Bx.since X25.out u8_) (b':=w.heap.size+1) (by omega) A m c i4 n a4 r4
      have X32:=bp5 (Bx.since X26.out u8_) A m c i4 n a4 r4
      have X33:=bf5 (Bx.since X27.out u8_) (b':=w.heap.size+1) (by omega) A m c i4 n a4 r4
      have X34:=bf5 (Bx.since X28.out u8_) (b':=w.heap.size+1) (by omega) A m c i4 n a4 r4
      have X35:=bf5 (Bx.since X29.out u8_) (b':=w.heap.size+1) (by omega) A m c i4 n a4 r4
      have S36:=sp5 (Since.trans S30.out u8_) (b:=w.heap.size+1) (by omega) A m c i4 n a4 r4
      obtain⟨cz0,cz1,cz2,cz3,cz4,cz5,cz6,cz7⟩:=bx8 X33.out
      obtain⟨czf0,czf1,czf2,czf3,czf4,czf5,czf6,czf7⟩:=bx8' X33.out
      obtain⟨_,_,_,_,_,_,_,_⟩:=bx8 X35.out
      obtain⟨_,_,_,_,_,_,_,_⟩:=bx8' X35.out
      obtain⟨_,_,_,_,_⟩:=bx5 X34.out
      obtain⟨_,_,_,_,_⟩:=bx5' X34.out
      go_wp2
      go_region
      go_wp2
      have X37:=lH (bxfar8 X31.out (b':=w.heap.size+1+1) (by omega) (.int .i64 1) (.string word) (.bool true) (.slice none 0 0) (.int .i64 0) (.bool false) (.slice none 0 0) (.int .i64 0))
      have X38:=lH (bxfar8 X32.out (b':=w.heap.size+1+1) (by omega) (.int .i64 1) (.string word) (.bool true) (.slice none 0 0) (.int .i64 0) (.bool false) (.slice none 0 0) (.int .i64 0))
      have X39:=lH (bxput8 X33.out (.int .i64 1) (.string word) (.bool true) (.slice none 0 0) (.int .i64 0) (.bool false) (.slice none 0 0) (.int .i64 0))
      have X40:=lH (bxfar8 X34.out (b':=w.heap.size+1+1) (by omega) (.int .i64 1) (.string word) (.bool true) (.slice none 0 0) (.int .i64 0) (.bool false) (.slice none 0 0) (.int .i64 0))
      have X41:=lH (bxfar8 X35.out (b':=w.heap.size+1+1) (by omega) (.int .i64 1) (.string word) (.bool true) (.slice none 0 0) (.int .i64 0) (.bool false) (.slice none 0 0) (.int .i64 0))
      have S42:=lH (since_put8 S36.out (b:=w.heap.size+1+1) (by omega) (.int .i64 1) (.string word) (.bool true) (.slice none 0 0) (.int .i64 0) (.bool false) (.slice none 0 0) (.int .i64 0))
      refine bodyPost_ret (v:=.tuple #[.agg #[.slice A m c,.int .i64 i4,.int .i64 n,.int .i64 a4,.int .i64 r4],.agg #[.int .i64 1,.string word,.bool true,.slice none 0 0,.int .i64 0,.bool false,.slice none 0 0,.int .i64 0]]) ?_ rfl ?_
      · simp[results,Tryz.results108,go_sem,ca0,ca1,ca2,ca3,ca4,cz0,cz1,cz2,cz3,cz4,cz5,cz6,cz7]
      · obtain⟨p,x0,hbad,hec⟩:=HB0.out
        exact .inr ⟨p,x0,_,_,_,_,hbad,hec,⟨_,_,_,_,_,_,_,_,_,_,_,_,rfl⟩,rfl,(Since.trans S42.out (Since.drew (Since.refl _)))⟩
   | true =>
    have ty:=th_plain (q:=fun y:Pl=>(ret ⟨1,word,true,[],0,false,[y.xp],0⟩:P It)) tf hb7 (fun t us hm h=>plain_f HNT.out t us hm h)
    have u9_:=h5.trans h7
    obtain⟨_,_,_,_,_⟩:=bx5 (Bx.since X28.out u9_)
    obtain⟨_,_,_,_,_⟩:=bx5' (Bx.since X28.out u9_)
    go_wp2_with fail
    (with_reducible refine (PL.out _ (Since.trans (Since.trans S30.out h5) h7) _ _ _ _ ty).mono ?_)
    rintro e8 w8 ⟨i8,a8,r8,y,rfl,t8,h8⟩
    have z_w8:=h8.size; try simp at z_w8
    have a10_:=sal (Since.trans (Since.trans (Since.trans S30.out h5) h7) h8) (.cells #[.slice A m c,.int .i64 i8,.int .i64 n,.int .i64 a8,.int .i64 r8] 127)
    have X31:=lH (Bx.since (Bx.since (Bx.since (Bx.since X25.out h5) h7) h8) a10_)
    have X32:=lH (Bx.since (Bx.since (Bx.since (Bx.since X26.out h5) h7) h8) a10_)
    have X33:=lH (Bx.since (Bx.since (Bx.since (Bx.since X27.out h5) h7) h8) a10_)
    have X34:=lH (Bx.since (Bx.since (Bx.since (Bx.since X28.out h5) h7) h8) a10_)
    have X35:=lH (Bx.since (Bx.since (Bx.since (Bx.since X29.out h5) h7) h8) a10_)
    have X36:=lH (bx_new (Since.trans (Since.trans (Since.trans S30.out h5) h7) h8) #[.slice A m c,.int .i64 i8,.int .i64 n,.int .i64 a8,.int .i64 r8] 127 (g:=w8.heap.size) (by simp))
    have S37:=lH (Since.trans (Since.trans (Since.trans (Since.trans S30.out h5) h7) h8) a10_)
    have X38:=lH (Bx.since X31.out (sA _ (.cells #[.int .i64 y.k,.int .i64 y.n,.string y.s,.slice none 0 0] 45)))
    have X39:=lH (Bx.since X32.out (sA _ (.cells #[.int .i64 y.k,.int .i64 y.n,.string y.s,.slice none 0 0] 45)))
    have X40:=lH (Bx.since X33.out (sA _ (.cells #[.int .i64 y.k,.int .i64 y.n,.string y.s,.slice none 0 0] 45)))
    have X41:=lH (Bx.since X34.out (sA _ (.cells #[.int .i64 y.k,.int .i64 y.n,.string y.s,.slice none 0 0] 45)))
    have X42:=lH (Bx.since X35.out (sA _ (.cells #[.int .i64 y.k,.int .i64 y.n,.string y.s,.slice none 0 0] 45)))
    have X43:=lH (Bx.since X36.out (sA _ (.cells #[.int .i64 y.k,.int .i64 y.n,.string y.s,.slice none 0 0] 45)))
    have X44:=lH (bx_new S37.out #[.int .i64 y.k,.int .i64 y.n,.string y.s,.slice none 0 0] 45 (g:=w8.heap.size+1) (by simp))
    have S45:=lH (Since.trans S37.out (sA _ (.cells #[.int .i64 y.k,.int .i64 y.n,.string y.s,.slice none 0 0] 45)))
    obtain⟨_,_,_,_,_,_,_,_⟩:=bx8 X42.out
    obtain⟨_,_,_,_,_,_,_,_⟩:=bx8' X42.out
    obtain⟨_,_,_,_⟩:=bx4 X44.out
    obtain⟨_,_,_,_⟩:=bx4' X44.out
    have X46:=lH (Bx.since X38.out (sA _ (.cells #[.int .i64 y.k,.int .i64 y.n,.string y.s,.slice none 0 0] 45)))
    have X47:=lH (Bx.since X39.out (sA _ (.cells #[.int .i64 y.k,.int .i64 y.n,.string y.s,.slice none 0 0] 45)))
    have X48:=lH (Bx.since X40.out (sA _ (.cells #[.int .i64 y.k,.int .i64 y.n,.string y.s,.slice none 0 0] 45)))
    have X49:=lH (Bx.since X41.out (sA _ (.cells #[.int .i64 y.k,.int .i64 y.n,.string y.s,.slice none 0 0] 45)))
    have X50:=lH (Bx.since X42.out (sA _ (.cells #[.int .i64 y.k,.int .i64 y.n,.string y.s,.slice none 0 0] 45)))
    have X51:=lH (Bx.since X43.out (sA _ (.cells #[.int .i64 y.k,.int .i64 y.n,.string y.s,.slice none 0 0] 45)))
    have X52:=lH (bx_new S45.out #[.int .i64 y.k,.int .i64 y.n,.string y.s,.slice none 0 0] 45 (g:=w8.heap.size+1+1) (by simp))
    have S53:=lH (Since.trans S45.out (sA _ (.cells #[.int .i64 y.k,.int .i64 y.n,.string y.s,.slice none 0 0] 45)))
    obtain⟨_,_,_,_,_,_,_,_⟩:=bx8 X50.out
    obtain⟨_,_,_,_,_,_,_,_⟩:=bx8' X50.out
    have X54:=lH (Bx.other X46.out (b':=w4.heap.size) (by omega) 6 (.slice (some ⟨w8.heap.size+1+1,0,none⟩) 1 1))
    have X55:=lH (Bx.other X47.out (b':=w4.heap.size) (by omega) 6 (.slice (some ⟨w8.heap.size+1+1,0,none⟩) 1 1))
    have X56:=lH (Bx.other X48.out (b':=w4.heap.size) (by omega) 6 (.slice (some ⟨w8.heap.size+1+1,0,none⟩) 1 1))
    have X57:=lH (Bx.other X49.out (b':=w4.heap.size) (by omega) 6 (.slice (some ⟨w8.heap.size+1+1,0,none⟩) 1 1))
    have X58:=lH (bxset X50.out 6 (.slice (some ⟨w8.heap.size+1+1,0,none⟩) 1 1) (ds:=#[.int .i64 1,.string word,.bool true,.slice none 0 0,.int .i64 0,.bool false,.slice (some ⟨w8.heap.size+1+1,0,none⟩) 1 1,.int .i64 0]) rfl)
    have X59:=lH (Bx.other X51.out (b':=w4.heap.size) (by omega) 6 (.slice (some ⟨w8.heap.size+1+1,0,none⟩) 1 1))
    have X60:=lH (Bx.other X52.out (b':=w4.heap.size) (by omega) 6 (.slice (some ⟨w8.heap.size+1+1,0,none⟩) 1 1))
    have S61:=lH (Since.set S53.out (p:=⟨w4.heap.size,6,none⟩) (show w.heap.size≤w4.heap.size by omega) (.slice (some ⟨w8.heap.size+1+1,0,none⟩) 1 1))
    obtain⟨ca0,ca1,ca2,ca3,ca4⟩:=bx5 X55.out
    obtain⟨caf0,caf1,caf2,caf3,caf4⟩:=bx5' X55.out
    obtain⟨cz0,cz1,cz2,cz3,cz4,cz5,cz6,cz7⟩:=bx8 X56.out
    obtain⟨czf0,czf1,czf2,czf3,czf4,czf5,czf6,czf7⟩:=bx8' X56.out
    obtain⟨_,_,_,_,_,_,_,_⟩:=bx8 X58.out
    obtain⟨_,_,_,_,_,_,_,_⟩:=bx8' X58.out
    obtain⟨_,_,_,_,_⟩:=bx5 X59.out
    obtain⟨_,_,_,_,_⟩:=bx5' X59.out
    have X62:=bf5 X54.out (b':=w.heap.size+1) (by omega) A m c i8 n a8 r8
    have X63:=bp5 X55.out A m c i8 n a8 r8
    have X64:=bf5 X56.out (b':=w.heap.size+1) (by omega) A m c i8 n a8 r8
    have X65:=bf5 X57.out (b':=w.heap.size+1) (by omega) A m c i8 n a8 r8
    have X66:=bf5 X58.out (b':=w.heap.size+1) (by omega) A m c i8 n a8 r8
    have X67:=bf5 X59.out (b':=w.heap.size+1) (by omega) A m c i8 n a8 r8
    have X68:=bf5 X60.out (b':=w.heap.size+1) (by omega) A m c i8 n a8 r8
    have S69:=sp5 S61.out (b:=w.heap.size+1) (by omega) A m c i8 n a8 r8
    obtain⟨cz0,cz1,cz2,cz3,cz4,cz5,cz6,cz7⟩:=bx8 X64.out
    obtain⟨czf0,czf1,czf2,czf3,czf4,czf5,czf6,czf7⟩:=bx8' X64.out
    obtain⟨_,_,_,_,_,_,_,_⟩:=bx8 X66.out
    obtain⟨_,_,_,_,_,_,_,_⟩:=bx8' X66.out
    obtain⟨_,_,_,_,_⟩:=bx5 X67.out
    obtain⟨_,_,_,_,_⟩:=bx5' X67.out
    go_wp2
    go_region
    go_wp2
    have X70:=lH (bxfar8 X62.out (b':=w.heap.size+1+1) (by omega) (.int .i64 1) (.string word) (.bool true) (.slice none 0 0) (.int .i64 0) (.bool false) (.slice (some ⟨w8.heap.size+1+1,0,none⟩) 1 1) (.int .i64 0))
    have X71:=lH (bxfar8 X63.out (b':=w.heap.size+1+1) (by omega) (.int .i64 1) (.string word) (.bool true) (.slice none 0 0) (.int .i64 0) (.bool false) (.slice (some ⟨w8.heap.size+1+1,0,none⟩) 1 1) (.int .i64 0))
    have X72:=lH (bxput8 X64.out (.int .i64 1) (.string word) (.bool true) (.slice none 0 0) (.int .i64 0) (.bool false) (.slice (some ⟨w8.heap.size+1+1,0,none⟩) 1 1) (.int .i64 0))
    have X73:=lH (bxfar8 X65.out (b':=w.heap.size+1+1) (by omega) (.int .i64 1) (.string word) (.bool true) (.slice none 0 0) (.int .i64 0) (.bool false) (.slice (some ⟨w8.heap.size+1+1,0,none⟩) 1 1) (.int .i64 0))
    have X74:=lH (bxfar8 X66.out (b':=w.heap.size+1+1) (by omega) (.int .i64 1) (.string word) (.bool true) (.slice none 0 0) (.int .i64 0) (.bool false) (.slice (some ⟨w8.heap.size+1+1,0,none⟩) 1 1) (.int .i64 0))
    have X75:=lH (bxfar8 X67.out (b':=w.heap.size+1+1) (by omega) (.int .i64 1) (.string word) (.bool true) (.slice none 0 0) (.int .i64 0) (.bool false) (.slice (some ⟨w8.heap.size+1+1,0,none⟩) 1 1) (.int .i64 0))
    have X76:=lH (bxfar8 X68.out (b':=w.heap.size+1+1) (by omega) (.int .i64 1) (.string word) (.bool true) (.slice none 0 0) (.int .i64 0) (.bool false) (.slice (some ⟨w8.heap.size+1+1,0,none⟩) 1 1) (.int .i64 0))
    have S77:=lH (since_put8 S69.out (b:=w.heap.size+1+1) (by omega) (.int .i64 1) (.string word) (.bool true) (.slice none 0 0) (.int .i64 0) (.bool false) (.slice (some ⟨w8.heap.size+1+1,0,none⟩) 1 1) (.int .i64 0))
    refine bodyPost_ret (v:=.tuple #[.agg #[.slice A m c,.int .i64 i8,.int .i64 n,.int .i64 a8,.int .i64 r8],.agg #[.int .i64 1,.string word,.bool true,.slice none 0 0,.int .i64 0,.bool false,.slice (some ⟨w8.heap.size+1+1,0,none⟩) 1 1,.int .i64 0]]) ?_ rfl ?_
    · simp[results,Tryz.results108,go_sem,ca0,ca1,ca2,ca3,ca4,cz0,cz1,cz2,cz3,cz4,cz5,cz6,cz7]
    · exact Th.got t8 (V:=VI w) (fun _=>⟨_,_,rfl,Sl.nil _ _ _,faro_nil _,sl_one _ (Bx.since X76.out (Since.drew (Since.refl _))),faro_at (by show ¬ _<_; omega)⟩) ⟨_,_,_,_,_,_,_,_,_,_,_,_,rfl⟩ (Since.trans S77.out (Since.drew (Since.refl _)))
  | true =>
   have ty:=th_plain (q:=fun y:Pl=>(ret ⟨1,word,true,[],0,false,[y.xp],0⟩:P It)) tb hb5 (fun t us hm h=>plain_t HNT.out t us hm h)
   obtain⟨_,_,_,_,_⟩:=bx5 (Bx.since X28.out h5)
   obtain⟨_,_,_,_,_⟩:=bx5' (Bx.since X28.out h5)
   go_wp2_with fail
   (with_reducible refine (PL.out _ (Since.trans S30.out h5) _ _ _ _ ty).mono ?_)
   rintro e6 w6 ⟨i6,a6,r6,y,rfl,t6,h6⟩
   have z_w6:=h6.size; try simp at z_w6
   have a11_:=sal (Since.trans (Since.trans S30.out h5) h6) (.cells #[.slice A m c,.int .i64 i6,.int .i64 n,.int .i64 a6,.int .i64 r6] 127)
   have X31:=lH (Bx.since (Bx.since (Bx.since X25.out h5) h6) a11_)
   have X32:=lH (Bx.since (Bx.since (Bx.since X26.out h5) h6) a11_)
   have X33:=lH (Bx.since (Bx.since (Bx.since X27.out h5) h6) a11_)
   have X34:=lH (Bx.since (Bx.since (Bx.since X28.out h5) h6) a11_)
   have X35:=lH (Bx.since (Bx.since (Bx.since X29.out h5) h6) a11_)
   have X36:=lH (bx_new (Since.trans (Since.trans S30.out h5) h6) #[.slice A m c,.int .i64 i6,.int .i64 n,.int .i64 a6,.int .i64 r6] 127 (g:=w6.heap.size) (by simp))
   have S37:=lH (Since.trans (Since.trans (Since.trans S30.out h5) h6) a11_)
   have X38:=lH (Bx.since X31.out (sA _ (.cells #[.int .i64 y.k,.int .i64 y.n,.string y.s,.slice none 0 0] 45)))
   have X39:=lH (Bx.since X32.out (sA _ (.cells #[.int .i64 y.k,.int .i64 y.n,.string y.s,.slice none 0 0] 45)))
   have X40:=lH (Bx.since X33.out (sA _ (.cells #[.int .i64 y.k,.int .i64 y.n,.string y.s,.slice none 0 0] 45)))
   have X41:=lH (Bx.since X34.out (sA _ (.cells #[.int .i64 y.k,.int .i64 y.n,.string y.s,.slice none 0 0] 45)))
   have X42:=lH (Bx.since X35.out (sA _ (.cells #[.int .i64 y.k,.int .i64 y.n,.string y.s,.slice none 0 0] 45)))
   have X43:=lH (Bx.since X36.out (sA _ (.cells #[.int .i64 y.k,.int .i64 y.n,.string y.s,.slice none 0 0] 45)))
   have X44:=lH (bx_new S37.out #[.int .i64 y.k,.int .i64 y.n,.string y.s,.slice none 0 0] 45 (g:=w6.heap.size+1) (by simp))
   have S45:=lH (Since.trans S37.out (sA _ (.cells #[.int .i64 y.k,.int .i64 y.n,.string y.s,.slice none 0 0] 45)))
   obtain⟨_,_,_,_,_,_,_,_⟩:=bx8 X42.out
   obtain⟨_,_,_,_,_,_,_,_⟩:=bx8' X42.out
   obtain⟨_,_,_,_⟩:=bx4 X44.out
   obtain⟨_,_,_,_⟩:=bx4' X44.out
   have X46:=lH (Bx.since X38.out (sA _ (.cells #[.int .i64 y.k,.int .i64 y.n,.string y.s,.slice none 0 0] 45)))
   have X47:=lH (Bx.since X39.out (sA _ (.cells #[.int .i64 y.k,.int .i64 y.n,.string y.s,.slice none 0 0] 45)))
   have X48:=lH (Bx.since X40.out (sA _ (.cells #[.int .i64 y.k,.int .i64 y.n,.string y.s,.slice none 0 0] 45)))
   have X49:=lH (Bx.since X41.out (sA _ (.cells #[.int .i64 y.k,.int .i64 y.n,.string y.s,.slice none 0 0] 45)))
   have X50:=lH (Bx.since X42.out (sA _ (.cells #[.int .i64 y.k,.int .i64 y.n,.string y.s,.slice none 0 0] 45)))
   have X51:=lH (Bx.since X43.out (sA _ (.cells #[.int .i64 y.k,.int .i64 y.n,.string y.s,.slice none 0 0] 45)))
   have X52:=lH (bx_new S45.out #[.int .i64 y.k,.int .i64 y.n,.string y.s,.slice none 0 0] 45 (g:=w6.heap.size+1+1) (by simp))
   have S53:=lH (Since.trans S45.out (sA _ (.cells #[.int .i64 y.k,.int .i64 y.n,.string y.s,.slice none 0 0] 45)))
   obtain⟨_,_,_,_,_,_,_,_⟩:=bx8 X50.out
   obtain⟨_,_,_,_,_,_,_,_⟩:=bx8' X50.out
   have X54:=lH (Bx.other X46.out (b':=w4.heap.size) (by omega) 6 (.slice (some ⟨w6.heap.size+1+1,0,none⟩) 1 1))
   have X55:=lH (Bx.other X47.out (b':=w4.heap.size) (by omega) 6 (.slice (some ⟨w6.heap.size+1+1,0,none⟩) 1 1))
   have X56:=lH (Bx.other X48.out (b':=w4.heap.size) (by omega) 6 (.slice (some ⟨w6.heap.size+1+1,0,none⟩) 1 1))
   have X57:=lH (Bx.other X49.out (b':=w4.heap.size) (by omega) 6 (.slice (some ⟨w6.heap.size+1+1,0,none⟩) 1 1))
   have X58:=lH (bxset X50.out 6 (.slice (some ⟨w6.heap.size+1+1,0,none⟩) 1 1) (ds:=#[.int .i64 1,.string word,.bool true,.slice none 0 0,.int .i64 0,.bool false,.slice (some ⟨w6.heap.size+1+1,0,none⟩) 1 1,.int .i64 0]) rfl)
   have X59:=lH (Bx.other X51.out (b':=w4.heap.size) (by omega) 6 (.slice (some ⟨w6.heap.size+1+1,0,none⟩) 1 1))
   have X60:=lH (Bx.other X52.out (b':=w4.heap.size) (by omega) 6 (.slice (some ⟨w6.heap.size+1+1,0,none⟩) 1 1))
   have S61:=lH (Since.set S53.out (p:=⟨w4.heap.size,6,none⟩) (show w.heap.size≤w4.heap.size by omega) (.slice (some ⟨w6.heap.size+1+1,0,none⟩) 1 1))
   obtain⟨ca0,ca1,ca2,ca3,ca4⟩:=bx5 X55.out
   obtain⟨caf0,caf1,caf2,caf3,caf4⟩:=bx5' X55.out
   obtain⟨cz0,cz1,cz2,cz3,cz4,cz5,cz6,cz7⟩:=bx8 X56.out
   obtain⟨czf0,czf1,czf2,czf3,czf4,czf5,czf6,czf7⟩:=bx8' X56.out
   obtain⟨_,_,_,_,_,_,_,_⟩:=bx8 X58.out
   obtain⟨_,_,_,_,_,_,_,_⟩:=bx8' X58.out
   obtain⟨_,_,_,_,_⟩:=bx5 X59.out
   obtain⟨_,_,_,_,_⟩:=bx5' X59.out
   have X62:=bf5 X54.out (b':=w.heap.size+1) (by omega) A m c i6 n a6 r6
   have X63:=bp5 X55.out A m c i6 n a6 r6
   have X64:=bf5 X56.out (b':=w.heap.size+1) (by omega) A m c i6 n a6 r6
   have X65:=bf5 X57.out (b':=w.heap.size+1) (by omega) A m c i6 n a6 r6
   have X66:=bf5 X58.out (b':=w.heap.size+1) (by omega) A m c i6 n a6 r6
   have X67:=bf5 X59.out (b':=w.heap.size+1) (by omega) A m c i6 n a6 r6
   have X68:=bf5 X60.out (b':=w.heap.size+1) (by omega) A m c i6 n a6 r6
   have S69:=sp5 S61.out (b:=w.heap.size+1) (by omega) A m c i6 n a6 r6
   obtain⟨cz0,cz1,cz2,cz3,cz4,cz5,cz6,cz7⟩:=bx8 X64.out
   obtain⟨czf0,czf1,czf2,czf3,czf4,czf5,czf6,czf7⟩:=bx8' X64.out
   obtain⟨_,_,_,_,_,_,_,_⟩:=bx8 X66.out
   obtain⟨_,_,_,_,_,_,_,_⟩:=bx8' X66.out
   obtain⟨_,_,_,_,_⟩:=bx5 X67.out
   obtain⟨_,_,_,_,_⟩:=bx5' X67.out
   go_wp2
   go_region
   go_wp2
   have X70:=lH (bxfar8 X62.out (b':=w.heap.size+1+1) (by omega) (.int .i64 1) (.string word) (.bool true) (.slice none 0 0) (.int .i64 0) (.bool false) (.slice (some ⟨w6.heap.size+1+1,0,none⟩) 1 1) (.int .i64 0))
   have X71:=lH (bxfar8 X63.out (b':=w.heap.size+1+1) (by omega) (.int .i64 1) (.string word) (.bool true) (.slice none 0 0) (.int .i64 0) (.bool false) (.slice (some ⟨w6.heap.size+1+1,0,none⟩) 1 1) (.int .i64 0))
   have X72:=lH (bxput8 X64.out (.int .i64 1) (.string word) (.bool true) (.slice none 0 0) (.int .i64 0) (.bool false) (.slice (some ⟨w6.heap.size+1+1,0,none⟩) 1 1) (.int .i64 0))
   have X73:=lH (bxfar8 X65.out (b':=w.heap.size+1+1) (by omega) (.int .i64 1) (.string word) (.bool true) (.slice none 0 0) (.int .i64 0) (.bool false) (.slice (some ⟨w6.heap.size+1+1,0,none⟩) 1 1) (.int .i64 0))
   have X74:=lH (bxfar8 X66.out (b':=w.heap.size+1+1) (by omega) (.int .i64 1) (.string word) (.bool true) (.slice none 0 0) (.int .i64 0) (.bool false) (.slice (some ⟨w6.heap.size+1+1,0,none⟩) 1 1) (.int .i64 0))
   have X75:=lH (bxfar8 X67.out (b':=w.heap.size+1+1) (by omega) (.int .i64 1) (.string word) (.bool true) (.slice none 0 0) (.int .i64 0) (.bool false) (.slice (some ⟨w6.heap.size+1+1,0,none⟩) 1 1) (.int .i64 0))
   have X76:=lH (bxfar8 X68.out (b':=w.heap.size+1+1) (by omega) (.int .i64 1) (.string word) (.bool true) (.slice none 0 0) (.int .i64 0) (.bool false) (.slice (some ⟨w6.heap.size+1+1,0,none⟩) 1 1) (.int .i64 0))
   have S77:=lH (since_put8 S69.out (b:=w.heap.size+1+1) (by omega) (.int .i64 1) (.string word) (.bool true) (.slice none 0 0) (.int .i64 0) (.bool false) (.slice (some ⟨w6.heap.size+1+1,0,none⟩) 1 1) (.int .i64 0))
   refine bodyPost_ret (v:=.tuple #[.agg #[.slice A m c,.int .i64 i6,.int .i64 n,.int .i64 a6,.int .i64 r6],.agg #[.int .i64 1,.string word,.bool true,.slice none 0 0,.int .i64 0,.bool false,.slice (some ⟨w6.heap.size+1+1,0,none⟩) 1 1,.int .i64 0]]) ?_ rfl ?_
   · simp[results,Tryz.results108,go_sem,ca0,ca1,ca2,ca3,ca4,cz0,cz1,cz2,cz3,cz4,cz5,cz6,cz7]
   · exact Th.got t6 (V:=VI w) (fun _=>⟨_,_,rfl,Sl.nil _ _ _,faro_nil _,sl_one _ (Bx.since X76.out (Since.drew (Since.refl _))),faro_at (by show ¬ _<_; omega)⟩) ⟨_,_,_,_,_,_,_,_,_,_,_,_,rfl⟩ (Since.trans S77.out (Since.drew (Since.refl _)))
end Go.Proofs.YtjmmcnldfkjebaaGreatDoor.Doc6
