/- The document's own parser: an item. -/
import Derived.Test.YtjmmcnldfkjebaaGreatDoorJq
import Derived.Test.YtjmmcnldfkjebaaGreatDoorJn
import Derived.Test.YtjmmcnldfkjebaaGreatDoorJi
set_option maxHeartbeats 8000000
set_option maxRecDepth 20000
namespace Go.Proofs.YtjmmcnldfkjebaaGreatDoor.Doc6
open Go.RowKit
set_option linter.unusedVariables false
set_option linter.unusedSimpArgs false
open Dig Lx Tk Ps Ti
open Fq
open Prs (Old)
theorem got_form {A:Option Addr} {m c:Nat} {n:Int} {ts:List Tv} {F:R It} {W w':World} {e:Ending} (h:Got (VI W) ZI A m c n ts F W e w') :
 ∃ (i' at' er' ki:Int) (nm:ByteArray) (bo:Bool) (D:Option Addr) (d1 d2:Nat) (sz:Int) (ou:Bool) (V:Option Addr) (v1 v2:Nat) (ak:Int),e = .returned (.tuple #[.agg #[.slice A m c,.int .i64 i',.int .i64 n,.int .i64 at',.int .i64 er'],.agg #[.int .i64 ki,.string nm,.bool bo,.slice D d1 d2,.int .i64 sz,.bool ou,.slice V v1 v2,.int .i64 ak]])∧Got (VI W) ZI A m c n ts F W e w'∧Since W w':=by
 have hh:=h
 rcases h with ⟨x,k,v,h1,h2,⟨D,V,rfl,h3,h4,h5,h6⟩,rfl,hs⟩ | ⟨p,x,i,at_,er,v,h1,he,⟨ki,nm,bo,D,d1,d2,sz,ou,V,v1,v2,ak,rfl⟩,rfl,hs⟩
 · obtain⟨A1,c1,rfl⟩:=h3.form
   obtain⟨A2,c2,rfl⟩:=h5.form
   exact⟨_,_,_,_,_,_,_,_,_,_,_,_,_,_,_,rfl,hh,hs⟩
 · exact⟨_,_,_,_,_,_,_,_,_,_,_,_,_,_,_,rfl,hh,hs⟩
theorem fr_slX {F:Nat→Prop} {w w':World} {k:Nat} (kf:Fr (Lo k) w w') {G:Nat→Prop} (hG:∀ b,b<k→G b) {v:Value} {xs:List Xp} (h:Sl 4 (QX G) w v xs) (hf:FarO G v):Sl 4 (QX G) w' v xs:=
 kf.sl (Q':=QX G) (fun x u ⟨lv,h1,h2,h3⟩=>⟨lv,h1,kf.slP h2 (h3.mono hG),h3⟩) h (hf.mono hG)
theorem got_move {A:Option Addr} {m c:Nat} {n:Int} {ts:List Tv} {F:R It} {w W w' w'':World} {e:Ending} (h:Got (VI W) ZI A m c n ts F W e w') (hz:w.heap.size+3≤W.heap.size) (kf:Fr (Lo (w.heap.size+3)) w' w'') (hs:Since w w''):Got (VI w) ZI A m c n ts F w e w'':=by
 rcases h with ⟨x,k,v,h1,h2,⟨D,V,rfl,h3,h4,h5,h6⟩,rfl,-⟩ | ⟨p,x,i,at_,er,v,h1,he,hZ,rfl,-⟩
 · have hl:∀ b,b<w.heap.size+3→Old W b:=fun b hb=>Nat.lt_of_lt_of_le hb hz
   have ho:∀ b,Old w b→Old W b:=fun b hb=>hl b (Nat.lt_of_lt_of_le hb (Nat.le_add_right _ _))
   exact .inl ⟨x,k,_,h1,h2,⟨D,V,rfl,kf.slR h3 (h4.mono hl),h4.mono ho,(fr_slX (F:=noG) kf hl h5 h6).mono (fun x u=>QX.less fun b hb => .inl (ho b hb)),h6.mono ho⟩,rfl,hs⟩
 · exact .inr ⟨p,x,i,at_,er,v,h1,he,hZ,rfl,hs⟩
theorem isW_here {ts:List Tv} {k:Nat} {c:Bs} (hc:c ≠ []):isW c (ts.drop k)=(L (hereW ts k) == c):=by
 rcases Nat.lt_or_ge k ts.length with h | h
 · rw[drop_tok h,hereW,if_pos h]; rfl
 · rw[drop_end h,hereW,if_neg (by omega)]
   show false=(L nos == c)
   symm
   rw[beq_eq_false_iff_ne]
   intro e; exact hc e.symm
theorem par_none {n:Int} {us:Ts} (h1:isW [98,111,111,108] us=false) (h2:isW [105,110,116] us=false):par n us = .bad (place n us) (if us = [] then 6 else 5):=by
 simp only[par,bnd,kind,alt,h1,take,h2,R.bind,Bool.false_eq_true,if_false,wrong]
theorem item_0 (A:Option Addr) (m c:Nat) (n:Int) (ts:List Tv) (k0:Nat) (w:World) (H:Toks w (.slice A m c) ts) (hl:ts.length≤10000) (hk0:k0≤ts.length) (hw:NumT ts)  (hy:L (hereW ts k0) = [105,110,116]) :
 Calls Tryz.prog 76 #[.agg #[.slice A m c,.int .i64 (k0:Int),.int .i64 n,.int .i64 0,.int .i64 0]] w (Got (VI w) ZI A m c n ts (item n (ts.drop k0)) w):=by
 have HR:=lH (fun W (kk:Since w W)=>here_ok A m c n ts k0 W (H.since kk))
 have q0:isW [105,110,116] (ts.drop k0)=true:=by rw[isW_here (by decide)]; rw[hy]; decide
 have q1:isW [98,111,111,108] (ts.drop k0)=false:=by rw[isW_here (by decide)]; rw[hy]; decide
 have q2:isW [118,97,114] (ts.drop k0)=false:=by rw[isW_here (by decide)]; rw[hy]; decide
 have q3:isW [97,114,114,97,121] (ts.drop k0)=false:=by rw[isW_here (by decide)]; rw[hy]; decide
 have q4:isW [99,111,110,115,116,114,97,105,110,116] (ts.drop k0)=false:=by rw[isW_here (by decide)]; rw[hy]; decide
 have q5:isW [115,111,108,118,101] (ts.drop k0)=false:=by rw[isW_here (by decide)]; rw[hy]; decide
 have hF:item n (ts.drop k0)=par n (ts.drop k0):=by simp only[item,alt,q0,q1,q2,q3,q4,q5,if_true,if_false,Bool.false_eq_true]
 rw[hF]
 have FN:=lH (fun W (kk:Since w W)=>par_ok A m c n ts k0 W (H.since kk) hl hk0 hw)
 obtain⟨hx,hhx⟩:∃ hx,hx=hereW ts k0:=⟨_,rfl⟩
 rw[← hhx] at HR hy
 have z0:(hx.toList == ([105,110,116]:List UInt8))=true:=by rw[ByteArray.toList_eq,beq_iff_eq]; exact hy
 clear H hl hk0 hw hhx q0 q1 q2 q3 q4 q5 hy
 have X1:=lH (bx_new (Since.refl w) #[.slice A m c,.int .i64 (k0:Int),.int .i64 n,.int .i64 0,.int .i64 0] 127 (g:=w.heap.size) (by simp))
 have S2:=lH (Since.trans (Since.refl w) (sA _ (.cells #[.slice A m c,.int .i64 (k0:Int),.int .i64 n,.int .i64 0,.int .i64 0] 127)))
 have a1_:=sal S2.out (.cells #[.slice none 0 0,.int .i64 0,.int .i64 0,.int .i64 0,.int .i64 0] 127)
 have X3:=lH (Bx.since X1.out a1_)
 have X4:=lH (bx_new S2.out #[.slice none 0 0,.int .i64 0,.int .i64 0,.int .i64 0,.int .i64 0] 127 (g:=w.heap.size+1) (by simp))
 have S5:=lH (Since.trans S2.out a1_)
 have a2_:=sal S5.out (.cells #[.int .i64 0,.string ⟨#[]⟩,.bool false,.slice none 0 0,.int .i64 0,.bool false,.slice none 0 0,.int .i64 0] 28)
 have X6:=lH (Bx.since X3.out a2_)
 have X7:=lH (Bx.since X4.out a2_)
 have X8:=lH (bx_new S5.out #[.int .i64 0,.string ⟨#[]⟩,.bool false,.slice none 0 0,.int .i64 0,.bool false,.slice none 0 0,.int .i64 0] 28 (g:=w.heap.size+1+1) (by simp))
 have S9:=lH (Since.trans S5.out a2_)
 obtain⟨_,_,_,_,_⟩:=bx5 X6.out
 obtain⟨_,_,_,_,_⟩:=bx5' X6.out
 go_enter Tryz.func76,Tryz.ntmps76
 go_wp2_with fail
 (with_reducible refine (HR.out _ S9.out).mono ?_)
 rintro e1 w1 ⟨rfl,h1⟩
 have z_w1:=h1.size; try simp at z_w1
 obtain⟨_,_,_,_,_⟩:=bx5 (Bx.since X6.out h1)
 obtain⟨_,_,_,_,_⟩:=bx5' (Bx.since X6.out h1)
 have hzz:w.heap.size+3≤w1.heap.size:=by omega
 go_wp2_with fail
 (with_reducible refine (FN.out _ (Since.trans S9.out h1)).mono ?_)
 intro e3 w3 hg
 obtain⟨i',at',er',ki,nm,bo,D,d1,d2,sz,ou,V,v1,v2,ak,rfl,hg,h3⟩:=got_form hg
 have HG:=lH hg
 clear hg
 have z_w3:=h3.size; try simp at z_w3
 have u3_:=h1.trans h3
 obtain⟨ca0,ca1,ca2,ca3,ca4⟩:=bx5 (Bx.since X7.out u3_)
 obtain⟨_,_,_,_,_⟩:=bx5' (Bx.since X7.out u3_)
 obtain⟨cz0,cz1,cz2,cz3,cz4,cz5,cz6,cz7⟩:=bx8 (Bx.since X8.out u3_)
 obtain⟨_,_,_,_,_,_,_,_⟩:=bx8' (Bx.since X8.out u3_)
 go_wp2
 have u4_:=h1.trans h3
 have X10:=bf5 (Bx.since X6.out u4_) (b':=w.heap.size+1) (by omega) A m c i' n at' er'
 have X11:=bp5 (Bx.since X7.out u4_) A m c i' n at' er'
 have X12:=bf5 (Bx.since X8.out u4_) (b':=w.heap.size+1) (by omega) A m c i' n at' er'
 have S13:=sp5 (Since.trans S9.out u4_) (b:=w.heap.size+1) (by omega) A m c i' n at' er'
 have F14:=lH (fr_put5 (Fr.refl (Lo (w.heap.size+3)) w3) (b:=w.heap.size+1) (by first | exact .inl (show _<_ by omega) | exact .inr (by omega)) (.slice A m c) (.int .i64 i') (.int .i64 n) (.int .i64 at') (.int .i64 er'))
 have X15:=lH (bxfar8 X10.out (b':=w.heap.size+1+1) (by omega) (.int .i64 ki) (.string nm) (.bool bo) (.slice D d1 d2) (.int .i64 sz) (.bool ou) (.slice V v1 v2) (.int .i64 ak))
 have X16:=lH (bxfar8 X11.out (b':=w.heap.size+1+1) (by omega) (.int .i64 ki) (.string nm) (.bool bo) (.slice D d1 d2) (.int .i64 sz) (.bool ou) (.slice V v1 v2) (.int .i64 ak))
 have X17:=lH (bxput8 X12.out (.int .i64 ki) (.string nm) (.bool bo) (.slice D d1 d2) (.int .i64 sz) (.bool ou) (.slice V v1 v2) (.int .i64 ak))
 have S18:=lH (since_put8 S13.out (b:=w.heap.size+1+1) (by omega) (.int .i64 ki) (.string nm) (.bool bo) (.slice D d1 d2) (.int .i64 sz) (.bool ou) (.slice V v1 v2) (.int .i64 ak))
 have F19:=lH (fr_put8 F14.out (b:=w.heap.size+1+1) (by first | exact .inl (show _<_ by omega) | exact .inr (by omega)) (.int .i64 ki) (.string nm) (.bool bo) (.slice D d1 d2) (.int .i64 sz) (.bool ou) (.slice V v1 v2) (.int .i64 ak))
 refine bodyPost_ret (v:=.tuple #[.agg #[.slice A m c,.int .i64 i',.int .i64 n,.int .i64 at',.int .i64 er'],.agg #[.int .i64 ki,.string nm,.bool bo,.slice D d1 d2,.int .i64 sz,.bool ou,.slice V v1 v2,.int .i64 ak]]) ?_ rfl ?_
 · simp[results,Tryz.results76,go_sem,ca0,ca1,ca2,ca3,ca4,cz0,cz1,cz2,cz3,cz4,cz5,cz6,cz7]
 · exact got_move HG.out hzz F19.out S18.out
theorem item_1 (A:Option Addr) (m c:Nat) (n:Int) (ts:List Tv) (k0:Nat) (w:World) (H:Toks w (.slice A m c) ts) (hl:ts.length≤10000) (hk0:k0≤ts.length) (hw:NumT ts) (n0:¬ L (hereW ts k0) = [105,110,116]) (hy:L (hereW ts k0) = [98,111,111,108]) :
 Calls Tryz.prog 76 #[.agg #[.slice A m c,.int .i64 (k0:Int),.int .i64 n,.int .i64 0,.int .i64 0]] w (Got (VI w) ZI A m c n ts (item n (ts.drop k0)) w):=by
 have HR:=lH (fun W (kk:Since w W)=>here_ok A m c n ts k0 W (H.since kk))
 have q0:isW [105,110,116] (ts.drop k0)=false:=by rw[isW_here (by decide)]; rw[hy]; decide
 have q1:isW [98,111,111,108] (ts.drop k0)=true:=by rw[isW_here (by decide)]; rw[hy]; decide
 have q2:isW [118,97,114] (ts.drop k0)=false:=by rw[isW_here (by decide)]; rw[hy]; decide
 have q3:isW [97,114,114,97,121] (ts.drop k0)=false:=by rw[isW_here (by decide)]; rw[hy]; decide
 have q4:isW [99,111,110,115,116,114,97,105,110,116] (ts.drop k0)=false:=by rw[isW_here (by decide)]; rw[hy]; decide
 have q5:isW [115,111,108,118,101] (ts.drop k0)=false:=by rw[isW_here (by decide)]; rw[hy]; decide
 have hF:item n (ts.drop k0)=par n (ts.drop k0):=by simp only[item,alt,q0,q1,q2,q3,q4,q5,if_true,if_false,Bool.false_eq_true]
 rw[hF]
 have FN:=lH (fun W (kk:Since w W)=>par_ok A m c n ts k0 W (H.since kk) hl hk0 hw)
 obtain⟨hx,hhx⟩:∃ hx,hx=hereW ts k0:=⟨_,rfl⟩
 rw[← hhx] at HR n0 hy
 have z0:(hx.toList == ([105,110,116]:List UInt8))=false:=by rw[ByteArray.toList_eq,beq_eq_false_iff_ne]; exact n0
 have z1:(hx.toList == ([98,111,111,108]:List UInt8))=true:=by rw[ByteArray.toList_eq,beq_iff_eq]; exact hy
 clear H hl hk0 hw hhx q0 q1 q2 q3 q4 q5 n0 hy
 have X1:=lH (bx_new (Since.refl w) #[.slice A m c,.int .i64 (k0:Int),.int .i64 n,.int .i64 0,.int .i64 0] 127 (g:=w.heap.size) (by simp))
 have S2:=lH (Since.trans (Since.refl w) (sA _ (.cells #[.slice A m c,.int .i64 (k0:Int),.int .i64 n,.int .i64 0,.int .i64 0] 127)))
 have a5_:=sal S2.out (.cells #[.slice none 0 0,.int .i64 0,.int .i64 0,.int .i64 0,.int .i64 0] 127)
 have X3:=lH (Bx.since X1.out a5_)
 have X4:=lH (bx_new S2.out #[.slice none 0 0,.int .i64 0,.int .i64 0,.int .i64 0,.int .i64 0] 127 (g:=w.heap.size+1) (by simp))
 have S5:=lH (Since.trans S2.out a5_)
 have a6_:=sal S5.out (.cells #[.int .i64 0,.string ⟨#[]⟩,.bool false,.slice none 0 0,.int .i64 0,.bool false,.slice none 0 0,.int .i64 0] 28)
 have X6:=lH (Bx.since X3.out a6_)
 have X7:=lH (Bx.since X4.out a6_)
 have X8:=lH (bx_new S5.out #[.int .i64 0,.string ⟨#[]⟩,.bool false,.slice none 0 0,.int .i64 0,.bool false,.slice none 0 0,.int .i64 0] 28 (g:=w.heap.size+1+1) (by simp))
 have S9:=lH (Since.trans S5.out a6_)
 obtain⟨_,_,_,_,_⟩:=bx5 X6.out
 obtain⟨_,_,_,_,_⟩:=bx5' X6.out
 go_enter Tryz.func76,Tryz.ntmps76
 go_wp2_with fail
 (with_reducible refine (HR.out _ S9.out).mono ?_)
 rintro e1 w1 ⟨rfl,h1⟩
 have z_w1:=h1.size; try simp at z_w1
 obtain⟨_,_,_,_,_⟩:=bx5 (Bx.since X6.out h1)
 obtain⟨_,_,_,_,_⟩:=bx5' (Bx.since X6.out h1)
 have hzz:w.heap.size+3≤w1.heap.size:=by omega
 go_wp2_with fail
 (with_reducible refine (FN.out _ (Since.trans S9.out h1)).mono ?_)
 intro e3 w3 hg
 obtain⟨i',at',er',ki,nm,bo,D,d1,d2,sz,ou,V,v1,v2,ak,rfl,hg,h3⟩:=got_form hg
 have HG:=lH hg
 clear hg
 have z_w3:=h3.size; try simp at z_w3
 have u7_:=h1.trans h3
 obtain⟨ca0,ca1,ca2,ca3,ca4⟩:=bx5 (Bx.since X7.out u7_)
 obtain⟨_,_,_,_,_⟩:=bx5' (Bx.since X7.out u7_)
 obtain⟨cz0,cz1,cz2,cz3,cz4,cz5,cz6,cz7⟩:=bx8 (Bx.since X8.out u7_)
 obtain⟨_,_,_,_,_,_,_,_⟩:=bx8' (Bx.since X8.out u7_)
 go_wp2
 have u8_:=h1.trans h3
 have X10:=bf5 (Bx.since X6.out u8_) (b':=w.heap.size+1) (by omega) A m c i' n at' er'
 have X11:=bp5 (Bx.since X7.out u8_) A m c i' n at' er'
 have X12:=bf5 (Bx.since X8.out u8_) (b':=w.heap.size+1) (by omega) A m c i' n at' er'
 have S13:=sp5 (Since.trans S9.out u8_) (b:=w.heap.size+1) (by omega) A m c i' n at' er'
 have F14:=lH (fr_put5 (Fr.refl (Lo (w.heap.size+3)) w3) (b:=w.heap.size+1) (by first | exact .inl (show _<_ by omega) | exact .inr (by omega)) (.slice A m c) (.int .i64 i') (.int .i64 n) (.int .i64 at') (.int .i64 er'))
 have X15:=lH (bxfar8 X10.out (b':=w.heap.size+1+1) (by omega) (.int .i64 ki) (.string nm) (.bool bo) (.slice D d1 d2) (.int .i64 sz) (.bool ou) (.slice V v1 v2) (.int .i64 ak))
 have X16:=lH (bxfar8 X11.out (b':=w.heap.size+1+1) (by omega) (.int .i64 ki) (.string nm) (.bool bo) (.slice D d1 d2) (.int .i64 sz) (.bool ou) (.slice V v1 v2) (.int .i64 ak))
 have X17:=lH (bxput8 X12.out (.int .i64 ki) (.string nm) (.bool bo) (.slice D d1 d2) (.int .i64 sz) (.bool ou) (.slice V v1 v2) (.int .i64 ak))
 have S18:=lH (since_put8 S13.out (b:=w.heap.size+1+1) (by omega) (.int .i64 ki) (.string nm) (.bool bo) (.slice D d1 d2) (.int .i64 sz) (.bool ou) (.slice V v1 v2) (.int .i64 ak))
 have F19:=lH (fr_put8 F14.out (b:=w.heap.size+1+1) (by first | exact .inl (show _<_ by omega) | exact .inr (by omega)) (.int .i64 ki) (.string nm) (.bool bo) (.slice D d1 d2) (.int .i64 sz) (.bool ou) (.slice V v1 v2) (.int .i64 ak))
 refine bodyPost_ret (v:=.tuple #[.agg #[.slice A m c,.int .i64 i',.int .i64 n,.int .i64 at',.int .i64 er'],.agg #[.int .i64 ki,.string nm,.bool bo,.slice D d1 d2,.int .i64 sz,.bool ou,.slice V v1 v2,.int .i64 ak]]) ?_ rfl ?_
 · simp[results,Tryz.results76,go_sem,ca0,ca1,ca2,ca3,ca4,cz0,cz1,cz2,cz3,cz4,cz5,cz6,cz7]
 · exact got_move HG.out hzz F19.out S18.out
theorem item_2 (A:Option Addr) (m c:Nat) (n:Int) (ts:List Tv) (k0:Nat) (w:World) (H:Toks w (.slice A m c) ts) (hl:ts.length≤10000) (hk0:k0≤ts.length) (hw:NumT ts) (n0:¬ L (hereW ts k0) = [105,110,116]) (n1:¬ L (hereW ts k0) = [98,111,111,108]) (hy:L (hereW ts k0) = [118,97,114]) :
 Calls Tryz.prog 76 #[.agg #[.slice A m c,.int .i64 (k0:Int),.int .i64 n,.int .i64 0,.int .i64 0]] w (Got (VI w) ZI A m c n ts (item n (ts.drop k0)) w):=by
 have HR:=lH (fun W (kk:Since w W)=>here_ok A m c n ts k0 W (H.since kk))
 have q0:isW [105,110,116] (ts.drop k0)=false:=by rw[isW_here (by decide)]; rw[hy]; decide
 have q1:isW [98,111,111,108] (ts.drop k0)=false:=by rw[isW_here (by decide)]; rw[hy]; decide
 have q2:isW [118,97,114] (ts.drop k0)=true:=by rw[isW_here (by decide)]; rw[hy]; decide
 have q3:isW [97,114,114,97,121] (ts.drop k0)=false:=by rw[isW_here (by decide)]; rw[hy]; decide
 have q4:isW [99,111,110,115,116,114,97,105,110,116] (ts.drop k0)=false:=by rw[isW_here (by decide)]; rw[hy]; decide
 have q5:isW [115,111,108,118,101] (ts.drop k0)=false:=by rw[isW_here (by decide)]; rw[hy]; decide
 have hlt:k0<ts.length:=by
  apply Decidable.byContradiction; intro hn
  rw[drop_end (by omega)] at q2; cases q2
 have NX:=lH (fun W=>next_ok A m c n k0 W (by omega))
 obtain⟨kn,hkn⟩:∃ kn,kn=k0+1:=⟨_,rfl⟩
 rw[← hkn] at NX
 have hkn2:kn≤ts.length:=by omega
 have hF:item n (ts.drop k0)=variable_ n (ts.drop kn):=by simp only[item,alt,q0,q1,q2,q3,q4,q5,if_true,if_false,Bool.false_eq_true,List.tail_drop,hkn]
 rw[hF]
 have FN:=lH (fun W (kk:Since w W)=>variable_ok A m c n ts kn W (H.since kk) hl hkn2)
 obtain⟨hx,hhx⟩:∃ hx,hx=hereW ts k0:=⟨_,rfl⟩
 rw[← hhx] at HR n0 n1 hy
 have z0:(hx.toList == ([105,110,116]:List UInt8))=false:=by rw[ByteArray.toList_eq,beq_eq_false_iff_ne]; exact n0
 have z1:(hx.toList == ([98,111,111,108]:List UInt8))=false:=by rw[ByteArray.toList_eq,beq_eq_false_iff_ne]; exact n1
 have z2:(hx.toList == ([118,97,114]:List UInt8))=true:=by rw[ByteArray.toList_eq,beq_iff_eq]; exact hy
 clear H hl hk0 hw hhx q0 q1 q2 q3 q4 q5 n0 n1 hy hlt hkn hkn2
 have X1:=lH (bx_new (Since.refl w) #[.slice A m c,.int .i64 (k0:Int),.int .i64 n,.int .i64 0,.int .i64 0] 127 (g:=w.heap.size) (by simp))
 have S2:=lH (Since.trans (Since.refl w) (sA _ (.cells #[.slice A m c,.int .i64 (k0:Int),.int .i64 n,.int .i64 0,.int .i64 0] 127)))
 have a9_:=sal S2.out (.cells #[.slice none 0 0,.int .i64 0,.int .i64 0,.int .i64 0,.int .i64 0] 127)
 have X3:=lH (Bx.since X1.out a9_)
 have X4:=lH (bx_new S2.out #[.slice none 0 0,.int .i64 0,.int .i64 0,.int .i64 0,.int .i64 0] 127 (g:=w.heap.size+1) (by simp))
 have S5:=lH (Since.trans S2.out a9_)
 have a10_:=sal S5.out (.cells #[.int .i64 0,.string ⟨#[]⟩,.bool false,.slice none 0 0,.int .i64 0,.bool false,.slice none 0 0,.int .i64 0] 28)
 have X6:=lH (Bx.since X3.out a10_)
 have X7:=lH (Bx.since X4.out a10_)
 have X8:=lH (bx_new S5.out #[.int .i64 0,.string ⟨#[]⟩,.bool false,.slice none 0 0,.int .i64 0,.bool false,.slice none 0 0,.int .i64 0] 28 (g:=w.heap.size+1+1) (by simp))
 have S9:=lH (Since.trans S5.out a10_)
 obtain⟨_,_,_,_,_⟩:=bx5 X6.out
 obtain⟨_,_,_,_,_⟩:=bx5' X6.out
 go_enter Tryz.func76,Tryz.ntmps76
 go_wp2_with fail
 (with_reducible refine (HR.out _ S9.out).mono ?_)
 rintro e1 w1 ⟨rfl,h1⟩
 have z_w1:=h1.size; try simp at z_w1
 obtain⟨_,_,_,_,_⟩:=bx5 (Bx.since X6.out h1)
 obtain⟨_,_,_,_,_⟩:=bx5' (Bx.since X6.out h1)
 go_wp2_with fail
 (with_reducible refine (NX.out _).mono ?_)
 rintro e2 w2 ⟨rfl,h2⟩
 have z_w2:=h2.size; try simp at z_w2
 have hzz:w.heap.size+3≤w2.heap.size:=by omega
 go_wp2_with fail
 (with_reducible refine (FN.out _ (Since.trans (Since.trans S9.out h1) h2)).mono ?_)
 intro e3 w3 hg
 obtain⟨i',at',er',ki,nm,bo,D,d1,d2,sz,ou,V,v1,v2,ak,rfl,hg,h3⟩:=got_form hg
 have HG:=lH hg
 clear hg
 have z_w3:=h3.size; try simp at z_w3
 have u11_:=h1.trans (h2.trans h3)
 obtain⟨ca0,ca1,ca2,ca3,ca4⟩:=bx5 (Bx.since X7.out u11_)
 obtain⟨_,_,_,_,_⟩:=bx5' (Bx.since X7.out u11_)
 obtain⟨cz0,cz1,cz2,cz3,cz4,cz5,cz6,cz7⟩:=bx8 (Bx.since X8.out u11_)
 obtain⟨_,_,_,_,_,_,_,_⟩:=bx8' (Bx.since X8.out u11_)
 go_wp2
 have u12_:=h1.trans (h2.trans h3)
 have X10:=bf5 (Bx.since X6.out u12_) (b':=w.heap.size+1) (by omega) A m c i' n at' er'
 have X11:=bp5 (Bx.since X7.out u12_) A m c i' n at' er'
 have X12:=bf5 (Bx.since X8.out u12_) (b':=w.heap.size+1) (by omega) A m c i' n at' er'
 have S13:=sp5 (Since.trans S9.out u12_) (b:=w.heap.size+1) (by omega) A m c i' n at' er'
 have F14:=lH (fr_put5 (Fr.refl (Lo (w.heap.size+3)) w3) (b:=w.heap.size+1) (by first | exact .inl (show _<_ by omega) | exact .inr (by omega)) (.slice A m c) (.int .i64 i') (.int .i64 n) (.int .i64 at') (.int .i64 er'))
 have X15:=lH (bxfar8 X10.out (b':=w.heap.size+1+1) (by omega) (.int .i64 ki) (.string nm) (.bool bo) (.slice D d1 d2) (.int .i64 sz) (.bool ou) (.slice V v1 v2) (.int .i64 ak))
 have X16:=lH (bxfar8 X11.out (b':=w.heap.size+1+1) (by omega) (.int .i64 ki) (.string nm) (.bool bo) (.slice D d1 d2) (.int .i64 sz) (.bool ou) (.slice V v1 v2) (.int .i64 ak))
 have X17:=lH (bxput8 X12.out (.int .i64 ki) (.string nm) (.bool bo) (.slice D d1 d2) (.int .i64 sz) (.bool ou) (.slice V v1 v2) (.int .i64 ak))
 have S18:=lH (since_put8 S13.out (b:=w.heap.size+1+1) (by omega) (.int .i64 ki) (.string nm) (.bool bo) (.slice D d1 d2) (.int .i64 sz) (.bool ou) (.slice V v1 v2) (.int .i64 ak))
 have F19:=lH (fr_put8 F14.out (b:=w.heap.size+1+1) (by first | exact .inl (show _<_ by omega) | exact .inr (by omega)) (.int .i64 ki) (.string nm) (.bool bo) (.slice D d1 d2) (.int .i64 sz) (.bool ou) (.slice V v1 v2) (.int .i64 ak))
 refine bodyPost_ret (v:=.tuple #[.agg #[.slice A m c,.int .i64 i',.int .i64 n,.int .i64 at',.int .i64 er'],.agg #[.int .i64 ki,.string nm,.bool bo,.slice D d1 d2,.int .i64 sz,.bool ou,.slice V v1 v2,.int .i64 ak]]) ?_ rfl ?_
 · simp[results,Tryz.results76,go_sem,ca0,ca1,ca2,ca3,ca4,cz0,cz1,cz2,cz3,cz4,cz5,cz6,cz7]
 · exact got_move HG.out hzz F19.out S18.out
theorem item_3 (A:Option Addr) (m c:Nat) (n:Int) (ts:List Tv) (k0:Nat) (w:World) (H:Toks w (.slice A m c) ts) (hl:ts.length≤10000) (hk0:k0≤ts.length) (hw:NumT ts) (n0:¬ L (hereW ts k0) = [105,110,116]) (n1:¬ L (hereW ts k0) = [98,111,111,108]) (n2:¬ L (hereW ts k0) = [118,97,114]) (hy:L (hereW ts k0) = [97,114,114,97,121]) :
 Calls Tryz.prog 76 #[.agg #[.slice A m c,.int .i64 (k0:Int),.int .i64 n,.int .i64 0,.int .i64 0]] w (Got (VI w) ZI A m c n ts (item n (ts.drop k0)) w):=by
 have HR:=lH (fun W (kk:Since w W)=>here_ok A m c n ts k0 W (H.since kk))
 have q0:isW [105,110,116] (ts.drop k0)=false:=by rw[isW_here (by decide)]; rw[hy]; decide
 have q1:isW [98,111,111,108] (ts.drop k0)=false:=by rw[isW_here (by decide)]; rw[hy]; decide
 have q2:isW [118,97,114] (ts.drop k0)=false:=by rw[isW_here (by decide)]; rw[hy]; decide
 have q3:isW [97,114,114,97,121] (ts.drop k0)=true:=by rw[isW_here (by decide)]; rw[hy]; decide
 have q4:isW [99,111,110,115,116,114,97,105,110,116] (ts.drop k0)=false:=by rw[isW_here (by decide)]; rw[hy]; decide
 have q5:isW [115,111,108,118,101] (ts.drop k0)=false:=by rw[isW_here (by decide)]; rw[hy]; decide
 have hlt:k0<ts.length:=by
  apply Decidable.byContradiction; intro hn
  rw[drop_end (by omega)] at q3; cases q3
 have NX:=lH (fun W=>next_ok A m c n k0 W (by omega))
 obtain⟨kn,hkn⟩:∃ kn,kn=k0+1:=⟨_,rfl⟩
 rw[← hkn] at NX
 have hkn2:kn≤ts.length:=by omega
 have hF:item n (ts.drop k0)=array n (ts.drop kn):=by simp only[item,alt,q0,q1,q2,q3,q4,q5,if_true,if_false,Bool.false_eq_true,List.tail_drop,hkn]
 rw[hF]
 have FN:=lH (fun W (kk:Since w W)=>array_ok A m c n ts kn W (H.since kk) hl hkn2)
 obtain⟨hx,hhx⟩:∃ hx,hx=hereW ts k0:=⟨_,rfl⟩
 rw[← hhx] at HR n0 n1 n2 hy
 have z0:(hx.toList == ([105,110,116]:List UInt8))=false:=by rw[ByteArray.toList_eq,beq_eq_false_iff_ne]; exact n0
 have z1:(hx.toList == ([98,111,111,108]:List UInt8))=false:=by rw[ByteArray.toList_eq,beq_eq_false_iff_ne]; exact n1
 have z2:(hx.toList == ([118,97,114]:List UInt8))=false:=by rw[ByteArray.toList_eq,beq_eq_false_iff_ne]; exact n2
 have z3:(hx.toList == ([97,114,114,97,121]:List UInt8))=true:=by rw[ByteArray.toList_eq,beq_iff_eq]; exact hy
 clear H hl hk0 hw hhx q0 q1 q2 q3 q4 q5 n0 n1 n2 hy hlt hkn hkn2
 have X1:=lH (bx_new (Since.refl w) #[.slice A m c,.int .i64 (k0:Int),.int .i64 n,.int .i64 0,.int .i64 0] 127 (g:=w.heap.size) (by simp))
 have S2:=lH (Since.trans (Since.refl w) (sA _ (.cells #[.slice A m c,.int .i64 (k0:Int),.int .i64 n,.int .i64 0,.int .i64 0] 127)))
 have a13_:=sal S2.out (.cells #[.slice none 0 0,.int .i64 0,.int .i64 0,.int .i64 0,.int .i64 0] 127)
 have X3:=lH (Bx.since X1.out a13_)
 have X4:=lH (bx_new S2.out #[.slice none 0 0,.int .i64 0,.int .i64 0,.int .i64 0,.int .i64 0] 127 (g:=w.heap.size+1) (by simp))
 have S5:=lH (Since.trans S2.out a13_)
 have a14_:=sal S5.out (.cells #[.int .i64 0,.string ⟨#[]⟩,.bool false,.slice none 0 0,.int .i64 0,.bool false,.slice none 0 0,.int .i64 0] 28)
 have X6:=lH (Bx.since X3.out a14_)
 have X7:=lH (Bx.since X4.out a14_)
 have X8:=lH (bx_new S5.out #[.int .i64 0,.string ⟨#[]⟩,.bool false,.slice none 0 0,.int .i64 0,.bool false,.slice none 0 0,.int .i64 0] 28 (g:=w.heap.size+1+1) (by simp))
 have S9:=lH (Since.trans S5.out a14_)
 obtain⟨_,_,_,_,_⟩:=bx5 X6.out
 obtain⟨_,_,_,_,_⟩:=bx5' X6.out
 go_enter Tryz.func76,Tryz.ntmps76
 go_wp2_with fail
 (with_reducible refine (HR.out _ S9.out).mono ?_)
 rintro e1 w1 ⟨rfl,h1⟩
 have z_w1:=h1.size; try simp at z_w1
 obtain⟨_,_,_,_,_⟩:=bx5 (Bx.since X6.out h1)
 obtain⟨_,_,_,_,_⟩:=bx5' (Bx.since X6.out h1)
 go_wp2_with fail
 (with_reducible refine (NX.out _).mono ?_)
 rintro e2 w2 ⟨rfl,h2⟩
 have z_w2:=h2.size; try simp at z_w2
 have hzz:w.heap.size+3≤w2.heap.size:=by omega
 go_wp2_with fail
 (with_reducible refine (FN.out _ (Since.trans (Since.trans S9.out h1) h2)).mono ?_)
 intro e3 w3 hg
 obtain⟨i',at',er',ki,nm,bo,D,d1,d2,sz,ou,V,v1,v2,ak,rfl,hg,h3⟩:=got_form hg
 have HG:=lH hg
 clear hg
 have z_w3:=h3.size; try simp at z_w3
 have u15_:=h1.trans (h2.trans h3)
 obtain⟨ca0,ca1,ca2,ca3,ca4⟩:=bx5 (Bx.since X7.out u15_)
 obtain⟨_,_,_,_,_⟩:=bx5' (Bx.since X7.out u15_)
 obtain⟨cz0,cz1,cz2,cz3,cz4,cz5,cz6,cz7⟩:=bx8 (Bx.since X8.out u15_)
 obtain⟨_,_,_,_,_,_,_,_⟩:=bx8' (Bx.since X8.out u15_)
 go_wp2
 have u16_:=h1.trans (h2.trans h3)
 have X10:=bf5 (Bx.since X6.out u16_) (b':=w.heap.size+1) (by omega) A m c i' n at' er'
 have X11:=bp5 (Bx.since X7.out u16_) A m c i' n at' er'
 have X12:=bf5 (Bx.since X8.out u16_) (b':=w.heap.size+1) (by omega) A m c i' n at' er'
 have S13:=sp5 (Since.trans S9.out u16_) (b:=w.heap.size+1) (by omega) A m c i' n at' er'
 have F14:=lH (fr_put5 (Fr.refl (Lo (w.heap.size+3)) w3) (b:=w.heap.size+1) (by first | exact .inl (show _<_ by omega) | exact .inr (by omega)) (.slice A m c) (.int .i64 i') (.int .i64 n) (.int .i64 at') (.int .i64 er'))
 have X15:=lH (bxfar8 X10.out (b':=w.heap.size+1+1) (by omega) (.int .i64 ki) (.string nm) (.bool bo) (.slice D d1 d2) (.int .i64 sz) (.bool ou) (.slice V v1 v2) (.int .i64 ak))
 have X16:=lH (bxfar8 X11.out (b':=w.heap.size+1+1) (by omega) (.int .i64 ki) (.string nm) (.bool bo) (.slice D d1 d2) (.int .i64 sz) (.bool ou) (.slice V v1 v2) (.int .i64 ak))
 have X17:=lH (bxput8 X12.out (.int .i64 ki) (.string nm) (.bool bo) (.slice D d1 d2) (.int .i64 sz) (.bool ou) (.slice V v1 v2) (.int .i64 ak))
 have S18:=lH (since_put8 S13.out (b:=w.heap.size+1+1) (by omega) (.int .i64 ki) (.string nm) (.bool bo) (.slice D d1 d2) (.int .i64 sz) (.bool ou) (.slice V v1 v2) (.int .i64 ak))
 have F19:=lH (fr_put8 F14.out (b:=w.heap.size+1+1) (by first | exact .inl (show _<_ by omega) | exact .inr (by omega)) (.int .i64 ki) (.string nm) (.bool bo) (.slice D d1 d2) (.int .i64 sz) (.bool ou) (.slice V v1 v2) (.int .i64 ak))
 refine bodyPost_ret (v:=.tuple #[.agg #[.slice A m c,.int .i64 i',.int .i64 n,.int .i64 at',.int .i64 er'],.agg #[.int .i64 ki,.string nm,.bool bo,.slice D d1 d2,.int .i64 sz,.bool ou,.slice V v1 v2,.int .i64 ak]]) ?_ rfl ?_
 · simp[results,Tryz.results76,go_sem,ca0,ca1,ca2,ca3,ca4,cz0,cz1,cz2,cz3,cz4,cz5,cz6,cz7]
 · exact got_move HG.out hzz F19.out S18.out
theorem item_4 (A:Option Addr) (m c:Nat) (n:Int) (ts:List Tv) (k0:Nat) (w:World) (H:Toks w (.slice A m c) ts) (hl:ts.length≤10000) (hk0:k0≤ts.length) (hw:NumT ts) (n0:¬ L (hereW ts k0) = [105,110,116]) (n1:¬ L (hereW ts k0) = [98,111,111,108]) (n2:¬ L (hereW ts k0) = [118,97,114]) (n3:¬ L (hereW ts k0) = [97,114,114,97,121]) (hy:L (hereW ts k0) = [99,111,110,115,116,114,97,105,110,116]) :
 Calls Tryz.prog 76 #[.agg #[.slice A m c,.int .i64 (k0:Int),.int .i64 n,.int .i64 0,.int .i64 0]] w (Got (VI w) ZI A m c n ts (item n (ts.drop k0)) w):=by
 have HR:=lH (fun W (kk:Since w W)=>here_ok A m c n ts k0 W (H.since kk))
 have q0:isW [105,110,116] (ts.drop k0)=false:=by rw[isW_here (by decide)]; rw[hy]; decide
 have q1:isW [98,111,111,108] (ts.drop k0)=false:=by rw[isW_here (by decide)]; rw[hy]; decide
 have q2:isW [118,97,114] (ts.drop k0)=false:=by rw[isW_here (by decide)]; rw[hy]; decide
 have q3:isW [97,114,114,97,121] (ts.drop k0)=false:=by rw[isW_here (by decide)]; rw[hy]; decide
 have q4:isW [99,111,110,115,116,114,97,105,110,116] (ts.drop k0)=true:=by rw[isW_here (by decide)]; rw[hy]; decide
 have q5:isW [115,111,108,118,101] (ts.drop k0)=false:=by rw[isW_here (by decide)]; rw[hy]; decide
 have hlt:k0<ts.length:=by
  apply Decidable.byContradiction; intro hn
  rw[drop_end (by omega)] at q4; cases q4
 have NX:=lH (fun W=>next_ok A m c n k0 W (by omega))
 obtain⟨kn,hkn⟩:∃ kn,kn=k0+1:=⟨_,rfl⟩
 rw[← hkn] at NX
 have hkn2:kn≤ts.length:=by omega
 obtain⟨r,hr⟩:∃ r,r=item n (ts.drop k0):=⟨_,rfl⟩
 rw[← hr]
 have t0:Th ts n r constr (kn:Int) 0 0:=.inl ⟨kn,hr.trans (by simp only[item,alt,q0,q1,q2,q3,q4,q5,if_true,if_false,Bool.false_eq_true,List.tail_drop,hkn]),hkn2,rfl,rfl,rfl⟩
 unfold constr at t0
 have NM:=lH (fun W (kk:Since w W) (q:ByteArray→P It) (i a e:Int) (h:Th ts n r (bnd name q) i a e)=>name_u A m c n ts W (H.since kk) hl h)
 have K0:=lH (fun W (kk:Since w W) (q:Unit→P It) (i a e:Int) (h:Th ts n r (bnd (take [40]) q) i a e)=>take_u A m c n ts ⟨#[40]⟩ [40] rfl (by decide) W (H.since kk) hl h)
 have AR:=lH (fun W (kk:Since w W) (q:List Xp→P It) (i a:Int) (h:Th ts n r (bnd args q) i a 0)=>args_u A m c n ts W (H.since kk) hl h)
 clear hr
 obtain⟨hx,hhx⟩:∃ hx,hx=hereW ts k0:=⟨_,rfl⟩
 rw[← hhx] at HR n0 n1 n2 n3 hy
 have z0:(hx.toList == ([105,110,116]:List UInt8))=false:=by rw[ByteArray.toList_eq,beq_eq_false_iff_ne]; exact n0
 have z1:(hx.toList == ([98,111,111,108]:List UInt8))=false:=by rw[ByteArray.toList_eq,beq_eq_false_iff_ne]; exact n1
 have z2:(hx.toList == ([118,97,114]:List UInt8))=false:=by rw[ByteArray.toList_eq,beq_eq_false_iff_ne]; exact n2
 have z3:(hx.toList == ([97,114,114,97,121]:List UInt8))=false:=by rw[ByteArray.toList_eq,beq_eq_false_iff_ne]; exact n3
 have z4:(hx.toList == ([99,111,110,115,116,114,97,105,110,116]:List UInt8))=true:=by rw[ByteArray.toList_eq,beq_iff_eq]; exact hy
 clear H hl hk0 hw hhx q0 q1 q2 q3 q4 q5 n0 n1 n2 n3 hy hlt hkn hkn2
 have X1:=lH (bx_new (Since.refl w) #[.slice A m c,.int .i64 (k0:Int),.int .i64 n,.int .i64 0,.int .i64 0] 127 (g:=w.heap.size) (by simp))
 have S2:=lH (Since.trans (Since.refl w) (sA _ (.cells #[.slice A m c,.int .i64 (k0:Int),.int .i64 n,.int .i64 0,.int .i64 0] 127)))
 have a17_:=sal S2.out (.cells #[.slice none 0 0,.int .i64 0,.int .i64 0,.int .i64 0,.int .i64 0] 127)
 have X3:=lH (Bx.since X1.out a17_)
 have X4:=lH (bx_new S2.out #[.slice none 0 0,.int .i64 0,.int .i64 0,.int .i64 0,.int .i64 0] 127 (g:=w.heap.size+1) (by simp))
 have S5:=lH (Since.trans S2.out a17_)
 have a18_:=sal S5.out (.cells #[.int .i64 0,.string ⟨#[]⟩,.bool false,.slice none 0 0,.int .i64 0,.bool false,.slice none 0 0,.int .i64 0] 28)
 have X6:=lH (Bx.since X3.out a18_)
 have X7:=lH (Bx.since X4.out a18_)
 have X8:=lH (bx_new S5.out #[.int .i64 0,.string ⟨#[]⟩,.bool false,.slice none 0 0,.int .i64 0,.bool false,.slice none 0 0,.int .i64 0] 28 (g:=w.heap.size+1+1) (by simp))
 have S9:=lH (Since.trans S5.out a18_)
 obtain⟨_,_,_,_,_⟩:=bx5 X6.out
 obtain⟨_,_,_,_,_⟩:=bx5' X6.out
 go_enter Tryz.func76,Tryz.ntmps76
 go_wp2_with fail
 (with_reducible refine (HR.out _ S9.out).mono ?_)
 rintro e1 w1 ⟨rfl,h1⟩
 have z_w1:=h1.size; try simp at z_w1
 obtain⟨_,_,_,_,_⟩:=bx5 (Bx.since X6.out h1)
 obtain⟨_,_,_,_,_⟩:=bx5' (Bx.since X6.out h1)
 go_wp2_with fail
 (with_reducible refine (NX.out _).mono ?_)
 rintro e2 w2 ⟨rfl,h2⟩
 have z_w2:=h2.size; try simp at z_w2
 go_wp2_with fail
 (with_reducible refine (NM.out _ (Since.trans (Since.trans S9.out h1) h2) _ _ _ _ t0).mono ?_)
 rintro e3 w3 ⟨i3,a3,r3,word,rfl,t3,h3⟩
 have z_w3:=h3.size; try simp at z_w3
 have a19_:=sal (Since.trans (Since.trans (Since.trans S9.out h1) h2) h3) (.cells #[.slice A m c,.int .i64 i3,.int .i64 n,.int .i64 a3,.int .i64 r3] 127)
 have X10:=lH (Bx.since (Bx.since (Bx.since (Bx.since X6.out h1) h2) h3) a19_)
 have X11:=lH (Bx.since (Bx.since (Bx.since (Bx.since X7.out h1) h2) h3) a19_)
 have X12:=lH (Bx.since (Bx.since (Bx.since (Bx.since X8.out h1) h2) h3) a19_)
 have X13:=lH (bx_new (Since.trans (Since.trans (Since.trans S9.out h1) h2) h3) #[.slice A m c,.int .i64 i3,.int .i64 n,.int .i64 a3,.int .i64 r3] 127 (g:=w3.heap.size) (by simp))
 have S14:=lH (Since.trans (Since.trans (Since.trans (Since.trans S9.out h1) h2) h3) a19_)
 obtain⟨_,_,_,_,_⟩:=bx5 X13.out
 obtain⟨_,_,_,_,_⟩:=bx5' X13.out
 go_wp2_with fail
 (with_reducible refine (K0.out _ S14.out _ _ _ _ t3).mono ?_)
 rintro e4 w4 ⟨i4,a4,r4,rfl,t4,h4⟩
 have z_w4:=h4.size; try simp at z_w4
 by_cases he:r4=0
 · subst he
   obtain⟨_,_,_,_,_⟩:=bx5 (Bx.since X13.out h4)
   obtain⟨_,_,_,_,_⟩:=bx5' (Bx.since X13.out h4)
   have X15:=bf5 (Bx.since X10.out h4) (b':=w3.heap.size) (by omega) A m c i4 n a4 0
   have X16:=bf5 (Bx.since X11.out h4) (b':=w3.heap.size) (by omega) A m c i4 n a4 0
   have X17:=bf5 (Bx.since X12.out h4) (b':=w3.heap.size) (by omega) A m c i4 n a4 0
   have X18:=bp5 (Bx.since X13.out h4) A m c i4 n a4 0
   have S19:=sp5 (Since.trans S14.out h4) (b:=w3.heap.size) (by omega) A m c i4 n a4 0
   obtain⟨_,_,_,_,_⟩:=bx5 X18.out
   obtain⟨_,_,_,_,_⟩:=bx5' X18.out
   go_wp2_with fail
   (with_reducible refine (AR.out _ S19.out _ _ _ t4).mono ?_)
   rintro e5 w5 ⟨i5,a5,r5,l,C,m5,c5,rfl,t5,d1,d2,h5⟩
   have z_w5:=h5.size; try simp at z_w5
   have a20_:=sal (Since.trans S19.out h5) (.cells #[.slice A m c,.int .i64 i5,.int .i64 n,.int .i64 a5,.int .i64 r5] 127)
   have X20:=lH (Bx.since (Bx.since X15.out h5) a20_)
   have X21:=lH (Bx.since (Bx.since X16.out h5) a20_)
   have X22:=lH (Bx.since (Bx.since X17.out h5) a20_)
   have X23:=lH (Bx.since (Bx.since X18.out h5) a20_)
   have X24:=lH (bx_new (Since.trans S19.out h5) #[.slice A m c,.int .i64 i5,.int .i64 n,.int .i64 a5,.int .i64 r5] 127 (g:=w5.heap.size) (by simp))
   have S25:=lH (Since.trans (Since.trans S19.out h5) a20_)
   have F26:=lH (Fr.then_ (Fr.refl (Lo (w.heap.size+3)) w5) a20_)
   obtain⟨ca0,ca1,ca2,ca3,ca4⟩:=bx5 X21.out
   obtain⟨_,_,_,_,_⟩:=bx5' X21.out
   obtain⟨cz0,cz1,cz2,cz3,cz4,cz5,cz6,cz7⟩:=bx8 X22.out
   obtain⟨_,_,_,_,_,_,_,_⟩:=bx8' X22.out
   obtain⟨_,_,_,_,_⟩:=bx5 X24.out
   obtain⟨_,_,_,_,_⟩:=bx5' X24.out
   go_wp2
   have X27:=bf5 X20.out (b':=w.heap.size+1) (by omega) A m c i5 n a5 r5
   have X28:=bp5 X21.out A m c i5 n a5 r5
   have X29:=bf5 X22.out (b':=w.heap.size+1) (by omega) A m c i5 n a5 r5
   have X30:=bf5 X23.out (b':=w.heap.size+1) (by omega) A m c i5 n a5 r5
   have X31:=bf5 X24.out (b':=w.heap.size+1) (by omega) A m c i5 n a5 r5
   have S32:=sp5 S25.out (b:=w.heap.size+1) (by omega) A m c i5 n a5 r5
   have F33:=lH (fr_put5 F26.out (b:=w.heap.size+1) (by first | exact .inl (show _<_ by omega) | exact .inr (by omega)) (.slice A m c) (.int .i64 i5) (.int .i64 n) (.int .i64 a5) (.int .i64 r5))
   have X34:=lH (bxfar8 X27.out (b':=w.heap.size+1+1) (by omega) (.int .i64 5) (.string word) (.bool false) (.slice none 0 0) (.int .i64 0) (.bool false) (.slice C m5 c5) (.int .i64 0))
   have X35:=lH (bxfar8 X28.out (b':=w.heap.size+1+1) (by omega) (.int .i64 5) (.string word) (.bool false) (.slice none 0 0) (.int .i64 0) (.bool false) (.slice C m5 c5) (.int .i64 0))
   have X36:=lH (bxput8 X29.out (.int .i64 5) (.string word) (.bool false) (.slice none 0 0) (.int .i64 0) (.bool false) (.slice C m5 c5) (.int .i64 0))
   have X37:=lH (bxfar8 X30.out (b':=w.heap.size+1+1) (by omega) (.int .i64 5) (.string word) (.bool false) (.slice none 0 0) (.int .i64 0) (.bool false) (.slice C m5 c5) (.int .i64 0))
   have X38:=lH (bxfar8 X31.out (b':=w.heap.size+1+1) (by omega) (.int .i64 5) (.string word) (.bool false) (.slice none 0 0) (.int .i64 0) (.bool false) (.slice C m5 c5) (.int .i64 0))
   have S39:=lH (since_put8 S32.out (b:=w.heap.size+1+1) (by omega) (.int .i64 5) (.string word) (.bool false) (.slice none 0 0) (.int .i64 0) (.bool false) (.slice C m5 c5) (.int .i64 0))
   have F40:=lH (fr_put8 F33.out (b:=w.heap.size+1+1) (by first | exact .inl (show _<_ by omega) | exact .inr (by omega)) (.int .i64 5) (.string word) (.bool false) (.slice none 0 0) (.int .i64 0) (.bool false) (.slice C m5 c5) (.int .i64 0))
   refine bodyPost_ret (v:=.tuple #[.agg #[.slice A m c,.int .i64 i5,.int .i64 n,.int .i64 a5,.int .i64 r5],.agg #[.int .i64 5,.string word,.bool false,.slice none 0 0,.int .i64 0,.bool false,.slice C m5 c5,.int .i64 0]]) ?_ rfl ?_
   · simp[results,Tryz.results76,go_sem,ca0,ca1,ca2,ca3,ca4,cz0,cz1,cz2,cz3,cz4,cz5,cz6,cz7]
   · exact Th.got t5 (V:=VI w) (fun _=>⟨_,_,rfl,Sl.nil _ _ _,faro_nil _,(fr_slX (F:=noG) F40.out (fun b hb=>by have:b<w.heap.size+3:=hb; show b<_; simp; omega) d1 d2).mono (fun x u=>QX.less fun b hb => .inl (by have:b<w.heap.size:=hb; show b<_; simp; omega)),d2.mono (fun b hb=>by have:b<w.heap.size:=hb; show b<_; simp; omega)⟩) ⟨_,_,_,_,_,_,_,_,_,_,_,_,rfl⟩ S39.out
 · have ne:(r4 != 0)=true:=by rw[bne_iff_ne]; exact he
   have HB0:=lH (t4.bad he)
   clear he
   obtain⟨_,_,_,_,_⟩:=bx5 (Bx.since X13.out h4)
   obtain⟨_,_,_,_,_⟩:=bx5' (Bx.since X13.out h4)
   have X15:=bf5 (Bx.since X10.out h4) (b':=w3.heap.size) (by omega) A m c i4 n a4 r4
   have X16:=bf5 (Bx.since X11.out h4) (b':=w3.heap.size) (by omega) A m c i4 n a4 r4
   have X17:=bf5 (Bx.since X12.out h4) (b':=w3.heap.size) (by omega) A m c i4 n a4 r4
   have X18:=bp5 (Bx.since X13.out h4) A m c i4 n a4 r4
   have S19:=sp5 (Since.trans S14.out h4) (b:=w3.heap.size) (by omega) A m c i4 n a4 r4
   obtain⟨_,_,_,_,_⟩:=bx5 X18.out
   obtain⟨_,_,_,_,_⟩:=bx5' X18.out
   obtain⟨ca0,ca1,ca2,ca3,ca4⟩:=bx5 X16.out
   obtain⟨_,_,_,_,_⟩:=bx5' X16.out
   obtain⟨cz0,cz1,cz2,cz3,cz4,cz5,cz6,cz7⟩:=bx8 X17.out
   obtain⟨_,_,_,_,_,_,_,_⟩:=bx8' X17.out
   go_wp2
   have X20:=bf5 X15.out (b':=w.heap.size+1) (by omega) A m c i4 n a4 r4
   have X21:=bp5 X16.out A m c i4 n a4 r4
   have X22:=bf5 X17.out (b':=w.heap.size+1) (by omega) A m c i4 n a4 r4
   have X23:=bf5 X18.out (b':=w.heap.size+1) (by omega) A m c i4 n a4 r4
   have S24:=sp5 S19.out (b:=w.heap.size+1) (by omega) A m c i4 n a4 r4
   have X25:=lH (bxfar8 X20.out (b':=w.heap.size+1+1) (by omega) (.int .i64 0) (.string ⟨#[]⟩) (.bool false) (.slice none 0 0) (.int .i64 0) (.bool false) (.slice none 0 0) (.int .i64 0))
   have X26:=lH (bxfar8 X21.out (b':=w.heap.size+1+1) (by omega) (.int .i64 0) (.string ⟨#[]⟩) (.bool false) (.slice none 0 0) (.int .i64 0) (.bool false) (.slice none 0 0) (.int .i64 0))
   have X27:=lH (bxput8 X22.out (.int .i64 0) (.string ⟨#[]⟩) (.bool false) (.slice none 0 0) (.int .i64 0) (.bool false) (.slice none 0 0) (.int .i64 0))
   have X28:=lH (bxfar8 X23.out (b':=w.heap.size+1+1) (by omega) (.int .i64 0) (.string ⟨#[]⟩) (.bool false) (.slice none 0 0) (.int .i64 0) (.bool false) (.slice none 0 0) (.int .i64 0))
   have S29:=lH (since_put8 S24.out (b:=w.heap.size+1+1) (by omega) (.int .i64 0) (.string ⟨#[]⟩) (.bool false) (.slice none 0 0) (.int .i64 0) (.bool false) (.slice none 0 0) (.int .i64 0))
   refine bodyPost_ret (v:=.tuple #[.agg #[.slice A m c,.int .i64 i4,.int .i64 n,.int .i64 a4,.int .i64 r4],.agg #[.int .i64 0,.string ⟨#[]⟩,.bool false,.slice none 0 0,.int .i64 0,.bool false,.slice none 0 0,.int .i64 0]]) ?_ rfl ?_
   · simp[results,Tryz.results76,go_sem,ca0,ca1,ca2,ca3,ca4,cz0,cz1,cz2,cz3,cz4,cz5,cz6,cz7]
   · obtain⟨p,x0,hbad,hec⟩:=HB0.out
     exact .inr ⟨p,x0,_,_,_,_,hbad,hec,⟨_,_,_,_,_,_,_,_,_,_,_,_,rfl⟩,rfl,S29.out⟩
theorem item_5 (A:Option Addr) (m c:Nat) (n:Int) (ts:List Tv) (k0:Nat) (w:World) (H:Toks w (.slice A m c) ts) (hl:ts.length≤10000) (hk0:k0≤ts.length) (hw:NumT ts) (n0:¬ L (hereW ts k0) = [105,110,116]) (n1:¬ L (hereW ts k0) = [98,111,111,108]) (n2:¬ L (hereW ts k0) = [118,97,114]) (n3:¬ L (hereW ts k0) = [97,114,114,97,121]) (n4:¬ L (hereW ts k0) = [99,111,110,115,116,114,97,105,110,116]) (hy:L (hereW ts k0) = [115,111,108,118,101]) :
 Calls Tryz.prog 76 #[.agg #[.slice A m c,.int .i64 (k0:Int),.int .i64 n,.int .i64 0,.int .i64 0]] w (Got (VI w) ZI A m c n ts (item n (ts.drop k0)) w):=by
 have HR:=lH (fun W (kk:Since w W)=>here_ok A m c n ts k0 W (H.since kk))
 have q0:isW [105,110,116] (ts.drop k0)=false:=by rw[isW_here (by decide)]; rw[hy]; decide
 have q1:isW [98,111,111,108] (ts.drop k0)=false:=by rw[isW_here (by decide)]; rw[hy]; decide
 have q2:isW [118,97,114] (ts.drop k0)=false:=by rw[isW_here (by decide)]; rw[hy]; decide
 have q3:isW [97,114,114,97,121] (ts.drop k0)=false:=by rw[isW_here (by decide)]; rw[hy]; decide
 have q4:isW [99,111,110,115,116,114,97,105,110,116] (ts.drop k0)=false:=by rw[isW_here (by decide)]; rw[hy]; decide
 have q5:isW [115,111,108,118,101] (ts.drop k0)=true:=by rw[isW_here (by decide)]; rw[hy]; decide
 have hlt:k0<ts.length:=by
  apply Decidable.byContradiction; intro hn
  rw[drop_end (by omega)] at q5; cases q5
 have NX:=lH (fun W=>next_ok A m c n k0 W (by omega))
 obtain⟨kn,hkn⟩:∃ kn,kn=k0+1:=⟨_,rfl⟩
 rw[← hkn] at NX
 have hkn2:kn≤ts.length:=by omega
 have hF:item n (ts.drop k0)=solve n (ts.drop kn):=by simp only[item,alt,q0,q1,q2,q3,q4,q5,if_true,if_false,Bool.false_eq_true,List.tail_drop,hkn]
 rw[hF]
 have FN:=lH (fun W (kk:Since w W)=>solve_ok A m c n ts kn W (H.since kk) hl hkn2)
 obtain⟨hx,hhx⟩:∃ hx,hx=hereW ts k0:=⟨_,rfl⟩
 rw[← hhx] at HR n0 n1 n2 n3 n4 hy
 have z0:(hx.toList == ([105,110,116]:List UInt8))=false:=by rw[ByteArray.toList_eq,beq_eq_false_iff_ne]; exact n0
 have z1:(hx.toList == ([98,111,111,108]:List UInt8))=false:=by rw[ByteArray.toList_eq,beq_eq_false_iff_ne]; exact n1
 have z2:(hx.toList == ([118,97,114]:List UInt8))=false:=by rw[ByteArray.toList_eq,beq_eq_false_iff_ne]; exact n2
 have z3:(hx.toList == ([97,114,114,97,121]:List UInt8))=false:=by rw[ByteArray.toList_eq,beq_eq_false_iff_ne]; exact n3
 have z4:(hx.toList == ([99,111,110,115,116,114,97,105,110,116]:List UInt8))=false:=by rw[ByteArray.toList_eq,beq_eq_false_iff_ne]; exact n4
 have z5:(hx.toList == ([115,111,108,118,101]:List UInt8))=true:=by rw[ByteArray.toList_eq,beq_iff_eq]; exact hy
 clear H hl hk0 hw hhx q0 q1 q2 q3 q4 q5 n0 n1 n2 n3 n4 hy hlt hkn hkn2
 have X1:=lH (bx_new (Since.refl w) #[.slice A m c,.int .i64 (k0:Int),.int .i64 n,.int .i64 0,.int .i64 0] 127 (g:=w.heap.size) (by simp))
 have S2:=lH (Since.trans (Since.refl w) (sA _ (.cells #[.slice A m c,.int .i64 (k0:Int),.int .i64 n,.int .i64 0,.int .i64 0] 127)))
 have a21_:=sal S2.out (.cells #[.slice none 0 0,.int .i64 0,.int .i64 0,.int .i64 0,.int .i64 0] 127)
 have X3:=lH (Bx.since X1.out a21_)
 have X4:=lH (bx_new S2.out #[.slice none 0 0,.int .i64 0,.int .i64 0,.int .i64 0,.int .i64 0] 127 (g:=w.heap.size+1) (by simp))
 have S5:=lH (Since.trans S2.out a21_)
 have a22_:=sal S5.out (.cells #[.int .i64 0,.string ⟨#[]⟩,.bool false,.slice none 0 0,.int .i64 0,.bool false,.slice none 0 0,.int .i64 0] 28)
 have X6:=lH (Bx.since X3.out a22_)
 have X7:=lH (Bx.since X4.out a22_)
 have X8:=lH (bx_new S5.out #[.int .i64 0,.string ⟨#[]⟩,.bool false,.slice none 0 0,.int .i64 0,.bool false,.slice none 0 0,.int .i64 0] 28 (g:=w.heap.size+1+1) (by simp))
 have S9:=lH (Since.trans S5.out a22_)
 obtain⟨_,_,_,_,_⟩:=bx5 X6.out
 obtain⟨_,_,_,_,_⟩:=bx5' X6.out
 go_enter Tryz.func76,Tryz.ntmps76
 go_wp2_with fail
 (with_reducible refine (HR.out _ S9.out).mono ?_)
 rintro e1 w1 ⟨rfl,h1⟩
 have z_w1:=h1.size; try simp at z_w1
 obtain⟨_,_,_,_,_⟩:=bx5 (Bx.since X6.out h1)
 obtain⟨_,_,_,_,_⟩:=bx5' (Bx.since X6.out h1)
 go_wp2_with fail
 (with_reducible refine (NX.out _).mono ?_)
 rintro e2 w2 ⟨rfl,h2⟩
 have z_w2:=h2.size; try simp at z_w2
 have hzz:w.heap.size+3≤w2.heap.size:=by omega
 go_wp2_with fail
 (with_reducible refine (FN.out _ (Since.trans (Since.trans S9.out h1) h2)).mono ?_)
 intro e3 w3 hg
 obtain⟨i',at',er',ki,nm,bo,D,d1,d2,sz,ou,V,v1,v2,ak,rfl,hg,h3⟩:=got_form hg
 have HG:=lH hg
 clear hg
 have z_w3:=h3.size; try simp at z_w3
 have u23_:=h1.trans (h2.trans h3)
 obtain⟨ca0,ca1,ca2,ca3,ca4⟩:=bx5 (Bx.since X7.out u23_)
 obtain⟨_,_,_,_,_⟩:=bx5' (Bx.since X7.out u23_)
 obtain⟨cz0,cz1,cz2,cz3,cz4,cz5,cz6,cz7⟩:=bx8 (Bx.since X8.out u23_)
 obtain⟨_,_,_,_,_,_,_,_⟩:=bx8' (Bx.since X8.out u23_)
 go_wp2
 have u24_:=h1.trans (h2.trans h3)
 have X10:=bf5 (Bx.since X6.out u24_) (b':=w.heap.size+1) (by omega) A m c i' n at' er'
 have X11:=bp5 (Bx.since X7.out u24_) A m c i' n at' er'
 have X12:=bf5 (Bx.since X8.out u24_) (b':=w.heap.size+1) (by omega) A m c i' n at' er'
 have S13:=sp5 (Since.trans S9.out u24_) (b:=w.heap.size+1) (by omega) A m c i' n at' er'
 have F14:=lH (fr_put5 (Fr.refl (Lo (w.heap.size+3)) w3) (b:=w.heap.size+1) (by first | exact .inl (show _<_ by omega) | exact .inr (by omega)) (.slice A m c) (.int .i64 i') (.int .i64 n) (.int .i64 at') (.int .i64 er'))
 have X15:=lH (bxfar8 X10.out (b':=w.heap.size+1+1) (by omega) (.int .i64 ki) (.string nm) (.bool bo) (.slice D d1 d2) (.int .i64 sz) (.bool ou) (.slice V v1 v2) (.int .i64 ak))
 have X16:=lH (bxfar8 X11.out (b':=w.heap.size+1+1) (by omega) (.int .i64 ki) (.string nm) (.bool bo) (.slice D d1 d2) (.int .i64 sz) (.bool ou) (.slice V v1 v2) (.int .i64 ak))
 have X17:=lH (bxput8 X12.out (.int .i64 ki) (.string nm) (.bool bo) (.slice D d1 d2) (.int .i64 sz) (.bool ou) (.slice V v1 v2) (.int .i64 ak))
 have S18:=lH (since_put8 S13.out (b:=w.heap.size+1+1) (by omega) (.int .i64 ki) (.string nm) (.bool bo) (.slice D d1 d2) (.int .i64 sz) (.bool ou) (.slice V v1 v2) (.int .i64 ak))
 have F19:=lH (fr_put8 F14.out (b:=w.heap.size+1+1) (by first | exact .inl (show _<_ by omega) | exact .inr (by omega)) (.int .i64 ki) (.string nm) (.bool bo) (.slice D d1 d2) (.int .i64 sz) (.bool ou) (.slice V v1 v2) (.int .i64 ak))
 refine bodyPost_ret (v:=.tuple #[.agg #[.slice A m c,.int .i64 i',.int .i64 n,.int .i64 at',.int .i64 er'],.agg #[.int .i64 ki,.string nm,.bool bo,.slice D d1 d2,.int .i64 sz,.bool ou,.slice V v1 v2,.int .i64 ak]]) ?_ rfl ?_
 · simp[results,Tryz.results76,go_sem,ca0,ca1,ca2,ca3,ca4,cz0,cz1,cz2,cz3,cz4,cz5,cz6,cz7]
 · exact got_move HG.out hzz F19.out S18.out
theorem item_6 (A:Option Addr) (m c:Nat) (n:Int) (ts:List Tv) (k0:Nat) (w:World) (H:Toks w (.slice A m c) ts) (hl:ts.length≤10000) (hk0:k0≤ts.length) (hw:NumT ts) (n0:¬ L (hereW ts k0) = [105,110,116]) (n1:¬ L (hereW ts k0) = [98,111,111,108]) (n2:¬ L (hereW ts k0) = [118,97,114]) (n3:¬ L (hereW ts k0) = [97,114,114,97,121]) (n4:¬ L (hereW ts k0) = [99,111,110,115,116,114,97,105,110,116]) (n5:¬ L (hereW ts k0) = [115,111,108,118,101]) :
 Calls Tryz.prog 76 #[.agg #[.slice A m c,.int .i64 (k0:Int),.int .i64 n,.int .i64 0,.int .i64 0]] w (Got (VI w) ZI A m c n ts (item n (ts.drop k0)) w):=by
 have HR:=lH (fun W (kk:Since w W)=>here_ok A m c n ts k0 W (H.since kk))
 have q0:isW [105,110,116] (ts.drop k0)=false:=by rw[isW_here (by decide)]; rw[beq_eq_false_iff_ne]; exact n0
 have q1:isW [98,111,111,108] (ts.drop k0)=false:=by rw[isW_here (by decide)]; rw[beq_eq_false_iff_ne]; exact n1
 have q2:isW [118,97,114] (ts.drop k0)=false:=by rw[isW_here (by decide)]; rw[beq_eq_false_iff_ne]; exact n2
 have q3:isW [97,114,114,97,121] (ts.drop k0)=false:=by rw[isW_here (by decide)]; rw[beq_eq_false_iff_ne]; exact n3
 have q4:isW [99,111,110,115,116,114,97,105,110,116] (ts.drop k0)=false:=by rw[isW_here (by decide)]; rw[beq_eq_false_iff_ne]; exact n4
 have q5:isW [115,111,108,118,101] (ts.drop k0)=false:=by rw[isW_here (by decide)]; rw[beq_eq_false_iff_ne]; exact n5
 have hF:item n (ts.drop k0) = .bad (place n (ts.drop k0)) (Cd ts k0):=by
  have h9:=par_none (n:=n) q1 q0
  simp only[item,alt,q0,q1,q2,q3,q4,q5,if_true,if_false,Bool.false_eq_true]
  exact h9
 rw[hF]
 have WR:=lH (fun W (kk:Since w W)=>wrong_ok A m c n ts k0 W (H.since kk))
 obtain⟨hx,hhx⟩:∃ hx,hx=hereW ts k0:=⟨_,rfl⟩
 rw[← hhx] at HR n0 n1 n2 n3 n4 n5
 have z0:(hx.toList == ([105,110,116]:List UInt8))=false:=by rw[ByteArray.toList_eq,beq_eq_false_iff_ne]; exact n0
 have z1:(hx.toList == ([98,111,111,108]:List UInt8))=false:=by rw[ByteArray.toList_eq,beq_eq_false_iff_ne]; exact n1
 have z2:(hx.toList == ([118,97,114]:List UInt8))=false:=by rw[ByteArray.toList_eq,beq_eq_false_iff_ne]; exact n2
 have z3:(hx.toList == ([97,114,114,97,121]:List UInt8))=false:=by rw[ByteArray.toList_eq,beq_eq_false_iff_ne]; exact n3
 have z4:(hx.toList == ([99,111,110,115,116,114,97,105,110,116]:List UInt8))=false:=by rw[ByteArray.toList_eq,beq_eq_false_iff_ne]; exact n4
 have z5:(hx.toList == ([115,111,108,118,101]:List UInt8))=false:=by rw[ByteArray.toList_eq,beq_eq_false_iff_ne]; exact n5
 clear H hl hk0 hw hhx q0 q1 q2 q3 q4 q5 n0 n1 n2 n3 n4 n5
 have X1:=lH (bx_new (Since.refl w) #[.slice A m c,.int .i64 (k0:Int),.int .i64 n,.int .i64 0,.int .i64 0] 127 (g:=w.heap.size) (by simp))
 have S2:=lH (Since.trans (Since.refl w) (sA _ (.cells #[.slice A m c,.int .i64 (k0:Int),.int .i64 n,.int .i64 0,.int .i64 0] 127)))
 have a25_:=sal S2.out (.cells #[.slice none 0 0,.int .i64 0,.int .i64 0,.int .i64 0,.int .i64 0] 127)
 have X3:=lH (Bx.since X1.out a25_)
 have X4:=lH (bx_new S2.out #[.slice none 0 0,.int .i64 0,.int .i64 0,.int .i64 0,.int .i64 0] 127 (g:=w.heap.size+1) (by simp))
 have S5:=lH (Since.trans S2.out a25_)
 have a26_:=sal S5.out (.cells #[.int .i64 0,.string ⟨#[]⟩,.bool false,.slice none 0 0,.int .i64 0,.bool false,.slice none 0 0,.int .i64 0] 28)
 have X6:=lH (Bx.since X3.out a26_)
 have X7:=lH (Bx.since X4.out a26_)
 have X8:=lH (bx_new S5.out #[.int .i64 0,.string ⟨#[]⟩,.bool false,.slice none 0 0,.int .i64 0,.bool false,.slice none 0 0,.int .i64 0] 28 (g:=w.heap.size+1+1) (by simp))
 have S9:=lH (Since.trans S5.out a26_)
 obtain⟨_,_,_,_,_⟩:=bx5 X6.out
 obtain⟨_,_,_,_,_⟩:=bx5' X6.out
 go_enter Tryz.func76,Tryz.ntmps76
 go_wp2_with fail
 (with_reducible refine (HR.out _ S9.out).mono ?_)
 rintro e1 w1 ⟨rfl,h1⟩
 have z_w1:=h1.size; try simp at z_w1
 obtain⟨_,_,_,_,_⟩:=bx5 (Bx.since X6.out h1)
 obtain⟨_,_,_,_,_⟩:=bx5' (Bx.since X6.out h1)
 go_wp2_with fail
 (with_reducible refine (WR.out _ (Since.trans S9.out h1)).mono ?_)
 rintro e2 w2 ⟨iw,aw,ew,rfl,hec,h2⟩
 have z_w2:=h2.size; try simp at z_w2
 have u27_:=h1.trans h2
 obtain⟨ca0,ca1,ca2,ca3,ca4⟩:=bx5 (Bx.since X7.out u27_)
 obtain⟨_,_,_,_,_⟩:=bx5' (Bx.since X7.out u27_)
 obtain⟨cz0,cz1,cz2,cz3,cz4,cz5,cz6,cz7⟩:=bx8 (Bx.since X8.out u27_)
 obtain⟨_,_,_,_,_,_,_,_⟩:=bx8' (Bx.since X8.out u27_)
 go_wp2
 have u28_:=h1.trans h2
 have X10:=bf5 (Bx.since X6.out u28_) (b':=w.heap.size+1) (by omega) A m c iw n aw ew
 have X11:=bp5 (Bx.since X7.out u28_) A m c iw n aw ew
 have X12:=bf5 (Bx.since X8.out u28_) (b':=w.heap.size+1) (by omega) A m c iw n aw ew
 have S13:=sp5 (Since.trans S9.out u28_) (b:=w.heap.size+1) (by omega) A m c iw n aw ew
 have X14:=lH (bxfar8 X10.out (b':=w.heap.size+1+1) (by omega) (.int .i64 0) (.string ⟨#[]⟩) (.bool false) (.slice none 0 0) (.int .i64 0) (.bool false) (.slice none 0 0) (.int .i64 0))
 have X15:=lH (bxfar8 X11.out (b':=w.heap.size+1+1) (by omega) (.int .i64 0) (.string ⟨#[]⟩) (.bool false) (.slice none 0 0) (.int .i64 0) (.bool false) (.slice none 0 0) (.int .i64 0))
 have X16:=lH (bxput8 X12.out (.int .i64 0) (.string ⟨#[]⟩) (.bool false) (.slice none 0 0) (.int .i64 0) (.bool false) (.slice none 0 0) (.int .i64 0))
 have S17:=lH (since_put8 S13.out (b:=w.heap.size+1+1) (by omega) (.int .i64 0) (.string ⟨#[]⟩) (.bool false) (.slice none 0 0) (.int .i64 0) (.bool false) (.slice none 0 0) (.int .i64 0))
 refine bodyPost_ret (v:=.tuple #[.agg #[.slice A m c,.int .i64 iw,.int .i64 n,.int .i64 aw,.int .i64 ew],.agg #[.int .i64 0,.string ⟨#[]⟩,.bool false,.slice none 0 0,.int .i64 0,.bool false,.slice none 0 0,.int .i64 0]]) ?_ rfl ?_
 · simp[results,Tryz.results76,go_sem,ca0,ca1,ca2,ca3,ca4,cz0,cz1,cz2,cz3,cz4,cz5,cz6,cz7]
 · exact .inr ⟨_,_,_,_,_,_,rfl,hec,⟨_,_,_,_,_,_,_,_,_,_,_,_,rfl⟩,rfl,S17.out⟩
theorem item_ok (A:Option Addr) (m c:Nat) (n:Int) (ts:List Tv) (k0:Nat) (w:World) (H:Toks w (.slice A m c) ts) (hl:ts.length≤10000) (hk0:k0≤ts.length) (hw:NumT ts) :
 Calls Tryz.prog 76 #[.agg #[.slice A m c,.int .i64 (k0:Int),.int .i64 n,.int .i64 0,.int .i64 0]] w (Got (VI w) ZI A m c n ts (item n (ts.drop k0)) w):=by
 by_cases n0:L (hereW ts k0) = [105,110,116]
 · exact item_0 A m c n ts k0 w H hl hk0 hw n0
 by_cases n1:L (hereW ts k0) = [98,111,111,108]
 · exact item_1 A m c n ts k0 w H hl hk0 hw n0 n1
 by_cases n2:L (hereW ts k0) = [118,97,114]
 · exact item_2 A m c n ts k0 w H hl hk0 hw n0 n1 n2
 by_cases n3:L (hereW ts k0) = [97,114,114,97,121]
 · exact item_3 A m c n ts k0 w H hl hk0 hw n0 n1 n2 n3
 by_cases n4:L (hereW ts k0) = [99,111,110,115,116,114,97,105,110,116]
 · exact item_4 A m c n ts k0 w H hl hk0 hw n0 n1 n2 n3 n4
 by_cases n5:L (hereW ts k0) = [115,111,108,118,101]
 · exact item_5 A m c n ts k0 w H hl hk0 hw n0 n1 n2 n3 n4 n5
 exact item_6 A m c n ts k0 w H hl hk0 hw n0 n1 n2 n3 n4 n5
end Go.Proofs.YtjmmcnldfkjebaaGreatDoor.Doc6
