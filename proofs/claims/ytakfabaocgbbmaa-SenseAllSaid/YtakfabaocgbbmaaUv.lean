/- Layer 11 (sense): the law's answers that the document fixes. -/
import Derived.Test.YtakfabaocgbbmaaUu
set_option maxHeartbeats 4000000
set_option maxRecDepth 20000
namespace Go.Proofs.Ytakfabaocgbbmaa.Sn
open Go.RowKit
set_option linter.unusedVariables false
set_option linter.unusedSimpArgs false
open Dig Lx Tk Ti Zs Tr
def linC:Cn:=⟨2,[0,1],[2,-1],3⟩
def linM:Md:=⟨[[(0,3)],[(0,3)]],[linC],1,0⟩
theorem lin1:sumOf linC [2,0]=some 4:=by decide
theorem lin2:holds linC [2,1]=true:=by decide
theorem lin3:holds linC [2,0]=false:=by decide
theorem lin4:allOf linM [2,1]=true:=by decide
theorem lin5:allOf linM [2,4]=false:=by decide
theorem lin6:betterOf linM [1,0] [2,0]=true:=by decide
theorem lin7:betterOf linM [2,0] [2,1]=false:=by decide
theorem linSz:SzM linM:=by
 refine⟨fun d hd => ?_,fun c hc => ?_⟩
 · simp only[linM,List.mem_cons,List.not_mem_nil,or_false] at hd
   rcases hd with rfl | rfl <;> decide
 · simp only[linM,List.mem_cons,List.not_mem_nil,or_false] at hc
   subst hc; exact⟨by decide,by decide⟩
theorem linBd:BdM linM:=fun d hd=>by
 simp only[linM,List.mem_cons,List.not_mem_nil,or_false] at hd
 rcases hd with rfl | rfl <;> (intro r hr; simp only[List.mem_cons,List.not_mem_nil,or_false] at hr; subst hr; simp only[fits]; decide)
theorem bd2 (a b:Int) (h:fits a∧fits b):BdI [a,b]:=fun n hn=>by
 simp only[List.mem_cons,List.not_mem_nil,or_false] at hn
 rcases hn with rfl | rfl
 · exact h.1
 · exact h.2
theorem sum_lit {W:World} {cv av:Value} (h:ConAt W cv linC) (ha:Sl 1 QI W av [2,0]):Calls Try.prog 27 #[cv,av] W (fun e w'=>e = .returned (.tuple #[.int .i64 4,.bool true])∧Since W w'):=by
 have:=ssum_any cv av linC [2,0] W h ha (by decide) (by decide)
 rw[lin1] at this
 exact this
theorem holds_lit0 {W:World} {cv av:Value} (h:ConAt W cv linC) (ha:Sl 1 QI W av [2,1]):Calls Try.prog 29 #[cv,av] W (RetT true W):=by
 have:=sholds_any cv av linC [2,1] W h ha (by decide) (by decide)
 rw[lin2] at this
 exact this
theorem holds_lit1 {W:World} {cv av:Value} (h:ConAt W cv linC) (ha:Sl 1 QI W av [2,0]):Calls Try.prog 29 #[cv,av] W (RetT false W):=by
 have:=sholds_any cv av linC [2,0] W h ha (by decide) (by decide)
 rw[lin3] at this
 exact this
theorem all_lit2 {W:World} {mv av:Value} (h:ModAt W mv linM) (ha:Sl 1 QI W av [2,1]):Calls Try.prog 32 #[mv,av] W (RetT true W):=by
 have:=sall_any mv av linM [2,1] W h ha linSz linBd (bd2 _ _ (by simp only[fits]; decide)) (by decide)
 rw[lin4] at this
 exact this
theorem all_lit3 {W:World} {mv av:Value} (h:ModAt W mv linM) (ha:Sl 1 QI W av [2,4]):Calls Try.prog 32 #[mv,av] W (RetT false W):=by
 have:=sall_any mv av linM [2,4] W h ha linSz linBd (bd2 _ _ (by simp only[fits]; decide)) (by decide)
 rw[lin5] at this
 exact this
theorem better_lit4 {W:World} {mv av bv:Value} (h:ModAt W mv linM) (ha:Sl 1 QI W av [1,0]) (hb:Sl 1 QI W bv [2,0]):Calls Try.prog 34 #[mv,av,bv] W (RetT true W):=by
 have:=sbetter_any mv av bv linM [1,0] [2,0] W h ha hb linSz (by decide) (by decide)
 rw[lin6] at this
 exact this
theorem better_lit5 {W:World} {mv av bv:Value} (h:ModAt W mv linM) (ha:Sl 1 QI W av [2,0]) (hb:Sl 1 QI W bv [2,1]):Calls Try.prog 34 #[mv,av,bv] W (RetT false W):=by
 have:=sbetter_any mv av bv linM [2,0] [2,1] W h ha hb linSz (by decide) (by decide)
 rw[lin7] at this
 exact this
theorem alive_any (w:World):Calls Try.prog 25 #[] w (RetT true w):=by
 obtain⟨w3,hw3⟩:∃ w3,w3=(((w.alloc (.cells #[.int .i64 0,.int .i64 1] 3)).alloc (.cells #[.int .i64 2,.int .i64 (-1)] 2)).alloc (.cells #[.int .i64 2,.slice (some ⟨w.heap.size,0,none⟩) 2 2,.slice (some ⟨w.heap.size+1,0,none⟩) 2 2,.int .i64 3] 25)):=⟨_,rfl⟩
 have S3:=Lib.hid (show Since w w3 by rw[hw3]; exact (((Since.refl w).alloc _).alloc _).alloc _)
 have Z3:=Lib.hid (show w3.heap.size=w.heap.size+1+1+1 by rw[hw3]; simp)
 have I1:=Lib.hid (show Sl 1 QI w3 (.slice (some ⟨w.heap.size,0,none⟩) 2 2) [0,1] by rw[hw3]; exact sl_ints ((Bx.fresh w #[.int .i64 0,.int .i64 1] 3).since (((Since.refl _).alloc _).alloc _)) rfl rfl)
 have I2:=Lib.hid (show Sl 1 QI w3 (.slice (some ⟨w.heap.size+1,0,none⟩) 2 2) [2,-1] by
  rw[hw3]
  exact sl_ints (Bx.new (W:=(w.alloc (.cells #[.int .i64 0,.int .i64 1] 3))) (cs:=#[.int .i64 2,.int .i64 (-1)] ) (t:=2) ((Since.refl _).alloc _) (by simp)) rfl rfl)
 have BC:=Lib.hid (show Bx w3 (w.heap.size+1+1) #[.int .i64 2,.slice (some ⟨w.heap.size,0,none⟩) 2 2,.slice (some ⟨w.heap.size+1,0,none⟩) 2 2,.int .i64 3] 25 by rw[hw3]; exact Bx.new (Since.refl _) (by simp))
 have C3:=Lib.hid (show ConAt w3 (.agg #[.int .i64 2,.slice (some ⟨w.heap.size,0,none⟩) 2 2,.slice (some ⟨w.heap.size+1,0,none⟩) 2 2,.int .i64 3]) linC from⟨_,_,rfl,I1.out,I2.out⟩)
 go_enter Try.func25,Try.ntmps25
 go_wp2_with fail
 rw[← hw3]
 have A1:=Lib.hid (sl_ints (Bx.new (W:=w3) (cs:=#[.int .i64 2,.int .i64 0]) (t:=2) (Since.refl _) Z3.out) (l:=[2,0]) rfl (n:=2) rfl)
 refine (sum_lit (C3.out.since (sA _ _)) A1.out).mono ?_
 rintro e w4 ⟨rfl,k4⟩
 have S4:=Lib.hid (((Since.refl w3).alloc _).trans k4)
 clear A1 k4
 clear hw3
 obtain⟨w9,hw9⟩:∃ w9,w9=(((((w4.alloc (.cells #[.int .i64 0,.int .i64 3] 36)).alloc (.cells #[.int .i64 0,.int .i64 3] 36)).alloc (.cells #[.slice (some ⟨w4.heap.size,0,none⟩) 1 1,.slice (some ⟨w4.heap.size+1,0,none⟩) 1 1] 46)).alloc (.cells #[.int .i64 2,.slice (some ⟨w.heap.size,0,none⟩) 2 2,.slice (some ⟨w.heap.size+1,0,none⟩) 2 2,.int .i64 3] 25)).alloc (.cells #[.slice (some ⟨w4.heap.size+1+1,0,none⟩) 2 2,.slice (some ⟨w4.heap.size+1+1+1,0,none⟩) 1 1,.int .i64 1,.int .i64 0] 52)):=⟨_,rfl⟩
 have S9:=Lib.hid (show Since w4 w9 by rw[hw9]; exact ((((((Since.refl w4).alloc _).alloc _).alloc _).alloc _).alloc _))
 have Z9:=Lib.hid (show w9.heap.size=w4.heap.size+1+1+1+1+1 by rw[hw9]; simp)
 have R1:=Lib.hid (show Sl 2 QR w9 (.slice (some ⟨w4.heap.size,0,none⟩) 1 1) [(0,3)] by rw[hw9]; exact sl_dom1 ((Bx.fresh w4 #[.int .i64 0,.int .i64 3] 36).since ((((Since.refl _).alloc _).alloc _).alloc _ |>.alloc _)))
 have R2:=Lib.hid (show Sl 2 QR w9 (.slice (some ⟨w4.heap.size+1,0,none⟩) 1 1) [(0,3)] by rw[hw9]; exact sl_dom1 (Bx.new (W:=(w4.alloc (.cells #[.int .i64 0,.int .i64 3] 36))) (cs:=#[.int .i64 0,.int .i64 3]) (t:=36) ((((Since.refl _).alloc _).alloc _).alloc _) (by simp)))
 have DD:=Lib.hid (show Sl 1 QD w9 (.slice (some ⟨w4.heap.size+1+1,0,none⟩) 2 2) [[(0,3)],[(0,3)]] from sl_doms2 (t:=46) (show Bx w9 (w4.heap.size+1+1) #[.slice (some ⟨w4.heap.size,0,none⟩) 1 1,.slice (some ⟨w4.heap.size+1,0,none⟩) 1 1] 46 by rw[hw9]; exact Bx.new (((Since.refl _).alloc _).alloc _) (by simp)) R1.out R2.out)
 have CC:=Lib.hid (show Sl 4 QC w9 (.slice (some ⟨w4.heap.size+1+1+1,0,none⟩) 1 1) [linC] from sl_con1 (t:=25) (show Bx w9 (w4.heap.size+1+1+1) #[.int .i64 2,.slice (some ⟨w.heap.size,0,none⟩) 2 2,.slice (some ⟨w.heap.size+1,0,none⟩) 2 2,.int .i64 3] 25 by rw[hw9]; exact Bx.new ((Since.refl _).alloc _) (by simp)) (I1.out.since stI (S4.out.trans S9.out)) (I2.out.since stI (S4.out.trans S9.out)))
 have M9:=Lib.hid (show ModAt w9 (.agg #[.slice (some ⟨w4.heap.size+1+1,0,none⟩) 2 2,.slice (some ⟨w4.heap.size+1+1+1,0,none⟩) 1 1,.int .i64 1,.int .i64 0]) linM from⟨_,_,rfl,DD.out,CC.out⟩)
 have C9:=Lib.hid (C3.out.since (S4.out.trans S9.out))
 have BM:=Lib.hid (show Bx w9 (w4.heap.size+1+1+1+1) #[.slice (some ⟨w4.heap.size+1+1,0,none⟩) 2 2,.slice (some ⟨w4.heap.size+1+1+1,0,none⟩) 1 1,.int .i64 1,.int .i64 0] 52 by rw[hw9]; exact Bx.new (Since.refl _) (by simp))
 have B7:=Lib.hid (BC.out.since (S4.out.trans ((((Since.refl w4).alloc (.cells #[.int .i64 0,.int .i64 3] 36)).alloc (.cells #[.int .i64 0,.int .i64 3] 36)).alloc (.cells #[.slice (some ⟨w4.heap.size,0,none⟩) 1 1,.slice (some ⟨w4.heap.size+1,0,none⟩) 1 1] 46))))
 have B9:=Lib.hid (BC.out.since (S4.out.trans S9.out))
 obtain⟨c0,c1,c2,c3⟩:=bx4 B7.out
 have B99:=B9.out
 rw[hw9] at B99
 obtain⟨d0,d1,d2,d3⟩:=bx4 B99
 clear B99
 go_wp2_with fail
 clear c0 c1 c2 c3 d0 d1 d2 d3
 rw[← hw9]
 clear hw9
 have E0:=Lib.hid (Since.refl w9)
 have A00:=Lib.hid (sl_ints (Bx.new (W:=w9) (cs:=#[.int .i64 2,.int .i64 1]) (t:=2) (Since.refl _) Z9.out) (l:=[2,1]) rfl (n:=2) rfl)
 refine (holds_lit0 (C9.out.since (sA _ _)) A00.out).mono ?_
 rintro e v0 ⟨rfl,k0⟩
 have T1:=Lib.hid ((sA _ _).trans k0)
 clear A00 k0
 obtain⟨c0,c1,c2,c3⟩:=bx4 (B9.out.since T1.out)
 obtain⟨m0,m1,m2,m3⟩:=bx4 (BM.out.since T1.out)
 go_wp2_with fail
 clear c0 c1 c2 c3 m0 m1 m2 m3
 have A10:=Lib.hid (sl_ints (Bx.new (W:=v0) (cs:=#[.int .i64 2,.int .i64 0]) (t:=2) (Since.refl _) rfl) (l:=[2,0]) rfl (n:=2) rfl)
 refine (holds_lit1 ((C9.out.since T1.out).since (sA _ _)) A10.out).mono ?_
 rintro e v1 ⟨rfl,k1⟩
 have T2:=Lib.hid (T1.out.trans ((sA _ _).trans k1))
 clear A10 k1
 obtain⟨c0,c1,c2,c3⟩:=bx4 (B9.out.since T2.out)
 obtain⟨m0,m1,m2,m3⟩:=bx4 (BM.out.since T2.out)
 go_wp2_with fail
 clear c0 c1 c2 c3 m0 m1 m2 m3
 have A20:=Lib.hid (sl_ints (Bx.new (W:=v1) (cs:=#[.int .i64 2,.int .i64 1]) (t:=2) (Since.refl _) rfl) (l:=[2,1]) rfl (n:=2) rfl)
 refine (all_lit2 ((M9.out.since T2.out).since (sA _ _)) A20.out).mono ?_
 rintro e v2 ⟨rfl,k2⟩
 have T3:=Lib.hid (T2.out.trans ((sA _ _).trans k2))
 clear A20 k2
 obtain⟨c0,c1,c2,c3⟩:=bx4 (B9.out.since T3.out)
 obtain⟨m0,m1,m2,m3⟩:=bx4 (BM.out.since T3.out)
 go_wp2_with fail
 clear c0 c1 c2 c3 m0 m1 m2 m3
 have A30:=Lib.hid (sl_ints (Bx.new (W:=v2) (cs:=#[.int .i64 2,.int .i64 4]) (t:=2) (Since.refl _) rfl) (l:=[2,4]) rfl (n:=2) rfl)
 refine (all_lit3 ((M9.out.since T3.out).since (sA _ _)) A30.out).mono ?_
 rintro e v3 ⟨rfl,k3⟩
 have T4:=Lib.hid (T3.out.trans ((sA _ _).trans k3))
 clear A30 k3
 obtain⟨c0,c1,c2,c3⟩:=bx4 (B9.out.since T4.out)
 obtain⟨m0,m1,m2,m3⟩:=bx4 (BM.out.since T4.out)
 go_wp2_with fail
 clear c0 c1 c2 c3 m0 m1 m2 m3
 have A40:=Lib.hid (sl_ints (Bx.new (W:=v3) (cs:=#[.int .i64 1,.int .i64 0]) (t:=2) ((Since.refl _).alloc (.cells #[.int .i64 2,.int .i64 0] 2) |> fun x=>x) rfl) (l:=[1,0]) rfl (n:=2) rfl)
 have A41:=Lib.hid (sl_ints (Bx.new (n:=v3.heap.size+1) (W:=(v3.alloc (.cells #[.int .i64 1,.int .i64 0] 2))) (cs:=#[.int .i64 2,.int .i64 0]) (t:=2) (Since.refl _) (by simp)) (l:=[2,0]) rfl (n:=2) rfl)
 refine (better_lit4 ((M9.out.since T4.out).since (((Since.refl _).alloc _).alloc _)) A40.out A41.out).mono ?_
 rintro e v4 ⟨rfl,k4⟩
 have T5:=Lib.hid (T4.out.trans ((((Since.refl _).alloc _).alloc _).trans k4))
 clear A40 A41 k4
 obtain⟨c0,c1,c2,c3⟩:=bx4 (B9.out.since T5.out)
 obtain⟨m0,m1,m2,m3⟩:=bx4 (BM.out.since T5.out)
 go_wp2_with fail
 clear c0 c1 c2 c3 m0 m1 m2 m3
 have A50:=Lib.hid (sl_ints (Bx.new (W:=v4) (cs:=#[.int .i64 2,.int .i64 0]) (t:=2) ((Since.refl _).alloc (.cells #[.int .i64 2,.int .i64 1] 2) |> fun x=>x) rfl) (l:=[2,0]) rfl (n:=2) rfl)
 have A51:=Lib.hid (sl_ints (Bx.new (n:=v4.heap.size+1) (W:=(v4.alloc (.cells #[.int .i64 2,.int .i64 0] 2))) (cs:=#[.int .i64 2,.int .i64 1]) (t:=2) (Since.refl _) (by simp)) (l:=[2,1]) rfl (n:=2) rfl)
 refine (better_lit5 ((M9.out.since T5.out).since (((Since.refl _).alloc _).alloc _)) A50.out A51.out).mono ?_
 rintro e v5 ⟨rfl,k5⟩
 have T6:=Lib.hid (T5.out.trans ((((Since.refl _).alloc _).alloc _).trans k5))
 clear A50 A51 k5
 go_wp2
 go_ret
 exact⟨rfl,S3.out.trans (S4.out.trans (S9.out.trans T6.out))⟩
end Go.Proofs.Ytakfabaocgbbmaa.Sn
