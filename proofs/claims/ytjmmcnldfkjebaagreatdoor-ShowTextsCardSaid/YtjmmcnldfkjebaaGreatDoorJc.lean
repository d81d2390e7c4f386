/- The document's own parser: names, numbers, plain expressions. -/
import Derived.Test.YtjmmcnldfkjebaaGreatDoorJb
set_option maxHeartbeats 2000000
set_option maxRecDepth 20000
namespace Go.Proofs.YtjmmcnldfkjebaaGreatDoor.Doc6
open Go.RowKit
set_option linter.unusedVariables false
set_option linter.unusedSimpArgs false
open Dig Lx Tk Ps Ti
def numB (ts:List Tv) (k:Nat):Bool:=decide (k<ts.length) && decide ((ts.getD k .nil).k=2)
def namB (ts:List Tv) (k:Nat):Bool:=decide (k<ts.length) && nameB (ts.getD k .nil)
theorem number_no (A:Option Addr) (m c:Nat) (n:Int) (i at_ er:Int) (w:World) (he:er≠0) :
 Calls Tryz.prog 137 #[.agg #[.slice A m c,.int .i64 i,.int .i64 n,.int .i64 at_,.int .i64 er]] w fun e w'=>e = .returned (.bool false)∧Since w w':=by
 have ne:(er != 0)=true:=by rw[bne_iff_ne]; exact he
 have eq:(er == 0)=false:=by rw[beq_eq_false_iff_ne]; exact he
 clear he
 go_enter Tryz.func137,Tryz.ntmps137
 go_wp2
 go_ret
 exact⟨rfl,sA _ _⟩
theorem number_end (A:Option Addr) (m c:Nat) (n:Int) (k:Nat) (w:World) (hk:m≤k) :
 Calls Tryz.prog 137 #[.agg #[.slice A m c,.int .i64 (k:Int),.int .i64 n,.int .i64 0,.int .i64 0]] w fun e w'=>e = .returned (.bool false)∧Since w w':=by
 have hz:=cast_nl m k hk
 go_enter Tryz.func137,Tryz.ntmps137
 go_wp2
 go_ret
 exact⟨rfl,sA _ _⟩
theorem number_in (A:Option Addr) (m c:Nat) (n:Int) (ts:List Tv) (k:Nat) (w:World) (H:Toks w (.slice A m c) ts) (hk:k<m) :
 Calls Tryz.prog 137 #[.agg #[.slice A m c,.int .i64 (k:Int),.int .i64 n,.int .i64 0,.int .i64 0]] w fun e w'=>e = .returned (.bool (decide ((ts.getD k .nil).k=2)))∧Since w w':=by
 have hz:=cast_lt m k hk
 obtain⟨bb,oo,rfl,TK0⟩:=tok_at H hk
 obtain⟨t,ht⟩:∃ t,t=ts.getD k .nil:=⟨_,rfl⟩
 rw[← ht] at TK0
 have TK:=lH TK0
 have HTT:=lH ht
 clear TK0 ht H
 obtain⟨t00,t01,t02,t03⟩:=TK.out (w.alloc (.cells #[.slice (some ⟨bb,oo,none⟩) m c,.int .i64 (k:Int),.int .i64 n,.int .i64 0,.int .i64 0] 127)) (sA _ _)
 rw[← HTT.out]
 by_cases h2:t.k=2
 · have z2:(t.k == 2)=true:=by rw[beq_iff_eq]; exact h2
   have HD:=lH (show decide (t.k=2)=true by rw[decide_eq_true_iff]; exact h2)
   rw[HD.out]
   clear h2
   go_enter Tryz.func137,Tryz.ntmps137
   go_wp2
   go_ret
   exact⟨rfl,sA _ _⟩
 · have z2:(t.k == 2)=false:=by rw[beq_eq_false_iff_ne]; exact h2
   have HD:=lH (show decide (t.k=2)=false by rw[decide_eq_false_iff_not]; exact h2)
   rw[HD.out]
   clear h2
   go_enter Tryz.func137,Tryz.ntmps137
   go_wp2
   go_ret
   exact⟨rfl,sA _ _⟩
theorem number_ok (A:Option Addr) (m c:Nat) (n:Int) (ts:List Tv) (k:Nat) (w:World) (H:Toks w (.slice A m c) ts):Calls Tryz.prog 137 #[.agg #[.slice A m c,.int .i64 (k:Int),.int .i64 n,.int .i64 0,.int .i64 0]] w fun e w'=>e = .returned (.bool (numB ts k))∧Since w w':=by
 have hm:=H.at_.1
 rcases Nat.lt_or_ge k m with h | h
 · rw[numB,decide_eq_true (show k<ts.length by omega),Bool.true_and]
   exact number_in A m c n ts k w H h
 · rw[numB,decide_eq_false (show ¬ k<ts.length by omega),Bool.false_and]
   exact number_end A m c n k w h
theorem named_end (A:Option Addr) (m c:Nat) (n:Int) (k:Nat) (w:World) (hk:m≤k) :
 Calls Tryz.prog 143 #[.agg #[.slice A m c,.int .i64 (k:Int),.int .i64 n,.int .i64 0,.int .i64 0]] w fun e w'=>e = .returned (.bool false)∧Since w w':=by
 have hz:=cast_nl m k hk
 go_enter Tryz.func143,Tryz.ntmps143
 go_wp2
 go_ret
 exact⟨rfl,sA _ _⟩
theorem named_in (A:Option Addr) (m c:Nat) (n:Int) (ts:List Tv) (k:Nat) (w:World) (H:Toks w (.slice A m c) ts) (hk:k<m) :
 Calls Tryz.prog 143 #[.agg #[.slice A m c,.int .i64 (k:Int),.int .i64 n,.int .i64 0,.int .i64 0]] w fun e w'=>e = .returned (.bool (nameB (ts.getD k .nil)))∧Since w w':=by
 have hz:=cast_lt m k hk
 obtain⟨bb,oo,rfl,TK0⟩:=tok_at H hk
 obtain⟨t,ht⟩:∃ t,t=ts.getD k .nil:=⟨_,rfl⟩
 rw[← ht] at TK0
 have TK:=lH TK0
 have HTT:=lH ht
 clear TK0 ht H
 obtain⟨t00,t01,t02,t03⟩:=TK.out (w.alloc (.cells #[.slice (some ⟨bb,oo,none⟩) m c,.int .i64 (k:Int),.int .i64 n,.int .i64 0,.int .i64 0] 127)) (sA _ _)
 rw[← HTT.out]
 have WA:=lH (fun W=>word_any t.s W)
 obtain⟨r,hr⟩:∃ r,r=keywords.contains (L t.s):=⟨_,rfl⟩
 rw[← hr] at WA
 by_cases h2:t.k=1
 · have z2:(t.k == 1)=true:=by rw[beq_iff_eq]; exact h2
   have e2:nameB t = !r:=by rw[nameB,decide_eq_true h2,Bool.true_and,hr]
   rw[e2]
   clear h2 e2 hr
   cases r
   · go_enter Tryz.func143,Tryz.ntmps143
     go_wp2_with (go_at_call 158; (with_reducible refine (WA.out _).mono ?_); rintro e0 w1 ⟨rfl,h1⟩)
     go_ret
     exact⟨rfl,(sA _ _).trans h1⟩
   · go_enter Tryz.func143,Tryz.ntmps143
     go_wp2_with (go_at_call 158; (with_reducible refine (WA.out _).mono ?_); rintro e0 w1 ⟨rfl,h1⟩)
     go_ret
     exact⟨rfl,(sA _ _).trans h1⟩
 · have z2:(t.k == 1)=false:=by rw[beq_eq_false_iff_ne]; exact h2
   have e2:nameB t=false:=by rw[nameB,decide_eq_false h2,Bool.false_and]
   rw[e2]
   clear h2 e2 hr
   go_enter Tryz.func143,Tryz.ntmps143
   go_wp2
   go_ret
   exact⟨rfl,sA _ _⟩
theorem named_ok (A:Option Addr) (m c:Nat) (n:Int) (ts:List Tv) (k:Nat) (w:World) (H:Toks w (.slice A m c) ts):Calls Tryz.prog 143 #[.agg #[.slice A m c,.int .i64 (k:Int),.int .i64 n,.int .i64 0,.int .i64 0]] w fun e w'=>e = .returned (.bool (namB ts k))∧Since w w':=by
 have hm:=H.at_.1
 rcases Nat.lt_or_ge k m with h | h
 · rw[namB,decide_eq_true (show k<ts.length by omega),Bool.true_and]
   exact named_in A m c n ts k w H h
 · rw[namB,decide_eq_false (show ¬ k<ts.length by omega),Bool.false_and]
   exact named_end A m c n k w h
theorem name_no (A:Option Addr) (m c:Nat) (n:Int) (i at_ er:Int) (w:World) (he:er≠0) :
 Calls Tryz.prog 112 #[.agg #[.slice A m c,.int .i64 i,.int .i64 n,.int .i64 at_,.int .i64 er]] w fun e w'=>e = .returned (.tuple #[.agg #[.slice A m c,.int .i64 i,.int .i64 n,.int .i64 at_,.int .i64 er],.string ⟨#[]⟩])∧Since w w':=by
 have ne:(er != 0)=true:=by rw[bne_iff_ne]; exact he
 have eq:(er == 0)=false:=by rw[beq_eq_false_iff_ne]; exact he
 clear he
 go_enter Tryz.func112,Tryz.ntmps112
 go_wp2
 refine bodyPost_ret (v:=.tuple #[.agg #[.slice A m c,.int .i64 i,.int .i64 n,.int .i64 at_,.int .i64 er],.string ⟨#[]⟩]) ?_ rfl ?_
 · simp[results,Tryz.results112,go_sem]
 · exact⟨rfl,(sA _ _).trans (sA _ _)⟩
theorem name_bad (A:Option Addr) (m c:Nat) (n:Int) (ts:List Tv) (k:Nat) (w:World) (H:Toks w (.slice A m c) ts) (hi:namB ts k=false) :
 Calls Tryz.prog 112 #[.agg #[.slice A m c,.int .i64 (k:Int),.int .i64 n,.int .i64 0,.int .i64 0]] w fun e w'=>∃ i at_ er:Int,e = .returned (.tuple #[.agg #[.slice A m c,.int .i64 i,.int .i64 n,.int .i64 at_,.int .i64 er],.string ⟨#[]⟩])∧Ec er (Cd ts k)∧Since w w':=by
 have TA:=lH (fun W (kk:Since w W)=>named_ok A m c n ts k W (H.since kk))
 rw[hi] at TA
 have WR:=lH (fun W (kk:Since w W)=>wrong_ok A m c n ts k W (H.since kk))
 have hs1:Since w ((w.alloc (.cells #[.slice A m c,.int .i64 (k:Int),.int .i64 n,.int .i64 0,.int .i64 0] 127)).alloc (.cells #[.slice none 0 0,.int .i64 0,.int .i64 0,.int .i64 0,.int .i64 0] 127)):=(sA _ _).trans (sA _ _)
 have HX:=lH (fun W (kz:Since ((w.alloc (.cells #[.slice A m c,.int .i64 (k:Int),.int .i64 n,.int .i64 0,.int .i64 0] 127)).alloc (.cells #[.slice none 0 0,.int .i64 0,.int .i64 0,.int .i64 0,.int .i64 0] 127)) W)=>((Bx.fresh w #[.slice A m c,.int .i64 (k:Int),.int .i64 n,.int .i64 0,.int .i64 0] 127).since (sA _ _)).since kz)
 have HZ:=lH (fun W (kz:Since ((w.alloc (.cells #[.slice A m c,.int .i64 (k:Int),.int .i64 n,.int .i64 0,.int .i64 0] 127)).alloc (.cells #[.slice none 0 0,.int .i64 0,.int .i64 0,.int .i64 0,.int .i64 0] 127)) W)=>(Bx.new kz (by simp):Bx W (w.heap.size+1) #[.slice none 0 0,.int .i64 0,.int .i64 0,.int .i64 0,.int .i64 0] 127))
 have HS:=lH hs1
 clear hs1
 obtain⟨g0,g1,g2,g3,g4⟩:=bx5 (HX.out _ (Since.refl _))
 obtain⟨z0,z1,z2,z3,z4⟩:=bx5 (HZ.out _ (Since.refl _))
 obtain⟨y0,y1,y2,y3,y4⟩:=bx5' (HZ.out _ (Since.refl _))
 clear H hi
 go_enter Tryz.func112,Tryz.ntmps112
 go_wp2_with (first
  | (go_at_call 143; (with_reducible refine (TA.out _ HS.out).mono ?_); rintro e0 w1 ⟨rfl,h1⟩; obtain⟨g0,g1,g2,g3,g4⟩:=bx5 (HX.out _ h1); obtain⟨z0,z1,z2,z3,z4⟩:=bx5 (HZ.out _ h1); obtain⟨y0,y1,y2,y3,y4⟩:=bx5' (HZ.out _ h1))
  | (go_at_call 115; (with_reducible refine (WR.out _ (HS.out.trans h1)).mono ?_); rintro e0 w2 ⟨i,at_,er,rfl,he,h2⟩; have k2:=h1.trans h2; obtain⟨z0,z1,z2,z3,z4⟩:=bx5 (HZ.out _ k2); obtain⟨y0,y1,y2,y3,y4⟩:=bx5' (HZ.out _ k2)))
 refine bodyPost_ret (v:=.tuple #[.agg #[.slice A m c,.int .i64 i,.int .i64 n,.int .i64 at_,.int .i64 er],.string ⟨#[]⟩]) ?_ rfl ?_
 · simp[results,Tryz.results112,go_sem,z0,z1,z2,z3,z4]
 · exact⟨_,_,_,rfl,he,since_put5 (HS.out.trans k2) (Nat.le_succ _) _ _ _ _ _⟩
theorem name_in (A:Option Addr) (m c:Nat) (n:Int) (ts:List Tv) (k:Nat) (w:World) (H:Toks w (.slice A m c) ts) (hl:k≤10000) (hk:k<m) (hi:namB ts k=true) :
 Calls Tryz.prog 112 #[.agg #[.slice A m c,.int .i64 (k:Int),.int .i64 n,.int .i64 0,.int .i64 0]] w fun e w'=>e = .returned (.tuple #[.agg #[.slice A m c,.int .i64 ((k+1:Nat):Int),.int .i64 n,.int .i64 0,.int .i64 0],.string (ts.getD k .nil).s])∧Since w w':=by
 have TA:=lH (fun W (kk:Since w W)=>named_ok A m c n ts k W (H.since kk))
 rw[hi] at TA
 have NX:=lH (fun W (kk:Since w W)=>next_ok A m c n k W hl)
 obtain⟨bb,oo,rfl,TK0⟩:=tok_at H hk
 obtain⟨t,ht⟩:∃ t,t=ts.getD k .nil:=⟨_,rfl⟩
 rw[← ht] at TK0
 have TK:=lH TK0
 have HTT:=lH ht
 clear TK0 ht H
 rw[← HTT.out]
 have hold:=lH (fun W (kz:Since (w.alloc (.cells #[.slice (some ⟨bb,oo,none⟩) m c,.int .i64 (k:Int),.int .i64 n,.int .i64 0,.int .i64 0] 127)) W)=>(by have Q:=bx5 ((Bx.fresh w #[.slice (some ⟨bb,oo,none⟩) m c,.int .i64 (k:Int),.int .i64 n,.int .i64 0,.int .i64 0] 127).since kz); have U:=TK.out W ((sA _ _).trans kz); exact⟨Q.1,Q.2.1,Q.2.2.1,Q.2.2.2.1,Q.2.2.2.2,U.2.1⟩:W.cell? ⟨w.heap.size,0,none⟩=some (.slice (some ⟨bb,oo,none⟩) m c)∧W.cell? ⟨w.heap.size,1,none⟩=some (.int .i64 (k:Int))∧W.cell? ⟨w.heap.size,2,none⟩=some (.int .i64 n)∧W.cell? ⟨w.heap.size,3,none⟩=some (.int .i64 0)∧W.cell? ⟨w.heap.size,4,none⟩=some (.int .i64 0)∧W.cell? ⟨bb,oo+k*4+1,none⟩=some (.string t.s)))
 have h5:=lH (fun W u0 u1 u2 u3 u4 (kz:Since (w.alloc (.cells #[.slice (some ⟨bb,oo,none⟩) m c,.int .i64 (k:Int),.int .i64 n,.int .i64 0,.int .i64 0] 127)) W)=>hold.out _ (since_put5 (b:=w.heap.size+1) kz (by simp) u0 u1 u2 u3 u4))
 have hs1:Since w ((w.alloc (.cells #[.slice (some ⟨bb,oo,none⟩) m c,.int .i64 (k:Int),.int .i64 n,.int .i64 0,.int .i64 0] 127)).alloc (.cells #[.slice none 0 0,.int .i64 0,.int .i64 0,.int .i64 0,.int .i64 0] 127)):=(sA _ _).trans (sA _ _)
 have HX:=lH (fun W (kz:Since ((w.alloc (.cells #[.slice (some ⟨bb,oo,none⟩) m c,.int .i64 (k:Int),.int .i64 n,.int .i64 0,.int .i64 0] 127)).alloc (.cells #[.slice none 0 0,.int .i64 0,.int .i64 0,.int .i64 0,.int .i64 0] 127)) W)=>((Bx.fresh w #[.slice (some ⟨bb,oo,none⟩) m c,.int .i64 (k:Int),.int .i64 n,.int .i64 0,.int .i64 0] 127).since (sA _ _)).since kz)
 have HZ:=lH (fun W (kz:Since ((w.alloc (.cells #[.slice (some ⟨bb,oo,none⟩) m c,.int .i64 (k:Int),.int .i64 n,.int .i64 0,.int .i64 0] 127)).alloc (.cells #[.slice none 0 0,.int .i64 0,.int .i64 0,.int .i64 0,.int .i64 0] 127)) W)=>(Bx.new kz (by simp):Bx W (w.heap.size+1) #[.slice none 0 0,.int .i64 0,.int .i64 0,.int .i64 0,.int .i64 0] 127))
 have HS:=lH hs1
 clear hs1
 obtain⟨g0,g1,g2,g3,g4⟩:=bx5 (HX.out _ (Since.refl _))
 obtain⟨z0,z1,z2,z3,z4⟩:=bx5 (HZ.out _ (Since.refl _))
 obtain⟨y0,y1,y2,y3,y4⟩:=bx5' (HZ.out _ (Since.refl _))
 clear hi hl
 go_enter Tryz.func112,Tryz.ntmps112
 go_wp2_with (go_at_call 143; (with_reducible refine (TA.out _ HS.out).mono ?_); rintro e0 w1 ⟨rfl,h1⟩; have kb:=Since.trans (sA _ _) h1; obtain⟨g0,g1,g2,g3,g4⟩:=bx5 (HX.out _ h1))
 go_region_held3 (fun W=>W.cell? ⟨w.heap.size,0,none⟩=some (.slice (some ⟨bb,oo,none⟩) m c)∧W.cell? ⟨w.heap.size,1,none⟩=some (.int .i64 (k:Int))∧W.cell? ⟨w.heap.size,2,none⟩=some (.int .i64 n)∧W.cell? ⟨w.heap.size,3,none⟩=some (.int .i64 0)∧W.cell? ⟨w.heap.size,4,none⟩=some (.int .i64 0)∧W.cell? ⟨bb,oo+k*4+1,none⟩=some (.string t.s))
  (first | with_reducible exact h5.out _ _ _ _ _ _ (kb.trans k2) | with_reducible exact hold.out _ (kb.trans k2) | with_reducible exact hold.out _ (kb.trans (Since.drew (Since.refl _))))
  (first
   | (go_at_call 110; (with_reducible refine (NX.out _ (HS.out.trans (h1.trans (Since.drew (Since.refl _))))).mono ?_); rintro e0 w2 ⟨rfl,h2⟩; have k2:Since w1 w2:=(Since.drew (Since.refl _)).trans h2; obtain⟨z0,z1,z2,z3,z4⟩:=bx5 (HZ.out _ (h1.trans k2)); obtain⟨y0,y1,y2,y3,y4⟩:=bx5' (HZ.out _ (h1.trans k2))))
 all_goals go_wp2
 all_goals refine bodyPost_ret (v:=.tuple #[.agg #[.slice (some ⟨bb,oo,none⟩) m c,.int .i64 ((k+1:Nat):Int),.int .i64 n,.int .i64 0,.int .i64 0],.string t.s]) ?_ rfl ?_
 · simp[results,Tryz.results112,go_sem,z0,z1,z2,z3,z4]
 · exact⟨rfl,since_put5 (HS.out.trans (h1.trans k2)) (Nat.le_succ _) _ _ _ _ _⟩
theorem integer_no (A:Option Addr) (m c:Nat) (n:Int) (i at_ er:Int) (w:World) (he:er≠0) :
 Calls Tryz.prog 141 #[.agg #[.slice A m c,.int .i64 i,.int .i64 n,.int .i64 at_,.int .i64 er]] w fun e w'=>e = .returned (.tuple #[.agg #[.slice A m c,.int .i64 i,.int .i64 n,.int .i64 at_,.int .i64 er],.int .i64 0])∧Since w w':=by
 have ne:(er != 0)=true:=by rw[bne_iff_ne]; exact he
 have eq:(er == 0)=false:=by rw[beq_eq_false_iff_ne]; exact he
 clear he
 go_enter Tryz.func141,Tryz.ntmps141
 go_wp2
 refine bodyPost_ret (v:=.tuple #[.agg #[.slice A m c,.int .i64 i,.int .i64 n,.int .i64 at_,.int .i64 er],.int .i64 0]) ?_ rfl ?_
 · simp[results,Tryz.results141,go_sem]
 · exact⟨rfl,(sA _ _).trans (sA _ _)⟩
theorem integer_bad (A:Option Addr) (m c:Nat) (n:Int) (ts:List Tv) (k:Nat) (w:World) (H:Toks w (.slice A m c) ts) (hi:numB ts k=false) :
 Calls Tryz.prog 141 #[.agg #[.slice A m c,.int .i64 (k:Int),.int .i64 n,.int .i64 0,.int .i64 0]] w fun e w'=>∃ i at_ er:Int,e = .returned (.tuple #[.agg #[.slice A m c,.int .i64 i,.int .i64 n,.int .i64 at_,.int .i64 er],.int .i64 0])∧Ec er (Cd ts k)∧Since w w':=by
 have TA:=lH (fun W (kk:Since w W)=>number_ok A m c n ts k W (H.since kk))
 rw[hi] at TA
 have WR:=lH (fun W (kk:Since w W)=>wrong_ok A m c n ts k W (H.since kk))
 have hs1:Since w ((w.alloc (.cells #[.slice A m c,.int .i64 (k:Int),.int .i64 n,.int .i64 0,.int .i64 0] 127)).alloc (.cells #[.slice none 0 0,.int .i64 0,.int .i64 0,.int .i64 0,.int .i64 0] 127)):=(sA _ _).trans (sA _ _)
 have HX:=lH (fun W (kz:Since ((w.alloc (.cells #[.slice A m c,.int .i64 (k:Int),.int .i64 n,.int .i64 0,.int .i64 0] 127)).alloc (.cells #[.slice none 0 0,.int .i64 0,.int .i64 0,.int .i64 0,.int .i64 0] 127)) W)=>((Bx.fresh w #[.slice A m c,.int .i64 (k:Int),.int .i64 n,.int .i64 0,.int .i64 0] 127).since (sA _ _)).since kz)
 have HZ:=lH (fun W (kz:Since ((w.alloc (.cells #[.slice A m c,.int .i64 (k:Int),.int .i64 n,.int .i64 0,.int .i64 0] 127)).alloc (.cells #[.slice none 0 0,.int .i64 0,.int .i64 0,.int .i64 0,.int .i64 0] 127)) W)=>(Bx.new kz (by simp):Bx W (w.heap.size+1) #[.slice none 0 0,.int .i64 0,.int .i64 0,.int .i64 0,.int .i64 0] 127))
 have HS:=lH hs1
 clear hs1
 obtain⟨g0,g1,g2,g3,g4⟩:=bx5 (HX.out _ (Since.refl _))
 obtain⟨z0,z1,z2,z3,z4⟩:=bx5 (HZ.out _ (Since.refl _))
 obtain⟨y0,y1,y2,y3,y4⟩:=bx5' (HZ.out _ (Since.refl _))
 clear H hi
 go_enter Tryz.func141,Tryz.ntmps141
 go_wp2_with (first
  | (go_at_call 137; (with_reducible refine (TA.out _ HS.out).mono ?_); rintro e0 w1 ⟨rfl,h1⟩; obtain⟨g0,g1,g2,g3,g4⟩:=bx5 (HX.out _ h1); obtain⟨z0,z1,z2,z3,z4⟩:=bx5 (HZ.out _ h1); obtain⟨y0,y1,y2,y3,y4⟩:=bx5' (HZ.out _ h1))
  | (go_at_call 115; (with_reducible refine (WR.out _ (HS.out.trans h1)).mono ?_); rintro e0 w2 ⟨i,at_,er,rfl,he,h2⟩; have k2:=h1.trans h2; obtain⟨z0,z1,z2,z3,z4⟩:=bx5 (HZ.out _ k2); obtain⟨y0,y1,y2,y3,y4⟩:=bx5' (HZ.out _ k2)))
 refine bodyPost_ret (v:=.tuple #[.agg #[.slice A m c,.int .i64 i,.int .i64 n,.int .i64 at_,.int .i64 er],.int .i64 0]) ?_ rfl ?_
 · simp[results,Tryz.results141,go_sem,z0,z1,z2,z3,z4]
 · exact⟨_,_,_,rfl,he,since_put5 (HS.out.trans k2) (Nat.le_succ _) _ _ _ _ _⟩
theorem integer_in (A:Option Addr) (m c:Nat) (n:Int) (ts:List Tv) (k:Nat) (w:World) (H:Toks w (.slice A m c) ts) (hl:k≤10000) (hk:k<m) (hi:numB ts k=true) :
 Calls Tryz.prog 141 #[.agg #[.slice A m c,.int .i64 (k:Int),.int .i64 n,.int .i64 0,.int .i64 0]] w fun e w'=>e = .returned (.tuple #[.agg #[.slice A m c,.int .i64 ((k+1:Nat):Int),.int .i64 n,.int .i64 0,.int .i64 0],.int .i64 (ts.getD k .nil).v])∧Since w w':=by
 have TA:=lH (fun W (kk:Since w W)=>number_ok A m c n ts k W (H.since kk))
 rw[hi] at TA
 have NX:=lH (fun W (kk:Since w W)=>next_ok A m c n k W hl)
 obtain⟨bb,oo,rfl,TK0⟩:=tok_at H hk
 obtain⟨t,ht⟩:∃ t,t=ts.getD k .nil:=⟨_,rfl⟩
 rw[← ht] at TK0
 have TK:=lH TK0
 have HTT:=lH ht
 clear TK0 ht H
 rw[← HTT.out]
 have hold:=lH (fun W (kz:Since (w.alloc (.cells #[.slice (some ⟨bb,oo,none⟩) m c,.int .i64 (k:Int),.int .i64 n,.int .i64 0,.int .i64 0] 127)) W)=>(by have Q:=bx5 ((Bx.fresh w #[.slice (some ⟨bb,oo,none⟩) m c,.int .i64 (k:Int),.int .i64 n,.int .i64 0,.int .i64 0] 127).since kz); have U:=TK.out W ((sA _ _).trans kz); exact⟨Q.1,Q.2.1,Q.2.2.1,Q.2.2.2.1,Q.2.2.2.2,U.2.2.1⟩:W.cell? ⟨w.heap.size,0,none⟩=some (.slice (some ⟨bb,oo,none⟩) m c)∧W.cell? ⟨w.heap.size,1,none⟩=some (.int .i64 (k:Int))∧W.cell? ⟨w.heap.size,2,none⟩=some (.int .i64 n)∧W.cell? ⟨w.heap.size,3,none⟩=some (.int .i64 0)∧W.cell? ⟨w.heap.size,4,none⟩=some (.int .i64 0)∧W.cell? ⟨bb,oo+k*4+2,none⟩=some (.int .i64 t.v)))
 have h5:=lH (fun W u0 u1 u2 u3 u4 (kz:Since (w.alloc (.cells #[.slice (some ⟨bb,oo,none⟩) m c,.int .i64 (k:Int),.int .i64 n,.int .i64 0,.int .i64 0] 127)) W)=>hold.out _ (since_put5 (b:=w.heap.size+1) kz (by simp) u0 u1 u2 u3 u4))
 have hs1:Since w ((w.alloc (.cells #[.slice (some ⟨bb,oo,none⟩) m c,.int .i64 (k:Int),.int .i64 n,.int .i64 0,.int .i64 0] 127)).alloc (.cells #[.slice none 0 0,.int .i64 0,.int .i64 0,.int .i64 0,.int .i64 0] 127)):=(sA _ _).trans (sA _ _)
 have HX:=lH (fun W (kz:Since ((w.alloc (.cells #[.slice (some ⟨bb,oo,none⟩) m c,.int .i64 (k:Int),.int .i64 n,.int .i64 0,.int .i64 0] 127)).alloc (.cells #[.slice none 0 0,.int .i64 0,.int .i64 0,.int .i64 0,.int .i64 0] 127)) W)=>((Bx.fresh w #[.slice (some ⟨bb,oo,none⟩) m c,.int .i64 (k:Int),.int .i64 n,.int .i64 0,.int .i64 0] 127).since (sA _ _)).since kz)
 have HZ:=lH (fun W (kz:Since ((w.alloc (.cells #[.slice (some ⟨bb,oo,none⟩) m c,.int .i64 (k:Int),.int .i64 n,.int .i64 0,.int .i64 0] 127)).alloc (.cells #[.slice none 0 0,.int .i64 0,.int .i64 0,.int .i64 0,.int .i64 0] 127)) W)=>(Bx.new kz (by simp):Bx W (w.heap.size+1) #[.slice none 0 0,.int .i64 0,.int .i64 0,.int .i64 0,.int .i64 0] 127))
 have HS:=lH hs1
 clear hs1
 obtain⟨g0,g1,g2,g3,g4⟩:=bx5 (HX.out _ (Since.refl _))
 obtain⟨z0,z1,z2,z3,z4⟩:=bx5 (HZ.out _ (Since.refl _))
 obtain⟨y0,y1,y2,y3,y4⟩:=bx5' (HZ.out _ (Since.refl _))
 clear hi hl
 go_enter Tryz.func141,Tryz.ntmps141
 go_wp2_with (go_at_call 137; (with_reducible refine (TA.out _ HS.out).mono ?_); rintro e0 w1 ⟨rfl,h1⟩; have kb:=Since.trans (sA _ _) h1; obtain⟨g0,g1,g2,g3,g4⟩:=bx5 (HX.out _ h1))
 go_region_held3 (fun W=>W.cell? ⟨w.heap.size,0,none⟩=some (.slice (some ⟨bb,oo,none⟩) m c)∧W.cell? ⟨w.heap.size,1,none⟩=some (.int .i64 (k:Int))∧W.cell? ⟨w.heap.size,2,none⟩=some (.int .i64 n)∧W.cell? ⟨w.heap.size,3,none⟩=some (.int .i64 0)∧W.cell? ⟨w.heap.size,4,none⟩=some (.int .i64 0)∧W.cell? ⟨bb,oo+k*4+2,none⟩=some (.int .i64 t.v))
  (first | with_reducible exact h5.out _ _ _ _ _ _ (kb.trans k2) | with_reducible exact hold.out _ (kb.trans k2) | with_reducible exact hold.out _ (kb.trans (Since.drew (Since.refl _))))
  (first
   | (go_at_call 110; (with_reducible refine (NX.out _ (HS.out.trans (h1.trans (Since.drew (Since.refl _))))).mono ?_); rintro e0 w2 ⟨rfl,h2⟩; have k2:Since w1 w2:=(Since.drew (Since.refl _)).trans h2; obtain⟨z0,z1,z2,z3,z4⟩:=bx5 (HZ.out _ (h1.trans k2)); obtain⟨y0,y1,y2,y3,y4⟩:=bx5' (HZ.out _ (h1.trans k2))))
 all_goals go_wp2
 all_goals refine bodyPost_ret (v:=.tuple #[.agg #[.slice (some ⟨bb,oo,none⟩) m c,.int .i64 ((k+1:Nat):Int),.int .i64 n,.int .i64 0,.int .i64 0],.int .i64 t.v]) ?_ rfl ?_
 · simp[results,Tryz.results141,go_sem,z0,z1,z2,z3,z4]
 · exact⟨rfl,since_put5 (HS.out.trans (h1.trans k2)) (Nat.le_succ _) _ _ _ _ _⟩
end Go.Proofs.YtjmmcnldfkjebaaGreatDoor.Doc6
