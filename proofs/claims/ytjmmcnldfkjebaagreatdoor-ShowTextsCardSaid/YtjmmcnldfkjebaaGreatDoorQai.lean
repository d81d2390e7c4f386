/- The document's own parser: name, integer, exact, plain. The document's own parser: plain expressions. -/
import Derived.Test.YtjmmcnldfkjebaaGreatDoorJc
set_option maxHeartbeats 2000000
set_option maxRecDepth 20000
set_option linter.unusedVariables false
set_option linter.unusedSimpArgs false
section
namespace Go.Proofs.YtjmmcnldfkjebaaGreatDoor.Doc6
open Go.RowKit
open Dig Lx Tk Ps Ti
theorem nam_drop {ts:List Tv} {k:Nat} {n:Int} : (namB ts k=true→name n (ts.drop k) = .ok (ts.getD k .nil).s (ts.drop (k+1))∧k<ts.length)∧(namB ts k=false→∃ p,name n (ts.drop k) = .bad p (Cd ts k)):=by
 rcases Nat.lt_or_ge k ts.length with h | h
 · rw[namB,decide_eq_true h,Bool.true_and,drop_tok h]
   exact⟨fun e=>⟨if_pos e,h⟩,fun e=>⟨place n (ts.getD k .nil :: ts.drop (k+1)),(if_neg (by rw[e]; exact Bool.false_ne_true)).trans (by rw[Cd,drop_tok h]; rfl)⟩⟩
 · rw[namB,decide_eq_false (by omega),Bool.false_and,drop_end h]
   exact⟨fun e=>(by cases e),fun _=>⟨place n [],by rw[Cd,drop_end h]; rfl⟩⟩
theorem num_drop {ts:List Tv} {k:Nat} {n:Int} : (numB ts k=true→integer n (ts.drop k) = .ok (ts.getD k .nil).v (ts.drop (k+1))∧k<ts.length∧(ts.getD k .nil).k=2)∧(numB ts k=false→∃ p,integer n (ts.drop k) = .bad p (Cd ts k)):=by
 rcases Nat.lt_or_ge k ts.length with h | h
 · rw[numB,decide_eq_true h,Bool.true_and,drop_tok h]
   exact⟨fun e=>⟨if_pos (by simpa using e),h,by simpa using e⟩,fun e=>⟨place n (ts.getD k .nil :: ts.drop (k+1)),(if_neg (by simpa using e)).trans (by rw[Cd,drop_tok h]; rfl)⟩⟩
 · rw[numB,decide_eq_false (by omega),Bool.false_and,drop_end h]
   exact⟨fun e=>(by cases e),fun _=>⟨place n [],by rw[Cd,drop_end h]; rfl⟩⟩
theorem name_ok (A:Option Addr) (m c:Nat) (n:Int) (ts:List Tv) (k:Nat) (w:World) (H:Toks w (.slice A m c) ts) (hl:ts.length≤10000) (hk:k≤ts.length) :
 Calls Tryz.prog 112 #[.agg #[.slice A m c,.int .i64 (k:Int),.int .i64 n,.int .i64 0,.int .i64 0]] w (Got (fun _ a v=>v = .string a) (fun v=>v = .string ⟨#[]⟩) A m c n ts (name n (ts.drop k)) w):=by
 have hm:=H.at_.1
 cases hi:namB ts k with
 | true =>
  have hd:=(nam_drop (n:=n)).1 hi
  refine (name_in A m c n ts k w H (by omega) (by omega) hi).mono ?_
  rintro e w' ⟨rfl,hs⟩
  exact .inl ⟨_,k+1,_,hd.1,by omega,rfl,rfl,hs⟩
 | false =>
  obtain⟨p,hd⟩:=(nam_drop (n:=n)).2 hi
  refine (name_bad A m c n ts k w H hi).mono ?_
  rintro e w' ⟨i,at_,er,rfl,he,hs⟩
  exact .inr ⟨p,_,i,at_,er,_,hd,he,rfl,rfl,hs⟩
theorem integer_ok (A:Option Addr) (m c:Nat) (n:Int) (ts:List Tv) (k:Nat) (w:World) (H:Toks w (.slice A m c) ts) (hl:ts.length≤10000) (hk:k≤ts.length) :
 Calls Tryz.prog 141 #[.agg #[.slice A m c,.int .i64 (k:Int),.int .i64 n,.int .i64 0,.int .i64 0]] w (Got (fun _ a v=>v = .int .i64 a) (fun v=>v = .int .i64 0) A m c n ts (integer n (ts.drop k)) w):=by
 have hm:=H.at_.1
 cases hi:numB ts k with
 | true =>
  have hd:=(num_drop (n:=n)).1 hi
  refine (integer_in A m c n ts k w H (by omega) (by omega) hi).mono ?_
  rintro e w' ⟨rfl,hs⟩
  exact .inl ⟨_,k+1,_,hd.1,by omega,rfl,rfl,hs⟩
 | false =>
  obtain⟨p,hd⟩:=(num_drop (n:=n)).2 hi
  refine (integer_bad A m c n ts k w H hi).mono ?_
  rintro e w' ⟨i,at_,er,rfl,he,hs⟩
  exact .inr ⟨p,_,i,at_,er,_,hd,he,rfl,rfl,hs⟩
theorem exact_no (A:Option Addr) (m c:Nat) (n:Int) (i at_ er x:Int) (w:World) (he:er≠0) :
 Calls Tryz.prog 140 #[.agg #[.slice A m c,.int .i64 i,.int .i64 n,.int .i64 at_,.int .i64 er],.int .i64 x] w fun e w'=>e = .returned (.agg #[.slice A m c,.int .i64 i,.int .i64 n,.int .i64 at_,.int .i64 er])∧Since w w':=by
 have ne:(er != 0)=true:=by rw[bne_iff_ne]; exact he
 have eq:(er == 0)=false:=by rw[beq_eq_false_iff_ne]; exact he
 clear he
 go_enter Tryz.func140,Tryz.ntmps140
 go_wp2
 refine bodyPost_ret (v:=.agg #[.slice A m c,.int .i64 i,.int .i64 n,.int .i64 at_,.int .i64 er]) ?_ rfl ?_
 · simp[results,Tryz.results140,go_sem]
 · exact⟨rfl,(sA _ _).trans (sA _ _)⟩
theorem exact_bad1 (A:Option Addr) (m c:Nat) (n:Int) (ts:List Tv) (k:Nat) (x:Int) (w:World) (H:Toks w (.slice A m c) ts) (hi:numB ts k=false) :
 Calls Tryz.prog 140 #[.agg #[.slice A m c,.int .i64 (k:Int),.int .i64 n,.int .i64 0,.int .i64 0],.int .i64 x] w fun e w'=>Bad A m c n (Cd ts k) w e w':=by
 have TA:=lH (fun W (kk:Since w W)=>number_ok A m c n ts k W (H.since kk))
 rw[hi] at TA
 have WR:=lH (fun W (kk:Since w W)=>wrong_ok A m c n ts k W (H.since kk))
 have hs1:Since w ((w.alloc (.cells #[.slice A m c,.int .i64 (k:Int),.int .i64 n,.int .i64 0,.int .i64 0] 127)).alloc (.cells #[.slice none 0 0,.int .i64 0,.int .i64 0,.int .i64 0,.int .i64 0] 127)):=(sA _ _).trans (sA _ _)
 have HX:=lH (fun W (kz:Since ((w.alloc (.cells #[.slice A m c,.int .i64 (k:Int),.int .i64 n,.int .i64 0,.int .i64 0] 127)).alloc (.cells #[.slice none 0 0,.int .i64 0,.int .i64 0,.int .i64 0,.int .i64 0] 127)) W)=>((Bx.fresh w #[.slice A m c,.int .i64 (k:Int),.int .i64 n,.int .i64 0,.int .i64 0] 127).since (sA _ _)).since kz)
 have HZ:=lH (fun W (kz:Since ((w.alloc (.cells #[.slice A m c,.int .i64 (k:Int),.int .i64 n,.int .i64 0,.int .i64 0] 127)).alloc (.cells #[.slice none 0 0,.int .i64 0,.int .i64 0,.int .i64 0,.int .i64 0] 127)) W)=>(Bx.new kz (by simp):Bx W (w.heap.size+1) #[.slice none 0 0,.int .i64 0,.int .i64 0,.int .i64 0,.int .i64 0] 127))
 have HS:=lH hs1
 clear hs1
 obtain⟨g0,g1,g2,g3,g4⟩:=bx5 (HX.out _ (Since.refl _))
 obtain⟨z0,z1,z2,z3,z4⟩:=bx5 (HZ.out _ (Since.refl _))
 obtain⟨y0,y1,y2,y3,y4⟩:=bx5' (HZ.out _ (Since.refl _))
 clear H hi
 go_enter Tryz.func140,Tryz.ntmps140
 go_wp2_with (first
  | (go_at_call 137; (with_reducible refine (TA.out _ HS.out).mono ?_); rintro e0 w1 ⟨rfl,h1⟩; obtain⟨g0,g1,g2,g3,g4⟩:=bx5 (HX.out _ h1); obtain⟨z0,z1,z2,z3,z4⟩:=bx5 (HZ.out _ h1); obtain⟨y0,y1,y2,y3,y4⟩:=bx5' (HZ.out _ h1))
  | (go_at_call 115; (with_reducible refine (WR.out _ (HS.out.trans h1)).mono ?_); rintro e0 w2 ⟨i,at_,er,rfl,he,h2⟩; have k2:=h1.trans h2; obtain⟨z0,z1,z2,z3,z4⟩:=bx5 (HZ.out _ k2); obtain⟨y0,y1,y2,y3,y4⟩:=bx5' (HZ.out _ k2)))
 refine bodyPost_ret (v:=.agg #[.slice A m c,.int .i64 i,.int .i64 n,.int .i64 at_,.int .i64 er]) ?_ rfl ?_
 · simp[results,Tryz.results140,go_sem,z0,z1,z2,z3,z4]
 · exact⟨_,_,_,rfl,he,since_put5 (HS.out.trans k2) (Nat.le_succ _) _ _ _ _ _⟩
theorem exact_bad2 (A:Option Addr) (m c:Nat) (n:Int) (ts:List Tv) (k:Nat) (x:Int) (w:World) (H:Toks w (.slice A m c) ts) (hl:k≤10000) (hk:k<m) (hi:numB ts k=true) (hv:(ts.getD k .nil).v≠x) :
 Calls Tryz.prog 140 #[.agg #[.slice A m c,.int .i64 (k:Int),.int .i64 n,.int .i64 0,.int .i64 0],.int .i64 x] w fun e w'=>Bad A m c n (Cd ts k) w e w':=by
 have TA:=lH (fun W (kk:Since w W)=>number_ok A m c n ts k W (H.since kk))
 rw[hi] at TA
 have WR:=lH (fun W (kk:Since w W)=>wrong_ok A m c n ts k W (H.since kk))
 obtain⟨bb,oo,rfl,TK0⟩:=tok_at H hk
 obtain⟨t,ht⟩:∃ t,t=ts.getD k .nil:=⟨_,rfl⟩
 rw[← ht] at TK0
 have TK:=lH TK0
 have HTT:=lH ht
 clear TK0 ht H
 rw[← HTT.out] at hv
 have z2:(t.v != x)=true:=by rw[bne_iff_ne]; exact hv
 have hs1:Since w ((w.alloc (.cells #[.slice (some ⟨bb,oo,none⟩) m c,.int .i64 (k:Int),.int .i64 n,.int .i64 0,.int .i64 0] 127)).alloc (.cells #[.slice none 0 0,.int .i64 0,.int .i64 0,.int .i64 0,.int .i64 0] 127)):=(sA _ _).trans (sA _ _)
 have HX:=lH (fun W (kz:Since ((w.alloc (.cells #[.slice (some ⟨bb,oo,none⟩) m c,.int .i64 (k:Int),.int .i64 n,.int .i64 0,.int .i64 0] 127)).alloc (.cells #[.slice none 0 0,.int .i64 0,.int .i64 0,.int .i64 0,.int .i64 0] 127)) W)=>((Bx.fresh w #[.slice (some ⟨bb,oo,none⟩) m c,.int .i64 (k:Int),.int .i64 n,.int .i64 0,.int .i64 0] 127).since (sA _ _)).since kz)
 have HZ:=lH (fun W (kz:Since ((w.alloc (.cells #[.slice (some ⟨bb,oo,none⟩) m c,.int .i64 (k:Int),.int .i64 n,.int .i64 0,.int .i64 0] 127)).alloc (.cells #[.slice none 0 0,.int .i64 0,.int .i64 0,.int .i64 0,.int .i64 0] 127)) W)=>(Bx.new kz (by simp):Bx W (w.heap.size+1) #[.slice none 0 0,.int .i64 0,.int .i64 0,.int .i64 0,.int .i64 0] 127))
 have HS:=lH hs1
 clear hs1
 obtain⟨g0,g1,g2,g3,g4⟩:=bx5 (HX.out _ (Since.refl _))
 obtain⟨z0,z1,z2,z3,z4⟩:=bx5 (HZ.out _ (Since.refl _))
 obtain⟨y0,y1,y2,y3,y4⟩:=bx5' (HZ.out _ (Since.refl _))
 clear hi hl hv
 go_enter Tryz.func140,Tryz.ntmps140
 go_wp2_with (first
  | (go_at_call 137; (with_reducible refine (TA.out _ HS.out).mono ?_); rintro e0 w1 ⟨rfl,h1⟩; obtain⟨g0,g1,g2,g3,g4⟩:=bx5 (HX.out _ h1); obtain⟨z0,z1,z2,z3,z4⟩:=bx5 (HZ.out _ h1); obtain⟨y0,y1,y2,y3,y4⟩:=bx5' (HZ.out _ h1); obtain⟨t0,t1,t2,t3⟩:=TK.out _ (HS.out.trans h1))
  | (go_at_call 115; (with_reducible refine (WR.out _ (HS.out.trans h1)).mono ?_); rintro e0 w2 ⟨i,at_,er,rfl,he,h2⟩; have k2:=h1.trans h2; obtain⟨z0,z1,z2,z3,z4⟩:=bx5 (HZ.out _ k2); obtain⟨y0,y1,y2,y3,y4⟩:=bx5' (HZ.out _ k2)))
 refine bodyPost_ret (v:=.agg #[.slice (some ⟨bb,oo,none⟩) m c,.int .i64 i,.int .i64 n,.int .i64 at_,.int .i64 er]) ?_ rfl ?_
 · simp[results,Tryz.results140,go_sem,z0,z1,z2,z3,z4]
 · exact⟨_,_,_,rfl,he,since_put5 (HS.out.trans k2) (Nat.le_succ _) _ _ _ _ _⟩
theorem exact_yes (A:Option Addr) (m c:Nat) (n:Int) (ts:List Tv) (k:Nat) (x:Int) (w:World) (H:Toks w (.slice A m c) ts) (hl:k≤10000) (hk:k<m) (hi:numB ts k=true) (hv:(ts.getD k .nil).v=x) :
 Calls Tryz.prog 140 #[.agg #[.slice A m c,.int .i64 (k:Int),.int .i64 n,.int .i64 0,.int .i64 0],.int .i64 x] w fun e w'=>e = .returned (.agg #[.slice A m c,.int .i64 ((k+1:Nat):Int),.int .i64 n,.int .i64 0,.int .i64 0])∧Since w w':=by
 have TA:=lH (fun W (kk:Since w W)=>number_ok A m c n ts k W (H.since kk))
 rw[hi] at TA
 have NX:=lH (fun W (kk:Since w W)=>next_ok A m c n k W hl)
 obtain⟨bb,oo,rfl,TK0⟩:=tok_at H hk
 obtain⟨t,ht⟩:∃ t,t=ts.getD k .nil:=⟨_,rfl⟩
 rw[← ht] at TK0
 have TK:=lH TK0
 have HTT:=lH ht
 clear TK0 ht H
 rw[← HTT.out] at hv
 subst hv
 have hs1:Since w ((w.alloc (.cells #[.slice (some ⟨bb,oo,none⟩) m c,.int .i64 (k:Int),.int .i64 n,.int .i64 0,.int .i64 0] 127)).alloc (.cells #[.slice none 0 0,.int .i64 0,.int .i64 0,.int .i64 0,.int .i64 0] 127)):=(sA _ _).trans (sA _ _)
 have HX:=lH (fun W (kz:Since ((w.alloc (.cells #[.slice (some ⟨bb,oo,none⟩) m c,.int .i64 (k:Int),.int .i64 n,.int .i64 0,.int .i64 0] 127)).alloc (.cells #[.slice none 0 0,.int .i64 0,.int .i64 0,.int .i64 0,.int .i64 0] 127)) W)=>((Bx.fresh w #[.slice (some ⟨bb,oo,none⟩) m c,.int .i64 (k:Int),.int .i64 n,.int .i64 0,.int .i64 0] 127).since (sA _ _)).since kz)
 have HZ:=lH (fun W (kz:Since ((w.alloc (.cells #[.slice (some ⟨bb,oo,none⟩) m c,.int .i64 (k:Int),.int .i64 n,.int .i64 0,.int .i64 0] 127)).alloc (.cells #[.slice none 0 0,.int .i64 0,.int .i64 0,.int .i64 0,.int .i64 0] 127)) W)=>(Bx.new kz (by simp):Bx W (w.heap.size+1) #[.slice none 0 0,.int .i64 0,.int .i64 0,.int .i64 0,.int .i64 0] 127))
 have HS:=lH hs1
 clear hs1
 obtain⟨g0,g1,g2,g3,g4⟩:=bx5 (HX.out _ (Since.refl _))
 obtain⟨z0,z1,z2,z3,z4⟩:=bx5 (HZ.out _ (Since.refl _))
 obtain⟨y0,y1,y2,y3,y4⟩:=bx5' (HZ.out _ (Since.refl _))
 clear hi hl
 go_enter Tryz.func140,Tryz.ntmps140
 go_wp2_with (first
  | (go_at_call 137; (with_reducible refine (TA.out _ HS.out).mono ?_); rintro e0 w1 ⟨rfl,h1⟩; obtain⟨g0,g1,g2,g3,g4⟩:=bx5 (HX.out _ h1); obtain⟨z0,z1,z2,z3,z4⟩:=bx5 (HZ.out _ h1); obtain⟨y0,y1,y2,y3,y4⟩:=bx5' (HZ.out _ h1); obtain⟨t0,t1,t2,t3⟩:=TK.out _ (HS.out.trans h1))
  | (go_at_call 110; (with_reducible refine (NX.out _ (HS.out.trans h1)).mono ?_); rintro e0 w2 ⟨rfl,h2⟩; have k2:=h1.trans h2; obtain⟨z0,z1,z2,z3,z4⟩:=bx5 (HZ.out _ k2); obtain⟨y0,y1,y2,y3,y4⟩:=bx5' (HZ.out _ k2)))
 refine bodyPost_ret (v:=.agg #[.slice (some ⟨bb,oo,none⟩) m c,.int .i64 ((k+1:Nat):Int),.int .i64 n,.int .i64 0,.int .i64 0]) ?_ rfl ?_
 · simp[results,Tryz.results140,go_sem,z0,z1,z2,z3,z4]
 · exact⟨rfl,since_put5 (HS.out.trans k2) (Nat.le_succ _) _ _ _ _ _⟩
theorem exact_ok (A:Option Addr) (m c:Nat) (n:Int) (ts:List Tv) (k:Nat) (x:Int) (w:World) (H:Toks w (.slice A m c) ts) (hl:ts.length≤10000) (hk:k≤ts.length) :
 Calls Tryz.prog 140 #[.agg #[.slice A m c,.int .i64 (k:Int),.int .i64 n,.int .i64 0,.int .i64 0],.int .i64 x] w (Got1 A m c n ts (exact x n (ts.drop k)) w):=by
 have hm:=H.at_.1
 cases hi:numB ts k with
 | true =>
  obtain⟨-,h1,h2⟩:=(num_drop (n:=n)).1 hi
  by_cases hv:(ts.getD k .nil).v=x
  · refine (exact_yes A m c n ts k x w H (by omega) (by omega) hi hv).mono ?_
    rintro e w' ⟨rfl,hs⟩
    refine .inl ⟨k+1,?_,h1,rfl,hs⟩
    rw[drop_tok h1]
    exact if_pos ⟨h2,hv⟩
  · refine (exact_bad2 A m c n ts k x w H (by omega) (by omega) hi hv).mono ?_
    intro e w' hb
    refine .inr ⟨place n (ts.drop k),if ts.drop k = [] then 6 else 5,?_,hb⟩
    rw[drop_tok h1]
    exact if_neg fun h=>hv h.2
 | false =>
  refine (exact_bad1 A m c n ts k x w H hi).mono ?_
  intro e w' hb
  refine .inr ⟨place n (ts.drop k),if ts.drop k = [] then 6 else 5,?_,hb⟩
  rcases Nat.lt_or_ge k ts.length with h | h
  · rw[drop_tok h]
    refine if_neg fun h' => ?_
    rw[numB,decide_eq_true h,Bool.true_and,decide_eq_false_iff_not] at hi
    exact hi h'.1
  · rw[drop_end h]; rfl
end Go.Proofs.YtjmmcnldfkjebaaGreatDoor.Doc6
end
section
namespace Go.Proofs.YtjmmcnldfkjebaaGreatDoor.Doc6
open Go.RowKit
open Dig Lx Tk Ps Ti
theorem plain_no (A:Option Addr) (m c:Nat) (n:Int) (i at_ er:Int) (w:World) (he:er≠0) :
 Calls Tryz.prog 138 #[.agg #[.slice A m c,.int .i64 i,.int .i64 n,.int .i64 at_,.int .i64 er]] w fun e w'=>e = .returned (.tuple #[.agg #[.slice A m c,.int .i64 i,.int .i64 n,.int .i64 at_,.int .i64 er],.agg #[.int .i64 0,.int .i64 0,.string ⟨#[]⟩,.slice none 0 0]])∧Since w w':=by
 have ne:(er != 0)=true:=by rw[bne_iff_ne]; exact he
 have eq:(er == 0)=false:=by rw[beq_eq_false_iff_ne]; exact he
 clear he
 go_enter Tryz.func138,Tryz.ntmps138
 go_wp2
 refine bodyPost_ret (v:=.tuple #[.agg #[.slice A m c,.int .i64 i,.int .i64 n,.int .i64 at_,.int .i64 er],.agg #[.int .i64 0,.int .i64 0,.string ⟨#[]⟩,.slice none 0 0]]) ?_ rfl ?_
 · simp[results,Tryz.results138,go_sem]
 · exact⟨rfl,((sA _ _).trans (sA _ _)).trans (sA _ _)⟩
theorem plain_true (A:Option Addr) (m c:Nat) (n:Int) (ts:List Tv) (k:Nat) (w:World) (H:Toks w (.slice A m c) ts) (hl:k≤10000) (h1:numB ts k=false) (h2:isW (L ⟨#[116,114,117,101]⟩) (ts.drop k)=true) :
 Calls Tryz.prog 138 #[.agg #[.slice A m c,.int .i64 (k:Int),.int .i64 n,.int .i64 0,.int .i64 0]] w fun e w'=>e = .returned (.tuple #[.agg #[.slice A m c,.int .i64 ((k+1:Nat):Int),.int .i64 n,.int .i64 0,.int .i64 0],.agg #[.int .i64 2,.int .i64 1,.string ⟨#[]⟩,.slice none 0 0]])∧Since w w':=by
 have TN:=lH (fun W (kk:Since w W)=>number_ok A m c n ts k W (H.since kk))
 rw[h1] at TN
 have TT:=lH (fun W (kk:Since w W)=>is_ok A m c n ts k ⟨#[116,114,117,101]⟩ W (H.since kk) (by decide))
 rw[h2] at TT
 have NX:=lH (fun W (kk:Since w W)=>next_ok A m c n k W hl)
 have HS:=lH (show Since w (((w.alloc (.cells #[.slice A m c,.int .i64 (k:Int),.int .i64 n,.int .i64 0,.int .i64 0] 127)).alloc (.cells #[.slice none 0 0,.int .i64 0,.int .i64 0,.int .i64 0,.int .i64 0] 127)).alloc (.cells #[.int .i64 0,.int .i64 0,.string ⟨#[]⟩,.slice none 0 0] 45)) from ((sA _ _).trans (sA _ _)).trans (sA _ _))
 have HX:=lH (fun W (kz:Since (((w.alloc (.cells #[.slice A m c,.int .i64 (k:Int),.int .i64 n,.int .i64 0,.int .i64 0] 127)).alloc (.cells #[.slice none 0 0,.int .i64 0,.int .i64 0,.int .i64 0,.int .i64 0] 127)).alloc (.cells #[.int .i64 0,.int .i64 0,.string ⟨#[]⟩,.slice none 0 0] 45)) W)=>(((Bx.fresh w #[.slice A m c,.int .i64 (k:Int),.int .i64 n,.int .i64 0,.int .i64 0] 127).since (sA _ _)).since (sA _ _)).since kz)
 have HZ:=lH (fun W (kz:Since (((w.alloc (.cells #[.slice A m c,.int .i64 (k:Int),.int .i64 n,.int .i64 0,.int .i64 0] 127)).alloc (.cells #[.slice none 0 0,.int .i64 0,.int .i64 0,.int .i64 0,.int .i64 0] 127)).alloc (.cells #[.int .i64 0,.int .i64 0,.string ⟨#[]⟩,.slice none 0 0] 45)) W)=>(((Bx.fresh (w.alloc (.cells #[.slice A m c,.int .i64 (k:Int),.int .i64 n,.int .i64 0,.int .i64 0] 127)) #[.slice none 0 0,.int .i64 0,.int .i64 0,.int .i64 0,.int .i64 0] 127).since (sA _ _)).since kz))
 have HE:=lH (fun W (kz:Since (((w.alloc (.cells #[.slice A m c,.int .i64 (k:Int),.int .i64 n,.int .i64 0,.int .i64 0] 127)).alloc (.cells #[.slice none 0 0,.int .i64 0,.int .i64 0,.int .i64 0,.int .i64 0] 127)).alloc (.cells #[.int .i64 0,.int .i64 0,.string ⟨#[]⟩,.slice none 0 0] 45)) W)=>(Bx.new kz (by simp):Bx W (w.heap.size+1+1) #[.int .i64 0,.int .i64 0,.string ⟨#[]⟩,.slice none 0 0] 45))
 have sz1:(w.alloc (.cells #[.slice A m c,.int .i64 (k:Int),.int .i64 n,.int .i64 0,.int .i64 0] 127)).heap.size=w.heap.size+1:=by simp
 simp only[sz1] at HZ
 clear sz1
 clear H hl h1 h2
 obtain⟨g0,g1,g2,g3,g4⟩:=bx5 (HX.out _ (Since.refl _))
 go_enter Tryz.func138,Tryz.ntmps138
 go_wp2_with (first
  | (go_at_call 137; (with_reducible refine (TN.out _ (HS.out.trans (Since.refl _))).mono ?_); rintro e0 w1 ⟨rfl,h1⟩; have k1:=(Since.refl _).trans h1; obtain⟨g0,g1,g2,g3,g4⟩:=bx5 (HX.out _ k1); obtain⟨z0,z1,z2,z3,z4⟩:=bx5 (HZ.out _ k1); obtain⟨y0,y1,y2,y3,y4⟩:=bx5' (HZ.out _ k1); obtain⟨e0,e1,e2,e3⟩:=(HE.out _ k1).four; obtain⟨d0,d1,d2,d3⟩:=(HE.out _ k1).four')
  | (go_at_call 116; (with_reducible refine (TT.out _ (HS.out.trans k1)).mono ?_); rintro e0 w2 ⟨rfl,h2⟩; have k2:=k1.trans h2; obtain⟨g0,g1,g2,g3,g4⟩:=bx5 (HX.out _ k2); obtain⟨z0,z1,z2,z3,z4⟩:=bx5 (HZ.out _ k2); obtain⟨y0,y1,y2,y3,y4⟩:=bx5' (HZ.out _ k2); obtain⟨e0,e1,e2,e3⟩:=(HE.out _ k2).four; obtain⟨d0,d1,d2,d3⟩:=(HE.out _ k2).four')
  | (go_at_call 110; (with_reducible refine (NX.out _ (HS.out.trans k2)).mono ?_); rintro e0 w3 ⟨rfl,h3⟩; have k3:=k2.trans h3; obtain⟨g0,g1,g2,g3,g4⟩:=bx5 (HX.out _ k3); obtain⟨z0,z1,z2,z3,z4⟩:=bx5 (HZ.out _ k3); obtain⟨y0,y1,y2,y3,y4⟩:=bx5' (HZ.out _ k3); obtain⟨e0,e1,e2,e3⟩:=(HE.out _ k3).four; obtain⟨d0,d1,d2,d3⟩:=(HE.out _ k3).four'))
 refine bodyPost_ret (v:=.tuple #[.agg #[.slice A m c,.int .i64 ((k+1:Nat):Int),.int .i64 n,.int .i64 0,.int .i64 0],.agg #[.int .i64 2,.int .i64 1,.string ⟨#[]⟩,.slice none 0 0]]) ?_ rfl ?_
 · simp[results,Tryz.results138,go_sem,z0,z1,z2,z3,z4,e0,e1,e2,e3]
 · exact⟨rfl,since_put4 (since_put5 (HS.out.trans k3) (Nat.le_succ _) _ _ _ _ _) (Nat.le_succ_of_le (Nat.le_succ _)) _ _ _ _⟩
theorem plain_false (A:Option Addr) (m c:Nat) (n:Int) (ts:List Tv) (k:Nat) (w:World) (H:Toks w (.slice A m c) ts) (hl:k≤10000) (h1:numB ts k=false) (h2:isW (L ⟨#[116,114,117,101]⟩) (ts.drop k)=false) (h3:isW (L ⟨#[102,97,108,115,101]⟩) (ts.drop k)=true) :
 Calls Tryz.prog 138 #[.agg #[.slice A m c,.int .i64 (k:Int),.int .i64 n,.int .i64 0,.int .i64 0]] w fun e w'=>e = .returned (.tuple #[.agg #[.slice A m c,.int .i64 ((k+1:Nat):Int),.int .i64 n,.int .i64 0,.int .i64 0],.agg #[.int .i64 2,.int .i64 0,.string ⟨#[]⟩,.slice none 0 0]])∧Since w w':=by
 have TN:=lH (fun W (kk:Since w W)=>number_ok A m c n ts k W (H.since kk))
 rw[h1] at TN
 have TT:=lH (fun W (kk:Since w W)=>is_ok A m c n ts k ⟨#[116,114,117,101]⟩ W (H.since kk) (by decide))
 rw[h2] at TT
 have TF:=lH (fun W (kk:Since w W)=>is_ok A m c n ts k ⟨#[102,97,108,115,101]⟩ W (H.since kk) (by decide))
 rw[h3] at TF
 have NX:=lH (fun W (kk:Since w W)=>next_ok A m c n k W hl)
 have HS:=lH (show Since w (((w.alloc (.cells #[.slice A m c,.int .i64 (k:Int),.int .i64 n,.int .i64 0,.int .i64 0] 127)).alloc (.cells #[.slice none 0 0,.int .i64 0,.int .i64 0,.int .i64 0,.int .i64 0] 127)).alloc (.cells #[.int .i64 0,.int .i64 0,.string ⟨#[]⟩,.slice none 0 0] 45)) from ((sA _ _).trans (sA _ _)).trans (sA _ _))
 have HX:=lH (fun W (kz:Since (((w.alloc (.cells #[.slice A m c,.int .i64 (k:Int),.int .i64 n,.int .i64 0,.int .i64 0] 127)).alloc (.cells #[.slice none 0 0,.int .i64 0,.int .i64 0,.int .i64 0,.int .i64 0] 127)).alloc (.cells #[.int .i64 0,.int .i64 0,.string ⟨#[]⟩,.slice none 0 0] 45)) W)=>(((Bx.fresh w #[.slice A m c,.int .i64 (k:Int),.int .i64 n,.int .i64 0,.int .i64 0] 127).since (sA _ _)).since (sA _ _)).since kz)
 have HZ:=lH (fun W (kz:Since (((w.alloc (.cells #[.slice A m c,.int .i64 (k:Int),.int .i64 n,.int .i64 0,.int .i64 0] 127)).alloc (.cells #[.slice none 0 0,.int .i64 0,.int .i64 0,.int .i64 0,.int .i64 0] 127)).alloc (.cells #[.int .i64 0,.int .i64 0,.string ⟨#[]⟩,.slice none 0 0] 45)) W)=>(((Bx.fresh (w.alloc (.cells #[.slice A m c,.int .i64 (k:Int),.int .i64 n,.int .i64 0,.int .i64 0] 127)) #[.slice none 0 0,.int .i64 0,.int .i64 0,.int .i64 0,.int .i64 0] 127).since (sA _ _)).since kz))
 have HE:=lH (fun W (kz:Since (((w.alloc (.cells #[.slice A m c,.int .i64 (k:Int),.int .i64 n,.int .i64 0,.int .i64 0] 127)).alloc (.cells #[.slice none 0 0,.int .i64 0,.int .i64 0,.int .i64 0,.int .i64 0] 127)).alloc (.cells #[.int .i64 0,.int .i64 0,.string ⟨#[]⟩,.slice none 0 0] 45)) W)=>(Bx.new kz (by simp):Bx W (w.heap.size+1+1) #[.int .i64 0,.int .i64 0,.string ⟨#[]⟩,.slice none 0 0] 45))
 have sz1:(w.alloc (.cells #[.slice A m c,.int .i64 (k:Int),.int .i64 n,.int .i64 0,.int .i64 0] 127)).heap.size=w.heap.size+1:=by simp
 simp only[sz1] at HZ
 clear sz1
 clear H hl h1 h2 h3
 obtain⟨g0,g1,g2,g3,g4⟩:=bx5 (HX.out _ (Since.refl _))
 go_enter Tryz.func138,Tryz.ntmps138
 go_wp2_with (first
  | (go_at_call 137; (with_reducible refine (TN.out _ (HS.out.trans (Since.refl _))).mono ?_); rintro e0 w1 ⟨rfl,h1⟩; have k1:=(Since.refl _).trans h1; obtain⟨g0,g1,g2,g3,g4⟩:=bx5 (HX.out _ k1); obtain⟨z0,z1,z2,z3,z4⟩:=bx5 (HZ.out _ k1); obtain⟨y0,y1,y2,y3,y4⟩:=bx5' (HZ.out _ k1); obtain⟨e0,e1,e2,e3⟩:=(HE.out _ k1).four; obtain⟨d0,d1,d2,d3⟩:=(HE.out _ k1).four')
  | (go_at_call 116; (with_reducible refine (TT.out _ (HS.out.trans k1)).mono ?_); rintro e0 w2 ⟨rfl,h2⟩; have k2:=k1.trans h2; obtain⟨g0,g1,g2,g3,g4⟩:=bx5 (HX.out _ k2); obtain⟨z0,z1,z2,z3,z4⟩:=bx5 (HZ.out _ k2); obtain⟨y0,y1,y2,y3,y4⟩:=bx5' (HZ.out _ k2); obtain⟨e0,e1,e2,e3⟩:=(HE.out _ k2).four; obtain⟨d0,d1,d2,d3⟩:=(HE.out _ k2).four')
  | (go_at_call 116; (with_reducible refine (TF.out _ (HS.out.trans k2)).mono ?_); rintro e0 w3 ⟨rfl,h3⟩; have k3:=k2.trans h3; obtain⟨g0,g1,g2,g3,g4⟩:=bx5 (HX.out _ k3); obtain⟨z0,z1,z2,z3,z4⟩:=bx5 (HZ.out _ k3); obtain⟨y0,y1,y2,y3,y4⟩:=bx5' (HZ.out _ k3); obtain⟨e0,e1,e2,e3⟩:=(HE.out _ k3).four; obtain⟨d0,d1,d2,d3⟩:=(HE.out _ k3).four')
  | (go_at_call 110; (with_reducible refine (NX.out _ (HS.out.trans k3)).mono ?_); rintro e0 w4 ⟨rfl,h4⟩; have k4:=k3.trans h4; obtain⟨g0,g1,g2,g3,g4⟩:=bx5 (HX.out _ k4); obtain⟨z0,z1,z2,z3,z4⟩:=bx5 (HZ.out _ k4); obtain⟨y0,y1,y2,y3,y4⟩:=bx5' (HZ.out _ k4); obtain⟨e0,e1,e2,e3⟩:=(HE.out _ k4).four; obtain⟨d0,d1,d2,d3⟩:=(HE.out _ k4).four'))
 refine bodyPost_ret (v:=.tuple #[.agg #[.slice A m c,.int .i64 ((k+1:Nat):Int),.int .i64 n,.int .i64 0,.int .i64 0],.agg #[.int .i64 2,.int .i64 0,.string ⟨#[]⟩,.slice none 0 0]]) ?_ rfl ?_
 · simp[results,Tryz.results138,go_sem,z0,z1,z2,z3,z4,e0,e1,e2,e3]
 · exact⟨rfl,since_put4 (since_put5 (HS.out.trans k4) (Nat.le_succ _) _ _ _ _ _) (Nat.le_succ_of_le (Nat.le_succ _)) _ _ _ _⟩
theorem plain_bad (A:Option Addr) (m c:Nat) (n:Int) (ts:List Tv) (k:Nat) (w:World) (H:Toks w (.slice A m c) ts) (h1:numB ts k=false) (h2:isW (L ⟨#[116,114,117,101]⟩) (ts.drop k)=false) (h3:isW (L ⟨#[102,97,108,115,101]⟩) (ts.drop k)=false) (h4:namB ts k=false) :
 Calls Tryz.prog 138 #[.agg #[.slice A m c,.int .i64 (k:Int),.int .i64 n,.int .i64 0,.int .i64 0]] w fun e w'=>∃ i at_ er:Int,e = .returned (.tuple #[.agg #[.slice A m c,.int .i64 i,.int .i64 n,.int .i64 at_,.int .i64 er],.agg #[.int .i64 0,.int .i64 0,.string ⟨#[]⟩,.slice none 0 0]])∧Ec er (Cd ts k)∧Since w w':=by
 have TN:=lH (fun W (kk:Since w W)=>number_ok A m c n ts k W (H.since kk))
 rw[h1] at TN
 have TT:=lH (fun W (kk:Since w W)=>is_ok A m c n ts k ⟨#[116,114,117,101]⟩ W (H.since kk) (by decide))
 rw[h2] at TT
 have TF:=lH (fun W (kk:Since w W)=>is_ok A m c n ts k ⟨#[102,97,108,115,101]⟩ W (H.since kk) (by decide))
 rw[h3] at TF
 have TD:=lH (fun W (kk:Since w W)=>named_ok A m c n ts k W (H.since kk))
 rw[h4] at TD
 have WR:=lH (fun W (kk:Since w W)=>wrong_ok A m c n ts k W (H.since kk))
 have HS:=lH (show Since w (((w.alloc (.cells #[.slice A m c,.int .i64 (k:Int),.int .i64 n,.int .i64 0,.int .i64 0] 127)).alloc (.cells #[.slice none 0 0,.int .i64 0,.int .i64 0,.int .i64 0,.int .i64 0] 127)).alloc (.cells #[.int .i64 0,.int .i64 0,.string ⟨#[]⟩,.slice none 0 0] 45)) from ((sA _ _).trans (sA _ _)).trans (sA _ _))
 have HX:=lH (fun W (kz:Since (((w.alloc (.cells #[.slice A m c,.int .i64 (k:Int),.int .i64 n,.int .i64 0,.int .i64 0] 127)).alloc (.cells #[.slice none 0 0,.int .i64 0,.int .i64 0,.int .i64 0,.int .i64 0] 127)).alloc (.cells #[.int .i64 0,.int .i64 0,.string ⟨#[]⟩,.slice none 0 0] 45)) W)=>(((Bx.fresh w #[.slice A m c,.int .i64 (k:Int),.int .i64 n,.int .i64 0,.int .i64 0] 127).since (sA _ _)).since (sA _ _)).since kz)
 have HZ:=lH (fun W (kz:Since (((w.alloc (.cells #[.slice A m c,.int .i64 (k:Int),.int .i64 n,.int .i64 0,.int .i64 0] 127)).alloc (.cells #[.slice none 0 0,.int .i64 0,.int .i64 0,.int .i64 0,.int .i64 0] 127)).alloc (.cells #[.int .i64 0,.int .i64 0,.string ⟨#[]⟩,.slice none 0 0] 45)) W)=>(((Bx.fresh (w.alloc (.cells #[.slice A m c,.int .i64 (k:Int),.int .i64 n,.int .i64 0,.int .i64 0] 127)) #[.slice none 0 0,.int .i64 0,.int .i64 0,.int .i64 0,.int .i64 0] 127).since (sA _ _)).since kz))
 have HE:=lH (fun W (kz:Since (((w.alloc (.cells #[.slice A m c,.int .i64 (k:Int),.int .i64 n,.int .i64 0,.int .i64 0] 127)).alloc (.cells #[.slice none 0 0,.int .i64 0,.int .i64 0,.int .i64 0,.int .i64 0] 127)).alloc (.cells #[.int .i64 0,.int .i64 0,.string ⟨#[]⟩,.slice none 0 0] 45)) W)=>(Bx.new kz (by simp):Bx W (w.heap.size+1+1) #[.int .i64 0,.int .i64 0,.string ⟨#[]⟩,.slice none 0 0] 45))
 have sz1:(w.alloc (.cells #[.slice A m c,.int .i64 (k:Int),.int .i64 n,.int .i64 0,.int .i64 0] 127)).heap.size=w.heap.size+1:=by simp
 simp only[sz1] at HZ
 clear sz1
 clear H h1 h2 h3 h4
 obtain⟨g0,g1,g2,g3,g4⟩:=bx5 (HX.out _ (Since.refl _))
 go_enter Tryz.func138,Tryz.ntmps138
 go_wp2_with (first
  | (go_at_call 137; (with_reducible refine (TN.out _ (HS.out.trans (Since.refl _))).mono ?_); rintro e0 w1 ⟨rfl,h1⟩; have k1:=(Since.refl _).trans h1; obtain⟨g0,g1,g2,g3,g4⟩:=bx5 (HX.out _ k1); obtain⟨z0,z1,z2,z3,z4⟩:=bx5 (HZ.out _ k1); obtain⟨y0,y1,y2,y3,y4⟩:=bx5' (HZ.out _ k1); obtain⟨e0,e1,e2,e3⟩:=(HE.out _ k1).four; obtain⟨d0,d1,d2,d3⟩:=(HE.out _ k1).four')
  | (go_at_call 116; (with_reducible refine (TT.out _ (HS.out.trans k1)).mono ?_); rintro e0 w2 ⟨rfl,h2⟩; have k2:=k1.trans h2; obtain⟨g0,g1,g2,g3,g4⟩:=bx5 (HX.out _ k2); obtain⟨z0,z1,z2,z3,z4⟩:=bx5 (HZ.out _ k2); obtain⟨y0,y1,y2,y3,y4⟩:=bx5' (HZ.out _ k2); obtain⟨e0,e1,e2,e3⟩:=(HE.out _ k2).four; obtain⟨d0,d1,d2,d3⟩:=(HE.out _ k2).four')
  | (go_at_call 116; (with_reducible refine (TF.out _ (HS.out.trans k2)).mono ?_); rintro e0 w3 ⟨rfl,h3⟩; have k3:=k2.trans h3; obtain⟨g0,g1,g2,g3,g4⟩:=bx5 (HX.out _ k3); obtain⟨z0,z1,z2,z3,z4⟩:=bx5 (HZ.out _ k3); obtain⟨y0,y1,y2,y3,y4⟩:=bx5' (HZ.out _ k3); obtain⟨e0,e1,e2,e3⟩:=(HE.out _ k3).four; obtain⟨d0,d1,d2,d3⟩:=(HE.out _ k3).four')
  | (go_at_call 143; (with_reducible refine (TD.out _ (HS.out.trans k3)).mono ?_); rintro e0 w4 ⟨rfl,h4⟩; have k4:=k3.trans h4; obtain⟨g0,g1,g2,g3,g4⟩:=bx5 (HX.out _ k4); obtain⟨z0,z1,z2,z3,z4⟩:=bx5 (HZ.out _ k4); obtain⟨y0,y1,y2,y3,y4⟩:=bx5' (HZ.out _ k4); obtain⟨e0,e1,e2,e3⟩:=(HE.out _ k4).four; obtain⟨d0,d1,d2,d3⟩:=(HE.out _ k4).four')
  | (go_at_call 115; (with_reducible refine (WR.out _ (HS.out.trans k4)).mono ?_); rintro e0 w5 ⟨i,at_,er,rfl,he,h5⟩; have k5:=k4.trans h5; obtain⟨g0,g1,g2,g3,g4⟩:=bx5 (HX.out _ k5); obtain⟨z0,z1,z2,z3,z4⟩:=bx5 (HZ.out _ k5); obtain⟨y0,y1,y2,y3,y4⟩:=bx5' (HZ.out _ k5); obtain⟨e0,e1,e2,e3⟩:=(HE.out _ k5).four; obtain⟨d0,d1,d2,d3⟩:=(HE.out _ k5).four'))
 refine bodyPost_ret (v:=.tuple #[.agg #[.slice A m c,.int .i64 i,.int .i64 n,.int .i64 at_,.int .i64 er],.agg #[.int .i64 0,.int .i64 0,.string ⟨#[]⟩,.slice none 0 0]]) ?_ rfl ?_
 · simp[results,Tryz.results138,go_sem,z0,z1,z2,z3,z4,e0,e1,e2,e3]
 · exact⟨_,_,_,rfl,he,since_put4 (since_put5 (HS.out.trans k5) (Nat.le_succ _) _ _ _ _ _) (Nat.le_succ_of_le (Nat.le_succ _)) _ _ _ _⟩
end Go.Proofs.YtjmmcnldfkjebaaGreatDoor.Doc6
end
