/- The document's own parser: take, names, numbers, plain expressions. -/
import Derived.Test.YtjmmcnldfkjebaaGreatDoorQaf
set_option maxHeartbeats 2000000
set_option maxRecDepth 20000
namespace Go.Proofs.YtjmmcnldfkjebaaGreatDoor.Doc6
open Go.RowKit
set_option linter.unusedVariables false
set_option linter.unusedSimpArgs false
open Dig Lx Tk Ps Ti
def Got1 (A:Option Addr) (m c:Nat) (n:Int) (ts:List Tv) (r:R Unit) (w:World) (e:Ending) (w':World):Prop:=
 (∃ k,r = .ok () (ts.drop k)∧k≤ts.length∧e = .returned (.agg #[.slice A m c,.int .i64 (k:Int),.int .i64 n,.int .i64 0,.int .i64 0])∧Since w w')∨(∃ p x,r = .bad p x∧Bad A m c n x w e w')
def Got {α:Type} (V:World→α→Value→Prop) (Z:Value→Prop) (A:Option Addr) (m c:Nat) (n:Int) (ts:List Tv) (r:R α) (w:World) (e:Ending) (w':World):Prop:=
 (∃ a k v,r = .ok a (ts.drop k)∧k≤ts.length∧V w' a v∧e = .returned (.tuple #[.agg #[.slice A m c,.int .i64 (k:Int),.int .i64 n,.int .i64 0,.int .i64 0],v])∧Since w w') ∨
 (∃ p x i at_ er v,r = .bad p x∧Ec er x∧Z v∧e = .returned (.tuple #[.agg #[.slice A m c,.int .i64 i,.int .i64 n,.int .i64 at_,.int .i64 er],v])∧Since w w')
theorem drop_tok {ts:List Tv} {k:Nat} (h:k<ts.length):ts.drop k=ts.getD k .nil :: ts.drop (k+1):=by
 rw[List.drop_eq_getElem_cons h]
 simp[List.getD_eq_getElem?_getD,h]
theorem drop_end {ts:List Tv} {k:Nat} (h:ts.length≤k):ts.drop k = []:=List.drop_eq_nil_of_le h
theorem take_is {c:Bs} {n:Int} {ts:Ts} (h:isW c ts=true):take c n ts = .ok () ts.tail:=if_pos h
theorem take_not {c:Bs} {n:Int} {ts:Ts} (h:isW c ts=false):take c n ts = .bad (place n ts) (if ts = [] then 6 else 5):=if_neg (by rw[h]; exact Bool.false_ne_true)
theorem take_no (A:Option Addr) (m c:Nat) (n:Int) (i at_ er:Int) (t:ByteArray) (w:World) (he:er≠0) :
 Calls Tryz.prog 77 #[.agg #[.slice A m c,.int .i64 i,.int .i64 n,.int .i64 at_,.int .i64 er],.string t] w fun e w'=>e = .returned (.agg #[.slice A m c,.int .i64 i,.int .i64 n,.int .i64 at_,.int .i64 er])∧Since w w':=by
 have ne:(er != 0)=true:=by rw[bne_iff_ne]; exact he
 have eq:(er == 0)=false:=by rw[beq_eq_false_iff_ne]; exact he
 clear he
 go_enter Tryz.func77,Tryz.ntmps77
 go_wp2
 refine bodyPost_ret (v:=.agg #[.slice A m c,.int .i64 i,.int .i64 n,.int .i64 at_,.int .i64 er]) ?_ rfl ?_
 · simp[results,Tryz.results77,go_sem]
 · exact⟨rfl,(sA _ _).trans (sA _ _)⟩
theorem take_yes (A:Option Addr) (m c:Nat) (n:Int) (ts:List Tv) (k:Nat) (t:ByteArray) (w:World) (H:Toks w (.slice A m c) ts) (hc:L t ≠ []) (hk:k≤10000) (hi:isW (L t) (ts.drop k)=true) :
 Calls Tryz.prog 77 #[.agg #[.slice A m c,.int .i64 (k:Int),.int .i64 n,.int .i64 0,.int .i64 0],.string t] w fun e w'=>e = .returned (.agg #[.slice A m c,.int .i64 ((k+1:Nat):Int),.int .i64 n,.int .i64 0,.int .i64 0])∧Since w w':=by
 have IA:=lH (fun W (kk:Since w W)=>is_ok A m c n ts k t W (H.since kk) hc)
 rw[hi] at IA
 have NX:=lH (fun W (kk:Since w W)=>next_ok A m c n k W hk)
 have hs1:Since w ((w.alloc (.cells #[.slice A m c,.int .i64 (k:Int),.int .i64 n,.int .i64 0,.int .i64 0] 127)).alloc (.cells #[.slice none 0 0,.int .i64 0,.int .i64 0,.int .i64 0,.int .i64 0] 127)):=(sA _ _).trans (sA _ _)
 have HX:=lH (fun W (kz:Since ((w.alloc (.cells #[.slice A m c,.int .i64 (k:Int),.int .i64 n,.int .i64 0,.int .i64 0] 127)).alloc (.cells #[.slice none 0 0,.int .i64 0,.int .i64 0,.int .i64 0,.int .i64 0] 127)) W)=>((Bx.fresh w #[.slice A m c,.int .i64 (k:Int),.int .i64 n,.int .i64 0,.int .i64 0] 127).since (sA _ _)).since kz)
 have HZ:=lH (fun W (kz:Since ((w.alloc (.cells #[.slice A m c,.int .i64 (k:Int),.int .i64 n,.int .i64 0,.int .i64 0] 127)).alloc (.cells #[.slice none 0 0,.int .i64 0,.int .i64 0,.int .i64 0,.int .i64 0] 127)) W)=>(Bx.new kz (by simp):Bx W (w.heap.size+1) #[.slice none 0 0,.int .i64 0,.int .i64 0,.int .i64 0,.int .i64 0] 127))
 have HS:=lH hs1
 clear hs1
 obtain⟨g0,g1,g2,g3,g4⟩:=bx5 (HX.out _ (Since.refl _))
 obtain⟨z0,z1,z2,z3,z4⟩:=bx5 (HZ.out _ (Since.refl _))
 obtain⟨y0,y1,y2,y3,y4⟩:=bx5' (HZ.out _ (Since.refl _))
 clear H hc hi hk
 go_enter Tryz.func77,Tryz.ntmps77
 go_wp2_with (first
  | (go_at_call 116; (with_reducible refine (IA.out _ HS.out).mono ?_); rintro e0 w1 ⟨rfl,h1⟩; obtain⟨g0,g1,g2,g3,g4⟩:=bx5 (HX.out _ h1); obtain⟨z0,z1,z2,z3,z4⟩:=bx5 (HZ.out _ h1); obtain⟨y0,y1,y2,y3,y4⟩:=bx5' (HZ.out _ h1))
  | (go_at_call 110; (with_reducible refine (NX.out _ (HS.out.trans h1)).mono ?_); rintro e0 w2 ⟨rfl,h2⟩; have k2:=h1.trans h2; obtain⟨z0,z1,z2,z3,z4⟩:=bx5 (HZ.out _ k2); obtain⟨y0,y1,y2,y3,y4⟩:=bx5' (HZ.out _ k2)))
 refine bodyPost_ret (v:=.agg #[.slice A m c,.int .i64 ((k+1:Nat):Int),.int .i64 n,.int .i64 0,.int .i64 0]) ?_ rfl ?_
 · simp[results,Tryz.results77,go_sem,z0,z1,z2,z3,z4]
 · exact⟨rfl,since_put5 (HS.out.trans k2) (Nat.le_succ _) _ _ _ _ _⟩
theorem take_bad (A:Option Addr) (m c:Nat) (n:Int) (ts:List Tv) (k:Nat) (t:ByteArray) (w:World) (H:Toks w (.slice A m c) ts) (hc:L t ≠ []) (hi:isW (L t) (ts.drop k)=false) :
 Calls Tryz.prog 77 #[.agg #[.slice A m c,.int .i64 (k:Int),.int .i64 n,.int .i64 0,.int .i64 0],.string t] w fun e w'=>Bad A m c n (Cd ts k) w e w':=by
 have IA:=lH (fun W (kk:Since w W)=>is_ok A m c n ts k t W (H.since kk) hc)
 rw[hi] at IA
 have WR:=lH (fun W (kk:Since w W)=>wrong_ok A m c n ts k W (H.since kk))
 have hs1:Since w ((w.alloc (.cells #[.slice A m c,.int .i64 (k:Int),.int .i64 n,.int .i64 0,.int .i64 0] 127)).alloc (.cells #[.slice none 0 0,.int .i64 0,.int .i64 0,.int .i64 0,.int .i64 0] 127)):=(sA _ _).trans (sA _ _)
 have HX:=lH (fun W (kz:Since ((w.alloc (.cells #[.slice A m c,.int .i64 (k:Int),.int .i64 n,.int .i64 0,.int .i64 0] 127)).alloc (.cells #[.slice none 0 0,.int .i64 0,.int .i64 0,.int .i64 0,.int .i64 0] 127)) W)=>((Bx.fresh w #[.slice A m c,.int .i64 (k:Int),.int .i64 n,.int .i64 0,.int .i64 0] 127).since (sA _ _)).since kz)
 have HZ:=lH (fun W (kz:Since ((w.alloc (.cells #[.slice A m c,.int .i64 (k:Int),.int .i64 n,.int .i64 0,.int .i64 0] 127)).alloc (.cells #[.slice none 0 0,.int .i64 0,.int .i64 0,.int .i64 0,.int .i64 0] 127)) W)=>(Bx.new kz (by simp):Bx W (w.heap.size+1) #[.slice none 0 0,.int .i64 0,.int .i64 0,.int .i64 0,.int .i64 0] 127))
 have HS:=lH hs1
 clear hs1
 obtain⟨g0,g1,g2,g3,g4⟩:=bx5 (HX.out _ (Since.refl _))
 obtain⟨z0,z1,z2,z3,z4⟩:=bx5 (HZ.out _ (Since.refl _))
 obtain⟨y0,y1,y2,y3,y4⟩:=bx5' (HZ.out _ (Since.refl _))
 clear H hc hi
 go_enter Tryz.func77,Tryz.ntmps77
 go_wp2_with (first
  | (go_at_call 116; (with_reducible refine (IA.out _ HS.out).mono ?_); rintro e0 w1 ⟨rfl,h1⟩; obtain⟨g0,g1,g2,g3,g4⟩:=bx5 (HX.out _ h1); obtain⟨z0,z1,z2,z3,z4⟩:=bx5 (HZ.out _ h1); obtain⟨y0,y1,y2,y3,y4⟩:=bx5' (HZ.out _ h1))
  | (go_at_call 115; (with_reducible refine (WR.out _ (HS.out.trans h1)).mono ?_); rintro e0 w2 ⟨i,at_,er,rfl,he,h2⟩; have k2:=h1.trans h2; obtain⟨z0,z1,z2,z3,z4⟩:=bx5 (HZ.out _ k2); obtain⟨y0,y1,y2,y3,y4⟩:=bx5' (HZ.out _ k2)))
 refine bodyPost_ret (v:=.agg #[.slice A m c,.int .i64 i,.int .i64 n,.int .i64 at_,.int .i64 er]) ?_ rfl ?_
 · simp[results,Tryz.results77,go_sem,z0,z1,z2,z3,z4]
 · exact⟨_,_,_,rfl,he,since_put5 (HS.out.trans k2) (Nat.le_succ _) _ _ _ _ _⟩
theorem take_ok (A:Option Addr) (m c:Nat) (n:Int) (ts:List Tv) (k:Nat) (t:ByteArray) (w:World) (H:Toks w (.slice A m c) ts) (hl:ts.length≤10000) (hk:k≤ts.length) (hc:L t ≠ []) :
 Calls Tryz.prog 77 #[.agg #[.slice A m c,.int .i64 (k:Int),.int .i64 n,.int .i64 0,.int .i64 0],.string t] w (Got1 A m c n ts (take (L t) n (ts.drop k)) w):=by
 cases hi:isW (L t) (ts.drop k) with
 | true =>
  refine (take_yes A m c n ts k t w H hc (by omega) hi).mono ?_
  rintro e w' ⟨rfl,hs⟩
  have hlt:k<ts.length:=by
   apply Decidable.byContradiction; intro hn
   rw[drop_end (by omega)] at hi; cases hi
  exact .inl ⟨k+1,by rw[take_is hi,List.tail_drop],hlt,rfl,hs⟩
 | false =>
  refine (take_bad A m c n ts k t w H hc hi).mono ?_
  intro e w' hb
  exact .inr ⟨_,_,take_not hi,hb⟩
theorem word_any (s:ByteArray) (w:World):Calls Tryz.prog 158 #[.string s] w fun e w'=>e = .returned (.bool (keywords.contains (L s)))∧Since w w':=by
 obtain⟨r,hr⟩:∃ r,r=keywords.contains (L s):=⟨_,rfl⟩
 rw[← hr]
 have HR:=lH hr
 clear hr
 by_cases q0:L s = [97,114,114,97,121]
 · have z0:(s.toList == ([97,114,114,97,121]:List UInt8))=true:=by rw[ByteArray.toList_eq,beq_iff_eq]; exact q0
   have er:r=true:=by rw[HR.out,q0]; decide
   subst er
   clear HR q0
   go_enter Tryz.func158,Tryz.ntmps158
   go_wp2
   go_ret
   exact⟨rfl,Since.refl _⟩
 have z0:(s.toList == ([97,114,114,97,121]:List UInt8))=false:=by rw[ByteArray.toList_eq,beq_eq_false_iff_ne]; exact q0
 by_cases q1:L s = [98,111,111,108]
 · have z1:(s.toList == ([98,111,111,108]:List UInt8))=true:=by rw[ByteArray.toList_eq,beq_iff_eq]; exact q1
   have er:r=true:=by rw[HR.out,q1]; decide
   subst er
   clear HR q1
   go_enter Tryz.func158,Tryz.ntmps158
   go_wp2
   go_ret
   exact⟨rfl,Since.refl _⟩
 have z1:(s.toList == ([98,111,111,108]:List UInt8))=false:=by rw[ByteArray.toList_eq,beq_eq_false_iff_ne]; exact q1
 by_cases q2:L s = [99,111,110,115,116,114,97,105,110,116]
 · have z2:(s.toList == ([99,111,110,115,116,114,97,105,110,116]:List UInt8))=true:=by rw[ByteArray.toList_eq,beq_iff_eq]; exact q2
   have er:r=true:=by rw[HR.out,q2]; decide
   subst er
   clear HR q2
   go_enter Tryz.func158,Tryz.ntmps158
   go_wp2
   go_ret
   exact⟨rfl,Since.refl _⟩
 have z2:(s.toList == ([99,111,110,115,116,114,97,105,110,116]:List UInt8))=false:=by rw[ByteArray.toList_eq,beq_eq_false_iff_ne]; exact q2
 by_cases q3:L s = [102,97,108,115,101]
 · have z3:(s.toList == ([102,97,108,115,101]:List UInt8))=true:=by rw[ByteArray.toList_eq,beq_iff_eq]; exact q3
   have er:r=true:=by rw[HR.out,q3]; decide
   subst er
   clear HR q3
   go_enter Tryz.func158,Tryz.ntmps158
   go_wp2
   go_ret
   exact⟨rfl,Since.refl _⟩
 have z3:(s.toList == ([102,97,108,115,101]:List UInt8))=false:=by rw[ByteArray.toList_eq,beq_eq_false_iff_ne]; exact q3
 by_cases q4:L s = [105,110,116]
 · have z4:(s.toList == ([105,110,116]:List UInt8))=true:=by rw[ByteArray.toList_eq,beq_iff_eq]; exact q4
   have er:r=true:=by rw[HR.out,q4]; decide
   subst er
   clear HR q4
   go_enter Tryz.func158,Tryz.ntmps158
   go_wp2
   go_ret
   exact⟨rfl,Since.refl _⟩
 have z4:(s.toList == ([105,110,116]:List UInt8))=false:=by rw[ByteArray.toList_eq,beq_eq_false_iff_ne]; exact q4
 by_cases q5:L s = [109,97,120,105,109,105,122,101]
 · have z5:(s.toList == ([109,97,120,105,109,105,122,101]:List UInt8))=true:=by rw[ByteArray.toList_eq,beq_iff_eq]; exact q5
   have er:r=true:=by rw[HR.out,q5]; decide
   subst er
   clear HR q5
   go_enter Tryz.func158,Tryz.ntmps158
   go_wp2
   go_ret
   exact⟨rfl,Since.refl _⟩
 have z5:(s.toList == ([109,97,120,105,109,105,122,101]:List UInt8))=false:=by rw[ByteArray.toList_eq,beq_eq_false_iff_ne]; exact q5
 by_cases q6:L s = [109,105,110,105,109,105,122,101]
 · have z6:(s.toList == ([109,105,110,105,109,105,122,101]:List UInt8))=true:=by rw[ByteArray.toList_eq,beq_iff_eq]; exact q6
   have er:r=true:=by rw[HR.out,q6]; decide
   subst er
   clear HR q6
   go_enter Tryz.func158,Tryz.ntmps158
   go_wp2
   go_ret
   exact⟨rfl,Since.refl _⟩
 have z6:(s.toList == ([109,105,110,105,109,105,122,101]:List UInt8))=false:=by rw[ByteArray.toList_eq,beq_eq_false_iff_ne]; exact q6
 by_cases q7:L s = [111,102]
 · have z7:(s.toList == ([111,102]:List UInt8))=true:=by rw[ByteArray.toList_eq,beq_iff_eq]; exact q7
   have er:r=true:=by rw[HR.out,q7]; decide
   subst er
   clear HR q7
   go_enter Tryz.func158,Tryz.ntmps158
   go_wp2
   go_ret
   exact⟨rfl,Since.refl _⟩
 have z7:(s.toList == ([111,102]:List UInt8))=false:=by rw[ByteArray.toList_eq,beq_eq_false_iff_ne]; exact q7
 by_cases q8:L s = [111,117,116,112,117,116,95,97,114,114,97,121]
 · have z8:(s.toList == ([111,117,116,112,117,116,95,97,114,114,97,121]:List UInt8))=true:=by rw[ByteArray.toList_eq,beq_iff_eq]; exact q8
   have er:r=true:=by rw[HR.out,q8]; decide
   subst er
   clear HR q8
   go_enter Tryz.func158,Tryz.ntmps158
   go_wp2
   go_ret
   exact⟨rfl,Since.refl _⟩
 have z8:(s.toList == ([111,117,116,112,117,116,95,97,114,114,97,121]:List UInt8))=false:=by rw[ByteArray.toList_eq,beq_eq_false_iff_ne]; exact q8
 by_cases q9:L s = [111,117,116,112,117,116,95,118,97,114]
 · have z9:(s.toList == ([111,117,116,112,117,116,95,118,97,114]:List UInt8))=true:=by rw[ByteArray.toList_eq,beq_iff_eq]; exact q9
   have er:r=true:=by rw[HR.out,q9]; decide
   subst er
   clear HR q9
   go_enter Tryz.func158,Tryz.ntmps158
   go_wp2
   go_ret
   exact⟨rfl,Since.refl _⟩
 have z9:(s.toList == ([111,117,116,112,117,116,95,118,97,114]:List UInt8))=false:=by rw[ByteArray.toList_eq,beq_eq_false_iff_ne]; exact q9
 by_cases q10:L s = [115,97,116,105,115,102,121]
 · have z10:(s.toList == ([115,97,116,105,115,102,121]:List UInt8))=true:=by rw[ByteArray.toList_eq,beq_iff_eq]; exact q10
   have er:r=true:=by rw[HR.out,q10]; decide
   subst er
   clear HR q10
   go_enter Tryz.func158,Tryz.ntmps158
   go_wp2
   go_ret
   exact⟨rfl,Since.refl _⟩
 have z10:(s.toList == ([115,97,116,105,115,102,121]:List UInt8))=false:=by rw[ByteArray.toList_eq,beq_eq_false_iff_ne]; exact q10
 by_cases q11:L s = [115,111,108,118,101]
 · have z11:(s.toList == ([115,111,108,118,101]:List UInt8))=true:=by rw[ByteArray.toList_eq,beq_iff_eq]; exact q11
   have er:r=true:=by rw[HR.out,q11]; decide
   subst er
   clear HR q11
   go_enter Tryz.func158,Tryz.ntmps158
   go_wp2
   go_ret
   exact⟨rfl,Since.refl _⟩
 have z11:(s.toList == ([115,111,108,118,101]:List UInt8))=false:=by rw[ByteArray.toList_eq,beq_eq_false_iff_ne]; exact q11
 by_cases q12:L s = [116,114,117,101]
 · have z12:(s.toList == ([116,114,117,101]:List UInt8))=true:=by rw[ByteArray.toList_eq,beq_iff_eq]; exact q12
   have er:r=true:=by rw[HR.out,q12]; decide
   subst er
   clear HR q12
   go_enter Tryz.func158,Tryz.ntmps158
   go_wp2
   go_ret
   exact⟨rfl,Since.refl _⟩
 have z12:(s.toList == ([116,114,117,101]:List UInt8))=false:=by rw[ByteArray.toList_eq,beq_eq_false_iff_ne]; exact q12
 by_cases q13:L s = [118,97,114]
 · have z13:(s.toList == ([118,97,114]:List UInt8))=true:=by rw[ByteArray.toList_eq,beq_iff_eq]; exact q13
   have er:r=true:=by rw[HR.out,q13]; decide
   subst er
   clear HR q13
   go_enter Tryz.func158,Tryz.ntmps158
   go_wp2
   go_ret
   exact⟨rfl,Since.refl _⟩
 have z13:(s.toList == ([118,97,114]:List UInt8))=false:=by rw[ByteArray.toList_eq,beq_eq_false_iff_ne]; exact q13
 have er:r=false:=by
  rw[HR.out]
  simp only[keywords,List.contains_cons,List.contains_nil,Bool.or_false,Bool.or_eq_false_iff,beq_eq_false_iff_ne]
  exact⟨q0,q1,q2,q3,q4,q5,q6,q7,q8,q9,q10,q11,q12,q13⟩
 subst er
 clear HR
 go_enter Tryz.func158,Tryz.ntmps158
 go_wp2
 go_ret
 exact⟨rfl,Since.refl _⟩
end Go.Proofs.YtjmmcnldfkjebaaGreatDoor.Doc6
