/- What tokenAt of the landed lex gives back. What Split of the landed lex gives back: what the document says. -/
import Derived.Deep.DeepCutAuto
import Derived.Test.YtjmmcnldfkjebaaGreatDoorQaz
set_option maxHeartbeats 4000000
set_option maxRecDepth 100000
namespace Go.Proofs.YtjmmcnldfkjebaaGreatDoor.Lex
open Go.RowKit
set_option linter.unusedVariables false
set_option linter.unusedSimpArgs false
open Dig Lx Tk
theorem upto_is {s:ByteArray} {k kd n j:Nat} (h:word ((L s).drop k)=(kd,n)) (hj:kd=j):upto j s k=k+n:=by
 unfold upto; rw[h,if_pos hj]
theorem upto_not {s:ByteArray} {k kd n j:Nat} (h:word ((L s).drop k)=(kd,n)) (hj:kd≠j):upto j s k=k:=by
 unfold upto; rw[h,if_neg hj]
theorem tok_name (s:ByteArray) (k n:Nat) (w:World) (hk:k<s.size) (hs:s.size≤100000) (hw:word ((L s).drop k)=(1,n)) :
 Calls Tryz.prog 23 #[.string s,.int .i64 (k:Int)] w fun e w'=>e = .returned (.tuple #[.agg #[.int .i64 1,.string (s.extract k (k+n)),.int .i64 0,.int .i64 (k:Int)],.int .i64 0])∧Since w w':=by
 have HN:=lH (fun W=>afterName_any s k W hk hs)
 rw[upto_is hw rfl] at HN
 have hle:=word_le ((L s).drop k)
 rw[hw,List.length_drop,L_len] at hle
 simp only at hle
 have hn0:=(word_pos (l:=(L s).drop k) (by rw[hw]; simp)).1
 rw[hw] at hn0
 simp only at hn0
 have g2:(k:Int)+(n:Int)≤(s.size:Int):=by omega
 have g5:((k:Int)+(n:Int)).toNat=k+n:=by omega
 have g6:(((k+n:Nat):Int) == (k:Int))=false:=by rw[beq_eq_false_iff_ne]; omega
 have HT:=lH (fun W=>newToken_any 1 0 (k:Int) (s.extract k (k+n)) W (by rw[ByteArray.size_extract]; omega))
 have HB:=lH (fun (W:World) (h:Since (w.alloc (.cells #[.int .i64 0,.string ⟨#[]⟩,.int .i64 0,.int .i64 0] 76)) W)=>(Bx.new h rfl:Bx W w.heap.size #[.int .i64 0,.string ⟨#[]⟩,.int .i64 0,.int .i64 0] 76))
 have hK:=Since.refl (w.alloc (.cells #[.int .i64 0,.string ⟨#[]⟩,.int .i64 0,.int .i64 0] 76))
 clear hw
 go_enter Tryz.func23,Tryz.ntmps23
 go_wp2_with (first
  | (go_at_call 39; (with_reducible refine (HN.out _).mono ?_); rintro e w1 ⟨rfl,h⟩; have hK:=hK.trans h; obtain⟨q0,q1,q2,q3⟩:=(HB.out _ hK).four; obtain⟨f0,f1,f2,f3⟩:=(HB.out _ hK).four')
  | (go_at_call 40; (with_reducible refine (HT.out _).mono ?_); rintro e w5 ⟨rfl,h⟩; have hK:=hK.trans h; obtain⟨q0,q1,q2,q3⟩:=(HB.out _ hK).four; obtain⟨f0,f1,f2,f3⟩:=(HB.out _ hK).four'))
 refine bodyPost_ret (v:=.tuple #[.agg #[.int .i64 1,.string (s.extract k (k+n)),.int .i64 0,.int .i64 (k:Int)],.int .i64 0]) ?_ rfl ?_
 · simp[results,Tryz.results23,go_sem,q0,q1,q2,q3]
 · exact⟨rfl,since_put4 ((sA _ _).trans hK) (Nat.le_refl _) _ _ _ _⟩
theorem tok_sign (s:ByteArray) (k n:Nat) (w:World) (hk:k<s.size) (hs:s.size≤100000) (hw:word ((L s).drop k)=(3,n)) :
 Calls Tryz.prog 23 #[.string s,.int .i64 (k:Int)] w fun e w'=>e = .returned (.tuple #[.agg #[.int .i64 3,.string (s.extract k (k+n)),.int .i64 0,.int .i64 (k:Int)],.int .i64 0])∧Since w w':=by
 have HN:=lH (fun W=>afterName_any s k W hk hs)
 rw[upto_not (j:=1) hw (by decide)] at HN
 have HS:=lH (fun W=>afterSign_any s k W hk hs)
 rw[upto_is hw rfl] at HS
 have hle:=word_le ((L s).drop k)
 rw[hw,List.length_drop,L_len] at hle
 simp only at hle
 have hn0:=(word_pos (l:=(L s).drop k) (by rw[hw]; simp)).1
 rw[hw] at hn0
 simp only at hn0
 have g2:(k:Int)+(n:Int)≤(s.size:Int):=by omega
 have g5:((k:Int)+(n:Int)).toNat=k+n:=by omega
 have g6:(((k+n:Nat):Int) == (k:Int))=false:=by rw[beq_eq_false_iff_ne]; omega
 have HT:=lH (fun W=>newToken_any 3 0 (k:Int) (s.extract k (k+n)) W (by rw[ByteArray.size_extract]; omega))
 have HB:=lH (fun (W:World) (h:Since (w.alloc (.cells #[.int .i64 0,.string ⟨#[]⟩,.int .i64 0,.int .i64 0] 76)) W)=>(Bx.new h rfl:Bx W w.heap.size #[.int .i64 0,.string ⟨#[]⟩,.int .i64 0,.int .i64 0] 76))
 have hK:=Since.refl (w.alloc (.cells #[.int .i64 0,.string ⟨#[]⟩,.int .i64 0,.int .i64 0] 76))
 clear hw
 go_enter Tryz.func23,Tryz.ntmps23
 go_wp2_with (first
  | (go_at_call 39; (with_reducible refine (HN.out _).mono ?_); rintro e w1 ⟨rfl,h⟩; have hK:=hK.trans h; obtain⟨q0,q1,q2,q3⟩:=(HB.out _ hK).four; obtain⟨f0,f1,f2,f3⟩:=(HB.out _ hK).four')
  | (go_at_call 41; (with_reducible refine (HS.out _).mono ?_); rintro e w2 ⟨rfl,rfl⟩)
  | (go_at_call 40; (with_reducible refine (HT.out _).mono ?_); rintro e w5 ⟨rfl,h⟩; have hK:=hK.trans h; obtain⟨q0,q1,q2,q3⟩:=(HB.out _ hK).four; obtain⟨f0,f1,f2,f3⟩:=(HB.out _ hK).four'))
 refine bodyPost_ret (v:=.tuple #[.agg #[.int .i64 3,.string (s.extract k (k+n)),.int .i64 0,.int .i64 (k:Int)],.int .i64 0]) ?_ rfl ?_
 · simp[results,Tryz.results23,go_sem,q0,q1,q2,q3]
 · exact⟨rfl,since_put4 ((sA _ _).trans hK) (Nat.le_refl _) _ _ _ _⟩
theorem tok_form (s:ByteArray) (k n:Nat) (w:World) (hk:k<s.size) (hs:s.size≤100000) (hw:word ((L s).drop k)=(0,n)) :
 Calls Tryz.prog 23 #[.string s,.int .i64 (k:Int)] w fun e w'=>e = .returned (.tuple #[.agg #[.int .i64 0,.string ⟨#[]⟩,.int .i64 0,.int .i64 0],.int .i64 5])∧Since w w':=by
 have HN:=lH (fun W=>afterName_any s k W hk hs)
 rw[upto_not (j:=1) hw (by decide)] at HN
 have HS:=lH (fun W=>afterSign_any s k W hk hs)
 rw[upto_not (j:=3) hw (by decide)] at HS
 have HM:=lH (fun W=>afterNumber_any s k W hk hs)
 rw[upto_not (j:=2) hw (by decide)] at HM
 have hle:=word_le ((L s).drop k)
 rw[hw,List.length_drop,L_len] at hle
 simp only at hle
 have HB:=lH (fun (W:World) (h:Since (w.alloc (.cells #[.int .i64 0,.string ⟨#[]⟩,.int .i64 0,.int .i64 0] 76)) W)=>(Bx.new h rfl:Bx W w.heap.size #[.int .i64 0,.string ⟨#[]⟩,.int .i64 0,.int .i64 0] 76))
 have hK:=Since.refl (w.alloc (.cells #[.int .i64 0,.string ⟨#[]⟩,.int .i64 0,.int .i64 0] 76))
 clear hw
 go_enter Tryz.func23,Tryz.ntmps23
 go_wp2_with (first
  | (go_at_call 39; (with_reducible refine (HN.out _).mono ?_); rintro e w1 ⟨rfl,h⟩; have hK:=hK.trans h; obtain⟨q0,q1,q2,q3⟩:=(HB.out _ hK).four; obtain⟨f0,f1,f2,f3⟩:=(HB.out _ hK).four')
  | (go_at_call 41; (with_reducible refine (HS.out _).mono ?_); rintro e w2 ⟨rfl,rfl⟩)
  | (go_at_call 42; (with_reducible refine (HM.out _).mono ?_); rintro e w3 ⟨rfl,rfl⟩))
 refine bodyPost_ret (v:=.tuple #[.agg #[.int .i64 0,.string ⟨#[]⟩,.int .i64 0,.int .i64 0],.int .i64 5]) ?_ rfl ?_
 · simp[results,Tryz.results23,go_sem,q0,q1,q2,q3]
 · exact⟨rfl,since_put4 ((sA _ _).trans hK) (Nat.le_refl _) _ _ _ _⟩
theorem tok_num (s:ByteArray) (k n:Nat) (w:World) (hk:k<s.size) (hs:s.size≤100000) (hw:word ((L s).drop k)=(2,n)) {v:Int} (hv:intD (((L s).drop k).take n)=v) (hf:fits v) :
 Calls Tryz.prog 23 #[.string s,.int .i64 (k:Int)] w fun e w'=>e = .returned (.tuple #[.agg #[.int .i64 2,.string (s.extract k (k+n)),.int .i64 v,.int .i64 (k:Int)],.int .i64 0])∧Since w w':=by
 have HN:=lH (fun W=>afterName_any s k W hk hs)
 rw[upto_not (j:=1) hw (by decide)] at HN
 have HS:=lH (fun W=>afterSign_any s k W hk hs)
 rw[upto_not (j:=3) hw (by decide)] at HS
 have HM:=lH (fun W=>afterNumber_any s k W hk hs)
 rw[upto_is hw rfl] at HM
 have hle:=word_le ((L s).drop k)
 rw[hw,List.length_drop,L_len] at hle
 simp only at hle
 have hn0:=(word_pos (l:=(L s).drop k) (by rw[hw]; simp)).1
 rw[hw] at hn0
 simp only at hn0
 have g2:(k:Int)+(n:Int)≤(s.size:Int):=by omega
 have g5:((k:Int)+(n:Int)).toNat=k+n:=by omega
 have g6:(((k+n:Nat):Int) == (k:Int))=false:=by rw[beq_eq_false_iff_ne]; omega
 have HP:=lH (fun W=>parse_yes s k n W hs hw hv hf)
 have HT:=lH (fun W=>newToken_any 2 v (k:Int) (s.extract k (k+n)) W (by rw[ByteArray.size_extract]; omega))
 clear hv hf
 have HB:=lH (fun (W:World) (h:Since (w.alloc (.cells #[.int .i64 0,.string ⟨#[]⟩,.int .i64 0,.int .i64 0] 76)) W)=>(Bx.new h rfl:Bx W w.heap.size #[.int .i64 0,.string ⟨#[]⟩,.int .i64 0,.int .i64 0] 76))
 have hK:=Since.refl (w.alloc (.cells #[.int .i64 0,.string ⟨#[]⟩,.int .i64 0,.int .i64 0] 76))
 clear hw
 go_enter Tryz.func23,Tryz.ntmps23
 go_wp2_with (first
  | (go_at_call 39; (with_reducible refine (HN.out _).mono ?_); rintro e w1 ⟨rfl,h⟩; have hK:=hK.trans h; obtain⟨q0,q1,q2,q3⟩:=(HB.out _ hK).four; obtain⟨f0,f1,f2,f3⟩:=(HB.out _ hK).four')
  | (go_at_call 41; (with_reducible refine (HS.out _).mono ?_); rintro e w2 ⟨rfl,rfl⟩)
  | (go_at_call 42; (with_reducible refine (HM.out _).mono ?_); rintro e w3 ⟨rfl,rfl⟩)
  | (go_at_call 43; (with_reducible refine (HP.out _ ).mono ?_); rintro e w4 ⟨rfl,h⟩; have hK:=hK.trans h; obtain⟨q0,q1,q2,q3⟩:=(HB.out _ hK).four; obtain⟨f0,f1,f2,f3⟩:=(HB.out _ hK).four')
  | (go_at_call 40; (with_reducible refine (HT.out _).mono ?_); rintro e w5 ⟨rfl,h⟩; have hK:=hK.trans h; obtain⟨q0,q1,q2,q3⟩:=(HB.out _ hK).four; obtain⟨f0,f1,f2,f3⟩:=(HB.out _ hK).four'))
 refine bodyPost_ret (v:=.tuple #[.agg #[.int .i64 2,.string (s.extract k (k+n)),.int .i64 v,.int .i64 (k:Int)],.int .i64 0]) ?_ rfl ?_
 · simp[results,Tryz.results23,go_sem,q0,q1,q2,q3]
 · exact⟨rfl,since_put4 ((sA _ _).trans hK) (Nat.le_refl _) _ _ _ _⟩
theorem tok_over (s:ByteArray) (k n:Nat) (w:World) (hk:k<s.size) (hs:s.size≤100000) (hw:word ((L s).drop k)=(2,n)) (he:ErrIn w) (hf:¬ fits (intD (((L s).drop k).take n))) :
 Calls Tryz.prog 23 #[.string s,.int .i64 (k:Int)] w fun e w'=>e = .returned (.tuple #[.agg #[.int .i64 0,.string ⟨#[]⟩,.int .i64 0,.int .i64 0],.int .i64 4])∧Since w w':=by
 have HN:=lH (fun W=>afterName_any s k W hk hs)
 rw[upto_not (j:=1) hw (by decide)] at HN
 have HS:=lH (fun W=>afterSign_any s k W hk hs)
 rw[upto_not (j:=3) hw (by decide)] at HS
 have HM:=lH (fun W=>afterNumber_any s k W hk hs)
 rw[upto_is hw rfl] at HM
 have hle:=word_le ((L s).drop k)
 rw[hw,List.length_drop,L_len] at hle
 simp only at hle
 have hn0:=(word_pos (l:=(L s).drop k) (by rw[hw]; simp)).1
 rw[hw] at hn0
 simp only at hn0
 have g2:(k:Int)+(n:Int)≤(s.size:Int):=by omega
 have g5:((k:Int)+(n:Int)).toNat=k+n:=by omega
 have g6:(((k+n:Nat):Int) == (k:Int))=false:=by rw[beq_eq_false_iff_ne]; omega
 have HP:=lH (fun W (h:ErrIn W)=>parse_no s k n W h hs hw hf)
 clear hf
 have HB:=lH (fun (W:World) (h:Since (w.alloc (.cells #[.int .i64 0,.string ⟨#[]⟩,.int .i64 0,.int .i64 0] 76)) W)=>(Bx.new h rfl:Bx W w.heap.size #[.int .i64 0,.string ⟨#[]⟩,.int .i64 0,.int .i64 0] 76))
 have hK:=Since.refl (w.alloc (.cells #[.int .i64 0,.string ⟨#[]⟩,.int .i64 0,.int .i64 0] 76))
 clear hw
 go_enter Tryz.func23,Tryz.ntmps23
 go_wp2_with (first
  | (go_at_call 39; (with_reducible refine (HN.out _).mono ?_); rintro e w1 ⟨rfl,h⟩; have hK:=hK.trans h; obtain⟨q0,q1,q2,q3⟩:=(HB.out _ hK).four; obtain⟨f0,f1,f2,f3⟩:=(HB.out _ hK).four')
  | (go_at_call 41; (with_reducible refine (HS.out _).mono ?_); rintro e w2 ⟨rfl,rfl⟩)
  | (go_at_call 42; (with_reducible refine (HM.out _).mono ?_); rintro e w3 ⟨rfl,rfl⟩)
  | (go_at_call 43; (with_reducible refine (HP.out _ (he.since ((sA _ _).trans hK))).mono ?_); rintro e w4 ⟨x,N,rfl,h⟩; have hK:=hK.trans h; obtain⟨q0,q1,q2,q3⟩:=(HB.out _ hK).four; obtain⟨f0,f1,f2,f3⟩:=(HB.out _ hK).four'))
 refine bodyPost_ret (v:=.tuple #[.agg #[.int .i64 0,.string ⟨#[]⟩,.int .i64 0,.int .i64 0],.int .i64 4]) ?_ rfl ?_
 · simp[results,Tryz.results23,go_sem,q0,q1,q2,q3]
 · exact⟨rfl,since_put4 ((sA _ _).trans hK) (Nat.le_refl _) _ _ _ _⟩
theorem tok_ok (s:ByteArray) (k kd n:Nat) (w:World) (hk:k<s.size) (hs:s.size≤100000) (hw:word ((L s).drop k)=(kd,n)) (h0:kd≠0) {v:Int} (hv:v=if kd=2 then intD (((L s).drop k).take n) else 0) (hf:kd=2→fits (intD (((L s).drop k).take n))) :
 Calls Tryz.prog 23 #[.string s,.int .i64 (k:Int)] w fun e w'=>e = .returned (.tuple #[.agg #[.int .i64 (kd:Int),.string (s.extract k (k+n)),.int .i64 v,.int .i64 (k:Int)],.int .i64 0])∧Since w w':=by
 have h3:=word_kind ((L s).drop k)
 rw[hw] at h3
 simp only at h3
 have h4:kd=1∨kd=2∨kd=3:=by omega
 rcases h4 with rfl | rfl | rfl
 · rw[if_neg (by decide)] at hv; subst hv; exact tok_name s k n w hk hs hw
 · rw[if_pos rfl] at hv; subst hv; exact tok_num s k n w hk hs hw rfl (hf rfl)
 · rw[if_neg (by decide)] at hv; subst hv; exact tok_sign s k n w hk hs hw
end Go.Proofs.YtjmmcnldfkjebaaGreatDoor.Lex
namespace Go.Proofs.YtjmmcnldfkjebaaGreatDoor.Lex
open Go.RowKit
set_option linter.unusedVariables false
set_option linter.unusedSimpArgs false
open Dig Lx Tk
theorem info_ltok:(Tryz.prog.info? 76).map (fun i=>(i.zero,i.size,i.bytes))=some (some (.agg #[.int .i64 0,.string ⟨#[]⟩,.int .i64 0,.int .i64 0]),4,40):=by kernel_rfl
theorem space_start (s:ByteArray) (w:World) (hs:s.size≤100000) :
 Calls Tryz.prog 22 #[.string s,.int .i64 0] w fun e w'=>e = .returned (.int .i64 ((endF s 0:Nat):Int))∧Since w w':=afterSpace_any s 0 w (Nat.zero_le _) hs
theorem space_next (s:ByteArray) (k n:Nat) (w:World) (hk:k+n≤s.size) (hs:s.size≤100000) {R:Nat} (hR:endF s (k+n)=k+n+R) :
 Calls Tryz.prog 22 #[.string s,.int .i64 ((k:Int)+(n:Int))] w fun e w'=>e = .returned (.int .i64 ((k+n+R:Nat):Int))∧Since w w':=by
 have h:=afterSpace_any s (k+n) w hk hs
 rw[hR] at h
 exact h
theorem tok_bad (s:ByteArray) (k n:Nat) (w:World) (hk:k<s.size) (hs:s.size≤100000) (he:ErrIn w) {kd:Nat} (hw:word ((L s).drop k)=(kd,n)) {er:Int} (h:(kd=0∧er=5)∨(kd=2∧¬ fits (intD (((L s).drop k).take n))∧er=4)) :
 Calls Tryz.prog 23 #[.string s,.int .i64 (k:Int)] w fun e w'=>e = .returned (.tuple #[.agg #[.int .i64 0,.string ⟨#[]⟩,.int .i64 0,.int .i64 0],.int .i64 er])∧Since w w':=by
 rcases h with ⟨rfl,rfl⟩ | ⟨rfl,hf,rfl⟩
 · exact tok_form s k n w hk hs hw
 · exact tok_over s k n w hk hs hw he hf
theorem part_len (s:ByteArray) (k n:Nat) (h:k+n≤s.size):∃ T:ByteArray,Hid (T=s.extract k (k+n))∧T.size=n:=⟨_,rfl,by rw[ByteArray.size_extract]; omega⟩
theorem stay_app {wr W w2:World} {base b:Nat} {e:TypeId} {size n:Nat} {v:Value} {xs:List Value} {cs:Array Value} {t:TypeId} (hown:wr.ownsRow base e size v n xs) (hb:wr.heap.size≤b) (h:Bx W b cs t) (hg:W.grownBy w2 v.ownBlock):Bx w2 b cs t:=by
 have hl:=h.lt
 unfold Bx at *
 rw[hg.block b hl (fun hx=>by have:=(hown.lt b hx.symm).2; omega)]
 exact h
theorem split_any (s:ByteArray) (w:World) (he:ErrIn w) (hs:s.size≤100000) :
 Calls Tryz.prog 13 #[.string s] w (RetT (splitD (L s)) w):=by
 obtain⟨i0,hi,hz0,hz1,hz2⟩:=info_parts info_ltok
 by_cases hbig:8192<s.size
 · have HB:=lH (show splitD (L s)=([],0,3) from if_pos (by rw[L_len]; exact hbig))
   go_enter Tryz.func13,Tryz.ntmps13
   go_wp2
   go_ret3
   exact RetT.no HB.out (Since.refl _)
 obtain⟨r,hr⟩:∃ r,r=splitD (L s):=⟨_,rfl⟩
 have HR:=lH (show lexA (L s) (endF s 0) []=r by rw[hr,splitD,if_neg (by rw[L_len]; omega)]; unfold endF; rw[Nat.zero_add,List.drop_zero])
 rw[← hr]
 clear hr
 have hE:=endF_le (s:=s) (Nat.zero_le _)
 have hs':s.size≤8192:=by omega
 obtain⟨k0,hk0⟩:∃ k0,k0=endF s 0:=⟨_,rfl⟩
 have BS:=lH (fun W=>space_start s W (by omega))
 rw[← hk0] at HR BS hE
 clear hk0
 have EI:=lH he
 clear he
 go_enter Tryz.func13,Tryz.ntmps13
 go_wp2_with (go_at_call 22; (with_reducible refine (BS.out _).mono ?_); rintro e w1 ⟨rfl,h1⟩)
 go_loopw [5,6] (fun out i wr=>∃ (k m:Nat) (A:Option Addr) (c:Nat) (acc:List Tok),k≤s.size∧i = .int .i64 (k:Int)∧out = .slice A m c∧Hid (acc.length=m)∧m≤4096∧Hid (wr.ownsRow w.heap.size 76 4 (.slice A m c) m (tcells (acc.map tv)))∧Hid (lexA (L s) k acc=r)∧Since w wr) (fun _ i _=>s.size - (intOf i).toNat)
 case atStart=>exact⟨k0,0,none,0,[],hE.2,rfl,rfl,rfl,by omega,World.ownsRow_nil _ _ _ _,HR.out,h1⟩
 case round =>
  obtain⟨k,m,A,c,acc,hk,rfl,rfl,HM,hm,HO,HL,hw⟩:=hrel
  by_cases hlt:k<s.size
  · have hlt':k<(L s).length:=by rw[L_len]; exact hlt
    by_cases hmax:m=4096
    · have HF:=lH (HL.out.symm.trans (lexA_big hlt' (by rw[HM.out]; exact hmax)))
      have hz:((m:Int) == 4096)=true:=by rw[beq_iff_eq]; omega
      clear hmax
      go_wp2
      go_ret3
      exact RetT.no HF.out hw
    have hz:((m:Int) == 4096)=false:=by rw[beq_eq_false_iff_ne]; omega
    have hmm:m+1≤4096:=by omega
    have HX:=lH (show acc.length≠4096 by rw[HM.out]; exact hmax)
    clear hmax
    obtain⟨kd,n,hkn⟩:∃ kd n,word ((L s).drop k)=(kd,n):=⟨_,_,rfl⟩
    have hle:=word_le ((L s).drop k)
    rw[hkn,List.length_drop,L_len] at hle
    simp only at hle
    by_cases hbad:kd=0∨(kd=2∧¬ fits (intD (((L s).drop k).take n)))
    · obtain⟨er,her,her5,hF⟩:∃ er:Int,((kd=0∧er=5)∨(kd=2∧¬ fits (intD (((L s).drop k).take n))∧er=4))∧(er=5∨er=4)∧lexA (L s) k acc=([],k,er):=by
       rcases hbad with rfl | ⟨rfl,hf⟩
       · exact⟨5,.inl ⟨rfl,rfl⟩,.inl rfl,lexA_form hlt' HX.out (by rw[hkn])⟩
       · exact⟨4,.inr ⟨rfl,hf,rfl⟩,.inr rfl,lexA_over hlt' HX.out (by rw[hkn]) (by rw[hkn]; exact hf)⟩
      have TB:=lH (fun W (h:ErrIn W)=>tok_bad s k n W hlt (by omega) h hkn her)
      have HF:=lH (HL.out.symm.trans hF)
      have hne:(er != 0)=true:=by rw[bne_iff_ne]; omega
      clear hbad her hF hkn her5
      go_wp2_with (go_at_call 23; (with_reducible refine (TB.out _ (EI.out.since hw)).mono ?_); rintro e w4 ⟨rfl,hx⟩)
      go_ret3
      exact RetT.no HF.out ((hw.trans hx).alloc _)
    have h0:kd≠0:=fun h=>hbad (.inl h)
    have hf:kd=2→fits (intD (((L s).drop k).take n)):=fun h=>Decidable.by_contra fun g=>hbad (.inr ⟨h,g⟩)
    clear hbad
    have hn0:=(word_pos (l:=(L s).drop k) (by rw[hkn]; exact h0)).1
    rw[hkn] at hn0
    simp only at hn0
    obtain⟨v,hv⟩:∃ v,v=if kd=2 then intD (((L s).drop k).take n) else 0:=⟨_,rfl⟩
    have hE2:=endF_le (s:=s) (k:=k+n) (by omega)
    obtain⟨R,hR⟩:∃ R,endF s (k+n)=k+n+R:=⟨endF s (k+n) - (k+n),by omega⟩
    have hRs:k+n+R≤s.size:=by omega
    have BN:=lH (fun W=>space_next s k n W (by omega) (by omega) hR)
    have hnx:=next_end s k
    rw[hkn] at hnx
    simp only at hnx
    rw[hR] at hnx
    have hst:=HL.out.symm.trans (lexA_step hlt' HX.out (by rw[hkn]; exact h0) (fun h=>by rw[hkn] at h ⊢; exact hf h))
    rw[hnx] at hst
    have HST:=lH hst
    have TX:=tok_txt s k n
    have ht:tv (tokD ((L s).drop k) k)=⟨(kd:Int),s.extract k (k+n),v,(k:Int)⟩:=by rw[hv]; unfold tokD tv; simp only[hkn,TX]
    have TO:=lH (fun W=>tok_ok s k kd n W hlt (by omega) hkn h0 hv hf)
    obtain⟨T,HTT,hTn⟩:=part_len s k n (by omega)
    rw[← HTT.out] at TO ht
    have HT:=lH ht
    clear ht TX hst hnx hE2 hR hv hf h0 hkn HTT
    go_wp2_with (first
     | (go_at_call 23; (with_reducible refine (TO.out _).mono ?_); rintro e w4 ⟨rfl,hx⟩)
     | (at_builtin; refine wpList_append_own _ rfl _ _ 54 rfl w.heap.size 76 i0 (.agg #[.int .i64 0,.string ⟨#[]⟩,.int .i64 0,.int .i64 0]) 4 40 Tryz.underlying54 hi hz0 hz1 hz2 rfl (by decide) _ _ _ rfl (owns_since HO.out ((hx.alloc _).alloc _)) ⟨w4.heap.size+1,0,none⟩ 1 1 [.int .i64 (kd:Int),.string T,.int .i64 v,.int .i64 (k:Int)] rfl rfl ?c1 ?c2 ?c3 ?c4 ?c5 ?_))
    case c1 =>
     intro j u hj
     match j,hj with
     | 0,hj=>simp at hj; subst hj; simp[Addr.add]
     | 1,hj=>simp at hj; subst hj; simp[Addr.add]
     | 2,hj=>simp at hj; subst hj; simp[Addr.add]
     | 3,hj=>simp at hj; subst hj; simp[Addr.add]
    case c2=>intro u hu; simp at hu; rcases hu with rfl | rfl | rfl | rfl <;> rfl
    case c3=>unfold maxLen; omega
    case c4=>omega
    case c5=>have:=(hw.trans hx).size; simp; omega
    intro v' w2 hown' hgrow _
    have hs1:Since w w2:=Below.grown (((hw.trans hx).alloc _).alloc _) hgrow (by have:=(hw.trans hx).size; simp; omega) (fun g hg=>(HO.out.lt g hg).1)
    have ho1:w2.ownsRow w.heap.size 76 4 v' (m+1) (tcells ((acc ++ [tokD ((L s).drop k) k]).map tv)):=by
     rw[List.map_append,tcells_append,List.map_cons,List.map_nil,tcells_one,HT.out]; exact hown'
    have gb:=stay_app HO.out hx.size ((Bx.fresh w4 #[.int .i64 (kd:Int),.string T,.int .i64 v,.int .i64 (k:Int)] 76).since (sA _ _)) hgrow
    obtain⟨q0,q1,q2,q3⟩:=gb.four
    clear hown' hgrow gb
    obtain⟨A',c',rfl⟩:=owns_slice ho1
    have HO1:=lH ho1
    clear ho1
    go_wp2_with (go_at_call 22; (with_reducible refine (BN.out _).mono ?_); rintro e w3 ⟨rfl,hy⟩)
    go_roundw
    case rel=>exact⟨k+n+R,m+1,A',c',_,hRs,by go_num,rfl,by show _=_; rw[List.length_append,HM.out]; rfl,hmm,owns_since HO1.out hy,HST.out.symm,hs1.trans hy⟩
    case measure=>simp[intOf]; omega
  · obtain rfl:k=s.size:=by omega
    have HF:=lH (HL.out.symm.trans (lexA_end (by rw[L_len]; exact Nat.le_refl _)))
    have HQ:=lH (Toks.own HO.out)
    clear HO
    go_wp2
    go_ret3
    exact RetT.yes HF.out HM.out HQ.out hw
end Go.Proofs.YtjmmcnldfkjebaaGreatDoor.Lex
