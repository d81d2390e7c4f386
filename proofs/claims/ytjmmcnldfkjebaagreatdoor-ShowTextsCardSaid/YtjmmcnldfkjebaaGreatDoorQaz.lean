/- What afterSign and newToken of the landed lex give back. What strconv.ParseInt gives back of a number's bytes. -/
import Derived.Deep.DeepCutAuto
import Derived.Test.YtjmmcnldfkjebaaGreatDoorVc
import Derived.Test.YtjmmcnldfkjebaaGreatDoorShelf
import Derived.Laws.DeepStrings4
import Derived.Lib.ParseIntB
import Derived.FnData
import Derived.LaidLaws
import Derived.LaidMore
import Derived.Lib.AppendIntMem
import Derived.Lib.SmallJoins
import Derived.Test.YtjmmcnldfkjebaaGreatDoorQaw
set_option maxHeartbeats 1000000
set_option linter.unusedVariables false
set_option linter.unusedSimpArgs false
section
namespace Go.Proofs.YtjmmcnldfkjebaaGreatDoor.Lex
open Go.RowKit
open Dig Lx Tk
abbrev shorts:List UInt8:=[58,123,125,91,93,40,41,44,59,61]
theorem index_pos:∀ (l:List UInt8) (c:UInt8),(0≤Lib.indexByte l c↔l.any (· == c)=true) ∧ -1≤Lib.indexByte l c
 | [],c=>by simp[Lib.indexByte]
 | b :: l,c=>by
  have ⟨h1,h2⟩:=index_pos l c
  rw[List.any_cons]
  by_cases h:(b == c)=true
  · have e:Lib.indexByte (b :: l) c=0:=by rw[Lib.indexByte,if_pos h]
    rw[e,h]; simp
  · have h':(b == c)=false:=by simpa using h
    rw[h',Bool.false_or,← h1]
    by_cases h3:(Lib.indexByte l c == -1)=true
    · have e:Lib.indexByte (b :: l) c = -1:=by rw[Lib.indexByte,if_neg h,if_pos h3]
      rw[beq_iff_eq] at h3
      rw[e,h3]; simp
    · have e:Lib.indexByte (b :: l) c=Lib.indexByte l c+1:=by rw[Lib.indexByte,if_neg h,if_neg h3]
      rw[beq_iff_eq] at h3
      rw[e]; omega
theorem short_sign (c:UInt8):shorts.any (· == c)=signB c:=by
 rw[Bool.eq_iff_iff]
 simp only[List.any_cons,List.any_nil,Bool.or_false,Bool.or_eq_true,beq_iff_eq,signB,decide_eq_true_eq]
 have e:∀ n:UInt8,n=c↔c.toNat=n.toNat:=fun n=>⟨fun h=>by rw[h],fun h=>(UInt8.toNat_inj.1 h).symm⟩
 simp only[e]
 exact Iff.rfl
theorem index_any (c:UInt8) (w:World) :
 Calls Tryz.prog 72 #[.string ⟨#[58,123,125,91,93,40,41,44,59,61]⟩,.int .u8 (c.toNat:Int)] w fun e w'=>∃ i:Int,e = .returned (.int .i64 i)∧decide (0≤i)=signB c ∧ -1≤i∧w=w':=by
 refine (Sh.strings_IndexByte ⟨#[58,123,125,91,93,40,41,44,59,61]⟩ (c.toNat:Int) w).mono ?_
 rintro e w' ⟨rfl,rfl⟩
 have hc:(c.toNat:Int).toNat.toUInt8=c:=by simp
 rw[hc]
 have h:=index_pos shorts c
 exact⟨_,rfl,by rw[Bool.eq_iff_iff,decide_eq_true_iff,← short_sign]; exact h.1,h.2,rfl⟩
theorem prefix_any (s:ByteArray) (a b:UInt8) (p:ByteArray) (hp:p.data.toList = [a,b]) (w:World) {r:Bool} (hr : [a,b].isPrefixOf (L s)=r) :
 Calls Tryz.prog 71 #[.string s,.string p] w fun e w'=>e = .returned (.bool r)∧w=w':=by
 refine (Sh.strings_HasPrefix s p w).mono ?_
 rintro e w' ⟨rfl,rfl⟩
 refine⟨?_,rfl⟩
 rw[← hr,hp]; rfl
theorem two_pre {s:ByteArray} {k:Nat} (h:k<s.size) (a b:UInt8) : [a,b].isPrefixOf ((L s).drop k)=(a == s[k] && decide (∃ g:k+1<s.size,b=s[k+1])):=by
 rw[L_drop s k h]
 by_cases g:k+1<s.size
 · rw[L_drop s (k+1) g]
   rw[Bool.eq_iff_iff]
   simp[List.isPrefixOf,g]
 · rw[L_end s (k+1) (by omega)]
   rw[Bool.eq_iff_iff]
   simp[List.isPrefixOf,g]
def twoB (a:UInt8) (s:ByteArray) (k:Nat):Bool:=[a,a].isPrefixOf ((L s).drop k)
theorem two_word {s:ByteArray} {k:Nat} (h:k<s.size) (ht:twoB 58 s k=true∨twoB 46 s k=true):word ((L s).drop k)=(3,2):=by
 unfold twoB at ht
 rw[two_pre h,two_pre h] at ht
 simp only[Bool.and_eq_true,beq_iff_eq,decide_eq_true_eq] at ht
 rcases ht with ⟨h1,g,h2⟩ | ⟨h1,g,h2⟩
 · exact word_two g (.inl (by rw[← h1]; rfl)) (by rw[← h1,← h2])
 · exact word_two g (.inr (by rw[← h1]; rfl)) (by rw[← h1,← h2])
theorem two_not {s:ByteArray} {k:Nat} (h:k<s.size) {a:UInt8} (ht:twoB a s k=false) (h1:s[k].toNat=a.toNat) (g:k+1<s.size):s[k+1].toNat≠a.toNat:=by
 intro h2
 unfold twoB at ht
 rw[two_pre h] at ht
 have e1:a=s[k]:=(UInt8.toNat_inj.1 h1).symm
 have e2:a=s[k+1]:=(UInt8.toNat_inj.1 h2).symm
 have:(a == s[k] && decide (∃ g:k+1<s.size,a=s[k+1]))=true:=by
  rw[Bool.and_eq_true,beq_iff_eq,decide_eq_true_eq]; exact⟨e1,g,e2⟩
 rw[this] at ht; cases ht
theorem sign_upto {s:ByteArray} {k:Nat} (h:k<s.size) (h1:twoB 58 s k=false) (h2:twoB 46 s k=false):upto 3 s k=if signB s[k]=true then k+1 else k:=by
 by_cases hs:signB s[k]=true
 · rw[if_pos hs]
   unfold upto
   rw[word_one h hs (fun e g=>two_not h h1 e g),if_pos rfl]
 · rw[if_neg hs]
   unfold upto
   rw[if_neg]
   intro hw
   rw[L_drop s k h] at hw
   simp only[word] at hw
   by_cases a1:letterB s[k]=true
   · rw[if_pos a1] at hw; simp at hw
   rw[if_neg a1] at hw
   by_cases a2:digB s[k]=true
   · rw[if_pos a2] at hw; simp at hw
   rw[if_neg a2] at hw
   split at hw
   · simp at hw
   split at hw
   · rename_i a4
     obtain⟨a5,a6⟩:=a4
     by_cases g:k+1<s.size
     · have a7:=(head_at g).1 a6
       rcases a5 with a5 | a5
       · exact two_not h h1 a5 g (by rw[a7]; exact a5)
       · exact two_not h h2 a5 g (by rw[a7]; exact a5)
     · rw[L_end s _ (by omega)] at a6; simp at a6
   · simp at hw
theorem rest_at {s:ByteArray} {k:Nat} (h:k<s.size):(s.extract k s.size).size=s.size - k∧L (s.extract k s.size)=(L s).drop k:=by
 refine⟨by rw[ByteArray.size_extract]; omega,?_⟩
 rw[L_extract _ _ _ (by omega),List.take_of_length_le (by rw[List.length_drop,L_len]; exact Nat.le_refl _)]
theorem rest_first {s:ByteArray} {k:Nat} (h:k<s.size) (g:0<(s.extract k s.size).size):(s.extract k s.size)[0]=s[k]:=
 ByteArray.getElem_extract (start:=k) (stop:=s.size) (b:=s) (i:=0) g
theorem rest_all {s:ByteArray} {k:Nat} (h:k<s.size):∃ T:ByteArray,Hid (T=s.extract k s.size)∧∃ g:0<T.size,L T=(L s).drop k∧T[0]=s[k]:=by
 obtain⟨r1,r2⟩:=rest_at h
 exact⟨_,rfl,by omega,r2,rest_first h (by omega)⟩
theorem afterSign_any (s:ByteArray) (k:Nat) (w:World) (hk:k<s.size) (hs:s.size≤100000) :
 Calls Tryz.prog 41 #[.string s,.int .i64 (k:Int)] w fun e w'=>e = .returned (.int .i64 ((upto 3 s k:Nat):Int))∧w=w':=by
 obtain⟨T,HT,gT,r2,r3⟩:=rest_all hk
 have hne:T.toList.isEmpty=false:=by
  rw[ByteArray.toList_eq,List.isEmpty_eq_false_iff]
  intro h; have hz:T.data.toList.length=T.size:=Array.length_toList; rw[h] at hz; simp at hz; omega
 have hne2:¬ T.toList = []:=by intro h; rw[h] at hne; simp at hne
 have HP1:=lH (fun (W:World)=>prefix_any T 58 58 ⟨#[58,58]⟩ rfl W (r:=twoB 58 s k) (by rw[r2]; rfl))
 have HP2:=lH (fun (W:World)=>prefix_any T 46 46 ⟨#[46,46]⟩ rfl W (r:=twoB 46 s k) (by rw[r2]; rfl))
 have HI:=lH (fun (W:World)=>index_any T[0] W)
 rw[r3] at HI
 clear r2
 by_cases h1:twoB 58 s k=true
 · have HU:=lH (show upto 3 s k=k+2 by unfold upto; rw[two_word hk (.inl h1),if_pos rfl])
   rw[h1] at HP1
   clear h1
   go_enter Tryz.func41,Tryz.ntmps41
   go_upto_region 2 with fail
   rw[← HT.out]
   go_wp2_with (go_at_call 71; (with_reducible refine (HP1.out _).mono ?_); rintro e w1 ⟨rfl,rfl⟩)
   go_ret
   exact⟨ret_int (congrArg (fun n:Nat=>(n:Int)) HU.out.symm),rfl⟩
 have h1':twoB 58 s k=false:=by simpa using h1
 by_cases h2:twoB 46 s k=true
 · have HU:=lH (show upto 3 s k=k+2 by unfold upto; rw[two_word hk (.inr h2),if_pos rfl])
   rw[h1'] at HP1
   rw[h2] at HP2
   clear h1 h1' h2
   go_enter Tryz.func41,Tryz.ntmps41
   go_upto_region 2 with fail
   rw[← HT.out]
   go_wp2_with (first
    | (go_at_call 71; (with_reducible refine (HP1.out _).mono ?_); rintro e w1 ⟨rfl,rfl⟩)
    | (go_at_call 71; (with_reducible refine (HP2.out _).mono ?_); rintro e w1 ⟨rfl,rfl⟩))
   go_ret
   exact⟨ret_int (congrArg (fun n:Nat=>(n:Int)) HU.out.symm),rfl⟩
 have h2':twoB 46 s k=false:=by simpa using h2
 have HU:=lH (sign_upto hk h1' h2')
 rw[h1'] at HP1
 rw[h2'] at HP2
 clear h1 h1' h2 h2'
 by_cases h3:signB s[k]=true
 · have HU2:=lH (HU.out.trans (if_pos h3))
   rw[h3] at HI
   clear h3
   go_enter Tryz.func41,Tryz.ntmps41
   go_upto_region 2 with fail
   rw[← HT.out]
   go_wp2_with (first
    | (go_at_call 71; (with_reducible refine (HP1.out _).mono ?_); rintro e w1 ⟨rfl,rfl⟩)
    | (go_at_call 71; (with_reducible refine (HP2.out _).mono ?_); rintro e w1 ⟨rfl,rfl⟩)
    | (go_at_call 72; (try rw[r3]); (with_reducible refine (HI.out _).mono ?_); rintro e w1 ⟨i,rfl,hi1,hi2,rfl⟩))
   go_ret
   exact⟨ret_int (congrArg (fun n:Nat=>(n:Int)) HU2.out.symm),rfl⟩
 · have HU2:=lH (HU.out.trans (if_neg h3))
   rw[show signB s[k]=false by simpa using h3] at HI
   clear h3
   go_enter Tryz.func41,Tryz.ntmps41
   go_upto_region 2 with fail
   rw[← HT.out]
   go_wp2_with (first
    | (go_at_call 71; (with_reducible refine (HP1.out _).mono ?_); rintro e w1 ⟨rfl,rfl⟩)
    | (go_at_call 71; (with_reducible refine (HP2.out _).mono ?_); rintro e w1 ⟨rfl,rfl⟩)
    | (go_at_call 72; (try rw[r3]); (with_reducible refine (HI.out _).mono ?_); rintro e w1 ⟨i,rfl,hi1,hi2,rfl⟩))
   go_ret
   exact⟨ret_int (congrArg (fun n:Nat=>(n:Int)) HU2.out.symm),rfl⟩
theorem clone_any (s:ByteArray) (w:World) (hs:s.size≤100000) :
 Calls Tryz.prog 70 #[.string s] w fun e w'=>e = .returned (.string s)∧Since w w':=by
 have HC:=lH (fun (W:World)=>Sh.stringslite_Clone s W (by omega))
 go_enter Tryz.func70,Tryz.ntmps70
 go_wp2_with (go_at_call 99; (with_reducible refine (HC.out _).mono ?_); rintro e w1 ⟨rfl,hx⟩)
 go_ret
 exact⟨rfl,hx⟩
theorem keep4 {w W:World} {z0 z1 z2 z3:Value} {t:TypeId} (h:Since (w.alloc (.cells #[z0,z1,z2,z3] t)) W):Bx W w.heap.size #[z0,z1,z2,z3] t:=Bx.new h rfl
theorem newToken_any (kd v a:Int) (s:ByteArray) (w:World) (hs:s.size≤100000) :
 Calls Tryz.prog 40 #[.int .i64 kd,.string s,.int .i64 v,.int .i64 a] w fun e w'=>e = .returned (.agg #[.int .i64 kd,.string s,.int .i64 v,.int .i64 a])∧Since w w':=by
 have HC:=lH (fun (W:World)=>clone_any s W hs)
 go_enter Tryz.func40,Tryz.ntmps40
 go_wp2_with (go_at_call 70; (with_reducible refine (HC.out _).mono ?_); rintro e w1 ⟨rfl,hx⟩; have gb:=keep4 hx; obtain⟨q0,q1,q2,q3⟩:=gb.four; obtain⟨f0,f1,f2,f3⟩:=gb.four')
 refine bodyPost_ret (v:=.agg #[.int .i64 kd,.string s,.int .i64 v,.int .i64 a]) ?_ rfl ?_
 · simp[results,Tryz.results40,go_sem,q0,q1,q2,q3]
 · exact⟨rfl,since_put4 ((sA _ _).trans hx) (Nat.le_refl _) _ _ _ _⟩
end Go.Proofs.YtjmmcnldfkjebaaGreatDoor.Lex
end
section
namespace Go.Proofs.YtjmmcnldfkjebaaGreatDoor.Lex
open Go.RowKit
open Dig Lx Tk
def AllDig (l:Bs):Prop:=∀ c ∈ l,48≤c.toNat∧c.toNat≤57
def undecA (acc:Nat) (l:Bs):Nat:=l.foldl (fun n b=>10*n+(b.toNat - 48)) acc
theorem undecA_ge:∀ (l:Bs) (acc:Nat),acc≤undecA acc l
 | [],acc=>Nat.le_refl _
 | c :: r,acc=>by
  have:=undecA_ge r (10*acc+(c.toNat - 48))
  show acc≤undecA (10*acc+(c.toNat - 48)) r
  omega
theorem uint_dig {M:Nat} (hM:M=18446744073709551615):∀ (l:Bs) (acc:Nat),AllDig l→acc≤M→Lib.parseUintM M acc l=if undecA acc l≤M then .ok (undecA acc l) else .range
 | [],acc,_,h=>by
  show Lib.NumEnd.ok acc=if acc≤M then .ok acc else .range
  rw[if_pos h]
 | c :: r,acc,hd,h=>by
  have hc:=hd c (by simp)
  have hr:AllDig r:=fun x hx=>hd x (by simp[hx])
  have e:undecA acc (c :: r)=undecA (10*acc+(c.toNat - 48)) r:=rfl
  have hge:=undecA_ge r (10*acc+(c.toNat - 48))
  rw[e,Lib.parseUintM,if_pos hc]
  by_cases h1:1844674407370955162≤acc
  · rw[if_pos h1,if_neg (by omega)]
  rw[if_neg h1]
  by_cases h2:M<acc*10+(c.toNat - 48)
  · rw[if_pos h2,if_neg (by omega)]
  rw[if_neg h2,uint_dig hM r _ hr (by omega),Nat.mul_comm acc 10]
theorem uint_all {l:Bs} (hd:AllDig l) (h:l ≠ []):Lib.parseUintB 64 l=if undec l≤18446744073709551615 then .ok (undec l) else .range:=by
 unfold Lib.parseUintB
 rw[if_neg h]
 exact uint_dig (M:=2 ^ 64 - 1) (by decide) l 0 hd (Nat.zero_le _)
theorem int_plus {l:Bs} (hd:AllDig l) (h:l ≠ []):Lib.parseIntB 64 l=if undec l<9223372036854775808 then .ok (undec l:Int) else .range:=by
 cases l with
 | nil=>exact absurd rfl h
 | cons c r =>
  have hc:=hd c (by simp)
  have e1:¬ (c.toNat=43∨c.toNat=45):=by omega
  have e2:¬ c.toNat=45:=by omega
  generalize hu:undec (c :: r)=u
  have h3:=uint_all hd h
  rw[hu] at h3
  unfold Lib.parseIntB
  have e3:¬ c.toNat=43:=by omega
  simp only[e2,e3,or_self,if_false,not_false_eq_true,true_and,false_and,h3]
  by_cases h4:u≤18446744073709551615
  · rw[if_pos h4]
    simp only
    by_cases h5:u<9223372036854775808
    · rw[if_pos h5,if_neg (by simp only[Nat.reducePow,Nat.reduceSub]; omega)]
    · rw[if_neg h5,if_pos (by simp only[Nat.reducePow,Nat.reduceSub]; omega)]
  · rw[if_neg h4,if_neg (by omega)]
theorem int_minus {c:UInt8} {r:Bs} (hc:c.toNat=45) (hd:AllDig r) (h:r ≠ []):Lib.parseIntB 64 (c :: r)=if undec r≤9223372036854775808 then .ok (-(undec r:Int)) else .range:=by
 have e1:c.toNat=43∨c.toNat=45:=.inr hc
 generalize hu:undec r=u
 have h3:=uint_all hd h
 rw[hu] at h3
 unfold Lib.parseIntB
 simp only[hc,or_true,if_true,not_true_eq_false,true_and,false_and,if_false,h3]
 by_cases h4:u≤18446744073709551615
 · rw[if_pos h4]
   simp only
   by_cases h5:u≤9223372036854775808
   · rw[if_pos h5,if_neg (by simp only[Nat.reducePow,Nat.reduceSub]; omega)]
   · rw[if_neg h5,if_pos (by simp only[Nat.reducePow,Nat.reduceSub]; omega)]
 · rw[if_neg h4,if_neg (by omega)]
def NumBs (l:Bs):Prop:=(AllDig l∧l ≠ [])∨∃ c r,l=c :: r∧c.toNat=45∧AllDig r∧r ≠ []
theorem parse_numbs {l:Bs} (h:NumBs l):Lib.parseIntB 64 l=if fits (intD l) then .ok (intD l) else .range:=by
 rcases h with ⟨h1,h2⟩ | ⟨c,r,rfl,hc,h1,h2⟩
 · rw[int_plus h1 h2]
   have e:intD l=(undec l:Int):=by
    unfold intD
    rw[if_neg]
    intro h3
    cases l with
    | nil=>exact h2 rfl
    | cons c r =>
     have:=h1 c (by simp)
     injection h3 with h3
     rw[h3] at this
     exact absurd this.1 (by decide)
   rw[e]
   by_cases h:undec l<9223372036854775808
   · rw[if_pos h,if_pos (by unfold fits; omega)]
   · rw[if_neg h,if_neg (by unfold fits; omega)]
 · rw[int_minus hc h1 h2]
   have e:intD (c :: r) = -(undec r:Int):=by
    unfold intD
    rw[if_pos]
    · rfl
    · show some c=some 45
      rw[show c=45 from UInt8.toNat_inj.1 hc]
   rw[e]
   by_cases h:undec r≤9223372036854775808
   · rw[if_pos h,if_pos (by unfold fits; omega)]
   · rw[if_neg h,if_neg (by unfold fits; omega)]
theorem run_take_all (p:UInt8→Bool):∀ l:Bs,∀ c ∈ l.take (run p l),p c=true
 | [],c,h=>by simp at h
 | a :: t,c,h=>by
  by_cases ha:p a=true
  · simp only[run,if_pos ha,Nat.add_comm 1,List.take_succ_cons,List.mem_cons] at h
    rcases h with rfl | h
    · exact ha
    · exact run_take_all p t c h
  · simp[run,if_neg ha] at h
theorem dig_all {l:Bs} (h:∀ c ∈ l,digB c=true):AllDig l:=fun c hc=>by have:=h c hc; simpa [digB] using this
theorem numbs_word {l:Bs} (h:(word l).1=2):NumBs (l.take (word l).2):=by
 cases l with
 | nil=>simp[word] at h
 | cons c t =>
  have hr:=dig_all (run_take_all digB t)
  by_cases h1:letterB c=true
  · simp[word,h1] at h
  by_cases h2:digB c=true
  · have e:word (c :: t)=(2,run digB t+1):=by simp only[word,if_neg h1,if_pos h2,Nat.add_comm]
    rw[e]
    show NumBs ((c :: t).take (run digB t+1))
    rw[List.take_succ_cons]
    refine .inl ⟨?_,by simp⟩
    intro x hx
    rcases List.mem_cons.1 hx with rfl | hx
    · simpa [digB] using h2
    · exact hr x hx
  by_cases h3:c.toNat=45∧0<run digB t
  · have e:word (c :: t)=(2,run digB t+1):=by simp only[word,if_neg h1,if_neg h2,if_pos h3,Nat.add_comm]
    rw[e]
    show NumBs ((c :: t).take (run digB t+1))
    rw[List.take_succ_cons]
    refine .inr ⟨c,_,rfl,h3.1,hr,?_⟩
    intro h4
    have h5:(t.take (run digB t)).length=0:=by rw[h4]; rfl
    rw[List.length_take] at h5
    have h6:=run_le digB t
    omega
  · simp only[word,if_neg h1,if_neg h2,if_neg h3] at h
    split at h
    · simp at h
    split at h <;> simp at h
def ErrIn (w:World):Prop:=∃ ev,w.cell? ⟨1,0,none⟩=some ev∧(ev = .nilIface∨∃ te pe,ev = .iface te pe)
theorem ErrIn.since {w w':World} (h:ErrIn w) (k:Since w w'):ErrIn w':=by
 obtain⟨ev,h1,h2⟩:=h
 exact⟨ev,(k.cell _ (World.block_lt_of_cell? _ _ h1)).trans h1,h2⟩
theorem parse_yes (s:ByteArray) (k n:Nat) (w:World) (hs:s.size≤100000) (h:word ((L s).drop k)=(2,n)) {v:Int} (hv:intD (((L s).drop k).take n)=v) (hf:fits v) :
 Calls Tryz.prog 43 #[.string (s.extract k (k+n)),.int .i64 10,.int .i64 64] w fun e w'=>e = .returned (.tuple #[.int .i64 v,.nilIface])∧Since w w':=by
 have hb:=parse_numbs (numbs_word (l:=(L s).drop k) (by rw[h]))
 rw[h] at hb
 simp only at hb
 rw[hv,if_pos hf] at hb
 have hL:(s.extract k (k+n)).data.toList=((L s).drop k).take n:=by
  have:=L_extract s k (k+n) (by omega)
  rw[show k+n - k=n by omega] at this
  exact this
 rw[← hL] at hb
 refine (Sh.strconv_ParseInt_10_at64_ok (s.extract k (k+n)) (by rw[ByteArray.size_extract]; omega) v hb w).mono ?_
 rintro e w' ⟨rfl,hw⟩
 refine⟨rfl,?_⟩
 rcases hw with rfl | ⟨t,rfl⟩
 · exact Since.refl _
 · exact Lib.bytesWorld_below _ _ _
theorem parse_no (s:ByteArray) (k n:Nat) (w:World) (hw:ErrIn w) (hs:s.size≤100000) (h:word ((L s).drop k)=(2,n)) (hf:¬ fits (intD (((L s).drop k).take n))) :
 Calls Tryz.prog 43 #[.string (s.extract k (k+n)),.int .i64 10,.int .i64 64] w fun e w'=>∃ (x:Int) (N:Nat),e = .returned (.tuple #[.int .i64 x,.iface 153 (.pointer (some ⟨N,0,none⟩))])∧Since w w':=by
 have hb:=parse_numbs (numbs_word (l:=(L s).drop k) (by rw[h]))
 rw[h] at hb
 simp only at hb
 rw[if_neg hf] at hb
 have hL:(s.extract k (k+n)).data.toList=((L s).drop k).take n:=by
  have:=L_extract s k (k+n) (by omega)
  rw[show k+n - k=n by omega] at this
  exact this
 rw[← hL] at hb
 obtain⟨ev,h1,h2⟩:=hw
 refine (Sh.strconv_ParseInt_10_at64_range (s.extract k (k+n)) (by rw[ByteArray.size_extract]; omega) hb ev w h1 h2).mono ?_
 rintro e w' ⟨N,rfl,-,-,hx⟩
 exact⟨_,N,rfl,hx⟩
end Go.Proofs.YtjmmcnldfkjebaaGreatDoor.Lex
end
section
namespace Go.Proofs.YtjmmcnldfkjebaaGreatDoor.Lex
open Go.RowKit
theorem laid_mem {P:Program} {w:World} {n:String} {d:DataW Unit} : ∀ {l:List (String × DataW Unit)} {ps:List MemPlace},DataW.LaidVars P w l ps→(n,d) ∈ l →
 ∃ g t cs fuel p,P.globalNamed n=some g∧(P.globals[g]?).map (·.type)=some t∧w.var? P n=some cs∧DataW.trod (fun _=>()) P w 0 (fun _=>true) false fuel t cs.toList=some (d,p)
 | [],_,_,hm=>by simp at hm
 | (m,x) :: r,ps,⟨g,t,cs,fuel,p,q,h1,h2,h3,h4,hs,_⟩,hm=>by
  rcases List.mem_cons.1 hm with e | hm
  · injection e with e1 e2
    subst e1 e2
    exact⟨g,t,cs,fuel,p,h1,h2,h3,h4⟩
  · exact laid_mem hs hm
theorem err_global : Tryz.prog.globalNamed "strconv.ErrRange" = some 1 := by kernel_rfl
theorem err_type:(Tryz.prog.globals[(1:Nat)]?).map (·.type)=some 70:=by kernel_rfl
theorem err_of {w : World} {l : List (String × DataW Unit)} (h : laidMetH Tryz.prog l w) (hp : (l.filter fun x => x.2.handleName?.isSome) = []) {nm : String} {d : DataW Unit} (hm : ("strconv.ErrRange", .iface nm d) ∈ l) : ErrIn w := by
 unfold laidMetH at h
 rw[hp] at h
 obtain⟨ps,h1,_⟩:=h
 obtain⟨g,t,cs,fuel,p,hg,ht,hv,hd⟩:=laid_mem h1 hm
 obtain rfl:=Option.some.inj (err_global.symm.trans hg)
 obtain rfl:=Option.some.inj (err_type.symm.trans ht)
 obtain⟨f1,u,v,hcs,hn,h2⟩:=iface_of_trod Tryz.underlying70 hd
 refine⟨.iface u v,?_,.inr ⟨u,v,rfl⟩⟩
 rw[World.var?_cell hg hv 0,← Array.getElem?_toList,hcs]
 rfl
end Go.Proofs.YtjmmcnldfkjebaaGreatDoor.Lex
end
section
namespace Go.Proofs.YtjmmcnldfkjebaaGreatDoor.Sh
open Go.RowKit
open Dig Lx Ps
def TabIn (w : World) : Prop := Lib.TabIs Tryz.prog w "internal/strconv.uint64pow10" .u64 Lib.pow10Tab
theorem tab_global : Tryz.prog.globalNamed "internal/strconv.uint64pow10" = some 3 := by kernel_rfl
theorem tab_type:(Tryz.prog.globals[(3:Nat)]?).map (·.type)=some 210:=by kernel_rfl
theorem tab_cells : Tryz.prog.cellsOf 210=20:=by kernel_rfl
theorem tab_cell : Tryz.prog.cellsOf 139=1:=by kernel_rfl
theorem tab_under : Tryz.prog.underlying 210=some (.array 20 139):=Tryz.underlying210
theorem tab_elem : Tryz.prog.underlying 139=some (.int .u64):=Tryz.underlying139
theorem TabIn.since {w w':World} (h:TabIn w) (k:Since w w'):TabIn w':=
 Joins.tab_stays (B:=w.heap.size) tab_global h k (Nat.le_refl _)
theorem tab_of {w : World} {l : List (String × DataW Unit)} (h : laidMetH Tryz.prog l w) (hp : (l.filter fun x => x.2.handleName?.isSome) = []) (hm : ("internal/strconv.uint64pow10", Lib.tabData .u64 Lib.pow10Tab) ∈ l) : TabIn w := by
 unfold laidMetH at h
 rw[hp] at h
 obtain⟨ps,h1,_⟩:=h
 obtain⟨g,t,cs,fuel,p,hg,ht,hv,hd⟩:=Lex.laid_mem h1 hm
 obtain rfl:=Option.some.inj (tab_global.symm.trans hg)
 obtain rfl:=Option.some.inj (tab_type.symm.trans ht)
 unfold TabIn Lib.TabIs
 rw[hv,← Lib.cells_of_tab tab_under tab_elem tab_cell tab_cells hd]
theorem format_any (n:Int) (hn:fits n) (w:World) (hw:TabIn w) :
 Calls Tryz.prog 117 #[.int .i64 n,.int .i64 10] w fun e w'=>e = .returned (.string ⟨(Lib.itoa n).toArray⟩)∧Since w w':=by
 refine (Sh.strconv_FormatInt_10 n hn.1 (by have:=hn.2; omega) w hw).mono ?_
 rintro e w' ⟨rfl,k,os,rfl⟩
 exact⟨rfl,Lib.below_grow _ w (Nat.le_refl _) k os⟩
end Go.Proofs.YtjmmcnldfkjebaaGreatDoor.Sh
end
