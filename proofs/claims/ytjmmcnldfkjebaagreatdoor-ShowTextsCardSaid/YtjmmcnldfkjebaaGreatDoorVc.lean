/- What the small calls of the landed lex give back: isBlank, isLetter, isDigit, and after at isDigit. What the l -/
import Derived.Test.YtjmmcnldfkjebaaGreatDoorVa
set_option maxHeartbeats 1000000
namespace Go.Proofs.YtjmmcnldfkjebaaGreatDoor.Lex
open Go.RowKit
set_option linter.unusedVariables false
set_option linter.unusedSimpArgs false
open Dig Lx
theorem letter_any (c:UInt8) (w:World) :
 Calls Tryz.prog 68 #[.int .u8 (c.toNat:Int)] w fun e w'=>e = .returned (.bool (letterB c))∧w=w':=by
 obtain⟨n,hn⟩:∃ n,n=c.toNat:=⟨_,rfl⟩
 have H:=lH (show letterB c=(decide (97≤n∧n≤122) || decide (65≤n∧n≤90) || decide (n=95)) by rw[hn]; rfl)
 rw[← hn]
 clear hn
 go_enter Tryz.func68,Tryz.ntmps68
 go_wp2
 all_goals (go_ret; refine⟨ret_bool ?_,rfl⟩; rw[H.out,Bool.eq_iff_iff]; simp; try omega)
theorem digit_any (c:UInt8) (w:World) :
 Calls Tryz.prog 69 #[.int .u8 (c.toNat:Int)] w fun e w'=>e = .returned (.bool (digB c))∧w=w':=by
 obtain⟨n,hn⟩:∃ n,n=c.toNat:=⟨_,rfl⟩
 have H:=lH (show digB c=decide (48≤n∧n≤57) by rw[hn]; rfl)
 rw[← hn]
 clear hn
 go_enter Tryz.func69,Tryz.ntmps69
 go_wp2
 all_goals (go_ret; refine⟨ret_bool ?_,rfl⟩; rw[H.out,Bool.eq_iff_iff]; simp; try omega)
theorem blank_any (c:UInt8) (w:World) :
 Calls Tryz.prog 38 #[.int .u8 (c.toNat:Int)] w fun e w'=>e = .returned (.bool (whiteB c))∧w=w':=by
 obtain⟨n,hn⟩:∃ n,n=c.toNat:=⟨_,rfl⟩
 have H:=lH (show whiteB c=decide (n=32∨n=9∨n=10∨n=13) by rw[hn]; rfl)
 rw[← hn]
 clear hn
 go_enter Tryz.func38,Tryz.ntmps38
 go_wp2
 all_goals (go_ret; refine⟨ret_bool ?_,rfl⟩; rw[H.out,Bool.eq_iff_iff]; simp; try omega)
theorem after_digit (s:ByteArray) (k:Nat) (w:World) (hk:k≤s.size) (hs:s.size≤100000) :
 Calls Tryz.prog 36 #[.string s,.int .i64 (k:Int),.func (.func 69) #[] #[]] w fun e w'=>e = .returned (.int .i64 ((runE digB s k:Nat):Int))∧w=w':=by
 go_enter Tryz.func36,Tryz.ntmps36
 go_wp2
 go_loop [1] (fun i=>∃ j:Nat,i = .int .i64 (j:Int)∧k≤j∧j≤s.size∧Hid (runE digB s j=runE digB s k)) (fun i=>s.size - (intOf i).toNat)
 case atStart=>exact⟨k,rfl,Nat.le_refl _,hk,rfl⟩
 case round =>
  obtain⟨j,rfl,hj1,hj2,HE⟩:=hrel
  by_cases hlt:j<s.size
  · have HD:=lH (fun (W:World)=>digit_any s[j] W)
    by_cases hd:digB s[j]=true
    · have HE2:=lH ((runE_step hlt hd).symm.trans HE.out)
      rw[hd] at HD
      clear hd
      go_wp2_with (go_at_call 69; (with_reducible refine (HD.out _).mono ?_); rintro e w1 ⟨rfl,rfl⟩)
      go_round
      case rel=>exact⟨j+1,by go_num,by omega,by omega,HE2.out⟩
      case measure=>simp[intOf]; omega
    · have hd':digB s[j]=false:=by simpa using hd
      have HE2:=lH ((runE_stop hlt hd').symm.trans HE.out)
      rw[hd'] at HD
      clear hd hd'
      go_wp2_with (go_at_call 69; (with_reducible refine (HD.out _).mono ?_); rintro e w1 ⟨rfl,rfl⟩)
      go_ret
      exact⟨ret_int (congrArg (fun n:Nat=>(n:Int)) HE2.out),rfl⟩
  · obtain rfl:j=s.size:=by omega
    have HE2:=lH ((runE_end (Nat.le_refl _)).symm.trans HE.out)
    go_wp2
    go_ret
    exact⟨ret_int (congrArg (fun n:Nat=>(n:Int)) HE2.out),rfl⟩
end Go.Proofs.YtjmmcnldfkjebaaGreatDoor.Lex
namespace Go.Proofs.YtjmmcnldfkjebaaGreatDoor.Lex
open Go.RowKit
set_option linter.unusedVariables false
set_option linter.unusedSimpArgs false
open Dig Lx
def Upd (b:Nat) (w w':World):Prop:=∀ w0:World,Since w0 w→w0.heap.size≤b→Since w0 w'
theorem Upd.refl (b:Nat) (w:World):Upd b w w:=fun _ h _=>h
theorem Upd.set (w:World) (b:Nat) (i:Nat) (u:Value):Upd b w (w.setCell ⟨b,i,none⟩ u):=fun _ h hb=>h.set hb _
theorem Upd.trans {b:Nat} {x y z:World} (h:Upd b x y) (k:Upd b y z):Upd b x z:=fun w0 a hb=>k w0 (h w0 a hb) hb
def spN (st:Bool) (c:UInt8):Bool:=if c.toNat=37 then true else if c.toNat=10 then false else st
def endB (st:Bool) (s:ByteArray) (k:Nat):Nat:=if st=true then endT s k else endF s k
theorem endB_end {st:Bool} {s:ByteArray} {k:Nat} (h:s.size≤k):endB st s k=k:=by
 unfold endB; split
 · rw[endT_end h,endF_end h]
 · rw[endF_end h]
theorem endB_step {st:Bool} {s:ByteArray} {k:Nat} (h:k<s.size) (h2:(spN st s[k] || whiteB s[k])=true):endB st s k=endB (spN st s[k]) s (k+1):=by
 unfold spN at h2 ⊢
 by_cases h37:s[k].toNat=37
 · rw[if_pos h37]
   unfold endB
   rw[if_pos rfl]
   split
   · exact endT_step h (by omega)
   · rw[endF_cmt h h37]; exact endT_step h (by omega)
 rw[if_neg h37] at h2 ⊢
 by_cases h10:s[k].toNat=10
 · rw[if_pos h10]
   unfold endB
   cases st with
   | true=>simp only[if_true,Bool.false_eq_true,if_false]; rw[endT_nl h h10]; exact endF_white h (by omega)
   | false=>simp only[Bool.false_eq_true,if_false]; exact endF_white h (by omega)
 rw[if_neg h10] at h2 ⊢
 cases st with
 | true=>unfold endB; rw[if_pos rfl,if_pos rfl]; exact endT_step h h10
 | false =>
  unfold endB; rw[if_neg (by simp),if_neg (by simp)]
  refine endF_white h ?_
  simpa [whiteB] using h2
theorem endB_stop {st:Bool} {s:ByteArray} {k:Nat} (h:k<s.size) (h2:(spN st s[k] || whiteB s[k])=false):endB st s k=k:=by
 obtain⟨h3,h4⟩:=Bool.or_eq_false_iff.1 h2
 unfold spN at h3
 by_cases h37:s[k].toNat=37
 · rw[if_pos h37] at h3; simp at h3
 rw[if_neg h37] at h3
 have hw:¬ (s[k].toNat=32∨s[k].toNat=9∨s[k].toNat=10∨s[k].toNat=13):=by simpa [whiteB] using h4
 rw[if_neg (by omega)] at h3
 subst h3
 unfold endB; rw[if_neg (by simp)]
 exact endF_stop h h37 hw
theorem spc_bool {c:UInt8} {n:Nat} (hn:n=c.toNat):whiteB c=decide (n=32∨n=9∨n=10∨n=13):=by subst hn; rfl
def RetB (r:Bool) (b:Nat) (st:Bool) (t:TypeId) (w:World) (e:Ending) (w':World):Prop:=e = .returned (.bool r)∧Bx w' b #[.bool st] t∧Upd b w w'
theorem space_step (c:UInt8) (st:Bool) (b:Nat) (t:TypeId) (w:World) (hb:Bx w b #[.bool st] t) :
 Calls Tryz.prog 37 #[.int .u8 (c.toNat:Int),.pointer (some ⟨b,0,none⟩)] w (RetB (spN st c || whiteB c) b (spN st c) t w):=by
 have HW:=lH (fun (W:World)=>blank_any c W)
 have HB:=lH hb
 have q0:w.cell? ⟨b,0,none⟩=some (.bool st):=hb.cell 0
 have f0:w.frozen? ⟨b,0,none⟩=false:=hb.no 0
 have q1:∀ u,(w.setCell ⟨b,0,none⟩ u).cell? ⟨b,0,none⟩=some u:=fun u=>(Bx.cell (heap_setCell_same w b 0 _ t u hb) 0)
 have hs:=fun u=>heap_setCell_same w b 0 _ t u hb
 have HS:=lH hs
 clear hb hs
 by_cases h37:c.toNat=37
 · have e1:spN st c=true:=by unfold spN; rw[if_pos h37]
   have hz:((c.toNat:Int) == 37)=true:=by rw[beq_iff_eq]; omega
   rw[e1,Bool.true_or]
   have e2:=q1 (.bool true)
   clear h37 e1 q1
   go_enter Tryz.func37,Tryz.ntmps37
   go_wp2
   go_ret
   exact⟨rfl,HS.out _,Upd.set _ _ _ _⟩
 by_cases h10:c.toNat=10
 · have e1:spN st c=false:=by unfold spN; rw[if_neg h37,if_pos h10]
   have e3:whiteB c=true:=by rw[spc_bool rfl,decide_eq_true_iff]; omega
   have hz:((c.toNat:Int) == 37)=false:=by rw[beq_eq_false_iff_ne]; omega
   have hy:((c.toNat:Int) == 10)=true:=by rw[beq_iff_eq]; omega
   rw[e3] at HW
   rw[e1,e3,Bool.false_or]
   have e2:=q1 (.bool false)
   clear h37 h10 e1 e3 q1
   go_enter Tryz.func37,Tryz.ntmps37
   go_wp2_with (go_at_call 38; (with_reducible refine (HW.out _).mono ?_); rintro e w1 ⟨rfl,rfl⟩)
   go_ret
   exact⟨rfl,HS.out _,Upd.set _ _ _ _⟩
 have e1:spN st c=st:=by unfold spN; rw[if_neg h37,if_neg h10]
 have hz:((c.toNat:Int) == 37)=false:=by rw[beq_eq_false_iff_ne]; omega
 have hy:((c.toNat:Int) == 10)=false:=by rw[beq_eq_false_iff_ne]; omega
 rw[e1]
 clear h37 h10 e1 q1
 cases st with
 | true =>
  rw[Bool.true_or]
  go_enter Tryz.func37,Tryz.ntmps37
  go_wp2
  go_ret
  exact⟨rfl,HB.out,Upd.refl _ _⟩
 | false =>
  rw[Bool.false_or]
  generalize whiteB c=r at *
  go_enter Tryz.func37,Tryz.ntmps37
  go_wp2_with (go_at_call 38; (with_reducible refine (HW.out _).mono ?_); rintro e w1 ⟨rfl,rfl⟩)
  go_ret
  exact⟨rfl,HB.out,Upd.refl _ _⟩
theorem after_space (s:ByteArray) (k:Nat) (st:Bool) (b:Nat) (t:TypeId) (w:World) (hb:Bx w b #[.bool st] t) (hk:k≤s.size) (hs:s.size≤100000) :
 Calls Tryz.prog 36 #[.string s,.int .i64 (k:Int),.func (.func 37) #[] #[.pointer (some ⟨b,0,none⟩)]] w fun e w'=>e = .returned (.int .i64 ((endB st s k:Nat):Int))∧Upd b w w':=by
 have HB:=lH hb
 clear hb
 go_enter Tryz.func36,Tryz.ntmps36
 go_wp2
 go_loopw [1] (fun i wr=>∃ (j:Nat) (sn:Bool),i = .int .i64 (j:Int)∧k≤j∧j≤s.size∧Hid (endB sn s j=endB st s k)∧Hid (Bx wr b #[.bool sn] t)∧Hid (Upd b w wr)) (fun i _=>s.size - (intOf i).toNat)
 case atStart=>exact⟨k,st,rfl,Nat.le_refl _,hk,rfl,HB.out,Upd.refl _ _⟩
 case round =>
  obtain⟨j,sn,rfl,hj1,hj2,HE,HX,HU⟩:=hrel
  by_cases hlt:j<s.size
  · have HD:=lH (fun (W:World) (h:Bx W b #[.bool sn] t)=>space_step s[j] sn b t W h)
    by_cases hd:(spN sn s[j] || whiteB s[j])=true
    · have HE2:=lH ((endB_step hlt hd).symm.trans HE.out)
      rw[hd] at HD
      clear hd
      generalize spN sn s[j]=sm at *
      go_wp2_with (go_at_call 37; (with_reducible refine (HD.out _ HX.out).mono ?_); rintro e w1 ⟨rfl,hx,hu⟩)
      go_roundw
      case rel=>exact⟨j+1,sm,by go_num,by omega,by omega,HE2.out,hx,HU.out.trans hu⟩
      case measure=>simp[intOf]; omega
    · have hd':(spN sn s[j] || whiteB s[j])=false:=by simpa using hd
      have HE2:=lH ((endB_stop hlt hd').symm.trans HE.out)
      rw[hd'] at HD
      clear hd hd'
      generalize spN sn s[j]=sm at *
      go_wp2_with (go_at_call 37; (with_reducible refine (HD.out _ HX.out).mono ?_); rintro e w1 ⟨rfl,hx,hu⟩)
      go_ret
      exact⟨ret_int (congrArg (fun n:Nat=>(n:Int)) HE2.out),HU.out.trans hu⟩
  · obtain rfl:j=s.size:=by omega
    have HE2:=lH ((endB_end (Nat.le_refl _)).symm.trans HE.out)
    go_wp2
    go_ret
    exact⟨ret_int (congrArg (fun n:Nat=>(n:Int)) HE2.out),HU.out⟩
theorem afterSpace_any (s:ByteArray) (k:Nat) (w:World) (hk:k≤s.size) (hs:s.size≤100000) :
 Calls Tryz.prog 22 #[.string s,.int .i64 (k:Int)] w fun e w'=>e = .returned (.int .i64 ((endF s k:Nat):Int))∧Since w w':=by
 have HA:=lH (fun (W:World) (b:Nat) (h:Bx W b #[.bool false] 4)=>after_space s k false b 4 W h hk hs)
 clear hk hs
 go_enter Tryz.func22,Tryz.ntmps22
 go_wp2_with (go_at_call 36; (with_reducible refine (HA.out _ _ (Bx.fresh _ _ _)).mono ?_); rintro e w1 ⟨rfl,hu⟩)
 go_ret
 exact⟨rfl,hu _ (sA _ _) (Nat.le_refl _)⟩
end Go.Proofs.YtjmmcnldfkjebaaGreatDoor.Lex
namespace Go.Proofs.YtjmmcnldfkjebaaGreatDoor.Lex
open Go.RowKit
set_option linter.unusedVariables false
set_option linter.unusedSimpArgs false
open Dig Lx
def wn (bg:Bool) (c:UInt8):Bool:=letterB c || (bg && digB c)
def endN (bg:Bool) (s:ByteArray) (k:Nat):Nat:=if bg=true then runE wordB s k else if h:k<s.size then (if letterB s[k]=true then runE wordB s (k+1) else k) else k
theorem endN_end {bg:Bool} {s:ByteArray} {k:Nat} (h:s.size≤k):endN bg s k=k:=by
 unfold endN; split
 · exact runE_end h
 · rw[dif_neg (by omega)]
theorem endN_step {bg:Bool} {s:ByteArray} {k:Nat} (h:k<s.size) (h2:wn bg s[k]=true):endN bg s k=endN true s (k+1):=by
 unfold endN wn at *
 cases bg with
 | true =>
  simp only[if_true]
  exact runE_step h (by unfold wordB; simpa using h2)
 | false =>
  have hl:letterB s[k]=true:=by simpa using h2
  simp only[Bool.false_eq_true,if_false,if_true,dif_pos h,if_pos hl]
theorem endN_stop {bg:Bool} {s:ByteArray} {k:Nat} (h:k<s.size) (h2:wn bg s[k]=false):endN bg s k=k:=by
 unfold endN wn at *
 cases bg with
 | true =>
  simp only[if_true]
  exact runE_stop h (by unfold wordB; simpa using h2)
 | false =>
  have hl:¬ letterB s[k]=true:=by simpa using h2
  simp only[Bool.false_eq_true,if_false,dif_pos h,if_neg hl]
theorem name_step (c:UInt8) (bg:Bool) (b:Nat) (t:TypeId) (w:World) (hb:Bx w b #[.bool bg] t) :
 Calls Tryz.prog 67 #[.int .u8 (c.toNat:Int),.pointer (some ⟨b,0,none⟩)] w (RetB (wn bg c) b true t w):=by
 have HL:=lH (fun (W:World)=>letter_any c W)
 have HD:=lH (fun (W:World)=>digit_any c W)
 have q0:w.cell? ⟨b,0,none⟩=some (.bool bg):=hb.cell 0
 have f0:w.frozen? ⟨b,0,none⟩=false:=hb.no 0
 have HS:=lH (heap_setCell_same w b 0 _ t (.bool true) hb)
 clear hb
 have hr:wn bg c=(letterB c || (bg && digB c)):=rfl
 generalize letterB c=l at *
 generalize digB c=d at *
 rw[hr]
 clear hr
 cases l <;> cases bg <;> cases d <;>
 · go_enter Tryz.func67,Tryz.ntmps67
   go_wp2_with (first
    | (go_at_call 68; (with_reducible refine (HL.out _).mono ?_); rintro e w1 ⟨rfl,rfl⟩)
    | (go_at_call 69; (with_reducible refine (HD.out _).mono ?_); rintro e w1 ⟨rfl,rfl⟩))
   go_ret
   exact⟨rfl,HS.out,Upd.set _ _ _ _⟩
theorem after_name (s:ByteArray) (k:Nat) (st:Bool) (b:Nat) (t:TypeId) (w:World) (hb:Bx w b #[.bool st] t) (hk:k≤s.size) (hs:s.size≤100000) :
 Calls Tryz.prog 36 #[.string s,.int .i64 (k:Int),.func (.func 67) #[] #[.pointer (some ⟨b,0,none⟩)]] w fun e w'=>e = .returned (.int .i64 ((endN st s k:Nat):Int))∧Upd b w w':=by
 have HB:=lH hb
 clear hb
 go_enter Tryz.func36,Tryz.ntmps36
 go_wp2
 go_loopw [1] (fun i wr=>∃ (j:Nat) (sn:Bool),i = .int .i64 (j:Int)∧k≤j∧j≤s.size∧Hid (endN sn s j=endN st s k)∧Hid (Bx wr b #[.bool sn] t)∧Hid (Upd b w wr)) (fun i _=>s.size - (intOf i).toNat)
 case atStart=>exact⟨k,st,rfl,Nat.le_refl _,hk,rfl,HB.out,Upd.refl _ _⟩
 case round =>
  obtain⟨j,sn,rfl,hj1,hj2,HE,HX,HU⟩:=hrel
  by_cases hlt:j<s.size
  · have HD:=lH (fun (W:World) (h:Bx W b #[.bool sn] t)=>name_step s[j] sn b t W h)
    by_cases hd:wn sn s[j]=true
    · have HE2:=lH ((endN_step hlt hd).symm.trans HE.out)
      rw[hd] at HD
      clear hd
      go_wp2_with (go_at_call 67; (with_reducible refine (HD.out _ HX.out).mono ?_); rintro e w1 ⟨rfl,hx,hu⟩)
      go_roundw
      case rel=>exact⟨j+1,true,by go_num,by omega,by omega,HE2.out,hx,HU.out.trans hu⟩
      case measure=>simp[intOf]; omega
    · have hd':wn sn s[j]=false:=by simpa using hd
      have HE2:=lH ((endN_stop hlt hd').symm.trans HE.out)
      rw[hd'] at HD
      clear hd hd'
      go_wp2_with (go_at_call 67; (with_reducible refine (HD.out _ HX.out).mono ?_); rintro e w1 ⟨rfl,hx,hu⟩)
      go_ret
      exact⟨ret_int (congrArg (fun n:Nat=>(n:Int)) HE2.out),HU.out.trans hu⟩
  · obtain rfl:j=s.size:=by omega
    have HE2:=lH ((endN_end (Nat.le_refl _)).symm.trans HE.out)
    go_wp2
    go_ret
    exact⟨ret_int (congrArg (fun n:Nat=>(n:Int)) HE2.out),HU.out⟩
def upto (kd:Nat) (s:ByteArray) (k:Nat):Nat:=if (word ((L s).drop k)).1=kd then k+(word ((L s).drop k)).2 else k
theorem endN_word {s:ByteArray} {k:Nat} (h:k<s.size):endN false s k=upto 1 s k:=by
 unfold endN upto
 rw[if_neg (by simp),dif_pos h]
 by_cases hl:letterB s[k]=true
 · rw[if_pos hl,word_letter h hl,if_pos rfl]
   have:=(runE_le (p:=wordB) (show k+1≤s.size by omega)).1
   simp only; omega
 · rw[if_neg hl,if_neg]
   rw[L_drop s k h]
   simp only[word,if_neg hl]
   split
   · simp
   split
   · simp
   split
   · simp
   split <;> simp
theorem afterName_any (s:ByteArray) (k:Nat) (w:World) (hk:k<s.size) (hs:s.size≤100000) :
 Calls Tryz.prog 39 #[.string s,.int .i64 (k:Int)] w fun e w'=>e = .returned (.int .i64 ((upto 1 s k:Nat):Int))∧Since w w':=by
 have HA:=lH (fun (W:World) (b:Nat) (h:Bx W b #[.bool false] 4)=>after_name s k false b 4 W h (by omega) hs)
 rw[endN_word hk] at HA
 clear hk hs
 go_enter Tryz.func39,Tryz.ntmps39
 go_wp2_with (go_at_call 36; (with_reducible refine (HA.out _ _ (Bx.fresh _ _ _)).mono ?_); rintro e w1 ⟨rfl,hu⟩)
 go_ret
 exact⟨rfl,hu _ (sA _ _) (Nat.le_refl _)⟩
theorem no_word2 {s:ByteArray} {k:Nat} (h:k<s.size) (h1:digB s[k]=false) (h2:s[k].toNat≠45):(word ((L s).drop k)).1≠2:=by
 rw[L_drop s k h]
 simp only[word,h1,Bool.false_eq_true,if_false]
 split
 · simp
 rw[if_neg (by omega)]
 split
 · simp
 split <;> simp
theorem letter_no_dig {c:UInt8} (h:digB c=true):letterB c=false:=by
 have hd:48≤c.toNat∧c.toNat≤57:=by simpa [digB] using h
 have:¬ letterB c=true:=by simp only[letterB,Bool.or_eq_true,decide_eq_true_eq]; omega
 simpa using this
theorem after_digit1 (s:ByteArray) (k:Nat) (w:World) (hk:k+1≤s.size) (hs:s.size≤100000) :
 Calls Tryz.prog 36 #[.string s,.int .i64 ((k:Int)+1),.func (.func 69) #[] #[]] w fun e w'=>e = .returned (.int .i64 ((runE digB s (k+1):Nat):Int))∧w=w':=
 after_digit s (k+1) w hk hs
theorem afterNumber_any (s:ByteArray) (k:Nat) (w:World) (hk:k<s.size) (hs:s.size≤100000) :
 Calls Tryz.prog 42 #[.string s,.int .i64 (k:Int)] w fun e w'=>e = .returned (.int .i64 ((upto 2 s k:Nat):Int))∧w=w':=by
 by_cases h45:s[k].toNat=45
 · have HA:=lH (fun (W:World)=>after_digit1 s k W (by omega) hs)
   have hz:((s[k].toNat:Int) == 45)=true:=by rw[beq_iff_eq]; omega
   have hge:=(runE_le (p:=digB) (show k+1≤s.size by omega)).1
   by_cases hr:runE digB s (k+1)=k+1
   · have HU:=lH (show upto 2 s k=k by unfold upto; rw[word_lone hk h45 hr]; rfl)
     rw[hr] at HA
     have hy:(((k+1:Nat):Int) == (k:Int)+1)=true:=by rw[beq_iff_eq]; omega
     clear h45 hr hge
     go_enter Tryz.func42,Tryz.ntmps42
     go_wp2_with (go_at_call 36; (with_reducible refine (HA.out _).mono ?_); rintro e w1 ⟨rfl,rfl⟩)
     go_ret
     exact⟨ret_int (congrArg (fun n:Nat=>(n:Int)) HU.out.symm),rfl⟩
   · have HU:=lH (show upto 2 s k=runE digB s (k+1) by unfold upto; rw[word_minus hk h45 (by omega),if_pos rfl]; simp only; omega)
     obtain⟨R,hR⟩:∃ R,R=runE digB s (k+1):=⟨_,rfl⟩
     rw[← hR] at HA HU hr
     have hy:((R:Int) == (k:Int)+1)=false:=by rw[beq_eq_false_iff_ne]; omega
     clear h45 hr hge hR
     go_enter Tryz.func42,Tryz.ntmps42
     go_wp2_with (go_at_call 36; (with_reducible refine (HA.out _).mono ?_); rintro e w1 ⟨rfl,rfl⟩)
     go_ret
     exact⟨ret_int (congrArg (fun n:Nat=>(n:Int)) HU.out.symm),rfl⟩
 have hz:((s[k].toNat:Int) == 45)=false:=by rw[beq_eq_false_iff_ne]; omega
 have HA:=lH (fun (W:World)=>after_digit s k W (by omega) hs)
 by_cases hd:digB s[k]=true
 · have hge:=(runE_le (p:=digB) (show k+1≤s.size by omega)).1
   have HU:=lH (show upto 2 s k=runE digB s k by unfold upto; rw[word_digit hk (letter_no_dig hd) hd,if_pos rfl,runE_step hk hd]; simp only; omega)
   rw[← runE_step hk hd] at hge
   obtain⟨R,hR⟩:∃ R,R=runE digB s k:=⟨_,rfl⟩
   rw[← hR] at HA HU hge
   have hy:((R:Int) == (k:Int))=false:=by rw[beq_eq_false_iff_ne]; omega
   clear h45 hd hge hR
   go_enter Tryz.func42,Tryz.ntmps42
   go_wp2_with (go_at_call 36; (with_reducible refine (HA.out _).mono ?_); rintro e w1 ⟨rfl,rfl⟩)
   go_ret
   exact⟨ret_int (congrArg (fun n:Nat=>(n:Int)) HU.out.symm),rfl⟩
 · have hd':digB s[k]=false:=by simpa using hd
   have HU:=lH (show upto 2 s k=k from if_neg (no_word2 hk hd' h45))
   rw[runE_stop hk hd'] at HA
   have hy:((k:Int) == (k:Int))=true:=by rw[beq_iff_eq]
   clear h45 hd hd'
   go_enter Tryz.func42,Tryz.ntmps42
   go_wp2_with (go_at_call 36; (with_reducible refine (HA.out _).mono ?_); rintro e w1 ⟨rfl,rfl⟩)
   go_ret
   exact⟨ret_int (congrArg (fun n:Nat=>(n:Int)) HU.out.symm),rfl⟩
end Go.Proofs.YtjmmcnldfkjebaaGreatDoor.Lex
