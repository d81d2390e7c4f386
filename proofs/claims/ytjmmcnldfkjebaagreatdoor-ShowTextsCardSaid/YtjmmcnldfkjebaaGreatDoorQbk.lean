/- What the document's own letter, digit, blank and digits of layer 5 give back. What the document's own word of  -/
import Derived.Test.YtjmmcnldfkjebaaGreatDoorVa
import Derived.Laws.DeepStrings4
set_option maxHeartbeats 2000000
set_option linter.unusedVariables false
set_option linter.unusedSimpArgs false
section
namespace Go.Proofs.YtjmmcnldfkjebaaGreatDoor.Ref05
open Go.RowKit
open Dig Lx
theorem bne_no {n:Nat} {m:Int} (h:(n:Int)=m):((n:Int) != m)=false:=by rw[bne_eq_false_iff_eq]; exact h
theorem bne_yes {n:Nat} {m:Int} (h:(n:Int)≠m):((n:Int) != m)=true:=by rw[bne_iff_ne]; exact h
theorem letter_any (c:UInt8) (w:World) :
 Calls Tryz.prog 51 #[.int .u8 (c.toNat:Int)] w fun e w'=>e = .returned (.bool (letterB c))∧w=w':=by
 obtain⟨n,hn⟩:∃ n,n=c.toNat:=⟨_,rfl⟩
 have H:=lH (show letterB c=(decide (97≤n∧n≤122) || decide (65≤n∧n≤90) || decide (n=95)) by rw[hn]; rfl)
 rw[← hn]
 clear hn
 go_enter Tryz.func51,Tryz.ntmps51
 go_wp2
 all_goals (go_ret; refine⟨ret_bool ?_,rfl⟩; rw[H.out,Bool.eq_iff_iff]; simp; try omega)
theorem digit_any (c:UInt8) (w:World) :
 Calls Tryz.prog 52 #[.int .u8 (c.toNat:Int)] w fun e w'=>e = .returned (.bool (digB c))∧w=w':=by
 obtain⟨n,hn⟩:∃ n,n=c.toNat:=⟨_,rfl⟩
 have H:=lH (show digB c=decide (48≤n∧n≤57) by rw[hn]; rfl)
 rw[← hn]
 clear hn
 go_enter Tryz.func52,Tryz.ntmps52
 go_wp2
 all_goals (go_ret; refine⟨ret_bool ?_,rfl⟩; rw[H.out,Bool.eq_iff_iff]; simp; try omega)
theorem blank_any (s:ByteArray) (k:Nat) (w:World) (hk:k≤s.size) (hs:s.size≤100000) :
 Calls Tryz.prog 27 #[.string s,.int .i64 (k:Int)] w fun e w'=>e = .returned (.int .i64 ((endF s k - k:Nat):Int))∧w=w':=by
 go_enter Tryz.func27,Tryz.ntmps27
 go_wp2
 go_loop [5] (fun i=>∃ j:Nat,i = .int .i64 (j:Int)∧k≤j∧j≤s.size∧Hid (endF s j=endF s k)) (fun i=>s.size - (intOf i).toNat)
 case atStart=>exact⟨k,rfl,Nat.le_refl _,hk,rfl⟩
 case round =>
  obtain⟨j,rfl,hj1,hj2,HE⟩:=hrel
  by_cases hlt:j<s.size
  · by_cases h37:s[j].toNat=37
    · have h37':((s[j].toNat:Int) == 37)=true:=by rw[beq_iff_eq]; omega
      have H37:=lH h37
      clear h37
      have HT:=lH (show endT s j=endF s k by rw[← endF_cmt hlt H37.out]; exact HE.out)
      go_wp2
      go_loop [5] (fun i=>∃ m:Nat,i = .int .i64 (m:Int)∧j≤m∧m≤s.size∧Hid (endT s m=endF s k)) (fun i=>s.size - (intOf i).toNat)
      case atStart=>exact⟨j,rfl,Nat.le_refl _,hj2,HT⟩
      case round =>
       obtain⟨m,rfl,hm1,hm2,HM⟩:=hrel
       by_cases hlt2:m<s.size
       · by_cases h10:s[m].toNat=10
         · have h10':((s[m].toNat:Int) != 10)=false:=by rw[bne_eq_false_iff_eq]; omega
           have H10:=lH h10
           clear h10
           go_wp2
           go_round
           case rel=>exact⟨m,rfl,by omega,hm2,(endT_nl hlt2 H10.out).symm.trans HM.out⟩
           case measure =>
            have h1:=H10.out
            have h2:=H37.out
            have:j≠m:=by intro h; subst h; omega
            simp[intOf]; omega
         · have h10':((s[m].toNat:Int) != 10)=true:=by rw[bne_iff_ne]; omega
           have H10:=lH h10
           clear h10
           go_wp2
           go_round
           case rel=>exact⟨m+1,by go_num,by omega,by omega,(endT_step hlt2 H10.out).symm.trans HM.out⟩
           case measure=>simp[intOf]; omega
       · have:m=s.size:=by omega
         subst this
         go_wp2
         go_round
         case rel=>exact⟨s.size,rfl,by omega,hm2,(endT_end (Nat.le_refl _)).symm.trans HM.out⟩
         case measure=>simp[intOf]; omega
    · have h37':((s[j].toNat:Int) == 37)=false:=by rw[beq_eq_false_iff_ne]; omega
      have H37:=lH h37
      clear h37
      by_cases hw:s[j].toNat=32∨s[j].toNat=9∨s[j].toNat=10∨s[j].toNat=13
      · have HW:=lH hw
        have e:(s[j].toNat=32)∨(s[j].toNat≠32∧s[j].toNat=9)∨(s[j].toNat≠32∧s[j].toNat≠9∧s[j].toNat=10)∨(s[j].toNat≠32∧s[j].toNat≠9∧s[j].toNat≠10∧s[j].toNat=13):=by omega
        clear hw
        rcases e with h | ⟨h1,h⟩ | ⟨h1,h2,h⟩ | ⟨h1,h2,h3,h⟩
        · have f1:((s[j].toNat:Int) != 32)=false:=bne_no (by omega)
          clear h
          go_wp2
          go_round
          case rel=>exact⟨j+1,by go_num,by omega,by omega,(endF_white hlt HW.out).symm.trans HE.out⟩
          case measure=>simp[intOf]; omega
        · have f1:((s[j].toNat:Int) != 32)=true:=bne_yes (by omega)
          have f2:((s[j].toNat:Int) != 9)=false:=bne_no (by omega)
          clear h h1
          go_wp2
          go_round
          case rel=>exact⟨j+1,by go_num,by omega,by omega,(endF_white hlt HW.out).symm.trans HE.out⟩
          case measure=>simp[intOf]; omega
        · have f1:((s[j].toNat:Int) != 32)=true:=bne_yes (by omega)
          have f2:((s[j].toNat:Int) != 9)=true:=bne_yes (by omega)
          have f3:((s[j].toNat:Int) != 10)=false:=bne_no (by omega)
          clear h h1 h2
          go_wp2
          go_round
          case rel=>exact⟨j+1,by go_num,by omega,by omega,(endF_white hlt HW.out).symm.trans HE.out⟩
          case measure=>simp[intOf]; omega
        · have f1:((s[j].toNat:Int) != 32)=true:=bne_yes (by omega)
          have f2:((s[j].toNat:Int) != 9)=true:=bne_yes (by omega)
          have f3:((s[j].toNat:Int) != 10)=true:=bne_yes (by omega)
          have f4:((s[j].toNat:Int) != 13)=false:=bne_no (by omega)
          clear h h1 h2 h3
          go_wp2
          go_round
          case rel=>exact⟨j+1,by go_num,by omega,by omega,(endF_white hlt HW.out).symm.trans HE.out⟩
          case measure=>simp[intOf]; omega
      · have g2:=fun (a b:Nat) (h:a≠b)=>(show ((a:Int) != (b:Int))=true by rw[bne_iff_ne]; omega)
        have f1:((s[j].toNat:Int) != 32)=true:=bne_yes (by omega)
        have f2:((s[j].toNat:Int) != 9)=true:=bne_yes (by omega)
        have f3:((s[j].toNat:Int) != 10)=true:=bne_yes (by omega)
        have f4:((s[j].toNat:Int) != 13)=true:=bne_yes (by omega)
        have HK:=lH (show endF s k=j by rw[← HE.out]; exact endF_stop hlt H37.out hw)
        clear hw
        go_wp2
        go_ret
        exact⟨by rw[HK.out]; exact ret_int (by omega),rfl⟩
  · have:j=s.size:=by omega
    subst this
    have HK:=lH (show endF s k=s.size by rw[← HE.out]; exact endF_end (Nat.le_refl _))
    go_wp2
    go_ret
    exact⟨by rw[HK.out]; exact ret_int (by omega),rfl⟩
theorem digits_any (s:ByteArray) (k:Nat) (w:World) (hk:k≤s.size) (hs:s.size≤100000) :
 Calls Tryz.prog 53 #[.string s,.int .i64 (k:Int)] w fun e w'=>e = .returned (.int .i64 ((runE digB s k - k:Nat):Int))∧w=w':=by
 go_enter Tryz.func53,Tryz.ntmps53
 go_wp2
 go_loop [5] (fun i=>∃ j:Nat,i = .int .i64 (j:Int)∧k+j≤s.size∧Hid (runE digB s (k+j)=runE digB s k)) (fun i=>s.size - (intOf i).toNat)
 case atStart=>exact⟨0,rfl,by omega,rfl⟩
 case round =>
  obtain⟨j,rfl,hj2,HE⟩:=hrel
  by_cases hlt:k+j<s.size
  · obtain⟨b,hb⟩:∃ b,b=digB s[k+j]:=⟨_,rfl⟩
    have HB:=lH hb
    have HC:=lH (fun (W:World)=>digit_any s[k+j] W)
    rw[← hb] at HC
    clear hb
    cases b with
    | true =>
     go_wp2_with (first
      | (go_at_call 52; (with_reducible refine (HC.out _).mono ?_); rintro e w1 ⟨rfl,rfl⟩))
     go_round
     case rel=>exact⟨j+1,by go_num,by omega,by rw[← Nat.add_assoc]; exact (runE_step hlt HB.out.symm).symm.trans HE.out⟩
     case measure=>simp[intOf]; omega
    | false =>
     have HK:=lH (show runE digB s k=k+j by rw[← HE.out]; exact runE_stop hlt HB.out.symm)
     go_wp2_with (first
      | (go_at_call 52; (with_reducible refine (HC.out _).mono ?_); rintro e w1 ⟨rfl,rfl⟩))
     go_ret
     exact⟨by rw[HK.out]; exact ret_int (by omega),rfl⟩
  · have hj:k+j=s.size:=by omega
    have HK:=lH (show runE digB s k=k+j by rw[← HE.out]; exact runE_end (by omega))
    go_wp2
    go_ret
    exact⟨by rw[HK.out]; exact ret_int (by omega),rfl⟩
end Go.Proofs.YtjmmcnldfkjebaaGreatDoor.Ref05
end
section
namespace Go.Proofs.YtjmmcnldfkjebaaGreatDoor.Ref05
open Go.RowKit
open Dig Lx
def RetKN (p:Nat × Nat) (w:World) (e:Ending) (w':World):Prop:=e = .returned (.tuple #[.int .i64 (p.1:Int),.int .i64 (p.2:Int)])∧w=w'
theorem ret_kn {a b:Int} {p:Nat × Nat} {w:World} (h1:a=p.1) (h2:b=p.2):RetKN p w (.returned (.tuple #[.int .i64 a,.int .i64 b])) w:=by
 subst h1 h2; exact⟨rfl,rfl⟩
theorem two_bytes (s:ByteArray) (k:Nat) (h:k+1<s.size):(s.extract k (k+2)).toList = [s[k],s[k+1]]:=by
 have e:(s.extract k (k+2)).toList=L (s.extract k (k+2)):=by rw[ByteArray.toList_eq]; rfl
 rw[e,L_extract _ _ _ (by omega),L_drop s k (by omega),L_drop s (k+1) h,show k+2 - k=2 by omega]
 rfl
theorem word_letter_ (s:ByteArray) (k:Nat) (w:World) (hk:k<s.size) (hs:s.size≤100000) (hl:letterB s[k]=true) :
 Calls Tryz.prog 28 #[.string s,.int .i64 (k:Int)] w (RetKN (word ((L s).drop k)) w):=by
 have HC:=lH (fun (W:World)=>letter_any s[k] W)
 rw[hl] at HC
 rw[word_letter hk hl]
 clear hl
 go_enter Tryz.func28,Tryz.ntmps28
 go_wp2_with (first
  | (go_at_call 51; (with_reducible refine (HC.out _).mono ?_); rintro e w1 ⟨rfl,rfl⟩))
 go_loop [7] (fun i=>∃ j:Nat,i = .int .i64 (j:Int)∧1≤j∧k+j≤s.size∧Hid (runE wordB s (k+j)=runE wordB s (k+1))) (fun i=>s.size - (intOf i).toNat)
 case atStart=>exact⟨1,rfl,Nat.le_refl _,by omega,rfl⟩
 case round =>
  obtain⟨j,rfl,hj1,hj2,HE⟩:=hrel
  by_cases hlt:k+j<s.size
  · obtain⟨b,hb⟩:∃ b,b=letterB s[k+j]:=⟨_,rfl⟩
    have HB:=lH hb
    have HL:=lH (fun (W:World)=>letter_any s[k+j] W)
    rw[← hb] at HL
    clear hb
    obtain⟨d,hd⟩:∃ d,d=digB s[k+j]:=⟨_,rfl⟩
    have HD:=lH hd
    have HG:=lH (fun (W:World)=>digit_any s[k+j] W)
    rw[← hd] at HG
    clear hd
    have HW:=lH (show wordB s[k+j]=(b || d) by rw[HB.out,HD.out]; rfl)
    cases b with
    | true =>
     go_wp2_with (first
      | (go_at_call 51; (with_reducible refine (HL.out _).mono ?_); rintro e w1 ⟨rfl,rfl⟩))
     go_round
     case rel=>exact⟨j+1,by go_num,by omega,by omega,by rw[← Nat.add_assoc]; exact (runE_step hlt HW.out).symm.trans HE.out⟩
     case measure=>simp[intOf]; omega
    | false =>
     cases d with
     | true =>
      go_wp2_with (first
       | (go_at_call 51; (with_reducible refine (HL.out _).mono ?_); rintro e w1 ⟨rfl,rfl⟩)
       | (go_at_call 52; (with_reducible refine (HG.out _).mono ?_); rintro e w1 ⟨rfl,rfl⟩))
      go_round
      case rel=>exact⟨j+1,by go_num,by omega,by omega,by rw[← Nat.add_assoc]; exact (runE_step hlt HW.out).symm.trans HE.out⟩
      case measure=>simp[intOf]; omega
     | false =>
      have HK:=lH (show runE wordB s (k+1)=k+j by rw[← HE.out]; exact runE_stop hlt HW.out)
      go_wp2_with (first
       | (go_at_call 51; (with_reducible refine (HL.out _).mono ?_); rintro e w1 ⟨rfl,rfl⟩)
       | (go_at_call 52; (with_reducible refine (HG.out _).mono ?_); rintro e w1 ⟨rfl,rfl⟩))
      go_ret2
      exact ret_kn rfl (by rw[HK.out]; show (j:Int)=((k+j - k:Nat):Int); omega)
  · have hj:k+j=s.size:=by omega
    have HK:=lH (show runE wordB s (k+1)=k+j by rw[← HE.out]; exact runE_end (by omega))
    go_wp2
    go_ret2
    exact ret_kn rfl (by rw[HK.out]; show (j:Int)=((k+j - k:Nat):Int); omega)
theorem word_digit_ (s:ByteArray) (k:Nat) (w:World) (hk:k<s.size) (hs:s.size≤100000) (hl:letterB s[k]=false) (hd:digB s[k]=true) :
 Calls Tryz.prog 28 #[.string s,.int .i64 (k:Int)] w (RetKN (word ((L s).drop k)) w):=by
 have HL:=lH (fun (W:World)=>letter_any s[k] W)
 have HD:=lH (fun (W:World)=>digit_any s[k] W)
 have HG:=lH (fun (W:World)=>digits_any s k W (by omega) hs)
 rw[hl] at HL
 rw[hd] at HD
 rw[runE_step hk hd] at HG
 rw[word_digit hk hl hd]
 clear hl hd
 go_enter Tryz.func28,Tryz.ntmps28
 go_wp2_with (first
  | (go_at_call 51; (with_reducible refine (HL.out _).mono ?_); rintro e w1 ⟨rfl,rfl⟩)
  | (go_at_call 52; (with_reducible refine (HD.out _).mono ?_); rintro e w1 ⟨rfl,rfl⟩)
  | (go_at_call 53; (with_reducible refine (HG.out _).mono ?_); rintro e w1 ⟨rfl,rfl⟩))
 go_ret2
 exact ret_kn rfl rfl
theorem digits_next (s:ByteArray) (k:Nat) (w:World) (hk:k+1≤s.size) (hs:s.size≤100000) {R:Nat} (hR:runE digB s (k+1) - (k+1)=R) :
 Calls Tryz.prog 53 #[.string s,.int .i64 ((k:Int)+1)] w fun e w'=>e = .returned (.int .i64 (R:Int))∧w=w':=by
 subst hR
 have h:=digits_any s (k+1) w hk hs
 have e:((k+1:Nat):Int)=(k:Int)+1:=by omega
 rw[e] at h
 exact h
theorem no_letter {c:UInt8} (h:c.toNat=45∨c.toNat=58∨c.toNat=46):letterB c=false:=by
 have:¬ letterB c=true:=by simp only[letterB,Bool.or_eq_true,decide_eq_true_eq]; omega
 simpa using this
theorem no_digit {c:UInt8} (h:c.toNat=45∨c.toNat=58∨c.toNat=46):digB c=false:=by
 have:¬ digB c=true:=by simp only[digB,decide_eq_true_eq]; omega
 simpa using this
theorem word_minus_ (s:ByteArray) (k:Nat) (w:World) (hk:k<s.size) (hs:s.size≤100000) (h45:s[k].toNat=45) (hr:k+1<runE digB s (k+1)) :
 Calls Tryz.prog 28 #[.string s,.int .i64 (k:Int)] w (RetKN (word ((L s).drop k)) w):=by
 have HL:=lH (fun (W:World)=>letter_any s[k] W)
 have HD:=lH (fun (W:World)=>digit_any s[k] W)
 rw[no_letter (.inl h45)] at HL
 rw[no_digit (.inl h45)] at HD
 rw[word_minus hk h45 hr]
 obtain⟨R,hR⟩:∃ R,R=runE digB s (k+1) - (k+1):=⟨_,rfl⟩
 have HG:=lH (fun (W:World)=>digits_next s k W (by omega) hs hR.symm)
 have e1:runE digB s (k+1) - k=R+1:=by omega
 have hR0:0<R:=by omega
 have hRs:R≤100000:=by have:=(runE_le (p:=digB) (show k+1≤s.size by omega)).2; omega
 rw[e1]
 have f1:((s[k].toNat:Int) == 45)=true:=by rw[beq_iff_eq]; omega
 clear h45 hr e1 hR
 go_enter Tryz.func28,Tryz.ntmps28
 go_wp2_with (first
  | (go_at_call 51; (with_reducible refine (HL.out _).mono ?_); rintro e w1 ⟨rfl,rfl⟩)
  | (go_at_call 52; (with_reducible refine (HD.out _).mono ?_); rintro e w1 ⟨rfl,rfl⟩)
  | (go_at_call 53; (with_reducible refine (HG.out _).mono ?_); rintro e w1 ⟨rfl,rfl⟩))
 go_ret2
 exact ret_kn rfl (by show _=((R+1:Nat):Int); omega)
theorem word_rest_ (s:ByteArray) (k:Nat) (w:World) (hk:k<s.size) (hs:s.size≤100000) (hl:letterB s[k]=false) (hd:digB s[k]=false)
 (hm:((s[k].toNat:Int) == 45)=false∨runE digB s (k+1)=k+1)
 (hp:s.size=k+1∨(k+1<s.size∧((s.extract k (k+2)).toList == [58,58])=false∧((s.extract k (k+2)).toList == [46,46])=false))
 (hw:word ((L s).drop k)=if signB s[k]=true then (3,1) else (0,0)) :
 Calls Tryz.prog 28 #[.string s,.int .i64 (k:Int)] w (RetKN (word ((L s).drop k)) w):=by
 have HL:=lH (fun (W:World)=>letter_any s[k] W)
 have HD:=lH (fun (W:World)=>digit_any s[k] W)
 rw[hl] at HL
 rw[hd] at HD
 obtain⟨n,hn⟩:∃ n,n=s[k].toNat:=⟨_,rfl⟩
 have HW:=lH (show word ((L s).drop k)=if (n=58∨n=123∨n=125∨n=91∨n=93∨n=40∨n=41∨n=44∨n=59∨n=61) then (3,1) else (0,0) by
  rw[hw,hn]; simp only[signB,decide_eq_true_eq])
 have HN:=lH hn
 clear hl hd hw
 rcases hm with hm | hm <;> rcases hp with hp | ⟨hp,hp1,hp2⟩
 · clear hn
   go_enter Tryz.func28,Tryz.ntmps28
   go_wp2_with (first
    | (go_at_call 51; (with_reducible refine (HL.out _).mono ?_); rintro e w1 ⟨rfl,rfl⟩)
    | (go_at_call 52; (with_reducible refine (HD.out _).mono ?_); rintro e w1 ⟨rfl,rfl⟩))
   all_goals
    go_ret2
    have HM:=HN.out
    simp only[beq_iff_eq,beq_eq_false_iff_ne,ne_eq] at *
    first
    | exact ret_kn (by rw[HW.out,if_pos (by omega)]; rfl) (by rw[HW.out,if_pos (by omega)]; rfl)
    | exact ret_kn (by rw[HW.out,if_neg (by omega)]; rfl) (by rw[HW.out,if_neg (by omega)]; rfl)
 · clear hn
   have g2:(k:Int)+2≤(s.size:Int):=by omega
   have g5:((k:Int)+2).toNat=k+2:=by omega
   go_enter Tryz.func28,Tryz.ntmps28
   go_wp2_with (first
    | (go_at_call 51; (with_reducible refine (HL.out _).mono ?_); rintro e w1 ⟨rfl,rfl⟩)
    | (go_at_call 52; (with_reducible refine (HD.out _).mono ?_); rintro e w1 ⟨rfl,rfl⟩))
   all_goals
    go_ret2
    have HM:=HN.out
    simp only[beq_iff_eq,beq_eq_false_iff_ne,ne_eq] at *
    first
    | exact ret_kn (by rw[HW.out,if_pos (by omega)]; rfl) (by rw[HW.out,if_pos (by omega)]; rfl)
    | exact ret_kn (by rw[HW.out,if_neg (by omega)]; rfl) (by rw[HW.out,if_neg (by omega)]; rfl)
 · clear hn
   have HG:=lH (fun (W:World)=>digits_next s k W (by omega) hs (show runE digB s (k+1) - (k+1)=0 by omega))
   clear hm
   go_enter Tryz.func28,Tryz.ntmps28
   go_wp2_with (first
    | (go_at_call 51; (with_reducible refine (HL.out _).mono ?_); rintro e w1 ⟨rfl,rfl⟩)
    | (go_at_call 52; (with_reducible refine (HD.out _).mono ?_); rintro e w1 ⟨rfl,rfl⟩)
    | (go_at_call 53; (with_reducible refine (HG.out _).mono ?_); rintro e w1 ⟨rfl,rfl⟩))
   all_goals
    go_ret2
    have HM:=HN.out
    simp only[beq_iff_eq,beq_eq_false_iff_ne,ne_eq] at *
    first
    | exact ret_kn (by rw[HW.out,if_pos (by omega)]; rfl) (by rw[HW.out,if_pos (by omega)]; rfl)
    | exact ret_kn (by rw[HW.out,if_neg (by omega)]; rfl) (by rw[HW.out,if_neg (by omega)]; rfl)
 · clear hn
   have g2:(k:Int)+2≤(s.size:Int):=by omega
   have g5:((k:Int)+2).toNat=k+2:=by omega
   have HG:=lH (fun (W:World)=>digits_next s k W (by omega) hs (show runE digB s (k+1) - (k+1)=0 by omega))
   clear hm
   go_enter Tryz.func28,Tryz.ntmps28
   go_wp2_with (first
    | (go_at_call 51; (with_reducible refine (HL.out _).mono ?_); rintro e w1 ⟨rfl,rfl⟩)
    | (go_at_call 52; (with_reducible refine (HD.out _).mono ?_); rintro e w1 ⟨rfl,rfl⟩)
    | (go_at_call 53; (with_reducible refine (HG.out _).mono ?_); rintro e w1 ⟨rfl,rfl⟩))
   all_goals
    go_ret2
    have HM:=HN.out
    simp only[beq_iff_eq,beq_eq_false_iff_ne,ne_eq] at *
    first
    | exact ret_kn (by rw[HW.out,if_pos (by omega)]; rfl) (by rw[HW.out,if_pos (by omega)]; rfl)
    | exact ret_kn (by rw[HW.out,if_neg (by omega)]; rfl) (by rw[HW.out,if_neg (by omega)]; rfl)
theorem word_two_ (s:ByteArray) (k:Nat) (w:World) (hk:k+1<s.size) (hs:s.size≤100000) (h1:s[k].toNat=58∨s[k].toNat=46) (h2:s[k+1].toNat=s[k].toNat) :
 Calls Tryz.prog 28 #[.string s,.int .i64 (k:Int)] w (RetKN (word ((L s).drop k)) w):=by
 have HL:=lH (fun (W:World)=>letter_any s[k] W)
 have HD:=lH (fun (W:World)=>digit_any s[k] W)
 rw[no_letter (.inr h1)] at HL
 rw[no_digit (.inr h1)] at HD
 rw[word_two hk h1 h2]
 have f0:((s[k].toNat:Int) == 45)=false:=by rw[beq_eq_false_iff_ne]; omega
 have g2:(k:Int)+2≤(s.size:Int):=by omega
 have g5:((k:Int)+2).toNat=k+2:=by omega
 rcases h1 with h1 | h1
 · have e1:s[k]=58:=UInt8.toNat_inj.1 h1
   have e2:s[k+1]=58:=UInt8.toNat_inj.1 (h2.trans h1)
   have f1:((s.extract k (k+2)).toList == [58,58])=true:=by rw[two_bytes s k hk,e1,e2]; rfl
   clear h1 h2 e1 e2
   go_enter Tryz.func28,Tryz.ntmps28
   go_wp2_with (first
    | (go_at_call 51; (with_reducible refine (HL.out _).mono ?_); rintro e w1 ⟨rfl,rfl⟩)
    | (go_at_call 52; (with_reducible refine (HD.out _).mono ?_); rintro e w1 ⟨rfl,rfl⟩))
   go_ret2
   exact ret_kn rfl rfl
 · have e1:s[k]=46:=UInt8.toNat_inj.1 h1
   have e2:s[k+1]=46:=UInt8.toNat_inj.1 (h2.trans h1)
   have f1:((s.extract k (k+2)).toList == [58,58])=false:=by rw[two_bytes s k hk,e1,e2]; rfl
   have f2:((s.extract k (k+2)).toList == [46,46])=true:=by rw[two_bytes s k hk,e1,e2]; rfl
   clear h1 h2 e1 e2
   go_enter Tryz.func28,Tryz.ntmps28
   go_wp2_with (first
    | (go_at_call 51; (with_reducible refine (HL.out _).mono ?_); rintro e w1 ⟨rfl,rfl⟩)
    | (go_at_call 52; (with_reducible refine (HD.out _).mono ?_); rintro e w1 ⟨rfl,rfl⟩))
   go_ret2
   exact ret_kn rfl rfl
theorem pair_no {a b c:UInt8} (h:a.toNat≠c.toNat∨b.toNat≠c.toNat):([a,b] == [c,c])=false:=by
 rw[beq_eq_false_iff_ne]
 intro h2
 injection h2 with h3 h4
 injection h4 with h4 h5
 subst h3 h4
 rcases h with h | h <;> exact h rfl
theorem word_any (s:ByteArray) (k:Nat) (w:World) (hk:k<s.size) (hs:s.size≤100000) :
 Calls Tryz.prog 28 #[.string s,.int .i64 (k:Int)] w (RetKN (word ((L s).drop k)) w):=by
 by_cases hl:letterB s[k]=true
 · exact word_letter_ s k w hk hs hl
 have hl':letterB s[k]=false:=by simpa using hl
 by_cases hd:digB s[k]=true
 · exact word_digit_ s k w hk hs hl' hd
 have hd':digB s[k]=false:=by simpa using hd
 by_cases hm:s[k].toNat=45∧k+1<runE digB s (k+1)
 · exact word_minus_ s k w hk hs hm.1 hm.2
 have hm':((s[k].toNat:Int) == 45)=false∨runE digB s (k+1)=k+1:=by
  by_cases h45:s[k].toNat=45
  · right
    have:=(runE_le (p:=digB) (show k+1≤s.size by omega)).1
    omega
  · left; rw[beq_eq_false_iff_ne]; omega
 by_cases hp:∃ h:k+1<s.size,(s[k].toNat=58∨s[k].toNat=46)∧s[k+1].toNat=s[k].toNat
 · obtain⟨h,h1,h2⟩:=hp
   exact word_two_ s k w h hs h1 h2
 refine word_rest_ s k w hk hs hl' hd' hm' ?_ ?_
 · by_cases h:k+1<s.size
   · refine .inr ⟨h,?_,?_⟩
     · rw[two_bytes s k h]
       refine pair_no ?_
       show s[k].toNat≠58∨s[k+1].toNat≠58
       by_cases h58:s[k].toNat=58
       · right; intro h2; exact hp ⟨h,.inl h58,by omega⟩
       · exact .inl h58
     · rw[two_bytes s k h]
       refine pair_no ?_
       show s[k].toNat≠46∨s[k+1].toNat≠46
       by_cases h58:s[k].toNat=46
       · right; intro h2; exact hp ⟨h,.inr h58,by omega⟩
       · exact .inl h58
   · exact .inl (by omega)
 · split
   · rename_i h
     refine word_one hk h ?_
     intro h1 h2 h3
     exact hp ⟨h2,.inl h1,by omega⟩
   · rename_i h
     by_cases h45:s[k].toNat=45
     · exact word_lone hk h45 (by rcases hm' with h1 | h1; (rw[beq_eq_false_iff_ne] at h1; omega); exact h1)
     · refine word_none hk hl' hd' (by simpa using h) h45 ?_
       intro h1 h2 h3
       exact hp ⟨h2,.inr h1,by omega⟩
end Go.Proofs.YtjmmcnldfkjebaaGreatDoor.Ref05
end
