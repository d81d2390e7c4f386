/- What the document's own Split of layer 5 gives back. The document's own parser: Text. -/
import Derived.Deep.DeepCutAuto
import Derived.Test.YtjmmcnldfkjebaaGreatDoorR5v
import Derived.Test.YtjmmcnldfkjebaaGreatDoorJr
set_option maxHeartbeats 8000000
set_option maxRecDepth 100000
set_option linter.unusedVariables false
set_option linter.unusedSimpArgs false
section
namespace Go.Proofs.YtjmmcnldfkjebaaGreatDoor.Ref05
open Go.RowKit
open Dig Lx Tk
theorem info_tok:(Tryz.prog.info? 83).map (fun i=>(i.zero,i.size,i.bytes))=some (some (.agg #[.int .i64 0,.string ⟨#[]⟩,.int .i64 0,.int .i64 0]),4,40):=by kernel_rfl
theorem blank_start (s:ByteArray) (w:World) (hs:s.size≤100000) :
 Calls Tryz.prog 27 #[.string s,.int .i64 0] w fun e w'=>e = .returned (.int .i64 ((endF s 0:Nat):Int))∧w=w':=by
 have h:=blank_any s 0 w (Nat.zero_le _) hs
 exact h
theorem blank_next (s:ByteArray) (k n:Nat) (w:World) (hk:k+n≤s.size) (hs:s.size≤100000) {R:Nat} (hR:endF s (k+n)=k+n+R) :
 Calls Tryz.prog 27 #[.string s,.int .i64 ((k:Int)+(n:Int))] w fun e w'=>e = .returned (.int .i64 (R:Int))∧w=w':=by
 have h:=blank_any s (k+n) w hk hs
 rw[hR,show k+n+R - (k+n)=R by omega] at h
 exact h
theorem run_all {p:UInt8→Bool} : ∀ (l:Bs) (i:Nat) (h:i<l.length),i<run p l→p l[i]=true
 | [],i,h,_=>by simp at h
 | c :: t,i,h,hr=>by
  simp only[run] at hr
  by_cases hc:p c=true
  · rw[if_pos hc] at hr
    cases i with
    | zero=>exact hc
    | succ i=>exact run_all t i (by simpa using h) (by omega)
  · rw[if_neg hc] at hr; omega
theorem word_num {s:ByteArray} {k:Nat} (hk:k<s.size) (h:(word ((L s).drop k)).1=2):(s[k].toNat=45∧(word ((L s).drop k)).2=1+run digB ((L s).drop (k+1))∧0<run digB ((L s).drop (k+1)))∨(s[k].toNat≠45∧digB s[k]=true∧(word ((L s).drop k)).2=1+run digB ((L s).drop (k+1))):=by
 rw[L_drop s k hk] at h ⊢
 simp only[word] at h ⊢
 by_cases h1:letterB s[k]=true
 · rw[if_pos h1] at h; simp at h
 rw[if_neg h1] at h ⊢
 by_cases h2:digB s[k]=true
 · rw[if_pos h2] at h ⊢
   refine .inr ⟨?_,h2,rfl⟩
   have:=dig_bounds h2; omega
 rw[if_neg h2] at h ⊢
 by_cases h3:s[k].toNat=45∧0<run digB ((L s).drop (k+1))
 · rw[if_pos h3] at h ⊢
   exact .inl ⟨h3.1,rfl,h3.2⟩
 rw[if_neg h3] at h
 split at h
 · simp at h
 split at h <;> simp at h
theorem part_at {s:ByteArray} {k n i:Nat} (hn:k+n≤s.size) (h:i<(s.extract k (k+n)).size):(s.extract k (k+n))[i]=s[k+i]'(by rw[ByteArray.size_extract] at h; omega):=
 ByteArray.getElem_extract (start:=k) (stop:=k+n) (b:=s) (i:=i) h
theorem run_dig {s:ByteArray} {k i:Nat} (h:i<run digB ((L s).drop (k+1))) (hk:k+1+i<s.size):digB (s[k+1+i])=true:=by
 have hl:i<((L s).drop (k+1)).length:=by rw[List.length_drop,L_len]; omega
 have h1:=run_all ((L s).drop (k+1)) i hl h
 rw[List.getElem_drop] at h1
 exact h1
theorem value_part (s:ByteArray) (k n:Nat) (w:World) (hk:k<s.size) (hs:s.size≤100000) (h:word ((L s).drop k)=(2,n)) :
 Calls Tryz.prog 29 #[.string (s.extract k (k+n))] w (RetV (intD (((L s).drop k).take n)) w):=by
 have hle:=word_le ((L s).drop k)
 have hw:=word_num hk (by rw[h])
 rw[h] at hle hw
 rw[List.length_drop,L_len] at hle
 simp only at hle hw
 have hsz:(s.extract k (k+n)).size=n:=by rw[ByteArray.size_extract]; omega
 have hL:L (s.extract k (k+n))=((L s).drop k).take n:=by rw[L_extract _ _ _ (by omega),show k+n - k=n by omega]
 rw[← hL]
 have hn0:0<n:=by rcases hw with h | h <;> omega
 have e0:(s.extract k (k+n))[0]'(by omega)=s[k]:=part_at (i:=0) (by omega) (by omega)
 have hd:∀ i (hi:i<(s.extract k (k+n)).size),1≤i→digB ((s.extract k (k+n))[i])=true:=by
  intro i hi h1
  rw[part_at (by omega) hi]
  obtain⟨j,rfl⟩:∃ j,i=j+1:=⟨i - 1,by omega⟩
  have:=run_dig (s:=s) (k:=k) (i:=j) (by rcases hw with h | h <;> omega) (by omega)
  have e:k+1+j=k+(j+1):=by omega
  simp only[e] at this
  exact this
 rcases hw with ⟨h1,h2,h3⟩ | ⟨h1,h2,h3⟩
 · exact value_minus _ w (by omega) (by omega) (by rw[e0]; exact h1) hd
 · refine value_plus _ w (by omega) (by omega) (by rw[e0]; exact h1) ?_
   intro i hi _
   rcases Nat.eq_zero_or_pos i with rfl | hp
   · rw[e0]; exact h2
   · exact hd i hi hp
theorem value_yes (s:ByteArray) (k n:Nat) (w:World) (hk:k<s.size) (hs:s.size≤100000) (h:word ((L s).drop k)=(2,n)) {v:Int} (hv:intD (((L s).drop k).take n)=v) (hf:fits v) :
 Calls Tryz.prog 29 #[.string (s.extract k (k+n))] w fun e w'=>e = .returned (.tuple #[.int .i64 v,.bool true])∧Since w w':=by
 have c:=value_part s k n w hk hs h
 subst hv
 unfold RetV at c
 rwa [if_pos hf,decide_eq_true hf] at c
theorem value_no (s:ByteArray) (k n:Nat) (w:World) (hk:k<s.size) (hs:s.size≤100000) (h:word ((L s).drop k)=(2,n)) (hf:¬ fits (intD (((L s).drop k).take n))) :
 Calls Tryz.prog 29 #[.string (s.extract k (k+n))] w fun e w'=>e = .returned (.tuple #[.int .i64 0,.bool false])∧Since w w':=by
 have c:=value_part s k n w hk hs h
 unfold RetV at c
 rwa [if_neg hf,decide_eq_false hf] at c
theorem split_any (s:ByteArray) (w:World) (hs:s.size≤100000) :
 Calls Tryz.prog 16 #[.string s] w (RetT (splitD (L s)) w):=by
 obtain⟨i0,hi,hz0,hz1,hz2⟩:=info_parts info_tok
 by_cases hbig:8192<s.size
 · have HB:=lH (show splitD (L s)=([],0,3) from if_pos (by rw[L_len]; exact hbig))
   go_enter Tryz.func16,Tryz.ntmps16
   go_wp2
   go_ret3
   exact RetT.no HB.out (Since.refl _)
 obtain⟨r,hr⟩:∃ r,r=splitD (L s):=⟨_,rfl⟩
 have HR:=lH (show lexA (L s) (endF s 0) []=r by rw[hr,splitD,if_neg (by rw[L_len]; omega)]; unfold endF; rw[Nat.zero_add,List.drop_zero])
 rw[← hr]
 clear hr
 have hE:=endF_le (s:=s) (Nat.zero_le _)
 have hs':s.size≤8192:=by omega
 obtain⟨k0,hk0⟩:∃ k0,k0=endF s 0:=⟨_,rfl⟩
 have BS:=lH (fun W=>blank_start s W (by omega))
 rw[← hk0] at HR BS hE
 clear hk0
 go_enter Tryz.func16,Tryz.ntmps16
 go_wp2_with (go_at_call 27; (with_reducible refine (BS.out _).mono ?_); rintro e w1 ⟨rfl,rfl⟩)
 go_loopw [5,6] (fun out i wr=>∃ (k m:Nat) (A:Option Addr) (c:Nat) (acc:List Tok),k≤s.size∧i = .int .i64 (k:Int)∧out = .slice A m c∧Hid (acc.length=m)∧m≤4096∧Hid (wr.ownsRow w.heap.size 83 4 (.slice A m c) m (tcells (acc.map tv)))∧Hid (lexA (L s) k acc=r)∧Since w wr) (fun _ i _=>s.size - (intOf i).toNat)
 case atStart=>exact⟨k0,0,none,0,[],hE.2,rfl,rfl,rfl,by omega,World.ownsRow_nil _ _ _ _,HR.out,Since.refl _⟩
 case round =>
  obtain⟨k,m,A,c,acc,hk,rfl,rfl,HM,hm,HO,HL,hw⟩:=hrel
  by_cases hlt:k<s.size
  · have hlt':k<(L s).length:=by rw[L_len]; exact hlt
    by_cases hmax:m=4096
    · have HF:=lH (HL.out.symm.trans (lexA_big hlt' (by rw[HM.out]; exact hmax)))
      have hz:((m:Int) == 4096)=true:=by rw[beq_iff_eq]; omega
      clear hmax
      go_wp2
      go_ret3
      exact RetT.no HF.out hw
    have hz:((m:Int) == 4096)=false:=by rw[beq_eq_false_iff_ne]; omega
    have hmm:m+1≤4096:=by omega
    have HX:=lH (show acc.length≠4096 by rw[HM.out]; exact hmax)
    clear hmax
    obtain⟨kd,n,hkn⟩:∃ kd n,word ((L s).drop k)=(kd,n):=⟨_,_,rfl⟩
    have WD:=lH (fun W=>word_any s k W hlt (by omega))
    rw[hkn] at WD
    have hle:=word_le ((L s).drop k)
    rw[hkn,List.length_drop,L_len] at hle
    simp only at hle
    have hkd:=word_kind ((L s).drop k)
    rw[hkn] at hkd
    simp only at hkd
    by_cases hk0:kd=0
    · have HF:=lH (HL.out.symm.trans (lexA_form hlt' HX.out (by rw[hkn]; exact hk0)))
      have hy:((kd:Int) == 0)=true:=by rw[beq_iff_eq]; omega
      clear hk0 hkn
      go_wp2_with (go_at_call 28; (with_reducible refine (WD.out _).mono ?_); rintro e w1 ⟨rfl,rfl⟩)
      go_ret3
      exact RetT.no HF.out hw
    have hy:((kd:Int) == 0)=false:=by rw[beq_eq_false_iff_ne]; omega
    have hn0:=(word_pos (l:=(L s).drop k) (by rw[hkn]; exact hk0)).1
    rw[hkn] at hn0
    simp only at hn0
    have HWK:=lH (show (word ((L s).drop k)).1≠0 by rw[hkn]; exact hk0)
    clear hk0
    have hE2:=endF_le (s:=s) (k:=k+n) (by omega)
    obtain⟨R,hR⟩:∃ R,endF s (k+n)=k+n+R:=⟨endF s (k+n) - (k+n),by omega⟩
    have hRs:k+n+R≤s.size:=by omega
    have BN:=lH (fun W=>blank_next s k n W (by omega) (by omega) hR)
    have hnx:=next_end s k
    rw[hkn] at hnx
    simp only at hnx
    rw[hR] at hnx
    have HNX:=lH hnx
    clear hnx hE2 hR
    have g2:(k:Int)+(n:Int)≤(s.size:Int):=by omega
    have g5:((k:Int)+(n:Int)).toNat=k+n:=by omega
    have TX:=lH (tok_txt s k n)
    by_cases h2:kd=2
    rotate_left
    · have hq:((kd:Int) == 2)=false:=by rw[beq_eq_false_iff_ne]; omega
      have HT:=lH (show tv (tokD ((L s).drop k) k)=⟨(kd:Int),s.extract k (k+n),0,(k:Int)⟩ by unfold tokD tv; simp only[hkn,TX.out,if_neg h2])
      have HST:=lH (HL.out.symm.trans (lexA_step hlt' HX.out HWK.out (fun h=>absurd h (by rw[hkn]; exact h2))))
      clear h2 hkn
      go_wp2_with (first
       | (go_at_call 28; (with_reducible refine (WD.out _).mono ?_); rintro e w1 ⟨rfl,rfl⟩)
       | (at_builtin; refine wpList_append_own _ rfl _ _ 59 rfl w.heap.size 83 i0 (.agg #[.int .i64 0,.string ⟨#[]⟩,.int .i64 0,.int .i64 0]) 4 40 Tryz.underlying59 hi hz0 hz1 hz2 rfl (by decide) _ _ _ rfl (owns_since HO.out (((Since.refl wr).alloc _).alloc _)) ⟨wr.heap.size+1,0,none⟩ 1 1 [.int .i64 (kd:Int),.string (s.extract k (k+n)),.int .i64 0,.int .i64 (k:Int)] rfl rfl ?c1 ?c2 ?c3 ?c4 ?c5 ?_))
      case c1 =>
       intro j u hj
       match j,hj with
       | 0,hj=>simp at hj; subst hj; simp[Addr.add]
       | 1,hj=>simp at hj; subst hj; simp[Addr.add]
       | 2,hj=>simp at hj; subst hj; simp[Addr.add]
       | 3,hj=>simp at hj; subst hj; simp[Addr.add]
      case c2=>intro u hu; simp at hu; rcases hu with rfl | rfl | rfl | rfl <;> rfl
      case c3=>unfold maxLen; omega
      case c4=>omega
      case c5=>have:=hw.size; simp; omega
      intro v' w2 hown' hgrow _
      have hs1:Since w w2:=Below.grown ((hw.alloc _).alloc _) hgrow (by have:=hw.size; simp; omega) (fun g hg=>(HO.out.lt g hg).1)
      have ho1:w2.ownsRow w.heap.size 83 4 v' (m+1) (tcells ((acc ++ [tokD ((L s).drop k) k]).map tv)):=by
       rw[List.map_append,tcells_append,List.map_cons,List.map_nil,tcells_one,HT.out]; exact hown'
      clear hown' hgrow
      obtain⟨A',c',rfl⟩:=owns_slice ho1
      rw[HNX.out] at HST
      have HO1:=lH ho1
      clear ho1
      go_wp2_with (go_at_call 27; (with_reducible refine (BN.out _).mono ?_); rintro e w3 ⟨rfl,rfl⟩)
      go_roundw
      case rel=>exact⟨k+n+R,m+1,A',c',_,hRs,by go_num,rfl,by show _=_; rw[List.length_append,HM.out]; rfl,by omega,HO1.out,HST.out.symm,hs1⟩
      case measure=>simp[intOf]; omega
    have hq:((kd:Int) == 2)=true:=by rw[beq_iff_eq]; omega
    subst h2
    obtain⟨v,hv⟩:∃ v,intD (((L s).drop k).take n)=v:=⟨_,rfl⟩
    by_cases hf:fits v
    rotate_left
    · have VN:=lH (fun W=>value_no s k n W hlt (by omega) hkn (by rw[hv]; exact hf))
      have HF:=lH (HL.out.symm.trans (lexA_over hlt' HX.out (by rw[hkn]) (by rw[hkn]; simp only; rw[hv]; exact hf)))
      clear hf hkn hv
      go_wp2_with (first
       | (go_at_call 28; (with_reducible refine (WD.out _).mono ?_); rintro e w1 ⟨rfl,rfl⟩)
       | (go_at_call 29; (with_reducible refine (VN.out _).mono ?_); rintro e w4 ⟨rfl,hx⟩))
      go_ret3
      exact RetT.no HF.out ((hw.alloc _).trans hx)
    have VY:=lH (fun W=>value_yes s k n W hlt (by omega) hkn hv hf)
    have HT:=lH (show tv (tokD ((L s).drop k) k)=⟨((2:Nat):Int),s.extract k (k+n),v,(k:Int)⟩ by unfold tokD tv; simp only[hkn,TX.out,if_true,hv])
    have HST:=lH (HL.out.symm.trans (lexA_step hlt' HX.out HWK.out (fun _=>by rw[hkn]; simp only; rw[hv]; exact hf)))
    clear hf hkn hv
    go_upto_region 16 with (first
     | (go_at_call 28; (with_reducible refine (WD.out _).mono ?_); rintro e w1 ⟨rfl,rfl⟩)
     | (go_at_call 29; (with_reducible refine (VY.out _).mono ?_); rintro e w4 ⟨rfl,hx⟩; have gb:Bx w4 wr.heap.size #[.int .i64 ((2:Nat):Int),.string (s.extract k (k+n)),.int .i64 0,.int .i64 (k:Int)] 83:=Bx.new hx rfl; obtain⟨q0,q1,q2,q3⟩:=gb.four; obtain⟨f0,f1,f2,f3⟩:=gb.four'))
    obtain⟨W5,hW5⟩:∃ W5,W5=w4.setCell ⟨wr.heap.size,2,none⟩ (.int .i64 v):=⟨_,rfl⟩
    have g5b:Bx W5 wr.heap.size #[.int .i64 ((2:Nat):Int),.string (s.extract k (k+n)),.int .i64 v,.int .i64 (k:Int)] 83:=by rw[hW5]; exact heap_setCell_same w4 wr.heap.size 2 _ _ _ gb
    have k5:Since wr W5:=by rw[hW5]; exact ((sA wr _).trans hx).set (Nat.le_refl _) _
    go_upto_region 17 with fail
    rw[← hW5]
    have hlt5:=g5b.lt
    obtain⟨q0,q1,q2,q3⟩:=g5b.four
    clear hW5 gb g5b f0 f1 f2 f3 hx
    go_wp2_with (at_builtin; refine wpList_append_own _ rfl _ _ 59 rfl w.heap.size 83 i0 (.agg #[.int .i64 0,.string ⟨#[]⟩,.int .i64 0,.int .i64 0]) 4 40 Tryz.underlying59 hi hz0 hz1 hz2 rfl (by decide) _ _ _ rfl (owns_since HO.out (k5.trans (sA _ _))) ⟨W5.heap.size,0,none⟩ 1 1 [.int .i64 2,.string (s.extract k (k+n)),.int .i64 v,.int .i64 (k:Int)] rfl rfl ?c1 ?c2 ?c3 ?c4 ?c5 ?_)
    case c1 =>
     intro j u hj
     match j,hj with
     | 0,hj=>simp at hj; subst hj; simp[Addr.add]
     | 1,hj=>simp at hj; subst hj; simp[Addr.add]
     | 2,hj=>simp at hj; subst hj; simp[Addr.add]
     | 3,hj=>simp at hj; subst hj; simp[Addr.add]
    case c2=>intro u hu; simp at hu; rcases hu with rfl | rfl | rfl | rfl <;> rfl
    case c3=>unfold maxLen; omega
    case c4=>omega
    case c5=>have:=(hw.trans k5).size; simp; omega
    intro v' w2 hown' hgrow _
    have hs1:Since w w2:=Below.grown ((hw.trans k5).alloc _) hgrow (by have:=(hw.trans k5).size; simp; omega) (fun g hg=>(HO.out.lt g hg).1)
    have ho1:w2.ownsRow w.heap.size 83 4 v' (m+1) (tcells ((acc ++ [tokD ((L s).drop k) k]).map tv)):=by
     rw[List.map_append,tcells_append,List.map_cons,List.map_nil,tcells_one,HT.out]; exact hown'
    clear hown' hgrow
    obtain⟨A',c',rfl⟩:=owns_slice ho1
    rw[HNX.out] at HST
    have HO1:=lH ho1
    clear ho1
    go_wp2_with (go_at_call 27; (with_reducible refine (BN.out _).mono ?_); rintro e w3 ⟨rfl,rfl⟩)
    go_roundw
    case rel=>exact⟨k+n+R,m+1,A',c',_,hRs,by go_num,rfl,by show _=_; rw[List.length_append,HM.out]; rfl,hmm,HO1.out,HST.out.symm,hs1⟩
    case measure=>simp[intOf]; omega
  · obtain rfl:k=s.size:=by omega
    have HF:=lH (HL.out.symm.trans (lexA_end (by rw[L_len]; exact Nat.le_refl _)))
    have HQ:=lH (Toks.own HO.out)
    clear HO
    go_wp2
    go_ret3
    exact RetT.yes HF.out HM.out HQ.out hw
end Go.Proofs.YtjmmcnldfkjebaaGreatDoor.Ref05
end
section
namespace Go.Proofs.YtjmmcnldfkjebaaGreatDoor.Doc6
open Go.RowKit
open Dig Lx Tk Ps Ti
open Fq
open Prs (Old Only owns_only lenV)
theorem splitD_len8 (s:Bs):(splitD s).1.length≤4096:=by
 unfold splitD
 split
 · exact Nat.zero_le _
 · unfold lexA
   obtain⟨o,p,e,hq⟩:∃ o p e,lexG (s.length+1) (s.drop (blk false s)) (blk false s) []=(o,p,e):=⟨_,_,_,rfl⟩
   rw[hq]
   rcases lexes_of (s.length+1) (s.drop (blk false s)) (blk false s) [] o p e (by rw[List.length_drop]; omega) hq with ⟨-,-,ts,-,-,h⟩ | ⟨h,-⟩
   · exact h (Nat.zero_le _)
   · rw[h]; exact Nat.zero_le _
theorem split_any2 (s:ByteArray) (w:World) (hs:s.size≤4611686018427387904) :
 Calls Tryz.prog 16 #[.string s] w (RetT (splitD (L s)) w):=by
 by_cases hbig:8192<s.size
 · have HB:=lH (show splitD (L s)=([],0,3) from if_pos (by rw[L_len]; exact hbig))
   go_enter Tryz.func16,Tryz.ntmps16
   go_wp2
   go_ret3
   exact RetT.no HB.out (Since.refl _)
 · exact Ref05.split_any s w (by omega)
theorem num_lexes {l:Bs} {i:Nat} {ts:List Tok} (h:Lexes l i ts):NumT (ts.map tv):=by
 induction h with
 | done i=>intro t ht; simp at ht
 | @tok l i ts hw hv h ih =>
  intro t ht hk
  rcases List.mem_cons.1 ht with rfl | ht
  · have e:(tv (tokD l i)).k=((word l).1:Int):=rfl
    rw[e] at hk
    have e2:L (tv (tokD l i)).s=l.take (word l).2:=tv_L _
    rw[e2]
    have hk2:(word l).1=2:=by omega
    cases l with
    | nil=>simp[word] at hk2
    | cons c t =>
     have hc:c.toNat<58:=by
      apply Decidable.byContradiction; intro hn
      simp only[word] at hk2
      by_cases h1:letterB c=true
      · rw[if_pos h1] at hk2; simp at hk2
      · rw[if_neg h1] at hk2
        by_cases h2:digB c=true
        · simp only[digB,decide_eq_true_eq] at h2; omega
        · rw[if_neg h2] at hk2
          by_cases h3:c.toNat=45∧0<run digB t
          · omega
          · rw[if_neg h3] at hk2
            split at hk2
            · simp at hk2
            · split at hk2 <;> simp at hk2
     have hne:∀ (x:UInt8) (r:Bs),58≤x.toNat→(c :: t).take (word (c :: t)).2≠x :: r:=by
      intro x r hx he
      cases hn:(word (c :: t)).2 with
      | zero=>rw[hn] at he; simp at he
      | succ k=>rw[hn] at he; simp only[List.take_succ_cons,List.cons.injEq] at he; rw[he.1] at hc; omega
     exact⟨hne _ _ (by decide),hne _ _ (by decide)⟩
  · exact ih t ht hk
def TextR (s:ByteArray) (l:List It) (er:Int):Prop:=(er=0∧textD s=(l,0,0))∨(er≠0∧l = []∧∃ p x,textD s=([],p,x)∧x≠0∧(x=er∨er=3))
theorem ri_since {G:Nat→Prop} {w w':World} {xs:List It} {cs:List Value} (h:Rws 8 (QI G w) xs cs) (k:Since w w'):Rws 8 (QI G w') xs cs:=h.since (stI _) k
theorem ri_only {G:Nat→Prop} {w w':World} {b:Nat} {xs:List It} {cs:List Value} (h:Rws 8 (QI G w) xs cs) (k:Only b w w') (hb:G b):Rws 8 (QI G w') xs cs:=h.mono fun x u h=>QI.grow k (fun y hy=>by injection hy with hy; subst hy; exact hb) (fun b hb => .inl hb) h
theorem ri_app {G:Nat→Prop} {w w':World} {v v':Value} {m:Nat} {xs:List It} {cs:List Value} (h:Rws 8 (QI (own G v) w) xs cs) (k:w.grownBy w' v.ownBlock) (hat:v'.ownBlock=v.ownBlock∨v'.ownBlock=some m) (hm:m=w.heap.size):Rws 8 (QI (own G v') w') xs cs:=by
 subst hm
 exact h.mono fun x u h=>QI.grow k own.has (own.app hat) h
theorem all_big {n:Int} {f:Nat} {out:List It} {us:Ts} (h:out.length=512) (h0:us ≠ []):∃ p x,allD n (f+1) out us=([],p,x)∧x≠0:=by
 refine⟨place n us,if isOne firsts us=true then 3 else 5,by rw[allD,if_neg h0,if_pos h],?_⟩
 split <;> decide
theorem all_bad {n:Int} {f:Nat} {out:List It} {us:Ts} {p x:Int} (h:out.length≠512) (h0:us ≠ []) (hs:stmt n us = .bad p x):allD n (f+1) out us=([],p,x):=by rw[allD,if_neg h0,if_neg h,hs]
theorem all_ok {n:Int} {f:Nat} {out:List It} {us r:Ts} {x:It} (h:out.length≠512) (h0:us ≠ []) (hs:stmt n us = .ok x r):allD n (f+1) out us=allD n f (out ++ [x]) r:=by rw[allD,if_neg h0,if_neg h,hs]
theorem bx_new3 (W:World) (cs:Array Value) (t:TypeId) {g:Nat} (e:W.heap.size=g):Bx (W.alloc (.cells cs t)) g cs t:=Bx.new (Since.refl _) e
theorem text_any (s:ByteArray) (w:World) (hs:s.size≤4611686018427387904) :
 Calls Tryz.prog 44 #[.string s] w fun e w'=>∃ (l:List It) (at_ er:Int) (A:Option Addr) (c:Nat),e = .returned (.tuple #[.slice A l.length c,.int .i64 at_,.int .i64 er])∧Sl 8 (QI noG) w' (.slice A l.length c) l∧TextR s l er∧Since w w':=by
 obtain⟨⟨o,p0,e0⟩,hsp⟩:∃ r,splitD (L s)=r:=⟨_,rfl⟩
 have SP:Calls Tryz.prog 16 #[.string s] w (fun e w'=>∃ A c,e = .returned (.tuple #[.slice A o.length c,.int .i64 (p0:Int),.int .i64 e0])∧Toks w' (.slice A o.length c) (o.map tv)∧Since w w'):=(split_any2 s w hs).mono (fun e w' h=>by rw[hsp] at h; exact h)
 have HSP:=lH hsp
 have HS0:=lH hs
 clear hsp hs
 obtain⟨i0,hi,hz0,hz1,hz2⟩:=info_parts Law06.info_ritem
 go_enter Tryz.func44,Tryz.ntmps44
 by_cases he0:e0=0
 · subst he0
   obtain⟨hp0,hlx⟩:=split_lexes HSP.out
   have hgd:=good_lexes hlx
   have hnt:=num_lexes hlx
   have hln:(o.map tv).length≤10000:=by have:=splitD_len8 (L s); rw[HSP.out] at this; rw[List.length_map]; simp at this; omega
   have hwt:=wt_lexes hlx
   rw[List.length_drop,L_len] at hwt
   have HALL:=lH (text_all HSP.out)
   obtain⟨ts,hts⟩:∃ ts,ts=o.map tv:=⟨_,rfl⟩
   rw[← hts] at hgd hnt hln hwt HALL SP
   have hm2:o.length=ts.length:=by rw[hts,List.length_map]
   rw[hm2] at SP
   obtain⟨m,hm⟩:∃ m,m=ts.length:=⟨_,rfl⟩
   rw[← hm] at SP
   clear hm2
   have SPH:=lH SP
   clear SP
   have HM:=lH hm
   have HGD:=lH hgd
   have HNT:=lH hnt
   have HLN:=lH hln
   have HWT:=lH (show wt ts≤s.size by omega)
   clear hlx hgd hnt hwt hts hp0
   go_wp2_with fail
   (with_reducible refine SPH.out.mono ?_)
   rintro e1 w1 ⟨A,c,rfl,hT,h1⟩
   obtain⟨r,hr⟩:∃ r,r=allD (s.size:Int) 513 [] ts:=⟨_,rfl⟩
   have HR:=lH hr
   clear hr
   have IT:=lH (fun k W (kk:Since w1 W) (hk:k≤ts.length)=>item_ok A m c (s.size:Int) ts k W (hT.since kk) HLN.out hk HNT.out)
   have TK:=lH (fun k W (kk:Since w1 W) (hk:k≤ts.length)=>take_ok A m c (s.size:Int) ts k ⟨#[59]⟩ W (hT.since kk) HLN.out hk (by decide))
   have FLA:=lH (fun k W (kk:Since w1 W)=>fail_ok A m c (s.size:Int) ts k 3 W (hT.since kk) (by decide))
   have H1:=lH h1
   clear hT h1 hm hln
   have BX0:=lH (bx_new3 w1 #[.slice A m c,.int .i64 0,.int .i64 (s.size:Int),.int .i64 0,.int .i64 0] 127 (g:=w1.heap.size) rfl)
   have SZ0:(w1.alloc (.cells #[.slice A m c,.int .i64 0,.int .i64 (s.size:Int),.int .i64 0,.int .i64 0] 127)).heap.size=w1.heap.size+1:=by simp
   obtain⟨g0,g1,g2,g3,g4⟩:=bx5 BX0.out
   go_wp2
   go_loopw [9] (fun out wr=>∃ (B:Option Addr) (nn cp k:Nat) (xs:List It) (cs:List Value),out = .slice B nn cp∧nn≤512∧k≤m∧Hid (xs.length=nn)∧Hid (Since w1 wr)∧w1.heap.size+1≤wr.heap.size∧Hid (Bx wr w1.heap.size #[.slice A m c,.int .i64 (k:Int),.int .i64 (s.size:Int),.int .i64 0,.int .i64 0] 127)∧Hid (wr.ownsRow (w1.heap.size+1) 28 8 (.slice B nn cp) nn cs)∧Hid (Rws 8 (QI (own (Lo (w1.heap.size+1)) (.slice B nn cp)) wr) xs cs)∧Hid (allD (s.size:Int) (513 - nn) xs (ts.drop k)=r)) (fun out _=>600 - lenV out)
   case atStart=>exact⟨none,0,0,0,[],[],rfl,by decide,Nat.zero_le _,rfl,sA _ _,by simp,BX0.out,World.ownsRow_nil _ _ _ _,.nil,by rw[HR.out]; rfl⟩
   case round =>
    clear BX0 SZ0 g0 g1 g2 g3 g4
    obtain⟨B,nn,cp,k,xs,cs,rfl,hnn,hk,HXL,HW,hsz,HB,HO,HQ,HE⟩:=hrel
    have HW0:=lH (H1.out.trans HW.out)
    by_cases hlt:k<m
    · have hz:=cast_lt m k hlt
      have HNE:=lH (show ts.drop k ≠ [] by intro e; rw[List.drop_eq_nil_iff] at e; have:=HM.out; omega)
      have HK:=lH (show k≤ts.length by have:=HM.out; omega)
      obtain⟨g0,g1,g2,g3,g4⟩:=bx5 HB.out
      by_cases h5:nn=512
      · subst h5
        have HBAD:=lH (all_big (n:=(s.size:Int)) (f:=0) HXL.out HNE.out)
        go_wp2_with fail
        (with_reducible refine (FLA.out k _ HW.out).mono ?_)
        rintro e4 w4 ⟨i4,a4,er,rfl,hec,h4⟩
        obtain⟨g0,g1,g2,g3,g4⟩:=bx5 (HB.out.since h4)
        obtain⟨_,_,_,_,_⟩:=bx5' (HB.out.since h4)
        go_wp2
        first | (go_region; go_wp2) | skip
        refine bodyPost_ret (v:=.tuple #[.slice none 0 0,.int .i64 a4,.int .i64 er]) ?_ rfl ?_
        · simp[results,Tryz.results44,go_sem]
        · obtain⟨p,x,hb,hx⟩:=HBAD.out
          exact⟨[],a4,er,none,0,rfl,Sl.nil _ _ _,.inr ⟨hec.1,rfl,p,x,HALL.out.trans (HR.out.symm.trans (HE.out.symm.trans hb)),hx,.inr hec.2⟩,(by first | exact HW0.out | exact since_put5 (HW0.out.trans h4) (by have:=H1.out.size; omega) _ _ _ _ _ | exact (since_put5 (HW0.out.trans h4) (by have:=H1.out.size; omega) _ _ _ _ _).trans (Since.drew (Since.refl _)))⟩
      · have hz5:((nn:Int) == 512)=false:=by rw[beq_eq_false_iff_ne]; omega
        have HNQ:=lH (show xs.length≠512 by rw[HXL.out]; exact h5)
        obtain⟨f,hf⟩:∃ f,513 - nn=f+1:=⟨512 - nn,by omega⟩
        have he:=HE.out
        rw[hf] at he
        have HE1:=lH he
        have HF:=lH hf
        have hnn2:nn+1≤512:=by omega
        clear he HE hf h5 hnn
        cases hit:item (s.size:Int) (ts.drop k) with
        | bad p x =>
         have I1:=lH (fun W (kk:Since w1 W)=>(IT.out k W kk HK.out).mono (fun e w' h=>got_bad (hit ▸ h)))
         have HB0:=lH (show stmt (s.size:Int) (ts.drop k) = .bad p x by simp only[stmt,bnd,hit,R.bind])
         clear hit
         go_wp2_with fail
         (with_reducible refine (I1.out _ HW.out).mono ?_)
         rintro e2 w2 ⟨i2,a2,er,_,hec,⟨ki,nm,bo,D,d1,d2,sz,ou,V,v1,v2,ak,rfl⟩,rfl,h2⟩
         have TN:=lH (fun W=>take_no A m c (s.size:Int) i2 a2 er ⟨#[59]⟩ W hec.1)
         have ne:(er != 0)=true:=by rw[bne_iff_ne]; exact hec.1
         have HEC:=lH hec
         clear hec
         have k2:=h2.trans ((sA w2 (.cells #[.slice A m c,.int .i64 i2,.int .i64 (s.size:Int),.int .i64 a2,.int .i64 er] 127)).trans (sA _ (.cells #[.int .i64 ki,.string nm,.bool bo,.slice D d1 d2,.int .i64 sz,.bool ou,.slice V v1 v2,.int .i64 ak] 28)))
         go_wp2_with fail
         (with_reducible refine (TN.out _).mono ?_)
         rintro e3 w3 ⟨rfl,h3⟩
         have k3:=k2.trans h3
         obtain⟨g0,g1,g2,g3,g4⟩:=bx5 (HB.out.since k3)
         obtain⟨_,_,_,_,_⟩:=bx5' (HB.out.since k3)
         go_wp2
         first | (go_region; go_wp2) | skip
         refine bodyPost_ret (v:=.tuple #[.slice none 0 0,.int .i64 a2,.int .i64 er]) ?_ rfl ?_
         · simp[results,Tryz.results44,go_sem]
         · exact⟨[],a2,er,none,0,rfl,Sl.nil _ _ _,.inr ⟨HEC.out.1,rfl,p,x,HALL.out.trans (HR.out.symm.trans (HE1.out.symm.trans (all_bad HNQ.out HNE.out HB0.out))),HEC.out.2 ▸ HEC.out.1,.inl HEC.out.2.symm⟩,(by first | exact HW0.out | exact since_put5 (HW0.out.trans k3) (by have:=H1.out.size; omega) _ _ _ _ _ | exact (since_put5 (HW0.out.trans k3) (by have:=H1.out.size; omega) _ _ _ _ _).trans (Since.drew (Since.refl _)))⟩
        | ok x rr =>
         have I1:=lH (fun W (kk:Since w1 W)=>(IT.out k W kk HK.out).mono (fun e w' h=>got_ok (hit ▸ h)))
         have HIT:=lH hit
         clear hit
         go_wp2_with fail
         (with_reducible refine (I1.out _ HW.out).mono ?_)
         rintro e2 w2 ⟨k1,_,hrr,l1,⟨D,V,rfl,q1,f1,q2,f2⟩,rfl,h2⟩
         obtain⟨D1,d1,rfl⟩:=q1.form
         obtain⟨V1,v1,rfl⟩:=q2.form
         subst hrr
         have T1:=lH (fun W (kk:Since w1 W)=>TK.out k1 W kk l1)
         have kB:=(sA w2 (.cells #[.slice A m c,.int .i64 (k1:Int),.int .i64 (s.size:Int),.int .i64 0,.int .i64 0] 127)).trans (sA _ (.cells #[.int .i64 x.kind,.string x.name,.bool x.bool,.slice D1 x.dom.length d1,.int .i64 x.size,.bool x.out,.slice V1 x.vals.length v1,.int .i64 x.ask] 28))
         have k2:=h2.trans kB
         have hs2:=h2.size
         have bX:=lH (bx_new3 (w2.alloc (.cells #[.slice A m c,.int .i64 (k1:Int),.int .i64 (s.size:Int),.int .i64 0,.int .i64 0] 127)) #[.int .i64 x.kind,.string x.name,.bool x.bool,.slice D1 x.dom.length d1,.int .i64 x.size,.bool x.out,.slice V1 x.vals.length v1,.int .i64 x.ask] 28 (g:=w2.heap.size+1) (by simp))
         go_wp2_with fail
         (with_reducible refine (T1.out _ (HW.out.trans k2)).mono ?_)
         rintro e3 w3 (⟨k3,hr3,l3,rfl,h3⟩ | ⟨p,x',hr3,i3,a3,er,rfl,hec,h3⟩)
         · have k3':=k2.trans h3
           have hs3:=h3.size; simp at hs3
           have b1:=lH (HB.out.since k3')
           obtain⟨g0,g1,g2,g3,g4⟩:=bx5 b1.out
           obtain⟨_,_,_,_,_⟩:=bx5' b1.out
           obtain⟨_,_,_,_,_,_,_,_⟩:=bx8 (bxfar5 (bX.out.since h3) (b':=w1.heap.size) (by omega) (.slice A m c) (.int .i64 (k3:Int)) (.int .i64 (s.size:Int)) (.int .i64 0) (.int .i64 0))
           have HS:=lH (show stmt (s.size:Int) (ts.drop k) = .ok x (ts.drop k3) by simp only[stmt,bnd,HIT.out,R.bind]; rw[show take semi (s.size:Int) (ts.drop k1)=_ from hr3]; rfl)
           have HE2:=lH ((all_ok HNQ.out HNE.out HS.out).symm.trans HE1.out)
           clear hr3
           have op3:=only_put5 w3 w1.heap.size (.slice A m c) (.int .i64 (k3:Int)) (.int .i64 (s.size:Int)) (.int .i64 0) (.int .i64 0)
           have oc:=lH (owns_since (owns_only (owns_since HO.out k3') op3 (by omega)) (sA _ (.cells #[.int .i64 x.kind,.string x.name,.bool x.bool,.slice D1 x.dom.length d1,.int .i64 x.size,.bool x.out,.slice V1 x.vals.length v1,.int .i64 x.ask] 28)))
           have qx1:QI (own (Lo (w1.heap.size+1)) (.slice B nn cp)) w2 x [.int .i64 x.kind,.string x.name,.bool x.bool,.slice D1 x.dom.length d1,.int .i64 x.size,.bool x.out,.slice V1 x.vals.length v1,.int .i64 x.ask]:=⟨_,_,rfl,q1,f1.mono (fun g hg=>by rcases hg with hg | hg; exact Nat.lt_of_lt_of_le hg hsz; exact (HO.out.lt g hg).2),q2.mono (fun y u=>QX.less fun b hb => .inl (by rcases hb with hb | hb; exact Nat.lt_of_lt_of_le hb hsz; exact (HO.out.lt b hb).2)),f2.mono (fun g hg=>by rcases hg with hg | hg; exact Nat.lt_of_lt_of_le hg hsz; exact (HO.out.lt g hg).2)⟩
           have qx2:=Rws.snoc (ri_since HQ.out k3') (stI _ _ _ _ _ qx1 (kB.trans h3)) rfl
           have QX3:=lH (ri_since (ri_only qx2 op3 (.inl (show _<_ by omega))) (sA _ (.cells #[.int .i64 x.kind,.string x.name,.bool x.bool,.slice D1 x.dom.length d1,.int .i64 x.size,.bool x.out,.slice V1 x.vals.length v1,.int .i64 x.ask] 28)))
           clear qx1 qx2 op3 q1 q2 f1 f2 kB
           go_wp2_with (at_builtin; refine wpList_append_own_at _ rfl _ _ 22 rfl (w1.heap.size+1) 28 i0 (.agg #[.int .i64 0,.string ⟨#[]⟩,.bool false,.slice none 0 0,.int .i64 0,.bool false,.slice none 0 0,.int .i64 0]) 8 104 Tryz.underlying22 hi hz0 hz1 hz2 rfl (by decide) _ _ _ rfl oc.out ⟨w3.heap.size,0,none⟩ 1 1 [.int .i64 x.kind,.string x.name,.bool x.bool,.slice D1 x.dom.length d1,.int .i64 x.size,.bool x.out,.slice V1 x.vals.length v1,.int .i64 x.ask] rfl rfl ?c1 ?c2 ?c3 ?c4 ?c5 ?_)
           case c1 =>
            intro j u hj
            exact cell_new _ _ _ (by simp) (by simpa using hj)
           case c2=>intro u hu; simp at hu; rcases hu with rfl | rfl | rfl | rfl | rfl | rfl | rfl | rfl <;> rfl
           case c3=>unfold maxLen; omega
           case c4=>omega
           case c5=>simp; omega
           intro v4 w4 hown hgrow _ hat
           have hgo:∀ g,(Value.slice B nn cp).ownBlock=some g→w1.heap.size+1≤g:=fun g hg=>(HO.out.lt g hg).1
           have hB3:=(bxput5 b1.out (.slice A m c) (.int .i64 (k3:Int)) (.int .i64 (s.size:Int)) (.int .i64 0) (.int .i64 0)).since (sA _ (.cells #[.int .i64 x.kind,.string x.name,.bool x.bool,.slice D1 x.dom.length d1,.int .i64 x.size,.bool x.out,.slice V1 x.vals.length v1,.int .i64 x.ask] 28))
           have hS3:=(since_put5 (HW.out.trans k3') (Nat.le_refl _) (.slice A m c) (.int .i64 (k3:Int)) (.int .i64 (s.size:Int)) (.int .i64 0) (.int .i64 0)).trans (sA _ (.cells #[.int .i64 x.kind,.string x.name,.bool x.bool,.slice D1 x.dom.length d1,.int .i64 x.size,.bool x.out,.slice V1 x.vals.length v1,.int .i64 x.ask] 28))
           have HQ4:=lH (ri_app QX3.out hgrow hat (by simp))
           have HB4:=lH (bx_grown hB3 hgrow (fun g hg=>by have:=hgo g hg; omega))
           have HW4:=lH (show Since w1 w4 from Below.grown hS3 hgrow hS3.size (fun g hg=>by have:=hgo g hg; omega))
           have hz4:w1.heap.size+1≤w4.heap.size:=by have:=HB4.out.lt; omega
           have ho4:w4.ownsRow (w1.heap.size+1) 28 8 v4 (nn+1) (cs ++ [.int .i64 x.kind,.string x.name,.bool x.bool,.slice D1 x.dom.length d1,.int .i64 x.size,.bool x.out,.slice V1 x.vals.length v1,.int .i64 x.ask]):=hown
           obtain⟨B4,cp4,rfl⟩:=owns_slice ho4
           have HO4:=lH ho4
           clear hown hgrow hat hgo hB3 hS3 ho4
           go_wp2
           go_roundw
           case rel=>exact⟨B4,nn+1,cp4,k3,xs ++ [x],_,rfl,hnn2,by have:=HM.out; omega,by rw[List.length_append,HXL.out]; rfl,HW4.out,hz4,HB4.out,HO4.out,HQ4.out,by rw[show 513 - (nn+1)=f by have:=HF.out; omega]; exact HE2.out⟩
           case measure=>simp[lenV]; omega
         · have k3':=k2.trans h3
           have ne:(er != 0)=true:=by rw[bne_iff_ne]; exact hec.1
           have HEC:=lH hec
           have HB0:=lH (show stmt (s.size:Int) (ts.drop k) = .bad p x' by simp only[stmt,bnd,HIT.out,R.bind]; rw[show take semi (s.size:Int) (ts.drop k1)=_ from hr3])
           clear hec hr3
           obtain⟨g0,g1,g2,g3,g4⟩:=bx5 (HB.out.since k3')
           obtain⟨_,_,_,_,_⟩:=bx5' (HB.out.since k3')
           go_wp2
           first | (go_region; go_wp2) | skip
           refine bodyPost_ret (v:=.tuple #[.slice none 0 0,.int .i64 a3,.int .i64 er]) ?_ rfl ?_
           · simp[results,Tryz.results44,go_sem]
           · exact⟨[],a3,er,none,0,rfl,Sl.nil _ _ _,.inr ⟨HEC.out.1,rfl,p,x',HALL.out.trans (HR.out.symm.trans (HE1.out.symm.trans (all_bad HNQ.out HNE.out HB0.out))),HEC.out.2 ▸ HEC.out.1,.inl HEC.out.2.symm⟩,(by first | exact HW0.out | exact since_put5 (HW0.out.trans k3') (by have:=H1.out.size; omega) _ _ _ _ _ | exact (since_put5 (HW0.out.trans k3') (by have:=H1.out.size; omega) _ _ _ _ _).trans (Since.drew (Since.refl _)))⟩
    · have hz:decide ((k:Int)<(m:Int))=false:=cast_nl m k (by omega)
      have HK9:=lH (show ts.drop k = [] from List.drop_eq_nil_of_le (by have:=HM.out; omega))
      have hlt':m≤k:=by omega
      obtain⟨g0,g1,g2,g3,g4⟩:=bx5 HB.out
      go_wp2
      refine bodyPost_ret (v:=.tuple #[.slice B nn cp,.int .i64 0,.int .i64 0]) (by simp[results,Tryz.results44,go_sem]) rfl ?_
      have hall:textD s=(xs,0,0):=HALL.out.trans (HR.out.symm.trans (HE.out.symm.trans (by rw[HK9.out]; cases 513 - nn <;> rfl)))
      have e9:=HXL.out
      subst e9
      exact⟨xs,0,0,B,cp,rfl,(Sl.own HO.out HQ.out rfl).mono (fun x u=>QI.none),.inl ⟨rfl,hall⟩,HW0.out⟩
 · have HE:=lH he0
   have hz:(e0 != 0)=true:=by rw[bne_iff_ne]; exact he0
   have HB:=lH (text_bad HSP.out he0)
   have SPH:=lH SP
   clear he0 SP
   go_wp2_with fail
   (with_reducible refine SPH.out.mono ?_)
   rintro e1 w1 ⟨A,c,rfl,-,h1⟩
   go_wp2
   refine bodyPost_ret (v:=.tuple #[.slice none 0 0,.int .i64 (p0:Int),.int .i64 e0]) (by simp[results,Tryz.results44,go_sem]) rfl ?_
   exact⟨[],_,_,none,0,rfl,Sl.nil _ _ _,.inr ⟨HE.out,rfl,_,_,HB.out,HE.out,.inl rfl⟩,h1⟩
end Go.Proofs.YtjmmcnldfkjebaaGreatDoor.Doc6
end
