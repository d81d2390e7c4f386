/- What the document's own value of layer 5 gives back. -/
import Derived.Deep.DeepCutAuto
import Derived.Test.YtjmmcnldfkjebaaGreatDoorQbk
import Derived.Test.YtjmmcnldfkjebaaGreatDoorQbn
import Derived.Test.YtjmmcnldfkjebaaGreatDoorQaf
set_option maxHeartbeats 4000000
set_option maxRecDepth 100000
namespace Go.Proofs.YtjmmcnldfkjebaaGreatDoor.Ref05
open Go.RowKit
set_option linter.unusedVariables false
set_option linter.unusedSimpArgs false
open Dig Lx
open Ref03 (sv srightB smallZ negZ sval ngB mag RetS RetZ)
theorem of_nat (n:Nat) (w:World) (hn:n≤9223372036854775807):Calls Tryz.prog 56 #[.int .i64 (n:Int)] w (RetS false (digs n) w):=by
 have k:=Ref03.of_any (n:Int) w (by omega)
 have e1:ngB (n:Int)=false:=by unfold ngB; rw[decide_eq_false_iff_not]; omega
 have e2:mag (n:Int)=digs n:=by unfold mag; simp
 rwa [e1,e2] at k
theorem of_ten (w:World):Calls Tryz.prog 56 #[.int .i64 10] w (RetS false (digs 10) w):=of_nat 10 w (by omega)
theorem times_nat (A0 A1:Option Addr) (c0 c1 m n:Nat) (w:World) (hx:Row w (.slice A0 (digs m).length c0) (digs m)) (hy:Row w (.slice A1 (digs n).length c1) (digs n)) (lx:(digs m).length≤1000) (ly:(digs n).length≤1000) :
 Calls Tryz.prog 55 #[.agg #[.bool false,.slice A0 (digs m).length c0],.agg #[.bool false,.slice A1 (digs n).length c1]] w (RetS false (digs (m*n)) w):=by
 have k:=Ref03.times_any A0 A1 c0 c1 false false (digs m) (digs n) w hx hy lx ly
 rw[num_digs,num_digs] at k
 exact k
theorem sum_nat (A0 A1:Option Addr) (c0 c1 m n:Nat) (w:World) (hx:Row w (.slice A0 (digs m).length c0) (digs m)) (hy:Row w (.slice A1 (digs n).length c1) (digs n)) (lx:(digs m).length≤1000) (ly:(digs n).length≤1000) :
 Calls Tryz.prog 54 #[.agg #[.bool false,.slice A0 (digs m).length c0],.agg #[.bool false,.slice A1 (digs n).length c1]] w (RetS false (digs (m+n)) w):=by
 have k:=Ref03.sum_any A0 A1 c0 c1 false false (digs m) (digs n) w hx hy lx ly (norm_digs _) (norm_digs _)
 have e:sval false (digs m)+sval false (digs n)=((m+n:Nat):Int):=by
  simp only[sval,Bool.false_eq_true,if_false,num_digs]; omega
 have e1:ngB ((m+n:Nat):Int)=false:=by unfold ngB; rw[decide_eq_false_iff_not]; omega
 have e2:mag ((m+n:Nat):Int)=digs (m+n):=by unfold mag; rw[Int.natAbs_natCast]
 rw[e,e1,e2] at k
 exact k
theorem neg_nat (A0:Option Addr) (c0 n:Nat) (w:World) (hx:Row w (.slice A0 (digs n).length c0) (digs n)) (lx:(digs n).length≤256) :
 Calls Tryz.prog 57 #[.agg #[.bool false,.slice A0 (digs n).length c0]] w fun e w'=>∃ A c,e = .returned (.tuple #[.agg #[.bool (ngB (-(n:Int))),.slice A (digs n).length c],.int .i64 0])∧Row w' (.slice A (digs n).length c) (digs n)∧Since w w':=by
 have k:=Ref03.neg_any A0 c0 false (digs n) w hx (by omega)
 have hr:srightB false (digs n)=true:=by simp[srightB,right_of lx (norm_digs n)]
 have e2:mag (-(n:Int))=digs n:=by unfold mag; simp
 unfold negZ at k
 rw[if_pos hr] at k
 simp only[sval,Bool.false_eq_true,if_false,num_digs,e2] at k
 exact k
theorem small_nat (A0:Option Addr) (c0 n:Nat) (neg sg:Bool) (z:Int) (w:World) (hx:Row w (.slice A0 (digs n).length c0) (digs n)) (lx:(digs n).length≤256) (hz:z=if neg=true then -(n:Int) else (n:Int)) (hg:sg=(neg && ngB (-(n:Int)))) :
 Calls Tryz.prog 58 #[.agg #[.bool sg,.slice A0 (digs n).length c0]] w fun e w'=>e = .returned (.tuple #[.int .i64 (if fits z then z else 0),.int .i64 (if fits z then 0 else 4)])∧Since w w':=by
 subst hg
 have k:=Ref03.small_any A0 c0 (neg && ngB (-(n:Int))) (digs n) w hx (by omega)
 have e1:(neg && ngB (-(n:Int)))=ngB z:=by
  subst hz; cases neg
  · simp[ngB]
  · simp
 have e2:digs n=mag z:=by subst hz; unfold mag; cases neg <;> simp
 have hr:srightB (ngB z) (mag z)=true:=Bk.right_mag (by rw[← e2]; exact lx)
 have hs:sval (ngB z) (mag z)=z:=Bk.sval_mag z
 rw[e1]
 rw[e1] at k
 unfold smallZ at k
 rw[e2,if_pos hr,hs] at k
 rw[e2]
 refine k.mono ?_
 rintro e w' ⟨rfl,h⟩
 refine⟨?_,h⟩
 have hf:Ref03.fitsI z↔fits z:=by unfold Ref03.fitsI fits; omega
 by_cases h:fits z
 · rw[if_pos (hf.2 h),if_pos h,if_pos h]
 · rw[if_neg (fun g=>h (hf.1 g)),if_neg h,if_neg h]
theorem undec_take_le (l:Bs) (k:Nat):undec (l.take k)≤undec l:=by
 have h:∀ (a b:Bs),undec a≤undec (a++b):=by
  intro a b
  induction b generalizing a with
  | nil=>simp
  | cons c t ih =>
   have:=ih (a ++ [c])
   rw[undec_snoc] at this
   simp only[List.append_assoc,List.cons_append,List.nil_append] at this
   omega
 have:=h (l.take k) (l.drop k)
 rwa [List.take_append_drop] at this
theorem undec_step {s:ByteArray} {k:Nat} (h:k<s.size):undec ((L s).take (k+1))=undec ((L s).take k)*10+(s[k].toNat - 48):=by
 have hl:k<(L s).length:=by rw[L_len]; exact h
 rw[List.take_succ_eq_append_getElem hl,undec_snoc]
 have:(L s)[k]=s[k]:=rfl
 rw[this]; omega
theorem dig_bounds {c:UInt8} (h:digB c=true):48≤c.toNat∧c.toNat≤57:=by simpa [digB] using h
theorem big_no {n:Nat} (h:3<(digs n).length):18446744073709551616≤n:=by
 have:=Ref03.num_long (isDig_digs n) (norm_digs n) (by omega)
 rwa [num_digs] at this
def RetV (z:Int) (w:World) (e:Ending) (w':World):Prop:=e = .returned (.tuple #[.int .i64 (if fits z then z else 0),.bool (decide (fits z))])∧Since w w'
theorem RetV.yes {z:Int} {w w':World} (h:fits z) (k:Since w w'):RetV z w (.returned (.tuple #[.int .i64 z,.bool true])) w':=by
 refine⟨?_,k⟩; rw[if_pos h,decide_eq_true h]
theorem RetV.no {z:Int} {w w':World} (h:¬ fits z) (k:Since w w'):RetV z w (.returned (.tuple #[.int .i64 0,.bool false])) w':=by
 refine⟨?_,k⟩; rw[if_neg h,decide_eq_false h]
theorem len10 {m:Nat} (h:(digs m).length≤3):(digs (m*10)).length≤1000:=by
 have h1:m<4294967296 ^ 3:=by
  have h2:=num_lt (isDig_digs m)
  rw[num_digs] at h2
  exact Nat.lt_of_lt_of_le h2 (Nat.pow_le_pow_right (by omega) h)
 exact Nat.le_trans (digs_len_le (k:=4) (by simp only[Nat.reducePow] at h1 ⊢; omega)) (by omega)
theorem len9 {d:Nat} (h:d≤9):(digs d).length≤1000:=
 Nat.le_trans (digs_len_le (k:=1) (by simp only[Nat.reducePow]; omega)) (by omega)
theorem intD_minus {s:ByteArray} (h0:0<s.size) (h:s[0].toNat=45):intD (L s) = -(undec (L (s.extract 1 s.size)):Int):=by
 have e:=L_drop s 0 h0
 rw[List.drop_zero] at e
 have h45:s[0]=45:=UInt8.toNat_inj.1 h
 unfold intD
 rw[if_pos (by rw[e,h45]; rfl),L_extract _ _ _ (by omega),e]
 have:(s[0] :: (L s).drop (0+1)).tail=(L s).drop 1:=rfl
 rw[this,← e,List.take_of_length_le (by rw[List.length_drop,L_len]; exact Nat.le_refl _)]
theorem intD_plus {s:ByteArray} (h0:0<s.size) (h:s[0].toNat≠45):intD (L s)=(undec (L s):Int):=by
 have e:=L_drop s 0 h0
 rw[List.drop_zero] at e
 unfold intD
 rw[if_neg]
 rw[e]
 intro h1
 injection h1 with h1
 rw[h1] at h
 exact h rfl
theorem ext_at {s:ByteArray} {k:Nat} (h1:k+1<s.size) (h:k<(s.extract 1 s.size).size):(s.extract 1 s.size)[k]=s[k+1]:=by
 have e:=ByteArray.getElem_extract (start:=1) (stop:=s.size) (b:=s) (i:=k) h
 rw[e]
 congr 1; omega
theorem value_minus (s:ByteArray) (w:World) (hs:s.size≤100000) (h0:0<s.size) (hd:s[0].toNat=45) (hdig:∀ k (h:k<s.size),1≤k→digB s[k]=true) :
 Calls Tryz.prog 29 #[.string s] w (RetV (intD (L s)) w):=by
 obtain⟨T,hT⟩:∃ T,T=s.extract 1 s.size:=⟨_,rfl⟩
 have HT:=lH hT
 have hTs:T.size=s.size - 1:=by rw[hT,ByteArray.size_extract]; omega
 have hI:intD (L s) = -(undec (L T):Int):=by rw[hT]; exact intD_minus h0 hd
 have hD:∀ k (h:k<T.size),digB T[k]=true:=fun k h=>by subst hT; exact (congrArg digB (ext_at (by omega) h)).trans (hdig (k+1) (by omega) (by omega))
 have f1:((s[0].toNat:Int) == 45)=true:=by rw[beq_iff_eq]; omega
 have hts:T.size≤100000:=by omega
 have f2:(1:Int)≤(s.size:Int):=by omega
 clear hT hTs
 obtain⟨vz,hvz⟩:∃ z,z=intD (L s):=⟨_,rfl⟩
 rw[← hvz] at hI ⊢
 clear hvz
 have HD:=lH hD
 have HI:=lH hI
 clear hD hI hdig hd
 go_enter Tryz.func29,Tryz.ntmps29
 go_wp2
 rw[← HT.out]
 clear HT
 go_loopw [6] (fun i wr=>∃ (k:Nat) (A:Option Addr) (c:Nat),k≤T.size∧i = .int .i64 (k:Int)∧Hid (Bx wr w.heap.size #[.bool false,.slice A (digs (undec ((L T).take k))).length c] 107)∧Hid (Row wr (.slice A (digs (undec ((L T).take k))).length c) (digs (undec ((L T).take k))))∧Hid ((digs (undec ((L T).take k))).length≤3)∧Since w wr) (fun i _=>T.size - (intOf i).toNat)
 case atStart=>exact⟨0,none,0,Nat.zero_le _,rfl,Bx.fresh _ _ _,Row.nil _,Nat.zero_le _,sA _ _⟩
 case round =>
  obtain⟨k,A,c,hk,rfl,HB,HR,HL,hw⟩:=hrel
  by_cases hlt:k<T.size
  · have hd:=dig_bounds (HD.out k hlt)
    have HS:=lH (undec_step hlt)
    have HM:=lH (undec_take_le (L T) (k+1))
    obtain⟨m,hm⟩:∃ m,m=undec ((L T).take k):=⟨_,rfl⟩
    rw[← hm] at HB HR HL HS
    clear hm
    obtain⟨d,hdd⟩:∃ d,d=T[k].toNat - 48:=⟨_,rfl⟩
    rw[← hdd] at HS
    have e1:IntKind.u8.wrap ((T[k].toNat:Int) - 48)=(d:Int):=by rw[show ((T[k].toNat:Int) - 48)=(d:Int) by omega]; exact IntWalk.u8_in _ (by omega)
    have e2:IntKind.i64.wrap (d:Int)=(d:Int):=IntWalk.i64_in _ (by omega)
    have hd9:d≤9:=by omega
    clear hdd
    obtain⟨n1,hn1⟩:∃ n,n=m*10+d:=⟨_,rfl⟩
    rw[← hn1] at HS
    have HN:=lH hn1
    clear hn1
    go_upto_region 8 with fail
    have rx:=HR.out
    have hr0:Since wr wr.drew:=Since.drew (Since.refl wr)
    have rx:=rx.since hr0
    refine wp_region_noPanic ?_
    refine Reg.wp_region_G (S:=fun _=>True) (fun j => [10].contains j) (by kernel_rfl) trivial ?_
    refine' Reg.tk (i:=0) (oi:=⟨some 22,.load 107 (.tmp 5),107,"ref.go:93",#[],none⟩) (v:=_) [2,8,9,10] [10] (Or.inl ⟨by rfl,Or.inl ?hy2⟩) ?r_2
    case hy2=>(intro w' kk ss; obtain⟨v1,v2⟩:=(HB.out.since (hr0.trans kk)).two; go_simp; first | done | with_reducible rfl)
    try simp only[Act.put,Reg.l1,Reg.l2,Reg.l3]
    refine' Reg.tk (i:=3) (oi:=⟨some 25,.move (.tmp 0),9,"ref.go:93",#[],none⟩) (v:=_) [5,6,7,8,9,10] [10] (Or.inl ⟨by rfl,Or.inl ?hy3⟩) ?r_3
    case hy3=>(intro w' kk ss; obtain⟨v1,v2⟩:=(HB.out.since (hr0.trans kk)).two; go_simp; first | done | with_reducible rfl)
    try simp only[Act.put,Reg.l1,Reg.l2,Reg.l3]
    refine' Reg.tk (i:=4) (oi:=⟨some 26,.move (.tmp 6),3,"ref.go:93",#[],none⟩) (v:=_) [5,6,7,8,9,10] [10] (Or.inl ⟨by rfl,Or.inl ?hy4⟩) ?r_4
    case hy4=>(intro w' kk ss; obtain⟨v1,v2⟩:=(HB.out.since (hr0.trans kk)).two; go_simp; first | done | with_reducible rfl)
    try simp only[Act.put,Reg.l1,Reg.l2,Reg.l3]
    refine' Reg.tk (i:=5) (oi:=⟨some 27,.index 9 (.tmp 25) (.tmp 26),5,"ref.go:93",#[⟨3,.data⟩,⟨4,.data⟩],none⟩) (v:=_) [6,7,8,9,10] [10] (Or.inl ⟨by rfl,Or.inl ?hy5⟩) ?r_5
    case hy5=>(intro w' kk ss; obtain⟨v1,v2⟩:=(HB.out.since (hr0.trans kk)).two; go_simp; first | done | with_reducible rfl)
    try simp only[Act.put,Reg.l1,Reg.l2,Reg.l3]
    refine' Reg.tk (i:=6) (oi:=⟨some 28,.binOp .sub 5 (.tmp 27) (.const (.int .u8 48)) 5,5,"ref.go:93",#[⟨5,.data⟩],none⟩) (v:=_) [7,8,9,10] [10] (Or.inl ⟨by rfl,Or.inl ?hy6⟩) ?r_6
    case hy6=>(intro w' kk ss; obtain⟨v1,v2⟩:=(HB.out.since (hr0.trans kk)).two; go_simp; first | done | with_reducible rfl)
    try simp only[Act.put,Reg.l1,Reg.l2,Reg.l3]
    refine' Reg.tk (i:=7) (oi:=⟨some 29,.convert 5 2 (.tmp 28),2,"ref.go:93",#[⟨6,.data⟩],none⟩) (v:=_) [8,9,10] [10] (Or.inl ⟨by rfl,Or.inl ?hy7⟩) ?r_7
    case hy7=>(intro w' kk ss; obtain⟨v1,v2⟩:=(HB.out.since (hr0.trans kk)).two; go_simp; first | done | with_reducible rfl)
    try simp only[Act.put,Reg.l1,Reg.l2,Reg.l3]
    refine Reg.wpG_ready (rs:=[1]) (by kernel_rfl) (by simp) (fun wq1001 k1001' sq1001 => ?_)
    have hr0:=hr0.trans k1001'
    have rx:=rx.since k1001'
    refine Reg.AllG.first (o:=⟨some 23,.call ⟨.value (.func 56),#[.const (.int .i64 10)],#[2]⟩,107,"ref.go:93",#[],none⟩) rfl (by rfl) (fun K hK=>?_) Reg.AllG.nil
    go_simp
    (with_reducible refine (of_ten wq1001).mono ?_)
    rintro e y1001 ⟨O,o',rfl,ro,hx⟩
    refine hK.out _ _ trivial hx ?_
    clear hK K
    have hr0:=hr0.trans hx
    have rx:=rx.since hx
    clear hx
    try simp only[Act.put,Reg.l1,Reg.l2,Reg.l3]
    refine Reg.wpG_ready (rs:=[2]) (by kernel_rfl) (by simp) (fun wq1002 k1002' sq1002 => ?_)
    have hr0:=hr0.trans k1002'
    have rx:=rx.since k1002'
    have ro:=ro.since k1002'
    refine Reg.AllG.first (o:=⟨some 24,.call ⟨.value (.func 55),#[.tmp 22,.tmp 23],#[107,107]⟩,107,"ref.go:93",#[⟨0,.data⟩,⟨1,.data⟩,⟨1,.chain⟩],none⟩) rfl (by rfl) (fun K hK=>?_) Reg.AllG.nil
    go_simp
    (with_reducible refine (times_nat A O c o' m 10 wq1002 rx ro (by have:=HL.out; omega) (by decide)).mono ?_)
    rintro e y1002 ⟨Z,z,rfl,rz,hx⟩
    refine hK.out _ _ trivial hx ?_
    clear hK K
    have hr0:=hr0.trans hx
    have rx:=rx.since hx
    have ro:=ro.since hx
    clear hx
    try simp only[Act.put,Reg.l1,Reg.l2,Reg.l3]
    refine Reg.wpG_ready (rs:=[8]) (by kernel_rfl) (by simp) (fun wq1003 k1003' sq1003 => ?_)
    have hr0:=hr0.trans k1003'
    have rx:=rx.since k1003'
    have ro:=ro.since k1003'
    have rz:=rz.since k1003'
    refine Reg.AllG.first (o:=⟨some 30,.call ⟨.value (.func 56),#[.tmp 29],#[2]⟩,107,"ref.go:93",#[⟨7,.data⟩,⟨2,.chain⟩],none⟩) rfl (by rfl) (fun K hK=>?_) Reg.AllG.nil
    go_simp
    (with_reducible refine (of_nat d wq1003 (by omega)).mono ?_)
    rintro e y1003 ⟨D,d',rfl,rd,hx⟩
    refine hK.out _ _ trivial hx ?_
    clear hK K
    have hr0:=hr0.trans hx
    have rx:=rx.since hx
    have ro:=ro.since hx
    have rz:=rz.since hx
    clear hx
    try simp only[Act.put,Reg.l1,Reg.l2,Reg.l3]
    refine Reg.wpG_ready (rs:=[9]) (by kernel_rfl) (by simp) (fun wq1004 k1004' sq1004 => ?_)
    have hr0:=hr0.trans k1004'
    have rx:=rx.since k1004'
    have ro:=ro.since k1004'
    have rz:=rz.since k1004'
    have rd:=rd.since k1004'
    refine Reg.AllG.first (o:=⟨some 31,.call ⟨.value (.func 54),#[.tmp 24,.tmp 30],#[107,107]⟩,107,"ref.go:93",#[⟨2,.data⟩,⟨8,.data⟩,⟨8,.chain⟩],none⟩) rfl (by rfl) (fun K hK=>?_) Reg.AllG.nil
    go_simp
    (with_reducible refine (sum_nat Z D z d' (m*10) d wq1004 rz rd (len10 HL.out) (len9 hd9)).mono ?_)
    rintro e y1004 ⟨Y,y,rfl,ry,hx⟩
    refine hK.out _ _ trivial hx ?_
    clear hK K
    have hr0:=hr0.trans hx
    have rx:=rx.since hx
    have ro:=ro.since hx
    have rz:=rz.since hx
    have rd:=rd.since hx
    clear hx
    try simp only[Act.put,Reg.l1,Reg.l2,Reg.l3]
    refine Reg.wpG_ready (rs:=[10]) (by kernel_rfl) (by simp) (fun wq k1005' sq => ?_)
    have hr0:=hr0.trans k1005'
    have rx:=rx.since k1005'
    have ro:=ro.since k1005'
    have rz:=rz.since k1005'
    have rd:=rd.since k1005'
    have ry:=ry.since k1005'
    refine Reg.AllG.last (o := { dst := none, op := Op.store 107 (Operand.tmp 5) (Operand.tmp 31), type := 0, pos := "ref.go:93", after := #[{ on := 9, ground := Ground.data }, { on := 9, ground := Ground.chain }, { on := 0, ground := Ground.phase }, { on := 1, ground := Ground.phase }, { on := 2, ground := Ground.phase }, { on := 3, ground := Ground.phase }, { on := 4, ground := Ground.phase }, { on := 5, ground := Ground.phase }, { on := 6, ground := Ground.phase }, { on := 7, ground := Ground.phase }, { on := 8, ground := Ground.phase }, { on := 9, ground := Ground.phase }], guard := none }) rfl (by rfl) (fun K hK => ?_) Reg.AllG.nil
    have gb:=HB.out.since hr0
    obtain⟨v1,v2⟩:=gb.two
    obtain⟨g1,g2⟩:=gb.two'
    have far:=put2_far wq w.heap.size (.bool false) (.slice Y (digs (m*10+d)).length y)
    have gp:=gb.put2 (.bool false) (.slice Y (digs (m*10+d)).length y)
    have rp:=gb.rowsI ry far
    have sp:Since w (put2 wq w.heap.size (.bool false) (.slice Y (digs (m*10+d)).length y)):=since_put2 (hw.trans hr0) (Nat.le_refl _) _ _
    rw[← HN.out] at gp rp sp
    go_simp
    refine hK.out _ _ trivial (fun hHeld => ?_)
    clear hK K
    try simp only[Act.put,Reg.l1,Reg.l2,Reg.l3]
    refine wpAnyH_done (by kernel_rfl) ?_ _
    refine NoPanic.normal ?_
    obtain⟨wp,hwp⟩:∃ wp,wp=put2 wq w.heap.size (.bool false) (.slice Y (digs n1).length y):=⟨_,rfl⟩
    rw[← hwp] at gp rp sp
    rw[← HN.out]
    have hwp2:(wq.setCell ⟨w.heap.size,0,none⟩ (.bool false)).setCell ⟨w.heap.size,1,none⟩ (.slice Y (digs n1).length y)=wp:=hwp.symm
    rw[hwp2]
    clear hwp hwp2 far
    obtain⟨p1,p2⟩:=gp.two
    have GP:=lH gp
    have RP:=lH rp
    clear gp rp v1 v2 g1 g2 gb
    by_cases h3:(digs n1).length≤3
    · have HL3:=lH h3
      have hz:decide ((3:Int)<((digs n1).length:Int))=false:=by rw[decide_eq_false_iff_not]; omega
      clear h3
      go_wp2
      go_roundw
      case rel=>exact⟨k+1,Y,y,by omega,by go_num,by rw[HS.out]; exact GP.out,by rw[HS.out]; exact RP.out,by rw[HS.out]; exact HL3.out,sp⟩
      case measure=>simp[intOf]; omega
    · have hb:=big_no (n:=n1) (by omega)
      have hz:decide ((3:Int)<((digs n1).length:Int))=true:=by rw[decide_eq_true_iff]; omega
      have HX:=lH (show ¬ fits vz by rw[HI.out]; unfold fits; have:=HM.out; rw[HS.out] at this; omega)
      clear hb h3
      go_wp2
      go_ret2
      exact RetV.no HX.out sp
  · obtain rfl:k=T.size:=by omega
    have e:(L T).take T.size=L T:=List.take_of_length_le (by rw[L_len]; exact Nat.le_refl _)
    rw[e] at HB HR HL
    clear e HD
    obtain⟨m,hm⟩:∃ m,m=undec (L T):=⟨_,rfl⟩
    rw[← hm] at HB HR HL HI
    clear hm
    obtain⟨v1,v2⟩:=HB.out.two
    go_upto_region 13 with (go_at_call 57; (with_reducible refine (neg_nat A c m _ HR.out (by have:=HL.out; omega)).mono ?_); rintro e w1 ⟨Y,y,rfl,ry,hx⟩; have gb:=HB.out.since hx; obtain⟨v1,v2⟩:=gb.two; obtain⟨g1,g2⟩:=gb.two')
    have far:=put2_far w1 w.heap.size (.bool (ngB (-(m:Int)))) (.slice Y (digs m).length y)
    have gp:=gb.put2 (.bool (ngB (-(m:Int)))) (.slice Y (digs m).length y)
    have rp:=gb.rowsI ry far
    have sp:Since w (put2 w1 w.heap.size (.bool (ngB (-(m:Int)))) (.slice Y (digs m).length y)):=since_put2 (hw.trans hx) (Nat.le_refl _) _ _
    obtain⟨wp,hwp⟩:∃ wp,wp=put2 w1 w.heap.size (.bool (ngB (-(m:Int)))) (.slice Y (digs m).length y):=⟨_,rfl⟩
    rw[← hwp] at gp rp sp
    have hwp2:(w1.setCell ⟨w.heap.size,0,none⟩ (.bool (ngB (-(m:Int))))).setCell ⟨w.heap.size,1,none⟩ (.slice Y (digs m).length y)=wp:=hwp.symm
    rw[hwp2]
    clear hwp hwp2 far v1 v2 g1 g2
    obtain⟨v1,v2⟩:=gp.two
    have SM:=lH (fun W (h:Row W (.slice Y (digs m).length y) (digs m))=>small_nat Y y m true (ngB (-(m:Int))) vz W h (by have:=HL.out; omega) (by rw[HI.out,if_pos rfl]) (by simp))
    by_cases hf:fits vz
    · have FF:=lH hf
      simp only[if_pos hf] at SM
      clear hf
      go_wp2_with (go_at_call 58; (with_reducible refine (SM.out _ rp).mono ?_); rintro e w2 ⟨rfl,hy⟩)
      go_ret2
      exact RetV.yes FF.out (sp.trans hy)
    · have FF:=lH hf
      simp only[if_neg hf] at SM
      clear hf
      go_wp2_with (go_at_call 58; (with_reducible refine (SM.out _ rp).mono ?_); rintro e w2 ⟨rfl,hy⟩)
      go_ret2
      exact RetV.no FF.out (sp.trans hy)
theorem value_plus (s:ByteArray) (w:World) (hs:s.size≤100000) (h0:0<s.size) (hd:s[0].toNat≠45) (hdig:∀ k (h:k<s.size),0≤k→digB s[k]=true) :
 Calls Tryz.prog 29 #[.string s] w (RetV (intD (L s)) w):=by
 have hI:intD (L s)=(undec (L s):Int):=intD_plus h0 hd
 have hD:∀ k (h:k<s.size),digB s[k]=true:=fun k h=>hdig k h (by omega)
 have f1:((s[0].toNat:Int) == 45)=false:=by rw[beq_eq_false_iff_ne]; omega
 obtain⟨vz,hvz⟩:∃ z,z=intD (L s):=⟨_,rfl⟩
 rw[← hvz] at hI ⊢
 clear hvz
 have HD:=lH hD
 have HI:=lH hI
 clear hD hI hdig hd
 go_enter Tryz.func29,Tryz.ntmps29
 go_wp2
 go_loopw [6] (fun i wr=>∃ (k:Nat) (A:Option Addr) (c:Nat),k≤s.size∧i = .int .i64 (k:Int)∧Hid (Bx wr w.heap.size #[.bool false,.slice A (digs (undec ((L s).take k))).length c] 107)∧Hid (Row wr (.slice A (digs (undec ((L s).take k))).length c) (digs (undec ((L s).take k))))∧Hid ((digs (undec ((L s).take k))).length≤3)∧Since w wr) (fun i _=>s.size - (intOf i).toNat)
 case atStart=>exact⟨0,none,0,Nat.zero_le _,rfl,Bx.fresh _ _ _,Row.nil _,Nat.zero_le _,sA _ _⟩
 case round =>
  obtain⟨k,A,c,hk,rfl,HB,HR,HL,hw⟩:=hrel
  by_cases hlt:k<s.size
  · have hd:=dig_bounds (HD.out k hlt)
    have HS:=lH (undec_step hlt)
    have HM:=lH (undec_take_le (L s) (k+1))
    obtain⟨m,hm⟩:∃ m,m=undec ((L s).take k):=⟨_,rfl⟩
    rw[← hm] at HB HR HL HS
    clear hm
    obtain⟨d,hdd⟩:∃ d,d=s[k].toNat - 48:=⟨_,rfl⟩
    rw[← hdd] at HS
    have e1:IntKind.u8.wrap ((s[k].toNat:Int) - 48)=(d:Int):=by rw[show ((s[k].toNat:Int) - 48)=(d:Int) by omega]; exact IntWalk.u8_in _ (by omega)
    have e2:IntKind.i64.wrap (d:Int)=(d:Int):=IntWalk.i64_in _ (by omega)
    have hd9:d≤9:=by omega
    clear hdd
    obtain⟨n1,hn1⟩:∃ n,n=m*10+d:=⟨_,rfl⟩
    rw[← hn1] at HS
    have HN:=lH hn1
    clear hn1
    go_upto_region 8 with fail
    have rx:=HR.out
    have hr0:Since wr wr.drew:=Since.drew (Since.refl wr)
    have rx:=rx.since hr0
    refine wp_region_noPanic ?_
    refine Reg.wp_region_G (S:=fun _=>True) (fun j => [10].contains j) (by kernel_rfl) trivial ?_
    refine' Reg.tk (i:=0) (oi:=⟨some 22,.load 107 (.tmp 5),107,"ref.go:93",#[],none⟩) (v:=_) [2,8,9,10] [10] (Or.inl ⟨by rfl,Or.inl ?hy9⟩) ?r_9
    case hy9=>(intro w' kk ss; obtain⟨v1,v2⟩:=(HB.out.since (hr0.trans kk)).two; go_simp; first | done | with_reducible rfl)
    try simp only[Act.put,Reg.l1,Reg.l2,Reg.l3]
    refine' Reg.tk (i:=3) (oi:=⟨some 25,.move (.tmp 0),9,"ref.go:93",#[],none⟩) (v:=_) [5,6,7,8,9,10] [10] (Or.inl ⟨by rfl,Or.inl ?hy10⟩) ?r_10
    case hy10=>(intro w' kk ss; obtain⟨v1,v2⟩:=(HB.out.since (hr0.trans kk)).two; go_simp; first | done | with_reducible rfl)
    try simp only[Act.put,Reg.l1,Reg.l2,Reg.l3]
    refine' Reg.tk (i:=4) (oi:=⟨some 26,.move (.tmp 6),3,"ref.go:93",#[],none⟩) (v:=_) [5,6,7,8,9,10] [10] (Or.inl ⟨by rfl,Or.inl ?hy11⟩) ?r_11
    case hy11=>(intro w' kk ss; obtain⟨v1,v2⟩:=(HB.out.since (hr0.trans kk)).two; go_simp; first | done | with_reducible rfl)
    try simp only[Act.put,Reg.l1,Reg.l2,Reg.l3]
    refine' Reg.tk (i:=5) (oi:=⟨some 27,.index 9 (.tmp 25) (.tmp 26),5,"ref.go:93",#[⟨3,.data⟩,⟨4,.data⟩],none⟩) (v:=_) [6,7,8,9,10] [10] (Or.inl ⟨by rfl,Or.inl ?hy12⟩) ?r_12
    case hy12=>(intro w' kk ss; obtain⟨v1,v2⟩:=(HB.out.since (hr0.trans kk)).two; go_simp; first | done | with_reducible rfl)
    try simp only[Act.put,Reg.l1,Reg.l2,Reg.l3]
    refine' Reg.tk (i:=6) (oi:=⟨some 28,.binOp .sub 5 (.tmp 27) (.const (.int .u8 48)) 5,5,"ref.go:93",#[⟨5,.data⟩],none⟩) (v:=_) [7,8,9,10] [10] (Or.inl ⟨by rfl,Or.inl ?hy13⟩) ?r_13
    case hy13=>(intro w' kk ss; obtain⟨v1,v2⟩:=(HB.out.since (hr0.trans kk)).two; go_simp; first | done | with_reducible rfl)
    try simp only[Act.put,Reg.l1,Reg.l2,Reg.l3]
    refine' Reg.tk (i:=7) (oi:=⟨some 29,.convert 5 2 (.tmp 28),2,"ref.go:93",#[⟨6,.data⟩],none⟩) (v:=_) [8,9,10] [10] (Or.inl ⟨by rfl,Or.inl ?hy14⟩) ?r_14
    case hy14=>(intro w' kk ss; obtain⟨v1,v2⟩:=(HB.out.since (hr0.trans kk)).two; go_simp; first | done | with_reducible rfl)
    try simp only[Act.put,Reg.l1,Reg.l2,Reg.l3]
    refine Reg.wpG_ready (rs:=[1]) (by kernel_rfl) (by simp) (fun wq8001 k8001' sq8001 => ?_)
    have hr0:=hr0.trans k8001'
    have rx:=rx.since k8001'
    refine Reg.AllG.first (o:=⟨some 23,.call ⟨.value (.func 56),#[.const (.int .i64 10)],#[2]⟩,107,"ref.go:93",#[],none⟩) rfl (by rfl) (fun K hK=>?_) Reg.AllG.nil
    go_simp
    (with_reducible refine (of_ten wq8001).mono ?_)
    rintro e y8001 ⟨O,o',rfl,ro,hx⟩
    refine hK.out _ _ trivial hx ?_
    clear hK K
    have hr0:=hr0.trans hx
    have rx:=rx.since hx
    clear hx
    try simp only[Act.put,Reg.l1,Reg.l2,Reg.l3]
    refine Reg.wpG_ready (rs:=[2]) (by kernel_rfl) (by simp) (fun wq8002 k8002' sq8002 => ?_)
    have hr0:=hr0.trans k8002'
    have rx:=rx.since k8002'
    have ro:=ro.since k8002'
    refine Reg.AllG.first (o:=⟨some 24,.call ⟨.value (.func 55),#[.tmp 22,.tmp 23],#[107,107]⟩,107,"ref.go:93",#[⟨0,.data⟩,⟨1,.data⟩,⟨1,.chain⟩],none⟩) rfl (by rfl) (fun K hK=>?_) Reg.AllG.nil
    go_simp
    (with_reducible refine (times_nat A O c o' m 10 wq8002 rx ro (by have:=HL.out; omega) (by decide)).mono ?_)
    rintro e y8002 ⟨Z,z,rfl,rz,hx⟩
    refine hK.out _ _ trivial hx ?_
    clear hK K
    have hr0:=hr0.trans hx
    have rx:=rx.since hx
    have ro:=ro.since hx
    clear hx
    try simp only[Act.put,Reg.l1,Reg.l2,Reg.l3]
    refine Reg.wpG_ready (rs:=[8]) (by kernel_rfl) (by simp) (fun wq8003 k8003' sq8003 => ?_)
    have hr0:=hr0.trans k8003'
    have rx:=rx.since k8003'
    have ro:=ro.since k8003'
    have rz:=rz.since k8003'
    refine Reg.AllG.first (o:=⟨some 30,.call ⟨.value (.func 56),#[.tmp 29],#[2]⟩,107,"ref.go:93",#[⟨7,.data⟩,⟨2,.chain⟩],none⟩) rfl (by rfl) (fun K hK=>?_) Reg.AllG.nil
    go_simp
    (with_reducible refine (of_nat d wq8003 (by omega)).mono ?_)
    rintro e y8003 ⟨D,d',rfl,rd,hx⟩
    refine hK.out _ _ trivial hx ?_
    clear hK K
    have hr0:=hr0.trans hx
    have rx:=rx.since hx
    have ro:=ro.since hx
    have rz:=rz.since hx
    clear hx
    try simp only[Act.put,Reg.l1,Reg.l2,Reg.l3]
    refine Reg.wpG_ready (rs:=[9]) (by kernel_rfl) (by simp) (fun wq8004 k8004' sq8004 => ?_)
    have hr0:=hr0.trans k8004'
    have rx:=rx.since k8004'
    have ro:=ro.since k8004'
    have rz:=rz.since k8004'
    have rd:=rd.since k8004'
    refine Reg.AllG.first (o:=⟨some 31,.call ⟨.value (.func 54),#[.tmp 24,.tmp 30],#[107,107]⟩,107,"ref.go:93",#[⟨2,.data⟩,⟨8,.data⟩,⟨8,.chain⟩],none⟩) rfl (by rfl) (fun K hK=>?_) Reg.AllG.nil
    go_simp
    (with_reducible refine (sum_nat Z D z d' (m*10) d wq8004 rz rd (len10 HL.out) (len9 hd9)).mono ?_)
    rintro e y8004 ⟨Y,y,rfl,ry,hx⟩
    refine hK.out _ _ trivial hx ?_
    clear hK K
    have hr0:=hr0.trans hx
    have rx:=rx.since hx
    have ro:=ro.since hx
    have rz:=rz.since hx
    have rd:=rd.since hx
    clear hx
    try simp only[Act.put,Reg.l1,Reg.l2,Reg.l3]
    refine Reg.wpG_ready (rs:=[10]) (by kernel_rfl) (by simp) (fun wq k8005' sq => ?_)
    have hr0:=hr0.trans k8005'
    have rx:=rx.since k8005'
    have ro:=ro.since k8005'
    have rz:=rz.since k8005'
    have rd:=rd.since k8005'
    have ry:=ry.since k8005'
    refine Reg.AllG.last (o := { dst := none, op := Op.store 107 (Operand.tmp 5) (Operand.tmp 31), type := 0, pos := "ref.go:93", after := #[{ on := 9, ground := Ground.data }, { on := 9, ground := Ground.chain }, { on := 0, ground := Ground.phase }, { on := 1, ground := Ground.phase }, { on := 2, ground := Ground.phase }, { on := 3, ground := Ground.phase }, { on := 4, ground := Ground.phase }, { on := 5, ground := Ground.phase }, { on := 6, ground := Ground.phase }, { on := 7, ground := Ground.phase }, { on := 8, ground := Ground.phase }, { on := 9, ground := Ground.phase }], guard := none }) rfl (by rfl) (fun K hK => ?_) Reg.AllG.nil
    have gb:=HB.out.since hr0
    obtain⟨v1,v2⟩:=gb.two
    obtain⟨g1,g2⟩:=gb.two'
    have far:=put2_far wq w.heap.size (.bool false) (.slice Y (digs (m*10+d)).length y)
    have gp:=gb.put2 (.bool false) (.slice Y (digs (m*10+d)).length y)
    have rp:=gb.rowsI ry far
    have sp:Since w (put2 wq w.heap.size (.bool false) (.slice Y (digs (m*10+d)).length y)):=since_put2 (hw.trans hr0) (Nat.le_refl _) _ _
    rw[← HN.out] at gp rp sp
    go_simp
    refine hK.out _ _ trivial (fun hHeld => ?_)
    clear hK K
    try simp only[Act.put,Reg.l1,Reg.l2,Reg.l3]
    refine wpAnyH_done (by kernel_rfl) ?_ _
    refine NoPanic.normal ?_
    obtain⟨wp,hwp⟩:∃ wp,wp=put2 wq w.heap.size (.bool false) (.slice Y (digs n1).length y):=⟨_,rfl⟩
    rw[← hwp] at gp rp sp
    rw[← HN.out]
    have hwp2:(wq.setCell ⟨w.heap.size,0,none⟩ (.bool false)).setCell ⟨w.heap.size,1,none⟩ (.slice Y (digs n1).length y)=wp:=hwp.symm
    rw[hwp2]
    clear hwp hwp2 far
    obtain⟨p1,p2⟩:=gp.two
    have GP:=lH gp
    have RP:=lH rp
    clear gp rp v1 v2 g1 g2 gb
    by_cases h3:(digs n1).length≤3
    · have HL3:=lH h3
      have hz:decide ((3:Int)<((digs n1).length:Int))=false:=by rw[decide_eq_false_iff_not]; omega
      clear h3
      go_wp2
      go_roundw
      case rel=>exact⟨k+1,Y,y,by omega,by go_num,by rw[HS.out]; exact GP.out,by rw[HS.out]; exact RP.out,by rw[HS.out]; exact HL3.out,sp⟩
      case measure=>simp[intOf]; omega
    · have hb:=big_no (n:=n1) (by omega)
      have hz:decide ((3:Int)<((digs n1).length:Int))=true:=by rw[decide_eq_true_iff]; omega
      have HX:=lH (show ¬ fits vz by rw[HI.out]; unfold fits; have:=HM.out; rw[HS.out] at this; omega)
      clear hb h3
      go_wp2
      go_ret2
      exact RetV.no HX.out sp
  · obtain rfl:k=s.size:=by omega
    have e:(L s).take s.size=L s:=List.take_of_length_le (by rw[L_len]; exact Nat.le_refl _)
    rw[e] at HB HR HL
    clear e HD
    obtain⟨m,hm⟩:∃ m,m=undec (L s):=⟨_,rfl⟩
    rw[← hm] at HB HR HL HI
    clear hm
    obtain⟨v1,v2⟩:=HB.out.two
    have rp:=HR.out
    have sp:=hw
    have SM:=lH (fun W (h:Row W (.slice A (digs m).length c) (digs m))=>small_nat A c m false false vz W h (by have:=HL.out; omega) (by rw[HI.out,if_neg (by simp)]) (by simp))
    by_cases hf:fits vz
    · have FF:=lH hf
      simp only[if_pos hf] at SM
      clear hf
      go_wp2_with (go_at_call 58; (with_reducible refine (SM.out _ rp).mono ?_); rintro e w2 ⟨rfl,hy⟩)
      go_ret2
      exact RetV.yes FF.out (sp.trans hy)
    · have FF:=lH hf
      simp only[if_neg hf] at SM
      clear hf
      go_wp2_with (go_at_call 58; (with_reducible refine (SM.out _ rp).mono ?_); rintro e w2 ⟨rfl,hy⟩)
      go_ret2
      exact RetV.no FF.out (sp.trans hy)
end Go.Proofs.YtjmmcnldfkjebaaGreatDoor.Ref05
