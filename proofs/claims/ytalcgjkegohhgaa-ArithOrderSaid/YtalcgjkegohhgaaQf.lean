/- Layer 14 (arith): the landed times. -/
import Derived.Test.YtalcgjkegohhgaaQe
set_option maxHeartbeats 8000000
set_option maxRecDepth 20000
namespace Go.Proofs.Ytalcgjkegohhgaa.At
open Go.RowKit
set_option linter.unusedVariables false
set_option linter.unusedSimpArgs false
open Num Dig Lx Tk Ti Zs Tr Sn Ln
theorem thn_y {f g:St} {D E:Ln.Ds} (h:f D=some E):thn f g D=g E:=by unfold thn; rw[h]; rfl
theorem thn_n {f g:St} {D:Ln.Ds} (h:f D=none):thn f g D=none:=by unfold thn; rw[h]; rfl
theorem ifS_y {P:Ln.Ds→Bool} {f:St} {D:Ln.Ds} (h:P D=true):ifS P f D=f D:=by unfold ifS; rw[if_pos h]
theorem ifS_n {P:Ln.Ds→Bool} {f:St} {D:Ln.Ds} (h:P D=false):ifS P f D=some D:=by unfold ifS; rw[if_neg (by rw[h]; simp)]
theorem inn {n x:Nat} (h:x<n):Inn n (x:Int):=⟨by omega,by simpa using h⟩
def Gs (n:Nat) (f:St):Prop:=∀ D E,Gd D→D.length=n→f D=some E→Gd E
theorem Okp.gs {n:Nat} {X:List Int} {f:St} (h:Okp n X f):Gs n f:=fun D E hD hl he=>(h.ok D E hD hl he).1
theorem put_gs {n:Nat} {x:Int} {F:Ln.Ds→List Rn} (hF:∀ D,right (F D)=true):Gs n (putS x F):=fun D E hD hl he=>by
 unfold putS at he
 split at he
 · cases he
 · rename_i hne
   cases he
   exact Gd.set hD (hF D) hne
theorem cut_gs {n:Nat} {x:Int} {l u:Ln.Ds→Int} : Gs n (cutS x l u):=put_gs fun D=>cut_right _ _ _
theorem los_gs {n:Nat} {x:Int} : Gs n (losS x):=put_gs fun D=>without_right _ _
theorem DM.step {g n:Nat} {w0 w w':World} {D E:Ln.Ds} {f:St} (h:DM g n w0 w D) (hf:Gs n f) (he:f D=some E) (hd:DAm g n w0 w' E) (ko:Og g w w'):DM g n w0 w' E:=
 ⟨hd,h.lo_,Nat.lt_of_lt_of_le h.hi_ ko.size,hf D E h.gd h.at_.len he⟩
theorem RetS.upo {g n:Nat} {w0 w w1 w':World} {o:Option Ln.Ds} {e:Ending} (h:RetS g n w0 w1 o e w') (k:Og g w w1):RetS g n w0 w o e w':=⟨h.1,h.2.1,k.trans h.2.2⟩
theorem RetS.noo {g n:Nat} {w0 w w':World} {o:Option Ln.Ds} (h:o=none) (k:Og g w w'):RetS g n w0 w o (.returned (.bool false)) w':=h ▸ .no k
theorem RetS.yeso {g n:Nat} {w0 w w':World} {o:Option Ln.Ds} {E:Ln.Ds} (h:o=some E) (hd:DAm g n w0 w' E) (k:Og g w w'):RetS g n w0 w o (.returned (.bool true)) w':=h ▸ .yes hd k
theorem times_d {g n x y z:Nat} {w0 w:World} {D:Ln.Ds} (h:DM g n w0 w D) (hx:x<n) (hy:y<n) (hz:z<n) :
 Calls Try.prog 98 #[.pointer (some ⟨g,x,none⟩),.pointer (some ⟨g,y,none⟩),.pointer (some ⟨g,z,none⟩)] w (RetS g n w0 w (timS (x:Int) (y:Int) (z:Int) D)):=by
 have F1:=Lib.hid (four_mul h hx hy)
 have CU:=Lib.hid (fun W (k:Since w W)=>show Calls Try.prog 144 #[.pointer (some ⟨g,z,none⟩),.int .i64 (mnP (fun a b:Int=>a*b) (x:Int) (y:Int) D),.int .i64 (mxP (fun a b:Int=>a*b) (x:Int) (y:Int) D)] W (RetS g n w0 W (cutS (z:Int) (mnP (· * ·) (x:Int) (y:Int)) (mxP (· * ·) (x:Int) (y:Int)) D)) from cut_d (h.since k) hz _ _)
 obtain⟨o,ho⟩:∃ o,o=timS (x:Int) (y:Int) (z:Int) D:=⟨_,rfl⟩
 rw[← ho]
 unfold timS at ho
 have HO:=Lib.hid ho
 have h:=Lib.hid (fun W (k:Since w W)=>h.since k)
 clear ho
 unfold mnP mxP at CU
 unfold mnP mxP at HO
 generalize hp0:(fun a b:Int=>a*b) (L (x:Int) D) (L (y:Int) D)=p0 at CU F1
 generalize hp1:(fun a b:Int=>a*b) (L (x:Int) D) (H (y:Int) D)=p1 at CU F1
 generalize hp2:(fun a b:Int=>a*b) (H (x:Int) D) (L (y:Int) D)=p2 at CU F1
 generalize hp3:(fun a b:Int=>a*b) (H (x:Int) D) (H (y:Int) D)=p3 at CU F1
 clear hp0 hp1 hp2 hp3
 go_enter Try.func98,Try.ntmps98
 go_wp2_with (go_at_call 142; (with_reducible refine (F1.out).mono ?_); rintro e w9 ⟨rfl,k2⟩; have K:=Lib.hid k2; clear k2)
 have BA:=Lib.hid (Bx.fresh w9 #[.int .i64 p0,.int .i64 p1,.int .i64 p2,.int .i64 p3] 144)
 have KE:=Lib.hid (K.out.trans (since_alloc w9 (.cells #[.int .i64 p0,.int .i64 p1,.int .i64 p2,.int .i64 p3] 144)))
 clear K
 generalize w9.alloc (.cells #[.int .i64 p0,.int .i64 p1,.int .i64 p2,.int .i64 p3] 144)=we at *
 generalize hbA:w9.heap.size=bA at *
 have hr0:Since we we.drew:=Since.drew (Since.refl we)
 refine wp_region_noPanic ?_
 refine Reg.wp_region_G (S:=fun _=>True) (fun j => [5,6,7,8,9,10,11,12,13,14,15,16,17,18,19,20,21,22,23,24,25,26,27,28,29,30].contains j) (by kernel_rfl) trivial ?_
 refine' Reg.tk3 (i := 0) (v := _) (some 11) [5, 6, 7, 8, 9, 10, 11, 12, 13, 14, 15, 16, 17, 18, 19, 20, 21, 22, 23, 24, 25, 26, 27, 28, 29, 30] [5, 6, 7, 8, 9, 10, 11, 12, 13, 14, 15, 16, 17, 18, 19, 20, 21, 22, 23, 24, 25, 26, 27, 28, 29, 30] rfl (Or.inl ⟨by rfl, Or.inl ?hy1⟩) ?r_1
 case hy1=>(intro w' kk ss; skip; go_simp; first | done | with_reducible rfl)
 try simp only[Act.put,Reg.l1,Reg.l2,Reg.l3]
 refine' Reg.tk3 (i := 1) (v := _) (some 12) [2, 4, 5, 6, 7, 8, 9, 10, 11, 12, 13, 14, 15, 16, 17, 18, 19, 20, 21, 22, 23, 24, 25, 26, 27, 28, 29, 30] [5, 6, 7, 8, 9, 10, 11, 12, 13, 14, 15, 16, 17, 18, 19, 20, 21, 22, 23, 24, 25, 26, 27, 28, 29, 30] rfl (Or.inl ⟨by rfl, Or.inl ?hy2⟩) ?r_2
 case hy2=>(intro w' kk ss; skip; go_simp; first | done | with_reducible rfl)
 try simp only[Act.put,Reg.l1,Reg.l2,Reg.l3]
 refine Reg.tk3 (i := 2) (v := .int .i64 (mn4 p0 p1 p2 p3)) (some 13) [4, 5, 6, 7, 8, 9, 10, 11, 12, 13, 14, 15, 16, 17, 18, 19, 20, 21, 22, 23, 24, 25, 26, 27, 28, 29, 30] [5, 6, 7, 8, 9, 10, 11, 12, 13, 14, 15, 16, 17, 18, 19, 20, 21, 22, 23, 24, 25, 26, 27, 28, 29, 30] rfl (Or.inl ⟨by rfl, Or.inr ⟨145, #[.slice (some ⟨bA, 0, none⟩) 4 4], fun w' kk ss => ⟨?_, ?_⟩⟩⟩) ?_
 · (try dsimp only at ss); go_simp
 · exact min4 (BA.out.since (hr0.trans kk))
 try simp only[Act.put,Reg.l1,Reg.l2,Reg.l3]
 refine' Reg.tk3 (i := 3) (v := _) (some 14) [4, 5, 6, 7, 8, 9, 10, 11, 12, 13, 14, 15, 16, 17, 18, 19, 20, 21, 22, 23, 24, 25, 26, 27, 28, 29, 30] [5, 6, 7, 8, 9, 10, 11, 12, 13, 14, 15, 16, 17, 18, 19, 20, 21, 22, 23, 24, 25, 26, 27, 28, 29, 30] rfl (Or.inl ⟨by rfl, Or.inl ?hy3⟩) ?r_3
 case hy3=>(intro w' kk ss; skip; go_simp; first | done | with_reducible rfl)
 try simp only[Act.put,Reg.l1,Reg.l2,Reg.l3]
 refine Reg.tk3 (i := 4) (v := .int .i64 (mx4 p0 p1 p2 p3)) (some 15) [5, 6, 7, 8, 9, 10, 11, 12, 13, 14, 15, 16, 17, 18, 19, 20, 21, 22, 23, 24, 25, 26, 27, 28, 29, 30] [5, 6, 7, 8, 9, 10, 11, 12, 13, 14, 15, 16, 17, 18, 19, 20, 21, 22, 23, 24, 25, 26, 27, 28, 29, 30] rfl (Or.inl ⟨by rfl, Or.inr ⟨146, #[.slice (some ⟨bA, 0, none⟩) 4 4], fun w' kk ss => ⟨?_, ?_⟩⟩⟩) ?_
 · (try dsimp only at ss); go_simp
 · exact max4 (BA.out.since (hr0.trans kk))
 try simp only[Act.put,Reg.l1,Reg.l2,Reg.l3]
 refine Reg.wpG_ready (rs:=[5]) (by kernel_rfl) (by simp) (fun wq kq sq => ?_)
 have hr0:=hr0.trans kq
 refine Reg.AllG.last (o := { dst := some 16, op := Op.call { callee := Callee.value (Operand.func 144), args := #[Operand.tmp 11, Operand.tmp 13, Operand.tmp 15], argTypes := #[112, 2, 2] }, type := 4, pos := "kinds.go:16", after := #[{ on := 0, ground := Ground.data }, { on := 2, ground := Ground.data }, { on := 4, ground := Ground.data }, { on := 4, ground := Ground.chain }], guard := none }) rfl (by rfl) (fun K hK => ?_) Reg.AllG.nil
 go_simp
 (with_reducible refine (CU.out wq (KE.out.trans hr0)).mono ?_)
 rintro e yw hx1
 rcases hx1.parts with ⟨hn1,rfl,ko1⟩ | ⟨D1,hn1,rfl,hd1,ko1⟩
 · have OE:=Lib.hid (HO.out.trans (thn_n hn1))
   have KO:=Lib.hid ((Turn.of (KE.out.trans hr0) (but g)).trans ko1)
   refine hK.out _ _ trivial (fun hHeld => ?_)
   clear hK K
   try simp only[Act.put,Reg.l1,Reg.l2,Reg.l3]
   refine' Reg.ah3 (i := 6) (v := _) (some 17) rfl (by kernel_rfl) (by kernel_rfl) (by kernel_rfl) (fun _ _ _ h => h) (Or.inl ⟨by rfl, ?hy4⟩) (by assumption) ?r_4
   case hy4=>(intro w' ss; (try dsimp only at ss); go_simp; first | done | with_reducible rfl)
   try simp only[Act.put,Reg.l1,Reg.l2,Reg.l3]
   refine Reg.ah3 (i := 7) (v := undef) (some 18) rfl (by kernel_rfl) (by kernel_rfl) (by kernel_rfl) (fun _ _ _ h => h) (Or.inr ⟨by rfl, rfl⟩) (by assumption) ?_
   try simp only[Act.put,Reg.l1,Reg.l2,Reg.l3]
   refine Reg.ah3 (i := 8) (v := undef) (some 19) rfl (by kernel_rfl) (by kernel_rfl) (by kernel_rfl) (fun _ _ _ h => h) (Or.inr ⟨by rfl, rfl⟩) (by assumption) ?_
   try simp only[Act.put,Reg.l1,Reg.l2,Reg.l3]
   refine Reg.ah3 (i := 9) (v := undef) (some 20) rfl (by kernel_rfl) (by kernel_rfl) (by kernel_rfl) (fun _ _ _ h => h) (Or.inr ⟨by rfl, rfl⟩) (by assumption) ?_
   try simp only[Act.put,Reg.l1,Reg.l2,Reg.l3]
   refine Reg.ah3 (i := 10) (v := undef) (some 21) rfl (by kernel_rfl) (by kernel_rfl) (by kernel_rfl) (fun _ _ _ h => h) (Or.inr ⟨by rfl, rfl⟩) (by assumption) ?_
   try simp only[Act.put,Reg.l1,Reg.l2,Reg.l3]
   refine Reg.ah3 (i := 11) (v := undef) (some 22) rfl (by kernel_rfl) (by kernel_rfl) (by kernel_rfl) (fun _ _ _ h => h) (Or.inr ⟨by rfl, rfl⟩) (by assumption) ?_
   try simp only[Act.put,Reg.l1,Reg.l2,Reg.l3]
   refine Reg.ah3 (i := 12) (v := undef) (some 23) rfl (by kernel_rfl) (by kernel_rfl) (by kernel_rfl) (fun _ _ _ h => h) (Or.inr ⟨by rfl, rfl⟩) (by assumption) ?_
   try simp only[Act.put,Reg.l1,Reg.l2,Reg.l3]
   refine Reg.ah3 (i := 13) (v := undef) (some 24) rfl (by kernel_rfl) (by kernel_rfl) (by kernel_rfl) (fun _ _ _ h => h) (Or.inr ⟨by rfl, rfl⟩) (by assumption) ?_
   try simp only[Act.put,Reg.l1,Reg.l2,Reg.l3]
   refine Reg.ah3 (i := 14) (v := undef) (some 25) rfl (by kernel_rfl) (by kernel_rfl) (by kernel_rfl) (fun _ _ _ h => h) (Or.inr ⟨by rfl, rfl⟩) (by assumption) ?_
   try simp only[Act.put,Reg.l1,Reg.l2,Reg.l3]
   refine Reg.ah3 (i := 15) (v := undef) (some 26) rfl (by kernel_rfl) (by kernel_rfl) (by kernel_rfl) (fun _ _ _ h => h) (Or.inr ⟨by rfl, rfl⟩) (by assumption) ?_
   try simp only[Act.put,Reg.l1,Reg.l2,Reg.l3]
   refine Reg.ah3 (i := 16) (v := undef) (some 27) rfl (by kernel_rfl) (by kernel_rfl) (by kernel_rfl) (fun _ _ _ h => h) (Or.inr ⟨by rfl, rfl⟩) (by assumption) ?_
   try simp only[Act.put,Reg.l1,Reg.l2,Reg.l3]
   refine' Reg.ah3 (i := 17) (v := _) (some 28) rfl (by kernel_rfl) (by kernel_rfl) (by kernel_rfl) (fun _ _ _ h => h) (Or.inl ⟨by rfl, ?hy15⟩) (by assumption) ?r_15
   case hy15=>(intro w' ss; (try dsimp only at ss); go_simp; first | done | with_reducible rfl)
   try simp only[Act.put,Reg.l1,Reg.l2,Reg.l3]
   refine' Reg.ah3 (i := 18) (v := _) (some 29) rfl (by kernel_rfl) (by kernel_rfl) (by kernel_rfl) (fun _ _ _ h => h) (Or.inl ⟨by rfl, ?hy16⟩) (by assumption) ?r_16
   case hy16=>(intro w' ss; (try dsimp only at ss); go_simp; first | done | with_reducible rfl)
   try simp only[Act.put,Reg.l1,Reg.l2,Reg.l3]
   refine Reg.ah3 (i := 19) (v := undef) (some 30) rfl (by kernel_rfl) (by kernel_rfl) (by kernel_rfl) (fun _ _ _ h => h) (Or.inr ⟨by rfl, rfl⟩) (by assumption) ?_
   try simp only[Act.put,Reg.l1,Reg.l2,Reg.l3]
   refine Reg.ah3 (i := 20) (v := undef) (some 31) rfl (by kernel_rfl) (by kernel_rfl) (by kernel_rfl) (fun _ _ _ h => h) (Or.inr ⟨by rfl, rfl⟩) (by assumption) ?_
   try simp only[Act.put,Reg.l1,Reg.l2,Reg.l3]
   refine Reg.ah3 (i := 21) (v := undef) (some 32) rfl (by kernel_rfl) (by kernel_rfl) (by kernel_rfl) (fun _ _ _ h => h) (Or.inr ⟨by rfl, rfl⟩) (by assumption) ?_
   try simp only[Act.put,Reg.l1,Reg.l2,Reg.l3]
   refine Reg.ah3 (i := 22) (v := undef) (some 33) rfl (by kernel_rfl) (by kernel_rfl) (by kernel_rfl) (fun _ _ _ h => h) (Or.inr ⟨by rfl, rfl⟩) (by assumption) ?_
   try simp only[Act.put,Reg.l1,Reg.l2,Reg.l3]
   refine' Reg.ah3 (i := 23) (v := _) (some 34) rfl (by kernel_rfl) (by kernel_rfl) (by kernel_rfl) (fun _ _ _ h => h) (Or.inl ⟨by rfl, ?hy21⟩) (by assumption) ?r_21
   case hy21=>(intro w' ss; (try dsimp only at ss); go_simp; first | done | with_reducible rfl)
   try simp only[Act.put,Reg.l1,Reg.l2,Reg.l3]
   refine' Reg.ah3 (i := 24) (v := _) (some 35) rfl (by kernel_rfl) (by kernel_rfl) (by kernel_rfl) (fun _ _ _ h => h) (Or.inl ⟨by rfl, ?hy22⟩) (by assumption) ?r_22
   case hy22=>(intro w' ss; (try dsimp only at ss); go_simp; first | done | with_reducible rfl)
   try simp only[Act.put,Reg.l1,Reg.l2,Reg.l3]
   refine Reg.ah3 (i := 25) (v := undef) (some 36) rfl (by kernel_rfl) (by kernel_rfl) (by kernel_rfl) (fun _ _ _ h => h) (Or.inr ⟨by rfl, rfl⟩) (by assumption) ?_
   try simp only[Act.put,Reg.l1,Reg.l2,Reg.l3]
   refine Reg.ah3 (i := 26) (v := undef) (some 37) rfl (by kernel_rfl) (by kernel_rfl) (by kernel_rfl) (fun _ _ _ h => h) (Or.inr ⟨by rfl, rfl⟩) (by assumption) ?_
   try simp only[Act.put,Reg.l1,Reg.l2,Reg.l3]
   refine Reg.ah3 (i := 27) (v := undef) (some 38) rfl (by kernel_rfl) (by kernel_rfl) (by kernel_rfl) (fun _ _ _ h => h) (Or.inr ⟨by rfl, rfl⟩) (by assumption) ?_
   try simp only[Act.put,Reg.l1,Reg.l2,Reg.l3]
   refine Reg.ah3 (i := 28) (v := undef) (some 39) rfl (by kernel_rfl) (by kernel_rfl) (by kernel_rfl) (fun _ _ _ h => h) (Or.inr ⟨by rfl, rfl⟩) (by assumption) ?_
   try simp only[Act.put,Reg.l1,Reg.l2,Reg.l3]
   refine' Reg.ah3 (i := 29) (v := _) (some 40) rfl (by kernel_rfl) (by kernel_rfl) (by kernel_rfl) (fun _ _ _ h => h) (Or.inl ⟨by rfl, ?hy27⟩) (by assumption) ?r_27
   case hy27=>(intro w' ss; (try dsimp only at ss); go_simp; first | done | with_reducible rfl)
   try simp only[Act.put,Reg.l1,Reg.l2,Reg.l3]
   refine' Reg.ah3 (i := 30) (v := _) (some 6) rfl (by kernel_rfl) (by kernel_rfl) (by kernel_rfl) (fun _ _ _ h => h) (Or.inl ⟨by rfl, ?hy28⟩) (by assumption) ?r_28
   case hy28=>(intro w' ss; (try dsimp only at ss); go_simp; first | done | with_reducible rfl)
   try simp only[Act.put,Reg.l1,Reg.l2,Reg.l3]
   refine wpAnyH_done (by kernel_rfl) ?_ _
   refine NoPanic.normal ?_
   go_wp2
   go_ret
   exact RetS.noo OE.out KO.out
 · have DMc:=Lib.hid ((h.out _ (KE.out.trans hr0)).step cut_gs hn1 hd1 ko1)
   have HO:=Lib.hid (HO.out.trans (thn_y hn1))
   have KO:=Lib.hid ((Turn.of (KE.out.trans hr0) (but g)).trans ko1)
   refine hK.out _ _ trivial (fun hHeld => ?_)
   clear hK K
   try simp only[Act.put,Reg.l1,Reg.l2,Reg.l3]
   refine' Reg.ah3 (i := 6) (v := _) (some 17) rfl (by kernel_rfl) (by kernel_rfl) (by kernel_rfl) (fun _ _ _ h => h) (Or.inl ⟨by rfl, ?hy29⟩) (by assumption) ?r_29
   case hy29=>(intro w' ss; (try dsimp only at ss); go_simp; first | done | with_reducible rfl)
   try simp only[Act.put,Reg.l1,Reg.l2,Reg.l3]
   refine' Reg.ah3 (i := 7) (v := _) (some 18) rfl (by kernel_rfl) (by kernel_rfl) (by kernel_rfl) (fun _ _ _ h => h) (Or.inl ⟨by rfl, ?hy30⟩) (by assumption) ?r_30
   case hy30=>(intro w' ss; (try dsimp only at ss); go_simp; first | done | with_reducible rfl)
   try simp only[Act.put,Reg.l1,Reg.l2,Reg.l3]
   refine wpAnyH_ready (rs:=[8]) (by kernel_rfl) (by simp) ?_
   refine AllReadyH.cons rfl (fun K hK => ?_) AllReadyH.nil
   go_simp
   (with_reducible refine (has_d DMc.out hz).mono ?_)
   rintro e yw2 ⟨he,k2⟩
   rcases Bool.eq_false_or_eq_true (has (domAt D1 (z:Int)) 0) with hh | hh
   · rw[hh] at he
     subst he
     have hp:no0 (z:Int) D1=false:=by simp[no0,hh]
     have HO:=Lib.hid (HO.out.trans (thn_y (ifS_n hp)))
     have DMc:=Lib.hid (DMc.out.since k2)
     have KO:=Lib.hid (KO.out.since k2)
     refine hK.out _ _ trivial (fun hHeld => ?_)
     clear hK K
     try simp only[Act.put,Reg.l1,Reg.l2,Reg.l3]
     refine' Reg.ah3 (i := 9) (v := _) (some 20) rfl (by kernel_rfl) (by kernel_rfl) (by kernel_rfl) (fun _ _ _ h => h) (Or.inl ⟨by rfl, ?hy31⟩) (by assumption) ?r_31
     case hy31=>(intro w' ss; (try dsimp only at ss); go_simp; first | done | with_reducible rfl)
     try simp only[Act.put,Reg.l1,Reg.l2,Reg.l3]
     refine Reg.ah3 (i := 10) (v := undef) (some 21) rfl (by kernel_rfl) (by kernel_rfl) (by kernel_rfl) (fun _ _ _ h => h) (Or.inr ⟨by rfl, rfl⟩) (by assumption) ?_
     try simp only[Act.put,Reg.l1,Reg.l2,Reg.l3]
     refine Reg.ah3 (i := 11) (v := undef) (some 22) rfl (by kernel_rfl) (by kernel_rfl) (by kernel_rfl) (fun _ _ _ h => h) (Or.inr ⟨by rfl, rfl⟩) (by assumption) ?_
     try simp only[Act.put,Reg.l1,Reg.l2,Reg.l3]
     refine Reg.ah3 (i := 12) (v := undef) (some 23) rfl (by kernel_rfl) (by kernel_rfl) (by kernel_rfl) (fun _ _ _ h => h) (Or.inr ⟨by rfl, rfl⟩) (by assumption) ?_
     try simp only[Act.put,Reg.l1,Reg.l2,Reg.l3]
     refine Reg.ah3 (i := 13) (v := undef) (some 24) rfl (by kernel_rfl) (by kernel_rfl) (by kernel_rfl) (fun _ _ _ h => h) (Or.inr ⟨by rfl, rfl⟩) (by assumption) ?_
     try simp only[Act.put,Reg.l1,Reg.l2,Reg.l3]
     refine Reg.ah3 (i := 14) (v := undef) (some 25) rfl (by kernel_rfl) (by kernel_rfl) (by kernel_rfl) (fun _ _ _ h => h) (Or.inr ⟨by rfl, rfl⟩) (by assumption) ?_
     try simp only[Act.put,Reg.l1,Reg.l2,Reg.l3]
     refine Reg.ah3 (i := 15) (v := undef) (some 26) rfl (by kernel_rfl) (by kernel_rfl) (by kernel_rfl) (fun _ _ _ h => h) (Or.inr ⟨by rfl, rfl⟩) (by assumption) ?_
     try simp only[Act.put,Reg.l1,Reg.l2,Reg.l3]
     refine' Reg.ah3 (i := 16) (v := _) (some 27) rfl (by kernel_rfl) (by kernel_rfl) (by kernel_rfl) (fun _ _ _ h => h) (Or.inl ⟨by rfl, ?hy38⟩) (by assumption) ?r_38
     case hy38=>(intro w' ss; (try dsimp only at ss); go_simp; first | done | with_reducible rfl)
     try simp only[Act.put,Reg.l1,Reg.l2,Reg.l3]
     refine' Reg.ah3 (i := 17) (v := _) (some 28) rfl (by kernel_rfl) (by kernel_rfl) (by kernel_rfl) (fun _ _ _ h => h) (Or.inl ⟨by rfl, ?hy39⟩) (by assumption) ?r_39
     case hy39=>(intro w' ss; (try dsimp only at ss); go_simp; first | done | with_reducible rfl)
     try simp only[Act.put,Reg.l1,Reg.l2,Reg.l3]
     refine' Reg.ah3 (i := 18) (v := _) (some 29) rfl (by kernel_rfl) (by kernel_rfl) (by kernel_rfl) (fun _ _ _ h => h) (Or.inl ⟨by rfl, ?hy40⟩) (by assumption) ?r_40
     case hy40=>(intro w' ss; (try dsimp only at ss); go_simp; first | done | with_reducible rfl)
     try simp only[Act.put,Reg.l1,Reg.l2,Reg.l3]
     refine' Reg.ah3 (i := 19) (v := _) (some 30) rfl (by kernel_rfl) (by kernel_rfl) (by kernel_rfl) (fun _ _ _ h => h) (Or.inl ⟨by rfl, ?hy41⟩) (by assumption) ?r_41
     case hy41=>(intro w' ss; (try dsimp only at ss); go_simp; first | done | with_reducible rfl)
     try simp only[Act.put,Reg.l1,Reg.l2,Reg.l3]
     refine' Reg.ah3 (i := 20) (v := _) (some 31) rfl (by kernel_rfl) (by kernel_rfl) (by kernel_rfl) (fun _ _ _ h => h) (Or.inl ⟨by rfl, ?hy42⟩) (by assumption) ?r_42
     case hy42=>(intro w' ss; (try dsimp only at ss); go_simp; first | done | with_reducible rfl)
     try simp only[Act.put,Reg.l1,Reg.l2,Reg.l3]
     refine' Reg.ah3 (i := 21) (v := _) (some 32) rfl (by kernel_rfl) (by kernel_rfl) (by kernel_rfl) (fun _ _ _ h => h) (Or.inl ⟨by rfl, ?hy43⟩) (by assumption) ?r_43
     case hy43=>(intro w' ss; (try dsimp only at ss); go_simp; first | done | with_reducible rfl)
     try simp only[Act.put,Reg.l1,Reg.l2,Reg.l3]
     refine wpAnyH_ready (rs:=[22]) (by kernel_rfl) (by simp) ?_
     refine AllReadyH.cons rfl (fun K hK => ?_) AllReadyH.nil
     go_simp
     (with_reducible refine (factor_d DMc.out hx hy hz).mono ?_)
     rintro e yw hx4
     rcases hx4.parts with ⟨hn4,rfl,ko4⟩ | ⟨D4,hn4,rfl,hd4,ko4⟩
     · have OE:=Lib.hid (HO.out.trans (thn_n hn4))
       have KO:=Lib.hid (KO.out.trans ko4)
       refine hK.out _ _ trivial (fun hHeld => ?_)
       clear hK K
       try simp only[Act.put,Reg.l1,Reg.l2,Reg.l3]
       refine' Reg.ah3 (i := 23) (v := _) (some 34) rfl (by kernel_rfl) (by kernel_rfl) (by kernel_rfl) (fun _ _ _ h => h) (Or.inl ⟨by rfl, ?hy44⟩) (by assumption) ?r_44
       case hy44=>(intro w' ss; (try dsimp only at ss); go_simp; first | done | with_reducible rfl)
       try simp only[Act.put,Reg.l1,Reg.l2,Reg.l3]
       refine' Reg.ah3 (i := 24) (v := _) (some 35) rfl (by kernel_rfl) (by kernel_rfl) (by kernel_rfl) (fun _ _ _ h => h) (Or.inl ⟨by rfl, ?hy45⟩) (by assumption) ?r_45
       case hy45=>(intro w' ss; (try dsimp only at ss); go_simp; first | done | with_reducible rfl)
       try simp only[Act.put,Reg.l1,Reg.l2,Reg.l3]
       refine Reg.ah3 (i := 25) (v := undef) (some 36) rfl (by kernel_rfl) (by kernel_rfl) (by kernel_rfl) (fun _ _ _ h => h) (Or.inr ⟨by rfl, rfl⟩) (by assumption) ?_
       try simp only[Act.put,Reg.l1,Reg.l2,Reg.l3]
       refine Reg.ah3 (i := 26) (v := undef) (some 37) rfl (by kernel_rfl) (by kernel_rfl) (by kernel_rfl) (fun _ _ _ h => h) (Or.inr ⟨by rfl, rfl⟩) (by assumption) ?_
       try simp only[Act.put,Reg.l1,Reg.l2,Reg.l3]
       refine Reg.ah3 (i := 27) (v := undef) (some 38) rfl (by kernel_rfl) (by kernel_rfl) (by kernel_rfl) (fun _ _ _ h => h) (Or.inr ⟨by rfl, rfl⟩) (by assumption) ?_
       try simp only[Act.put,Reg.l1,Reg.l2,Reg.l3]
       refine Reg.ah3 (i := 28) (v := undef) (some 39) rfl (by kernel_rfl) (by kernel_rfl) (by kernel_rfl) (fun _ _ _ h => h) (Or.inr ⟨by rfl, rfl⟩) (by assumption) ?_
       try simp only[Act.put,Reg.l1,Reg.l2,Reg.l3]
       refine' Reg.ah3 (i := 29) (v := _) (some 40) rfl (by kernel_rfl) (by kernel_rfl) (by kernel_rfl) (fun _ _ _ h => h) (Or.inl ⟨by rfl, ?hy50⟩) (by assumption) ?r_50
       case hy50=>(intro w' ss; (try dsimp only at ss); go_simp; first | done | with_reducible rfl)
       try simp only[Act.put,Reg.l1,Reg.l2,Reg.l3]
       refine' Reg.ah3 (i := 30) (v := _) (some 6) rfl (by kernel_rfl) (by kernel_rfl) (by kernel_rfl) (fun _ _ _ h => h) (Or.inl ⟨by rfl, ?hy51⟩) (by assumption) ?r_51
       case hy51=>(intro w' ss; (try dsimp only at ss); go_simp; first | done | with_reducible rfl)
       try simp only[Act.put,Reg.l1,Reg.l2,Reg.l3]
       refine wpAnyH_done (by kernel_rfl) ?_ _
       refine NoPanic.normal ?_
       go_wp2
       go_ret
       exact RetS.noo OE.out KO.out
     · have DMc:=Lib.hid (DMc.out.step (fac_ok (X:=[(x:Int)]) (inn hx) (inn hy) (inn hz) (List.mem_cons_self ..)).gs hn4 hd4 ko4)
       have HO:=Lib.hid (HO.out.trans (thn_y hn4))
       have KO:=Lib.hid (KO.out.trans ko4)
       refine hK.out _ _ trivial (fun hHeld => ?_)
       clear hK K
       try simp only[Act.put,Reg.l1,Reg.l2,Reg.l3]
       refine' Reg.ah3 (i := 23) (v := _) (some 34) rfl (by kernel_rfl) (by kernel_rfl) (by kernel_rfl) (fun _ _ _ h => h) (Or.inl ⟨by rfl, ?hy52⟩) (by assumption) ?r_52
       case hy52=>(intro w' ss; (try dsimp only at ss); go_simp; first | done | with_reducible rfl)
       try simp only[Act.put,Reg.l1,Reg.l2,Reg.l3]
       refine' Reg.ah3 (i := 24) (v := _) (some 35) rfl (by kernel_rfl) (by kernel_rfl) (by kernel_rfl) (fun _ _ _ h => h) (Or.inl ⟨by rfl, ?hy53⟩) (by assumption) ?r_53
       case hy53=>(intro w' ss; (try dsimp only at ss); go_simp; first | done | with_reducible rfl)
       try simp only[Act.put,Reg.l1,Reg.l2,Reg.l3]
       refine' Reg.ah3 (i := 25) (v := _) (some 36) rfl (by kernel_rfl) (by kernel_rfl) (by kernel_rfl) (fun _ _ _ h => h) (Or.inl ⟨by rfl, ?hy54⟩) (by assumption) ?r_54
       case hy54=>(intro w' ss; (try dsimp only at ss); go_simp; first | done | with_reducible rfl)
       try simp only[Act.put,Reg.l1,Reg.l2,Reg.l3]
       refine' Reg.ah3 (i := 26) (v := _) (some 37) rfl (by kernel_rfl) (by kernel_rfl) (by kernel_rfl) (fun _ _ _ h => h) (Or.inl ⟨by rfl, ?hy55⟩) (by assumption) ?r_55
       case hy55=>(intro w' ss; (try dsimp only at ss); go_simp; first | done | with_reducible rfl)
       try simp only[Act.put,Reg.l1,Reg.l2,Reg.l3]
       refine' Reg.ah3 (i := 27) (v := _) (some 38) rfl (by kernel_rfl) (by kernel_rfl) (by kernel_rfl) (fun _ _ _ h => h) (Or.inl ⟨by rfl, ?hy56⟩) (by assumption) ?r_56
       case hy56=>(intro w' ss; (try dsimp only at ss); go_simp; first | done | with_reducible rfl)
       try simp only[Act.put,Reg.l1,Reg.l2,Reg.l3]
       refine wpAnyH_ready (rs:=[28]) (by kernel_rfl) (by simp) ?_
       refine AllReadyH.cons rfl (fun K hK => ?_) AllReadyH.nil
       go_simp
       (with_reducible refine (factor_d DMc.out hy hx hz).mono ?_)
       rintro e yw5 ⟨rfl,hd5,ko5⟩
       refine hK.out _ _ trivial (fun hHeld => ?_)
       clear hK K
       try simp only[Act.put,Reg.l1,Reg.l2,Reg.l3]
       refine' Reg.ah3 (i := 29) (v := _) (some 40) rfl (by kernel_rfl) (by kernel_rfl) (by kernel_rfl) (fun _ _ _ h => h) (Or.inl ⟨by rfl, ?hy57⟩) (by assumption) ?r_57
       case hy57=>(intro w' ss; (try dsimp only at ss); go_simp; first | done | with_reducible rfl)
       try simp only[Act.put,Reg.l1,Reg.l2,Reg.l3]
       refine' Reg.ah3 (i := 30) (v := _) (some 6) rfl (by kernel_rfl) (by kernel_rfl) (by kernel_rfl) (fun _ _ _ h => h) (Or.inl ⟨by rfl, ?hy58⟩) (by assumption) ?r_58
       case hy58=>(intro w' ss; (try dsimp only at ss); go_simp; first | done | with_reducible rfl)
       try simp only[Act.put,Reg.l1,Reg.l2,Reg.l3]
       refine wpAnyH_done (by kernel_rfl) ?_ _
       refine NoPanic.normal ?_
       go_wp2
       go_ret
       rw[HO.out]
       exact RetS.upo ⟨rfl,hd5,ko5⟩ KO.out
   · rw[hh] at he
     subst he
     have hp:no0 (z:Int) D1=true:=by simp[no0,hh]
     have DMc:=Lib.hid (DMc.out.since k2)
     have KO:=Lib.hid (KO.out.since k2)
     refine hK.out _ _ trivial (fun hHeld => ?_)
     clear hK K
     try simp only[Act.put,Reg.l1,Reg.l2,Reg.l3]
     refine' Reg.ah3 (i := 9) (v := _) (some 20) rfl (by kernel_rfl) (by kernel_rfl) (by kernel_rfl) (fun _ _ _ h => h) (Or.inl ⟨by rfl, ?hy59⟩) (by assumption) ?r_59
     case hy59=>(intro w' ss; (try dsimp only at ss); go_simp; first | done | with_reducible rfl)
     try simp only[Act.put,Reg.l1,Reg.l2,Reg.l3]
     refine' Reg.ah3 (i := 10) (v := _) (some 21) rfl (by kernel_rfl) (by kernel_rfl) (by kernel_rfl) (fun _ _ _ h => h) (Or.inl ⟨by rfl, ?hy60⟩) (by assumption) ?r_60
     case hy60=>(intro w' ss; (try dsimp only at ss); go_simp; first | done | with_reducible rfl)
     try simp only[Act.put,Reg.l1,Reg.l2,Reg.l3]
     refine wpAnyH_ready (rs:=[11]) (by kernel_rfl) (by simp) ?_
     refine AllReadyH.cons rfl (fun K hK => ?_) AllReadyH.nil
     go_simp
     (with_reducible refine (lose_d DMc.out hx).mono ?_)
     rintro e yw hx2
     rcases hx2.parts with ⟨hn2,rfl,ko2⟩ | ⟨D2,hn2,rfl,hd2,ko2⟩
     · have OE:=Lib.hid (HO.out.trans (thn_n ((ifS_y hp).trans (thn_n hn2))))
       have KO:=Lib.hid (KO.out.trans ko2)
       refine hK.out _ _ trivial (fun hHeld => ?_)
       clear hK K
       try simp only[Act.put,Reg.l1,Reg.l2,Reg.l3]
       refine' Reg.ah3 (i := 12) (v := _) (some 23) rfl (by kernel_rfl) (by kernel_rfl) (by kernel_rfl) (fun _ _ _ h => h) (Or.inl ⟨by rfl, ?hy61⟩) (by assumption) ?r_61
       case hy61=>(intro w' ss; (try dsimp only at ss); go_simp; first | done | with_reducible rfl)
       try simp only[Act.put,Reg.l1,Reg.l2,Reg.l3]
       refine Reg.ah3 (i := 13) (v := undef) (some 24) rfl (by kernel_rfl) (by kernel_rfl) (by kernel_rfl) (fun _ _ _ h => h) (Or.inr ⟨by rfl, rfl⟩) (by assumption) ?_
       try simp only[Act.put,Reg.l1,Reg.l2,Reg.l3]
       refine Reg.ah3 (i := 14) (v := undef) (some 25) rfl (by kernel_rfl) (by kernel_rfl) (by kernel_rfl) (fun _ _ _ h => h) (Or.inr ⟨by rfl, rfl⟩) (by assumption) ?_
       try simp only[Act.put,Reg.l1,Reg.l2,Reg.l3]
       refine' Reg.ah3 (i := 15) (v := _) (some 26) rfl (by kernel_rfl) (by kernel_rfl) (by kernel_rfl) (fun _ _ _ h => h) (Or.inl ⟨by rfl, ?hy64⟩) (by assumption) ?r_64
       case hy64=>(intro w' ss; (try dsimp only at ss); go_simp; first | done | with_reducible rfl)
       try simp only[Act.put,Reg.l1,Reg.l2,Reg.l3]
       refine' Reg.ah3 (i := 16) (v := _) (some 27) rfl (by kernel_rfl) (by kernel_rfl) (by kernel_rfl) (fun _ _ _ h => h) (Or.inl ⟨by rfl, ?hy65⟩) (by assumption) ?r_65
       case hy65=>(intro w' ss; (try dsimp only at ss); go_simp; first | done | with_reducible rfl)
       try simp only[Act.put,Reg.l1,Reg.l2,Reg.l3]
       refine' Reg.ah3 (i := 17) (v := _) (some 28) rfl (by kernel_rfl) (by kernel_rfl) (by kernel_rfl) (fun _ _ _ h => h) (Or.inl ⟨by rfl, ?hy66⟩) (by assumption) ?r_66
       case hy66=>(intro w' ss; (try dsimp only at ss); go_simp; first | done | with_reducible rfl)
       try simp only[Act.put,Reg.l1,Reg.l2,Reg.l3]
       refine' Reg.ah3 (i := 18) (v := _) (some 29) rfl (by kernel_rfl) (by kernel_rfl) (by kernel_rfl) (fun _ _ _ h => h) (Or.inl ⟨by rfl, ?hy67⟩) (by assumption) ?r_67
       case hy67=>(intro w' ss; (try dsimp only at ss); go_simp; first | done | with_reducible rfl)
       try simp only[Act.put,Reg.l1,Reg.l2,Reg.l3]
       refine Reg.ah3 (i := 19) (v := undef) (some 30) rfl (by kernel_rfl) (by kernel_rfl) (by kernel_rfl) (fun _ _ _ h => h) (Or.inr ⟨by rfl, rfl⟩) (by assumption) ?_
       try simp only[Act.put,Reg.l1,Reg.l2,Reg.l3]
       refine Reg.ah3 (i := 20) (v := undef) (some 31) rfl (by kernel_rfl) (by kernel_rfl) (by kernel_rfl) (fun _ _ _ h => h) (Or.inr ⟨by rfl, rfl⟩) (by assumption) ?_
       try simp only[Act.put,Reg.l1,Reg.l2,Reg.l3]
       refine Reg.ah3 (i := 21) (v := undef) (some 32) rfl (by kernel_rfl) (by kernel_rfl) (by kernel_rfl) (fun _ _ _ h => h) (Or.inr ⟨by rfl, rfl⟩) (by assumption) ?_
       try simp only[Act.put,Reg.l1,Reg.l2,Reg.l3]
       refine Reg.ah3 (i := 22) (v := undef) (some 33) rfl (by kernel_rfl) (by kernel_rfl) (by kernel_rfl) (fun _ _ _ h => h) (Or.inr ⟨by rfl, rfl⟩) (by assumption) ?_
       try simp only[Act.put,Reg.l1,Reg.l2,Reg.l3]
       refine' Reg.ah3 (i := 23) (v := _) (some 34) rfl (by kernel_rfl) (by kernel_rfl) (by kernel_rfl) (fun _ _ _ h => h) (Or.inl ⟨by rfl, ?hy72⟩) (by assumption) ?r_72
       case hy72=>(intro w' ss; (try dsimp only at ss); go_simp; first | done | with_reducible rfl)
       try simp only[Act.put,Reg.l1,Reg.l2,Reg.l3]
       refine' Reg.ah3 (i := 24) (v := _) (some 35) rfl (by kernel_rfl) (by kernel_rfl) (by kernel_rfl) (fun _ _ _ h => h) (Or.inl ⟨by rfl, ?hy73⟩) (by assumption) ?r_73
       case hy73=>(intro w' ss; (try dsimp only at ss); go_simp; first | done | with_reducible rfl)
       try simp only[Act.put,Reg.l1,Reg.l2,Reg.l3]
       refine Reg.ah3 (i := 25) (v := undef) (some 36) rfl (by kernel_rfl) (by kernel_rfl) (by kernel_rfl) (fun _ _ _ h => h) (Or.inr ⟨by rfl, rfl⟩) (by assumption) ?_
       try simp only[Act.put,Reg.l1,Reg.l2,Reg.l3]
       refine Reg.ah3 (i := 26) (v := undef) (some 37) rfl (by kernel_rfl) (by kernel_rfl) (by kernel_rfl) (fun _ _ _ h => h) (Or.inr ⟨by rfl, rfl⟩) (by assumption) ?_
       try simp only[Act.put,Reg.l1,Reg.l2,Reg.l3]
       refine Reg.ah3 (i := 27) (v := undef) (some 38) rfl (by kernel_rfl) (by kernel_rfl) (by kernel_rfl) (fun _ _ _ h => h) (Or.inr ⟨by rfl, rfl⟩) (by assumption) ?_
       try simp only[Act.put,Reg.l1,Reg.l2,Reg.l3]
       refine Reg.ah3 (i := 28) (v := undef) (some 39) rfl (by kernel_rfl) (by kernel_rfl) (by kernel_rfl) (fun _ _ _ h => h) (Or.inr ⟨by rfl, rfl⟩) (by assumption) ?_
       try simp only[Act.put,Reg.l1,Reg.l2,Reg.l3]
       refine' Reg.ah3 (i := 29) (v := _) (some 40) rfl (by kernel_rfl) (by kernel_rfl) (by kernel_rfl) (fun _ _ _ h => h) (Or.inl ⟨by rfl, ?hy78⟩) (by assumption) ?r_78
       case hy78=>(intro w' ss; (try dsimp only at ss); go_simp; first | done | with_reducible rfl)
       try simp only[Act.put,Reg.l1,Reg.l2,Reg.l3]
       refine' Reg.ah3 (i := 30) (v := _) (some 6) rfl (by kernel_rfl) (by kernel_rfl) (by kernel_rfl) (fun _ _ _ h => h) (Or.inl ⟨by rfl, ?hy79⟩) (by assumption) ?r_79
       case hy79=>(intro w' ss; (try dsimp only at ss); go_simp; first | done | with_reducible rfl)
       try simp only[Act.put,Reg.l1,Reg.l2,Reg.l3]
       refine wpAnyH_done (by kernel_rfl) ?_ _
       refine NoPanic.normal ?_
       go_wp2
       go_ret
       exact RetS.noo OE.out KO.out
     · have DMc:=Lib.hid (DMc.out.step los_gs hn2 hd2 ko2)
       have KO:=Lib.hid (KO.out.trans ko2)
       refine hK.out _ _ trivial (fun hHeld => ?_)
       clear hK K
       try simp only[Act.put,Reg.l1,Reg.l2,Reg.l3]
       refine' Reg.ah3 (i := 12) (v := _) (some 23) rfl (by kernel_rfl) (by kernel_rfl) (by kernel_rfl) (fun _ _ _ h => h) (Or.inl ⟨by rfl, ?hy80⟩) (by assumption) ?r_80
       case hy80=>(intro w' ss; (try dsimp only at ss); go_simp; first | done | with_reducible rfl)
       try simp only[Act.put,Reg.l1,Reg.l2,Reg.l3]
       refine' Reg.ah3 (i := 13) (v := _) (some 24) rfl (by kernel_rfl) (by kernel_rfl) (by kernel_rfl) (fun _ _ _ h => h) (Or.inl ⟨by rfl, ?hy81⟩) (by assumption) ?r_81
       case hy81=>(intro w' ss; (try dsimp only at ss); go_simp; first | done | with_reducible rfl)
       try simp only[Act.put,Reg.l1,Reg.l2,Reg.l3]
       refine wpAnyH_ready (rs:=[14]) (by kernel_rfl) (by simp) ?_
       refine AllReadyH.cons rfl (fun K hK => ?_) AllReadyH.nil
       go_simp
       (with_reducible refine (lose_d DMc.out hy).mono ?_)
       rintro e yw hx3
       rcases hx3.parts with ⟨hn3,rfl,ko3⟩ | ⟨D3,hn3,rfl,hd3,ko3⟩
       · have OE:=Lib.hid (HO.out.trans (thn_n ((ifS_y hp).trans ((thn_y hn2).trans hn3))))
         have KO:=Lib.hid (KO.out.trans ko3)
         refine hK.out _ _ trivial (fun hHeld => ?_)
         clear hK K
         try simp only[Act.put,Reg.l1,Reg.l2,Reg.l3]
         refine' Reg.ah3 (i := 15) (v := _) (some 26) rfl (by kernel_rfl) (by kernel_rfl) (by kernel_rfl) (fun _ _ _ h => h) (Or.inl ⟨by rfl, ?hy82⟩) (by assumption) ?r_82
         case hy82=>(intro w' ss; (try dsimp only at ss); go_simp; first | done | with_reducible rfl)
         try simp only[Act.put,Reg.l1,Reg.l2,Reg.l3]
         refine' Reg.ah3 (i := 16) (v := _) (some 27) rfl (by kernel_rfl) (by kernel_rfl) (by kernel_rfl) (fun _ _ _ h => h) (Or.inl ⟨by rfl, ?hy83⟩) (by assumption) ?r_83
         case hy83=>(intro w' ss; (try dsimp only at ss); go_simp; first | done | with_reducible rfl)
         try simp only[Act.put,Reg.l1,Reg.l2,Reg.l3]
         refine' Reg.ah3 (i := 17) (v := _) (some 28) rfl (by kernel_rfl) (by kernel_rfl) (by kernel_rfl) (fun _ _ _ h => h) (Or.inl ⟨by rfl, ?hy84⟩) (by assumption) ?r_84
         case hy84=>(intro w' ss; (try dsimp only at ss); go_simp; first | done | with_reducible rfl)
         try simp only[Act.put,Reg.l1,Reg.l2,Reg.l3]
         refine' Reg.ah3 (i := 18) (v := _) (some 29) rfl (by kernel_rfl) (by kernel_rfl) (by kernel_rfl) (fun _ _ _ h => h) (Or.inl ⟨by rfl, ?hy85⟩) (by assumption) ?r_85
         case hy85=>(intro w' ss; (try dsimp only at ss); go_simp; first | done | with_reducible rfl)
         try simp only[Act.put,Reg.l1,Reg.l2,Reg.l3]
         refine Reg.ah3 (i := 19) (v := undef) (some 30) rfl (by kernel_rfl) (by kernel_rfl) (by kernel_rfl) (fun _ _ _ h => h) (Or.inr ⟨by rfl, rfl⟩) (by assumption) ?_
         try simp only[Act.put,Reg.l1,Reg.l2,Reg.l3]
         refine Reg.ah3 (i := 20) (v := undef) (some 31) rfl (by kernel_rfl) (by kernel_rfl) (by kernel_rfl) (fun _ _ _ h => h) (Or.inr ⟨by rfl, rfl⟩) (by assumption) ?_
         try simp only[Act.put,Reg.l1,Reg.l2,Reg.l3]
         refine Reg.ah3 (i := 21) (v := undef) (some 32) rfl (by kernel_rfl) (by kernel_rfl) (by kernel_rfl) (fun _ _ _ h => h) (Or.inr ⟨by rfl, rfl⟩) (by assumption) ?_
         try simp only[Act.put,Reg.l1,Reg.l2,Reg.l3]
         refine Reg.ah3 (i := 22) (v := undef) (some 33) rfl (by kernel_rfl) (by kernel_rfl) (by kernel_rfl) (fun _ _ _ h => h) (Or.inr ⟨by rfl, rfl⟩) (by assumption) ?_
         try simp only[Act.put,Reg.l1,Reg.l2,Reg.l3]
         refine' Reg.ah3 (i := 23) (v := _) (some 34) rfl (by kernel_rfl) (by kernel_rfl) (by kernel_rfl) (fun _ _ _ h => h) (Or.inl ⟨by rfl, ?hy90⟩) (by assumption) ?r_90
         case hy90=>(intro w' ss; (try dsimp only at ss); go_simp; first | done | with_reducible rfl)
         try simp only[Act.put,Reg.l1,Reg.l2,Reg.l3]
         refine' Reg.ah3 (i := 24) (v := _) (some 35) rfl (by kernel_rfl) (by kernel_rfl) (by kernel_rfl) (fun _ _ _ h => h) (Or.inl ⟨by rfl, ?hy91⟩) (by assumption) ?r_91
         case hy91=>(intro w' ss; (try dsimp only at ss); go_simp; first | done | with_reducible rfl)
         try simp only[Act.put,Reg.l1,Reg.l2,Reg.l3]
         refine Reg.ah3 (i := 25) (v := undef) (some 36) rfl (by kernel_rfl) (by kernel_rfl) (by kernel_rfl) (fun _ _ _ h => h) (Or.inr ⟨by rfl, rfl⟩) (by assumption) ?_
         try simp only[Act.put,Reg.l1,Reg.l2,Reg.l3]
         refine Reg.ah3 (i := 26) (v := undef) (some 37) rfl (by kernel_rfl) (by kernel_rfl) (by kernel_rfl) (fun _ _ _ h => h) (Or.inr ⟨by rfl, rfl⟩) (by assumption) ?_
         try simp only[Act.put,Reg.l1,Reg.l2,Reg.l3]
         refine Reg.ah3 (i := 27) (v := undef) (some 38) rfl (by kernel_rfl) (by kernel_rfl) (by kernel_rfl) (fun _ _ _ h => h) (Or.inr ⟨by rfl, rfl⟩) (by assumption) ?_
         try simp only[Act.put,Reg.l1,Reg.l2,Reg.l3]
         refine Reg.ah3 (i := 28) (v := undef) (some 39) rfl (by kernel_rfl) (by kernel_rfl) (by kernel_rfl) (fun _ _ _ h => h) (Or.inr ⟨by rfl, rfl⟩) (by assumption) ?_
         try simp only[Act.put,Reg.l1,Reg.l2,Reg.l3]
         refine' Reg.ah3 (i := 29) (v := _) (some 40) rfl (by kernel_rfl) (by kernel_rfl) (by kernel_rfl) (fun _ _ _ h => h) (Or.inl ⟨by rfl, ?hy96⟩) (by assumption) ?r_96
         case hy96=>(intro w' ss; (try dsimp only at ss); go_simp; first | done | with_reducible rfl)
         try simp only[Act.put,Reg.l1,Reg.l2,Reg.l3]
         refine' Reg.ah3 (i := 30) (v := _) (some 6) rfl (by kernel_rfl) (by kernel_rfl) (by kernel_rfl) (fun _ _ _ h => h) (Or.inl ⟨by rfl, ?hy97⟩) (by assumption) ?r_97
         case hy97=>(intro w' ss; (try dsimp only at ss); go_simp; first | done | with_reducible rfl)
         try simp only[Act.put,Reg.l1,Reg.l2,Reg.l3]
         refine wpAnyH_done (by kernel_rfl) ?_ _
         refine NoPanic.normal ?_
         go_wp2
         go_ret
         exact RetS.noo OE.out KO.out
       · have DMc:=Lib.hid (DMc.out.step los_gs hn3 hd3 ko3)
         have HO:=Lib.hid (HO.out.trans (thn_y ((ifS_y hp).trans ((thn_y hn2).trans hn3))))
         have KO:=Lib.hid (KO.out.trans ko3)
         refine hK.out _ _ trivial (fun hHeld => ?_)
         clear hK K
         try simp only[Act.put,Reg.l1,Reg.l2,Reg.l3]
         refine' Reg.ah3 (i := 15) (v := _) (some 26) rfl (by kernel_rfl) (by kernel_rfl) (by kernel_rfl) (fun _ _ _ h => h) (Or.inl ⟨by rfl, ?hy98⟩) (by assumption) ?r_98
         case hy98=>(intro w' ss; (try dsimp only at ss); go_simp; first | done | with_reducible rfl)
         try simp only[Act.put,Reg.l1,Reg.l2,Reg.l3]
         refine' Reg.ah3 (i := 16) (v := _) (some 27) rfl (by kernel_rfl) (by kernel_rfl) (by kernel_rfl) (fun _ _ _ h => h) (Or.inl ⟨by rfl, ?hy99⟩) (by assumption) ?r_99
         case hy99=>(intro w' ss; (try dsimp only at ss); go_simp; first | done | with_reducible rfl)
         try simp only[Act.put,Reg.l1,Reg.l2,Reg.l3]
         refine' Reg.ah3 (i := 17) (v := _) (some 28) rfl (by kernel_rfl) (by kernel_rfl) (by kernel_rfl) (fun _ _ _ h => h) (Or.inl ⟨by rfl, ?hy100⟩) (by assumption) ?r_100
         case hy100=>(intro w' ss; (try dsimp only at ss); go_simp; first | done | with_reducible rfl)
         try simp only[Act.put,Reg.l1,Reg.l2,Reg.l3]
         refine' Reg.ah3 (i := 18) (v := _) (some 29) rfl (by kernel_rfl) (by kernel_rfl) (by kernel_rfl) (fun _ _ _ h => h) (Or.inl ⟨by rfl, ?hy101⟩) (by assumption) ?r_101
         case hy101=>(intro w' ss; (try dsimp only at ss); go_simp; first | done | with_reducible rfl)
         try simp only[Act.put,Reg.l1,Reg.l2,Reg.l3]
         refine' Reg.ah3 (i := 19) (v := _) (some 30) rfl (by kernel_rfl) (by kernel_rfl) (by kernel_rfl) (fun _ _ _ h => h) (Or.inl ⟨by rfl, ?hy102⟩) (by assumption) ?r_102
         case hy102=>(intro w' ss; (try dsimp only at ss); go_simp; first | done | with_reducible rfl)
         try simp only[Act.put,Reg.l1,Reg.l2,Reg.l3]
         refine' Reg.ah3 (i := 20) (v := _) (some 31) rfl (by kernel_rfl) (by kernel_rfl) (by kernel_rfl) (fun _ _ _ h => h) (Or.inl ⟨by rfl, ?hy103⟩) (by assumption) ?r_103
         case hy103=>(intro w' ss; (try dsimp only at ss); go_simp; first | done | with_reducible rfl)
         try simp only[Act.put,Reg.l1,Reg.l2,Reg.l3]
         refine' Reg.ah3 (i := 21) (v := _) (some 32) rfl (by kernel_rfl) (by kernel_rfl) (by kernel_rfl) (fun _ _ _ h => h) (Or.inl ⟨by rfl, ?hy104⟩) (by assumption) ?r_104
         case hy104=>(intro w' ss; (try dsimp only at ss); go_simp; first | done | with_reducible rfl)
         try simp only[Act.put,Reg.l1,Reg.l2,Reg.l3]
         refine wpAnyH_ready (rs:=[22]) (by kernel_rfl) (by simp) ?_
         refine AllReadyH.cons rfl (fun K hK => ?_) AllReadyH.nil
         go_simp
         (with_reducible refine (factor_d DMc.out hx hy hz).mono ?_)
         rintro e yw hx4
         rcases hx4.parts with ⟨hn4,rfl,ko4⟩ | ⟨D4,hn4,rfl,hd4,ko4⟩
         · have OE:=Lib.hid (HO.out.trans (thn_n hn4))
           have KO:=Lib.hid (KO.out.trans ko4)
           refine hK.out _ _ trivial (fun hHeld => ?_)
           clear hK K
           try simp only[Act.put,Reg.l1,Reg.l2,Reg.l3]
           refine' Reg.ah3 (i := 23) (v := _) (some 34) rfl (by kernel_rfl) (by kernel_rfl) (by kernel_rfl) (fun _ _ _ h => h) (Or.inl ⟨by rfl, ?hy105⟩) (by assumption) ?r_105
           case hy105=>(intro w' ss; (try dsimp only at ss); go_simp; first | done | with_reducible rfl)
           try simp only[Act.put,Reg.l1,Reg.l2,Reg.l3]
           refine' Reg.ah3 (i := 24) (v := _) (some 35) rfl (by kernel_rfl) (by kernel_rfl) (by kernel_rfl) (fun _ _ _ h => h) (Or.inl ⟨by rfl, ?hy106⟩) (by assumption) ?r_106
           case hy106=>(intro w' ss; (try dsimp only at ss); go_simp; first | done | with_reducible rfl)
           try simp only[Act.put,Reg.l1,Reg.l2,Reg.l3]
           refine Reg.ah3 (i := 25) (v := undef) (some 36) rfl (by kernel_rfl) (by kernel_rfl) (by kernel_rfl) (fun _ _ _ h => h) (Or.inr ⟨by rfl, rfl⟩) (by assumption) ?_
           try simp only[Act.put,Reg.l1,Reg.l2,Reg.l3]
           refine Reg.ah3 (i := 26) (v := undef) (some 37) rfl (by kernel_rfl) (by kernel_rfl) (by kernel_rfl) (fun _ _ _ h => h) (Or.inr ⟨by rfl, rfl⟩) (by assumption) ?_
           try simp only[Act.put,Reg.l1,Reg.l2,Reg.l3]
           refine Reg.ah3 (i := 27) (v := undef) (some 38) rfl (by kernel_rfl) (by kernel_rfl) (by kernel_rfl) (fun _ _ _ h => h) (Or.inr ⟨by rfl, rfl⟩) (by assumption) ?_
           try simp only[Act.put,Reg.l1,Reg.l2,Reg.l3]
           refine Reg.ah3 (i := 28) (v := undef) (some 39) rfl (by kernel_rfl) (by kernel_rfl) (by kernel_rfl) (fun _ _ _ h => h) (Or.inr ⟨by rfl, rfl⟩) (by assumption) ?_
           try simp only[Act.put,Reg.l1,Reg.l2,Reg.l3]
           refine' Reg.ah3 (i := 29) (v := _) (some 40) rfl (by kernel_rfl) (by kernel_rfl) (by kernel_rfl) (fun _ _ _ h => h) (Or.inl ⟨by rfl, ?hy111⟩) (by assumption) ?r_111
           case hy111=>(intro w' ss; (try dsimp only at ss); go_simp; first | done | with_reducible rfl)
           try simp only[Act.put,Reg.l1,Reg.l2,Reg.l3]
           refine' Reg.ah3 (i := 30) (v := _) (some 6) rfl (by kernel_rfl) (by kernel_rfl) (by kernel_rfl) (fun _ _ _ h => h) (Or.inl ⟨by rfl, ?hy112⟩) (by assumption) ?r_112
           case hy112=>(intro w' ss; (try dsimp only at ss); go_simp; first | done | with_reducible rfl)
           try simp only[Act.put,Reg.l1,Reg.l2,Reg.l3]
           refine wpAnyH_done (by kernel_rfl) ?_ _
           refine NoPanic.normal ?_
           go_wp2
           go_ret
           exact RetS.noo OE.out KO.out
         · have DMc:=Lib.hid (DMc.out.step (fac_ok (X:=[(x:Int)]) (inn hx) (inn hy) (inn hz) (List.mem_cons_self ..)).gs hn4 hd4 ko4)
           have HO:=Lib.hid (HO.out.trans (thn_y hn4))
           have KO:=Lib.hid (KO.out.trans ko4)
           refine hK.out _ _ trivial (fun hHeld => ?_)
           clear hK K
           try simp only[Act.put,Reg.l1,Reg.l2,Reg.l3]
           refine' Reg.ah3 (i := 23) (v := _) (some 34) rfl (by kernel_rfl) (by kernel_rfl) (by kernel_rfl) (fun _ _ _ h => h) (Or.inl ⟨by rfl, ?hy113⟩) (by assumption) ?r_113
           case hy113=>(intro w' ss; (try dsimp only at ss); go_simp; first | done | with_reducible rfl)
           try simp only[Act.put,Reg.l1,Reg.l2,Reg.l3]
           refine' Reg.ah3 (i := 24) (v := _) (some 35) rfl (by kernel_rfl) (by kernel_rfl) (by kernel_rfl) (fun _ _ _ h => h) (Or.inl ⟨by rfl, ?hy114⟩) (by assumption) ?r_114
           case hy114=>(intro w' ss; (try dsimp only at ss); go_simp; first | done | with_reducible rfl)
           try simp only[Act.put,Reg.l1,Reg.l2,Reg.l3]
           refine' Reg.ah3 (i := 25) (v := _) (some 36) rfl (by kernel_rfl) (by kernel_rfl) (by kernel_rfl) (fun _ _ _ h => h) (Or.inl ⟨by rfl, ?hy115⟩) (by assumption) ?r_115
           case hy115=>(intro w' ss; (try dsimp only at ss); go_simp; first | done | with_reducible rfl)
           try simp only[Act.put,Reg.l1,Reg.l2,Reg.l3]
           refine' Reg.ah3 (i := 26) (v := _) (some 37) rfl (by kernel_rfl) (by kernel_rfl) (by kernel_rfl) (fun _ _ _ h => h) (Or.inl ⟨by rfl, ?hy116⟩) (by assumption) ?r_116
           case hy116=>(intro w' ss; (try dsimp only at ss); go_simp; first | done | with_reducible rfl)
           try simp only[Act.put,Reg.l1,Reg.l2,Reg.l3]
           refine' Reg.ah3 (i := 27) (v := _) (some 38) rfl (by kernel_rfl) (by kernel_rfl) (by kernel_rfl) (fun _ _ _ h => h) (Or.inl ⟨by rfl, ?hy117⟩) (by assumption) ?r_117
           case hy117=>(intro w' ss; (try dsimp only at ss); go_simp; first | done | with_reducible rfl)
           try simp only[Act.put,Reg.l1,Reg.l2,Reg.l3]
           refine wpAnyH_ready (rs:=[28]) (by kernel_rfl) (by simp) ?_
           refine AllReadyH.cons rfl (fun K hK => ?_) AllReadyH.nil
           go_simp
           (with_reducible refine (factor_d DMc.out hy hx hz).mono ?_)
           rintro e yw5 ⟨rfl,hd5,ko5⟩
           refine hK.out _ _ trivial (fun hHeld => ?_)
           clear hK K
           try simp only[Act.put,Reg.l1,Reg.l2,Reg.l3]
           refine' Reg.ah3 (i := 29) (v := _) (some 40) rfl (by kernel_rfl) (by kernel_rfl) (by kernel_rfl) (fun _ _ _ h => h) (Or.inl ⟨by rfl, ?hy118⟩) (by assumption) ?r_118
           case hy118=>(intro w' ss; (try dsimp only at ss); go_simp; first | done | with_reducible rfl)
           try simp only[Act.put,Reg.l1,Reg.l2,Reg.l3]
           refine' Reg.ah3 (i := 30) (v := _) (some 6) rfl (by kernel_rfl) (by kernel_rfl) (by kernel_rfl) (fun _ _ _ h => h) (Or.inl ⟨by rfl, ?hy119⟩) (by assumption) ?r_119
           case hy119=>(intro w' ss; (try dsimp only at ss); go_simp; first | done | with_reducible rfl)
           try simp only[Act.put,Reg.l1,Reg.l2,Reg.l3]
           refine wpAnyH_done (by kernel_rfl) ?_ _
           refine NoPanic.normal ?_
           go_wp2
           go_ret
           rw[HO.out]
           exact RetS.upo ⟨rfl,hd5,ko5⟩ KO.out
end Go.Proofs.Ytalcgjkegohhgaa.At
