/- What the document's own Sum gives back. What the document's own fit, Add, Mul of layer 3 give back. What the d -/
import Derived.Test.YtjmmcnldfkjebaaGreatDoorQbm
set_option maxHeartbeats 1000000
set_option maxRecDepth 100000
set_option linter.unusedVariables false
set_option linter.unusedSimpArgs false
section
namespace Go.Proofs.YtjmmcnldfkjebaaGreatDoor.Ref03
open Go.RowKit
open Dig
theorem sum_eq (A0 A1:Option Addr) (c0 c1:Nat) (na nb:Bool) (xs ys:List Nat) (w:World) (hx:Row w (.slice A0 xs.length c0) xs) (hy:Row w (.slice A1 ys.length c1) ys) (lx:xs.length≤1000) (ly:ys.length≤1000) (hs:(na == nb)=true) :
 Calls Tryz.prog 54 #[sv na (.slice A0 xs.length c0),sv nb (.slice A1 ys.length c1)] w (RetS (signB na (digs (num xs+num ys))) (digs (num xs+num ys)) w):=by
 have H:=lH (And.intro hx hy)
 have HL:=lH (show (digs (num xs+num ys)).length≤1000000 by have h1:=num_lt hx.dig; have h2:=num_lt hy.dig; obtain⟨k,hk⟩:∃ k,k=1000:=⟨_,rfl⟩; rw[← hk] at lx ly; have h3:=Nat.pow_le_pow_right (n:=4294967296) (by omega) lx; have h4:=Nat.pow_le_pow_right (n:=4294967296) (by omega) ly; exact Nat.le_trans (digs_len_le (k:=k+1) (sum_lt (Nat.lt_of_lt_of_le h1 h3) (Nat.lt_of_lt_of_le h2 h4))) (by omega))
 have LL:=lH (And.intro lx ly)
 have HE:=lH (And.intro lx ly)
 clear hx hy lx ly
 obtain⟨n0,hn0⟩:∃ n,n=xs.length:=⟨_,rfl⟩
 obtain⟨n1,hn1⟩:∃ n,n=ys.length:=⟨_,rfl⟩
 rw[← hn0] at H ⊢
 rw[← hn1] at H ⊢
 clear hn0 hn1
 obtain⟨W0,hW0⟩:∃ W0,W0=((w.alloc (.cells #[.bool na,.slice A0 n0 c0] 107)).alloc (.cells #[.bool nb,.slice A1 n1 c1] 107)).alloc (.cells #[.bool false,.slice none 0 0] 107):=⟨_,rfl⟩
 have HW:=lH hW0
 have hold:Hid (∀ W:World,Since W0 W→(W.cell? ⟨w.heap.size,0,none⟩=some (.bool na)∧W.cell? ⟨w.heap.size,1,none⟩=some (.slice A0 n0 c0)∧W.cell? ⟨w.heap.size+1,0,none⟩=some (.bool nb)∧W.cell? ⟨w.heap.size+1,1,none⟩=some (.slice A1 n1 c1))∧Since w W):=fun W h=>⟨hold2 (hW0 ▸ h),by rw[hW0] at h; exact ((((Since.refl w).alloc _).alloc _).alloc _).trans h⟩
 have hk3:Hid (∀ W:World,Since W0 W→W.cell? ⟨w.heap.size+1+1,0,none⟩=some (.bool false)∧W.cell? ⟨w.heap.size+1+1,1,none⟩=some (.slice none 0 0)∧W.frozen? ⟨w.heap.size+1+1,0,none⟩=false∧W.frozen? ⟨w.heap.size+1+1,1,none⟩=false):=fun W h=>keep3 (hW0 ▸ h)
 have hb3:Hid (∀ W:World,Since W0 W→Since (((w.alloc (.cells #[.bool na,.slice A0 n0 c0] 107)).alloc (.cells #[.bool nb,.slice A1 n1 c1] 107)).alloc (.cells #[.bool false,.slice none 0 0] 107)) W):=fun W h=>hW0 ▸ h
 have since_set3:∀ {W:World} {u0 u1:Value},Since W0 W→Since w ((W.setCell ⟨w.heap.size+1+1,0,none⟩ u0).setCell ⟨w.heap.size+1+1,1,none⟩ u1):=fun h=>by rw[hW0] at h; exact ((((((Since.refl w).alloc _).alloc _).alloc _).trans h).set (by show w.heap.size≤w.heap.size+1+1; omega) _).set (by show w.heap.size≤w.heap.size+1+1; omega) _
 have hS0:Since w W0:=by rw[hW0]; exact (((Since.refl w).alloc _).alloc _).alloc _
 clear hW0
 go_enter Tryz.func54,Tryz.ntmps54
 go_wp2
 rw[← HW.out]
 have hh:Hid (∀ W:World,(W.cell? ⟨w.heap.size,0,none⟩=some (.bool na)∧W.cell? ⟨w.heap.size,1,none⟩=some (.slice A0 n0 c0)∧W.cell? ⟨w.heap.size+1,0,none⟩=some (.bool nb)∧W.cell? ⟨w.heap.size+1,1,none⟩=some (.slice A1 n1 c1))∧Since w W→Since w W):=fun W h=>h.2
 go_region_held3 (fun W=>(W.cell? ⟨w.heap.size,0,none⟩=some (.bool na)∧W.cell? ⟨w.heap.size,1,none⟩=some (.slice A0 n0 c0)∧W.cell? ⟨w.heap.size+1,0,none⟩=some (.bool nb)∧W.cell? ⟨w.heap.size+1,1,none⟩=some (.slice A1 n1 c1))∧Since w W)
  (first | exact hold.out _ (Since.refl _) | exact hold.out _ (Since.drew (Since.refl _)) | exact hold.out _ (Since.drew ‹Since W0 _›) | exact hold.out _ ‹Since W0 _› | exact⟨by go_simp,since_set3 ‹Since W0 _›⟩)
  (first
   | (go_at_call 83; go_loud ((with_reducible refine ((Ref02.plus_any (.slice A0 n0 c0) (.slice A1 n1 c1) xs ys _ (H.out.1.since (hh.out _ (by assumption))) (H.out.2.since (hh.out _ (by assumption))) (by have:=LL.out; omega) (by have:=LL.out; omega)).mono fun _ _ h=>RetRow.sl h).mono ?_)); rintro e x1 ⟨A2,c2,rfl,hr1,hs1⟩; have hK1:=Since.trans (Since.drew (Since.refl W0)) hs1)
   | (go_at_call 82; (with_reducible refine (made_any (.slice A2 (digs (num xs+num ys)).length c2) _ (digs (num xs+num ys)) _ hr1 HL.out).mono ?_); rintro e x2 ⟨rfl,hs2⟩; have hK2:=Since.trans hK1 hs2; have hr2:=hr1.since hs2; obtain⟨q0,q1,q2,q3⟩:=hk3.out _ hK2))
 go_wp2
 refine bodyPost_ret (v:=sv (signB na (digs (num xs+num ys))) (.slice A2 (digs (num xs+num ys)).length c2)) ?_ rfl ?_
 · simp[results,Tryz.results54,go_sem,q0,q1]
 · exact⟨_,_,rfl,row_set3 hr2 (hb3.out _ hK2) _ _,since_set3 hK2⟩
theorem sum_lt_ (A0 A1:Option Addr) (c0 c1:Nat) (na nb:Bool) (xs ys:List Nat) (w:World) (hx:Row w (.slice A0 xs.length c0) xs) (hy:Row w (.slice A1 ys.length c1) ys) (lx:xs.length≤1000) (ly:ys.length≤1000) (hs:(na == nb)=false) (hc:lessB xs ys=true) (hl2:xs.length≤ys.length) (hle:num xs≤num ys) :
 Calls Tryz.prog 54 #[sv na (.slice A0 xs.length c0),sv nb (.slice A1 ys.length c1)] w (RetS (signB nb (digs (num ys - num xs))) (digs (num ys - num xs)) w):=by
 have H:=lH (And.intro hx hy)
 have HL:=lH (show (digs (num ys - num xs)).length≤1000000 by exact Nat.le_trans (digs_len_mono (Nat.sub_le _ _)) (Nat.le_trans (digs_len_num hy.dig) (by omega)))
 have LL:=lH (And.intro lx ly)
 have HE:=lH (And.intro lx ly)
 have HC:=lH hc
 have HQ:=lH hl2
 have HLE:=lH hle
 clear hx hy lx ly hc hl2 hle
 obtain⟨n0,hn0⟩:∃ n,n=xs.length:=⟨_,rfl⟩
 obtain⟨n1,hn1⟩:∃ n,n=ys.length:=⟨_,rfl⟩
 rw[← hn0] at H ⊢
 rw[← hn1] at H ⊢
 clear hn0 hn1
 obtain⟨W0,hW0⟩:∃ W0,W0=((w.alloc (.cells #[.bool na,.slice A0 n0 c0] 107)).alloc (.cells #[.bool nb,.slice A1 n1 c1] 107)).alloc (.cells #[.bool false,.slice none 0 0] 107):=⟨_,rfl⟩
 have HW:=lH hW0
 have hold:Hid (∀ W:World,Since W0 W→(W.cell? ⟨w.heap.size,0,none⟩=some (.bool na)∧W.cell? ⟨w.heap.size,1,none⟩=some (.slice A0 n0 c0)∧W.cell? ⟨w.heap.size+1,0,none⟩=some (.bool nb)∧W.cell? ⟨w.heap.size+1,1,none⟩=some (.slice A1 n1 c1))∧Since w W):=fun W h=>⟨hold2 (hW0 ▸ h),by rw[hW0] at h; exact ((((Since.refl w).alloc _).alloc _).alloc _).trans h⟩
 have hk3:Hid (∀ W:World,Since W0 W→W.cell? ⟨w.heap.size+1+1,0,none⟩=some (.bool false)∧W.cell? ⟨w.heap.size+1+1,1,none⟩=some (.slice none 0 0)∧W.frozen? ⟨w.heap.size+1+1,0,none⟩=false∧W.frozen? ⟨w.heap.size+1+1,1,none⟩=false):=fun W h=>keep3 (hW0 ▸ h)
 have hb3:Hid (∀ W:World,Since W0 W→Since (((w.alloc (.cells #[.bool na,.slice A0 n0 c0] 107)).alloc (.cells #[.bool nb,.slice A1 n1 c1] 107)).alloc (.cells #[.bool false,.slice none 0 0] 107)) W):=fun W h=>hW0 ▸ h
 have since_set3:∀ {W:World} {u0 u1:Value},Since W0 W→Since w ((W.setCell ⟨w.heap.size+1+1,0,none⟩ u0).setCell ⟨w.heap.size+1+1,1,none⟩ u1):=fun h=>by rw[hW0] at h; exact ((((((Since.refl w).alloc _).alloc _).alloc _).trans h).set (by show w.heap.size≤w.heap.size+1+1; omega) _).set (by show w.heap.size≤w.heap.size+1+1; omega) _
 have hS0:Since w W0:=by rw[hW0]; exact (((Since.refl w).alloc _).alloc _).alloc _
 clear hW0
 have hR0:=lH (H.out.1.since hS0)
 have hR1:=lH (H.out.2.since hS0)
 go_enter Tryz.func54,Tryz.ntmps54
 go_wp2_with fail
 rw[← HW.out]
 go_wp2_with (go_at_call 84; (with_reducible refine (Ref02.less_any (.slice A0 n0 c0) (.slice A1 n1 c1) xs ys _ hR0.out hR1.out (by have:=LL.out; omega) (by have:=LL.out; omega)).mono ?_); rw[HC.out]; rintro e w1 ⟨rfl,hw1⟩; obtain⟨⟨k0,k1,k2,k3⟩,_⟩:=hold.out _ hw1)
 have hh:Hid (∀ W:World,(W.cell? ⟨w.heap.size,0,none⟩=some (.bool na)∧W.cell? ⟨w.heap.size,1,none⟩=some (.slice A0 n0 c0)∧W.cell? ⟨w.heap.size+1,0,none⟩=some (.bool nb)∧W.cell? ⟨w.heap.size+1,1,none⟩=some (.slice A1 n1 c1))∧Since w W→Since w W):=fun W h=>h.2
 go_region_held3 (fun W=>(W.cell? ⟨w.heap.size,0,none⟩=some (.bool na)∧W.cell? ⟨w.heap.size,1,none⟩=some (.slice A0 n0 c0)∧W.cell? ⟨w.heap.size+1,0,none⟩=some (.bool nb)∧W.cell? ⟨w.heap.size+1,1,none⟩=some (.slice A1 n1 c1))∧Since w W)
  (first | exact hold.out _ (Since.refl _) | exact hold.out _ (Since.drew (Since.refl _)) | exact hold.out _ (Since.drew ‹Since W0 _›) | exact hold.out _ ‹Since W0 _› | exact⟨by go_simp,since_set3 ‹Since W0 _›⟩)
  (first
   | (go_at_call 85; go_loud ((with_reducible refine ((Ref02.minus_any (.slice A1 n1 c1) (.slice A0 n0 c0) ys xs _ (H.out.2.since (hh.out _ (by assumption))) (H.out.1.since (hh.out _ (by assumption))) (by have:=LL.out; omega) HQ.out HLE.out).mono fun _ _ h=>RetRow.sl h).mono ?_)); rintro e x1 ⟨A2,c2,rfl,hr1,hs1⟩; have hK1:=Since.trans (Since.drew hw1) hs1)
   | (go_at_call 82; (with_reducible refine (made_any (.slice A2 (digs (num ys - num xs)).length c2) _ (digs (num ys - num xs)) _ hr1 HL.out).mono ?_); rintro e x2 ⟨rfl,hs2⟩; have hK2:=Since.trans hK1 hs2; have hr2:=hr1.since hs2; obtain⟨q0,q1,q2,q3⟩:=hk3.out _ hK2))
 go_wp2
 refine bodyPost_ret (v:=sv (signB nb (digs (num ys - num xs))) (.slice A2 (digs (num ys - num xs)).length c2)) ?_ rfl ?_
 · simp[results,Tryz.results54,go_sem,q0,q1]
 · exact⟨_,_,rfl,row_set3 hr2 (hb3.out _ hK2) _ _,since_set3 hK2⟩
theorem sum_ge_ (A0 A1:Option Addr) (c0 c1:Nat) (na nb:Bool) (xs ys:List Nat) (w:World) (hx:Row w (.slice A0 xs.length c0) xs) (hy:Row w (.slice A1 ys.length c1) ys) (lx:xs.length≤1000) (ly:ys.length≤1000) (hs:(na == nb)=false) (hc:lessB xs ys=false) (hl2:ys.length≤xs.length) (hle:num ys≤num xs) :
 Calls Tryz.prog 54 #[sv na (.slice A0 xs.length c0),sv nb (.slice A1 ys.length c1)] w (RetS (signB na (digs (num xs - num ys))) (digs (num xs - num ys)) w):=by
 have H:=lH (And.intro hx hy)
 have HL:=lH (show (digs (num xs - num ys)).length≤1000000 by exact Nat.le_trans (digs_len_mono (Nat.sub_le _ _)) (Nat.le_trans (digs_len_num hx.dig) (by omega)))
 have LL:=lH (And.intro lx ly)
 have HE:=lH (And.intro lx ly)
 have HC:=lH hc
 have HQ:=lH hl2
 have HLE:=lH hle
 clear hx hy lx ly hc hl2 hle
 obtain⟨n0,hn0⟩:∃ n,n=xs.length:=⟨_,rfl⟩
 obtain⟨n1,hn1⟩:∃ n,n=ys.length:=⟨_,rfl⟩
 rw[← hn0] at H ⊢
 rw[← hn1] at H ⊢
 clear hn0 hn1
 obtain⟨W0,hW0⟩:∃ W0,W0=((w.alloc (.cells #[.bool na,.slice A0 n0 c0] 107)).alloc (.cells #[.bool nb,.slice A1 n1 c1] 107)).alloc (.cells #[.bool false,.slice none 0 0] 107):=⟨_,rfl⟩
 have HW:=lH hW0
 have hold:Hid (∀ W:World,Since W0 W→(W.cell? ⟨w.heap.size,0,none⟩=some (.bool na)∧W.cell? ⟨w.heap.size,1,none⟩=some (.slice A0 n0 c0)∧W.cell? ⟨w.heap.size+1,0,none⟩=some (.bool nb)∧W.cell? ⟨w.heap.size+1,1,none⟩=some (.slice A1 n1 c1))∧Since w W):=fun W h=>⟨hold2 (hW0 ▸ h),by rw[hW0] at h; exact ((((Since.refl w).alloc _).alloc _).alloc _).trans h⟩
 have hk3:Hid (∀ W:World,Since W0 W→W.cell? ⟨w.heap.size+1+1,0,none⟩=some (.bool false)∧W.cell? ⟨w.heap.size+1+1,1,none⟩=some (.slice none 0 0)∧W.frozen? ⟨w.heap.size+1+1,0,none⟩=false∧W.frozen? ⟨w.heap.size+1+1,1,none⟩=false):=fun W h=>keep3 (hW0 ▸ h)
 have hb3:Hid (∀ W:World,Since W0 W→Since (((w.alloc (.cells #[.bool na,.slice A0 n0 c0] 107)).alloc (.cells #[.bool nb,.slice A1 n1 c1] 107)).alloc (.cells #[.bool false,.slice none 0 0] 107)) W):=fun W h=>hW0 ▸ h
 have since_set3:∀ {W:World} {u0 u1:Value},Since W0 W→Since w ((W.setCell ⟨w.heap.size+1+1,0,none⟩ u0).setCell ⟨w.heap.size+1+1,1,none⟩ u1):=fun h=>by rw[hW0] at h; exact ((((((Since.refl w).alloc _).alloc _).alloc _).trans h).set (by show w.heap.size≤w.heap.size+1+1; omega) _).set (by show w.heap.size≤w.heap.size+1+1; omega) _
 have hS0:Since w W0:=by rw[hW0]; exact (((Since.refl w).alloc _).alloc _).alloc _
 clear hW0
 have hR0:=lH (H.out.1.since hS0)
 have hR1:=lH (H.out.2.since hS0)
 go_enter Tryz.func54,Tryz.ntmps54
 go_wp2_with fail
 rw[← HW.out]
 go_wp2_with (go_at_call 84; (with_reducible refine (Ref02.less_any (.slice A0 n0 c0) (.slice A1 n1 c1) xs ys _ hR0.out hR1.out (by have:=LL.out; omega) (by have:=LL.out; omega)).mono ?_); rw[HC.out]; rintro e w1 ⟨rfl,hw1⟩; obtain⟨⟨k0,k1,k2,k3⟩,_⟩:=hold.out _ hw1)
 have hh:Hid (∀ W:World,(W.cell? ⟨w.heap.size,0,none⟩=some (.bool na)∧W.cell? ⟨w.heap.size,1,none⟩=some (.slice A0 n0 c0)∧W.cell? ⟨w.heap.size+1,0,none⟩=some (.bool nb)∧W.cell? ⟨w.heap.size+1,1,none⟩=some (.slice A1 n1 c1))∧Since w W→Since w W):=fun W h=>h.2
 go_region_held3 (fun W=>(W.cell? ⟨w.heap.size,0,none⟩=some (.bool na)∧W.cell? ⟨w.heap.size,1,none⟩=some (.slice A0 n0 c0)∧W.cell? ⟨w.heap.size+1,0,none⟩=some (.bool nb)∧W.cell? ⟨w.heap.size+1,1,none⟩=some (.slice A1 n1 c1))∧Since w W)
  (first | exact hold.out _ (Since.refl _) | exact hold.out _ (Since.drew (Since.refl _)) | exact hold.out _ (Since.drew ‹Since W0 _›) | exact hold.out _ ‹Since W0 _› | exact⟨by go_simp,since_set3 ‹Since W0 _›⟩)
  (first
   | (go_at_call 85; go_loud ((with_reducible refine ((Ref02.minus_any (.slice A0 n0 c0) (.slice A1 n1 c1) xs ys _ (H.out.1.since (hh.out _ (by assumption))) (H.out.2.since (hh.out _ (by assumption))) (by have:=LL.out; omega) HQ.out HLE.out).mono fun _ _ h=>RetRow.sl h).mono ?_)); rintro e x1 ⟨A2,c2,rfl,hr1,hs1⟩; have hK1:=Since.trans (Since.drew hw1) hs1)
   | (go_at_call 82; (with_reducible refine (made_any (.slice A2 (digs (num xs - num ys)).length c2) _ (digs (num xs - num ys)) _ hr1 HL.out).mono ?_); rintro e x2 ⟨rfl,hs2⟩; have hK2:=Since.trans hK1 hs2; have hr2:=hr1.since hs2; obtain⟨q0,q1,q2,q3⟩:=hk3.out _ hK2))
 go_wp2
 refine bodyPost_ret (v:=sv (signB na (digs (num xs - num ys))) (.slice A2 (digs (num xs - num ys)).length c2)) ?_ rfl ?_
 · simp[results,Tryz.results54,go_sem,q0,q1]
 · exact⟨_,_,rfl,row_set3 hr2 (hb3.out _ hK2) _ _,since_set3 hK2⟩
end Go.Proofs.YtjmmcnldfkjebaaGreatDoor.Ref03
end
section
namespace Go.Proofs.YtjmmcnldfkjebaaGreatDoor.Ref03
open Go.RowKit
open Dig
theorem sum_any (A0 A1:Option Addr) (c0 c1:Nat) (na nb:Bool) (xs ys:List Nat) (w:World) (hx:Row w (.slice A0 xs.length c0) xs) (hy:Row w (.slice A1 ys.length c1) ys) (lx:xs.length≤1000) (ly:ys.length≤1000) (nx:Norm xs) (ny:Norm ys) :
 Calls Tryz.prog 54 #[sv na (.slice A0 xs.length c0),sv nb (.slice A1 ys.length c1)] w (RetS (ngB (sval na xs+sval nb ys)) (mag (sval na xs+sval nb ys)) w):=by
 by_cases hs:(na == nb)=true
 · have h:=sum_eq A0 A1 c0 c1 na nb xs ys w hx hy lx ly hs
   have e:na=nb:=by simpa using hs
   subst e
   have e1:digs (num xs+num ys)=mag (sval na xs+sval na ys):=by
    unfold mag sval; congr 1; cases na <;> simp <;> omega
   rw[e1,sign_mag _ na (fun hz=>by
    unfold ngB sval at *
    cases na
    · simp; omega
    · simp at hz ⊢; omega)] at h
   exact h
 · have hs':(na == nb)=false:=by simpa using hs
   have el:=lessB_norm hx.dig hy.dig nx ny
   by_cases hc:num xs<num ys
   · rw[decide_eq_true hc] at el
     have h:=sum_lt_ A0 A1 c0 c1 na nb xs ys w hx hy lx ly hs' el (norm_len_le hy.dig nx (by omega)) (by omega)
     have e1:digs (num ys - num xs)=mag (sval na xs+sval nb ys):=by
      unfold mag sval; congr 1; cases na <;> cases nb <;> simp at hs' ⊢ <;> omega
     rw[e1,sign_mag _ nb (fun hz=>by
      unfold ngB sval at *
      cases na <;> cases nb <;> simp at hs' hz ⊢ <;> omega)] at h
     exact h
   · rw[decide_eq_false hc] at el
     have h:=sum_ge_ A0 A1 c0 c1 na nb xs ys w hx hy lx ly hs' el (norm_len_le hx.dig ny (by omega)) (by omega)
     have e1:digs (num xs - num ys)=mag (sval na xs+sval nb ys):=by
      unfold mag sval; congr 1; cases na <;> cases nb <;> simp at hs' ⊢ <;> omega
     rw[e1,sign_mag _ na (fun hz=>by
      unfold ngB sval at *
      cases na <;> cases nb <;> simp at hs' hz ⊢ <;> omega)] at h
     exact h
end Go.Proofs.YtjmmcnldfkjebaaGreatDoor.Ref03
end
section
namespace Go.Proofs.YtjmmcnldfkjebaaGreatDoor.Ref03
open Go.RowKit
open Dig
theorem neg_any (A0:Option Addr) (c0:Nat) (na:Bool) (xs:List Nat) (w:World) (hx:Row w (.slice A0 xs.length c0) xs) (lx:xs.length≤1000) :
 Calls Tryz.prog 57 #[sv na (.slice A0 xs.length c0)] w (RetZ (negZ na xs) w):=by
 have H:=lH hx
 have LL:=lH lx
 have dx:=hx.dig
 have HD:=lH dx
 obtain⟨W0,hW0⟩:∃ W0,W0=(w.alloc (.cells #[.bool na,.slice A0 xs.length c0] 107)).alloc (.cells #[.bool false,.slice none 0 0] 107):=⟨_,rfl⟩
 have HW:=lH hW0
 have hold:Hid (∀ W:World,Since W0 W→(W.cell? ⟨w.heap.size,0,none⟩=some (.bool na)∧W.cell? ⟨w.heap.size,1,none⟩=some (.slice A0 xs.length c0))):=fun W h=>hold1of (hW0 ▸ h)
 have hk3:Hid (∀ W:World,Since W0 W→W.cell? ⟨w.heap.size+1,0,none⟩=some (.bool false)∧W.cell? ⟨w.heap.size+1,1,none⟩=some (.slice none 0 0)∧W.frozen? ⟨w.heap.size+1,0,none⟩=false∧W.frozen? ⟨w.heap.size+1,1,none⟩=false):=fun W h=>keep2of (hW0 ▸ h)
 have hb3:Hid (∀ W:World,Since W0 W→Since ((w.alloc (.cells #[.bool na,.slice A0 xs.length c0] 107)).alloc (.cells #[.bool false,.slice none 0 0] 107)) W):=fun W h=>hW0 ▸ h
 have hS0:Since w W0:=by rw[hW0]; exact ((Since.refl w).alloc _).alloc _
 have hK:=Since.refl W0
 clear hW0 hx lx dx
 by_cases r1:srightB na xs=true
 · have R1:=lH r1
   have em:mag (-(sval na xs))=xs:=by
    unfold mag; rw[Int.natAbs_neg,sval_abs]; exact digs_num HD.out (right_norm (sright_right r1)).2
   have es:signB (!na) xs=ngB (-(sval na xs)):=by
    have h:=sign_mag (-(sval na xs)) (!na) (fun hz=>by
     unfold ngB sval at *
     cases na <;> simp at hz ⊢ <;> omega)
    rw[em] at h; exact h
   have EV:=lH (show negZ na xs=((signB (!na) xs,xs),0) by rw[negZ,if_pos r1,em,es])
   clear r1 em es
   obtain⟨sg,hsg⟩:∃ sg,sg=signB (!na) xs:=⟨_,rfl⟩
   have HSG:=lH hsg
   clear hsg
   go_enter Tryz.func57,Tryz.ntmps57
   go_wp2_with fail
   rw[← HW.out]
   go_wp2_with (first
    | (go_at_call 88; (with_reducible refine (right_any (.slice A0 xs.length c0) na xs _ (H.out.since (hS0.trans hK)) (by have:=LL.out; omega)).mono ?_); rw[R1.out]; rintro e w1 ⟨rfl,h1⟩; have hK:=hK.trans h1; obtain⟨k0,k1⟩:=hold.out _ hK; obtain⟨q0,q1,q2,q3⟩:=hk3.out _ hK)
    | (go_at_call 82; (with_reducible refine (made_any (.slice A0 xs.length c0) (!na) xs _ (H.out.since (hS0.trans hK)) (by have:=LL.out; omega)).mono ?_); rw[← HSG.out]; rintro e w2 ⟨rfl,h2⟩; have hK:=hK.trans h2; obtain⟨k0,k1⟩:=hold.out _ hK; obtain⟨q0,q1,q2,q3⟩:=hk3.out _ hK))
   refine bodyPost_ret (v:=.tuple #[sv sg (.slice A0 xs.length c0),.int .i64 0]) ?_ rfl ?_
   · simp[results,Tryz.results57,go_sem,q0,q1]
   · rw[EV.out,HSG.out]
     exact⟨_,_,rfl,row_set2of (H.out.since (hS0.trans hK)) (hb3.out _ hK) _ _,since_set2of (hb3.out _ hK) _ _⟩
 · have R1:=lH (show srightB na xs=false by simpa using r1)
   have EV:=lH (show negZ na xs=((false,[]),2) by rw[negZ,if_neg r1])
   clear r1
   go_enter Tryz.func57,Tryz.ntmps57
   go_wp2_with fail
   rw[← HW.out]
   go_wp2_with (first
    | (go_at_call 88; (with_reducible refine (right_any (.slice A0 xs.length c0) na xs _ (H.out.since (hS0.trans hK)) (by have:=LL.out; omega)).mono ?_); rw[R1.out]; rintro e w1 ⟨rfl,h1⟩; have hK:=hK.trans h1; obtain⟨k0,k1⟩:=hold.out _ hK; obtain⟨q0,q1,q2,q3⟩:=hk3.out _ hK))
   refine bodyPost_ret (v:=.tuple #[sv false (.slice none 0 0),.int .i64 2]) ?_ rfl ?_
   · simp[results,Tryz.results57,go_sem,q0,q1]
   · rw[EV.out]
     exact⟨_,_,rfl,Row.nil _,since_set2of (hb3.out _ hK) _ _⟩
end Go.Proofs.YtjmmcnldfkjebaaGreatDoor.Ref03
end
section
namespace Go.Proofs.YtjmmcnldfkjebaaGreatDoor.Ref02
open Go.RowKit
open Dig
theorem uint_any (va:Value) (xs:List Nat) (w:World) (hx:Row w va xs) (lx:xs.length≤10000) :
 Calls Tryz.prog 89 #[va] w fun e w'=>e = .returned (.tuple #[.int .u64 (((uintD xs).1:Nat):Int),.int .i64 (uintD xs).2])∧Since w w':=by
 have HX:=lH hx
 have LX:=lH lx
 obtain⟨dx,A,cA,rfl,hcx,-⟩:=hx
 have HC:=lH hcx
 have HD:=lH dx
 clear hcx dx
 by_cases r1:rightB xs=true
 · by_cases hl:2<xs.length
   · have es:uintD xs=(0,4):=by unfold uintD; rw[if_pos r1,if_pos hl]
     rw[es]
     clear es
     go_enter Tryz.func89,Tryz.ntmps89
     go_wp2_with (first
      | (go_at_call 121; (with_reducible refine (right_any (.slice A xs.length cA) xs _ HX.out (by have:=LX.out; omega)).mono ?_); rintro e w1 ⟨rfl,rfl⟩))
     go_ret2
     exact⟨rfl,Since.refl _⟩
   · have es:uintD xs=(num xs,0):=by unfold uintD; rw[if_pos r1,if_neg hl]
     rw[es]
     have hl2:xs.length≤2:=by omega
     clear es hl
     go_enter Tryz.func89,Tryz.ntmps89
     go_wp2_with (first
      | (go_at_call 121; (with_reducible refine (right_any (.slice A xs.length cA) xs _ HX.out (by have:=LX.out; omega)).mono ?_); rintro e w1 ⟨rfl,rfl⟩))
     go_loop [4,5] (fun u i=>∃ k:Nat,k≤xs.length∧i = .int .i64 ((k:Int) - 1)∧u = .int .u64 ((num (xs.drop k):Nat):Int)) (fun _ i=>(intOf i+1).toNat)
     case atStart=>exact⟨xs.length,Nat.le_refl _,rfl,by rw[List.drop_of_length_le (Nat.le_refl _)]; rfl⟩
     case round =>
      obtain⟨k,hk,rfl,rfl⟩:=hrel
      rcases k with _ | j
      · go_wp2
        go_ret2
        exact⟨rfl,Since.refl _⟩
      · have e:((j+1:Nat):Int) - 1=(j:Int):=by omega
        rw[e]
        clear e
        obtain⟨b,o,rfl,hcc⟩:=HC.out (by omega)
        have hcell:=hcc j (by omega)
        have h2:=(num_short HD.out hl2 (j+1)).2 (by omega)
        have h3:=num_drop (ds:=xs) (j:=j) (by omega)
        have hdb:=getD_lt HD.out j
        obtain⟨x,hx⟩:∃ x,x=xs.getD j 0:=⟨_,rfl⟩
        obtain⟨n,hn⟩:∃ n,n=num (xs.drop (j+1)):=⟨_,rfl⟩
        rw[← hx] at hcell h3 hdb
        rw[← hn] at h2 h3 ⊢
        have HH:=lH h3
        have hj:j<xs.length:=by omega
        clear hcc h3 hn hx
        go_wp2
        go_round
        case rel=>exact⟨j,by omega,rfl,by rw[HH.out]; go_num⟩
        case measure=>simp[intOf] <;> omega
 · have r1':rightB xs=false:=by simpa using r1
   have es:uintD xs=(0,2):=by unfold uintD; rw[if_neg (by simp[r1'])]
   rw[es]
   clear es r1
   go_enter Tryz.func89,Tryz.ntmps89
   go_wp2_with (first
    | (go_at_call 121; (with_reducible refine (right_any (.slice A xs.length cA) xs _ HX.out (by have:=LX.out; omega)).mono ?_); rintro e w1 ⟨rfl,rfl⟩))
   go_ret2
   exact⟨rfl,Since.refl _⟩
end Go.Proofs.YtjmmcnldfkjebaaGreatDoor.Ref02
end
section
namespace Go.Proofs.YtjmmcnldfkjebaaGreatDoor.Ref03
open Go.RowKit
open Dig
theorem small_any (A0:Option Addr) (c0:Nat) (na:Bool) (xs:List Nat) (w:World) (hx:Row w (.slice A0 xs.length c0) xs) (lx:xs.length≤1000) :
 Calls Tryz.prog 58 #[sv na (.slice A0 xs.length c0)] w fun e w'=>e = .returned (.tuple #[.int .i64 (smallZ na xs).1,.int .i64 (smallZ na xs).2])∧Since w w':=by
 have H:=lH hx
 have LL:=lH lx
 have HD:=lH hx.dig
 obtain⟨W0,hW0⟩:∃ W0,W0=w.alloc (.cells #[.bool na,.slice A0 xs.length c0] 107):=⟨_,rfl⟩
 have HW:=lH hW0
 have hold:Hid (∀ W:World,Since W0 W→(W.cell? ⟨w.heap.size,0,none⟩=some (.bool na)∧W.cell? ⟨w.heap.size,1,none⟩=some (.slice A0 xs.length c0))):=fun W h=>hold1 (hW0 ▸ h)
 have hS0:Since w W0:=by rw[hW0]; exact (Since.refl w).alloc _
 have hK:=Since.refl W0
 clear hW0 hx lx
 by_cases r1:srightB na xs=true
 · have R1:=lH r1
   have hr:=sright_right r1
   by_cases hl:2<xs.length
   · have eu:uintD xs=(0,4):=by unfold uintD; rw[if_pos hr,if_pos hl]
     have hbig:=num_long HD.out (right_norm hr).2 hl
     have ev:smallZ na xs=(0,4):=by
      rw[smallZ,if_pos r1,if_neg]
      unfold fitsI sval
      cases na <;> simp <;> omega
     have EU:=lH eu
     have EV:=lH ev
     clear r1 hr hl eu ev hbig
     go_enter Tryz.func58,Tryz.ntmps58
     go_wp2_with fail
     rw[← HW.out]
     go_wp2_with (first
      | (go_at_call 88; (with_reducible refine (right_any (.slice A0 xs.length c0) na xs _ (H.out.since (hS0.trans hK)) (by have:=LL.out; omega)).mono ?_); rw[R1.out]; rintro e w1 ⟨rfl,h1⟩; have hK:=hK.trans h1; obtain⟨k0,k1⟩:=hold.out _ hK)
      | (go_at_call 89; (with_reducible refine (Ref02.uint_any (.slice A0 xs.length c0) xs _ (H.out.since (hS0.trans hK)) (by have:=LL.out; omega)).mono ?_); rw[EU.out]; rintro e w2 ⟨rfl,h2⟩; have hK:=hK.trans h2; obtain⟨k0,k1⟩:=hold.out _ hK))
     go_ret2
     exact⟨by rw[EV.out]; rfl,hS0.trans hK⟩
   · have eu:uintD xs=(num xs,0):=by unfold uintD; rw[if_pos hr,if_neg hl]
     have hlt:num xs<18446744073709551616:=by
      have h:=(Ref02.num_short HD.out (by omega) 0).1
      simpa using h
     have EU:=lH eu
     obtain⟨n,hn⟩:∃ n,n=num xs:=⟨_,rfl⟩
     have hpos:na=true→0<n:=fun h=>by subst h; rw[hn]; exact sright_pos r1
     have EV:=lH (show smallZ na xs=if fitsI (if na=true then -(n:Int) else (n:Int)) then ((if na=true then -(n:Int) else (n:Int)),0) else (0,4) by rw[smallZ,if_pos r1,sval,hn])
     rw[← hn] at hlt
     have HE:=lH (show uintD xs=(n,0) by rw[EU.out,hn])
     clear r1 hr hl eu EU hn
     cases na
     · by_cases hf:n≤9223372036854775807
       · have EX:=lH (show smallZ false xs=((n:Int),0) by rw[EV.out,if_pos (by unfold fitsI; simp <;> omega)]; simp)
         have hz:decide ((9223372036854775808:Int)≤(n:Int))=false:=by rw[decide_eq_false_iff_not]; omega
         clear EV hpos
         go_enter Tryz.func58,Tryz.ntmps58
         go_wp2_with fail
         rw[← HW.out]
         go_wp2_with (first
          | (go_at_call 88; (with_reducible refine (right_any (.slice A0 xs.length c0) false xs _ (H.out.since (hS0.trans hK)) (by have:=LL.out; omega)).mono ?_); rw[R1.out]; rintro e w1 ⟨rfl,h1⟩; have hK:=hK.trans h1; obtain⟨k0,k1⟩:=hold.out _ hK)
          | (go_at_call 89; (with_reducible refine (Ref02.uint_any (.slice A0 xs.length c0) xs _ (H.out.since (hS0.trans hK)) (by have:=LL.out; omega)).mono ?_); rw[HE.out]; rintro e w2 ⟨rfl,h2⟩; have hK:=hK.trans h2; obtain⟨k0,k1⟩:=hold.out _ hK))
         go_ret2
         exact⟨by rw[EX.out]; go_num,hS0.trans hK⟩
       · have EX:=lH (show smallZ false xs=(0,4) by rw[EV.out,if_neg (by unfold fitsI; simp <;> omega)])
         have hz:decide ((9223372036854775808:Int)≤(n:Int))=true:=by rw[decide_eq_true_iff]; omega
         clear EV hpos
         go_enter Tryz.func58,Tryz.ntmps58
         go_wp2_with fail
         rw[← HW.out]
         go_wp2_with (first
          | (go_at_call 88; (with_reducible refine (right_any (.slice A0 xs.length c0) false xs _ (H.out.since (hS0.trans hK)) (by have:=LL.out; omega)).mono ?_); rw[R1.out]; rintro e w1 ⟨rfl,h1⟩; have hK:=hK.trans h1; obtain⟨k0,k1⟩:=hold.out _ hK)
          | (go_at_call 89; (with_reducible refine (Ref02.uint_any (.slice A0 xs.length c0) xs _ (H.out.since (hS0.trans hK)) (by have:=LL.out; omega)).mono ?_); rw[HE.out]; rintro e w2 ⟨rfl,h2⟩; have hK:=hK.trans h2; obtain⟨k0,k1⟩:=hold.out _ hK))
         go_ret2
         exact⟨by rw[EX.out]; rfl,hS0.trans hK⟩
     · have hpos:=hpos rfl
       by_cases hf:n≤9223372036854775808
       · have EX:=lH (show smallZ true xs=(-(n:Int),0) by rw[EV.out,if_pos (by unfold fitsI; simp <;> omega)]; simp)
         clear EV
         go_enter Tryz.func58,Tryz.ntmps58
         go_wp2_with fail
         rw[← HW.out]
         go_wp2_with (first
          | (go_at_call 88; (with_reducible refine (right_any (.slice A0 xs.length c0) true xs _ (H.out.since (hS0.trans hK)) (by have:=LL.out; omega)).mono ?_); rw[R1.out]; rintro e w1 ⟨rfl,h1⟩; have hK:=hK.trans h1; obtain⟨k0,k1⟩:=hold.out _ hK)
          | (go_at_call 89; (with_reducible refine (Ref02.uint_any (.slice A0 xs.length c0) xs _ (H.out.since (hS0.trans hK)) (by have:=LL.out; omega)).mono ?_); rw[HE.out]; rintro e w2 ⟨rfl,h2⟩; have hK:=hK.trans h2; obtain⟨k0,k1⟩:=hold.out _ hK))
         go_ret2
         exact⟨by rw[EX.out]; go_num,hS0.trans hK⟩
       · have EX:=lH (show smallZ true xs=(0,4) by rw[EV.out,if_neg (by unfold fitsI; simp <;> omega)])
         clear EV
         go_enter Tryz.func58,Tryz.ntmps58
         go_wp2_with fail
         rw[← HW.out]
         go_wp2_with (first
          | (go_at_call 88; (with_reducible refine (right_any (.slice A0 xs.length c0) true xs _ (H.out.since (hS0.trans hK)) (by have:=LL.out; omega)).mono ?_); rw[R1.out]; rintro e w1 ⟨rfl,h1⟩; have hK:=hK.trans h1; obtain⟨k0,k1⟩:=hold.out _ hK)
          | (go_at_call 89; (with_reducible refine (Ref02.uint_any (.slice A0 xs.length c0) xs _ (H.out.since (hS0.trans hK)) (by have:=LL.out; omega)).mono ?_); rw[HE.out]; rintro e w2 ⟨rfl,h2⟩; have hK:=hK.trans h2; obtain⟨k0,k1⟩:=hold.out _ hK))
         go_ret2
         exact⟨by rw[EX.out]; rfl,hS0.trans hK⟩
 · have R1:=lH (show srightB na xs=false by simpa using r1)
   have EV:=lH (show smallZ na xs=(0,2) by rw[smallZ,if_neg r1])
   clear r1
   go_enter Tryz.func58,Tryz.ntmps58
   go_wp2_with fail
   rw[← HW.out]
   go_wp2_with (first
    | (go_at_call 88; (with_reducible refine (right_any (.slice A0 xs.length c0) na xs _ (H.out.since (hS0.trans hK)) (by have:=LL.out; omega)).mono ?_); rw[R1.out]; rintro e w1 ⟨rfl,h1⟩; have hK:=hK.trans h1; obtain⟨k0,k1⟩:=hold.out _ hK))
   go_ret2
   exact⟨by rw[EV.out]; rfl,hS0.trans hK⟩
end Go.Proofs.YtjmmcnldfkjebaaGreatDoor.Ref03
end
