/- The document's own layer 7: the text of any item. -/
import Derived.Test.YtjmmcnldfkjebaaGreatDoorJy
set_option maxHeartbeats 4000000
set_option maxRecDepth 20000
namespace Go.Proofs.YtjmmcnldfkjebaaGreatDoor.Doc7
open Go.RowKit
set_option linter.unusedVariables false
set_option linter.unusedSimpArgs false
open Dig Lx Tk Ps Ti Sh Law07
open Pge
theorem text1 (w:World) (nm:ByteArray) (bo:Bool) (sz:Int) (ou:Bool) (ak:Int) (A1 A2:Option Addr) (p m c1 c2:Nat) (K Q:ByteArray) (hK:K.size≤4) (hnm:nm.size≤10000) (hQ:Q.size≤200000000) (hKI:(∀ W,Since w W→Calls Tryz.prog 46 #[.bool bo] W fun e w'=>e = .returned (.string K)∧Since W w')) (hLI:(∀ W,Since w W→Calls Tryz.prog 47 #[.slice A2 m c2] W fun e w'=>e = .returned (.string Q)∧Since W w')) :
 Calls Tryz.prog 26 #[.agg #[.int .i64 1,.string nm,.bool bo,.slice A1 p c1,.int .i64 sz,.bool ou,.slice A2 m c2,.int .i64 ak]] w fun e w'=>e = .returned (.string (K++(⟨#[58,32]⟩:ByteArray)++nm++(⟨#[32,61,32]⟩:ByteArray)++Q++(⟨#[59]⟩:ByteArray)))∧Since w w':=by
 have HS:=lH (sA w (.cells #[.int .i64 1,.string nm,.bool bo,.slice A1 p c1,.int .i64 sz,.bool ou,.slice A2 m c2,.int .i64 ak] 28))
 have HX:=lH (fun W (k:Since (w.alloc (.cells #[.int .i64 1,.string nm,.bool bo,.slice A1 p c1,.int .i64 sz,.bool ou,.slice A2 m c2,.int .i64 ak] 28)) W)=>(Bx.fresh w #[.int .i64 1,.string nm,.bool bo,.slice A1 p c1,.int .i64 sz,.bool ou,.slice A2 m c2,.int .i64 ak] 28).since k)
 obtain⟨g0,g1,g2,g3,g4,g5,g6,g7⟩:=bx8 (HX.out _ (Since.refl _))
 have gg0:¬ (9223372036854775807<K.size+2):=by omega
 have gg1:¬ (9223372036854775807<K.size+2+nm.size):=by omega
 have gg2:¬ (9223372036854775807<K.size+2+nm.size+3):=by omega
 have gg3:¬ (9223372036854775807<K.size+2+nm.size+3+Q.size):=by omega
 have gg4:¬ (9223372036854775807<K.size+2+nm.size+3+Q.size+1):=by omega
 have KI:=lH hKI
 have LI:=lH hLI
 clear hKI hLI
 go_enter Tryz.func26,Tryz.ntmps26
 go_wp2
 have HQ:=lH (fun W (k:Since (w.alloc (.cells #[.int .i64 1,.string nm,.bool bo,.slice A1 p c1,.int .i64 sz,.bool ou,.slice A2 m c2,.int .i64 ak] 28)) W)=>(show W.cell? ⟨w.heap.size,0,none⟩=some (.int .i64 1)∧W.cell? ⟨w.heap.size,1,none⟩=some (.string nm)∧W.cell? ⟨w.heap.size,2,none⟩=some (.bool bo)∧W.cell? ⟨w.heap.size,3,none⟩=some (.slice A1 p c1)∧W.cell? ⟨w.heap.size,4,none⟩=some (.int .i64 sz)∧W.cell? ⟨w.heap.size,5,none⟩=some (.bool ou)∧W.cell? ⟨w.heap.size,6,none⟩=some (.slice A2 m c2)∧W.cell? ⟨w.heap.size,7,none⟩=some (.int .i64 ak) from bx8 (HX.out W k)))
 clear g0 g1 g2 g3 g4 g5 g6 g7
 go_region_held3 (fun W=>W.cell? ⟨w.heap.size,0,none⟩=some (.int .i64 1)∧W.cell? ⟨w.heap.size,1,none⟩=some (.string nm)∧W.cell? ⟨w.heap.size,2,none⟩=some (.bool bo)∧W.cell? ⟨w.heap.size,3,none⟩=some (.slice A1 p c1)∧W.cell? ⟨w.heap.size,4,none⟩=some (.int .i64 sz)∧W.cell? ⟨w.heap.size,5,none⟩=some (.bool ou)∧W.cell? ⟨w.heap.size,6,none⟩=some (.slice A2 m c2)∧W.cell? ⟨w.heap.size,7,none⟩=some (.int .i64 ak))
  (first | with_reducible exact HQ.out _ kd2 | with_reducible exact HQ.out _ kd1 | with_reducible exact HQ.out _ (Since.drew (Since.refl _)))
  (first
   | (go_at_call 46; (with_reducible refine (KI.out _ (HS.out.trans (Since.drew (Since.refl _)))).mono ?_); rintro e w1 ⟨rfl,h1⟩; have kd1:=(Since.drew (Since.refl _)).trans h1)
   | (go_at_call 47; (with_reducible refine (LI.out _ (HS.out.trans kd1)).mono ?_); rintro e w2 ⟨rfl,h2⟩; have kd2:=kd1.trans h2))
 all_goals go_wp2
 all_goals go_ret
 all_goals exact⟨rfl,HS.out.trans kd2⟩
theorem text5 (w:World) (nm:ByteArray) (bo:Bool) (sz:Int) (ou:Bool) (ak:Int) (A1 A2:Option Addr) (p m c1 c2:Nat) (Q:ByteArray) (hnm:nm.size≤10000) (hQ:Q.size≤2000000000000) (hAR:(∀ W,Since w W→Calls Tryz.prog 50 #[.slice A2 m c2] W fun e w'=>e = .returned (.string Q)∧Since W w')) :
 Calls Tryz.prog 26 #[.agg #[.int .i64 5,.string nm,.bool bo,.slice A1 p c1,.int .i64 sz,.bool ou,.slice A2 m c2,.int .i64 ak]] w fun e w'=>e = .returned (.string ((⟨#[99,111,110,115,116,114,97,105,110,116,32]⟩:ByteArray)++nm++(⟨#[40]⟩:ByteArray)++Q++(⟨#[41,59]⟩:ByteArray)))∧Since w w':=by
 have HS:=lH (sA w (.cells #[.int .i64 5,.string nm,.bool bo,.slice A1 p c1,.int .i64 sz,.bool ou,.slice A2 m c2,.int .i64 ak] 28))
 have HX:=lH (fun W (k:Since (w.alloc (.cells #[.int .i64 5,.string nm,.bool bo,.slice A1 p c1,.int .i64 sz,.bool ou,.slice A2 m c2,.int .i64 ak] 28)) W)=>(Bx.fresh w #[.int .i64 5,.string nm,.bool bo,.slice A1 p c1,.int .i64 sz,.bool ou,.slice A2 m c2,.int .i64 ak] 28).since k)
 obtain⟨g0,g1,g2,g3,g4,g5,g6,g7⟩:=bx8 (HX.out _ (Since.refl _))
 have gg0:¬ (9223372036854775807<11+nm.size):=by omega
 have gg1:¬ (9223372036854775807<11+nm.size+1):=by omega
 have gg2:¬ (9223372036854775807<11+nm.size+1+Q.size):=by omega
 have gg3:¬ (9223372036854775807<11+nm.size+1+Q.size+2):=by omega
 have AR:=lH hAR
 clear hAR
 go_enter Tryz.func26,Tryz.ntmps26
 go_wp2
 have HQ:=lH (fun W (k:Since (w.alloc (.cells #[.int .i64 5,.string nm,.bool bo,.slice A1 p c1,.int .i64 sz,.bool ou,.slice A2 m c2,.int .i64 ak] 28)) W)=>(show W.cell? ⟨w.heap.size,0,none⟩=some (.int .i64 5)∧W.cell? ⟨w.heap.size,1,none⟩=some (.string nm)∧W.cell? ⟨w.heap.size,2,none⟩=some (.bool bo)∧W.cell? ⟨w.heap.size,3,none⟩=some (.slice A1 p c1)∧W.cell? ⟨w.heap.size,4,none⟩=some (.int .i64 sz)∧W.cell? ⟨w.heap.size,5,none⟩=some (.bool ou)∧W.cell? ⟨w.heap.size,6,none⟩=some (.slice A2 m c2)∧W.cell? ⟨w.heap.size,7,none⟩=some (.int .i64 ak) from bx8 (HX.out W k)))
 clear g0 g1 g2 g3 g4 g5 g6 g7
 go_region_held3 (fun W=>W.cell? ⟨w.heap.size,0,none⟩=some (.int .i64 5)∧W.cell? ⟨w.heap.size,1,none⟩=some (.string nm)∧W.cell? ⟨w.heap.size,2,none⟩=some (.bool bo)∧W.cell? ⟨w.heap.size,3,none⟩=some (.slice A1 p c1)∧W.cell? ⟨w.heap.size,4,none⟩=some (.int .i64 sz)∧W.cell? ⟨w.heap.size,5,none⟩=some (.bool ou)∧W.cell? ⟨w.heap.size,6,none⟩=some (.slice A2 m c2)∧W.cell? ⟨w.heap.size,7,none⟩=some (.int .i64 ak))
  (first | with_reducible exact HQ.out _ kd1 | with_reducible exact HQ.out _ (Since.drew (Since.refl _)))
  (first
   | (go_at_call 50; (with_reducible refine (AR.out _ (HS.out.trans (Since.drew (Since.refl _)))).mono ?_); rintro e w1 ⟨rfl,h1⟩; have kd1:=(Since.drew (Since.refl _)).trans h1))
 all_goals go_wp2
 all_goals go_ret
 all_goals exact⟨rfl,HS.out.trans kd1⟩
theorem text2 (w:World) (nm:ByteArray) (bo:Bool) (sz:Int) (ou:Bool) (ak:Int) (A1 A2:Option Addr) (p m c1 c2:Nat) (S:ByteArray) (hVA:(∀ W,Since w W→Calls Tryz.prog 48 #[.agg #[.int .i64 2,.string nm,.bool bo,.slice A1 p c1,.int .i64 sz,.bool ou,.slice A2 m c2,.int .i64 ak]] W fun e w'=>e = .returned (.string S)∧Since W w')) :
 Calls Tryz.prog 26 #[.agg #[.int .i64 2,.string nm,.bool bo,.slice A1 p c1,.int .i64 sz,.bool ou,.slice A2 m c2,.int .i64 ak]] w fun e w'=>e = .returned (.string (S))∧Since w w':=by
 have HS:=lH (sA w (.cells #[.int .i64 2,.string nm,.bool bo,.slice A1 p c1,.int .i64 sz,.bool ou,.slice A2 m c2,.int .i64 ak] 28))
 have HX:=lH (fun W (k:Since (w.alloc (.cells #[.int .i64 2,.string nm,.bool bo,.slice A1 p c1,.int .i64 sz,.bool ou,.slice A2 m c2,.int .i64 ak] 28)) W)=>(Bx.fresh w #[.int .i64 2,.string nm,.bool bo,.slice A1 p c1,.int .i64 sz,.bool ou,.slice A2 m c2,.int .i64 ak] 28).since k)
 obtain⟨g0,g1,g2,g3,g4,g5,g6,g7⟩:=bx8 (HX.out _ (Since.refl _))
 have VA:=lH hVA
 clear hVA
 go_enter Tryz.func26,Tryz.ntmps26
 go_wp2_with (go_at_call 48; (with_reducible refine (VA.out _ HS.out).mono ?_); rintro e w1 ⟨rfl,h1⟩)
 go_ret
 exact⟨rfl,HS.out.trans h1⟩
theorem text3 (w:World) (nm:ByteArray) (bo:Bool) (sz:Int) (ou:Bool) (ak:Int) (A1 A2:Option Addr) (p m c1 c2:Nat) (S:ByteArray) (hVA:(∀ W,Since w W→Calls Tryz.prog 49 #[.agg #[.int .i64 3,.string nm,.bool bo,.slice A1 p c1,.int .i64 sz,.bool ou,.slice A2 m c2,.int .i64 ak]] W fun e w'=>e = .returned (.string S)∧Since W w')) :
 Calls Tryz.prog 26 #[.agg #[.int .i64 3,.string nm,.bool bo,.slice A1 p c1,.int .i64 sz,.bool ou,.slice A2 m c2,.int .i64 ak]] w fun e w'=>e = .returned (.string (S))∧Since w w':=by
 have HS:=lH (sA w (.cells #[.int .i64 3,.string nm,.bool bo,.slice A1 p c1,.int .i64 sz,.bool ou,.slice A2 m c2,.int .i64 ak] 28))
 have HX:=lH (fun W (k:Since (w.alloc (.cells #[.int .i64 3,.string nm,.bool bo,.slice A1 p c1,.int .i64 sz,.bool ou,.slice A2 m c2,.int .i64 ak] 28)) W)=>(Bx.fresh w #[.int .i64 3,.string nm,.bool bo,.slice A1 p c1,.int .i64 sz,.bool ou,.slice A2 m c2,.int .i64 ak] 28).since k)
 obtain⟨g0,g1,g2,g3,g4,g5,g6,g7⟩:=bx8 (HX.out _ (Since.refl _))
 have VA:=lH hVA
 clear hVA
 go_enter Tryz.func26,Tryz.ntmps26
 go_wp2_with (go_at_call 49; (with_reducible refine (VA.out _ HS.out).mono ?_); rintro e w1 ⟨rfl,h1⟩)
 go_ret
 exact⟨rfl,HS.out.trans h1⟩
theorem text4 (w:World) (nm:ByteArray) (bo:Bool) (sz:Int) (ou:Bool) (ak:Int) (A1 A2:Option Addr) (p m c1 c2:Nat) (S:ByteArray) (hVA:(∀ W,Since w W→Calls Tryz.prog 49 #[.agg #[.int .i64 4,.string nm,.bool bo,.slice A1 p c1,.int .i64 sz,.bool ou,.slice A2 m c2,.int .i64 ak]] W fun e w'=>e = .returned (.string S)∧Since W w')) :
 Calls Tryz.prog 26 #[.agg #[.int .i64 4,.string nm,.bool bo,.slice A1 p c1,.int .i64 sz,.bool ou,.slice A2 m c2,.int .i64 ak]] w fun e w'=>e = .returned (.string (S))∧Since w w':=by
 have HS:=lH (sA w (.cells #[.int .i64 4,.string nm,.bool bo,.slice A1 p c1,.int .i64 sz,.bool ou,.slice A2 m c2,.int .i64 ak] 28))
 have HX:=lH (fun W (k:Since (w.alloc (.cells #[.int .i64 4,.string nm,.bool bo,.slice A1 p c1,.int .i64 sz,.bool ou,.slice A2 m c2,.int .i64 ak] 28)) W)=>(Bx.fresh w #[.int .i64 4,.string nm,.bool bo,.slice A1 p c1,.int .i64 sz,.bool ou,.slice A2 m c2,.int .i64 ak] 28).since k)
 obtain⟨g0,g1,g2,g3,g4,g5,g6,g7⟩:=bx8 (HX.out _ (Since.refl _))
 have VA:=lH hVA
 clear hVA
 go_enter Tryz.func26,Tryz.ntmps26
 go_wp2_with (go_at_call 49; (with_reducible refine (VA.out _ HS.out).mono ?_); rintro e w1 ⟨rfl,h1⟩)
 go_ret
 exact⟨rfl,HS.out.trans h1⟩
theorem ask0 (w:World) (ki:Int) (nm:ByteArray) (bo:Bool) (sz:Int) (ou:Bool) (A1 A2:Option Addr) (p m c1 c2:Nat)  (h1:ki≠1) (h2:ki≠2) (h3:ki≠3) (h4:ki≠4) (h5:ki≠5) :
 Calls Tryz.prog 26 #[.agg #[.int .i64 ki,.string nm,.bool bo,.slice A1 p c1,.int .i64 sz,.bool ou,.slice A2 m c2,.int .i64 0]] w fun e w'=>e = .returned (.string ((⟨#[115,111,108,118,101,32,115,97,116,105,115,102,121,59]⟩:ByteArray)))∧Since w w':=by
 have z1:(ki == 1)=false:=by rw[beq_eq_false_iff_ne]; exact h1
 have z2:(ki == 2)=false:=by rw[beq_eq_false_iff_ne]; exact h2
 have z3:(ki == 3)=false:=by rw[beq_eq_false_iff_ne]; exact h3
 have z4:(ki == 4)=false:=by rw[beq_eq_false_iff_ne]; exact h4
 have z5:(ki == 5)=false:=by rw[beq_eq_false_iff_ne]; exact h5
 clear h1 h2 h3 h4 h5
 have HS:=lH (sA w (.cells #[.int .i64 ki,.string nm,.bool bo,.slice A1 p c1,.int .i64 sz,.bool ou,.slice A2 m c2,.int .i64 0] 28))
 have HX:=lH (fun W (k:Since (w.alloc (.cells #[.int .i64 ki,.string nm,.bool bo,.slice A1 p c1,.int .i64 sz,.bool ou,.slice A2 m c2,.int .i64 0] 28)) W)=>(Bx.fresh w #[.int .i64 ki,.string nm,.bool bo,.slice A1 p c1,.int .i64 sz,.bool ou,.slice A2 m c2,.int .i64 0] 28).since k)
 obtain⟨g0,g1,g2,g3,g4,g5,g6,g7⟩:=bx8 (HX.out _ (Since.refl _))
 go_enter Tryz.func26,Tryz.ntmps26
 go_wp2
 go_ret
 exact⟨rfl,HS.out⟩
theorem ask1 (w:World) (ki:Int) (nm:ByteArray) (bo:Bool) (sz:Int) (ou:Bool) (A1 A2:Option Addr) (p m c1 c2:Nat) (hnm:nm.size≤10000) (h1:ki≠1) (h2:ki≠2) (h3:ki≠3) (h4:ki≠4) (h5:ki≠5) :
 Calls Tryz.prog 26 #[.agg #[.int .i64 ki,.string nm,.bool bo,.slice A1 p c1,.int .i64 sz,.bool ou,.slice A2 m c2,.int .i64 1]] w fun e w'=>e = .returned (.string ((⟨#[115,111,108,118,101,32,109,105,110,105,109,105,122,101,32]⟩:ByteArray)++nm++(⟨#[59]⟩:ByteArray)))∧Since w w':=by
 have z1:(ki == 1)=false:=by rw[beq_eq_false_iff_ne]; exact h1
 have z2:(ki == 2)=false:=by rw[beq_eq_false_iff_ne]; exact h2
 have z3:(ki == 3)=false:=by rw[beq_eq_false_iff_ne]; exact h3
 have z4:(ki == 4)=false:=by rw[beq_eq_false_iff_ne]; exact h4
 have z5:(ki == 5)=false:=by rw[beq_eq_false_iff_ne]; exact h5
 have gg0:¬ (9223372036854775807<15+nm.size):=by omega
 have gg1:¬ (9223372036854775807<15+nm.size+1):=by omega
 clear h1 h2 h3 h4 h5
 have HS:=lH (sA w (.cells #[.int .i64 ki,.string nm,.bool bo,.slice A1 p c1,.int .i64 sz,.bool ou,.slice A2 m c2,.int .i64 1] 28))
 have HX:=lH (fun W (k:Since (w.alloc (.cells #[.int .i64 ki,.string nm,.bool bo,.slice A1 p c1,.int .i64 sz,.bool ou,.slice A2 m c2,.int .i64 1] 28)) W)=>(Bx.fresh w #[.int .i64 ki,.string nm,.bool bo,.slice A1 p c1,.int .i64 sz,.bool ou,.slice A2 m c2,.int .i64 1] 28).since k)
 obtain⟨g0,g1,g2,g3,g4,g5,g6,g7⟩:=bx8 (HX.out _ (Since.refl _))
 go_enter Tryz.func26,Tryz.ntmps26
 go_wp2
 go_ret
 exact⟨rfl,HS.out⟩
theorem ask2 (w:World) (ki:Int) (nm:ByteArray) (bo:Bool) (sz:Int) (ou:Bool) (ak:Int) (A1 A2:Option Addr) (p m c1 c2:Nat) (hnm:nm.size≤10000) (g0:ak≠0) (g1:ak≠1) (h1:ki≠1) (h2:ki≠2) (h3:ki≠3) (h4:ki≠4) (h5:ki≠5) :
 Calls Tryz.prog 26 #[.agg #[.int .i64 ki,.string nm,.bool bo,.slice A1 p c1,.int .i64 sz,.bool ou,.slice A2 m c2,.int .i64 ak]] w fun e w'=>e = .returned (.string ((⟨#[115,111,108,118,101,32,109,97,120,105,109,105,122,101,32]⟩:ByteArray)++nm++(⟨#[59]⟩:ByteArray)))∧Since w w':=by
 have za:(ak == 0)=false:=by rw[beq_eq_false_iff_ne]; exact g0
 have zb:(ak == 1)=false:=by rw[beq_eq_false_iff_ne]; exact g1
 have z1:(ki == 1)=false:=by rw[beq_eq_false_iff_ne]; exact h1
 have z2:(ki == 2)=false:=by rw[beq_eq_false_iff_ne]; exact h2
 have z3:(ki == 3)=false:=by rw[beq_eq_false_iff_ne]; exact h3
 have z4:(ki == 4)=false:=by rw[beq_eq_false_iff_ne]; exact h4
 have z5:(ki == 5)=false:=by rw[beq_eq_false_iff_ne]; exact h5
 have gg0:¬ (9223372036854775807<15+nm.size):=by omega
 have gg1:¬ (9223372036854775807<15+nm.size+1):=by omega
 clear h1 h2 h3 h4 h5 g0 g1
 have HS:=lH (sA w (.cells #[.int .i64 ki,.string nm,.bool bo,.slice A1 p c1,.int .i64 sz,.bool ou,.slice A2 m c2,.int .i64 ak] 28))
 have HX:=lH (fun W (k:Since (w.alloc (.cells #[.int .i64 ki,.string nm,.bool bo,.slice A1 p c1,.int .i64 sz,.bool ou,.slice A2 m c2,.int .i64 ak] 28)) W)=>(Bx.fresh w #[.int .i64 ki,.string nm,.bool bo,.slice A1 p c1,.int .i64 sz,.bool ou,.slice A2 m c2,.int .i64 ak] 28).since k)
 obtain⟨g0,g1,g2,g3,g4,g5,g6,g7⟩:=bx8 (HX.out _ (Since.refl _))
 go_enter Tryz.func26,Tryz.ntmps26
 go_wp2
 go_ret
 exact⟨rfl,HS.out⟩
def xR (x:Xq):ByteArray:=plainR x.k x.n x.s
def frontR (x:Iq):ByteArray:=(⟨#[118,97,114,32]⟩:ByteArray)++domR x.bool x.dom++(⟨#[58,32]⟩:ByteArray)++x.name
def varR (x:Iq):ByteArray:=
 match x.out,x.vals with
 | false,[]=>frontR x++(⟨#[59]⟩:ByteArray)
 | false,v :: _=>frontR x++(⟨#[32,61,32]⟩:ByteArray)++xR v++(⟨#[59]⟩:ByteArray)
 | true,[]=>frontR x++(⟨#[32,58,58,32,111,117,116,112,117,116,95,118,97,114]⟩:ByteArray)++(⟨#[59]⟩:ByteArray)
 | true,v :: _=>frontR x++(⟨#[32,58,58,32,111,117,116,112,117,116,95,118,97,114]⟩:ByteArray)++(⟨#[32,61,32]⟩:ByteArray)++xR v++(⟨#[59]⟩:ByteArray)
def listR (x:Iq):ByteArray:=rowB kR 0 (x.vals.map kX)
def headR (x:Iq):ByteArray:=if x.kind=4 then (⟨#[97,114,114,97,121,32,91,49,46,46]⟩:ByteArray)++itoaB x.size++(⟨#[93,32,111,102,32]⟩:ByteArray)++(⟨#[118,97,114,32]⟩:ByteArray) else (⟨#[97,114,114,97,121,32,91,49,46,46]⟩:ByteArray)++itoaB x.size++(⟨#[93,32,111,102,32]⟩:ByteArray)
def arrR (x:Iq):ByteArray:=
 if x.out=true then headR x++kindB x.bool++(⟨#[58,32]⟩:ByteArray)++x.name++(⟨#[32,58,58,32,111,117,116,112,117,116,95,97,114,114,97,121,40,91,49,46,46]⟩:ByteArray)++itoaB x.size++(⟨#[93,41]⟩:ByteArray)++(⟨#[32,61,32,91]⟩:ByteArray)++listR x++(⟨#[93,59]⟩:ByteArray)
 else headR x++kindB x.bool++(⟨#[58,32]⟩:ByteArray)++x.name++(⟨#[32,61,32,91]⟩:ByteArray)++listR x++(⟨#[93,59]⟩:ByteArray)
def textR (x:Iq):ByteArray:=
 if x.kind=1 then kindB x.bool++(⟨#[58,32]⟩:ByteArray)++x.name++(⟨#[32,61,32]⟩:ByteArray)++listR x++(⟨#[59]⟩:ByteArray)
 else if x.kind=2 then varR x else if x.kind=3∨x.kind=4 then arrR x
 else if x.kind=5 then (⟨#[99,111,110,115,116,114,97,105,110,116,32]⟩:ByteArray)++x.name++(⟨#[40]⟩:ByteArray)++rowB aR 0 x.vals++(⟨#[41,59]⟩:ByteArray)
 else if x.ask=0 then (⟨#[115,111,108,118,101,32,115,97,116,105,115,102,121,59]⟩:ByteArray) else if x.ask=1 then (⟨#[115,111,108,118,101,32,109,105,110,105,109,105,122,101,32]⟩:ByteArray)++x.name++(⟨#[59]⟩:ByteArray) else (⟨#[115,111,108,118,101,32,109,97,120,105,109,105,122,101,32]⟩:ByteArray)++x.name++(⟨#[59]⟩:ByteArray)
theorem domR_size {b:Bool} {d:List (Int × Int)} (hl:d.length≤10000) (hb:∀ z ∈ d,BdR z):(domR b d).size≤300000:=by
 unfold domR
 split
 · decide
 · by_cases h1:d.length=1
   · obtain⟨⟨lo,hi⟩,rfl⟩:=List.length_eq_one_iff.1 h1
     have hz:=hb (lo,hi) (by simp)
     have s1:(itoaB lo).size≤21:=itoa_size hz.1
     have s2:(itoaB hi).size≤21:=itoa_size hz.2
     show (itoaB lo++(⟨#[46,46]⟩:ByteArray)++itoaB hi).size≤_
     rw[ByteArray.size_append,ByteArray.size_append]
     show (itoaB lo).size+2+(itoaB hi).size≤_
     omega
   · rw[domB_many h1,ByteArray.size_append,ByteArray.size_append]
     have h2:=row_size loR 21 d 0 (fun z hz=>itoa_size (hb z hz).1)
     show 1+(rowB loR 0 d).size+1≤_
     omega
theorem listR_size {x:Iq} (hb:BoJ x):(listR x).size≤200000000:=by
 have h2:=row_size kR 10000 (x.vals.map kX) 0 (fun y hy=>by
  obtain⟨v,hv,rfl⟩:=List.mem_map.1 hy
  exact plainR_size (hb.2.2.2.1 v hv).2.2.2 (hb.2.2.2.1 v hv).1)
 rw[List.length_map] at h2
 have:=hb.2.2.1
 unfold listR
 omega
theorem argsR_size {x:Iq} (hb:BoJ x):(rowB aR 0 x.vals).size≤2000000000000:=by
 have h2:=row_size aR 100020002 x.vals 0 (fun v hv=>by
  have hv2:=hb.2.2.2.1 v hv
  unfold aR
  split
  · rw[ByteArray.size_append,ByteArray.size_append]
    have:=rowP_size hv2
    show 1+(rowB kR 0 (v.l.map kP)).size+1≤_
    omega
  · have:=plainR_size (k:=v.k) hv2.2.2.2 hv2.1
    omega)
 have:=hb.2.2.1
 omega
theorem kindB_size (b:Bool):(kindB b).size≤4:=by cases b <;> decide
theorem boX_list {x:Iq} (hb:BoJ x):∀ y ∈ x.vals.map kX,BoK y:=by
 intro y hy
 obtain⟨v,hv,rfl⟩:=List.mem_map.1 hy
 exact⟨(hb.2.2.2.1 v hv).1,(hb.2.2.2.1 v hv).2.2.2⟩
theorem text_any (x:Iq) (u:Array Value) (w:World) (ht:TabIn w) (ha:ArgI w x u) (hb:BoJ x) :
 Calls Tryz.prog 26 #[.agg u] w fun e w'=>e = .returned (.string (textR x))∧Since w w':=by
 obtain⟨A1,c1,A2,c2,rfl,hd,hv⟩:=ha
 have hb':=hb
 obtain⟨hnm,hdl,hvl,hbx,hbr,hsz⟩:=hb'
 have HL:∀ W,Since w W→Calls Tryz.prog 47 #[.slice A2 x.vals.length c2] W fun e w'=>e = .returned (.string (listR x))∧Since W w':=fun W k=>list_any _ (x.vals.map kX) W (ht.since k) (sl_kX (hv.since (stXq _) k)) (by rw[List.length_map]; exact hvl) (boX_list hb)
 have HK:∀ W,Since w W→Calls Tryz.prog 46 #[.bool x.bool] W fun e w'=>e = .returned (.string (kindB x.bool))∧Since W w':=fun W k=>kind_any x.bool W
 have HN:∀ W,Since w W→Calls Tryz.prog 81 #[.int .i64 x.size] W fun e w'=>e = .returned (.string (itoaB x.size))∧Since W w':=fun W k=>num_any x.size hsz W (ht.since k)
 have hls:=listR_size hb
 by_cases h1:x.kind=1
 · rw[h1,textR,if_pos h1]
   exact text1 w x.name x.bool x.size x.out x.ask A1 A2 _ _ c1 c2 _ _ (kindB_size _) hnm hls HK HL
 by_cases h2:x.kind=2
 · have HD:∀ ki ou A2 m c2 W,Since w W→Calls Tryz.prog 80 #[.agg #[.int .i64 ki,.string x.name,.bool x.bool,.slice A1 x.dom.length c1,.int .i64 x.size,.bool ou,.slice A2 m c2,.int .i64 x.ask]] W fun e w'=>e = .returned (.string (domR x.bool x.dom))∧Since W w':=
    fun ki ou A2 m c2 W k=>dom_any ki x.name x.bool x.size ou x.ask A1 A2 m c1 c2 x.dom W (ht.since k) hdl hbr (hd.since stR k)
   have hds:=domR_size (b:=x.bool) hdl hbr
   rw[textR,if_neg h1,if_pos h2,h2]
   refine text2 w x.name x.bool x.size x.out x.ask A1 A2 _ _ c1 c2 _ (fun W k => ?_)
   have hkk:=k
   cases hvs:x.vals with
   | nil =>
    cases hou:x.out with
    | false =>
     rw[show varR x=frontR x++(⟨#[59]⟩:ByteArray) by unfold varR; rw[hou,hvs]]
     exact var00 W 2 x.name x.bool x.size x.ask A1 A2 _ c1 c2 _ nos hds hnm (by decide) (fun W2 k2=>HD _ _ _ _ _ W2 (k.trans k2))
    | true =>
     rw[show varR x=frontR x++(⟨#[32,58,58,32,111,117,116,112,117,116,95,118,97,114]⟩:ByteArray)++(⟨#[59]⟩:ByteArray) by unfold varR; rw[hou,hvs]]
     exact var10 W 2 x.name x.bool x.size x.ask A1 A2 _ c1 c2 _ nos hds hnm (by decide) (fun W2 k2=>HD _ _ _ _ _ W2 (k.trans k2))
   | cons v r =>
    have hl0:0<x.vals.length:=by rw[hvs]; exact Nat.succ_pos _
    obtain⟨b,o,A',c',rfl,-,g0,g1,g2,g3⟩:=elXq hv hl0
    have hv0:x.vals[0]=v:=by simp[hvs]
    rw[hv0] at g0 g1 g2 g3
    simp only[Nat.zero_mul,Nat.add_zero] at g0 g1 g2 g3
    have hbv:=hbx v (by rw[hvs]; simp)
    have up:∀ {W':World} {pp:Addr} {uu:Value},Since w W'→w.cell? pp=some uu→W'.cell? pp=some uu:=fun kk g=>(kk.cell _ (World.block_lt_of_cell? _ _ g)).trans g
    have HV:∀ W',Since W W'→W'.cell? ⟨b,o,none⟩=some (.int .i64 v.k)∧W'.cell? ⟨b,o+1,none⟩=some (.int .i64 v.n)∧W'.cell? ⟨b,o+2,none⟩=some (.string v.s)∧W'.cell? ⟨b,o+3,none⟩=some (.slice A' v.l.length c'):=fun W' kk=>⟨up (k.trans kk) g0,up (k.trans kk) g1,up (k.trans kk) g2,up (k.trans kk) g3⟩
    have HP:∀ W',Since W W'→Calls Tryz.prog 79 #[.agg #[.int .i64 v.k,.int .i64 v.n,.string v.s,.slice A' v.l.length c']] W' fun e w'=>e = .returned (.string (xR v))∧Since W' w':=fun W' kk=>plain_any v.k v.n v.s A' v.l.length c' W' (ht.since (k.trans kk)) hbv.2.2.2
    have hps:(xR v).size≤10000:=plainR_size hbv.2.2.2 hbv.1
    rw[hvs] at hl0
    cases hou:x.out with
    | false =>
     rw[show varR x=frontR x++(⟨#[32,61,32]⟩:ByteArray)++xR v++(⟨#[59]⟩:ByteArray) by unfold varR; rw[hou,hvs]]
     exact var01 W 2 x.name x.bool x.size x.ask A1 b o _ _ c1 c2 _ _ hds hnm hps hl0 _ _ _ _ _ _ HV HP (fun W2 k2=>HD _ _ _ _ _ W2 (k.trans k2))
    | true =>
     rw[show varR x=frontR x++(⟨#[32,58,58,32,111,117,116,112,117,116,95,118,97,114]⟩:ByteArray)++(⟨#[32,61,32]⟩:ByteArray)++xR v++(⟨#[59]⟩:ByteArray) by unfold varR; rw[hou,hvs]]
     exact var11 W 2 x.name x.bool x.size x.ask A1 b o _ _ c1 c2 _ _ hds hnm hps hl0 _ _ _ _ _ _ HV HP (fun W2 k2=>HD _ _ _ _ _ W2 (k.trans k2))
 have hns:=itoa_size hsz
 by_cases h3:x.kind=3
 · rw[textR,if_neg h1,if_neg h2,if_pos (.inl h3),h3]
   refine text3 w x.name x.bool x.size x.out x.ask A1 A2 _ _ c1 c2 _ (fun W k => ?_)
   cases hou:x.out with
   | false =>
    rw[arrR,hou,if_neg (by decide),headR,if_neg (by omega)]
    exact arr03 W x.name x.bool x.size x.ask A1 A2 _ _ c1 c2 _ _ _ hns (kindB_size _) hls hnm (fun W2 k2=>HN W2 (k.trans k2)) (fun W2 k2=>HK W2 (k.trans k2)) (fun W2 k2=>HL W2 (k.trans k2))
   | true =>
    rw[arrR,hou,if_pos rfl,headR,if_neg (by omega)]
    exact arr13 W x.name x.bool x.size x.ask A1 A2 _ _ c1 c2 _ _ _ hns (kindB_size _) hls hnm (fun W2 k2=>HN W2 (k.trans k2)) (fun W2 k2=>HK W2 (k.trans k2)) (fun W2 k2=>HL W2 (k.trans k2))
 by_cases h4:x.kind=4
 · rw[textR,if_neg h1,if_neg h2,if_pos (.inr h4)]
   have hh:headR x=(⟨#[97,114,114,97,121,32,91,49,46,46]⟩:ByteArray)++itoaB x.size++(⟨#[93,32,111,102,32]⟩:ByteArray)++(⟨#[118,97,114,32]⟩:ByteArray):=if_pos h4
   rw[h4]
   refine text4 w x.name x.bool x.size x.out x.ask A1 A2 _ _ c1 c2 _ (fun W k => ?_)
   cases hou:x.out with
   | false =>
    rw[arrR,hou,if_neg (by decide),hh]
    exact arr04 W x.name x.bool x.size x.ask A1 A2 _ _ c1 c2 _ _ _ hns (kindB_size _) hls hnm (fun W2 k2=>HN W2 (k.trans k2)) (fun W2 k2=>HK W2 (k.trans k2)) (fun W2 k2=>HL W2 (k.trans k2))
   | true =>
    rw[arrR,hou,if_pos rfl,hh]
    exact arr14 W x.name x.bool x.size x.ask A1 A2 _ _ c1 c2 _ _ _ hns (kindB_size _) hls hnm (fun W2 k2=>HN W2 (k.trans k2)) (fun W2 k2=>HK W2 (k.trans k2)) (fun W2 k2=>HL W2 (k.trans k2))
 have h34:¬ (x.kind=3∨x.kind=4):=by omega
 by_cases h5:x.kind=5
 · rw[textR,if_neg h1,if_neg h2,if_neg h34,if_pos h5,h5]
   exact text5 w x.name x.bool x.size x.out x.ask A1 A2 _ _ c1 c2 _ hnm (argsR_size hb) (fun W k=>args_any _ x.vals W (ht.since k) (hv.since (stXq _) k) hvl hbx)
 rw[textR,if_neg h1,if_neg h2,if_neg h34,if_neg h5]
 by_cases a0:x.ask=0
 · rw[if_pos a0,a0]
   exact ask0 w x.kind x.name x.bool x.size x.out A1 A2 _ _ c1 c2 h1 h2 h3 h4 h5
 by_cases a1:x.ask=1
 · rw[if_neg a0,if_pos a1,a1]
   exact ask1 w x.kind x.name x.bool x.size x.out A1 A2 _ _ c1 c2 hnm h1 h2 h3 h4 h5
 rw[if_neg a0,if_neg a1]
 exact ask2 w x.kind x.name x.bool x.size x.out x.ask A1 A2 _ _ c1 c2 hnm a0 a1 h1 h2 h3 h4 h5
end Go.Proofs.YtjmmcnldfkjebaaGreatDoor.Doc7
