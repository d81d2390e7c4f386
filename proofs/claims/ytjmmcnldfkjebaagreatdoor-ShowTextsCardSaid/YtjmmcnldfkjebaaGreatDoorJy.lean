/- The document's own layer 7: Vars, arrays and items as texts. -/
import Derived.Test.YtjmmcnldfkjebaaGreatDoorQbb
set_option maxHeartbeats 4000000
set_option maxRecDepth 20000
namespace Go.Proofs.YtjmmcnldfkjebaaGreatDoor.Doc7
open Go.RowKit
set_option linter.unusedVariables false
set_option linter.unusedSimpArgs false
open Dig Lx Tk Ps Ti Sh Law07
open Pge
theorem var00 (w:World) (ki:Int) (nm:ByteArray) (bo:Bool) (sz:Int) (ak:Int) (A1 A2:Option Addr) (p c1 c2:Nat) (D P:ByteArray) (hD:D.size≤300000) (hnm:nm.size≤10000) (hP:P.size≤10000) (hDM:(∀ W,Since w W→Calls Tryz.prog 80 #[.agg #[.int .i64 ki,.string nm,.bool bo,.slice A1 p c1,.int .i64 sz,.bool false,.slice A2 0 c2,.int .i64 ak]] W fun e w'=>e = .returned (.string D)∧Since W w')) :
 Calls Tryz.prog 48 #[.agg #[.int .i64 ki,.string nm,.bool bo,.slice A1 p c1,.int .i64 sz,.bool false,.slice A2 0 c2,.int .i64 ak]] w fun e w'=>e = .returned (.string ((⟨#[118,97,114,32]⟩:ByteArray)++D++(⟨#[58,32]⟩:ByteArray)++nm++(⟨#[59]⟩:ByteArray)))∧Since w w':=by
 have HS:=lH (sA w (.cells #[.int .i64 ki,.string nm,.bool bo,.slice A1 p c1,.int .i64 sz,.bool false,.slice A2 0 c2,.int .i64 ak] 28))
 have HX:=lH (fun W (k:Since (w.alloc (.cells #[.int .i64 ki,.string nm,.bool bo,.slice A1 p c1,.int .i64 sz,.bool false,.slice A2 0 c2,.int .i64 ak] 28)) W)=>(Bx.fresh w #[.int .i64 ki,.string nm,.bool bo,.slice A1 p c1,.int .i64 sz,.bool false,.slice A2 0 c2,.int .i64 ak] 28).since k)
 obtain⟨g0,g1,g2,g3,g4,g5,g6,g7⟩:=bx8 (HX.out _ (Since.refl _))
 have gg0:¬ (9223372036854775807<4+D.size):=by omega
 have gg1:¬ (9223372036854775807<4+D.size+2):=by omega
 have gg2:¬ (9223372036854775807<4+D.size+2+nm.size):=by omega
 have gg3:¬ (9223372036854775807<4+D.size+2+nm.size+1):=by omega
 have DM:=lH hDM
 clear hDM
 go_enter Tryz.func48,Tryz.ntmps48
 go_wp2
 have HQ:=lH (fun W (k:Since (w.alloc (.cells #[.int .i64 ki,.string nm,.bool bo,.slice A1 p c1,.int .i64 sz,.bool false,.slice A2 0 c2,.int .i64 ak] 28)) W)=>(show W.cell? ⟨w.heap.size,0,none⟩=some (.int .i64 ki)∧W.cell? ⟨w.heap.size,1,none⟩=some (.string nm)∧W.cell? ⟨w.heap.size,2,none⟩=some (.bool bo)∧W.cell? ⟨w.heap.size,3,none⟩=some (.slice A1 p c1)∧W.cell? ⟨w.heap.size,4,none⟩=some (.int .i64 sz)∧W.cell? ⟨w.heap.size,5,none⟩=some (.bool false)∧W.cell? ⟨w.heap.size,6,none⟩=some (.slice A2 0 c2)∧W.cell? ⟨w.heap.size,7,none⟩=some (.int .i64 ak) from bx8 (HX.out W k)))
 clear g0 g1 g2 g3 g4 g5 g6 g7
 go_region_held3 (fun W=>W.cell? ⟨w.heap.size,0,none⟩=some (.int .i64 ki)∧W.cell? ⟨w.heap.size,1,none⟩=some (.string nm)∧W.cell? ⟨w.heap.size,2,none⟩=some (.bool bo)∧W.cell? ⟨w.heap.size,3,none⟩=some (.slice A1 p c1)∧W.cell? ⟨w.heap.size,4,none⟩=some (.int .i64 sz)∧W.cell? ⟨w.heap.size,5,none⟩=some (.bool false)∧W.cell? ⟨w.heap.size,6,none⟩=some (.slice A2 0 c2)∧W.cell? ⟨w.heap.size,7,none⟩=some (.int .i64 ak))
  (first | with_reducible exact HQ.out _ kd1 | with_reducible exact HQ.out _ (Since.drew (Since.refl _)))
  (first
   | (go_at_call 80; (with_reducible refine (DM.out _ (HS.out.trans (Since.drew (Since.refl _)))).mono ?_); rintro e w1 ⟨rfl,h1⟩; have kd1:=(Since.drew (Since.refl _)).trans h1))
 all_goals obtain⟨g0,g1,g2,g3,g4,g5,g6,g7⟩:=bx8 (HX.out _ kd1)
 all_goals go_wp2
 all_goals go_ret
 all_goals exact⟨rfl,HS.out.trans kd1⟩
theorem var01 (w:World) (ki:Int) (nm:ByteArray) (bo:Bool) (sz:Int) (ak:Int) (A1:Option Addr) (b o:Nat) (p m c1 c2:Nat) (D P:ByteArray) (hD:D.size≤300000) (hnm:nm.size≤10000) (hP:P.size≤10000) (hm:0<m) (k0 n0:Int) (s0:ByteArray) (A0:Option Addr) (m0 c0:Nat) (HV:∀ W,Since w W→W.cell? ⟨b,o,none⟩=some (.int .i64 k0)∧W.cell? ⟨b,o+1,none⟩=some (.int .i64 n0)∧W.cell? ⟨b,o+2,none⟩=some (.string s0)∧W.cell? ⟨b,o+3,none⟩=some (.slice A0 m0 c0)) (hPL:(∀ W,Since w W→Calls Tryz.prog 79 #[.agg #[.int .i64 k0,.int .i64 n0,.string s0,.slice A0 m0 c0]] W fun e w'=>e = .returned (.string P)∧Since W w')) (hDM:(∀ W,Since w W→Calls Tryz.prog 80 #[.agg #[.int .i64 ki,.string nm,.bool bo,.slice A1 p c1,.int .i64 sz,.bool false,.slice (some ⟨b,o,none⟩) m c2,.int .i64 ak]] W fun e w'=>e = .returned (.string D)∧Since W w')) :
 Calls Tryz.prog 48 #[.agg #[.int .i64 ki,.string nm,.bool bo,.slice A1 p c1,.int .i64 sz,.bool false,.slice (some ⟨b,o,none⟩) m c2,.int .i64 ak]] w fun e w'=>e = .returned (.string ((⟨#[118,97,114,32]⟩:ByteArray)++D++(⟨#[58,32]⟩:ByteArray)++nm++(⟨#[32,61,32]⟩:ByteArray)++P++(⟨#[59]⟩:ByteArray)))∧Since w w':=by
 have HS:=lH (sA w (.cells #[.int .i64 ki,.string nm,.bool bo,.slice A1 p c1,.int .i64 sz,.bool false,.slice (some ⟨b,o,none⟩) m c2,.int .i64 ak] 28))
 have HX:=lH (fun W (k:Since (w.alloc (.cells #[.int .i64 ki,.string nm,.bool bo,.slice A1 p c1,.int .i64 sz,.bool false,.slice (some ⟨b,o,none⟩) m c2,.int .i64 ak] 28)) W)=>(Bx.fresh w #[.int .i64 ki,.string nm,.bool bo,.slice A1 p c1,.int .i64 sz,.bool false,.slice (some ⟨b,o,none⟩) m c2,.int .i64 ak] 28).since k)
 obtain⟨g0,g1,g2,g3,g4,g5,g6,g7⟩:=bx8 (HX.out _ (Since.refl _))
 have gg0:¬ (9223372036854775807<4+D.size):=by omega
 have gg1:¬ (9223372036854775807<4+D.size+2):=by omega
 have gg2:¬ (9223372036854775807<4+D.size+2+nm.size):=by omega
 have gg3:¬ (9223372036854775807<4+D.size+2+nm.size+3):=by omega
 have gg4:¬ (9223372036854775807<4+D.size+2+nm.size+3+P.size):=by omega
 have gg5:¬ (9223372036854775807<4+D.size+2+nm.size+3+P.size+1):=by omega
 have DM:=lH hDM
 have PL:=lH hPL
 have HVV:=lH HV
 clear hDM hPL HV
 go_enter Tryz.func48,Tryz.ntmps48
 go_wp2
 have HQ:=lH (fun W (k:Since (w.alloc (.cells #[.int .i64 ki,.string nm,.bool bo,.slice A1 p c1,.int .i64 sz,.bool false,.slice (some ⟨b,o,none⟩) m c2,.int .i64 ak] 28)) W)=>(show W.cell? ⟨w.heap.size,0,none⟩=some (.int .i64 ki)∧W.cell? ⟨w.heap.size,1,none⟩=some (.string nm)∧W.cell? ⟨w.heap.size,2,none⟩=some (.bool bo)∧W.cell? ⟨w.heap.size,3,none⟩=some (.slice A1 p c1)∧W.cell? ⟨w.heap.size,4,none⟩=some (.int .i64 sz)∧W.cell? ⟨w.heap.size,5,none⟩=some (.bool false)∧W.cell? ⟨w.heap.size,6,none⟩=some (.slice (some ⟨b,o,none⟩) m c2)∧W.cell? ⟨w.heap.size,7,none⟩=some (.int .i64 ak) from bx8 (HX.out W k)))
 clear g0 g1 g2 g3 g4 g5 g6 g7
 go_region_held3 (fun W=>W.cell? ⟨w.heap.size,0,none⟩=some (.int .i64 ki)∧W.cell? ⟨w.heap.size,1,none⟩=some (.string nm)∧W.cell? ⟨w.heap.size,2,none⟩=some (.bool bo)∧W.cell? ⟨w.heap.size,3,none⟩=some (.slice A1 p c1)∧W.cell? ⟨w.heap.size,4,none⟩=some (.int .i64 sz)∧W.cell? ⟨w.heap.size,5,none⟩=some (.bool false)∧W.cell? ⟨w.heap.size,6,none⟩=some (.slice (some ⟨b,o,none⟩) m c2)∧W.cell? ⟨w.heap.size,7,none⟩=some (.int .i64 ak))
  (first | with_reducible exact HQ.out _ kd1 | with_reducible exact HQ.out _ (Since.drew (Since.refl _)))
  (first
   | (go_at_call 80; (with_reducible refine (DM.out _ (HS.out.trans (Since.drew (Since.refl _)))).mono ?_); rintro e w1 ⟨rfl,h1⟩; have kd1:=(Since.drew (Since.refl _)).trans h1))
 all_goals obtain⟨g0,g1,g2,g3,g4,g5,g6,g7⟩:=bx8 (HX.out _ kd1)
 all_goals obtain⟨v0,v1,v2,v3⟩:=HVV.out _ (HS.out.trans kd1)
 all_goals go_wp2_with (go_at_call 79; (with_reducible refine (PL.out _ (HS.out.trans kd1)).mono ?_); rintro e w2 ⟨rfl,h2⟩)
 all_goals go_ret
 all_goals exact⟨rfl,(HS.out.trans kd1).trans h2⟩
theorem var10 (w:World) (ki:Int) (nm:ByteArray) (bo:Bool) (sz:Int) (ak:Int) (A1 A2:Option Addr) (p c1 c2:Nat) (D P:ByteArray) (hD:D.size≤300000) (hnm:nm.size≤10000) (hP:P.size≤10000) (hDM:(∀ W,Since w W→Calls Tryz.prog 80 #[.agg #[.int .i64 ki,.string nm,.bool bo,.slice A1 p c1,.int .i64 sz,.bool true,.slice A2 0 c2,.int .i64 ak]] W fun e w'=>e = .returned (.string D)∧Since W w')) :
 Calls Tryz.prog 48 #[.agg #[.int .i64 ki,.string nm,.bool bo,.slice A1 p c1,.int .i64 sz,.bool true,.slice A2 0 c2,.int .i64 ak]] w fun e w'=>e = .returned (.string ((⟨#[118,97,114,32]⟩:ByteArray)++D++(⟨#[58,32]⟩:ByteArray)++nm++(⟨#[32,58,58,32,111,117,116,112,117,116,95,118,97,114]⟩:ByteArray)++(⟨#[59]⟩:ByteArray)))∧Since w w':=by
 have HS:=lH (sA w (.cells #[.int .i64 ki,.string nm,.bool bo,.slice A1 p c1,.int .i64 sz,.bool true,.slice A2 0 c2,.int .i64 ak] 28))
 have HX:=lH (fun W (k:Since (w.alloc (.cells #[.int .i64 ki,.string nm,.bool bo,.slice A1 p c1,.int .i64 sz,.bool true,.slice A2 0 c2,.int .i64 ak] 28)) W)=>(Bx.fresh w #[.int .i64 ki,.string nm,.bool bo,.slice A1 p c1,.int .i64 sz,.bool true,.slice A2 0 c2,.int .i64 ak] 28).since k)
 obtain⟨g0,g1,g2,g3,g4,g5,g6,g7⟩:=bx8 (HX.out _ (Since.refl _))
 have gg0:¬ (9223372036854775807<4+D.size):=by omega
 have gg1:¬ (9223372036854775807<4+D.size+2):=by omega
 have gg2:¬ (9223372036854775807<4+D.size+2+nm.size):=by omega
 have gg3:¬ (9223372036854775807<4+D.size+2+nm.size+14):=by omega
 have gg4:¬ (9223372036854775807<4+D.size+2+nm.size+14+1):=by omega
 have DM:=lH hDM
 clear hDM
 go_enter Tryz.func48,Tryz.ntmps48
 go_wp2
 have HQ:=lH (fun W (k:Since (w.alloc (.cells #[.int .i64 ki,.string nm,.bool bo,.slice A1 p c1,.int .i64 sz,.bool true,.slice A2 0 c2,.int .i64 ak] 28)) W)=>(show W.cell? ⟨w.heap.size,0,none⟩=some (.int .i64 ki)∧W.cell? ⟨w.heap.size,1,none⟩=some (.string nm)∧W.cell? ⟨w.heap.size,2,none⟩=some (.bool bo)∧W.cell? ⟨w.heap.size,3,none⟩=some (.slice A1 p c1)∧W.cell? ⟨w.heap.size,4,none⟩=some (.int .i64 sz)∧W.cell? ⟨w.heap.size,5,none⟩=some (.bool true)∧W.cell? ⟨w.heap.size,6,none⟩=some (.slice A2 0 c2)∧W.cell? ⟨w.heap.size,7,none⟩=some (.int .i64 ak) from bx8 (HX.out W k)))
 clear g0 g1 g2 g3 g4 g5 g6 g7
 go_region_held3 (fun W=>W.cell? ⟨w.heap.size,0,none⟩=some (.int .i64 ki)∧W.cell? ⟨w.heap.size,1,none⟩=some (.string nm)∧W.cell? ⟨w.heap.size,2,none⟩=some (.bool bo)∧W.cell? ⟨w.heap.size,3,none⟩=some (.slice A1 p c1)∧W.cell? ⟨w.heap.size,4,none⟩=some (.int .i64 sz)∧W.cell? ⟨w.heap.size,5,none⟩=some (.bool true)∧W.cell? ⟨w.heap.size,6,none⟩=some (.slice A2 0 c2)∧W.cell? ⟨w.heap.size,7,none⟩=some (.int .i64 ak))
  (first | with_reducible exact HQ.out _ kd1 | with_reducible exact HQ.out _ (Since.drew (Since.refl _)))
  (first
   | (go_at_call 80; (with_reducible refine (DM.out _ (HS.out.trans (Since.drew (Since.refl _)))).mono ?_); rintro e w1 ⟨rfl,h1⟩; have kd1:=(Since.drew (Since.refl _)).trans h1))
 all_goals obtain⟨g0,g1,g2,g3,g4,g5,g6,g7⟩:=bx8 (HX.out _ kd1)
 all_goals go_wp2
 all_goals go_ret
 all_goals exact⟨rfl,HS.out.trans kd1⟩
theorem var11 (w:World) (ki:Int) (nm:ByteArray) (bo:Bool) (sz:Int) (ak:Int) (A1:Option Addr) (b o:Nat) (p m c1 c2:Nat) (D P:ByteArray) (hD:D.size≤300000) (hnm:nm.size≤10000) (hP:P.size≤10000) (hm:0<m) (k0 n0:Int) (s0:ByteArray) (A0:Option Addr) (m0 c0:Nat) (HV:∀ W,Since w W→W.cell? ⟨b,o,none⟩=some (.int .i64 k0)∧W.cell? ⟨b,o+1,none⟩=some (.int .i64 n0)∧W.cell? ⟨b,o+2,none⟩=some (.string s0)∧W.cell? ⟨b,o+3,none⟩=some (.slice A0 m0 c0)) (hPL:(∀ W,Since w W→Calls Tryz.prog 79 #[.agg #[.int .i64 k0,.int .i64 n0,.string s0,.slice A0 m0 c0]] W fun e w'=>e = .returned (.string P)∧Since W w')) (hDM:(∀ W,Since w W→Calls Tryz.prog 80 #[.agg #[.int .i64 ki,.string nm,.bool bo,.slice A1 p c1,.int .i64 sz,.bool true,.slice (some ⟨b,o,none⟩) m c2,.int .i64 ak]] W fun e w'=>e = .returned (.string D)∧Since W w')) :
 Calls Tryz.prog 48 #[.agg #[.int .i64 ki,.string nm,.bool bo,.slice A1 p c1,.int .i64 sz,.bool true,.slice (some ⟨b,o,none⟩) m c2,.int .i64 ak]] w fun e w'=>e = .returned (.string ((⟨#[118,97,114,32]⟩:ByteArray)++D++(⟨#[58,32]⟩:ByteArray)++nm++(⟨#[32,58,58,32,111,117,116,112,117,116,95,118,97,114]⟩:ByteArray)++(⟨#[32,61,32]⟩:ByteArray)++P++(⟨#[59]⟩:ByteArray)))∧Since w w':=by
 have HS:=lH (sA w (.cells #[.int .i64 ki,.string nm,.bool bo,.slice A1 p c1,.int .i64 sz,.bool true,.slice (some ⟨b,o,none⟩) m c2,.int .i64 ak] 28))
 have HX:=lH (fun W (k:Since (w.alloc (.cells #[.int .i64 ki,.string nm,.bool bo,.slice A1 p c1,.int .i64 sz,.bool true,.slice (some ⟨b,o,none⟩) m c2,.int .i64 ak] 28)) W)=>(Bx.fresh w #[.int .i64 ki,.string nm,.bool bo,.slice A1 p c1,.int .i64 sz,.bool true,.slice (some ⟨b,o,none⟩) m c2,.int .i64 ak] 28).since k)
 obtain⟨g0,g1,g2,g3,g4,g5,g6,g7⟩:=bx8 (HX.out _ (Since.refl _))
 have gg0:¬ (9223372036854775807<4+D.size):=by omega
 have gg1:¬ (9223372036854775807<4+D.size+2):=by omega
 have gg2:¬ (9223372036854775807<4+D.size+2+nm.size):=by omega
 have gg3:¬ (9223372036854775807<4+D.size+2+nm.size+14):=by omega
 have gg4:¬ (9223372036854775807<4+D.size+2+nm.size+14+3):=by omega
 have gg5:¬ (9223372036854775807<4+D.size+2+nm.size+14+3+P.size):=by omega
 have gg6:¬ (9223372036854775807<4+D.size+2+nm.size+14+3+P.size+1):=by omega
 have DM:=lH hDM
 have PL:=lH hPL
 have HVV:=lH HV
 clear hDM hPL HV
 go_enter Tryz.func48,Tryz.ntmps48
 go_wp2
 have HQ:=lH (fun W (k:Since (w.alloc (.cells #[.int .i64 ki,.string nm,.bool bo,.slice A1 p c1,.int .i64 sz,.bool true,.slice (some ⟨b,o,none⟩) m c2,.int .i64 ak] 28)) W)=>(show W.cell? ⟨w.heap.size,0,none⟩=some (.int .i64 ki)∧W.cell? ⟨w.heap.size,1,none⟩=some (.string nm)∧W.cell? ⟨w.heap.size,2,none⟩=some (.bool bo)∧W.cell? ⟨w.heap.size,3,none⟩=some (.slice A1 p c1)∧W.cell? ⟨w.heap.size,4,none⟩=some (.int .i64 sz)∧W.cell? ⟨w.heap.size,5,none⟩=some (.bool true)∧W.cell? ⟨w.heap.size,6,none⟩=some (.slice (some ⟨b,o,none⟩) m c2)∧W.cell? ⟨w.heap.size,7,none⟩=some (.int .i64 ak) from bx8 (HX.out W k)))
 clear g0 g1 g2 g3 g4 g5 g6 g7
 go_region_held3 (fun W=>W.cell? ⟨w.heap.size,0,none⟩=some (.int .i64 ki)∧W.cell? ⟨w.heap.size,1,none⟩=some (.string nm)∧W.cell? ⟨w.heap.size,2,none⟩=some (.bool bo)∧W.cell? ⟨w.heap.size,3,none⟩=some (.slice A1 p c1)∧W.cell? ⟨w.heap.size,4,none⟩=some (.int .i64 sz)∧W.cell? ⟨w.heap.size,5,none⟩=some (.bool true)∧W.cell? ⟨w.heap.size,6,none⟩=some (.slice (some ⟨b,o,none⟩) m c2)∧W.cell? ⟨w.heap.size,7,none⟩=some (.int .i64 ak))
  (first | with_reducible exact HQ.out _ kd1 | with_reducible exact HQ.out _ (Since.drew (Since.refl _)))
  (first
   | (go_at_call 80; (with_reducible refine (DM.out _ (HS.out.trans (Since.drew (Since.refl _)))).mono ?_); rintro e w1 ⟨rfl,h1⟩; have kd1:=(Since.drew (Since.refl _)).trans h1))
 all_goals obtain⟨g0,g1,g2,g3,g4,g5,g6,g7⟩:=bx8 (HX.out _ kd1)
 all_goals obtain⟨v0,v1,v2,v3⟩:=HVV.out _ (HS.out.trans kd1)
 all_goals go_wp2_with (go_at_call 79; (with_reducible refine (PL.out _ (HS.out.trans kd1)).mono ?_); rintro e w2 ⟨rfl,h2⟩)
 all_goals go_ret
 all_goals exact⟨rfl,(HS.out.trans kd1).trans h2⟩
theorem arr03 (w:World) (nm:ByteArray) (bo:Bool) (sz:Int) (ak:Int) (A1 A2:Option Addr) (p m c1 c2:Nat) (N K Q:ByteArray) (hN:N.size≤21) (hK:K.size≤4) (hQ:Q.size≤200000000) (hnm:nm.size≤10000) (hNU:(∀ W,Since w W→Calls Tryz.prog 81 #[.int .i64 sz] W fun e w'=>e = .returned (.string N)∧Since W w')) (hKI:(∀ W,Since w W→Calls Tryz.prog 46 #[.bool bo] W fun e w'=>e = .returned (.string K)∧Since W w')) (hLI:(∀ W,Since w W→Calls Tryz.prog 47 #[.slice A2 m c2] W fun e w'=>e = .returned (.string Q)∧Since W w')) :
 Calls Tryz.prog 49 #[.agg #[.int .i64 3,.string nm,.bool bo,.slice A1 p c1,.int .i64 sz,.bool false,.slice A2 m c2,.int .i64 ak]] w fun e w'=>e = .returned (.string ((⟨#[97,114,114,97,121,32,91,49,46,46]⟩:ByteArray)++N++(⟨#[93,32,111,102,32]⟩:ByteArray)++K++(⟨#[58,32]⟩:ByteArray)++nm++(⟨#[32,61,32,91]⟩:ByteArray)++Q++(⟨#[93,59]⟩:ByteArray)))∧Since w w':=by
 have HS:=lH (sA w (.cells #[.int .i64 3,.string nm,.bool bo,.slice A1 p c1,.int .i64 sz,.bool false,.slice A2 m c2,.int .i64 ak] 28))
 have HX:=lH (fun W (k:Since (w.alloc (.cells #[.int .i64 3,.string nm,.bool bo,.slice A1 p c1,.int .i64 sz,.bool false,.slice A2 m c2,.int .i64 ak] 28)) W)=>(Bx.fresh w #[.int .i64 3,.string nm,.bool bo,.slice A1 p c1,.int .i64 sz,.bool false,.slice A2 m c2,.int .i64 ak] 28).since k)
 obtain⟨g0,g1,g2,g3,g4,g5,g6,g7⟩:=bx8 (HX.out _ (Since.refl _))
 have gg0:¬ (9223372036854775807<10+N.size):=by omega
 have gg1:¬ (9223372036854775807<10+N.size+5):=by omega
 have gg2:¬ (9223372036854775807<10+N.size+5+K.size):=by omega
 have gg3:¬ (9223372036854775807<10+N.size+5+K.size+2):=by omega
 have gg4:¬ (9223372036854775807<10+N.size+5+K.size+2+nm.size):=by omega
 have gg5:¬ (9223372036854775807<10+N.size+5+K.size+2+nm.size+4):=by omega
 have gg6:¬ (9223372036854775807<10+N.size+5+K.size+2+nm.size+4+Q.size):=by omega
 have gg7:¬ (9223372036854775807<10+N.size+5+K.size+2+nm.size+4+Q.size+2):=by omega
 have NU:=lH hNU
 have KI:=lH hKI
 have LI:=lH hLI
 clear hNU hKI hLI
 go_enter Tryz.func49,Tryz.ntmps49
 go_wp2_with (go_at_call 81; (with_reducible refine (NU.out _ HS.out).mono ?_); rintro e w1 ⟨rfl,h1⟩; obtain⟨g0,g1,g2,g3,g4,g5,g6,g7⟩:=bx8 (HX.out _ h1))
 have HQ:=lH (fun W (k:Since (w.alloc (.cells #[.int .i64 3,.string nm,.bool bo,.slice A1 p c1,.int .i64 sz,.bool false,.slice A2 m c2,.int .i64 ak] 28)) W)=>(show W.cell? ⟨w.heap.size,0,none⟩=some (.int .i64 3)∧W.cell? ⟨w.heap.size,1,none⟩=some (.string nm)∧W.cell? ⟨w.heap.size,2,none⟩=some (.bool bo)∧W.cell? ⟨w.heap.size,3,none⟩=some (.slice A1 p c1)∧W.cell? ⟨w.heap.size,4,none⟩=some (.int .i64 sz)∧W.cell? ⟨w.heap.size,5,none⟩=some (.bool false)∧W.cell? ⟨w.heap.size,6,none⟩=some (.slice A2 m c2)∧W.cell? ⟨w.heap.size,7,none⟩=some (.int .i64 ak) from bx8 (HX.out W k)))
 clear g0 g1 g2 g3 g4 g5 g6 g7
 go_region_held3 (fun W=>W.cell? ⟨w.heap.size,0,none⟩=some (.int .i64 3)∧W.cell? ⟨w.heap.size,1,none⟩=some (.string nm)∧W.cell? ⟨w.heap.size,2,none⟩=some (.bool bo)∧W.cell? ⟨w.heap.size,3,none⟩=some (.slice A1 p c1)∧W.cell? ⟨w.heap.size,4,none⟩=some (.int .i64 sz)∧W.cell? ⟨w.heap.size,5,none⟩=some (.bool false)∧W.cell? ⟨w.heap.size,6,none⟩=some (.slice A2 m c2)∧W.cell? ⟨w.heap.size,7,none⟩=some (.int .i64 ak))
  (first | with_reducible exact HQ.out _ (h1.trans kd1) | with_reducible exact HQ.out _ (h1.trans (Since.drew (Since.refl _))))
  (first | (go_at_call 46; (with_reducible refine (KI.out _ (HS.out.trans (h1.trans (Since.drew (Since.refl _))))).mono ?_); rintro e w2 ⟨rfl,h2⟩; have kd1:=(Since.drew (Since.refl _)).trans h2))
 all_goals have k2:=h1.trans kd1
 all_goals obtain⟨g0,g1,g2,g3,g4,g5,g6,g7⟩:=bx8 (HX.out _ k2)
 all_goals go_wp2_with (first | (go_at_call 47; (with_reducible refine (LI.out _ (HS.out.trans k2)).mono ?_); rintro e w4 ⟨rfl,h4⟩))
 all_goals go_ret
 all_goals exact⟨rfl,(HS.out.trans k2).trans h4⟩
theorem arr04 (w:World) (nm:ByteArray) (bo:Bool) (sz:Int) (ak:Int) (A1 A2:Option Addr) (p m c1 c2:Nat) (N K Q:ByteArray) (hN:N.size≤21) (hK:K.size≤4) (hQ:Q.size≤200000000) (hnm:nm.size≤10000) (hNU:(∀ W,Since w W→Calls Tryz.prog 81 #[.int .i64 sz] W fun e w'=>e = .returned (.string N)∧Since W w')) (hKI:(∀ W,Since w W→Calls Tryz.prog 46 #[.bool bo] W fun e w'=>e = .returned (.string K)∧Since W w')) (hLI:(∀ W,Since w W→Calls Tryz.prog 47 #[.slice A2 m c2] W fun e w'=>e = .returned (.string Q)∧Since W w')) :
 Calls Tryz.prog 49 #[.agg #[.int .i64 4,.string nm,.bool bo,.slice A1 p c1,.int .i64 sz,.bool false,.slice A2 m c2,.int .i64 ak]] w fun e w'=>e = .returned (.string ((⟨#[97,114,114,97,121,32,91,49,46,46]⟩:ByteArray)++N++(⟨#[93,32,111,102,32]⟩:ByteArray)++(⟨#[118,97,114,32]⟩:ByteArray)++K++(⟨#[58,32]⟩:ByteArray)++nm++(⟨#[32,61,32,91]⟩:ByteArray)++Q++(⟨#[93,59]⟩:ByteArray)))∧Since w w':=by
 have HS:=lH (sA w (.cells #[.int .i64 4,.string nm,.bool bo,.slice A1 p c1,.int .i64 sz,.bool false,.slice A2 m c2,.int .i64 ak] 28))
 have HX:=lH (fun W (k:Since (w.alloc (.cells #[.int .i64 4,.string nm,.bool bo,.slice A1 p c1,.int .i64 sz,.bool false,.slice A2 m c2,.int .i64 ak] 28)) W)=>(Bx.fresh w #[.int .i64 4,.string nm,.bool bo,.slice A1 p c1,.int .i64 sz,.bool false,.slice A2 m c2,.int .i64 ak] 28).since k)
 obtain⟨g0,g1,g2,g3,g4,g5,g6,g7⟩:=bx8 (HX.out _ (Since.refl _))
 have gg0:¬ (9223372036854775807<10+N.size):=by omega
 have gg1:¬ (9223372036854775807<10+N.size+5):=by omega
 have gg2:¬ (9223372036854775807<10+N.size+5+4):=by omega
 have gg3:¬ (9223372036854775807<10+N.size+5+4+K.size):=by omega
 have gg4:¬ (9223372036854775807<10+N.size+5+4+K.size+2):=by omega
 have gg5:¬ (9223372036854775807<10+N.size+5+4+K.size+2+nm.size):=by omega
 have gg6:¬ (9223372036854775807<10+N.size+5+4+K.size+2+nm.size+4):=by omega
 have gg7:¬ (9223372036854775807<10+N.size+5+4+K.size+2+nm.size+4+Q.size):=by omega
 have gg8:¬ (9223372036854775807<10+N.size+5+4+K.size+2+nm.size+4+Q.size+2):=by omega
 have NU:=lH hNU
 have KI:=lH hKI
 have LI:=lH hLI
 clear hNU hKI hLI
 go_enter Tryz.func49,Tryz.ntmps49
 go_wp2_with (go_at_call 81; (with_reducible refine (NU.out _ HS.out).mono ?_); rintro e w1 ⟨rfl,h1⟩; obtain⟨g0,g1,g2,g3,g4,g5,g6,g7⟩:=bx8 (HX.out _ h1))
 have HQ:=lH (fun W (k:Since (w.alloc (.cells #[.int .i64 4,.string nm,.bool bo,.slice A1 p c1,.int .i64 sz,.bool false,.slice A2 m c2,.int .i64 ak] 28)) W)=>(show W.cell? ⟨w.heap.size,0,none⟩=some (.int .i64 4)∧W.cell? ⟨w.heap.size,1,none⟩=some (.string nm)∧W.cell? ⟨w.heap.size,2,none⟩=some (.bool bo)∧W.cell? ⟨w.heap.size,3,none⟩=some (.slice A1 p c1)∧W.cell? ⟨w.heap.size,4,none⟩=some (.int .i64 sz)∧W.cell? ⟨w.heap.size,5,none⟩=some (.bool false)∧W.cell? ⟨w.heap.size,6,none⟩=some (.slice A2 m c2)∧W.cell? ⟨w.heap.size,7,none⟩=some (.int .i64 ak) from bx8 (HX.out W k)))
 clear g0 g1 g2 g3 g4 g5 g6 g7
 go_region_held3 (fun W=>W.cell? ⟨w.heap.size,0,none⟩=some (.int .i64 4)∧W.cell? ⟨w.heap.size,1,none⟩=some (.string nm)∧W.cell? ⟨w.heap.size,2,none⟩=some (.bool bo)∧W.cell? ⟨w.heap.size,3,none⟩=some (.slice A1 p c1)∧W.cell? ⟨w.heap.size,4,none⟩=some (.int .i64 sz)∧W.cell? ⟨w.heap.size,5,none⟩=some (.bool false)∧W.cell? ⟨w.heap.size,6,none⟩=some (.slice A2 m c2)∧W.cell? ⟨w.heap.size,7,none⟩=some (.int .i64 ak))
  (first | with_reducible exact HQ.out _ (h1.trans kd1) | with_reducible exact HQ.out _ (h1.trans (Since.drew (Since.refl _))))
  (first | (go_at_call 46; (with_reducible refine (KI.out _ (HS.out.trans (h1.trans (Since.drew (Since.refl _))))).mono ?_); rintro e w2 ⟨rfl,h2⟩; have kd1:=(Since.drew (Since.refl _)).trans h2))
 all_goals have k2:=h1.trans kd1
 all_goals obtain⟨g0,g1,g2,g3,g4,g5,g6,g7⟩:=bx8 (HX.out _ k2)
 all_goals go_wp2_with (first | (go_at_call 47; (with_reducible refine (LI.out _ (HS.out.trans k2)).mono ?_); rintro e w4 ⟨rfl,h4⟩))
 all_goals go_ret
 all_goals exact⟨rfl,(HS.out.trans k2).trans h4⟩
theorem arr13 (w:World) (nm:ByteArray) (bo:Bool) (sz:Int) (ak:Int) (A1 A2:Option Addr) (p m c1 c2:Nat) (N K Q:ByteArray) (hN:N.size≤21) (hK:K.size≤4) (hQ:Q.size≤200000000) (hnm:nm.size≤10000) (hNU:(∀ W,Since w W→Calls Tryz.prog 81 #[.int .i64 sz] W fun e w'=>e = .returned (.string N)∧Since W w')) (hKI:(∀ W,Since w W→Calls Tryz.prog 46 #[.bool bo] W fun e w'=>e = .returned (.string K)∧Since W w')) (hLI:(∀ W,Since w W→Calls Tryz.prog 47 #[.slice A2 m c2] W fun e w'=>e = .returned (.string Q)∧Since W w')) :
 Calls Tryz.prog 49 #[.agg #[.int .i64 3,.string nm,.bool bo,.slice A1 p c1,.int .i64 sz,.bool true,.slice A2 m c2,.int .i64 ak]] w fun e w'=>e = .returned (.string ((⟨#[97,114,114,97,121,32,91,49,46,46]⟩:ByteArray)++N++(⟨#[93,32,111,102,32]⟩:ByteArray)++K++(⟨#[58,32]⟩:ByteArray)++nm++(⟨#[32,58,58,32,111,117,116,112,117,116,95,97,114,114,97,121,40,91,49,46,46]⟩:ByteArray)++N++(⟨#[93,41]⟩:ByteArray)++(⟨#[32,61,32,91]⟩:ByteArray)++Q++(⟨#[93,59]⟩:ByteArray)))∧Since w w':=by
 have HS:=lH (sA w (.cells #[.int .i64 3,.string nm,.bool bo,.slice A1 p c1,.int .i64 sz,.bool true,.slice A2 m c2,.int .i64 ak] 28))
 have HX:=lH (fun W (k:Since (w.alloc (.cells #[.int .i64 3,.string nm,.bool bo,.slice A1 p c1,.int .i64 sz,.bool true,.slice A2 m c2,.int .i64 ak] 28)) W)=>(Bx.fresh w #[.int .i64 3,.string nm,.bool bo,.slice A1 p c1,.int .i64 sz,.bool true,.slice A2 m c2,.int .i64 ak] 28).since k)
 obtain⟨g0,g1,g2,g3,g4,g5,g6,g7⟩:=bx8 (HX.out _ (Since.refl _))
 have gg0:¬ (9223372036854775807<10+N.size):=by omega
 have gg1:¬ (9223372036854775807<10+N.size+5):=by omega
 have gg2:¬ (9223372036854775807<10+N.size+5+K.size):=by omega
 have gg3:¬ (9223372036854775807<10+N.size+5+K.size+2):=by omega
 have gg4:¬ (9223372036854775807<10+N.size+5+K.size+2+nm.size):=by omega
 have gg5:¬ (9223372036854775807<10+N.size+5+K.size+2+nm.size+21):=by omega
 have gg6:¬ (9223372036854775807<10+N.size+5+K.size+2+nm.size+21+N.size):=by omega
 have gg7:¬ (9223372036854775807<10+N.size+5+K.size+2+nm.size+21+N.size+2):=by omega
 have gg8:¬ (9223372036854775807<10+N.size+5+K.size+2+nm.size+21+N.size+2+4):=by omega
 have gg9:¬ (9223372036854775807<10+N.size+5+K.size+2+nm.size+21+N.size+2+4+Q.size):=by omega
 have gg10:¬ (9223372036854775807<10+N.size+5+K.size+2+nm.size+21+N.size+2+4+Q.size+2):=by omega
 have NU:=lH hNU
 have KI:=lH hKI
 have LI:=lH hLI
 clear hNU hKI hLI
 go_enter Tryz.func49,Tryz.ntmps49
 go_wp2_with (go_at_call 81; (with_reducible refine (NU.out _ HS.out).mono ?_); rintro e w1 ⟨rfl,h1⟩; obtain⟨g0,g1,g2,g3,g4,g5,g6,g7⟩:=bx8 (HX.out _ h1))
 have HQ:=lH (fun W (k:Since (w.alloc (.cells #[.int .i64 3,.string nm,.bool bo,.slice A1 p c1,.int .i64 sz,.bool true,.slice A2 m c2,.int .i64 ak] 28)) W)=>(show W.cell? ⟨w.heap.size,0,none⟩=some (.int .i64 3)∧W.cell? ⟨w.heap.size,1,none⟩=some (.string nm)∧W.cell? ⟨w.heap.size,2,none⟩=some (.bool bo)∧W.cell? ⟨w.heap.size,3,none⟩=some (.slice A1 p c1)∧W.cell? ⟨w.heap.size,4,none⟩=some (.int .i64 sz)∧W.cell? ⟨w.heap.size,5,none⟩=some (.bool true)∧W.cell? ⟨w.heap.size,6,none⟩=some (.slice A2 m c2)∧W.cell? ⟨w.heap.size,7,none⟩=some (.int .i64 ak) from bx8 (HX.out W k)))
 clear g0 g1 g2 g3 g4 g5 g6 g7
 go_region_held3 (fun W=>W.cell? ⟨w.heap.size,0,none⟩=some (.int .i64 3)∧W.cell? ⟨w.heap.size,1,none⟩=some (.string nm)∧W.cell? ⟨w.heap.size,2,none⟩=some (.bool bo)∧W.cell? ⟨w.heap.size,3,none⟩=some (.slice A1 p c1)∧W.cell? ⟨w.heap.size,4,none⟩=some (.int .i64 sz)∧W.cell? ⟨w.heap.size,5,none⟩=some (.bool true)∧W.cell? ⟨w.heap.size,6,none⟩=some (.slice A2 m c2)∧W.cell? ⟨w.heap.size,7,none⟩=some (.int .i64 ak))
  (first | with_reducible exact HQ.out _ (h1.trans kd1) | with_reducible exact HQ.out _ (h1.trans (Since.drew (Since.refl _))))
  (first | (go_at_call 46; (with_reducible refine (KI.out _ (HS.out.trans (h1.trans (Since.drew (Since.refl _))))).mono ?_); rintro e w2 ⟨rfl,h2⟩; have kd1:=(Since.drew (Since.refl _)).trans h2))
 all_goals have k2:=h1.trans kd1
 all_goals obtain⟨g0,g1,g2,g3,g4,g5,g6,g7⟩:=bx8 (HX.out _ k2)
 all_goals go_wp2_with (first | (go_at_call 81; (with_reducible refine (NU.out _ (HS.out.trans k2)).mono ?_); rintro e w3 ⟨rfl,h3⟩; have k3:=k2.trans h3; obtain⟨g0,g1,g2,g3,g4,g5,g6,g7⟩:=bx8 (HX.out _ k3)) | (go_at_call 47; (with_reducible refine (LI.out _ (HS.out.trans k3)).mono ?_); rintro e w4 ⟨rfl,h4⟩))
 all_goals go_ret
 all_goals exact⟨rfl,(HS.out.trans k3).trans h4⟩
theorem arr14 (w:World) (nm:ByteArray) (bo:Bool) (sz:Int) (ak:Int) (A1 A2:Option Addr) (p m c1 c2:Nat) (N K Q:ByteArray) (hN:N.size≤21) (hK:K.size≤4) (hQ:Q.size≤200000000) (hnm:nm.size≤10000) (hNU:(∀ W,Since w W→Calls Tryz.prog 81 #[.int .i64 sz] W fun e w'=>e = .returned (.string N)∧Since W w')) (hKI:(∀ W,Since w W→Calls Tryz.prog 46 #[.bool bo] W fun e w'=>e = .returned (.string K)∧Since W w')) (hLI:(∀ W,Since w W→Calls Tryz.prog 47 #[.slice A2 m c2] W fun e w'=>e = .returned (.string Q)∧Since W w')) :
 Calls Tryz.prog 49 #[.agg #[.int .i64 4,.string nm,.bool bo,.slice A1 p c1,.int .i64 sz,.bool true,.slice A2 m c2,.int .i64 ak]] w fun e w'=>e = .returned (.string ((⟨#[97,114,114,97,121,32,91,49,46,46]⟩:ByteArray)++N++(⟨#[93,32,111,102,32]⟩:ByteArray)++(⟨#[118,97,114,32]⟩:ByteArray)++K++(⟨#[58,32]⟩:ByteArray)++nm++(⟨#[32,58,58,32,111,117,116,112,117,116,95,97,114,114,97,121,40,91,49,46,46]⟩:ByteArray)++N++(⟨#[93,41]⟩:ByteArray)++(⟨#[32,61,32,91]⟩:ByteArray)++Q++(⟨#[93,59]⟩:ByteArray)))∧Since w w':=by
 have HS:=lH (sA w (.cells #[.int .i64 4,.string nm,.bool bo,.slice A1 p c1,.int .i64 sz,.bool true,.slice A2 m c2,.int .i64 ak] 28))
 have HX:=lH (fun W (k:Since (w.alloc (.cells #[.int .i64 4,.string nm,.bool bo,.slice A1 p c1,.int .i64 sz,.bool true,.slice A2 m c2,.int .i64 ak] 28)) W)=>(Bx.fresh w #[.int .i64 4,.string nm,.bool bo,.slice A1 p c1,.int .i64 sz,.bool true,.slice A2 m c2,.int .i64 ak] 28).since k)
 obtain⟨g0,g1,g2,g3,g4,g5,g6,g7⟩:=bx8 (HX.out _ (Since.refl _))
 have gg0:¬ (9223372036854775807<10+N.size):=by omega
 have gg1:¬ (9223372036854775807<10+N.size+5):=by omega
 have gg2:¬ (9223372036854775807<10+N.size+5+4):=by omega
 have gg3:¬ (9223372036854775807<10+N.size+5+4+K.size):=by omega
 have gg4:¬ (9223372036854775807<10+N.size+5+4+K.size+2):=by omega
 have gg5:¬ (9223372036854775807<10+N.size+5+4+K.size+2+nm.size):=by omega
 have gg6:¬ (9223372036854775807<10+N.size+5+4+K.size+2+nm.size+21):=by omega
 have gg7:¬ (9223372036854775807<10+N.size+5+4+K.size+2+nm.size+21+N.size):=by omega
 have gg8:¬ (9223372036854775807<10+N.size+5+4+K.size+2+nm.size+21+N.size+2):=by omega
 have gg9:¬ (9223372036854775807<10+N.size+5+4+K.size+2+nm.size+21+N.size+2+4):=by omega
 have gg10:¬ (9223372036854775807<10+N.size+5+4+K.size+2+nm.size+21+N.size+2+4+Q.size):=by omega
 have gg11:¬ (9223372036854775807<10+N.size+5+4+K.size+2+nm.size+21+N.size+2+4+Q.size+2):=by omega
 have NU:=lH hNU
 have KI:=lH hKI
 have LI:=lH hLI
 clear hNU hKI hLI
 go_enter Tryz.func49,Tryz.ntmps49
 go_wp2_with (go_at_call 81; (with_reducible refine (NU.out _ HS.out).mono ?_); rintro e w1 ⟨rfl,h1⟩; obtain⟨g0,g1,g2,g3,g4,g5,g6,g7⟩:=bx8 (HX.out _ h1))
 have HQ:=lH (fun W (k:Since (w.alloc (.cells #[.int .i64 4,.string nm,.bool bo,.slice A1 p c1,.int .i64 sz,.bool true,.slice A2 m c2,.int .i64 ak] 28)) W)=>(show W.cell? ⟨w.heap.size,0,none⟩=some (.int .i64 4)∧W.cell? ⟨w.heap.size,1,none⟩=some (.string nm)∧W.cell? ⟨w.heap.size,2,none⟩=some (.bool bo)∧W.cell? ⟨w.heap.size,3,none⟩=some (.slice A1 p c1)∧W.cell? ⟨w.heap.size,4,none⟩=some (.int .i64 sz)∧W.cell? ⟨w.heap.size,5,none⟩=some (.bool true)∧W.cell? ⟨w.heap.size,6,none⟩=some (.slice A2 m c2)∧W.cell? ⟨w.heap.size,7,none⟩=some (.int .i64 ak) from bx8 (HX.out W k)))
 clear g0 g1 g2 g3 g4 g5 g6 g7
 go_region_held3 (fun W=>W.cell? ⟨w.heap.size,0,none⟩=some (.int .i64 4)∧W.cell? ⟨w.heap.size,1,none⟩=some (.string nm)∧W.cell? ⟨w.heap.size,2,none⟩=some (.bool bo)∧W.cell? ⟨w.heap.size,3,none⟩=some (.slice A1 p c1)∧W.cell? ⟨w.heap.size,4,none⟩=some (.int .i64 sz)∧W.cell? ⟨w.heap.size,5,none⟩=some (.bool true)∧W.cell? ⟨w.heap.size,6,none⟩=some (.slice A2 m c2)∧W.cell? ⟨w.heap.size,7,none⟩=some (.int .i64 ak))
  (first | with_reducible exact HQ.out _ (h1.trans kd1) | with_reducible exact HQ.out _ (h1.trans (Since.drew (Since.refl _))))
  (first | (go_at_call 46; (with_reducible refine (KI.out _ (HS.out.trans (h1.trans (Since.drew (Since.refl _))))).mono ?_); rintro e w2 ⟨rfl,h2⟩; have kd1:=(Since.drew (Since.refl _)).trans h2))
 all_goals have k2:=h1.trans kd1
 all_goals obtain⟨g0,g1,g2,g3,g4,g5,g6,g7⟩:=bx8 (HX.out _ k2)
 all_goals go_wp2_with (first | (go_at_call 81; (with_reducible refine (NU.out _ (HS.out.trans k2)).mono ?_); rintro e w3 ⟨rfl,h3⟩; have k3:=k2.trans h3; obtain⟨g0,g1,g2,g3,g4,g5,g6,g7⟩:=bx8 (HX.out _ k3)) | (go_at_call 47; (with_reducible refine (LI.out _ (HS.out.trans k3)).mono ?_); rintro e w4 ⟨rfl,h4⟩))
 all_goals go_ret
 all_goals exact⟨rfl,(HS.out.trans k3).trans h4⟩
end Go.Proofs.YtjmmcnldfkjebaaGreatDoor.Doc7
