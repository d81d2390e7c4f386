/- Layer 4's law: alive returns true: Make, Text, Floor, Right and Of at -3/2 and 0. -/
import Derived.Test.YtbbemgeinlehmaaGreatDoorTa
import Derived.Test.YtbbemgeinlehmaaGreatDoorSr4te
import Derived.Test.YtbbemgeinlehmaaGreatDoorSb
import Derived.Test.YtbbemgeinlehmaaGreatDoorFw
import Derived.Deep.RegionHeld3
import Derived.Deep.DeepCutAuto
namespace Go.Proofs.YtbbemgeinlehmaaGreatDoor.Alive04
open Go.RowKit
set_option linter.unusedVariables false
open Go.Proofs.YtbbemgeinlehmaaGreatDoor.Dig Go.Proofs.YtbbemgeinlehmaaGreatDoor.R4 Go.Proofs.YtbbemgeinlehmaaGreatDoor.Fr
open Go.Proofs.YtbbemgeinlehmaaGreatDoor.Ref03 (sv srightB gcdZ divZ negZ mulZ addZ cmpZ textZ sval ngB mag RetZ RetQR RetS)
open Go.Proofs.YtbbemgeinlehmaaGreatDoor.Ref04
open Go.Proofs.YtbbemgeinlehmaaGreatDoor.Ref03 (smallZ)

theorem of6 (w : World) : Calls Tryz.prog 38 #[.int .i64 6] w (RetS false [6] w) := Sg03.of_any 6 w (by omega)
theorem ofm4 (w : World) : Calls Tryz.prog 38 #[.int .i64 (-4)] w (RetS true [4] w) := Sg03.of_any (-4) w (by omega)
theorem of0 (w : World) : Calls Tryz.prog 39 #[.int .i64 0] w (RetFv ((false, []), (false, [1])) w) := Sr04.of_any 0 w (by omega)
theorem e_make : makeR (false, [6]) (true, [4]) = (((true, [3]), (false, [2])), 0) := by kernel_rfl
theorem e_text : textR ((true, [3]), (false, [2])) = ([45, 51, 47, 50], 0) := by kernel_rfl
theorem e_floor : floorR ((true, [3]), (false, [2])) = ((true, [2]), 0) := by kernel_rfl
theorem e_small : smallZ true [2] = (-2, 0) := by kernel_rfl
theorem e_right : rrB ((true, [3]), (false, [2])) = true := by kernel_rfl
theorem e_right0 : rrB ((false, []), (false, [1])) = true := by kernel_rfl
theorem val1 {P : Program} {f : FuncId} {args : Array Value} {w : World} {r c : Bool} (ns : Calls P f args w fun x w' => x = .returned (.bool r) ∧ Since w w') (h : r = c) :
    Calls P f args w fun x w' => x = .returned (.bool c) ∧ Since w w' := by
  subst h; exact ns
theorem val2 {P : Program} {f : FuncId} {args : Array Value} {w : World} {r : Int × Int} {c e : Int} (ns : Calls P f args w fun x w' => x = .returned (.tuple #[.int .i64 r.1, .int .i64 r.2]) ∧ Since w w') (h : r = (c, e)) :
    Calls P f args w fun x w' => x = .returned (.tuple #[.int .i64 c, .int .i64 e]) ∧ Since w w' := by
  subst h; exact ns
theorem val3 {P : Program} {f : FuncId} {args : Array Value} {w : World} {r : List UInt8 × Int} {c : List UInt8} {e : Int} (ns : Calls P f args w fun x w' => x = .returned (.tuple #[.string ⟨r.1.toArray⟩, .int .i64 r.2]) ∧ Since w w') (h : r = (c, e)) :
    Calls P f args w fun x w' => x = .returned (.tuple #[.string ⟨c.toArray⟩, .int .i64 e]) ∧ Since w w' := by
  subst h; exact ns
theorem make_lit (A B : Option Addr) (c d : Nat) (w : World) (h : Row w (.slice A 1 c) [6]) (k : Row w (.slice B 1 d) [4]) :
    Calls Tryz.prog 37 #[sv false (.slice A 1 c), sv true (.slice B 1 d)] w fun e w' => ∃ X x Y y, e = .returned (.tuple #[.agg #[.bool true, .slice X 1 x, .bool false, .slice Y 1 y], .int .i64 0]) ∧ Row w' (.slice X 1 x) [3] ∧ Row w' (.slice Y 1 y) [2] ∧ Since w w' :=
  (Sr04.make_any A B c d false true [6] [4] w h k (by decide) (by decide)).mono fun _ _ h => RetF.at e_make h
theorem text_lit (X Y : Option Addr) (x y : Nat) (w : World) (h : Row w (.slice X 1 x) [3]) (k : Row w (.slice Y 1 y) [2]) :
    Calls Tryz.prog 28 #[.agg #[.bool true, .slice X 1 x, .bool false, .slice Y 1 y]] w fun e w' => e = .returned (.tuple #[.string ⟨#[45, 51, 47, 50]⟩, .int .i64 0]) ∧ Since w w' :=
  val3 (ns := Sr04.text_any X Y x y true false [3] [2] w h k (by decide) (by decide)) e_text
theorem floor_lit (X Y : Option Addr) (x y : Nat) (w : World) (h : Row w (.slice X 1 x) [3]) (k : Row w (.slice Y 1 y) [2]) :
    Calls Tryz.prog 24 #[.agg #[.bool true, .slice X 1 x, .bool false, .slice Y 1 y]] w fun e w' => ∃ Z z, e = .returned (.tuple #[.agg #[.bool true, .slice Z 1 z], .int .i64 0]) ∧ Row w' (.slice Z 1 z) [2] ∧ Since w w' :=
  (Sr04.floor_any X Y x y true false [3] [2] w h k (by decide) (by decide)).mono fun _ _ h => RetN.at e_floor h
theorem right_lit (X Y : Option Addr) (x y : Nat) (w : World) (h : Row w (.slice X 1 x) [3]) (k : Row w (.slice Y 1 y) [2]) :
    Calls Tryz.prog 35 #[.agg #[.bool true, .slice X 1 x, .bool false, .slice Y 1 y]] w fun e w' => e = .returned (.bool true) ∧ Since w w' :=
  val1 (ns := Sr04.right_any X Y x y true false [3] [2] w h k (by decide) (by decide)) e_right
theorem right0_lit (X Y : Option Addr) (x y : Nat) (w : World) (h : Row w (.slice X 0 x) []) (k : Row w (.slice Y 1 y) [1]) :
    Calls Tryz.prog 35 #[.agg #[.bool false, .slice X 0 x, .bool false, .slice Y 1 y]] w fun e w' => e = .returned (.bool true) ∧ Since w w' :=
  val1 (ns := Sr04.right_any X Y x y false false [] [1] w h k (by decide) (by decide)) e_right0
theorem small_lit (Z : Option Addr) (z : Nat) (w : World) (h : Row w (.slice Z 1 z) [2]) :
    Calls Tryz.prog 40 #[sv true (.slice Z 1 z)] w fun e w' => e = .returned (.tuple #[.int .i64 (-2), .int .i64 0]) ∧ Since w w' :=
  val2 (ns := Sg03.small_any Z z true [2] w h (by decide)) e_small
theorem of6' (w : World) : Calls Tryz.prog 38 #[.int .i64 6] w fun e w' => ∃ A c, e = .returned (sv false (.slice A 1 c)) ∧ Row w' (.slice A 1 c) [6] ∧ Since w w' := of6 w
theorem ofm4' (w : World) : Calls Tryz.prog 38 #[.int .i64 (-4)] w fun e w' => ∃ A c, e = .returned (sv true (.slice A 1 c)) ∧ Row w' (.slice A 1 c) [4] ∧ Since w w' := ofm4 w
theorem of0' (w : World) : Calls Tryz.prog 39 #[.int .i64 0] w fun e w' => ∃ A c B d, e = .returned (.agg #[.bool false, .slice A 0 c, .bool false, .slice B 1 d]) ∧ Row w' (.slice A 0 c) [] ∧ Row w' (.slice B 1 d) [1] ∧ Since w w' := of0 w
set_option maxRecDepth 100000 in
set_option maxHeartbeats 4000000 in
theorem alive (w : World) : Calls Tryz.prog 9 #[] w fun e w' => e = .returned (.bool true) ∧ Since w w' := by
  have hK := Since.refl w
  go_enter Tryz.func9, Tryz.ntmps9
  go_upto_region 2 with (first
    | (go_at_call 38; (with_reducible refine (of6' _).mono ?_); rintro e v1 ⟨A1, c1, rfl, q1, h⟩; have hK := hK.trans h)
    | (go_at_call 38; (with_reducible refine (ofm4' _).mono ?_); rintro e v2 ⟨A2, c2, rfl, q2, h⟩; have q1 := q1.since h; have hK := hK.trans h)
    | (go_at_call 37; (with_reducible refine (make_lit A1 A2 c1 c2 _ q1 q2).mono ?_); rintro e v3 ⟨X, x, Y, y, rfl, rx, ry, h⟩; have hK := hK.trans h))
  have hS := Since.refl w
  obtain ⟨W1, hW1⟩ : ∃ W1, W1 = v3.alloc (.cells #[.bool true, .slice X 1 x, .bool false, .slice Y 1 y] 31) := ⟨_, rfl⟩
  rw [← hW1]
  have hx : Since v3 W1 := by rw [hW1]; exact since_alloc _ _
  have hg := hK.trans hx
  have Va : Hid (∀ W', Since W1 W' → Bx W' (v3.heap.size) #[.bool true, .slice X 1 x, .bool false, .slice Y 1 y] 31) := fun W' h => Bx.new (hW1 ▸ h) (by simp)
  have rx := rx.since hx
  have ry := ry.since hx
  have hS := hS.trans hg
  clear hW1 hx hg hK
  generalize v3.heap.size = bkW1 at *
  have hK := Since.refl W1
  obtain ⟨vaa, vab, vac, vad⟩ := (Va.out _ hK).four
  go_upto_region 4 with (first
    | (go_at_call 28; (with_reducible refine (text_lit X Y x y _ (rx.since hK) (ry.since hK)).mono ?_); rintro e v4 ⟨rfl, h⟩; have hK := hK.trans h; obtain ⟨vaa, vab, vac, vad⟩ := (Va.out _ hK).four)
    | (go_at_call 24; (with_reducible refine (floor_lit X Y x y _ (rx.since hK) (ry.since hK)).mono ?_); rintro e v5 ⟨Z, z, rfl, rz, h⟩; have hK := hK.trans h))
  obtain ⟨W2, hW2⟩ : ∃ W2, W2 = v5.alloc (.cells #[.bool true, .slice Z 1 z] 29) := ⟨_, rfl⟩
  rw [← hW2]
  have hx : Since v5 W2 := by rw [hW2]; exact since_alloc _ _
  have hg := hK.trans hx
  have qaW2 : bkW1 < v5.heap.size := (Va.out _ hK).lt
  have Vq : Hid (∀ W', Since W2 W' → Bx W' (v5.heap.size) #[.bool true, .slice Z 1 z] 29) := fun W' h => Bx.new (hW2 ▸ h) (by simp)
  have rx := rx.since hg
  have ry := ry.since hg
  have rz := rz.since hx
  have Va : Hid (∀ W', Since W2 W' → _) := fun W' h => Va.out W' (hg.trans h)
  have hS := hS.trans hg
  clear hW2 hx hg hK
  generalize v5.heap.size = bkW2 at *
  have hK := Since.refl W2
  obtain ⟨vaa, vab, vac, vad⟩ := (Va.out _ hK).four
  obtain ⟨vqa, vqb⟩ := (Vq.out _ hK).two
  go_wp2_with (first
    | (go_at_call 40; (with_reducible refine (small_lit Z z _ (rz.since hK)).mono ?_); rintro e v6 ⟨rfl, h⟩; have hK := hK.trans h; obtain ⟨vaa, vab, vac, vad⟩ := (Va.out _ hK).four)
    | (go_at_call 35; (with_reducible refine (right_lit X Y x y _ (rx.since hK) (ry.since hK)).mono ?_); rintro e v7 ⟨rfl, h⟩; have hK := hK.trans h; obtain ⟨vaa, vab, vac, vad⟩ := (Va.out _ hK).four)
    | (go_at_call 39; (with_reducible refine (of0' _).mono ?_); rintro e v8 ⟨O1, o1, O2, o2, rfl, s1, s2, h⟩; have hK := hK.trans h)
    | (go_at_call 35; (with_reducible refine (right0_lit O1 O2 o1 o2 _ s1 s2).mono ?_); rintro e v9 ⟨rfl, h⟩; have hK := hK.trans h))
  go_ret
  exact ⟨rfl, hS.trans hK⟩
end Go.Proofs.YtbbemgeinlehmaaGreatDoor.Alive04
