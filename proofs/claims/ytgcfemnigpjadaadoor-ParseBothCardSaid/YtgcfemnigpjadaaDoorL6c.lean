/- What alive of layer 6's law gives back, if Text says what the document says. -/
import Derived.Test.YtgcfemnigpjadaaDoorAp6
import Derived.Test.YtgcfemnigpjadaaDoorVp
import Derived.Deep.DeepCutAuto
namespace Go.Proofs.YtgcfemnigpjadaaDoor.Law06
open Go.RowKit
set_option linter.unusedVariables false
set_option linter.unusedSimpArgs false
open Go.Proofs.YtgcfemnigpjadaaDoor.Dig Go.Proofs.YtgcfemnigpjadaaDoor.Lx Go.Proofs.YtgcfemnigpjadaaDoor.Tk Go.Proofs.YtgcfemnigpjadaaDoor.Ps Go.Proofs.YtgcfemnigpjadaaDoor.Ti

/-- ends as the document says: items, a place, an error -/
def RetP (r : List It × Int × Int) (w : World) (x : Ending) (w' : World) : Prop :=
  ∃ A c, x = .returned (.tuple #[.slice A r.1.length c, .int .i64 r.2.1, .int .i64 r.2.2]) ∧ Items w' (.slice A r.1.length c) r.1 ∧ Since w w'
/-- Text says what the document says, in every world that is Ok -/
def TextSays (Ok : World → Prop) : Prop :=
  (∀ w w', Ok w → Since w w' → Ok w') ∧ ∀ (s : ByteArray) (w : World), s.size ≤ 10000 → Ok w → Calls Tryd.prog 8 #[.string s] w (RetP (textD s) w)
/-- a call of Text, in letters -/
theorem text_at {Ok : World → Prop} (T : TextSays Ok) (s : ByteArray) (hs : s.size ≤ 10000) {l : List It} {p e : Int} {n : Nat} (hr : textD s = (l, p, e)) (hn : l.length = n) (w : World) (ok : Ok w) :
    Calls Tryd.prog 8 #[.string s] w fun x w' => ∃ A c, x = .returned (.tuple #[.slice A n c, .int .i64 p, .int .i64 e]) ∧ Items w' (.slice A n c) l ∧ Since w w' := by
  have h := T.2 s w hs ok
  rw [hr] at h
  subst hn
  exact h
theorem textA : textD ⟨#[118, 97, 114, 32, 49, 46, 46, 51, 58, 32, 120, 32, 58, 58, 32, 111, 117, 116, 112, 117, 116, 95, 118, 97, 114, 59]⟩ = ([⟨2, ⟨#[120]⟩, false, [(1, 3)], 0, true, [], 0⟩], 0, 0) := by kernel_rfl
theorem textB : textD ⟨#[115, 111, 108, 118, 101, 32, 115, 97, 116, 105, 115, 102, 121]⟩ = ([], 13, 6) := by kernel_rfl
theorem textC : textD ⟨#[105, 110, 116, 58, 32, 118, 97, 114, 32, 61, 32, 49, 59]⟩ = ([], 5, 5) := by kernel_rfl
theorem textA_any {Ok : World → Prop} (T : TextSays Ok) (w : World) (ok : Ok w) :
    Calls Tryd.prog 8 #[.string ⟨#[118, 97, 114, 32, 49, 46, 46, 51, 58, 32, 120, 32, 58, 58, 32, 111, 117, 116, 112, 117, 116, 95, 118, 97, 114, 59]⟩] w fun x w' => ∃ b o c A1 c1, x = .returned (.tuple #[.slice (some ⟨b, o, none⟩) 1 c, .int .i64 0, .int .i64 0]) ∧ 1 ≤ c ∧
      (w'.cell? ⟨b, o, none⟩ = some (.int .i64 2) ∧ w'.cell? ⟨b, o + 1, none⟩ = some (.string ⟨#[120]⟩) ∧ w'.cell? ⟨b, o + 3, none⟩ = some (.slice A1 1 c1) ∧ w'.cell? ⟨b, o + 5, none⟩ = some (.bool true)) ∧ Since w w' := by
  refine (text_at T _ (by decide) textA rfl w ok).mono ?_
  rintro x w' ⟨A, c, rfl, ht, hs⟩
  obtain ⟨b, o, A1, c1, A2, c2, rfl, -, -, -, h0, h1, -, h3, -, h5, -⟩ := elI ht (i := 0) (by decide)
  simp only [Nat.zero_mul, Nat.add_zero] at h0 h1 h3 h5
  exact ⟨b, o, c, A1, c1, rfl, ht.at_.2, ⟨h0, h1, h3, h5⟩, hs⟩
set_option maxRecDepth 100000 in
set_option maxHeartbeats 4000000 in
theorem alive {Ok : World → Prop} (T : TextSays Ok) (w : World) (ok : Ok w) : Calls Tryd.prog 7 #[] w fun e w' => e = .returned (.bool true) ∧ Since w w' := by
  have TA := Lib.hid (textA_any T)
  have TB := Lib.hid (fun W (h : Ok W) => text_at T ⟨#[115, 111, 108, 118, 101, 32, 115, 97, 116, 105, 115, 102, 121]⟩ (by decide) textB rfl W h)
  have TC := Lib.hid (fun W (h : Ok W) => text_at T ⟨#[105, 110, 116, 58, 32, 118, 97, 114, 32, 61, 32, 49, 59]⟩ (by decide) textC rfl W h)
  have OK := Lib.hid T.1
  have OKw := Lib.hid ok
  clear T ok
  go_enter Tryd.func7, Tryd.ntmps7
  go_wp2_with (first
    | (go_at_call 8; (with_reducible refine (TA.out _ OKw.out).mono ?_); rintro e w1 ⟨b, o, c, A1, c1, rfl, hc, hx, h1⟩)
    | (go_at_call 8; (with_reducible refine (TB.out _ (OK.out _ _ OKw.out h1)).mono ?_); rintro e w2 ⟨A2, c2, rfl, -, h2⟩)
    | (go_at_call 8; (with_reducible refine (TC.out _ (OK.out _ _ OKw.out (h1.trans h2))).mono ?_); rintro e w3 ⟨A3, c3, rfl, -, h3⟩; have up : ∀ {p : Addr} {u : Value}, w1.cell? p = some u → w3.cell? p = some u := (fun g => ((h2.trans h3).cell _ (World.block_lt_of_cell? _ _ g)).trans g); obtain ⟨x0, x1, x3, x5⟩ := hx; have x0 := up x0; have x1 := up x1; have x3 := up x3; have x5 := up x5; clear up))
  go_ret
  exact ⟨rfl, (h1.trans h2).trans h3⟩
end Go.Proofs.YtgcfemnigpjadaaDoor.Law06
