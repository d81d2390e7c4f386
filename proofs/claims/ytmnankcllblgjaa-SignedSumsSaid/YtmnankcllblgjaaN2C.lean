/- What the calls of math/bits that add, take away, multiply and divide give back. -/
import Derived.Test.YtmnankcllblgjaaN2B
import Derived.IntWalk
import Derived.Laws.BitsAllLaws
import Derived.Laws.BitsLemmas
namespace Go.Proofs.Ytmnankcllblgjaa.Bits
open Go.RowKit
set_option linter.unusedVariables false
open Go.Proofs.Ytmnankcllblgjaa.Dig

theorem ret_two {k : IntKind} {a b c d : Int} (h : a = c) (h2 : b = d) : Ending.returned (.tuple #[.int k a, .int k b]) = .returned (.tuple #[.int k c, .int k d]) := by rw [h, h2]
/-- two 32-bit numbers, handed back -/
def Two (s t : Nat) (w : World) (e : Ending) (w' : World) : Prop := e = .returned (.tuple #[.int .u32 (s : Int), .int .u32 (t : Int)]) ∧ w = w'

theorem add32 (x y c s t : Nat) (w : World) (hx : x < 4294967296) (hy : y < 4294967296) (hc : c < 4294967296) (hs : s = (x + y + c) % 4294967296) (ht : t = (x + y + c) / 4294967296) :
    Calls Try.prog 70 #[.int .u32 (x : Int), .int .u32 (y : Int), .int .u32 (c : Int)] w (Two s t w) := by
  have H := Lib.hid (And.intro hs ht)
  clear hs ht
  go_enter Try.func70, Try.ntmps70
  go_wp2
  go_ret2
  have h := H.out
  exact ⟨ret_two (by omega) (by omega), rfl⟩
theorem add32z (x y s t : Nat) (w : World) (hx : x < 4294967296) (hy : y < 4294967296) (hs : s = (x + y) % 4294967296) (ht : t = (x + y) / 4294967296) :
    Calls Try.prog 70 #[.int .u32 (x : Int), .int .u32 (y : Int), .int .u32 0] w (Two s t w) := add32 x y 0 s t w hx hy (by omega) hs ht
theorem add32zz (x s t : Nat) (w : World) (hx : x < 4294967296) (hs : s = x % 4294967296) (ht : t = x / 4294967296) :
    Calls Try.prog 70 #[.int .u32 (x : Int), .int .u32 0, .int .u32 0] w (Two s t w) := add32 x 0 0 s t w hx (by omega) (by omega) hs ht
theorem add32m (x c s t : Nat) (w : World) (hx : x < 4294967296) (hy : c < 4294967296) (hs : s = (x + c) % 4294967296) (ht : t = (x + c) / 4294967296) :
    Calls Try.prog 70 #[.int .u32 (x : Int), .int .u32 0, .int .u32 (c : Int)] w (Two s t w) := add32 x 0 c s t w hx (by omega) hy (by omega) (by omega)

theorem mul32 (x y h l : Nat) (w : World) (hx : x < 4294967296) (hy : y < 4294967296) (hh : h = x * y / 4294967296) (hl : l = x * y % 4294967296) :
    Calls Try.prog 88 #[.int .u32 (x : Int), .int .u32 (y : Int)] w (Two h l w) := by
  obtain ⟨q, hq⟩ : ∃ q : Nat, q = x * y := ⟨_, rfl⟩
  have hfit : x * y ≤ 4294967295 * 4294967295 := Nat.mul_le_mul (by omega) (by omega)
  rw [← hq] at hfit hh hl
  have hq2 : (x : Int) * (y : Int) = (q : Int) := by rw [hq]; simp
  have H := Lib.hid (And.intro hh hl)
  clear hq hh hl
  go_enter Try.func88, Try.ntmps88
  go_wp2
  go_ret2
  have h := H.out
  exact ⟨ret_two (by omega) (by omega), rfl⟩
/-- x times y and two digits more -/
theorem times_plus (x y a b h l : Nat) (w : World) (hx : x < 4294967296) (hy : y < 4294967296) (ha : a < 4294967296) (hb : b < 4294967296) (hh : h = (x * y + a + b) / 4294967296) (hl : l = (x * y + a + b) % 4294967296) :
    Calls Try.prog 81 #[.int .u32 (x : Int), .int .u32 (y : Int), .int .u32 (a : Int), .int .u32 (b : Int)] w (Two h l w) := by
  obtain ⟨q, hq⟩ : ∃ q : Nat, q = x * y := ⟨_, rfl⟩
  have hfit : x * y ≤ 4294967295 * 4294967295 := Nat.mul_le_mul (by omega) (by omega)
  obtain ⟨g, hg⟩ : ∃ h : Nat, h = x * y / 4294967296 := ⟨_, rfl⟩
  obtain ⟨m, hm⟩ : ∃ h : Nat, h = x * y % 4294967296 := ⟨_, rfl⟩
  have HM := Lib.hid fun W => mul32 x y g m W hx hy hg hm
  rw [← hq] at hfit hg hm hh hl
  obtain ⟨s1, hs1⟩ : ∃ s, s = (m + a) % 4294967296 := ⟨_, rfl⟩
  obtain ⟨t1, ht1⟩ : ∃ s, s = (m + a) / 4294967296 := ⟨_, rfl⟩
  obtain ⟨s2, hs2⟩ : ∃ s, s = (s1 + b) % 4294967296 := ⟨_, rfl⟩
  obtain ⟨t2, ht2⟩ : ∃ s, s = (s1 + b) / 4294967296 := ⟨_, rfl⟩
  have H1 := Lib.hid fun W => add32z m a s1 t1 W (by omega) ha hs1 ht1
  have H2 := Lib.hid fun W => add32z s1 b s2 t2 W (by omega) hb hs2 ht2
  have e1 : h = g + t1 + t2 := by omega
  have e2 : l = s2 := by omega
  have b1 : g + t1 < 4294967296 := by omega
  have b2 : g + t1 + t2 < 4294967296 := by omega
  subst e1 e2
  clear hq hh hg hm hs1 ht1 hs2 ht2 hfit
  go_enter Try.func81, Try.ntmps81
  go_wp2_with (first
    | (go_at_call 88; (with_reducible refine (HM.out _).mono ?_); rintro e w1 ⟨rfl, rfl⟩)
    | (go_at_call 70; (with_reducible refine (H1.out _).mono ?_); rintro e w1 ⟨rfl, rfl⟩)
    | (go_at_call 70; (with_reducible refine (H2.out _).mono ?_); rintro e w1 ⟨rfl, rfl⟩))
  go_ret2
  exact ⟨ret_two (by omega) (by omega), rfl⟩
end Go.Proofs.Ytmnankcllblgjaa.Bits
