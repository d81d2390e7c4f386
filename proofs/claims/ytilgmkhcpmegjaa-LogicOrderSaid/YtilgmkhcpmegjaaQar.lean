/- Layer 12 (linear): the landed termsOf. Layer 9 (set): the landed withFull. Layer 9 (set): the landed withFull, -/
import Derived.Test.YtilgmkhcpmegjaaLa
import Derived.Test.YtilgmkhcpmegjaaEe
import Derived.Test.YtilgmkhcpmegjaaQam
set_option linter.unusedVariables false
set_option linter.unusedSimpArgs false
section
namespace Go.Proofs.Ytilgmkhcpmegjaa.Ln
open Go.RowKit
open Go.Proofs.Ytilgmkhcpmegjaa.Dig Go.Proofs.Ytilgmkhcpmegjaa.Lx Go.Proofs.Ytilgmkhcpmegjaa.Tk Go.Proofs.Ytilgmkhcpmegjaa.Ti Go.Proofs.Ytilgmkhcpmegjaa.Zs Go.Proofs.Ytilgmkhcpmegjaa.Tr Go.Proofs.Ytilgmkhcpmegjaa.Sn
theorem ends_lohi {d : List Rn} (h : right d = true) (hd : d ≠ []) : ends d = some (lo d, hi d) := by
  unfold ends
  rw [if_pos h]
  cases d with
  | nil => exact absurd rfl hd
  | cons r l =>
    have e : (r :: l).getLast? = some ((r :: l).getD ((r :: l).length - 1) (0, 0)) := by rw [List.getLast?_eq_getElem?]; simp [List.getD]
    rw [List.head?_cons, e]; rfl
theorem ends_at2 {B : Option Addr} {m cB : Nat} {d : List Rn} {W : World} (hS : Sl 2 QR W (.slice B m cB) d) (hr : right d = true) (hd : d ≠ []) :
    Calls Try.prog 185 #[.slice B m cB] W (fun e w' => e = .returned (.tuple #[.agg #[.int .i64 (lo d), .int .i64 (hi d)], .bool true]) ∧ Since W w') := by
  have := ends_any _ d W hS (right_len hr) (okF_bd hr (Int.le_refl _))
  rw [ends_lohi hr hd] at this
  exact this
section
open Go.RowKit
open Go.Proofs.Ytilgmkhcpmegjaa.Dig Go.Proofs.Ytilgmkhcpmegjaa.Lx Go.Proofs.Ytilgmkhcpmegjaa.Tk Go.Proofs.Ytilgmkhcpmegjaa.Ti Go.Proofs.Ytilgmkhcpmegjaa.Zs Go.Proofs.Ytilgmkhcpmegjaa.Tr Go.Proofs.Ytilgmkhcpmegjaa.Sn
end
section
open Go.RowKit
open Go.Proofs.Ytilgmkhcpmegjaa.Dig Go.Proofs.Ytilgmkhcpmegjaa.Lx Go.Proofs.Ytilgmkhcpmegjaa.Tk Go.Proofs.Ytilgmkhcpmegjaa.Ti Go.Proofs.Ytilgmkhcpmegjaa.Zs Go.Proofs.Ytilgmkhcpmegjaa.Tr Go.Proofs.Ytilgmkhcpmegjaa.Sn
theorem set_mid {α : Type} (l m : List α) (a y : α) {k : Nat} (h : k = l.length) : (l ++ a :: m).set k y = l ++ [y] ++ m := by subst h; simp
theorem info_dom : (Try.prog.info? 43).map (fun i => (i.zero, i.size, i.bytes)) = some (some (.slice none 0 0), 1, 24) := by kernel_rfl
theorem make_doms (n : Nat) (hn : n ≤ 1000000) (W : World) : (Instr.makeSlice 26 (.int .i64 (n : Int)) (.int .i64 (n : Int))).run Try.prog W = .ok (.slice (some ⟨W.heap.size, 0, none⟩) n n) (W.alloc (.cells (madeCells #[.slice none 0 0] n) 43)) := by
  obtain ⟨i0, hi, hz0, hz1, hz2⟩ := info_parts info_dom
  have h := run_make (P := Try.prog) W 26 43 i0 (.slice none 0 0) Try.underlying26 hi hz0 .i64 .i64 n n (by omega) (by omega) (by rw [hz2]; omega) (by omega)
  rw [hz1] at h
  simpa [Value.cells] using h
theorem made_doms (w : World) (n : Nat) : DAt w.heap.size n w (w.alloc (.cells (madeCells #[.slice none 0 0] n) 43)) (List.replicate n []) := by
  have hb := Bx.fresh w (madeCells #[.slice none 0 0] n) 43
  have hc : ∀ i, i < n → (w.alloc (.cells (madeCells #[.slice none 0 0] n) 43)).cell? ⟨w.heap.size, i, none⟩ = some (.slice none 0 0) := fun i hi => by
    have := (World.rowIs_made w (.slice none 0 0) n 43).cell hi
    simpa using this
  have hs : (madeCells #[Value.slice none 0 0] n).size = n := by simp [madeCells]
  have hz : ∀ (i : Nat) (u : Value), (madeCells #[Value.slice none 0 0] n)[i]? = some u → u = Value.slice none 0 0 := fun (i : Nat) (u : Value) hu => by
    have hi : i < n := by rw [← hs]; exact (Array.getElem?_eq_some_iff.1 hu).1
    have h1 := hb.cell i
    rw [hc i hi] at h1
    rw [hu] at h1
    exact (Option.some.inj h1).symm
  refine ⟨by simp, _, hb, hs, fun i d hd => ?_, fun i j u u' hu hu' _ b hb1 => by rw [hz i u hu] at hb1; simp [Value.ownBlock] at hb1⟩
  have hi : i < n := by
    have := (List.getElem?_eq_some_iff.1 hd).1
    simpa using this
  have hd2 : d = [] := by
    rw [List.getElem?_replicate, if_pos hi] at hd
    exact (Option.some.inj hd).symm
  subst hd2
  have h1 := hb.cell i
  rw [hc i hi] at h1
  refine ⟨.slice none 0 0, ?_, Sl.nil _ _ _, fun b hb => by simp [Value.ownBlock] at hb⟩
  have hi2 : i < (madeCells #[Value.slice none 0 0] n).size := by omega
  simpa [hi2] using h1.symm
end
section
open Go.RowKit
open Go.Proofs.Ytilgmkhcpmegjaa.Dig Go.Proofs.Ytilgmkhcpmegjaa.Lx Go.Proofs.Ytilgmkhcpmegjaa.Tk Go.Proofs.Ytilgmkhcpmegjaa.Ti Go.Proofs.Ytilgmkhcpmegjaa.Zs Go.Proofs.Ytilgmkhcpmegjaa.Tr Go.Proofs.Ytilgmkhcpmegjaa.Sn
end
end Go.Proofs.Ytilgmkhcpmegjaa.Ln
end
section
namespace Go.Proofs.Ytilgmkhcpmegjaa.Zs
open Go.RowKit
open Go.Proofs.Ytilgmkhcpmegjaa.Dig Go.Proofs.Ytilgmkhcpmegjaa.Lx Go.Proofs.Ytilgmkhcpmegjaa.Tk Go.Proofs.Ytilgmkhcpmegjaa.Ti
theorem withFull_any {w0 : World} (v : Value) (xs : List Rn) (lo hi : Int) (w : World) (h : Rw w0 w v xs) (hl : xs.length ≤ 8000000) :
    Calls Try.prog 161 #[v, .int .i64 lo, .int .i64 hi] w (RetW w0 w v (xs ++ one lo hi)) := by
  obtain ⟨A, c, rfl⟩ := h.form
  by_cases hc : lo > hi
  · have e : xs ++ one lo hi = xs := by rw [one, if_neg (by omega), List.append_nil]
    rw [e]
    have H := Lib.hid h
    clear h e
    go_enter Try.func161, Try.ntmps161
    go_wp2
    go_ret
    exact ⟨_, _, _, rfl, rfl, H.out, .refl _ _⟩
  · have e : xs ++ one lo hi = xs ++ [(lo, hi)] := by rw [one, if_pos (by omega)]
    rw [e]
    have H := Lib.hid h
    have P := Lib.hid (Bx.fresh w #[.int .i64 lo, .int .i64 hi] 46).two
    clear h e
    go_enter Try.func161, Try.ntmps161
    go_wp2_with (at_builtin; refine wpList_app (H.out.since (since_alloc _ _)) (by omega) (lo, hi) w.heap.size 1 P.out.1 P.out.2 (by rfl) _ _ rfl rfl rfl ?_; intro A2 c2 w2 h2 h3)
    go_ret
    exact ⟨_, _, _, rfl, by simp, h2, h3.pre (since_alloc _ _)⟩
end Go.Proofs.Ytilgmkhcpmegjaa.Zs
end
section
namespace Go.Proofs.Ytilgmkhcpmegjaa.Zs
open Go.RowKit
open Go.Proofs.Ytilgmkhcpmegjaa.Dig Go.Proofs.Ytilgmkhcpmegjaa.Lx Go.Proofs.Ytilgmkhcpmegjaa.Tk Go.Proofs.Ytilgmkhcpmegjaa.Ti
set_option maxRecDepth 20000 in
set_option maxHeartbeats 1000000 in
theorem cut_new (v : Value) (l : List Rn) (lo hi : Int) (w : World) (h : Sl 2 QR w v l) (hl : l.length ≤ 1100000) (hb : Bd l) :
    Calls Try.prog 186 #[v, .int .i64 lo, .int .i64 hi] w (RetF (cut l lo hi) w) := by
  obtain ⟨A, c, rfl⟩ := h.form
  cases hr : right l with
  | false =>
    have RA := Lib.hid (right_at h hl hb hr)
    have e : cut l lo hi = [] := by rw [cut, if_neg (by simp [hr])]
    have E := Lib.hid e
    clear h hb hr e
    go_enter Try.func186, Try.ntmps186
    go_wp2_with (go_at_call 94; (with_reducible refine (RA.out _ (Since.refl _)).mono ?_); rintro e w1 ⟨rfl, k1⟩)
    go_ret
    exact .none E.out k1
  | true =>
    have RA := Lib.hid (right_at h hl hb hr)
    obtain ⟨R, hR⟩ : ∃ R, R = cutF l lo hi := ⟨_, rfl⟩
    have e : cut l lo hi = R := by rw [cut, if_pos hr, hR]
    rw [e]
    obtain ⟨n, hn⟩ : ∃ n, n = l.length := ⟨_, rfl⟩
    rw [← hn] at h hl RA ⊢
    have H := Lib.hid h
    have HN := Lib.hid hn
    have HR := Lib.hid hR
    have WF := Lib.hid (fun (w0 : World) (A : Option Addr) (m c : Nat) (xs : List Rn) (a b : Int) (W : World) (h : Rw w0 W (.slice A m c) xs) (hl : xs.length ≤ 8000000) => withFull_any (.slice A m c) xs a b W h hl)
    clear h hn hb hR e hr
    go_enter Try.func186, Try.ntmps186
    go_wp2_with (go_at_call 94; (with_reducible refine (RA.out _ (Since.refl _)).mono ?_); rintro e w1 ⟨rfl, k1⟩)
    go_loopw [7, 15] (fun s i wr => ∃ (k : Nat) (A : Option Addr) (m c : Nat) (xs : List Rn), i = .int .i64 (k : Int) ∧ s = .slice A m c ∧ k ≤ n ∧ m ≤ k ∧ Hid (xs.length = m) ∧ Hid (Rw w wr (.slice A m c) xs) ∧ Hid (xs ++ cutF (l.drop k) lo hi = R)) (fun _ i _ => n - (intOf i).toNat)
    case atStart => exact ⟨0, none, 0, 0, [], rfl, rfl, Nat.zero_le _, Nat.le_refl _, rfl, .nil k1, HR.out.symm⟩
    case round =>
      obtain ⟨k, A2, m, c2, xs, rfl, rfl, hk, hm, HX, HW, HE⟩ := hrel
      by_cases hkn : k < n
      · have hkl : k < l.length := by have := HN.out; omega
        obtain ⟨g, o, rfl, e0, e1⟩ := elR (H.out.since stR HW.out.2) hkl
        have hst := HE.out
        rw [drop_at hkl, cutF, ← List.append_assoc] at hst
        generalize l[k] = y at *
        obtain ⟨lo0, hi0⟩ := y
        simp only at hst e0 e1
        have ka := Lib.hid (since_alloc wr (.cells #[.int .i64 lo0, .int .i64 hi0] 46))
        have ST := Lib.hid (fun (a b : Int) (ha : a = max lo lo0) (hb : b = min hi hi0) => show (xs ++ one a b) ++ cutF (l.drop (k + 1)) lo hi = R by rw [ha, hb]; exact hst)
        have WB := Lib.hid (fun (a b : Int) => WF.out w A2 m c2 xs a b _ (HW.out.since ka.out) (by have := HX.out; omega))
        have LN := Lib.hid (fun (a b : Int) => show (xs ++ one a b).length ≤ m + 1 from HX.out ▸ app_len xs a b)
        obtain ⟨r0, r1⟩ := (Bx.fresh wr #[.int .i64 lo0, .int .i64 hi0] 46).two
        clear hst hkl HE WF
        by_cases c1 : lo0 < lo <;> by_cases c2 : hi < hi0
        all_goals (
          go_wp2_with (go_at_call 161; (with_reducible refine (WB.out _ _).mono ?_); rintro e w2 ⟨A3, m3, c3, rfl, hm3, h3, -⟩; have hm4 : m3 ≤ m + 1 := (by rw [← hm3]; exact LN.out _ _))
          go_roundw)
        all_goals first
          | exact ⟨k + 1, A3, m3, c3, _, by go_num, rfl, by omega, by omega, hm3, h3, ST.out _ _ (by omega) (by omega)⟩
          | (simp [intOf]; omega)
      · obtain rfl : k = n := by omega
        have HE2 := Lib.hid (show xs = R by rw [← HE.out, List.drop_of_length_le (by have := HN.out; omega)]; simp [cutF])
        go_wp2
        go_ret
        exact .of HE2.out HX.out HW.out
end Go.Proofs.Ytilgmkhcpmegjaa.Zs
end
section
namespace Go.Proofs.Ytilgmkhcpmegjaa.Ln
open Go.RowKit
open Go.Proofs.Ytilgmkhcpmegjaa.Dig Go.Proofs.Ytilgmkhcpmegjaa.Lx Go.Proofs.Ytilgmkhcpmegjaa.Tk Go.Proofs.Ytilgmkhcpmegjaa.Ti Go.Proofs.Ytilgmkhcpmegjaa.Zs Go.Proofs.Ytilgmkhcpmegjaa.Tr Go.Proofs.Ytilgmkhcpmegjaa.Sn
theorem cut_at {B : Option Addr} {m cB : Nat} {d : List Rn} {w : World} (hS : Sl 2 QR w (.slice B m cB) d) (hr : right d = true) (W : World) (k : Since w W) (a b a' b' : Int) (ha : a' = a) (hb : b' = b) :
    Calls Try.prog 186 #[.slice B m cB, .int .i64 a', .int .i64 b'] W (fun e w' => ∃ A2 m2 c2, e = .returned (.slice A2 m2 c2) ∧ (cut d a b).length = m2 ∧ NewR w w' (.slice A2 m2 c2) (cut d a b) ∧ Since W w') := by
  subst ha hb
  exact (cut_new _ d a' b' W (hS.since stR k) (right_len hr) (okF_bd hr (Int.le_refl _))).mono fun _ _ h => by
    obtain ⟨A, m, c, h1, h2, h3, h4⟩ := newR_of h
    exact ⟨A, m, c, h1, h2, ⟨h3.1, fun b hb => ⟨Nat.le_trans k.size (h3.2 b hb).1, (h3.2 b hb).2⟩⟩, h4⟩
section
open Go.RowKit
open Go.Proofs.Ytilgmkhcpmegjaa.Dig Go.Proofs.Ytilgmkhcpmegjaa.Lx Go.Proofs.Ytilgmkhcpmegjaa.Tk Go.Proofs.Ytilgmkhcpmegjaa.Ti Go.Proofs.Ytilgmkhcpmegjaa.Zs Go.Proofs.Ytilgmkhcpmegjaa.Tr Go.Proofs.Ytilgmkhcpmegjaa.Sn
/-- the call has narrowed the domains in the block g to R, or says that there is no R -/
def RetL (R : Option Ds) (g n : Nat) (w0 w : World) (e : Ending) (w' : World) : Prop := e = .returned (.bool R.isSome) ∧ (∀ E, R = some E → DAt g n w0 w' E) ∧ Og g w w'
theorem RetL.no {R : Option Ds} {g n : Nat} {w0 w w' : World} (h : R = none) (k : Og g w w') : RetL R g n w0 w (.returned (.bool false)) w' := by subst h; exact ⟨rfl, fun E h => (by cases h), k⟩
theorem RetL.yes {R : Option Ds} {E : Ds} {g n : Nat} {w0 w w' : World} (h : R = some E) (hE : DAt g n w0 w' E) (k : Og g w w') : RetL R g n w0 w (.returned (.bool true)) w' := by subst h; exact ⟨rfl, fun E' h => by cases h; exact hE, k⟩
end
section
open Go.RowKit
open Go.Proofs.Ytilgmkhcpmegjaa.Dig Go.Proofs.Ytilgmkhcpmegjaa.Lx Go.Proofs.Ytilgmkhcpmegjaa.Tk Go.Proofs.Ytilgmkhcpmegjaa.Ti Go.Proofs.Ytilgmkhcpmegjaa.Zs Go.Proofs.Ytilgmkhcpmegjaa.Tr Go.Proofs.Ytilgmkhcpmegjaa.Sn
/-- a row of numbers in blocks from n on -/
def Rzz (n : Nat) (w : World) (v : Value) (xs : List Int) : Prop := ∃ cs, w.ownsRow n 2 1 v xs.length cs ∧ Rws 1 QI0 xs cs
theorem Rzz.set {n : Nat} {w : World} {v : Value} {xs : List Int} (h : Rzz n w v xs) {a : Addr} (ha : a.block < n) (u : Value) : Rzz n (w.setCell a u) v xs := by
  obtain ⟨cs, h1, h2⟩ := h
  exact ⟨cs, ownsRow_setCell_below h1 ha u, h2⟩
theorem Rzz.since {n : Nat} {w w' : World} {v : Value} {xs : List Int} (h : Rzz n w v xs) (k : Since w w') : Rzz n w' v xs := by
  obtain ⟨cs, h1, h2⟩ := h
  exact ⟨cs, owns_since h1 k, h2⟩
theorem Rzz.sl {n : Nat} {w : World} {v : Value} {xs : List Int} (h : Rzz n w v xs) : Sl 1 QI w v xs := by
  obtain ⟨cs, h1, h2⟩ := h
  have : Sl 1 (fun _ => QI0) w v xs := Sl.own h1 h2 rfl
  exact this
end
section
open Go.RowKit
open Go.Proofs.Ytilgmkhcpmegjaa.Dig Go.Proofs.Ytilgmkhcpmegjaa.Lx Go.Proofs.Ytilgmkhcpmegjaa.Tk Go.Proofs.Ytilgmkhcpmegjaa.Ti Go.Proofs.Ytilgmkhcpmegjaa.Zs Go.Proofs.Ytilgmkhcpmegjaa.Tr Go.Proofs.Ytilgmkhcpmegjaa.Sn
end
end Go.Proofs.Ytilgmkhcpmegjaa.Ln
end
