/- The disk's lose, Crash, Cut. -/
import Derived.Test.YtdgljfoghonbaaaDkLose
namespace Go.Proofs.Ytdgljfoghonbaaa
open Go.RowKit DK

/-- The numbers kept read j for the first file and k for the second one, also behind the first file's loss. -/
def Kept2 (d : Nat) (D : Dv) (w : World) (A : Option Addr) (n : Nat) (j k : Int) : Prop :=
  (n = 0 ∧ j = 0 ∧ k = 0) ∨ ∃ g o, A = some ⟨g, o, none⟩ ∧ w.cell? ⟨g, o, none⟩ = some (.int .i64 j) ∧ ((n = 1 ∧ k = 0) ∨ (2 ≤ n ∧ ∀ w', Kt 5 d w w' → Dk d { D with a := D.a.lose j } w' → w'.cell? ⟨g, o + 1, none⟩ = some (.int .i64 k)))
/-- What the loss of power leaves. -/
def LostP (d : Nat) (D : Dv) (w : World) (e : Ending) (w' : World) : Prop := e = .returned (.tuple #[]) ∧ Dk d D w' ∧ Kt 5 d w w'

set_option maxRecDepth 100000 in
set_option maxHeartbeats 1000000 in
theorem dlose_any (d : Nat) (D : Dv) (A : Option Addr) (n cap : Nat) (j k : Int) (w : World) (hj : I64 j) (hk : I64 k) (hn : n ≤ maxLen) (H : Kept2 d D w A n j k) (h : Dk d D w) (ho : D.Ok) :
    Calls Try.prog 32 #[.pointer (some ⟨d, 0, none⟩), .slice A n cap] w (LostP d (D.lose j k) w) := by
  unfold maxLen at hn
  have HA := Lib.hid (loseA_any d D j w hj h ho)
  have HB := Lib.hid (fun w1 h1 => loseB_any d { D with a := D.a.lose j } k w1 hk h1 (by
    have := ho.lose j 0
    obtain ⟨h1, h2, h3, h4, h5, h6, h7, h8⟩ := ho
    have a := Fl.lose_len h1 j
    have a2 := Fl.at_le h1 j
    refine ⟨?_, h2, ?_, h4, h5, h6, h7, h8⟩
    · show (D.a.lose j).l ≤ (D.a.lose j).s.length; omega
    · show (D.a.lose j).s.length + D.b.s.length ≤ D.lim; omega))
  clear h ho hj hk
  rcases H with ⟨rfl, rfl, rfl⟩ | ⟨g, o, rfl, c0, ⟨rfl, rfl⟩ | ⟨hn2, c1⟩⟩
  · go_enter Try.func32, Try.ntmps32
    go_wp2_with fail
    refine wp_loop_rounds 3 ?_
    rw [rounds_succ]
    go_wp2_with fail
    refine HA.out.mono ?_
    rintro e w1 ⟨rfl, h1, k1⟩
    have HB1 := Lib.hid (HB.out w1 h1)
    have K1 := Lib.hid k1
    clear HA HB h1 k1
    go_wp2_with fail
    rw [rounds_succ]
    go_wp2_with fail
    refine HB1.out.mono ?_
    rintro e w2 ⟨rfl, h2, k2⟩
    have HF : Hid (LostP d (D.lose 0 0) w (.returned (.tuple #[])) w2) := Lib.hid ⟨rfl, h2, K1.out.trans k2⟩
    clear HB1 h2 k2 K1
    go_wp2_with fail
    rw [rounds_succ]
    go_wp2_with fail
    go_end0
    exact HF.out
  · go_enter Try.func32, Try.ntmps32
    go_wp2_with fail
    refine wp_loop_rounds 3 ?_
    rw [rounds_succ]
    go_wp2_with fail
    refine HA.out.mono ?_
    rintro e w1 ⟨rfl, h1, k1⟩
    have HB1 := Lib.hid (HB.out w1 h1)
    have K1 := Lib.hid k1
    clear HA HB h1 k1
    go_wp2_with fail
    rw [rounds_succ]
    go_wp2_with fail
    refine HB1.out.mono ?_
    rintro e w2 ⟨rfl, h2, k2⟩
    have HF : Hid (LostP d (D.lose j 0) w (.returned (.tuple #[])) w2) := Lib.hid ⟨rfl, h2, K1.out.trans k2⟩
    clear HB1 h2 k2 K1
    go_wp2_with fail
    rw [rounds_succ]
    go_wp2_with fail
    go_end0
    exact HF.out
  · have C1 := Lib.hid c1
    have hn1 : (1 : Int) < (n : Int) := by omega
    have hn0 : (0 : Int) < (n : Int) := by omega
    clear c1
    go_enter Try.func32, Try.ntmps32
    go_wp2_with fail
    refine wp_loop_rounds 3 ?_
    rw [rounds_succ]
    go_wp2_with fail
    refine HA.out.mono ?_
    rintro e w1 ⟨rfl, h1, k1⟩
    have HB1 := Lib.hid (HB.out w1 h1)
    have c1 := C1.out w1 k1 h1
    have K1 := Lib.hid k1
    clear HA HB h1 k1 C1
    go_wp2_with fail
    rw [rounds_succ]
    go_wp2_with fail
    refine HB1.out.mono ?_
    rintro e w2 ⟨rfl, h2, k2⟩
    have HF : Hid (LostP d (D.lose j k) w (.returned (.tuple #[])) w2) := Lib.hid ⟨rfl, h2, K1.out.trans k2⟩
    clear HB1 h2 k2 K1
    go_wp2_with fail
    rw [rounds_succ]
    go_wp2_with fail
    go_end0
    exact HF.out

/-- Numbers that only the disk's own block and rows of bytes could turn, and don't. -/
def KInts (d : Nat) (w : World) (A : Option Addr) (l : List Int) : Prop := ∀ w', Kt 5 d w w' → Ints w' A l
theorem KInts.old {d : Nat} {w : World} {A : Option Addr} {l : List Int} {w0 : World} (h : Ints w0 A l) (hd : w0.heap.size ≤ d) (hb : Below w0.heap.size w0 w) : KInts d w A l := fun _ hk => h.below (hb.trans (hk.1.mono hd))
theorem KInts.kept2 {d : Nat} {w : World} {A : Option Addr} {l : List Int} (h : KInts d w A l) (D : Dv) : Kept2 d D w A l.length (at_ l 0) (at_ l 1) := by
  have h0 := h w (Kt.refl _ _ _)
  match l, h, h0 with
  | [], _, _ => exact .inl ⟨rfl, rfl, rfl⟩
  | [a], _, h0 =>
    obtain ⟨-, g, o, rfl, hg, hc⟩ := h0 0 a rfl
    exact .inr ⟨g, o, rfl, hc, .inl ⟨rfl, rfl⟩⟩
  | a :: b :: l, h, h0 =>
    obtain ⟨-, g, o, rfl, hg, hc⟩ := h0 0 a rfl
    refine .inr ⟨g, o, rfl, hc, .inr ⟨by simp, fun w' hk _ => ?_⟩⟩
    obtain ⟨-, g', o', e, hg', hc'⟩ := h w' hk 1 b rfl
    injection e with e
    injection e with e1 e2
    subst e1 e2
    exact hc'

theorem crash_nil (A : Option Addr) (n cap : Nat) (w : World) : Calls Try.prog 14 #[.pointer none, .slice A n cap] w fun e w' => e = .returned (.tuple #[]) ∧ w = w' := by
  go_enter Try.func14, Try.ntmps14
  go_wp2
  refine bodyPost_ret (results_none rfl _ _ _) rfl ?_
  exact ⟨rfl, rfl⟩
set_option maxRecDepth 100000 in
set_option maxHeartbeats 1000000 in
theorem crash_any (d : Nat) (D : Dv) (A : Option Addr) (l : List Int) (cap : Nat) (w : World) (hn : l.length ≤ maxLen) (H : KInts d w A l) (h : Dk d D w) (ho : D.Ok) :
    Calls Try.prog 14 #[.pointer (some ⟨d, 0, none⟩), .slice A l.length cap] w (LostP d (D.crash (at_ l 0) (at_ l 1)) w) := by
  have hi := H w (Kt.refl _ _ _)
  have CL := Lib.hid (dlose_any d D A l.length cap (at_ l 0) (at_ l 1) w (at_i64 hi 0) (at_i64 hi 1) hn (H.kept2 D) h ho)
  have CO := Lib.hid (on_any d D w h)
  have CO2 := Lib.hid (fun w1 h1 => on_any d (D.lose (at_ l 0) (at_ l 1)) w1 h1)
  obtain ⟨va, vb, h⟩ := h
  obtain ⟨-, -, -, -, -, c5, -, -, -, -⟩ := h.cells
  have hD : D.crash (at_ l 0) (at_ l 1) = (if D.off = true then D else D.lose (at_ l 0) (at_ l 1)).on := rfl
  have HD := Lib.hid hD
  clear hi h ho H hD
  generalize l.length = n at *
  unfold maxLen at hn
  by_cases hoff : D.off = true
  · rw [hoff] at c5
    rw [HD.out, if_pos hoff]
    clear hoff HD
    go_enter Try.func14, Try.ntmps14
    go_wp2_with fail
    refine CO.out.mono ?_
    rintro e w1 ⟨rfl, h1, k1⟩
    have HF : Hid (LostP d D.on w (.returned (.tuple #[])) w1) := Lib.hid ⟨rfl, h1, k1⟩
    clear h1 k1
    go_wp2_with fail
    go_end0
    exact HF.out
  · have hoff' : D.off = false := by simpa using hoff
    rw [hoff'] at c5
    rw [HD.out, if_neg hoff]
    clear hoff hoff' HD
    go_enter Try.func14, Try.ntmps14
    go_wp2_with fail
    refine CL.out.mono ?_
    rintro e w1 ⟨rfl, h1, k1⟩
    have C2 := Lib.hid (CO2.out w1 h1)
    have K1 := Lib.hid k1
    clear h1 k1 CO CO2 CL
    go_wp2_with fail
    refine C2.out.mono ?_
    rintro e w2 ⟨rfl, h2, k2⟩
    have HF : Hid (LostP d (D.lose (at_ l 0) (at_ l 1)).on w (.returned (.tuple #[])) w2) := Lib.hid ⟨rfl, h2, K1.out.trans k2⟩
    clear h2 k2 C2 K1
    go_wp2_with fail
    go_end0
    exact HF.out
end Go.Proofs.Ytdgljfoghonbaaa
