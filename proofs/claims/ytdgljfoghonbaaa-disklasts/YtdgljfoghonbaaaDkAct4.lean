/- Both disks: one call of the law's act, kind 4. -/
import Derived.Test.YtdgljfoghonbaaaDkAct0
import Derived.BigRegion
namespace Go.Proofs.Ytdgljfoghonbaaa
open Go.RowKit DK


set_option maxRecDepth 100000 in
set_option maxHeartbeats 4000000 in
theorem act4_any (B d r : Nat) (D : Dv) (R : Rv) (x : Tx) (w : World) (h : Both B d r D R w) (hx : TxB B w x) (hm : x.d.tmod 9 = 4 ∨ x.d.tmod 9 = (-4)) :
    Calls Try.prog 11 #[.pointer (some ⟨d, 0, none⟩), .pointer (some ⟨r, 0, none⟩), .agg x.cells] w (ActP B d r D R x w) := by
  have hA : D.act x = D.asks x.n (numAt x.k4 0) (numAt x.k4 1) := by
    unfold Dv.act
    rcases hm with h | h <;> rw [h] <;> rfl
  have hA2 : R.act x = R.ask x.n x.k4 := by
    unfold Rv.act
    rcases hm with h | h <;> rw [h] <;> rfl
  have hbo := h.ok.act x hx.n hx.i64s
  have hro := h.rok.act x hx.n hx.i64s
  have AP : ∀ (b : Bool) W, (Sim D R → b = true) → BQ B d r w x (D.act x) (R.act x) W → ActP B d r D R x w (.returned (.bool b)) W := fun b W hs hb => ⟨b, rfl, hs, ⟨h.hd, h.hr, h.ne, hb.dk, hb.rk, hbo, hro⟩, hb.bel⟩
  have hdok := h.ok
  have hrok := h.rok
  rw [hA, hA2] at AP
  have hbq := h.bq x
  have hq := hx.k4 D
  clear hA hA2 hbo hro
  have FX : Hid (∀ W, BQ B d r w x D R W → Calls Try.prog 17 #[.pointer (some ⟨d, 0, none⟩), .int .i64 x.n, .slice x.A x.k4.length x.cap] W fun e W' => e = .returned (.tuple #[]) ∧ BQ B d r w x (D.asks x.n (numAt x.k4 0) (numAt x.k4 1)) R W') := Lib.hid (fun W hb => (cut_any d D x.n x.A x.k4 x.cap W (hx.kints hb) hb.dk).mono fun e W' he => ⟨he.1, hb.prog he.2.1 he.2.2⟩)
  have FY : Hid (∀ W, BQ B d r w x (D.asks x.n (numAt x.k4 0) (numAt x.k4 1)) R W → Calls Try.prog 25 #[.pointer (some ⟨r, 0, none⟩), .int .i64 x.n, .slice x.A x.k4.length x.cap] W fun e W' => e = .returned (.tuple #[]) ∧ BQ B d r w x (D.asks x.n (numAt x.k4 0) (numAt x.k4 1)) (R.ask x.n x.k4) W') := Lib.hid (fun W hb => (ask_any r R x.n x.A x.k4 x.cap W hb.rk x.k4_le (hx.rints hb)).mono fun e W' he => ⟨he.1, hb.doc he.2.1 he.2.2⟩)
  have FIN : Hid (∀ W, BQ B d r w x (D.asks x.n (numAt x.k4 0) (numAt x.k4 1)) (R.ask x.n x.k4) W → ActP B d r D R x w (.returned (.bool true)) W) := Lib.hid (fun W hb => AP true W (fun _ => rfl) hb)
  obtain ⟨xd, xf, xn, s, k, A, cap⟩ := x
  obtain ⟨m, q, s5, hmm, hm2, hss, hqq, hq2, hkl⟩ := hq
  simp only at hm hmm hm2 hss hqq hq2 hkl
  have HKL := Lib.hid hkl
  have i0 : (0 : Int) ≤ (m : Int) := by omega
  have i1 : (m : Int) ≤ (s.size : Int) := by omega
  have i2 : (0 : Int) ≤ (q : Int) := by omega
  have i3 : (q : Int) ≤ (cap : Int) := by have := hx.c; simp only at this; omega
  obtain ⟨W0, hW0⟩ : ∃ W0, W0 = (w.alloc (.cells #[.int .i64 xd, .int .i64 xf, .int .i64 xn, .string s5, .slice A q cap] 31)).drew := ⟨_, rfl⟩
  have HQ := Lib.hid (hbq s5 q W0 hW0 hkl.1 hkl.2)
  have e4 : (Tx.k4 ⟨xd, xf, xn, s, k, A, cap⟩).length = q := hkl.2
  rw [e4] at FX FY
  try simp only at FX FY
  have HW0 := Lib.hid hW0
  clear hkl hW0 hbq h hx hdok hrok AP e4
  show Calls Try.prog 11 #[.pointer (some ⟨d, 0, none⟩), .pointer (some ⟨r, 0, none⟩), .agg #[.int .i64 xd, .int .i64 xf, .int .i64 xn, .string s, .slice A k.length cap]] w _
  rcases hm with hm | hm
  all_goals
    go_enter Try.func11, Try.ntmps11
    go_wp2_with fail
    go_region
    rw [← HW0.out]
    obtain ⟨q0, q1, q2, q3, q4⟩ := (HQ.out).reads (HKL.out.1) (HKL.out.2)
    clear HW0 hmm hss hqq
    go_wp2_with fail
    refine (FX.out _ HQ.out).mono ?_
    rintro e w1 ⟨rfl, hq1⟩
    have HQ1 := Lib.hid hq1
    clear q0 q1 q2 q3 q4
    obtain ⟨q0, q1, q2, q3, q4⟩ := (hq1).reads (HKL.out.1) (HKL.out.2)
    clear FX hq1 HQ
    go_wp2_with fail
    refine (FY.out _ HQ1.out).mono ?_
    rintro e w2 ⟨rfl, hq2⟩
    have HF := Lib.hid (FIN.out _ hq2)
    clear FY hq2 HQ1 FIN
    go_wp2_with fail
    go_ret
    exact HF.out
end Go.Proofs.Ytdgljfoghonbaaa
