/- Both disks: one call of the law's act, kind 1. -/
import Derived.Test.YtdgljfoghonbaaaDkAct0
import Derived.BigRegion
namespace Go.Proofs.Ytdgljfoghonbaaa
open Go.RowKit DK


set_option maxRecDepth 100000 in
set_option maxHeartbeats 4000000 in
theorem act1_any (B d r : Nat) (D : Dv) (R : Rv) (x : Tx) (w : World) (h : Both B d r D R w) (hx : TxB B w x) (hm : x.d.tmod 9 = 1 ∨ x.d.tmod 9 = (-1)) :
    Calls Try.prog 11 #[.pointer (some ⟨d, 0, none⟩), .pointer (some ⟨r, 0, none⟩), .agg x.cells] w (ActP B d r D R x w) := by
  have hA : D.act x = D.sync x.f := by
    unfold Dv.act
    rcases hm with h | h <;> rw [h] <;> rfl
  have hA2 : R.act x = R.sync x.f := by
    unfold Rv.act
    rcases hm with h | h <;> rw [h] <;> rfl
  have hbo := h.ok.act x hx.n hx.i64s
  have hro := h.rok.act x hx.n hx.i64s
  have AP : ∀ (b : Bool) W, (Sim D R → b = true) → BQ B d r w x (D.act x) (R.act x) W → ActP B d r D R x w (.returned (.bool b)) W := fun b W hs hb => ⟨b, rfl, hs, ⟨h.hd, h.hr, h.ne, hb.dk, hb.rk, hbo, hro⟩, hb.bel⟩
  have hdok := h.ok
  have hrok := h.rok
  rw [hA, hA2] at AP
  have hbq := h.bq x
  have hq := hx.k4 D
  clear hA hA2 hbo hro
  have hcc : Sim D R → (R.syncC x.f) = (D.syncC x.f) := fun hs => (hs.sync x.f).1
  have FX : Hid (∀ R1 W, BQ B d r w x D R1 W → Calls Try.prog 20 #[.pointer (some ⟨d, 0, none⟩), .int .i64 x.f] W fun e W' => e = .returned (.int .u8 (D.syncC x.f)) ∧ BQ B d r w x (D.sync x.f) R1 W') := Lib.hid (fun R1 W hb => (sync_any d D x.f W hb.dk hdok).mono fun e W' he => ⟨he.1, hb.prog he.2.1 he.2.2⟩)
  have FY : Hid (∀ D1 W, BQ B d r w x D1 R W → Calls Try.prog 23 #[.pointer (some ⟨r, 0, none⟩), .int .i64 x.f] W fun e W' => e = .returned (.int .i64 (R.syncC x.f)) ∧ BQ B d r w x D1 (R.sync x.f) W') := Lib.hid (fun D1 W hb => (rsync_any r R x.f W hb.rk hrok.ok2).mono fun e W' he => ⟨he.1, hb.doc he.2.1 he.2.2⟩)
  have FIN : Hid (∀ W, BQ B d r w x (D.sync x.f) (R.sync x.f) W → ActP B d r D R x w (.returned (.bool ((D.syncC x.f) == (R.syncC x.f)))) W) := Lib.hid (fun W hb => AP _ W (fun hs => by rw [hcc hs]; exact beq_self_eq_true _) hb)
  have hwc : IntKind.i64.wrap (D.syncC x.f) = (D.syncC x.f) := codes_wrap (syncC_le D x.f)
  obtain ⟨xd, xf, xn, s, k, A, cap⟩ := x
  obtain ⟨m, q, s5, hmm, hm2, hss, hqq, hq2, hkl⟩ := hq
  simp only at hm hmm hm2 hss hqq hq2 hkl
  have HKL := Lib.hid hkl
  have i0 : (0 : Int) ≤ (m : Int) := by omega
  have i1 : (m : Int) ≤ (s.size : Int) := by omega
  have i2 : (0 : Int) ≤ (q : Int) := by omega
  have i3 : (q : Int) ≤ (cap : Int) := by have := hx.c; simp only at this; omega
  obtain ⟨W0, hW0⟩ : ∃ W0, W0 = (w.alloc (.cells #[.int .i64 xd, .int .i64 xf, .int .i64 xn, .string s5, .slice A q cap] 31)).drew := ⟨_, rfl⟩
  have HQ := Lib.hid (hbq s5 q W0 hW0 hkl.1 hkl.2)
  try simp only at FX FY
  have HW0 := Lib.hid hW0
  clear hkl hW0 hbq h hx hdok hrok AP hcc
  try simp only at hwc FIN
  obtain ⟨c, hc⟩ : ∃ c, c = (D.syncC xf) := ⟨_, rfl⟩
  obtain ⟨c2, hc2⟩ : ∃ c, c = (R.syncC xf) := ⟨_, rfl⟩
  rw [← hc] at hwc FX FIN
  rw [← hc2] at FY FIN
  clear hc hc2
  show Calls Try.prog 11 #[.pointer (some ⟨d, 0, none⟩), .pointer (some ⟨r, 0, none⟩), .agg #[.int .i64 xd, .int .i64 xf, .int .i64 xn, .string s, .slice A k.length cap]] w _
  rcases hm with hm | hm
  all_goals
    go_enter Try.func11, Try.ntmps11
    go_wp2_with fail
    go_region
    rw [← HW0.out]
    obtain ⟨q0, q1, q2, q3, q4⟩ := (HQ.out).reads (HKL.out.1) (HKL.out.2)
    clear HW0 hmm hss hqq
    go_wp2_with fail
    have HQ := Lib.hid HQ.out.drew
    go_region_held3 (fun w' => w'.cell? ⟨w.heap.size, 1, none⟩ = some (.int .i64 xf) ∧ w'.cell? ⟨w.heap.size, 3, none⟩ = some (.string s5)) (first | exact ⟨q1, q3⟩ | go_keep) (first | (go_at_call 20; refine (FX.out _ _ HQ.out).mono ?_; rintro e w1 ⟨rfl, hq⟩; obtain ⟨q0, q1, q2, q3, q4⟩ := (hq).reads (HKL.out.1) (HKL.out.2); replace HQ := Lib.hid hq; clear hq) | (go_at_call 23; refine (FY.out _ _ HQ.out).mono ?_; rintro e w1 ⟨rfl, hq⟩; obtain ⟨q0, q1, q2, q3, q4⟩ := (hq).reads (HKL.out.1) (HKL.out.2); replace HQ := Lib.hid hq; clear hq))
    all_goals
      have HF := Lib.hid (FIN.out _ HQ.out)
      clear FX FY FIN HQ
      go_wp2_with fail
      go_ret
      exact HF.out
end Go.Proofs.Ytdgljfoghonbaaa
