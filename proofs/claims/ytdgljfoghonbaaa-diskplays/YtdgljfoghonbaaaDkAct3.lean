/- Both disks: one call of the law's act, kind 3. -/
import Derived.Test.YtdgljfoghonbaaaDkAct0
import Derived.BigRegion
namespace Go.Proofs.Ytdgljfoghonbaaa
open Go.RowKit DK


set_option maxRecDepth 100000 in
set_option maxHeartbeats 4000000 in
theorem act3_any (B d r : Nat) (D : Dv) (R : Rv) (x : Tx) (w : World) (h : Both B d r D R w) (hx : TxB B w x) (hm : x.d.tmod 9 = 3 ∨ x.d.tmod 9 = (-3)) :
    Calls Try.prog 11 #[.pointer (some ⟨d, 0, none⟩), .pointer (some ⟨r, 0, none⟩), .agg x.cells] w (ActP B d r D R x w) := by
  have hA : D.act x = D := by
    unfold Dv.act
    rcases hm with h | h <;> rw [h] <;> rfl
  have hA2 : R.act x = R := by
    unfold Rv.act
    rcases hm with h | h <;> rw [h] <;> rfl
  have hbo := h.ok.act x hx.n hx.i64s
  have hro := h.rok.act x hx.n hx.i64s
  have AP : ∀ (b : Bool) W, (Sim D R → b = true) → BQ B d r w x (D.act x) (R.act x) W → ActP B d r D R x w (.returned (.bool b)) W := fun b W hs hb => ⟨b, rfl, hs, ⟨h.hd, h.hr, h.ne, hb.dk, hb.rk, hbo, hro⟩, hb.bel⟩
  have hdok := h.ok
  have hrok := h.rok
  rw [hA, hA2] at AP
  have hbq := h.bq x
  have hq := hx.k4 D
  clear hA hA2 hbo hro
  have FX : Hid (∀ W, BQ B d r w x D R W → Calls Try.prog 12 #[.pointer (some ⟨d, 0, none⟩), .int .i64 x.f] W fun e W' => e = .returned (.tuple #[.string ⟨(D.rd x.f).toArray⟩, .int .u8 (D.ref x.f)]) ∧ W = W') := Lib.hid (fun W hb => read_any d D x.f W hb.dk)
  have FY : Hid (∀ W, BQ B d r w x D R W → Calls Try.prog 22 #[.pointer (some ⟨r, 0, none⟩), .int .i64 x.f] W fun e W' => e = .returned (.tuple #[.string ⟨(R.rd x.f).toArray⟩, .int .i64 (R.find x.f)]) ∧ W = W') := Lib.hid (fun W hb => rread_any r R x.f W hb.rk)
  obtain ⟨c, hcd⟩ : ∃ c, c = D.ref x.f := ⟨_, rfl⟩
  obtain ⟨c2, hcr⟩ : ∃ c, c = R.find x.f := ⟨_, rfl⟩
  obtain ⟨s1, hsd⟩ : ∃ s : ByteArray, s = ⟨(D.rd x.f).toArray⟩ := ⟨_, rfl⟩
  obtain ⟨s2, hsr⟩ : ∃ s : ByteArray, s = ⟨(R.rd x.f).toArray⟩ := ⟨_, rfl⟩
  have FIN : Hid (∀ b W, (Sim D R → b = true) → BQ B d r w x D R W → ActP B d r D R x w (.returned (.bool b)) W) := Lib.hid AP
  have HSM : Hid (Sim D R → s1 = s2 ∧ c = c2) := Lib.hid (fun hs => ⟨by rw [hsd, hsr, hs.rd], by rw [hcd, hcr, hs.find]⟩)
  have hwc : IntKind.i64.wrap c = c := by rw [hcd]; exact codes_wrap (ref_le D x.f)
  rw [← hcd, ← hsd] at FX
  rw [← hcr, ← hsr] at FY
  clear hcd hcr hsd hsr
  obtain ⟨xd, xf, xn, s, k, A, cap⟩ := x
  obtain ⟨m, q, s5, hmm, hm2, hss, hqq, hq2, hkl⟩ := hq
  simp only at hm hmm hm2 hss hqq hq2 hkl
  have HKL := Lib.hid hkl
  have i0 : (0 : Int) ≤ (m : Int) := by omega
  have i1 : (m : Int) ≤ (s.size : Int) := by omega
  have i2 : (0 : Int) ≤ (q : Int) := by omega
  have i3 : (q : Int) ≤ (cap : Int) := by have := hx.c; simp only at this; omega
  obtain ⟨W0, hW0⟩ : ∃ W0, W0 = (w.alloc (.cells #[.int .i64 xd, .int .i64 xf, .int .i64 xn, .string s5, .slice A q cap] 31)).drew := ⟨_, rfl⟩
  have HQ := Lib.hid (hbq s5 q W0 hW0 hkl.1 hkl.2)
  try simp only at FX FY
  have HW0 := Lib.hid hW0
  clear hkl hW0 hbq h hx hdok hrok AP
  show Calls Try.prog 11 #[.pointer (some ⟨d, 0, none⟩), .pointer (some ⟨r, 0, none⟩), .agg #[.int .i64 xd, .int .i64 xf, .int .i64 xn, .string s, .slice A k.length cap]] w _
  rcases hm with hm | hm
  all_goals
    go_enter Try.func11, Try.ntmps11
    go_wp2_with fail
    go_region
    rw [← HW0.out]
    obtain ⟨q0, q1, q2, q3, q4⟩ := (HQ.out).reads (HKL.out.1) (HKL.out.2)
    clear HW0 hmm hss hqq
    go_wp2_with fail
    refine (FX.out _ HQ.out).mono ?_
    rintro e w' ⟨rfl, rfl⟩
    go_wp2_with fail
    refine (FY.out _ HQ.out).mono ?_
    rintro e w' ⟨rfl, rfl⟩
    by_cases hse : (s1.toList == s2.toList) = true
    · have HF := Lib.hid (FIN.out (c == c2) _ (fun hs => by rw [(HSM.out hs).2]; exact beq_self_eq_true _) HQ.out)
      clear FX FY FIN HQ HSM
      go_wp2_with fail
      go_ret
      exact HF.out
    · have hse' : (s1.toList == s2.toList) = false := by simpa using hse
      have HF := Lib.hid (FIN.out false _ (fun hs => by rw [(HSM.out hs).1] at hse; exact absurd (beq_self_eq_true _) hse) HQ.out)
      clear FX FY FIN HQ HSM hse
      go_wp2_with fail
      go_ret
      exact HF.out
end Go.Proofs.Ytdgljfoghonbaaa
