/- Both disks: same. -/
import Derived.Test.YtdgljfoghonbaaaRkOk
import Derived.Test.YtdgljfoghonbaaaDkWakes
import Derived.Test.YtdgljfoghonbaaaDkOpen
namespace Go.Proofs.Ytdgljfoghonbaaa
open Go.RowKit DK

/-- Both disks in memory, from B on. -/
structure Both (B d r : Nat) (D : Dv) (R : Rv) (w : World) : Prop where
  hd : B ≤ d
  hr : B ≤ r
  ne : d ≠ r
  dk : Dk d D w
  rk : Rk r R w
  ok : D.Ok
  rok : RFine R
theorem Both.below {B d r : Nat} {D : Dv} {R : Rv} {w w' : World} (h : Both B d r D R w) (hb : Below w.heap.size w w') : Both B d r D R w' := ⟨h.hd, h.hr, h.ne, h.dk.below hb, h.rk.below hb, h.ok, h.rok⟩
theorem rk_keep {d r : Nat} {D : Dv} {R : Rv} {w w' : World} (hd : Dk d D w) (hr : Rk r R w) (hne : d ≠ r) (hk : Kt 5 d w w') : Rk r R w' := by
  obtain ⟨va, vb, h, -⟩ := hd
  exact hr.kt hk (fun e => hne e.symm) (by decide) (by decide) h (by decide)
theorem dk_keep {d r : Nat} {D : Dv} {R : Rv} {w w' : World} (hd : Dk d D w) (hr : Rk r R w) (hne : d ≠ r) (hk : Kt 3 r w w') : Dk d D w' := by
  obtain ⟨vk, h, -⟩ := hr
  exact hd.kt hk hne (by decide) (by decide) h (by decide)
theorem ref_vals {D : Dv} {f : Int} (hf : fileB f = true) : D.ref f = if D.off = true then 240 else 0 := by
  unfold Dv.ref
  rw [if_pos hf]

set_option maxRecDepth 100000 in
set_option maxHeartbeats 2000000 in
theorem same_any (B d r : Nat) (D : Dv) (R : Rv) (w : World) (h : Both B d r D R w) (hs : Sim D R) : Calls Try.prog 10 #[.pointer (some ⟨d, 0, none⟩), .pointer (some ⟨r, 0, none⟩)] w fun e w' => e = .returned (.bool true) ∧ Below w.heap.size w w' := by
  obtain ⟨-, -, -, hd, hr, -, -⟩ := h
  have CO := Lib.hid (fun W (hb : Below w.heap.size w W) => (off_any d D W (hd.below hb)).mono fun e w' he => (⟨he.1, he.2.symm⟩ : e = .returned (.bool D.off) ∧ w' = W))
  have L0 := Lib.hid (fun W (hb : Below w.heap.size w W) => (lasts_any d D 0 W (hd.below hb)).mono fun e w' he => (⟨he.1, he.2.symm⟩ : e = .returned (.int .i64 (D.last 0)) ∧ w' = W))
  have L1 := Lib.hid (fun W (hb : Below w.heap.size w W) => (lasts_any d D 1 W (hd.below hb)).mono fun e w' he => (⟨he.1, he.2.symm⟩ : e = .returned (.int .i64 (D.last 1)) ∧ w' = W))
  have A0 := Lib.hid (fun W (hb : Below w.heap.size w W) => read_any d D 0 W (hd.below hb))
  have A1 := Lib.hid (fun W (hb : Below w.heap.size w W) => read_any d D 1 W (hd.below hb))
  have B0 := Lib.hid (fun W (hb : Below w.heap.size w W) => rread_any r R 0 W (hr.below hb))
  have B1 := Lib.hid (fun W (hb : Below w.heap.size w W) => rread_any r R 1 W (hr.below hb))
  rw [hs.rd, hs.find] at B0 B1
  rw [ref_vals (by decide)] at A0 A1 B0 B1
  rw [show D.last 0 = D.a.l from rfl] at L0
  rw [show D.last 1 = D.b.l from rfl] at L1
  obtain ⟨vk, hr⟩ := hr
  obtain ⟨-, -, c2, c3, -, c5, -⟩ := hr.cells
  rw [hs.off] at c5
  rw [hs.a] at c2
  rw [hs.b] at c3
  generalize D.a.l = la at *
  generalize D.b.l = lb at *
  generalize D.rd 0 = s0 at *
  generalize D.rd 1 = s1 at *
  clear hd hr hs
  cases ho : D.off with
  | true =>
    rw [ho] at CO c5
    rw [if_pos ho] at A0 A1 B0 B1
    have hw : IntKind.i64.wrap 240 = 240 := by rw [IntKind.wrap_i64]; rfl
    clear ho
    go_enter Try.func10, Try.ntmps10
    go_wp2_with fail
    go_quiet ((go_at_call 15; refine Calls.quiet_of_same (CO.out _ ?_); exact ⟨rfl, rfl, rfl, Nat.le_refl _, fun _ _ => rfl⟩))
    go_wp2_with fail
    refine wp_loop_rounds 3 ?_
    rw [rounds_succ]
    go_wp2_with fail
    refine (A0.out _ ?_).mono ?_
    · exact ⟨rfl, rfl, rfl, Nat.le_refl _, fun _ _ => rfl⟩
    rintro e w' ⟨rfl, rfl⟩
    go_wp2_with fail
    refine (B0.out _ ?_).mono ?_
    · exact ⟨rfl, rfl, rfl, Nat.le_refl _, fun _ _ => rfl⟩
    rintro e w' ⟨rfl, rfl⟩
    go_wp2_with fail
    go_quiet ((go_at_call 13; refine (L0.out _ ?_).mono (fun e w' he => ⟨he.1, _, he.2⟩); exact ⟨rfl, rfl, rfl, Nat.le_refl _, fun _ _ => rfl⟩))
    go_wp2_with fail
    rw [rounds_succ]
    go_wp2_with fail
    refine (A1.out _ ?_).mono ?_
    · exact ⟨rfl, rfl, rfl, Nat.le_refl _, fun _ _ => rfl⟩
    rintro e w' ⟨rfl, rfl⟩
    go_wp2_with fail
    refine (B1.out _ ?_).mono ?_
    · exact ⟨rfl, rfl, rfl, Nat.le_refl _, fun _ _ => rfl⟩
    rintro e w' ⟨rfl, rfl⟩
    go_wp2_with fail
    go_quiet ((go_at_call 13; refine (L1.out _ ?_).mono (fun e w' he => ⟨he.1, _, he.2⟩); exact ⟨rfl, rfl, rfl, Nat.le_refl _, fun _ _ => rfl⟩))
    go_wp2_with fail
    rw [rounds_succ]
    go_wp2_with fail
    go_ret
    exact ⟨rfl, rfl, rfl, rfl, Nat.le_refl _, fun _ _ => rfl⟩
  | false =>
    rw [ho] at CO c5
    rw [if_neg (by rw [ho]; decide)] at A0 A1 B0 B1
    have hw : IntKind.i64.wrap 0 = 0 := by rw [IntKind.wrap_i64]; rfl
    clear ho
    go_enter Try.func10, Try.ntmps10
    go_wp2_with fail
    go_quiet ((go_at_call 15; refine Calls.quiet_of_same (CO.out _ ?_); exact ⟨rfl, rfl, rfl, Nat.le_refl _, fun _ _ => rfl⟩))
    go_wp2_with fail
    refine wp_loop_rounds 3 ?_
    rw [rounds_succ]
    go_wp2_with fail
    refine (A0.out _ ?_).mono ?_
    · exact ⟨rfl, rfl, rfl, Nat.le_refl _, fun _ _ => rfl⟩
    rintro e w' ⟨rfl, rfl⟩
    go_wp2_with fail
    refine (B0.out _ ?_).mono ?_
    · exact ⟨rfl, rfl, rfl, Nat.le_refl _, fun _ _ => rfl⟩
    rintro e w' ⟨rfl, rfl⟩
    go_wp2_with fail
    go_quiet ((go_at_call 13; refine (L0.out _ ?_).mono (fun e w' he => ⟨he.1, _, he.2⟩); exact ⟨rfl, rfl, rfl, Nat.le_refl _, fun _ _ => rfl⟩))
    go_wp2_with fail
    rw [rounds_succ]
    go_wp2_with fail
    refine (A1.out _ ?_).mono ?_
    · exact ⟨rfl, rfl, rfl, Nat.le_refl _, fun _ _ => rfl⟩
    rintro e w' ⟨rfl, rfl⟩
    go_wp2_with fail
    refine (B1.out _ ?_).mono ?_
    · exact ⟨rfl, rfl, rfl, Nat.le_refl _, fun _ _ => rfl⟩
    rintro e w' ⟨rfl, rfl⟩
    go_wp2_with fail
    go_quiet ((go_at_call 13; refine (L1.out _ ?_).mono (fun e w' he => ⟨he.1, _, he.2⟩); exact ⟨rfl, rfl, rfl, Nat.le_refl _, fun _ _ => rfl⟩))
    go_wp2_with fail
    rw [rounds_succ]
    go_wp2_with fail
    go_ret
    exact ⟨rfl, rfl, rfl, rfl, Nat.le_refl _, fun _ _ => rfl⟩
end Go.Proofs.Ytdgljfoghonbaaa
