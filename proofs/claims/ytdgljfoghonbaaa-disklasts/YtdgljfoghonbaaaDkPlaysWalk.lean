/- The law DiskPlays. -/
import Derived.Test.YtdgljfoghonbaaaDkActs
namespace Go.Proofs.Ytdgljfoghonbaaa
open Go.RowKit DK

/-- The state of the law's loop. -/
def PlI (w : World) (d r : Nat) (wr : World) : Prop := ∃ D R, Both w.heap.size d r D R wr ∧ Sim D R ∧ Below w.heap.size w wr
/-- One call of the script, as the loop comes to it. -/
theorem acts_at {w wr : World} {A : Option Addr} {l : List Tx} (hs : Acts w A l) (hb : Below w.heap.size w wr) {k : Nat} (hk : k < l.length) : ∃ x g o, l[k]? = some x ∧ A = some ⟨g, o, none⟩ ∧ (∀ (j : Nat) v, x.cells[j]? = some v → wr.cell? ⟨g, o + k * 5 + j, none⟩ = some v) ∧ x.Fine w := by
  obtain ⟨hF, g, o, hA, hg, hc⟩ := hs k l[k] (List.getElem?_eq_getElem hk)
  exact ⟨l[k], g, o, List.getElem?_eq_getElem hk, hA, fun j v hv => (hb.cell (p := ⟨g, _, none⟩) hg).trans (hc j v hv), hF⟩

set_option maxRecDepth 100000 in
set_option maxHeartbeats 4000000 in
theorem diskPlays_walk (w : World) (lim : Int) (_ : (Lit.int .i64 lim).wf = true) (A : Option Addr) (cap : Nat) (l : List Tx) (hl : l.length ≤ maxLen) (hs : Acts w A l) (hc : l.length ≤ cap) :
    Calls Try.prog 3 #[.int .i64 lim, .slice A l.length cap] w fun e w' => e = .returned (.bool true) ∧ Below w.heap.size w w' := by
  unfold maxLen at hl
  have CN := Lib.hid (new_any lim w)
  have CR := Lib.hid (fun w1 => rnew_any lim w1)
  have CW := Lib.hid wakes_any
  have CS := Lib.hid (fun d r D R W h hs => same_any w.heap.size d r D R W h hs)
  have CA := Lib.hid (fun d r D R x W h hx => act_any w.heap.size d r D R x W h hx)
  have HS := Lib.hid hs
  obtain ⟨n, hm, hm1, hm2⟩ : ∃ n : Nat, (if (100 : Int) < (l.length : Int) then (100 : Int) else (l.length : Int)) = (n : Int) ∧ n ≤ 100 ∧ n ≤ l.length := ⟨min l.length 100, by split <;> omega, by omega, by omega⟩
  have hm3 : ((n : Int)).toNat = n := by omega
  have hm4 : max (n : Int) 0 = n := by omega
  have j0 : (0 : Int) ≤ (n : Int) := by omega
  have j1 : (n : Int) ≤ (cap : Int) := by omega
  clear hs
  go_enter Try.func3, Try.ntmps3
  go_wp2_with fail
  refine CN.out.mono ?_
  rintro e w1 ⟨rfl, hd, b1⟩
  have HD := Lib.hid hd
  have B1 := Lib.hid b1
  clear hd b1 CN
  go_wp2_with fail
  refine (CR.out w1).mono ?_
  rintro e w2 ⟨rfl, hr, b2⟩
  have HB := Lib.hid (both_new HD.out B1.out hr b2)
  have B2 := Lib.hid (B1.out.trans (b2.mono B1.out.size))
  clear hr b2 CR HD B1
  go_wp2_with fail
  refine (CW.out w2).mono ?_
  rintro e w3 ⟨rfl, b3⟩
  have HB3 := Lib.hid (HB.out.below b3)
  have B3 := Lib.hid (B2.out.trans (b3.mono B2.out.size))
  clear b3 CW HB B2
  go_wp2_with fail
  refine (CS.out _ _ _ _ w3 HB3.out (Sim.new lim)).mono ?_
  rintro e w4 ⟨rfl, b4⟩
  have HI : Hid (PlI w w.heap.size w1.heap.size w4) := Lib.hid ⟨_, _, HB3.out.below b4, Sim.new lim, B3.out.trans (b4.mono B3.out.size)⟩
  clear b4 HB3 B3
  go_wp2_with fail
  go_loopw [27] (fun i wr => ∃ k : Nat, i = .int .i64 k ∧ k ≤ n ∧ Hid (PlI w w.heap.size w1.heap.size wr)) (fun i _ => n - (intOf i).toNat)
  case atStart => exact ⟨0, rfl, Nat.zero_le _, HI⟩
  case round =>
    obtain ⟨k, rfl, hk, hst⟩ := hrel
    have i0 : (0 : Int) ≤ (k : Int) := by omega
    by_cases hlt : k < n
    · obtain ⟨D, R, hb, hsim, hbe⟩ := hst.out
      obtain ⟨x, g, o, hx, rfl, hcx, hF⟩ := acts_at HS.out hbe (k := k) (by omega)
      have i1 : (k : Int) < (n : Int) := by omega
      have hT : ∀ W, Below wr.heap.size wr W → TxB w.heap.size W x := fun W hW => TxB.of hF (Nat.le_refl _) (hbe.trans (hW.mono hbe.size))
      have X1 : Hid (∀ W, Below wr.heap.size wr W → Calls Try.prog 11 #[.pointer (some ⟨w.heap.size, 0, none⟩), .pointer (some ⟨w1.heap.size, 0, none⟩), .agg x.cells] W (ActP w.heap.size w.heap.size w1.heap.size D R x W)) := Lib.hid (fun W hW => CA.out _ _ D R x W (hb.below hW) (hT W hW))
      have X2 : Hid (∀ W e W', Below wr.heap.size wr W → ActP w.heap.size w.heap.size w1.heap.size D R x W e W' → e = .returned (.bool true) ∧ ∃ D' R', Both w.heap.size w.heap.size w1.heap.size D' R' W' ∧ Sim D' R' ∧ Below w.heap.size w W') := Lib.hid (fun W e W' hW ⟨b, he, hs, hb2, hbb⟩ => by
        have t := hT W hW
        rw [hs hsim] at he
        exact ⟨he, _, _, hb2, hsim.act x t.n t.i64s, (hbe.trans (hW.mono hbe.size)).trans hbb⟩)
      have y0 : wr.cell? ⟨g, o + k * 5, none⟩ = some (.int .i64 x.d) := hcx 0 _ rfl
      have y1 : wr.cell? ⟨g, o + k * 5 + 1, none⟩ = some (.int .i64 x.f) := hcx 1 _ rfl
      have y2 : wr.cell? ⟨g, o + k * 5 + 2, none⟩ = some (.int .i64 x.n) := hcx 2 _ rfl
      have y3 : wr.cell? ⟨g, o + k * 5 + 3, none⟩ = some (.string x.s) := hcx 3 _ rfl
      have y4 : wr.cell? ⟨g, o + k * 5 + 4, none⟩ = some (.slice x.A x.k.length x.cap) := hcx 4 _ rfl
      obtain ⟨xd, xf, xn, s, kk, A, cp⟩ := x
      have X1' : Hid (∀ W, Below wr.heap.size wr W → Calls Try.prog 11 #[.pointer (some ⟨w.heap.size, 0, none⟩), .pointer (some ⟨w1.heap.size, 0, none⟩), .agg #[.int .i64 xd, .int .i64 xf, .int .i64 xn, .string s, .slice A kk.length cp]] W (ActP w.heap.size w.heap.size w1.heap.size D R ⟨xd, xf, xn, s, kk, A, cp⟩ W)) := X1
      generalize kk.length = kl at *
      clear hcx hF hT hb hsim hbe hx hst X1
      go_wp2_with fail
      have hal := (Below.refl wr.heap.size wr).alloc (Nat.le_refl _) (.cells #[.int .i64 xd, .int .i64 xf, .int .i64 xn, .string s, .slice A kl cp] 31)
      refine (X1'.out _ hal).mono ?_
      rintro e w5 he
      obtain ⟨rfl, D', R', hb5, hs5, be5⟩ := X2.out _ _ _ hal he
      have X3 := Lib.hid (CS.out _ _ _ _ w5 hb5 hs5)
      have X4 : Hid (∀ W, Below w5.heap.size w5 W → PlI w w.heap.size w1.heap.size W) := Lib.hid (fun W hW => ⟨_, _, hb5.below hW, hs5, be5.trans (hW.mono be5.size)⟩)
      clear hal he hb5 hs5 be5 X1' X2 y0 y1 y2 y3 y4 CS CA
      go_wp2_with fail
      refine X3.out.mono ?_
      rintro e w6 ⟨rfl, b6⟩
      have HN := Lib.hid (X4.out w6 b6)
      clear X3 X4 b6
      go_wp2_with fail
      go_roundw
      case rel => exact ⟨k + 1, by go_num, by omega, HN⟩
      case measure => simp [intOf]; omega
    · have hkn : k = n := by omega
      subst hkn
      obtain ⟨D, R, hb, hsim, hbe⟩ := hst.out
      have HE := Lib.hid hbe
      clear hst hb hsim hbe HI
      go_wp2_with fail
      go_ret
      exact ⟨rfl, HE.out⟩
end Go.Proofs.Ytdgljfoghonbaaa
