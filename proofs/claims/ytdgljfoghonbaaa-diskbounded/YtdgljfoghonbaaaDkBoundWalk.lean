/- The law DiskBounded. -/
import Derived.Test.YtdgljfoghonbaaaDkPlaysWalk
namespace Go.Proofs.Ytdgljfoghonbaaa
open Go.RowKit DK

theorem chg_lim (D : Dv) {does loss : Dv → Dv} (h1 : (does D.due).lim = D.lim) (h2 : (loss D.due).lim = D.lim) : (D.chg does loss).lim = D.lim := by
  unfold Dv.chg
  split
  · exact h2
  · split
    · rfl
    · exact h1
theorem upd_lim (D : Dv) (i : Nat) (g : Fl → Fl) : (Dv.upd i g D).lim = D.lim := by unfold Dv.upd; split <;> rfl
theorem app_lim (D : Dv) (f : Int) (s : List UInt8) : (D.app f s).lim = D.lim := by
  unfold Dv.app
  (repeat' split) <;> first | rfl | exact chg_lim D (upd_lim _ _ _) (upd_lim _ _ _)
theorem act_lim (D : Dv) (x : Tx) : (D.act x).lim = D.lim := by
  unfold Dv.act
  (repeat' split)
  · unfold Dv.sync; split <;> first | rfl | exact chg_lim D (upd_lim _ _ _) rfl
  · unfold Dv.clear; split <;> first | rfl | exact chg_lim D (upd_lim _ _ _) rfl
  · rfl
  · rfl
  · rfl
  · unfold Dv.crash; split <;> rfl
  · rfl
  · exact app_lim D _ _
theorem rd_sum {D : Dv} (h : D.Ok) : (D.rd 0).length + (D.rd 1).length ≤ D.lim := by
  have := h.2.2.1
  unfold Dv.rd
  rw [ref_vals (by decide), ref_vals (by decide)]
  by_cases ho : D.off = true
  · rw [if_pos ho, if_pos (by decide)]; exact Nat.zero_le _
  · rw [if_neg ho, if_neg (by decide)]; exact this
/-- What is refused changes nothing. -/
theorem app_same {D : Dv} {f : Int} {s : List UInt8} (h0 : D.appC f s ≠ 0) (h1 : D.appC f s ≠ 240 ∨ D.off = true) : (D.app f s).rd 0 = D.rd 0 ∧ (D.app f s).rd 1 = D.rd 1 := by
  unfold Dv.appC at h0 h1
  unfold Dv.app
  by_cases hr : D.ref f = 0
  · have n0 : ¬ (D.ref f ≠ 0) := fun x => x hr
    have hoff := ref_off hr
    rw [if_neg n0] at h0 h1 ⊢
    split
    · exact ⟨rfl, rfl⟩
    · rename_i hm
      rw [if_neg hm] at h0 h1
      split
      · exact ⟨rfl, rfl⟩
      · rename_i hs
        rw [if_neg hs] at h0 h1
        have h2 : D.chgC ≠ 240 := by
          rcases h1 with h1 | h1
          · exact h1
          · rw [hoff] at h1; cases h1
        unfold Dv.chgC at h0 h2
        unfold Dv.chg
        by_cases hc : D.cut = 1
        · rw [if_pos hc] at h2; exact absurd rfl h2
        · rw [if_neg hc] at h0 ⊢
          by_cases hf : D.full = 1
          · rw [if_pos hf]; exact ⟨rfl, rfl⟩
          · rw [if_neg hf] at h0; exact absurd rfl h0
  · rw [if_pos hr]; exact ⟨rfl, rfl⟩
/-- The state of the law's loop. -/
def BdI (w : World) (d r L : Nat) (wr : World) : Prop := ∃ D R, Both w.heap.size d r D R wr ∧ D.lim = L ∧ Below w.heap.size w wr

set_option maxRecDepth 100000 in
set_option maxHeartbeats 4000000 in
theorem diskBounded_walk (w : World) (lim : Int) (_ : (Lit.int .i64 lim).wf = true) (A : Option Addr) (cap : Nat) (l : List Tx) (hl : l.length ≤ maxLen) (hs : Acts w A l) (hc : l.length ≤ cap) :
    Calls Try.prog 5 #[.int .i64 lim, .slice A l.length cap] w fun e w' => e = .returned (.bool true) ∧ Below w.heap.size w w' := by
  unfold maxLen at hl
  have CN := Lib.hid (new_any lim w)
  have CR := Lib.hid (fun w1 => rnew_any lim w1)
  have CW := Lib.hid wakes_any
  have CA := Lib.hid (fun d r D R x W h hx => act_any w.heap.size d r D R x W h hx)
  have HS := Lib.hid hs
  obtain ⟨n, hm, hm1, hm2⟩ : ∃ n : Nat, (if (100 : Int) < (l.length : Int) then (100 : Int) else (l.length : Int)) = (n : Int) ∧ n ≤ 100 ∧ n ≤ l.length := ⟨min l.length 100, by split <;> omega, by omega, by omega⟩
  have hm3 : ((n : Int)).toNat = n := by omega
  have hm4 : max (n : Int) 0 = n := by omega
  have j0 : (0 : Int) ≤ (n : Int) := by omega
  have j1 : (n : Int) ≤ (cap : Int) := by omega
  obtain ⟨L, hL⟩ : ∃ L, L = (newD lim).lim := ⟨_, rfl⟩
  have HL := Lib.hid hL
  clear hs hL
  go_enter Try.func5, Try.ntmps5
  go_wp2_with fail
  refine CN.out.mono ?_
  rintro e w1 ⟨rfl, hd, b1⟩
  have HD := Lib.hid hd
  have B1 := Lib.hid b1
  clear hd b1 CN
  go_wp2_with fail
  refine (CR.out w1).mono ?_
  rintro e w2 ⟨rfl, hr, b2⟩
  have HI : Hid (BdI w w.heap.size w1.heap.size L w2) := Lib.hid ⟨_, _, both_new HD.out B1.out hr b2, HL.out.symm, B1.out.trans (b2.mono B1.out.size)⟩
  clear hr b2 CR HD B1
  go_wp2_with fail
  go_loopw [29] (fun i wr => ∃ k : Nat, i = .int .i64 k ∧ k ≤ n ∧ Hid (BdI w w.heap.size w1.heap.size L wr)) (fun i _ => n - (intOf i).toNat)
  case atStart => exact ⟨0, rfl, Nat.zero_le _, HI⟩
  case round =>
    obtain ⟨k, rfl, hk, hst⟩ := hrel
    have i0 : (0 : Int) ≤ (k : Int) := by omega
    by_cases hlt : k < n
    · obtain ⟨D, R, hb, hlim, hbe⟩ := hst.out
      obtain ⟨x, g, o, hx, rfl, hcx, hF⟩ := acts_at HS.out hbe (k := k) (by omega)
      have i1 : (k : Int) < (n : Int) := by omega
      have hsum := rd_sum hb.ok
      have hT : ∀ W, Below wr.heap.size wr W → TxB w.heap.size W x := fun W hW => TxB.of hF (Nat.le_refl _) (hbe.trans (hW.mono hbe.size))
      have y0 : wr.cell? ⟨g, o + k * 5, none⟩ = some (.int .i64 x.d) := hcx 0 _ rfl
      have y1 : wr.cell? ⟨g, o + k * 5 + 1, none⟩ = some (.int .i64 x.f) := hcx 1 _ rfl
      have y2 : wr.cell? ⟨g, o + k * 5 + 2, none⟩ = some (.int .i64 x.n) := hcx 2 _ rfl
      have y3 : wr.cell? ⟨g, o + k * 5 + 3, none⟩ = some (.string x.s) := hcx 3 _ rfl
      have y4 : wr.cell? ⟨g, o + k * 5 + 4, none⟩ = some (.slice x.A x.k.length x.cap) := hcx 4 _ rfl
      have X1 : Hid (∀ W, Below wr.heap.size wr W → Calls Try.prog 11 #[.pointer (some ⟨w.heap.size, 0, none⟩), .pointer (some ⟨w1.heap.size, 0, none⟩), .agg x.cells] W (ActP w.heap.size w.heap.size w1.heap.size D R x W)) := Lib.hid (fun W hW => CA.out _ _ D R x W (hb.below hW) (hT W hW))
      have X2 : Hid (∀ W e W', Below wr.heap.size wr W → ActP w.heap.size w.heap.size w1.heap.size D R x W e W' → ∃ b, e = .returned (.bool b) ∧ BdI w w.heap.size w1.heap.size L W') := Lib.hid (fun W e W' hW ⟨b, he, _, hb2, hbb⟩ => ⟨b, he, _, _, hb2, by rw [act_lim, hlim], (hbe.trans (hW.mono hbe.size)).trans hbb⟩)
      have R0 : Hid (∀ W, Below wr.heap.size wr W → Calls Try.prog 12 #[.pointer (some ⟨w.heap.size, 0, none⟩), .int .i64 0] W fun e w' => e = .returned (.tuple #[.string ⟨(D.rd 0).toArray⟩, .int .u8 (D.ref 0)]) ∧ W = w') := Lib.hid (fun W hW => read_any _ D 0 W (hb.dk.below hW))
      have R1 : Hid (∀ W, Below wr.heap.size wr W → Calls Try.prog 12 #[.pointer (some ⟨w.heap.size, 0, none⟩), .int .i64 1] W fun e w' => e = .returned (.tuple #[.string ⟨(D.rd 1).toArray⟩, .int .u8 (D.ref 1)]) ∧ W = w') := Lib.hid (fun W hW => read_any _ D 1 W (hb.dk.below hW))
      have CO : Hid (∀ W, Below wr.heap.size wr W → Calls Try.prog 15 #[.pointer (some ⟨w.heap.size, 0, none⟩)] W fun e w' => e = .returned (.bool D.off) ∧ W = w') := Lib.hid (fun W hW => off_any _ D W (hb.dk.below hW))
      have CP : Hid (∀ W, Below wr.heap.size wr W → Calls Try.prog 16 #[.pointer (some ⟨w.heap.size, 0, none⟩), .int .i64 x.f, .string x.s] W (ChgP w.heap.size (D.appC x.f x.s.data.toList) (D.app x.f x.s.data.toList) W)) := Lib.hid (fun W hW => append_any _ D x.f x.s W (hb.dk.below hW) hb.ok)
      have X5 : Hid (∀ W W', Below wr.heap.size wr W → Dk w.heap.size (D.app x.f x.s.data.toList) W' → Kt 5 w.heap.size W W' → BdI w w.heap.size w1.heap.size L W' ∧ Calls Try.prog 12 #[.pointer (some ⟨w.heap.size, 0, none⟩), .int .i64 0] W' (fun e w' => e = .returned (.tuple #[.string ⟨((D.app x.f x.s.data.toList).rd 0).toArray⟩, .int .u8 ((D.app x.f x.s.data.toList).ref 0)]) ∧ W' = w') ∧ Calls Try.prog 12 #[.pointer (some ⟨w.heap.size, 0, none⟩), .int .i64 1] W' (fun e w' => e = .returned (.tuple #[.string ⟨((D.app x.f x.s.data.toList).rd 1).toArray⟩, .int .u8 ((D.app x.f x.s.data.toList).ref 1)]) ∧ W' = w')) := Lib.hid (fun W W' hW hd hk => ⟨⟨_, _, ⟨hb.hd, hb.hr, hb.ne, hd, rk_keep (hb.dk.below hW) (hb.rk.below hW) hb.ne hk, hb.ok.appOk _ _, hb.rok⟩, by rw [app_lim, hlim], (hbe.trans (hW.mono hbe.size)).trans hk.1⟩, read_any _ _ 0 W' hd, read_any _ _ 1 W' hd⟩)
      have HAS := Lib.hid (fun h0 h1 => app_same (D := D) (f := x.f) (s := x.s.data.toList) h0 h1)
      have hle : ((D.rd 0).length : Int) + ((D.rd 1).length : Int) ≤ (L : Int) := by omega
      have hL2 : (L : Int) = max 0 (min lim 16777216) := by rw [HL.out]; show (((min (max lim 0) 16777216).toNat : Nat) : Int) = _; omega
      obtain ⟨mn, hmn⟩ : ∃ mn, (if (16777216 : Int) < lim then (16777216 : Int) else lim) = mn := ⟨_, rfl⟩
      have hB1 : (if mn < 0 then (0 : Int) else mn) = (L : Int) := by rw [← hmn, hL2]; split <;> split <;> omega
      have hB2 : (if (0 : Int) < mn then mn else (0 : Int)) = (L : Int) := by rw [← hmn, hL2]; split <;> split <;> omega
      have hB3 : max (0 : Int) mn = (L : Int) := by rw [← hmn, hL2]; split <;> omega
      obtain ⟨xd, xf, xn, s, kk, A, cp⟩ := x
      have X1' : Hid (∀ W, Below wr.heap.size wr W → Calls Try.prog 11 #[.pointer (some ⟨w.heap.size, 0, none⟩), .pointer (some ⟨w1.heap.size, 0, none⟩), .agg #[.int .i64 xd, .int .i64 xf, .int .i64 xn, .string s, .slice A kk.length cp]] W (ActP w.heap.size w.heap.size w1.heap.size D R ⟨xd, xf, xn, s, kk, A, cp⟩ W)) := X1
      generalize kk.length = kl at *
      have HL2 := Lib.hid hL2
      have hal := (Below.refl wr.heap.size wr).alloc (Nat.le_refl _) (.cells #[.int .i64 xd, .int .i64 xf, .int .i64 xn, .string s, .slice A kl cp] 31)
      have HAL := Lib.hid hal
      clear hcx hF hT hb hbe hx hst X1 hlim hsum CA HI HL hL2 hal
      go_wp2_with fail
      refine (R0.out _ HAL.out).mono ?_
      rintro e w' ⟨rfl, rfl⟩
      go_wp2_with fail
      refine (R1.out _ HAL.out).mono ?_
      rintro e w' ⟨rfl, rfl⟩
      clear R0 R1
      by_cases hz : xd.tmod 9 = 0
      · obtain ⟨c, hcd⟩ : ∃ c, c = D.appC xf s.data.toList := ⟨_, rfl⟩
        have HAS2 : Hid (c ≠ 0 → (c ≠ 240 ∨ D.off = true) → (D.app xf s.data.toList).rd 0 = D.rd 0 ∧ (D.app xf s.data.toList).rd 1 = D.rd 1) := Lib.hid (by rw [hcd]; exact HAS.out)
        replace CP : Hid (∀ W, Below wr.heap.size wr W → Calls Try.prog 16 #[.pointer (some ⟨w.heap.size, 0, none⟩), .int .i64 xf, .string s] W (ChgP w.heap.size c (D.app xf s.data.toList) W)) := Lib.hid (by rw [hcd]; exact CP.out)
        replace HAS := HAS2
        generalize D.off = ofb at *
        clear hcd HAS2
        by_cases hc0 : c = 0
        · subst hc0
          go_wp2_with fail
          refine (CO.out _ HAL.out).mono ?_
          rintro e w' ⟨rfl, rfl⟩
          go_wp2_with fail
          refine (CP.out _ HAL.out).mono ?_
          rintro e w5 ⟨rfl, hd5, hk5⟩
          obtain ⟨hn, r0, r1⟩ := X5.out _ w5 HAL.out hd5 hk5
          have HN := Lib.hid hn
          clear hd5 hk5 hn r0 r1 CP CO X5 HAS HAL X1' X2
          go_wp2_with fail
          go_roundw
          case rel => exact ⟨k + 1, by go_num, by omega, HN⟩
          case measure => simp [intOf]; omega
        · have hn0 : (c != 0) = true := by rw [bne_iff_ne]; exact hc0
          by_cases hc240 : c = 240
          · subst hc240
            cases ofb with
            | false =>
              clear hc0 hn0
              go_wp2_with fail
              refine (CO.out _ HAL.out).mono ?_
              rintro e w' ⟨rfl, rfl⟩
              go_wp2_with fail
              refine (CP.out _ HAL.out).mono ?_
              rintro e w5 ⟨rfl, hd5, hk5⟩
              obtain ⟨hn, r0, r1⟩ := X5.out _ w5 HAL.out hd5 hk5
              have HN := Lib.hid hn
              clear hd5 hk5 hn r0 r1 CP CO X5 HAS HAL X1' X2
              go_wp2_with fail
              go_roundw
              case rel => exact ⟨k + 1, by go_num, by omega, HN⟩
              case measure => simp [intOf]; omega
            | true =>
              have HE := Lib.hid (HAS.out hc0 (.inr rfl))
              clear hc0 hn0
              go_wp2_with fail
              refine (CO.out _ HAL.out).mono ?_
              rintro e w' ⟨rfl, rfl⟩
              go_wp2_with fail
              refine (CP.out _ HAL.out).mono ?_
              rintro e w5 ⟨rfl, hd5, hk5⟩
              obtain ⟨hn, r0, r1⟩ := X5.out _ w5 HAL.out hd5 hk5
              have HN := Lib.hid hn
              rw [HE.out.1] at r0
              rw [HE.out.2] at r1
              have Q0 := Lib.hid r0
              have Q1 := Lib.hid r1
              clear hd5 hk5 hn r0 r1 CP CO X5 HAS HAL X1' X2
              go_wp2_with fail
              refine Q0.out.mono ?_
              rintro e w' ⟨rfl, rfl⟩
              clear Q0
              go_wp2_with fail
              refine Q1.out.mono ?_
              rintro e w' ⟨rfl, rfl⟩
              clear Q1
              go_wp2_with fail
              go_roundw
              case rel => exact ⟨k + 1, by go_num, by omega, HN⟩
              case measure => simp [intOf]; omega
          · have hn2 : (c != 240) = true := by rw [bne_iff_ne]; exact hc240
            have HE := Lib.hid (HAS.out hc0 (.inl hc240))
            clear hc0 hc240
            go_wp2_with fail
            refine (CO.out _ HAL.out).mono ?_
            rintro e w' ⟨rfl, rfl⟩
            go_wp2_with fail
            refine (CP.out _ HAL.out).mono ?_
            rintro e w5 ⟨rfl, hd5, hk5⟩
            obtain ⟨hn, r0, r1⟩ := X5.out _ w5 HAL.out hd5 hk5
            have HN := Lib.hid hn
            rw [HE.out.1] at r0
            rw [HE.out.2] at r1
            have Q0 := Lib.hid r0
            have Q1 := Lib.hid r1
            clear hd5 hk5 hn r0 r1 CP CO X5 HAS HAL X1' X2
            go_wp2_with fail
            refine Q0.out.mono ?_
            rintro e w' ⟨rfl, rfl⟩
            clear Q0
            go_wp2_with fail
            refine Q1.out.mono ?_
            rintro e w' ⟨rfl, rfl⟩
            clear Q1
            go_wp2_with fail
            go_roundw
            case rel => exact ⟨k + 1, by go_num, by omega, HN⟩
            case measure => simp [intOf]; omega
      · have hz' : (xd.tmod 9 != 0) = true := by rw [bne_iff_ne]; exact hz
        clear hz
        go_wp2_with fail
        refine (X1'.out _ HAL.out).mono ?_
        rintro e w5 he
        obtain ⟨b, rfl, hn⟩ := X2.out _ _ _ HAL.out he
        have HN := Lib.hid hn
        clear he hn X1' X2 CO CP X5 HAS HAL
        go_wp2_with fail
        go_roundw
        case rel => exact ⟨k + 1, by go_num, by omega, HN⟩
        case measure => simp [intOf]; omega
    · have hkn : k = n := by omega
      subst hkn
      obtain ⟨D, R, hb, hlim, hbe⟩ := hst.out
      have HE := Lib.hid hbe
      clear hst hb hlim hbe HI
      go_wp2_with fail
      refine (CW.out _).mono ?_
      rintro e w5 ⟨rfl, b5⟩
      have HE2 := Lib.hid (HE.out.trans (b5.mono HE.out.size))
      clear b5 HE CW
      go_wp2_with fail
      go_ret
      exact ⟨rfl, HE2.out⟩
end Go.Proofs.Ytdgljfoghonbaaa
