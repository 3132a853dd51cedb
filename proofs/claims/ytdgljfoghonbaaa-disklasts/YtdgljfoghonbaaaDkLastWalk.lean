/- The law DiskLasts. -/
import Derived.Test.YtdgljfoghonbaaaDkPlaysWalk
namespace Go.Proofs.Ytdgljfoghonbaaa
open Go.RowKit DK

theorem chg_on (D : Dv) (hc : D.cut < 1) (ho : D.off = false) {does loss : Dv → Dv} (h1 : (does D.due).cut = D.due.cut ∧ (does D.due).off = D.due.off) : (D.chg does loss).cut < 1 ∧ (D.chg does loss).off = false := by
  have hd : D.due.cut < 1 ∧ D.due.off = false := ⟨by show DK.due D.cut < 1; unfold DK.due; split <;> omega, ho⟩
  unfold Dv.chg
  rw [if_neg (by omega)]
  split
  · exact hd
  · rw [h1.1, h1.2]; exact hd
theorem upd_on (D : Dv) (i : Nat) (g : Fl → Fl) : (Dv.upd i g D).cut = D.cut ∧ (Dv.upd i g D).off = D.off := by unfold Dv.upd; split <;> exact ⟨rfl, rfl⟩
/-- Without a Cut asked for the power stays on. -/
theorem act_on {D : Dv} {x : Tx} (hc : D.cut < 1) (ho : D.off = false) (h1 : x.d.tmod 9 < 4) (h2 : -4 < x.d.tmod 9) : (D.act x).cut < 1 ∧ (D.act x).off = false := by
  unfold Dv.act
  have hn : (x.d.tmod 9).natAbs < 4 := by omega
  split
  · unfold Dv.sync; split <;> first | exact ⟨hc, ho⟩ | exact chg_on D hc ho (upd_on _ _ _)
  · split
    · unfold Dv.clear; split <;> first | exact ⟨hc, ho⟩ | exact chg_on D hc ho (upd_on _ _ _)
    · split
      · exact ⟨hc, ho⟩
      · rw [if_neg (by omega), if_neg (by omega), if_neg (by omega), if_neg (by omega)]
        unfold Dv.app
        (repeat' split) <;> first | exact ⟨hc, ho⟩ | exact chg_on D hc ho (upd_on _ _ _)
/-- The state of the law's first loop. -/
def LsI (w : World) (d r : Nat) (wr : World) : Prop := ∃ D R, Both w.heap.size d r D R wr ∧ D.cut < 1 ∧ D.off = false ∧ Below w.heap.size w wr

set_option maxRecDepth 100000 in
set_option maxHeartbeats 4000000 in
theorem diskLasts_walk (w : World) (A : Option Addr) (cap : Nat) (l : List Tx) (hl : l.length ≤ maxLen) (hs : Acts w A l) (hc : l.length ≤ cap) (A1 : Option Addr) (cap1 : Nat) (l1 : List Int) (hl1 : l1.length ≤ maxLen) (hs1 : Ints w A1 l1) (_ : l1.length ≤ cap1) :
    Calls Try.prog 4 #[.slice A l.length cap, .slice A1 l1.length cap1] w fun e w' => e = .returned (.bool true) ∧ Below w.heap.size w w' := by
  have HL1 := Lib.hid hl1
  clear hl1
  unfold maxLen at hl
  have CN := Lib.hid (new_any 100000 w)
  have CR := Lib.hid (fun w1 => rnew_any 100000 w1)
  have CW := Lib.hid wakes_any
  have CA := Lib.hid (fun d r D R x W h hx => act_any w.heap.size d r D R x W h hx)
  have HS := Lib.hid hs
  have HS1 := Lib.hid hs1
  obtain ⟨n, hm, hm1, hm2⟩ : ∃ n : Nat, (if (60 : Int) < (l.length : Int) then (60 : Int) else (l.length : Int)) = (n : Int) ∧ n ≤ 60 ∧ n ≤ l.length := ⟨min l.length 60, by split <;> omega, by omega, by omega⟩
  have hm3 : ((n : Int)).toNat = n := by omega
  have hm4 : max (n : Int) 0 = n := by omega
  have j0 : (0 : Int) ≤ (n : Int) := by omega
  have j1 : (n : Int) ≤ (cap : Int) := by omega
  obtain ⟨n1, hn1⟩ : ∃ n1, l1.length = n1 := ⟨_, rfl⟩
  have HN1 := Lib.hid hn1
  rw [hn1]
  clear hs hs1 hn1
  go_enter Try.func4, Try.ntmps4
  go_wp2_with fail
  refine CN.out.mono ?_
  rintro e w1 ⟨rfl, hd, b1⟩
  have HD := Lib.hid hd
  have B1 := Lib.hid b1
  clear hd b1 CN
  go_wp2_with fail
  refine (CR.out w1).mono ?_
  rintro e w2 ⟨rfl, hr, b2⟩
  have HI : Hid (LsI w w.heap.size w1.heap.size w2) := Lib.hid ⟨_, _, both_new HD.out B1.out hr b2, (by show (0 : Int) < 1; omega), rfl, B1.out.trans (b2.mono B1.out.size)⟩
  clear hr b2 CR HD B1
  go_wp2_with fail
  go_loopw [23] (fun i wr => ∃ k : Nat, i = .int .i64 k ∧ k ≤ n ∧ Hid (LsI w w.heap.size w1.heap.size wr)) (fun i _ => n - (intOf i).toNat)
  case atStart => exact ⟨0, rfl, Nat.zero_le _, HI⟩
  case round =>
    obtain ⟨k, rfl, hk, hst⟩ := hrel
    have i0 : (0 : Int) ≤ (k : Int) := by omega
    by_cases hlt : k < n
    · obtain ⟨D, R, hb, hcut, hoff, hbe⟩ := hst.out
      obtain ⟨x, g, o, hx, rfl, hcx, hF⟩ := acts_at HS.out hbe (k := k) (by omega)
      have i1 : (k : Int) < (n : Int) := by omega
      have hT : ∀ W, Below wr.heap.size wr W → TxB w.heap.size W x := fun W hW => TxB.of hF (Nat.le_refl _) (hbe.trans (hW.mono hbe.size))
      have y0 : wr.cell? ⟨g, o + k * 5, none⟩ = some (.int .i64 x.d) := hcx 0 _ rfl
      have y1 : wr.cell? ⟨g, o + k * 5 + 1, none⟩ = some (.int .i64 x.f) := hcx 1 _ rfl
      have y2 : wr.cell? ⟨g, o + k * 5 + 2, none⟩ = some (.int .i64 x.n) := hcx 2 _ rfl
      have y3 : wr.cell? ⟨g, o + k * 5 + 3, none⟩ = some (.string x.s) := hcx 3 _ rfl
      have y4 : wr.cell? ⟨g, o + k * 5 + 4, none⟩ = some (.slice x.A x.k.length x.cap) := hcx 4 _ rfl
      have X1 : Hid (∀ W, Below wr.heap.size wr W → Calls Try.prog 11 #[.pointer (some ⟨w.heap.size, 0, none⟩), .pointer (some ⟨w1.heap.size, 0, none⟩), .agg x.cells] W (ActP w.heap.size w.heap.size w1.heap.size D R x W)) := Lib.hid (fun W hW => CA.out _ _ D R x W (hb.below hW) (hT W hW))
      have X2 : Hid (x.d.tmod 9 < 4 → -4 < x.d.tmod 9 → ∀ W e W', Below wr.heap.size wr W → ActP w.heap.size w.heap.size w1.heap.size D R x W e W' → ∃ b, e = .returned (.bool b) ∧ LsI w w.heap.size w1.heap.size W') := Lib.hid (fun h1 h2 W e W' hW ⟨b, he, _, hb2, hbb⟩ => ⟨b, he, _, _, hb2, (act_on hcut hoff h1 h2).1, (act_on hcut hoff h1 h2).2, (hbe.trans (hW.mono hbe.size)).trans hbb⟩)
      have X0 : Hid (∀ W, Below wr.heap.size wr W → LsI w w.heap.size w1.heap.size W) := Lib.hid (fun W hW => ⟨_, _, hb.below hW, hcut, hoff, hbe.trans (hW.mono hbe.size)⟩)
      obtain ⟨xd, xf, xn, s, kk, A, cp⟩ := x
      have X1' : Hid (∀ W, Below wr.heap.size wr W → Calls Try.prog 11 #[.pointer (some ⟨w.heap.size, 0, none⟩), .pointer (some ⟨w1.heap.size, 0, none⟩), .agg #[.int .i64 xd, .int .i64 xf, .int .i64 xn, .string s, .slice A kk.length cp]] W (ActP w.heap.size w.heap.size w1.heap.size D R ⟨xd, xf, xn, s, kk, A, cp⟩ W)) := X1
      generalize kk.length = kl at *
      have hal := (Below.refl wr.heap.size wr).alloc (Nat.le_refl _) (.cells #[.int .i64 xd, .int .i64 xf, .int .i64 xn, .string s, .slice A kl cp] 31)
      have HAL := Lib.hid hal
      have HX0 := Lib.hid (X0.out _ hal)
      clear hcx hF hT hb hbe hx hst X1 hcut hoff CA HI hal X0
      by_cases h1 : xd.tmod 9 < 4
      · by_cases h2 : -4 < xd.tmod 9
        · have X2' := Lib.hid (X2.out h1 h2)
          clear X2
          go_wp2_with fail
          refine (X1'.out _ HAL.out).mono ?_
          rintro e w5 he
          obtain ⟨b, rfl, hn⟩ := X2'.out _ _ _ HAL.out he
          have HN := Lib.hid hn
          clear he hn X1' X2' HAL HX0
          go_wp2_with fail
          go_roundw
          case rel => exact ⟨k + 1, by go_num, by omega, HN⟩
          case measure => simp [intOf]; omega
        · have h2' : decide (-4 < xd.tmod 9) = false := by simpa using h2
          clear X1' X2 HAL
          go_wp2_with fail
          go_roundw
          case rel => exact ⟨k + 1, by go_num, by omega, HX0⟩
          case measure => simp [intOf]; omega
      · have h1' : decide (xd.tmod 9 < 4) = false := by simpa using h1
        clear X1' X2 HAL
        go_wp2_with fail
        go_roundw
        case rel => exact ⟨k + 1, by go_num, by omega, HX0⟩
        case measure => simp [intOf]; omega
    · have hkn : k = n := by omega
      subst hkn
      obtain ⟨D, R, hb, hcut, hoff, hbe⟩ := hst.out
      have hdk := hb.dk
      have hok := hb.ok
      obtain ⟨hoka, hokb, -⟩ := id hok
      have hsd : w.heap.size ≤ wr.heap.size := hbe.size
      obtain ⟨jj, hjj⟩ : ∃ j, j = at_ l1 0 := ⟨_, rfl⟩
      obtain ⟨kk, hkk⟩ : ∃ k, k = at_ l1 1 := ⟨_, rfl⟩
      have ha0 := Fl.at_le hoka jj
      have hb0 := Fl.at_le hokb kk
      obtain ⟨sa, hsa⟩ : ∃ s : ByteArray, s = ⟨D.a.s.toArray⟩ := ⟨_, rfl⟩
      obtain ⟨sb, hsb⟩ : ∃ s : ByteArray, s = ⟨D.b.s.toArray⟩ := ⟨_, rfl⟩
      obtain ⟨ma, hma⟩ : ∃ m, m = D.a.at jj := ⟨_, rfl⟩
      obtain ⟨mb, hmb⟩ : ∃ m, m = D.b.at kk := ⟨_, rfl⟩
      obtain ⟨ta, hta⟩ : ∃ s : ByteArray, s = ⟨(D.a.s.take ma).toArray⟩ := ⟨_, rfl⟩
      obtain ⟨tb, htb⟩ : ∃ s : ByteArray, s = ⟨(D.b.s.take mb).toArray⟩ := ⟨_, rfl⟩
      have zta : ta.size = ma := by rw [hta, hma]; exact take_len _ hoka _
      have ztb : tb.size = mb := by rw [htb, hmb]; exact take_len _ hokb _
      have xta : sa.extract 0 ma = ta := by rw [hsa, hta]; exact extract_take _ _
      have xtb : sb.extract 0 mb = tb := by rw [hsb, htb]; exact extract_take _ _
      have zsa : sa.size = D.a.s.length := by rw [hsa]; exact arr_size _
      have zsb : sb.size = D.b.s.length := by rw [hsb]; exact arr_size _
      obtain ⟨la, hla⟩ : ∃ m, m = D.a.l := ⟨_, rfl⟩
      obtain ⟨lb, hlb⟩ : ∃ m, m = D.b.l := ⟨_, rfl⟩
      have qa1 : (la : Int) ≤ (ma : Int) := by omega
      have qa2 : (ma : Int) ≤ (sa.size : Int) := by omega
      have qb1 : (lb : Int) ≤ (mb : Int) := by omega
      have qb2 : (mb : Int) ≤ (sb.size : Int) := by omega
      have qa0 : (0 : Int) ≤ (ma : Int) := by omega
      have qb0 : (0 : Int) ≤ (mb : Int) := by omega
      have hne : ¬ D.off = true := by rw [hoff]; decide
      have R0 : Hid (∀ W, Below wr.heap.size wr W → Calls Try.prog 12 #[.pointer (some ⟨w.heap.size, 0, none⟩), .int .i64 0] W fun e w' => e = .returned (.tuple #[.string sa, .int .u8 0]) ∧ W = w') := Lib.hid (fun W hW => by
        have := read_any _ D 0 W (hdk.below hW)
        rw [ref_vals (by decide), if_neg hne] at this
        rw [hsa]
        rw [show D.rd 0 = D.a.s by unfold Dv.rd; rw [ref_vals (by decide), if_neg hne, if_neg (by decide)]; rfl] at this
        exact this)
      have R1 : Hid (∀ W, Below wr.heap.size wr W → Calls Try.prog 12 #[.pointer (some ⟨w.heap.size, 0, none⟩), .int .i64 1] W fun e w' => e = .returned (.tuple #[.string sb, .int .u8 0]) ∧ W = w') := Lib.hid (fun W hW => by
        have := read_any _ D 1 W (hdk.below hW)
        rw [ref_vals (by decide), if_neg hne] at this
        rw [hsb]
        rw [show D.rd 1 = D.b.s by unfold Dv.rd; rw [ref_vals (by decide), if_neg hne, if_neg (by decide)]; rfl] at this
        exact this)
      have L0 : Hid (∀ W, Below wr.heap.size wr W → Calls Try.prog 13 #[.pointer (some ⟨w.heap.size, 0, none⟩), .int .i64 0] W fun e w' => e = .returned (.int .i64 la) ∧ W = w') := Lib.hid (fun W hW => by rw [hla]; exact lasts_any _ D 0 W (hdk.below hW))
      have L1 : Hid (∀ W, Below wr.heap.size wr W → Calls Try.prog 13 #[.pointer (some ⟨w.heap.size, 0, none⟩), .int .i64 1] W fun e w' => e = .returned (.int .i64 lb) ∧ W = w') := Lib.hid (fun W hW => by rw [hlb]; exact lasts_any _ D 1 W (hdk.below hW))
      have hcr : D.crash (at_ l1 0) (at_ l1 1) = (D.lose jj kk).on := by rw [hjj, hkk]; unfold Dv.crash; rw [if_neg hne]
      have CC : Hid (∀ W, Below wr.heap.size wr W → W.heap[wr.heap.size]? = some (.cells #[.string sa, .string sb] 34 (0, 0)) → W.heap[wr.heap.size + 1]? = some (.cells #[.int .i64 la, .int .i64 lb] 35 (0, 0)) → Calls Try.prog 14 #[.pointer (some ⟨w.heap.size, 0, none⟩), .slice A1 n1 cap1] W fun e w' => e = .returned (.tuple #[]) ∧ Below w.heap.size w w' ∧ w'.heap[wr.heap.size]? = some (.cells #[.string sa, .string sb] 34 (0, 0)) ∧ w'.heap[wr.heap.size + 1]? = some (.cells #[.int .i64 la, .int .i64 lb] 35 (0, 0)) ∧
          Calls Try.prog 12 #[.pointer (some ⟨w.heap.size, 0, none⟩), .int .i64 0] w' (fun e w'' => e = .returned (.tuple #[.string ta, .int .u8 0]) ∧ w' = w'') ∧ Calls Try.prog 12 #[.pointer (some ⟨w.heap.size, 0, none⟩), .int .i64 1] w' (fun e w'' => e = .returned (.tuple #[.string tb, .int .u8 0]) ∧ w' = w'') ∧
          Calls Try.prog 13 #[.pointer (some ⟨w.heap.size, 0, none⟩), .int .i64 0] w' (fun e w'' => e = .returned (.int .i64 ma) ∧ w' = w'') ∧ Calls Try.prog 13 #[.pointer (some ⟨w.heap.size, 0, none⟩), .int .i64 1] w' (fun e w'' => e = .returned (.int .i64 mb) ∧ w' = w'')) := Lib.hid (fun W hW h9 h10 => by
        have c := crash_any w.heap.size D A1 l1 cap1 W HL1.out (KInts.old HS1.out (Nat.le_refl _) (hbe.trans (hW.mono hsd))) (hdk.below hW) hok
        rw [hcr, HN1.out] at c
        refine c.mono ?_
        rintro e w' ⟨rfl, hd', hk'⟩
        have q1 := read_any _ _ 0 w' hd'
        have q2 := read_any _ _ 1 w' hd'
        have q3 := lasts_any _ _ 0 w' hd'
        have q4 := lasts_any _ _ 1 w' hd'
        have e1 : ((D.lose jj kk).on).rd 0 = D.a.s.take ma := by rw [hma]; rfl
        have e2 : ((D.lose jj kk).on).rd 1 = D.b.s.take mb := by rw [hmb]; rfl
        rw [e1, ← hta] at q1
        rw [e2, ← htb] at q2
        rw [show ((D.lose jj kk).on).last 0 = ma by rw [hma]; rfl] at q3
        rw [show ((D.lose jj kk).on).last 1 = mb by rw [hmb]; rfl] at q4
        have hlt := hdk.lt
        exact ⟨rfl, (hbe.trans (hW.mono hsd)).trans hk'.1, hk'.block h9 (by omega) (by decide), hk'.block h10 (by omega) (by decide), q1, q2, q3, q4⟩)
      clear hst hb hbe HI CA HS hdk hok hma hmb hta htb hsa hsb hla hlb hjj hkk zsa zsb ha0 hb0 hne hcr hoff hcut hoka hokb
      go_wp2_with fail
      refine wp_world (fun W => Below wr.heap.size wr W ∧ W.heap[wr.heap.size]? = some (.cells #[.string ⟨#[]⟩, .string ⟨#[]⟩] 34 (0, 0)) ∧ W.heap[wr.heap.size + 1]? = some (.cells #[.int .i64 0, .int .i64 0] 35 (0, 0))) ⟨((Below.refl _ _).alloc (Nat.le_refl _) _).alloc (by simp) _, (Below.heap_alloc _ _ _ (by simp)).trans (heap_alloc_new wr _), (by have := heap_alloc_new (wr.alloc (.cells #[.string ⟨#[]⟩, .string ⟨#[]⟩] 34)) (.cells #[.int .i64 0, .int .i64 0] 35); simpa using this)⟩ ?_
      rintro W0 ⟨b0, h9, h10⟩
      have B0 := Lib.hid b0
      have H9 := Lib.hid h9
      have H10 := Lib.hid h10
      have u0 : W0.cell? ⟨wr.heap.size, 0, none⟩ = some (.string ⟨#[]⟩) := by rw [cell_heap h9]; rfl
      have u1 : W0.cell? ⟨wr.heap.size, 1, none⟩ = some (.string ⟨#[]⟩) := by rw [cell_heap h9]; rfl
      have u2 : W0.cell? ⟨wr.heap.size + 1, 0, none⟩ = some (.int .i64 0) := by rw [cell_heap h10]; rfl
      have u3 : W0.cell? ⟨wr.heap.size + 1, 1, none⟩ = some (.int .i64 0) := by rw [cell_heap h10]; rfl
      have v0 : W0.frozen? ⟨wr.heap.size, 0, none⟩ = false := frozen_heap h9
      have v1 : W0.frozen? ⟨wr.heap.size, 1, none⟩ = false := frozen_heap h9
      have v2 : W0.frozen? ⟨wr.heap.size + 1, 0, none⟩ = false := frozen_heap h10
      have v3 : W0.frozen? ⟨wr.heap.size + 1, 1, none⟩ = false := frozen_heap h10
      clear b0 h9 h10
      refine wp_loop_rounds 3 ?_
      rw [rounds_succ]
      go_wp2_with fail
      refine (R0.out _ ?_).mono ?_
      · repeat (first | exact B0.out | refine Below.setCell ?_ (by simp) _)
      rintro e w' ⟨rfl, rfl⟩
      go_wp2_with fail
      refine (L0.out _ ?_).mono ?_
      · repeat (first | exact B0.out | refine Below.setCell ?_ (by simp) _)
      rintro e w' ⟨rfl, rfl⟩
      go_wp2_with fail
      rw [rounds_succ]
      go_wp2_with fail
      refine (R1.out _ ?_).mono ?_
      · repeat (first | exact B0.out | refine Below.setCell ?_ (by simp) _)
      rintro e w' ⟨rfl, rfl⟩
      go_wp2_with fail
      refine (L1.out _ ?_).mono ?_
      · repeat (first | exact B0.out | refine Below.setCell ?_ (by simp) _)
      rintro e w' ⟨rfl, rfl⟩
      clear R0 R1 L0 L1
      go_wp2_with fail
      rw [rounds_succ]
      go_wp2_with fail
      refine (CC.out _ ?_ ?_ ?_).mono ?_
      · repeat (first | exact B0.out | refine Below.setCell ?_ (by simp) _)
      · simp [World.setCell, Array.getElem?_modify, H9.out]
      · simp [World.setCell, Array.getElem?_modify, H10.out]
      rintro e w5 ⟨rfl, b5, h9, h10, q1, q2, q3, q4⟩
      have s0 : w5.cell? ⟨wr.heap.size, 0, none⟩ = some (.string sa) := by rw [cell_heap h9]; rfl
      have s1 : w5.cell? ⟨wr.heap.size, 1, none⟩ = some (.string sb) := by rw [cell_heap h9]; rfl
      have s2 : w5.cell? ⟨wr.heap.size + 1, 0, none⟩ = some (.int .i64 la) := by rw [cell_heap h10]; rfl
      have s3 : w5.cell? ⟨wr.heap.size + 1, 1, none⟩ = some (.int .i64 lb) := by rw [cell_heap h10]; rfl
      have B5 := Lib.hid b5
      have Q1 := Lib.hid q1
      have Q2 := Lib.hid q2
      have Q3 := Lib.hid q3
      have Q4 := Lib.hid q4
      clear b5 h9 h10 q1 q2 q3 q4 CC B0 H9 H10 u0 u1 u2 u3 v0 v1 v2 v3
      go_wp2_with fail
      refine wp_loop_rounds 3 ?_
      rw [rounds_succ]
      go_wp2_with fail
      refine Q1.out.mono ?_
      rintro e w' ⟨rfl, rfl⟩
      clear Q1
      go_wp2_with fail
      refine Q3.out.mono ?_
      rintro e w' ⟨rfl, rfl⟩
      clear Q3
      go_wp2_with fail
      rw [rounds_succ]
      go_wp2_with fail
      refine Q2.out.mono ?_
      rintro e w' ⟨rfl, rfl⟩
      clear Q2
      go_wp2_with fail
      refine Q4.out.mono ?_
      rintro e w' ⟨rfl, rfl⟩
      clear Q4
      go_wp2_with fail
      rw [rounds_succ]
      go_wp2_with fail
      refine (CW.out _).mono ?_
      rintro e w6 ⟨rfl, b6⟩
      have HE2 := Lib.hid (B5.out.trans (b6.mono B5.out.size))
      clear b6 B5 CW
      go_wp2_with fail
      go_ret
      exact ⟨rfl, HE2.out⟩
end Go.Proofs.Ytdgljfoghonbaaa
