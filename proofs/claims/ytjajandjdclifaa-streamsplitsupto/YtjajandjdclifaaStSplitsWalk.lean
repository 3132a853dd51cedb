/- StreamSplits: every bytes are split as the document says, up to its code. -/
import Derived.Test.YtjajandjdclifaaStRefSplit
import Derived.BigQuiet
namespace Go.Proofs.Ytjajandjdclifaa
open Go.RowKit

theorem vgetG_u8 (s : ByteArray) (k : Nat) : ∀ (f i : Nat) (n : Int), 0 ≤ (VP.getG s k f i n).2.2 ∧ (VP.getG s k f i n).2.2 ≤ 242
  | 0, i, n => by rw [VP.getG_0]; simp
  | f + 1, i, n => by
    rw [VP.getG]
    repeat' split
    all_goals first | exact vgetG_u8 s k f _ _ | simp
theorem first_u8 (s : ByteArray) (most : Int) : 0 ≤ (ST.first s most).2 ∧ (ST.first s most).2 ≤ 242 := by
  unfold ST.first
  have h : 0 ≤ (VP.get s 1).2.2 ∧ (VP.get s 1).2.2 ≤ 242 := by
    unfold VP.get
    split
    · simp
    · exact vgetG_u8 s _ _ _ _
  repeat' split
  all_goals first | exact h | simp
theorem thr_u8 (s : ByteArray) (most : Int) : ∀ (u a : Nat), 0 ≤ (ST.thr s most (fun _ => 0) u a).2.2 ∧ (ST.thr s most (fun _ => 0) u a).2.2 ≤ 242
  | 0, a => by rw [ST.thr]; simp
  | u + 1, a => by
    rw [ST.thr]
    have h := first_u8 (s.extract a s.size) most
    repeat' split
    all_goals first | exact thr_u8 s most u _ | exact h | (simp; done) | (simp; split <;> omega)
theorem thr_len (s : ByteArray) (most : Int) (f : ByteArray → Int) : ∀ (u a : Nat), a ≤ s.size → 2 * (ST.thr s most f u a).1.length + a ≤ s.size
  | 0, a, h => by rw [ST.thr]; simpa using h
  | u + 1, a, h => by
    rw [ST.thr]
    split
    · rename_i h1
      obtain ⟨k, hk, hk1, hk2⟩ := ST.first_ok _ _ h1
      rw [ByteArray.size_extract] at hk2
      rw [hk]
      simp only [Int.toNat_natCast]
      split
      · have := thr_len s most f u (a + k) (by omega)
        simp only [List.length_cons]
        omega
      · simpa using h
    · simpa using h
theorem thr_one : ST.thr ⟨#[192, 0]⟩ 9 (fun _ => 0) 3 0 = ([⟨#[192, 0]⟩], 2, 0) := by kernel_rfl
theorem st_drewN (B : Nat) (w : World) (n : Nat) : Below B w (w.drewN n) := ⟨rfl, rfl, rfl, Nat.le_refl _, fun _ _ => rfl⟩

set_option maxRecDepth 100000 in
set_option maxHeartbeats 4000000 in
theorem streamSplits_walk (s : ByteArray) (most : Int) (hs : s.size ≤ 1048576) (w : World) :
    Calls Try.prog 3 #[.string s, .int .i64 most] w fun e w' => e = .returned (.bool true) ∧ Below w.heap.size w w' := by
  have C1 := Lib.hid (split_any s most hs)
  have C2 := Lib.hid (rsplit_any s most hs)
  have C3 : Hid (∀ W, Calls Try.prog 4 #[.string ⟨#[192, 0]⟩, .int .i64 9] W (SplP W .u8 ⟨#[192, 0]⟩ ([⟨#[192, 0]⟩], 2, 0))) := Lib.hid (fun W => by
    have := split_any ⟨#[192, 0]⟩ 9 (by decide) W
    rw [show (ByteArray.size ⟨#[192, 0]⟩) + 1 = 3 from rfl, thr_one] at this
    exact this)
  have hu := thr_u8 s most (s.size + 1) 0
  have hlen := thr_len s most (fun _ => 0) (s.size + 1) 0 (by omega)
  generalize ST.thr s most (fun _ => 0) (s.size + 1) 0 = X at *
  obtain ⟨l, a, c⟩ := X
  simp only at hu hlen
  obtain ⟨hc0, hc1⟩ := hu
  unfold SplP at C1 C2 C3
  simp only at C1 C2 C3
  generalize s.extract a s.size = T at *
  have hlu : (l.map Value.string).length ≤ 1048576 := by simp; omega
  have Hll : Hid (l.length = (l.map Value.string).length) := Lib.hid (by simp)
  rw [Hll.out] at C1 C2
  have Hstr : Hid (∀ u ∈ l.map Value.string, ∃ su, u = .string su) := Lib.hid (fun u hu => by obtain ⟨a, _, rfl⟩ := List.mem_map.1 hu; exact ⟨a, rfl⟩)
  generalize l.map Value.string = us at *
  clear Hll
  go_enter Try.func3, Try.ntmps3
  go_wp2_with fail
  refine (C1.out _).mono ?_
  rintro e w1 ⟨v1, rfl, ho1, b1⟩
  obtain ⟨A1, c1, rfl⟩ := own_form ho1
  have Ho1 := Lib.hid ho1
  have B1 := Lib.hid b1
  clear ho1 b1 C1
  go_wp2_with fail
  refine (C2.out _).mono ?_
  rintro e w2 ⟨v2, rfl, ho2, b2⟩
  obtain ⟨A2, c2, rfl⟩ := own_form ho2
  have Ho2 := Lib.hid ho2
  have B2 := Lib.hid b2
  clear ho2 b2 C2
  go_wp2_with fail
  refine (C3.out _).mono ?_
  rintro e w3 ⟨v3, rfl, ho3, b3⟩
  obtain ⟨A3, c3, rfl⟩ := own_form ho3
  have B3 := Lib.hid b3
  clear ho3 b3 C3
  have hnn : ((us.length : Int) != (us.length : Int)) = false := by simp
  have hcc : (c != c) = false := by simp
  have hs3 := B3.out.size
  have hs2 := B2.out.size
  go_wp2_with fail
  go_loopw [57] (fun i wr => ∃ k : Nat, i = .int .i64 k ∧ k ≤ us.length ∧ Hid (Below w3.heap.size w3 wr)) (fun i _ => us.length - (intOf i).toNat)
  case atStart => exact ⟨0, rfl, by omega, Lib.hid (Below.refl _ _)⟩
  case round =>
    obtain ⟨k, rfl, hk, hbr⟩ := hrel
    by_cases hlt2 : k < us.length
    · obtain ⟨u, hu⟩ : ∃ u, us[k]? = some u := ⟨us[k], List.getElem?_eq_getElem hlt2⟩
      obtain ⟨su, rfl⟩ := Hstr.out u (List.mem_of_getElem? hu)
      obtain ⟨g4, p4', hv4, hg4, hg4'⟩ := Ho1.out.form (by omega)
      injection hv4 with hv4 _ hc4'
      subst hv4
      obtain ⟨g5, p5', hv5, hg5, hg5'⟩ := Ho2.out.form (by omega)
      injection hv5 with hv5 _ hc5'
      subst hv5
      have e4 : w1.cell? ⟨g4, k, none⟩ = some (.string su) := by rw [← add0]; exact Ho1.out.cells (g := g4) rfl k _ hu
      have e5 : w2.cell? ⟨g5, k, none⟩ = some (.string su) := by rw [← add0]; exact Ho2.out.cells (g := g5) rfl k _ hu
      have f4 : wr.cell? ⟨g4, k, none⟩ = some (.string su) := by rw [hbr.out.cell (p := ⟨g4, k, none⟩) (by simp; omega), B3.out.cell (p := ⟨g4, k, none⟩) (by simp; omega), B2.out.cell (p := ⟨g4, k, none⟩) hg4']; exact e4
      have f5 : wr.cell? ⟨g5, k, none⟩ = some (.string su) := by rw [hbr.out.cell (p := ⟨g5, k, none⟩) (by simp; omega), B3.out.cell (p := ⟨g5, k, none⟩) hg5']; exact e5
      have i1 : (0 : Int) ≤ (k : Int) := by omega
      have i2 : (k : Int) < (us.length : Int) := by omega
      clear e4 e5 hu hc4' hc5'
      go_wp2_with fail
      go_quiet (fail)
      go_wp2
      go_roundw
      case rel => exact ⟨k + 1, by go_num, by omega, Lib.hid (hbr.out.trans (st_drewN _ _ _))⟩
      case measure => simp [intOf]; omega
    · have hkl : k = us.length := by omega
      subst hkl
      go_wp2
      go_ret
      exact ⟨rfl, B1.out.trans ((B2.out.trans ((B3.out.trans (hbr.out.mono hs3)).mono hs2)).mono B1.out.size)⟩
end Go.Proofs.Ytjajandjdclifaa
