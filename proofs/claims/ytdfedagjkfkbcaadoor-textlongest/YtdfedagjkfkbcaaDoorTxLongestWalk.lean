/- The law on the longest beginning returns true. -/
import Derived.Test.YtdfedagjkfkbcaaDoorTxPure2
import Derived.Test.YtdfedagjkfkbcaaDoorTxCutsWalk
namespace Go.Proofs.YtdfedagjkfkbcaaDoor
open Go.RowKit

namespace TX
theorem cutM_zero (s : ByteArray) (most : Int) (h : most ≤ 0) : cutM s most = 0 := by
  have := cutM_le s most
  unfold clamp at this
  omega
theorem cutM_most (s : ByteArray) (most : Int) : (cutM s most : Int) ≤ max 0 most := by
  have := cutM_le s most
  unfold clamp at this
  omega
end TX

set_option maxRecDepth 100000 in
set_option maxHeartbeats 1000000 in
theorem textLongest_walk (s : ByteArray) (most : Int) (hs : s.size ≤ 140737488351232) (hwf : (Lit.int .i64 most).wf = true) (w : World) (hT : Tabs w) :
    Calls Tryd.prog 9 #[.string s, .int .i64 most] w fun e w' => e = .returned (.bool true) ∧ Below w.heap.size w w' := by
  have hm : -9223372036854775808 ≤ most ∧ most ≤ 9223372036854775807 := by
    simp [Lit.wf, IntKind.min, IntKind.max, IntKind.signed, IntKind.bits] at hwf
    omega
  obtain ⟨hm0, hm1⟩ := hm
  clear hwf
  have h1 := Lib.hid TX.cut_ab
  have C1 := fun w' hT' => cut_any s most hs w' hT'
  have hl : TX.cutM s most ≤ s.size := Nat.le_trans (TX.cutM_le s most) (TX.clamp_le _ _)
  have hza := TX.size_take s _ hl
  have hmx := TX.cutM_most s most
  have hL := fun (n : Nat) (g1 : 1 ≤ n) (g2 : TX.cutM s most + n ≤ s.size) (g3 : (n : Int) ≤ most - TX.cutM s most) => TX.cut_longest s most n g1 g2 g3
  have hz0 : most ≤ 0 → TX.cutM s most = 0 := TX.cutM_zero s most
  have hbad : TX.bad (s.extract 0 (TX.cutM s most)) = false := TX.bad_no (by rw [TX.cut_text, hza])
  have hsl := fun w' => slice_upto s (TX.cutM s most) hl w'
  have hex : s.extract 0 (s.extract 0 (TX.cutM s most)).size = s.extract 0 (TX.cutM s most) := by rw [hza]
  have hsl2 := fun (k : Nat) (h : TX.cutM s most + k ≤ s.size) w' => slice_upto s (TX.cutM s most + k) h w'
  rw [← hza] at hsl hl hmx hL hz0 hsl2
  rw [hex] at hsl
  clear hex
  generalize s.extract 0 (TX.cutM s most) = a at *
  have hr0 : -9223372036854775808 ≤ most - a.size := by omega
  have hr1 : most - a.size ≤ 9223372036854775807 := by omega
  have hx : (a.size : Int) ≤ max 0 most := hmx
  have q1 : decide (max 0 most < (a.size : Int)) = false := decide_eq_false (by omega)
  have q2 : decide (s.size < a.size) = false := decide_eq_false (by omega)
  have HL := Lib.hid hL
  have HB := Lib.hid hbad
  have HS := Lib.hid hsl2
  clear hza hmx hL hz0 hbad hsl2
  go_enter Tryd.func9, Tryd.ntmps9
  go_wp2_with fail
  refine (C1 _ hT).mono ?_
  rintro e w1 ⟨rfl, b1⟩
  have t1 := hT.below b1
  clear C1
  go_wp2_with fail
  refine (fault_any a (by omega) _ t1).mono ?_
  rintro e w2 ⟨rfl, b2⟩
  rw [HB.out]
  have B2 := b1.trans (b2.mono b1.size)
  clear b1 b2 t1
  generalize TX.flt a = f
  go_wp2
  clear hsl q1 q2 hx
  go_loopw [8] (fun n wr => ∃ k : Nat, 1 ≤ k ∧ k ≤ 5 ∧ n = .int .i64 k ∧ Below w.heap.size w wr) (fun n _ => 5 - (intOf n).toNat)
  case atStart => exact ⟨1, by omega, by omega, rfl, B2⟩
  case round =>
    obtain ⟨k, hk1, hk5, rfl, hb⟩ := hrel
    have t3 := hT.below hb
    by_cases hc : k ≤ 4 ∧ a.size + k ≤ s.size
    · obtain ⟨hc1, hc2⟩ := hc
      have hsl := HS.out k hc2
      rw [Int.natCast_add] at hsl
      have C := fault_any (s.extract 0 (a.size + k)) (by rw [TX.size_take s _ hc2]; omega) wr t3
      have d1 : (k : Int) ≤ (s.size : Int) - a.size := by omega
      by_cases hn : (k : Int) ≤ most - a.size
      · rw [HL.out k hk1 hc2 hn] at C
        generalize TX.flt (s.extract 0 (a.size + k)) = f' at C
        go_wp2_with fail
        refine C.mono ?_
        rintro e w3 ⟨rfl, b3⟩
        go_wp2
        go_roundw
        case rel => exact ⟨k + 1, by omega, by omega, by go_num, hb.trans (b3.mono hb.size)⟩
        case measure => simp [intOf]; omega
      · generalize TX.flt (s.extract 0 (a.size + k)) = f' at C
        generalize TX.bad (s.extract 0 (a.size + k)) = b' at C
        cases b'
        · go_wp2_with fail
          refine C.mono ?_
          rintro e w3 ⟨rfl, b3⟩
          go_wp2
          go_roundw
          case rel => exact ⟨k + 1, by omega, by omega, by go_num, hb.trans (b3.mono hb.size)⟩
          case measure => simp [intOf]; omega
        · go_wp2_with fail
          refine C.mono ?_
          rintro e w3 ⟨rfl, b3⟩
          go_wp2
          go_roundw
          case rel => exact ⟨k + 1, by omega, by omega, by go_num, hb.trans (b3.mono hb.size)⟩
          case measure => simp [intOf]; omega
    · have C := cut_any ⟨#[97, 98]⟩ 1 (by decide) wr t3
      rw [h1.out] at C
      by_cases h4 : k ≤ 4
      · have d1 : (s.size : Int) - a.size < k := by omega
        clear hc
        go_wp2_with fail
        refine C.mono ?_
        rintro e w3 ⟨rfl, b3⟩
        go_wp2
        go_ret
        exact ⟨rfl, hb.trans (b3.mono hb.size)⟩
      · clear hc
        go_wp2_with fail
        refine C.mono ?_
        rintro e w3 ⟨rfl, b3⟩
        go_wp2
        go_ret
        exact ⟨rfl, hb.trans (b3.mono hb.size)⟩

end Go.Proofs.YtdfedagjkfkbcaaDoor
