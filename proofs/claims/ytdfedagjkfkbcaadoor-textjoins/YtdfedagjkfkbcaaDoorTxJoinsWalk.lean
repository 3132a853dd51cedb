/- The law on two texts returns true. -/
import Derived.Test.YtdfedagjkfkbcaaDoorTxPure2
import Derived.Test.YtdfedagjkfkbcaaDoorTxCutsWalk
namespace Go.Proofs.YtdfedagjkfkbcaaDoor
open Go.RowKit

namespace TX
theorem cut_size (s : ByteArray) (most : Int) : (s.extract 0 (cutM s most)).size = cutM s most := size_take s _ (Nat.le_trans (cutM_le s most) (clamp_le _ _))
theorem cut_400 (s : ByteArray) : cutM s 400 ≤ 400 := by
  have := cutM_le s 400
  unfold clamp at this
  omega
end TX

set_option maxHeartbeats 1000000 in
theorem textJoins_walk (s t : ByteArray) (hs : s.size ≤ 140737488351232) (ht : t.size ≤ 140737488351232) (w : World) (hT : Tabs w) :
    Calls Tryd.prog 8 #[.string s, .string t] w fun e w' => e = .returned (.bool true) ∧ Below w.heap.size w w' := by
  have h1 := Lib.hid TX.cut_ab
  have C1 := fun w' hT' => cut_any s 400 hs w' hT'
  have C2 := fun w' hT' => cut_any t 400 ht w' hT'
  have ea : TX.fin (s.extract 0 (TX.cutM s 400)) 0 = (s.extract 0 (TX.cutM s 400)).size := by rw [TX.cut_text, TX.cut_size]
  have eb : TX.fin (t.extract 0 (TX.cutM t 400)) 0 = (t.extract 0 (TX.cutM t 400)).size := by rw [TX.cut_text, TX.cut_size]
  have za : (s.extract 0 (TX.cutM s 400)).size ≤ 400 := by rw [TX.cut_size]; exact TX.cut_400 s
  have zb : (t.extract 0 (TX.cutM t 400)).size ≤ 400 := by rw [TX.cut_size]; exact TX.cut_400 t
  generalize s.extract 0 (TX.cutM s 400) = a at *
  generalize t.extract 0 (TX.cutM t 400) = b at *
  obtain ⟨hj, hn⟩ := TX.join_text a b ea eb
  have hz : (a ++ b).size ≤ 800 := by rw [ByteArray.size_append]; omega
  obtain ⟨g1, g2, g3, g4⟩ := TX.get_back (a ++ b) hj (by omega)
  have HB := Lib.hid (TX.bad_no hj)
  have HN := Lib.hid hn
  have G1 := Lib.hid g1
  have G2 := Lib.hid g2
  have G3 := Lib.hid g3
  have G4 := Lib.hid g4
  have ca := TX.cnt_le a 0 (by omega)
  have cb := TX.cnt_le b 0 (by omega)
  have pz : (TX.putS (a ++ b)).size ≤ 140737488351232 := by
    unfold TX.putS TX.dataS
    split
    · decide
    · split
      · rw [ByteArray.size_append, strOfNums_size]; simp only [List.length_cons, List.length_nil]; omega
      · decide
  clear ea eb hj hn g1 g2 g3 g4 hs ht
  go_enter Tryd.func8, Tryd.ntmps8
  go_wp2_with fail
  refine (C1 _ hT).mono ?_
  rintro e w1 ⟨rfl, b1⟩
  have t1 := hT.below b1
  go_wp2_with fail
  refine (C2 _ t1).mono ?_
  rintro e w2 ⟨rfl, b2⟩
  have B2 := b1.trans (b2.mono b1.size)
  have t2 := hT.below B2
  clear b1 b2 t1 C1 C2
  go_wp2_with fail
  refine (fault_any (a ++ b) (by omega) _ t2).mono ?_
  rintro e w3 ⟨rfl, b3⟩
  rw [HB.out]
  have B3 := B2.trans (b3.mono B2.size)
  have t3 := hT.below B3
  clear b3 B2 t2
  generalize TX.flt (a ++ b) = f
  go_wp2_with fail
  refine (tput_any (a ++ b) (by omega) _ t3).mono ?_
  rintro e w4 ⟨rfl, b4⟩
  rw [G1.out]
  have B4 := B3.trans (b4.mono B3.size)
  have t4 := hT.below B4
  clear b4 B3 t3
  generalize TX.putS (a ++ b) = p at *
  go_wp2_with fail
  refine (tget_any p 0 pz _ t4).mono ?_
  rintro e w5 ⟨rfl, b5⟩
  rw [G2.out, G3.out, G4.out]
  have B5 := B4.trans (b5.mono B4.size)
  have t5 := hT.below B5
  clear b5 B4 t4
  go_wp2_with fail
  refine (cut_any ⟨#[97, 98]⟩ 1 (by decide) _ t5).mono ?_
  rintro e w6 ⟨rfl, b6⟩
  rw [h1.out]
  have B6 := B5.trans (b6.mono B5.size)
  have t6 := hT.below B6
  clear b6 B5 t5
  go_wp2_with fail
  refine (runes_any (a ++ b) (by omega) _ t6).mono ?_
  rintro e w7 ⟨rfl, b7⟩
  rw [HN.out]
  have B7 := B6.trans (b7.mono B6.size)
  have t7 := hT.below B7
  clear b7 B6 t6
  have CA := fun w' hT' => runes_any a (by omega) w' hT'
  have CB := fun w' hT' => runes_any b (by omega) w' hT'
  generalize TX.cnt a 0 = na at *
  generalize TX.cnt b 0 = nb at *
  go_wp2_with fail
  refine (CA _ t7).mono ?_
  rintro e w8 ⟨rfl, b8⟩
  have B8 := B7.trans (b8.mono B7.size)
  have t8 := hT.below B8
  clear b8 B7 t7 CA
  go_wp2_with fail
  refine (CB _ t8).mono ?_
  rintro e w9 ⟨rfl, b9⟩
  have B9 := B8.trans (b9.mono B8.size)
  clear b9 B8 t8 CB G1 G2 G3 G4 HB HN
  go_wp2
  go_ret
  exact ⟨rfl, B9⟩

end Go.Proofs.YtdfedagjkfkbcaaDoor
