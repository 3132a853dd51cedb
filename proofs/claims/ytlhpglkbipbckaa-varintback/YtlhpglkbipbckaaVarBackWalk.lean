/- A number is read back from its bytes: the law returns true. -/
import Derived.Test.YtlhpglkbipbckaaVarPut
import Derived.Test.YtlhpglkbipbckaaVarGetRef
import Derived.Test.YtlhpglkbipbckaaVarPureBack
import Derived.Laws.DeepStrings4
import Derived.Laws.Slices
namespace Go.Proofs.Ytlhpglkbipbckaa
open Go.RowKit

theorem slice_to (s : ByteArray) (m : Nat) (h : m ≤ s.size) (w : World) :
    (Instr.slice 9 (.string s) none (some (.int .i64 (m : Int))) none).run Try.prog w = .ok (.string (s.extract 0 m)) w := by
  rw [run_slice_string_h w 9 s Try.underlying9 .i64 _ (by omega) (by omega)]
  simp

set_option maxHeartbeats 1000000 in
theorem back_rest (N : Int) (h0 : 0 ≤ N) (h1 : N ≤ 268435455) (s : ByteArray) (hs : s.size ≤ maxLen) (n : Int) (hn : (if 0 < n then n % 268435456 else 0) = N) (w : World) :
    Calls Try.prog 9 #[.int .i64 n, .string s] w fun e w' => e = .returned (.bool true) ∧ Below w.heap.size w w' := by
  have HC := Lib.hid (VP.putC_in h0 h1)
  have HG := Lib.hid (VP.get_put h0 h1)
  have HL := Lib.hid (VP.putL_len h0 h1)
  have hlen : 1 ≤ (VP.putL N).length ∧ (VP.putL N).length ≤ 4 := by have := VP.putL_len h0 h1; have := VP.sz_in h0 h1; omega
  obtain ⟨hl0, hl1⟩ := hlen
  have HM := Lib.hid (show (strOfNums (VP.putL N)).size ≤ maxLen by rw [strOfNums_size]; unfold maxLen; omega)
  have hsz := strOfNums_size
  by_cases hp : 0 < n
  · rw [if_pos hp] at hn
    go_enter Try.func9, Try.ntmps9
    go_wp2_with fail
    rw [hn]
    clear hn
    refine (put_any N _).mono ?_
    rintro e w1 ⟨rfl, b1⟩
    rw [HC.out]
    go_wp2_with fail
    refine (get_any (strOfNums (VP.putL N)) 0 HM.out _).mono ?_
    rintro e w' ⟨rfl, rfl⟩
    rw [HG.out]
    go_wp2_with fail
    refine (size_any N _).mono ?_
    rintro e w' ⟨rfl, rfl⟩
    rw [← HL.out]
    go_wp2_with fail
    refine (get_any s 0 hs _).mono ?_
    rintro e w' ⟨rfl, rfl⟩
    by_cases hc : (VP.get s 0).2.2 = 0
    · obtain ⟨x, m, hm0, hm1, hx0, hx1, hgs, hex⟩ := VP.read_back s hc
      have HE := Lib.hid hex
      have HX := Lib.hid (VP.putC_in hx0 hx1)
      have hsl := slice_to s m hm1
      rw [hgs]
      clear hc hgs hex
      go_wp2_with fail
      refine (put_any x _).mono ?_
      rintro e w2 ⟨rfl, b2⟩
      rw [HX.out]
      rw [HE.out] at hsl
      go_wp2
      go_ret
      exact ⟨rfl, b1.trans (b2.mono b1.size)⟩
    · obtain ⟨c, hcd⟩ : ∃ c, c = (VP.get s 0).2.2 := ⟨_, rfl⟩
      have hne : (c != 0) = true := by rw [hcd, bne_iff_ne]; exact hc
      obtain ⟨a, b, hab⟩ : ∃ a b, VP.get s 0 = (a, b, c) := ⟨_, _, by rw [hcd]⟩
      rw [hab]
      clear hcd hab hc
      go_wp2
      go_ret
      exact ⟨rfl, b1⟩
  · rw [if_neg hp] at hn
    subst hn
    go_enter Try.func9, Try.ntmps9
    go_wp2_with fail
    refine (put_any 0 _).mono ?_
    rintro e w1 ⟨rfl, b1⟩
    rw [HC.out]
    go_wp2_with fail
    refine (get_any (strOfNums (VP.putL 0)) 0 HM.out _).mono ?_
    rintro e w' ⟨rfl, rfl⟩
    rw [HG.out]
    go_wp2_with fail
    refine (size_any 0 _).mono ?_
    rintro e w' ⟨rfl, rfl⟩
    rw [← HL.out]
    go_wp2_with fail
    refine (get_any s 0 hs _).mono ?_
    rintro e w' ⟨rfl, rfl⟩
    by_cases hc : (VP.get s 0).2.2 = 0
    · obtain ⟨x, m, hm0, hm1, hx0, hx1, hgs, hex⟩ := VP.read_back s hc
      have HE := Lib.hid hex
      have HX := Lib.hid (VP.putC_in hx0 hx1)
      have hsl := slice_to s m hm1
      rw [hgs]
      clear hc hgs hex
      go_wp2_with fail
      refine (put_any x _).mono ?_
      rintro e w2 ⟨rfl, b2⟩
      rw [HX.out]
      rw [HE.out] at hsl
      go_wp2
      go_ret
      exact ⟨rfl, b1.trans (b2.mono b1.size)⟩
    · obtain ⟨c, hcd⟩ : ∃ c, c = (VP.get s 0).2.2 := ⟨_, rfl⟩
      have hne : (c != 0) = true := by rw [hcd, bne_iff_ne]; exact hc
      obtain ⟨a, b, hab⟩ : ∃ a b, VP.get s 0 = (a, b, c) := ⟨_, _, by rw [hcd]⟩
      rw [hab]
      clear hcd hab hc
      go_wp2
      go_ret
      exact ⟨rfl, b1⟩

theorem varintBack_walk (n : Int) (s : ByteArray) (_hw : (Lit.int .i64 n).wf = true) (hs : s.size ≤ maxLen) (w : World) :
    Calls Try.prog 9 #[.int .i64 n, .string s] w fun e w' => e = .returned (.bool true) ∧ Below w.heap.size w w' :=
  back_rest (if 0 < n then n % 268435456 else 0) (by split <;> omega) (by split <;> omega) s hs n rfl w

end Go.Proofs.Ytlhpglkbipbckaa
