/- The document's functions on texts answer the same plain numbers. -/
import Derived.Test.YtemfcaaoobjgkaaGreatDoorTxBegin
import Derived.Test.YtemfcaaoobjgkaaGreatDoorVarBytes
namespace Go.Proofs.YtemfcaaoobjgkaaGreatDoor
open Go.RowKit

namespace TX
/-- Is there a byte from one up to another at a place? -/
def tl (s : ByteArray) (i a b : Nat) : Bool := decide (i < s.size ∧ a ≤ by_ s i ∧ by_ s i ≤ b)

theorem tl_true {s : ByteArray} {i a b : Nat} : tl s i a b = true ↔ i < s.size ∧ a ≤ by_ s i ∧ by_ s i ≤ b := by
  unfold tl
  exact decide_eq_true_iff

/-- A character's length by what is known of the bytes behind its first one. -/
def charB (b : Nat) (o t u h3 l3 h4 l4 : Bool) : Nat :=
  if 1 ≤ b ∧ b ≤ 127 then 1
  else if 194 ≤ b ∧ b ≤ 223 ∧ o = true then 2
  else if 224 ≤ b ∧ b ≤ 239 ∧ o = true ∧ t = true then (if (b = 224 ∧ h3 = false) ∨ (b = 237 ∧ l3 = false) then 0 else 3)
  else if 240 ≤ b ∧ b ≤ 244 ∧ o = true ∧ t = true ∧ u = true then (if (b = 240 ∧ h4 = false) ∨ (b = 244 ∧ l4 = false) then 0 else 4)
  else 0

theorem chr_tl (s : ByteArray) (i : Nat) (hi : i < s.size) :
    chr s i = charB (by_ s i) (tl s (i + 1) 128 191) (tl s (i + 2) 128 191) (tl s (i + 3) 128 191) (tl s (i + 1) 160 191) (tl s (i + 1) 128 159) (tl s (i + 1) 144 191) (tl s (i + 1) 128 143) := by
  unfold chr charB cl
  rw [if_pos hi]
  have f : ∀ i a b, tl s i a b = false ↔ ¬ (i < s.size ∧ a ≤ by_ s i ∧ by_ s i ≤ b) := fun i a b => by
    rw [← Bool.not_eq_true, tl_true]
  simp only [tl_true, f]
  repeat' split
  all_goals omega

theorem tl_get {s : ByteArray} {i : Nat} (a b : Nat) (h : i < s.size) : tl s i a b = (decide ((a : Int) ≤ ((s[i]'h).toNat : Int)) && decide (((s[i]'h).toNat : Int) ≤ b)) := by
  rw [Bool.eq_iff_iff, tl_true, by_get s i h]
  simp
  omega
theorem tl_out {s : ByteArray} {i : Nat} (a b : Nat) (h : ¬ i < s.size) : tl s i a b = false := by
  rw [← Bool.not_eq_true, tl_true]
  omega
end TX

theorem ret_bool {a b : Bool} (h : a = b) : Ending.returned (.bool a) = .returned (.bool b) := by rw [h]

set_option maxRecDepth 100000 in
set_option maxHeartbeats 400000 in
theorem reftail_any (s : ByteArray) (x : Int) (i a b : Nat) (hx : x = i) (w : World) :
    Calls Tryz.prog 145 #[.string s, .int .i64 x, .int .i64 a, .int .i64 b] w fun e w' => e = .returned (.bool (TX.tl s i a b)) ∧ w = w' := by
  subst hx
  by_cases h : i < s.size
  · have H := Lib.hid (TX.tl_get a b h)
    have hb := byte_lt s i h
    go_enter Tryz.func145, Tryz.ntmps145
    go_wp2
    all_goals
      go_ret
      refine ⟨ret_bool ?_, rfl⟩
      rw [H.out, Bool.eq_iff_iff]
      simp
      omega
  · rw [TX.tl_out a b h]
    go_enter Tryz.func145, Tryz.ntmps145
    go_wp2
    go_ret
    exact ⟨rfl, rfl⟩

set_option maxRecDepth 100000 in
set_option maxHeartbeats 4000000 in
theorem refchar_any (s : ByteArray) (i : Nat) (hi : i < s.size) (hs : s.size ≤ 140737488351232) (w : World) :
    Calls Tryz.prog 137 #[.string s, .int .i64 i] w fun e w' => e = .returned (.int .i64 (TX.chr s i)) ∧ w = w' := by
  have key := TX.chr_tl s i hi
  rw [TX.by_get s i hi] at key
  have c1 := reftail_any s ((i : Int) + 1) (i + 1) 128 191 (by omega) w
  have c2 := reftail_any s ((i : Int) + 2) (i + 2) 128 191 (by omega) w
  have c3 := reftail_any s ((i : Int) + 3) (i + 3) 128 191 (by omega) w
  have c4 := reftail_any s ((i : Int) + 1) (i + 1) 160 191 (by omega) w
  have c5 := reftail_any s ((i : Int) + 1) (i + 1) 128 159 (by omega) w
  have c6 := reftail_any s ((i : Int) + 1) (i + 1) 144 191 (by omega) w
  have c7 := reftail_any s ((i : Int) + 1) (i + 1) 128 143 (by omega) w
  generalize TX.tl s (i + 1) 128 191 = o at *
  generalize TX.tl s (i + 2) 128 191 = t at *
  generalize TX.tl s (i + 3) 128 191 = u at *
  generalize TX.tl s (i + 1) 160 191 = h3 at *
  generalize TX.tl s (i + 1) 128 159 = l3 at *
  generalize TX.tl s (i + 1) 144 191 = h4 at *
  generalize TX.tl s (i + 1) 128 143 = l4 at *
  unfold TX.charB at key
  have hb := byte_lt s i hi
  rcases (show (1 ≤ (s[i]'hi).toNat ∧ (s[i]'hi).toNat ≤ 127) ∨ (194 ≤ (s[i]'hi).toNat ∧ (s[i]'hi).toNat ≤ 223) ∨ (224 ≤ (s[i]'hi).toNat ∧ (s[i]'hi).toNat ≤ 239) ∨ (240 ≤ (s[i]'hi).toNat ∧ (s[i]'hi).toNat ≤ 244) ∨
      ((s[i]'hi).toNat < 1) ∨ (128 ≤ (s[i]'hi).toNat ∧ (s[i]'hi).toNat ≤ 193) ∨ 245 ≤ (s[i]'hi).toNat by omega) with ⟨g, g'⟩ | ⟨g, g'⟩ | ⟨g, g'⟩ | ⟨g, g'⟩ | g | ⟨g, g'⟩ | g
  · -- one byte
    rw [if_pos (by omega)] at key
    have K := Lib.hid key
    clear key c1 c2 c3 c4 c5 c6 c7
    have q1 : (1 : Int) ≤ ((s[i]'hi).toNat : Int) := by omega
    have q2 : ((s[i]'hi).toNat : Int) ≤ 127 := by omega
    go_enter Tryz.func137, Tryz.ntmps137
    go_wp2
    go_ret
    exact ⟨ret_int (by rw [K.out]; rfl), rfl⟩
  · -- two
    rw [if_neg (by omega)] at key
    have q1 : (194 : Int) ≤ ((s[i]'hi).toNat : Int) := by omega
    have q2 : ((s[i]'hi).toNat : Int) ≤ 223 := by omega
    cases o
    · rw [if_neg (by simp), if_neg (by omega), if_neg (by omega)] at key
      have K := Lib.hid key
      clear key c4 c5 c6 c7
      go_enter Tryz.func137, Tryz.ntmps137
      go_wp2_with fail
      refine c1.mono ?_
      rintro e w' ⟨rfl, rfl⟩
      clear c1
      go_wp2_with fail
      refine c2.mono ?_
      rintro e w' ⟨rfl, rfl⟩
      clear c2
      go_wp2_with fail
      refine c3.mono ?_
      rintro e w' ⟨rfl, rfl⟩
      clear c3
      go_wp2
      go_ret
      exact ⟨ret_int (by rw [K.out]; rfl), rfl⟩
    · rw [if_pos ⟨by omega, by omega, rfl⟩] at key
      have K := Lib.hid key
      clear key c4 c5 c6 c7
      go_enter Tryz.func137, Tryz.ntmps137
      go_wp2_with fail
      refine c1.mono ?_
      rintro e w' ⟨rfl, rfl⟩
      clear c1
      go_wp2_with fail
      refine c2.mono ?_
      rintro e w' ⟨rfl, rfl⟩
      clear c2
      go_wp2_with fail
      refine c3.mono ?_
      rintro e w' ⟨rfl, rfl⟩
      clear c3
      go_wp2
      go_ret
      exact ⟨ret_int (by rw [K.out]; rfl), rfl⟩
  · -- three
    rw [if_neg (by omega), if_neg (by omega)] at key
    have q1 : (224 : Int) ≤ ((s[i]'hi).toNat : Int) := by omega
    have q2 : ((s[i]'hi).toNat : Int) ≤ 239 := by omega
    by_cases hot : o = true ∧ t = true
    · obtain ⟨rfl, rfl⟩ := hot
      rw [if_pos ⟨by omega, by omega, rfl, rfl⟩] at key
      by_cases hz : ((s[i]'hi).toNat = 224 ∧ h3 = false) ∨ ((s[i]'hi).toNat = 237 ∧ l3 = false)
      · rw [if_pos hz] at key
        have K := Lib.hid key
        clear key c6 c7
        rcases hz with ⟨e1, rfl⟩ | ⟨e1, rfl⟩
        · have y1 : (((s[i]'hi).toNat : Int) == 224) = true := by rw [beq_iff_eq]; omega
          clear e1
          go_enter Tryz.func137, Tryz.ntmps137
          go_wp2_with fail
          refine c1.mono ?_
          rintro e w' ⟨rfl, rfl⟩
          clear c1
          go_wp2_with fail
          refine c2.mono ?_
          rintro e w' ⟨rfl, rfl⟩
          clear c2
          go_wp2_with fail
          refine c3.mono ?_
          rintro e w' ⟨rfl, rfl⟩
          clear c3
          go_wp2_with fail
          refine c4.mono ?_
          rintro e w' ⟨rfl, rfl⟩
          clear c4
          go_wp2_with fail
          refine c5.mono ?_
          rintro e w' ⟨rfl, rfl⟩
          clear c5
          go_wp2
          go_ret
          exact ⟨ret_int (by rw [K.out]; rfl), rfl⟩
        · have y1 : (((s[i]'hi).toNat : Int) == 224) = false := by rw [beq_eq_false_iff_ne]; omega
          have y2 : (((s[i]'hi).toNat : Int) == 237) = true := by rw [beq_iff_eq]; omega
          clear e1
          go_enter Tryz.func137, Tryz.ntmps137
          go_wp2_with fail
          refine c1.mono ?_
          rintro e w' ⟨rfl, rfl⟩
          clear c1
          go_wp2_with fail
          refine c2.mono ?_
          rintro e w' ⟨rfl, rfl⟩
          clear c2
          go_wp2_with fail
          refine c3.mono ?_
          rintro e w' ⟨rfl, rfl⟩
          clear c3
          go_wp2_with fail
          refine c4.mono ?_
          rintro e w' ⟨rfl, rfl⟩
          clear c4
          go_wp2_with fail
          refine c5.mono ?_
          rintro e w' ⟨rfl, rfl⟩
          clear c5
          go_wp2
          go_ret
          exact ⟨ret_int (by rw [K.out]; rfl), rfl⟩
      · rw [if_neg hz] at key
        have K := Lib.hid key
        clear key c6 c7
        by_cases e1 : (s[i]'hi).toNat = 224
        · obtain rfl : h3 = true := by cases h3 <;> simp_all
          have y1 : (((s[i]'hi).toNat : Int) == 224) = true := by rw [beq_iff_eq]; omega
          have y2 : (((s[i]'hi).toNat : Int) == 237) = false := by rw [beq_eq_false_iff_ne]; omega
          clear e1 hz
          go_enter Tryz.func137, Tryz.ntmps137
          go_wp2_with fail
          refine c1.mono ?_
          rintro e w' ⟨rfl, rfl⟩
          clear c1
          go_wp2_with fail
          refine c2.mono ?_
          rintro e w' ⟨rfl, rfl⟩
          clear c2
          go_wp2_with fail
          refine c3.mono ?_
          rintro e w' ⟨rfl, rfl⟩
          clear c3
          go_wp2_with fail
          refine c4.mono ?_
          rintro e w' ⟨rfl, rfl⟩
          clear c4
          go_wp2_with fail
          refine c5.mono ?_
          rintro e w' ⟨rfl, rfl⟩
          clear c5
          go_wp2
          go_ret
          exact ⟨ret_int (by rw [K.out]; rfl), rfl⟩
        · have y1 : (((s[i]'hi).toNat : Int) == 224) = false := by rw [beq_eq_false_iff_ne]; omega
          by_cases e2 : (s[i]'hi).toNat = 237
          · obtain rfl : l3 = true := by cases l3 <;> simp_all
            have y2 : (((s[i]'hi).toNat : Int) == 237) = true := by rw [beq_iff_eq]; omega
            clear e1 e2 hz
            go_enter Tryz.func137, Tryz.ntmps137
            go_wp2_with fail
            refine c1.mono ?_
            rintro e w' ⟨rfl, rfl⟩
            clear c1
            go_wp2_with fail
            refine c2.mono ?_
            rintro e w' ⟨rfl, rfl⟩
            clear c2
            go_wp2_with fail
            refine c3.mono ?_
            rintro e w' ⟨rfl, rfl⟩
            clear c3
            go_wp2_with fail
            refine c4.mono ?_
            rintro e w' ⟨rfl, rfl⟩
            clear c4
            go_wp2_with fail
            refine c5.mono ?_
            rintro e w' ⟨rfl, rfl⟩
            clear c5
            go_wp2
            go_ret
            exact ⟨ret_int (by rw [K.out]; rfl), rfl⟩
          · have y2 : (((s[i]'hi).toNat : Int) == 237) = false := by rw [beq_eq_false_iff_ne]; omega
            clear e1 e2 hz
            go_enter Tryz.func137, Tryz.ntmps137
            go_wp2_with fail
            refine c1.mono ?_
            rintro e w' ⟨rfl, rfl⟩
            clear c1
            go_wp2_with fail
            refine c2.mono ?_
            rintro e w' ⟨rfl, rfl⟩
            clear c2
            go_wp2_with fail
            refine c3.mono ?_
            rintro e w' ⟨rfl, rfl⟩
            clear c3
            go_wp2_with fail
            refine c4.mono ?_
            rintro e w' ⟨rfl, rfl⟩
            clear c4
            go_wp2_with fail
            refine c5.mono ?_
            rintro e w' ⟨rfl, rfl⟩
            clear c5
            go_wp2
            go_ret
            exact ⟨ret_int (by rw [K.out]; rfl), rfl⟩
    · rw [if_neg (fun g => hot ⟨g.2.2.1, g.2.2.2⟩), if_neg (by omega)] at key
      have K := Lib.hid key
      clear key c4 c5 c6 c7
      cases o
      · clear hot
        go_enter Tryz.func137, Tryz.ntmps137
        go_wp2_with fail
        refine c1.mono ?_
        rintro e w' ⟨rfl, rfl⟩
        clear c1
        go_wp2_with fail
        refine c2.mono ?_
        rintro e w' ⟨rfl, rfl⟩
        clear c2
        go_wp2_with fail
        refine c3.mono ?_
        rintro e w' ⟨rfl, rfl⟩
        clear c3
        go_wp2
        go_ret
        exact ⟨ret_int (by rw [K.out]; rfl), rfl⟩
      · obtain rfl : t = false := by cases t <;> simp_all
        clear hot
        go_enter Tryz.func137, Tryz.ntmps137
        go_wp2_with fail
        refine c1.mono ?_
        rintro e w' ⟨rfl, rfl⟩
        clear c1
        go_wp2_with fail
        refine c2.mono ?_
        rintro e w' ⟨rfl, rfl⟩
        clear c2
        go_wp2_with fail
        refine c3.mono ?_
        rintro e w' ⟨rfl, rfl⟩
        clear c3
        go_wp2
        go_ret
        exact ⟨ret_int (by rw [K.out]; rfl), rfl⟩
  · -- four
    rw [if_neg (by omega), if_neg (by omega), if_neg (by omega)] at key
    have q1 : (240 : Int) ≤ ((s[i]'hi).toNat : Int) := by omega
    have q2 : ((s[i]'hi).toNat : Int) ≤ 244 := by omega
    by_cases hot : o = true ∧ t = true ∧ u = true
    · obtain ⟨rfl, rfl, rfl⟩ := hot
      rw [if_pos ⟨by omega, by omega, rfl, rfl, rfl⟩] at key
      by_cases hz : ((s[i]'hi).toNat = 240 ∧ h4 = false) ∨ ((s[i]'hi).toNat = 244 ∧ l4 = false)
      · rw [if_pos hz] at key
        have K := Lib.hid key
        clear key c4 c5
        rcases hz with ⟨e1, rfl⟩ | ⟨e1, rfl⟩
        · have y1 : (((s[i]'hi).toNat : Int) == 240) = true := by rw [beq_iff_eq]; omega
          clear e1
          go_enter Tryz.func137, Tryz.ntmps137
          go_wp2_with fail
          refine c1.mono ?_
          rintro e w' ⟨rfl, rfl⟩
          clear c1
          go_wp2_with fail
          refine c2.mono ?_
          rintro e w' ⟨rfl, rfl⟩
          clear c2
          go_wp2_with fail
          refine c3.mono ?_
          rintro e w' ⟨rfl, rfl⟩
          clear c3
          go_wp2_with fail
          refine c6.mono ?_
          rintro e w' ⟨rfl, rfl⟩
          clear c6
          go_wp2_with fail
          refine c7.mono ?_
          rintro e w' ⟨rfl, rfl⟩
          clear c7
          go_wp2
          go_ret
          exact ⟨ret_int (by rw [K.out]; rfl), rfl⟩
        · have y1 : (((s[i]'hi).toNat : Int) == 240) = false := by rw [beq_eq_false_iff_ne]; omega
          have y2 : (((s[i]'hi).toNat : Int) == 244) = true := by rw [beq_iff_eq]; omega
          clear e1
          go_enter Tryz.func137, Tryz.ntmps137
          go_wp2_with fail
          refine c1.mono ?_
          rintro e w' ⟨rfl, rfl⟩
          clear c1
          go_wp2_with fail
          refine c2.mono ?_
          rintro e w' ⟨rfl, rfl⟩
          clear c2
          go_wp2_with fail
          refine c3.mono ?_
          rintro e w' ⟨rfl, rfl⟩
          clear c3
          go_wp2_with fail
          refine c6.mono ?_
          rintro e w' ⟨rfl, rfl⟩
          clear c6
          go_wp2_with fail
          refine c7.mono ?_
          rintro e w' ⟨rfl, rfl⟩
          clear c7
          go_wp2
          go_ret
          exact ⟨ret_int (by rw [K.out]; rfl), rfl⟩
      · rw [if_neg hz] at key
        have K := Lib.hid key
        clear key c4 c5
        by_cases e1 : (s[i]'hi).toNat = 240
        · obtain rfl : h4 = true := by cases h4 <;> simp_all
          have y1 : (((s[i]'hi).toNat : Int) == 240) = true := by rw [beq_iff_eq]; omega
          have y2 : (((s[i]'hi).toNat : Int) == 244) = false := by rw [beq_eq_false_iff_ne]; omega
          clear e1 hz
          go_enter Tryz.func137, Tryz.ntmps137
          go_wp2_with fail
          refine c1.mono ?_
          rintro e w' ⟨rfl, rfl⟩
          clear c1
          go_wp2_with fail
          refine c2.mono ?_
          rintro e w' ⟨rfl, rfl⟩
          clear c2
          go_wp2_with fail
          refine c3.mono ?_
          rintro e w' ⟨rfl, rfl⟩
          clear c3
          go_wp2_with fail
          refine c6.mono ?_
          rintro e w' ⟨rfl, rfl⟩
          clear c6
          go_wp2_with fail
          refine c7.mono ?_
          rintro e w' ⟨rfl, rfl⟩
          clear c7
          go_wp2
          go_ret
          exact ⟨ret_int (by rw [K.out]; rfl), rfl⟩
        · have y1 : (((s[i]'hi).toNat : Int) == 240) = false := by rw [beq_eq_false_iff_ne]; omega
          by_cases e2 : (s[i]'hi).toNat = 244
          · obtain rfl : l4 = true := by cases l4 <;> simp_all
            have y2 : (((s[i]'hi).toNat : Int) == 244) = true := by rw [beq_iff_eq]; omega
            clear e1 e2 hz
            go_enter Tryz.func137, Tryz.ntmps137
            go_wp2_with fail
            refine c1.mono ?_
            rintro e w' ⟨rfl, rfl⟩
            clear c1
            go_wp2_with fail
            refine c2.mono ?_
            rintro e w' ⟨rfl, rfl⟩
            clear c2
            go_wp2_with fail
            refine c3.mono ?_
            rintro e w' ⟨rfl, rfl⟩
            clear c3
            go_wp2_with fail
            refine c6.mono ?_
            rintro e w' ⟨rfl, rfl⟩
            clear c6
            go_wp2_with fail
            refine c7.mono ?_
            rintro e w' ⟨rfl, rfl⟩
            clear c7
            go_wp2
            go_ret
            exact ⟨ret_int (by rw [K.out]; rfl), rfl⟩
          · have y2 : (((s[i]'hi).toNat : Int) == 244) = false := by rw [beq_eq_false_iff_ne]; omega
            clear e1 e2 hz
            go_enter Tryz.func137, Tryz.ntmps137
            go_wp2_with fail
            refine c1.mono ?_
            rintro e w' ⟨rfl, rfl⟩
            clear c1
            go_wp2_with fail
            refine c2.mono ?_
            rintro e w' ⟨rfl, rfl⟩
            clear c2
            go_wp2_with fail
            refine c3.mono ?_
            rintro e w' ⟨rfl, rfl⟩
            clear c3
            go_wp2_with fail
            refine c6.mono ?_
            rintro e w' ⟨rfl, rfl⟩
            clear c6
            go_wp2_with fail
            refine c7.mono ?_
            rintro e w' ⟨rfl, rfl⟩
            clear c7
            go_wp2
            go_ret
            exact ⟨ret_int (by rw [K.out]; rfl), rfl⟩
    · rw [if_neg (fun g => hot ⟨g.2.2.1, g.2.2.2.1, g.2.2.2.2⟩)] at key
      have K := Lib.hid key
      clear key c4 c5 c6 c7
      cases o
      · clear hot
        go_enter Tryz.func137, Tryz.ntmps137
        go_wp2_with fail
        refine c1.mono ?_
        rintro e w' ⟨rfl, rfl⟩
        clear c1
        go_wp2_with fail
        refine c2.mono ?_
        rintro e w' ⟨rfl, rfl⟩
        clear c2
        go_wp2_with fail
        refine c3.mono ?_
        rintro e w' ⟨rfl, rfl⟩
        clear c3
        go_wp2
        go_ret
        exact ⟨ret_int (by rw [K.out]; rfl), rfl⟩
      · cases t
        · clear hot
          go_enter Tryz.func137, Tryz.ntmps137
          go_wp2_with fail
          refine c1.mono ?_
          rintro e w' ⟨rfl, rfl⟩
          clear c1
          go_wp2_with fail
          refine c2.mono ?_
          rintro e w' ⟨rfl, rfl⟩
          clear c2
          go_wp2_with fail
          refine c3.mono ?_
          rintro e w' ⟨rfl, rfl⟩
          clear c3
          go_wp2
          go_ret
          exact ⟨ret_int (by rw [K.out]; rfl), rfl⟩
        · obtain rfl : u = false := by cases u <;> simp_all
          clear hot
          go_enter Tryz.func137, Tryz.ntmps137
          go_wp2_with fail
          refine c1.mono ?_
          rintro e w' ⟨rfl, rfl⟩
          clear c1
          go_wp2_with fail
          refine c2.mono ?_
          rintro e w' ⟨rfl, rfl⟩
          clear c2
          go_wp2_with fail
          refine c3.mono ?_
          rintro e w' ⟨rfl, rfl⟩
          clear c3
          go_wp2
          go_ret
          exact ⟨ret_int (by rw [K.out]; rfl), rfl⟩
  all_goals
    rw [if_neg (by omega), if_neg (by omega), if_neg (by omega), if_neg (by omega)] at key
    have K := Lib.hid key
    clear key c4 c5 c6 c7
  · have q1 : ((s[i]'hi).toNat : Int) < 1 := by omega
    go_enter Tryz.func137, Tryz.ntmps137
    go_wp2_with fail
    refine c1.mono ?_
    rintro e w' ⟨rfl, rfl⟩
    clear c1
    go_wp2_with fail
    refine c2.mono ?_
    rintro e w' ⟨rfl, rfl⟩
    clear c2
    go_wp2_with fail
    refine c3.mono ?_
    rintro e w' ⟨rfl, rfl⟩
    clear c3
    go_wp2
    go_ret
    exact ⟨ret_int (by rw [K.out]; rfl), rfl⟩
  · have q1 : (128 : Int) ≤ ((s[i]'hi).toNat : Int) := by omega
    have q2 : ((s[i]'hi).toNat : Int) ≤ 193 := by omega
    go_enter Tryz.func137, Tryz.ntmps137
    go_wp2_with fail
    refine c1.mono ?_
    rintro e w' ⟨rfl, rfl⟩
    clear c1
    go_wp2_with fail
    refine c2.mono ?_
    rintro e w' ⟨rfl, rfl⟩
    clear c2
    go_wp2_with fail
    refine c3.mono ?_
    rintro e w' ⟨rfl, rfl⟩
    clear c3
    go_wp2
    go_ret
    exact ⟨ret_int (by rw [K.out]; rfl), rfl⟩
  · have q1 : (245 : Int) ≤ ((s[i]'hi).toNat : Int) := by omega
    go_enter Tryz.func137, Tryz.ntmps137
    go_wp2_with fail
    refine c1.mono ?_
    rintro e w' ⟨rfl, rfl⟩
    clear c1
    go_wp2_with fail
    refine c2.mono ?_
    rintro e w' ⟨rfl, rfl⟩
    clear c2
    go_wp2_with fail
    refine c3.mono ?_
    rintro e w' ⟨rfl, rfl⟩
    clear c3
    go_wp2
    go_ret
    exact ⟨ret_int (by rw [K.out]; rfl), rfl⟩

end Go.Proofs.YtemfcaaoobjgkaaGreatDoor
