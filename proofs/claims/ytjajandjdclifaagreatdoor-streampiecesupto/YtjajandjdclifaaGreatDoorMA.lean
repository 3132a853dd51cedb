/- Plain numbers behind characters: how many bytes a character takes, where the characters of bytes end, how many there are. No program is named here.; The library's decoder, laid at this program; the tables that it reads stay as they are.; What the given rows list of the library's tables is what the decoder asks of memory.; Plain numbers and lists behind the layer of numbers and data: how many bytes a number takes, its bytes. No program is named here.; A number is read back from its bytes, and bytes that are read are just those of the number. No program is named here.; Packets out of bytes: the plain side.; In whatever pieces bytes come, the packets are the same: the plain side, over whatever reads a packet.; Properties as plain data: their kinds. No function of the program is named here.; The kinds of identifiers: the program's and the document's.; Rows of properties in memory.; indexOf: where the first property of an identifier stands.; One element more behind a row of the call's own.; The library's contracts for strings.Builder, at this program. -/
import Derived.Lib.DecodeN
import Derived.Test.YtjajandjdclifaaGreatDoorProg
import Derived.Shelf.Unicode.DecodeAny
import Derived.WalkKit
import Derived.Below
import Derived.Lib.Hide
import Derived.KernelRfl
import Derived.Test.YtjajandjdclifaaGreatDoorRows
import Derived.Lib.LaidU8
import Derived.MakeChecks
import Derived.Laws.BytesArg
import Derived.Maps.AppendAt
import Derived.Deep.AppendLies
import Derived.Deep.Fields
import Derived.Lib.Strings
import Derived.Shelf.Strings.Builder1
namespace Go.Proofs.YtjajandjdclifaaGreatDoor
namespace TX

/-- How many bytes the character takes that n bytes begin with, by the first four of them (0: there is none). -/
def cl (n b0 b1 b2 b3 : Nat) : Nat :=
  if 1 ≤ b0 ∧ b0 ≤ 127 then 1
  else if (194 ≤ b0 ∧ b0 ≤ 223) ∧ (1 < n ∧ 128 ≤ b1 ∧ b1 ≤ 191) then 2
  else if (224 ≤ b0 ∧ b0 ≤ 239) ∧ (1 < n ∧ 128 ≤ b1 ∧ b1 ≤ 191) ∧ (2 < n ∧ 128 ≤ b2 ∧ b2 ≤ 191) then
    (if (b0 = 224 ∧ b1 < 160) ∨ (b0 = 237 ∧ 159 < b1) then 0 else 3)
  else if (240 ≤ b0 ∧ b0 ≤ 244) ∧ (1 < n ∧ 128 ≤ b1 ∧ b1 ≤ 191) ∧ (2 < n ∧ 128 ≤ b2 ∧ b2 ≤ 191) ∧ (3 < n ∧ 128 ≤ b3 ∧ b3 ≤ 191) then
    (if (b0 = 240 ∧ b1 < 144) ∨ (b0 = 244 ∧ 143 < b1) then 0 else 4)
  else 0

theorem cl_le (n b0 b1 b2 b3 : Nat) (hn : 1 ≤ n) : cl n b0 b1 b2 b3 ≤ n ∧ cl n b0 b1 b2 b3 ≤ 4 := by
  unfold cl
  repeat' split
  all_goals omega

/-- Only bytes that stand there are looked at. -/
theorem cl_congr (n b0 b1 b2 b3 c1 c2 c3 : Nat) (h1 : 1 < n → b1 = c1) (h2 : 2 < n → b2 = c2) (h3 : 3 < n → b3 = c3) : cl n b0 b1 b2 b3 = cl n b0 c1 c2 c3 := by
  unfold cl
  by_cases g1 : 1 < n
  · rw [h1 g1]
    by_cases g2 : 2 < n
    · rw [h2 g2]
      by_cases g3 : 3 < n
      · rw [h3 g3]
      · simp [g3]
    · have g3 : ¬ 3 < n := by omega
      simp [g2]
  · have g2 : ¬ 2 < n := by omega
    simp [g1]

/-- Of fewer bytes: the same character, if it stands there whole, else none. -/
theorem cl_cut (n m b0 b1 b2 b3 : Nat) (hn : 1 ≤ n) (h : n ≤ m) : cl n b0 b1 b2 b3 = if cl m b0 b1 b2 b3 ≤ n then cl m b0 b1 b2 b3 else 0 := by
  unfold cl
  repeat' split
  all_goals omega

set_option maxRecDepth 100000 in
set_option maxHeartbeats 4000000 in
/-- It is what the decoder tells. -/
theorem cl_dec (n b0 b1 b2 b3 : Nat) (h0 : b0 < 256) (h1 : b1 < 256) (h2 : b2 < 256) (h3 : b3 < 256) :
    (cl n b0 b1 b2 b3 = 0 ∧ ((Lib.decodeN n b0 b1 b2 b3).1 = 0 ∨ ((Lib.decodeN n b0 b1 b2 b3).1 = 65533 ∧ (Lib.decodeN n b0 b1 b2 b3).2 = 1))) ∨
    (cl n b0 b1 b2 b3 ≠ 0 ∧ (Lib.decodeN n b0 b1 b2 b3).2 = cl n b0 b1 b2 b3 ∧ 0 < (Lib.decodeN n b0 b1 b2 b3).1 ∧ (Lib.decodeN n b0 b1 b2 b3).1 ≤ 1114111 ∧ ((Lib.decodeN n b0 b1 b2 b3).1 = 65533 → 1 < cl n b0 b1 b2 b3)) := by
  unfold Lib.decodeN
  by_cases g1 : b0 < 128
  · simp only [g1, if_true, cl]
    by_cases g2 : 1 ≤ b0
    · rw [if_pos (by omega)]; right; omega
    · left
      rw [if_neg (by omega), if_neg (by omega), if_neg (by omega), if_neg (by omega)]
      omega
  · rw [if_neg g1]
    by_cases g2 : b0 / 32 = 6 ∧ (1 < n ∧ b1 / 64 = 2)
    · rw [if_pos g2]
      by_cases g3 : b0 % 32 * 64 + b1 % 64 ≥ 128
      · rw [if_pos g3]
        have e : cl n b0 b1 b2 b3 = 2 := by unfold cl; rw [if_neg (by omega), if_pos (by omega)]
        rw [e]; right; refine ⟨by omega, rfl, ?_, ?_, fun _ => by omega⟩ <;> simp only <;> omega
      · rw [if_neg g3]
        have e : cl n b0 b1 b2 b3 = 0 := by unfold cl; rw [if_neg (by omega), if_neg (by omega), if_neg (by omega), if_neg (by omega)]
        rw [e]; left; simp
    · rw [if_neg g2]
      by_cases g4 : b0 / 16 = 14 ∧ (1 < n ∧ b1 / 64 = 2) ∧ (2 < n ∧ b2 / 64 = 2)
      · rw [if_pos g4]
        have e : cl n b0 b1 b2 b3 = if (b0 = 224 ∧ b1 < 160) ∨ (b0 = 237 ∧ 159 < b1) then 0 else 3 := by unfold cl; rw [if_neg (by omega), if_neg (by omega), if_pos (by omega)]
        rw [e]
        split
        · rename_i g5
          rw [if_neg (by omega)]; left; simp
        · rename_i g5
          rw [if_pos (by omega)]; right; refine ⟨by omega, rfl, ?_, ?_, fun _ => by omega⟩ <;> simp only <;> omega
      · rw [if_neg g4]
        by_cases g6 : b0 / 8 = 30 ∧ (1 < n ∧ b1 / 64 = 2) ∧ (2 < n ∧ b2 / 64 = 2) ∧ (3 < n ∧ b3 / 64 = 2)
        · rw [if_pos g6]
          by_cases g8 : b0 ≤ 244
          · have e : cl n b0 b1 b2 b3 = if (b0 = 240 ∧ b1 < 144) ∨ (b0 = 244 ∧ 143 < b1) then 0 else 4 := by unfold cl; rw [if_neg (by omega), if_neg (by omega), if_neg (by omega), if_pos (by omega)]
            rw [e]
            split
            · rename_i g5
              rw [if_neg (by omega)]; left; simp
            · rename_i g5
              rw [if_pos (by omega)]; right; refine ⟨by omega, rfl, ?_, ?_, fun _ => by omega⟩ <;> simp only <;> omega
          · have e : cl n b0 b1 b2 b3 = 0 := by unfold cl; rw [if_neg (by omega), if_neg (by omega), if_neg (by omega), if_neg (by omega)]
            rw [e, if_neg (by omega)]; left; simp
        · rw [if_neg g6]
          have e : cl n b0 b1 b2 b3 = 0 := by unfold cl; rw [if_neg (by omega), if_neg (by omega), if_neg (by omega), if_neg (by omega)]
          rw [e]; left; simp

/-- The byte at a place (0 beyond the end). -/
def by_ (s : ByteArray) (i : Nat) : Nat := (s.get! i).toNat

theorem by_lt (s : ByteArray) (i : Nat) : by_ s i < 256 := (s.get! i).toNat_lt

theorem by_get (s : ByteArray) (i : Nat) (h : i < s.size) : by_ s i = (s[i]'h).toNat := by
  unfold by_
  cases s with
  | mk d => rw [show (ByteArray.mk d).get! i = d[i]'h from getElem!_pos d i h]; rfl

theorem by_out (s : ByteArray) (i : Nat) (h : ¬ i < s.size) : by_ s i = 0 := by
  unfold by_
  cases s with
  | mk d => rw [show (ByteArray.mk d).get! i = default from getElem!_neg d i h]; rfl

/-- How many bytes the character at a place takes (0: there is none). -/
def chr (s : ByteArray) (i : Nat) : Nat := if i < s.size then cl (s.size - i) (by_ s i) (by_ s (i + 1)) (by_ s (i + 2)) (by_ s (i + 3)) else 0

theorem chr_lt {s : ByteArray} {i : Nat} (h : chr s i ≠ 0) : i < s.size := by
  unfold chr at h
  split at h
  · assumption
  · exact absurd rfl h

theorem chr_le (s : ByteArray) (i : Nat) (h : i ≤ s.size) : i + chr s i ≤ s.size := by
  unfold chr
  split
  · have := cl_le (s.size - i) (by_ s i) (by_ s (i + 1)) (by_ s (i + 2)) (by_ s (i + 3)) (by omega)
    omega
  · omega

theorem chr_four (s : ByteArray) (i : Nat) : chr s i ≤ 4 := by
  unfold chr
  split
  · exact (cl_le (s.size - i) (by_ s i) (by_ s (i + 1)) (by_ s (i + 2)) (by_ s (i + 3)) (by omega)).2
  · omega

theorem chr_end (s : ByteArray) (i : Nat) (h : s.size ≤ i) : chr s i = 0 := by
  unfold chr
  rw [if_neg (by omega)]

/-- Where the characters from a place on end. -/
def fin (s : ByteArray) (i : Nat) : Nat := if _h : chr s i = 0 then i else fin s (i + chr s i)
termination_by s.size - i
decreasing_by have := chr_lt _h; omega

/-- How many they are. -/
def cnt (s : ByteArray) (i : Nat) : Nat := if _h : chr s i = 0 then 0 else 1 + cnt s (i + chr s i)
termination_by s.size - i
decreasing_by have := chr_lt _h; omega

theorem fin_no {s : ByteArray} {i : Nat} (h : chr s i = 0) : fin s i = i := by rw [fin, dif_pos h]
theorem fin_yes {s : ByteArray} {i : Nat} (h : chr s i ≠ 0) : fin s i = fin s (i + chr s i) := by rw [fin, dif_neg h]
theorem cnt_no {s : ByteArray} {i : Nat} (h : chr s i = 0) : cnt s i = 0 := by rw [cnt, dif_pos h]
theorem cnt_yes {s : ByteArray} {i : Nat} (h : chr s i ≠ 0) : cnt s i = 1 + cnt s (i + chr s i) := by rw [cnt, dif_neg h]

theorem fin_le (s : ByteArray) (i : Nat) (h : i ≤ s.size) : i ≤ fin s i ∧ fin s i ≤ s.size := by
  fun_induction fin s i with
  | case1 i hc => omega
  | case2 i hc ih =>
    have := ih (chr_le s i h)
    omega

theorem cnt_le (s : ByteArray) (i : Nat) (h : i ≤ s.size) : i + cnt s i ≤ s.size := by
  fun_induction cnt s i with
  | case1 i hc => omega
  | case2 i hc ih =>
    have := ih (chr_le s i h)
    omega

theorem fin_end {s : ByteArray} {i : Nat} (h : s.size ≤ i) : fin s i = i := fin_no (chr_end s i h)

/-! ### parts of bytes -/

theorem by_extract (s : ByteArray) (a b j : Nat) (hb : b ≤ s.size) (h : a + j < b) : by_ (s.extract a b) j = by_ s (a + j) := by
  rw [by_get _ _ (by rw [ByteArray.size_extract]; omega), by_get _ _ (by omega)]
  rw [ByteArray.getElem_extract]

/-- The characters of a part: those that stand in it whole. -/
theorem chr_extract (s : ByteArray) (a b j : Nat) (hb : b ≤ s.size) (h : a + j ≤ b) : chr (s.extract a b) j = if a + j + chr s (a + j) ≤ b then chr s (a + j) else 0 := by
  have hz : (s.extract a b).size = b - a := by rw [ByteArray.size_extract]; omega
  by_cases hlt : a + j < b
  · have e1 : chr (s.extract a b) j = cl (b - a - j) (by_ (s.extract a b) j) (by_ (s.extract a b) (j + 1)) (by_ (s.extract a b) (j + 2)) (by_ (s.extract a b) (j + 3)) := by
      unfold chr; rw [if_pos (by omega), hz]
    have e2 : chr s (a + j) = cl (s.size - (a + j)) (by_ s (a + j)) (by_ s (a + j + 1)) (by_ s (a + j + 2)) (by_ s (a + j + 3)) := by
      unfold chr; rw [if_pos (by omega)]
    rw [e1, by_extract s a b j hb hlt, cl_congr (b - a - j) _ _ _ _ (by_ s (a + j + 1)) (by_ s (a + j + 2)) (by_ s (a + j + 3))
      (fun g => by rw [by_extract s a b (j + 1) hb (by omega)]; rfl) (fun g => by rw [by_extract s a b (j + 2) hb (by omega)]; rfl) (fun g => by rw [by_extract s a b (j + 3) hb (by omega)]; rfl),
      cl_cut (b - a - j) (s.size - (a + j)) _ _ _ _ (by omega) (by omega), ← e2]
    by_cases g : a + j + chr s (a + j) ≤ b
    · rw [if_pos g, if_pos (by omega)]
    · rw [if_neg g, if_neg (by omega)]
  · rw [chr_end _ _ (by omega)]
    split <;> omega

theorem chr_drop (s : ByteArray) (a : Nat) (h : a ≤ s.size) : chr (s.extract a s.size) 0 = chr s a := by
  rw [chr_extract s a s.size 0 (Nat.le_refl _) (by omega), if_pos]
  · rfl
  · exact chr_le s a h

/-- In the first m bytes the characters go on to the last place up to which they stand there whole. -/
theorem chr_take (s : ByteArray) (m i : Nat) (hm : m ≤ s.size) (h : i ≤ m) : chr (s.extract 0 m) i = if i + chr s i ≤ m then chr s i else 0 := by
  rw [chr_extract s 0 m i hm (by omega)]
  simp only [Nat.zero_add]

end TX
end Go.Proofs.YtjajandjdclifaaGreatDoor
namespace Go.Proofs.YtjajandjdclifaaGreatDoor
open Go.Shelf Go.RowKit

def decRen : Ren := ⟨fun x => if x = 197 then 164 else 166, fun x => if x = 0 then 0 else if x = 3 then 3 else if x = 4 then 4 else if x = 5 then 5 else if x = 9 then 9 else if x = 21 then 21 else if x = 46 then 125 else if x = 105 then 232 else if x = 119 then 237 else if x = 138 then 239 else 240, fun x => if x = 3 then 0 else 1⟩

theorem decLays : Lays.n197 Tryz.prog decRen where
  mixed := by kernel_rfl
  f197 := by kernel_rfl
  f260 := by kernel_rfl
  g3 := by kernel_rfl
  g4 := by kernel_rfl
  t119 := by kernel_rfl
  a119 := fun _ => by kernel_rfl
  z119 := fun _ => by kernel_rfl
  t0 := by kernel_rfl
  a0 := fun _ => by kernel_rfl
  z0 := fun _ => by kernel_rfl
  v0 := fun _ => by kernel_rfl
  t3 := by kernel_rfl
  a3 := fun _ => by kernel_rfl
  z3 := fun _ => by kernel_rfl
  v3 := fun _ => by kernel_rfl
  t4 := by kernel_rfl
  a4 := fun _ => by kernel_rfl
  z4 := fun _ => by kernel_rfl
  v4 := fun _ => by kernel_rfl
  t5 := by kernel_rfl
  a5 := fun _ => by kernel_rfl
  z5 := fun _ => by kernel_rfl
  v5 := fun _ => by kernel_rfl
  t9 := by kernel_rfl
  a9 := fun _ => by kernel_rfl
  z9 := fun _ => by kernel_rfl
  v9 := fun _ => by kernel_rfl
  t21 := by kernel_rfl
  a21 := fun _ => by kernel_rfl
  z21 := fun _ => by kernel_rfl
  v21 := fun _ => by kernel_rfl
  t46 := by kernel_rfl
  a46 := fun _ => by kernel_rfl
  z46 := fun _ => by kernel_rfl
  v46 := fun _ => by kernel_rfl
  t105 := by kernel_rfl
  a105 := fun _ => by kernel_rfl
  z105 := fun _ => by kernel_rfl
  v105 := fun _ => by kernel_rfl
  t138 := by kernel_rfl
  a138 := fun _ => by kernel_rfl
  z138 := fun _ => by kernel_rfl
  v138 := fun _ => by kernel_rfl
  t139 := by kernel_rfl
  a139 := fun _ => by kernel_rfl
  z139 := fun _ => by kernel_rfl
  v139 := fun _ => by kernel_rfl

/-- The decoder's two tables hold what their initialisers lay. -/
def Tabs (w : World) : Prop := Lib.Utf8Tabs 0 1 w

theorem block_lt {w : World} {b o : Nat} {v : Value} (h : w.cell? ⟨b, o, none⟩ = some v) : b < w.heap.size := by
  apply Classical.byContradiction
  intro hb
  unfold World.cell? at h
  rw [Array.getElem?_eq_none (show w.heap.size ≤ b by omega)] at h
  simp at h

theorem Tabs.below {w w' : World} (h : Tabs w) (hb : Below w.heap.size w w') : Tabs w' := by
  obtain ⟨h1, h2⟩ := h
  have l1 := block_lt (h1 0 (by omega))
  have l2 := block_lt (h2 0 (by omega)).1
  refine ⟨fun c hc => ?_, fun i hi => ⟨?_, ?_⟩⟩
  · rw [hb.cell (p := ⟨_, _, none⟩) l1]; exact h1 c hc
  · rw [hb.cell (p := ⟨_, _, none⟩) l2]; exact (h2 i hi).1
  · rw [hb.cell (p := ⟨_, _, none⟩) l2]; exact (h2 i hi).2

theorem dec_any (s : ByteArray) (w : World) (hT : Tabs w) :
    Calls Tryz.prog 164 #[.string s] w fun e w' => e = .returned (.tuple #[.int .i32 (Lib.decodeGo s).1, .int .i64 (Lib.decodeGo s).2]) ∧ Below w.heap.size w w' :=
  Any.utf8_DecodeRuneInString decLays s w hT

namespace TX
theorem dec_by (s : ByteArray) (h : 0 < s.size) : Lib.decodeGo s = Lib.decodeN s.size (by_ s 0) (by_ s 1) (by_ s 2) (by_ s 3) := by
  unfold Lib.decodeGo
  rw [if_neg (by omega), Lib.decode_at]
  rfl

theorem chr_by (s : ByteArray) (h : 0 < s.size) : chr s 0 = cl s.size (by_ s 0) (by_ s 1) (by_ s 2) (by_ s 3) := by
  unfold chr
  rw [if_pos h]
  rfl

theorem dec_no (s : ByteArray) (h : chr s 0 = 0) : (Lib.decodeGo s).1 = 0 ∨ ((Lib.decodeGo s).1 = 65533 ∧ (Lib.decodeGo s).2 ≤ 1) := by
  by_cases hz : 0 < s.size
  · rw [dec_by s hz]
    rw [chr_by s hz] at h
    rcases cl_dec s.size (by_ s 0) (by_ s 1) (by_ s 2) (by_ s 3) (by_lt _ _) (by_lt _ _) (by_lt _ _) (by_lt _ _) with ⟨_, h1 | ⟨h1, h2⟩⟩ | ⟨h1, _⟩
    · exact .inl h1
    · exact .inr ⟨h1, by omega⟩
    · exact absurd h h1
  · have e : s.size = 0 := by omega
    unfold Lib.decodeGo
    rw [if_pos e]
    exact .inr ⟨rfl, by decide⟩

theorem dec_yes (s : ByteArray) (h : chr s 0 ≠ 0) : (Lib.decodeGo s).2 = chr s 0 ∧ 0 < (Lib.decodeGo s).1 ∧ (Lib.decodeGo s).1 ≤ 1114111 ∧ ((Lib.decodeGo s).1 = 65533 → 1 < chr s 0) := by
  have hz := chr_lt h
  rw [dec_by s hz, chr_by s hz]
  rw [chr_by s hz] at h
  rcases cl_dec s.size (by_ s 0) (by_ s 1) (by_ s 2) (by_ s 3) (by_lt _ _) (by_lt _ _) (by_lt _ _) (by_lt _ _) with ⟨h1, _⟩ | ⟨_, h1⟩
  · exact absurd h1 h
  · exact h1
end TX

theorem ret_two {a b c d : Int} (h : a = c) (g : b = d) : Ending.returned (.tuple #[.int .i32 a, .int .i64 b]) = .returned (.tuple #[.int .i32 c, .int .i64 d]) := by rw [h, g]

set_option maxHeartbeats 400000 in
theorem first_no (s : ByteArray) (h : TX.chr s 0 = 0) (w : World) (hT : Tabs w) :
    Calls Tryz.prog 160 #[.string s] w fun e w' => e = .returned (.tuple #[.int .i32 (-1), .int .i64 0]) ∧ Below w.heap.size w w' := by
  have hd := TX.dec_no s h
  clear h
  have C := dec_any s w hT
  generalize Lib.decodeGo s = d at hd C
  obtain ⟨r, z⟩ := d
  simp only at hd C
  rcases hd with rfl | ⟨rfl, hz⟩
  · go_enter Tryz.func160, Tryz.ntmps160
    go_wp2_with fail
    refine C.mono ?_
    rintro e w1 ⟨rfl, b1⟩
    go_wp2
    go_ret2
    exact ⟨rfl, b1⟩
  · have hz' : decide ((z : Int) ≤ 1) = true := decide_eq_true (by omega)
    go_enter Tryz.func160, Tryz.ntmps160
    go_wp2_with fail
    refine C.mono ?_
    rintro e w1 ⟨rfl, b1⟩
    go_wp2
    go_ret2
    exact ⟨rfl, b1⟩

set_option maxHeartbeats 400000 in
theorem first_yes (s : ByteArray) (h : TX.chr s 0 ≠ 0) (w : World) (hT : Tabs w) :
    Calls Tryz.prog 160 #[.string s] w fun e w' => e = .returned (.tuple #[.int .i32 (Lib.decodeGo s).1, .int .i64 (TX.chr s 0)]) ∧ Below w.heap.size w w' := by
  obtain ⟨h1, h2, h3, h4⟩ := TX.dec_yes s h
  have C := dec_any s w hT
  rw [h1] at C
  clear h h1
  generalize (Lib.decodeGo s).1 = r at *
  generalize TX.chr s 0 = z at *
  have e0 : ((r : Int) == 0) = false := by rw [beq_eq_false_iff_ne]; omega
  by_cases hr : r = 65533
  · have hz := h4 hr
    subst hr
    have hz' : decide ((z : Int) ≤ 1) = false := decide_eq_false (by omega)
    clear h4
    go_enter Tryz.func160, Tryz.ntmps160
    go_wp2_with fail
    refine C.mono ?_
    rintro e w1 ⟨rfl, b1⟩
    go_wp2
    go_ret2
    exact ⟨rfl, b1⟩
  · have e1 : ((r : Int) == 65533) = false := by rw [beq_eq_false_iff_ne]; omega
    clear h4 hr
    go_enter Tryz.func160, Tryz.ntmps160
    go_wp2_with fail
    refine C.mono ?_
    rintro e w1 ⟨rfl, b1⟩
    go_wp2
    go_ret2
    exact ⟨rfl, b1⟩

end Go.Proofs.YtjajandjdclifaaGreatDoor
namespace Go.Proofs.YtjajandjdclifaaGreatDoor
open Go.Shelf

set_option maxRecDepth 100000 in
theorem accept_eq : (Rows.laid_unicode_utf8_acceptRanges : DataW Unit) = Lib.acceptData := by kernel_rfl
set_option maxRecDepth 100000 in
theorem first_eq : Rows.laid_unicode_utf8_first = Lib.firstData := by kernel_rfl

/-- The list that the rows of this seat bear (all rows bear the same). -/
def laidTabs : List (String × DataW Unit) := Rows.packetGetsRow.laid

theorem tabs_of {W : World} (h : laidMetH Tryz.prog laidTabs W) : Tabs W := by
  rw [MakeChecks.laidMetH_plain _ _ _ (by kernel_rfl)] at h
  have h1 := Lib.laidMet.reads (l := [_, _]) h (.head _)
  have h2 := Lib.laidMet.reads (l := [_, _]) h (.tail _ (.head _))
  rw [accept_eq] at h1
  rw [first_eq] at h2
  exact utf8Tabs_of_reads (ρ := decRen) { decLays with } ⟨by kernel_rfl, by kernel_rfl, by kernel_rfl, by kernel_rfl, by kernel_rfl, by kernel_rfl, by kernel_rfl⟩ h2 h1

end Go.Proofs.YtjajandjdclifaaGreatDoor
namespace Go.Proofs.YtjajandjdclifaaGreatDoor
namespace VP

/-- How many bytes a number takes (0: none). -/
def sz (n : Int) : Int :=
  if n < 0 ∨ 268435455 < n then 0 else if n < 128 then 1 else if n < 16384 then 2 else if n < 2097152 then 3 else 4

theorem sz_out {n : Int} (h : n < 0 ∨ 268435455 < n) : sz n = 0 := by unfold sz; rw [if_pos h]
theorem sz_1 {n : Int} (h0 : 0 ≤ n) (h1 : n < 128) : sz n = 1 := by unfold sz; rw [if_neg (by omega), if_pos (by omega)]
theorem sz_2 {n : Int} (h0 : 128 ≤ n) (h1 : n < 16384) : sz n = 2 := by unfold sz; rw [if_neg (by omega), if_neg (by omega), if_pos (by omega)]
theorem sz_3 {n : Int} (h0 : 16384 ≤ n) (h1 : n < 2097152) : sz n = 3 := by unfold sz; rw [if_neg (by omega), if_neg (by omega), if_neg (by omega), if_pos (by omega)]
theorem sz_4 {n : Int} (h0 : 2097152 ≤ n) (h1 : n ≤ 268435455) : sz n = 4 := by unfold sz; rw [if_neg (by omega), if_neg (by omega), if_neg (by omega), if_neg (by omega)]

theorem sz_div {m : Int} (h0 : 127 < m) (h1 : m ≤ 268435455) : sz (m / 128) + 1 = sz m := by
  rcases (show (m < 16384) ∨ (16384 ≤ m ∧ m < 2097152) ∨ (2097152 ≤ m) from by omega) with h | ⟨h, h'⟩ | h
  · rw [sz_1 (by omega) (by omega), sz_2 (by omega) h]; rfl
  · rw [sz_2 (by omega) (by omega), sz_3 h h']; rfl
  · rw [sz_3 (by omega) (by omega), sz_4 h h1]; rfl

/-- A number's bytes. -/
def putL (n : Int) : List Int :=
  if n < 0 ∨ 268435455 < n then [] else if n < 128 then [n] else if n < 16384 then [n % 128 + 128, n / 128]
  else if n < 2097152 then [n % 128 + 128, n / 128 % 128 + 128, n / 16384] else [n % 128 + 128, n / 128 % 128 + 128, n / 16384 % 128 + 128, n / 2097152]

/-- The code beside them. -/
def putC (n : Int) : Int := if n < 0 ∨ 268435455 < n then 129 else 0

theorem putL_out {n : Int} (h : n < 0 ∨ 268435455 < n) : putL n = [] := by unfold putL; rw [if_pos h]
theorem putL_1 {n : Int} (h0 : 0 ≤ n) (h1 : n < 128) : putL n = [n] := by unfold putL; rw [if_neg (by omega), if_pos (by omega)]
theorem putL_2 {n : Int} (h0 : 128 ≤ n) (h1 : n < 16384) : putL n = [n % 128 + 128, n / 128] := by unfold putL; rw [if_neg (by omega), if_neg (by omega), if_pos (by omega)]
theorem putL_3 {n : Int} (h0 : 16384 ≤ n) (h1 : n < 2097152) : putL n = [n % 128 + 128, n / 128 % 128 + 128, n / 16384] := by unfold putL; rw [if_neg (by omega), if_neg (by omega), if_neg (by omega), if_pos (by omega)]
theorem putL_4 {n : Int} (h0 : 2097152 ≤ n) (h1 : n ≤ 268435455) : putL n = [n % 128 + 128, n / 128 % 128 + 128, n / 16384 % 128 + 128, n / 2097152] := by unfold putL; rw [if_neg (by omega), if_neg (by omega), if_neg (by omega), if_neg (by omega)]
theorem putC_out {n : Int} (h : n < 0 ∨ 268435455 < n) : putC n = 129 := by unfold putC; rw [if_pos h]
theorem putC_le (n : Int) : 0 ≤ putC n ∧ putC n ≤ 129 := by unfold putC; split <;> omega
theorem putC_in {n : Int} (h0 : 0 ≤ n) (h1 : n ≤ 268435455) : putC n = 0 := by unfold putC; rw [if_neg (by omega)]

theorem sz_in {m : Int} (h0 : 0 ≤ m) (h1 : m ≤ 268435455) : 1 ≤ sz m ∧ sz m ≤ 4 := by
  unfold sz; rw [if_neg (by omega)]; repeat' split
  all_goals omega

/-- The number at the places from k + i on, n gathered already; at most f bytes more: the number, the place behind it, the code. -/
def getG (s : ByteArray) (k : Nat) : Nat → Nat → Int → Int × Int × Int
  | 0, _, _ => (0, 0, 129)
  | f + 1, i, n =>
    if h : k + i < s.size then
      if ((s[k + i]'h).toNat : Int) < 128 then
        if sz (n + (s[k + i]'h).toNat * 128 ^ i) = i + 1 then (n + (s[k + i]'h).toNat * 128 ^ i, (k : Int) + i + 1, 0) else (0, 0, 129)
      else getG s k f (i + 1) (n + (((s[k + i]'h).toNat : Int) - 128) * 128 ^ i)
    else (0, 0, 242)

/-- The number at a place of s, the place behind it, the code. -/
def get (s : ByteArray) (at_ : Int) : Int × Int × Int := if at_ < 0 ∨ (s.size : Int) < at_ then (0, 0, 128) else getG s at_.toNat 4 0 0

/-- A count from 0 to 4, as both kinds of number. -/
def Idx (i : Nat) (j : Int) : Prop := (i = 0 ∧ j = 0) ∨ (i = 1 ∧ j = 1) ∨ (i = 2 ∧ j = 2) ∨ (i = 3 ∧ j = 3) ∨ (i = 4 ∧ j = 4)

/-- The same with 128 to its power. -/
def IdxP (i : Nat) (j p : Int) : Prop := (i = 0 ∧ j = 0 ∧ p = 1) ∨ (i = 1 ∧ j = 1 ∧ p = 128) ∨ (i = 2 ∧ j = 2 ∧ p = 16384) ∨ (i = 3 ∧ j = 3 ∧ p = 2097152) ∨ (i = 4 ∧ j = 4 ∧ p = 268435456)

theorem sz_lt1 {m : Int} (h0 : 0 ≤ m) (h1 : m < 128) (h : ¬ sz m = 1) : sz m < 1 := by rw [sz_1 h0 h1] at *; omega
theorem sz_lt2 {m : Int} (h0 : 0 ≤ m) (h1 : m < 16384) (h : ¬ sz m = 2) : sz m < 2 := by
  by_cases g : m < 128
  · rw [sz_1 h0 g]; omega
  · rw [sz_2 (by omega) h1] at *; omega
theorem sz_lt3 {m : Int} (h0 : 0 ≤ m) (h1 : m < 2097152) (h : ¬ sz m = 3) : sz m < 3 := by
  by_cases g : m < 16384
  · by_cases g' : m < 128
    · rw [sz_1 h0 g']; omega
    · rw [sz_2 (by omega) g]; omega
  · rw [sz_3 (by omega) h1] at *; omega
theorem sz_lt4 {m : Int} (h0 : 0 ≤ m) (h1 : m < 268435456) (h : ¬ sz m = 4) : sz m < 4 := by
  have := sz_in h0 (by omega)
  omega

theorem getG_0 (s : ByteArray) (k i : Nat) (n : Int) : getG s k 0 i n = (0, 0, 129) := rfl
theorem getG_end (s : ByteArray) (k f i : Nat) (n : Int) (h : ¬ k + i < s.size) : getG s k (f + 1) i n = (0, 0, 242) := by rw [getG, dif_neg h]
theorem getG_last (s : ByteArray) (k f i : Nat) (n : Int) (h : k + i < s.size) (hb : ((s[k + i]'h).toNat : Int) < 128) (hz : sz (n + (s[k + i]'h).toNat * 128 ^ i) = i + 1) :
    getG s k (f + 1) i n = (n + (s[k + i]'h).toNat * 128 ^ i, (k : Int) + i + 1, 0) := by rw [getG, dif_pos h, if_pos hb, if_pos hz]
theorem getG_bad (s : ByteArray) (k f i : Nat) (n : Int) (h : k + i < s.size) (hb : ((s[k + i]'h).toNat : Int) < 128) (hz : ¬ sz (n + (s[k + i]'h).toNat * 128 ^ i) = i + 1) :
    getG s k (f + 1) i n = (0, 0, 129) := by rw [getG, dif_pos h, if_pos hb, if_neg hz]
theorem getG_more (s : ByteArray) (k f i : Nat) (n : Int) (h : k + i < s.size) (hb : ¬ ((s[k + i]'h).toNat : Int) < 128) :
    getG s k (f + 1) i n = getG s k f (i + 1) (n + (((s[k + i]'h).toNat : Int) - 128) * 128 ^ i) := by rw [getG, dif_pos h, if_neg hb]

theorem last0 (s : ByteArray) (k : Nat) (n : Int) (h : k < s.size) (hb : ((s[k]'h).toNat : Int) < 128) (hz : sz (n + ((s[k]'h).toNat : Int)) = 1) : getG s k 4 0 n = (n + ((s[k]'h).toNat : Int), (k : Int) + 1, 0) := by
  have e := getG_last s k 3 0 n h hb (by simpa using hz)
  rw [e]
  simp
  try omega
theorem bad0 (s : ByteArray) (k : Nat) (n : Int) (h : k < s.size) (hb : ((s[k]'h).toNat : Int) < 128) (hz : ¬ sz (n + ((s[k]'h).toNat : Int)) = 1) : getG s k 4 0 n = (0, 0, 129) :=
  getG_bad s k 3 0 n h hb (by simpa using hz)
theorem more0 (s : ByteArray) (k : Nat) (n : Int) (h : k < s.size) (hb : ¬ ((s[k]'h).toNat : Int) < 128) : getG s k 4 0 n = getG s k 3 1 (n + (((s[k]'h).toNat : Int) - 128)) := by
  have e := getG_more s k 3 0 n h hb
  rw [e]
  simp
theorem ends0 (s : ByteArray) (k : Nat) (n : Int) (h : ¬ k < s.size) : getG s k 4 0 n = (0, 0, 242) := getG_end s k 3 0 n h
theorem last1 (s : ByteArray) (k : Nat) (n : Int) (h : k + 1 < s.size) (hb : ((s[k + 1]'h).toNat : Int) < 128) (hz : sz (n + ((s[k + 1]'h).toNat : Int) * 128) = 2) : getG s k 3 1 n = (n + ((s[k + 1]'h).toNat : Int) * 128, (k : Int) + 1 + 1, 0) := by
  have e := getG_last s k 2 1 n h hb (by simpa using hz)
  rw [e]
  simp
  try omega
theorem bad1 (s : ByteArray) (k : Nat) (n : Int) (h : k + 1 < s.size) (hb : ((s[k + 1]'h).toNat : Int) < 128) (hz : ¬ sz (n + ((s[k + 1]'h).toNat : Int) * 128) = 2) : getG s k 3 1 n = (0, 0, 129) :=
  getG_bad s k 2 1 n h hb (by simpa using hz)
theorem more1 (s : ByteArray) (k : Nat) (n : Int) (h : k + 1 < s.size) (hb : ¬ ((s[k + 1]'h).toNat : Int) < 128) : getG s k 3 1 n = getG s k 2 2 (n + (((s[k + 1]'h).toNat : Int) - 128) * 128) := by
  have e := getG_more s k 2 1 n h hb
  rw [e]
  simp
theorem ends1 (s : ByteArray) (k : Nat) (n : Int) (h : ¬ k + 1 < s.size) : getG s k 3 1 n = (0, 0, 242) := getG_end s k 2 1 n h
theorem last2 (s : ByteArray) (k : Nat) (n : Int) (h : k + 2 < s.size) (hb : ((s[k + 2]'h).toNat : Int) < 128) (hz : sz (n + ((s[k + 2]'h).toNat : Int) * 16384) = 3) : getG s k 2 2 n = (n + ((s[k + 2]'h).toNat : Int) * 16384, (k : Int) + 2 + 1, 0) := by
  have e := getG_last s k 1 2 n h hb (by simpa using hz)
  rw [e]
  simp
  try omega
theorem bad2 (s : ByteArray) (k : Nat) (n : Int) (h : k + 2 < s.size) (hb : ((s[k + 2]'h).toNat : Int) < 128) (hz : ¬ sz (n + ((s[k + 2]'h).toNat : Int) * 16384) = 3) : getG s k 2 2 n = (0, 0, 129) :=
  getG_bad s k 1 2 n h hb (by simpa using hz)
theorem more2 (s : ByteArray) (k : Nat) (n : Int) (h : k + 2 < s.size) (hb : ¬ ((s[k + 2]'h).toNat : Int) < 128) : getG s k 2 2 n = getG s k 1 3 (n + (((s[k + 2]'h).toNat : Int) - 128) * 16384) := by
  have e := getG_more s k 1 2 n h hb
  rw [e]
  simp
theorem ends2 (s : ByteArray) (k : Nat) (n : Int) (h : ¬ k + 2 < s.size) : getG s k 2 2 n = (0, 0, 242) := getG_end s k 1 2 n h
theorem last3 (s : ByteArray) (k : Nat) (n : Int) (h : k + 3 < s.size) (hb : ((s[k + 3]'h).toNat : Int) < 128) (hz : sz (n + ((s[k + 3]'h).toNat : Int) * 2097152) = 4) : getG s k 1 3 n = (n + ((s[k + 3]'h).toNat : Int) * 2097152, (k : Int) + 3 + 1, 0) := by
  have e := getG_last s k 0 3 n h hb (by simpa using hz)
  rw [e]
  simp
  try omega
theorem bad3 (s : ByteArray) (k : Nat) (n : Int) (h : k + 3 < s.size) (hb : ((s[k + 3]'h).toNat : Int) < 128) (hz : ¬ sz (n + ((s[k + 3]'h).toNat : Int) * 2097152) = 4) : getG s k 1 3 n = (0, 0, 129) :=
  getG_bad s k 0 3 n h hb (by simpa using hz)
theorem more3 (s : ByteArray) (k : Nat) (n : Int) (h : k + 3 < s.size) (hb : ¬ ((s[k + 3]'h).toNat : Int) < 128) : getG s k 1 3 n = getG s k 0 4 (n + (((s[k + 3]'h).toNat : Int) - 128) * 2097152) := by
  have e := getG_more s k 0 3 n h hb
  rw [e]
  simp
theorem ends3 (s : ByteArray) (k : Nat) (n : Int) (h : ¬ k + 3 < s.size) : getG s k 1 3 n = (0, 0, 242) := getG_end s k 0 3 n h

theorem get_out (s : ByteArray) (at_ : Int) (h : at_ < 0 ∨ (s.size : Int) < at_) : get s at_ = (0, 0, 128) := by unfold get; rw [if_pos h]
theorem get_in (s : ByteArray) (k : Nat) (h : k ≤ s.size) : get s (k : Int) = getG s k 4 0 0 := by unfold get; rw [if_neg (by omega)]; simp

end VP
end Go.Proofs.YtjajandjdclifaaGreatDoor
namespace Go.Proofs.YtjajandjdclifaaGreatDoor
namespace VP

theorem str_at (xs : List Int) (i : Nat) (h : i < (strOfNums xs).size) (h' : i < xs.length) (h0 : 0 ≤ xs[i]) (h1 : xs[i] < 256) : (((strOfNums xs)[i]'h).toNat : Int) = xs[i] := by
  have e : (strOfNums xs)[i]'h = UInt8.ofNat (xs[i]).toNat := by
    show (strOfNums xs).data[i] = _
    simp [strOfNums]
  rw [e, UInt8.toNat_ofNat']
  omega

theorem got1 (s : ByteArray) (k : Nat) (a : Int) (h : k < s.size) (b0 : ((s[k]'(by omega)).toNat : Int) = a) (hl : a < 128) (hz : sz (0 + a) = 1) :
    get s k = (0 + a, (k : Int) + 1, 0) := by
  rw [get_in s k (by omega)]
  rw [last0 s k _ h (by omega) (by rw [b0]; exact hz), b0]

theorem got2 (s : ByteArray) (k : Nat) (a b : Int) (h : k + 1 < s.size) (b0 : ((s[k]'(by omega)).toNat : Int) = a) (b1 : ((s[k + 1]'(by omega)).toNat : Int) = b) (h0 : 128 ≤ a) (hl : b < 128) (hz : sz (0 + (a - 128) + b * 128) = 2) :
    get s k = (0 + (a - 128) + b * 128, (k : Int) + 1 + 1, 0) := by
  rw [get_in s k (by omega)]
  rw [more0 s k _ (by omega) (by omega), b0]
  rw [last1 s k _ h (by omega) (by rw [b1]; exact hz), b1]

theorem got3 (s : ByteArray) (k : Nat) (a b c : Int) (h : k + 2 < s.size) (b0 : ((s[k]'(by omega)).toNat : Int) = a) (b1 : ((s[k + 1]'(by omega)).toNat : Int) = b) (b2 : ((s[k + 2]'(by omega)).toNat : Int) = c) (h0 : 128 ≤ a) (h1 : 128 ≤ b) (hl : c < 128) (hz : sz (0 + (a - 128) + (b - 128) * 128 + c * 16384) = 3) :
    get s k = (0 + (a - 128) + (b - 128) * 128 + c * 16384, (k : Int) + 2 + 1, 0) := by
  rw [get_in s k (by omega)]
  rw [more0 s k _ (by omega) (by omega), b0]
  rw [more1 s k _ (by omega) (by omega), b1]
  rw [last2 s k _ h (by omega) (by rw [b2]; exact hz), b2]

theorem got4 (s : ByteArray) (k : Nat) (a b c d : Int) (h : k + 3 < s.size) (b0 : ((s[k]'(by omega)).toNat : Int) = a) (b1 : ((s[k + 1]'(by omega)).toNat : Int) = b) (b2 : ((s[k + 2]'(by omega)).toNat : Int) = c) (b3 : ((s[k + 3]'(by omega)).toNat : Int) = d) (h0 : 128 ≤ a) (h1 : 128 ≤ b) (h2 : 128 ≤ c) (hl : d < 128) (hz : sz (0 + (a - 128) + (b - 128) * 128 + (c - 128) * 16384 + d * 2097152) = 4) :
    get s k = (0 + (a - 128) + (b - 128) * 128 + (c - 128) * 16384 + d * 2097152, (k : Int) + 3 + 1, 0) := by
  rw [get_in s k (by omega)]
  rw [more0 s k _ (by omega) (by omega), b0]
  rw [more1 s k _ (by omega) (by omega), b1]
  rw [more2 s k _ (by omega) (by omega), b2]
  rw [last3 s k _ h (by omega) (by rw [b3]; exact hz), b3]

theorem get_put1 {n : Int} (h : 0 ≤ n) (h' : n < 128) : get (strOfNums (putL n)) 0 = (n, 1, 0) := by
  rw [putL_1 h h']
  generalize hs : strOfNums [n] = s
  have hz : s.size = 1 := by rw [← hs, strOfNums_size]; rfl
  have b0 : ((s[0]'(by omega)).toNat : Int) = n := by subst hs; exact str_at _ 0 (by omega) (by simp) (by simp; omega) (by simp; omega)
  have e : 0 + n = n := by omega
  have g := got1 s 0 (n) (by omega) (by simpa using b0) (by omega) (by rw [e]; exact sz_1 h h')
  rw [e] at g
  simpa using g

theorem get_put2 {n : Int} (h : 128 ≤ n) (h' : n < 16384) : get (strOfNums (putL n)) 0 = (n, 2, 0) := by
  rw [putL_2 h h']
  generalize hs : strOfNums [n % 128 + 128, n / 128] = s
  have hz : s.size = 2 := by rw [← hs, strOfNums_size]; rfl
  have b0 : ((s[0]'(by omega)).toNat : Int) = n % 128 + 128 := by subst hs; exact str_at _ 0 (by omega) (by simp) (by simp; omega) (by simp; omega)
  have b1 : ((s[1]'(by omega)).toNat : Int) = n / 128 := by subst hs; exact str_at _ 1 (by omega) (by simp) (by simp; omega) (by simp; omega)
  have e : 0 + ((n % 128 + 128) - 128) + n / 128 * 128 = n := by omega
  have g := got2 s 0 (n % 128 + 128) (n / 128) (by omega) (by simpa using b0) (by simpa using b1) (by omega) (by omega) (by rw [e]; exact sz_2 h h')
  rw [e] at g
  simpa using g

theorem get_put3 {n : Int} (h : 16384 ≤ n) (h' : n < 2097152) : get (strOfNums (putL n)) 0 = (n, 3, 0) := by
  rw [putL_3 h h']
  generalize hs : strOfNums [n % 128 + 128, n / 128 % 128 + 128, n / 16384] = s
  have hz : s.size = 3 := by rw [← hs, strOfNums_size]; rfl
  have b0 : ((s[0]'(by omega)).toNat : Int) = n % 128 + 128 := by subst hs; exact str_at _ 0 (by omega) (by simp) (by simp; omega) (by simp; omega)
  have b1 : ((s[1]'(by omega)).toNat : Int) = n / 128 % 128 + 128 := by subst hs; exact str_at _ 1 (by omega) (by simp) (by simp; omega) (by simp; omega)
  have b2 : ((s[2]'(by omega)).toNat : Int) = n / 16384 := by subst hs; exact str_at _ 2 (by omega) (by simp) (by simp; omega) (by simp; omega)
  have e : 0 + ((n % 128 + 128) - 128) + ((n / 128 % 128 + 128) - 128) * 128 + n / 16384 * 16384 = n := by omega
  have g := got3 s 0 (n % 128 + 128) (n / 128 % 128 + 128) (n / 16384) (by omega) (by simpa using b0) (by simpa using b1) (by simpa using b2) (by omega) (by omega) (by omega) (by rw [e]; exact sz_3 h h')
  rw [e] at g
  simpa using g

theorem get_put4 {n : Int} (h : 2097152 ≤ n) (h' : n ≤ 268435455) : get (strOfNums (putL n)) 0 = (n, 4, 0) := by
  rw [putL_4 h h']
  generalize hs : strOfNums [n % 128 + 128, n / 128 % 128 + 128, n / 16384 % 128 + 128, n / 2097152] = s
  have hz : s.size = 4 := by rw [← hs, strOfNums_size]; rfl
  have b0 : ((s[0]'(by omega)).toNat : Int) = n % 128 + 128 := by subst hs; exact str_at _ 0 (by omega) (by simp) (by simp; omega) (by simp; omega)
  have b1 : ((s[1]'(by omega)).toNat : Int) = n / 128 % 128 + 128 := by subst hs; exact str_at _ 1 (by omega) (by simp) (by simp; omega) (by simp; omega)
  have b2 : ((s[2]'(by omega)).toNat : Int) = n / 16384 % 128 + 128 := by subst hs; exact str_at _ 2 (by omega) (by simp) (by simp; omega) (by simp; omega)
  have b3 : ((s[3]'(by omega)).toNat : Int) = n / 2097152 := by subst hs; exact str_at _ 3 (by omega) (by simp) (by simp; omega) (by simp; omega)
  have e : 0 + ((n % 128 + 128) - 128) + ((n / 128 % 128 + 128) - 128) * 128 + ((n / 16384 % 128 + 128) - 128) * 16384 + n / 2097152 * 2097152 = n := by omega
  have g := got4 s 0 (n % 128 + 128) (n / 128 % 128 + 128) (n / 16384 % 128 + 128) (n / 2097152) (by omega) (by simpa using b0) (by simpa using b1) (by simpa using b2) (by simpa using b3) (by omega) (by omega) (by omega) (by omega) (by rw [e]; exact sz_4 h h')
  rw [e] at g
  simpa using g

theorem putL_len {n : Int} (h : 0 ≤ n) (h' : n ≤ 268435455) : ((putL n).length : Int) = sz n := by
  rcases (show (n < 128) ∨ (128 ≤ n ∧ n < 16384) ∨ (16384 ≤ n ∧ n < 2097152) ∨ (2097152 ≤ n) from by omega) with g | ⟨g, g'⟩ | ⟨g, g'⟩ | g
  · rw [putL_1 h g, sz_1 h g]; rfl
  · rw [putL_2 g g', sz_2 g g']; rfl
  · rw [putL_3 g g', sz_3 g g']; rfl
  · rw [putL_4 g h', sz_4 g h']; rfl

theorem get_put {n : Int} (h : 0 ≤ n) (h' : n ≤ 268435455) : get (strOfNums (putL n)) 0 = (n, ((putL n).length : Int), 0) := by
  rw [putL_len h h']
  rcases (show (n < 128) ∨ (128 ≤ n ∧ n < 16384) ∨ (16384 ≤ n ∧ n < 2097152) ∨ (2097152 ≤ n) from by omega) with g | ⟨g, g'⟩ | ⟨g, g'⟩ | g
  · rw [get_put1 h g, sz_1 h g]
  · rw [get_put2 g g', sz_2 g g']
  · rw [get_put3 g g', sz_3 g g']
  · rw [get_put4 g h', sz_4 g h']

theorem sz_inv1 {x : Int} (h : sz x = 1) : 0 ≤ x ∧ x < 128 := by unfold sz at h; repeat' split at h; all_goals omega
theorem sz_inv2 {x : Int} (h : sz x = 2) : 128 ≤ x ∧ x < 16384 := by unfold sz at h; repeat' split at h; all_goals omega
theorem sz_inv3 {x : Int} (h : sz x = 3) : 16384 ≤ x ∧ x < 2097152 := by unfold sz at h; repeat' split at h; all_goals omega
theorem sz_inv4 {x : Int} (h : sz x = 4) : 2097152 ≤ x ∧ x ≤ 268435455 := by unfold sz at h; repeat' split at h; all_goals omega

theorem byte_lt (s : ByteArray) (k : Nat) (h : k < s.size) : ((s[k]'h).toNat : Int) < 256 := by
  have := (s[k]'h).toNat_lt
  omega

/-- What it is that a number was read of: its bytes, and no others. -/
def Read (s : ByteArray) (k : Nat) : Prop :=
  ∃ (x : Int) (m : Nat), 1 ≤ m ∧ k + m ≤ s.size ∧ 0 ≤ x ∧ x ≤ 268435455 ∧ (putL x).length = m ∧ get s k = (x, (k : Int) + m, 0) ∧
    ∀ i (h : k + i < s.size) (h' : i < (putL x).length), ((s[k + i]'h).toNat : Int) = (putL x)[i]

theorem read_got1 (s : ByteArray) (k : Nat) (a : Int) (h : k < s.size) (b0 : ((s[k]'(by omega)).toNat : Int) = a) (_h0 : 0 ≤ a) (hl : a < 128) (hz : sz (0 + a) = 1) : Read s k := by
  obtain ⟨r0, r1⟩ := sz_inv1 hz
  have hp := putL_1 r0 r1
  refine ⟨0 + a, 1, by omega, by omega, by omega, by omega, by rw [hp]; rfl, ?_, ?_⟩
  · rw [got1 s k a h b0 hl hz]
    simp
    try omega
  · intro j hj hj'
    simp only [hp]
    rw [hp] at hj'
    match j, hj' with
    | 0, _ => simp only [Nat.add_zero]; simp; omega

theorem read_got2 (s : ByteArray) (k : Nat) (a b : Int) (h : k + 1 < s.size) (b0 : ((s[k]'(by omega)).toNat : Int) = a) (b1 : ((s[k + 1]'(by omega)).toNat : Int) = b) (h0 : 128 ≤ a) (g0 : a < 256) (_h1 : 0 ≤ b) (hl : b < 128) (hz : sz (0 + (a - 128) + b * 128) = 2) : Read s k := by
  obtain ⟨r0, r1⟩ := sz_inv2 hz
  have hp := putL_2 r0 r1
  refine ⟨0 + (a - 128) + b * 128, 2, by omega, by omega, by omega, by omega, by rw [hp]; rfl, ?_, ?_⟩
  · rw [got2 s k a b h b0 b1 h0 hl hz]
    simp
    try omega
  · intro j hj hj'
    simp only [hp]
    rw [hp] at hj'
    match j, hj' with
    | 0, _ => simp only [Nat.add_zero]; simp; omega
    | 1, _ => simp; omega

theorem read_got3 (s : ByteArray) (k : Nat) (a b c : Int) (h : k + 2 < s.size) (b0 : ((s[k]'(by omega)).toNat : Int) = a) (b1 : ((s[k + 1]'(by omega)).toNat : Int) = b) (b2 : ((s[k + 2]'(by omega)).toNat : Int) = c) (h0 : 128 ≤ a) (g0 : a < 256) (h1 : 128 ≤ b) (g1 : b < 256) (_h2 : 0 ≤ c) (hl : c < 128) (hz : sz (0 + (a - 128) + (b - 128) * 128 + c * 16384) = 3) : Read s k := by
  obtain ⟨r0, r1⟩ := sz_inv3 hz
  have hp := putL_3 r0 r1
  refine ⟨0 + (a - 128) + (b - 128) * 128 + c * 16384, 3, by omega, by omega, by omega, by omega, by rw [hp]; rfl, ?_, ?_⟩
  · rw [got3 s k a b c h b0 b1 b2 h0 h1 hl hz]
    simp
    try omega
  · intro j hj hj'
    simp only [hp]
    rw [hp] at hj'
    match j, hj' with
    | 0, _ => simp only [Nat.add_zero]; simp; omega
    | 1, _ => simp; omega
    | 2, _ => simp; omega

theorem read_got4 (s : ByteArray) (k : Nat) (a b c d : Int) (h : k + 3 < s.size) (b0 : ((s[k]'(by omega)).toNat : Int) = a) (b1 : ((s[k + 1]'(by omega)).toNat : Int) = b) (b2 : ((s[k + 2]'(by omega)).toNat : Int) = c) (b3 : ((s[k + 3]'(by omega)).toNat : Int) = d) (h0 : 128 ≤ a) (g0 : a < 256) (h1 : 128 ≤ b) (g1 : b < 256) (h2 : 128 ≤ c) (g2 : c < 256) (_h3 : 0 ≤ d) (hl : d < 128) (hz : sz (0 + (a - 128) + (b - 128) * 128 + (c - 128) * 16384 + d * 2097152) = 4) : Read s k := by
  obtain ⟨r0, r1⟩ := sz_inv4 hz
  have hp := putL_4 r0 r1
  refine ⟨0 + (a - 128) + (b - 128) * 128 + (c - 128) * 16384 + d * 2097152, 4, by omega, by omega, by omega, by omega, by rw [hp]; rfl, ?_, ?_⟩
  · rw [got4 s k a b c d h b0 b1 b2 b3 h0 h1 h2 hl hz]
    simp
    try omega
  · intro j hj hj'
    simp only [hp]
    rw [hp] at hj'
    match j, hj' with
    | 0, _ => simp only [Nat.add_zero]; simp; omega
    | 1, _ => simp; omega
    | 2, _ => simp; omega
    | 3, _ => simp; omega

theorem get_inv (s : ByteArray) (k : Nat) (hk : k ≤ s.size) (hc : (get s k).2.2 = 0) : Read s k := by
  have hg := get_in s k hk
  by_cases l0 : k < s.size
  · have w0 := byte_lt s k l0
    by_cases c0 : ((s[k]'l0).toNat : Int) < 128
    · refine read_got1 s k _ l0 rfl (by omega) c0 ?_
      exact sz_1 (by omega) (by omega)
    · rw [more0 s k 0 l0 c0] at hg
      by_cases l1 : k + 1 < s.size
      · have w1 := byte_lt s (k + 1) l1
        by_cases c1 : ((s[k + 1]'l1).toNat : Int) < 128
        · by_cases hz : sz (0 + (((s[k]'l0).toNat : Int) - 128) + ((s[k + 1]'l1).toNat : Int) * 128) = 2
          · exact read_got2 s k _ _ l1 rfl rfl (by omega) w0 (by omega) c1 hz
          · rw [bad1 s k _ l1 c1 hz] at hg; rw [hg] at hc; exact absurd hc (by decide)
        · rw [more1 s k _ l1 c1] at hg
          by_cases l2 : k + 2 < s.size
          · have w2 := byte_lt s (k + 2) l2
            by_cases c2 : ((s[k + 2]'l2).toNat : Int) < 128
            · by_cases hz : sz (0 + (((s[k]'l0).toNat : Int) - 128) + (((s[k + 1]'l1).toNat : Int) - 128) * 128 + ((s[k + 2]'l2).toNat : Int) * 16384) = 3
              · exact read_got3 s k _ _ _ l2 rfl rfl rfl (by omega) w0 (by omega) w1 (by omega) c2 hz
              · rw [bad2 s k _ l2 c2 hz] at hg; rw [hg] at hc; exact absurd hc (by decide)
            · rw [more2 s k _ l2 c2] at hg
              by_cases l3 : k + 3 < s.size
              · have w3 := byte_lt s (k + 3) l3
                by_cases c3 : ((s[k + 3]'l3).toNat : Int) < 128
                · by_cases hz : sz (0 + (((s[k]'l0).toNat : Int) - 128) + (((s[k + 1]'l1).toNat : Int) - 128) * 128 + (((s[k + 2]'l2).toNat : Int) - 128) * 16384 + ((s[k + 3]'l3).toNat : Int) * 2097152) = 4
                  · exact read_got4 s k _ _ _ _ l3 rfl rfl rfl rfl (by omega) w0 (by omega) w1 (by omega) w2 (by omega) c3 hz
                  · rw [bad3 s k _ l3 c3 hz] at hg; rw [hg] at hc; exact absurd hc (by decide)
                · rw [more3 s k _ l3 c3, getG_0] at hg; rw [hg] at hc; exact absurd hc (by decide)
              · rw [ends3 s k _ l3] at hg; rw [hg] at hc; exact absurd hc (by decide)
          · rw [ends2 s k _ l2] at hg; rw [hg] at hc; exact absurd hc (by decide)
      · rw [ends1 s k _ l1] at hg; rw [hg] at hc; exact absurd hc (by decide)
  · rw [ends0 s k _ l0] at hg; rw [hg] at hc; exact absurd hc (by decide)

theorem extract_eq (s : ByteArray) (m : Nat) (xs : List Int) (hm : xs.length = m) (hs : m ≤ s.size) (hb : ∀ i (h : i < s.size) (h' : i < xs.length), ((s[i]'h).toNat : Int) = xs[i]) : s.extract 0 m = strOfNums xs := by
  apply ByteArray.ext
  apply Array.ext
  · simp [strOfNums, hm]; omega
  · intro i h1 h2
    have hi : i < xs.length := by simpa [strOfNums] using h2
    have hx := hb i (by omega) hi
    have hx' : xs[i].toNat = (s[i]'(by omega)).toNat := by omega
    simp only [strOfNums, ByteArray.data_extract]
    simp only [Array.getElem_extract, List.getElem_toArray, List.getElem_map, Nat.zero_add, hx', UInt8.ofNat_toNat]
    rfl

theorem read_back (s : ByteArray) (hc : (get s 0).2.2 = 0) : ∃ (x : Int) (m : Nat), 1 ≤ m ∧ m ≤ s.size ∧ 0 ≤ x ∧ x ≤ 268435455 ∧ get s 0 = (x, (m : Int), 0) ∧ s.extract 0 m = strOfNums (putL x) := by
  obtain ⟨x, m, h1, h2, h3, h4, h5, h6, h7⟩ := get_inv s 0 (Nat.zero_le _) hc
  refine ⟨x, m, h1, by omega, h3, h4, by simpa using h6, ?_⟩
  exact extract_eq s m (putL x) h5 (by omega) (fun i h h' => by have := h7 i (by omega) h'; simpa using this)

end VP
end Go.Proofs.YtjajandjdclifaaGreatDoor
namespace Go.Proofs.YtjajandjdclifaaGreatDoor
namespace ST
/-- How many bytes the packet has that stands whole at the beginning of s, and the code. -/
def first (s : ByteArray) (most : Int) : Int × Int :=
  if s.size = 0 then (0, 242) else if (VP.get s 1).2.2 ≠ 0 then (0, (VP.get s 1).2.2) else
  if most < (VP.get s 1).2.1 + (VP.get s 1).1 then (0, 149) else
  if (s.size : Int) < (VP.get s 1).2.1 + (VP.get s 1).1 then (0, 242) else ((VP.get s 1).2.1 + (VP.get s 1).1, 0)
theorem get1 (s : ByteArray) (h : s.size ≠ 0) (hc : (VP.get s 1).2.2 = 0) : ∃ n b : Nat, VP.get s 1 = ((n : Int), (b : Int), 0) ∧ n ≤ 268435455 ∧ 2 ≤ b ∧ b ≤ s.size := by
  obtain ⟨x, m, h1, h2, h3, h4, _, h6, _⟩ := VP.get_inv s 1 (by omega) hc
  obtain ⟨n, rfl⟩ := Int.eq_ofNat_of_zero_le h3
  exact ⟨n, 1 + m, by rw [show ((1 : Int)) = ((1 : Nat) : Int) from rfl, h6]; simp, by omega, by omega, by omega⟩
theorem first_ok (s : ByteArray) (most : Int) (h : (first s most).2 = 0) : ∃ k : Nat, first s most = ((k : Int), 0) ∧ 2 ≤ k ∧ k ≤ s.size := by
  unfold first at h ⊢
  by_cases h0 : s.size = 0
  · rw [if_pos h0] at h; exact absurd h (by decide)
  rw [if_neg h0] at h ⊢
  by_cases h1 : (VP.get s 1).2.2 ≠ 0
  · rw [if_pos h1] at h; exact absurd h h1
  rw [if_neg h1] at h ⊢
  obtain ⟨n, b, hg, hn, hb1, hb2⟩ := get1 s h0 (Classical.not_not.1 h1)
  rw [hg] at h ⊢
  simp only at h ⊢
  by_cases h2 : most < (b : Int) + n
  · rw [if_pos h2] at h; exact absurd h (by decide)
  rw [if_neg h2] at h ⊢
  by_cases h3 : (s.size : Int) < (b : Int) + n
  · rw [if_pos h3] at h; exact absurd h (by decide)
  rw [if_neg h3]
  exact ⟨b + n, by simp, by omega, by omega⟩
/-- The packets from a place on whose f is no code; the place behind them, and the code. -/
def thr (s : ByteArray) (most : Int) (f : ByteArray → Int) : Nat → Nat → List ByteArray × Nat × Int
  | 0, a => ([], a, 0)
  | u + 1, a =>
    if (first (s.extract a s.size) most).2 = 0 then
      if f (s.extract a (a + (first (s.extract a s.size) most).1.toNat)) = 0 then
        (s.extract a (a + (first (s.extract a s.size) most).1.toNat) :: (thr s most f u (a + (first (s.extract a s.size) most).1.toNat)).1, (thr s most f u (a + (first (s.extract a s.size) most).1.toNat)).2)
      else ([], a, f (s.extract a (a + (first (s.extract a s.size) most).1.toNat)))
    else ([], a, if (first (s.extract a s.size) most).2 = 242 then 0 else (first (s.extract a s.size) most).2)
/-- What a loop has done of them. -/
def Thr (s : ByteArray) (most : Int) (f : ByteArray → Int) (l : List ByteArray) (a : Nat) : Prop :=
  ∃ u, s.size < a + u ∧ a ≤ s.size ∧ 2 * l.length ≤ a ∧ thr s most f (s.size + 1) 0 = (l ++ (thr s most f u a).1, (thr s most f u a).2)
theorem Thr.start (s : ByteArray) (most : Int) (f : ByteArray → Int) : Thr s most f [] 0 := ⟨s.size + 1, by omega, by omega, by simp, by simp⟩
theorem Thr.step {s : ByteArray} {most : Int} {f : ByteArray → Int} {l : List ByteArray} {a k : Nat} (h : Thr s most f l a) (hf : first (s.extract a s.size) most = ((k : Int), 0)) (hk : 2 ≤ k) (hk2 : a + k ≤ s.size) (h0 : f (s.extract a (a + k)) = 0) : Thr s most f (l ++ [s.extract a (a + k)]) (a + k) := by
  obtain ⟨u, h1, h2, h3, h4⟩ := h
  obtain ⟨v, rfl⟩ : ∃ v, u = v + 1 := ⟨u - 1, by omega⟩
  refine ⟨v, by omega, hk2, by simp; omega, ?_⟩
  rw [h4, thr, hf]
  simp [h0]
theorem Thr.left {s : ByteArray} {most : Int} {f : ByteArray → Int} {l : List ByteArray} {a k : Nat} (h : Thr s most f l a) (hf : first (s.extract a s.size) most = ((k : Int), 0)) (h0 : f (s.extract a (a + k)) ≠ 0) : thr s most f (s.size + 1) 0 = (l, a, f (s.extract a (a + k))) := by
  obtain ⟨u, h1, h2, h3, h4⟩ := h
  obtain ⟨v, rfl⟩ : ∃ v, u = v + 1 := ⟨u - 1, by omega⟩
  rw [h4, thr, hf]
  simp [h0]
theorem Thr.stop {s : ByteArray} {most : Int} {f : ByteArray → Int} {l : List ByteArray} {a : Nat} (h : Thr s most f l a) (hf : (first (s.extract a s.size) most).2 ≠ 0) : thr s most f (s.size + 1) 0 = (l, a, if (first (s.extract a s.size) most).2 = 242 then 0 else (first (s.extract a s.size) most).2) := by
  obtain ⟨u, h1, h2, h3, h4⟩ := h
  obtain ⟨v, rfl⟩ : ∃ v, u = v + 1 := ⟨u - 1, by omega⟩
  rw [h4, thr, if_neg hf]
  simp
theorem Thr.size {s : ByteArray} {most : Int} {f : ByteArray → Int} {l : List ByteArray} {a : Nat} (h : Thr s most f l a) : a ≤ s.size ∧ 2 * l.length ≤ a := by
  obtain ⟨u, h1, h2, h3, h4⟩ := h
  exact ⟨h2, h3⟩
end ST
end Go.Proofs.YtjajandjdclifaaGreatDoor
namespace Go.Proofs.YtjajandjdclifaaGreatDoor
namespace ST
/-- X stands at the beginning of Y. -/
def Beg (X Y : ByteArray) : Prop := X.size ≤ Y.size ∧ ∀ (j : Nat) (h1 : j < X.size) (h2 : j < Y.size), X[j]'h1 = Y[j]'h2
theorem getG_keeps {X Y : ByteArray} (hb : Beg X Y) (k : Nat) : ∀ (u i : Nat) (n : Int), (VP.getG X k u i n).2.2 ≠ 242 → VP.getG Y k u i n = VP.getG X k u i n
  | 0, i, n, _ => by rw [VP.getG_0, VP.getG_0]
  | u + 1, i, n, h => by
    by_cases h1 : k + i < X.size
    · have h2 : k + i < Y.size := Nat.lt_of_lt_of_le h1 hb.1
      have e := hb.2 (k + i) h1 h2
      rw [VP.getG, dif_pos h1] at h
      rw [VP.getG, VP.getG, dif_pos h1, dif_pos h2, ← e]
      split
      · rfl
      · rename_i h3
        rw [if_neg h3] at h
        exact getG_keeps hb k u (i + 1) _ h
    · rw [VP.getG_end X k u i n h1] at h
      exact absurd rfl h
theorem get_keeps {X Y : ByteArray} (hb : Beg X Y) (k : Nat) (hk : k ≤ X.size) (h : (VP.get X (k : Int)).2.2 ≠ 242) : VP.get Y (k : Int) = VP.get X (k : Int) := by
  rw [VP.get_in X k hk] at h ⊢
  rw [VP.get_in Y k (Nat.le_trans hk hb.1)]
  exact getG_keeps hb k 4 0 0 h
theorem first_keeps {X Y : ByteArray} (hb : Beg X Y) (m : Int) (h : (first X m).2 ≠ 242) : first Y m = first X m := by
  unfold first at h ⊢
  by_cases h0 : X.size = 0
  · rw [if_pos h0] at h; exact absurd rfl h
  rw [if_neg h0] at h ⊢
  have hY : Y.size ≠ 0 := by have := hb.1; omega
  rw [if_neg hY]
  by_cases h1 : (VP.get X 1).2.2 = 242
  · rw [if_pos (by rw [h1]; decide)] at h
    exact absurd h1 h
  have hg : VP.get Y 1 = VP.get X 1 := get_keeps hb 1 (by omega) h1
  rw [hg]
  by_cases h2 : (VP.get X 1).2.2 ≠ 0
  · rw [if_pos h2, if_pos h2]
  rw [if_neg h2] at h
  rw [if_neg h2, if_neg h2]
  by_cases h3 : m < (VP.get X 1).2.1 + (VP.get X 1).1
  · rw [if_pos h3, if_pos h3]
  rw [if_neg h3] at h
  rw [if_neg h3, if_neg h3]
  by_cases h4 : (X.size : Int) < (VP.get X 1).2.1 + (VP.get X 1).1
  · rw [if_pos h4] at h; exact absurd rfl h
  rw [if_neg h4, if_neg (by have := hb.1; omega)]
theorem beg_drop {X Y : ByteArray} (hb : Beg X Y) (a : Nat) (ha : a ≤ X.size) : Beg (X.extract a X.size) (Y.extract a Y.size) := by
  refine ⟨by rw [ByteArray.size_extract, ByteArray.size_extract]; have := hb.1; omega, fun j h1 h2 => ?_⟩
  rw [ByteArray.size_extract] at h1 h2
  rw [ByteArray.getElem_extract, ByteArray.getElem_extract]
  exact hb.2 (a + j) (by omega) (by omega)
theorem beg_part {X Y : ByteArray} (hb : Beg X Y) (a k : Nat) (hk : a + k ≤ X.size) : Y.extract a (a + k) = X.extract a (a + k) := by
  have := hb.1
  apply ByteArray.ext_getElem
  · rw [ByteArray.size_extract, ByteArray.size_extract]; omega
  · intro i h1 h2
    rw [ByteArray.size_extract] at h1 h2
    rw [ByteArray.getElem_extract, ByteArray.getElem_extract]
    exact (hb.2 (a + i) (by omega) (by omega)).symm
/-- Fuel that is enough. -/
theorem thr_fuel (s : ByteArray) (m : Int) (f : ByteArray → Int) : ∀ (u v a : Nat), a ≤ s.size → s.size < a + u → s.size < a + v → thr s m f u a = thr s m f v a
  | 0, v, a, h, h1, _ => by omega
  | u + 1, 0, a, h, _, h2 => by omega
  | u + 1, v + 1, a, h, h1, h2 => by
    rw [thr, thr]
    by_cases hf : (first (s.extract a s.size) m).2 = 0
    · obtain ⟨k, hk, hk1, hk2⟩ := first_ok _ _ hf
      rw [ByteArray.size_extract] at hk2
      rw [hk]
      simp only [Int.toNat_natCast]
      rw [thr_fuel s m f u v (a + k) (by omega) (by omega) (by omega)]
    · rw [if_neg hf, if_neg hf]
/-- More bytes behind: what was told stays; behind a code nothing is. -/
theorem thr_more {X Y : ByteArray} (hb : Beg X Y) (m : Int) (f : ByteArray → Int) : ∀ (u v a : Nat), a ≤ X.size → X.size < a + u → Y.size < a + v →
    ((thr X m f u a).2.2 ≠ 0 → (thr Y m f v a).1 = (thr X m f u a).1 ∧ (thr Y m f v a).2.2 = (thr X m f u a).2.2) ∧
    ((thr X m f u a).2.2 = 0 → (thr X m f u a).2.1 ≤ X.size ∧ (first (X.extract (thr X m f u a).2.1 X.size) m).2 = 242 ∧ ∀ v', Y.size < (thr X m f u a).2.1 + v' → (thr Y m f v a).1 = (thr X m f u a).1 ++ (thr Y m f v' (thr X m f u a).2.1).1 ∧ (thr Y m f v a).2.2 = (thr Y m f v' (thr X m f u a).2.1).2.2)
  | 0, v, a, h, h1, _ => by omega
  | u + 1, v, a, h, h1, h2 => by
    obtain ⟨v, rfl⟩ : ∃ w, v = w + 1 := ⟨v - 1, by have := hb.1; omega⟩
    by_cases h242 : (first (X.extract a X.size) m).2 = 242
    · have e : thr X m f (u + 1) a = ([], a, 0) := by rw [thr, if_neg (by rw [h242]; decide), if_pos h242]
      rw [e]
      refine ⟨fun h => absurd rfl h, fun _ => ⟨h, h242, fun v' hv' => ?_⟩⟩
      rw [thr_fuel Y m f (v + 1) v' a (Nat.le_trans h hb.1) h2 hv']
      exact ⟨rfl, rfl⟩
    · have hk := first_keeps (beg_drop hb a h) m h242
      by_cases hf : (first (X.extract a X.size) m).2 = 0
      · obtain ⟨k, hk0, hk1, hk2⟩ := first_ok _ _ hf
        rw [ByteArray.size_extract] at hk2
        have hpart := beg_part hb a k (by omega)
        rw [hk0] at hk
        by_cases hc : f (X.extract a (a + k)) = 0
        · have eX : thr X m f (u + 1) a = (X.extract a (a + k) :: (thr X m f u (a + k)).1, (thr X m f u (a + k)).2) := by rw [thr, hk0]; simp [hc]
          have eY : thr Y m f (v + 1) a = (X.extract a (a + k) :: (thr Y m f v (a + k)).1, (thr Y m f v (a + k)).2) := by rw [thr, hk]; simp [hpart, hc]
          have ih := thr_more hb m f u v (a + k) (by omega) (by omega) (by omega)
          rw [eX, eY]
          refine ⟨fun h0 => ?_, fun h0 => ?_⟩
          · obtain ⟨i1, i2⟩ := ih.1 h0
            exact ⟨by simp only; rw [i1], i2⟩
          · obtain ⟨i0, i1, i2⟩ := ih.2 h0
            refine ⟨i0, i1, fun v' hv' => ?_⟩
            obtain ⟨j1, j2⟩ := i2 v' hv'
            exact ⟨by simp only [List.cons_append]; rw [j1], j2⟩
        · have eX : thr X m f (u + 1) a = ([], a, f (X.extract a (a + k))) := by rw [thr, hk0]; simp [hc]
          have eY : thr Y m f (v + 1) a = ([], a, f (X.extract a (a + k))) := by rw [thr, hk]; simp [hpart, hc]
          rw [eX, eY]
          exact ⟨fun _ => ⟨rfl, rfl⟩, fun h0 => absurd h0 hc⟩
      · have eX : thr X m f (u + 1) a = ([], a, (first (X.extract a X.size) m).2) := by rw [thr, if_neg hf, if_neg h242]
        have eY : thr Y m f (v + 1) a = ([], a, (first (X.extract a X.size) m).2) := by rw [thr, hk, if_neg hf, if_neg h242]
        rw [eX, eY]
        exact ⟨fun _ => ⟨rfl, rfl⟩, fun h0 => absurd h0 hf⟩
/-- From a place on: as of the bytes from there on. -/
theorem thr_drop (s : ByteArray) (m : Int) (f : ByteArray → Int) (b : Nat) : ∀ (u a : Nat), (thr s m f u (b + a)).1 = (thr (s.extract b s.size) m f u a).1 ∧ (thr s m f u (b + a)).2.2 = (thr (s.extract b s.size) m f u a).2.2
  | 0, a => ⟨rfl, rfl⟩
  | u + 1, a => by
    have hz : (s.extract b s.size).size = s.size - b := by rw [ByteArray.size_extract]; omega
    have e1 : (s.extract b s.size).extract a (s.extract b s.size).size = s.extract (b + a) s.size := by
      rw [hz, ByteArray.extract_extract]; congr 1; omega
    rw [thr, thr, e1]
    by_cases hf : (first (s.extract (b + a) s.size) m).2 = 0
    · obtain ⟨k, hk, hk1, hk2⟩ := first_ok _ _ hf
      rw [ByteArray.size_extract] at hk2
      rw [hk]
      simp only [Int.toNat_natCast, if_true]
      have e2 : (s.extract b s.size).extract a (a + k) = s.extract (b + a) (b + a + k) := by
        rw [ByteArray.extract_extract]; congr 1; omega
      rw [e2]
      have ih := thr_drop s m f b u (a + k)
      rw [show b + (a + k) = b + a + k by omega] at ih
      split
      · exact ⟨by simp only; rw [ih.1], ih.2⟩
      · exact ⟨rfl, rfl⟩
    · rw [if_neg hf, if_neg hf]
      exact ⟨rfl, rfl⟩
end ST
end Go.Proofs.YtjajandjdclifaaGreatDoor
namespace Go.Proofs.YtjajandjdclifaaGreatDoor
namespace PR

def l1 : List Int := [1, 23, 25, 36, 37, 40, 41, 42]
def l2 : List Int := [19, 33, 34, 35]
def l3 : List Int := [2, 17, 24, 39]
def l5 : List Int := [9, 22]
def l6 : List Int := [3, 8, 18, 21, 26, 28, 31]
/-- Is the number in the list? -/
def has (n : Int) : List Int → Bool
  | [] => false
  | a :: l => a == n || has n l
/-- The kind of an identifier. -/
def kd (id : Int) : Int := if has id l1 = true then 1 else if has id l2 = true then 2 else if has id l3 = true then 3 else if id = 11 then 4 else if has id l5 = true then 5 else if has id l6 = true then 6 else if id = 38 then 7 else 0

theorem drop_at {l : List Int} {k : Nat} {x : Int} (h : l[k]? = some x) : l.drop k = x :: l.drop (k + 1) := by
  obtain ⟨hk, he⟩ := List.getElem?_eq_some_iff.1 h
  rw [List.drop_eq_getElem_cons hk, he]
theorem has_yes {n x : Int} {l : List Int} {k : Nat} (h : l[k]? = some x) (he : (x == n) = true) : has n (l.drop k) = true := by rw [drop_at h, has, he]; rfl
theorem has_no {n x : Int} {l : List Int} {k : Nat} (h : l[k]? = some x) (he : (x == n) = false) : has n (l.drop k) = has n (l.drop (k + 1)) := by rw [drop_at h, has, he]; rfl
theorem has_end (n : Int) (l : List Int) : has n (l.drop l.length) = false := by rw [List.drop_length]; rfl
theorem kd_le (id : Int) : 0 ≤ kd id ∧ kd id ≤ 7 := by
  unfold kd
  repeat' split
  all_goals omega
/-- An identifier of none of the kinds is another one than all of these. -/
theorem kd_none {id : Int} (h : id < 0 ∨ 42 < id) : kd id = 0 := by
  have hh : ∀ l : List Int, (∀ x ∈ l, 0 ≤ x ∧ x ≤ 42) → has id l = false := by
    intro l
    induction l with
    | nil => intro _; rfl
    | cons a l ih =>
      intro hl
      have h1 := hl a (.head _)
      rw [has, ih (fun x hx => hl x (.tail _ hx)), show (a == id) = false by rw [beq_eq_false_iff_ne]; omega]
      rfl
  unfold kd
  rw [hh l1 (by decide), hh l2 (by decide), hh l3 (by decide), hh l5 (by decide), hh l6 (by decide)]
  rw [if_neg (by decide), if_neg (by decide), if_neg (by decide), if_neg (by omega), if_neg (by decide), if_neg (by decide), if_neg (by omega)]
end PR
end Go.Proofs.YtjajandjdclifaaGreatDoor
namespace Go.Proofs.YtjajandjdclifaaGreatDoor
open Go.RowKit

set_option maxRecDepth 100000 in
set_option maxHeartbeats 4000000 in
theorem kind_small (k : Nat) (hk : k ≤ 42) (w : World) : Calls Tryz.prog 155 #[.int .i64 (k : Int)] w fun e w' => e = .returned (.int .i64 (PR.kd (k : Int))) ∧ w = w' := by
  have h : k = 0 ∨ k = 1 ∨ k = 2 ∨ k = 3 ∨ k = 4 ∨ k = 5 ∨ k = 6 ∨ k = 7 ∨ k = 8 ∨ k = 9 ∨ k = 10 ∨ k = 11 ∨ k = 12 ∨ k = 13 ∨ k = 14 ∨ k = 15 ∨ k = 16 ∨ k = 17 ∨ k = 18 ∨ k = 19 ∨ k = 20 ∨ k = 21 ∨ k = 22 ∨ k = 23 ∨ k = 24 ∨ k = 25 ∨ k = 26 ∨ k = 27 ∨ k = 28 ∨ k = 29 ∨ k = 30 ∨ k = 31 ∨ k = 32 ∨ k = 33 ∨ k = 34 ∨ k = 35 ∨ k = 36 ∨ k = 37 ∨ k = 38 ∨ k = 39 ∨ k = 40 ∨ k = 41 ∨ k = 42 := by omega
  rcases h with rfl | rfl | rfl | rfl | rfl | rfl | rfl | rfl | rfl | rfl | rfl | rfl | rfl | rfl | rfl | rfl | rfl | rfl | rfl | rfl | rfl | rfl | rfl | rfl | rfl | rfl | rfl | rfl | rfl | rfl | rfl | rfl | rfl | rfl | rfl | rfl | rfl | rfl | rfl | rfl | rfl | rfl | rfl
  all_goals
    go_enter Tryz.func155, Tryz.ntmps155
    go_wp2
    go_ret
    exact ⟨rfl, rfl⟩

theorem kind_any (id : Int) (w : World) : Calls Tryz.prog 155 #[.int .i64 id] w fun e w' => e = .returned (.int .i64 (PR.kd id)) ∧ w = w' := by
  by_cases h : id < 0 ∨ 42 < id
  · rw [PR.kd_none h]
    have h0 : ∀ c : Int, 0 ≤ c → c ≤ 42 → (id == c) = false := fun c h1 h2 => by rw [beq_eq_false_iff_ne]; omega
    have e1 := h0 1 (by decide) (by decide); have e2 := h0 2 (by decide) (by decide); have e3 := h0 3 (by decide) (by decide); have e8 := h0 8 (by decide) (by decide); have e9 := h0 9 (by decide) (by decide); have e11 := h0 11 (by decide) (by decide)
    have e17 := h0 17 (by decide) (by decide); have e18 := h0 18 (by decide) (by decide); have e19 := h0 19 (by decide) (by decide); have e21 := h0 21 (by decide) (by decide); have e22 := h0 22 (by decide) (by decide); have e23 := h0 23 (by decide) (by decide)
    have e24 := h0 24 (by decide) (by decide); have e25 := h0 25 (by decide) (by decide); have e26 := h0 26 (by decide) (by decide); have e28 := h0 28 (by decide) (by decide); have e31 := h0 31 (by decide) (by decide)
    have e33 := h0 33 (by decide) (by decide); have e34 := h0 34 (by decide) (by decide); have e35 := h0 35 (by decide) (by decide); have e36 := h0 36 (by decide) (by decide); have e37 := h0 37 (by decide) (by decide); have e38 := h0 38 (by decide) (by decide)
    have e39 := h0 39 (by decide) (by decide); have e40 := h0 40 (by decide) (by decide); have e41 := h0 41 (by decide) (by decide); have e42 := h0 42 (by decide) (by decide)
    clear h0 h
    go_enter Tryz.func155, Tryz.ntmps155
    go_wp2
    go_ret
    exact ⟨rfl, rfl⟩
  · obtain ⟨k, rfl⟩ : ∃ k : Nat, id = (k : Int) := ⟨id.toNat, by omega⟩
    exact kind_small k (by omega) w

/-- A row of numbers. -/
def Nums (w : World) (g : Nat) (l : List Int) : Prop := ∀ (i : Nat) x, l[i]? = some x → w.cell? ⟨g, i, none⟩ = some (.int .i64 x)
theorem nums_new (w : World) (l : List Int) (t : TypeId) : Nums (w.alloc (.cells (l.map (Value.int .i64)).toArray t)) w.heap.size l := by
  intro i x hx
  rw [World.cell?_alloc_at _ _ _ _ rfl]
  simp [hx]

set_option maxHeartbeats 1000000 in
theorem in_any (n : Int) (g cap : Nat) (l : List Int) (w : World) (hl : l.length ≤ 100) (hc : Nums w g l) :
    Calls Tryz.prog 143 #[.int .i64 n, .slice (some ⟨g, 0, none⟩) l.length cap] w fun e w' => e = .returned (.bool (PR.has n l)) ∧ w = w' := by
  have H := Lib.hid hc
  clear hc
  go_enter Tryz.func143, Tryz.ntmps143
  go_wp2
  go_loop [5] (fun i => ∃ k : Nat, i = .int .i64 k ∧ k ≤ l.length ∧ Hid (PR.has n (l.drop k) = PR.has n l)) (fun i => l.length - (intOf i).toNat)
  case atStart => exact ⟨0, rfl, by omega, Lib.hid rfl⟩
  case round =>
    obtain ⟨k, rfl, hk, hk1⟩ := hrel
    by_cases hlt : k < l.length
    · obtain ⟨x, hx⟩ : ∃ x, l[k]? = some x := ⟨l[k], List.getElem?_eq_getElem hlt⟩
      have c1 := H.out k x hx
      by_cases he : (x == n) = true
      · have E1 := Lib.hid (PR.has_yes hx he)
        clear hx
        go_wp2
        go_ret
        exact ⟨by rw [← hk1.out, E1.out]; rfl, rfl⟩
      · have he' : (x == n) = false := by simpa using he
        have E1 := Lib.hid (PR.has_no hx he')
        clear hx he
        go_wp2
        go_round
        case rel => exact ⟨k + 1, by go_num, by omega, Lib.hid (by rw [← E1.out]; exact hk1.out)⟩
        case measure => simp [intOf]; omega
    · have hkl : k = l.length := by omega
      subst hkl
      have E1 := Lib.hid (PR.has_end n l)
      go_wp2
      go_ret
      exact ⟨by rw [← hk1.out, E1.out]; rfl, rfl⟩
end Go.Proofs.YtjajandjdclifaaGreatDoor
namespace Go.Proofs.YtjajandjdclifaaGreatDoor
open Go.RowKit

/-- A property as plain data. -/
structure Pr where
  id : Int
  n : Int
  s : ByteArray
  t : ByteArray
def Pr.cells (p : Pr) : List Value := [.int .i64 p.id, .int .i64 p.n, .string p.s, .string p.t]
def flatP (l : List Pr) : List Value := l.flatMap Pr.cells
theorem flatP_snoc (l : List Pr) (p : Pr) : flatP (l ++ [p]) = flatP l ++ [.int .i64 p.id, .int .i64 p.n, .string p.s, .string p.t] := by simp [flatP, Pr.cells]
theorem flatP_len (l : List Pr) : (flatP l).length = l.length * 4 := by
  induction l with
  | nil => rfl
  | cons a l ih => simp only [flatP, List.flatMap_cons, List.length_append] at ih ⊢; rw [ih]; simp [Pr.cells]; omega
theorem flatP_at : ∀ (l : List Pr) (i : Nat) (p : Pr), l[i]? = some p → (flatP l)[i * 4]? = some (.int .i64 p.id) ∧ (flatP l)[i * 4 + 1]? = some (.int .i64 p.n) ∧ (flatP l)[i * 4 + 2]? = some (.string p.s) ∧ (flatP l)[i * 4 + 3]? = some (.string p.t)
  | [], i, p, h => by simp at h
  | a :: l, 0, p, h => by simp at h; subst h; simp [flatP, Pr.cells]
  | a :: l, i + 1, p, h => by
    have ih := flatP_at l i p (by simpa using h)
    have e : ∀ j, (flatP (a :: l))[(i + 1) * 4 + j]? = (flatP l)[i * 4 + j]? := fun j => by
      rw [show (i + 1) * 4 + j = 4 + (i * 4 + j) by omega]
      show (Pr.cells a ++ flatP l)[4 + (i * 4 + j)]? = _
      rw [List.getElem?_append_right (by simp [Pr.cells])]
      congr 1
      simp [Pr.cells]
    exact ⟨(e 0).trans ih.1, (e 1).trans ih.2.1, (e 2).trans ih.2.2.1, (e 3).trans ih.2.2.2⟩

/-- A row of properties, from an address on. -/
def Props (w : World) (A : Option Addr) (l : List Pr) : Prop :=
  ∀ (i : Nat) p, l[i]? = some p → ∃ g o, A = some ⟨g, o, none⟩ ∧ g < w.heap.size ∧
    w.cell? ⟨g, o + i * 4, none⟩ = some (.int .i64 p.id) ∧ w.cell? ⟨g, o + i * 4 + 1, none⟩ = some (.int .i64 p.n) ∧ w.cell? ⟨g, o + i * 4 + 2, none⟩ = some (.string p.s) ∧ w.cell? ⟨g, o + i * 4 + 3, none⟩ = some (.string p.t)
theorem Props.below {w w' : World} {A : Option Addr} {l : List Pr} (h : Props w A l) (hb : Below w.heap.size w w') : Props w' A l := fun i p hp => by
  obtain ⟨g, o, hA, hg, h0, h1, h2, h3⟩ := h i p hp
  have := hb.size
  exact ⟨g, o, hA, by omega, (hb.cell (p := ⟨g, _, none⟩) hg).trans h0, (hb.cell (p := ⟨g, _, none⟩) hg).trans h1, (hb.cell (p := ⟨g, _, none⟩) hg).trans h2, (hb.cell (p := ⟨g, _, none⟩) hg).trans h3⟩
theorem Props.take {w : World} {A : Option Addr} {l : List Pr} (h : Props w A l) (k : Nat) : Props w A (l.take k) := fun i p hp => by
  rw [List.getElem?_take] at hp
  split at hp
  · exact h i p hp
  · cases hp
theorem add0 (g j : Nat) : (⟨g, 0, none⟩ : Addr).add j = ⟨g, j, none⟩ := by
  unfold Addr.add
  split <;> simp_all
theorem own_props {w : World} {B : Nat} {t : TypeId} {A : Option Addr} {n cap : Nat} {l : List Pr} (h : w.ownsRow B t 4 (.slice A n cap) n (flatP l)) : Props w A l := fun i p hp => by
  have hi := (List.getElem?_eq_some_iff.1 hp).1
  have hn : n = l.length := by have h1 := h.1; rw [flatP_len] at h1; omega
  obtain ⟨g, c, hv, hg, hg'⟩ := h.form (by omega)
  injection hv with hv _ _
  subst hv
  obtain ⟨l0, l1, l2, l3⟩ := flatP_at l i p hp
  have key : ∀ (j : Nat) v, (flatP l)[j]? = some v → w.cell? ⟨g, 0 + j, none⟩ = some v := fun j v hv => by
    rw [Nat.zero_add, ← add0]; exact h.cells (g := g) rfl j v hv
  exact ⟨g, 0, rfl, hg', key _ _ l0, key _ _ l1, key _ _ l2, key _ _ l3⟩
theorem own_below {B : Nat} {e : TypeId} {k : Nat} {v : Value} {n : Nat} {xs : List Value} {w w' : World} (h : w.ownsRow B e k v n xs) (hb : Below w.heap.size w w') : w'.ownsRow B e k v n xs :=
  h.kept (row := none) ⟨hb.os, hb.tape, hb.output, hb.size, fun i hi _ => hb.block i hi⟩ (by
    rcases h.2 with ⟨rfl, _⟩ | ⟨g, c, u, rfl, _⟩
    · exact .inl rfl
    · exact .inr (by simp [Value.ownBlock]))
theorem own_nil (w : World) (B : Nat) (e : TypeId) (k : Nat) : w.ownsRow B e k (.slice none 0 0) 0 [] := ⟨by simp, .inl ⟨rfl, rfl⟩⟩
theorem own_form {B : Nat} {e : TypeId} {k : Nat} {v : Value} {n : Nat} {xs : List Value} {w : World} (h : w.ownsRow B e k v n xs) : ∃ A cap, v = .slice A n cap := by
  rcases h.2 with ⟨rfl, rfl⟩ | ⟨g, c, u, rfl, _⟩
  · exact ⟨_, _, rfl⟩
  · exact ⟨_, _, rfl⟩
theorem own_cap {w : World} {N : Nat} {t : TypeId} {s : Nat} {A : Option Addr} {n cap : Nat} {l : List Value} (h : w.ownsRow N t s (.slice A n cap) n l) : n ≤ cap := by
  rcases h.2 with ⟨hx, hy⟩ | ⟨g, c, cur, hx, _, _, h3, h4, _⟩
  · omega
  · injection hx with _ _ hx; subst hx; exact h3
theorem rows_apart {w : World} {b1 b2 : Nat} {e1 e2 : TypeId} {s1 s2 : Nat} {v1 v2 : Value} {n1 n2 : Nat} {x1 x2 : List Value} (h1 : w.ownsRow b1 e1 s1 v1 n1 x1) (h2 : w.ownsRow b2 e2 s2 v2 n2 x2) (hne : e1 ≠ e2) : v1.ownBlock = none ∨ v1.ownBlock ≠ v2.ownBlock := by
  rcases h1.2 with ⟨rfl, _⟩ | ⟨g1, c1, u1, rfl, _, hg1, _⟩
  · exact .inl rfl
  · rcases h2.2 with ⟨rfl, _⟩ | ⟨g2, c2, u2, rfl, _, hg2, _⟩
    · exact .inr (by simp [Value.ownBlock])
    · refine .inr fun he => ?_
      have : g1 = g2 := by simpa [Value.ownBlock] using he
      subst this
      rw [hg1] at hg2
      injection hg2 with hg2
      injection hg2 with _ hg2
      exact hne hg2
theorem cell_heap {w : World} {b i : Nat} {cs : Array Value} {t : TypeId} (h : w.heap[b]? = some (.cells cs t (0, 0))) : w.cell? ⟨b, i, none⟩ = cs[i]? := by simp [World.cell?, h]
theorem frozen_heap {w : World} {b i : Nat} {cs : Array Value} {t : TypeId} (h : w.heap[b]? = some (.cells cs t (0, 0))) : w.frozen? ⟨b, i, none⟩ = false := by simp [World.frozen?, h]

/-- Where the first property of an identifier stands. -/
def ix (id : Int) (k : Nat) : List Pr → Int
  | [] => -1
  | p :: l => if (p.id == id) = true then (k : Int) else ix id (k + 1) l
/-- The first property of an identifier. -/
def fnd (id : Int) : List Pr → Option Pr
  | [] => none
  | p :: l => if (p.id == id) = true then some p else fnd id l
theorem ix_spec (id : Int) : ∀ (l : List Pr) (k : Nat), (ix id k l = -1 ∧ fnd id l = none) ∨ (∃ (j : Nat) (p : Pr), ix id k l = ((k + j : Nat) : Int) ∧ l[j]? = some p ∧ fnd id l = some p)
  | [], k => .inl ⟨rfl, rfl⟩
  | p :: l, k => by
    unfold ix fnd
    by_cases h : (p.id == id) = true
    · rw [if_pos h, if_pos h]; exact .inr ⟨0, p, by simp, by simp, rfl⟩
    · rw [if_neg h, if_neg h]
      rcases ix_spec id l (k + 1) with h1 | ⟨j, q, h1, h2, h3⟩
      · exact .inl h1
      · exact .inr ⟨j + 1, q, by rw [h1]; omega, by simpa using h2, h3⟩
theorem prop_drop {l : List Pr} {k : Nat} {p : Pr} (h : l[k]? = some p) : l.drop k = p :: l.drop (k + 1) := by
  obtain ⟨hk, he⟩ := List.getElem?_eq_some_iff.1 h
  rw [List.drop_eq_getElem_cons hk, he]
theorem ix_yes {id : Int} {l : List Pr} {k : Nat} {p : Pr} (h : l[k]? = some p) (he : (p.id == id) = true) : ix id k (l.drop k) = k := by rw [prop_drop h, ix, if_pos he]
theorem ix_no {id : Int} {l : List Pr} {k : Nat} {p : Pr} (h : l[k]? = some p) (he : (p.id == id) = false) : ix id k (l.drop k) = ix id (k + 1) (l.drop (k + 1)) := by rw [prop_drop h, ix, if_neg (by rw [he]; decide)]
theorem ix_end (id : Int) (l : List Pr) : ix id l.length (l.drop l.length) = -1 := by rw [List.drop_length]; rfl
theorem fnd_no {id : Int} {l : List Pr} {k : Nat} {p : Pr} (h : l[k]? = some p) (he : (p.id == id) = false) : fnd id (l.drop k) = fnd id (l.drop (k + 1)) := by rw [prop_drop h, fnd, if_neg (by rw [he]; decide)]
theorem fnd_yes {id : Int} {l : List Pr} {k : Nat} {p : Pr} (h : l[k]? = some p) (he : (p.id == id) = true) : fnd id (l.drop k) = some p := by rw [prop_drop h, fnd, if_pos he]
theorem fnd_end (id : Int) (l : List Pr) : fnd id (l.drop l.length) = none := by rw [List.drop_length]; rfl
end Go.Proofs.YtjajandjdclifaaGreatDoor
namespace Go.Proofs.YtjajandjdclifaaGreatDoor
open Go.RowKit

theorem clo_any (p : Pr) (b : Nat) (id : Int) (w : World) (hc : w.cell? ⟨b, 0, none⟩ = some (.int .i64 id)) (hb : b < w.heap.size) :
    Calls Tryz.prog 163 #[.agg #[.int .i64 p.id, .int .i64 p.n, .string p.s, .string p.t], .pointer (some ⟨b, 0, none⟩)] w fun e w' => e = .returned (.bool (p.id == id)) ∧ Below w.heap.size w w' := by
  have hne : b ≠ w.heap.size := by omega
  go_enter Tryz.func163, Tryz.ntmps163
  go_wp2
  go_ret
  exact ⟨rfl, (Below.refl _ _).alloc (Nat.le_refl _) _⟩

set_option maxRecDepth 100000 in
set_option maxHeartbeats 1000000 in
theorem ifn_any (A : Option Addr) (cap : Nat) (l : List Pr) (b : Nat) (id : Int) (w : World) (hl : l.length ≤ 1000) (h : Props w A l) (hc : w.cell? ⟨b, 0, none⟩ = some (.int .i64 id)) (hb : b < w.heap.size) :
    Calls Tryz.prog 149 #[.slice A l.length cap, .func (.func 163) #[] #[.pointer (some ⟨b, 0, none⟩)]] w fun e w' => e = .returned (.int .i64 (ix id 0 l)) ∧ Below w.heap.size w w' := by
  have H := Lib.hid h
  have HC := Lib.hid hc
  clear h hc
  go_enter Tryz.func149, Tryz.ntmps149
  go_wp2
  go_loopw [8] (fun i wr => ∃ k : Nat, i = .int .i64 k ∧ k ≤ l.length ∧ Hid (ix id k (l.drop k) = ix id 0 l) ∧ Hid (Below w.heap.size w wr)) (fun i _ => l.length - (intOf i).toNat)
  case atStart => exact ⟨0, rfl, by omega, Lib.hid rfl, Lib.hid (Below.refl _ _)⟩
  case round =>
    obtain ⟨k, rfl, hk, hk1, hbr⟩ := hrel
    have hsr := hbr.out.size
    by_cases hlt : k < l.length
    · obtain ⟨p, hp⟩ : ∃ p, l[k]? = some p := ⟨l[k], List.getElem?_eq_getElem hlt⟩
      obtain ⟨g, o, rfl, hg, r0, r1, r2, r3⟩ := H.out k p hp
      have q0 : wr.cell? ⟨g, o + k * 4, none⟩ = some (.int .i64 p.id) := by rw [hbr.out.cell (by simp; omega)]; exact r0
      have q1 : wr.cell? ⟨g, o + k * 4 + 1, none⟩ = some (.int .i64 p.n) := by rw [hbr.out.cell (by simp; omega)]; exact r1
      have q2 : wr.cell? ⟨g, o + k * 4 + 2, none⟩ = some (.string p.s) := by rw [hbr.out.cell (by simp; omega)]; exact r2
      have q3 : wr.cell? ⟨g, o + k * 4 + 3, none⟩ = some (.string p.t) := by rw [hbr.out.cell (by simp; omega)]; exact r3
      have C := Lib.hid (clo_any p b id wr (by rw [hbr.out.cell (p := ⟨b, 0, none⟩) hb]; exact HC.out) (by omega))
      have i1 : (k : Int) < (l.length : Int) := by omega
      have i0 : (0 : Int) ≤ (k : Int) := by omega
      clear r0 r1 r2 r3
      by_cases he : (p.id == id) = true
      · have E1 := Lib.hid (ix_yes hp he)
        rw [he] at C
        clear hp he
        go_wp2_with fail
        refine C.out.mono ?_
        rintro e w1 ⟨rfl, b1⟩
        have B1 := Lib.hid b1
        clear b1 C
        go_wp2
        go_ret
        exact ⟨by rw [← hk1.out, E1.out]; rfl, hbr.out.trans (B1.out.mono hsr)⟩
      · have he' : (p.id == id) = false := by simpa using he
        have E1 := Lib.hid (ix_no hp he')
        rw [he'] at C
        clear hp he he'
        go_wp2_with fail
        refine C.out.mono ?_
        rintro e w1 ⟨rfl, b1⟩
        have B1 := Lib.hid b1
        clear b1 C
        go_wp2
        go_roundw
        case rel => exact ⟨k + 1, by go_num, by omega, Lib.hid (by rw [← E1.out]; exact hk1.out), Lib.hid (hbr.out.trans (B1.out.mono hsr))⟩
        case measure => simp [intOf]; omega
    · have hkl : k = l.length := by omega
      subst hkl
      have E1 := Lib.hid (ix_end id l)
      go_wp2
      go_ret
      exact ⟨by rw [← hk1.out, E1.out]; rfl, hbr.out⟩

theorem index_any (A : Option Addr) (cap : Nat) (l : List Pr) (id : Int) (w : World) (hl : l.length ≤ 1000) (h : Props w A l) :
    Calls Tryz.prog 156 #[.slice A l.length cap, .int .i64 id] w fun e w' => e = .returned (.int .i64 (ix id 0 l)) ∧ Below w.heap.size w w' := by
  have hbl := (Below.refl w.heap.size w).alloc (Nat.le_refl _) (.cells #[.int .i64 id] 3)
  have C := Lib.hid (ifn_any A cap l w.heap.size id (w.alloc (.cells #[.int .i64 id] 3)) hl (h.below hbl) (by rw [World.cell?_alloc_at _ _ _ _ rfl]; rfl) (by simp))
  have hmf : ∀ (fn : Fn) (first cap : Array Value) (w : World), (Instr.makeFunc fn first cap).run Tryz.prog w = .ok (.func fn first cap) w := fun _ _ _ _ => rfl
  have Hb := Lib.hid hbl
  clear h hbl
  go_enter Tryz.func156, Tryz.ntmps156
  go_wp2_with fail
  refine C.out.mono ?_
  rintro e w1 ⟨rfl, b1⟩
  have B1 := Lib.hid b1
  clear b1 C
  go_wp2
  go_ret
  exact ⟨rfl, Hb.out.trans (B1.out.mono (by simp))⟩
end Go.Proofs.YtjajandjdclifaaGreatDoor
namespace Go.Proofs.YtjajandjdclifaaGreatDoor
open Go.RowKit

theorem toList_same {a b : ByteArray} (h : a.toList = b.toList) : a = b := by
  apply ByteArray.ext
  apply Array.toList_inj.1
  rw [← ByteArray.toList_eq, ← ByteArray.toList_eq, h]
theorem strInfo : (Tryz.prog.info? 9).map (fun i => (i.zero, i.size, i.bytes)) = some (some (.string ⟨#[]⟩), 1, 16) := by kernel_rfl
theorem info_parts {e : TypeId} {z : Value} {n b : Nat} (h : (Tryz.prog.info? e).map (fun i => (i.zero, i.size, i.bytes)) = some (some z, n, b)) : ∃ i, Tryz.prog.info? e = some i ∧ i.zero = some z ∧ i.size = n ∧ i.bytes = b := by
  cases hi : Tryz.prog.info? e with
  | none => rw [hi] at h; cases h
  | some i => rw [hi] at h; simp at h; exact ⟨i, rfl, h.1, h.2.1, h.2.2⟩
/-- An append whose run is known. -/
theorem wpList_run {P : Program} {ops : Array Oper} {rest : List Oper} {o : Oper} {a : Act} {w : World} {Q : Exit → Act → World → Prop} (hgd : o.guard = none) (s x : Operand) (t1 t2 : TypeId)
    (ho : o.op = .call { callee := .builtin .append, args := #[s, x], argTypes := #[t1, t2] }) {v u v' : Value} {w' : World} (hs : a.eval s = v) (hx : a.eval x = u)
    (hr : (Builtin.append_ #[t1, t2] o.type #[v, u]).run P w = .ok v' w') (h : wpList P ops Q rest (a.put o.dst v') w') : wpList P ops Q (o :: rest) a w := by
  refine wpList_plain hgd fun K hK => ?_
  unfold Oper.wp execOp
  simp only [ho, resolve, invoke, builtin, Sem.run_bind, Sem.run_pure, Result.andThen_ok, List.map_toArray, List.map_cons, List.map_nil, hs, hx, hr]
  exact hK _ _ h
theorem app1 {T e : TypeId} {i : TypeInfo} {z : Value} {size bytes : Nat} (ht : Tryz.prog.underlying T = some (.slice e)) (hi : Tryz.prog.info? e = some i) (hz : i.zero = some z) (hz1 : i.size = size) (hz2 : i.bytes = bytes) (hzs : z.cells.size = size) (hs0 : 0 < size) (hby : bytes ≤ 1000)
    (base : Nat) (v : Value) (n : Nat) (xs : List Value) (w : World) (hown : w.ownsRow base e size v n xs) (hbase : base ≤ w.heap.size) (cs : Array Value) (hcs : cs.size = size) (h1 : ∀ u ∈ cs.toList, u.oneCell' = true) (hn : n < 1000000) :
    ∃ v' w', (Builtin.append_ #[T, T] T #[v, .slice (some ⟨w.heap.size, 0, none⟩) 1 1]).run Tryz.prog (w.alloc (.cells cs e)) = .ok v' w' ∧ w'.ownsRow base e size v' (n + 1) (xs ++ cs.toList) ∧ w.grownBy w' v.ownBlock ∧ Below base w w' := by
  obtain ⟨v', w', hr, hown', hg, _, _⟩ := run_append_own_at (P := Tryz.prog) (w.alloc (.cells cs e)) base T T e i z size bytes ht hi hz hz1 hz2 hzs hs0 v n xs (hown.alloc _) ⟨w.heap.size, 0, none⟩ 1 1 cs.toList
    (by simp [hcs]) (fun j u hu => World.news_of_block (heap_alloc_new w _) j u hu) h1 (by unfold maxLen; omega) (by have := Nat.mul_le_mul (show n + 1 ≤ 1000000 by omega) hby; omega) (by simp; omega)
  refine ⟨v', w', hr, hown', ⟨hg.os, hg.tape, hg.output, by have := hg.size; simp at this; omega, fun k hk hne => (hg.block k (by simp; omega) hne).trans (Below.heap_alloc w _ k hk)⟩, ?_⟩
  exact ((Below.refl base w).alloc hbase _).grown hg (by simp; omega) fun k hk => (hown.lt k hk).1
/-- The answer is a new row of the values us. -/
def RetRow (w : World) (t : TypeId) (size n : Nat) (us : List Value) (e : Ending) (w' : World) : Prop := ∃ v, e = .returned v ∧ w'.ownsRow w.heap.size t size v n us ∧ Below w.heap.size w w'

theorem below_of_drew {B : Nat} {a b : World} (h : Below B a.drew b) : Below B a b := ⟨h.os, h.tape, h.output, h.size, h.block⟩
theorem lt_heap {w : World} {b : Nat} {o : Obj} (h : w.heap[b]? = some o) : b < w.heap.size := by
  rcases Nat.lt_or_ge b w.heap.size with h' | h'
  · exact h'
  · rw [Array.getElem?_eq_none h'] at h; cases h
end Go.Proofs.YtjajandjdclifaaGreatDoor
namespace Go.Proofs.YtjajandjdclifaaGreatDoor
open Go.Shelf Go.RowKit

def bldRen : Ren := ⟨fun x => if x = 166 then 47 else if x = 169 then 46 else if x = 240 then 89 else if x = 276 then 119 else 0, fun x => if x = 0 then 0 else if x = 3 then 3 else if x = 4 then 4 else if x = 5 then 5 else if x = 9 then 9 else if x = 20 then 20 else if x = 37 then 45 else if x = 70 then 116 else if x = 72 then 118 else if x = 75 then 130 else if x = 80 then 71 else if x = 127 then 175 else if x = 164 then 196 else 0, fun x => x⟩

theorem bld_Lays_n166 : Lays.n166 Tryz.prog bldRen where
  mixed := by kernel_rfl
  f166 := by kernel_rfl
  f240 := by kernel_rfl
  f276 := by kernel_rfl
  t0 := by kernel_rfl
  a0 := fun _ => by kernel_rfl
  z0 := fun _ => by kernel_rfl
  v0 := fun _ => by kernel_rfl
  t3 := by kernel_rfl
  a3 := fun _ => by kernel_rfl
  z3 := fun _ => by kernel_rfl
  v3 := fun _ => by kernel_rfl
  t4 := by kernel_rfl
  a4 := fun _ => by kernel_rfl
  z4 := fun _ => by kernel_rfl
  v4 := fun _ => by kernel_rfl
  t9 := by kernel_rfl
  a9 := fun _ => by kernel_rfl
  z9 := fun _ => by kernel_rfl
  v9 := fun _ => by kernel_rfl
  t20 := by kernel_rfl
  a20 := fun _ => by kernel_rfl
  z20 := fun _ => by kernel_rfl
  v20 := fun _ => by kernel_rfl
  t37 := by kernel_rfl
  a37 := fun _ => by kernel_rfl
  z37 := fun _ => by kernel_rfl
  v37 := fun _ => by kernel_rfl
  t70 := by kernel_rfl
  a70 := fun _ => by kernel_rfl
  z70 := fun _ => by kernel_rfl
  v70 := fun _ => by kernel_rfl
  t72 := by kernel_rfl
  a72 := fun _ => by kernel_rfl
  z72 := fun _ => by kernel_rfl
  v72 := fun _ => by kernel_rfl
  t75 := by kernel_rfl
  a75 := fun _ => by kernel_rfl
  z75 := fun _ => by kernel_rfl
  v75 := fun _ => by kernel_rfl
  t164 := by kernel_rfl
  a164 := fun _ => by kernel_rfl
  z164 := fun _ => by kernel_rfl
  v164 := fun _ => by kernel_rfl

theorem bld_Lays_n169 : Lays.n169 Tryz.prog bldRen where
  mixed := by kernel_rfl
  f169 := by kernel_rfl
  t0 := by kernel_rfl
  a0 := fun _ => by kernel_rfl
  z0 := fun _ => by kernel_rfl
  v0 := fun _ => by kernel_rfl
  t3 := by kernel_rfl
  a3 := fun _ => by kernel_rfl
  z3 := fun _ => by kernel_rfl
  v3 := fun _ => by kernel_rfl
  t9 := by kernel_rfl
  a9 := fun _ => by kernel_rfl
  z9 := fun _ => by kernel_rfl
  v9 := fun _ => by kernel_rfl
  t37 := by kernel_rfl
  a37 := fun _ => by kernel_rfl
  z37 := fun _ => by kernel_rfl
  v37 := fun _ => by kernel_rfl
  t70 := by kernel_rfl
  a70 := fun _ => by kernel_rfl
  z70 := fun _ => by kernel_rfl
  v70 := fun _ => by kernel_rfl
  t72 := by kernel_rfl
  a72 := fun _ => by kernel_rfl
  z72 := fun _ => by kernel_rfl
  v72 := fun _ => by kernel_rfl
  t127 := by kernel_rfl
  a127 := fun _ => by kernel_rfl
  z127 := fun _ => by kernel_rfl
  v127 := fun _ => by kernel_rfl

theorem bld_Builder_Extra : Builder.Extra Tryz.prog bldRen where
  sizeBuilder := by kernel_rfl
  liesBuilder := by kernel_rfl
  t5 := by kernel_rfl
  a5 := fun _ => by kernel_rfl
  z5 := fun _ => by kernel_rfl
  v5 := fun _ => by kernel_rfl
  infoByte := by kernel_rfl
  cellsByte := by kernel_rfl
  sizeByte := by kernel_rfl
  neB5 := by decide

/-- The builder in block b, all that it writes in blocks from B on, holds the bytes l. -/
def Bld (B b : Nat) (l : List UInt8) (w : World) : Prop := Lib.IsBuilder 118 5 B b (Lib.byteCells l) w

theorem byteCells_app (l : List UInt8) (s : ByteArray) : Lib.byteCells l ++ Lib.strCells s = Lib.byteCells (l ++ s.data.toList) := by simp [Lib.byteCells, Lib.strCells]

theorem writes_any (B b : Nat) (l : List UInt8) (s : ByteArray) (w : World) (h : Bld B b l w) (hlen : l.length + s.size ≤ 100000000) (hB : B ≤ w.heap.size) :
    Calls Tryz.prog 47 #[.pointer (some ⟨b, 0, none⟩), .string s] w fun e w' => e = .returned (.tuple #[.int .i64 s.size, .nilIface]) ∧ Bld B b (l ++ s.data.toList) w' ∧ Below B w w' := by
  refine (Any.Builder_WriteString bld_Lays_n166 bld_Builder_Extra B b (Lib.byteCells l) s w h (by rw [Lib.byteCells_length]; omega) hB).mono ?_
  rintro e w' ⟨rfl, h1, h2⟩
  refine ⟨rfl, .inr ?_, h2⟩
  rw [← byteCells_app]
  exact h1

theorem str_any (B b : Nat) (l : List UInt8) (w : World) (h : Bld B b l w) (hB : B ≤ w.heap.size) :
    Calls Tryz.prog 46 #[.pointer (some ⟨b, 0, none⟩)] w fun e w' => e = .returned (.string ⟨l.toArray⟩) ∧ Below B w w' :=
  Any.Builder_String_any bld_Lays_n169 bld_Builder_Extra B b l w h hB

theorem Bld.below {w w' : World} {B b : Nat} {l : List UInt8} (h : Bld B b l w) (hb : Below w.heap.size w w') : Bld B b l w' := by
  have key : ∀ p, Lib.BuilderAt 118 5 B b p (Lib.byteCells l) w → Lib.BuilderAt 118 5 B b p (Lib.byteCells l) w' := by
    rintro p ⟨h1, v, h2, h3, h4⟩
    have hl : b < w.heap.size := lt_heap h2
    refine ⟨h1, v, (hb.block b hl).trans h2, ?_, h4⟩
    exact h3.kept (row := none) ⟨hb.os, hb.tape, hb.output, hb.size, fun i hi _ => hb.block i hi⟩ (by
      rcases h3.2 with ⟨rfl, _⟩ | ⟨g, c, u, rfl, _⟩
      · exact .inl rfl
      · exact .inr (by simp [Value.ownBlock]))
  rcases h with h | h
  · exact .inl (key _ h)
  · exact .inr (key _ h)

theorem Bld.new (w : World) : Bld w.heap.size w.heap.size [] (w.alloc (.cells #[.pointer none, .slice none 0 0] 118)) :=
  .inl ⟨Nat.le_refl _, _, heap_alloc_new w _, own_nil _ _ _ _, by simp [Value.ownBlock]⟩

end Go.Proofs.YtjajandjdclifaaGreatDoor
