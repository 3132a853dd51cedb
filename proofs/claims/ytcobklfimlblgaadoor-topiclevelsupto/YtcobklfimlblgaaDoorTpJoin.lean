/- Pieces put together: the library's Join, the program's, and the document's. -/
import Derived.Test.YtcobklfimlblgaaDoorTpRow
import Derived.Test.YtcobklfimlblgaaDoorVarBytes
import Derived.Test.YtcobklfimlblgaaDoorVarClone
import Derived.Shelf.Strings.OnBuilder
import Derived.Deep.RegionHeld3
import Derived.KernelRfl
namespace Go.Proofs.YtcobklfimlblgaaDoor
open Go.Shelf Go.RowKit

def joiRen : Ren := ⟨fun x => if x = 156 then 11 else if x = 165 then 14 else if x = 166 then 15 else if x = 169 then 16 else if x = 240 then 20 else if x = 241 then 21 else if x = 276 then 26 else if x = 277 then 27 else 0, fun x => if x = 0 then 0 else if x = 3 then 3 else if x = 4 then 4 else if x = 5 then 5 else if x = 9 then 9 else if x = 20 then 20 else if x = 31 then 22 else if x = 37 then 32 else if x = 70 then 31 else if x = 72 then 34 else if x = 75 then 37 else if x = 76 then 38 else if x = 80 then 40 else if x = 127 then 43 else if x = 164 then 48 else 0, fun x => x⟩

theorem joi_Lays_n156 : Lays.n156 Tryd.prog joiRen where
  mixed := by kernel_rfl
  f156 := by kernel_rfl
  f165 := by kernel_rfl
  f166 := by kernel_rfl
  f169 := by kernel_rfl
  f240 := by kernel_rfl
  f241 := by kernel_rfl
  f276 := by kernel_rfl
  f277 := by kernel_rfl
  t0 := by kernel_rfl
  a0 := fun _ => by kernel_rfl
  z0 := fun _ => by kernel_rfl
  v0 := fun _ => by kernel_rfl
  t3 := by kernel_rfl
  a3 := fun _ => by kernel_rfl
  z3 := fun _ => by kernel_rfl
  v3 := fun _ => by kernel_rfl
  t4 := by kernel_rfl
  a4 := fun _ => by kernel_rfl
  z4 := fun _ => by kernel_rfl
  v4 := fun _ => by kernel_rfl
  t9 := by kernel_rfl
  a9 := fun _ => by kernel_rfl
  z9 := fun _ => by kernel_rfl
  v9 := fun _ => by kernel_rfl
  t20 := by kernel_rfl
  a20 := fun _ => by kernel_rfl
  z20 := fun _ => by kernel_rfl
  v20 := fun _ => by kernel_rfl
  t31 := by kernel_rfl
  a31 := fun _ => by kernel_rfl
  z31 := fun _ => by kernel_rfl
  v31 := fun _ => by kernel_rfl
  t37 := by kernel_rfl
  a37 := fun _ => by kernel_rfl
  z37 := fun _ => by kernel_rfl
  v37 := fun _ => by kernel_rfl
  t70 := by kernel_rfl
  a70 := fun _ => by kernel_rfl
  z70 := fun _ => by kernel_rfl
  v70 := fun _ => by kernel_rfl
  t72 := by kernel_rfl
  a72 := fun _ => by kernel_rfl
  z72 := fun _ => by kernel_rfl
  v72 := fun _ => by kernel_rfl
  t75 := by kernel_rfl
  a75 := fun _ => by kernel_rfl
  z75 := fun _ => by kernel_rfl
  v75 := fun _ => by kernel_rfl
  t76 := by kernel_rfl
  a76 := fun _ => by kernel_rfl
  z76 := fun _ => by kernel_rfl
  v76 := fun _ => by kernel_rfl
  t127 := by kernel_rfl
  a127 := fun _ => by kernel_rfl
  z127 := fun _ => by kernel_rfl
  v127 := fun _ => by kernel_rfl
  t164 := by kernel_rfl
  a164 := fun _ => by kernel_rfl
  z164 := fun _ => by kernel_rfl
  v164 := fun _ => by kernel_rfl

theorem joi_Builder_Extra : Builder.Extra Tryd.prog joiRen where
  sizeBuilder := by kernel_rfl
  liesBuilder := by kernel_rfl
  t5 := by kernel_rfl
  a5 := fun _ => by kernel_rfl
  z5 := fun _ => by kernel_rfl
  v5 := fun _ => by kernel_rfl
  infoByte := by kernel_rfl
  cellsByte := by kernel_rfl
  sizeByte := by kernel_rfl
  neB5 := by decide

namespace TP
/-- The row's texts with slashes between. -/
def jnS (l : List ByteArray) : ByteArray := bs (jn (l.map (·.data.toList)))
theorem jnS_nil : jnS [] = ⟨#[]⟩ := rfl
theorem jnS_one (x : ByteArray) : jnS [x] = x := by unfold jnS; rw [List.map_cons, List.map_nil, jn_one, bs_of]
theorem jnS_snoc (l : List ByteArray) (x : ByteArray) (h : l ≠ []) : jnS (l ++ [x]) = jnS l ++ ⟨#[47]⟩ ++ x := by
  unfold jnS
  rw [List.map_append, List.map_cons, List.map_nil, jn_snoc _ _ (by simpa using h)]
  apply ByteArray.ext
  apply Array.toList_inj.1
  simp [bs]
theorem jnS_size (l : List ByteArray) : (jnS l).size ≤ bytesOf l + l.length := by
  unfold jnS
  rw [bs_size]
  cases l with
  | nil => exact Nat.zero_le _
  | cons x r =>
    unfold jn
    rw [List.map_cons, Go.Lib.join_length, ← List.map_cons (f := fun y : ByteArray => y.data.toList)]
    have e : Go.Lib.lens ((x :: r).map (·.data.toList)) = bytesOf (x :: r) := by
      unfold Go.Lib.lens bytesOf
      rw [List.map_map]
      congr 1
    rw [e]
    simp only [List.length_cons, List.length_nil, List.length_map]
    omega
end TP

theorem sjoin_any (A : Option Addr) (cap : Nat) (l : List ByteArray) (w : World) (h : Texts w A l) (hc : l.length ≤ cap) (hz : bytesOf l + l.length ≤ 100000000) :
    Calls Tryd.prog 11 #[.slice A l.length cap, .string ⟨#[47]⟩] w fun e w' => e = .returned (.string (TP.jnS l)) ∧ Below w.heap.size w w' := by
  have hs := TP.jnS_size l
  cases l with
  | nil => exact (Any.strings_Join_none joi_Lays_n156 joi_Builder_Extra A cap ⟨#[47]⟩ w).mono fun e w' ⟨he, hw⟩ => ⟨he, hw ▸ Below.refl _ _⟩
  | cons x r =>
    obtain ⟨g, o, rfl, hg, h0⟩ := h 0 x rfl
    refine (Any.strings_Join joi_Lays_n156 joi_Builder_Extra g o cap (x :: r) ⟨#[47]⟩ w (fun j y hy => ?_) hg (by simp only [List.length_cons] at hz ⊢; omega) hc ?_).mono fun e w' ⟨he, hw⟩ => ⟨he, hw⟩
    · obtain ⟨g', o', e, _, h1⟩ := h j y hy
      injection e with e; injection e with e1 e2; subst e1; subst e2
      exact h1
    · unfold TP.jnS at hs
      rw [TP.bs_size] at hs
      exact Nat.le_trans hs (by omega)

set_option maxHeartbeats 1000000 in
theorem join_any (A : Option Addr) (cap : Nat) (l : List ByteArray) (w : World) (h : Texts w A l) (hl : l.length ≤ 1000000) (hc : l.length ≤ cap) (hz : bytesOf l + l.length ≤ 100000000) :
    Calls Tryd.prog 7 #[.slice A l.length cap] w fun e w' => e = .returned (.string (TP.jnS l)) ∧ Below w.heap.size w w' := by
  by_cases h1 : l.length = 1
  · obtain ⟨x, rfl⟩ := List.length_eq_one_iff.1 h1
    obtain ⟨g, o, rfl, hg, h0⟩ := h 0 x rfl
    rw [Nat.add_zero] at h0
    have hx : x.size ≤ 281474976710656 := by simp [bytesOf] at hz; omega
    have C := Lib.hid (fun w => clone_any x w hx)
    have HE := Lib.hid (TP.jnS_one x)
    clear h h1 hz hc hx hl
    rw [show ([x] : List ByteArray).length = 1 from rfl, HE.out]
    go_enter Tryd.func7, Tryd.ntmps7
    go_wp2_with fail
    refine (C.out _).mono ?_
    rintro e w1 ⟨rfl, b1⟩
    go_wp2
    go_ret
    exact ⟨rfl, b1⟩
  · have hd : ((l.length : Int) == 1) = false := by rw [beq_eq_false_iff_ne]; omega
    have C := Lib.hid (sjoin_any A cap l w h hc hz)
    clear h h1 hz
    generalize TP.jnS l = R at *
    go_enter Tryd.func7, Tryd.ntmps7
    go_wp2_with fail
    refine C.out.mono ?_
    rintro e w1 ⟨rfl, b1⟩
    go_wp2
    go_ret
    exact ⟨rfl, b1⟩

/-- How the document's loop stands. -/
def RjI (l : List ByteArray) (k : Nat) (S : ByteArray) : Prop := S = TP.jnS (l.take k)

set_option maxRecDepth 100000 in
set_option maxHeartbeats 4000000 in
theorem rjoin_any (A : Option Addr) (cap : Nat) (l : List ByteArray) (w : World) (h : Texts w A l) (hl : l.length ≤ 1000000) (hz : bytesOf l + l.length ≤ 100000000) :
    Calls Tryd.prog 8 #[.slice A l.length cap] w fun e w' => e = .returned (.string (TP.jnS l)) ∧ w = w' := by
  have H := Lib.hid h
  clear h
  go_enter Tryd.func8, Tryd.ntmps8
  go_wp2
  go_loop [3, 4] (fun sv i => ∃ (k : Nat) (S : ByteArray), i = .int .i64 k ∧ k ≤ l.length ∧ sv = .string S ∧ Hid (RjI l k S)) (fun _ i => l.length - (intOf i).toNat)
  case atStart => exact ⟨0, ⟨#[]⟩, rfl, by omega, rfl, Lib.hid (by unfold RjI; simp [TP.jnS_nil])⟩
  case round =>
    obtain ⟨k, S, rfl, hk, rfl, hS⟩ := hrel
    have hSz : S.size ≤ 100000000 := by
      rw [show S = _ from hS.out]
      have h1 := TP.jnS_size (l.take k)
      have h2 := bytes_le l k
      have h3 : (l.take k).length ≤ l.length := by rw [List.length_take]; omega
      omega
    by_cases hlt : k < l.length
    · obtain ⟨x, hx⟩ : ∃ x, l[k]? = some x := ⟨l[k], List.getElem?_eq_getElem hlt⟩
      obtain ⟨g, o, rfl, hg, h0⟩ := H.out k x hx
      have hxs : x.size ≤ 100000000 := by
        have h1 := bytes_take hx
        have h2 := bytes_le l (k + 1)
        omega
      have htk : l.take (k + 1) = l.take k ++ [x] := by rw [List.take_add_one, hx]; rfl
      by_cases hk0 : k = 0
      · have hS0 : S = ⟨#[]⟩ := by rw [show S = _ from hS.out, hk0]; rfl
        subst hS0
        have HN : Hid (RjI l (k + 1) (⟨#[]⟩ ++ x)) := Lib.hid (by unfold RjI; rw [htk, hk0, List.take_zero, List.nil_append, TP.jnS_one]; apply ByteArray.ext; simp)
        have hneg : ¬ 0 < k := by omega
        clear htk hx hS hk0
        go_wp2
        go_round
        case rel => exact ⟨k + 1, _, by go_num, by omega, rfl, HN⟩
        case measure => simp [intOf]; omega
      · have HN : Hid (RjI l (k + 1) (S ++ ⟨#[47]⟩ ++ x)) := Lib.hid (by unfold RjI; rw [htk, TP.jnS_snoc _ _ (by intro e; have := congrArg List.length e; rw [List.length_take, List.length_nil] at this; omega), ← show S = _ from hS.out])
        have hpos : 0 < k := by omega
        clear htk hx hS hk0
        go_wp2
        go_round
        case rel => exact ⟨k + 1, _, by go_num, by omega, rfl, HN⟩
        case measure => simp [intOf]; omega
    · have hkl : k = l.length := by omega
      have HE : Hid (S = TP.jnS l) := Lib.hid (by rw [show S = _ from hS.out, hkl, List.take_length])
      clear hS hkl
      go_wp2
      go_ret
      exact ⟨by show Ending.returned (Value.string S) = _; rw [HE.out], rfl⟩
end Go.Proofs.YtcobklfimlblgaaDoor
