/- The document's Levels. -/
import Derived.Test.YtcobklfimlblgaaDoorTpRow
import Derived.Test.YtcobklfimlblgaaDoorVarBytes
import Derived.Deep.RegionHeld3
import Derived.Deep.RegionLaw
import Derived.Lib.Hide
import Derived.Laws.DeepStrings4
namespace Go.Proofs.YtcobklfimlblgaaDoor
open Go.RowKit

namespace TP
/-- How the document's loop stands: the pieces so far and the bytes of the next one. -/
def LvI (s : ByteArray) (D : List ByteArray) (X : ByteArray) (k : Nat) : Prop :=
  D.map (·.data.toList) ++ lvA X.data.toList (s.data.toList.drop k) = lvL s.data.toList
theorem LvI.start (s : ByteArray) : LvI s [] ⟨#[]⟩ 0 := by unfold LvI; simp; rfl
theorem drop_at (s : ByteArray) (k : Nat) (h : k < s.size) : s.data.toList.drop k = s[k] :: s.data.toList.drop (k + 1) := by
  rw [List.drop_eq_getElem_cons (by simpa using h)]; rfl
theorem LvI.slash {s : ByteArray} {D : List ByteArray} {X : ByteArray} {k : Nat} (H : LvI s D X k) (h : k < s.size) (hc : s[k] = 47) : LvI s (D ++ [X]) ⟨#[]⟩ (k + 1) := by
  unfold LvI at H ⊢
  rw [drop_at s k h, hc, lvA_slash] at H
  rw [← H]
  simp
  rfl
theorem app_data (X Y : ByteArray) : (X ++ Y).data.toList = X.data.toList ++ Y.data.toList := by simp
theorem ext_data (s : ByteArray) (k : Nat) (h : k < s.size) : (s.extract k (k + 1)).data.toList = [s[k]] := by
  rw [Go.Lib.extract_data]
  rw [Nat.add_sub_cancel_left, drop_at s k h]
  rfl
theorem LvI.other {s : ByteArray} {D : List ByteArray} {X : ByteArray} {k : Nat} (H : LvI s D X k) (h : k < s.size) (hc : s[k] ≠ 47) : LvI s D (X ++ s.extract k (k + 1)) (k + 1) := by
  unfold LvI at H ⊢
  rw [drop_at s k h, lvA_other _ _ _ hc] at H
  rw [← H, app_data, ext_data s k h]
theorem LvI.last {s : ByteArray} {D : List ByteArray} {X : ByteArray} {k : Nat} (H : LvI s D X k) (h : ¬ k < s.size) : D ++ [X] = lv s := by
  unfold LvI at H
  rw [List.drop_eq_nil_of_le (by simp; omega), lvA_nil] at H
  unfold lv
  rw [← H, ← map_bs_data (D ++ [X])]
  simp
end TP

/-- How the document's loop stands in memory. -/
def RlvI (w : World) (s : ByteArray) (D : List ByteArray) (X : ByteArray) (k : Nat) (out : Value) (wr : World) : Prop :=
  TP.LvI s D X k ∧ D.length ≤ k ∧ X.size ≤ k ∧ wr.ownsRow w.heap.size 9 1 out D.length (D.map .string) ∧ Below w.heap.size w wr

set_option maxRecDepth 100000 in
set_option maxHeartbeats 4000000 in
theorem rlevels_any (s : ByteArray) (hs : s.size ≤ 5000) (w : World) :
    Calls Tryd.prog 6 #[.string s] w (RetRow w 9 1 (TP.lv s).length ((TP.lv s).map .string)) := by
  obtain ⟨i0, hi0, hz0, hz1, hz2⟩ := info_parts strInfo
  have Hi := Lib.hid hi0; have Hz0 := Lib.hid hz0; have Hz1 := Lib.hid hz1; have Hz2 := Lib.hid hz2
  obtain ⟨R, hR⟩ : ∃ R, R = TP.lv s := ⟨_, rfl⟩
  rw [← hR]
  have HR := Lib.hid hR
  clear hi0 hz0 hz1 hz2 hR
  go_enter Tryd.func6, Tryd.ntmps6
  go_wp2
  go_loopw [3, 4, 5] (fun out xv i wr => ∃ (k : Nat) (D : List ByteArray) (X : ByteArray), i = .int .i64 k ∧ k ≤ s.size ∧ xv = .string X ∧ Hid (RlvI w s D X k out wr)) (fun _ _ i _ => s.size - (intOf i).toNat)
  case atStart => exact ⟨0, [], ⟨#[]⟩, rfl, by omega, rfl, Lib.hid ⟨TP.LvI.start s, Nat.le_refl 0, Nat.le_refl 0, own_nil _ _ _ _, Below.refl _ _⟩⟩
  case round =>
    obtain ⟨k, D, X, rfl, hk, rfl, hrl⟩ := hrel
    obtain ⟨hI, hD, hX, ho, hb⟩ := hrl.out
    obtain ⟨Ao, co, rfl⟩ := own_form ho
    have HO := Lib.hid ho
    have HB := Lib.hid hb
    have hbs := hb.size
    by_cases hlt : k < s.size
    · by_cases hc : s[k] = 47
      · have e1 : ((s[k].toNat : Int) == 47) = true := by rw [hc]; rfl
        obtain ⟨v2, w2, hr2, hown2, _, hb2⟩ := app1 Tryd.underlying22 Hi.out Hz0.out Hz1.out Hz2.out rfl (by omega) (by omega) w.heap.size (.slice Ao D.length co) D.length _ wr HO.out (by omega) #[.string X] rfl (by simp [Value.oneCell']) (by omega)
        have HN : Hid (RlvI w s (D ++ [X]) ⟨#[]⟩ (k + 1) v2 w2) := Lib.hid ⟨hI.slash hlt hc, by simp; omega, Nat.zero_le _, by simpa using hown2, HB.out.trans hb2⟩
        clear hI ho hb hrl hown2 hb2 HO HB hc
        go_wp2_with (at_builtin; refine wpList_run (by rfl) (.tmp 16) (.tmp 18) _ _ (by rfl) (by rfl) (by rfl) hr2 ?_; clear hr2)
        go_roundw
        case rel => exact ⟨k + 1, _, _, by go_num, by omega, rfl, HN⟩
        case measure => simp [intOf]; omega
      · have e1 : ((s[k].toNat : Int) == 47) = false := by
          rw [beq_eq_false_iff_ne]
          intro h
          apply hc
          have h2 : s[k].toNat = 47 := by omega
          exact UInt8.toNat_inj.1 h2
        have hs1 : ∀ W, (Instr.slice 9 (.string s) (some (.int .i64 k)) (some (.int .i64 ((k : Int) + 1))) none).run Tryd.prog W = .ok (.string (s.extract k (k + 1))) W := fun W => by
          rw [run_slice_string_if W 9 s .i64 .i64 _ _ Tryd.underlying9, if_pos (by omega), if_pos (by omega)]
          have e2 : ((k : Int) + 1).toNat = k + 1 := by omega
          rw [e2]; rfl
        have HN : Hid (RlvI w s D (X ++ s.extract k (k + 1)) (k + 1) (.slice Ao D.length co) wr) := Lib.hid ⟨hI.other hlt hc, by omega, by rw [ByteArray.size_append, ByteArray.size_extract]; omega, ho, hb⟩
        have hXs : X.size ≤ 5000 := by omega
        have hEs : (s.extract k (k + 1)).size ≤ 1 := by rw [ByteArray.size_extract]; omega
        generalize s.extract k (k + 1) = Y at *
        clear hI ho hb hrl HO HB hc
        go_wp2
        go_roundw
        case rel => exact ⟨k + 1, _, _, by go_num, by omega, rfl, HN⟩
        case measure => simp [intOf]; omega
    · have hL := hI.last hlt
      obtain ⟨v2, w2, hr2, hown2, _, hb2⟩ := app1 Tryd.underlying22 Hi.out Hz0.out Hz1.out Hz2.out rfl (by omega) (by omega) w.heap.size (.slice Ao D.length co) D.length _ wr HO.out (by omega) #[.string X] rfl (by simp [Value.oneCell']) (by omega)
      have HN : Hid (w2.ownsRow w.heap.size 9 1 v2 R.length (R.map .string)) := Lib.hid (by rw [HR.out, ← hL]; simpa using hown2)
      have HN2 := Lib.hid (HB.out.trans hb2)
      clear hI ho hb hrl hown2 hb2 HO HB hL
      go_wp2_with (at_builtin; refine wpList_run (by rfl) (.tmp 27) (.tmp 29) _ _ (by rfl) (by rfl) (by rfl) hr2 ?_; clear hr2)
      go_ret
      exact ⟨_, rfl, HN.out, HN2.out⟩
end Go.Proofs.YtcobklfimlblgaaDoor
