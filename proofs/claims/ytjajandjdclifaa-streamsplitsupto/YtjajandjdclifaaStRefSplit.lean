/- The document's Split. -/
import Derived.Test.YtjajandjdclifaaStSplit
namespace Go.Proofs.Ytjajandjdclifaa
open Go.RowKit

def strLen : Value → Nat
  | .string b => b.size
  | _ => 0
/-- How the document's loop stands. -/
def RspI (w : World) (s : ByteArray) (most : Int) (l : List ByteArray) (a : Nat) (out : Value) (wr : World) : Prop :=
  ST.Thr s most (fun _ => 0) l a ∧ wr.ownsRow w.heap.size 9 1 out l.length (l.map .string) ∧ Below w.heap.size w wr

set_option maxRecDepth 100000 in
set_option maxHeartbeats 4000000 in
theorem rsplit_any (s : ByteArray) (most : Int) (hs : s.size ≤ 1048576) (w : World) :
    Calls Try.prog 5 #[.string s, .int .i64 most] w (SplP w .i64 s (ST.thr s most (fun _ => 0) (s.size + 1) 0)) := by
  obtain ⟨i0, hi0, hz0, hz1, hz2⟩ := info_parts strInfo
  have Hi := Lib.hid hi0; have Hz0 := Lib.hid hz0; have Hz1 := Lib.hid hz1; have Hz2 := Lib.hid hz2
  have HT := Lib.hid (ST.Thr.start s most (fun _ => 0))
  have e0 : s.extract 0 s.size = s := by simp
  have HE := Lib.hid e0
  obtain ⟨R, hR⟩ : ∃ R, R = ST.thr s most (fun _ => 0) (s.size + 1) 0 := ⟨_, rfl⟩
  rw [← hR]
  have HR := Lib.hid hR
  clear hi0 hz0 hz1 hz2 hR e0
  go_enter Try.func5, Try.ntmps5
  go_wp2
  go_loopw [0, 7] (fun sv out wr => ∃ (a : Nat) (l : List ByteArray), sv = .string (s.extract a s.size) ∧ a ≤ s.size ∧ Hid (RspI w s most l a out wr)) (fun sv _ _ => strLen sv)
  case atStart => exact ⟨0, [], by rw [HE.out], by omega, Lib.hid ⟨HT.out, own_nil _ _ _ _, Below.refl _ _⟩⟩
  case round =>
    obtain ⟨a, l, rfl, ha, hrl⟩ := hrel
    obtain ⟨ht, ho, hb⟩ := hrl.out
    obtain ⟨Ao, co, rfl⟩ := own_form ho
    have hsz : (s.extract a s.size).size = s.size - a := by rw [ByteArray.size_extract]; omega
    have h2 := ht.size.2
    obtain ⟨T, hT⟩ : ∃ T, T = s.extract a s.size := ⟨_, rfl⟩
    have HTT := Lib.hid hT
    have HStop := Lib.hid (fun h => ht.stop h)
    have HStep := Lib.hid (fun k h1 h2 h3 => ht.step (k := k) h1 h2 h3 rfl)
    rw [← hT] at hsz HStop HStep ⊢
    have HO := Lib.hid ho
    have HB := Lib.hid hb
    have hbs := hb.size
    have HSZ : Hid (T.size = s.size - a) := Lib.hid hsz
    have hTs : T.size ≤ 1048576 := by omega
    clear ht ho hb hrl hT hsz
    have CG := Lib.hid (refget_any T 1 (by unfold maxLen; omega))
    by_cases h0 : T.size = 0
    · have hf : ST.first T most = (0, 242) := by unfold ST.first; rw [if_pos h0]
      have HX : Hid (R = (l, a, 0)) := Lib.hid (by rw [HR.out, HStop.out (by rw [hf]; decide), hf]; rfl)
      have hE := Lib.hid (empty_list h0)
      have hd : decide ((0 : Int) < (T.size : Int)) = false := by rw [decide_eq_false_iff_not]; omega
      clear HStop HStep CG hf
      go_wp2
      go_ret3
      rw [HX.out]
      exact ⟨_, by rw [← HTT.out, hE.out]; rfl, HO.out, HB.out⟩
    have hd : (0 : Int) < (T.size : Int) := by omega
    by_cases h1 : (VP.get T 1).2.2 = 0
    · obtain ⟨n, b, hg, hn, hb1, hb2⟩ := ST.get1 T h0 h1
      have hf : ST.first T most = if most < (b : Int) + n then (0, 149) else if (T.size : Int) < (b : Int) + n then (0, 242) else ((b : Int) + n, 0) := by unfold ST.first; rw [if_neg h0, if_neg (by simp [h1]), hg]
      rw [hg] at CG
      simp only at CG
      clear hg h1
      by_cases h2 : most < (b : Int) + n
      · rw [if_pos h2] at hf
        have HX : Hid (R = (l, a, 149)) := Lib.hid (by rw [HR.out, HStop.out (by rw [hf]; decide), hf]; rfl)
        clear HStop HStep hf
        go_wp2_with fail
        refine (CG.out _).mono ?_
        rintro e w' ⟨rfl, rfl⟩
        clear CG
        go_wp2
        go_ret3
        rw [HX.out]
        exact ⟨_, by rw [← HTT.out]; rfl, HO.out, HB.out⟩
      rw [if_neg h2] at hf
      by_cases h3 : (T.size : Int) < (b : Int) + n
      · rw [if_pos h3] at hf
        have HX : Hid (R = (l, a, 0)) := Lib.hid (by rw [HR.out, HStop.out (by rw [hf]; decide), hf]; rfl)
        clear HStop HStep hf
        go_wp2_with fail
        refine (CG.out _).mono ?_
        rintro e w' ⟨rfl, rfl⟩
        clear CG
        go_wp2
        go_ret3
        rw [HX.out]
        exact ⟨_, by rw [← HTT.out]; rfl, HO.out, HB.out⟩
      rw [if_neg h3] at hf
      have hf' : ST.first T most = (((b + n : Nat) : Int), 0) := by rw [hf]; simp
      have ht2 := HStep.out (b + n) hf' (by omega) (by have := HSZ.out; omega)
      have HT2 := Lib.hid ht2
      have hex : T.extract 0 (b + n) = s.extract a (a + (b + n)) := by
        rw [HTT.out, ByteArray.extract_extract]; congr 1; have := HSZ.out; omega
      have hex2 : T.extract (b + n) T.size = s.extract (a + (b + n)) s.size := by
        rw [HSZ.out, HTT.out, ByteArray.extract_extract]; congr 1 <;> omega
      obtain ⟨U, hU⟩ : ∃ U, U = T.extract 0 (b + n) := ⟨_, rfl⟩
      have hs1 : ∀ W, (Instr.slice 9 (.string T) none (some (.int .i64 ((b : Int) + n))) none).run Try.prog W = .ok (.string U) W := fun W => by
        have := st_upto T (b + n) (by omega) W
        rw [hU]; simpa using this
      obtain ⟨V, hV⟩ : ∃ V, V = T.extract (b + n) T.size := ⟨_, rfl⟩
      have hs2 : ∀ W, (Instr.slice 9 (.string T) (some (.int .i64 ((b : Int) + n))) none none).run Try.prog W = .ok (.string V) W := fun W => by
        have := st_from T (b + n) (by omega) W
        rw [hV]; simpa using this
      obtain ⟨v2, w2, hr2, hown2, _, hb2'⟩ := app1 Try.underlying22 Hi.out Hz0.out Hz1.out Hz2.out rfl (by omega) (by omega) w.heap.size (.slice Ao l.length co) l.length _ wr HO.out (by omega) #[.string U] rfl (by simp [Value.oneCell']) (by omega)
      have HN : Hid (RspI w s most (l ++ [s.extract a (a + (b + n))]) (a + (b + n)) v2 w2) := Lib.hid ⟨HT2.out, by rw [← hex, ← hU]; simpa using hown2, HB.out.trans hb2'⟩
      have HV := Lib.hid (hV.trans hex2)
      have hV2 : V.size < T.size := by rw [hV, ByteArray.size_extract]; omega
      clear HStop HStep hf hf' ht2 HT2 hex hex2 hU hV hown2 hb2' HO HB
      go_wp2_with fail
      refine (CG.out _).mono ?_
      rintro e w' ⟨rfl, rfl⟩
      clear CG
      go_wp2_with (at_builtin; refine wpList_run (by rfl) (.tmp 44) (.tmp 50) _ _ (by rfl) (by rfl) (by rfl) hr2 ?_; clear hr2)
      go_roundw
      case rel => exact ⟨a + (b + n), _, by rw [HV.out], by have := HSZ.out; omega, HN⟩
      case measure => simp only [strLen]; omega
    · have hf : ST.first T most = (0, (VP.get T 1).2.2) := by unfold ST.first; rw [if_neg h0, if_pos h1]
      generalize VP.get T 1 = Y at *
      obtain ⟨n, b, c⟩ := Y
      simp only at CG h1 hf
      have hne : (c != 0) = true := by rw [bne_iff_ne]; exact h1
      by_cases h242 : c = 242
      · subst h242
        have HX : Hid (R = (l, a, 0)) := Lib.hid (by rw [HR.out, HStop.out (by rw [hf]; decide), hf]; rfl)
        clear HStop HStep hf
        go_wp2_with fail
        refine (CG.out _).mono ?_
        rintro e w' ⟨rfl, rfl⟩
        clear CG
        go_wp2
        go_ret3
        rw [HX.out]
        exact ⟨_, by rw [← HTT.out]; rfl, HO.out, HB.out⟩
      · have h2 : (c == 242) = false := by rw [beq_eq_false_iff_ne]; exact h242
        have HX : Hid (R = (l, a, c)) := Lib.hid (by rw [HR.out, HStop.out (by rw [hf]; exact h1), hf]; simp only; rw [if_neg h242])
        clear HStop HStep hf h242 h1
        go_wp2_with fail
        refine (CG.out _).mono ?_
        rintro e w' ⟨rfl, rfl⟩
        clear CG
        go_wp2
        go_ret3
        rw [HX.out]
        exact ⟨_, by rw [← HTT.out]; rfl, HO.out, HB.out⟩
end Go.Proofs.Ytjajandjdclifaa
