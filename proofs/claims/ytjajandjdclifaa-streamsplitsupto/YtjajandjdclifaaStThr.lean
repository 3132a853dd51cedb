/- stream.through, with whatever function it hands the packets to. -/
import Derived.Test.YtjajandjdclifaaStFirst
import Derived.WalkMore
namespace Go.Proofs.Ytjajandjdclifaa
open Go.RowKit

set_option maxRecDepth 100000 in
set_option maxHeartbeats 2000000 in
/-- Inv l W: what holds behind the packets l. -/
theorem through_any (K : FuncId) (cap : Array Value) (f : ByteArray → Int) (Inv : List ByteArray → World → Prop) (s : ByteArray) (most : Int) (hs : s.size ≤ 140737488351232)
    (hK : ∀ (args : Array Value) (W : World), (callFunc K args).run Try.prog W = .ok (.enter K args) W)
    (hC : ∀ (l : List ByteArray) (a k : Nat) (W : World), Inv l W → 2 * l.length ≤ a → 2 ≤ k → a + k ≤ s.size → Calls Try.prog K (#[.string (s.extract a (a + k))] ++ cap) W fun e W' => e = .returned (.int .u8 (f (s.extract a (a + k)))) ∧ (f (s.extract a (a + k)) = 0 → Inv (l ++ [s.extract a (a + k)]) W') ∧ (f (s.extract a (a + k)) ≠ 0 → Inv l W'))
    (w : World) (h0 : Inv [] w) :
    Calls Try.prog 6 #[.string s, .int .i64 most, .func (.func K) #[] cap] w fun e w' =>
      e = .returned (.tuple #[.int .i64 (ST.thr s most f (s.size + 1) 0).2.1, .int .u8 (ST.thr s most f (s.size + 1) 0).2.2]) ∧ Inv (ST.thr s most f (s.size + 1) 0).1 w' := by
  have HC := Lib.hid hC
  have HI := Lib.hid h0
  have HT := Lib.hid (ST.Thr.start s most f)
  obtain ⟨R, hR⟩ : ∃ R, R = ST.thr s most f (s.size + 1) 0 := ⟨_, rfl⟩
  rw [← hR]
  have HR := Lib.hid hR
  clear hC h0 hR
  go_enter Try.func6, Try.ntmps6
  go_wp2
  go_step3
  go_wp2
  go_step3
  go_wp2
  go_loopw [8] (fun i wr => ∃ (a : Nat) (l : List ByteArray), i = .int .i64 a ∧ a ≤ s.size ∧ Hid (ST.Thr s most f l a ∧ Inv l wr)) (fun i _ => s.size - (intOf i).toNat)
  case atStart => exact ⟨0, [], rfl, by omega, Lib.hid ⟨HT.out, HI.out⟩⟩
  case round =>
    obtain ⟨a, l, rfl, ha, hrl⟩ := hrel
    obtain ⟨ht, hi⟩ := hrl.out
    have hsl := st_from s a ha
    have CF := Lib.hid (first_any (s.extract a s.size) most (by rw [ByteArray.size_extract]; omega))
    have h2 := ht.size.2
    by_cases hf : (ST.first (s.extract a s.size) most).2 = 0
    · obtain ⟨k, hk, hk1, hk2⟩ := ST.first_ok _ _ hf
      rw [ByteArray.size_extract] at hk2
      rw [hk] at CF
      simp only at CF
      have hak : a + k ≤ s.size := by omega
      have hsp := st_part s a k hak
      have D := Lib.hid (HC.out l a k wr hi h2 hk1 hak)
      have HT2 := Lib.hid (fun h => ht.step hk hk1 hak h)
      have HL2 := Lib.hid (fun h => ht.left hk h)
      generalize f (s.extract a (a + k)) = c at *
      clear hf hk ht hi hrl hk2
      by_cases hc : c = 0
      · subst hc
        go_wp2_with fail
        refine (CF.out _).mono ?_
        rintro e w' ⟨rfl, rfl⟩
        go_wp2_with fail
        refine D.out.mono ?_
        rintro e w' ⟨rfl, hi, _⟩
        have HN : Hid (ST.Thr s most f (l ++ [s.extract a (a + k)]) (a + k) ∧ Inv (l ++ [s.extract a (a + k)]) w') := Lib.hid ⟨HT2.out trivial, hi trivial⟩
        clear D HT2 HL2 hi CF HC HI HT
        go_wp2
        go_roundw
        case rel => exact ⟨a + k, _, by go_num, by omega, HN⟩
        case measure => simp [intOf]; omega
      · have hne : (c != 0) = true := by rw [bne_iff_ne]; exact hc
        go_wp2_with fail
        refine (CF.out _).mono ?_
        rintro e w' ⟨rfl, rfl⟩
        go_wp2_with fail
        refine D.out.mono ?_
        rintro e w' ⟨rfl, _, hi⟩
        have HE : Hid (R = (l, a, c)) := Lib.hid (by rw [HR.out]; exact HL2.out hc)
        have HN : Hid (Inv l w') := Lib.hid (hi hc)
        clear D HT2 HL2 hi CF HC HI HT hc
        go_wp2
        try rw [Exit.noGoto_ret]
        go_ret2
        rw [HE.out]
        exact ⟨rfl, HN.out⟩
    · have HL := Lib.hid (ht.stop hf)
      have HN := Lib.hid hi
      generalize ST.first (s.extract a s.size) most = X at *
      obtain ⟨k, c⟩ := X
      simp only at CF hf HL
      have hne : (c == 0) = false := by rw [beq_eq_false_iff_ne]; exact hf
      clear ht hi hrl HC HI HT
      by_cases h242 : c = 242
      · subst h242
        go_wp2_with fail
        refine (CF.out _).mono ?_
        rintro e w' ⟨rfl, rfl⟩
        go_wp2
        try rw [Exit.noGoto_ret]
        go_ret2
        rw [HR.out, HL.out]
        exact ⟨rfl, HN.out⟩
      · have h2 : (c == 242) = false := by rw [beq_eq_false_iff_ne]; exact h242
        have HL2 : Hid (R = (l, a, c)) := Lib.hid (by rw [HR.out, HL.out, if_neg h242])
        clear HL HR h242 hf
        go_wp2_with fail
        refine (CF.out _).mono ?_
        rintro e w' ⟨rfl, rfl⟩
        go_wp2
        try rw [Exit.noGoto_ret]
        go_ret2
        rw [HL2.out]
        exact ⟨rfl, HN.out⟩
end Go.Proofs.Ytjajandjdclifaa
