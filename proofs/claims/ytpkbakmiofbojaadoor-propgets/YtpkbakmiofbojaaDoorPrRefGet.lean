/- Properties read one behind the other: the document's Get. -/
import Derived.Test.YtpkbakmiofbojaaDoorPrRefRead
import Derived.Test.YtpkbakmiofbojaaDoorPrProps
namespace Go.Proofs.YtpkbakmiofbojaaDoor
open Go.RowKit

namespace PR
theorem g1_many (T : ByteArray) (p : Int) (out : List Pr) (h : 64 ≤ out.length) : g1 T p out = (zp, 0, 149) := by unfold g1; rw [if_pos h]
theorem g1_bad (T : ByteArray) (p : Int) (out : List Pr) (h : ¬ 64 ≤ out.length) (hc : (VP.get T p).2.2 ≠ 0) : g1 T p out = (zp, 0, 129) := by unfold g1; rw [if_neg h, if_pos hc]
theorem g1_id (T : ByteArray) (p : Int) (out : List Pr) (h : ¬ 64 ≤ out.length) {id t : Int} (hg : VP.get T p = (id, t, 0)) (hc : idC out id ≠ 0) : g1 T p out = (zp, 0, idC out id) := by unfold g1; rw [if_neg h, hg, if_neg (by simp), if_pos hc]
theorem g1_val (T : ByteArray) (p : Int) (out : List Pr) (h : ¬ 64 ≤ out.length) {id t : Int} (hg : VP.get T p = (id, t, 0)) (hc : idC out id = 0) : g1 T p out = if (rdv T t id).2.2 ≠ 0 then (zp, 0, 129) else rdv T t id := by unfold g1; rw [if_neg h, hg, if_neg (by simp), if_neg (by simp [hc])]
end PR
theorem str_mid (s : ByteArray) (f m : Nat) (h : f + m ≤ s.size) (w : World) :
    (Instr.slice 9 (.string s) (some (.int .i64 (f : Int))) (some (.int .i64 ((f : Int) + (m : Int)))) none).run Tryd.prog w = .ok (.string (s.extract f (f + m))) w := by
  rw [run_slice_string_if w 9 s .i64 .i64 _ _ Tryd.underlying9, if_pos (by omega), if_pos (by omega)]
  rw [show ((f : Int) + (m : Int)).toNat = f + m by omega, show ((f : Int)).toNat = f by omega]

set_option maxRecDepth 100000 in
set_option maxHeartbeats 8000000 in
theorem rgetall_any (s : ByteArray) (at_ : Int) (hs : s.size ≤ 140737488351232) (w : World) :
    Calls Tryd.prog 12 #[.string s, .int .i64 at_] w (GetP .i64 47 w (PR.getL s at_)) := by
  have hsm : s.size ≤ maxLen := by unfold maxLen; omega
  have C1 := Lib.hid (fun W => refget_any s at_ hsm W)
  by_cases hc : (VP.get s at_).2.2 = 0
  · obtain ⟨m, f, hg, hf⟩ := PR.get_at s at_ hc
    clear hc
    by_cases hl : (s.size : Int) - f < m
    · have HV := Lib.hid (PR.getL_few s at_ m f hg hl)
      rw [hg] at C1
      simp only at C1
      clear hg
      go_enter Tryd.func12, Tryd.ntmps12
      go_wp2_with fail
      refine (C1.out _).mono ?_
      rintro e w1 ⟨rfl, rfl⟩
      go_wp2
      go_ret3
      exact GetP.mk HV.out (own_nil _ _ _ _) (Below.refl _ _)
    · have hfm : f + m ≤ s.size := by omega
      have HL : Hid (∀ x, PR.gl (s.extract f (f + m)) 66 0 [] = x → PR.getL s at_ = if x.2 ≠ 0 then ([], 0, x.2) else (x.1, (f : Int) + m, 0)) := fun x hx => PR.getL_in s at_ m f hg hl hx
      have hok : Hid (∀ (p : Nat) out, (PR.g1 (s.extract f (f + m)) (p : Int) out).2.2 = 0 → ∃ q : Nat, (PR.g1 (s.extract f (f + m)) (p : Int) out).2.1 = q ∧ p < q ∧ q ≤ (s.extract f (f + m)).size ∧ out.length < 64) := fun p out h => PR.g1_ok _ p out h
      have hUs : Hid ((s.extract f (f + m)).size = m) := Lib.hid (by rw [ByteArray.size_extract]; omega)
      have hUm : Hid ((s.extract f (f + m)).size ≤ 140737488351232) := Lib.hid (by rw [ByteArray.size_extract]; omega)
      have hsl := str_mid s f m hfm
      rw [hg] at C1
      simp only at C1
      obtain ⟨i0, hi0, hz0, hz1, hz2⟩ := info_parts rpInfo
      have Hi := Lib.hid hi0; have Hz0 := Lib.hid hz0; have Hz1 := Lib.hid hz1; have Hz2 := Lib.hid hz2
      clear hg hl hi0 hz0 hz1 hz2
      generalize s.extract f (f + m) = U at *
      generalize PR.getL s at_ = GL at *
      go_enter Tryd.func12, Tryd.ntmps12
      go_wp2_with fail
      refine (C1.out _).mono ?_
      rintro e w1 ⟨rfl, rfl⟩
      clear C1
      go_wp2
      go_loopw [12, 11] (fun a lv wr => ∃ (p : Nat) (out : List Pr), a = .int .i64 (p : Int) ∧ p ≤ U.size ∧ out.length ≤ 64 ∧ (∃ A cap, lv = .slice A out.length cap) ∧ Hid (GetRel w U f out p lv 47 wr)) (fun _ lv _ => 66 - slLen lv)
      case atStart => exact ⟨0, [], by simp, by omega, by simp, ⟨none, 0, rfl⟩, Lib.hid ⟨rfl, own_nil _ _ _ _, Below.refl _ _, rfl⟩⟩
      case round =>
        obtain ⟨p, out, rfl, hp, hol, ⟨A, cap, rfl⟩, hrl⟩ := hrel
        obtain ⟨hgl, hown, hb, _⟩ := hrl.out
        have Hgl := Lib.hid hgl
        have Hown := Lib.hid hown
        have Hb := Lib.hid hb
        have hsr := hb.size
        obtain ⟨u, hu⟩ : ∃ u, 66 - out.length = u + 1 := ⟨65 - out.length, by omega⟩
        by_cases hlt : p < U.size
        · have hpU : (p : Int) < (U.size : Int) := by omega
          by_cases h64 : 64 ≤ out.length
          · have HV : Hid (GL = ([], 0, 149)) := Lib.hid (by
              have h1 := PR.gl_bad U u p out hpU (PR.g1_many U p out h64) (by decide)
              rw [← hu, hgl] at h1
              have h2 := HL.out _ h1
              rw [if_pos (by decide)] at h2
              exact h2)
            clear hgl hown hb hrl hu
            have j64 : (64 : Int) ≤ (out.length : Int) := by omega
            clear h64
            go_wp2
            go_ret3
            exact GetP.mk HV.out (own_nil _ _ _ _) Hb.out
          · have j64 : (out.length : Int) < 64 := by omega
            have CG := Lib.hid (fun W => refget_any U p (by have := hUm.out; unfold maxLen; omega) W)
            obtain ⟨⟨id, t, c⟩, hG⟩ : ∃ D, VP.get U (p : Int) = D := ⟨_, rfl⟩
            rw [hG] at CG
            simp only at CG
            have CK := Lib.hid (rkind_any id)
            by_cases hc0 : c = 0
            · subst hc0
              by_cases hk0 : PR.kd id = 0
              · have hic : PR.idC out id = 129 := by unfold PR.idC; rw [if_pos hk0]
                have HV : Hid (GL = ([], 0, 129)) := Lib.hid (by
                  have h1 := PR.gl_bad U u p out hpU ((PR.g1_id U p out h64 hG (by rw [hic]; decide)).trans (by rw [hic])) (by decide)
                  rw [← hu, hgl] at h1
                  have h2 := HL.out _ h1
                  rw [if_pos (by decide)] at h2
                  exact h2)
                rw [hk0] at CK
                clear hic hG hk0 h64
                clear hgl hown hb hrl hu
                go_wp2_with fail
                refine (CG.out _).mono ?_
                rintro e w2 ⟨rfl, rfl⟩
                go_wp2_with fail
                refine (CK.out _).mono ?_
                rintro e w2 ⟨rfl, b2⟩
                have B2 := Lib.hid b2
                clear b2
                go_wp2
                go_ret3
                exact GetP.mk HV.out (own_nil _ _ _ _) (Hb.out.trans (B2.out.mono hsr))
              · have CT : Hid (∀ W', Below wr.heap.size wr W' → Calls Tryd.prog 21 #[.slice A out.length cap, .int .i64 out.length, .int .i64 id] W' fun e w' => e = .returned (.bool (PR.dup out id)) ∧ W' = w') := fun W' hW => by
                  have := twice_any A cap out out.length id W' (by omega) (Nat.le_refl _) ((own_props hown).below hW)
                  rwa [List.take_length] at this
                have CR := Lib.hid (fun W => rread_any U t id hUm.out hk0 W)
                have hkn : (PR.kd id == 0) = false := by rw [beq_eq_false_iff_ne]; exact hk0
                by_cases hd : PR.dup out id = true
                · have hic : PR.idC out id = 130 := by unfold PR.idC; rw [if_neg hk0, if_pos hd]
                  have HV : Hid (GL = ([], 0, 130)) := Lib.hid (by
                    have h1 := PR.gl_bad U u p out hpU ((PR.g1_id U p out h64 hG (by rw [hic]; decide)).trans (by rw [hic])) (by decide)
                    rw [← hu, hgl] at h1
                    have h2 := HL.out _ h1
                    rw [if_pos (by decide)] at h2
                    exact h2)
                  rw [hd] at CT
                  clear hic hG hk0 h64 CR
                  generalize PR.kd id = kk at *
                  clear hgl hown hb hrl hu
                  go_wp2_with fail
                  refine (CG.out _).mono ?_
                  rintro e w2 ⟨rfl, rfl⟩
                  go_wp2_with fail
                  refine (CK.out _).mono ?_
                  rintro e w2 ⟨rfl, b2⟩
                  have B2 := Lib.hid b2
                  clear b2
                  go_wp2_with fail
                  refine (CT.out _ B2.out).mono ?_
                  rintro e w3 ⟨rfl, rfl⟩
                  go_wp2
                  go_ret3
                  exact GetP.mk HV.out (own_nil _ _ _ _) (Hb.out.trans (B2.out.mono hsr))
                · have hic : PR.idC out id = 0 := by unfold PR.idC; rw [if_neg hk0, if_neg hd]
                  have hd0 : PR.dup out id = false := by simpa using hd
                  rw [hd0] at CT
                  have hg1 := PR.g1_val U p out h64 hG hic
                  have hkq := hok.out p out
                  obtain ⟨⟨⟨a, b, x, y⟩, t2, c2⟩, hD⟩ : ∃ D, PR.rdv U t id = D := ⟨_, rfl⟩
                  rw [hD] at CR hg1
                  unfold RetR at CR
                  simp only at CR hg1
                  generalize PR.kd id = kk at *
                  clear hic hd hd0 hG hk0 h64 hD
                  by_cases hc2 : c2 = 0
                  · subst hc2
                    simp only [ne_eq, not_true_eq_false, if_false] at hg1
                    rw [hg1] at hkq
                    obtain ⟨q, rfl, hq1, hq2, hq3⟩ := hkq rfl
                    have HG : Hid (PR.gl U (66 - (out ++ [(⟨a, b, x, y⟩ : Pr)]).length) q (out ++ [(⟨a, b, x, y⟩ : Pr)]) = PR.gl U 66 0 []) := Lib.hid (by
                      have h1 := PR.gl_go U u p out hpU hg1
                      rw [← hu, hgl] at h1
                      rw [h1, List.length_append, List.length_singleton, Nat.sub_add_eq, hu, Nat.add_sub_cancel])
                    clear hg1 hkq
                    clear hgl hown hb hrl hu
                    go_wp2_with fail
                    refine (CG.out _).mono ?_
                    rintro e w2 ⟨rfl, rfl⟩
                    go_wp2_with fail
                    refine (CK.out _).mono ?_
                    rintro e w2 ⟨rfl, b2⟩
                    have B2 := Lib.hid b2
                    clear b2
                    go_wp2_with fail
                    refine (CT.out _ B2.out).mono ?_
                    rintro e w3 ⟨rfl, rfl⟩
                    have hs2 := B2.out.size
                    go_wp2_with fail
                    refine (CR.out _).mono ?_
                    rintro e w3 ⟨rfl, b3⟩
                    have B3 : Hid (Below w2.heap.size w2 w3) := Lib.hid b3
                    have hs3 := b3.size
                    clear b3
                    have hB3 : Below w2.heap.size w2 (w3.alloc (.cells #[.int .i64 a, .int .i64 b, .string x, .string y] 47)) := B3.out.alloc hs3 _
                    obtain ⟨v5, w5, hr5, hown5, _, hb5⟩ := app1 Tryd.underlying24 Hi.out Hz0.out Hz1.out Hz2.out rfl (by omega) (by omega) w.heap.size (.slice A out.length cap) out.length _ _ (own_below (own_below Hown.out B2.out) hB3) (by simp; omega) #[.int .i64 a, .int .i64 b, .string x, .string y] rfl (by simp [Value.oneCell']) (by omega)
                    rw [show (w3.alloc (.cells #[.int .i64 a, .int .i64 b, .string x, .string y] 47)).heap.size = w3.heap.size + 1 by simp] at hr5
                    have HN : Hid (GetRel w U f (out ++ [(⟨a, b, x, y⟩ : Pr)]) q v5 47 w5) := ⟨HG.out, by rw [flatP_snoc]; simpa using hown5, (Hb.out.trans ((B2.out.trans (hB3.mono hs2)).mono hsr)).trans hb5, rfl⟩
                    obtain ⟨A5, c5, hv5⟩ := own_form hown5
                    subst hv5
                    clear hB3 hown5 hb5 CR CT CK CG
                    go_wp2_with (at_builtin; refine wpList_run (by rfl) (.tmp 82) (.tmp 84) _ _ (by rfl) (by rfl) (by rfl) hr5 ?_; clear hr5)
                    go_roundw
                    case rel => exact ⟨q, out ++ [(⟨a, b, x, y⟩ : Pr)], rfl, by omega, by simp; omega, ⟨A5, c5, by simp⟩, HN⟩
                    case measure => simp [slLen]; omega
                  · have hne2 : (c2 == 0) = false := by rw [beq_eq_false_iff_ne]; exact hc2
                    rw [if_pos hc2] at hg1
                    have HV : Hid (GL = ([], 0, 129)) := Lib.hid (by
                      have h1 := PR.gl_bad U u p out hpU (hg1) (by decide)
                      rw [← hu, hgl] at h1
                      have h2 := HL.out _ h1
                      rw [if_pos (by decide)] at h2
                      exact h2)
                    rw [hne2] at CR
                    clear hg1 hkq hc2
                    clear hgl hown hb hrl hu
                    go_wp2_with fail
                    refine (CG.out _).mono ?_
                    rintro e w2 ⟨rfl, rfl⟩
                    go_wp2_with fail
                    refine (CK.out _).mono ?_
                    rintro e w2 ⟨rfl, b2⟩
                    have B2 := Lib.hid b2
                    clear b2
                    go_wp2_with fail
                    refine (CT.out _ B2.out).mono ?_
                    rintro e w3 ⟨rfl, rfl⟩
                    have hs2 := B2.out.size
                    go_wp2_with fail
                    refine (CR.out _).mono ?_
                    rintro e w3 ⟨rfl, b3⟩
                    have B3 : Hid (Below w2.heap.size w2 w3) := Lib.hid b3
                    have hs3 := b3.size
                    clear b3
                    clear CR CT CK CG
                    go_wp2
                    go_ret3
                    refine GetP.mk HV.out (own_nil _ _ _ _) (Hb.out.trans ((B2.out.trans (Below.mono (B := w2.heap.size) ?_ hs2)).mono hsr))
                    exact B3.out.alloc hs3 _
            · have hne : (c != 0) = true := by rw [bne_iff_ne]; exact hc0
              have HV : Hid (GL = ([], 0, 129)) := Lib.hid (by
                have h1 := PR.gl_bad U u p out hpU (PR.g1_bad U p out h64 (by rw [hG]; exact hc0)) (by decide)
                rw [← hu, hgl] at h1
                have h2 := HL.out _ h1
                rw [if_pos (by decide)] at h2
                exact h2)
              clear hG hc0 h64
              generalize PR.kd id = kk at *
              clear hgl hown hb hrl hu
              go_wp2_with fail
              refine (CG.out _).mono ?_
              rintro e w2 ⟨rfl, rfl⟩
              go_wp2_with fail
              refine (CK.out _).mono ?_
              rintro e w2 ⟨rfl, b2⟩
              have B2 := Lib.hid b2
              clear b2
              go_wp2
              go_ret3
              exact GetP.mk HV.out (own_nil _ _ _ _) (Hb.out.trans (B2.out.mono hsr))
        · have hpm : p = U.size := by omega
          have HV : Hid (GL = (out, (f : Int) + (m : Int), 0)) := Lib.hid (by
            have h1 := PR.gl_end U u p out (by omega)
            rw [← hu, hgl] at h1
            have h2 := HL.out _ h1
            simpa using h2)
          have j1 : ¬ (p : Int) < (U.size : Int) := by omega
          clear hgl hown hb hrl hu hlt
          go_wp2
          go_ret3
          exact GetP.mk HV.out Hown.out Hb.out
  · have HV := Lib.hid (PR.getL_bad s at_ hc)
    generalize VP.get s at_ = R at *
    obtain ⟨a, t, c⟩ := R
    simp only at C1 hc HV
    have hne : (c != 0) = true := by rw [bne_iff_ne]; exact hc
    clear hc
    go_enter Tryd.func12, Tryd.ntmps12
    go_wp2_with fail
    refine (C1.out _).mono ?_
    rintro e w1 ⟨rfl, rfl⟩
    go_wp2
    go_ret3
    exact GetP.mk HV.out (own_nil _ _ _ _) (Below.refl _ _)
end Go.Proofs.YtpkbakmiofbojaaDoor
