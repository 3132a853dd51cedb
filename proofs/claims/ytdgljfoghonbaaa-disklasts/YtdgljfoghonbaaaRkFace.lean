/- The document's Append, Sync, Clear. -/
import Derived.Test.YtdgljfoghonbaaaRkAsk
import Derived.Test.YtdgljfoghonbaaaDkFace
namespace Go.Proofs.Ytdgljfoghonbaaa
open Go.RowKit DK

theorem RkAt.keepA {r : Nat} {R : Rv} {vk : Value} {W : World} (h : RkAt r R vk W) (hI : ∀ z ∈ R.keep, I64 z) : ∃ A cap, vk = .slice A R.keep.length cap ∧ AInts r W A R.keep := by
  obtain ⟨A, cap, rfl⟩ := own_form h.2
  have hne := h.ne
  refine ⟨A, cap, rfl, fun i z hz => ⟨hI z (List.mem_of_getElem? hz), ?_⟩, fun _ g o e hg => hne (by rw [e, hg]; rfl)⟩
  have hi := (List.getElem?_eq_some_iff.1 hz).1
  obtain ⟨g, c, hv, hg, hg'⟩ := h.2.form (by omega)
  injection hv with hv _ _
  subst hv
  refine ⟨g, 0, rfl, hg', ?_⟩
  have := h.2.cells (g := g) rfl i (.int .i64 z) (by rw [intCells', List.getElem?_map, hz]; rfl)
  rw [add0] at this
  rwa [Nat.zero_add]
theorem stopS_parts (R : Rv) : R.stopS.a = R.a ∧ R.stopS.b = R.b ∧ R.stopS.lim = R.lim ∧ R.stopS.keep = R.keep := by
  unfold Rv.stopS Rv.cutd Rv.brkd
  refine ⟨?_, ?_, ?_, ?_⟩ <;> (repeat' split) <;> rfl
theorem stopC_cases (R : Rv) : R.stopC = 240 ∨ R.stopC = 241 ∨ R.stopC = 0 := by
  unfold Rv.stopC
  (repeat' split) <;> simp
theorem find_cases (R : Rv) (f : Int) : R.find f = 0 → f = 0 ∨ f = 1 := fun h => by
  unfold Rv.find at h
  split at h
  · cases h
  · split at h
    · exact fileB_cases (by assumption)
    · cases h
theorem ret_trans {r : Nat} {R R1 : Rv} {w w1 w2 : World} {u v : Value} {e : Ending} (h : RetP r R1 w u (.returned u) w1) (k : RetP r R w1 v e w2) : RetP r R w v e w2 := ⟨k.1, k.2.1, h.2.2.trans k.2.2⟩
/-- What is asked of the document's disk for a change. -/
structure ROk2 (R : Rv) : Prop where
  ok : ROk R
  cut : I64 R.cut
  brk : I64 R.brk
  keep : ∀ z ∈ R.keep, I64 z
theorem ROk2.lose {r : Nat} {R R1 : Rv} (ho : ROk R1) (hk : ∀ z ∈ R1.keep, I64 z) (hR : R1.keep = R.keep) {w : World} {vk : Value} (h : RkAt r R1 vk w) : ∃ A cap, vk = .slice A R.keep.length cap ∧ Calls Try.prog 41 #[.pointer (some ⟨r, 0, none⟩), .slice A R.keep.length cap] w (RetP r (R1.lose (numAt R.keep 0) (numAt R.keep 1)) w (.tuple #[])) := by
  obtain ⟨A, cap, rfl, hA⟩ := h.keepA hk
  rw [← hR]
  exact ⟨A, cap, rfl, rlose_any r R1 A R1.keep cap w ⟨_, h⟩ ho hA⟩

set_option maxRecDepth 100000 in
set_option maxHeartbeats 2000000 in
theorem rsync_any (r : Nat) (R : Rv) (f : Int) (w : World) (h : Rk r R w) (ho : ROk2 R) : Calls Try.prog 23 #[.pointer (some ⟨r, 0, none⟩), .int .i64 f] w (RetP r (R.sync f) w (.int .i64 (R.syncC f))) := by
  have CF := Lib.hid (find_any r R f w h)
  have CS := Lib.hid (stop_any r R w h ho.cut ho.brk)
  obtain ⟨pa, pb, pl, pk⟩ := stopS_parts R
  have HC : Hid (R.syncC f = if R.find f ≠ 0 then R.find f else R.stopC) := Lib.hid rfl
  have HD : Hid (R.sync f = if R.find f ≠ 0 then R else R.chg id (Rv.upd (ix f) Fl.sync)) := Lib.hid rfl
  by_cases hr : R.find f = 0
  · have n0 : ¬ (R.find f ≠ 0) := fun x => x hr
    rw [HC.out, HD.out, if_neg n0, if_neg n0]
    rw [hr] at CF
    have hk1 : ROk R.stopS := by obtain ⟨⟨a, b, c, d⟩, -, -, -⟩ := ho; exact ⟨by rw [pa]; exact a, by rw [pb]; exact b, by rw [pa]; exact c, by rw [pb]; exact d⟩
    have hk2 : ∀ z ∈ R.stopS.keep, I64 z := by rw [pk]; exact ho.keep
    have CL := Lib.hid (fun w vk h => ROk2.lose (r := r) (R := R) (R1 := R.stopS) hk1 hk2 pk (w := w) (vk := vk) h)
    have HG : Hid (R.chg id (Rv.upd (ix f) Fl.sync) = if R.stopC = 240 then R.stopS.lose (numAt R.keep 0) (numAt R.keep 1) else if R.stopC = 241 then R.stopS else Rv.upd (ix f) Fl.sync R.stopS) := Lib.hid rfl
    obtain ⟨a, b, c, d⟩ := hk1
    generalize R.stopS = S at *
    rcases stopC_cases R with hs | hs | hs
    · rw [hs] at CS HG ⊢
      rw [HG.out, if_pos rfl]
      clear HC HD hr n0 h ho HG hs hk2 pa pb pl pk
      go_enter Try.func23, Try.ntmps23
      go_wp2_with fail
      refine CF.out.mono ?_
      rintro e w' ⟨rfl, rfl⟩
      go_wp2_with fail
      refine CS.out.mono ?_
      rintro e w1 ⟨rfl, ⟨vk, h1⟩, k1⟩
      obtain ⟨A, cap, rfl, CLo⟩ := CL.out w1 vk h1
      have q7 : w1.cell? ⟨r, 7, none⟩ = some (.slice A R.keep.length cap) := by rw [cell_heap h1.1]; rfl
      have X := Lib.hid CLo
      have K1 := Lib.hid k1
      clear CL CLo h1 k1 CF CS
      go_wp2_with fail
      refine X.out.mono ?_
      rintro e w2 ⟨rfl, h2, k2⟩
      have HF : Hid (RetP r (S.lose (numAt R.keep 0) (numAt R.keep 1)) w (.int .i64 240) (.returned (.int .i64 240)) w2) := Lib.hid ⟨rfl, h2, K1.out.trans k2⟩
      clear h2 k2 K1 X
      go_wp2_with fail
      go_ret
      exact HF.out
    · rw [hs] at CS HG ⊢
      rw [HG.out, if_neg (by decide), if_pos rfl]
      clear HC HD hr n0 h ho HG hs hk2 pa pb pl pk CL
      go_enter Try.func23, Try.ntmps23
      go_wp2_with fail
      refine CF.out.mono ?_
      rintro e w' ⟨rfl, rfl⟩
      go_wp2_with fail
      refine CS.out.mono ?_
      rintro e w1 ⟨rfl, ⟨vk, h1⟩, k1⟩
      have HF : Hid (RetP r S w (.int .i64 241) (.returned (.int .i64 241)) w1) := Lib.hid ⟨rfl, ⟨vk, h1⟩, k1⟩
      clear h1 k1 CF CS
      go_wp2_with fail
      go_ret
      exact HF.out
    · rw [hs] at CS HG ⊢
      rw [HG.out, if_neg (by decide), if_neg (by decide)]
      have hf := find_cases R f hr
      clear HC HD hr n0 h ho HG hs hk2 pa pb pl pk CL
      rcases hf with rfl | rfl
      · go_enter Try.func23, Try.ntmps23
        go_wp2_with fail
        refine CF.out.mono ?_
        rintro e w' ⟨rfl, rfl⟩
        go_wp2_with fail
        refine CS.out.mono ?_
        rintro e w1 ⟨rfl, ⟨vk, h1⟩, k1⟩
        obtain ⟨d0, d1, d2, d3, -⟩ := h1.cells
        have f2 := h1.loose 2
        have HF : Hid (RetP r (Rv.upd (ix 0) Fl.sync S) w (.int .i64 0) (.returned (.int .i64 0)) (w1.setCell ⟨r, 2, none⟩ (.int .i64 S.a.s.length)).drew) := Lib.hid ⟨rfl, ⟨vk, h1.set (R' := Rv.upd (ix 0) Fl.sync S) 2 (.int .i64 S.a.s.length) rfl rfl⟩, (k1.setCell 2 _).drewN 1⟩
        clear h1 k1 CF CS a b c d
        go_wp2_with fail
        go_region_law (fail)
        all_goals
          go_wp2_with fail
          go_ret
          exact HF.out
      · go_enter Try.func23, Try.ntmps23
        go_wp2_with fail
        refine CF.out.mono ?_
        rintro e w' ⟨rfl, rfl⟩
        go_wp2_with fail
        refine CS.out.mono ?_
        rintro e w1 ⟨rfl, ⟨vk, h1⟩, k1⟩
        obtain ⟨d0, d1, d2, d3, -⟩ := h1.cells
        have f3 := h1.loose 3
        have HF : Hid (RetP r (Rv.upd (ix 1) Fl.sync S) w (.int .i64 0) (.returned (.int .i64 0)) (w1.setCell ⟨r, 3, none⟩ (.int .i64 S.b.s.length)).drew) := Lib.hid ⟨rfl, ⟨vk, h1.set (R' := Rv.upd (ix 1) Fl.sync S) 3 (.int .i64 S.b.s.length) rfl rfl⟩, (k1.setCell 3 _).drewN 1⟩
        clear h1 k1 CF CS a b c d
        go_wp2_with fail
        go_region_law (fail)
        all_goals
          go_wp2_with fail
          go_ret
          exact HF.out
  · rw [HC.out, HD.out, if_pos hr, if_pos hr]
    have HE : Hid (RetP r R w (.int .i64 (R.find f)) (.returned (.int .i64 (R.find f))) w) := Lib.hid ⟨rfl, h, Kt.refl _ _ _⟩
    have hne : (R.find f != 0) = true := by rw [bne_iff_ne]; exact hr
    generalize R.find f = c at *
    clear HC HD hr h ho CS pa pb pl pk
    go_enter Try.func23, Try.ntmps23
    go_wp2_with fail
    refine CF.out.mono ?_
    rintro e w' ⟨rfl, rfl⟩
    go_wp2_with fail
    go_ret
    exact HE.out

set_option maxRecDepth 100000 in
set_option maxHeartbeats 2000000 in
theorem rclear_any (r : Nat) (R : Rv) (f : Int) (w : World) (h : Rk r R w) (ho : ROk2 R) : Calls Try.prog 24 #[.pointer (some ⟨r, 0, none⟩), .int .i64 f] w (RetP r (R.clear f) w (.int .i64 (R.syncC f))) := by
  have CF := Lib.hid (find_any r R f w h)
  have CS := Lib.hid (stop_any r R w h ho.cut ho.brk)
  obtain ⟨pa, pb, pl, pk⟩ := stopS_parts R
  have HC : Hid (R.syncC f = if R.find f ≠ 0 then R.find f else R.stopC) := Lib.hid rfl
  have HD : Hid (R.clear f = if R.find f ≠ 0 then R else R.chg id (Rv.upd (ix f) Fl.clear)) := Lib.hid rfl
  by_cases hr : R.find f = 0
  · have n0 : ¬ (R.find f ≠ 0) := fun x => x hr
    rw [HC.out, HD.out, if_neg n0, if_neg n0]
    rw [hr] at CF
    have hk1 : ROk R.stopS := by obtain ⟨⟨a, b, c, d⟩, -, -, -⟩ := ho; exact ⟨by rw [pa]; exact a, by rw [pb]; exact b, by rw [pa]; exact c, by rw [pb]; exact d⟩
    have hk2 : ∀ z ∈ R.stopS.keep, I64 z := by rw [pk]; exact ho.keep
    have CL := Lib.hid (fun w vk h => ROk2.lose (r := r) (R := R) (R1 := R.stopS) hk1 hk2 pk (w := w) (vk := vk) h)
    have HG : Hid (R.chg id (Rv.upd (ix f) Fl.clear) = if R.stopC = 240 then R.stopS.lose (numAt R.keep 0) (numAt R.keep 1) else if R.stopC = 241 then R.stopS else Rv.upd (ix f) Fl.clear R.stopS) := Lib.hid rfl
    obtain ⟨a, b, c, d⟩ := hk1
    generalize R.stopS = S at *
    rcases stopC_cases R with hs | hs | hs
    · rw [hs] at CS HG ⊢
      rw [HG.out, if_pos rfl]
      clear HC HD hr n0 h ho HG hs hk2 pa pb pl pk
      go_enter Try.func24, Try.ntmps24
      go_wp2_with fail
      refine CF.out.mono ?_
      rintro e w' ⟨rfl, rfl⟩
      go_wp2_with fail
      refine CS.out.mono ?_
      rintro e w1 ⟨rfl, ⟨vk, h1⟩, k1⟩
      obtain ⟨A, cap, rfl, CLo⟩ := CL.out w1 vk h1
      have q7 : w1.cell? ⟨r, 7, none⟩ = some (.slice A R.keep.length cap) := by rw [cell_heap h1.1]; rfl
      have X := Lib.hid CLo
      have K1 := Lib.hid k1
      clear CL CLo h1 k1 CF CS
      go_wp2_with fail
      refine X.out.mono ?_
      rintro e w2 ⟨rfl, h2, k2⟩
      have HF : Hid (RetP r (S.lose (numAt R.keep 0) (numAt R.keep 1)) w (.int .i64 240) (.returned (.int .i64 240)) w2) := Lib.hid ⟨rfl, h2, K1.out.trans k2⟩
      clear h2 k2 K1 X
      go_wp2_with fail
      go_ret
      exact HF.out
    · rw [hs] at CS HG ⊢
      rw [HG.out, if_neg (by decide), if_pos rfl]
      clear HC HD hr n0 h ho HG hs hk2 pa pb pl pk CL
      go_enter Try.func24, Try.ntmps24
      go_wp2_with fail
      refine CF.out.mono ?_
      rintro e w' ⟨rfl, rfl⟩
      go_wp2_with fail
      refine CS.out.mono ?_
      rintro e w1 ⟨rfl, ⟨vk, h1⟩, k1⟩
      have HF : Hid (RetP r S w (.int .i64 241) (.returned (.int .i64 241)) w1) := Lib.hid ⟨rfl, ⟨vk, h1⟩, k1⟩
      clear h1 k1 CF CS
      go_wp2_with fail
      go_ret
      exact HF.out
    · rw [hs] at CS HG ⊢
      rw [HG.out, if_neg (by decide), if_neg (by decide)]
      have hf := find_cases R f hr
      clear HC HD hr n0 h ho HG hs hk2 pa pb pl pk CL
      rcases hf with rfl | rfl
      · go_enter Try.func24, Try.ntmps24
        go_wp2_with fail
        refine CF.out.mono ?_
        rintro e w' ⟨rfl, rfl⟩
        go_wp2_with fail
        refine CS.out.mono ?_
        rintro e w1 ⟨rfl, ⟨vk, h1⟩, k1⟩
        obtain ⟨d0, d1, d2, d3, -⟩ := h1.cells
        have f0 := h1.loose 0
        have f2 := h1.loose 2
        have h2 := h1.set (R' := { S with a := ⟨[], S.a.l⟩ }) 0 (.string ⟨#[]⟩) rfl rfl
        have HF : Hid (RetP r (Rv.upd (ix 0) Fl.clear S) w (.int .i64 0) (.returned (.int .i64 0)) ((w1.setCell ⟨r, 0, none⟩ (.string ⟨#[]⟩)).setCell ⟨r, 2, none⟩ (.int .i64 0))) := Lib.hid ⟨rfl, ⟨vk, h2.set (R' := Rv.upd (ix 0) Fl.clear S) 2 (.int .i64 0) rfl rfl⟩, (k1.setCell 0 _).setCell 2 _⟩
        clear h1 h2 k1 CF CS a b c d
        go_wp2_with fail
        go_ret
        exact HF.out
      · go_enter Try.func24, Try.ntmps24
        go_wp2_with fail
        refine CF.out.mono ?_
        rintro e w' ⟨rfl, rfl⟩
        go_wp2_with fail
        refine CS.out.mono ?_
        rintro e w1 ⟨rfl, ⟨vk, h1⟩, k1⟩
        obtain ⟨d0, d1, d2, d3, -⟩ := h1.cells
        have f1 := h1.loose 1
        have f3 := h1.loose 3
        have h2 := h1.set (R' := { S with b := ⟨[], S.b.l⟩ }) 1 (.string ⟨#[]⟩) rfl rfl
        have HF : Hid (RetP r (Rv.upd (ix 1) Fl.clear S) w (.int .i64 0) (.returned (.int .i64 0)) ((w1.setCell ⟨r, 1, none⟩ (.string ⟨#[]⟩)).setCell ⟨r, 3, none⟩ (.int .i64 0))) := Lib.hid ⟨rfl, ⟨vk, h2.set (R' := Rv.upd (ix 1) Fl.clear S) 3 (.int .i64 0) rfl rfl⟩, (k1.setCell 1 _).setCell 3 _⟩
        clear h1 h2 k1 CF CS a b c d
        go_wp2_with fail
        go_ret
        exact HF.out
  · rw [HC.out, HD.out, if_pos hr, if_pos hr]
    have HE : Hid (RetP r R w (.int .i64 (R.find f)) (.returned (.int .i64 (R.find f))) w) := Lib.hid ⟨rfl, h, Kt.refl _ _ _⟩
    have hne : (R.find f != 0) = true := by rw [bne_iff_ne]; exact hr
    generalize R.find f = c at *
    clear HC HD hr h ho CS pa pb pl pk
    go_enter Try.func24, Try.ntmps24
    go_wp2_with fail
    refine CF.out.mono ?_
    rintro e w' ⟨rfl, rfl⟩
    go_wp2_with fail
    go_ret
    exact HE.out

theorem cat_str (l : List UInt8) (s : ByteArray) : (⟨l.toArray⟩ : ByteArray) ++ s = ⟨(l ++ s.data.toList).toArray⟩ := by
  apply ByteArray.ext
  rw [ByteArray.data_append]
  apply Array.toList_inj.1
  simp
set_option maxRecDepth 100000 in
set_option maxHeartbeats 2000000 in
theorem rappend_any (r : Nat) (R : Rv) (f : Int) (s : ByteArray) (w : World) (h : Rk r R w) (ho : ROk2 R) (hlim : R.lim ≤ 16777216) (hsz : s.size ≤ 500) : Calls Try.prog 29 #[.pointer (some ⟨r, 0, none⟩), .int .i64 f, .string s] w (RetP r (R.app f s.data.toList) w (.int .i64 (R.appC f s.data.toList))) := by
  have CF := Lib.hid (find_any r R f w h)
  have CS : Hid (∀ n, Calls Try.prog 40 #[.pointer (some ⟨r, 0, none⟩)] (w.drewN n) (RetP r R.stopS (w.drewN n) (.int .i64 R.stopC))) := Lib.hid (fun n => stop_any r R (w.drewN n) (h.below (drewN_below _ _ _)) ho.cut ho.brk)
  obtain ⟨pa, pb, pl, pk⟩ := stopS_parts R
  have hlen : s.data.toList.length = s.size := by rw [Array.length_toList]; rfl
  have HC : Hid (R.appC f s.data.toList = if R.find f ≠ 0 then R.find f else if (R.lim : Int) < (R.a.s.length : Int) + (R.b.s.length : Int) + (s.size : Int) then 241 else if s.size = 0 then 0 else R.stopC) := Lib.hid (by unfold Rv.appC; rw [hlen])
  have HD : Hid (R.app f s.data.toList = if R.find f ≠ 0 then R else if (R.lim : Int) < (R.a.s.length : Int) + (R.b.s.length : Int) + (s.size : Int) then R else if s.size = 0 then R else R.chg (Rv.upd (ix f) (Fl.app s.data.toList)) (Rv.upd (ix f) (Fl.app s.data.toList))) := Lib.hid (by unfold Rv.app; rw [hlen])
  obtain ⟨vk0, h0⟩ := id h
  obtain ⟨d0, d1, d2, d3, d4, -⟩ := h0.cells
  have la := ho.ok.a2
  have lb := ho.ok.b2
  by_cases hr : R.find f = 0
  · have n0 : ¬ (R.find f ≠ 0) := fun x => x hr
    rw [HC.out, HD.out, if_neg n0, if_neg n0]
    rw [hr] at CF
    by_cases hm : (R.lim : Int) < (R.a.s.length : Int) + (R.b.s.length : Int) + (s.size : Int)
    · rw [if_pos hm, if_pos hm]
      have HE : Hid (∀ n, RetP r R w (.int .i64 241) (.returned (.int .i64 241)) (w.drewN n)) := Lib.hid (fun n => ⟨rfl, h.below (drewN_below _ _ _), (Kt.refl _ _ _).drewN n⟩)
      clear HC HD hr n0 h h0 ho CS pa pb pl pk
      go_enter Try.func29, Try.ntmps29
      go_wp2_with fail
      refine CF.out.mono ?_
      rintro e w' ⟨rfl, rfl⟩
      go_wp2_with fail
      go_quiet (fail)
      go_wp2_with fail
      go_ret
      exact HE.out _
    · rw [if_neg hm, if_neg hm]
      by_cases hs0 : s.size = 0
      · rw [if_pos hs0, if_pos hs0]
        have HE : Hid (∀ n, RetP r R w (.int .i64 0) (.returned (.int .i64 0)) (w.drewN n)) := Lib.hid (fun n => ⟨rfl, h.below (drewN_below _ _ _), (Kt.refl _ _ _).drewN n⟩)
        have hm' : (R.a.s.length : Int) + (R.b.s.length : Int) + (s.size : Int) ≤ (R.lim : Int) := by omega
        clear HC HD hr n0 h h0 ho CS pa pb pl pk hm
        go_enter Try.func29, Try.ntmps29
        go_wp2_with fail
        refine CF.out.mono ?_
        rintro e w' ⟨rfl, rfl⟩
        go_wp2_with fail
        go_quiet (fail)
        go_wp2_with fail
        go_ret
        exact HE.out _
      · rw [if_neg hs0, if_neg hs0]
        have hf := find_cases R f hr
        have hk2 : ∀ z ∈ R.stopS.keep, I64 z := by rw [pk]; exact ho.keep
        have hm' : (R.a.s.length : Int) + (R.b.s.length : Int) + (s.size : Int) ≤ (R.lim : Int) := by omega
        have hs1 : ((s.size : Int) == 0) = false := by simpa using hs0
        obtain ⟨oa, ob, oa2, ob2⟩ := ho.ok
        clear HC HD hr n0 hm h0
        rcases hf with rfl | rfl

        · have hk1 : ROk (Rv.upd 0 (Fl.app s.data.toList) R.stopS) := ⟨by show R.stopS.a.l ≤ (R.stopS.a.s ++ s.data.toList).length; rw [pa, List.length_append]; omega, by show R.stopS.b.l ≤ R.stopS.b.s.length; rw [pb]; exact ob, by show (R.stopS.a.s ++ s.data.toList).length ≤ _; rw [pa, List.length_append]; omega, by show R.stopS.b.s.length ≤ _; rw [pb]; exact ob2⟩
          have CL := Lib.hid (fun w vk h => ROk2.lose (r := r) (R := R) (R1 := (Rv.upd 0 (Fl.app s.data.toList) R.stopS)) hk1 hk2 pk (w := w) (vk := vk) h)
          have HG : Hid (R.chg (Rv.upd (ix 0) (Fl.app s.data.toList)) (Rv.upd (ix 0) (Fl.app s.data.toList)) = if R.stopC = 240 then (Rv.upd 0 (Fl.app s.data.toList) R.stopS).lose (numAt R.keep 0) (numAt R.keep 1) else if R.stopC = 241 then R.stopS else (Rv.upd 0 (Fl.app s.data.toList) R.stopS)) := Lib.hid rfl
          have pax : R.stopS.a.s.length = R.a.s.length := by rw [pa]
          have hbig : (9223372036854775807 < R.a.s.length + s.size) = False := eq_false (by omega)
          clear hk1 pa pb pl h ho
          generalize R.stopS = S at *
          rcases stopC_cases R with hs | hs | hs
          · rw [hs] at CS HG ⊢
            rw [HG.out, if_pos rfl]
            clear HG hs hk2
            go_enter Try.func29, Try.ntmps29
            go_wp2_with fail
            refine CF.out.mono ?_
            rintro e w' ⟨rfl, rfl⟩
            go_wp2_with fail
            go_quiet (fail)
            go_wp2_with fail
            refine (CS.out nq).mono ?_
            rintro e w1 ⟨rfl, ⟨vk, h1⟩, k1⟩
            obtain ⟨t0, t1, -⟩ := h1.cells
            have f0 := h1.loose 0
            have q7 : w1.cell? ⟨r, 7, none⟩ = some vk := by rw [cell_heap h1.1]; rfl
            have hst := h1.set (R' := Rv.upd 0 (Fl.app s.data.toList) S) 0 (.string ((⟨S.a.s.toArray⟩ : ByteArray) ++ s)) (by rw [cat_str]; rfl) rfl
            have HS := Lib.hid hst
            have K1 := Lib.hid (k1.setCell 0 (.string ((⟨S.a.s.toArray⟩ : ByteArray) ++ s)))
            have K0 := Lib.hid ((Kt.refl 3 r w).drewN nq)
            clear h1 k1 CF CS hst
            go_wp2_with fail
            go_region_law (fail)
            all_goals
              obtain ⟨A, cap, rfl, CLo⟩ := CL.out (w1.setCell ⟨r, 0, none⟩ (.string ((⟨S.a.s.toArray⟩ : ByteArray) ++ s))).drew vk HS.out
              have X := Lib.hid CLo
              clear CL CLo
              go_wp2_with fail
              refine X.out.mono ?_
              rintro e w2 ⟨rfl, h2, k2⟩
              have HF : Hid (RetP r ((Rv.upd 0 (Fl.app s.data.toList) S).lose (numAt R.keep 0) (numAt R.keep 1)) w (.int .i64 240) (.returned (.int .i64 240)) w2) := Lib.hid ⟨rfl, h2, (K0.out.trans (K1.out.drewN 1)).trans k2⟩
              clear h2 k2 K1 K0 X HS
              go_wp2_with fail
              go_ret
              exact HF.out
          · rw [hs] at CS HG ⊢
            rw [HG.out, if_neg (by decide), if_pos rfl]
            clear HG hs hk2 CL
            go_enter Try.func29, Try.ntmps29
            go_wp2_with fail
            refine CF.out.mono ?_
            rintro e w' ⟨rfl, rfl⟩
            go_wp2_with fail
            go_quiet (fail)
            go_wp2_with fail
            refine (CS.out nq).mono ?_
            rintro e w1 ⟨rfl, ⟨vk, h1⟩, k1⟩
            have HF : Hid (RetP r S w (.int .i64 241) (.returned (.int .i64 241)) w1) := Lib.hid ⟨rfl, ⟨vk, h1⟩, ((Kt.refl 3 r w).drewN nq).trans k1⟩
            clear h1 k1 CF CS
            go_wp2_with fail
            go_ret
            exact HF.out
          · rw [hs] at CS HG ⊢
            rw [HG.out, if_neg (by decide), if_neg (by decide)]
            clear HG hs hk2 CL
            go_enter Try.func29, Try.ntmps29
            go_wp2_with fail
            refine CF.out.mono ?_
            rintro e w' ⟨rfl, rfl⟩
            go_wp2_with fail
            go_quiet (fail)
            go_wp2_with fail
            refine (CS.out nq).mono ?_
            rintro e w1 ⟨rfl, ⟨vk, h1⟩, k1⟩
            obtain ⟨t0, t1, -⟩ := h1.cells
            have f0 := h1.loose 0
            have HF : Hid (RetP r (Rv.upd 0 (Fl.app s.data.toList) S) w (.int .i64 0) (.returned (.int .i64 0)) (w1.setCell ⟨r, 0, none⟩ (.string ((⟨S.a.s.toArray⟩ : ByteArray) ++ s))).drew) := Lib.hid ⟨rfl, ⟨vk, h1.set (R' := Rv.upd 0 (Fl.app s.data.toList) S) 0 _ (by rw [cat_str]; rfl) rfl⟩, ((Kt.refl 3 r w).drewN nq).trans ((k1.setCell 0 _).drewN 1)⟩
            clear h1 k1 CF CS
            go_wp2_with fail
            go_region_law (fail)
            all_goals
              go_wp2_with fail
              go_ret
              exact HF.out
        · have hk1 : ROk (Rv.upd 1 (Fl.app s.data.toList) R.stopS) := ⟨by show R.stopS.a.l ≤ R.stopS.a.s.length; rw [pa]; exact oa, by show R.stopS.b.l ≤ (R.stopS.b.s ++ s.data.toList).length; rw [pb, List.length_append]; omega, by show R.stopS.a.s.length ≤ _; rw [pa]; exact oa2, by show (R.stopS.b.s ++ s.data.toList).length ≤ _; rw [pb, List.length_append]; omega⟩
          have CL := Lib.hid (fun w vk h => ROk2.lose (r := r) (R := R) (R1 := (Rv.upd 1 (Fl.app s.data.toList) R.stopS)) hk1 hk2 pk (w := w) (vk := vk) h)
          have HG : Hid (R.chg (Rv.upd (ix 1) (Fl.app s.data.toList)) (Rv.upd (ix 1) (Fl.app s.data.toList)) = if R.stopC = 240 then (Rv.upd 1 (Fl.app s.data.toList) R.stopS).lose (numAt R.keep 0) (numAt R.keep 1) else if R.stopC = 241 then R.stopS else (Rv.upd 1 (Fl.app s.data.toList) R.stopS)) := Lib.hid rfl
          have pax : R.stopS.b.s.length = R.b.s.length := by rw [pb]
          have hbig : (9223372036854775807 < R.b.s.length + s.size) = False := eq_false (by omega)
          clear hk1 pa pb pl h ho
          generalize R.stopS = S at *
          rcases stopC_cases R with hs | hs | hs
          · rw [hs] at CS HG ⊢
            rw [HG.out, if_pos rfl]
            clear HG hs hk2
            go_enter Try.func29, Try.ntmps29
            go_wp2_with fail
            refine CF.out.mono ?_
            rintro e w' ⟨rfl, rfl⟩
            go_wp2_with fail
            go_quiet (fail)
            go_wp2_with fail
            refine (CS.out nq).mono ?_
            rintro e w1 ⟨rfl, ⟨vk, h1⟩, k1⟩
            obtain ⟨t0, t1, -⟩ := h1.cells
            have f1 := h1.loose 1
            have q7 : w1.cell? ⟨r, 7, none⟩ = some vk := by rw [cell_heap h1.1]; rfl
            have hst := h1.set (R' := Rv.upd 1 (Fl.app s.data.toList) S) 1 (.string ((⟨S.b.s.toArray⟩ : ByteArray) ++ s)) (by rw [cat_str]; rfl) rfl
            have HS := Lib.hid hst
            have K1 := Lib.hid (k1.setCell 1 (.string ((⟨S.b.s.toArray⟩ : ByteArray) ++ s)))
            have K0 := Lib.hid ((Kt.refl 3 r w).drewN nq)
            clear h1 k1 CF CS hst
            go_wp2_with fail
            go_region_law (fail)
            all_goals
              obtain ⟨A, cap, rfl, CLo⟩ := CL.out (w1.setCell ⟨r, 1, none⟩ (.string ((⟨S.b.s.toArray⟩ : ByteArray) ++ s))).drew vk HS.out
              have X := Lib.hid CLo
              clear CL CLo
              go_wp2_with fail
              refine X.out.mono ?_
              rintro e w2 ⟨rfl, h2, k2⟩
              have HF : Hid (RetP r ((Rv.upd 1 (Fl.app s.data.toList) S).lose (numAt R.keep 0) (numAt R.keep 1)) w (.int .i64 240) (.returned (.int .i64 240)) w2) := Lib.hid ⟨rfl, h2, (K0.out.trans (K1.out.drewN 1)).trans k2⟩
              clear h2 k2 K1 K0 X HS
              go_wp2_with fail
              go_ret
              exact HF.out
          · rw [hs] at CS HG ⊢
            rw [HG.out, if_neg (by decide), if_pos rfl]
            clear HG hs hk2 CL
            go_enter Try.func29, Try.ntmps29
            go_wp2_with fail
            refine CF.out.mono ?_
            rintro e w' ⟨rfl, rfl⟩
            go_wp2_with fail
            go_quiet (fail)
            go_wp2_with fail
            refine (CS.out nq).mono ?_
            rintro e w1 ⟨rfl, ⟨vk, h1⟩, k1⟩
            have HF : Hid (RetP r S w (.int .i64 241) (.returned (.int .i64 241)) w1) := Lib.hid ⟨rfl, ⟨vk, h1⟩, ((Kt.refl 3 r w).drewN nq).trans k1⟩
            clear h1 k1 CF CS
            go_wp2_with fail
            go_ret
            exact HF.out
          · rw [hs] at CS HG ⊢
            rw [HG.out, if_neg (by decide), if_neg (by decide)]
            clear HG hs hk2 CL
            go_enter Try.func29, Try.ntmps29
            go_wp2_with fail
            refine CF.out.mono ?_
            rintro e w' ⟨rfl, rfl⟩
            go_wp2_with fail
            go_quiet (fail)
            go_wp2_with fail
            refine (CS.out nq).mono ?_
            rintro e w1 ⟨rfl, ⟨vk, h1⟩, k1⟩
            obtain ⟨t0, t1, -⟩ := h1.cells
            have f1 := h1.loose 1
            have HF : Hid (RetP r (Rv.upd 1 (Fl.app s.data.toList) S) w (.int .i64 0) (.returned (.int .i64 0)) (w1.setCell ⟨r, 1, none⟩ (.string ((⟨S.b.s.toArray⟩ : ByteArray) ++ s))).drew) := Lib.hid ⟨rfl, ⟨vk, h1.set (R' := Rv.upd 1 (Fl.app s.data.toList) S) 1 _ (by rw [cat_str]; rfl) rfl⟩, ((Kt.refl 3 r w).drewN nq).trans ((k1.setCell 1 _).drewN 1)⟩
            clear h1 k1 CF CS
            go_wp2_with fail
            go_region_law (fail)
            all_goals
              go_wp2_with fail
              go_ret
              exact HF.out
  · rw [HC.out, HD.out, if_pos hr, if_pos hr]
    have HE : Hid (RetP r R w (.int .i64 (R.find f)) (.returned (.int .i64 (R.find f))) w) := Lib.hid ⟨rfl, h, Kt.refl _ _ _⟩
    have hne : (R.find f != 0) = true := by rw [bne_iff_ne]; exact hr
    generalize R.find f = c at *
    clear HC HD hr h h0 ho CS pa pb pl pk
    go_enter Try.func29, Try.ntmps29
    go_wp2_with fail
    refine CF.out.mono ?_
    rintro e w' ⟨rfl, rfl⟩
    go_wp2_with fail
    go_ret
    exact HE.out
end Go.Proofs.Ytdgljfoghonbaaa
