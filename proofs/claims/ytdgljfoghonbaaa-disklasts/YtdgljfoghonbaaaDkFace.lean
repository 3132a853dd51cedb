/- The disk's Append, Sync, Clear. -/
import Derived.Test.YtdgljfoghonbaaaDkChg
import Derived.Shelf.Abstract
namespace Go.Proofs.Ytdgljfoghonbaaa
open Go.RowKit DK

theorem enters34 (args : Array Value) (W : World) : (callFunc 34 args).run Try.prog W = .ok (.enter 34 args) W := enters_of Try.func34 (by kernel_rfl) rfl args W
theorem enters36 (args : Array Value) (W : World) : (callFunc 36 args).run Try.prog W = .ok (.enter 36 args) W := enters_of Try.func36 (by kernel_rfl) rfl args W
theorem enters37 (args : Array Value) (W : World) : (callFunc 37 args).run Try.prog W = .ok (.enter 37 args) W := enters_of Try.func37 (by kernel_rfl) rfl args W
theorem enters38 (args : Array Value) (W : World) : (callFunc 38 args).run Try.prog W = .ok (.enter 38 args) W := enters_of Try.func38 (by kernel_rfl) rfl args W
theorem Dk.ne {d cb : Nat} {D : Dv} {w : World} {cs : Array Value} {t : TypeId} {fz : Nat × Nat} (h : Dk d D w) (hc : w.heap[cb]? = some (.cells cs t fz)) (ht : t ≠ 52) : cb ≠ d := fun e => by
  obtain ⟨va, vb, h, -⟩ := h
  rw [← e, hc] at h
  injection h with h
  injection h with _ h _
  exact ht h
theorem ref_file {D : Dv} {f : Int} (h : D.ref f = 0) : f = 0 ∨ f = 1 := by
  unfold Dv.ref at h
  split at h
  · cases h
  · split at h
    · exact fileB_cases (by assumption)
    · cases h
theorem nil_arr (s : ByteArray) : s.data.toList = [] ↔ s.size = 0 := by
  rw [← List.length_eq_zero_iff, Array.length_toList]; exact Iff.rfl

/-- Append's change. -/
theorem chg_app (i : Nat) (hi : i < 2) (d : Nat) (D : Dv) (s : ByteArray) (w : World) (h : Dk d D w) (ho : D.Ok) (h0 : 0 < s.size) (hr : (s.size : Int) ≤ D.room) (cb sb : Nat)
    (hc : w.heap[cb]? = some (.cells #[.pointer (some ⟨d, 2 * i, none⟩)] 65 (0, 0))) (hs : w.heap[sb]? = some (.cells #[.string s] 9 (0, 0))) :
    Calls Try.prog 35 #[.pointer (some ⟨d, 0, none⟩), .func (.func 34) #[] #[.pointer (some ⟨cb, 0, none⟩), .pointer (some ⟨sb, 0, none⟩)], .func (.func 34) #[] #[.pointer (some ⟨cb, 0, none⟩), .pointer (some ⟨sb, 0, none⟩)]] w
      (ChgP d D.chgC (D.chg (Dv.upd i (Fl.app s.data.toList)) (Dv.upd i (Fl.app s.data.toList))) w) := by
  have hdlt := h.lt
  have hcd : cb ≠ d := h.ne hc (by decide)
  have hsd : sb ≠ d := h.ne hs (by decide)
  obtain ⟨-, -, o3, o4, -⟩ := id ho
  have hr' : (s.size : Int) ≤ (D.lim : Int) - (D.a.s.length : Int) - (D.b.s.length : Int) := hr
  have C : ∀ W, Kt 5 d w W → Dk d D.due W → Calls Try.prog 34 #[.pointer (some ⟨cb, 0, none⟩), .pointer (some ⟨sb, 0, none⟩)] W (LostP d (Dv.upd i (Fl.app s.data.toList) D.due) W) := fun W hk hW => by
    have hc' := hk.block hc hcd (by decide)
    have hs' := hk.block hs hsd (by decide)
    match i, hi with
    | 0, _ => exact capp0_any d D.due s cb sb W hW h0 (by show D.a.s.length + s.size ≤ _; omega) hc' hs'
    | 1, _ => exact capp1_any d D.due s cb sb W hW h0 (by show D.b.s.length + s.size ≤ _; omega) hc' hs'
  have hlen : s.data.toList.length = s.size := by rw [Array.length_toList]; rfl
  refine change_any d D _ _ _ _ _ _ w enters34 enters34 C C ?_ ?_ (ho.due.app i s.data.toList (by rw [hlen]; exact hr)) h ho
  · unfold Dv.upd; split <;> rfl
  · unfold Dv.upd; split <;> rfl
theorem chg_sync (i : Nat) (hi : i < 2) (d : Nat) (D : Dv) (w : World) (h : Dk d D w) (ho : D.Ok) (cb : Nat)
    (hc : w.heap[cb]? = some (.cells #[.pointer (some ⟨d, 2 * i, none⟩)] 65 (0, 0))) :
    Calls Try.prog 35 #[.pointer (some ⟨d, 0, none⟩), .func (.func 36) #[] #[.pointer (some ⟨cb, 0, none⟩)], .func (.func 37) #[] #[]] w
      (ChgP d D.chgC (D.chg (Dv.upd i Fl.sync) id) w) := by
  have hcd : cb ≠ d := h.ne hc (by decide)
  refine change_any d D _ _ _ _ _ _ w enters36 enters37 (fun W hk hW => ?_) (fun W hk hW => (nothing_any W).mono fun e w' he => by obtain ⟨rfl, rfl⟩ := he; exact ⟨rfl, hW, Kt.refl _ _ _⟩) rfl rfl ho.due h ho
  have hc' := hk.block hc hcd (by decide)
  match i, hi with
  | 0, _ => exact csync0_any d D.due cb W hW hc'
  | 1, _ => exact csync1_any d D.due cb W hW hc'
theorem chg_clear (i : Nat) (hi : i < 2) (d : Nat) (D : Dv) (w : World) (h : Dk d D w) (ho : D.Ok) (cb : Nat)
    (hc : w.heap[cb]? = some (.cells #[.pointer (some ⟨d, 2 * i, none⟩)] 65 (0, 0))) :
    Calls Try.prog 35 #[.pointer (some ⟨d, 0, none⟩), .func (.func 38) #[] #[.pointer (some ⟨cb, 0, none⟩)], .func (.func 37) #[] #[]] w
      (ChgP d D.chgC (D.chg (Dv.upd i Fl.clear) id) w) := by
  have hcd : cb ≠ d := h.ne hc (by decide)
  refine change_any d D _ _ _ _ _ _ w enters38 enters37 (fun W hk hW => ?_) (fun W hk hW => (nothing_any W).mono fun e w' he => by obtain ⟨rfl, rfl⟩ := he; exact ⟨rfl, hW, Kt.refl _ _ _⟩) rfl rfl ho.due h ho
  have hc' := hk.block hc hcd (by decide)
  match i, hi with
  | 0, _ => exact cclear0_any d D.due cb W hW hc'
  | 1, _ => exact cclear1_any d D.due cb W hW hc'

theorem sync_nil (f : Int) (w : World) : Calls Try.prog 20 #[.pointer none, .int .i64 f] w fun e w' => e = .returned (.int .u8 128) ∧ w = w' := by
  have C := Lib.hid (refused_nil f)
  go_enter Try.func20, Try.ntmps20
  go_wp2_with fail
  refine (C.out _).mono ?_
  rintro e w' ⟨rfl, rfl⟩
  go_wp2
  go_ret
  exact ⟨rfl, rfl⟩
theorem clear_nil (f : Int) (w : World) : Calls Try.prog 21 #[.pointer none, .int .i64 f] w fun e w' => e = .returned (.int .u8 128) ∧ w = w' := by
  have C := Lib.hid (refused_nil f)
  go_enter Try.func21, Try.ntmps21
  go_wp2_with fail
  refine (C.out _).mono ?_
  rintro e w' ⟨rfl, rfl⟩
  go_wp2
  go_ret
  exact ⟨rfl, rfl⟩
theorem append_nil (f : Int) (s : ByteArray) (w : World) : Calls Try.prog 16 #[.pointer none, .int .i64 f, .string s] w fun e w' => e = .returned (.int .u8 128) ∧ Below w.heap.size w w' := by
  have C := Lib.hid (refused_nil f)
  go_enter Try.func16, Try.ntmps16
  go_wp2_with fail
  refine (C.out _).mono ?_
  rintro e w' ⟨rfl, rfl⟩
  go_wp2
  go_ret
  exact ⟨rfl, (Below.refl _ _).alloc (Nat.le_refl _) _⟩
theorem chgP_of {d : Nat} {c : Int} {D : Dv} {w W w' : World} {e : Ending} (hd : d < w.heap.size) (hb : Below w.heap.size w W) (h : ChgP d c D W e w') : ChgP d c D w e w' := ⟨h.1, h.2.1, (Kt.of_below (Nat.le_of_lt hd) hb).trans h.2.2⟩

set_option maxRecDepth 100000 in
set_option maxHeartbeats 1000000 in
theorem sync_any (d : Nat) (D : Dv) (f : Int) (w : World) (h : Dk d D w) (ho : D.Ok) : Calls Try.prog 20 #[.pointer (some ⟨d, 0, none⟩), .int .i64 f] w (ChgP d (D.syncC f) (D.sync f) w) := by
  have hmf : ∀ (fn : Fn) (first cap : Array Value) (w : World), (Instr.makeFunc fn first cap).run Try.prog w = .ok (.func fn first cap) w := fun _ _ _ _ => rfl
  have C := Lib.hid (refused_any d D f w h)
  have hlt := h.lt
  have HS : Hid (D.syncC f = if D.ref f ≠ 0 then D.ref f else D.chgC) := Lib.hid rfl
  have HD : Hid (D.sync f = if D.ref f ≠ 0 then D else D.chg (Dv.upd (ix f) Fl.sync) id) := Lib.hid rfl
  by_cases hr : D.ref f = 0
  · rw [HS.out, HD.out, if_neg (show ¬ (D.ref f ≠ 0) from fun h => h hr), if_neg (show ¬ (D.ref f ≠ 0) from fun h => h hr)]
    rw [hr] at C
    have CH := Lib.hid (fun i hi W (hb : Below w.heap.size w W) cb hc => (chg_sync i hi d D W (h.below hb) ho cb hc).mono fun e w' he => chgP_of hlt hb he)
    have hf := ref_file hr
    clear HS HD hr h ho
    rcases hf with rfl | rfl
    · go_enter Try.func20, Try.ntmps20
      go_wp2_with fail
      refine C.out.mono ?_
      rintro e w' ⟨rfl, rfl⟩
      go_wp2_with fail
      refine (CH.out 0 (by omega) _ ((Below.refl _ _).alloc (Nat.le_refl _) _) w.heap.size (heap_alloc_new w _)).mono ?_
      rintro e w2 he
      have HE := Lib.hid he
      obtain ⟨rfl, -⟩ := he
      clear CH C
      go_wp2_with fail
      go_ret
      exact HE.out
    · go_enter Try.func20, Try.ntmps20
      go_wp2_with fail
      refine C.out.mono ?_
      rintro e w' ⟨rfl, rfl⟩
      go_wp2_with fail
      refine (CH.out 1 (by omega) _ ((Below.refl _ _).alloc (Nat.le_refl _) _) w.heap.size (heap_alloc_new w _)).mono ?_
      rintro e w2 he
      have HE := Lib.hid he
      obtain ⟨rfl, -⟩ := he
      clear CH C
      go_wp2_with fail
      go_ret
      exact HE.out
  · rw [HS.out, HD.out, if_pos hr, if_pos hr]
    have HE : Hid (ChgP d (D.ref f) D w (.returned (.int .u8 (D.ref f))) w) := Lib.hid ⟨rfl, h, Kt.refl _ _ _⟩
    have hne : (D.ref f != 0) = true := by rw [bne_iff_ne]; exact hr
    generalize D.ref f = c at *
    clear HS HD hr h ho
    go_enter Try.func20, Try.ntmps20
    go_wp2_with fail
    refine C.out.mono ?_
    rintro e w' ⟨rfl, rfl⟩
    go_wp2
    go_ret
    exact HE.out
set_option maxRecDepth 100000 in
set_option maxHeartbeats 1000000 in
theorem clear_any (d : Nat) (D : Dv) (f : Int) (w : World) (h : Dk d D w) (ho : D.Ok) : Calls Try.prog 21 #[.pointer (some ⟨d, 0, none⟩), .int .i64 f] w (ChgP d (D.syncC f) (D.clear f) w) := by
  have hmf : ∀ (fn : Fn) (first cap : Array Value) (w : World), (Instr.makeFunc fn first cap).run Try.prog w = .ok (.func fn first cap) w := fun _ _ _ _ => rfl
  have C := Lib.hid (refused_any d D f w h)
  have hlt := h.lt
  have HS : Hid (D.syncC f = if D.ref f ≠ 0 then D.ref f else D.chgC) := Lib.hid rfl
  have HD : Hid (D.clear f = if D.ref f ≠ 0 then D else D.chg (Dv.upd (ix f) Fl.clear) id) := Lib.hid rfl
  by_cases hr : D.ref f = 0
  · rw [HS.out, HD.out, if_neg (show ¬ (D.ref f ≠ 0) from fun h => h hr), if_neg (show ¬ (D.ref f ≠ 0) from fun h => h hr)]
    rw [hr] at C
    have CH := Lib.hid (fun i hi W (hb : Below w.heap.size w W) cb hc => (chg_clear i hi d D W (h.below hb) ho cb hc).mono fun e w' he => chgP_of hlt hb he)
    have hf := ref_file hr
    clear HS HD hr h ho
    rcases hf with rfl | rfl
    · go_enter Try.func21, Try.ntmps21
      go_wp2_with fail
      refine C.out.mono ?_
      rintro e w' ⟨rfl, rfl⟩
      go_wp2_with fail
      refine (CH.out 0 (by omega) _ ((Below.refl _ _).alloc (Nat.le_refl _) _) w.heap.size (heap_alloc_new w _)).mono ?_
      rintro e w2 he
      have HE := Lib.hid he
      obtain ⟨rfl, -⟩ := he
      clear CH C
      go_wp2_with fail
      go_ret
      exact HE.out
    · go_enter Try.func21, Try.ntmps21
      go_wp2_with fail
      refine C.out.mono ?_
      rintro e w' ⟨rfl, rfl⟩
      go_wp2_with fail
      refine (CH.out 1 (by omega) _ ((Below.refl _ _).alloc (Nat.le_refl _) _) w.heap.size (heap_alloc_new w _)).mono ?_
      rintro e w2 he
      have HE := Lib.hid he
      obtain ⟨rfl, -⟩ := he
      clear CH C
      go_wp2_with fail
      go_ret
      exact HE.out
  · rw [HS.out, HD.out, if_pos hr, if_pos hr]
    have HE : Hid (ChgP d (D.ref f) D w (.returned (.int .u8 (D.ref f))) w) := Lib.hid ⟨rfl, h, Kt.refl _ _ _⟩
    have hne : (D.ref f != 0) = true := by rw [bne_iff_ne]; exact hr
    generalize D.ref f = c at *
    clear HS HD hr h ho
    go_enter Try.func21, Try.ntmps21
    go_wp2_with fail
    refine C.out.mono ?_
    rintro e w' ⟨rfl, rfl⟩
    go_wp2
    go_ret
    exact HE.out
set_option maxRecDepth 100000 in
set_option maxHeartbeats 1000000 in
theorem append_any (d : Nat) (D : Dv) (f : Int) (s : ByteArray) (w : World) (h : Dk d D w) (ho : D.Ok) : Calls Try.prog 16 #[.pointer (some ⟨d, 0, none⟩), .int .i64 f, .string s] w (ChgP d (D.appC f s.data.toList) (D.app f s.data.toList) w) := by
  have hmf : ∀ (fn : Fn) (first cap : Array Value) (w : World), (Instr.makeFunc fn first cap).run Try.prog w = .ok (.func fn first cap) w := fun _ _ _ _ => rfl
  have hlt := h.lt
  have hb0 : Below w.heap.size w (w.alloc (.cells #[.string s] 9)) := (Below.refl _ _).alloc (Nat.le_refl _) _
  have C := Lib.hid (refused_any d D f _ (h.below hb0))
  have hlen : s.data.toList.length = s.size := by rw [Array.length_toList]; rfl
  have HS : Hid (D.appC f s.data.toList = if D.ref f ≠ 0 then D.ref f else if D.room < (s.size : Int) then 241 else if s.data.toList = [] then 0 else D.chgC) := Lib.hid (by unfold Dv.appC; rw [hlen])
  have HD : Hid (D.app f s.data.toList = if D.ref f ≠ 0 then D else if D.room < (s.size : Int) then D else if s.data.toList = [] then D else D.chg (Dv.upd (ix f) (Fl.app s.data.toList)) (Dv.upd (ix f) (Fl.app s.data.toList))) := Lib.hid (by unfold Dv.app; rw [hlen])
  by_cases hr : D.ref f = 0
  · rw [HS.out, HD.out, if_neg (show ¬ (D.ref f ≠ 0) from fun h => h hr), if_neg (show ¬ (D.ref f ≠ 0) from fun h => h hr)]
    rw [hr] at C
    have CR := Lib.hid (fun W (hb : Below w.heap.size w W) => (room_any d D W (h.below hb) ho).mono fun e w' he => (⟨he.1, he.2.symm⟩ : e = .returned (.int .i64 D.room) ∧ w' = W))
    have HB : Hid (∀ n, Below w.heap.size w ((w.alloc (.cells #[.string s] 9)).drewN n)) := Lib.hid fun n => hb0.trans ((drewN_below _ _ _))
    by_cases hrm : D.room < (s.size : Int)
    · rw [if_pos hrm, if_pos hrm]
      have HE : Hid (∀ n, ChgP d 241 D w (.returned (.int .u8 241)) ((w.alloc (.cells #[.string s] 9)).drewN n)) := Lib.hid fun n => ⟨rfl, h.below (HB.out n), Kt.of_below (Nat.le_of_lt hlt) (HB.out n)⟩
      generalize D.room = rm at *
      clear HS HD hr h ho hlen
      go_enter Try.func16, Try.ntmps16
      go_wp2_with fail
      refine C.out.mono ?_
      rintro e w' ⟨rfl, rfl⟩
      go_wp2_with fail
      go_quiet ((go_at_call 33; refine Calls.quiet_of_same (CR.out _ ?_); exact HB.out _))
      go_wp2_with fail
      go_ret
      exact HE.out _
    · rw [if_neg hrm, if_neg hrm]
      by_cases hs0 : s.size = 0
      · have hs1 : s.data.toList = [] := (nil_arr s).2 hs0
        have hs2 : s = ⟨#[]⟩ := by apply ByteArray.ext; apply Array.toList_inj.1; exact hs1
        rw [if_pos hs1, if_pos hs1]
        have HE : Hid (∀ n, ChgP d 0 D w (.returned (.int .u8 0)) ((w.alloc (.cells #[.string s] 9)).drewN n)) := Lib.hid fun n => ⟨rfl, h.below (HB.out n), Kt.of_below (Nat.le_of_lt hlt) (HB.out n)⟩
        subst hs2
        generalize D.room = rm at *
        clear HS HD hr h ho hlen hs0 hs1
        go_enter Try.func16, Try.ntmps16
        go_wp2_with fail
        refine C.out.mono ?_
        rintro e w' ⟨rfl, rfl⟩
        go_wp2_with fail
        go_quiet ((go_at_call 33; refine Calls.quiet_of_same (CR.out _ ?_); exact HB.out _))
        go_wp2_with fail
        go_ret
        exact HE.out _
      · have hs1 : s.data.toList ≠ [] := fun e => hs0 ((nil_arr s).1 e)
        rw [if_neg hs1, if_neg hs1]
        have hs3 : (s.toList == []) = false := by
          rw [ByteArray.toList_eq]
          simpa using hs1
        have CH := Lib.hid (fun i hi W (hb : Below w.heap.size w W) cb sb hc hs => (chg_app i hi d D s W (h.below hb) ho (by omega) (by omega) cb sb hc hs).mono fun e w' he => chgP_of hlt hb he)
        have hf := ref_file hr
        generalize D.room = rm at *
        clear HS HD hr h ho hs0 hs1
        rcases hf with rfl | rfl
        · go_enter Try.func16, Try.ntmps16
          go_wp2_with fail
          refine C.out.mono ?_
          rintro e w' ⟨rfl, rfl⟩
          go_wp2_with fail
          go_quiet ((go_at_call 33; refine Calls.quiet_of_same (CR.out _ ?_); exact HB.out _))
          go_wp2_with fail
          refine (CH.out 0 (by omega) _ ((HB.out nq).trans ((Below.refl _ _).alloc (by simp [World.drewN]) _)) (w.heap.size + 1) w.heap.size (by have := heap_alloc_new ((w.alloc (.cells #[.string s] 9)).drewN nq) (.cells #[.pointer (some ⟨d, 0, none⟩)] 65); simpa [World.drewN] using this) ((Below.heap_alloc _ _ _ (by simp [World.drewN])).trans (heap_alloc_new w _))).mono ?_
          rintro e w2 he
          have HE := Lib.hid he
          obtain ⟨rfl, -⟩ := he
          clear CH C CR HB
          go_wp2_with fail
          go_ret
          exact HE.out
        · go_enter Try.func16, Try.ntmps16
          go_wp2_with fail
          refine C.out.mono ?_
          rintro e w' ⟨rfl, rfl⟩
          go_wp2_with fail
          go_quiet ((go_at_call 33; refine Calls.quiet_of_same (CR.out _ ?_); exact HB.out _))
          go_wp2_with fail
          refine (CH.out 1 (by omega) _ ((HB.out nq).trans ((Below.refl _ _).alloc (by simp [World.drewN]) _)) (w.heap.size + 1) w.heap.size (by have := heap_alloc_new ((w.alloc (.cells #[.string s] 9)).drewN nq) (.cells #[.pointer (some ⟨d, 2, none⟩)] 65); simpa [World.drewN] using this) ((Below.heap_alloc _ _ _ (by simp [World.drewN])).trans (heap_alloc_new w _))).mono ?_
          rintro e w2 he
          have HE := Lib.hid he
          obtain ⟨rfl, -⟩ := he
          clear CH C CR HB
          go_wp2_with fail
          go_ret
          exact HE.out
  · rw [HS.out, HD.out, if_pos hr, if_pos hr]
    have HE : Hid (ChgP d (D.ref f) D w (.returned (.int .u8 (D.ref f))) (w.alloc (.cells #[.string s] 9))) := Lib.hid ⟨rfl, h.below hb0, Kt.of_below (Nat.le_of_lt hlt) hb0⟩
    have hne : (D.ref f != 0) = true := by rw [bne_iff_ne]; exact hr
    generalize D.ref f = c at *
    clear HS HD hr h ho hlen
    go_enter Try.func16, Try.ntmps16
    go_wp2_with fail
    refine C.out.mono ?_
    rintro e w' ⟨rfl, rfl⟩
    go_wp2_with fail
    go_ret
    exact HE.out
end Go.Proofs.Ytdgljfoghonbaaa
