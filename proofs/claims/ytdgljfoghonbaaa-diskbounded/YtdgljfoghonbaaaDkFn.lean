/- The disk's faces that read, and those that set plain fields. -/
import Derived.Test.YtdgljfoghonbaaaDkSmall
namespace Go.Proofs.Ytdgljfoghonbaaa
open Go.RowKit DK

set_option maxRecDepth 100000 in
theorem off_nil (w : World) : Calls Try.prog 15 #[.pointer none] w fun e w' => e = .returned (.bool false) ∧ w = w' := by
  go_enter Try.func15, Try.ntmps15
  go_wp2
  go_ret
  exact ⟨rfl, rfl⟩
set_option maxRecDepth 100000 in
theorem off_any (d : Nat) (D : Dv) (w : World) (h : Dk d D w) : Calls Try.prog 15 #[.pointer (some ⟨d, 0, none⟩)] w fun e w' => e = .returned (.bool D.off) ∧ w = w' := by
  obtain ⟨va, vb, h⟩ := h
  obtain ⟨-, -, -, -, -, c5, -, -, -, -⟩ := h.cells
  clear h
  generalize D.off = o at *
  go_enter Try.func15, Try.ntmps15
  go_wp2
  go_ret
  exact ⟨rfl, rfl⟩
theorem on_nil (w : World) : Calls Try.prog 19 #[.pointer none] w fun e w' => e = .returned (.tuple #[]) ∧ w = w' := by
  go_enter Try.func19, Try.ntmps19
  go_wp2
  refine bodyPost_ret (results_none rfl _ _ _) rfl ?_
  exact ⟨rfl, rfl⟩
set_option maxRecDepth 100000 in
theorem on_any (d : Nat) (D : Dv) (w : World) (h : Dk d D w) : Calls Try.prog 19 #[.pointer (some ⟨d, 0, none⟩)] w fun e w' => e = .returned (.tuple #[]) ∧ Dk d D.on w' ∧ Kt 5 d w w' := by
  obtain ⟨va, vb, h⟩ := h
  have h1 := h.set (D' := { D with off := false }) 5 (.bool false) rfl rfl rfl
  have h2 := h1.set (D' := { D with off := false, cut := 0 }) 6 (.int .i64 0) rfl rfl rfl
  have h3 := h2.set (D' := { D with off := false, cut := 0, full := 0 }) 9 (.int .i64 0) rfl rfl rfl
  have H3 : Hid (Dk d D.on (((w.setCell ⟨d, 5, none⟩ (.bool false)).setCell ⟨d, 6, none⟩ (.int .i64 0)).setCell ⟨d, 9, none⟩ (.int .i64 0))) := Lib.hid ⟨va, vb, h3⟩
  have HK : Hid (Kt 5 d w (((w.setCell ⟨d, 5, none⟩ (.bool false)).setCell ⟨d, 6, none⟩ (.int .i64 0)).setCell ⟨d, 9, none⟩ (.int .i64 0))) := Lib.hid ((((Kt.refl _ _ _).setCell _ _).setCell _ _).setCell _ _)
  obtain ⟨-, -, -, -, -, c5, c6, -, -, c9⟩ := h.cells
  have f5 := h.loose 5
  have f6 := h.loose 6
  have f9 := h.loose 9
  clear h h1 h2 h3
  go_enter Try.func19, Try.ntmps19
  go_wp2
  go_end0
  exact ⟨rfl, H3.out, HK.out⟩
theorem break_nil (n : Int) (w : World) : Calls Try.prog 18 #[.pointer none, .int .i64 n] w fun e w' => e = .returned (.tuple #[]) ∧ w = w' := by
  go_enter Try.func18, Try.ntmps18
  go_wp2
  refine bodyPost_ret (results_none rfl _ _ _) rfl ?_
  exact ⟨rfl, rfl⟩
set_option maxRecDepth 100000 in
theorem break_any (d : Nat) (D : Dv) (n : Int) (w : World) (h : Dk d D w) : Calls Try.prog 18 #[.pointer (some ⟨d, 0, none⟩), .int .i64 n] w fun e w' => e = .returned (.tuple #[]) ∧ Dk d (D.breaks n) w' ∧ Kt 5 d w w' := by
  obtain ⟨va, vb, h⟩ := h
  have H1 : Hid (Dk d (D.breaks n) (w.setCell ⟨d, 9, none⟩ (.int .i64 n))) := Lib.hid ⟨va, vb, h.set 9 (.int .i64 n) rfl rfl rfl⟩
  have HK : Hid (Kt 5 d w (w.setCell ⟨d, 9, none⟩ (.int .i64 n))) := Lib.hid ((Kt.refl _ _ _).setCell _ _)
  obtain ⟨-, -, -, -, -, -, -, -, -, c9⟩ := h.cells
  have f9 := h.loose 9
  clear h
  go_enter Try.func18, Try.ntmps18
  go_wp2
  go_end0
  exact ⟨rfl, H1.out, HK.out⟩

set_option maxRecDepth 100000 in
theorem room_any (d : Nat) (D : Dv) (w : World) (h : Dk d D w) (hk : D.Ok) : Calls Try.prog 33 #[.pointer (some ⟨d, 0, none⟩)] w fun e w' => e = .returned (.int .i64 D.room) ∧ w = w' := by
  obtain ⟨va, vb, h⟩ := h
  obtain ⟨c0, -, c2, -, c4, -, -, -, -, -⟩ := h.cells
  obtain ⟨Aa, ca, rfl⟩ := own_form h.2.1
  obtain ⟨Ab, cb, rfl⟩ := own_form h.2.2.1
  obtain ⟨-, -, k3, k4, -⟩ := hk
  have hr : D.room = (D.lim : Int) - (D.a.s.length : Int) - (D.b.s.length : Int) := rfl
  rw [hr]
  generalize D.a.s.length = na at *
  generalize D.b.s.length = nb at *
  generalize D.lim = lim at *
  clear h hr
  go_enter Try.func33, Try.ntmps33
  go_wp2
  refine wp_loop_rounds 3 ?_
  iterate 3 (rw [rounds_succ]; go_wp2)
  go_ret
  exact ⟨rfl, rfl⟩

theorem lasts_nil (f : Int) (w : World) : Calls Try.prog 13 #[.pointer none, .int .i64 f] w fun e w' => e = .returned (.int .i64 0) ∧ w = w' := by
  go_enter Try.func13, Try.ntmps13
  go_wp2
  go_ret
  exact ⟨rfl, rfl⟩
set_option maxRecDepth 100000 in
theorem lasts_any (d : Nat) (D : Dv) (f : Int) (w : World) (h : Dk d D w) : Calls Try.prog 13 #[.pointer (some ⟨d, 0, none⟩), .int .i64 f] w fun e w' => e = .returned (.int .i64 (D.last f)) ∧ w = w' := by
  obtain ⟨va, vb, h⟩ := h
  obtain ⟨-, c1, -, c3, -, -, -, -, -, -⟩ := h.cells
  have C := Lib.hid (isFile_any f)
  clear h
  by_cases hf : fileB f = true
  · rw [hf] at C
    rcases fileB_cases hf with rfl | rfl
    · rw [show D.last 0 = D.a.l from rfl]
      generalize D.a.l = la at *
      clear hf
      go_enter Try.func13, Try.ntmps13
      go_wp2_with fail
      refine (C.out _).mono ?_
      rintro e w' ⟨rfl, rfl⟩
      go_wp2
      go_ret
      exact ⟨rfl, rfl⟩
    · rw [show D.last 1 = D.b.l from rfl]
      generalize D.b.l = lb at *
      clear hf
      go_enter Try.func13, Try.ntmps13
      go_wp2_with fail
      refine (C.out _).mono ?_
      rintro e w' ⟨rfl, rfl⟩
      go_wp2
      go_ret
      exact ⟨rfl, rfl⟩
  · have hf' : fileB f = false := by simpa using hf
    rw [hf'] at C
    have hl : D.last f = 0 := by unfold Dv.last; rw [if_neg hf]
    rw [hl]
    clear hf hf' hl
    go_enter Try.func13, Try.ntmps13
    go_wp2_with fail
    refine (C.out _).mono ?_
    rintro e w' ⟨rfl, rfl⟩
    go_wp2
    go_ret
    exact ⟨rfl, rfl⟩

/-- The bytes of a row, as a string. -/
theorem conv_row (w : World) (B : Nat) (v : Value) (l : List UInt8) (h : w.ownsRow B 5 1 v l.length (Lib.byteCells l)) : (convert 47 9 v).run Try.prog w = .ok (.string ⟨l.toArray⟩) w := by
  have HO := h
  rcases h.2 with ⟨rfl, h0⟩ | ⟨g, cap, cur, rfl, -⟩
  · have : l = [] := List.eq_nil_of_length_eq_zero h0
    subst this
    exact run_convert_bytes_nil w 47 5 Try.underlying47 Try.underlying5 0 0 9 Try.underlying9
  · have e : (⟨l.toArray⟩ : ByteArray) = strOfNums (l.map fun b => (b.toNat : Int)) := by
      apply ByteArray.ext
      apply Array.toList_inj.1
      rw [strOfNums_data, List.map_map]
      show l = _
      conv => lhs; rw [← List.map_id l]
      refine List.map_congr_left fun b _ => ?_
      simp
    rw [e]
    refine run_convert_bytes_arg w 47 5 Try.underlying47 Try.underlying5 g 0 l.length cap _ (by simp) (fun i hi => ?_) 9 Try.underlying9
    have := HO.cells (g := g) rfl i (.int .u8 (l[i].toNat : Int)) (by rw [Lib.byteCells, List.getElem?_map, List.getElem?_eq_getElem hi]; rfl)
    rw [add0] at this
    rw [Nat.zero_add, this, List.getD_eq_getElem?_getD, List.getElem?_map, List.getElem?_eq_getElem hi]
    rfl

theorem read_nil (f : Int) (w : World) : Calls Try.prog 12 #[.pointer none, .int .i64 f] w fun e w' => e = .returned (.tuple #[.string ⟨#[]⟩, .int .u8 128]) ∧ w = w' := by
  have C := Lib.hid (refused_nil f)
  go_enter Try.func12, Try.ntmps12
  go_wp2_with fail
  refine (C.out _).mono ?_
  rintro e w' ⟨rfl, rfl⟩
  go_wp2
  go_ret2
  exact ⟨rfl, rfl⟩
set_option maxRecDepth 100000 in
theorem read_any (d : Nat) (D : Dv) (f : Int) (w : World) (h : Dk d D w) : Calls Try.prog 12 #[.pointer (some ⟨d, 0, none⟩), .int .i64 f] w fun e w' => e = .returned (.tuple #[.string ⟨(D.rd f).toArray⟩, .int .u8 (D.ref f)]) ∧ w = w' := by
  have C := Lib.hid (refused_any d D f w h)
  obtain ⟨va, vb, h⟩ := h
  obtain ⟨c0, -, c2, -, -, -, -, -, -, -⟩ := h.cells
  have ra := conv_row w d va _ h.2.1
  have rb := conv_row w d vb _ h.2.2.1
  clear h
  by_cases hr : D.ref f = 0
  · rw [hr] at C ⊢
    have hf : fileB f = true := by
      unfold Dv.ref at hr
      split at hr
      · cases hr
      · split at hr
        · assumption
        · cases hr
    have hd : D.rd f = (D.fl (ix f)).s := by unfold Dv.rd; rw [if_neg (by rw [hr]; decide)]
    rw [hd]
    clear hr hd
    rcases fileB_cases hf with rfl | rfl
    · rw [show (D.fl (ix 0)).s = D.a.s from rfl]
      clear hf
      go_enter Try.func12, Try.ntmps12
      go_wp2_with fail
      refine C.out.mono ?_
      rintro e w' ⟨rfl, rfl⟩
      go_wp2
      go_ret2
      exact ⟨rfl, rfl⟩
    · rw [show (D.fl (ix 1)).s = D.b.s from rfl]
      clear hf
      go_enter Try.func12, Try.ntmps12
      go_wp2_with fail
      refine C.out.mono ?_
      rintro e w' ⟨rfl, rfl⟩
      go_wp2
      go_ret2
      exact ⟨rfl, rfl⟩
  · have hd : D.rd f = [] := by unfold Dv.rd; rw [if_pos hr]
    rw [hd]
    have hne : (D.ref f != 0) = true := by rw [bne_iff_ne]; exact hr
    generalize D.ref f = c at *
    clear hr hd
    go_enter Try.func12, Try.ntmps12
    go_wp2_with fail
    refine C.out.mono ?_
    rintro e w' ⟨rfl, rfl⟩
    go_wp2
    go_ret2
    exact ⟨rfl, rfl⟩
set_option maxRecDepth 100000 in
theorem new_any (lim : Int) (w : World) : Calls Try.prog 7 #[.int .i64 lim] w fun e w' => e = .returned (.pointer (some ⟨w.heap.size, 0, none⟩)) ∧ Dk w.heap.size (newD lim) w' ∧ Below w.heap.size w w' := by
  have hm : ((min (max lim 0) 16777216).toNat : Int) = min (max lim 0) 16777216 := by omega
  have H1 : Hid (∀ L : Int, L = min (max lim 0) 16777216 → Dk w.heap.size (newD lim) (w.alloc (.cells #[.slice none 0 0, .int .i64 0, .slice none 0 0, .int .i64 0, .int .i64 L, .bool false, .int .i64 0, .int .i64 0, .int .i64 0, .int .i64 0] 52))) := Lib.hid (fun L hL => by
    subst hL
    have H0 := Dk.new w (min (max lim 0) 16777216).toNat
    rw [hm] at H0
    exact H0)
  clear hm
  go_enter Try.func7, Try.ntmps7
  go_wp2
  all_goals
    go_ret
    exact ⟨rfl, H1.out _ (by omega), (Below.refl _ _).alloc (Nat.le_refl _) _⟩
end Go.Proofs.Ytdgljfoghonbaaa
