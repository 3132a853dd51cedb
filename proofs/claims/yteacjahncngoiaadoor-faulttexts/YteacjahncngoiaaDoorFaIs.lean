/- errors.Is at what Of makes: whether a fault of that code is in an error. -/
import Derived.Test.YteacjahncngoiaaDoorFaChain
import Derived.BigQuiet
import Derived.Deep.QuietTactic
namespace Go.Proofs.YteacjahncngoiaaDoor
open Go.RowKit Go.Extern.Stop Go.Stop Go.Extern FA

/-- The model's entry for (rtype).Comparable. -/
noncomputable def cmpE : Array Value → Sem Value := (Extern.find Tryd.f91).getD (fun _ => pure (.bool true))
theorem comparableF (w : World) : (cmpE #[.agg #[.pointer (some ⟨4, 47, none⟩)]]).run Tryd.prog w = .ok (.bool true) w := by kernel_rfl
theorem mComparable (v : Value) (w : World) : (Go.method 261 97 v "Comparable").run Tryd.prog w = .ok (91, v) w := by kernel_rfl

set_option maxHeartbeats 1000000 in
/-- (*Fault).Is at what Of makes. -/
theorem fis_w (b tb : Nat) (c d : Int) (w : World) (h0 : w.cell? ⟨b, 0, none⟩ = some (.int .u8 d)) (t0 : w.cell? ⟨tb, 0, none⟩ = some (.int .u8 c)) (t1 : w.cell? ⟨tb, 1, none⟩ = some (.string ⟨#[]⟩)) (t2 : w.cell? ⟨tb, 2, none⟩ = some .nilIface) :
    Calls Tryd.prog 23 #[.pointer (some ⟨b, 0, none⟩), .iface 47 (.pointer (some ⟨tb, 0, none⟩))] w fun e w' => e = .returned (.bool (c == d)) ∧ Below w.heap.size w w' := by
  go_enter Tryd.func23, Tryd.ntmps23
  go_wp2_with fail
  refine (asfault_w _ _).mono ?_
  rintro e w1 ⟨rfl, rfl⟩
  go_wp2
  go_quiet (fail)
  go_wp2
  go_ret
  exact ⟨rfl, rfl, rfl, rfl, Nat.le_refl _, fun _ _ => rfl⟩

theorem fis_nil (v : Value) (p : Value) (w : World) (hv : v = .iface 47 p) :
    Calls Tryd.prog 23 #[.pointer none, v] w fun e w' => e = .returned (.bool false) ∧ w = w' := by
  subst hv
  go_enter Tryd.func23, Tryd.ntmps23
  go_wp2_with fail
  refine (asfault_w _ _).mono ?_
  rintro e w1 ⟨rfl, rfl⟩
  go_wp2
  go_ret
  exact ⟨rfl, rfl⟩

theorem x_comparable (args : Array Value) (w : World) : (callFunc 91 args).run Tryd.prog w = ((cmpE args).run Tryd.prog w).andThen fun v w' => .ok (.value v) w' :=
  run_callFunc_extern Tryd.func91 (by kernel_rfl) (by kernel_rfl) (by kernel_rfl) (by kernel_rfl) args w

set_option maxRecDepth 100000 in
set_option maxHeartbeats 4000000 in
theorem is_any (B tb c : Nat) (hBt : B ≤ tb) : ∀ (n : Nat) (e : E), sz e ≤ n → n ≤ 1000000 → ∀ (v : Value) (w : World), RepE w B e v → B ≤ w.heap.size →
    w.heap[tb]? = some (.cells #[.int .u8 c, .string ⟨#[]⟩, .nilIface] 51 (0, 0)) →
    Calls Tryd.prog 34 #[v, .iface 47 (.pointer (some ⟨tb, 0, none⟩)), .bool true] w fun en w' => en = .returned (.bool (has c e)) ∧ Below w.heap.size w w'
  | 0, e, hz, _, _, _, _, _, _ => by have := sz_pos e; omega
  | n + 1, e, hz, hn, v, w, h, hB, ht => by
    have htl : tb < w.heap.size := lt_heap ht
    have Ht := Lib.hid ht
    have IH := Lib.hid (is_any B tb c hBt n)
    have HW := Lib.hid h
    obtain ⟨i, hi, hcmp⟩ := Option.map_eq_some_iff.1 ptrComp
    obtain ⟨j, hj, hjs⟩ := Option.map_eq_some_iff.1 faultSize
    have i1 := isF; have i2 := isJ; have i3 := isO; have u1 := unF; have u2 := unJ; have u3 := unO; have s1 := usJ; have s2 := usO
    have m1 := mIsF; have m2 := mUnF; have m3 := mUnJ
    obtain ⟨tv, bv, rfl⟩ := RepE.iface h
    clear ht h
    go_enter Tryd.func34, Tryd.ntmps34
    go_wp2
    go_loopw [0] (fun v' wr => ∃ e', Hid (RepE w B e' v') ∧ Hid (has c e = has c e') ∧ Hid (sz e' ≤ n + 1) ∧ Hid (Below w.heap.size w wr)) (fun v' _ => chain w (n + 1) v')
    case atStart => exact ⟨e, HW, Lib.hid rfl, Lib.hid hz, Lib.hid (Below.refl _ _)⟩
    case round =>
      obtain ⟨e', hr, hh, hz', hb⟩ := hrel
      have hsr : w.heap.size ≤ wr.heap.size := hb.out.size
      have hch := Lib.hid (chain_eq (w := w) (B := B) (n + 1) e' _ hz'.out hr.out)
      have htr : Hid (wr.heap[tb]? = some (.cells #[.int .u8 c, .string ⟨#[]⟩, .nilIface] 51 (0, 0))) := (hb.out.block tb htl).trans Ht.out
      cases e' with
      | other s =>
        have hr' := hr.out
        simp only [RepE] at hr'
        obtain ⟨b, rfl, hlt, hbk⟩ := hr'
        have hty := run_eql_iface_types (P := Tryd.prog) 93 47 (.pointer (some ⟨b, 0, none⟩)) (.pointer (some ⟨tb, 0, none⟩)) Tryd.underlying24 (by decide) wr
        have H := Lib.hid hbk
        clear hbk
        go_wp2
        go_ret
        exact ⟨by rw [hh.out]; rfl, hb.out⟩
      | leaf d s =>
        have hr' := hr.out
        simp only [RepE] at hr'
        obtain ⟨b, rfl, hlt, hbk⟩ := hr'
        have hbk2 := (hb.out.block b (by omega)).trans hbk
        have heq := run_eql_iface_ptr_other (P := Tryd.prog) wr (a := ⟨b, 0, none⟩) (b := ⟨tb, 0, none⟩) Tryd.underlying24 Tryd.underlying47 hi hcmp hj (by simp [hjs]) (by intro hx; cases hx; omega) hbk2 htr.out
        have C := Lib.hid (fis_w b tb c d wr (by rw [cell_heap hbk2]; rfl) (by rw [cell_heap htr.out]; rfl) (by rw [cell_heap htr.out]; rfl) (by rw [cell_heap htr.out]; rfl))
        have c2 : Hid (wr.cell? ⟨b, 2, none⟩ = some .nilIface) := by rw [cell_heap hbk2]; rfl
        clear hbk hbk2
        by_cases hcd : d = c
        · have hq : ((c : Int) == (d : Int)) = true := by simp [hcd]
          have H1 : Hid (has c (.leaf d s) = true) := Lib.hid (by simp [has, hcd])
          clear hcd
          go_wp2_with fail
          refine C.out.mono ?_
          rintro en w1 ⟨rfl, b1⟩
          have B1 := Lib.hid b1
          clear b1 C
          go_wp2
          go_ret
          exact ⟨by rw [hh.out, H1.out]; rfl, hb.out.trans (B1.out.mono hsr)⟩
        · have hq : ((c : Int) == (d : Int)) = false := by rw [beq_eq_false_iff_ne]; omega
          have H1 : Hid (has c (.leaf d s) = false) := Lib.hid (by simp [has, hcd])
          clear hcd
          go_wp2_with fail
          refine C.out.mono ?_
          rintro en w1 ⟨rfl, b1⟩
          have B1 := Lib.hid b1
          have C2 := Lib.hid (unwrap_w b .nilIface w1 (by rw [b1.cell (p := ⟨b, 2, none⟩) (by simp; omega)]; exact c2.out))
          clear b1 C
          go_wp2_with fail
          refine C2.out.mono ?_
          rintro en w2 ⟨rfl, rfl⟩
          clear C2
          go_wp2
          go_ret
          exact ⟨by rw [hh.out, H1.out]; rfl, hb.out.trans (B1.out.mono hsr)⟩
      | wrap d s k =>
        have hr' := hr.out
        simp only [RepE] at hr'
        obtain ⟨b, u, rfl, hlt, hbk, hk⟩ := hr'
        have hbk2 := (hb.out.block b (by omega)).trans hbk
        have heq := run_eql_iface_ptr_other (P := Tryd.prog) wr (a := ⟨b, 0, none⟩) (b := ⟨tb, 0, none⟩) Tryd.underlying24 Tryd.underlying47 hi hcmp hj (by simp [hjs]) (by intro hx; cases hx; omega) hbk2 htr.out
        have C := Lib.hid (fis_w b tb c d wr (by rw [cell_heap hbk2]; rfl) (by rw [cell_heap htr.out]; rfl) (by rw [cell_heap htr.out]; rfl) (by rw [cell_heap htr.out]; rfl))
        have c2 : Hid (wr.cell? ⟨b, 2, none⟩ = some u) := by rw [cell_heap hbk2]; rfl
        have Hk := Lib.hid hk
        obtain ⟨tu, bu, rfl⟩ := RepE.iface hk
        clear hbk hbk2 hk
        by_cases hcd : d = c
        · have hq : ((c : Int) == (d : Int)) = true := by simp [hcd]
          have H1 : Hid (has c (.wrap d s k) = true) := Lib.hid (by simp [has, hcd])
          clear hcd
          go_wp2_with fail
          refine C.out.mono ?_
          rintro en w1 ⟨rfl, b1⟩
          have B1 := Lib.hid b1
          clear b1 C
          go_wp2
          go_ret
          exact ⟨by rw [hh.out, H1.out]; rfl, hb.out.trans (B1.out.mono hsr)⟩
        · have hq : ((c : Int) == (d : Int)) = false := by rw [beq_eq_false_iff_ne]; omega
          have H1 : Hid (has c (.wrap d s k) = has c k) := Lib.hid (by simp [has, hcd])
          clear hcd
          go_wp2_with fail
          refine C.out.mono ?_
          rintro en w1 ⟨rfl, b1⟩
          have B1 := Lib.hid b1
          have C2 := Lib.hid (unwrap_w b _ w1 (by rw [b1.cell (p := ⟨b, 2, none⟩) (by simp; omega)]; exact c2.out))
          clear b1 C
          go_wp2_with fail
          refine C2.out.mono ?_
          rintro en w2 ⟨rfl, rfl⟩
          clear C2
          go_wp2
          go_roundw
          case rel => exact ⟨k, Hk, Lib.hid (hh.out.trans H1.out), Lib.hid (by have := hz'.out; simp only [sz] at this; omega), Lib.hid (hb.out.trans (B1.out.mono hsr))⟩
          case measure =>
            have h1 := chain_eq (w := w) (B := B) (n + 1) k _ (by have := hz'.out; simp only [sz] at this; omega) Hk.out
            have h2 := hch.out
            simp only [link] at h2
            rw [h1, h2]; omega
      | many l =>
        have hr' := hr.out
        simp only [RepE] at hr'
        obtain ⟨b, g, cap, us, rfl, hlt, hbk, hg, hl0, hlc, hcm, hus, hl⟩ := hr'
        have hty := run_eql_iface_types (P := Tryd.prog) 90 47 (.pointer (some ⟨b, 0, none⟩)) (.pointer (some ⟨tb, 0, none⟩)) Tryd.underlying24 (by decide) wr
        have hszl : szL l ≤ n := by have := hz'.out; simp only [sz] at this; omega
        have hlen := len_szL l
        have CU := Lib.hid (junwrap_row b g l.length cap us wr (by rw [hb.out.cell (p := ⟨b, 0, none⟩) (by simp; omega), cell_heap hbk]; rfl) (by omega) (RepL.length hl) (by omega)
          (fun i u hu => by rw [hb.out.cell (p := ⟨g, i, none⟩) (by simp; omega)]; exact hus i u hu) (RepL.one hl))
        have Hl := Lib.hid hl
        clear hbk hus hl
        go_wp2_with fail
        refine CU.out.mono ?_
        rintro en w1 ⟨v1, rfl, hown1, hb1⟩
        obtain ⟨g1, cap1, rfl, hg1, hg1'⟩ := hown1.form hl0
        have Hc1 := Lib.hid (hown1.cells (g := g1) rfl)
        have B1 : Hid (Below w.heap.size w w1) := hb.out.trans (hb1.mono hsr)
        have hs1 : wr.heap.size ≤ w1.heap.size := hb1.size
        clear hown1 CU hb1
        go_wp2
        go_loopw [45] (fun i wq => ∃ k : Nat, i = .int .i64 k ∧ k ≤ l.length ∧ Hid (hasL c (l.drop k) = hasL c l) ∧ Hid (Below w1.heap.size w1 wq))
          (fun i _ => l.length - (intOf i).toNat)
        case atStart => exact ⟨0, rfl, by omega, Lib.hid rfl, Lib.hid (Below.refl _ _)⟩
        case round =>
          obtain ⟨k, rfl, hk, hk1, hbq⟩ := hrel
          have hbw : Hid (Below w.heap.size w wr) := B1.out.trans (hbq.out.mono (by omega))
          have hsq : w1.heap.size ≤ wr.heap.size := hbq.out.size
          by_cases hlt2 : k < l.length
          · obtain ⟨ek, hek⟩ : ∃ ek, l[k]? = some ek := ⟨l[k], List.getElem?_eq_getElem hlt2⟩
            obtain ⟨u, hu, hru⟩ := RepL.at_ Hl.out hek
            obtain ⟨tu, bu, rfl⟩ := RepE.iface hru
            have c1 : wr.cell? ⟨g1, k, none⟩ = some (.iface tu (.pointer (some ⟨bu, 0, none⟩))) := by rw [hbq.out.cell (p := ⟨g1, k, none⟩) hg1', ← add0]; exact Hc1.out k _ hu
            have C := Lib.hid (IH.out ek (by have := szL_mem (List.mem_of_getElem? hek); omega) (by omega) _ wr (RepE.below (hbw.out.mono hB) _ _ hru) (by omega) ((hbw.out.block tb htl).trans Ht.out))
            have H1 := Lib.hid (hasL_at (c := c) hek)
            clear hek hu hru
            cases hq : has c ek with
            | true =>
              rw [hq] at C H1
              clear hq
              go_wp2_with fail
              refine C.out.mono ?_
              rintro en w2 ⟨rfl, b2⟩
              have B2 := Lib.hid b2
              clear b2 C
              go_wp2
              go_ret
              refine ⟨?_, hbw.out.trans (B2.out.mono (by omega))⟩
              have e1 := hh.out; have e2 := hk1.out; have e3 := H1.out
              simp only [has] at e1
              rw [e1, ← e2, e3]; rfl
            | false =>
              rw [hq] at C H1
              clear hq
              go_wp2_with fail
              refine C.out.mono ?_
              rintro en w2 ⟨rfl, b2⟩
              have B2 := Lib.hid b2
              clear b2 C
              go_wp2
              go_roundw
              case rel => exact ⟨k + 1, by go_num, by omega, Lib.hid (by rw [← hk1.out, H1.out, Bool.false_or]), Lib.hid (hbq.out.trans (B2.out.mono hsq))⟩
              case measure => simp [intOf]; omega
          · have H1 := Lib.hid (hasL_end c l)
            have hkl : k = l.length := by omega
            subst hkl
            go_wp2
            go_ret
            refine ⟨?_, hbw.out⟩
            have e1 := hh.out; have e2 := hk1.out; have e3 := H1.out
            simp only [has] at e1
            rw [e1, ← e2, e3]; rfl
end Go.Proofs.YteacjahncngoiaaDoor
