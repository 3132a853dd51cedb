/- The writer's connect. (Written by wip/tools/gen_conn.py.) -/
import Derived.Test.YtemfcaaoobjgkaaGreatDoorPkSub
namespace Go.Proofs.YtemfcaaoobjgkaaGreatDoor
open Go.RowKit

set_option maxRecDepth 100000 in
set_option maxHeartbeats 8000000 in
theorem wconn_any (b N : Nat) (o : ByteArray × Int) (p : Pk) (vc vp vw vs vf : Value) (w : World) (h : WO b N o w) (hN : N ≤ 90) (hp : PkIn b w p vc vp vw vs vf) (hkind : p.kind = 1) :
    Calls Tryz.prog 47 #[.pointer (some ⟨b, 0, none⟩), .agg (pkCells p vc vp vw vs vf)] w (WP b 16777000 (PK.conn o p) w) := by
  obtain ⟨Ap, cp, rfl, hpr⟩ := hp.props
  obtain ⟨Aw, cw, rfl, hwr⟩ := hp.wprops
  obtain ⟨w0, k0, hb0⟩ := boxed h p vc (.slice Ap p.props.length cp) (.slice Aw p.wprops.length cw) vs vf
  have hne : w.heap.size ≠ b := by have := h.lt; omega
  have CT : Hid (∀ n O s W, n ≤ 990 → Short s → Kp b w W → WO b n O W → Calls Tryz.prog 56 #[.pointer (some ⟨b, 0, none⟩), .string s] W (WP b (n + 1) (PK.tx O s) W)) := fun n O s W hn hs hk hO => wtext_any b n O s W hO (by omega) hs (hp.tabs W hk.1)
  have CD : Hid (∀ n O s W, n ≤ 990 → Short s → WO b n O W → Calls Tryz.prog 81 #[.pointer (some ⟨b, 0, none⟩), .string s] W (WP b (n + 1) (PK.dt O s) W)) := fun n O s W hn hs hO => wdata_any b n O s W hO (by omega) hs
  have CN : Hid (∀ n O wd m W, n ≤ 990 → I64 m → WO b n O W → Calls Tryz.prog 48 #[.pointer (some ⟨b, 0, none⟩), .int .i64 wd, .int .i64 m] W (WP b (n + 1) (PK.nm O wd m) W)) := fun n O wd m W hn hm hO => wnumber_any b n O wd m W hO (by omega) hm
  have CF : Hid (∀ n O W, n ≤ 990 → WO b n O W → Calls Tryz.prog 80 #[.pointer (some ⟨b, 0, none⟩), .agg (pkCells p vc (.slice Ap p.props.length cp) (.slice Aw p.wprops.length cw) vs vf)] W (WP b (n + 1) (PK.cflags O p) W)) := fun n O W hn hO => wcflags_any b n O p _ _ _ _ _ W hO hn hp.fine
  have CP : Hid (∀ n O W, n ≤ 990 → Kp b w W → WO b n O W → Calls Tryz.prog 50 #[.pointer (some ⟨b, 0, none⟩), .int .i64 1, .slice Ap p.props.length cp] W (WP b (n + 1) (PK.pr O 1 p.props) W)) := fun n O W hn hk hO => wprops_any b n O 1 Ap cp p.props W hO (by omega) (fun W' hk' => hpr W' (hk.1.trans hk'.1)) (fun W' hk' => hp.tabs W' (hk.1.trans hk'.1))
  have CW : Hid (∀ n O W, n ≤ 990 → Kp b w W → WO b n O W → Calls Tryz.prog 50 #[.pointer (some ⟨b, 0, none⟩), .int .i64 0, .slice Aw p.wprops.length cw] W (WP b (n + 1) (PK.pr O 0 p.wprops) W)) := fun n O W hn hk hO => wprops_any b n O 0 Aw cw p.wprops W hO (by omega) (fun W' hk' => hwr W' (hk.1.trans hk'.1)) (fun W' hk' => hp.tabs W' (hk.1.trans hk'.1))
  have hs1 := hp.fine.client; have hs2 := hp.fine.wtopic; have hs3 := hp.fine.wpay; have hs4 := hp.fine.user; have hs5 := hp.fine.pass; have hkp := hp.fine.keep
  have hs0 : Short ⟨#[77, 81, 84, 84]⟩ := by unfold Short; decide
  have HS1 := Lib.hid hs1; have HS2 := Lib.hid hs2; have HS3 := Lib.hid hs3; have HS4 := Lib.hid hs4; have HS5 := Lib.hid hs5; have HKP := Lib.hid hkp; have HS0 := Lib.hid hs0
  have h15 : I64 5 := by unfold I64; decide
  have H15 := Lib.hid h15
  have K0 := Lib.hid k0
  have B0 := Lib.hid hb0
  have O0 := Lib.hid w0
  have HKI := Lib.hid hkind
  have E : Hid (PK.conn o p = PK.conn4 (PK.conn3 (PK.conn2 (PK.tx (PK.pr (PK.nm (PK.cflags (PK.nm (PK.tx o ⟨#[77, 81, 84, 84]⟩) 1 5) p) 2 p.keep) 1 p.props) p.client) p) p) p) := Lib.hid (by unfold PK.conn PK.conn1; rfl)
  generalize PK.conn o p = oe at *
  clear h hp hpr hwr w0 k0 hb0 hs0 hs1 hs2 hs3 hs4 hs5 hkp h15 hkind
  go_enter Tryz.func47, Tryz.ntmps47
  go_wp2_with fail
  refine (CT.out N o ⟨#[77, 81, 84, 84]⟩ _ (by omega) HS0.out K0.out O0.out).mono ?_
  rintro e w1 ⟨rfl, h1, x1⟩
  have K1 : Hid (Kp b w w1) := K0.out.trans x1
  have B1 := Lib.hid (boxed_kept (p := p) (vc := vc) (vp := .slice Ap p.props.length cp) (vw := .slice Aw p.wprops.length cw) (vs := vs) (vf := vf) x1 hne B0.out)
  have O1 := Lib.hid h1
  clear h1 x1
  go_wp2_with fail
  refine (CN.out (N + 1) _ 1 5 _ (by omega) H15.out O1.out).mono ?_
  rintro e w2 ⟨rfl, h2, x2⟩
  have K2 : Hid (Kp b w w2) := K1.out.trans x2
  have B2 := Lib.hid (boxed_kept (p := p) (vc := vc) (vp := .slice Ap p.props.length cp) (vw := .slice Aw p.wprops.length cw) (vs := vs) (vf := vf) x2 hne B1.out)
  have O2 := Lib.hid h2
  clear h2 x2
  go_wp2_with (refine wpl_load_pk (by rfl) (.tmp 3) (by rfl) w.heap.size (by rfl) B2.out ?_)
  refine (CF.out (N + 1 + 1) _ _ (by omega) O2.out).mono ?_
  rintro e w3 ⟨rfl, h3, x3⟩
  have K3 : Hid (Kp b w w3) := K2.out.trans x3
  have B3 := Lib.hid (boxed_kept (p := p) (vc := vc) (vp := .slice Ap p.props.length cp) (vw := .slice Aw p.wprops.length cw) (vs := vs) (vf := vf) x3 hne B2.out)
  have O3 := Lib.hid h3
  clear h3 x3
  obtain ⟨-, -, -, -, -, -, -, -, -, -, -, -, c12, -⟩ := pk_cells (p := p) (vc := vc) (vp := .slice Ap p.props.length cp) (vw := .slice Aw p.wprops.length cw) (vs := vs) (vf := vf) B3.out
  go_wp2_with fail
  refine (CN.out (N + 1 + 1 + 1) _ 2 p.keep _ (by omega) HKP.out O3.out).mono ?_
  rintro e w4 ⟨rfl, h4, x4⟩
  have K4 : Hid (Kp b w w4) := K3.out.trans x4
  have B4 := Lib.hid (boxed_kept (p := p) (vc := vc) (vp := .slice Ap p.props.length cp) (vw := .slice Aw p.wprops.length cw) (vs := vs) (vf := vf) x4 hne B3.out)
  have O4 := Lib.hid h4
  clear h4 x4 c12
  obtain ⟨c0, -, -, -, -, -, -, -, -, c9, -⟩ := pk_cells (p := p) (vc := vc) (vp := .slice Ap p.props.length cp) (vw := .slice Aw p.wprops.length cw) (vs := vs) (vf := vf) B4.out
  rw [HKI.out] at c0
  go_wp2_with fail
  refine (CP.out (N + 1 + 1 + 1 + 1) _ _ (by omega) K4.out O4.out).mono ?_
  rintro e w5 ⟨rfl, h5, x5⟩
  have K5 : Hid (Kp b w w5) := K4.out.trans x5
  have B5 := Lib.hid (boxed_kept (p := p) (vc := vc) (vp := .slice Ap p.props.length cp) (vw := .slice Aw p.wprops.length cw) (vs := vs) (vf := vf) x5 hne B4.out)
  have O5 := Lib.hid h5
  clear h5 x5 c0 c9
  obtain ⟨-, -, -, -, -, -, -, -, -, -, c10, -⟩ := pk_cells (p := p) (vc := vc) (vp := .slice Ap p.props.length cp) (vw := .slice Aw p.wprops.length cw) (vs := vs) (vf := vf) B5.out
  go_wp2_with fail
  refine (CT.out (N + 1 + 1 + 1 + 1 + 1) _ p.client _ (by omega) HS1.out K5.out O5.out).mono ?_
  rintro e w6 ⟨rfl, h6, x6⟩
  have K6 : Hid (Kp b w w6) := K5.out.trans x6
  have B6 := Lib.hid (boxed_kept (p := p) (vc := vc) (vp := .slice Ap p.props.length cp) (vw := .slice Aw p.wprops.length cw) (vs := vs) (vf := vf) x6 hne B5.out)
  have O6 := Lib.hid h6
  clear h6 x6 c10
  obtain ⟨-, -, -, -, -, -, -, -, -, -, -, -, -, c13, -⟩ := pk_cells (p := p) (vc := vc) (vp := .slice Ap p.props.length cp) (vw := .slice Aw p.wprops.length cw) (vs := vs) (vf := vf) B6.out
  generalize PK.tx (PK.pr (PK.nm (PK.cflags (PK.nm (PK.tx o ⟨#[77, 81, 84, 84]⟩) 1 5) p) 2 p.keep) 1 p.props) p.client = o6 at *
  clear CN CF CP
  cases hw : p.hasWill
  · as_aux_lemma =>
    rw [hw] at c13
    have E2 : Hid (PK.conn2 o6 p = o6) := Lib.hid (by unfold PK.conn2; rw [hw]; rfl)
    clear hw
    obtain ⟨-, -, -, -, -, -, -, -, -, -, -, -, -, -, -, -, -, -, -, c19, -⟩ := pk_cells (p := p) (vc := vc) (vp := .slice Ap p.props.length cp) (vw := .slice Aw p.wprops.length cw) (vs := vs) (vf := vf) B6.out
    cases hu : p.hasUser
    · as_aux_lemma =>
      rw [hu] at c19
      have E3 : Hid (∀ O, PK.conn3 O p = O) := Lib.hid (fun O => by unfold PK.conn3; rw [hu]; rfl)
      clear hu
      obtain ⟨-, -, -, -, -, -, -, -, -, -, -, -, -, -, -, -, -, -, -, -, c20, -⟩ := pk_cells (p := p) (vc := vc) (vp := .slice Ap p.props.length cp) (vw := .slice Aw p.wprops.length cw) (vs := vs) (vf := vf) B6.out
      cases hs : p.hasPass
      · as_aux_lemma =>
        rw [hs] at c20
        have E4 : Hid (∀ O, PK.conn4 O p = O) := Lib.hid (fun O => by unfold PK.conn4; rw [hs]; rfl)
        clear hs
        go_wp2
        go_end0
        exact ⟨rfl, by rw [E.out, E2.out, E3.out, E4.out]; exact O6.out.mono (by omega), K6.out⟩
      · as_aux_lemma =>
        rw [hs] at c20
        have E4 : Hid (∀ O, PK.conn4 O p = PK.dt O p.pass) := Lib.hid (fun O => by unfold PK.conn4; rw [hs]; rfl)
        clear hs
        obtain ⟨-, -, -, -, -, -, -, -, -, -, -, -, -, -, -, -, -, -, -, -, -, -, c22, -⟩ := pk_cells (p := p) (vc := vc) (vp := .slice Ap p.props.length cp) (vw := .slice Aw p.wprops.length cw) (vs := vs) (vf := vf) B6.out
        go_wp2_with fail
        refine (CD.out (N + 1 + 1 + 1 + 1 + 1 + 1) _ p.pass _ (by omega) HS5.out O6.out).mono ?_
        rintro e w7 ⟨rfl, h7, x7⟩
        have K7 : Hid (Kp b w w7) := K6.out.trans x7
        have B7 := Lib.hid (boxed_kept (p := p) (vc := vc) (vp := .slice Ap p.props.length cp) (vw := .slice Aw p.wprops.length cw) (vs := vs) (vf := vf) x7 hne B6.out)
        have O7 := Lib.hid h7
        clear h7 x7 c13 c19 c20 c22
        go_wp2
        go_end0
        exact ⟨rfl, by rw [E.out, E2.out, E3.out, E4.out]; exact O7.out.mono (by omega), K7.out⟩
    · as_aux_lemma =>
      rw [hu] at c19
      have E3 : Hid (∀ O, PK.conn3 O p = PK.tx O p.user) := Lib.hid (fun O => by unfold PK.conn3; rw [hu]; rfl)
      clear hu
      obtain ⟨-, -, -, -, -, -, -, -, -, -, -, -, -, -, -, -, -, -, -, -, -, c21, -⟩ := pk_cells (p := p) (vc := vc) (vp := .slice Ap p.props.length cp) (vw := .slice Aw p.wprops.length cw) (vs := vs) (vf := vf) B6.out
      go_wp2_with fail
      refine (CT.out (N + 1 + 1 + 1 + 1 + 1 + 1) _ p.user _ (by omega) HS4.out K6.out O6.out).mono ?_
      rintro e w7 ⟨rfl, h7, x7⟩
      have K7 : Hid (Kp b w w7) := K6.out.trans x7
      have B7 := Lib.hid (boxed_kept (p := p) (vc := vc) (vp := .slice Ap p.props.length cp) (vw := .slice Aw p.wprops.length cw) (vs := vs) (vf := vf) x7 hne B6.out)
      have O7 := Lib.hid h7
      clear h7 x7 c13 c19 c21
      obtain ⟨-, -, -, -, -, -, -, -, -, -, -, -, -, -, -, -, -, -, -, -, c20, -⟩ := pk_cells (p := p) (vc := vc) (vp := .slice Ap p.props.length cp) (vw := .slice Aw p.wprops.length cw) (vs := vs) (vf := vf) B7.out
      cases hs : p.hasPass
      · as_aux_lemma =>
        rw [hs] at c20
        have E4 : Hid (∀ O, PK.conn4 O p = O) := Lib.hid (fun O => by unfold PK.conn4; rw [hs]; rfl)
        clear hs
        go_wp2
        go_end0
        exact ⟨rfl, by rw [E.out, E2.out, E3.out, E4.out]; exact O7.out.mono (by omega), K7.out⟩
      · as_aux_lemma =>
        rw [hs] at c20
        have E4 : Hid (∀ O, PK.conn4 O p = PK.dt O p.pass) := Lib.hid (fun O => by unfold PK.conn4; rw [hs]; rfl)
        clear hs
        obtain ⟨-, -, -, -, -, -, -, -, -, -, -, -, -, -, -, -, -, -, -, -, -, -, c22, -⟩ := pk_cells (p := p) (vc := vc) (vp := .slice Ap p.props.length cp) (vw := .slice Aw p.wprops.length cw) (vs := vs) (vf := vf) B7.out
        go_wp2_with fail
        refine (CD.out (N + 1 + 1 + 1 + 1 + 1 + 1 + 1) _ p.pass _ (by omega) HS5.out O7.out).mono ?_
        rintro e w8 ⟨rfl, h8, x8⟩
        have K8 : Hid (Kp b w w8) := K7.out.trans x8
        have B8 := Lib.hid (boxed_kept (p := p) (vc := vc) (vp := .slice Ap p.props.length cp) (vw := .slice Aw p.wprops.length cw) (vs := vs) (vf := vf) x8 hne B7.out)
        have O8 := Lib.hid h8
        clear h8 x8 c20 c22
        go_wp2
        go_end0
        exact ⟨rfl, by rw [E.out, E2.out, E3.out, E4.out]; exact O8.out.mono (by omega), K8.out⟩
  · as_aux_lemma =>
    rw [hw] at c13
    have E2 : Hid (PK.conn2 o6 p = PK.dt (PK.tx (PK.pr o6 0 p.wprops) p.wtopic) p.wpay) := Lib.hid (by unfold PK.conn2; rw [hw]; rfl)
    clear hw
    obtain ⟨-, -, -, -, -, -, -, -, -, -, -, -, -, -, -, -, -, -, c18, -⟩ := pk_cells (p := p) (vc := vc) (vp := .slice Ap p.props.length cp) (vw := .slice Aw p.wprops.length cw) (vs := vs) (vf := vf) B6.out
    go_wp2_with fail
    refine (CW.out (N + 1 + 1 + 1 + 1 + 1 + 1) _ _ (by omega) K6.out O6.out).mono ?_
    rintro e w7 ⟨rfl, h7, x7⟩
    have K7 : Hid (Kp b w w7) := K6.out.trans x7
    have B7 := Lib.hid (boxed_kept (p := p) (vc := vc) (vp := .slice Ap p.props.length cp) (vw := .slice Aw p.wprops.length cw) (vs := vs) (vf := vf) x7 hne B6.out)
    have O7 := Lib.hid h7
    clear h7 x7 c13 c18
    obtain ⟨-, -, -, -, -, -, -, -, -, -, -, -, -, -, c14, -⟩ := pk_cells (p := p) (vc := vc) (vp := .slice Ap p.props.length cp) (vw := .slice Aw p.wprops.length cw) (vs := vs) (vf := vf) B7.out
    go_wp2_with fail
    refine (CT.out (N + 1 + 1 + 1 + 1 + 1 + 1 + 1) _ p.wtopic _ (by omega) HS2.out K7.out O7.out).mono ?_
    rintro e w8 ⟨rfl, h8, x8⟩
    have K8 : Hid (Kp b w w8) := K7.out.trans x8
    have B8 := Lib.hid (boxed_kept (p := p) (vc := vc) (vp := .slice Ap p.props.length cp) (vw := .slice Aw p.wprops.length cw) (vs := vs) (vf := vf) x8 hne B7.out)
    have O8 := Lib.hid h8
    clear h8 x8 c14
    obtain ⟨-, -, -, -, -, -, -, -, -, -, -, -, -, -, -, c15, -⟩ := pk_cells (p := p) (vc := vc) (vp := .slice Ap p.props.length cp) (vw := .slice Aw p.wprops.length cw) (vs := vs) (vf := vf) B8.out
    go_wp2_with fail
    refine (CD.out (N + 1 + 1 + 1 + 1 + 1 + 1 + 1 + 1) _ p.wpay _ (by omega) HS3.out O8.out).mono ?_
    rintro e w9 ⟨rfl, h9, x9⟩
    have K9 : Hid (Kp b w w9) := K8.out.trans x9
    have B9 := Lib.hid (boxed_kept (p := p) (vc := vc) (vp := .slice Ap p.props.length cp) (vw := .slice Aw p.wprops.length cw) (vs := vs) (vf := vf) x9 hne B8.out)
    have O9 := Lib.hid h9
    clear h9 x9 c15
    obtain ⟨-, -, -, -, -, -, -, -, -, -, -, -, -, -, -, -, -, -, -, c19, -⟩ := pk_cells (p := p) (vc := vc) (vp := .slice Ap p.props.length cp) (vw := .slice Aw p.wprops.length cw) (vs := vs) (vf := vf) B9.out
    cases hu : p.hasUser
    · as_aux_lemma =>
      rw [hu] at c19
      have E3 : Hid (∀ O, PK.conn3 O p = O) := Lib.hid (fun O => by unfold PK.conn3; rw [hu]; rfl)
      clear hu
      obtain ⟨-, -, -, -, -, -, -, -, -, -, -, -, -, -, -, -, -, -, -, -, c20, -⟩ := pk_cells (p := p) (vc := vc) (vp := .slice Ap p.props.length cp) (vw := .slice Aw p.wprops.length cw) (vs := vs) (vf := vf) B9.out
      cases hs : p.hasPass
      · as_aux_lemma =>
        rw [hs] at c20
        have E4 : Hid (∀ O, PK.conn4 O p = O) := Lib.hid (fun O => by unfold PK.conn4; rw [hs]; rfl)
        clear hs
        go_wp2
        go_end0
        exact ⟨rfl, by rw [E.out, E2.out, E3.out, E4.out]; exact O9.out.mono (by omega), K9.out⟩
      · as_aux_lemma =>
        rw [hs] at c20
        have E4 : Hid (∀ O, PK.conn4 O p = PK.dt O p.pass) := Lib.hid (fun O => by unfold PK.conn4; rw [hs]; rfl)
        clear hs
        obtain ⟨-, -, -, -, -, -, -, -, -, -, -, -, -, -, -, -, -, -, -, -, -, -, c22, -⟩ := pk_cells (p := p) (vc := vc) (vp := .slice Ap p.props.length cp) (vw := .slice Aw p.wprops.length cw) (vs := vs) (vf := vf) B9.out
        go_wp2_with fail
        refine (CD.out (N + 1 + 1 + 1 + 1 + 1 + 1 + 1 + 1 + 1) _ p.pass _ (by omega) HS5.out O9.out).mono ?_
        rintro e w10 ⟨rfl, h10, x10⟩
        have K10 : Hid (Kp b w w10) := K9.out.trans x10
        have B10 := Lib.hid (boxed_kept (p := p) (vc := vc) (vp := .slice Ap p.props.length cp) (vw := .slice Aw p.wprops.length cw) (vs := vs) (vf := vf) x10 hne B9.out)
        have O10 := Lib.hid h10
        clear h10 x10 c19 c20 c22
        go_wp2
        go_end0
        exact ⟨rfl, by rw [E.out, E2.out, E3.out, E4.out]; exact O10.out.mono (by omega), K10.out⟩
    · as_aux_lemma =>
      rw [hu] at c19
      have E3 : Hid (∀ O, PK.conn3 O p = PK.tx O p.user) := Lib.hid (fun O => by unfold PK.conn3; rw [hu]; rfl)
      clear hu
      obtain ⟨-, -, -, -, -, -, -, -, -, -, -, -, -, -, -, -, -, -, -, -, -, c21, -⟩ := pk_cells (p := p) (vc := vc) (vp := .slice Ap p.props.length cp) (vw := .slice Aw p.wprops.length cw) (vs := vs) (vf := vf) B9.out
      go_wp2_with fail
      refine (CT.out (N + 1 + 1 + 1 + 1 + 1 + 1 + 1 + 1 + 1) _ p.user _ (by omega) HS4.out K9.out O9.out).mono ?_
      rintro e w10 ⟨rfl, h10, x10⟩
      have K10 : Hid (Kp b w w10) := K9.out.trans x10
      have B10 := Lib.hid (boxed_kept (p := p) (vc := vc) (vp := .slice Ap p.props.length cp) (vw := .slice Aw p.wprops.length cw) (vs := vs) (vf := vf) x10 hne B9.out)
      have O10 := Lib.hid h10
      clear h10 x10 c19 c21
      obtain ⟨-, -, -, -, -, -, -, -, -, -, -, -, -, -, -, -, -, -, -, -, c20, -⟩ := pk_cells (p := p) (vc := vc) (vp := .slice Ap p.props.length cp) (vw := .slice Aw p.wprops.length cw) (vs := vs) (vf := vf) B10.out
      cases hs : p.hasPass
      · as_aux_lemma =>
        rw [hs] at c20
        have E4 : Hid (∀ O, PK.conn4 O p = O) := Lib.hid (fun O => by unfold PK.conn4; rw [hs]; rfl)
        clear hs
        go_wp2
        go_end0
        exact ⟨rfl, by rw [E.out, E2.out, E3.out, E4.out]; exact O10.out.mono (by omega), K10.out⟩
      · as_aux_lemma =>
        rw [hs] at c20
        have E4 : Hid (∀ O, PK.conn4 O p = PK.dt O p.pass) := Lib.hid (fun O => by unfold PK.conn4; rw [hs]; rfl)
        clear hs
        obtain ⟨-, -, -, -, -, -, -, -, -, -, -, -, -, -, -, -, -, -, -, -, -, -, c22, -⟩ := pk_cells (p := p) (vc := vc) (vp := .slice Ap p.props.length cp) (vw := .slice Aw p.wprops.length cw) (vs := vs) (vf := vf) B10.out
        go_wp2_with fail
        refine (CD.out (N + 1 + 1 + 1 + 1 + 1 + 1 + 1 + 1 + 1 + 1) _ p.pass _ (by omega) HS5.out O10.out).mono ?_
        rintro e w11 ⟨rfl, h11, x11⟩
        have K11 : Hid (Kp b w w11) := K10.out.trans x11
        have B11 := Lib.hid (boxed_kept (p := p) (vc := vc) (vp := .slice Ap p.props.length cp) (vw := .slice Aw p.wprops.length cw) (vs := vs) (vf := vf) x11 hne B10.out)
        have O11 := Lib.hid h11
        clear h11 x11 c20 c22
        go_wp2
        go_end0
        exact ⟨rfl, by rw [E.out, E2.out, E3.out, E4.out]; exact O11.out.mono (by omega), K11.out⟩
end Go.Proofs.YtemfcaaoobjgkaaGreatDoor
