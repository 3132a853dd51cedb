/- The document's reader of packets, plainly: its codes are bytes.; The bytes that the law PacketGets fixes, and what Get answers of any.; A reader's Feed.; stream.Split, and the document's.; The document's Split.; The document's Feed. (Written by wip/tools/gen_rfd.py.); stream.New, a reader's Left; the laws' wakes.; Pieces of bytes, and what is left of them: the plain side.; The law's own test whether two packets are the same. (Written by wip/tools/gen_smk.py.) -/
import Derived.Test.YtemfcaaoobjgkaaGreatDoorMB
import Derived.Test.YtemfcaaoobjgkaaGreatDoorMA
import Derived.Test.YtemfcaaoobjgkaaGreatDoorPkRgH
import Derived.Test.YtemfcaaoobjgkaaGreatDoorMD
import Derived.Test.YtemfcaaoobjgkaaGreatDoorTxLaid
import Derived.Test.YtemfcaaoobjgkaaGreatDoorMC
import Derived.Test.YtemfcaaoobjgkaaGreatDoorVarClone
import Derived.Test.YtemfcaaoobjgkaaGreatDoorPrApp
import Derived.Deep.RegionHeld3
import Derived.Deep.RegionLaw
import Derived.BigQuiet
import Derived.Deep.CutRange
namespace Go.Proofs.YtemfcaaoobjgkaaGreatDoor
namespace RG
set_option linter.unusedVariables false
def C8 (c : Int) : Prop := 0 ≤ c ∧ c ≤ 255
def K8 {α : Type} (f : Int × Int → (Int × Int) × α) : Prop := ∀ x, C8 x.2 → C8 (f x).1.2
theorem fl8 {x : Int × Int} (h : C8 x.2) {c : Int} (hc : C8 c) : C8 (fl x c).2 := by
  unfold fl; dsimp only; split
  · exact hc
  · exact h
theorem cm8 {c : Int} (h : C8 c) : C8 (cm c) := by
  unfold cm; split
  · exact ⟨by decide, by decide⟩
  · exact h
theorem c129 : C8 129 := ⟨by decide, by decide⟩
theorem c130 : C8 130 := ⟨by decide, by decide⟩
theorem c132 : C8 132 := ⟨by decide, by decide⟩
theorem c149 : C8 149 := ⟨by decide, by decide⟩
theorem c0 : C8 0 := ⟨by decide, by decide⟩
theorem rN8 (U : ByteArray) (wd : Int) : K8 (rN U wd) := fun x h => by
  unfold rN; split
  · exact h
  split
  · exact fl8 h c129
  · exact h
theorem rT8 (U : ByteArray) : K8 (rT U) := fun x h => by
  unfold rT; split
  · exact h
  split
  · exact fl8 h c129
  · exact h
theorem rD8 (U : ByteArray) : K8 (rD U) := fun x h => by
  unfold rD; split
  · exact h
  split
  · exact fl8 h c129
  · exact h
theorem rI8 (U : ByteArray) : K8 (rI U) := fun x h => by
  have := rN8 U 2 x h
  unfold rI; dsimp only; split
  · exact fl8 this c130
  · exact this
theorem rP8 (U : ByteArray) (k : Int) : K8 (rP U k) := fun x h => by
  obtain ⟨g1, g2, _⟩ := PR.getL_facts U x.1
  unfold rP; split
  · exact h
  split
  · exact fl8 h (cm8 ⟨g1, g2⟩)
  split
  · exact h
  · exact fl8 h c130
theorem thn8 {α β : Type} {f : Int × Int → (Int × Int) × α} {g : α → Int × Int → (Int × Int) × β} (hf : K8 f) (hg : ∀ v, K8 (g v)) : K8 (fun x => g (f x).2 (f x).1) := fun x h => hg _ _ (hf x h)
theorem pass8 (U : ByteArray) (P : Pk) : K8 (pass U P) := fun x h => by
  unfold pass; split
  · exact rD8 U x h
  · exact h
theorem user8 (U : ByteArray) (P : Pk) : K8 (user U P) := fun x h => by
  unfold user; split
  · exact thn8 (rT8 U) (g := fun v => pass U { P with user := v }) (fun v => pass8 U _) x h
  · exact pass8 U P x h
theorem will38 (U : ByteArray) (P : Pk) (l : List Pr) (t : ByteArray) : K8 (will3 U P l t) := thn8 (rD8 U) (g := fun v => user U { P with wprops := l, wtopic := t, wpay := v }) (fun _ => user8 U _)
theorem will28 (U : ByteArray) (P : Pk) (l : List Pr) : K8 (will2 U P l) := thn8 (rT8 U) (g := fun v => will3 U P l v) (fun _ => will38 U _ _ _)
theorem will8 (U : ByteArray) (P : Pk) : K8 (will U P) := fun x h => by
  unfold will; split
  · exact thn8 (rP8 U 0) (g := fun v => will2 U P v) (fun v => will28 U _ _) x h
  · exact user8 U P x h
theorem con58 (U : ByteArray) (P : Pk) (k : Int) (l : List Pr) : K8 (con5 U P k l) := thn8 (rT8 U) (g := fun v => will U { P with keep := k, props := l, client := v }) (fun _ => will8 U _)
theorem con48 (U : ByteArray) (P : Pk) (k : Int) : K8 (con4 U P k) := thn8 (rP8 U 1) (g := fun v => con5 U P k v) (fun _ => con58 U _ _ _)
theorem if8 {p : Prop} [Decidable p] {x : Int × Int} (h : C8 x.2) {c : Int} (hc : C8 c) : C8 (if p then fl x c else x).2 := by
  split
  · exact fl8 h hc
  · exact h
theorem con38 (U : ByteArray) (P : Pk) (n : Int) : K8 (con3 U P n) := fun x h => thn8 (rN8 U 2) (g := fun v => con4 U (flP P n) v) (fun v => con48 U _ _) _ (if8 h c129)
theorem con28 (U : ByteArray) (P : Pk) (v : Int) : K8 (con2 U P v) := fun x h => thn8 (rN8 U 1) (g := fun v => con3 U P v) (fun v => con38 U _ _) _ (if8 h c132)
theorem con18 (U : ByteArray) (P : Pk) (m : ByteArray) : K8 (con1 U P m) := fun x h => thn8 (rN8 U 1) (g := fun v => con2 U P v) (fun v => con28 U _ _) _ (if8 h c129)
theorem conn8 (U : ByteArray) (P : Pk) : K8 (conn U P) := thn8 (rT8 U) (g := fun v => con1 U P v) (fun _ => con18 U _ _)
theorem pair8 {α β : Type} {f : Int × Int → (Int × Int) × α} {g : Int × Int → (Int × Int) × β} (hf : K8 f) (hg : K8 g) : K8 (pair f g) := fun x h => hg _ (hf x h)
theorem chk8 {α : Type} {c : α → Int} (hc : ∀ v, C8 (c v)) (x : (Int × Int) × α) (h : C8 x.1.2) : C8 (chk c x).1.2 := by
  unfold chk; dsimp only; split
  · exact fl8 h (hc _)
  · exact h
theorem sub8 (U : ByteArray) : K8 (sub U) := fun x h => by
  have e1 := pair8 (rT8 U) (rN8 U 1) x h
  have a1 : ∀ v : ByteArray × Int, C8 (subC1 v.2) := fun v => by unfold subC1; split; exact c129; exact c0
  have a2 : ∀ v : ByteArray × Int, C8 (subC2 v.2) := fun v => by unfold subC2; split; exact c130; exact c0
  exact chk8 a2 _ (chk8 a1 _ e1)
theorem ls8 {α : Type} {rd : Int × Int → (Int × Int) × α} (hr : K8 rd) (sz : Nat) : ∀ (u : Nat) (out : List α), K8 (fun x => ls rd sz u x out)
  | 0, out => fun x h => fl8 h c149
  | u + 1, out => fun x h => by
    show C8 (ls rd sz (u + 1) x out).1.2
    unfold ls; split
    · split
      · exact fl8 h c149
      · exact ls8 hr sz u _ _ (hr x h)
    · exact h
theorem lsE8 {α : Type} {rd : Int × Int → (Int × Int) × α} (hr : K8 rd) (sz : Nat) : K8 (lsE rd sz) := fun x h => ls8 hr sz 66 [] _ (if8 h c130)
theorem end28 (U : ByteArray) (P : Pk) : K8 (end2 U P) := fun x h => by
  unfold end2; split
  · exact rP8 U _ x h
  · exact h
theorem end18 (U : ByteArray) (P : Pk) : K8 (end1 U P) := fun x h => by
  unfold end1; split
  · exact end28 U _ _ (rN8 U 1 x h)
  · exact end28 U P x h
theorem lists18 (U : ByteArray) (P : Pk) (v : Int × List Pr) : K8 (lists1 U P v) := fun x h => by
  unfold lists1; split
  · exact lsE8 (sub8 U) _ x h
  · split
    · exact lsE8 (rT8 U) _ x h
    · exact lsE8 (rN8 U 1) _ x h
theorem lists8 (U : ByteArray) (P : Pk) : K8 (lists U P) := fun x h => lists18 U P _ _ (pair8 (rI8 U) (rP8 U _) x h)
theorem ack8 (U : ByteArray) (P : Pk) : K8 (ack U P) := fun x h => by
  have a1 : ∀ v : Int, C8 (if 1 < v then 129 else 0) := fun v => by split; exact c129; exact c0
  exact rP8 U 2 _ (rN8 U 1 _ (chk8 a1 _ (rN8 U 1 x h)))
theorem pubI8 (U : ByteArray) (q i : Int) : K8 (pubI U q i) := fun x h => by
  unfold pubI; split
  · exact rI8 U x h
  · exact h
theorem pub8 (U : ByteArray) (P : Pk) : K8 (pub U P) := fun x h => pair8 (rT8 U) (pair8 (pubI8 U _ _) (rP8 U 3)) x h
theorem body8 (k : Int) (U : ByteArray) (P : Pk) : K8 (body k U P) := fun x h => by
  unfold body
  split
  · exact conn8 U P x h
  split
  · exact ack8 U P x h
  split
  · exact pub8 U P x h
  split
  · exact end18 U _ _ (rI8 U x h)
  split
  · exact end18 U P x h
  split
  · exact lists8 U P x h
  · exact h
theorem get8 (s : ByteArray) : C8 (get s).2 := by
  unfold get
  split
  · exact ⟨by decide, by decide⟩
  split
  · exact c129
  split
  · show C8 (PK.hdC s)
    have hv := PR.vget_code s 1
    unfold PK.hdC
    split
    · unfold PK.lenC
      split
      · exact c149
      split
      · exact ⟨by decide, by decide⟩
      split
      · exact c129
      · exact c0
    · exact ⟨hv.1, Int.le_trans hv.2 (by decide)⟩
  · unfold whole
    split
    · exact body8 _ _ _ _ c0
    split
    · exact c129
    · exact c0
end RG
theorem getPk_c8 (s : ByteArray) : 0 ≤ (PK.getPk s).2 ∧ (PK.getPk s).2 ≤ 255 := by rw [← RG.get_same]; exact RG.get8 s
end Go.Proofs.YtemfcaaoobjgkaaGreatDoor
namespace Go.Proofs.YtemfcaaoobjgkaaGreatDoor
open Go.RowKit
theorem own5_zero (B : Nat) (w : World) : Own5 B PK.zeroPk (.slice none 0 0) (.slice none 0 0) (.slice none 0 0) (.slice none 0 0) (.slice none 0 0) w :=
  ⟨own_nil _ _ _ _, own_nil _ _ _ _, own_nil _ _ _ _, own_nil _ _ _ _, own_nil _ _ _ _⟩
theorem getPk_bad (s : ByteArray) (h : (PK.getPk s).2 ≠ 0) : (PK.getPk s).1 = PK.zeroPk := by
  unfold PK.getPk at h ⊢
  split
  · rfl
  split
  · rfl
  split
  · rfl
  split
  · rfl
  · rename_i h0 h1 h2 h3
    rw [if_neg h0, if_neg h1, if_neg h2, if_neg h3] at h
    exact absurd rfl h
/-- What Get answers, good or bad. -/
theorem GtP.all {s : ByteArray} {w w' : World} {e : Ending} (h : GtP w (PK.getPk s) e w') :
    ∃ vc vp vw vs vf, e = .returned (.tuple #[.agg (pkCells (PK.getPk s).1 vc vp vw vs vf), .int .u8 (PK.getPk s).2]) ∧ Own5 w.heap.size (PK.getPk s).1 vc vp vw vs vf w' ∧ Below w.heap.size w w' := by
  obtain ⟨h1, h2, b⟩ := h
  by_cases hc : (PK.getPk s).2 = 0
  · obtain ⟨vc, vp, vw, vs, vf, he, ho⟩ := h1 hc
    exact ⟨vc, vp, vw, vs, vf, by rw [hc]; exact he, ho, b⟩
  · exact ⟨_, _, _, _, _, by rw [getPk_bad s hc]; exact h2 hc, by rw [getPk_bad s hc]; exact own5_zero _ _, b⟩
end Go.Proofs.YtemfcaaoobjgkaaGreatDoor
namespace Go.Proofs.YtemfcaaoobjgkaaGreatDoor
open Go.RowKit Go.Shelf
attribute [local go_sem ↓] Go.wp_at_zero Go.wp_at_succ

theorem own_kp {r B : Nat} {e : TypeId} {k : Nat} {v : Value} {n : Nat} {xs : List Value} {w w' : World} (h : w.ownsRow B e k v n xs) (hk : Kp r w w') (hr : r < B) (he : e ≠ 5) : w'.ownsRow B e k v n xs := by
  refine ⟨h.1, ?_⟩
  rcases h.2 with hn | ⟨g, cap, cur, hv, hb, hg, rest⟩
  · exact .inl hn
  · exact .inr ⟨g, cap, cur, hv, hb, hk.block hg (by omega) he, rest⟩
theorem PkRow.kp {r B : Nat} {v : Value} {L : List Pv} {w w' : World} (h : PkRow B v L w) (hk : Kp r w w') (hr : r < B) : PkRow B v L w' :=
  ⟨own_kp h.row hk hr (by decide), fun x hx => ⟨own_kp (h.own x hx).codes hk hr (by decide), own_kp (h.own x hx).props hk hr (by decide), own_kp (h.own x hx).wprops hk hr (by decide), own_kp (h.own x hx).subs hk hr (by decide), own_kp (h.own x hx).filters hk hr (by decide)⟩⟩
theorem Fd.code {r : Nat} {m : Int} {l : List UInt8} {c : Int} {w : World} (h : Fd r m l c w) (c' : Int) : Fd r m l c' (w.setCell ⟨r, 3, none⟩ (.int .u8 c')) := by
  rcases h with ⟨v, h1, h2, h3⟩ | ⟨v, h1, h2, h3⟩
  · exact .inl ⟨v, set_block h1 rfl, ownF_set h2 h3, h3⟩
  · exact .inr ⟨v, set_block h1 rfl, ownF_set h2 h3, h3⟩
theorem Fd.most {r : Nat} {m : Int} {l : List UInt8} {c : Int} {w : World} (h : Fd r m l c w) : w.cell? ⟨r, 0, none⟩ = some (.int .i64 m) ∧ w.cell? ⟨r, 3, none⟩ = some (.int .u8 c) ∧ w.frozen? ⟨r, 3, none⟩ = false := by
  rcases h with ⟨v, h1, _, _⟩ | ⟨v, h1, _, _⟩
  · exact ⟨by rw [cell_heap h1]; rfl, by rw [cell_heap h1]; rfl, frozen_heap h1⟩
  · exact ⟨by rw [cell_heap h1]; rfl, by rw [cell_heap h1]; rfl, frozen_heap h1⟩
theorem feed1_enters (args : Array Value) (W : World) : (callFunc 17 args).run Tryz.prog W = .ok (.enter 17 args) W :=
  enters_of Tryz.func17 (by kernel_rfl) rfl args W

namespace ST
/-- What a reader with the bytes U tells: the packets' bytes, the place behind them, the code. -/
def fed (m : Int) (U : ByteArray) : List ByteArray × Nat × Int := thr U m (fun b => (PK.getPk b).2) (U.size + 1) 0
/-- What is left of them. -/
def left (m : Int) (U : ByteArray) : List UInt8 := if (fed m U).2.2 ≠ 0 then [] else (U.extract (fed m U).2.1 U.size).data.toList
theorem fed_le (m : Int) (U : ByteArray) : (fed m U).2.1 ≤ U.size := by
  have : ∀ (u a : Nat), a ≤ U.size → (thr U m (fun b => (PK.getPk b).2) u a).2.1 ≤ U.size := by
    intro u
    induction u with
    | zero => intro a h; exact h
    | succ u ih =>
      intro a h
      rw [thr]
      split
      · rename_i h1
        obtain ⟨k, hk, hk1, hk2⟩ := first_ok _ _ h1
        rw [ByteArray.size_extract] at hk2
        rw [hk]
        simp only [Int.toNat_natCast]
        split
        · exact ih (a + k) (by omega)
        · exact h
      · exact h
  exact this _ _ (Nat.zero_le _)
end ST
/-- What Feed answers. -/
def FeP (r : Nat) (m : Int) (U : ByteArray) (w : World) (e : Ending) (w' : World) : Prop :=
  ∃ v L, e = .returned (.tuple #[v, .int .u8 (ST.fed m U).2.2]) ∧ PkRow w.heap.size v L w' ∧ L.map Pv.p = (ST.fed m U).1.map (fun b => (PK.getPk b).1) ∧ Fd r m (ST.left m U) (ST.fed m U).2.2 w' ∧ Kp r w w'

set_option maxRecDepth 100000 in
set_option maxHeartbeats 2000000 in
theorem feed_over (r : Nat) (m : Int) (l : List UInt8) (c : Int) (s : ByteArray) (w : World) (hc : c ≠ 0) (h : Fd r m l c w) :
    Calls Tryz.prog 7 #[.pointer (some ⟨r, 0, none⟩), .string s] w fun e w' => e = .returned (.tuple #[.slice none 0 0, .int .u8 c]) ∧ Below w.heap.size w w' := by
  obtain ⟨_, q3, _⟩ := h.most
  have hne : (c != 0) = true := by rw [bne_iff_ne]; exact hc
  clear h hc
  go_enter Tryz.func7, Tryz.ntmps7
  go_wp2_with fail
  go_quiet (fail)
  go_wp2
  go_ret2
  exact ⟨rfl, drewN_below _ _ _⟩

set_option maxRecDepth 100000 in
set_option maxHeartbeats 2000000 in
theorem feed_any (r : Nat) (m : Int) (l : List UInt8) (s : ByteArray) (w : World) (h : Fd r m l 0 w) (hsz : l.length + s.size ≤ 1900000) (hT : ∀ W, Below r w W → Tabs W) :
    Calls Tryz.prog 7 #[.pointer (some ⟨r, 0, none⟩), .string s] w (FeP r m ⟨(l ++ s.data.toList).toArray⟩ w) := by
  have hmf : ∀ (fn : Fn) (first cap : Array Value) (w : World), (Instr.makeFunc fn first cap).run Tryz.prog w = .ok (.func fn first cap) w := fun _ _ _ _ => rfl
  have hlt := h.lt
  obtain ⟨_, q3, _⟩ := h.most
  have C1 := Lib.hid (fwrite_any r m l 0 s w h (by omega))
  have hUs : (⟨(l ++ s.data.toList).toArray⟩ : ByteArray).size ≤ 1900000 := by
    show (l ++ s.data.toList).toArray.size ≤ _
    have : s.data.toList.length = s.size := by rw [Array.length_toList]; rfl
    simp; omega
  have hUl : ∀ L : List UInt8, L = l ++ s.data.toList → L = (⟨L.toArray⟩ : ByteArray).data.toList := fun L _ => by simp
  generalize l ++ s.data.toList = l2 at *
  obtain ⟨U, hU⟩ : ∃ U : ByteArray, U = ⟨l2.toArray⟩ := ⟨_, rfl⟩
  rw [← hU] at hUs ⊢
  have HU := Lib.hid hU
  have HTb := Lib.hid hT
  clear hU hT hUl h
  go_enter Tryz.func7, Tryz.ntmps7
  go_wp2_with fail
  refine C1.out.mono ?_
  rintro e w1 ⟨rfl, h1, k1⟩
  have C2 := Lib.hid (fstring_any r m l2 0 w1 h1)
  have K1 := Lib.hid k1
  clear h1 k1 C1 q3
  rw [← HU.out] at C2
  go_wp2_with fail
  refine C2.out.mono ?_
  rintro e w2 ⟨rfl, h2, k2⟩
  have K2 := Lib.hid (K1.out.trans k2)
  have hlt2 := h2.lt
  have hal := (Below.refl w2.heap.size w2).alloc (Nat.le_refl _) (.cells #[.slice none 0 0] 29)
  have h3 := h2.below hal
  obtain ⟨q0, _, _⟩ := h3.most
  have I0 : FoI w2.heap.size w2 [] (w2.alloc (.cells #[.slice none 0 0] 29)) := ⟨_, [], heap_alloc_new w2 _, ⟨own_nil _ _ _ _, fun x hx => by cases hx⟩, rfl, by simp, hal⟩
  have CT := Lib.hid (through_any 17 #[.pointer (some ⟨w2.heap.size, 0, none⟩)] (fun b => (PK.getPk b).2) (FoI w2.heap.size w2) U m (by omega) feed1_enters
    (fun l a k W hI hl2 hk1 hk2 => feed1_any w2.heap.size w2 l (U.extract a (a + k)) (by rw [ByteArray.size_extract]; omega) (by omega) (fun W' hW' => HTb.out W' (K2.out.1.trans (hW'.mono (by omega)))) W hI) _ I0)
  have hle := ST.fed_le m U
  have HLf : Hid (ST.left m U = if (ST.fed m U).2.2 ≠ 0 then [] else (U.extract (ST.fed m U).2.1 U.size).data.toList) := Lib.hid rfl
  rw [show ST.thr U m (fun b => (PK.getPk b).2) (U.size + 1) 0 = ST.fed m U from rfl] at CT
  obtain ⟨ls, a, c, hX⟩ : ∃ ls a c, ST.fed m U = (ls, a, c) := ⟨_, _, _, rfl⟩
  have FIN : Hid (∀ e w', (∃ v L, e = .returned (.tuple #[v, .int .u8 c]) ∧ PkRow w.heap.size v L w' ∧ L.map Pv.p = ls.map (fun b => (PK.getPk b).1) ∧ Fd r m (ST.left m U) c w' ∧ Kp r w w') → FeP r m U w e w') := Lib.hid (by unfold FeP; rw [hX]; exact fun _ _ h => h)
  rw [hX] at CT hle HLf
  simp only at CT hle HLf
  clear hX
  have H2 := Lib.hid h2
  clear h2 k2 C2 hal h3 I0 K1
  go_wp2_with fail
  refine CT.out.mono ?_
  rintro e w4 ⟨rfl, v, L, hv, hrow, hmap, hp1, hbe⟩
  have h4 := H2.out.below hbe
  obtain ⟨_, q3, f3⟩ := h4.most
  have h5 := h4.code c
  have K5 : Kp r w (w4.setCell ⟨r, 3, none⟩ (.int .u8 c)) := (K2.out.trans (Kp.of_below (Nat.le_of_lt hlt2) hbe)).setCell 3 _
  have v5 : (w4.setCell ⟨r, 3, none⟩ (.int .u8 c)).heap[w2.heap.size]? = some (.cells #[v] 29 (0, 0)) := (Below.heap_setCell _ _ _ _ (fun e => by simp at e; omega)).trans hv
  have r5 : PkRow (w2.heap.size + 1) v L (w4.setCell ⟨r, 3, none⟩ (.int .u8 c)) := hrow.set (by omega)
  have hz := K2.out.1.size
  obtain ⟨ao, co, rfl⟩ := own_form hrow.row
  have H5 := Lib.hid h5; have HK5 := Lib.hid K5; have V5 := Lib.hid v5; have R5 := Lib.hid r5; have HM := Lib.hid hmap
  clear h4 h5 K5 v5 r5 hmap hrow hv hbe CT H2 K2 hp1
  by_cases hc : c = 0
  · subst hc
    have EL : Hid (ST.left m U = (U.extract a U.size).data.toList) := Lib.hid (by rw [HLf.out, if_neg (by decide)])
    clear HLf
    by_cases ha : a = 0
    · subst ha
      have q6 := cell_of_one V5.out
      go_wp2_with fail
      go_ret2
      refine FIN.out _ _ ⟨_, L, rfl, R5.out.base (by omega), HM.out, ?_, HK5.out⟩
      rw [EL.out, HU.out]
      have := H5.out
      simpa using this
    · have hapos : (0 : Int) < (a : Int) := by omega
      have CR := Lib.hid (freset_any r m l2 0 _ H5.out)
      go_wp2_with fail
      refine CR.out.mono ?_
      rintro e w6 ⟨rfl, h6, k6⟩
      have hsl := st_from U a hle
      have CW := Lib.hid (fun W (hW : Below w6.heap.size w6 W) => fwrite_any r m [] 0 (U.extract a U.size) W (h6.below hW) (by rw [ByteArray.size_extract]; simp; omega))
      have K6 := Lib.hid (HK5.out.trans k6)
      have V6 := Lib.hid (k6.block V5.out (by omega) (by decide))
      have R6 := Lib.hid (R5.out.kp k6 (by omega))
      have hl6 := h6.lt
      clear CR h6 k6 H5 HK5 V5 R5
      go_wp2_with fail
      go_region_with
        (go_at_call 14
         refine (CW.out _ (Below.drew (Below.refl _ w6))).mono ?_
         rintro e w7 ⟨rfl, h7, k7⟩)
      all_goals
        have k7' := Kp.drew k7
        have V7 := Lib.hid (k7'.block V6.out (by omega) (by decide))
        have R7 := Lib.hid (R6.out.kp k7' (by omega))
        have K7 := Lib.hid (K6.out.trans k7')
        have H7 := Lib.hid h7
        have q7 := cell_of_one V7.out
        clear h7 k7 k7' V6 R6 K6 CW
        go_wp2_with fail
        go_ret2
        exact FIN.out _ _ ⟨_, L, rfl, R7.out.base (by omega), HM.out, by rw [EL.out]; simpa using H7.out, K7.out⟩
  · have hne : (c != 0) = true := by rw [bne_iff_ne]; exact hc
    have EL : Hid (ST.left m U = []) := Lib.hid (by rw [HLf.out, if_pos hc])
    have CR := Lib.hid (freset_any r m l2 c _ H5.out)
    clear HLf hc
    go_wp2_with fail
    refine CR.out.mono ?_
    rintro e w6 ⟨rfl, h6, k6⟩
    have K6 := Lib.hid (HK5.out.trans k6)
    have V6 := Lib.hid (k6.block V5.out (by omega) (by decide))
    have R6 := Lib.hid (R5.out.kp k6 (by omega))
    have H6 := Lib.hid h6
    have q7 := cell_of_one V6.out
    clear CR h6 k6 H5 HK5 V5 R5
    go_wp2_with fail
    go_ret2
    exact FIN.out _ _ ⟨_, L, rfl, R6.out.base (by omega), HM.out, by rw [EL.out]; exact H6.out, K6.out⟩
end Go.Proofs.YtemfcaaoobjgkaaGreatDoor
namespace Go.Proofs.YtemfcaaoobjgkaaGreatDoor
open Go.RowKit Go.Shelf

/-- What Split's function keeps: the packets so far, in a row that the variable in block p holds. -/
def SpI (p : Nat) (w : World) (l : List ByteArray) (W : World) : Prop :=
  ∃ v, W.heap[p]? = some (.cells #[v] 22 (0, 0)) ∧ W.ownsRow (p + 1) 9 1 v l.length (l.map .string) ∧ p + 1 ≤ W.heap.size ∧ Below p w W

theorem SpI.set {p : Nat} {w w1 w2 : World} {l' : List ByteArray} {u v : Value} {row : Option Nat} (hp : p < w1.heap.size) (hb : Below p w w1) (hg : w1.grownBy w2 row) (hr : ∀ k, row = some k → p + 1 ≤ k) (hv : w2.heap[p]? = some (.cells #[v] 22 (0, 0))) (ho : w2.ownsRow (p + 1) 9 1 u l'.length (l'.map .string)) : SpI p w l' (w2.setCell ⟨p, 0, none⟩ u) := by
  refine ⟨u, one_setCell hv, ho.kept (row := some p) ⟨rfl, rfl, rfl, by simp [World.setCell], fun i _ hi => Below.heap_setCell _ _ _ _ (fun e => hi (by simp [e]))⟩ (.inr fun e => by have := (ho.lt _ e).1; omega), by simp [World.setCell]; have := hg.size; omega, ?_⟩
  have h2 : Below p w1 w2 := ⟨hg.os, hg.tape, hg.output, hg.size, fun i hi => hg.block i (by omega) (fun e => by have := hr i e.symm; omega)⟩
  have h3 := hb.trans h2
  exact ⟨h3.os, h3.tape, h3.output, by simp [World.setCell]; exact h3.size, fun i hi => (Below.heap_setCell _ _ _ _ (fun e => by simp at e; omega)).trans (h3.block i hi)⟩

/-- What both Splits answer. -/
def SplP (w : World) (k : IntKind) (s : ByteArray) (X : List ByteArray × Nat × Int) (e : Ending) (w' : World) : Prop :=
  ∃ v, e = .returned (.tuple #[v, .string (s.extract X.2.1 s.size), .int k X.2.2]) ∧ w'.ownsRow w.heap.size 9 1 v X.1.length (X.1.map .string) ∧ Below w.heap.size w w'
end Go.Proofs.YtemfcaaoobjgkaaGreatDoor
namespace Go.Proofs.YtemfcaaoobjgkaaGreatDoor
open Go.RowKit

def strLen : Value → Nat
  | .string b => b.size
  | _ => 0
/-- How the document's loop stands. -/
def RspI (w : World) (s : ByteArray) (most : Int) (l : List ByteArray) (a : Nat) (out : Value) (wr : World) : Prop :=
  ST.Thr s most (fun _ => 0) l a ∧ wr.ownsRow w.heap.size 9 1 out l.length (l.map .string) ∧ Below w.heap.size w wr

set_option maxRecDepth 100000 in
set_option maxHeartbeats 4000000 in
theorem rsplit_any (s : ByteArray) (most : Int) (hs : s.size ≤ 1048576) (w : World) :
    Calls Tryz.prog 20 #[.string s, .int .i64 most] w (SplP w .i64 s (ST.thr s most (fun _ => 0) (s.size + 1) 0)) := by
  obtain ⟨i0, hi0, hz0, hz1, hz2⟩ := info_parts strInfo
  have Hi := Lib.hid hi0; have Hz0 := Lib.hid hz0; have Hz1 := Lib.hid hz1; have Hz2 := Lib.hid hz2
  have HT := Lib.hid (ST.Thr.start s most (fun _ => 0))
  have e0 : s.extract 0 s.size = s := by simp
  have HE := Lib.hid e0
  obtain ⟨R, hR⟩ : ∃ R, R = ST.thr s most (fun _ => 0) (s.size + 1) 0 := ⟨_, rfl⟩
  rw [← hR]
  have HR := Lib.hid hR
  clear hi0 hz0 hz1 hz2 hR e0
  go_enter Tryz.func20, Tryz.ntmps20
  go_wp2
  go_loopw [0, 7] (fun sv out wr => ∃ (a : Nat) (l : List ByteArray), sv = .string (s.extract a s.size) ∧ a ≤ s.size ∧ Hid (RspI w s most l a out wr)) (fun sv _ _ => strLen sv)
  case atStart => exact ⟨0, [], by rw [HE.out], by omega, Lib.hid ⟨HT.out, own_nil _ _ _ _, Below.refl _ _⟩⟩
  case round =>
    obtain ⟨a, l, rfl, ha, hrl⟩ := hrel
    obtain ⟨ht, ho, hb⟩ := hrl.out
    obtain ⟨Ao, co, rfl⟩ := own_form ho
    have hsz : (s.extract a s.size).size = s.size - a := by rw [ByteArray.size_extract]; omega
    have h2 := ht.size.2
    obtain ⟨T, hT⟩ : ∃ T, T = s.extract a s.size := ⟨_, rfl⟩
    have HTT := Lib.hid hT
    have HStop := Lib.hid (fun h => ht.stop h)
    have HStep := Lib.hid (fun k h1 h2 h3 => ht.step (k := k) h1 h2 h3 rfl)
    rw [← hT] at hsz HStop HStep ⊢
    have HO := Lib.hid ho
    have HB := Lib.hid hb
    have hbs := hb.size
    have HSZ : Hid (T.size = s.size - a) := Lib.hid hsz
    have hTs : T.size ≤ 1048576 := by omega
    clear ht ho hb hrl hT hsz
    have CG := Lib.hid (refget_any T 1 (by unfold maxLen; omega))
    by_cases h0 : T.size = 0
    · have hf : ST.first T most = (0, 242) := by unfold ST.first; rw [if_pos h0]
      have HX : Hid (R = (l, a, 0)) := Lib.hid (by rw [HR.out, HStop.out (by rw [hf]; decide), hf]; rfl)
      have hE := Lib.hid (empty_list h0)
      have hd : decide ((0 : Int) < (T.size : Int)) = false := by rw [decide_eq_false_iff_not]; omega
      clear HStop HStep CG hf
      go_wp2
      go_ret3
      rw [HX.out]
      exact ⟨_, by rw [← HTT.out, hE.out]; rfl, HO.out, HB.out⟩
    have hd : (0 : Int) < (T.size : Int) := by omega
    by_cases h1 : (VP.get T 1).2.2 = 0
    · obtain ⟨n, b, hg, hn, hb1, hb2⟩ := ST.get1 T h0 h1
      have hf : ST.first T most = if most < (b : Int) + n then (0, 149) else if (T.size : Int) < (b : Int) + n then (0, 242) else ((b : Int) + n, 0) := by unfold ST.first; rw [if_neg h0, if_neg (by simp [h1]), hg]
      rw [hg] at CG
      simp only at CG
      clear hg h1
      by_cases h2 : most < (b : Int) + n
      · rw [if_pos h2] at hf
        have HX : Hid (R = (l, a, 149)) := Lib.hid (by rw [HR.out, HStop.out (by rw [hf]; decide), hf]; rfl)
        clear HStop HStep hf
        go_wp2_with fail
        refine (CG.out _).mono ?_
        rintro e w' ⟨rfl, rfl⟩
        clear CG
        go_wp2
        go_ret3
        rw [HX.out]
        exact ⟨_, by rw [← HTT.out]; rfl, HO.out, HB.out⟩
      rw [if_neg h2] at hf
      by_cases h3 : (T.size : Int) < (b : Int) + n
      · rw [if_pos h3] at hf
        have HX : Hid (R = (l, a, 0)) := Lib.hid (by rw [HR.out, HStop.out (by rw [hf]; decide), hf]; rfl)
        clear HStop HStep hf
        go_wp2_with fail
        refine (CG.out _).mono ?_
        rintro e w' ⟨rfl, rfl⟩
        clear CG
        go_wp2
        go_ret3
        rw [HX.out]
        exact ⟨_, by rw [← HTT.out]; rfl, HO.out, HB.out⟩
      rw [if_neg h3] at hf
      have hf' : ST.first T most = (((b + n : Nat) : Int), 0) := by rw [hf]; simp
      have ht2 := HStep.out (b + n) hf' (by omega) (by have := HSZ.out; omega)
      have HT2 := Lib.hid ht2
      have hex : T.extract 0 (b + n) = s.extract a (a + (b + n)) := by
        rw [HTT.out, ByteArray.extract_extract]; congr 1; have := HSZ.out; omega
      have hex2 : T.extract (b + n) T.size = s.extract (a + (b + n)) s.size := by
        rw [HSZ.out, HTT.out, ByteArray.extract_extract]; congr 1 <;> omega
      obtain ⟨U, hU⟩ : ∃ U, U = T.extract 0 (b + n) := ⟨_, rfl⟩
      have hs1 : ∀ W, (Instr.slice 9 (.string T) none (some (.int .i64 ((b : Int) + n))) none).run Tryz.prog W = .ok (.string U) W := fun W => by
        have := st_upto T (b + n) (by omega) W
        rw [hU]; simpa using this
      obtain ⟨V, hV⟩ : ∃ V, V = T.extract (b + n) T.size := ⟨_, rfl⟩
      have hs2 : ∀ W, (Instr.slice 9 (.string T) (some (.int .i64 ((b : Int) + n))) none none).run Tryz.prog W = .ok (.string V) W := fun W => by
        have := st_from T (b + n) (by omega) W
        rw [hV]; simpa using this
      obtain ⟨v2, w2, hr2, hown2, _, hb2'⟩ := app1 Tryz.underlying22 Hi.out Hz0.out Hz1.out Hz2.out rfl (by omega) (by omega) w.heap.size (.slice Ao l.length co) l.length _ wr HO.out (by omega) #[.string U] rfl (by simp [Value.oneCell']) (by omega)
      have HN : Hid (RspI w s most (l ++ [s.extract a (a + (b + n))]) (a + (b + n)) v2 w2) := Lib.hid ⟨HT2.out, by rw [← hex, ← hU]; simpa using hown2, HB.out.trans hb2'⟩
      have HV := Lib.hid (hV.trans hex2)
      have hV2 : V.size < T.size := by rw [hV, ByteArray.size_extract]; omega
      clear HStop HStep hf hf' ht2 HT2 hex hex2 hU hV hown2 hb2' HO HB
      go_wp2_with fail
      refine (CG.out _).mono ?_
      rintro e w' ⟨rfl, rfl⟩
      clear CG
      go_wp2_with (at_builtin; refine wpList_run (by rfl) (.tmp 44) (.tmp 50) _ _ (by rfl) (by rfl) (by rfl) hr2 ?_; clear hr2)
      go_roundw
      case rel => exact ⟨a + (b + n), _, by rw [HV.out], by have := HSZ.out; omega, HN⟩
      case measure => simp only [strLen]; omega
    · have hf : ST.first T most = (0, (VP.get T 1).2.2) := by unfold ST.first; rw [if_neg h0, if_pos h1]
      generalize VP.get T 1 = Y at *
      obtain ⟨n, b, c⟩ := Y
      simp only at CG h1 hf
      have hne : (c != 0) = true := by rw [bne_iff_ne]; exact h1
      by_cases h242 : c = 242
      · subst h242
        have HX : Hid (R = (l, a, 0)) := Lib.hid (by rw [HR.out, HStop.out (by rw [hf]; decide), hf]; rfl)
        clear HStop HStep hf
        go_wp2_with fail
        refine (CG.out _).mono ?_
        rintro e w' ⟨rfl, rfl⟩
        clear CG
        go_wp2
        go_ret3
        rw [HX.out]
        exact ⟨_, by rw [← HTT.out]; rfl, HO.out, HB.out⟩
      · have h2 : (c == 242) = false := by rw [beq_eq_false_iff_ne]; exact h242
        have HX : Hid (R = (l, a, c)) := Lib.hid (by rw [HR.out, HStop.out (by rw [hf]; exact h1), hf]; simp only; rw [if_neg h242])
        clear HStop HStep hf h242 h1
        go_wp2_with fail
        refine (CG.out _).mono ?_
        rintro e w' ⟨rfl, rfl⟩
        clear CG
        go_wp2
        go_ret3
        rw [HX.out]
        exact ⟨_, by rw [← HTT.out]; rfl, HO.out, HB.out⟩
end Go.Proofs.YtemfcaaoobjgkaaGreatDoor
namespace Go.Proofs.YtemfcaaoobjgkaaGreatDoor
open Go.RowKit
theorem thr_small (s : ByteArray) (m : Int) (hs : s.size ≤ 1048576) : 2 * (ST.thr s m (fun _ => 0) (s.size + 1) 0).1.length ≤ s.size ∧ ∀ b ∈ (ST.thr s m (fun _ => 0) (s.size + 1) 0).1, b.size ≤ 1048576 := by
  have key : ∀ (u a : Nat), a ≤ s.size → 2 * (ST.thr s m (fun _ => 0) u a).1.length ≤ s.size - a ∧ ∀ b ∈ (ST.thr s m (fun _ => 0) u a).1, b.size ≤ 1048576 := by
    intro u
    induction u with
    | zero => intro a h; exact ⟨by simp [ST.thr], fun b hb => by cases hb⟩
    | succ u ih =>
      intro a h
      rw [ST.thr]
      split
      · rename_i h1
        obtain ⟨k, hk, hk1, hk2⟩ := ST.first_ok _ _ h1
        rw [ByteArray.size_extract] at hk2
        rw [hk]
        simp only [Int.toNat_natCast, if_true]
        obtain ⟨i1, i2⟩ := ih (a + k) (by omega)
        refine ⟨by simp only [List.length_cons]; omega, fun b hb => ?_⟩
        rcases List.mem_cons.1 hb with rfl | hb
        · rw [ByteArray.size_extract]; omega
        · exact i2 b hb
      · exact ⟨by simp, fun b hb => by cases hb⟩
  have := key (s.size + 1) 0 (Nat.zero_le _)
  exact ⟨by omega, this.2⟩
namespace ST
/-- Packets' bytes, up to the first that has a code. -/
def scan (f : ByteArray → Int) : List ByteArray → Int → List ByteArray × Int
  | [], c => ([], c)
  | b :: t, c => if f b = 0 then (b :: (scan f t c).1, (scan f t c).2) else ([], f b)
theorem thr_scan (s : ByteArray) (most : Int) (f : ByteArray → Int) : ∀ (u a : Nat), (thr s most f u a).1 = (scan f (thr s most (fun _ => 0) u a).1 (thr s most (fun _ => 0) u a).2.2).1 ∧ (thr s most f u a).2.2 = (scan f (thr s most (fun _ => 0) u a).1 (thr s most (fun _ => 0) u a).2.2).2 ∧
    ((thr s most f u a).2.2 = 0 → (thr s most f u a).2.1 = (thr s most (fun _ => 0) u a).2.1)
  | 0, a => ⟨rfl, rfl, fun _ => rfl⟩
  | u + 1, a => by
    rw [thr, thr]
    by_cases h1 : (first (s.extract a s.size) most).2 = 0
    · rw [if_pos h1, if_pos h1, if_pos rfl]
      by_cases h2 : f (s.extract a (a + (first (s.extract a s.size) most).1.toNat)) = 0
      · rw [if_pos h2]
        obtain ⟨e1, e2, e3⟩ := thr_scan s most f u (a + (first (s.extract a s.size) most).1.toNat)
        simp only [scan, if_pos h2]
        exact ⟨by rw [e1], e2, e3⟩
      · rw [if_neg h2]
        refine ⟨?_, ?_, fun h => absurd h h2⟩
        · show [] = (if f _ = 0 then _ else _ : List ByteArray × Int).1
          rw [if_neg h2]
        · show f _ = (if f _ = 0 then _ else _ : List ByteArray × Int).2
          rw [if_neg h2]
    · rw [if_neg h1, if_neg h1]
      exact ⟨rfl, rfl, fun _ => rfl⟩
theorem scan_step (f : ByteArray → Int) {l : List ByteArray} {k : Nat} {b : ByteArray} (hb : l[k]? = some b) (c : Int) : scan f (l.drop k) c = if f b = 0 then (b :: (scan f (l.drop (k + 1)) c).1, (scan f (l.drop (k + 1)) c).2) else ([], f b) := by
  have hk : k < l.length := (List.getElem?_eq_some_iff.1 hb).1
  have e : l.drop k = b :: l.drop (k + 1) := by
    rw [List.drop_eq_getElem_cons hk]
    rw [List.getElem?_eq_getElem hk] at hb
    injection hb with hb
    rw [hb]
  rw [e, scan]
/-- What is left, as a text. -/
def leftB (m : Int) (U : ByteArray) : ByteArray := if (fed m U).2.2 ≠ 0 then ⟨#[]⟩ else U.extract (fed m U).2.1 U.size
end ST
/-- The document's reader of packets that come piece by piece. -/
def rdC (m : Int) (Lf : ByteArray) (c : Int) : Array Value := #[.int .i64 m, .string Lf, .int .i64 c]
def Pv.rcells (x : Pv) : List Value := (rkCells x.p x.vc x.vp x.vw x.vs x.vf).toList
def Pv.ROwn (x : Pv) (B : Nat) (w : World) : Prop := Own5R B x.p x.vc x.vp x.vw x.vs x.vf w
/-- A row of the document's packets. -/
structure RkRow (B : Nat) (v : Value) (L : List Pv) (w : World) : Prop where
  row : w.ownsRow B 52 26 v L.length (L.flatMap Pv.rcells)
  own : ∀ x ∈ L, x.ROwn B w
theorem own5R_kept {B : Nat} {P : Pk} {vc vp vw vs vf : Value} {w w' : World} {row : Option Nat} (h : Own5R B P vc vp vw vs vf w) (hg : w.grownBy w' row) (hr : ∀ g, row = some g → ∃ c fz, w.heap[g]? = some (.cells c 52 fz)) : Own5R B P vc vp vw vs vf w' := by
  have key : ∀ {e : TypeId} {k : Nat} {v : Value} {n : Nat} {xs : List Value}, e ≠ 52 → w.ownsRow B e k v n xs → w'.ownsRow B e k v n xs := fun {e k v n xs} he ho => by
    refine ho.kept hg ?_
    cases hv : v.ownBlock with
    | none => exact .inl rfl
    | some g =>
      refine .inr (fun e' => ?_)
      obtain ⟨c, fz, h1⟩ := hr g e'.symm
      obtain ⟨c2, fz2, h2⟩ := own_row ho g hv
      rw [h1] at h2
      simp at h2
      exact he h2.2.1.symm
  exact ⟨key (by decide) h.codes, key (by decide) h.props, key (by decide) h.wprops, key (by decide) h.subs, key (by decide) h.filters⟩
theorem RkRow.below {B : Nat} {v : Value} {L : List Pv} {w w' : World} (h : RkRow B v L w) (hb : Below w.heap.size w w') : RkRow B v L w' := ⟨own_below h.row hb, fun x hx => (h.own x hx).below hb⟩
theorem RkRow.base {B C : Nat} {v : Value} {L : List Pv} {w : World} (h : RkRow B v L w) (hC : C ≤ B) : RkRow C v L w := ⟨own_base' h.row hC, fun x hx => (h.own x hx).base hC⟩
theorem RkRow.set {B b j : Nat} {v u : Value} {L : List Pv} {w : World} (h : RkRow B v L w) (hb : b < B) : RkRow B v L (w.setCell ⟨b, j, none⟩ u) := ⟨own_set h.row (row_ne h.row hb), fun x hx => (h.own x hx).set hb⟩
theorem rkInfo : ∃ z n, (Tryz.prog.info? 52).map (fun i => (i.zero, i.size, i.bytes)) = some (some z, 26, n) ∧ z.cells.size = 26 ∧ n ≤ 1000 := ⟨.agg (rkNil PK.zeroPk), 328, by kernel_rfl, rfl, by decide⟩
theorem RkRow.snoc {B : Nat} {v v2 : Value} {L : List Pv} {x : Pv} {w w2 : World} (h : RkRow B v L w) (o : x.ROwn B w) (hr : w2.ownsRow B 52 26 v2 (L.length + 1) (L.flatMap Pv.rcells ++ x.rcells)) (hg : w.grownBy w2 v.ownBlock) : RkRow B v2 (L ++ [x]) w2 :=
  ⟨by simpa using hr, fun y hy => by
    have hrr : ∀ g, v.ownBlock = some g → ∃ c fz, w.heap[g]? = some (.cells c 52 fz) := own_row h.row
    rcases List.mem_append.1 hy with hy | hy
    · exact own5R_kept (h.own y hy) hg hrr
    · simp at hy; subst hy; exact own5R_kept o hg hrr⟩
theorem fill_rk26 (P : Pk) (vc vp vw vs vf : Value) : Array.foldl (fun (cs : Array Value) (x : Value × Nat) => cs.setIfInBounds x.2 x.1) #[.int .i64 0, .bool false, .bool false, .int .i64 0, .int .i64 0, .string ⟨#[]⟩, .string ⟨#[]⟩, .int .i64 0, .slice none 0 0, .slice none 0 0, .string ⟨#[]⟩, .bool false, .int .i64 0, .bool false, .string ⟨#[]⟩, .string ⟨#[]⟩, .int .i64 0, .bool false, .slice none 0 0, .bool false, .bool false, .string ⟨#[]⟩, .string ⟨#[]⟩, .bool false, .slice none 0 0, .slice none 0 0] (rkCells P vc vp vw vs vf).zipIdx 0 26 = rkCells P vc vp vw vs vf := by
  kernel_rfl
theorem split_enters (args : Array Value) (W : World) : (callFunc 20 args).run Tryz.prog W = .ok (.enter 20 args) W := enters_of Tryz.func20 (by kernel_rfl) rfl args W
set_option linter.unusedSimpArgs false in
set_option maxHeartbeats 4000000 in
set_option maxRecDepth 100000 in
theorem rg_feed {Q : Exit → Act → World → Prop} (hQ : ∀ c d v a w, Q (.panic c) (a.put d v) w → Q (.panic c) a w) (ops : Array Oper) (hops : Tryz.f8.body.bind (findR 3) = some ops)
    (a : Act) (hsz : a.tmps.size = 73) (r : Nat) (s : ByteArray) (h0 : a.eval (.tmp 0) = .pointer (some ⟨r, 0, none⟩)) (h1 : a.eval (.tmp 1) = .string s) (W : World) (m : Int) (Lf : ByteArray) (hb : W.heap[r]? = some (.cells (rdC m Lf 0) 27 (0, 0))) (hlen : Lf.size + s.size ≤ 1900000)
    (X : List ByteArray × Nat × Int) (hc : ∀ W', Calls Tryz.prog 20 #[.string (Lf ++ s), .int .i64 m] W' (SplP W' .i64 (Lf ++ s) X))
    (hK : ∀ v w', w'.ownsRow W.heap.size 9 1 v X.1.length (X.1.map .string) → Below W.heap.size W w' → Q .normal ((((((((((((((((((a.put (some 23) (.pointer (some ⟨r, 0, none⟩))).put (some 24) (.pointer (some ⟨r, 0, none⟩))).put (some 25) (.pointer (some ⟨r, 1, none⟩))).put (some 26) (.string Lf)).put (some 27) (.string s)).put (some 28) (.string (Lf ++ s))).put (some 29) (.pointer (some ⟨r, 0, none⟩))).put (some 30) (.pointer (some ⟨r, 0, none⟩))).put (some 31) (.pointer (some ⟨r, 0, none⟩))).put (some 32) (.int .i64 m)).put (some 33) (.tuple #[v, .string ((Lf ++ s).extract X.2.1 (Lf ++ s).size), .int .i64 X.2.2])).put (some 22) (.tuple #[v, .string ((Lf ++ s).extract X.2.1 (Lf ++ s).size), .int .i64 X.2.2])).put (some 34) v).put (some 35) (.string ((Lf ++ s).extract X.2.1 (Lf ++ s).size))).put (some 36) (.int .i64 X.2.2)).put (some 6) v).put (some 7) (.string ((Lf ++ s).extract X.2.1 (Lf ++ s).size))).put (some 8) (.int .i64 X.2.2)) w') :
    wpAnyT Tryz.prog .any ops Q (fun w' => Below W.heap.size W w') 18 ops.size (Array.replicate ops.size false) a W := by
  conv at hops => lhs; whnf
  obtain rfl := Option.some.inj hops
  clear hops
  have S0 : (fun w' => Below W.heap.size W w') W := Below.refl _ _
  have lr := lt_heap hb
  have hl : (Lf ++ s).size ≤ maxLen := by rw [ByteArray.size_append]; unfold maxLen; omega
  change wpAnyT _ _ _ _ _ _ 18 (Array.replicate 18 false) _ _
  refine wpAnyT_take 0 0 (v := (.pointer (some ⟨r, 0, none⟩))) (by rfl) (by rfl) (by kernel_rfl) (by kernel_rfl) (by kernel_rfl) (by kernel_rfl) (by kernel_rfl) (fun _ _ _ h => hQ _ _ _ _ _ h) (fun w hSw => (by show Sem.run _ (execOp _ ⟨_, .move (.tmp 0), _, _, _, _⟩) _ = _; unfold execOp; simp only [show a.eval (.tmp 0) = _ from h0]; go_simp)) S0 ?_
  change wpAnyT _ _ _ _ _ _ _ _ (a.put (some 23) (.pointer (some ⟨r, 0, none⟩))) _
  refine wpAnyT_take 1 1 (v := (.pointer (some ⟨r, 0, none⟩))) (by rfl) (by rfl) (by kernel_rfl) (by kernel_rfl) (by kernel_rfl) (by kernel_rfl) (by kernel_rfl) (fun _ _ _ h => hQ _ _ _ _ _ h) (fun w hSw => (by show Sem.run _ (execOp _ ⟨_, .nilCheck (.tmp 23), _, _, _, _⟩) _ = _; unfold execOp; simp only [show (a.put (some 23) (.pointer (some ⟨r, 0, none⟩))).eval (.tmp 23) = _ from (ev_same (by simp only [put_sz, hsz]; decide))]; go_simp)) S0 ?_
  change wpAnyT _ _ _ _ _ _ _ _ ((a.put (some 23) (.pointer (some ⟨r, 0, none⟩))).put (some 24) (.pointer (some ⟨r, 0, none⟩))) _
  refine wpAnyT_take 2 2 (v := (.pointer (some ⟨r, 1, none⟩))) (by rfl) (by rfl) (by kernel_rfl) (by kernel_rfl) (by kernel_rfl) (by kernel_rfl) (by kernel_rfl) (fun _ _ _ h => hQ _ _ _ _ _ h) (fun w hSw => (by show Sem.run _ (execOp _ ⟨_, .fieldAddr 27 (.tmp 24) 1, _, _, _, _⟩) _ = _; unfold execOp; simp only [show ((a.put (some 23) (.pointer (some ⟨r, 0, none⟩))).put (some 24) (.pointer (some ⟨r, 0, none⟩))).eval (.tmp 24) = _ from (ev_same (by simp only [put_sz, hsz]; decide))]; go_simp)) S0 ?_
  change wpAnyT _ _ _ _ _ _ _ _ (((a.put (some 23) (.pointer (some ⟨r, 0, none⟩))).put (some 24) (.pointer (some ⟨r, 0, none⟩))).put (some 25) (.pointer (some ⟨r, 1, none⟩))) _
  refine wpAnyT_take 3 3 (v := (.string Lf)) (by rfl) (by rfl) (by kernel_rfl) (by kernel_rfl) (by kernel_rfl) (by kernel_rfl) (by kernel_rfl) (fun _ _ _ h => hQ _ _ _ _ _ h) (fun w hSw => (by have q0 := (cell_heap (i := 1) ((hSw.block _ lr).trans hb)).trans (show _ = some (.string Lf) from rfl); show Sem.run _ (execOp _ ⟨_, .load 9 (.tmp 25), _, _, _, _⟩) _ = _; unfold execOp; simp only [show (((a.put (some 23) (.pointer (some ⟨r, 0, none⟩))).put (some 24) (.pointer (some ⟨r, 0, none⟩))).put (some 25) (.pointer (some ⟨r, 1, none⟩))).eval (.tmp 25) = _ from (ev_same (by simp only [put_sz, hsz]; decide))]; go_simp)) S0 ?_
  change wpAnyT _ _ _ _ _ _ _ _ ((((a.put (some 23) (.pointer (some ⟨r, 0, none⟩))).put (some 24) (.pointer (some ⟨r, 0, none⟩))).put (some 25) (.pointer (some ⟨r, 1, none⟩))).put (some 26) (.string Lf)) _
  refine wpAnyT_take 4 4 (v := (.string s)) (by rfl) (by rfl) (by kernel_rfl) (by kernel_rfl) (by kernel_rfl) (by kernel_rfl) (by kernel_rfl) (fun _ _ _ h => hQ _ _ _ _ _ h) (fun w hSw => (by show Sem.run _ (execOp _ ⟨_, .move (.tmp 1), _, _, _, _⟩) _ = _; unfold execOp; simp only [show ((((a.put (some 23) (.pointer (some ⟨r, 0, none⟩))).put (some 24) (.pointer (some ⟨r, 0, none⟩))).put (some 25) (.pointer (some ⟨r, 1, none⟩))).put (some 26) (.string Lf)).eval (.tmp 1) = _ from ((ev_ne (by decide)).trans ((ev_ne (by decide)).trans ((ev_ne (by decide)).trans ((ev_ne (by decide)).trans h1))))]; go_simp)) S0 ?_
  change wpAnyT _ _ _ _ _ _ _ _ (((((a.put (some 23) (.pointer (some ⟨r, 0, none⟩))).put (some 24) (.pointer (some ⟨r, 0, none⟩))).put (some 25) (.pointer (some ⟨r, 1, none⟩))).put (some 26) (.string Lf)).put (some 27) (.string s)) _
  refine wpAnyT_take 5 5 (v := (.string (Lf ++ s))) (by rfl) (by rfl) (by kernel_rfl) (by kernel_rfl) (by kernel_rfl) (by kernel_rfl) (by kernel_rfl) (fun _ _ _ h => hQ _ _ _ _ _ h) (fun w hSw => (by show Sem.run _ (execOp _ ⟨_, .binOp .add 9 (.tmp 26) (.tmp 27) 9, _, _, _, _⟩) _ = _; unfold execOp; simp only [show (((((a.put (some 23) (.pointer (some ⟨r, 0, none⟩))).put (some 24) (.pointer (some ⟨r, 0, none⟩))).put (some 25) (.pointer (some ⟨r, 1, none⟩))).put (some 26) (.string Lf)).put (some 27) (.string s)).eval (.tmp 26) = _ from ((ev_ne (by decide)).trans (ev_same (by simp only [put_sz, hsz]; decide))), show (((((a.put (some 23) (.pointer (some ⟨r, 0, none⟩))).put (some 24) (.pointer (some ⟨r, 0, none⟩))).put (some 25) (.pointer (some ⟨r, 1, none⟩))).put (some 26) (.string Lf)).put (some 27) (.string s)).eval (.tmp 27) = _ from (ev_same (by simp only [put_sz, hsz]; decide))]; go_simp; omega)) S0 ?_
  change wpAnyT _ _ _ _ _ _ _ _ ((((((a.put (some 23) (.pointer (some ⟨r, 0, none⟩))).put (some 24) (.pointer (some ⟨r, 0, none⟩))).put (some 25) (.pointer (some ⟨r, 1, none⟩))).put (some 26) (.string Lf)).put (some 27) (.string s)).put (some 28) (.string (Lf ++ s))) _
  refine wpAnyT_take 6 6 (v := (.pointer (some ⟨r, 0, none⟩))) (by rfl) (by rfl) (by kernel_rfl) (by kernel_rfl) (by kernel_rfl) (by kernel_rfl) (by kernel_rfl) (fun _ _ _ h => hQ _ _ _ _ _ h) (fun w hSw => (by show Sem.run _ (execOp _ ⟨_, .move (.tmp 0), _, _, _, _⟩) _ = _; unfold execOp; simp only [show ((((((a.put (some 23) (.pointer (some ⟨r, 0, none⟩))).put (some 24) (.pointer (some ⟨r, 0, none⟩))).put (some 25) (.pointer (some ⟨r, 1, none⟩))).put (some 26) (.string Lf)).put (some 27) (.string s)).put (some 28) (.string (Lf ++ s))).eval (.tmp 0) = _ from ((ev_ne (by decide)).trans ((ev_ne (by decide)).trans ((ev_ne (by decide)).trans ((ev_ne (by decide)).trans ((ev_ne (by decide)).trans ((ev_ne (by decide)).trans h0))))))]; go_simp)) S0 ?_
  change wpAnyT _ _ _ _ _ _ _ _ (((((((a.put (some 23) (.pointer (some ⟨r, 0, none⟩))).put (some 24) (.pointer (some ⟨r, 0, none⟩))).put (some 25) (.pointer (some ⟨r, 1, none⟩))).put (some 26) (.string Lf)).put (some 27) (.string s)).put (some 28) (.string (Lf ++ s))).put (some 29) (.pointer (some ⟨r, 0, none⟩))) _
  refine wpAnyT_take 7 7 (v := (.pointer (some ⟨r, 0, none⟩))) (by rfl) (by rfl) (by kernel_rfl) (by kernel_rfl) (by kernel_rfl) (by kernel_rfl) (by kernel_rfl) (fun _ _ _ h => hQ _ _ _ _ _ h) (fun w hSw => (by show Sem.run _ (execOp _ ⟨_, .nilCheck (.tmp 29), _, _, _, _⟩) _ = _; unfold execOp; simp only [show (((((((a.put (some 23) (.pointer (some ⟨r, 0, none⟩))).put (some 24) (.pointer (some ⟨r, 0, none⟩))).put (some 25) (.pointer (some ⟨r, 1, none⟩))).put (some 26) (.string Lf)).put (some 27) (.string s)).put (some 28) (.string (Lf ++ s))).put (some 29) (.pointer (some ⟨r, 0, none⟩))).eval (.tmp 29) = _ from (ev_same (by simp only [put_sz, hsz]; decide))]; go_simp)) S0 ?_
  change wpAnyT _ _ _ _ _ _ _ _ ((((((((a.put (some 23) (.pointer (some ⟨r, 0, none⟩))).put (some 24) (.pointer (some ⟨r, 0, none⟩))).put (some 25) (.pointer (some ⟨r, 1, none⟩))).put (some 26) (.string Lf)).put (some 27) (.string s)).put (some 28) (.string (Lf ++ s))).put (some 29) (.pointer (some ⟨r, 0, none⟩))).put (some 30) (.pointer (some ⟨r, 0, none⟩))) _
  refine wpAnyT_take 8 8 (v := (.pointer (some ⟨r, 0, none⟩))) (by rfl) (by rfl) (by kernel_rfl) (by kernel_rfl) (by kernel_rfl) (by kernel_rfl) (by kernel_rfl) (fun _ _ _ h => hQ _ _ _ _ _ h) (fun w hSw => (by show Sem.run _ (execOp _ ⟨_, .fieldAddr 27 (.tmp 30) 0, _, _, _, _⟩) _ = _; unfold execOp; simp only [show ((((((((a.put (some 23) (.pointer (some ⟨r, 0, none⟩))).put (some 24) (.pointer (some ⟨r, 0, none⟩))).put (some 25) (.pointer (some ⟨r, 1, none⟩))).put (some 26) (.string Lf)).put (some 27) (.string s)).put (some 28) (.string (Lf ++ s))).put (some 29) (.pointer (some ⟨r, 0, none⟩))).put (some 30) (.pointer (some ⟨r, 0, none⟩))).eval (.tmp 30) = _ from (ev_same (by simp only [put_sz, hsz]; decide))]; go_simp)) S0 ?_
  change wpAnyT _ _ _ _ _ _ _ _ (((((((((a.put (some 23) (.pointer (some ⟨r, 0, none⟩))).put (some 24) (.pointer (some ⟨r, 0, none⟩))).put (some 25) (.pointer (some ⟨r, 1, none⟩))).put (some 26) (.string Lf)).put (some 27) (.string s)).put (some 28) (.string (Lf ++ s))).put (some 29) (.pointer (some ⟨r, 0, none⟩))).put (some 30) (.pointer (some ⟨r, 0, none⟩))).put (some 31) (.pointer (some ⟨r, 0, none⟩))) _
  refine wpAnyT_take 9 9 (v := (.int .i64 m)) (by rfl) (by rfl) (by kernel_rfl) (by kernel_rfl) (by kernel_rfl) (by kernel_rfl) (by kernel_rfl) (fun _ _ _ h => hQ _ _ _ _ _ h) (fun w hSw => (by have q0 := (cell_heap (i := 0) ((hSw.block _ lr).trans hb)).trans (show _ = some (.int .i64 m) from rfl); show Sem.run _ (execOp _ ⟨_, .load 3 (.tmp 31), _, _, _, _⟩) _ = _; unfold execOp; simp only [show (((((((((a.put (some 23) (.pointer (some ⟨r, 0, none⟩))).put (some 24) (.pointer (some ⟨r, 0, none⟩))).put (some 25) (.pointer (some ⟨r, 1, none⟩))).put (some 26) (.string Lf)).put (some 27) (.string s)).put (some 28) (.string (Lf ++ s))).put (some 29) (.pointer (some ⟨r, 0, none⟩))).put (some 30) (.pointer (some ⟨r, 0, none⟩))).put (some 31) (.pointer (some ⟨r, 0, none⟩))).eval (.tmp 31) = _ from (ev_same (by simp only [put_sz, hsz]; decide))]; go_simp)) S0 ?_
  change wpAnyT _ _ _ _ _ _ _ _ ((((((((((a.put (some 23) (.pointer (some ⟨r, 0, none⟩))).put (some 24) (.pointer (some ⟨r, 0, none⟩))).put (some 25) (.pointer (some ⟨r, 1, none⟩))).put (some 26) (.string Lf)).put (some 27) (.string s)).put (some 28) (.string (Lf ++ s))).put (some 29) (.pointer (some ⟨r, 0, none⟩))).put (some 30) (.pointer (some ⟨r, 0, none⟩))).put (some 31) (.pointer (some ⟨r, 0, none⟩))).put (some 32) (.int .i64 m)) _
  refine wpAnyT_one 10 (by kernel_rfl) ?_
  refine opU_call (f := 20) (args := #[.string (Lf ++ s), .int .i64 m]) (w1 := W) (by rfl) (by rfl) (by show Sem.run _ (execOp _ ⟨_, .call { callee := .value (.func 20), args := #[.tmp 28, .tmp 32], argTypes := #[9, 3] }, _, _, _, _⟩) _ = _; unfold execOp; have e1 := split_enters; simp only [List.map_toArray, List.map_cons, List.map_nil, show ((((((((((a.put (some 23) (.pointer (some ⟨r, 0, none⟩))).put (some 24) (.pointer (some ⟨r, 0, none⟩))).put (some 25) (.pointer (some ⟨r, 1, none⟩))).put (some 26) (.string Lf)).put (some 27) (.string s)).put (some 28) (.string (Lf ++ s))).put (some 29) (.pointer (some ⟨r, 0, none⟩))).put (some 30) (.pointer (some ⟨r, 0, none⟩))).put (some 31) (.pointer (some ⟨r, 0, none⟩))).put (some 32) (.int .i64 m)).eval (.tmp 28) = _ from ((ev_ne (by decide)).trans ((ev_ne (by decide)).trans ((ev_ne (by decide)).trans ((ev_ne (by decide)).trans (ev_same (by simp only [put_sz, hsz]; decide)))))), show ((((((((((a.put (some 23) (.pointer (some ⟨r, 0, none⟩))).put (some 24) (.pointer (some ⟨r, 0, none⟩))).put (some 25) (.pointer (some ⟨r, 1, none⟩))).put (some 26) (.string Lf)).put (some 27) (.string s)).put (some 28) (.string (Lf ++ s))).put (some 29) (.pointer (some ⟨r, 0, none⟩))).put (some 30) (.pointer (some ⟨r, 0, none⟩))).put (some 31) (.pointer (some ⟨r, 0, none⟩))).put (some 32) (.int .i64 m)).eval (.tmp 32) = _ from (ev_same (by simp only [put_sz, hsz]; decide))]; go_simp) (hc W) ?_
  rintro e w1 ⟨v, rfl, o1, b1⟩
  refine ⟨_, rfl, fun _ => b1, ?_⟩
  change wpAnyT _ _ _ _ _ _ _ _ (((((((((((a.put (some 23) (.pointer (some ⟨r, 0, none⟩))).put (some 24) (.pointer (some ⟨r, 0, none⟩))).put (some 25) (.pointer (some ⟨r, 1, none⟩))).put (some 26) (.string Lf)).put (some 27) (.string s)).put (some 28) (.string (Lf ++ s))).put (some 29) (.pointer (some ⟨r, 0, none⟩))).put (some 30) (.pointer (some ⟨r, 0, none⟩))).put (some 31) (.pointer (some ⟨r, 0, none⟩))).put (some 32) (.int .i64 m)).put (some 33) (.tuple #[v, .string ((Lf ++ s).extract X.2.1 (Lf ++ s).size), .int .i64 X.2.2])) _
  refine wpAnyT_take 11 11 (v := (.tuple #[v, .string ((Lf ++ s).extract X.2.1 (Lf ++ s).size), .int .i64 X.2.2])) (by rfl) (by rfl) (by kernel_rfl) (by kernel_rfl) (by kernel_rfl) (by kernel_rfl) (by kernel_rfl) (fun _ _ _ h => hQ _ _ _ _ _ h) (fun w hSw => (by show Sem.run _ (execOp _ ⟨_, .move (.tmp 33), _, _, _, _⟩) _ = _; unfold execOp; simp only [show (((((((((((a.put (some 23) (.pointer (some ⟨r, 0, none⟩))).put (some 24) (.pointer (some ⟨r, 0, none⟩))).put (some 25) (.pointer (some ⟨r, 1, none⟩))).put (some 26) (.string Lf)).put (some 27) (.string s)).put (some 28) (.string (Lf ++ s))).put (some 29) (.pointer (some ⟨r, 0, none⟩))).put (some 30) (.pointer (some ⟨r, 0, none⟩))).put (some 31) (.pointer (some ⟨r, 0, none⟩))).put (some 32) (.int .i64 m)).put (some 33) (.tuple #[v, .string ((Lf ++ s).extract X.2.1 (Lf ++ s).size), .int .i64 X.2.2])).eval (.tmp 33) = _ from (ev_same (by simp only [put_sz, hsz]; decide))]; go_simp)) b1 ?_
  change wpAnyT _ _ _ _ _ _ _ _ ((((((((((((a.put (some 23) (.pointer (some ⟨r, 0, none⟩))).put (some 24) (.pointer (some ⟨r, 0, none⟩))).put (some 25) (.pointer (some ⟨r, 1, none⟩))).put (some 26) (.string Lf)).put (some 27) (.string s)).put (some 28) (.string (Lf ++ s))).put (some 29) (.pointer (some ⟨r, 0, none⟩))).put (some 30) (.pointer (some ⟨r, 0, none⟩))).put (some 31) (.pointer (some ⟨r, 0, none⟩))).put (some 32) (.int .i64 m)).put (some 33) (.tuple #[v, .string ((Lf ++ s).extract X.2.1 (Lf ++ s).size), .int .i64 X.2.2])).put (some 22) (.tuple #[v, .string ((Lf ++ s).extract X.2.1 (Lf ++ s).size), .int .i64 X.2.2])) _
  refine wpAnyT_take 12 12 (v := v) (by rfl) (by rfl) (by kernel_rfl) (by kernel_rfl) (by kernel_rfl) (by kernel_rfl) (by kernel_rfl) (fun _ _ _ h => hQ _ _ _ _ _ h) (fun w hSw => (by show Sem.run _ (execOp _ ⟨_, .extract (.tmp 22) 0, _, _, _, _⟩) _ = _; unfold execOp; simp only [show ((((((((((((a.put (some 23) (.pointer (some ⟨r, 0, none⟩))).put (some 24) (.pointer (some ⟨r, 0, none⟩))).put (some 25) (.pointer (some ⟨r, 1, none⟩))).put (some 26) (.string Lf)).put (some 27) (.string s)).put (some 28) (.string (Lf ++ s))).put (some 29) (.pointer (some ⟨r, 0, none⟩))).put (some 30) (.pointer (some ⟨r, 0, none⟩))).put (some 31) (.pointer (some ⟨r, 0, none⟩))).put (some 32) (.int .i64 m)).put (some 33) (.tuple #[v, .string ((Lf ++ s).extract X.2.1 (Lf ++ s).size), .int .i64 X.2.2])).put (some 22) (.tuple #[v, .string ((Lf ++ s).extract X.2.1 (Lf ++ s).size), .int .i64 X.2.2])).eval (.tmp 22) = _ from (ev_same (by simp only [put_sz, hsz]; decide))]; go_simp)) b1 ?_
  change wpAnyT _ _ _ _ _ _ _ _ (((((((((((((a.put (some 23) (.pointer (some ⟨r, 0, none⟩))).put (some 24) (.pointer (some ⟨r, 0, none⟩))).put (some 25) (.pointer (some ⟨r, 1, none⟩))).put (some 26) (.string Lf)).put (some 27) (.string s)).put (some 28) (.string (Lf ++ s))).put (some 29) (.pointer (some ⟨r, 0, none⟩))).put (some 30) (.pointer (some ⟨r, 0, none⟩))).put (some 31) (.pointer (some ⟨r, 0, none⟩))).put (some 32) (.int .i64 m)).put (some 33) (.tuple #[v, .string ((Lf ++ s).extract X.2.1 (Lf ++ s).size), .int .i64 X.2.2])).put (some 22) (.tuple #[v, .string ((Lf ++ s).extract X.2.1 (Lf ++ s).size), .int .i64 X.2.2])).put (some 34) v) _
  refine wpAnyT_take 13 13 (v := (.string ((Lf ++ s).extract X.2.1 (Lf ++ s).size))) (by rfl) (by rfl) (by kernel_rfl) (by kernel_rfl) (by kernel_rfl) (by kernel_rfl) (by kernel_rfl) (fun _ _ _ h => hQ _ _ _ _ _ h) (fun w hSw => (by show Sem.run _ (execOp _ ⟨_, .extract (.tmp 22) 1, _, _, _, _⟩) _ = _; unfold execOp; simp only [show (((((((((((((a.put (some 23) (.pointer (some ⟨r, 0, none⟩))).put (some 24) (.pointer (some ⟨r, 0, none⟩))).put (some 25) (.pointer (some ⟨r, 1, none⟩))).put (some 26) (.string Lf)).put (some 27) (.string s)).put (some 28) (.string (Lf ++ s))).put (some 29) (.pointer (some ⟨r, 0, none⟩))).put (some 30) (.pointer (some ⟨r, 0, none⟩))).put (some 31) (.pointer (some ⟨r, 0, none⟩))).put (some 32) (.int .i64 m)).put (some 33) (.tuple #[v, .string ((Lf ++ s).extract X.2.1 (Lf ++ s).size), .int .i64 X.2.2])).put (some 22) (.tuple #[v, .string ((Lf ++ s).extract X.2.1 (Lf ++ s).size), .int .i64 X.2.2])).put (some 34) v).eval (.tmp 22) = _ from ((ev_ne (by decide)).trans (ev_same (by simp only [put_sz, hsz]; decide)))]; go_simp)) b1 ?_
  change wpAnyT _ _ _ _ _ _ _ _ ((((((((((((((a.put (some 23) (.pointer (some ⟨r, 0, none⟩))).put (some 24) (.pointer (some ⟨r, 0, none⟩))).put (some 25) (.pointer (some ⟨r, 1, none⟩))).put (some 26) (.string Lf)).put (some 27) (.string s)).put (some 28) (.string (Lf ++ s))).put (some 29) (.pointer (some ⟨r, 0, none⟩))).put (some 30) (.pointer (some ⟨r, 0, none⟩))).put (some 31) (.pointer (some ⟨r, 0, none⟩))).put (some 32) (.int .i64 m)).put (some 33) (.tuple #[v, .string ((Lf ++ s).extract X.2.1 (Lf ++ s).size), .int .i64 X.2.2])).put (some 22) (.tuple #[v, .string ((Lf ++ s).extract X.2.1 (Lf ++ s).size), .int .i64 X.2.2])).put (some 34) v).put (some 35) (.string ((Lf ++ s).extract X.2.1 (Lf ++ s).size))) _
  refine wpAnyT_take 14 14 (v := (.int .i64 X.2.2)) (by rfl) (by rfl) (by kernel_rfl) (by kernel_rfl) (by kernel_rfl) (by kernel_rfl) (by kernel_rfl) (fun _ _ _ h => hQ _ _ _ _ _ h) (fun w hSw => (by show Sem.run _ (execOp _ ⟨_, .extract (.tmp 22) 2, _, _, _, _⟩) _ = _; unfold execOp; simp only [show ((((((((((((((a.put (some 23) (.pointer (some ⟨r, 0, none⟩))).put (some 24) (.pointer (some ⟨r, 0, none⟩))).put (some 25) (.pointer (some ⟨r, 1, none⟩))).put (some 26) (.string Lf)).put (some 27) (.string s)).put (some 28) (.string (Lf ++ s))).put (some 29) (.pointer (some ⟨r, 0, none⟩))).put (some 30) (.pointer (some ⟨r, 0, none⟩))).put (some 31) (.pointer (some ⟨r, 0, none⟩))).put (some 32) (.int .i64 m)).put (some 33) (.tuple #[v, .string ((Lf ++ s).extract X.2.1 (Lf ++ s).size), .int .i64 X.2.2])).put (some 22) (.tuple #[v, .string ((Lf ++ s).extract X.2.1 (Lf ++ s).size), .int .i64 X.2.2])).put (some 34) v).put (some 35) (.string ((Lf ++ s).extract X.2.1 (Lf ++ s).size))).eval (.tmp 22) = _ from ((ev_ne (by decide)).trans ((ev_ne (by decide)).trans (ev_same (by simp only [put_sz, hsz]; decide))))]; go_simp)) b1 ?_
  change wpAnyT _ _ _ _ _ _ _ _ (((((((((((((((a.put (some 23) (.pointer (some ⟨r, 0, none⟩))).put (some 24) (.pointer (some ⟨r, 0, none⟩))).put (some 25) (.pointer (some ⟨r, 1, none⟩))).put (some 26) (.string Lf)).put (some 27) (.string s)).put (some 28) (.string (Lf ++ s))).put (some 29) (.pointer (some ⟨r, 0, none⟩))).put (some 30) (.pointer (some ⟨r, 0, none⟩))).put (some 31) (.pointer (some ⟨r, 0, none⟩))).put (some 32) (.int .i64 m)).put (some 33) (.tuple #[v, .string ((Lf ++ s).extract X.2.1 (Lf ++ s).size), .int .i64 X.2.2])).put (some 22) (.tuple #[v, .string ((Lf ++ s).extract X.2.1 (Lf ++ s).size), .int .i64 X.2.2])).put (some 34) v).put (some 35) (.string ((Lf ++ s).extract X.2.1 (Lf ++ s).size))).put (some 36) (.int .i64 X.2.2)) _
  refine wpAnyT_take 15 15 (v := v) (by rfl) (by rfl) (by kernel_rfl) (by kernel_rfl) (by kernel_rfl) (by kernel_rfl) (by kernel_rfl) (fun _ _ _ h => hQ _ _ _ _ _ h) (fun w hSw => (by show Sem.run _ (execOp _ ⟨_, .assign (.tmp 34), _, _, _, _⟩) _ = _; unfold execOp; simp only [show (((((((((((((((a.put (some 23) (.pointer (some ⟨r, 0, none⟩))).put (some 24) (.pointer (some ⟨r, 0, none⟩))).put (some 25) (.pointer (some ⟨r, 1, none⟩))).put (some 26) (.string Lf)).put (some 27) (.string s)).put (some 28) (.string (Lf ++ s))).put (some 29) (.pointer (some ⟨r, 0, none⟩))).put (some 30) (.pointer (some ⟨r, 0, none⟩))).put (some 31) (.pointer (some ⟨r, 0, none⟩))).put (some 32) (.int .i64 m)).put (some 33) (.tuple #[v, .string ((Lf ++ s).extract X.2.1 (Lf ++ s).size), .int .i64 X.2.2])).put (some 22) (.tuple #[v, .string ((Lf ++ s).extract X.2.1 (Lf ++ s).size), .int .i64 X.2.2])).put (some 34) v).put (some 35) (.string ((Lf ++ s).extract X.2.1 (Lf ++ s).size))).put (some 36) (.int .i64 X.2.2)).eval (.tmp 34) = _ from ((ev_ne (by decide)).trans ((ev_ne (by decide)).trans (ev_same (by simp only [put_sz, hsz]; decide))))]; go_simp)) b1 ?_
  change wpAnyT _ _ _ _ _ _ _ _ ((((((((((((((((a.put (some 23) (.pointer (some ⟨r, 0, none⟩))).put (some 24) (.pointer (some ⟨r, 0, none⟩))).put (some 25) (.pointer (some ⟨r, 1, none⟩))).put (some 26) (.string Lf)).put (some 27) (.string s)).put (some 28) (.string (Lf ++ s))).put (some 29) (.pointer (some ⟨r, 0, none⟩))).put (some 30) (.pointer (some ⟨r, 0, none⟩))).put (some 31) (.pointer (some ⟨r, 0, none⟩))).put (some 32) (.int .i64 m)).put (some 33) (.tuple #[v, .string ((Lf ++ s).extract X.2.1 (Lf ++ s).size), .int .i64 X.2.2])).put (some 22) (.tuple #[v, .string ((Lf ++ s).extract X.2.1 (Lf ++ s).size), .int .i64 X.2.2])).put (some 34) v).put (some 35) (.string ((Lf ++ s).extract X.2.1 (Lf ++ s).size))).put (some 36) (.int .i64 X.2.2)).put (some 6) v) _
  refine wpAnyT_take 16 16 (v := (.string ((Lf ++ s).extract X.2.1 (Lf ++ s).size))) (by rfl) (by rfl) (by kernel_rfl) (by kernel_rfl) (by kernel_rfl) (by kernel_rfl) (by kernel_rfl) (fun _ _ _ h => hQ _ _ _ _ _ h) (fun w hSw => (by show Sem.run _ (execOp _ ⟨_, .assign (.tmp 35), _, _, _, _⟩) _ = _; unfold execOp; simp only [show ((((((((((((((((a.put (some 23) (.pointer (some ⟨r, 0, none⟩))).put (some 24) (.pointer (some ⟨r, 0, none⟩))).put (some 25) (.pointer (some ⟨r, 1, none⟩))).put (some 26) (.string Lf)).put (some 27) (.string s)).put (some 28) (.string (Lf ++ s))).put (some 29) (.pointer (some ⟨r, 0, none⟩))).put (some 30) (.pointer (some ⟨r, 0, none⟩))).put (some 31) (.pointer (some ⟨r, 0, none⟩))).put (some 32) (.int .i64 m)).put (some 33) (.tuple #[v, .string ((Lf ++ s).extract X.2.1 (Lf ++ s).size), .int .i64 X.2.2])).put (some 22) (.tuple #[v, .string ((Lf ++ s).extract X.2.1 (Lf ++ s).size), .int .i64 X.2.2])).put (some 34) v).put (some 35) (.string ((Lf ++ s).extract X.2.1 (Lf ++ s).size))).put (some 36) (.int .i64 X.2.2)).put (some 6) v).eval (.tmp 35) = _ from ((ev_ne (by decide)).trans ((ev_ne (by decide)).trans (ev_same (by simp only [put_sz, hsz]; decide))))]; go_simp)) b1 ?_
  change wpAnyT _ _ _ _ _ _ _ _ (((((((((((((((((a.put (some 23) (.pointer (some ⟨r, 0, none⟩))).put (some 24) (.pointer (some ⟨r, 0, none⟩))).put (some 25) (.pointer (some ⟨r, 1, none⟩))).put (some 26) (.string Lf)).put (some 27) (.string s)).put (some 28) (.string (Lf ++ s))).put (some 29) (.pointer (some ⟨r, 0, none⟩))).put (some 30) (.pointer (some ⟨r, 0, none⟩))).put (some 31) (.pointer (some ⟨r, 0, none⟩))).put (some 32) (.int .i64 m)).put (some 33) (.tuple #[v, .string ((Lf ++ s).extract X.2.1 (Lf ++ s).size), .int .i64 X.2.2])).put (some 22) (.tuple #[v, .string ((Lf ++ s).extract X.2.1 (Lf ++ s).size), .int .i64 X.2.2])).put (some 34) v).put (some 35) (.string ((Lf ++ s).extract X.2.1 (Lf ++ s).size))).put (some 36) (.int .i64 X.2.2)).put (some 6) v).put (some 7) (.string ((Lf ++ s).extract X.2.1 (Lf ++ s).size))) _
  refine wpAnyT_take 17 17 (v := (.int .i64 X.2.2)) (by rfl) (by rfl) (by kernel_rfl) (by kernel_rfl) (by kernel_rfl) (by kernel_rfl) (by kernel_rfl) (fun _ _ _ h => hQ _ _ _ _ _ h) (fun w hSw => (by show Sem.run _ (execOp _ ⟨_, .assign (.tmp 36), _, _, _, _⟩) _ = _; unfold execOp; simp only [show (((((((((((((((((a.put (some 23) (.pointer (some ⟨r, 0, none⟩))).put (some 24) (.pointer (some ⟨r, 0, none⟩))).put (some 25) (.pointer (some ⟨r, 1, none⟩))).put (some 26) (.string Lf)).put (some 27) (.string s)).put (some 28) (.string (Lf ++ s))).put (some 29) (.pointer (some ⟨r, 0, none⟩))).put (some 30) (.pointer (some ⟨r, 0, none⟩))).put (some 31) (.pointer (some ⟨r, 0, none⟩))).put (some 32) (.int .i64 m)).put (some 33) (.tuple #[v, .string ((Lf ++ s).extract X.2.1 (Lf ++ s).size), .int .i64 X.2.2])).put (some 22) (.tuple #[v, .string ((Lf ++ s).extract X.2.1 (Lf ++ s).size), .int .i64 X.2.2])).put (some 34) v).put (some 35) (.string ((Lf ++ s).extract X.2.1 (Lf ++ s).size))).put (some 36) (.int .i64 X.2.2)).put (some 6) v).put (some 7) (.string ((Lf ++ s).extract X.2.1 (Lf ++ s).size))).eval (.tmp 36) = _ from ((ev_ne (by decide)).trans ((ev_ne (by decide)).trans (ev_same (by simp only [put_sz, hsz]; decide))))]; go_simp)) b1 ?_
  change wpAnyT _ _ _ _ _ _ _ _ ((((((((((((((((((a.put (some 23) (.pointer (some ⟨r, 0, none⟩))).put (some 24) (.pointer (some ⟨r, 0, none⟩))).put (some 25) (.pointer (some ⟨r, 1, none⟩))).put (some 26) (.string Lf)).put (some 27) (.string s)).put (some 28) (.string (Lf ++ s))).put (some 29) (.pointer (some ⟨r, 0, none⟩))).put (some 30) (.pointer (some ⟨r, 0, none⟩))).put (some 31) (.pointer (some ⟨r, 0, none⟩))).put (some 32) (.int .i64 m)).put (some 33) (.tuple #[v, .string ((Lf ++ s).extract X.2.1 (Lf ++ s).size), .int .i64 X.2.2])).put (some 22) (.tuple #[v, .string ((Lf ++ s).extract X.2.1 (Lf ++ s).size), .int .i64 X.2.2])).put (some 34) v).put (some 35) (.string ((Lf ++ s).extract X.2.1 (Lf ++ s).size))).put (some 36) (.int .i64 X.2.2)).put (some 6) v).put (some 7) (.string ((Lf ++ s).extract X.2.1 (Lf ++ s).size))).put (some 8) (.int .i64 X.2.2)) _
  exact wpAnyT_done (by kernel_rfl) (hK v w1 o1 b1)
/-- What the document's Feed answers. -/
def RfQ (r : Nat) (m : Int) (w : World) (xl : List ByteArray) (xc : Int) (lf : ByteArray) (e : Ending) (w' : World) : Prop :=
  ∃ v L, e = .returned (.tuple #[v, .int .i64 xc]) ∧ RkRow w.heap.size v L w' ∧ L.map Pv.p = xl.map (fun b => (PK.getPk b).1) ∧ w'.heap[r]? = some (.cells (rdC m lf xc) 27 (0, 0)) ∧ Gr r w w'
def RfP (r : Nat) (m : Int) (U : ByteArray) (w : World) (e : Ending) (w' : World) : Prop := RfQ r m w (ST.fed m U).1 (ST.fed m U).2.2 (ST.leftB m U) e w'
set_option maxRecDepth 100000 in
set_option maxHeartbeats 2000000 in
theorem rfeed_over (r : Nat) (m : Int) (Lf : ByteArray) (c : Int) (s : ByteArray) (w : World) (hc : c ≠ 0) (h : w.heap[r]? = some (.cells (rdC m Lf c) 27 (0, 0))) :
    Calls Tryz.prog 8 #[.pointer (some ⟨r, 0, none⟩), .string s] w fun e w' => e = .returned (.tuple #[.slice none 0 0, .int .i64 c]) ∧ Below w.heap.size w w' := by
  have q2 := (cell_heap (i := 2) h).trans (show _ = some (.int .i64 c) from rfl)
  have hne : (c != 0) = true := by rw [bne_iff_ne]; exact hc
  clear h hc
  go_enter Tryz.func8, Tryz.ntmps8
  go_wp2_with fail
  go_quiet (fail)
  go_wp2
  go_ret2
  exact ⟨rfl, drewN_below _ _ _⟩
/-- How the document's loop stands. -/
def RfI (w : World) (l : List ByteArray) (k : Nat) (v : Value) (wr : World) : Prop :=
  ∃ L, RkRow w.heap.size v L wr ∧ L.map Pv.p = (l.take k).map (fun b => (PK.getPk b).1) ∧ Below w.heap.size w wr ∧ L.length = k
set_option linter.unusedVariables false in
set_option linter.unusedSimpArgs false in
set_option maxRecDepth 100000 in
set_option maxHeartbeats 8000000 in
theorem rfeed_any (r : Nat) (m : Int) (Lf s : ByteArray) (w : World) (h : w.heap[r]? = some (.cells (rdC m Lf 0) 27 (0, 0))) (hsz : Lf.size + s.size ≤ 1048576) :
    Calls Tryz.prog 8 #[.pointer (some ⟨r, 0, none⟩), .string s] w (RfP r m (Lf ++ s) w) := by
  have hU : (Lf ++ s).size ≤ 1048576 := by rw [ByteArray.size_append]; exact hsz
  have q2 := (cell_heap (i := 2) h).trans (show _ = some (.int .i64 0) from rfl)
  have hr := lt_heap h
  obtain ⟨e1, e2, e3⟩ := ST.thr_scan (Lf ++ s) m (fun b => (PK.getPk b).2) ((Lf ++ s).size + 1) 0
  have CS : Hid (∀ W', Calls Tryz.prog 20 #[.string (Lf ++ s), .int .i64 m] W' (SplP W' .i64 (Lf ++ s) (ST.thr (Lf ++ s) m (fun _ => 0) ((Lf ++ s).size + 1) 0))) := Lib.hid (fun W' => rsplit_any (Lf ++ s) m hU W')
  have HT2 : Hid (2 * (ST.thr (Lf ++ s) m (fun _ => 0) ((Lf ++ s).size + 1) 0).1.length ≤ (Lf ++ s).size ∧ ∀ b ∈ (ST.thr (Lf ++ s) m (fun _ => 0) ((Lf ++ s).size + 1) 0).1, b.size ≤ 1048576) := Lib.hid (thr_small (Lf ++ s) m hU)
  have EF : ST.fed m (Lf ++ s) = ST.thr (Lf ++ s) m (fun b => (PK.getPk b).2) ((Lf ++ s).size + 1) 0 := rfl
  unfold RfP ST.leftB
  rw [EF]
  clear EF
  generalize ST.thr (Lf ++ s) m (fun b => (PK.getPk b).2) ((Lf ++ s).size + 1) 0 = X at *
  generalize ST.thr (Lf ++ s) m (fun _ => 0) ((Lf ++ s).size + 1) 0 = Y at *
  obtain ⟨l, pl, cl⟩ := Y
  obtain ⟨xl, xp, xc⟩ := X
  dsimp only at e1 e2 e3 CS HT2 ⊢
  obtain ⟨lf, hlf⟩ : ∃ y, y = (if xc ≠ 0 then (⟨#[]⟩ : ByteArray) else (Lf ++ s).extract xp (Lf ++ s).size) := ⟨_, rfl⟩
  rw [← hlf]
  have HLF := Lib.hid hlf
  clear hlf
  have HE1 := Lib.hid e1; have HE2 := Lib.hid e2; have HE3 := Lib.hid e3
  have HH := Lib.hid h
  have HSZ := Lib.hid hsz
  obtain ⟨z, nb, hinf, hzs, hnb⟩ := rkInfo
  obtain ⟨i0, hi0, hz0, hz1, hz2⟩ := info_parts hinf
  have Hi := Lib.hid hi0; have Hz0 := Lib.hid hz0; have Hz1 := Lib.hid hz1; have Hz2 := Lib.hid hz2; have Hzs := Lib.hid hzs; have Hnb := Lib.hid hnb
  clear e1 e2 e3 h hsz hinf hi0 hz0 hz1 hz2 hzs hnb
  generalize hUU : Lf ++ s = U at *
  go_enter Tryz.func8, Tryz.ntmps8
  go_upto_region 3 with fail
  subst hUU
  have D := (below_drew w.heap.size w)
  refine wp_region_noPanic (wp_region_T (by kernel_rfl) (rg_feed (fun _ _ _ _ _ h => h) _ (by kernel_rfl) _ rfl r s rfl rfl _ m Lf HH.out (by have := HSZ.out; omega) (l, pl, cl) CS.out ?_))
  intro v w1 o1 b1
  refine NoPanic.normal ?_
  have hb1 : Below w.heap.size w w1 := D.trans b1
  have o1' : w1.ownsRow w.heap.size 9 1 v l.length (l.map .string) := o1
  have q2' := (cell_heap (i := 2) ((hb1.block _ hr).trans HH.out)).trans (show _ = some (.int .i64 0) from rfl)
  obtain ⟨A, cap, rfl⟩ := own_form o1'
  have H1 := Lib.hid (own_texts (l := l) o1')
  have HB1 := Lib.hid hb1
  clear D o1 b1 o1' hb1 q2 q2' CS
  generalize Lf ++ s = U at *
  simp only [Act.put, List.setIfInBounds_toArray, List.set_cons_zero, List.set_cons_succ]
  have HI : Hid (RfI w1 l 0 (.slice none 0 0) w1) := Lib.hid ⟨[], ⟨own_nil _ _ _ _, fun _ h => by cases h⟩, rfl, Below.refl _ _, rfl⟩
  go_wp2_with fail
  obtain ⟨hlen, hsm⟩ := HT2.out
  have HSM := Lib.hid hsm
  have hll : l.length ≤ 524288 := by omega
  clear hlen hsm HT2
  go_loopw [10, 9, 8] (fun i v cv wr => ∃ k : Nat, i = .int .i64 (k : Int) ∧ cv = .int .i64 cl ∧ k ≤ l.length ∧ Hid (RfI w1 l k v wr) ∧ Hid (ST.scan (fun b => (PK.getPk b).2) l cl = (l.take k ++ (ST.scan (fun b => (PK.getPk b).2) (l.drop k) cl).1, (ST.scan (fun b => (PK.getPk b).2) (l.drop k) cl).2))) (fun i _ _ _ => l.length - (intOf i).toNat)
  case atStart => exact ⟨0, rfl, rfl, by omega, HI, Lib.hid (by simp)⟩
  case round =>
  obtain ⟨k, rfl, rfl, hk, hI, hS⟩ := hrel
  obtain ⟨L, hrow, hmap, hbl, hLk⟩ := hI.out
  have hk0 : (0 : Int) ≤ (k : Int) := by omega
  clear hI HI
  by_cases hlt : k < l.length
  · obtain ⟨b, hb⟩ : ∃ b, l[k]? = some b := ⟨l[k], List.getElem?_eq_getElem hlt⟩
    obtain ⟨g, o, rfl, hg, r0⟩ := H1.out k b hb
    have q0 : wr.cell? ⟨g, o + k, none⟩ = some (.string b) := (hbl.cell (p := ⟨g, _, none⟩) hg).trans r0
    have i1 : (k : Int) < (l.length : Int) := by omega
    have hbs := HSM.out b (List.mem_of_getElem? hb)
    have CG : Hid (∀ W, Calls Tryz.prog 21 #[.string b] W (DG W (PK.getPk b))) := Lib.hid (fun W => by rw [← RG.get_same]; exact dget_any b (by omega) W)
    have hstep := ST.scan_step (fun b => (PK.getPk b).2) hb cl
    have htk : (l.take (k + 1)).map (fun b => (PK.getPk b).1) = (l.take k).map (fun b => (PK.getPk b).1) ++ [(PK.getPk b).1] := by rw [List.take_add_one, hb]; simp
    have htk2 : l.take (k + 1) = l.take k ++ [b] := by rw [List.take_add_one, hb]; rfl
    have hS2 := hS.out
    rw [hstep] at hS2
    unfold DG at CG
    generalize PK.getPk b = X at *
    obtain ⟨R, d⟩ := X
    dsimp only at CG hS2 htk
    have HS2 := Lib.hid hS2; have HTK := Lib.hid htk; have HTK2 := Lib.hid htk2; have HROW := Lib.hid hrow; have HMAP := Lib.hid hmap; have HBL := Lib.hid hbl; have HLK := Lib.hid hLk
    clear hstep hS2 htk htk2 hS r0 hb hbs hrow hmap hbl hLk
    go_wp2_with fail
    refine (CG.out _).mono ?_
    rintro e w4 ⟨uc, up, uw, us, uf, rfl, o4, b4⟩
    have K1 := Lib.hid (rk_one R o4)
    have Z4 : Hid ((w4.alloc (.cells (rkNil PK.zeroPk) 52)).heap[w4.heap.size]? = some (.cells (rkNil PK.zeroPk) 52 (0, 0))) := Lib.hid (heap_alloc_new w4 _)
    obtain ⟨wA, hwA⟩ : ∃ wA, wA = (w4.alloc (.cells (rkNil PK.zeroPk) 52)).setRow w4.heap.size (rkCells R uc up uw us uf) := ⟨_, rfl⟩
    have pA : wA.heap[w4.heap.size]? = some (.cells (rkCells R uc up uw us uf) 52 (0, 0)) := by rw [hwA]; exact setRow_heap Z4.out
    have bA : Below w4.heap.size w4 wA := by rw [hwA]; exact below_setRow ((Below.refl _ _).alloc (Nat.le_refl _) _) (Nat.le_refl _) _
    have hWA : Below wr.heap.size wr wA := b4.trans (bA.mono b4.size)
    have hW1A : Below w1.heap.size w1 wA := HBL.out.trans (hWA.mono HBL.out.size)
    have rA := HROW.out.below hWA
    have oA := (o4.below bA).base HBL.out.size
    have PA := Lib.hid pA; have HwA := Lib.hid hwA; have HW1A := Lib.hid hW1A; have RA := Lib.hid rA; have OA := Lib.hid oA
    clear o4 b4 bA pA hwA hWA hW1A rA oA CG HROW HBL
    go_upto_region 9 with (refine wpList_store_row (by rfl) 52 (.tmp 11) (.tmp 49) (by rfl) w4.heap.size (rkCells R uc up uw us uf) (by rfl) (by rfl) 52 (rkNil PK.zeroPk) Z4.out rk_info rfl K1.out ?_)
    change Code.wp _ _ _ _ ((w4.alloc (.cells (rkNil PK.zeroPk) 52)).setRow w4.heap.size (rkCells R uc up uw us uf))
    rw [← HwA.out]
    clear HwA Z4
    generalize w4.heap.size = ga at *
    by_cases hd : d = 0
    · subst hd
      have HN2 : Hid (ST.scan (fun b => (PK.getPk b).2) l cl = (l.take (k + 1) ++ (ST.scan (fun b => (PK.getPk b).2) (l.drop (k + 1)) cl).1, (ST.scan (fun b => (PK.getPk b).2) (l.drop (k + 1)) cl).2)) := Lib.hid (by rw [HS2.out, HTK2.out]; simp)
      clear HS2
      obtain ⟨v2, w2, hr2, hown2, hg2, hb2⟩ := app1 Tryz.underlying33 Hi.out Hz0.out Hz1.out Hz2.out Hzs.out (by decide) Hnb.out w1.heap.size u9 L.length _ wA RA.out.row HW1A.out.size (rkCells R uc up uw us uf) rfl (fun u hu => by have := K1.out; rw [Array.all_eq_true'] at this; exact this u (by simpa using hu)) (by have := HLK.out; omega)
      obtain ⟨A2, c2, rfl⟩ := own_form hown2
      have HN : Hid (RfI w1 l (k + 1) (.slice A2 (L.length + 1) c2) w2) := Lib.hid ⟨L ++ [⟨R, uc, up, uw, us, uf⟩], RkRow.snoc (x := ⟨R, uc, up, uw, us, uf⟩) RA.out OA.out hown2 hg2, by rw [List.map_append, HMAP.out, HTK.out]; rfl, HW1A.out.trans hb2, by rw [List.length_append, HLK.out]; rfl⟩
      have hcz : (rkCells R uc up uw us uf).size = 26 := rfl
      clear hown2 hg2 hb2 RA OA HW1A HMAP HTK HTK2
      have HLL := HLK.out
      clear HLK
      subst HLL
      go_wp2_with (first
        | refine wpl_load_r (by rfl) (.tmp 11) (by rfl) ga (by rfl) PA.out ?_
        | (at_builtin; simp only [fill_rk26]; refine wpList_run (by rfl) (.tmp 54) (.tmp 56) _ _ (by rfl) (by rfl) (by rfl) hr2 ?_; clear hr2))
      go_roundw
      case rel => exact ⟨L.length + 1, by go_num, rfl, by omega, HN, HN2⟩
      case measure => simp [intOf]; omega
    · have hne : (d != 0) = true := by rw [bne_iff_ne]; exact hd
      have hcn := hd
      have hxl : xl = l.take k := by rw [HE1.out, HS2.out, if_neg hd]; simp
      have hxc : xc = d := by rw [HE2.out, HS2.out, if_neg hd]
      have Rr := (HW1A.out.block r (Nat.lt_of_lt_of_le hr HB1.out.size)).trans ((HB1.out.block r hr).trans HH.out)
      have y1 := (cell_heap (i := 1) Rr).trans (show _ = some (.string Lf) from rfl)
      have y1' := frozen_heap (i := 1) Rr
      have y2 := (cell_heap (i := 2) Rr).trans (show _ = some (.int .i64 0) from rfl)
      have y2' := frozen_heap (i := 2) Rr
      have hr1 : r < w1.heap.size := Nat.lt_of_lt_of_le hr HB1.out.size
      have G1 := Gr.of_below (r := r) (HB1.out.trans (HW1A.out.mono HB1.out.size))
      have FIN : Hid (RkRow w.heap.size u9 L (((wA.setCell ⟨r, 1, none⟩ (.string (U.extract pl U.size))).setCell ⟨r, 2, none⟩ (.int .i64 d)).setCell ⟨r, 1, none⟩ (.string ⟨#[]⟩)) ∧ L.map Pv.p = xl.map (fun b => (PK.getPk b).1) ∧ (((wA.setCell ⟨r, 1, none⟩ (.string (U.extract pl U.size))).setCell ⟨r, 2, none⟩ (.int .i64 d)).setCell ⟨r, 1, none⟩ (.string ⟨#[]⟩)).heap[r]? = some (.cells (rdC m lf xc) 27 (0, 0)) ∧ Gr r w (((wA.setCell ⟨r, 1, none⟩ (.string (U.extract pl U.size))).setCell ⟨r, 2, none⟩ (.int .i64 d)).setCell ⟨r, 1, none⟩ (.string ⟨#[]⟩))) := Lib.hid
        ⟨(((RA.out.set hr1).set hr1).set hr1).base HB1.out.size, by rw [hxl]; exact HMAP.out, by rw [HLF.out, if_pos (by rw [hxc]; exact hcn), hxc]; exact set_block (set_block (set_block Rr rfl) rfl) rfl, ((G1.setCell _ _).setCell _ _).setCell _ _⟩
      have HXC := Lib.hid hxc
      clear G1 hr1 hxl hxc Rr
      try clear hcn
      go_wp2
      go_ret2
      obtain ⟨g1, g2, g3, g4⟩ := FIN.out
      exact ⟨u9, L, by rw [HXC.out]; rfl, g1, g2, g3, g4⟩
  · have hkl : k = l.length := by omega
    subst hkl
    have hS2 := hS.out
    rw [List.take_length, List.drop_length] at hS2
    rw [List.take_length] at hmap
    have hxl : xl = l := by rw [HE1.out, hS2]; simp [ST.scan]
    have hxc : xc = cl := by rw [HE2.out, hS2]; rfl
    have Rr := (hbl.block r (Nat.lt_of_lt_of_le hr HB1.out.size)).trans ((HB1.out.block r hr).trans HH.out)
    clear hS hS2 hlt
    by_cases hcl : cl = 0
    · subst hcl
      have y1 := (cell_heap (i := 1) Rr).trans (show _ = some (.string Lf) from rfl)
      have y1' := frozen_heap (i := 1) Rr
      have y2 := (cell_heap (i := 2) Rr).trans (show _ = some (.int .i64 0) from rfl)
      have y2' := frozen_heap (i := 2) Rr
      have hr1 : r < w1.heap.size := Nat.lt_of_lt_of_le hr HB1.out.size
      have G1 := Gr.of_below (r := r) (HB1.out.trans (hbl.mono HB1.out.size))
      have FIN : Hid (RkRow w.heap.size u9 L ((wr.setCell ⟨r, 1, none⟩ (.string (U.extract pl U.size))).setCell ⟨r, 2, none⟩ (.int .i64 0)) ∧ L.map Pv.p = xl.map (fun b => (PK.getPk b).1) ∧ ((wr.setCell ⟨r, 1, none⟩ (.string (U.extract pl U.size))).setCell ⟨r, 2, none⟩ (.int .i64 0)).heap[r]? = some (.cells (rdC m lf xc) 27 (0, 0)) ∧ Gr r w ((wr.setCell ⟨r, 1, none⟩ (.string (U.extract pl U.size))).setCell ⟨r, 2, none⟩ (.int .i64 0))) := Lib.hid
        ⟨((hrow.set hr1).set hr1).base HB1.out.size, by rw [hxl]; exact hmap, by rw [HLF.out, if_neg (by rw [hxc]; simp), HE3.out hxc, hxc]; exact set_block (set_block Rr rfl) rfl, (G1.setCell _ _).setCell _ _⟩
      have HXC := Lib.hid hxc
      clear G1 hr1 hxl hxc Rr
      try clear hcn
      go_wp2
      go_ret2
      obtain ⟨g1, g2, g3, g4⟩ := FIN.out
      exact ⟨u9, L, by rw [HXC.out]; rfl, g1, g2, g3, g4⟩
    · have hne : (cl != 0) = true := by rw [bne_iff_ne]; exact hcl
      have hcn := hcl
      have y1 := (cell_heap (i := 1) Rr).trans (show _ = some (.string Lf) from rfl)
      have y1' := frozen_heap (i := 1) Rr
      have y2 := (cell_heap (i := 2) Rr).trans (show _ = some (.int .i64 0) from rfl)
      have y2' := frozen_heap (i := 2) Rr
      have hr1 : r < w1.heap.size := Nat.lt_of_lt_of_le hr HB1.out.size
      have G1 := Gr.of_below (r := r) (HB1.out.trans (hbl.mono HB1.out.size))
      have FIN : Hid (RkRow w.heap.size u9 L (((wr.setCell ⟨r, 1, none⟩ (.string (U.extract pl U.size))).setCell ⟨r, 2, none⟩ (.int .i64 cl)).setCell ⟨r, 1, none⟩ (.string ⟨#[]⟩)) ∧ L.map Pv.p = xl.map (fun b => (PK.getPk b).1) ∧ (((wr.setCell ⟨r, 1, none⟩ (.string (U.extract pl U.size))).setCell ⟨r, 2, none⟩ (.int .i64 cl)).setCell ⟨r, 1, none⟩ (.string ⟨#[]⟩)).heap[r]? = some (.cells (rdC m lf xc) 27 (0, 0)) ∧ Gr r w (((wr.setCell ⟨r, 1, none⟩ (.string (U.extract pl U.size))).setCell ⟨r, 2, none⟩ (.int .i64 cl)).setCell ⟨r, 1, none⟩ (.string ⟨#[]⟩))) := Lib.hid
        ⟨(((hrow.set hr1).set hr1).set hr1).base HB1.out.size, by rw [hxl]; exact hmap, by rw [HLF.out, if_pos (by rw [hxc]; exact hcn), hxc]; exact set_block (set_block (set_block Rr rfl) rfl) rfl, ((G1.setCell _ _).setCell _ _).setCell _ _⟩
      have HXC := Lib.hid hxc
      clear G1 hr1 hxl hxc Rr
      try clear hcn
      go_wp2
      go_ret2
      obtain ⟨g1, g2, g3, g4⟩ := FIN.out
      exact ⟨u9, L, by rw [HXC.out]; rfl, g1, g2, g3, g4⟩
end Go.Proofs.YtemfcaaoobjgkaaGreatDoor
namespace Go.Proofs.YtemfcaaoobjgkaaGreatDoor
open Go.RowKit
attribute [local go_sem ↓] Go.wp_at_zero Go.wp_at_succ

set_option maxRecDepth 100000 in
theorem new_any (m : Int) (w : World) : Calls Tryz.prog 5 #[.int .i64 m] w fun e w' => e = .returned (.pointer (some ⟨w.heap.size, 0, none⟩)) ∧ Fd w.heap.size m [] 0 w' ∧ Below w.heap.size w w' := by
  have H1 : Hid (Fd w.heap.size m [] 0 (w.alloc (.cells #[.int .i64 m, .pointer none, .slice none 0 0, .int .u8 0] 68))) := Lib.hid (.inl ⟨_, heap_alloc_new w _, World.ownsRowF_nil _ _ _ _, by simp [Value.ownBlock]⟩)
  have H2 : Hid (Below w.heap.size w (w.alloc (.cells #[.int .i64 m, .pointer none, .slice none 0 0, .int .u8 0] 68))) := Lib.hid ((Below.refl _ _).alloc (Nat.le_refl _) _)
  go_enter Tryz.func5, Tryz.ntmps5
  go_wp2
  go_ret
  exact ⟨rfl, H1.out, H2.out⟩
set_option maxRecDepth 100000 in
theorem left_any (r : Nat) (m : Int) (l : List UInt8) (c : Int) (w : World) (h : Fd r m l c w) (hl : l.length ≤ 281474976710656) :
    Calls Tryz.prog 9 #[.pointer (some ⟨r, 0, none⟩)] w fun e w' => e = .returned (.string ⟨l.toArray⟩) ∧ Fd r m l c w' ∧ Kp r w w' := by
  have C := Lib.hid (fstring_any r m l c w h)
  have CC := Lib.hid (clone_any ⟨l.toArray⟩)
  have hs : (⟨l.toArray⟩ : ByteArray).size ≤ 281474976710656 := by show l.toArray.size ≤ _; simp; exact hl
  clear h
  go_enter Tryz.func9, Tryz.ntmps9
  go_wp2_with fail
  refine C.out.mono ?_
  rintro e w1 ⟨rfl, h1, k1⟩
  have hlt := h1.lt
  have H1 := Lib.hid h1
  have K1 := Lib.hid k1
  clear h1 k1 C
  go_wp2_with fail
  refine (CC.out _ hs).mono ?_
  rintro e w2 ⟨rfl, b2⟩
  have H2 := Lib.hid (H1.out.below b2)
  have K2 := Lib.hid (K1.out.trans (Kp.of_below (Nat.le_of_lt hlt) b2))
  clear b2 H1 K1 CC
  go_wp2_with fail
  go_ret
  exact ⟨rfl, H2.out, K2.out⟩

theorem fed_half : ST.fed 100 ⟨#[192]⟩ = ([], 0, 0) := by kernel_rfl
theorem ping_pk : PK.getPk ⟨#[192, 0]⟩ = (PK.barePk 12 false false 0, 0) := by kernel_rfl
theorem fed_two : ST.fed 100 ⟨#[192, 0, 192, 0]⟩ = ([⟨#[192, 0]⟩, ⟨#[192, 0]⟩], 4, 0) := by kernel_rfl

theorem two_len {L : List Pv} (h : L.length = 2) : ∃ x y, L = [x, y] := by
  cases L with
  | nil => simp at h
  | cons x t => cases t with
    | nil => simp at h
    | cons y u => cases u with
      | nil => exact ⟨x, y, rfl⟩
      | cons z u => simp at h
theorem two_of {L : List Pv} {a b : Pk} (h : L.map Pv.p = [a, b]) : ∃ x y, L = [x, y] :=
  two_len (by have := congrArg List.length h; rw [List.length_map] at this; exact this)
set_option maxRecDepth 100000 in
set_option maxHeartbeats 1000000 in
theorem swakes_any (w : World) (hT : ∀ W, Below w.heap.size w W → Tabs W) : Calls Tryz.prog 6 #[] w fun e w' => e = .returned (.bool true) ∧ Below w.heap.size w w' := by
  have CN := Lib.hid (new_any 100 w)
  have HTb := Lib.hid hT
  clear hT
  go_enter Tryz.func6, Tryz.ntmps6
  go_wp2_with fail
  refine CN.out.mono ?_
  rintro e w1 ⟨rfl, h1, b1⟩
  have C1 : Hid (Calls Tryz.prog 7 #[.pointer (some ⟨w.heap.size, 0, none⟩), .string ⟨#[192]⟩] w1 (FeP w.heap.size 100 ⟨#[192]⟩ w1)) := Lib.hid (feed_any w.heap.size 100 [] ⟨#[192]⟩ w1 h1 (by decide) (fun W hW => HTb.out W (b1.trans hW)))
  have B1 := Lib.hid b1
  clear h1 b1 CN
  go_wp2_with fail
  refine C1.out.mono ?_
  rintro e w2 hF
  obtain ⟨v2, L2, rfl, r2, m2, h2, k2⟩ := hF
  rw [fed_half] at m2 h2 ⊢
  have hL2 : ST.left 100 ⟨#[192]⟩ = [192] := by kernel_rfl
  rw [hL2] at h2
  have hl0 : L2 = [] := by simpa using m2
  subst hl0
  obtain ⟨A2, c2, rfl⟩ := own_form r2.row
  have C2 := Lib.hid (left_any w.heap.size 100 [192] 0 w2 h2 (by decide))
  have K2 := Lib.hid k2
  clear C1 r2 m2 h2 k2 hL2
  go_wp2_with fail
  refine C2.out.mono ?_
  rintro e w3 ⟨rfl, h3, k3⟩
  have C3 : Hid (Calls Tryz.prog 7 #[.pointer (some ⟨w.heap.size, 0, none⟩), .string ⟨#[0, 192, 0]⟩] w3 (FeP w.heap.size 100 ⟨#[192, 0, 192, 0]⟩ w3)) := Lib.hid (feed_any w.heap.size 100 [192] ⟨#[0, 192, 0]⟩ w3 h3 (by decide) (fun W hW => HTb.out W ((B1.out.trans K2.out.1).trans (k3.1.trans hW))))
  have B3 := Lib.hid ((B1.out.trans K2.out.1).trans k3.1)
  clear h3 k3 C2 K2 B1
  go_wp2_with fail
  refine C3.out.mono ?_
  rintro e w4 hF
  obtain ⟨v4, L4, rfl, r4, m4, h4, k4⟩ := hF
  rw [fed_two] at m4 h4 ⊢
  have HB := Lib.hid (B3.out.trans k4.1)
  simp only [List.map_cons, List.map_nil, ping_pk] at m4
  obtain ⟨x, y, rfl⟩ := two_of m4
  simp only [List.map_cons, List.map_nil, List.cons.injEq, and_true] at m4
  obtain ⟨g, p4', hv4, hg4, hg4'⟩ := r4.row.form (by simp)
  subst hv4
  have e4 : w4.cell? ⟨g, 26, none⟩ = some (.int .i64 12) := by
    rw [← add0]
    have := r4.row.cells (g := g) rfl 26 (.int .i64 y.p.kind) (by simp [Pv.cells, pkCells])
    rw [m4.2] at this
    exact this
  clear r4 m4 h4 k4 C3 B3
  go_wp2_with fail
  go_ret
  exact ⟨rfl, HB.out⟩
end Go.Proofs.YtemfcaaoobjgkaaGreatDoor
namespace Go.Proofs.YtemfcaaoobjgkaaGreatDoor
open Go.RowKit

/-- How many bytes pieces have together. -/
def bytesOf (l : List ByteArray) : Nat := (l.map ByteArray.size).sum
theorem bytes_take {l : List ByteArray} {k : Nat} {x : ByteArray} (h : l[k]? = some x) : bytesOf (l.take (k + 1)) = bytesOf (l.take k) + x.size := by
  have e : l.take (k + 1) = l.take k ++ [x] := by rw [List.take_add_one, h]; rfl
  rw [e]; simp [bytesOf]
theorem bytes_le (l : List ByteArray) : ∀ k, bytesOf (l.take k) ≤ bytesOf l := by
  induction l with
  | nil => intro k; simp [bytesOf]
  | cons x l ih => intro k; cases k with
    | zero => simp [bytesOf]
    | succ k => have := ih k; simp [bytesOf] at this ⊢; omega
theorem left_len (m : Int) (U : ByteArray) : (ST.left m U).length ≤ U.size := by
  unfold ST.left
  split
  · simp
  · have h : ∀ X : ByteArray, X.data.toList.length = X.size := fun X => by rw [Array.length_toList]; rfl
    rw [h, ByteArray.size_extract]; omega
theorem left_bad {m : Int} {U : ByteArray} (h : (ST.fed m U).2.2 ≠ 0) : ST.left m U = [] := by unfold ST.left; rw [if_pos h]
theorem join_size (l : List UInt8) (s : ByteArray) : (⟨(l ++ s.data.toList).toArray⟩ : ByteArray).size = l.length + s.size := by
  show (l ++ s.data.toList).toArray.size = _
  simp
end Go.Proofs.YtemfcaaoobjgkaaGreatDoor
namespace Go.Proofs.YtemfcaaoobjgkaaGreatDoor
open Go.RowKit
/-- A row of numbers. -/
def Ints (w : World) (A : Option Addr) (l : List Int) : Prop := ∀ (i : Nat) x, l[i]? = some x → ∃ g o, A = some ⟨g, o, none⟩ ∧ g < w.heap.size ∧ w.cell? ⟨g, o + i, none⟩ = some (.int .i64 x)
theorem own_ints {w : World} {B : Nat} {A : Option Addr} {n cap : Nat} {l : List Int} (h : w.ownsRow B 3 1 (.slice A n cap) n (flatI l)) : Ints w A l := fun i x hx => by
  have hn : l.length = n := by simpa [flatI] using h.1
  have hi : i < l.length := (List.getElem?_eq_some_iff.1 hx).1
  obtain ⟨g, c', hv, hg, hg'⟩ := h.form (by omega)
  injection hv with hv _ _
  subst hv
  refine ⟨g, 0, rfl, hg', ?_⟩
  rw [Nat.zero_add, ← add0]
  exact h.cells (g := g) rfl i _ (by rw [flatI, List.getElem?_map, hx]; rfl)
theorem own_subs2 {w : World} {B : Nat} {A : Option Addr} {n cap : Nat} {l : List Sb} (hn : l.length = n) (h : w.ownsRow B 84 5 (.slice A n cap) n (flatB l)) : Subs w A l := fun i x hx => by
  have hi : i < l.length := (List.getElem?_eq_some_iff.1 hx).1
  obtain ⟨g, c', hv, hg, hg'⟩ := h.form (by omega)
  injection hv with hv _ _
  subst hv
  obtain ⟨l0, l1, l2, l3, l4⟩ := flatB_at l i x hx
  have key : ∀ (j : Nat) v, (flatB l)[j]? = some v → w.cell? ⟨g, 0 + j, none⟩ = some v := fun j v hv => by
    rw [Nat.zero_add, ← add0]; exact h.cells (g := g) rfl j v hv
  exact ⟨g, 0, rfl, hg', key _ _ l0, key _ _ l1, key _ _ l2, key _ _ l3, key _ _ l4⟩
end Go.Proofs.YtemfcaaoobjgkaaGreatDoor
