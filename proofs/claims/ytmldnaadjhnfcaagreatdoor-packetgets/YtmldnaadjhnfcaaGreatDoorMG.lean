/- The document's reader of packets, plainly: its codes are bytes.; The bytes that the law PacketGets fixes, and what Get answers of any. -/
import Derived.Test.YtmldnaadjhnfcaaGreatDoorMC
import Derived.Test.YtmldnaadjhnfcaaGreatDoorMA
import Derived.Test.YtmldnaadjhnfcaaGreatDoorPkRgH
import Derived.Test.YtmldnaadjhnfcaaGreatDoorMF
import Derived.Test.YtmldnaadjhnfcaaGreatDoorTxLaid
namespace Go.Proofs.YtmldnaadjhnfcaaGreatDoor
namespace RG
set_option linter.unusedVariables false
def C8 (c : Int) : Prop := 0 ≤ c ∧ c ≤ 255
def K8 {α : Type} (f : Int × Int → (Int × Int) × α) : Prop := ∀ x, C8 x.2 → C8 (f x).1.2
theorem fl8 {x : Int × Int} (h : C8 x.2) {c : Int} (hc : C8 c) : C8 (fl x c).2 := by
  unfold fl; dsimp only; split
  · exact hc
  · exact h
theorem cm8 {c : Int} (h : C8 c) : C8 (cm c) := by
  unfold cm; split
  · exact ⟨by decide, by decide⟩
  · exact h
theorem c129 : C8 129 := ⟨by decide, by decide⟩
theorem c130 : C8 130 := ⟨by decide, by decide⟩
theorem c132 : C8 132 := ⟨by decide, by decide⟩
theorem c149 : C8 149 := ⟨by decide, by decide⟩
theorem c0 : C8 0 := ⟨by decide, by decide⟩
theorem rN8 (U : ByteArray) (wd : Int) : K8 (rN U wd) := fun x h => by
  unfold rN; split
  · exact h
  split
  · exact fl8 h c129
  · exact h
theorem rT8 (U : ByteArray) : K8 (rT U) := fun x h => by
  unfold rT; split
  · exact h
  split
  · exact fl8 h c129
  · exact h
theorem rD8 (U : ByteArray) : K8 (rD U) := fun x h => by
  unfold rD; split
  · exact h
  split
  · exact fl8 h c129
  · exact h
theorem rI8 (U : ByteArray) : K8 (rI U) := fun x h => by
  have := rN8 U 2 x h
  unfold rI; dsimp only; split
  · exact fl8 this c130
  · exact this
theorem rP8 (U : ByteArray) (k : Int) : K8 (rP U k) := fun x h => by
  obtain ⟨g1, g2, _⟩ := PR.getL_facts U x.1
  unfold rP; split
  · exact h
  split
  · exact fl8 h (cm8 ⟨g1, g2⟩)
  split
  · exact h
  · exact fl8 h c130
theorem thn8 {α β : Type} {f : Int × Int → (Int × Int) × α} {g : α → Int × Int → (Int × Int) × β} (hf : K8 f) (hg : ∀ v, K8 (g v)) : K8 (fun x => g (f x).2 (f x).1) := fun x h => hg _ _ (hf x h)
theorem pass8 (U : ByteArray) (P : Pk) : K8 (pass U P) := fun x h => by
  unfold pass; split
  · exact rD8 U x h
  · exact h
theorem user8 (U : ByteArray) (P : Pk) : K8 (user U P) := fun x h => by
  unfold user; split
  · exact thn8 (rT8 U) (g := fun v => pass U { P with user := v }) (fun v => pass8 U _) x h
  · exact pass8 U P x h
theorem will38 (U : ByteArray) (P : Pk) (l : List Pr) (t : ByteArray) : K8 (will3 U P l t) := thn8 (rD8 U) (g := fun v => user U { P with wprops := l, wtopic := t, wpay := v }) (fun _ => user8 U _)
theorem will28 (U : ByteArray) (P : Pk) (l : List Pr) : K8 (will2 U P l) := thn8 (rT8 U) (g := fun v => will3 U P l v) (fun _ => will38 U _ _ _)
theorem will8 (U : ByteArray) (P : Pk) : K8 (will U P) := fun x h => by
  unfold will; split
  · exact thn8 (rP8 U 0) (g := fun v => will2 U P v) (fun v => will28 U _ _) x h
  · exact user8 U P x h
theorem con58 (U : ByteArray) (P : Pk) (k : Int) (l : List Pr) : K8 (con5 U P k l) := thn8 (rT8 U) (g := fun v => will U { P with keep := k, props := l, client := v }) (fun _ => will8 U _)
theorem con48 (U : ByteArray) (P : Pk) (k : Int) : K8 (con4 U P k) := thn8 (rP8 U 1) (g := fun v => con5 U P k v) (fun _ => con58 U _ _ _)
theorem if8 {p : Prop} [Decidable p] {x : Int × Int} (h : C8 x.2) {c : Int} (hc : C8 c) : C8 (if p then fl x c else x).2 := by
  split
  · exact fl8 h hc
  · exact h
theorem con38 (U : ByteArray) (P : Pk) (n : Int) : K8 (con3 U P n) := fun x h => thn8 (rN8 U 2) (g := fun v => con4 U (flP P n) v) (fun v => con48 U _ _) _ (if8 h c129)
theorem con28 (U : ByteArray) (P : Pk) (v : Int) : K8 (con2 U P v) := fun x h => thn8 (rN8 U 1) (g := fun v => con3 U P v) (fun v => con38 U _ _) _ (if8 h c132)
theorem con18 (U : ByteArray) (P : Pk) (m : ByteArray) : K8 (con1 U P m) := fun x h => thn8 (rN8 U 1) (g := fun v => con2 U P v) (fun v => con28 U _ _) _ (if8 h c129)
theorem conn8 (U : ByteArray) (P : Pk) : K8 (conn U P) := thn8 (rT8 U) (g := fun v => con1 U P v) (fun _ => con18 U _ _)
theorem pair8 {α β : Type} {f : Int × Int → (Int × Int) × α} {g : Int × Int → (Int × Int) × β} (hf : K8 f) (hg : K8 g) : K8 (pair f g) := fun x h => hg _ (hf x h)
theorem chk8 {α : Type} {c : α → Int} (hc : ∀ v, C8 (c v)) (x : (Int × Int) × α) (h : C8 x.1.2) : C8 (chk c x).1.2 := by
  unfold chk; dsimp only; split
  · exact fl8 h (hc _)
  · exact h
theorem sub8 (U : ByteArray) : K8 (sub U) := fun x h => by
  have e1 := pair8 (rT8 U) (rN8 U 1) x h
  have a1 : ∀ v : ByteArray × Int, C8 (subC1 v.2) := fun v => by unfold subC1; split; exact c129; exact c0
  have a2 : ∀ v : ByteArray × Int, C8 (subC2 v.2) := fun v => by unfold subC2; split; exact c130; exact c0
  exact chk8 a2 _ (chk8 a1 _ e1)
theorem ls8 {α : Type} {rd : Int × Int → (Int × Int) × α} (hr : K8 rd) (sz : Nat) : ∀ (u : Nat) (out : List α), K8 (fun x => ls rd sz u x out)
  | 0, out => fun x h => fl8 h c149
  | u + 1, out => fun x h => by
    show C8 (ls rd sz (u + 1) x out).1.2
    unfold ls; split
    · split
      · exact fl8 h c149
      · exact ls8 hr sz u _ _ (hr x h)
    · exact h
theorem lsE8 {α : Type} {rd : Int × Int → (Int × Int) × α} (hr : K8 rd) (sz : Nat) : K8 (lsE rd sz) := fun x h => ls8 hr sz 66 [] _ (if8 h c130)
theorem end28 (U : ByteArray) (P : Pk) : K8 (end2 U P) := fun x h => by
  unfold end2; split
  · exact rP8 U _ x h
  · exact h
theorem end18 (U : ByteArray) (P : Pk) : K8 (end1 U P) := fun x h => by
  unfold end1; split
  · exact end28 U _ _ (rN8 U 1 x h)
  · exact end28 U P x h
theorem lists18 (U : ByteArray) (P : Pk) (v : Int × List Pr) : K8 (lists1 U P v) := fun x h => by
  unfold lists1; split
  · exact lsE8 (sub8 U) _ x h
  · split
    · exact lsE8 (rT8 U) _ x h
    · exact lsE8 (rN8 U 1) _ x h
theorem lists8 (U : ByteArray) (P : Pk) : K8 (lists U P) := fun x h => lists18 U P _ _ (pair8 (rI8 U) (rP8 U _) x h)
theorem ack8 (U : ByteArray) (P : Pk) : K8 (ack U P) := fun x h => by
  have a1 : ∀ v : Int, C8 (if 1 < v then 129 else 0) := fun v => by split; exact c129; exact c0
  exact rP8 U 2 _ (rN8 U 1 _ (chk8 a1 _ (rN8 U 1 x h)))
theorem pubI8 (U : ByteArray) (q i : Int) : K8 (pubI U q i) := fun x h => by
  unfold pubI; split
  · exact rI8 U x h
  · exact h
theorem pub8 (U : ByteArray) (P : Pk) : K8 (pub U P) := fun x h => pair8 (rT8 U) (pair8 (pubI8 U _ _) (rP8 U 3)) x h
theorem body8 (k : Int) (U : ByteArray) (P : Pk) : K8 (body k U P) := fun x h => by
  unfold body
  split
  · exact conn8 U P x h
  split
  · exact ack8 U P x h
  split
  · exact pub8 U P x h
  split
  · exact end18 U _ _ (rI8 U x h)
  split
  · exact end18 U P x h
  split
  · exact lists8 U P x h
  · exact h
theorem get8 (s : ByteArray) : C8 (get s).2 := by
  unfold get
  split
  · exact ⟨by decide, by decide⟩
  split
  · exact c129
  split
  · show C8 (PK.hdC s)
    have hv := PR.vget_code s 1
    unfold PK.hdC
    split
    · unfold PK.lenC
      split
      · exact c149
      split
      · exact ⟨by decide, by decide⟩
      split
      · exact c129
      · exact c0
    · exact ⟨hv.1, Int.le_trans hv.2 (by decide)⟩
  · unfold whole
    split
    · exact body8 _ _ _ _ c0
    split
    · exact c129
    · exact c0
end RG
theorem getPk_c8 (s : ByteArray) : 0 ≤ (PK.getPk s).2 ∧ (PK.getPk s).2 ≤ 255 := by rw [← RG.get_same]; exact RG.get8 s
end Go.Proofs.YtmldnaadjhnfcaaGreatDoor
namespace Go.Proofs.YtmldnaadjhnfcaaGreatDoor
open Go.RowKit
theorem own5_zero (B : Nat) (w : World) : Own5 B PK.zeroPk (.slice none 0 0) (.slice none 0 0) (.slice none 0 0) (.slice none 0 0) (.slice none 0 0) w :=
  ⟨own_nil _ _ _ _, own_nil _ _ _ _, own_nil _ _ _ _, own_nil _ _ _ _, own_nil _ _ _ _⟩
theorem getPk_bad (s : ByteArray) (h : (PK.getPk s).2 ≠ 0) : (PK.getPk s).1 = PK.zeroPk := by
  unfold PK.getPk at h ⊢
  split
  · rfl
  split
  · rfl
  split
  · rfl
  split
  · rfl
  · rename_i h0 h1 h2 h3
    rw [if_neg h0, if_neg h1, if_neg h2, if_neg h3] at h
    exact absurd rfl h
/-- What Get answers, good or bad. -/
theorem GtP.all {s : ByteArray} {w w' : World} {e : Ending} (h : GtP w (PK.getPk s) e w') :
    ∃ vc vp vw vs vf, e = .returned (.tuple #[.agg (pkCells (PK.getPk s).1 vc vp vw vs vf), .int .u8 (PK.getPk s).2]) ∧ Own5 w.heap.size (PK.getPk s).1 vc vp vw vs vf w' ∧ Below w.heap.size w w' := by
  obtain ⟨h1, h2, b⟩ := h
  by_cases hc : (PK.getPk s).2 = 0
  · obtain ⟨vc, vp, vw, vs, vf, he, ho⟩ := h1 hc
    exact ⟨vc, vp, vw, vs, vf, by rw [hc]; exact he, ho, b⟩
  · exact ⟨_, _, _, _, _, by rw [getPk_bad s hc]; exact h2 hc, by rw [getPk_bad s hc]; exact own5_zero _ _, b⟩
theorem fixed_id : (PK.getPk ⟨#[50, 7, 0, 1, 97, 0, 10, 0, 120]⟩).1.id = 10 := by kernel_rfl
end Go.Proofs.YtmldnaadjhnfcaaGreatDoor
