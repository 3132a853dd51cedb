/- Read back: packets that may end early; all kinds.; What was put is read: part by part.; What was put is read: lists, a Connect, all kinds.; What was put is read: a Connect; endings; the first byte.; What was put is read, and put again the same.; In whatever pieces bytes come, the packets are the same: the plain side, over whatever reads a packet.; A packet's bytes, cut off, with a byte more, with other flags: the plain side.; A packet that is put, read and put again has the same bytes: the plain side.; stream.through, with whatever function it hands the packets to.; A stream's reader: a strings.Builder in a struct, that is written on behind its own String.; A stream's reader: what its builder holds, as a string.; The function that Feed hands a packet's bytes to.; A reader's Feed.; Packets put one behind the other, and the beginning of one more: what a reader tells of them. The plain side.; What was read is such as a machine can hold.; A packet that was read is such as Put takes.; The laws' argument, opened: a packet as plain data; how long its texts can be.; The laws' argument, opened: a packet as plain data (layer 6's own type). -/
import Derived.Test.YtlfgndhdifpngaaGreatDoorMC
import Derived.WalkMore
import Derived.Test.YtlfgndhdifpngaaGreatDoorPkWr
import Derived.Lib.FrozenHead
import Derived.Test.YtlfgndhdifpngaaGreatDoorVarClone
import Derived.Test.YtlfgndhdifpngaaGreatDoorPrMisc
import Derived.Test.YtlfgndhdifpngaaGreatDoorMA
import Derived.Deep.Slices
import Derived.ChangeOld
import Derived.OpenShut
import Derived.SizedLaws
import Derived.Lib.Strings
namespace Go.Proofs.YtlfgndhdifpngaaGreatDoor
namespace PK
open PR (Has has_both has_ext has_nil has_mk has_left has_right has_self)

/-- A code and properties, as far as they must stand there. -/
def endO (o : ByteArray × Int) (k c : Int) (l : List Pr) : ByteArray × Int := if c = 0 ∧ l = [] then o else if l = [] then nm o 1 c else pr (nm o 1 c) k l
theorem at_le {U : ByteArray} {p : Nat} {o : ByteArray × Int} {a : Int} (h : At U p o a) : a ≤ (U.size : Int) := by
  obtain ⟨_, h2, rfl⟩ := h
  have := h2.1
  omega
theorem end_inv {U : ByteArray} {p : Nat} {o : ByteArray × Int} {a : Int} (k : Int) (h : At U p o a) (hc : (rdEnd U a k).2.2 = 0) (he : (rdEnd U a k).2.1 = (U.size : Int)) :
    ∃ c l a', (rdEnd U a k).1 = (c, l) ∧ At U p (endO o k c l) a' ∧ (a' = (U.size : Int) ∨ (l = [] ∧ VP.fixC 1 c = 0)) := by
  have z0 : VP.fixC 1 0 = 0 := (fix1_size (Int.le_refl 0) (by decide)).2
  unfold rdEnd at hc he ⊢
  by_cases h1 : a = (U.size : Int)
  · rw [if_pos h1]
    exact ⟨0, [], a, rfl, by unfold endO; rw [if_pos ⟨rfl, rfl⟩]; exact h, .inl h1⟩
  rw [if_neg h1] at hc he ⊢
  by_cases h2 : (rdC U a).2.2 ≠ 0
  · rw [if_pos h2] at hc; exact absurd hc h2
  rw [if_neg h2] at hc he ⊢
  obtain ⟨c, a1, e1, hA1, hf⟩ := rdN_inv 1 h (Classical.not_not.1 h2)
  have e1' : rdC U a = (c, a1, 0) := e1
  rw [e1'] at hc he ⊢
  simp only at hc he ⊢
  by_cases h3 : a1 = (U.size : Int)
  · rw [if_pos h3]
    by_cases hc0 : c = 0
    · exact ⟨c, [], a, rfl, by unfold endO; rw [if_pos ⟨hc0, rfl⟩]; exact h, .inr ⟨rfl, hf⟩⟩
    · exact ⟨c, [], a1, rfl, by unfold endO; rw [if_neg (fun e => hc0 e.1), if_pos rfl]; exact hA1, .inl h3⟩
  · rw [if_neg h3] at hc he ⊢
    obtain ⟨l, a2, e2, hA2⟩ := rdPr_inv k hA1 hc
    rw [e2] at he ⊢
    simp only at he ⊢
    by_cases hl : l = []
    · subst hl
      by_cases hc0 : c = 0
      · exact ⟨c, [], a, rfl, by unfold endO; rw [if_pos ⟨hc0, rfl⟩]; exact h, .inr ⟨rfl, hf⟩⟩
      · exact ⟨c, [], a1, rfl, by unfold endO; rw [if_neg (fun e => hc0 e.1), if_pos rfl]; exact hA1, .inr ⟨rfl, hf⟩⟩
    · exact ⟨c, l, a2, rfl, by unfold endO; rw [if_neg (fun e => hl e.2), if_neg hl]; exact hA2, .inl he⟩
/-- A short ending is read back. -/
theorem end_fwd {V : ByteArray} {b : Nat} {o : ByteArray × Int} (k c : Int) (ho : o.2 = 0) (hf : VP.fixC 1 c = 0) (hV : Has V b (endO o k c []).1) (hz : b + (endO o k c []).1.size = V.size) : rdEnd V ((b + o.1.size : Nat) : Int) k = ((c, []), (V.size : Int), 0) ∧ Has V b o.1 := by
  unfold endO at hV hz
  by_cases hc0 : c = 0
  · rw [if_pos ⟨hc0, rfl⟩] at hV hz
    refine ⟨?_, hV⟩
    unfold rdEnd
    rw [if_pos (by rw [hz]), hz, hc0]
  · rw [if_neg (fun e => hc0 e.1), if_pos rfl] at hV hz
    have e : nm o 1 c = (o.1 ++ strOfNums (VP.fixL 1 c), 0) := by unfold nm; rw [hf, ad_ok ho]
    rw [e] at hV hz
    simp only at hV hz
    rw [ByteArray.size_append] at hz
    have h1 := has_left hV
    have h2 := has_right hV
    have hr := PR.rd_has (U := V) (P := b + o.1.size) (w := 1) hf h2
    have hsz : 0 < (strOfNums (VP.fixL 1 c)).size := by
      have hnn : 0 ≤ c ∧ c ≤ 255 := by
        unfold VP.fixC at hf
        repeat' split at hf
        all_goals first | omega | exact absurd hf (by decide)
      rw [(fix1_size hnn.1 hnn.2).1]; decide
    have hrc : rdC V ((b + o.1.size : Nat) : Int) = (c, (V.size : Int), 0) := by
      unfold rdC
      rw [hr]
      refine Prod.ext rfl (Prod.ext ?_ rfl)
      simp only
      omega
    refine ⟨?_, h1⟩
    unfold rdEnd
    rw [if_neg (by omega), hrc]
    simp
theorem sz_mono {n m : Int} (h0 : 0 ≤ n) (h : n ≤ m) (h1 : m ≤ 268435455) : VP.sz n ≤ VP.sz m := by
  unfold VP.sz
  repeat' split
  all_goals omega
theorem len_mono {n m : Nat} (h : n ≤ m) (h1 : m ≤ 65536) : (strOfNums (VP.putL (n : Int))).size ≤ (strOfNums (VP.putL (m : Int))).size := by
  have e1 := VP.putL_len (n := (n : Int)) (by omega) (by omega)
  have e2 := VP.putL_len (n := (m : Int)) (by omega) (by omega)
  have e3 := sz_mono (n := (n : Int)) (m := (m : Int)) (by omega) (by omega) (by omega)
  have s1 : ∀ l : List Int, (strOfNums l).size = l.length := fun l => by simp [strOfNums, ByteArray.size]
  rw [s1, s1]
  omega
/-- A packet without a code, with whatever follows its length. -/
theorem short_done {s : ByteArray} {Q : Pk} {m b : Nat} (hk : 1 ≤ Q.kind ∧ Q.kind ≤ 15) (h2 : (bodyO Q).2 = 0) (hle : (bodyO Q).1.size ≤ m) (hm : m ≤ 65536) (hbm : b + m = s.size) (hb : b = 1 + (strOfNums (VP.putL m)).size) (hn : 16 * Q.kind + flagsN Q = b0 s) (hpos : 0 < s.size) (hok : begOk (b0 s) = true)
    (hfwd : ∀ (V : ByteArray) (b' : Nat), Has V b' (bodyO Q).1 → b' + (bodyO Q).1.size = V.size → partsK (begPk (b0 s)).kind V b' (begPk (b0 s)) = (Q, (V.size : Int), 0)) : putC Q = 0 ∧ (putS Q).size ≤ s.size ∧ getPk (putS Q) = (Q, 0) := by
  have hbn : 0 ≤ b0 s ∧ b0 s ≤ 255 := by
    unfold b0
    rw [dif_pos hpos]
    have := VP.byte_lt s 0 hpos
    omega
  have hc : putC Q = 0 := by
    unfold putC
    rw [if_neg (by omega), if_neg (by simp [h2]), if_neg (by omega)]
  obtain ⟨b', g1, g2, g3, g4, g5, _, g7⟩ := putS_head hk hc (by rw [hn]; exact hbn)
  have hb' : b' = 1 + (strOfNums (VP.putL ((bodyO Q).1.size : Int))).size := by
    have e : putS Q = strOfNums (VP.fixL 1 (16 * Q.kind + flagsN Q)) ++ strOfNums (VP.putL (bodyO Q).1.size) ++ (bodyO Q).1 := by unfold putS; rw [if_neg (by simp [hc])]
    have := congrArg ByteArray.size e
    rw [ByteArray.size_append, ByteArray.size_append, hn, (fix1_size hbn.1 hbn.2).1] at this
    omega
  have hlen := len_mono hle hm
  refine ⟨hc, by omega, ?_⟩
  have hX := hfwd (putS Q) b' g3 g2
  unfold getPk
  rw [if_neg (by omega), g4, hn, if_neg (by rw [hok]; decide)]
  have hd : hdC (putS Q) = 0 := by
    unfold hdC
    rw [g1]
    simp only [if_true]
    unfold lenC
    rw [if_neg (by omega), if_neg (by omega), if_neg (by omega)]
  have hw : rdWhole (putS Q) (b' : Int) (begPk (b0 s)) = (Q, 0) := by
    unfold rdWhole
    rw [hX]
    simp only [if_true]
    rfl
  rw [if_neg (by rw [hd]; decide), g1]
  simp only
  rw [hw, if_neg (by simp)]
theorem flags_same {P Q : Pk} (hk : Q.kind = P.kind) (h3 : P.kind = 3 → Q.dup = P.dup ∧ Q.ret = P.ret ∧ Q.qos = P.qos) : flagsN Q = flagsN P ∧ flagsO Q = flagsO P := by
  unfold flagsN flagsO canPub
  rw [hk]
  by_cases h : P.kind = 3
  · obtain ⟨e1, e2, e3⟩ := h3 h
    rw [e1, e2, e3]
    exact ⟨rfl, rfl⟩
  · exact ⟨by rw [if_neg h, if_neg h], by rw [if_neg (fun e => h e.1), if_neg (fun e => h e.1)]⟩
theorem idd_fwd {V : ByteArray} {b : Nat} {i : Int} (h2 : (idd (⟨#[]⟩, 0) i).2 = 0) (hV : Has V b (idd (⟨#[]⟩, 0) i).1) : rdId V (b : Int) = (i, ((b + (idd (⟨#[]⟩, 0) i).1.size : Nat) : Int), 0) := by
  unfold idd at h2 hV ⊢
  by_cases hi : i < 1 ∨ 65535 < i
  · rw [if_pos hi] at h2
    have e : rf ((⟨#[]⟩, 0) : ByteArray × Int) 130 = (⟨#[]⟩, 130) := rfl
    rw [e] at h2
    unfold nm at h2
    rw [ad_bad (by simp)] at h2
    exact absurd h2 (by simp)
  rw [if_neg hi] at h2 hV ⊢
  have hf : VP.fixC 2 i = 0 := by
    by_cases hf : VP.fixC 2 i = 0
    · exact hf
    · unfold nm at h2
      rw [ad_code rfl _ hf] at h2
      exact absurd h2 hf
  have e : nm ((⟨#[]⟩, 0) : ByteArray × Int) 2 i = (⟨#[]⟩ ++ strOfNums (VP.fixL 2 i), 0) := by unfold nm; rw [hf, ad_ok rfl]
  rw [e] at hV ⊢
  have h3 := has_right hV
  have z : (ByteArray.mk #[]).size = 0 := rfl
  rw [z, Nat.add_zero] at h3
  have hr := PR.rd_has (U := V) (P := b) (w := 2) hf h3
  unfold rdId
  rw [hr]
  simp only
  rw [if_neg (by omega), ByteArray.size_append, z, Nat.zero_add]
  rfl
/-- What is read and put is read the same again. -/
theorem twice (s : ByteArray) (h : (getPk s).2 = 0) : putC (getPk s).1 = 0 ∧ (putS (getPk s).1).size ≤ s.size ∧ getPk (putS (getPk s).1) = ((getPk s).1, 0) := by
  obtain ⟨m, b, hok, hpos, _, hm, hbm, hb, hL, hc, he, hX⟩ := getPk_inv h
  have hX1 : (getPk s).1 = (partsK (begPk (b0 s)).kind s b (begPk (b0 s))).1 := by rw [hX]
  have hbn : 0 ≤ b0 s ∧ b0 s ≤ 255 := by
    unfold b0
    rw [dif_pos hpos]
    have := VP.byte_lt s 0 hpos
    omega
  obtain ⟨hk1, hk2, hB⟩ := beg_kind (b0 s) hok
  obtain ⟨hfirst, hflO⟩ := beg_first (b0 s) hbn.1 hbn.2 hok
  have hA0 : At s b (⟨#[]⟩, 0) (b : Int) := ⟨rfl, has_nil (by omega), rfl⟩
  have fin : ∀ Q : Pk, Q = (getPk s).1 → putC Q = 0 ∧ putS Q = s → putC (getPk s).1 = 0 ∧ (putS (getPk s).1).size ≤ s.size ∧ getPk (putS (getPk s).1) = ((getPk s).1, 0) := fun Q hQ hd => by
    subst hQ
    refine ⟨hd.1, by rw [hd.2]; exact Nat.le_refl _, ?_⟩
    rw [hd.2, hX]
  rw [hX1] at fin ⊢
  by_cases hke : (begPk (b0 s)).kind = 1 ∨ (begPk (b0 s)).kind = 2 ∨ (begPk (b0 s)).kind = 3 ∨ (begPk (b0 s)).kind = 8 ∨ (begPk (b0 s)).kind = 9 ∨ (begPk (b0 s)).kind = 10 ∨ (begPk (b0 s)).kind = 11 ∨ (begPk (b0 s)).kind = 12 ∨ (begPk (b0 s)).kind = 13
  · obtain ⟨hA, hQk⟩ := parts_inv (begPk (b0 s)) hke hA0 hc he
    have h3 : (begPk (b0 s)).kind = 3 → (partsK (begPk (b0 s)).kind s b (begPk (b0 s))).1.dup = (begPk (b0 s)).dup ∧ (partsK (begPk (b0 s)).kind s b (begPk (b0 s))).1.ret = (begPk (b0 s)).ret ∧ (partsK (begPk (b0 s)).kind s b (begPk (b0 s))).1.qos = (begPk (b0 s)).qos := fun hk3 => by
      unfold partsK
      rw [if_neg (by omega), if_neg (by omega), if_pos hk3]
      exact ⟨rfl, rfl, rfl⟩
    obtain ⟨f1, f2⟩ := flags_same hQk h3
    have hbo : bodyO (partsK (begPk (b0 s)).kind s b (begPk (b0 s))).1 = parts (⟨#[]⟩, 0) (partsK (begPk (b0 s)).kind s b (begPk (b0 s))).1 := by
      unfold bodyO
      rw [f2]
      exact congrArg (fun x => parts x _) hflO
    rw [← hbo] at hA
    exact fin _ rfl (exact_done (by rw [hQk]; exact ⟨hk1, hk2⟩) hA hm hbm hb hL (by rw [hQk, f1]; exact hfirst) hpos)
  · have hn3 : (begPk (b0 s)).kind ≠ 3 := fun e => hke (by omega)
    by_cases hk4 : (begPk (b0 s)).kind = 4 ∨ (begPk (b0 s)).kind = 5 ∨ (begPk (b0 s)).kind = 6 ∨ (begPk (b0 s)).kind = 7
    · have e : ∀ (V : ByteArray) (a : Int), partsK (begPk (b0 s)).kind V a (begPk (b0 s)) = bnd (begPk (b0 s)) (rdId V a) (fun i a => rdEndP V a (begPk (b0 s)).kind { begPk (b0 s) with id := i }) := fun V a => by unfold partsK; rw [if_neg (by omega), if_neg (by omega), if_neg (by omega), if_neg (by omega), if_neg (by omega), if_neg (by omega), if_pos hk4]
      rw [e] at hc he fin ⊢
      obtain ⟨c1, e1⟩ := bnd_inv hc
      obtain ⟨i, a1, h1, hA1⟩ := rdId_inv hA0 c1
      rw [e1, h1] at hc he fin ⊢
      obtain ⟨c, l, a2, h2, hA2, hor⟩ := end_inv (begPk (b0 s)).kind hA1 hc he
      obtain ⟨Q, hQ⟩ : ∃ Q, Q = (rdEndP s a1 (begPk (b0 s)).kind { begPk (b0 s) with id := i }).1 := ⟨_, rfl⟩
      have hQe : Q = { begPk (b0 s) with id := i, code := c, props := l } := by rw [hQ]; unfold rdEndP; rw [h2]
      have hQk : Q.kind = (begPk (b0 s)).kind := by rw [hQe]
      obtain ⟨f1, f2⟩ := flags_same hQk (fun h => absurd h hn3)
      have hbo : bodyO Q = endO (idd (⟨#[]⟩, 0) i) (begPk (b0 s)).kind c l := by
        unfold bodyO
        rw [f2, show flagsO (begPk (b0 s)) = (⟨#[]⟩, 0) from hflO]
        unfold parts
        rw [hQk, if_neg (by omega), if_neg (by omega), if_neg (by omega), if_neg (by omega), if_neg (by omega), if_neg (by omega), if_pos hk4, hQe]
        rfl
      rw [← hbo] at hA2
      simp only at fin ⊢
      rw [← hQ] at fin ⊢
      rcases hor with rfl | ⟨hl, hf⟩
      · exact fin _ rfl (exact_done (by rw [hQk]; exact ⟨hk1, hk2⟩) hA2 hm hbm hb hL (by rw [hQk, f1]; exact hfirst) hpos)
      · subst hl
        have hle := at_le hA2
        obtain ⟨z1, z2, z3⟩ := hA2
        refine short_done (m := m) (b := b) (by rw [hQk]; exact ⟨hk1, hk2⟩) z1 (by omega) hm hbm hb (by rw [hQk, f1]; exact hfirst) hpos hok ?_
        intro V b' hV hz
        rw [hbo] at hV hz
        obtain ⟨r1, r2⟩ := end_fwd (begPk (b0 s)).kind c hA1.1 hf hV hz
        have r3 := idd_fwd hA1.1 r2
        rw [e, r3, bnd_ok rfl]
        unfold rdEndP
        rw [r1, hQe]
    · have hk14 : (begPk (b0 s)).kind = 14 ∨ (begPk (b0 s)).kind = 15 := by omega
      have e : ∀ (V : ByteArray) (a : Int), partsK (begPk (b0 s)).kind V a (begPk (b0 s)) = rdEndP V a (begPk (b0 s)).kind (begPk (b0 s)) := fun V a => by unfold partsK; rw [if_neg (by omega), if_neg (by omega), if_neg (by omega), if_neg (by omega), if_neg (by omega), if_neg (by omega), if_neg hk4, if_pos hk14]
      rw [e] at hc he fin ⊢
      obtain ⟨c, l, a2, h2, hA2, hor⟩ := end_inv (begPk (b0 s)).kind hA0 hc he
      obtain ⟨Q, hQ⟩ : ∃ Q, Q = (rdEndP s b (begPk (b0 s)).kind (begPk (b0 s))).1 := ⟨_, rfl⟩
      have hQe : Q = { begPk (b0 s) with code := c, props := l } := by rw [hQ]; unfold rdEndP; rw [h2]
      have hQk : Q.kind = (begPk (b0 s)).kind := by rw [hQe]
      obtain ⟨f1, f2⟩ := flags_same hQk (fun h => absurd h hn3)
      have hbo : bodyO Q = endO (⟨#[]⟩, 0) (begPk (b0 s)).kind c l := by
        unfold bodyO
        rw [f2, show flagsO (begPk (b0 s)) = (⟨#[]⟩, 0) from hflO]
        unfold parts
        rw [hQk, if_neg (by omega), if_neg (by omega), if_neg (by omega), if_neg (by omega), if_neg (by omega), if_neg (by omega), if_neg hk4, if_pos hk14, hQe]
        rfl
      rw [← hbo] at hA2
      rw [← hQ] at fin ⊢
      rcases hor with rfl | ⟨hl, hf⟩
      · exact fin _ rfl (exact_done (by rw [hQk]; exact ⟨hk1, hk2⟩) hA2 hm hbm hb hL (by rw [hQk, f1]; exact hfirst) hpos)
      · subst hl
        have hle := at_le hA2
        obtain ⟨z1, z2, z3⟩ := hA2
        refine short_done (m := m) (b := b) (by rw [hQk]; exact ⟨hk1, hk2⟩) z1 (by omega) hm hbm hb (by rw [hQk, f1]; exact hfirst) hpos hok ?_
        intro V b' hV hz
        rw [hbo] at hV hz
        obtain ⟨r1, r2⟩ := end_fwd (o := (⟨#[]⟩, 0)) (begPk (b0 s)).kind c rfl hf hV hz
        rw [e]
        unfold rdEndP
        rw [show ((b' : Nat) : Int) = ((b' + (ByteArray.mk #[]).size : Nat) : Int) from rfl, r1, hQe]
end PK
end Go.Proofs.YtlfgndhdifpngaaGreatDoor
namespace Go.Proofs.YtlfgndhdifpngaaGreatDoor
namespace PK
open PR (Has has_both has_ext has_nil has_mk has_left has_right has_self)

/-- What a part's bytes are read as, with what was put ahead of them. -/
def Fw {α : Type} (V : ByteArray) (b : Nat) (o o' : ByteArray × Int) (rd : Int → α × Int × Int) (x : α) : Prop := o.2 = 0 ∧ Has V b o.1 ∧ rd ((b + o.1.size : Nat) : Int) = (x, ((b + o'.1.size : Nat) : Int), 0)
theorem ad_split {o : ByteArray × Int} {B : ByteArray} {c : Int} (h : (ad o B c).2 = 0) : o.2 = 0 ∧ c = 0 ∧ (ad o B c).1 = o.1 ++ B := by
  by_cases ho : o.2 = 0
  · by_cases hc : c = 0
    · subst hc; rw [ad_ok ho]; exact ⟨ho, rfl, rfl⟩
    · rw [ad_code ho _ hc] at h; exact absurd h hc
  · rw [ad_bad ho] at h; exact absurd h ho
theorem ad_fw {V : ByteArray} {b : Nat} {o : ByteArray × Int} {B : ByteArray} {c : Int} (h : (ad o B c).2 = 0) (hV : Has V b (ad o B c).1) : o.2 = 0 ∧ c = 0 ∧ Has V b o.1 ∧ Has V (b + o.1.size) B ∧ (ad o B c).1.size = o.1.size + B.size := by
  obtain ⟨h1, h2, h3⟩ := ad_split h
  rw [h3] at hV ⊢
  exact ⟨h1, h2, has_left hV, has_right hV, ByteArray.size_append⟩
theorem tx_fw {V : ByteArray} {b : Nat} {o : ByteArray × Int} {t : ByteArray} (h : (tx o t).2 = 0) (hV : Has V b (tx o t).1) : Fw V b o (tx o t) (rdT V) t := by
  obtain ⟨h1, h2, h3, h4, h5⟩ := ad_fw h hV
  refine ⟨h1, h3, ?_⟩
  unfold rdT
  rw [PR.getT_has h2 h4]
  show (t, _, cm 0) = _
  rw [show (tx o t).1.size = o.1.size + (TX.putS t).size from h5, Nat.add_assoc]
  rfl
theorem nm_fw {V : ByteArray} {b : Nat} {o : ByteArray × Int} {n : Int} (wd : Int) (h : (nm o wd n).2 = 0) (hV : Has V b (nm o wd n).1) : Fw V b o (nm o wd n) (fun a => rdN V a wd) n ∧ VP.fixC wd n = 0 := by
  obtain ⟨h1, h2, h3, h4, h5⟩ := ad_fw h hV
  refine ⟨⟨h1, h3, ?_⟩, h2⟩
  simp only
  unfold rdN
  rw [PR.rd_has h2 h4]
  show (n, _, cm 0) = _
  rw [show (nm o wd n).1.size = o.1.size + (strOfNums (VP.fixL wd n)).size from h5, Nat.add_assoc]
  rfl
theorem dt_fw {V : ByteArray} {b : Nat} {o : ByteArray × Int} {t : ByteArray} (h : (dt o t).2 = 0) (hV : Has V b (dt o t).1) : Fw V b o (dt o t) (rdD V) t := by
  obtain ⟨h1, h2, h3, h4, h5⟩ := ad_fw h hV
  have hs : t.size ≤ 65535 := by
    unfold TX.dataC at h2
    split at h2
    · omega
    · exact absurd h2 (by decide)
  refine ⟨h1, h3, ?_⟩
  unfold rdD
  rw [PR.dat_has hs h4]
  show (t, _, cm 0) = _
  rw [show (dt o t).1.size = o.1.size + (TX.dataS t).size from h5, Nat.add_assoc]
  rfl
theorem getL_has {V : ByteArray} {p : Nat} {l : List Pr} (h : PR.putC l = 0) (hV : Has V p (PR.putS l)) : PR.getL V (p : Int) = (l.map PR.nrm, ((p + (PR.putS l).size : Nat) : Int), 0) := by
  obtain ⟨hl, hr, he⟩ := PR.putS_is h
  have hz := PR.allS_size l
  rw [he] at hV
  have ha := has_left hV
  have hb := has_right hV
  have hg := PR.get_has (n := ((PR.allS l).size : Int)) (by omega) (by omega) ha
  have hs : (PR.putS l).size = (strOfNums (VP.putL (PR.allS l).size)).size + (PR.allS l).size := by rw [he, ByteArray.size_append]
  have hgl := PR.gl_has (U := PR.allS l) l [] 66 0 (has_self _) (by omega) (by omega) (by simpa using hl) (fun j q hq => by
    have := PR.rest_zero l 0 hr j q hq
    simpa using this)
  rw [List.nil_append, List.map_nil] at hgl
  rw [show ((0 : Nat) : Int) = 0 from rfl] at hgl
  have hB := hb.1
  have e := PR.getL_in V p (PR.allS l).size (p + (strOfNums (VP.putL (PR.allS l).size)).size) hg (by omega) rfl
  rw [e, has_ext hb, hgl, if_neg (by simp)]
  refine Prod.ext rfl (Prod.ext ?_ rfl)
  simp only
  omega
theorem alAll_nrm (k : Int) (l : List Pr) : alAll k (l.map PR.nrm) = alAll k l := by
  unfold alAll
  rw [List.all_map]
  congr 1
  funext p
  show al k (PR.nrm p).id = _
  rw [PR.nrm_id]
theorem pr_fw {V : ByteArray} {b : Nat} {o : ByteArray × Int} {l : List Pr} (k : Int) (h : (pr o k l).2 = 0) (hV : Has V b (pr o k l).1) : Fw V b o (pr o k l) (fun a => rdPr V a k) (l.map PR.nrm) := by
  have hal : alAll k l = true := by
    by_cases hal : alAll k l = true
    · exact hal
    · unfold pr at h
      rw [if_neg hal] at h
      exact absurd (ad_split h).2.1 (by decide)
  have e : pr o k l = ad o (PR.putS l) (PR.putC l) := by unfold pr; rw [if_pos hal]
  rw [e] at h hV ⊢
  obtain ⟨h1, h2, h3, h4, h5⟩ := ad_fw h hV
  refine ⟨h1, h3, ?_⟩
  simp only
  unfold rdPr
  rw [getL_has h2 h4]
  simp only
  rw [alAll_nrm, if_pos hal, h5, Nat.add_assoc]
  rfl
theorem idd_fw {V : ByteArray} {b : Nat} {o : ByteArray × Int} {i : Int} (h : (idd o i).2 = 0) (hV : Has V b (idd o i).1) : Fw V b o (idd o i) (rdId V) i := by
  unfold idd at h hV ⊢
  by_cases hi : i < 1 ∨ 65535 < i
  · rw [if_pos hi] at h
    have h1 := (ad_split h).1
    exact absurd (ad_split h1).2.1 (by decide)
  rw [if_neg hi] at h hV ⊢
  obtain ⟨⟨h1, h2, h3⟩, _⟩ := nm_fw 2 h hV
  refine ⟨h1, h2, ?_⟩
  have e1 : (VP.rd V ((b + o.1.size : Nat) : Int) 2).1 = i := congrArg Prod.fst h3
  have e2 : (VP.rd V ((b + o.1.size : Nat) : Int) 2).2.1 = ((b + (nm o 2 i).1.size : Nat) : Int) := congrArg (fun x => x.2.1) h3
  have e3 : cm (VP.rd V ((b + o.1.size : Nat) : Int) 2).2.2 = 0 := congrArg (fun x => x.2.2) h3
  unfold rdId
  rw [e1, e2, e3, if_neg (by omega)]
  rfl
theorem ses_fw {V : ByteArray} {b : Nat} {o : ByteArray × Int} {x : Bool} (h : (nm o 1 (fl x 1)).2 = 0) (hV : Has V b (nm o 1 (fl x 1)).1) : Fw V b o (nm o 1 (fl x 1)) (rdSes V) x := by
  obtain ⟨⟨h1, h2, h3⟩, _⟩ := nm_fw 1 h hV
  refine ⟨h1, h2, ?_⟩
  have e1 : (VP.rd V ((b + o.1.size : Nat) : Int) 1).1 = fl x 1 := congrArg Prod.fst h3
  have e2 : (VP.rd V ((b + o.1.size : Nat) : Int) 1).2.1 = ((b + (nm o 1 (fl x 1)).1.size : Nat) : Int) := congrArg (fun x => x.2.1) h3
  have e3 : cm (VP.rd V ((b + o.1.size : Nat) : Int) 1).2.2 = 0 := congrArg (fun x => x.2.2) h3
  unfold rdSes
  rw [e1, e2, e3]
  cases x <;> rfl
theorem sub_back (q h : Int) (nl ap : Bool) (h1 : (isQ q && isQ h) = true) (f : ByteArray) : subC (q + fl nl 4 + fl ap 8 + 16 * h) = 0 ∧ subOf f (q + fl nl 4 + fl ap 8 + 16 * h) = ⟨f, q, nl, ap, h⟩ := by
  simp [isQ] at h1
  obtain ⟨⟨a1, a2⟩, a3, a4⟩ := h1
  obtain ⟨x, rfl⟩ := Int.eq_ofNat_of_zero_le a1
  obtain ⟨y, rfl⟩ := Int.eq_ofNat_of_zero_le a3
  have hd : ∀ (x y : Fin 3) (nl ap : Bool), let n : Int := ((x.val : Nat) : Int) + fl nl 4 + fl ap 8 + 16 * ((y.val : Nat) : Int)
      subC n = 0 ∧ bits .and .i64 n 3 = ((x.val : Nat) : Int) ∧ (bits .and .i64 n 4 != 0) = nl ∧ (bits .and .i64 n 8 != 0) = ap ∧ bits .and .i64 (n / 16) 3 = ((y.val : Nat) : Int) := by decide +kernel
  obtain ⟨b1, b2, b3, b4, b5⟩ := hd ⟨x, by omega⟩ ⟨y, by omega⟩ nl ap
  simp only at b1 b2 b3 b4 b5
  refine ⟨b1, ?_⟩
  unfold subOf
  rw [b2, b3, b4, b5]
theorem sub_fw {V : ByteArray} {b : Nat} {o : ByteArray × Int} {s : Sb} (h : (sub o s).2 = 0) (hV : Has V b (sub o s).1) : Fw V b o (sub o s) (rdSub V) s := by
  unfold sub at h hV ⊢
  by_cases hq : (isQ s.q && isQ s.h) = true
  · rw [if_pos hq] at h hV ⊢
    obtain ⟨⟨h1, h2, h3⟩, _⟩ := nm_fw 1 h hV
    obtain ⟨k1, k2, k3⟩ := tx_fw h1 h2
    refine ⟨k1, k2, ?_⟩
    have e1 : (TX.getT V ((b + o.1.size : Nat) : Int)).1 = s.f := congrArg Prod.fst k3
    have e2 : (TX.getT V ((b + o.1.size : Nat) : Int)).2.1 = ((b + (tx o s.f).1.size : Nat) : Int) := congrArg (fun x => x.2.1) k3
    have e3 : cm (TX.getT V ((b + o.1.size : Nat) : Int)).2.2 = 0 := congrArg (fun x => x.2.2) k3
    have f1 : (VP.rd V ((b + (tx o s.f).1.size : Nat) : Int) 1).1 = subN s := congrArg Prod.fst h3
    have f2 : (VP.rd V ((b + (tx o s.f).1.size : Nat) : Int) 1).2.1 = ((b + (nm (tx o s.f) 1 (subN s)).1.size : Nat) : Int) := congrArg (fun x => x.2.1) h3
    have f3 : cm (VP.rd V ((b + (tx o s.f).1.size : Nat) : Int) 1).2.2 = 0 := congrArg (fun x => x.2.2) h3
    obtain ⟨g1, g2⟩ := sub_back s.q s.h s.nl s.ap hq s.f
    unfold rdSub
    rw [e1, e2, e3, f1, f2, f3, show subC (subN s) = 0 from g1, show subOf s.f (subN s) = s from g2]
    rfl
  · rw [if_neg hq] at h
    exact absurd (ad_split h).2.1 (by decide)
end PK
end Go.Proofs.YtlfgndhdifpngaaGreatDoor
namespace Go.Proofs.YtlfgndhdifpngaaGreatDoor
namespace PK
open PR (Has has_both has_ext has_nil has_mk has_left has_right has_self)

theorem nm1_pos {o : ByteArray × Int} {n : Int} (h : (nm o 1 n).2 = 0) : (nm o 1 n).1.size = o.1.size + 1 := by
  obtain ⟨_, h2, h3⟩ := ad_split h
  have hnn : 0 ≤ n ∧ n ≤ 255 := by
    unfold VP.fixC at h2
    repeat' split at h2
    all_goals first | omega | exact absurd h2 (by decide)
  rw [show (nm o 1 n).1 = o.1 ++ strOfNums (VP.fixL 1 n) from h3, ByteArray.size_append, (fix1_size hnn.1 hnn.2).1]
theorem putS_pos {t : ByteArray} (h : TX.putC t = 0) : 0 < (TX.putS t).size := by
  have hx := PR.getT_has (U := TX.putS t) (P := 0) h (has_self _)
  rcases Nat.eq_zero_or_pos (TX.putS t).size with hz | hz
  · exfalso
    have e : TX.putS t = ⟨#[]⟩ := by
      apply ByteArray.ext_getElem
      · exact hz
      · intro i h1 _; omega
    rw [e] at hx
    have hc : (TX.getT (ByteArray.mk #[]) ((0 : Nat) : Int)).2.2 = 242 := by decide +kernel
    rw [hx] at hc
    exact absurd hc (by simp)
  · exact hz
theorem tx_pos {o : ByteArray × Int} {t : ByteArray} (h : (tx o t).2 = 0) : o.1.size < (tx o t).1.size := by
  obtain ⟨_, h2, h3⟩ := ad_split h
  rw [show (tx o t).1 = o.1 ++ TX.putS t from h3, ByteArray.size_append]
  have := putS_pos h2
  omega
theorem sub_pos {o : ByteArray × Int} {s : Sb} (h : (sub o s).2 = 0) : o.1.size < (sub o s).1.size := by
  unfold sub at h ⊢
  by_cases hq : (isQ s.q && isQ s.h) = true
  · rw [if_pos hq] at h ⊢
    have h1 := nm1_pos h
    have h2 := tx_pos (ad_split h).1
    omega
  · rw [if_neg hq] at h
    exact absurd (ad_split h).2.1 (by decide)
section
variable {α : Type} {V : ByteArray} {b : Nat} {rd : Int → α × Int × Int} {f : ByteArray × Int → α → ByteArray × Int}
theorem fold_fw (hstep : ∀ o x, (f o x).2 = 0 → Has V b (f o x).1 → Fw V b o (f o x) rd x) (hpos : ∀ o x, (f o x).2 = 0 → o.1.size < (f o x).1.size) :
    ∀ (l : List α) (o : ByteArray × Int), (l.foldl f o).2 = 0 → Has V b (l.foldl f o).1 → o.2 = 0 ∧ Has V b o.1 ∧ o.1.size + l.length ≤ (l.foldl f o).1.size
  | [], o, h, hV => ⟨h, hV, by simp⟩
  | x :: l, o, h, hV => by
    rw [List.foldl_cons] at h hV ⊢
    obtain ⟨h1, h2, h3⟩ := fold_fw hstep hpos l (f o x) h hV
    obtain ⟨k1, k2, _⟩ := hstep o x h1 h2
    have := hpos o x h1
    exact ⟨k1, k2, by simp only [List.length_cons]; omega⟩
theorem lst_fw (hstep : ∀ o x, (f o x).2 = 0 → Has V b (f o x).1 → Fw V b o (f o x) rd x) (hpos : ∀ o x, (f o x).2 = 0 → o.1.size < (f o x).1.size) :
    ∀ (l : List α) (u : Nat) (out : List α) (o : ByteArray × Int), (l.foldl f o).2 = 0 → Has V b (l.foldl f o).1 → b + (l.foldl f o).1.size = V.size → (out ++ l).length ≠ 0 → (out ++ l).length ≤ 64 → l.length < u →
      lst rd V.size u ((b + o.1.size : Nat) : Int) out = (out ++ l, (V.size : Int), 0)
  | [], 0, _, _, _, _, _, _, _, h => absurd h (by simp)
  | [], u + 1, out, o, _, _, hz, hn, _, _ => by
    rw [List.foldl_nil] at hz
    rw [lst, if_pos (by rw [hz]), if_neg (by intro e; rw [e] at hn; exact hn rfl), hz, List.append_nil]
  | x :: l, 0, _, _, _, _, _, _, _, h => absurd h (by simp)
  | x :: l, u + 1, out, o, h, hV, hz, hn, hl, hu => by
    have hf := fold_fw hstep hpos (x :: l) o h hV
    rw [List.foldl_cons] at h hV hz
    obtain ⟨h1, h2, _⟩ := fold_fw hstep hpos l (f o x) h hV
    obtain ⟨k1, k2, k3⟩ := hstep o x h1 h2
    have hp := hpos o x h1
    have hfx := h2.1
    rw [lst, if_neg (by omega), if_neg (by simp at hl; omega), k3, if_neg (by simp)]
    have ih := lst_fw hstep hpos l u (out ++ [x]) (f o x) h hV hz (by simp) (by simpa using hl) (by simp at hu; omega)
    simp only
    rw [ih, List.append_assoc]
    rfl
end
theorem each_fw {α : Type} {V : ByteArray} {b : Nat} {rd : Int → α × Int × Int} {f : ByteArray × Int → α → ByteArray × Int} (hstep : ∀ o x, (f o x).2 = 0 → Has V b (f o x).1 → Fw V b o (f o x) rd x) (hpos : ∀ o x, (f o x).2 = 0 → o.1.size < (f o x).1.size) (o : ByteArray × Int) (l : List α)
    (h : (eachO o l f).2 = 0) (hV : Has V b (eachO o l f).1) (hz : b + (eachO o l f).1.size = V.size) : o.2 = 0 ∧ Has V b o.1 ∧ lst rd V.size 66 ((b + o.1.size : Nat) : Int) [] = (l, (V.size : Int), 0) := by
  unfold eachO at h hV hz
  by_cases h0 : l.length = 0
  · rw [if_pos h0] at h; exact absurd (ad_split h).2.1 (by decide)
  rw [if_neg h0] at h hV hz
  by_cases h1 : 64 < l.length
  · rw [if_pos h1] at h; exact absurd (ad_split h).2.1 (by decide)
  rw [if_neg h1] at h hV hz
  obtain ⟨k1, k2, _⟩ := fold_fw hstep hpos l o h hV
  exact ⟨k1, k2, lst_fw hstep hpos l 66 [] o h hV hz (by simpa using h0) (by simp; omega) (by omega)⟩
theorem rdHd_fw {V : ByteArray} {b : Nat} {o : ByteArray × Int} {i k : Int} {l : List Pr} (h : (pr (idd o i) k l).2 = 0) (hV : Has V b (pr (idd o i) k l).1) : Fw V b o (pr (idd o i) k l) (fun a => rdHd V a k) (i, l.map PR.nrm) := by
  obtain ⟨h1, h2, h3⟩ := pr_fw k h hV
  obtain ⟨k1, k2, k3⟩ := idd_fw h1 h2
  refine ⟨k1, k2, ?_⟩
  simp only at h3 ⊢
  unfold rdHd
  rw [k3]
  simp only
  rw [h3]
  rfl
end PK
end Go.Proofs.YtlfgndhdifpngaaGreatDoor
namespace Go.Proofs.YtlfgndhdifpngaaGreatDoor
namespace PK
open PR (Has has_both has_ext has_nil has_mk has_left has_right has_self)

theorem cfl_back (P : Pk) (h : P.hasWill = true → isQ P.wqos = true) : cflC (cflagsN P) = 0 ∧ (bits .and .i64 (cflagsN P) 4 != 0) = P.hasWill ∧ (bits .and .i64 (cflagsN P) 64 != 0) = P.hasPass ∧ (bits .and .i64 (cflagsN P) 128 != 0) = P.hasUser := by
  have hd : ∀ (x : Fin 3) (cl pa us wi wr : Bool), let n : Int := fl cl 2 + fl pa 64 + fl us 128 + if wi = true then 4 + 8 * ((x.val : Nat) : Int) + fl wr 32 else 0
      cflC n = 0 ∧ (bits .and .i64 n 4 != 0) = wi ∧ (bits .and .i64 n 64 != 0) = pa ∧ (bits .and .i64 n 128 != 0) = us := by decide +kernel
  by_cases hw : P.hasWill = true
  · have hq := h hw
    simp [isQ] at hq
    obtain ⟨x, hx⟩ := Int.eq_ofNat_of_zero_le hq.1
    have := hd ⟨x, by omega⟩ P.clean P.hasPass P.hasUser P.hasWill P.wret
    simp only [← hx] at this
    exact this
  · have hw' : P.hasWill = false := by simpa using hw
    have := hd ⟨0, by decide⟩ P.clean P.hasPass P.hasUser P.hasWill P.wret
    unfold cflagsN
    rw [hw'] at this ⊢
    exact this
theorem cflags_fw {V : ByteArray} {b : Nat} {o : ByteArray × Int} {P : Pk} (h : (cflags o P).2 = 0) (hV : Has V b (cflags o P).1) : Fw V b o (cflags o P) (rdFl V) (cflagsN P) ∧ (P.hasWill = true → isQ P.wqos = true) := by
  unfold cflags at h hV ⊢
  by_cases hw : (P.hasWill && !isQ P.wqos) = true
  · rw [if_pos hw] at h; exact absurd (ad_split h).2.1 (by decide)
  rw [if_neg hw] at h hV ⊢
  have hq : P.hasWill = true → isQ P.wqos = true := fun e => by
    rw [e] at hw; simpa using hw
  obtain ⟨⟨h1, h2, h3⟩, _⟩ := nm_fw 1 h hV
  refine ⟨⟨h1, h2, ?_⟩, hq⟩
  have e1 : (VP.rd V ((b + o.1.size : Nat) : Int) 1).1 = cflagsN P := congrArg Prod.fst h3
  have e2 : (VP.rd V ((b + o.1.size : Nat) : Int) 1).2.1 = ((b + (nm o 1 (cflagsN P)).1.size : Nat) : Int) := congrArg (fun x => x.2.1) h3
  have e3 : cm (VP.rd V ((b + o.1.size : Nat) : Int) 1).2.2 = 0 := congrArg (fun x => x.2.2) h3
  unfold rdFl
  rw [e1, e2, e3, (cfl_back P hq).1]
  rfl
theorem conn_fw {V : ByteArray} {b : Nat} {o : ByteArray × Int} {P : Pk} (P0 : Pk) (hk : P0.kind = 1) (h : (conn o P).2 = 0) (hV : Has V b (conn o P).1) :
    o.2 = 0 ∧ Has V b o.1 ∧ (rdConn V ((b + o.1.size : Nat) : Int) P0).2.2 = 0 ∧ (rdConn V ((b + o.1.size : Nat) : Int) P0).2.1 = ((b + (conn o P).1.size : Nat) : Int) := by
  have s4 : (conn3 (conn2 (conn1 o P) P) P).2 = 0 ∧ Has V b (conn3 (conn2 (conn1 o P) P) P).1 ∧ ∀ Q : Pk, Q.hasPass = P.hasPass → (rdPass V ((b + (conn3 (conn2 (conn1 o P) P) P).1.size : Nat) : Int) Q).2 = (((b + (conn o P).1.size : Nat) : Int), 0) := by
    unfold conn conn4 at h hV ⊢
    by_cases hp : P.hasPass = true
    · rw [if_pos hp] at h hV ⊢
      obtain ⟨h1, h2, h3⟩ := dt_fw h hV
      refine ⟨h1, h2, fun Q hQ => ?_⟩
      unfold rdPass
      rw [if_pos (by rw [hQ]; exact hp), h3, bnd_ok rfl]
    · rw [if_neg hp] at h hV ⊢
      refine ⟨h, hV, fun Q hQ => ?_⟩
      unfold rdPass
      rw [if_neg (by rw [hQ]; exact hp)]
  obtain ⟨h4, v4, r4⟩ := s4
  have s3 : (conn2 (conn1 o P) P).2 = 0 ∧ Has V b (conn2 (conn1 o P) P).1 ∧ ∀ Q : Pk, Q.hasPass = P.hasPass → Q.hasUser = P.hasUser → (rdUser V ((b + (conn2 (conn1 o P) P).1.size : Nat) : Int) Q).2 = (((b + (conn o P).1.size : Nat) : Int), 0) := by
    unfold conn3 at h4 v4 r4
    by_cases hp : P.hasUser = true
    · rw [if_pos hp] at h4 v4 r4
      obtain ⟨h1, h2, h3⟩ := tx_fw h4 v4
      refine ⟨h1, h2, fun Q hQ hU => ?_⟩
      unfold rdUser
      rw [if_pos (by rw [hU]; exact hp), h3, bnd_ok rfl]
      exact r4 _ hQ
    · rw [if_neg hp] at h4 v4 r4
      refine ⟨h4, v4, fun Q hQ hU => ?_⟩
      unfold rdUser
      rw [if_neg (by rw [hU]; exact hp)]
      exact r4 _ hQ
  obtain ⟨h3, v3, r3⟩ := s3
  have s2 : (conn1 o P).2 = 0 ∧ Has V b (conn1 o P).1 ∧ ∀ Q : Pk, Q.hasPass = P.hasPass → Q.hasUser = P.hasUser → Q.hasWill = P.hasWill → (rdWill V ((b + (conn1 o P).1.size : Nat) : Int) Q).2 = (((b + (conn o P).1.size : Nat) : Int), 0) := by
    unfold conn2 at h3 v3 r3
    by_cases hp : P.hasWill = true
    · rw [if_pos hp] at h3 v3 r3
      obtain ⟨a1, a2, a3⟩ := dt_fw h3 v3
      obtain ⟨b1, b2, b3⟩ := tx_fw a1 a2
      obtain ⟨c1, c2, c3⟩ := pr_fw 0 b1 b2
      refine ⟨c1, c2, fun Q hQ hU hW => ?_⟩
      simp only at c3
      unfold rdWill
      rw [if_pos (by rw [hW]; exact hp), c3, bnd_ok rfl, b3, bnd_ok rfl, a3, bnd_ok rfl]
      exact r3 _ hQ hU
    · rw [if_neg hp] at h3 v3 r3
      refine ⟨h3, v3, fun Q hQ hU hW => ?_⟩
      unfold rdWill
      rw [if_neg (by rw [hW]; exact hp)]
      exact r3 _ hQ hU
  obtain ⟨h2, v2, r2⟩ := s2
  unfold conn1 at h2 v2 r2
  obtain ⟨a1, a2, a3⟩ := tx_fw h2 v2
  obtain ⟨b1, b2, b3⟩ := pr_fw 1 a1 a2
  obtain ⟨⟨c1, c2, c3⟩, _⟩ := nm_fw 2 b1 b2
  obtain ⟨⟨d1, d2, d3⟩, dq⟩ := cflags_fw c1 c2
  obtain ⟨⟨e1, e2, e3⟩, _⟩ := nm_fw 1 d1 d2
  obtain ⟨f1, f2, f3⟩ := tx_fw e1 e2
  simp only at b3 c3 e3
  obtain ⟨g1, g2, g3, g4⟩ := cfl_back P dq
  have hfin := r2 { cflPk P0 (cflagsN P) with keep := P.keep, props := P.props.map PR.nrm, client := P.client } g3 g4 g2
  have hkk : (cflPk P0 (cflagsN P)).kind = 1 := hk
  have hall : rdConn V ((b + o.1.size : Nat) : Int) P0 = rdWill V ((b + (tx (pr (nm (cflags (nm (tx o ⟨#[77, 81, 84, 84]⟩) 1 5) P) 2 P.keep) 1 P.props) P.client).1.size : Nat) : Int) { cflPk P0 (cflagsN P) with keep := P.keep, props := P.props.map PR.nrm, client := P.client } := by
    unfold rdConn
    rw [f3, bnd_ok rfl, if_neg (by simp), e3, bnd_ok rfl, if_neg (by simp), d3, bnd_ok rfl]
    unfold rdConn1
    have b3' : rdPr V ((b + (nm (cflags (nm (tx o ⟨#[77, 81, 84, 84]⟩) 1 5) P) 2 P.keep).1.size : Nat) : Int) (cflPk P0 (cflagsN P)).kind = (P.props.map PR.nrm, ((b + (pr (nm (cflags (nm (tx o ⟨#[77, 81, 84, 84]⟩) 1 5) P) 2 P.keep) 1 P.props).1.size : Nat) : Int), 0) := by rw [hkk]; exact b3
    rw [c3, bnd_ok rfl, b3', bnd_ok rfl, a3, bnd_ok rfl]
  refine ⟨f1, f2, ?_, ?_⟩
  · rw [hall]; exact congrArg Prod.snd hfin
  · rw [hall]; exact congrArg Prod.fst hfin
theorem end_fw {V : ByteArray} {b : Nat} {o : ByteArray × Int} (k c : Int) (l : List Pr) (h : (endO o k c l).2 = 0) (hV : Has V b (endO o k c l).1) (hz : b + (endO o k c l).1.size = V.size) :
    o.2 = 0 ∧ Has V b o.1 ∧ rdEnd V ((b + o.1.size : Nat) : Int) k = ((c, l.map PR.nrm), (V.size : Int), 0) := by
  by_cases hl : l = []
  · subst hl
    have ho : o.2 = 0 ∧ VP.fixC 1 c = 0 := by
      unfold endO at h
      by_cases hc : c = 0
      · rw [if_pos ⟨hc, rfl⟩] at h
        exact ⟨h, by rw [hc]; exact (fix1_size (Int.le_refl 0) (by decide)).2⟩
      · rw [if_neg (fun e => hc e.1), if_pos rfl] at h
        exact ⟨(ad_split h).1, (ad_split h).2.1⟩
    obtain ⟨r1, r2⟩ := end_fwd k c ho.1 ho.2 hV hz
    exact ⟨ho.1, r2, r1⟩
  · unfold endO at h hV hz
    rw [if_neg (fun e => hl e.2), if_neg hl] at h hV hz
    obtain ⟨a1, a2, a3⟩ := pr_fw k h hV
    obtain ⟨⟨b1, b2, b3⟩, _⟩ := nm_fw 1 a1 a2
    simp only at a3 b3
    refine ⟨b1, b2, ?_⟩
    have hp1 := nm1_pos a1
    have hal : pr (nm o 1 c) k l = ad (nm o 1 c) (PR.putS l) (PR.putC l) := by
      by_cases hal : alAll k l = true
      · unfold pr; rw [if_pos hal]
      · unfold pr at h
        rw [if_neg hal] at h
        exact absurd (ad_split h).2.1 (by decide)
    have hp2 : (nm o 1 c).1.size < (pr (nm o 1 c) k l).1.size := by
      rw [hal] at h ⊢
      obtain ⟨_, c2, c3⟩ := ad_split h
      rw [c3, ByteArray.size_append]
      obtain ⟨_, _, e⟩ := PR.putS_is c2
      have hz2 := PR.allS_size l
      have e2 := VP.putL_len (n := ((PR.allS l).size : Int)) (by omega) (by omega)
      have e3 := (VP.sz_in (m := ((PR.allS l).size : Int)) (by omega) (by omega)).1
      have s1 : ∀ l : List Int, (strOfNums l).size = l.length := fun l => by simp [strOfNums, ByteArray.size]
      rw [e, ByteArray.size_append, s1]
      omega
    have hrc : rdC V ((b + o.1.size : Nat) : Int) = (c, ((b + (nm o 1 c).1.size : Nat) : Int), 0) := b3
    unfold rdEnd
    rw [if_neg (by omega), hrc]
    simp only
    rw [if_neg (by simp), if_neg (by omega), a3, hz]
theorem beg_back (P : Pk) (hk : 1 ≤ P.kind ∧ P.kind ≤ 15) (h3 : P.kind = 3 → canPub P = true) : (0 ≤ 16 * P.kind + flagsN P ∧ 16 * P.kind + flagsN P ≤ 255) ∧ begOk (16 * P.kind + flagsN P) = true ∧ (begPk (16 * P.kind + flagsN P)).kind = P.kind ∧ (P.kind = 3 → (begPk (16 * P.kind + flagsN P)).qos = P.qos) := by
  by_cases h : P.kind = 3
  · have hc := h3 h
    have hfl : flagsN P = fl P.dup 8 + 2 * P.qos + fl P.ret 1 := by unfold flagsN; rw [if_pos h]
    unfold canPub at hc
    have hq : 0 ≤ P.qos ∧ P.qos ≤ 2 := by
      simp [isQ] at hc; exact hc.1
    obtain ⟨x, hx⟩ := Int.eq_ofNat_of_zero_le hq.1
    have hd : ∀ (x : Fin 3) (d r : Bool), (isQ ((x.val : Nat) : Int) && (decide (0 < ((x.val : Nat) : Int)) || !d)) = true →
        let n : Int := 16 * 3 + (fl d 8 + 2 * ((x.val : Nat) : Int) + fl r 1)
        (0 ≤ n ∧ n ≤ 255) ∧ begOk n = true ∧ (begPk n).kind = 3 ∧ (begPk n).qos = ((x.val : Nat) : Int) := by decide +kernel
    have := hd ⟨x, by omega⟩ P.dup P.ret (by simp only [← hx]; exact hc)
    simp only [← hx] at this
    rw [hfl, h]
    exact ⟨this.1, this.2.1, this.2.2.1, fun _ => this.2.2.2⟩
  · have hfl : flagsN P = fixN P.kind := by unfold flagsN fixN; rw [if_neg h]
    have hf : fixN P.kind = 2 ∨ fixN P.kind = 0 := by unfold fixN; split <;> simp
    rw [hfl]
    have hd : (16 * P.kind + fixN P.kind) / 16 = P.kind := by omega
    have hm : (16 * P.kind + fixN P.kind) % 16 = fixN P.kind := by omega
    refine ⟨by omega, ?_, ?_, fun e => absurd e h⟩
    · unfold begOk
      rw [hd, hm, if_neg h]
      simp [isK]
      omega
    · unfold begPk
      rw [hd, if_neg h]
      rfl
end PK
end Go.Proofs.YtlfgndhdifpngaaGreatDoor
namespace Go.Proofs.YtlfgndhdifpngaaGreatDoor
namespace PK
open PR (Has has_both has_ext has_nil has_mk has_left has_right has_self)

theorem C_fw {V : ByteArray} {b : Nat} (o : ByteArray × Int) (c : Int) (h : (nm o 1 c).2 = 0) (hV : Has V b (nm o 1 c).1) : Fw V b o (nm o 1 c) (rdC V) c := (nm_fw 1 h hV).1
/-- What follows the length is read without a code, up to the end. -/
theorem parts_fw {V : ByteArray} {b : Nat} {o : ByteArray × Int} (P P0 : Pk) (_hk : 1 ≤ P.kind ∧ P.kind ≤ 15) (hk0 : P0.kind = P.kind) (hq : P.kind = 3 → P0.qos = P.qos) (h : (parts o P).2 = 0) (hV : Has V b (parts o P).1) (hz : b + (parts o P).1.size = V.size) :
    o.2 = 0 ∧ Has V b o.1 ∧ (partsK P.kind V ((b + o.1.size : Nat) : Int) P0).2 = ((V.size : Int), 0) := by
  unfold parts at h hV hz
  unfold partsK
  by_cases k1 : P.kind = 1
  · rw [if_pos k1] at h hV hz ⊢
    obtain ⟨a1, a2, a3, a4⟩ := conn_fw P0 (hk0.trans k1) h hV
    exact ⟨a1, a2, Prod.ext (by rw [a4, hz]) a3⟩
  rw [if_neg k1] at h hV hz ⊢
  by_cases k2 : P.kind = 2
  · rw [if_pos k2] at h hV hz ⊢
    obtain ⟨a1, a2, a3⟩ := pr_fw P.kind h hV
    obtain ⟨⟨b1, b2, b3⟩, _⟩ := nm_fw 1 a1 a2
    obtain ⟨c1, c2, c3⟩ := ses_fw b1 b2
    simp only at a3 b3
    refine ⟨c1, c2, ?_⟩
    rw [c3, bnd_ok rfl, show rdC V _ = _ from b3, bnd_ok rfl, a3, bnd_ok rfl, hz]
  rw [if_neg k2] at h hV hz ⊢
  by_cases k3 : P.kind = 3
  · rw [if_pos k3] at h hV hz ⊢
    unfold pub pub1 at h hV hz
    obtain ⟨a1, _, a2, a3, a4⟩ := ad_fw h hV
    obtain ⟨b1, b2, b3⟩ := pr_fw P.kind a1 a2
    simp only at b3
    have hid : (tx o P.topic).2 = 0 ∧ Has V b (tx o P.topic).1 ∧ ∃ i, rdI V ((b + (tx o P.topic).1.size : Nat) : Int) P0.qos P0.id = (i, ((b + (if 0 < P.qos then idd (tx o P.topic) P.id else tx o P.topic).1.size : Nat) : Int), 0) := by
      unfold rdI
      rw [hq k3]
      by_cases q0 : 0 < P.qos
      · simp only [if_pos q0] at b1 b2 ⊢
        obtain ⟨c1, c2, c3⟩ := idd_fw b1 b2
        exact ⟨c1, c2, _, c3⟩
      · simp only [if_neg q0] at b1 b2 ⊢
        exact ⟨b1, b2, _, rfl⟩
    obtain ⟨c1, c2, i, c3⟩ := hid
    obtain ⟨d1, d2, d3⟩ := tx_fw c1 c2
    refine ⟨d1, d2, ?_⟩
    unfold rdPub
    rw [d3]
    simp only
    rw [c3]
    simp only
    rw [b3]
    rfl
  rw [if_neg k3] at h hV hz ⊢
  by_cases k8 : P.kind = 8
  · rw [if_pos k8] at h hV hz ⊢
    obtain ⟨a1, a2, a3⟩ := each_fw (rd := rdSub V) (fun o x => sub_fw) (fun o x => sub_pos) _ _ h hV hz
    obtain ⟨b1, b2, b3⟩ := rdHd_fw a1 a2
    simp only at b3
    exact ⟨b1, b2, by rw [b3, bnd_ok rfl, show lst _ _ _ ((b + (pr (idd o P.id) P.kind P.props).1.size : Nat) : Int) [] = _ from a3, bnd_ok rfl]⟩
  rw [if_neg k8] at h hV hz ⊢
  by_cases k10 : P.kind = 10
  · rw [if_pos k10] at h hV hz ⊢
    obtain ⟨a1, a2, a3⟩ := each_fw (rd := rdT V) (fun o x => tx_fw) (fun o x => tx_pos) _ _ h hV hz
    obtain ⟨b1, b2, b3⟩ := rdHd_fw a1 a2
    simp only at b3
    exact ⟨b1, b2, by rw [b3, bnd_ok rfl, show lst _ _ _ ((b + (pr (idd o P.id) P.kind P.props).1.size : Nat) : Int) [] = _ from a3, bnd_ok rfl]⟩
  rw [if_neg k10] at h hV hz ⊢
  by_cases k9 : P.kind = 9 ∨ P.kind = 11
  · rw [if_pos k9] at h hV hz ⊢
    obtain ⟨a1, a2, a3⟩ := each_fw (rd := rdC V) C_fw (fun o x hh => by have := nm1_pos hh; omega) _ _ h hV hz
    obtain ⟨b1, b2, b3⟩ := rdHd_fw a1 a2
    simp only at b3
    exact ⟨b1, b2, by rw [b3, bnd_ok rfl, show lst _ _ _ ((b + (pr (idd o P.id) P.kind P.props).1.size : Nat) : Int) [] = _ from a3, bnd_ok rfl]⟩
  rw [if_neg k9] at h hV hz ⊢
  by_cases k4 : P.kind = 4 ∨ P.kind = 5 ∨ P.kind = 6 ∨ P.kind = 7
  · rw [if_pos k4] at h hV hz ⊢
    obtain ⟨a1, a2, a3⟩ := end_fw P.kind P.code P.props h hV hz
    obtain ⟨b1, b2, b3⟩ := idd_fw a1 a2
    refine ⟨b1, b2, ?_⟩
    rw [b3, bnd_ok rfl]
    unfold rdEndP
    rw [a3]
  rw [if_neg k4] at h hV hz ⊢
  by_cases k14 : P.kind = 14 ∨ P.kind = 15
  · rw [if_pos k14] at h hV hz ⊢
    obtain ⟨a1, a2, a3⟩ := end_fw P.kind P.code P.props h hV hz
    refine ⟨a1, a2, ?_⟩
    unfold rdEndP
    rw [a3]
  rw [if_neg k14] at h hV hz ⊢
  exact ⟨h, hV, by rw [hz]⟩
/-- A packet without a code is read back from its bytes. -/
theorem put_read (P : Pk) (hc : putC P = 0) : (getPk (putS P)).2 = 0 ∧ (1 ≤ P.kind ∧ P.kind ≤ 15) ∧ b0 (putS P) = 16 * P.kind + flagsN P ∧ (begPk (b0 (putS P))).kind = P.kind := by
  have hk : 1 ≤ P.kind ∧ P.kind ≤ 15 := by
    unfold putC at hc
    by_cases h : P.kind < 1 ∨ 15 < P.kind
    · rw [if_pos h] at hc; exact absurd hc (by decide)
    · omega
  have hb2 : (bodyO P).2 = 0 := by
    unfold putC at hc
    rw [if_neg (by omega)] at hc
    by_cases h1 : (bodyO P).2 ≠ 0
    · rw [if_pos h1] at hc; exact absurd hc h1
    · exact Classical.not_not.1 h1
  have h3 : P.kind = 3 → canPub P = true := fun h => by
    by_cases hp : canPub P = true
    · exact hp
    · exfalso
      have e : flagsO P = (⟨#[]⟩, 129) := by unfold flagsO; rw [if_pos ⟨h, by simpa using hp⟩]
      unfold bodyO parts at hb2
      rw [if_neg (by omega), if_neg (by omega), if_pos h, e] at hb2
      have a1 := (ad_split hb2).1
      have a2 : (pub1 (⟨#[]⟩, 129) P).2 = 0 := by
        unfold pr at a1
        split at a1
        · exact (ad_split a1).1
        · exact (ad_split (ad_split a1).1).1
      unfold pub1 at a2
      split at a2
      · unfold idd at a2
        split at a2
        · exact absurd (ad_split (ad_split (ad_split a2).1).1).1 (by decide)
        · exact absurd (ad_split (ad_split a2).1).1 (by decide)
      · exact absurd (ad_split a2).1 (by decide)
  obtain ⟨g0, g1, g2, g3⟩ := beg_back P hk h3
  have hfl : flagsO P = (⟨#[]⟩, 0) := by unfold flagsO; rw [if_neg (fun e => by rw [h3 e.1] at e; exact absurd e.2 (by decide))]
  obtain ⟨b, p1, p2, p3, p4, p5, p6, p7⟩ := putS_head hk hc g0
  have hbo : bodyO P = parts (⟨#[]⟩, 0) P := by unfold bodyO; rw [hfl]
  rw [hbo] at p1 p2 p3 p5
  obtain ⟨_, _, r3⟩ := parts_fw (o := (⟨#[]⟩, 0)) P (begPk (b0 (putS P))) hk (by rw [p4]; exact g2) (fun h => by rw [p4]; exact g3 h) (by rw [← hbo]; exact hb2) p3 p2
  refine ⟨?_, hk, p4, by rw [p4]; exact g2⟩
  have hd : hdC (putS P) = 0 := by
    unfold hdC
    rw [p1]
    simp only [if_true]
    unfold lenC
    rw [if_neg (by omega), if_neg (by omega), if_neg (by omega)]
  have hw : (rdWhole (putS P) (b : Int) (begPk (b0 (putS P)))).2 = 0 := by
    unfold rdWhole
    rw [show (begPk (b0 (putS P))).kind = P.kind by rw [p4]; exact g2]
    have e1 := congrArg Prod.fst r3
    have e2 := congrArg Prod.snd r3
    simp only at e1 e2
    rw [show ((b : Nat) : Int) = ((b + ((⟨#[]⟩, 0) : ByteArray × Int).1.size : Nat) : Int) from rfl, e1, e2, if_pos rfl]
    rfl
  unfold getPk
  rw [if_neg (by omega), p4, g1, if_neg (by decide), if_neg (by rw [hd]; decide), p1]
  simp only
  rw [p4] at hw
  rw [if_neg (by rw [hw]; decide)]
end PK
end Go.Proofs.YtlfgndhdifpngaaGreatDoor
namespace Go.Proofs.YtlfgndhdifpngaaGreatDoor
namespace ST
/-- X stands at the beginning of Y. -/
def Beg (X Y : ByteArray) : Prop := X.size ≤ Y.size ∧ ∀ (j : Nat) (h1 : j < X.size) (h2 : j < Y.size), X[j]'h1 = Y[j]'h2
theorem getG_keeps {X Y : ByteArray} (hb : Beg X Y) (k : Nat) : ∀ (u i : Nat) (n : Int), (VP.getG X k u i n).2.2 ≠ 242 → VP.getG Y k u i n = VP.getG X k u i n
  | 0, i, n, _ => by rw [VP.getG_0, VP.getG_0]
  | u + 1, i, n, h => by
    by_cases h1 : k + i < X.size
    · have h2 : k + i < Y.size := Nat.lt_of_lt_of_le h1 hb.1
      have e := hb.2 (k + i) h1 h2
      rw [VP.getG, dif_pos h1] at h
      rw [VP.getG, VP.getG, dif_pos h1, dif_pos h2, ← e]
      split
      · rfl
      · rename_i h3
        rw [if_neg h3] at h
        exact getG_keeps hb k u (i + 1) _ h
    · rw [VP.getG_end X k u i n h1] at h
      exact absurd rfl h
theorem get_keeps {X Y : ByteArray} (hb : Beg X Y) (k : Nat) (hk : k ≤ X.size) (h : (VP.get X (k : Int)).2.2 ≠ 242) : VP.get Y (k : Int) = VP.get X (k : Int) := by
  rw [VP.get_in X k hk] at h ⊢
  rw [VP.get_in Y k (Nat.le_trans hk hb.1)]
  exact getG_keeps hb k 4 0 0 h
theorem first_keeps {X Y : ByteArray} (hb : Beg X Y) (m : Int) (h : (first X m).2 ≠ 242) : first Y m = first X m := by
  unfold first at h ⊢
  by_cases h0 : X.size = 0
  · rw [if_pos h0] at h; exact absurd rfl h
  rw [if_neg h0] at h ⊢
  have hY : Y.size ≠ 0 := by have := hb.1; omega
  rw [if_neg hY]
  by_cases h1 : (VP.get X 1).2.2 = 242
  · rw [if_pos (by rw [h1]; decide)] at h
    exact absurd h1 h
  have hg : VP.get Y 1 = VP.get X 1 := get_keeps hb 1 (by omega) h1
  rw [hg]
  by_cases h2 : (VP.get X 1).2.2 ≠ 0
  · rw [if_pos h2, if_pos h2]
  rw [if_neg h2] at h
  rw [if_neg h2, if_neg h2]
  by_cases h3 : m < (VP.get X 1).2.1 + (VP.get X 1).1
  · rw [if_pos h3, if_pos h3]
  rw [if_neg h3] at h
  rw [if_neg h3, if_neg h3]
  by_cases h4 : (X.size : Int) < (VP.get X 1).2.1 + (VP.get X 1).1
  · rw [if_pos h4] at h; exact absurd rfl h
  rw [if_neg h4, if_neg (by have := hb.1; omega)]
theorem beg_drop {X Y : ByteArray} (hb : Beg X Y) (a : Nat) (ha : a ≤ X.size) : Beg (X.extract a X.size) (Y.extract a Y.size) := by
  refine ⟨by rw [ByteArray.size_extract, ByteArray.size_extract]; have := hb.1; omega, fun j h1 h2 => ?_⟩
  rw [ByteArray.size_extract] at h1 h2
  rw [ByteArray.getElem_extract, ByteArray.getElem_extract]
  exact hb.2 (a + j) (by omega) (by omega)
theorem beg_part {X Y : ByteArray} (hb : Beg X Y) (a k : Nat) (hk : a + k ≤ X.size) : Y.extract a (a + k) = X.extract a (a + k) := by
  have := hb.1
  apply ByteArray.ext_getElem
  · rw [ByteArray.size_extract, ByteArray.size_extract]; omega
  · intro i h1 h2
    rw [ByteArray.size_extract] at h1 h2
    rw [ByteArray.getElem_extract, ByteArray.getElem_extract]
    exact (hb.2 (a + i) (by omega) (by omega)).symm
/-- Fuel that is enough. -/
theorem thr_fuel (s : ByteArray) (m : Int) (f : ByteArray → Int) : ∀ (u v a : Nat), a ≤ s.size → s.size < a + u → s.size < a + v → thr s m f u a = thr s m f v a
  | 0, v, a, h, h1, _ => by omega
  | u + 1, 0, a, h, _, h2 => by omega
  | u + 1, v + 1, a, h, h1, h2 => by
    rw [thr, thr]
    by_cases hf : (first (s.extract a s.size) m).2 = 0
    · obtain ⟨k, hk, hk1, hk2⟩ := first_ok _ _ hf
      rw [ByteArray.size_extract] at hk2
      rw [hk]
      simp only [Int.toNat_natCast]
      rw [thr_fuel s m f u v (a + k) (by omega) (by omega) (by omega)]
    · rw [if_neg hf, if_neg hf]
/-- More bytes behind: what was told stays; behind a code nothing is. -/
theorem thr_more {X Y : ByteArray} (hb : Beg X Y) (m : Int) (f : ByteArray → Int) : ∀ (u v a : Nat), a ≤ X.size → X.size < a + u → Y.size < a + v →
    ((thr X m f u a).2.2 ≠ 0 → (thr Y m f v a).1 = (thr X m f u a).1 ∧ (thr Y m f v a).2.2 = (thr X m f u a).2.2) ∧
    ((thr X m f u a).2.2 = 0 → (thr X m f u a).2.1 ≤ X.size ∧ (first (X.extract (thr X m f u a).2.1 X.size) m).2 = 242 ∧ ∀ v', Y.size < (thr X m f u a).2.1 + v' → (thr Y m f v a).1 = (thr X m f u a).1 ++ (thr Y m f v' (thr X m f u a).2.1).1 ∧ (thr Y m f v a).2.2 = (thr Y m f v' (thr X m f u a).2.1).2.2)
  | 0, v, a, h, h1, _ => by omega
  | u + 1, v, a, h, h1, h2 => by
    obtain ⟨v, rfl⟩ : ∃ w, v = w + 1 := ⟨v - 1, by have := hb.1; omega⟩
    by_cases h242 : (first (X.extract a X.size) m).2 = 242
    · have e : thr X m f (u + 1) a = ([], a, 0) := by rw [thr, if_neg (by rw [h242]; decide), if_pos h242]
      rw [e]
      refine ⟨fun h => absurd rfl h, fun _ => ⟨h, h242, fun v' hv' => ?_⟩⟩
      rw [thr_fuel Y m f (v + 1) v' a (Nat.le_trans h hb.1) h2 hv']
      exact ⟨rfl, rfl⟩
    · have hk := first_keeps (beg_drop hb a h) m h242
      by_cases hf : (first (X.extract a X.size) m).2 = 0
      · obtain ⟨k, hk0, hk1, hk2⟩ := first_ok _ _ hf
        rw [ByteArray.size_extract] at hk2
        have hpart := beg_part hb a k (by omega)
        rw [hk0] at hk
        by_cases hc : f (X.extract a (a + k)) = 0
        · have eX : thr X m f (u + 1) a = (X.extract a (a + k) :: (thr X m f u (a + k)).1, (thr X m f u (a + k)).2) := by rw [thr, hk0]; simp [hc]
          have eY : thr Y m f (v + 1) a = (X.extract a (a + k) :: (thr Y m f v (a + k)).1, (thr Y m f v (a + k)).2) := by rw [thr, hk]; simp [hpart, hc]
          have ih := thr_more hb m f u v (a + k) (by omega) (by omega) (by omega)
          rw [eX, eY]
          refine ⟨fun h0 => ?_, fun h0 => ?_⟩
          · obtain ⟨i1, i2⟩ := ih.1 h0
            exact ⟨by simp only; rw [i1], i2⟩
          · obtain ⟨i0, i1, i2⟩ := ih.2 h0
            refine ⟨i0, i1, fun v' hv' => ?_⟩
            obtain ⟨j1, j2⟩ := i2 v' hv'
            exact ⟨by simp only [List.cons_append]; rw [j1], j2⟩
        · have eX : thr X m f (u + 1) a = ([], a, f (X.extract a (a + k))) := by rw [thr, hk0]; simp [hc]
          have eY : thr Y m f (v + 1) a = ([], a, f (X.extract a (a + k))) := by rw [thr, hk]; simp [hpart, hc]
          rw [eX, eY]
          exact ⟨fun _ => ⟨rfl, rfl⟩, fun h0 => absurd h0 hc⟩
      · have eX : thr X m f (u + 1) a = ([], a, (first (X.extract a X.size) m).2) := by rw [thr, if_neg hf, if_neg h242]
        have eY : thr Y m f (v + 1) a = ([], a, (first (X.extract a X.size) m).2) := by rw [thr, hk, if_neg hf, if_neg h242]
        rw [eX, eY]
        exact ⟨fun _ => ⟨rfl, rfl⟩, fun h0 => absurd h0 hf⟩
/-- From a place on: as of the bytes from there on. -/
theorem thr_drop (s : ByteArray) (m : Int) (f : ByteArray → Int) (b : Nat) : ∀ (u a : Nat), (thr s m f u (b + a)).1 = (thr (s.extract b s.size) m f u a).1 ∧ (thr s m f u (b + a)).2.2 = (thr (s.extract b s.size) m f u a).2.2
  | 0, a => ⟨rfl, rfl⟩
  | u + 1, a => by
    have hz : (s.extract b s.size).size = s.size - b := by rw [ByteArray.size_extract]; omega
    have e1 : (s.extract b s.size).extract a (s.extract b s.size).size = s.extract (b + a) s.size := by
      rw [hz, ByteArray.extract_extract]; congr 1; omega
    rw [thr, thr, e1]
    by_cases hf : (first (s.extract (b + a) s.size) m).2 = 0
    · obtain ⟨k, hk, hk1, hk2⟩ := first_ok _ _ hf
      rw [ByteArray.size_extract] at hk2
      rw [hk]
      simp only [Int.toNat_natCast, if_true]
      have e2 : (s.extract b s.size).extract a (a + k) = s.extract (b + a) (b + a + k) := by
        rw [ByteArray.extract_extract]; congr 1; omega
      rw [e2]
      have ih := thr_drop s m f b u (a + k)
      rw [show b + (a + k) = b + a + k by omega] at ih
      split
      · exact ⟨by simp only; rw [ih.1], ih.2⟩
      · exact ⟨rfl, rfl⟩
    · rw [if_neg hf, if_neg hf]
      exact ⟨rfl, rfl⟩
end ST
end Go.Proofs.YtlfgndhdifpngaaGreatDoor
namespace Go.Proofs.YtlfgndhdifpngaaGreatDoor
namespace PK
open _root_.Go.Proofs.YtlfgndhdifpngaaGreatDoor.ST
theorem beg_cut (s : ByteArray) (k : Nat) : Beg (s.extract 0 k) s := by
  refine ⟨by rw [ByteArray.size_extract]; omega, fun j h1 h2 => ?_⟩
  rw [ByteArray.getElem_extract]
  simp only [Nat.zero_add]
theorem beg_app (s t : ByteArray) : Beg s (s ++ t) := by
  refine ⟨by rw [ByteArray.size_append]; omega, fun j h1 h2 => ?_⟩
  exact (ByteArray.getElem_append_left h1).symm
theorem b0_beg {X Y : ByteArray} (h : Beg X Y) (h0 : 0 < X.size) : b0 X = b0 Y := by
  unfold b0
  rw [dif_pos h0, dif_pos (Nat.lt_of_lt_of_le h0 h.1), h.2 0 h0 (Nat.lt_of_lt_of_le h0 h.1)]
/-- Cut off anywhere they are too few. -/
theorem cut_none (P : Pk) (hc : putC P = 0) (k : Nat) (hk : k < (putS P).size) : (getPk ((putS P).extract 0 k)).2 = 242 := by
  obtain ⟨m, b, i1, i2, i3, i4, i5, _⟩ := getPk_inv (put_read P hc).1
  have hb := beg_cut (putS P) k
  have hs : ((putS P).extract 0 k).size = k := by rw [ByteArray.size_extract]; omega
  unfold getPk
  by_cases h0 : k = 0
  · rw [if_pos (by omega)]
  · rw [if_neg (by omega), b0_beg hb (by omega), if_neg (by rw [i1]; decide)]
    have hd : hdC ((putS P).extract 0 k) = 242 := by
      unfold hdC
      by_cases h : (VP.get ((putS P).extract 0 k) 1).2.2 = 242
      · rw [h, if_neg (by decide)]
      · have e := get_keeps hb 1 (by omega) h
        have e' : VP.get ((putS P).extract 0 k) 1 = ((m : Int), (b : Int), 0) := e.symm.trans i3
        rw [e', hs]
        show (if (0 : Int) = 0 then lenC (m : Int) ((k : Int) - (b : Int)) else 0) = 242
        rw [if_pos rfl]
        unfold lenC
        rw [if_neg (by omega), if_pos (by omega)]
    rw [hd, if_pos (by decide)]
/-- With a byte more they are none. -/
theorem more_bad (P : Pk) (hc : putC P = 0) (t : ByteArray) (ht : t.size = 1) : (getPk (putS P ++ t)).2 = 129 := by
  obtain ⟨m, b, i1, i2, i3, i4, i5, _⟩ := getPk_inv (put_read P hc).1
  have hb := beg_app (putS P) t
  have hs : (putS P ++ t).size = (putS P).size + 1 := by rw [ByteArray.size_append, ht]
  unfold getPk
  rw [if_neg (by omega), ← b0_beg hb i2, if_neg (by rw [i1]; decide)]
  have hd : hdC (putS P ++ t) = 129 := by
    unfold hdC
    have e := get_keeps hb 1 (by omega) (show (VP.get (putS P) ((1 : Nat) : Int)).2.2 ≠ 242 by rw [show VP.get (putS P) ((1 : Nat) : Int) = _ from i3]; show (0 : Int) ≠ 242; decide)
    have e' : VP.get (putS P ++ t) 1 = ((m : Int), (b : Int), 0) := e.trans i3
    rw [e', hs]
    show (if (0 : Int) = 0 then lenC (m : Int) ((((putS P).size + 1 : Nat) : Int) - (b : Int)) else 0) = 129
    rw [if_pos rfl]
    unfold lenC
    rw [if_neg (by omega), if_neg (by omega), if_pos (by omega)]
  rw [hd, if_pos (by decide)]
/-- With other flags a packet that is no Publish is none. -/
theorem flags_bad (P : Pk) (hc : putC P = 0) (h3 : P.kind ≠ 3) (t : ByteArray) (h0 : 0 < t.size) (hq : b0 t / 16 = b0 (putS P) / 16) (hr : b0 t % 16 ≠ b0 (putS P) % 16) : (getPk t).2 = 129 := by
  obtain ⟨m, b, i1, i2, _⟩ := getPk_inv (put_read P hc).1
  obtain ⟨_, hk, hb, hg⟩ := put_read P hc
  have n3 : b0 (putS P) / 16 ≠ 3 := fun h => by
    unfold begPk at hg
    rw [if_pos h] at hg
    exact h3 hg.symm
  have hbad : begOk (b0 t) = false := by
    unfold begOk at i1 ⊢
    rw [if_neg n3] at i1
    rw [hq, if_neg n3]
    rw [Bool.and_eq_true, beq_iff_eq] at i1
    rw [i1.1, Bool.true_and, beq_eq_false_iff_ne, ← i1.2]
    exact hr
  unfold getPk
  rw [if_neg (by omega), if_pos hbad]
end PK
end Go.Proofs.YtlfgndhdifpngaaGreatDoor
namespace Go.Proofs.YtlfgndhdifpngaaGreatDoor
namespace PK
open PR (Has has_both has_ext has_nil has_mk has_left has_right has_self)
/-- What is read is put the same again, or it ends early. -/
theorem twice_or (s : ByteArray) (h : (getPk s).2 = 0) : putS (getPk s).1 = s ∨ (((begPk (b0 s)).kind = 4 ∨ (begPk (b0 s)).kind = 5 ∨ (begPk (b0 s)).kind = 6 ∨ (begPk (b0 s)).kind = 7 ∨ (begPk (b0 s)).kind = 14 ∨ (begPk (b0 s)).kind = 15) ∧ (getPk s).1.props = []) := by
  obtain ⟨m, b, hok, hpos, _, hm, hbm, hb, hL, hc, he, hX⟩ := getPk_inv h
  have hX1 : (getPk s).1 = (partsK (begPk (b0 s)).kind s b (begPk (b0 s))).1 := by rw [hX]
  have hbn : 0 ≤ b0 s ∧ b0 s ≤ 255 := by
    unfold b0
    rw [dif_pos hpos]
    have := VP.byte_lt s 0 hpos
    omega
  obtain ⟨hk1, hk2, hB⟩ := beg_kind (b0 s) hok
  obtain ⟨hfirst, hflO⟩ := beg_first (b0 s) hbn.1 hbn.2 hok
  have hA0 : At s b (⟨#[]⟩, 0) (b : Int) := ⟨rfl, has_nil (by omega), rfl⟩
  have fin : ∀ Q : Pk, Q = (getPk s).1 → putC Q = 0 ∧ putS Q = s → putS (getPk s).1 = s ∨ (((begPk (b0 s)).kind = 4 ∨ (begPk (b0 s)).kind = 5 ∨ (begPk (b0 s)).kind = 6 ∨ (begPk (b0 s)).kind = 7 ∨ (begPk (b0 s)).kind = 14 ∨ (begPk (b0 s)).kind = 15) ∧ (getPk s).1.props = []) := fun Q hQ hd => by
    subst hQ
    exact .inl hd.2
  rw [hX1] at fin ⊢
  by_cases hke : (begPk (b0 s)).kind = 1 ∨ (begPk (b0 s)).kind = 2 ∨ (begPk (b0 s)).kind = 3 ∨ (begPk (b0 s)).kind = 8 ∨ (begPk (b0 s)).kind = 9 ∨ (begPk (b0 s)).kind = 10 ∨ (begPk (b0 s)).kind = 11 ∨ (begPk (b0 s)).kind = 12 ∨ (begPk (b0 s)).kind = 13
  · obtain ⟨hA, hQk⟩ := parts_inv (begPk (b0 s)) hke hA0 hc he
    have h3 : (begPk (b0 s)).kind = 3 → (partsK (begPk (b0 s)).kind s b (begPk (b0 s))).1.dup = (begPk (b0 s)).dup ∧ (partsK (begPk (b0 s)).kind s b (begPk (b0 s))).1.ret = (begPk (b0 s)).ret ∧ (partsK (begPk (b0 s)).kind s b (begPk (b0 s))).1.qos = (begPk (b0 s)).qos := fun hk3 => by
      unfold partsK
      rw [if_neg (by omega), if_neg (by omega), if_pos hk3]
      exact ⟨rfl, rfl, rfl⟩
    obtain ⟨f1, f2⟩ := flags_same hQk h3
    have hbo : bodyO (partsK (begPk (b0 s)).kind s b (begPk (b0 s))).1 = parts (⟨#[]⟩, 0) (partsK (begPk (b0 s)).kind s b (begPk (b0 s))).1 := by
      unfold bodyO
      rw [f2]
      exact congrArg (fun x => parts x _) hflO
    rw [← hbo] at hA
    exact fin _ rfl (exact_done (by rw [hQk]; exact ⟨hk1, hk2⟩) hA hm hbm hb hL (by rw [hQk, f1]; exact hfirst) hpos)
  · have hn3 : (begPk (b0 s)).kind ≠ 3 := fun e => hke (by omega)
    by_cases hk4 : (begPk (b0 s)).kind = 4 ∨ (begPk (b0 s)).kind = 5 ∨ (begPk (b0 s)).kind = 6 ∨ (begPk (b0 s)).kind = 7
    · have e : ∀ (V : ByteArray) (a : Int), partsK (begPk (b0 s)).kind V a (begPk (b0 s)) = bnd (begPk (b0 s)) (rdId V a) (fun i a => rdEndP V a (begPk (b0 s)).kind { begPk (b0 s) with id := i }) := fun V a => by unfold partsK; rw [if_neg (by omega), if_neg (by omega), if_neg (by omega), if_neg (by omega), if_neg (by omega), if_neg (by omega), if_pos hk4]
      rw [e] at hc he fin ⊢
      obtain ⟨c1, e1⟩ := bnd_inv hc
      obtain ⟨i, a1, h1, hA1⟩ := rdId_inv hA0 c1
      rw [e1, h1] at hc he fin ⊢
      obtain ⟨c, l, a2, h2, hA2, hor⟩ := end_inv (begPk (b0 s)).kind hA1 hc he
      obtain ⟨Q, hQ⟩ : ∃ Q, Q = (rdEndP s a1 (begPk (b0 s)).kind { begPk (b0 s) with id := i }).1 := ⟨_, rfl⟩
      have hQe : Q = { begPk (b0 s) with id := i, code := c, props := l } := by rw [hQ]; unfold rdEndP; rw [h2]
      have hQk : Q.kind = (begPk (b0 s)).kind := by rw [hQe]
      obtain ⟨f1, f2⟩ := flags_same hQk (fun h => absurd h hn3)
      have hbo : bodyO Q = endO (idd (⟨#[]⟩, 0) i) (begPk (b0 s)).kind c l := by
        unfold bodyO
        rw [f2, show flagsO (begPk (b0 s)) = (⟨#[]⟩, 0) from hflO]
        unfold parts
        rw [hQk, if_neg (by omega), if_neg (by omega), if_neg (by omega), if_neg (by omega), if_neg (by omega), if_neg (by omega), if_pos hk4, hQe]
        rfl
      rw [← hbo] at hA2
      simp only at fin ⊢
      rw [← hQ] at fin ⊢
      rcases hor with rfl | ⟨hl, hf⟩
      · exact fin _ rfl (exact_done (by rw [hQk]; exact ⟨hk1, hk2⟩) hA2 hm hbm hb hL (by rw [hQk, f1]; exact hfirst) hpos)
      · exact .inr ⟨by omega, by rw [hQe]; exact hl⟩
    · have hk14 : (begPk (b0 s)).kind = 14 ∨ (begPk (b0 s)).kind = 15 := by omega
      have e : ∀ (V : ByteArray) (a : Int), partsK (begPk (b0 s)).kind V a (begPk (b0 s)) = rdEndP V a (begPk (b0 s)).kind (begPk (b0 s)) := fun V a => by unfold partsK; rw [if_neg (by omega), if_neg (by omega), if_neg (by omega), if_neg (by omega), if_neg (by omega), if_neg (by omega), if_neg hk4, if_pos hk14]
      rw [e] at hc he fin ⊢
      obtain ⟨c, l, a2, h2, hA2, hor⟩ := end_inv (begPk (b0 s)).kind hA0 hc he
      obtain ⟨Q, hQ⟩ : ∃ Q, Q = (rdEndP s b (begPk (b0 s)).kind (begPk (b0 s))).1 := ⟨_, rfl⟩
      have hQe : Q = { begPk (b0 s) with code := c, props := l } := by rw [hQ]; unfold rdEndP; rw [h2]
      have hQk : Q.kind = (begPk (b0 s)).kind := by rw [hQe]
      obtain ⟨f1, f2⟩ := flags_same hQk (fun h => absurd h hn3)
      have hbo : bodyO Q = endO (⟨#[]⟩, 0) (begPk (b0 s)).kind c l := by
        unfold bodyO
        rw [f2, show flagsO (begPk (b0 s)) = (⟨#[]⟩, 0) from hflO]
        unfold parts
        rw [hQk, if_neg (by omega), if_neg (by omega), if_neg (by omega), if_neg (by omega), if_neg (by omega), if_neg (by omega), if_neg hk4, if_pos hk14, hQe]
        rfl
      rw [← hbo] at hA2
      rw [← hQ] at fin ⊢
      rcases hor with rfl | ⟨hl, hf⟩
      · exact fin _ rfl (exact_done (by rw [hQk]; exact ⟨hk1, hk2⟩) hA2 hm hbm hb hL (by rw [hQk, f1]; exact hfirst) hpos)
      · exact .inr ⟨by omega, by rw [hQe]; exact hl⟩
theorem put_same {P Q : Pk} (hk : Q.kind = P.kind) (hf : flagsN Q = flagsN P) (hb : bodyO Q = bodyO P) : putS Q = putS P := by
  have hc : putC Q = putC P := by unfold putC; rw [hk, hb]
  unfold putS
  rw [hc, hk, hf, hb]
/-- A packet that is put, read and put again. -/
theorem back (P : Pk) (hc : putC P = 0) : putC (getPk (putS P)).1 = 0 ∧ putS (getPk (putS P)).1 = putS P ∧ (getPk (putS P)).1.kind = P.kind := by
  obtain ⟨hr, hk, hb, hbk⟩ := put_read P hc
  have ht := twice (putS P) hr
  have hS : putS (getPk (putS P)).1 = putS P := by
    obtain ⟨m, b, hok, hpos, hg, hm, hbm, hb', hL, hcc, he, hX⟩ := getPk_inv hr
    rcases twice_or (putS P) hr with h | ⟨hke, hl⟩
    · exact h
    · rw [hbk] at hke
      have hn3 : P.kind ≠ 3 := by omega
      obtain ⟨b2, p1, p2, p3, p4, p5, p6, p7⟩ := putS_head hk hc (beg_back P hk (fun h => absurd h hn3)).1
      have eb : b2 = b := by
        have := congrArg (fun x => x.2.1) (p1.symm.trans hg)
        simp only at this
        omega
      subst eb
      have hfl : flagsO P = (⟨#[]⟩, 0) := by unfold flagsO; rw [if_neg (fun e => hn3 e.1)]
      have hbo : bodyO P = parts (⟨#[]⟩, 0) P := by unfold bodyO; rw [hfl]
      obtain ⟨P0, hP0⟩ : ∃ P0, P0 = begPk (b0 (putS P)) := ⟨_, rfl⟩
      have h0k : P0.kind = P.kind := by rw [hP0]; exact hbk
      rw [← hP0] at hX
      rw [hX] at hl ⊢
      simp only at hl ⊢
      rw [h0k] at hl ⊢
      by_cases k4 : P.kind = 4 ∨ P.kind = 5 ∨ P.kind = 6 ∨ P.kind = 7
      · have e : parts (⟨#[]⟩, 0) P = endO (idd (⟨#[]⟩, 0) P.id) P.kind P.code P.props := by unfold parts; rw [if_neg (by omega), if_neg (by omega), if_neg (by omega), if_neg (by omega), if_neg (by omega), if_neg (by omega), if_pos k4]; rfl
        rw [hbo, e] at p2 p3 p6
        obtain ⟨a1, a2, a3⟩ := end_fw P.kind P.code P.props p6 p3 p2
        obtain ⟨b1, _, b3⟩ := idd_fw a1 a2
        have hQ : (partsK P.kind (putS P) b2 P0).1 = { P0 with id := P.id, code := P.code, props := P.props.map PR.nrm } := by
          unfold partsK
          rw [if_neg (by omega), if_neg (by omega), if_neg (by omega), if_neg (by omega), if_neg (by omega), if_neg (by omega), if_pos k4, show ((b2 : Nat) : Int) = ((b2 + ((⟨#[]⟩, 0) : ByteArray × Int).1.size : Nat) : Int) from rfl, b3, bnd_ok rfl]
          unfold rdEndP
          rw [a3]
        rw [hQ] at hl ⊢
        have hpn : P.props = [] := by simpa using hl
        obtain ⟨f1, f2⟩ := flags_same (P := P) (Q := { P0 with id := P.id, code := P.code, props := P.props.map PR.nrm }) h0k (fun h => absurd h hn3)
        refine put_same h0k f1 ?_
        rw [hbo, e]
        unfold bodyO
        rw [f2, hfl]
        unfold parts
        simp only [h0k]
        rw [if_neg (by omega), if_neg (by omega), if_neg (by omega), if_neg (by omega), if_neg (by omega), if_neg (by omega), if_pos k4]
        show endO (idd (⟨#[]⟩, 0) P.id) P.kind P.code (P.props.map PR.nrm) = _
        rw [hpn]
        rfl
      · have k14 : P.kind = 14 ∨ P.kind = 15 := by omega
        have e : parts (⟨#[]⟩, 0) P = endO (⟨#[]⟩, 0) P.kind P.code P.props := by unfold parts; rw [if_neg (by omega), if_neg (by omega), if_neg (by omega), if_neg (by omega), if_neg (by omega), if_neg (by omega), if_neg k4, if_pos k14]; rfl
        rw [hbo, e] at p2 p3 p6
        obtain ⟨a1, a2, a3⟩ := end_fw (o := (⟨#[]⟩, 0)) P.kind P.code P.props p6 p3 p2
        have hQ : (partsK P.kind (putS P) b2 P0).1 = { P0 with code := P.code, props := P.props.map PR.nrm } := by
          unfold partsK
          rw [if_neg (by omega), if_neg (by omega), if_neg (by omega), if_neg (by omega), if_neg (by omega), if_neg (by omega), if_neg k4, if_pos k14, show ((b2 : Nat) : Int) = ((b2 + ((⟨#[]⟩, 0) : ByteArray × Int).1.size : Nat) : Int) from rfl]
          unfold rdEndP
          rw [a3]
        rw [hQ] at hl ⊢
        have hpn : P.props = [] := by simpa using hl
        obtain ⟨f1, f2⟩ := flags_same (P := P) (Q := { P0 with code := P.code, props := P.props.map PR.nrm }) h0k (fun h => absurd h hn3)
        refine put_same h0k f1 ?_
        rw [hbo, e]
        unfold bodyO
        rw [f2, hfl]
        unfold parts
        simp only [h0k]
        rw [if_neg (by omega), if_neg (by omega), if_neg (by omega), if_neg (by omega), if_neg (by omega), if_neg (by omega), if_neg k4, if_pos k14]
        show endO (⟨#[]⟩, 0) P.kind P.code (P.props.map PR.nrm) = _
        rw [hpn]
        rfl
  refine ⟨ht.1, hS, ?_⟩
  have h2 := put_read (getPk (putS P)).1 ht.1
  rw [hS] at h2
  exact h2.2.2.2.symm.trans hbk
end PK
end Go.Proofs.YtlfgndhdifpngaaGreatDoor
namespace Go.Proofs.YtlfgndhdifpngaaGreatDoor
open Go.RowKit

set_option maxRecDepth 100000 in
set_option maxHeartbeats 2000000 in
/-- Inv l W: what holds behind the packets l. -/
theorem through_any (K : FuncId) (cap : Array Value) (f : ByteArray → Int) (Inv : List ByteArray → World → Prop) (s : ByteArray) (most : Int) (hs : s.size ≤ 140737488351232)
    (hK : ∀ (args : Array Value) (W : World), (callFunc K args).run Tryz.prog W = .ok (.enter K args) W)
    (hC : ∀ (l : List ByteArray) (a k : Nat) (W : World), Inv l W → 2 * l.length ≤ a → 2 ≤ k → a + k ≤ s.size → Calls Tryz.prog K (#[.string (s.extract a (a + k))] ++ cap) W fun e W' => e = .returned (.int .u8 (f (s.extract a (a + k)))) ∧ (f (s.extract a (a + k)) = 0 → Inv (l ++ [s.extract a (a + k)]) W') ∧ (f (s.extract a (a + k)) ≠ 0 → Inv l W'))
    (w : World) (h0 : Inv [] w) :
    Calls Tryz.prog 33 #[.string s, .int .i64 most, .func (.func K) #[] cap] w fun e w' =>
      e = .returned (.tuple #[.int .i64 (ST.thr s most f (s.size + 1) 0).2.1, .int .u8 (ST.thr s most f (s.size + 1) 0).2.2]) ∧ Inv (ST.thr s most f (s.size + 1) 0).1 w' := by
  have HC := Lib.hid hC
  have HI := Lib.hid h0
  have HT := Lib.hid (ST.Thr.start s most f)
  obtain ⟨R, hR⟩ : ∃ R, R = ST.thr s most f (s.size + 1) 0 := ⟨_, rfl⟩
  rw [← hR]
  have HR := Lib.hid hR
  clear hC h0 hR
  go_enter Tryz.func33, Tryz.ntmps33
  go_wp2
  go_step3
  go_wp2
  go_step3
  go_wp2
  go_loopw [8] (fun i wr => ∃ (a : Nat) (l : List ByteArray), i = .int .i64 a ∧ a ≤ s.size ∧ Hid (ST.Thr s most f l a ∧ Inv l wr)) (fun i _ => s.size - (intOf i).toNat)
  case atStart => exact ⟨0, [], rfl, by omega, Lib.hid ⟨HT.out, HI.out⟩⟩
  case round =>
    obtain ⟨a, l, rfl, ha, hrl⟩ := hrel
    obtain ⟨ht, hi⟩ := hrl.out
    have hsl := st_from s a ha
    have CF := Lib.hid (first_any (s.extract a s.size) most (by rw [ByteArray.size_extract]; omega))
    have h2 := ht.size.2
    by_cases hf : (ST.first (s.extract a s.size) most).2 = 0
    · obtain ⟨k, hk, hk1, hk2⟩ := ST.first_ok _ _ hf
      rw [ByteArray.size_extract] at hk2
      rw [hk] at CF
      simp only at CF
      have hak : a + k ≤ s.size := by omega
      have hsp := st_part s a k hak
      have D := Lib.hid (HC.out l a k wr hi h2 hk1 hak)
      have HT2 := Lib.hid (fun h => ht.step hk hk1 hak h)
      have HL2 := Lib.hid (fun h => ht.left hk h)
      generalize f (s.extract a (a + k)) = c at *
      clear hf hk ht hi hrl hk2
      by_cases hc : c = 0
      · subst hc
        go_wp2_with fail
        refine (CF.out _).mono ?_
        rintro e w' ⟨rfl, rfl⟩
        go_wp2_with fail
        refine D.out.mono ?_
        rintro e w' ⟨rfl, hi, _⟩
        have HN : Hid (ST.Thr s most f (l ++ [s.extract a (a + k)]) (a + k) ∧ Inv (l ++ [s.extract a (a + k)]) w') := Lib.hid ⟨HT2.out trivial, hi trivial⟩
        clear D HT2 HL2 hi CF HC HI HT
        go_wp2
        go_roundw
        case rel => exact ⟨a + k, _, by go_num, by omega, HN⟩
        case measure => simp [intOf]; omega
      · have hne : (c != 0) = true := by rw [bne_iff_ne]; exact hc
        go_wp2_with fail
        refine (CF.out _).mono ?_
        rintro e w' ⟨rfl, rfl⟩
        go_wp2_with fail
        refine D.out.mono ?_
        rintro e w' ⟨rfl, _, hi⟩
        have HE : Hid (R = (l, a, c)) := Lib.hid (by rw [HR.out]; exact HL2.out hc)
        have HN : Hid (Inv l w') := Lib.hid (hi hc)
        clear D HT2 HL2 hi CF HC HI HT hc
        go_wp2
        try rw [Exit.noGoto_ret]
        go_ret2
        rw [HE.out]
        exact ⟨rfl, HN.out⟩
    · have HL := Lib.hid (ht.stop hf)
      have HN := Lib.hid hi
      generalize ST.first (s.extract a s.size) most = X at *
      obtain ⟨k, c⟩ := X
      simp only at CF hf HL
      have hne : (c == 0) = false := by rw [beq_eq_false_iff_ne]; exact hf
      clear ht hi hrl HC HI HT
      by_cases h242 : c = 242
      · subst h242
        go_wp2_with fail
        refine (CF.out _).mono ?_
        rintro e w' ⟨rfl, rfl⟩
        go_wp2
        try rw [Exit.noGoto_ret]
        go_ret2
        rw [HR.out, HL.out]
        exact ⟨rfl, HN.out⟩
      · have h2 : (c == 242) = false := by rw [beq_eq_false_iff_ne]; exact h242
        have HL2 : Hid (R = (l, a, c)) := Lib.hid (by rw [HR.out, HL.out, if_neg h242])
        clear HL HR h242 hf
        go_wp2_with fail
        refine (CF.out _).mono ?_
        rintro e w' ⟨rfl, rfl⟩
        go_wp2
        try rw [Exit.noGoto_ret]
        go_ret2
        rw [HL2.out]
        exact ⟨rfl, HN.out⟩
end Go.Proofs.YtlfgndhdifpngaaGreatDoor
namespace Go.Proofs.YtlfgndhdifpngaaGreatDoor
open Go.RowKit

/-- The reader in block r: the most, the bytes l that are left, the code c; 'p': whether its builder was used. -/
def FdAt (r : Nat) (m : Int) (p : Value) (l : List UInt8) (c : Int) (w : World) : Prop :=
  ∃ v, w.heap[r]? = some (.cells #[.int .i64 m, p, v, .int .u8 c] 103 (0, 0)) ∧ w.ownsRowF r 5 1 v l.length (Lib.byteCells l) ∧ v.ownBlock ≠ some r
def Fd (r : Nat) (m : Int) (l : List UInt8) (c : Int) (w : World) : Prop := FdAt r m (.pointer none) l c w ∨ FdAt r m (.pointer (some ⟨r, 1, none⟩)) l c w
theorem FdAt.lt {r : Nat} {m : Int} {p : Value} {l : List UInt8} {c : Int} {w : World} (h : FdAt r m p l c w) : r < w.heap.size := by
  obtain ⟨v, h1, _⟩ := h; exact lt_heap h1
theorem Fd.lt {r : Nat} {m : Int} {l : List UInt8} {c : Int} {w : World} (h : Fd r m l c w) : r < w.heap.size := by
  rcases h with h | h <;> exact h.lt
theorem ownF_below {B : Nat} {e : TypeId} {k : Nat} {v : Value} {n : Nat} {xs : List Value} {w w' : World} (h : w.ownsRowF B e k v n xs) (hb : Below w.heap.size w w') : w'.ownsRowF B e k v n xs :=
  h.kept (row := none) ⟨hb.os, hb.tape, hb.output, hb.size, fun i hi _ => hb.block i hi⟩ (by cases hv : v.ownBlock <;> simp)
theorem FdAt.below {r : Nat} {m : Int} {p : Value} {l : List UInt8} {c : Int} {w w' : World} (h : FdAt r m p l c w) (hb : Below w.heap.size w w') : FdAt r m p l c w' := by
  obtain ⟨v, h1, h2, h3⟩ := h
  exact ⟨v, (hb.block r (lt_heap h1)).trans h1, ownF_below h2 hb, h3⟩
theorem Fd.below {r : Nat} {m : Int} {l : List UInt8} {c : Int} {w w' : World} (h : Fd r m l c w) (hb : Below w.heap.size w w') : Fd r m l c w' := by
  rcases h with h | h
  · exact .inl (h.below hb)
  · exact .inr (h.below hb)
theorem ownF_set {w : World} {b j : Nat} {B : Nat} {e : TypeId} {k : Nat} {v u : Value} {n : Nat} {xs : List Value} (h : w.ownsRowF B e k v n xs) (hne : v.ownBlock ≠ some b) : (w.setCell ⟨b, j, none⟩ u).ownsRowF B e k v n xs :=
  h.kept (row := some b) ⟨rfl, rfl, rfl, by simp [World.setCell], fun i _ hi => Below.heap_setCell _ _ _ _ (fun e => hi (by simp [e]))⟩ (.inr hne)
theorem ownF_row {w : World} {B : Nat} {e : TypeId} {k : Nat} {v : Value} {n : Nat} {xs : List Value} (h : w.ownsRowF B e k v n xs) : ∀ g, v.ownBlock = some g → ∃ c fz, w.heap[g]? = some (.cells c e fz) := by
  intro g hg
  rcases h.2 with ⟨rfl, _⟩ | ⟨g', c, u, fz, rfl, _, hh, _⟩
  · cases hg
  · simp only [Value.ownBlock, Option.some.injEq] at hg
    subst hg
    exact ⟨_, _, hh⟩
theorem ownF_form {B : Nat} {e : TypeId} {k : Nat} {v : Value} {n : Nat} {xs : List Value} {w : World} (h : w.ownsRowF B e k v n xs) : ∃ A cap, v = .slice A n cap := by
  rcases h.2 with ⟨rfl, rfl⟩ | ⟨g, cap, cur, fz, rfl, _⟩
  · exact ⟨_, _, rfl⟩
  · exact ⟨_, _, rfl⟩
theorem fbldLies : liesAt Tryz.prog Tryz.prog.depth 103 (4 / Tryz.prog.cellsOf 103) 1 101 1 = true := by kernel_rfl

set_option maxHeartbeats 1000000 in
set_option maxRecDepth 100000 in
theorem fcopy_used (r : Nat) (w : World) (h0 : w.cell? ⟨r, 1, none⟩ = some (.pointer (some ⟨r, 1, none⟩))) :
    Calls Tryz.prog 64 #[.pointer (some ⟨r, 1, none⟩)] w fun e w' => e = .returned (.tuple #[]) ∧ w = w' := by
  obtain ⟨j, hj, _⟩ := bldInfo
  have hn := Lib.run_neq_ptr_same (P := Tryz.prog) w ⟨r, 1, none⟩ Tryz.underlying99 hj
  clear hj
  go_enter Tryz.func64, Tryz.ntmps64
  go_wp2
  go_end0
  exact ⟨rfl, rfl⟩
set_option maxHeartbeats 1000000 in
set_option maxRecDepth 100000 in
theorem fcopy_fresh (r : Nat) (w : World) (h0 : w.cell? ⟨r, 1, none⟩ = some (.pointer none)) (hsh : w.shape? r = some (103, 4)) (hfz : w.frozen? ⟨r, 1, none⟩ = false) :
    Calls Tryz.prog 64 #[.pointer (some ⟨r, 1, none⟩)] w fun e w' => e = .returned (.tuple #[]) ∧ w.setCell ⟨r, 1, none⟩ (.pointer (some ⟨r, 1, none⟩)) = w' := by
  obtain ⟨j, hj, hjs⟩ := bldInfo
  have r1 := Lib.run_to_unsafe (P := Tryz.prog) w ⟨r, 1, none⟩ Tryz.underlying99 Tryz.underlying176 hj (by rw [hjs]; decide) hsh (show (1 : Nat) < 4 by decide)
  have r2 := Lib.run_from_unsafe (P := Tryz.prog) w ⟨r, 1, none⟩ Tryz.underlying176 Tryz.underlying99 hj hsh fbldLies
  clear hj hjs hsh
  go_enter Tryz.func64, Tryz.ntmps64
  go_wp2
  rw [run_callFunc_extern Tryz.func103 (by kernel_rfl) (by kernel_rfl) (by kernel_rfl) (e := Extern.AbiNoEscape.same) (by kernel_rfl)]
  rw [Lib.run_noEscape]
  simp only [Result.andThen]
  rw [Oper.upon_value]
  go_wp2
  go_end0
  exact ⟨rfl, rfl⟩
theorem fcopy_any (r : Nat) (m : Int) (l : List UInt8) (c : Int) (w : World) (h : Fd r m l c w) :
    Calls Tryz.prog 64 #[.pointer (some ⟨r, 1, none⟩)] w fun e w' => e = .returned (.tuple #[]) ∧ FdAt r m (.pointer (some ⟨r, 1, none⟩)) l c w' ∧ Kp r w w' := by
  rcases h with ⟨v, h1, h2, h3⟩ | ⟨v, h1, h2, h3⟩
  · refine (fcopy_fresh r w (by rw [cell_heap h1]; rfl) (by simp [World.shape?, h1]) (frozen_heap h1)).mono ?_
    rintro e w' ⟨rfl, rfl⟩
    exact ⟨rfl, ⟨v, set_block h1 rfl, ownF_set h2 h3, h3⟩, (Kp.refl r w).setCell 1 _⟩
  · refine (fcopy_used r w (by rw [cell_heap h1]; rfl)).mono ?_
    rintro e w' ⟨rfl, rfl⟩
    exact ⟨rfl, ⟨v, h1, h2, h3⟩, Kp.refl r w⟩

set_option maxHeartbeats 2000000 in
set_option maxRecDepth 100000 in
theorem fwrite_any (r : Nat) (m : Int) (l : List UInt8) (c : Int) (s : ByteArray) (w : World) (h : Fd r m l c w) (hn : l.length + s.size ≤ 140737488355328) :
    Calls Tryz.prog 31 #[.pointer (some ⟨r, 1, none⟩), .string s] w fun e w' => e = .returned (.tuple #[.int .i64 s.size, .nilIface]) ∧ Fd r m (l ++ s.data.toList) c w' ∧ Kp r w w' := by
  have C := Lib.hid (fcopy_any r m l c w h)
  obtain ⟨i0, hi, hz0, hz1, hz2⟩ := info_parts byteInfo
  have Hi := Lib.hid hi; have Hz0 := Lib.hid hz0; have Hz1 := Lib.hid hz1; have Hz2 := Lib.hid hz2
  clear hi hz0 hz1 hz2 h
  go_enter Tryz.func31, Tryz.ntmps31
  go_wp2_with fail
  refine C.out.mono ?_
  rintro e w1 ⟨rfl, ⟨v, h1, h2, h3⟩, k1⟩
  obtain ⟨ao, cap, rfl⟩ := ownF_form h2
  have hlt := lt_heap h1
  obtain ⟨v', w2, hr, ho, hg, _⟩ := Lib.run_append_own_stringF (P := Tryz.prog) w1 r 60 9 60 5 i0 Tryz.underlying60 Tryz.underlying9 Hi.out Hz0.out Hz1.out Hz2.out _ _ _ h2 s (by unfold maxLen; omega) hn (Nat.le_of_lt hlt)
  have hb2 : w2.heap[r]? = some (.cells #[.int .i64 m, .pointer (some ⟨r, 1, none⟩), .slice ao l.length cap, .int .u8 c] 103 (0, 0)) := (hg.block r hlt (fun e => h3 e.symm)).trans h1
  have k2 : Kp r w w2 := k1.trans ⟨(Below.refl r w1).grown hg (Nat.le_of_lt hlt) (fun k hk => (h2.lt k hk).1), (Lib.OthersKept.refl _ _ _).grown hg (ownF_row h2)⟩
  have hne := Lib.ownBlock_neF ho hb2 (by decide)
  have HW : Hid (Fd r m (l ++ s.data.toList) c (w2.setCell ⟨r, 2, none⟩ v')) := .inr ⟨v', set_block hb2 rfl, by
    refine ownF_set ?_ hne
    rw [byteCells_app] at ho
    have e : (l ++ s.data.toList).length = l.length + s.size := by rw [List.length_append]; congr 1
    rw [e]; exact ho, hne⟩
  have HK : Hid (Kp r w (w2.setCell ⟨r, 2, none⟩ v')) := k2.setCell 2 _
  have c0 : w1.cell? ⟨r, 1, none⟩ = some (.pointer (some ⟨r, 1, none⟩)) := by rw [cell_heap h1]; rfl
  have c1 : w1.cell? ⟨r, 2, none⟩ = some (.slice ao l.length cap) := by rw [cell_heap h1]; rfl
  have d1 : w2.cell? ⟨r, 2, none⟩ = some (.slice ao l.length cap) := by rw [cell_heap hb2]; rfl
  have f1 : w2.frozen? ⟨r, 2, none⟩ = false := frozen_heap hb2
  obtain ⟨A2, cap2, rfl⟩ := ownF_form ho
  clear C h1 h2 h3 k1 ho hg hb2 k2 hne Hi Hz0 Hz1 Hz2
  go_wp2_with (at_builtin; refine wpList_run (by rfl) (.tmp 12) (.tmp 13) _ _ (by rfl) (by rfl) (by rfl) hr ?_; clear hr)
  go_ret2
  exact ⟨rfl, HW.out, HK.out⟩

set_option maxHeartbeats 1000000 in
set_option maxRecDepth 100000 in
theorem freset_any (r : Nat) (m : Int) (l : List UInt8) (c : Int) (w : World) (h : Fd r m l c w) :
    Calls Tryz.prog 35 #[.pointer (some ⟨r, 1, none⟩)] w fun e w' => e = .returned (.tuple #[]) ∧ Fd r m [] c w' ∧ Kp r w w' := by
  obtain ⟨p, v, h1, h2, h3⟩ : ∃ p, FdAt r m p l c w := by
    rcases h with h | h
    · exact ⟨_, h⟩
    · exact ⟨_, h⟩
  have HB1 := set_block (j := 1) (u := .pointer none) (cs' := #[.int .i64 m, .pointer none, v, .int .u8 c]) h1 rfl
  have HB2 := set_block (j := 2) (u := .slice none 0 0) (cs' := #[.int .i64 m, .pointer none, .slice none 0 0, .int .u8 c]) HB1 rfl
  have HW : Hid (Fd r m [] c ((w.setCell ⟨r, 1, none⟩ (.pointer none)).setCell ⟨r, 2, none⟩ (.slice none 0 0))) := .inl ⟨_, HB2, World.ownsRowF_nil _ _ _ _, by simp [Value.ownBlock]⟩
  have HK : Hid (Kp r w ((w.setCell ⟨r, 1, none⟩ (.pointer none)).setCell ⟨r, 2, none⟩ (.slice none 0 0))) := ((Kp.refl r w).setCell 1 _).setCell 2 _
  have c1 : w.cell? ⟨r, 1, none⟩ = some p := by rw [cell_heap h1]; rfl
  have c2 : w.cell? ⟨r, 2, none⟩ = some v := by rw [cell_heap h1]; rfl
  have f1 : w.frozen? ⟨r, 1, none⟩ = false := frozen_heap h1
  have f2 : w.frozen? ⟨r, 2, none⟩ = false := frozen_heap h1
  clear h h1 h2 h3 HB1 HB2
  go_enter Tryz.func35, Tryz.ntmps35
  go_wp2
  go_end0
  exact ⟨rfl, HW.out, HK.out⟩
end Go.Proofs.YtlfgndhdifpngaaGreatDoor
namespace Go.Proofs.YtlfgndhdifpngaaGreatDoor
open Go.RowKit

theorem freeze_other {w : World} {g k n : Nat} (h : k ≠ g) : (w.freeze ⟨g, 0, none⟩ n).heap[k]? = w.heap[k]? := by
  unfold World.freeze
  split
  · rfl
  · simp [Array.getElem?_modify, Ne.symm h]
theorem freeze_self {w : World} {g n m : Nat} {cur : Array Value} {e : TypeId} {fz : Nat × Nat} (h : w.heap[g]? = some (.cells cur e fz)) (hf : fz.2 ≤ m) (hn : n ≤ m) : ∃ fz', (w.freeze ⟨g, 0, none⟩ n).heap[g]? = some (.cells cur e fz') ∧ fz'.2 ≤ m := by
  obtain ⟨lo, hi⟩ := fz
  unfold World.freeze
  split
  · exact ⟨_, h, hf⟩
  · simp [Array.getElem?_modify, h]
    simp only at hf
    split
    · simp; omega
    · simp; omega
theorem freeze_size {w : World} {g n : Nat} : (w.freeze ⟨g, 0, none⟩ n).heap.size = w.heap.size := by
  unfold World.freeze
  split
  · rfl
  · simp
theorem Kp.freeze {r g n : Nat} {w : World} {cur : Array Value} {fz : Nat × Nat} (hr : r ≤ g) (h : w.heap[g]? = some (.cells cur 5 fz)) : Kp r w (w.freeze ⟨g, 0, none⟩ n) :=
  ⟨Lib.below_freeze (Below.refl r w) (p := ⟨g, 0, none⟩) hr n, fun k o hk hb he => by
    by_cases e : k = g
    · subst e; rw [h] at hk; injection hk with hk; exact absurd hk.symm (he _ _)
    · exact (freeze_other e).trans hk⟩
theorem Kp.drew {b : Nat} {w w' : World} (h : Kp b w.drew w') : Kp b w w' := ⟨⟨h.1.os, h.1.tape, h.1.output, h.1.size, h.1.block⟩, h.2⟩

set_option maxHeartbeats 2000000 in
set_option maxRecDepth 100000 in
theorem fstr_any (r : Nat) (m : Int) (x : UInt8) (t : List UInt8) (c : Int) (w : World) (h : Fd r m (x :: t) c w) :
    Calls Tryz.prog 32 #[.pointer (some ⟨r, 1, none⟩)] w fun e w' => e = .returned (.string ⟨(x :: t).toArray⟩) ∧ Fd r m (x :: t) c w' ∧ Kp r w w' := by
  obtain ⟨p, hp, v, h1, h2, h3⟩ : ∃ p, (p = .pointer none ∨ p = .pointer (some ⟨r, 1, none⟩)) ∧ FdAt r m p (x :: t) c w := by
    rcases h with h | h
    · exact ⟨_, .inl rfl, h⟩
    · exact ⟨_, .inr rfl, h⟩
  obtain ⟨g, cap, cur, fz, rfl, hbg, hg, hfz, hnc, hcm, hcs, htake⟩ : ∃ g cap cur fz, v = .slice (some ⟨g, 0, none⟩) (x :: t).length cap ∧ r ≤ g ∧ w.heap[g]? = some (.cells cur 5 fz) ∧ fz.2 ≤ (x :: t).length * 1 ∧ (x :: t).length ≤ cap ∧ cap ≤ maxLen ∧ cur.size = cap * 1 ∧ cur.toList.take ((x :: t).length * 1) = Lib.byteCells (x :: t) := by
    rcases h2.2 with ⟨_, hz⟩ | ⟨g, cap, cur, fz, hv, rr⟩
    · simp at hz
    · exact ⟨g, cap, cur, fz, hv, rr⟩
  have hl0 : 0 < (x :: t).length := by simp
  have hrg : r ≠ g := fun e => h3 (by simp [Value.ownBlock, e])
  have c1 : w.cell? ⟨r, 2, none⟩ = some (.slice (some ⟨g, 0, none⟩) (x :: t).length cap) := by rw [cell_heap h1]; rfl
  have hSD : (Builtin.unsafeSliceData_ #[60] 149 #[.slice (some ⟨g, 0, none⟩) (x :: t).length cap]).run Tryz.prog w.drew = .ok (.pointer (some ⟨g, 0, none⟩)) w.drew := Lib.run_unsafeSliceData_row _ _ _ _ _ _ (by omega)
  have hUS : (Builtin.unsafeString_ #[149, 3] 9 #[.pointer (some ⟨g, 0, none⟩), .int .i64 (x :: t).length]).run Tryz.prog w.drew = .ok (.string ⟨(x :: t).toArray⟩) (w.drew.freeze ⟨g, 0, none⟩ (x :: t).length) := by
    refine Lib.run_unsafeString_row w.drew 149 3 9 5 Tryz.underlying149 (by kernel_rfl) g cur.size (by have hg' : w.drew.heap[g]? = some (.cells cur 5 fz) := hg; simp [World.shape?, hg']) (x :: t) (by simp) (by omega) (by unfold maxLen at hcm; omega) ?_
    intro j y hy
    exact h2.cells (g := g) rfl j (.int .u8 y.toNat) (by rw [Lib.byteCells, List.getElem?_map, hy]; rfl)
  have HF : Hid (Fd r m (x :: t) c (w.drew.freeze ⟨g, 0, none⟩ (x :: t).length)) := Lib.hid (by
    obtain ⟨fz', e1, e2⟩ := freeze_self (n := (x :: t).length) (m := (x :: t).length * 1) (show w.drew.heap[g]? = some (.cells cur 5 fz) from hg) hfz (by omega)
    have e3 : (w.drew.freeze ⟨g, 0, none⟩ (x :: t).length).heap[r]? = some (.cells #[.int .i64 m, p, .slice (some ⟨g, 0, none⟩) (x :: t).length cap, .int .u8 c] 103 (0, 0)) := (freeze_other hrg).trans h1
    have e4 : FdAt r m p (x :: t) c (w.drew.freeze ⟨g, 0, none⟩ (x :: t).length) := ⟨_, e3, ⟨h2.1, .inr ⟨g, cap, cur, fz', rfl, hbg, e1, e2, hnc, hcm, hcs, htake⟩⟩, h3⟩
    rcases hp with rfl | rfl
    · exact .inl e4
    · exact .inr e4)
  have HK : Hid (Kp r w (w.drew.freeze ⟨g, 0, none⟩ (x :: t).length)) := Lib.hid (Kp.drew (Kp.freeze hbg (show w.drew.heap[g]? = some (.cells cur 5 fz) from hg)))
  generalize x :: t = l at *
  clear h h1 h2 h3 hg hcs htake hnc hcm hl0 hfz hp
  go_enter Tryz.func32, Tryz.ntmps32
  go_wp2
  go_region
  all_goals
    go_wp2
    go_ret
    exact ⟨rfl, HF.out, HK.out⟩

set_option maxHeartbeats 2000000 in
set_option maxRecDepth 100000 in
theorem fstr_empty (r : Nat) (m : Int) (c : Int) (w : World) (h : Fd r m [] c w) :
    Calls Tryz.prog 32 #[.pointer (some ⟨r, 1, none⟩)] w fun e w' => e = .returned (.string ⟨#[]⟩) ∧ Fd r m [] c w' ∧ Kp r w w' := by
  have hlt := h.lt
  have HH := Lib.hid h
  obtain ⟨p, v, h1, h2, h3⟩ : ∃ p, FdAt r m p [] c w := by
    rcases h with h | h
    · exact ⟨_, h⟩
    · exact ⟨_, h⟩
  have hUS := us_none
  have fin : ∀ w', Below w.heap.size w w' → Fd r m [] c w' ∧ Kp r w w' := fun w' hb => ⟨HH.out.below hb, Kp.of_below (Nat.le_of_lt hlt) hb⟩
  have FIN := Lib.hid fin
  clear fin
  rcases h2.2 with ⟨rfl, _⟩ | ⟨g, cap, cur, fz, rfl, hbg, hg, _, _, _, _, _⟩
  · have c1 : w.cell? ⟨r, 2, none⟩ = some (.slice none 0 0) := by rw [cell_heap h1]; rfl
    have hSD : (Builtin.unsafeSliceData_ #[60] 149 #[.slice none 0 0]).run Tryz.prog w.drew = .ok (.pointer none) w.drew := rfl
    clear h h1 h2 h3
    go_enter Tryz.func32, Tryz.ntmps32
    go_wp2
    go_region
    all_goals
      go_wp2
      go_ret
      exact ⟨rfl, FIN.out _ (Below.drew (Below.refl _ w))⟩
  · have c1 : w.cell? ⟨r, 2, none⟩ = some (.slice (some ⟨g, 0, none⟩) 0 cap) := by rw [cell_heap h1]; rfl
    by_cases hc0 : cap = 0
    · subst hc0
      have hSD : (Builtin.unsafeSliceData_ #[60] 149 #[.slice (some ⟨g, 0, none⟩) 0 0]).run Tryz.prog w.drew = .ok (.pointer (some ⟨w.drew.heap.size, 0, none⟩)) (w.drew.alloc (.view ⟨g, 0, none⟩ 5)) :=
        Lib.run_unsafeSliceData_zero w.drew _ _ 5 Tryz.underlying149 ⟨g, 0, none⟩ 0 (5, cur.size) (by have hg' : w.drew.heap[g]? = some (.cells cur 5 fz) := hg; simp [World.shape?, hg'])
      have c3 : (w.alloc (.view ⟨g, 0, none⟩ 5)).drew.cell? ⟨r, 2, none⟩ = some (.slice (some ⟨g, 0, none⟩) 0 0) := by
        have e : (w.alloc (.view ⟨g, 0, none⟩ 5)).drew.heap[r]? = some (.cells #[.int .i64 m, p, .slice (some ⟨g, 0, none⟩) 0 0, .int .u8 c] 103 (0, 0)) := (heap_alloc_old w _ hlt).trans h1
        rw [cell_heap e]; rfl
      clear h h1 h2 h3 hg
      go_enter Tryz.func32, Tryz.ntmps32
      go_wp2
      go_region
      all_goals
        go_wp2
        go_ret
        exact ⟨rfl, FIN.out _ ((Below.drew (Below.refl _ w)).alloc (Nat.le_refl _) _)⟩
    · have hSD : (Builtin.unsafeSliceData_ #[60] 149 #[.slice (some ⟨g, 0, none⟩) 0 cap]).run Tryz.prog w.drew = .ok (.pointer (some ⟨g, 0, none⟩)) w.drew := Lib.run_unsafeSliceData_row _ _ _ _ _ _ hc0
      clear h h1 h2 h3 hg hc0
      go_enter Tryz.func32, Tryz.ntmps32
      go_wp2
      go_region
      all_goals
        go_wp2
        go_ret
        exact ⟨rfl, FIN.out _ (Below.drew (Below.refl _ w))⟩
theorem fstring_any (r : Nat) (m : Int) (l : List UInt8) (c : Int) (w : World) (h : Fd r m l c w) :
    Calls Tryz.prog 32 #[.pointer (some ⟨r, 1, none⟩)] w fun e w' => e = .returned (.string ⟨l.toArray⟩) ∧ Fd r m l c w' ∧ Kp r w w' := by
  cases l with
  | nil => exact fstr_empty r m c w h
  | cons x t => exact fstr_any r m x t c w h
end Go.Proofs.YtlfgndhdifpngaaGreatDoor
namespace Go.Proofs.YtlfgndhdifpngaaGreatDoor
open Go.RowKit
attribute [local go_sem ↓] Go.wp_at_zero Go.wp_at_succ

/-- A packet and the values of its five rows. -/
structure Pv where
  p : Pk
  vc : Value
  vp : Value
  vw : Value
  vs : Value
  vf : Value
def Pv.cells (x : Pv) : List Value := (pkCells x.p x.vc x.vp x.vw x.vs x.vf).toList
def Pv.Own (x : Pv) (B : Nat) (w : World) : Prop := Own5 B x.p x.vc x.vp x.vw x.vs x.vf w
/-- A row of packets. -/
structure PkRow (B : Nat) (v : Value) (L : List Pv) (w : World) : Prop where
  row : w.ownsRow B 31 26 v L.length (L.flatMap Pv.cells)
  own : ∀ x ∈ L, x.Own B w
theorem own5_kept {B : Nat} {P : Pk} {vc vp vw vs vf : Value} {w w' : World} {row : Option Nat} (h : Own5 B P vc vp vw vs vf w) (hg : w.grownBy w' row) (hr : ∀ g, row = some g → ∃ c fz, w.heap[g]? = some (.cells c 31 fz)) : Own5 B P vc vp vw vs vf w' := by
  have key : ∀ {e : TypeId} {k : Nat} {v : Value} {n : Nat} {xs : List Value}, e ≠ 31 → w.ownsRow B e k v n xs → w'.ownsRow B e k v n xs := fun {e k v n xs} he ho => by
    refine ho.kept hg ?_
    cases hv : v.ownBlock with
    | none => exact .inl rfl
    | some g =>
      refine .inr (fun e' => ?_)
      obtain ⟨c, fz, h1⟩ := hr g e'.symm
      obtain ⟨c2, fz2, h2⟩ := own_row ho g hv
      rw [h1] at h2
      simp at h2
      exact he h2.2.1.symm
  exact ⟨key (by decide) h.codes, key (by decide) h.props, key (by decide) h.wprops, key (by decide) h.subs, key (by decide) h.filters⟩
theorem own5_base {B C : Nat} {P : Pk} {vc vp vw vs vf : Value} {w : World} (h : Own5 B P vc vp vw vs vf w) (hC : C ≤ B) : Own5 C P vc vp vw vs vf w :=
  ⟨own_base' h.codes hC, own_base' h.props hC, own_base' h.wprops hC, own_base' h.subs hC, own_base' h.filters hC⟩
theorem own5_below {B : Nat} {P : Pk} {vc vp vw vs vf : Value} {w w' : World} (h : Own5 B P vc vp vw vs vf w) (hb : Below w.heap.size w w') : Own5 B P vc vp vw vs vf w' :=
  ⟨own_below h.codes hb, own_below h.props hb, own_below h.wprops hb, own_below h.subs hb, own_below h.filters hb⟩
theorem own5_set {B b j : Nat} {P : Pk} {vc vp vw vs vf u : Value} {w : World} (h : Own5 B P vc vp vw vs vf w) (hb : b < B) : Own5 B P vc vp vw vs vf (w.setCell ⟨b, j, none⟩ u) :=
  ⟨own_set h.codes (row_ne h.codes hb), own_set h.props (row_ne h.props hb), own_set h.wprops (row_ne h.wprops hb), own_set h.subs (row_ne h.subs hb), own_set h.filters (row_ne h.filters hb)⟩
theorem PkRow.below {B : Nat} {v : Value} {L : List Pv} {w w' : World} (h : PkRow B v L w) (hb : Below w.heap.size w w') : PkRow B v L w' := ⟨own_below h.row hb, fun x hx => own5_below (h.own x hx) hb⟩
theorem PkRow.base {B C : Nat} {v : Value} {L : List Pv} {w : World} (h : PkRow B v L w) (hC : C ≤ B) : PkRow C v L w := ⟨own_base' h.row hC, fun x hx => own5_base (h.own x hx) hC⟩
theorem PkRow.set {B b j : Nat} {v u : Value} {L : List Pv} {w : World} (h : PkRow B v L w) (hb : b < B) : PkRow B v L (w.setCell ⟨b, j, none⟩ u) := ⟨own_set h.row (row_ne h.row hb), fun x hx => own5_set (h.own x hx) hb⟩
theorem pkInfo : ∃ z n, (Tryz.prog.info? 31).map (fun i => (i.zero, i.size, i.bytes)) = some (some z, 26, n) ∧ z.cells.size = 26 ∧ n ≤ 1000 := ⟨.agg (pkNil PK.zeroPk), 328, by kernel_rfl, rfl, by decide⟩

theorem fill_pk26 (P : Pk) (vc vp vw vs vf : Value) : Array.foldl (fun (cs : Array Value) (x : Value × Nat) => cs.setIfInBounds x.2 x.1) #[.int .i64 0, .bool false, .bool false, .int .i64 0, .int .i64 0, .string ⟨#[]⟩, .string ⟨#[]⟩, .int .u8 0, .slice none 0 0, .slice none 0 0, .string ⟨#[]⟩, .bool false, .int .i64 0, .bool false, .string ⟨#[]⟩, .string ⟨#[]⟩, .int .i64 0, .bool false, .slice none 0 0, .bool false, .bool false, .string ⟨#[]⟩, .string ⟨#[]⟩, .bool false, .slice none 0 0, .slice none 0 0] (pkCells P vc vp vw vs vf).zipIdx 0 26 = pkCells P vc vp vw vs vf := by
  kernel_rfl

/-- What Feed's function keeps: the packets so far, in a row that the variable in block p holds. -/
def FoI (p : Nat) (w : World) (l : List ByteArray) (W : World) : Prop :=
  ∃ v L, W.heap[p]? = some (.cells #[v] 51 (0, 0)) ∧ PkRow (p + 1) v L W ∧ L.map Pv.p = l.map (fun b => (PK.getPk b).1) ∧ p + 1 ≤ W.heap.size ∧ Below p w W
theorem FoI.below {p : Nat} {w W W' : World} {l : List ByteArray} (h : FoI p w l W) (hb : Below W.heap.size W W') : FoI p w l W' := by
  obtain ⟨v, L, h1, h2, h3, h4, h5⟩ := h
  exact ⟨v, L, (hb.block _ (lt_heap h1)).trans h1, h2.below hb, h3, Nat.le_trans h4 hb.size, h5.trans (hb.mono (by omega))⟩

set_option maxRecDepth 100000 in
set_option maxHeartbeats 1000000 in
theorem feed1_any (p : Nat) (w : World) (l : List ByteArray) (b : ByteArray) (hb : b.size ≤ 140737488351232) (hl : l.length < 1000000) (hT : ∀ W, Below p w W → Tabs W) (W : World) (h : FoI p w l W) :
    Calls Tryz.prog 34 #[.string b, .pointer (some ⟨p, 0, none⟩)] W fun e W' => e = .returned (.int .u8 (PK.getPk b).2) ∧ ((PK.getPk b).2 = 0 → FoI p w (l ++ [b]) W') ∧ ((PK.getPk b).2 ≠ 0 → FoI p w l W') := by
  obtain ⟨v, L, hv, hrow, hLl, hp1, hbe⟩ := id h
  have HF := Lib.hid h
  have CG := Lib.hid (get_pk_any b hb W (fun W' hW => hT W' (hbe.trans (hW.mono (by omega)))))
  obtain ⟨P, hP⟩ : ∃ P, P = (PK.getPk b).1 := ⟨_, rfl⟩
  have HPE := Lib.hid hP
  unfold GtP at CG
  rw [← hP] at CG
  generalize (PK.getPk b).2 = c at *
  clear hP h hT
  have HV := Lib.hid hv
  have HR := Lib.hid hrow
  have HL := Lib.hid hLl
  have HB := Lib.hid hbe
  have hLn : L.length = l.length := by have := congrArg List.length hLl; simpa using this
  clear hv hrow hLl hbe
  by_cases hc : c = 0
  · subst hc
    go_enter Tryz.func34, Tryz.ntmps34
    go_wp2_with fail
    refine CG.out.mono ?_
    rintro e w1 ⟨h1, _, b1⟩
    obtain ⟨vc, vp, vw, vs, vf, rfl, o1⟩ := h1 trivial
    have W1 := Lib.hid (pk_one P o1)
    have Z1 : Hid ((w1.alloc (.cells (pkNil PK.zeroPk) 31)).heap[w1.heap.size]? = some (.cells (pkNil PK.zeroPk) 31 (0, 0))) := Lib.hid (heap_alloc_new w1 _)
    go_upto_region 2 with (refine wpList_store_row (by rfl) 31 (.tmp 4) (.tmp 9) (by rfl) w1.heap.size (pkCells P vc vp vw vs vf) (by rfl) (by rfl) 31 (pkNil PK.zeroPk) Z1.out pk_info rfl W1.out ?_)
    obtain ⟨wA, hwA⟩ : ∃ wA, wA = (w1.alloc (.cells (pkNil PK.zeroPk) 31)).setRow w1.heap.size (pkCells P vc vp vw vs vf) := ⟨_, rfl⟩
    have PA : Hid (wA.heap[w1.heap.size]? = some (.cells (pkCells P vc vp vw vs vf) 31 (0, 0))) := Lib.hid (by rw [hwA]; exact setRow_heap Z1.out)
    have bA : Below w1.heap.size w1 wA := by rw [hwA]; exact below_setRow ((Below.refl _ _).alloc (Nat.le_refl _) _) (Nat.le_refl _) _
    change Code.wp _ _ _ _ ((w1.alloc (.cells (pkNil PK.zeroPk) 31)).setRow w1.heap.size (pkCells P vc vp vw vs vf))
    rw [← hwA]
    have hWA : Below W.heap.size W wA := b1.trans (bA.mono b1.size)
    have vA := (hWA.block _ (lt_heap HV.out)).trans HV.out
    have rA := HR.out.below hWA
    have oA := own5_base (own5_below o1 bA) hp1
    obtain ⟨z, nb, hinf, hzs, hnb⟩ := pkInfo
    obtain ⟨i0, hi0, hz0, hz1, hz2⟩ := info_parts hinf
    have hpA : p + 1 ≤ wA.heap.size := Nat.le_trans hp1 hWA.size
    obtain ⟨v2, w2, hr2, hown2, hg2, hb2⟩ := app1 Tryz.underlying51 hi0 hz0 hz1 hz2 hzs (by decide) hnb (p + 1) v L.length _ wA rA.row hpA (pkCells P vc vp vw vs vf) rfl (fun u hu => by have := W1.out; rw [Array.all_eq_true'] at this; exact this u (by simpa using hu)) (by omega)
    have hp2 := (hg2.block p (by omega) (fun e => by have := (rA.row.lt _ e.symm).1; omega)).trans vA
    obtain ⟨A2, c2, rfl⟩ := own_form hown2
    have q0 : wA.cell? ⟨p, 0, none⟩ = some v := by rw [cell_heap vA]; rfl
    have q2 : w2.cell? ⟨p, 0, none⟩ = some v := by rw [cell_heap hp2]; rfl
    have f2 : w2.frozen? ⟨p, 0, none⟩ = false := frozen_heap hp2
    have HN : Hid (FoI p w (l ++ [b]) (w2.setCell ⟨p, 0, none⟩ (.slice A2 (L.length + 1) c2))) := Lib.hid (by
      have hrr : ∀ g, v.ownBlock = some g → ∃ c fz, wA.heap[g]? = some (.cells c 31 fz) := own_row rA.row
      refine ⟨_, L ++ [⟨P, vc, vp, vw, vs, vf⟩], one_setCell hp2, PkRow.set ⟨by simpa [Pv.cells] using hown2, fun x hx => ?_⟩ (by omega), by rw [List.map_append, List.map_append, HL.out, HPE.out]; rfl, by simp [World.setCell]; have := hg2.size; omega, ?_⟩
      · rcases List.mem_append.1 hx with hx | hx
        · exact own5_kept (rA.own x hx) hg2 hrr
        · simp at hx; subst hx; exact own5_kept oA hg2 hrr
      · have h5 := ((HB.out.trans (hWA.mono (by omega))).trans (hb2.mono (Nat.le_succ p)))
        exact ⟨h5.os, h5.tape, h5.output, by simp [World.setCell]; exact h5.size, fun i hi => (Below.heap_setCell _ _ _ _ (fun e => by simp at e; omega)).trans (h5.block i hi)⟩)
    have hcz : (pkCells P vc vp vw vs vf).size = 26 := rfl
    clear hLn
    clear hwA Z1 b1 bA hWA vA rA oA o1 hinf hzs hnb hi0 hz0 hz1 hz2 hown2 hg2 hb2 hp2 HB HR HL HV CG HF
    go_wp2_with (first
      | refine wpl_load_pk (by rfl) (.tmp 4) (by rfl) w1.heap.size (by rfl) PA.out ?_
      | (at_builtin; simp only [fill_pk26]; refine wpList_run (by rfl) (.tmp 13) (.tmp 15) _ _ (by rfl) (by rfl) (by rfl) hr2 ?_; clear hr2))
    go_ret
    exact ⟨rfl, fun _ => HN.out, fun h => absurd rfl h⟩
  · have e1 : (c == 0) = false := by rw [beq_eq_false_iff_ne]; exact hc
    have HC := Lib.hid hc
    clear hc
    go_enter Tryz.func34, Tryz.ntmps34
    go_wp2_with fail
    refine CG.out.mono ?_
    rintro e w1 ⟨_, h1, b1⟩
    obtain rfl := h1 HC.out
    have O1 := Lib.hid (pkNil_one PK.zeroPk)
    have Z1 : Hid ((w1.alloc (.cells (pkNil PK.zeroPk) 31)).heap[w1.heap.size]? = some (.cells (pkNil PK.zeroPk) 31 (0, 0))) := Lib.hid (heap_alloc_new w1 _)
    have HN : Hid (FoI p w l ((w1.alloc (.cells (pkNil PK.zeroPk) 31)).setRow w1.heap.size (pkNil PK.zeroPk))) := Lib.hid (HF.out.below (b1.trans ((below_setRow ((Below.refl _ _).alloc (Nat.le_refl _) _) (Nat.le_refl _) _ : Below w1.heap.size w1 _).mono b1.size)))
    clear b1 h1 HF CG HV HR HL HB
    go_wp2_with (refine wpList_store_row (by rfl) 31 (.tmp 4) (.tmp 9) (by rfl) w1.heap.size (pkNil PK.zeroPk) (by rfl) (by rfl) 31 (pkNil PK.zeroPk) Z1.out pk_info rfl O1.out ?_)
    go_ret
    exact ⟨rfl, fun h => absurd h HC.out, fun _ => HN.out⟩
end Go.Proofs.YtlfgndhdifpngaaGreatDoor
namespace Go.Proofs.YtlfgndhdifpngaaGreatDoor
open Go.RowKit Go.Shelf
attribute [local go_sem ↓] Go.wp_at_zero Go.wp_at_succ

theorem own_kp {r B : Nat} {e : TypeId} {k : Nat} {v : Value} {n : Nat} {xs : List Value} {w w' : World} (h : w.ownsRow B e k v n xs) (hk : Kp r w w') (hr : r < B) (he : e ≠ 5) : w'.ownsRow B e k v n xs := by
  refine ⟨h.1, ?_⟩
  rcases h.2 with hn | ⟨g, cap, cur, hv, hb, hg, rest⟩
  · exact .inl hn
  · exact .inr ⟨g, cap, cur, hv, hb, hk.block hg (by omega) he, rest⟩
theorem PkRow.kp {r B : Nat} {v : Value} {L : List Pv} {w w' : World} (h : PkRow B v L w) (hk : Kp r w w') (hr : r < B) : PkRow B v L w' :=
  ⟨own_kp h.row hk hr (by decide), fun x hx => ⟨own_kp (h.own x hx).codes hk hr (by decide), own_kp (h.own x hx).props hk hr (by decide), own_kp (h.own x hx).wprops hk hr (by decide), own_kp (h.own x hx).subs hk hr (by decide), own_kp (h.own x hx).filters hk hr (by decide)⟩⟩
theorem Fd.code {r : Nat} {m : Int} {l : List UInt8} {c : Int} {w : World} (h : Fd r m l c w) (c' : Int) : Fd r m l c' (w.setCell ⟨r, 3, none⟩ (.int .u8 c')) := by
  rcases h with ⟨v, h1, h2, h3⟩ | ⟨v, h1, h2, h3⟩
  · exact .inl ⟨v, set_block h1 rfl, ownF_set h2 h3, h3⟩
  · exact .inr ⟨v, set_block h1 rfl, ownF_set h2 h3, h3⟩
theorem Fd.most {r : Nat} {m : Int} {l : List UInt8} {c : Int} {w : World} (h : Fd r m l c w) : w.cell? ⟨r, 0, none⟩ = some (.int .i64 m) ∧ w.cell? ⟨r, 3, none⟩ = some (.int .u8 c) ∧ w.frozen? ⟨r, 3, none⟩ = false := by
  rcases h with ⟨v, h1, _, _⟩ | ⟨v, h1, _, _⟩
  · exact ⟨by rw [cell_heap h1]; rfl, by rw [cell_heap h1]; rfl, frozen_heap h1⟩
  · exact ⟨by rw [cell_heap h1]; rfl, by rw [cell_heap h1]; rfl, frozen_heap h1⟩
theorem kp_of_below {r B : Nat} {w w' : World} (hr : r ≤ B) (hB : B ≤ w.heap.size) (h : Below w.heap.size w w') : Kp r w w' := Kp.of_below (by omega) h
theorem feed1_enters (args : Array Value) (W : World) : (callFunc 34 args).run Tryz.prog W = .ok (.enter 34 args) W :=
  enters_of Tryz.func34 (by kernel_rfl) rfl args W

namespace ST
/-- What a reader with the bytes U tells: the packets' bytes, the place behind them, the code. -/
def fed (m : Int) (U : ByteArray) : List ByteArray × Nat × Int := thr U m (fun b => (PK.getPk b).2) (U.size + 1) 0
/-- What is left of them. -/
def left (m : Int) (U : ByteArray) : List UInt8 := if (fed m U).2.2 ≠ 0 then [] else (U.extract (fed m U).2.1 U.size).data.toList
theorem fed_le (m : Int) (U : ByteArray) : (fed m U).2.1 ≤ U.size := by
  have : ∀ (u a : Nat), a ≤ U.size → (thr U m (fun b => (PK.getPk b).2) u a).2.1 ≤ U.size := by
    intro u
    induction u with
    | zero => intro a h; exact h
    | succ u ih =>
      intro a h
      rw [thr]
      split
      · rename_i h1
        obtain ⟨k, hk, hk1, hk2⟩ := first_ok _ _ h1
        rw [ByteArray.size_extract] at hk2
        rw [hk]
        simp only [Int.toNat_natCast]
        split
        · exact ih (a + k) (by omega)
        · exact h
      · exact h
  exact this _ _ (Nat.zero_le _)
end ST
/-- What Feed answers. -/
def FeP (r : Nat) (m : Int) (U : ByteArray) (w : World) (e : Ending) (w' : World) : Prop :=
  ∃ v L, e = .returned (.tuple #[v, .int .u8 (ST.fed m U).2.2]) ∧ PkRow w.heap.size v L w' ∧ L.map Pv.p = (ST.fed m U).1.map (fun b => (PK.getPk b).1) ∧ Fd r m (ST.left m U) (ST.fed m U).2.2 w' ∧ Kp r w w'

set_option maxRecDepth 100000 in
set_option maxHeartbeats 2000000 in
theorem feed_nil (s : ByteArray) (w : World) : Calls Tryz.prog 12 #[.pointer none, .string s] w fun e w' => e = .returned (.tuple #[.slice none 0 0, .int .u8 128]) ∧ w = w' := by
  go_enter Tryz.func12, Tryz.ntmps12
  go_wp2
  go_ret2
  exact ⟨rfl, rfl⟩
set_option maxRecDepth 100000 in
set_option maxHeartbeats 2000000 in
theorem feed_over (r : Nat) (m : Int) (l : List UInt8) (c : Int) (s : ByteArray) (w : World) (hc : c ≠ 0) (h : Fd r m l c w) :
    Calls Tryz.prog 12 #[.pointer (some ⟨r, 0, none⟩), .string s] w fun e w' => e = .returned (.tuple #[.slice none 0 0, .int .u8 c]) ∧ Below w.heap.size w w' := by
  obtain ⟨_, q3, _⟩ := h.most
  have hne : (c != 0) = true := by rw [bne_iff_ne]; exact hc
  clear h hc
  go_enter Tryz.func12, Tryz.ntmps12
  go_wp2_with fail
  go_quiet (fail)
  go_wp2
  go_ret2
  exact ⟨rfl, drewN_below _ _ _⟩

set_option maxRecDepth 100000 in
set_option maxHeartbeats 2000000 in
theorem feed_any (r : Nat) (m : Int) (l : List UInt8) (s : ByteArray) (w : World) (h : Fd r m l 0 w) (hsz : l.length + s.size ≤ 1900000) (hT : ∀ W, Below r w W → Tabs W) :
    Calls Tryz.prog 12 #[.pointer (some ⟨r, 0, none⟩), .string s] w (FeP r m ⟨(l ++ s.data.toList).toArray⟩ w) := by
  have hmf : ∀ (fn : Fn) (first cap : Array Value) (w : World), (Instr.makeFunc fn first cap).run Tryz.prog w = .ok (.func fn first cap) w := fun _ _ _ _ => rfl
  have hlt := h.lt
  obtain ⟨_, q3, _⟩ := h.most
  have C1 := Lib.hid (fwrite_any r m l 0 s w h (by omega))
  have hUs : (⟨(l ++ s.data.toList).toArray⟩ : ByteArray).size ≤ 1900000 := by
    show (l ++ s.data.toList).toArray.size ≤ _
    have : s.data.toList.length = s.size := by rw [Array.length_toList]; rfl
    simp; omega
  have hUl : ∀ L : List UInt8, L = l ++ s.data.toList → L = (⟨L.toArray⟩ : ByteArray).data.toList := fun L _ => by simp
  generalize l ++ s.data.toList = l2 at *
  obtain ⟨U, hU⟩ : ∃ U : ByteArray, U = ⟨l2.toArray⟩ := ⟨_, rfl⟩
  rw [← hU] at hUs ⊢
  have HU := Lib.hid hU
  have HTb := Lib.hid hT
  clear hU hT hUl h
  go_enter Tryz.func12, Tryz.ntmps12
  go_wp2_with fail
  refine C1.out.mono ?_
  rintro e w1 ⟨rfl, h1, k1⟩
  have C2 := Lib.hid (fstring_any r m l2 0 w1 h1)
  have K1 := Lib.hid k1
  clear h1 k1 C1 q3
  rw [← HU.out] at C2
  go_wp2_with fail
  refine C2.out.mono ?_
  rintro e w2 ⟨rfl, h2, k2⟩
  have K2 := Lib.hid (K1.out.trans k2)
  have hlt2 := h2.lt
  have hal := (Below.refl w2.heap.size w2).alloc (Nat.le_refl _) (.cells #[.slice none 0 0] 51)
  have h3 := h2.below hal
  obtain ⟨q0, _, _⟩ := h3.most
  have I0 : FoI w2.heap.size w2 [] (w2.alloc (.cells #[.slice none 0 0] 51)) := ⟨_, [], heap_alloc_new w2 _, ⟨own_nil _ _ _ _, fun x hx => by cases hx⟩, rfl, by simp, hal⟩
  have CT := Lib.hid (through_any 34 #[.pointer (some ⟨w2.heap.size, 0, none⟩)] (fun b => (PK.getPk b).2) (FoI w2.heap.size w2) U m (by omega) feed1_enters
    (fun l a k W hI hl2 hk1 hk2 => feed1_any w2.heap.size w2 l (U.extract a (a + k)) (by rw [ByteArray.size_extract]; omega) (by omega) (fun W' hW' => HTb.out W' (K2.out.1.trans (hW'.mono (by omega)))) W hI) _ I0)
  have hle := ST.fed_le m U
  have HLf : Hid (ST.left m U = if (ST.fed m U).2.2 ≠ 0 then [] else (U.extract (ST.fed m U).2.1 U.size).data.toList) := Lib.hid rfl
  rw [show ST.thr U m (fun b => (PK.getPk b).2) (U.size + 1) 0 = ST.fed m U from rfl] at CT
  obtain ⟨ls, a, c, hX⟩ : ∃ ls a c, ST.fed m U = (ls, a, c) := ⟨_, _, _, rfl⟩
  have FIN : Hid (∀ e w', (∃ v L, e = .returned (.tuple #[v, .int .u8 c]) ∧ PkRow w.heap.size v L w' ∧ L.map Pv.p = ls.map (fun b => (PK.getPk b).1) ∧ Fd r m (ST.left m U) c w' ∧ Kp r w w') → FeP r m U w e w') := Lib.hid (by unfold FeP; rw [hX]; exact fun _ _ h => h)
  rw [hX] at CT hle HLf
  simp only at CT hle HLf
  clear hX
  have H2 := Lib.hid h2
  clear h2 k2 C2 hal h3 I0 K1
  go_wp2_with fail
  refine CT.out.mono ?_
  rintro e w4 ⟨rfl, v, L, hv, hrow, hmap, hp1, hbe⟩
  have h4 := H2.out.below hbe
  obtain ⟨_, q3, f3⟩ := h4.most
  have h5 := h4.code c
  have K5 : Kp r w (w4.setCell ⟨r, 3, none⟩ (.int .u8 c)) := (K2.out.trans (Kp.of_below (Nat.le_of_lt hlt2) hbe)).setCell 3 _
  have v5 : (w4.setCell ⟨r, 3, none⟩ (.int .u8 c)).heap[w2.heap.size]? = some (.cells #[v] 51 (0, 0)) := (Below.heap_setCell _ _ _ _ (fun e => by simp at e; omega)).trans hv
  have r5 : PkRow (w2.heap.size + 1) v L (w4.setCell ⟨r, 3, none⟩ (.int .u8 c)) := hrow.set (by omega)
  have hz := K2.out.1.size
  obtain ⟨ao, co, rfl⟩ := own_form hrow.row
  have H5 := Lib.hid h5; have HK5 := Lib.hid K5; have V5 := Lib.hid v5; have R5 := Lib.hid r5; have HM := Lib.hid hmap
  clear h4 h5 K5 v5 r5 hmap hrow hv hbe CT H2 K2 hp1
  by_cases hc : c = 0
  · subst hc
    have EL : Hid (ST.left m U = (U.extract a U.size).data.toList) := Lib.hid (by rw [HLf.out, if_neg (by decide)])
    clear HLf
    by_cases ha : a = 0
    · subst ha
      have q6 := cell_of_one V5.out
      go_wp2_with fail
      go_ret2
      refine FIN.out _ _ ⟨_, L, rfl, R5.out.base (by omega), HM.out, ?_, HK5.out⟩
      rw [EL.out, HU.out]
      have := H5.out
      simpa using this
    · have hapos : (0 : Int) < (a : Int) := by omega
      have CR := Lib.hid (freset_any r m l2 0 _ H5.out)
      go_wp2_with fail
      refine CR.out.mono ?_
      rintro e w6 ⟨rfl, h6, k6⟩
      have hsl := st_from U a hle
      have CW := Lib.hid (fun W (hW : Below w6.heap.size w6 W) => fwrite_any r m [] 0 (U.extract a U.size) W (h6.below hW) (by rw [ByteArray.size_extract]; simp; omega))
      have K6 := Lib.hid (HK5.out.trans k6)
      have V6 := Lib.hid (k6.block V5.out (by omega) (by decide))
      have R6 := Lib.hid (R5.out.kp k6 (by omega))
      have hl6 := h6.lt
      clear CR h6 k6 H5 HK5 V5 R5
      go_wp2_with fail
      go_region_with
        (go_at_call 31
         refine (CW.out _ (Below.drew (Below.refl _ w6))).mono ?_
         rintro e w7 ⟨rfl, h7, k7⟩)
      all_goals
        have k7' := Kp.drew k7
        have V7 := Lib.hid (k7'.block V6.out (by omega) (by decide))
        have R7 := Lib.hid (R6.out.kp k7' (by omega))
        have K7 := Lib.hid (K6.out.trans k7')
        have H7 := Lib.hid h7
        have q7 := cell_of_one V7.out
        clear h7 k7 k7' V6 R6 K6 CW
        go_wp2_with fail
        go_ret2
        exact FIN.out _ _ ⟨_, L, rfl, R7.out.base (by omega), HM.out, by rw [EL.out]; simpa using H7.out, K7.out⟩
  · have hne : (c != 0) = true := by rw [bne_iff_ne]; exact hc
    have EL : Hid (ST.left m U = []) := Lib.hid (by rw [HLf.out, if_pos hc])
    have CR := Lib.hid (freset_any r m l2 c _ H5.out)
    clear HLf hc
    go_wp2_with fail
    refine CR.out.mono ?_
    rintro e w6 ⟨rfl, h6, k6⟩
    have K6 := Lib.hid (HK5.out.trans k6)
    have V6 := Lib.hid (k6.block V5.out (by omega) (by decide))
    have R6 := Lib.hid (R5.out.kp k6 (by omega))
    have H6 := Lib.hid h6
    have q7 := cell_of_one V6.out
    clear CR h6 k6 H5 HK5 V5 R5
    go_wp2_with fail
    go_ret2
    exact FIN.out _ _ ⟨_, L, rfl, R6.out.base (by omega), HM.out, by rw [EL.out]; exact H6.out, K6.out⟩
end Go.Proofs.YtlfgndhdifpngaaGreatDoor
namespace Go.Proofs.YtlfgndhdifpngaaGreatDoor
namespace ST
/-- The place, from a place on. -/
theorem thr_at (s : ByteArray) (m : Int) (f : ByteArray → Int) (b : Nat) : ∀ (u a : Nat), (thr s m f u (b + a)).2.1 = b + (thr (s.extract b s.size) m f u a).2.1
  | 0, a => rfl
  | u + 1, a => by
    have hz : (s.extract b s.size).size = s.size - b := by rw [ByteArray.size_extract]; omega
    have e1 : (s.extract b s.size).extract a (s.extract b s.size).size = s.extract (b + a) s.size := by
      rw [hz, ByteArray.extract_extract]; congr 1; omega
    rw [thr, thr, e1]
    by_cases hf : (first (s.extract (b + a) s.size) m).2 = 0
    · obtain ⟨k, hk, hk1, hk2⟩ := first_ok _ _ hf
      rw [ByteArray.size_extract] at hk2
      rw [hk]
      simp only [Int.toNat_natCast, if_true]
      have e2 : (s.extract b s.size).extract a (a + k) = s.extract (b + a) (b + a + k) := by
        rw [ByteArray.extract_extract]; congr 1; omega
      rw [e2]
      have ih := thr_at s m f b u (a + k)
      rw [show b + (a + k) = b + a + k by omega] at ih
      split
      · exact ih
      · rfl
    · rw [if_neg hf, if_neg hf]
theorem first_put (P : Pk) (hc : PK.putC P = 0) : first (PK.putS P) 65541 = ((((PK.putS P).size : Nat) : Int), (0 : Int)) := by
  obtain ⟨m, b, i1, i2, i3, i4, i5, i6, _⟩ := PK.getPk_inv (PK.put_read P hc).1
  have h := PK.len_mono (n := m) (m := 65536) i4 (Nat.le_refl _)
  have e : (strOfNums (VP.putL ((65536 : Nat) : Int))).size = 3 := by decide +kernel
  unfold first
  rw [if_neg (by omega), i3]
  simp only [ne_eq, not_true_eq_false, if_false]
  rw [if_neg (by omega), if_neg (by omega)]
  congr 1
  omega
theorem first_cut (P : Pk) (hc : PK.putC P = 0) (k : Nat) (hk : k < (PK.putS P).size) : (first ((PK.putS P).extract 0 k) 65541).2 = 242 := by
  obtain ⟨m, b, i1, i2, i3, i4, i5, i6, _⟩ := PK.getPk_inv (PK.put_read P hc).1
  have h := PK.len_mono (n := m) (m := 65536) i4 (Nat.le_refl _)
  have e : (strOfNums (VP.putL ((65536 : Nat) : Int))).size = 3 := by decide +kernel
  have hs : ((PK.putS P).extract 0 k).size = k := by rw [ByteArray.size_extract]; omega
  have hb := PK.beg_cut (PK.putS P) k
  by_cases h0 : k = 0
  · unfold first; rw [if_pos (by omega)]
  · by_cases hg : (VP.get ((PK.putS P).extract 0 k) 1).2.2 = 242
    · unfold first
      rw [if_neg (by omega), if_pos (by rw [hg]; decide)]
      exact hg
    · have e1 := get_keeps hb 1 (by omega) hg
      have e' : VP.get ((PK.putS P).extract 0 k) 1 = ((m : Int), (b : Int), 0) := e1.symm.trans i3
      unfold first
      rw [if_neg (by omega), e']
      simp only [ne_eq, not_true_eq_false, if_false]
      rw [if_neg (by omega), if_pos (by omega)]
theorem first_empty {t : ByteArray} (h : t.size = 0) : (first t 65541).2 = 242 := by unfold first; rw [if_pos h]
theorem app_drop (X Y : ByteArray) : (X ++ Y).extract X.size (X ++ Y).size = Y := by
  apply ByteArray.ext_getElem
  · rw [ByteArray.size_extract, ByteArray.size_append]; omega
  · intro i h1 h2
    rw [ByteArray.getElem_extract, ByteArray.getElem_append_right (by omega)]
    congr 1
    omega
theorem app_take (X Y : ByteArray) : (X ++ Y).extract 0 X.size = X := by
  apply ByteArray.ext_getElem
  · rw [ByteArray.size_extract, ByteArray.size_append]; omega
  · intro i h1 h2
    rw [ByteArray.getElem_extract]
    simp only [Nat.zero_add]
    exact ByteArray.getElem_append_left h2
theorem whole (X : ByteArray) : X.extract 0 X.size = X := by simp
theorem fed_cons (P : Pk) (hc : PK.putC P = 0) (U : ByteArray) : fed 65541 (PK.putS P ++ U) = (PK.putS P :: (fed 65541 U).1, (PK.putS P).size + (fed 65541 U).2.1, (fed 65541 U).2.2) := by
  have hf : first (PK.putS P ++ U) 65541 = ((((PK.putS P).size : Nat) : Int), (0 : Int)) := by
    rw [← first_put P hc]
    exact first_keeps (PK.beg_app _ _) 65541 (by rw [first_put P hc]; show (0 : Int) ≠ 242; decide)
  have hr := (PK.put_read P hc).1
  have hpos : 2 ≤ (PK.putS P).size := by
    obtain ⟨k, hk, hk1, hk2⟩ := first_ok (PK.putS P) 65541 (by rw [first_put P hc])
    omega
  have ht := app_take (PK.putS P) U
  have hd := app_drop (PK.putS P) U
  have hz : (PK.putS P ++ U).size = (PK.putS P).size + U.size := ByteArray.size_append
  generalize PK.putS P = b at *
  unfold fed
  rw [thr, whole, hf]
  simp only [Int.toNat_natCast, if_true, Nat.zero_add]
  rw [ht, if_pos hr]
  have h1 := thr_drop (b ++ U) 65541 (fun b => (PK.getPk b).2) b.size (b ++ U).size 0
  have h2 := thr_at (b ++ U) 65541 (fun b => (PK.getPk b).2) b.size (b ++ U).size 0
  rw [hd, Nat.add_zero] at h1 h2
  rw [thr_fuel U 65541 (fun b => (PK.getPk b).2) (b ++ U).size (U.size + 1) 0 (by omega) (by omega) (by omega)] at h1 h2
  exact Prod.ext (by simp only; rw [h1.1]) (Prod.ext (by simp only; rw [h2]) (by simp only; rw [h1.2]))
theorem fed_tail {t : ByteArray} (ht : (first t 65541).2 = 242) : fed 65541 t = ([], 0, 0) := by
  unfold fed
  rw [thr, whole, if_neg (by rw [ht]; decide), if_pos ht]
/-- The bytes of packets, one behind the other. -/
def cat : List ByteArray → ByteArray
  | [] => ⟨#[]⟩
  | x :: l => x ++ cat l
theorem cat_snoc : ∀ (l : List ByteArray) (x : ByteArray), cat (l ++ [x]) = cat l ++ x
  | [], x => by simp only [List.nil_append, cat]; apply ByteArray.ext; simp
  | y :: l, x => by simp only [List.cons_append, cat]; rw [cat_snoc l x, ByteArray.append_assoc]
theorem cat_size (l : List ByteArray) (n : Nat) (h : ∀ x ∈ l, x.size ≤ n) : (cat l).size ≤ l.length * n := by
  induction l with
  | nil => exact Nat.zero_le _
  | cons x l ih =>
    have h1 := h x (by simp)
    have h2 := ih (fun y hy => h y (by simp [hy]))
    rw [cat, ByteArray.size_append, List.length_cons, Nat.succ_mul]
    omega
theorem fed_all (l : List Pk) (h : ∀ P ∈ l, PK.putC P = 0) (t : ByteArray) (ht : (first t 65541).2 = 242) :
    fed 65541 (cat (l.map PK.putS) ++ t) = (l.map PK.putS, (cat (l.map PK.putS)).size, 0) := by
  induction l with
  | nil =>
    have e : cat (List.map PK.putS []) ++ t = t := by apply ByteArray.ext; simp [cat]
    rw [e, fed_tail ht]; rfl
  | cons P l ih =>
    have h2 := ih (fun y hy => h y (by simp [hy]))
    have e : cat (List.map PK.putS (P :: l)) ++ t = PK.putS P ++ (cat (l.map PK.putS) ++ t) := by simp only [List.map_cons, cat]; rw [ByteArray.append_assoc]
    rw [e, fed_cons P (h P (by simp)), h2]
    simp only [List.map_cons, cat, ByteArray.size_append]
theorem left_all (l : List Pk) (h : ∀ P ∈ l, PK.putC P = 0) (t : ByteArray) (ht : (first t 65541).2 = 242) : left 65541 (cat (l.map PK.putS) ++ t) = t.data.toList := by
  unfold left
  rw [fed_all l h t ht, if_neg (fun e => e rfl), app_drop]
end ST
namespace PK
/-- Those that have bytes. -/
def kept (l : List Pk) : List Pk := l.filter (fun P => putC P == 0)
theorem kept_yes (l : List Pk) {P : Pk} (h : putC P = 0) : kept (l ++ [P]) = kept l ++ [P] := by unfold kept; rw [List.filter_append]; simp [h]
theorem kept_no (l : List Pk) {P : Pk} (h : putC P ≠ 0) : kept (l ++ [P]) = kept l := by unfold kept; rw [List.filter_append]; simp [h]
theorem kept_mem {l : List Pk} {P : Pk} (h : P ∈ kept l) : putC P = 0 := by
  unfold kept at h
  have := (List.mem_filter.1 h).2
  simpa using this
theorem kept_len (l : List Pk) : (kept l).length ≤ l.length := List.length_filter_le _ _
end PK
end Go.Proofs.YtlfgndhdifpngaaGreatDoor
namespace Go.Proofs.YtlfgndhdifpngaaGreatDoor

namespace PK
theorem getG_zero (s : ByteArray) (k : Nat) : ∀ (u i : Nat) (n : Int), (VP.getG s k u i n).2.2 ≠ 0 → (VP.getG s k u i n).1 = 0
  | 0, _, _, _ => by rw [VP.getG_0]
  | u + 1, i, n, h => by
    rw [VP.getG] at h ⊢
    split
    · rename_i h1
      rw [dif_pos h1] at h
      split
      · rename_i h2
        rw [if_pos h2] at h
        split
        · rename_i h3
          rw [if_pos h3] at h
          exact absurd rfl h
        · rfl
      · rename_i h2
        rw [if_neg h2] at h
        exact getG_zero s k u (i + 1) _ h
    · rfl
theorem get_le (s : ByteArray) (a : Int) : (VP.get s a).1 ≤ 268435455 := by
  by_cases ho : a < 0 ∨ (s.size : Int) < a
  · rw [VP.get_out s a ho]; decide
  · obtain ⟨k, rfl⟩ := Int.eq_ofNat_of_zero_le (show 0 ≤ a by omega)
    by_cases hc : (VP.get s (k : Int)).2.2 = 0
    · obtain ⟨x, m, _, _, h3, h4, _, h6, _⟩ := VP.get_inv s k (by omega) hc
      rw [h6]; exact h4
    · rw [VP.get_in s k (by omega)] at hc ⊢
      rw [getG_zero s k 4 0 0 hc]; decide
theorem dat_le (s : ByteArray) (a : Int) : (VP.dat s a).1.size ≤ s.size := by
  unfold VP.dat
  split
  · split
    · exact Nat.zero_le _
    · simp only; rw [ByteArray.size_extract]; omega
  · exact Nat.zero_le _
theorem getT_le (s : ByteArray) (a : Int) : (TX.getT s a).1.size ≤ s.size := by
  unfold TX.getT
  split
  · exact Nat.zero_le _
  · split
    · exact Nat.zero_le _
    · exact dat_le s a
theorem rdv_fine (T : ByteArray) (p id : Int) (hT : T.size ≤ 140737488351232) : Fine (PR.rdv T p id).1 := by
  have z : (ByteArray.mk #[]).size = 0 := rfl
  have g1 := PR.get_nn T p
  have g2 := get_le T p
  have d1 := dat_le T p
  have t1 := getT_le T p
  have t2 := getT_le T (TX.getT T p).2.1
  have r1 := rd_nn T p (PR.wd (PR.kd id))
  unfold PR.rdv
  repeat' split
  all_goals
    refine ⟨⟨?_, ?_⟩, ?_, ?_⟩ <;> simp only [z] <;> omega
theorem g1_fine (T : ByteArray) (p : Int) (out : List Pr) (hT : T.size ≤ 140737488351232) (h : (PR.g1 T p out).2.2 = 0) : Fine (PR.g1 T p out).1 := by
  unfold PR.g1 at h ⊢
  split at h
  · exact absurd h (by simp)
  · rename_i c1
    rw [if_neg c1]
    split at h
    · exact absurd h (by simp)
    · rename_i c2
      rw [if_neg c2]
      split at h
      · rename_i c3; exact absurd h c3
      · rename_i c3
        rw [if_neg c3]
        split at h
        · exact absurd h (by simp)
        · rename_i c4
          rw [if_neg c4]
          exact rdv_fine _ _ _ hT
theorem gl_fine (U : ByteArray) (hU : U.size ≤ 140737488351232) : ∀ (u : Nat) (p : Int) (out : List Pr), (∀ q ∈ out, Fine q) → ∀ q ∈ (PR.gl U u p out).1, Fine q
  | 0, _, _, _ => by intro q hq; simp [PR.gl] at hq
  | u + 1, p, out, ho => by
    rw [PR.gl]
    split
    · exact ho
    · split
      · intro q hq; simp at hq
      · rename_i h1
        refine gl_fine U hU u _ _ ?_
        intro q hq
        rcases List.mem_append.1 hq with hq | hq
        · exact ho q hq
        · simp at hq; subst hq; exact g1_fine U p out hU (Classical.not_not.1 h1)
theorem getL_fine (s : ByteArray) (a : Int) (hs : s.size ≤ 140737488351232) : ∀ q ∈ (PR.getL s a).1, Fine q := by
  unfold PR.getL
  repeat' split
  all_goals first
    | (intro q hq; simp at hq; done)
    | exact gl_fine _ (by rw [ByteArray.size_extract]; omega) 66 0 [] (fun q hq => by cases hq)
end PK
/-- A packet whose every part a machine can hold. -/
structure PkF (P : Pk) : Prop where
  fine : PkFine P
  pr : P.props.length ≤ 100 ∧ ∀ p ∈ P.props, Fine p
  wpr : P.wprops.length ≤ 100 ∧ ∀ p ∈ P.wprops, Fine p
namespace PK
theorem and3 (n : Int) (h0 : 0 ≤ n) (h1 : n ≤ 255) : 0 ≤ bits .and .i64 n 3 ∧ bits .and .i64 n 3 ≤ 3 := by
  obtain ⟨k, rfl⟩ := Int.eq_ofNat_of_zero_le h0
  have h : ∀ k : Fin 256, 0 ≤ bits .and .i64 ((k.val : Nat) : Int) 3 ∧ bits .and .i64 ((k.val : Nat) : Int) 3 ≤ 3 := by decide +kernel
  exact h ⟨k, by omega⟩
theorem i64_of {n : Int} (h0 : 0 ≤ n) (h1 : n ≤ 4294967295) : I64 n := ⟨by omega, by omega⟩
theorem bnd_f {α : Type} {P : Pk} {x : α × Int × Int} {f : α → Int → Pk × Int × Int} (hP : PkF P) (h : PkF (f x.1 x.2.1).1) : PkF (bnd P x f).1 := by
  unfold bnd
  split
  · exact hP
  · exact h
theorem rdPr_f (s : ByteArray) (a k : Int) (hs : s.size ≤ 140737488351232) : (rdPr s a k).1.length ≤ 100 ∧ ∀ p ∈ (rdPr s a k).1, Fine p :=
  ⟨by have := (PR.getL_facts s a).2.2; show (PR.getL s a).1.length ≤ 100; omega, getL_fine s a hs⟩
theorem lst_le {α : Type} (rd : Int → α × Int × Int) (sz : Nat) : ∀ (u : Nat) (a : Int) (out : List α), out.length ≤ 64 → (lst rd sz u a out).1.length ≤ 64
  | 0, _, _, _ => by simp [lst]
  | u + 1, a, out, h => by
    rw [lst]
    split
    · split
      · simp
      · exact h
    · split
      · simp
      · split
        · simp
        · exact lst_le rd sz u _ _ (by simp; omega)
theorem lst_all {α : Type} (rd : Int → α × Int × Int) (sz : Nat) (p : α → Prop) (hp : ∀ a, p (rd a).1) : ∀ (u : Nat) (a : Int) (out : List α), (∀ x ∈ out, p x) → ∀ x ∈ (lst rd sz u a out).1, p x
  | 0, _, _, _ => by intro x hx; simp [lst] at hx
  | u + 1, a, out, h => by
    rw [lst]
    split
    · split
      · intro x hx; simp at hx
      · exact h
    · split
      · intro x hx; simp at hx
      · split
        · intro x hx; simp at hx
        · refine lst_all rd sz p hp u _ _ ?_
          intro x hx
          rcases List.mem_append.1 hx with hx | hx
          · exact h x hx
          · simp at hx; subst hx; exact hp a
end PK
end Go.Proofs.YtlfgndhdifpngaaGreatDoor
namespace Go.Proofs.YtlfgndhdifpngaaGreatDoor
open Go.RowKit

namespace PK
theorem rdC_u8 (s : ByteArray) (a : Int) : 0 ≤ (rdC s a).1 ∧ (rdC s a).1 ≤ 255 := ⟨(rd_nn s a 1).1, rd_1le s a⟩
theorem rdSub_f (s : ByteArray) (hs : s.size ≤ 140737488351232) (a : Int) : SbFine (rdSub s a).1 := by
  have h1 := getT_le s a
  have h2 := rd_nn s (TX.getT s a).2.1 1
  have h3 := rd_1le s (TX.getT s a).2.1
  have b1 := and3 _ h2.1 h3
  have b2 := and3 ((VP.rd s (TX.getT s a).2.1 1).1 / 16) (by omega) (by omega)
  exact ⟨Nat.le_trans h1 hs, ⟨by show _ ≤ bits .and .i64 _ 3; omega, by show bits .and .i64 _ 3 ≤ _; omega⟩, ⟨by show _ ≤ bits .and .i64 _ 3; omega, by show bits .and .i64 _ 3 ≤ _; omega⟩⟩
theorem rdN_i (s : ByteArray) (a wd : Int) : I64 (rdN s a wd).1 := i64_of (rd_nn s a wd).1 (rd_nn s a wd).2
theorem rdId_i (s : ByteArray) (a : Int) : I64 (rdId s a).1 := i64_of (rd_nn s a 2).1 (rd_nn s a 2).2
theorem rdT_s (s : ByteArray) (hs : s.size ≤ 140737488351232) (a : Int) : Short (rdT s a).1 := Nat.le_trans (getT_le s a) hs
theorem rdD_s (s : ByteArray) (hs : s.size ≤ 140737488351232) (a : Int) : Short (rdD s a).1 := Nat.le_trans (dat_le s a) hs
section
variable {s : ByteArray} (hs : s.size ≤ 140737488351232)
include hs
theorem rdPass_f' (a : Int) (P : Pk) (h : PkF P) : PkF (rdPass s a P).1 := by
  unfold rdPass
  split
  · refine bnd_f h ?_
    obtain ⟨⟨k1, k2, k3, k4, k5, k6, k7, k8, k9, k10, k11, k12, k13, k14, k15, k16⟩, p1, p2⟩ := h
    exact ⟨⟨k1, k2, k3, k4, k5, k6, k7, k8, k9, k10, k11, k12, rdD_s s hs a, k14, k15, k16⟩, p1, p2⟩
  · exact h
theorem rdUser_f' (a : Int) (P : Pk) (h : PkF P) : PkF (rdUser s a P).1 := by
  unfold rdUser
  split
  · refine bnd_f h (rdPass_f' hs _ _ ?_)
    obtain ⟨⟨k1, k2, k3, k4, k5, k6, k7, k8, k9, k10, k11, k12, k13, k14, k15, k16⟩, p1, p2⟩ := h
    exact ⟨⟨k1, k2, k3, k4, k5, k6, k7, k8, k9, k10, k11, rdT_s s hs a, k13, k14, k15, k16⟩, p1, p2⟩
  · exact rdPass_f' hs _ _ h
theorem rdWill_f' (a : Int) (P : Pk) (h : PkF P) : PkF (rdWill s a P).1 := by
  unfold rdWill
  split
  · refine bnd_f h (bnd_f h (bnd_f h (rdUser_f' hs _ _ ?_)))
    obtain ⟨⟨k1, k2, k3, k4, k5, k6, k7, k8, k9, k10, k11, k12, k13, k14, k15, k16⟩, p1, p2⟩ := h
    exact ⟨⟨k1, k2, k3, k4, k5, k6, k7, k8, rdT_s s hs _, rdD_s s hs _, k11, k12, k13, k14, k15, k16⟩, p1, rdPr_f s a 0 hs⟩
  · exact rdUser_f' hs _ _ h
theorem rdConn1_f (a : Int) (P : Pk) (h : PkF P) : PkF (rdConn1 s a P).1 := by
  unfold rdConn1
  refine bnd_f h (bnd_f h (bnd_f h (rdWill_f' hs _ _ ?_)))
  obtain ⟨⟨k1, k2, k3, k4, k5, k6, k7, k8, k9, k10, k11, k12, k13, k14, k15, k16⟩, p1, p2⟩ := h
  exact ⟨⟨k1, k2, k3, k4, k5, k6, rdT_s s hs _, rdN_i s _ 2, k9, k10, k11, k12, k13, k14, k15, k16⟩, rdPr_f s _ P.kind hs, p2⟩
theorem rdConn_f (a : Int) (P : Pk) (h : PkF P) : PkF (rdConn s a P).1 := by
  unfold rdConn
  refine bnd_f h ?_
  split
  · exact h
  · refine bnd_f h ?_
    split
    · exact h
    · refine bnd_f h (rdConn1_f hs _ _ ?_)
      have n0 := (rd_nn s (rdN s (rdT s a).2.1 1).2.1 1).1
      have n1 := rd_1le s (rdN s (rdT s a).2.1 1).2.1
      have b := and3 ((VP.rd s (rdN s (rdT s a).2.1 1).2.1 1).1 / 8) (by omega) (by omega)
      obtain ⟨⟨k1, k2, k3, k4, k5, k6, k7, k8, k9, k10, k11, k12, k13, k14, k15, k16⟩, p1, p2⟩ := h
      exact ⟨⟨k1, k2, k3, k4, k5, k6, k7, k8, k9, k10, i64_of b.1 (Int.le_trans b.2 (by decide)), k12, k13, k14, k15, k16⟩, p1, p2⟩
theorem rdEndP_f (a k : Int) (P : Pk) (h : PkF P) : PkF (rdEndP s a k P).1 := by
  obtain ⟨⟨k1, k2, k3, k4, k5, k6, k7, k8, k9, k10, k11, k12, k13, k14, k15, k16⟩, p1, p2⟩ := h
  have e : (0 ≤ (rdEnd s a k).1.1 ∧ (rdEnd s a k).1.1 ≤ 255) ∧ ((rdEnd s a k).1.2.length ≤ 100 ∧ ∀ p ∈ (rdEnd s a k).1.2, Fine p) := by
    unfold rdEnd
    repeat' split
    · exact ⟨⟨Int.le_refl 0, (by decide : (0 : Int) ≤ 255)⟩, by simp, fun p hp => by cases hp⟩
    · exact ⟨⟨Int.le_refl 0, (by decide : (0 : Int) ≤ 255)⟩, by simp, fun p hp => by cases hp⟩
    · exact ⟨rdC_u8 s a, by simp, fun p hp => by cases hp⟩
    · exact ⟨rdC_u8 s a, rdPr_f s _ k hs⟩
  exact ⟨⟨k1, k2, k3, k4, k5, e.1, k7, k8, k9, k10, k11, k12, k13, k14, k15, k16⟩, e.2, p2⟩
theorem partsK_f (k a : Int) (P : Pk) (h : PkF P) : PkF (partsK k s a P).1 := by
  unfold partsK
  split
  · exact rdConn_f hs a P h
  split
  · refine bnd_f h (bnd_f h (bnd_f h ?_))
    obtain ⟨⟨k1, k2, k3, k4, k5, k6, k7, k8, k9, k10, k11, k12, k13, k14, k15, k16⟩, p1, p2⟩ := h
    exact ⟨⟨k1, k2, k3, k4, k5, rdC_u8 s _, k7, k8, k9, k10, k11, k12, k13, k14, k15, k16⟩, rdPr_f s _ k hs, p2⟩
  split
  · obtain ⟨⟨k1, k2, k3, k4, k5, k6, k7, k8, k9, k10, k11, k12, k13, k14, k15, k16⟩, p1, p2⟩ := h
    refine ⟨⟨k1, k2, ?_, rdT_s s hs a, ?_, k6, k7, k8, k9, k10, k11, k12, k13, k14, k15, k16⟩, rdPr_f s _ k hs, p2⟩
    · show I64 (rdI s (rdT s a).2.1 P.qos P.id).1
      unfold rdI
      split
      · exact rdId_i s _
      · exact k3
    · show (s.extract _ s.size).size ≤ _
      rw [ByteArray.size_extract]; omega
  split
  · refine bnd_f h (bnd_f h ?_)
    obtain ⟨⟨k1, k2, k3, k4, k5, k6, k7, k8, k9, k10, k11, k12, k13, k14, k15, k16⟩, p1, p2⟩ := h
    exact ⟨⟨k1, k2, rdId_i s a, k4, k5, k6, k7, k8, k9, k10, k11, k12, k13, k14, ⟨Nat.le_trans (lst_le _ _ 66 _ [] (by simp)) (by decide), lst_all _ _ _ (rdSub_f s hs) 66 _ [] (fun x hx => by cases hx)⟩, k16⟩, rdPr_f s _ k hs, p2⟩
  split
  · refine bnd_f h (bnd_f h ?_)
    obtain ⟨⟨k1, k2, k3, k4, k5, k6, k7, k8, k9, k10, k11, k12, k13, k14, k15, k16⟩, p1, p2⟩ := h
    exact ⟨⟨k1, k2, rdId_i s a, k4, k5, k6, k7, k8, k9, k10, k11, k12, k13, k14, k15, ⟨Nat.le_trans (lst_le _ _ 66 _ [] (by simp)) (by decide), lst_all _ _ _ (rdT_s s hs) 66 _ [] (fun x hx => by cases hx)⟩⟩, rdPr_f s _ k hs, p2⟩
  split
  · refine bnd_f h (bnd_f h ?_)
    obtain ⟨⟨k1, k2, k3, k4, k5, k6, k7, k8, k9, k10, k11, k12, k13, k14, k15, k16⟩, p1, p2⟩ := h
    exact ⟨⟨k1, k2, rdId_i s a, k4, k5, k6, k7, k8, k9, k10, k11, k12, k13, ⟨Nat.le_trans (lst_le _ _ 66 _ [] (by simp)) (by decide), lst_all _ _ (fun c => 0 ≤ c ∧ c ≤ 255) (rdC_u8 s) 66 _ [] (fun x hx => by cases hx)⟩, k15, k16⟩, rdPr_f s _ k hs, p2⟩
  split
  · refine bnd_f h (rdEndP_f hs _ _ _ ?_)
    obtain ⟨⟨k1, k2, k3, k4, k5, k6, k7, k8, k9, k10, k11, k12, k13, k14, k15, k16⟩, p1, p2⟩ := h
    exact ⟨⟨k1, k2, rdId_i s a, k4, k5, k6, k7, k8, k9, k10, k11, k12, k13, k14, k15, k16⟩, p1, p2⟩
  split
  · exact rdEndP_f hs _ _ _ h
  · exact h
end
theorem bare_f (k : Int) (d r : Bool) (q : Int) (hk : I64 k) (hq : I64 q) : PkF (barePk k d r q) := by
  have z : Short (ByteArray.mk #[]) := Nat.zero_le _
  have i0 : I64 0 := ⟨by decide, by decide⟩
  exact ⟨⟨hk, hq, i0, z, z, ⟨(by decide : (0 : Int) ≤ 0), (by decide : (0 : Int) ≤ 255)⟩, z, i0, z, z, i0, z, z, ⟨Nat.zero_le _, fun c hc => by cases hc⟩, ⟨Nat.zero_le _, fun c hc => by cases hc⟩, ⟨Nat.zero_le _, fun c hc => by cases hc⟩⟩, ⟨Nat.zero_le _, fun c hc => by cases hc⟩, ⟨Nat.zero_le _, fun c hc => by cases hc⟩⟩
theorem begPk_f (n : Int) (h0 : 0 ≤ n) (h1 : n ≤ 255) : PkF (begPk n) := by
  unfold begPk
  split
  · have b := and3 (n % 16 / 2) (by omega) (by omega)
    exact bare_f _ _ _ _ ⟨by decide, by decide⟩ (i64_of b.1 (Int.le_trans b.2 (by decide)))
  · exact bare_f _ _ _ _ ⟨by omega, by omega⟩ ⟨by decide, by decide⟩
theorem b0_u8 (s : ByteArray) : 0 ≤ b0 s ∧ b0 s ≤ 255 := by
  unfold b0
  split
  · rename_i h
    have := VP.byte_lt s 0 h
    omega
  · exact ⟨by decide, by decide⟩
theorem getPk_f (s : ByteArray) (hs : s.size ≤ 140737488351232) : PkF (getPk s).1 := by
  have hz : PkF zeroPk := bare_f 0 false false 0 ⟨by decide, by decide⟩ ⟨by decide, by decide⟩
  unfold getPk
  repeat' split
  all_goals first
    | exact hz
    | exact partsK_f hs _ _ _ (begPk_f _ (b0_u8 s).1 (b0_u8 s).2)
end PK
theorem own_codes {w : World} {B : Nat} {A : Option Addr} {n cap : Nat} {l : List Int} (h : w.ownsRow B 23 1 (.slice A n cap) n (flatC l)) : Codes w A l := fun i x hx => by
  have hn : l.length = n := by simpa [flatC] using h.1
  have hi : i < l.length := (List.getElem?_eq_some_iff.1 hx).1
  obtain ⟨g, c', hv, hg, hg'⟩ := h.form (by omega)
  injection hv with hv _ _
  subst hv
  refine ⟨g, 0, rfl, hg', ?_⟩
  rw [Nat.zero_add, ← add0]
  exact h.cells (g := g) rfl i _ (by rw [flatC, List.getElem?_map, hx]; rfl)
theorem own_texts {w : World} {B : Nat} {A : Option Addr} {n cap : Nat} {l : List ByteArray} (h : w.ownsRow B 9 1 (.slice A n cap) n (flatT l)) : Texts w A l := fun i x hx => by
  have hn : l.length = n := by simpa [flatT] using h.1
  have hi : i < l.length := (List.getElem?_eq_some_iff.1 hx).1
  obtain ⟨g, c', hv, hg, hg'⟩ := h.form (by omega)
  injection hv with hv _ _
  subst hv
  refine ⟨g, 0, rfl, hg', ?_⟩
  rw [Nat.zero_add, ← add0]
  exact h.cells (g := g) rfl i _ (by rw [flatT, List.getElem?_map, hx]; rfl)
theorem flatB_at : ∀ (l : List Sb) (i : Nat) (s : Sb), l[i]? = some s → (flatB l)[i * 5]? = some (.string s.f) ∧ (flatB l)[i * 5 + 1]? = some (.int .i64 s.q) ∧ (flatB l)[i * 5 + 2]? = some (.bool s.nl) ∧ (flatB l)[i * 5 + 3]? = some (.bool s.ap) ∧ (flatB l)[i * 5 + 4]? = some (.int .i64 s.h)
  | [], i, s, h => by simp at h
  | x :: l, 0, s, h => by simp at h; subst h; simp [flatB, Sb.cells]
  | x :: l, i + 1, s, h => by
    have ih := flatB_at l i s (by simpa using h)
    have e : ∀ j, (flatB (x :: l))[(i + 1) * 5 + j]? = (flatB l)[i * 5 + j]? := fun j => by
      have : (i + 1) * 5 + j = 5 + (i * 5 + j) := by omega
      rw [this]
      simp only [flatB, List.flatMap_cons]
      rw [List.getElem?_append_right (by simp [Sb.cells])]
      simp [Sb.cells]
    have e0 := e 0
    simp only [Nat.add_zero] at e0
    rw [e0, e 1, e 2, e 3, e 4]
    exact ih
theorem own_subs {w : World} {B : Nat} {A : Option Addr} {n cap : Nat} {l : List Sb} (hn : l.length = n) (h : w.ownsRow B 77 5 (.slice A n cap) n (flatB l)) : Subs w A l := fun i x hx => by
  have hi : i < l.length := (List.getElem?_eq_some_iff.1 hx).1
  obtain ⟨g, c', hv, hg, hg'⟩ := h.form (by omega)
  injection hv with hv _ _
  subst hv
  obtain ⟨f0, f1, f2, f3, f4⟩ := flatB_at l i x hx
  refine ⟨g, 0, rfl, hg', ?_, ?_, ?_, ?_, ?_⟩
  · rw [Nat.zero_add, ← add0]; exact h.cells (g := g) rfl _ _ f0
  · rw [Nat.zero_add, ← add0]; exact h.cells (g := g) rfl _ _ f1
  · rw [Nat.zero_add, ← add0]; exact h.cells (g := g) rfl _ _ f2
  · rw [Nat.zero_add, ← add0]; exact h.cells (g := g) rfl _ _ f3
  · rw [Nat.zero_add, ← add0]; exact h.cells (g := g) rfl _ _ f4
/-- A packet that was read, as Put takes one. -/
theorem own5_in {B : Nat} {P : Pk} {vc vp vw vs vf : Value} {w : World} (h : Own5 B P vc vp vw vs vf w) (hf : PkF P) (hT : ∀ W, Below w.heap.size w W → Tabs W) : PkIn w.heap.size w P vc vp vw vs vf := by
  obtain ⟨A1, n1, rfl⟩ := own_form h.codes
  obtain ⟨A2, n2, rfl⟩ := own_form h.props
  obtain ⟨A3, n3, rfl⟩ := own_form h.wprops
  obtain ⟨A4, n4, rfl⟩ := own_form h.subs
  obtain ⟨A5, n5, rfl⟩ := own_form h.filters
  exact ⟨hf.fine, hT, ⟨A2, n2, rfl, fun W hW => ⟨(own_props h.props).below hW, hf.pr.1, own_cap h.props, own_capmax h.props, hf.pr.2⟩⟩, ⟨A3, n3, rfl, fun W hW => ⟨(own_props h.wprops).below hW, hf.wpr.1, own_cap h.wprops, own_capmax h.wprops, hf.wpr.2⟩⟩,
    ⟨A1, n1, rfl, fun W hW => (own_codes h.codes).below hW⟩, ⟨A4, n4, rfl, fun W hW => (own_subs rfl h.subs).below hW⟩, ⟨A5, n5, rfl, fun W hW => (own_texts h.filters).below hW⟩⟩
end Go.Proofs.YtlfgndhdifpngaaGreatDoor
namespace Go.Proofs.YtlfgndhdifpngaaGreatDoor
open Go.RowKit Go.ChangeShapes Go.WideShapes Go.Deep

/-- Numbers and texts of an argument. -/
structure XFine (p : Pk) : Prop where
  kind : I64 p.kind
  qos : I64 p.qos
  id : I64 p.id
  topic : Short p.topic
  pay : Short p.pay
  code : 0 ≤ p.code ∧ p.code ≤ 255
  client : Short p.client
  keep : I64 p.keep
  wtopic : Short p.wtopic
  wpay : Short p.wpay
  wqos : I64 p.wqos
  user : Short p.user
  pass : Short p.pass
  codes : ∀ c ∈ p.codes, 0 ≤ c ∧ c ≤ 255
  subs : ∀ s ∈ p.subs, SbFine s
  filters : ∀ s ∈ p.filters, Short s
  props : ∀ q ∈ p.props, Fine q
  wprops : ∀ q ∈ p.wprops, Fine q
/-- The argument's five rows. -/
structure ArgX (w : World) (X : Pk) (Ac Ap Aw As Af : Option Addr) (cc cp cw cs cf : Nat) : Prop where
  codes : Codes w Ac X.codes
  props : Props w Ap X.props
  wprops : Props w Aw X.wprops
  subs : Subs w As X.subs
  filters : Texts w Af X.filters
  lc : X.codes.length ≤ maxLen ∧ X.codes.length ≤ cc
  lp : X.props.length ≤ maxLen ∧ X.props.length ≤ cp
  lw : X.wprops.length ≤ maxLen ∧ X.wprops.length ≤ cw
  ls : X.subs.length ≤ maxLen ∧ X.subs.length ≤ cs
  lf : X.filters.length ≤ maxLen ∧ X.filters.length ≤ cf
  fine : XFine X

theorem cell_lt' {w : World} {a : Addr} {v : Value} (h : w.cell? a = some v) : a.block < w.heap.size := by
  rcases Nat.lt_or_ge a.block w.heap.size with h' | h'
  · exact h'
  · exfalso
    have e : w.heap[a.block]? = none := Array.getElem?_eq_none h'
    simp [World.cell?, e] at h
theorem trod_in {H : Type} {enc : TypeId × Value → H} {P : Program} {w : World} {base : Nat} {spare : Nat → Bool} {held : Bool} {t : TypeId} {v : Value} {d : DataW H} {ps : List MemPlace} (h : DataW.Trod enc P w base spare held t v d ps) : ∀ x ∈ ps, x.block < w.heap.size := by
  obtain ⟨n, hn⟩ := h
  exact DataW.trod_lt n t _ _ hn
theorem i64_wf {n : Int} (h : (Lit.int .i64 n).wf = true) : I64 n := bounds_i64 h
theorem u8_wf {n : Int} (h : (Lit.int .u8 n).wf = true) : 0 ≤ n ∧ n ≤ 255 := bounds_u8 h
theorem take_at {l : List Value} {k m : Nat} {v : Value} (h : (l.drop k).take m = [v]) : l[k]? = some v := by
  have h0 := congrArg (fun x => x[0]?) h
  simp only [List.getElem?_take, List.getElem?_drop] at h0
  split at h0
  · simpa using h0
  · simp at h0
theorem take_in {l l' : List Value} {k m j : Nat} {v : Value} (h : l' = (l.drop k).take m) (hj : l'[j]? = some v) : l[k + j]? = some v := by
  rw [h, List.getElem?_take] at hj
  split at hj
  · rwa [List.getElem?_drop] at hj
  · cases hj
theorem list_of {α : Type} [Inhabited α] {len : Nat} {Q : Nat → α → Prop} (h : ∀ i, i < len → ∃ x, Q i x) : ∃ l : List α, l.length = len ∧ ∀ (i : Nat) x, l[i]? = some x → Q i x := by
  obtain ⟨X, hX⟩ := choose_lt h
  refine ⟨(List.range len).map X, by simp, fun i x hx => ?_⟩
  have hi : i < len := by have := (List.getElem?_eq_some_iff.1 hx).1; simpa using this
  have h2 : ((List.range len).map X)[i]? = some (X i) := by simp [hi]
  obtain rfl := Option.some.inj (hx.symm.trans h2)
  exact hX i hi
theorem mem_of {α : Type} {l : List α} {Q : Nat → α → Prop} {R : α → Prop} (h : ∀ (i : Nat) x, l[i]? = some x → Q i x) (hR : ∀ i x, Q i x → R x) : ∀ x ∈ l, R x := fun x hx => by
  obtain ⟨i, hi⟩ := List.mem_iff_getElem?.1 hx
  exact hR i x (h i x hi)

section
variable {H : Type} {enc : TypeId × Value → H} {P : Program} {w : World} {base : Nat} {spare : Nat → Bool} {held : Bool}
theorem wt_all {e : TypeId} : ∀ {l : List (DataW H)} {d : DataW H}, d ∈ l → ∀ n ∈ d.weights P e, n ∈ DataW.weightsAll P e l
  | x :: l, d, hd, n, hn => by
    simp only [DataW.weightsAll, List.mem_append]
    rcases List.mem_cons.1 hd with rfl | hd
    · exact .inl hn
    · exact .inr (wt_all hd n hn)
/-- A row of an argument: at every place its cells, and what they read as; what these weigh the row weighs too. -/
theorem open_rowC {t e : TypeId} {C : Nat} {fuel : Nat} {A : Option Addr} {len cap : Nat} {x : DataW H × List MemPlace} (ht : P.underlying t = some (.slice e)) (hC : P.cellsOf e = C) (h0 : 0 < C)
    (h : DataW.trod enc P w base spare held fuel t [.slice A len cap] = some x) :
    len ≤ cap ∧ len ≤ maxLen ∧ ∀ i, i < len → ∃ (g o n : Nat) (cs : List Value) (y : DataW H × List MemPlace), A = some ⟨g, o, none⟩ ∧ cs.length = C ∧ (∀ j, j < C → w.cell? ⟨g, o + i * C + j, none⟩ = cs[j]?) ∧
      DataW.trod enc P w base spare held n e cs = some y ∧ ∀ n ∈ y.1.weights P e, n ∈ x.1.weights P t := by
  rcases open_slice ht h with ⟨hcs, _⟩ | ⟨a, len', cap', m, n, D, Pl, hcs, hb, hl, hm, hmm, hx, hi⟩
  · have e1 : Value.slice A len cap = .slice none 0 0 := by simpa using hcs
    injection e1 with e1 e2 e3
    subst e2 e3
    exact ⟨Nat.le_refl _, by simp [maxLen], fun i hi => absurd hi (by omega)⟩
  · have e1 : Value.slice A len cap = .slice (some a) len' cap' := by simpa using hcs
    injection e1 with e1 e2 e3
    subst e1 e2 e3
    refine ⟨hl, by omega, fun i hlt => ?_⟩
    obtain ⟨cs, h1, h2⟩ := hi i (by rw [hmm]; split <;> omega)
    rw [hC] at h1
    obtain ⟨_, hlen, hat⟩ := World.cells?_some h1
    obtain ⟨b, o, spot⟩ := a
    have hspot : spot = none := by
      obtain ⟨cs0, h10, _⟩ := hi 0 (by rw [hmm]; split <;> omega)
      rw [hC] at h10
      obtain ⟨_, hlen0, hat0⟩ := World.cells?_some h10
      have h00 := hat0 0 (by omega)
      rw [List.getElem?_eq_getElem (by omega)] at h00
      simpa [Addr.add] using World.cell?_spot h00
    subst hspot
    refine ⟨b, o, n, cs, (D i, Pl i), rfl, hlen, fun j hj => ?_, h2, fun n hn => ?_⟩
    · have := hat j (by omega)
      simpa only [add_plain] using this
    · rw [hx]
      simp only [DataW.weights, ht, List.mem_cons, List.mem_append]
      exact .inr (.inl (wt_all (List.mem_map.2 ⟨i, by simpa using hlt, rfl⟩) n hn))
theorem slice_form {t e : TypeId} {fuel : Nat} {cs : List Value} {x : DataW H × List MemPlace} (ht : P.underlying t = some (.slice e)) (h : DataW.trod enc P w base spare held fuel t cs = some x) : ∃ A n k, cs = [.slice A n k] := by
  rcases open_slice ht h with ⟨hcs, _⟩ | ⟨a, len', cap', m, n, D, Pl, hcs, _⟩
  · exact ⟨_, _, _, hcs⟩
  · exact ⟨_, _, _, hcs⟩
theorem str_short {t : TypeId} {s : ByteArray} {y : DataW H × List MemPlace} {R : List Nat} (hy : y = (.lit (.string s.data.toList), [])) (hw : ∀ n ∈ y.1.weights P t, n ∈ R) (hz : ∀ n ∈ R, n ≤ reachBytes) : Short s := by
  have := hz s.data.toList.length (hw _ (by rw [hy]; simp [DataW.weights]))
  rw [← Lib.size_eq] at this
  exact this
end
instance : Inhabited Pr := ⟨⟨0, 0, ⟨#[]⟩, ⟨#[]⟩⟩⟩
instance : Inhabited Sb := ⟨⟨⟨#[]⟩, 0, false, false, 0⟩⟩
theorem at0 {w : World} {g o i : Nat} {cs : List Value} {v : Value} {C j : Nat} (h : ∀ j, j < C → w.cell? ⟨g, o + i * C + j, none⟩ = cs[j]?) (hj : j < C) (hc : cs[j]? = some v) : w.cell? ⟨g, o + i * C + j, none⟩ = some v := (h j hj).trans hc
theorem pk_ext {cs : Array Value} {X : Pk} {vc vp vw vs vf : Value} (hs : cs.size = 26) (h : ∀ i, i < 26 → cs.toList[i]? = (pkCells X vc vp vw vs vf).toList[i]?) : cs = pkCells X vc vp vw vs vf := by
  apply Array.toList_inj.1
  apply List.ext_getElem?
  intro i
  rcases Nat.lt_or_ge i 26 with hi | hi
  · exact h i hi
  · rw [List.getElem?_eq_none (by simpa [hs] using hi), List.getElem?_eq_none (show (pkCells X vc vp vw vs vf).toList.length ≤ i from hi)]

section
variable {H : Type} {enc : TypeId × Value → H} {w : World} {base : Nat} {spare : Nat → Bool} {held : Bool} {fuel : Nat} {A : Option Addr} {len cap : Nat} {x : DataW H × List MemPlace}
theorem open_codes (hf : DataW.trod enc Tryz.prog w base spare held fuel 60 [.slice A len cap] = some x) :
    ∃ l : List Int, l.length = len ∧ len ≤ maxLen ∧ len ≤ cap ∧ Codes w A l ∧ ∀ c ∈ l, 0 ≤ c ∧ c ≤ 255 := by
  obtain ⟨hc, hm, each⟩ := open_rowC Tryz.underlying60 (C := 1) (by kernel_rfl) (by decide) hf
  obtain ⟨l, hl, hX⟩ := list_of (α := Int) (Q := fun i c => (∃ g o, A = some ⟨g, o, none⟩ ∧ g < w.heap.size ∧ w.cell? ⟨g, o + i, none⟩ = some (.int .u8 c)) ∧ 0 ≤ c ∧ c ≤ 255) (fun i hi => by
    obtain ⟨g, o, n, cs, y, hA, hlen, hat, ht, hw⟩ := each i hi
    obtain ⟨z, rfl, _, wz⟩ := DataW.trod_int Tryz.underlying5 ht
    have h0 := hat 0 (by decide)
    rw [Nat.mul_one, Nat.add_zero] at h0
    exact ⟨z, ⟨g, o, hA, cell_lt' (h0.trans rfl), h0⟩, u8_wf wz⟩)
  exact ⟨l, hl, hm, hc, fun i c hx => (hX i c hx).1, mem_of hX fun _ _ h => h.2⟩
theorem open_texts5 (hf : DataW.trod enc Tryz.prog w base spare held fuel 29 [.slice A len cap] = some x) (hz : ∀ n ∈ x.1.weights Tryz.prog 29, n ≤ reachBytes) :
    ∃ l : List ByteArray, l.length = len ∧ len ≤ maxLen ∧ len ≤ cap ∧ Texts w A l ∧ ∀ c ∈ l, Short c := by
  obtain ⟨hc, hm, each⟩ := open_rowC Tryz.underlying29 (C := 1) (by kernel_rfl) (by decide) hf
  obtain ⟨l, hl, hX⟩ := list_of (α := ByteArray) (Q := fun i c => (∃ g o, A = some ⟨g, o, none⟩ ∧ g < w.heap.size ∧ w.cell? ⟨g, o + i, none⟩ = some (.string c)) ∧ Short c) (fun i hi => by
    obtain ⟨g, o, n, cs, y, hA, hlen, hat, ht, hw⟩ := each i hi
    obtain ⟨z, rfl, hy, _⟩ := DataW.trod_string Tryz.underlying9 ht
    have h0 := hat 0 (by decide)
    rw [Nat.mul_one, Nat.add_zero] at h0
    exact ⟨z, ⟨g, o, hA, cell_lt' (h0.trans rfl), h0⟩, str_short hy hw hz⟩)
  exact ⟨l, hl, hm, hc, fun i c hx => (hX i c hx).1, mem_of hX fun _ _ h => h.2⟩
end
end Go.Proofs.YtlfgndhdifpngaaGreatDoor
namespace Go.Proofs.YtlfgndhdifpngaaGreatDoor
open Go.RowKit Go.ChangeShapes Go.WideShapes Go.Deep

section
variable {H : Type} {enc : TypeId × Value → H} {w : World} {base : Nat} {spare : Nat → Bool} {held : Bool} {fuel : Nat} {A : Option Addr} {len cap : Nat} {x : DataW H × List MemPlace}
theorem open_props56 (hf : DataW.trod enc Tryz.prog w base spare held fuel 61 [.slice A len cap] = some x) (hz : ∀ n ∈ x.1.weights Tryz.prog 61, n ≤ reachBytes) :
    ∃ l : List Pr, l.length = len ∧ len ≤ maxLen ∧ len ≤ cap ∧ Props w A l ∧ ∀ c ∈ l, Fine c := by
  obtain ⟨hc, hm, each⟩ := open_rowC Tryz.underlying61 (C := 4) (by kernel_rfl) (by decide) hf
  obtain ⟨l, hl, hX⟩ := list_of (α := Pr) (Q := fun i s => (∃ g o, A = some ⟨g, o, none⟩ ∧ g < w.heap.size ∧ w.cell? ⟨g, o + i * 4, none⟩ = some (.int .i64 s.id) ∧ w.cell? ⟨g, o + i * 4 + 1, none⟩ = some (.int .i64 s.n) ∧ w.cell? ⟨g, o + i * 4 + 2, none⟩ = some (.string s.s) ∧ w.cell? ⟨g, o + i * 4 + 3, none⟩ = some (.string s.t)) ∧ Fine s) (fun i hi => by
    obtain ⟨g, o, n, cs, y, hA, hlen, hat, ht, hw⟩ := each i hi
    obtain ⟨xs, n', _, hD, _, hxl, hfl⟩ := DataW.trod_struct Tryz.underlying151 ht
    obtain ⟨y0, e0⟩ : ∃ y, xs[0]? = some y := ⟨xs[0]'(by rw [hxl]; decide), List.getElem?_eq_getElem _⟩
    have f0 := (hfl 0 _ rfl).trans e0
    obtain ⟨z0, q0, _, w0⟩ := DataW.trod_int Tryz.underlying3 f0
    have c0 := (hat 0 (by decide)).trans (take_at q0)
    obtain ⟨y1, e1⟩ : ∃ y, xs[1]? = some y := ⟨xs[1]'(by rw [hxl]; decide), List.getElem?_eq_getElem _⟩
    have f1 := (hfl 1 _ rfl).trans e1
    obtain ⟨z1, q1, _, w1⟩ := DataW.trod_int Tryz.underlying3 f1
    have c1 := (hat 1 (by decide)).trans (take_at q1)
    obtain ⟨y2, e2⟩ : ∃ y, xs[2]? = some y := ⟨xs[2]'(by rw [hxl]; decide), List.getElem?_eq_getElem _⟩
    have f2 := (hfl 2 _ rfl).trans e2
    obtain ⟨z2, q2, d2, _⟩ := DataW.trod_string Tryz.underlying9 f2
    have c2 := (hat 2 (by decide)).trans (take_at q2)
    have s2 : Short z2 := str_short d2 (fun n hn => hw n (by rw [hD]; simp only [DataW.weights, Tryz.underlying151]; exact DataW.weights_mem_each (j := 2) rfl (by rw [List.getElem?_map, e2]; rfl) n hn)) hz
    obtain ⟨y3, e3⟩ : ∃ y, xs[3]? = some y := ⟨xs[3]'(by rw [hxl]; decide), List.getElem?_eq_getElem _⟩
    have f3 := (hfl 3 _ rfl).trans e3
    obtain ⟨z3, q3, d3, _⟩ := DataW.trod_string Tryz.underlying9 f3
    have c3 := (hat 3 (by decide)).trans (take_at q3)
    have s3 : Short z3 := str_short d3 (fun n hn => hw n (by rw [hD]; simp only [DataW.weights, Tryz.underlying151]; exact DataW.weights_mem_each (j := 3) rfl (by rw [List.getElem?_map, e3]; rfl) n hn)) hz
    exact ⟨⟨z0, z1, z2, z3⟩, ⟨g, o, hA, cell_lt' c0, c0, c1, c2, c3⟩, ⟨⟨s2, s3⟩, i64_wf w1⟩⟩)
  exact ⟨l, hl, hm, hc, fun i c hx => (hX i c hx).1, mem_of hX fun _ _ h => h.2⟩
theorem open_subs56 (hf : DataW.trod enc Tryz.prog w base spare held fuel 64 [.slice A len cap] = some x) (hz : ∀ n ∈ x.1.weights Tryz.prog 64, n ≤ reachBytes) :
    ∃ l : List Sb, l.length = len ∧ len ≤ maxLen ∧ len ≤ cap ∧ Subs w A l ∧ ∀ c ∈ l, SbFine c := by
  obtain ⟨hc, hm, each⟩ := open_rowC Tryz.underlying64 (C := 5) (by kernel_rfl) (by decide) hf
  obtain ⟨l, hl, hX⟩ := list_of (α := Sb) (Q := fun i s => (∃ g o, A = some ⟨g, o, none⟩ ∧ g < w.heap.size ∧ w.cell? ⟨g, o + i * 5, none⟩ = some (.string s.f) ∧ w.cell? ⟨g, o + i * 5 + 1, none⟩ = some (.int .i64 s.q) ∧ w.cell? ⟨g, o + i * 5 + 2, none⟩ = some (.bool s.nl) ∧ w.cell? ⟨g, o + i * 5 + 3, none⟩ = some (.bool s.ap) ∧ w.cell? ⟨g, o + i * 5 + 4, none⟩ = some (.int .i64 s.h)) ∧ SbFine s) (fun i hi => by
    obtain ⟨g, o, n, cs, y, hA, hlen, hat, ht, hw⟩ := each i hi
    obtain ⟨xs, n', _, hD, _, hxl, hfl⟩ := DataW.trod_struct Tryz.underlying116 ht
    obtain ⟨y0, e0⟩ : ∃ y, xs[0]? = some y := ⟨xs[0]'(by rw [hxl]; decide), List.getElem?_eq_getElem _⟩
    have f0 := (hfl 0 _ rfl).trans e0
    obtain ⟨z0, q0, d0, _⟩ := DataW.trod_string Tryz.underlying9 f0
    have c0 := (hat 0 (by decide)).trans (take_at q0)
    have s0 : Short z0 := str_short d0 (fun n hn => hw n (by rw [hD]; simp only [DataW.weights, Tryz.underlying116]; exact DataW.weights_mem_each (j := 0) rfl (by rw [List.getElem?_map, e0]; rfl) n hn)) hz
    obtain ⟨y1, e1⟩ : ∃ y, xs[1]? = some y := ⟨xs[1]'(by rw [hxl]; decide), List.getElem?_eq_getElem _⟩
    have f1 := (hfl 1 _ rfl).trans e1
    obtain ⟨z1, q1, _, w1⟩ := DataW.trod_int Tryz.underlying3 f1
    have c1 := (hat 1 (by decide)).trans (take_at q1)
    obtain ⟨y2, e2⟩ : ∃ y, xs[2]? = some y := ⟨xs[2]'(by rw [hxl]; decide), List.getElem?_eq_getElem _⟩
    have f2 := (hfl 2 _ rfl).trans e2
    obtain ⟨z2, q2, _⟩ := DataW.trod_bool Tryz.underlying4 f2
    have c2 := (hat 2 (by decide)).trans (take_at q2)
    obtain ⟨y3, e3⟩ : ∃ y, xs[3]? = some y := ⟨xs[3]'(by rw [hxl]; decide), List.getElem?_eq_getElem _⟩
    have f3 := (hfl 3 _ rfl).trans e3
    obtain ⟨z3, q3, _⟩ := DataW.trod_bool Tryz.underlying4 f3
    have c3 := (hat 3 (by decide)).trans (take_at q3)
    obtain ⟨y4, e4⟩ : ∃ y, xs[4]? = some y := ⟨xs[4]'(by rw [hxl]; decide), List.getElem?_eq_getElem _⟩
    have f4 := (hfl 4 _ rfl).trans e4
    obtain ⟨z4, q4, _, w4⟩ := DataW.trod_int Tryz.underlying3 f4
    have c4 := (hat 4 (by decide)).trans (take_at q4)
    exact ⟨⟨z0, z1, z2, z3, z4⟩, ⟨g, o, hA, cell_lt' c0, c0, c1, c2, c3, c4⟩, ⟨s0, i64_wf w1, i64_wf w4⟩⟩)
  exact ⟨l, hl, hm, hc, fun i c hx => (hX i c hx).1, mem_of hX fun _ _ h => h.2⟩
end
set_option maxRecDepth 100000 in
set_option maxHeartbeats 1000000 in
theorem open_packet6 {H : Type} {enc : TypeId × Value → H} {w : World} {base : Nat} {spare : Nat → Bool} {held : Bool} {r : Reach} {b0 : Nat} {v : Value} {d : DataW H} {ps : List MemPlace} (hv : Value.okWide Tryz.prog w r b0 66 v) (h : DataW.Trod enc Tryz.prog w base spare held 66 v d ps) (hz : ∀ n ∈ d.weights Tryz.prog 66, n ≤ reachBytes) :
    ∃ X Ac Ap Aw As Af cc cp cw cs cf, v = .agg (pkCells X (.slice Ac X.codes.length cc) (.slice Ap X.props.length cp) (.slice Aw X.wprops.length cw) (.slice As X.subs.length cs) (.slice Af X.filters.length cf)) ∧ ArgX w X Ac Ap Aw As Af cc cp cw cs cf := by
  obtain ⟨cs, rfl, hsz⟩ := okWide_struct Tryz.underlying66 hv
  obtain ⟨fuel, hf⟩ := h
  obtain ⟨xs, n, _, hD, _, hxl, hfl⟩ := DataW.trod_struct Tryz.underlying66 hf
  have hd : d = .agg (xs.map (·.1)) := congrArg Prod.fst hD
  have hsz' : cs.size = 26 := hsz.trans (by kernel_rfl)
  have hcs : (Value.agg cs).cells.toList = cs.toList := rfl
  rw [hcs] at hfl
  have hwt : ∀ (j : Nat) (y : DataW H × List MemPlace) (t : TypeId), xs[j]? = some y → (Tryz.prog.underlying 66).bind (fun u => match u with | .struct fs => (fs.toList.map (·.type))[j]? | _ => none) = some t → ∀ n ∈ y.1.weights Tryz.prog t, n ∈ d.weights Tryz.prog 66 := fun j y t hy ht n hn => by
    rw [hd]
    simp only [DataW.weights]
    rw [Tryz.underlying66] at ht ⊢
    exact DataW.weights_mem_each (j := j) ht (by rw [List.getElem?_map, hy]; rfl) n hn
  obtain ⟨y0, e0⟩ : ∃ y, xs[0]? = some y := ⟨xs[0]'(by rw [hxl]; decide), List.getElem?_eq_getElem _⟩
  have f0 := (hfl 0 _ rfl).trans e0
  have WT0 := hwt 0 _ 3 e0 (by rw [Tryz.underlying66]; rfl)
  obtain ⟨z0, q0, _, w0⟩ := DataW.trod_int Tryz.underlying3 f0
  have c0 : cs.toList[0]? = _ := take_at q0
  obtain ⟨y1, e1⟩ : ∃ y, xs[1]? = some y := ⟨xs[1]'(by rw [hxl]; decide), List.getElem?_eq_getElem _⟩
  have f1 := (hfl 1 _ rfl).trans e1
  have WT1 := hwt 1 _ 4 e1 (by rw [Tryz.underlying66]; rfl)
  obtain ⟨z1, q1, _⟩ := DataW.trod_bool Tryz.underlying4 f1
  have c1 : cs.toList[1]? = _ := take_at q1
  obtain ⟨y2, e2⟩ : ∃ y, xs[2]? = some y := ⟨xs[2]'(by rw [hxl]; decide), List.getElem?_eq_getElem _⟩
  have f2 := (hfl 2 _ rfl).trans e2
  have WT2 := hwt 2 _ 4 e2 (by rw [Tryz.underlying66]; rfl)
  obtain ⟨z2, q2, _⟩ := DataW.trod_bool Tryz.underlying4 f2
  have c2 : cs.toList[2]? = _ := take_at q2
  obtain ⟨y3, e3⟩ : ∃ y, xs[3]? = some y := ⟨xs[3]'(by rw [hxl]; decide), List.getElem?_eq_getElem _⟩
  have f3 := (hfl 3 _ rfl).trans e3
  have WT3 := hwt 3 _ 3 e3 (by rw [Tryz.underlying66]; rfl)
  obtain ⟨z3, q3, _, w3⟩ := DataW.trod_int Tryz.underlying3 f3
  have c3 : cs.toList[3]? = _ := take_at q3
  obtain ⟨y4, e4⟩ : ∃ y, xs[4]? = some y := ⟨xs[4]'(by rw [hxl]; decide), List.getElem?_eq_getElem _⟩
  have f4 := (hfl 4 _ rfl).trans e4
  have WT4 := hwt 4 _ 3 e4 (by rw [Tryz.underlying66]; rfl)
  obtain ⟨z4, q4, _, w4⟩ := DataW.trod_int Tryz.underlying3 f4
  have c4 : cs.toList[4]? = _ := take_at q4
  obtain ⟨y5, e5⟩ : ∃ y, xs[5]? = some y := ⟨xs[5]'(by rw [hxl]; decide), List.getElem?_eq_getElem _⟩
  have f5 := (hfl 5 _ rfl).trans e5
  have WT5 := hwt 5 _ 9 e5 (by rw [Tryz.underlying66]; rfl)
  obtain ⟨z5, q5, d5, _⟩ := DataW.trod_string Tryz.underlying9 f5
  have c5 : cs.toList[5]? = _ := take_at q5
  have s5 : Short z5 := str_short d5 WT5 hz
  obtain ⟨y6, e6⟩ : ∃ y, xs[6]? = some y := ⟨xs[6]'(by rw [hxl]; decide), List.getElem?_eq_getElem _⟩
  have f6 := (hfl 6 _ rfl).trans e6
  have WT6 := hwt 6 _ 9 e6 (by rw [Tryz.underlying66]; rfl)
  obtain ⟨z6, q6, d6, _⟩ := DataW.trod_string Tryz.underlying9 f6
  have c6 : cs.toList[6]? = _ := take_at q6
  have s6 : Short z6 := str_short d6 WT6 hz
  obtain ⟨y7, e7⟩ : ∃ y, xs[7]? = some y := ⟨xs[7]'(by rw [hxl]; decide), List.getElem?_eq_getElem _⟩
  have f7 := (hfl 7 _ rfl).trans e7
  have WT7 := hwt 7 _ 5 e7 (by rw [Tryz.underlying66]; rfl)
  obtain ⟨z7, q7, _, w7⟩ := DataW.trod_int Tryz.underlying5 f7
  have c7 : cs.toList[7]? = _ := take_at q7
  obtain ⟨y8, e8⟩ : ∃ y, xs[8]? = some y := ⟨xs[8]'(by rw [hxl]; decide), List.getElem?_eq_getElem _⟩
  have f8 := (hfl 8 _ rfl).trans e8
  have WT8 := hwt 8 _ 60 e8 (by rw [Tryz.underlying66]; rfl)
  obtain ⟨A8, n8, k8, q8⟩ := slice_form Tryz.underlying60 f8
  have c8 : cs.toList[8]? = _ := take_at q8
  rw [q8] at f8
  obtain ⟨l8, hl8, hm8, hc8, hR8, hF8⟩ := open_codes f8
  obtain ⟨y9, e9⟩ : ∃ y, xs[9]? = some y := ⟨xs[9]'(by rw [hxl]; decide), List.getElem?_eq_getElem _⟩
  have f9 := (hfl 9 _ rfl).trans e9
  have WT9 := hwt 9 _ 61 e9 (by rw [Tryz.underlying66]; rfl)
  obtain ⟨A9, n9, k9, q9⟩ := slice_form Tryz.underlying61 f9
  have c9 : cs.toList[9]? = _ := take_at q9
  rw [q9] at f9
  obtain ⟨l9, hl9, hm9, hc9, hR9, hF9⟩ := open_props56 f9 (fun n hn => hz n (WT9 n hn))
  obtain ⟨y10, e10⟩ : ∃ y, xs[10]? = some y := ⟨xs[10]'(by rw [hxl]; decide), List.getElem?_eq_getElem _⟩
  have f10 := (hfl 10 _ rfl).trans e10
  have WT10 := hwt 10 _ 9 e10 (by rw [Tryz.underlying66]; rfl)
  obtain ⟨z10, q10, d10, _⟩ := DataW.trod_string Tryz.underlying9 f10
  have c10 : cs.toList[10]? = _ := take_at q10
  have s10 : Short z10 := str_short d10 WT10 hz
  obtain ⟨y11, e11⟩ : ∃ y, xs[11]? = some y := ⟨xs[11]'(by rw [hxl]; decide), List.getElem?_eq_getElem _⟩
  have f11 := (hfl 11 _ rfl).trans e11
  have WT11 := hwt 11 _ 4 e11 (by rw [Tryz.underlying66]; rfl)
  obtain ⟨z11, q11, _⟩ := DataW.trod_bool Tryz.underlying4 f11
  have c11 : cs.toList[11]? = _ := take_at q11
  obtain ⟨y12, e12⟩ : ∃ y, xs[12]? = some y := ⟨xs[12]'(by rw [hxl]; decide), List.getElem?_eq_getElem _⟩
  have f12 := (hfl 12 _ rfl).trans e12
  have WT12 := hwt 12 _ 3 e12 (by rw [Tryz.underlying66]; rfl)
  obtain ⟨z12, q12, _, w12⟩ := DataW.trod_int Tryz.underlying3 f12
  have c12 : cs.toList[12]? = _ := take_at q12
  obtain ⟨y13, e13⟩ : ∃ y, xs[13]? = some y := ⟨xs[13]'(by rw [hxl]; decide), List.getElem?_eq_getElem _⟩
  have f13 := (hfl 13 _ rfl).trans e13
  have WT13 := hwt 13 _ 4 e13 (by rw [Tryz.underlying66]; rfl)
  obtain ⟨z13, q13, _⟩ := DataW.trod_bool Tryz.underlying4 f13
  have c13 : cs.toList[13]? = _ := take_at q13
  obtain ⟨y14, e14⟩ : ∃ y, xs[14]? = some y := ⟨xs[14]'(by rw [hxl]; decide), List.getElem?_eq_getElem _⟩
  have f14 := (hfl 14 _ rfl).trans e14
  have WT14 := hwt 14 _ 63 e14 (by rw [Tryz.underlying66]; rfl)
  obtain ⟨xw, nw, _, hDw, _, hxwl, hfw⟩ := DataW.trod_struct Tryz.underlying63 f14
  have hwtw : ∀ (i : Nat) (y : DataW H × List MemPlace) (t : TypeId), xw[i]? = some y → (Tryz.prog.underlying 63).bind (fun u => match u with | .struct fs => (fs.toList.map (·.type))[i]? | _ => none) = some t → ∀ n ∈ y.1.weights Tryz.prog t, n ∈ d.weights Tryz.prog 66 := fun i y t hy ht n hn => by
    refine WT14 n ?_
    rw [hDw]
    simp only [DataW.weights]
    rw [Tryz.underlying63] at ht ⊢
    exact DataW.weights_mem_each (j := i) ht (by rw [List.getElem?_map, hy]; rfl) n hn
  obtain ⟨yw0, ew0⟩ : ∃ y, xw[0]? = some y := ⟨xw[0]'(by rw [hxwl]; decide), List.getElem?_eq_getElem _⟩
  have fw0 := (hfw 0 _ rfl).trans ew0
  have WTw0 := hwtw 0 _ 9 ew0 (by rw [Tryz.underlying63]; rfl)
  obtain ⟨zw0, qw0, dw0, _⟩ := DataW.trod_string Tryz.underlying9 fw0
  have cw0 : cs.toList[14]? = _ := take_in rfl (take_at qw0)
  have sw0 : Short zw0 := str_short dw0 WTw0 hz
  obtain ⟨yw1, ew1⟩ : ∃ y, xw[1]? = some y := ⟨xw[1]'(by rw [hxwl]; decide), List.getElem?_eq_getElem _⟩
  have fw1 := (hfw 1 _ rfl).trans ew1
  have WTw1 := hwtw 1 _ 9 ew1 (by rw [Tryz.underlying63]; rfl)
  obtain ⟨zw1, qw1, dw1, _⟩ := DataW.trod_string Tryz.underlying9 fw1
  have cw1 : cs.toList[15]? = _ := take_in rfl (take_at qw1)
  have sw1 : Short zw1 := str_short dw1 WTw1 hz
  obtain ⟨yw2, ew2⟩ : ∃ y, xw[2]? = some y := ⟨xw[2]'(by rw [hxwl]; decide), List.getElem?_eq_getElem _⟩
  have fw2 := (hfw 2 _ rfl).trans ew2
  have WTw2 := hwtw 2 _ 3 ew2 (by rw [Tryz.underlying63]; rfl)
  obtain ⟨zw2, qw2, _, ww2⟩ := DataW.trod_int Tryz.underlying3 fw2
  have cw2 : cs.toList[16]? = _ := take_in rfl (take_at qw2)
  obtain ⟨yw3, ew3⟩ : ∃ y, xw[3]? = some y := ⟨xw[3]'(by rw [hxwl]; decide), List.getElem?_eq_getElem _⟩
  have fw3 := (hfw 3 _ rfl).trans ew3
  have WTw3 := hwtw 3 _ 4 ew3 (by rw [Tryz.underlying63]; rfl)
  obtain ⟨zw3, qw3, _⟩ := DataW.trod_bool Tryz.underlying4 fw3
  have cw3 : cs.toList[17]? = _ := take_in rfl (take_at qw3)
  obtain ⟨yw4, ew4⟩ : ∃ y, xw[4]? = some y := ⟨xw[4]'(by rw [hxwl]; decide), List.getElem?_eq_getElem _⟩
  have fw4 := (hfw 4 _ rfl).trans ew4
  have WTw4 := hwtw 4 _ 61 ew4 (by rw [Tryz.underlying63]; rfl)
  obtain ⟨Aw4, nw4, kw4, qw4⟩ := slice_form Tryz.underlying61 fw4
  have cw4 : cs.toList[18]? = _ := take_in rfl (take_at qw4)
  rw [qw4] at fw4
  obtain ⟨lw4, hlw4, hmw4, hcw4, hRw4, hFw4⟩ := open_props56 fw4 (fun n hn => hz n (WTw4 n hn))
  obtain ⟨y15, e15⟩ : ∃ y, xs[15]? = some y := ⟨xs[15]'(by rw [hxl]; decide), List.getElem?_eq_getElem _⟩
  have f15 := (hfl 15 _ rfl).trans e15
  have WT15 := hwt 15 _ 4 e15 (by rw [Tryz.underlying66]; rfl)
  obtain ⟨z15, q15, _⟩ := DataW.trod_bool Tryz.underlying4 f15
  have c15 : cs.toList[19]? = _ := take_at q15
  obtain ⟨y16, e16⟩ : ∃ y, xs[16]? = some y := ⟨xs[16]'(by rw [hxl]; decide), List.getElem?_eq_getElem _⟩
  have f16 := (hfl 16 _ rfl).trans e16
  have WT16 := hwt 16 _ 4 e16 (by rw [Tryz.underlying66]; rfl)
  obtain ⟨z16, q16, _⟩ := DataW.trod_bool Tryz.underlying4 f16
  have c16 : cs.toList[20]? = _ := take_at q16
  obtain ⟨y17, e17⟩ : ∃ y, xs[17]? = some y := ⟨xs[17]'(by rw [hxl]; decide), List.getElem?_eq_getElem _⟩
  have f17 := (hfl 17 _ rfl).trans e17
  have WT17 := hwt 17 _ 9 e17 (by rw [Tryz.underlying66]; rfl)
  obtain ⟨z17, q17, d17, _⟩ := DataW.trod_string Tryz.underlying9 f17
  have c17 : cs.toList[21]? = _ := take_at q17
  have s17 : Short z17 := str_short d17 WT17 hz
  obtain ⟨y18, e18⟩ : ∃ y, xs[18]? = some y := ⟨xs[18]'(by rw [hxl]; decide), List.getElem?_eq_getElem _⟩
  have f18 := (hfl 18 _ rfl).trans e18
  have WT18 := hwt 18 _ 9 e18 (by rw [Tryz.underlying66]; rfl)
  obtain ⟨z18, q18, d18, _⟩ := DataW.trod_string Tryz.underlying9 f18
  have c18 : cs.toList[22]? = _ := take_at q18
  have s18 : Short z18 := str_short d18 WT18 hz
  obtain ⟨y19, e19⟩ : ∃ y, xs[19]? = some y := ⟨xs[19]'(by rw [hxl]; decide), List.getElem?_eq_getElem _⟩
  have f19 := (hfl 19 _ rfl).trans e19
  have WT19 := hwt 19 _ 4 e19 (by rw [Tryz.underlying66]; rfl)
  obtain ⟨z19, q19, _⟩ := DataW.trod_bool Tryz.underlying4 f19
  have c19 : cs.toList[23]? = _ := take_at q19
  obtain ⟨y20, e20⟩ : ∃ y, xs[20]? = some y := ⟨xs[20]'(by rw [hxl]; decide), List.getElem?_eq_getElem _⟩
  have f20 := (hfl 20 _ rfl).trans e20
  have WT20 := hwt 20 _ 64 e20 (by rw [Tryz.underlying66]; rfl)
  obtain ⟨A20, n20, k20, q20⟩ := slice_form Tryz.underlying64 f20
  have c20 : cs.toList[24]? = _ := take_at q20
  rw [q20] at f20
  obtain ⟨l20, hl20, hm20, hc20, hR20, hF20⟩ := open_subs56 f20 (fun n hn => hz n (WT20 n hn))
  obtain ⟨y21, e21⟩ : ∃ y, xs[21]? = some y := ⟨xs[21]'(by rw [hxl]; decide), List.getElem?_eq_getElem _⟩
  have f21 := (hfl 21 _ rfl).trans e21
  have WT21 := hwt 21 _ 29 e21 (by rw [Tryz.underlying66]; rfl)
  obtain ⟨A21, n21, k21, q21⟩ := slice_form Tryz.underlying29 f21
  have c21 : cs.toList[25]? = _ := take_at q21
  rw [q21] at f21
  obtain ⟨l21, hl21, hm21, hc21, hR21, hF21⟩ := open_texts5 f21 (fun n hn => hz n (WT21 n hn))
  refine ⟨⟨z0, z1, z2, z3, z4, z5, z6, z7, l8, l9, z10, z11, z12, z13, zw0, zw1, zw2, zw3, lw4, z15, z16, z17, z18, z19, l20, l21⟩, A8, A9, Aw4, A20, A21, k8, k9, kw4, k20, k21, ?_, ?_⟩
  · rw [show cs = pkCells ⟨z0, z1, z2, z3, z4, z5, z6, z7, l8, l9, z10, z11, z12, z13, zw0, zw1, zw2, zw3, lw4, z15, z16, z17, z18, z19, l20, l21⟩ (.slice A8 l8.length k8) (.slice A9 l9.length k9) (.slice Aw4 lw4.length kw4) (.slice A20 l20.length k20) (.slice A21 l21.length k21) from pk_ext hsz' (fun i hi => by
      rw [hl8, hl9, hlw4, hl20, hl21]
      match i, hi with
      | 0, _ => exact c0
      | 1, _ => exact c1
      | 2, _ => exact c2
      | 3, _ => exact c3
      | 4, _ => exact c4
      | 5, _ => exact c5
      | 6, _ => exact c6
      | 7, _ => exact c7
      | 8, _ => exact c8
      | 9, _ => exact c9
      | 10, _ => exact c10
      | 11, _ => exact c11
      | 12, _ => exact c12
      | 13, _ => exact c13
      | 14, _ => exact cw0
      | 15, _ => exact cw1
      | 16, _ => exact cw2
      | 17, _ => exact cw3
      | 18, _ => exact cw4
      | 19, _ => exact c15
      | 20, _ => exact c16
      | 21, _ => exact c17
      | 22, _ => exact c18
      | 23, _ => exact c19
      | 24, _ => exact c20
      | 25, _ => exact c21
      | k + 26, h => exact absurd h (by omega))]
  · refine ⟨hR8, hR9, hRw4, hR20, hR21, ?_, ?_, ?_, ?_, ?_, ?_⟩
    · show l8.length ≤ _ ∧ l8.length ≤ _; rw [hl8]; exact ⟨hm8, hc8⟩
    · show l9.length ≤ _ ∧ l9.length ≤ _; rw [hl9]; exact ⟨hm9, hc9⟩
    · show lw4.length ≤ _ ∧ lw4.length ≤ _; rw [hlw4]; exact ⟨hmw4, hcw4⟩
    · show l20.length ≤ _ ∧ l20.length ≤ _; rw [hl20]; exact ⟨hm20, hc20⟩
    · show l21.length ≤ _ ∧ l21.length ≤ _; rw [hl21]; exact ⟨hm21, hc21⟩
    · exact ⟨i64_wf w0, i64_wf w3, i64_wf w4, s5, s6, u8_wf w7, s10, i64_wf w12, sw0, sw1, i64_wf ww2, s17, s18, hF8, hF20, hF21, hF9, hFw4⟩
end Go.Proofs.YtlfgndhdifpngaaGreatDoor
