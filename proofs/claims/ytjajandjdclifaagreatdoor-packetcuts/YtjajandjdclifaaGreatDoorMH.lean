/- What was put is read: part by part.; What was put is read: lists, a Connect, all kinds.; What was put is read: a Connect; endings; the first byte.; What was put is read, and put again the same.; In whatever pieces bytes come, the packets are the same: the plain side, over whatever reads a packet.; A packet's bytes, cut off, with a byte more, with other flags: the plain side.; A packet that is put, read and put again has the same bytes: the plain side.; PacketTwice: what is read and put is read the same again. -/
import Derived.Test.YtjajandjdclifaaGreatDoorMG
import Derived.Test.YtjajandjdclifaaGreatDoorMD
namespace Go.Proofs.YtjajandjdclifaaGreatDoor
namespace PK
open PR (Has has_both has_ext has_nil has_mk has_left has_right has_self)

/-- What a part's bytes are read as, with what was put ahead of them. -/
def Fw {α : Type} (V : ByteArray) (b : Nat) (o o' : ByteArray × Int) (rd : Int → α × Int × Int) (x : α) : Prop := o.2 = 0 ∧ Has V b o.1 ∧ rd ((b + o.1.size : Nat) : Int) = (x, ((b + o'.1.size : Nat) : Int), 0)
theorem ad_split {o : ByteArray × Int} {B : ByteArray} {c : Int} (h : (ad o B c).2 = 0) : o.2 = 0 ∧ c = 0 ∧ (ad o B c).1 = o.1 ++ B := by
  by_cases ho : o.2 = 0
  · by_cases hc : c = 0
    · subst hc; rw [ad_ok ho]; exact ⟨ho, rfl, rfl⟩
    · rw [ad_code ho _ hc] at h; exact absurd h hc
  · rw [ad_bad ho] at h; exact absurd h ho
theorem ad_fw {V : ByteArray} {b : Nat} {o : ByteArray × Int} {B : ByteArray} {c : Int} (h : (ad o B c).2 = 0) (hV : Has V b (ad o B c).1) : o.2 = 0 ∧ c = 0 ∧ Has V b o.1 ∧ Has V (b + o.1.size) B ∧ (ad o B c).1.size = o.1.size + B.size := by
  obtain ⟨h1, h2, h3⟩ := ad_split h
  rw [h3] at hV ⊢
  exact ⟨h1, h2, has_left hV, has_right hV, ByteArray.size_append⟩
theorem tx_fw {V : ByteArray} {b : Nat} {o : ByteArray × Int} {t : ByteArray} (h : (tx o t).2 = 0) (hV : Has V b (tx o t).1) : Fw V b o (tx o t) (rdT V) t := by
  obtain ⟨h1, h2, h3, h4, h5⟩ := ad_fw h hV
  refine ⟨h1, h3, ?_⟩
  unfold rdT
  rw [PR.getT_has h2 h4]
  show (t, _, cm 0) = _
  rw [show (tx o t).1.size = o.1.size + (TX.putS t).size from h5, Nat.add_assoc]
  rfl
theorem nm_fw {V : ByteArray} {b : Nat} {o : ByteArray × Int} {n : Int} (wd : Int) (h : (nm o wd n).2 = 0) (hV : Has V b (nm o wd n).1) : Fw V b o (nm o wd n) (fun a => rdN V a wd) n ∧ VP.fixC wd n = 0 := by
  obtain ⟨h1, h2, h3, h4, h5⟩ := ad_fw h hV
  refine ⟨⟨h1, h3, ?_⟩, h2⟩
  simp only
  unfold rdN
  rw [PR.rd_has h2 h4]
  show (n, _, cm 0) = _
  rw [show (nm o wd n).1.size = o.1.size + (strOfNums (VP.fixL wd n)).size from h5, Nat.add_assoc]
  rfl
theorem dt_fw {V : ByteArray} {b : Nat} {o : ByteArray × Int} {t : ByteArray} (h : (dt o t).2 = 0) (hV : Has V b (dt o t).1) : Fw V b o (dt o t) (rdD V) t := by
  obtain ⟨h1, h2, h3, h4, h5⟩ := ad_fw h hV
  have hs : t.size ≤ 65535 := by
    unfold TX.dataC at h2
    split at h2
    · omega
    · exact absurd h2 (by decide)
  refine ⟨h1, h3, ?_⟩
  unfold rdD
  rw [PR.dat_has hs h4]
  show (t, _, cm 0) = _
  rw [show (dt o t).1.size = o.1.size + (TX.dataS t).size from h5, Nat.add_assoc]
  rfl
theorem getL_has {V : ByteArray} {p : Nat} {l : List Pr} (h : PR.putC l = 0) (hV : Has V p (PR.putS l)) : PR.getL V (p : Int) = (l.map PR.nrm, ((p + (PR.putS l).size : Nat) : Int), 0) := by
  obtain ⟨hl, hr, he⟩ := PR.putS_is h
  have hz := PR.allS_size l
  rw [he] at hV
  have ha := has_left hV
  have hb := has_right hV
  have hg := PR.get_has (n := ((PR.allS l).size : Int)) (by omega) (by omega) ha
  have hs : (PR.putS l).size = (strOfNums (VP.putL (PR.allS l).size)).size + (PR.allS l).size := by rw [he, ByteArray.size_append]
  have hgl := PR.gl_has (U := PR.allS l) l [] 66 0 (has_self _) (by omega) (by omega) (by simpa using hl) (fun j q hq => by
    have := PR.rest_zero l 0 hr j q hq
    simpa using this)
  rw [List.nil_append, List.map_nil] at hgl
  rw [show ((0 : Nat) : Int) = 0 from rfl] at hgl
  have hB := hb.1
  have e := PR.getL_in V p (PR.allS l).size (p + (strOfNums (VP.putL (PR.allS l).size)).size) hg (by omega) rfl
  rw [e, has_ext hb, hgl, if_neg (by simp)]
  refine Prod.ext rfl (Prod.ext ?_ rfl)
  simp only
  omega
theorem alAll_nrm (k : Int) (l : List Pr) : alAll k (l.map PR.nrm) = alAll k l := by
  unfold alAll
  rw [List.all_map]
  congr 1
  funext p
  show al k (PR.nrm p).id = _
  rw [PR.nrm_id]
theorem pr_fw {V : ByteArray} {b : Nat} {o : ByteArray × Int} {l : List Pr} (k : Int) (h : (pr o k l).2 = 0) (hV : Has V b (pr o k l).1) : Fw V b o (pr o k l) (fun a => rdPr V a k) (l.map PR.nrm) := by
  have hal : alAll k l = true := by
    by_cases hal : alAll k l = true
    · exact hal
    · unfold pr at h
      rw [if_neg hal] at h
      exact absurd (ad_split h).2.1 (by decide)
  have e : pr o k l = ad o (PR.putS l) (PR.putC l) := by unfold pr; rw [if_pos hal]
  rw [e] at h hV ⊢
  obtain ⟨h1, h2, h3, h4, h5⟩ := ad_fw h hV
  refine ⟨h1, h3, ?_⟩
  simp only
  unfold rdPr
  rw [getL_has h2 h4]
  simp only
  rw [alAll_nrm, if_pos hal, h5, Nat.add_assoc]
  rfl
theorem idd_fw {V : ByteArray} {b : Nat} {o : ByteArray × Int} {i : Int} (h : (idd o i).2 = 0) (hV : Has V b (idd o i).1) : Fw V b o (idd o i) (rdId V) i := by
  unfold idd at h hV ⊢
  by_cases hi : i < 1 ∨ 65535 < i
  · rw [if_pos hi] at h
    have h1 := (ad_split h).1
    exact absurd (ad_split h1).2.1 (by decide)
  rw [if_neg hi] at h hV ⊢
  obtain ⟨⟨h1, h2, h3⟩, _⟩ := nm_fw 2 h hV
  refine ⟨h1, h2, ?_⟩
  have e1 : (VP.rd V ((b + o.1.size : Nat) : Int) 2).1 = i := congrArg Prod.fst h3
  have e2 : (VP.rd V ((b + o.1.size : Nat) : Int) 2).2.1 = ((b + (nm o 2 i).1.size : Nat) : Int) := congrArg (fun x => x.2.1) h3
  have e3 : cm (VP.rd V ((b + o.1.size : Nat) : Int) 2).2.2 = 0 := congrArg (fun x => x.2.2) h3
  unfold rdId
  rw [e1, e2, e3, if_neg (by omega)]
  rfl
theorem ses_fw {V : ByteArray} {b : Nat} {o : ByteArray × Int} {x : Bool} (h : (nm o 1 (fl x 1)).2 = 0) (hV : Has V b (nm o 1 (fl x 1)).1) : Fw V b o (nm o 1 (fl x 1)) (rdSes V) x := by
  obtain ⟨⟨h1, h2, h3⟩, _⟩ := nm_fw 1 h hV
  refine ⟨h1, h2, ?_⟩
  have e1 : (VP.rd V ((b + o.1.size : Nat) : Int) 1).1 = fl x 1 := congrArg Prod.fst h3
  have e2 : (VP.rd V ((b + o.1.size : Nat) : Int) 1).2.1 = ((b + (nm o 1 (fl x 1)).1.size : Nat) : Int) := congrArg (fun x => x.2.1) h3
  have e3 : cm (VP.rd V ((b + o.1.size : Nat) : Int) 1).2.2 = 0 := congrArg (fun x => x.2.2) h3
  unfold rdSes
  rw [e1, e2, e3]
  cases x <;> rfl
theorem sub_back (q h : Int) (nl ap : Bool) (h1 : (isQ q && isQ h) = true) (f : ByteArray) : subC (q + fl nl 4 + fl ap 8 + 16 * h) = 0 ∧ subOf f (q + fl nl 4 + fl ap 8 + 16 * h) = ⟨f, q, nl, ap, h⟩ := by
  simp [isQ] at h1
  obtain ⟨⟨a1, a2⟩, a3, a4⟩ := h1
  obtain ⟨x, rfl⟩ := Int.eq_ofNat_of_zero_le a1
  obtain ⟨y, rfl⟩ := Int.eq_ofNat_of_zero_le a3
  have hd : ∀ (x y : Fin 3) (nl ap : Bool), let n : Int := ((x.val : Nat) : Int) + fl nl 4 + fl ap 8 + 16 * ((y.val : Nat) : Int)
      subC n = 0 ∧ bits .and .i64 n 3 = ((x.val : Nat) : Int) ∧ (bits .and .i64 n 4 != 0) = nl ∧ (bits .and .i64 n 8 != 0) = ap ∧ bits .and .i64 (n / 16) 3 = ((y.val : Nat) : Int) := by decide +kernel
  obtain ⟨b1, b2, b3, b4, b5⟩ := hd ⟨x, by omega⟩ ⟨y, by omega⟩ nl ap
  simp only at b1 b2 b3 b4 b5
  refine ⟨b1, ?_⟩
  unfold subOf
  rw [b2, b3, b4, b5]
theorem sub_fw {V : ByteArray} {b : Nat} {o : ByteArray × Int} {s : Sb} (h : (sub o s).2 = 0) (hV : Has V b (sub o s).1) : Fw V b o (sub o s) (rdSub V) s := by
  unfold sub at h hV ⊢
  by_cases hq : (isQ s.q && isQ s.h) = true
  · rw [if_pos hq] at h hV ⊢
    obtain ⟨⟨h1, h2, h3⟩, _⟩ := nm_fw 1 h hV
    obtain ⟨k1, k2, k3⟩ := tx_fw h1 h2
    refine ⟨k1, k2, ?_⟩
    have e1 : (TX.getT V ((b + o.1.size : Nat) : Int)).1 = s.f := congrArg Prod.fst k3
    have e2 : (TX.getT V ((b + o.1.size : Nat) : Int)).2.1 = ((b + (tx o s.f).1.size : Nat) : Int) := congrArg (fun x => x.2.1) k3
    have e3 : cm (TX.getT V ((b + o.1.size : Nat) : Int)).2.2 = 0 := congrArg (fun x => x.2.2) k3
    have f1 : (VP.rd V ((b + (tx o s.f).1.size : Nat) : Int) 1).1 = subN s := congrArg Prod.fst h3
    have f2 : (VP.rd V ((b + (tx o s.f).1.size : Nat) : Int) 1).2.1 = ((b + (nm (tx o s.f) 1 (subN s)).1.size : Nat) : Int) := congrArg (fun x => x.2.1) h3
    have f3 : cm (VP.rd V ((b + (tx o s.f).1.size : Nat) : Int) 1).2.2 = 0 := congrArg (fun x => x.2.2) h3
    obtain ⟨g1, g2⟩ := sub_back s.q s.h s.nl s.ap hq s.f
    unfold rdSub
    rw [e1, e2, e3, f1, f2, f3, show subC (subN s) = 0 from g1, show subOf s.f (subN s) = s from g2]
    rfl
  · rw [if_neg hq] at h
    exact absurd (ad_split h).2.1 (by decide)
end PK
end Go.Proofs.YtjajandjdclifaaGreatDoor
namespace Go.Proofs.YtjajandjdclifaaGreatDoor
namespace PK
open PR (Has has_both has_ext has_nil has_mk has_left has_right has_self)

theorem nm1_pos {o : ByteArray × Int} {n : Int} (h : (nm o 1 n).2 = 0) : (nm o 1 n).1.size = o.1.size + 1 := by
  obtain ⟨_, h2, h3⟩ := ad_split h
  have hnn : 0 ≤ n ∧ n ≤ 255 := by
    unfold VP.fixC at h2
    repeat' split at h2
    all_goals first | omega | exact absurd h2 (by decide)
  rw [show (nm o 1 n).1 = o.1 ++ strOfNums (VP.fixL 1 n) from h3, ByteArray.size_append, (fix1_size hnn.1 hnn.2).1]
theorem putS_pos {t : ByteArray} (h : TX.putC t = 0) : 0 < (TX.putS t).size := by
  have hx := PR.getT_has (U := TX.putS t) (P := 0) h (has_self _)
  rcases Nat.eq_zero_or_pos (TX.putS t).size with hz | hz
  · exfalso
    have e : TX.putS t = ⟨#[]⟩ := by
      apply ByteArray.ext_getElem
      · exact hz
      · intro i h1 _; omega
    rw [e] at hx
    have hc : (TX.getT (ByteArray.mk #[]) ((0 : Nat) : Int)).2.2 = 242 := by decide +kernel
    rw [hx] at hc
    exact absurd hc (by simp)
  · exact hz
theorem tx_pos {o : ByteArray × Int} {t : ByteArray} (h : (tx o t).2 = 0) : o.1.size < (tx o t).1.size := by
  obtain ⟨_, h2, h3⟩ := ad_split h
  rw [show (tx o t).1 = o.1 ++ TX.putS t from h3, ByteArray.size_append]
  have := putS_pos h2
  omega
theorem sub_pos {o : ByteArray × Int} {s : Sb} (h : (sub o s).2 = 0) : o.1.size < (sub o s).1.size := by
  unfold sub at h ⊢
  by_cases hq : (isQ s.q && isQ s.h) = true
  · rw [if_pos hq] at h ⊢
    have h1 := nm1_pos h
    have h2 := tx_pos (ad_split h).1
    omega
  · rw [if_neg hq] at h
    exact absurd (ad_split h).2.1 (by decide)
section
variable {α : Type} {V : ByteArray} {b : Nat} {rd : Int → α × Int × Int} {f : ByteArray × Int → α → ByteArray × Int}
theorem fold_fw (hstep : ∀ o x, (f o x).2 = 0 → Has V b (f o x).1 → Fw V b o (f o x) rd x) (hpos : ∀ o x, (f o x).2 = 0 → o.1.size < (f o x).1.size) :
    ∀ (l : List α) (o : ByteArray × Int), (l.foldl f o).2 = 0 → Has V b (l.foldl f o).1 → o.2 = 0 ∧ Has V b o.1 ∧ o.1.size + l.length ≤ (l.foldl f o).1.size
  | [], o, h, hV => ⟨h, hV, by simp⟩
  | x :: l, o, h, hV => by
    rw [List.foldl_cons] at h hV ⊢
    obtain ⟨h1, h2, h3⟩ := fold_fw hstep hpos l (f o x) h hV
    obtain ⟨k1, k2, _⟩ := hstep o x h1 h2
    have := hpos o x h1
    exact ⟨k1, k2, by simp only [List.length_cons]; omega⟩
theorem lst_fw (hstep : ∀ o x, (f o x).2 = 0 → Has V b (f o x).1 → Fw V b o (f o x) rd x) (hpos : ∀ o x, (f o x).2 = 0 → o.1.size < (f o x).1.size) :
    ∀ (l : List α) (u : Nat) (out : List α) (o : ByteArray × Int), (l.foldl f o).2 = 0 → Has V b (l.foldl f o).1 → b + (l.foldl f o).1.size = V.size → (out ++ l).length ≠ 0 → (out ++ l).length ≤ 64 → l.length < u →
      lst rd V.size u ((b + o.1.size : Nat) : Int) out = (out ++ l, (V.size : Int), 0)
  | [], 0, _, _, _, _, _, _, _, h => absurd h (by simp)
  | [], u + 1, out, o, _, _, hz, hn, _, _ => by
    rw [List.foldl_nil] at hz
    rw [lst, if_pos (by rw [hz]), if_neg (by intro e; rw [e] at hn; exact hn rfl), hz, List.append_nil]
  | x :: l, 0, _, _, _, _, _, _, _, h => absurd h (by simp)
  | x :: l, u + 1, out, o, h, hV, hz, hn, hl, hu => by
    have hf := fold_fw hstep hpos (x :: l) o h hV
    rw [List.foldl_cons] at h hV hz
    obtain ⟨h1, h2, _⟩ := fold_fw hstep hpos l (f o x) h hV
    obtain ⟨k1, k2, k3⟩ := hstep o x h1 h2
    have hp := hpos o x h1
    have hfx := h2.1
    rw [lst, if_neg (by omega), if_neg (by simp at hl; omega), k3, if_neg (by simp)]
    have ih := lst_fw hstep hpos l u (out ++ [x]) (f o x) h hV hz (by simp) (by simpa using hl) (by simp at hu; omega)
    simp only
    rw [ih, List.append_assoc]
    rfl
end
theorem each_fw {α : Type} {V : ByteArray} {b : Nat} {rd : Int → α × Int × Int} {f : ByteArray × Int → α → ByteArray × Int} (hstep : ∀ o x, (f o x).2 = 0 → Has V b (f o x).1 → Fw V b o (f o x) rd x) (hpos : ∀ o x, (f o x).2 = 0 → o.1.size < (f o x).1.size) (o : ByteArray × Int) (l : List α)
    (h : (eachO o l f).2 = 0) (hV : Has V b (eachO o l f).1) (hz : b + (eachO o l f).1.size = V.size) : o.2 = 0 ∧ Has V b o.1 ∧ lst rd V.size 66 ((b + o.1.size : Nat) : Int) [] = (l, (V.size : Int), 0) := by
  unfold eachO at h hV hz
  by_cases h0 : l.length = 0
  · rw [if_pos h0] at h; exact absurd (ad_split h).2.1 (by decide)
  rw [if_neg h0] at h hV hz
  by_cases h1 : 64 < l.length
  · rw [if_pos h1] at h; exact absurd (ad_split h).2.1 (by decide)
  rw [if_neg h1] at h hV hz
  obtain ⟨k1, k2, _⟩ := fold_fw hstep hpos l o h hV
  exact ⟨k1, k2, lst_fw hstep hpos l 66 [] o h hV hz (by simpa using h0) (by simp; omega) (by omega)⟩
theorem rdHd_fw {V : ByteArray} {b : Nat} {o : ByteArray × Int} {i k : Int} {l : List Pr} (h : (pr (idd o i) k l).2 = 0) (hV : Has V b (pr (idd o i) k l).1) : Fw V b o (pr (idd o i) k l) (fun a => rdHd V a k) (i, l.map PR.nrm) := by
  obtain ⟨h1, h2, h3⟩ := pr_fw k h hV
  obtain ⟨k1, k2, k3⟩ := idd_fw h1 h2
  refine ⟨k1, k2, ?_⟩
  simp only at h3 ⊢
  unfold rdHd
  rw [k3]
  simp only
  rw [h3]
  rfl
end PK
end Go.Proofs.YtjajandjdclifaaGreatDoor
namespace Go.Proofs.YtjajandjdclifaaGreatDoor
namespace PK
open PR (Has has_both has_ext has_nil has_mk has_left has_right has_self)

theorem cfl_back (P : Pk) (h : P.hasWill = true → isQ P.wqos = true) : cflC (cflagsN P) = 0 ∧ (bits .and .i64 (cflagsN P) 4 != 0) = P.hasWill ∧ (bits .and .i64 (cflagsN P) 64 != 0) = P.hasPass ∧ (bits .and .i64 (cflagsN P) 128 != 0) = P.hasUser := by
  have hd : ∀ (x : Fin 3) (cl pa us wi wr : Bool), let n : Int := fl cl 2 + fl pa 64 + fl us 128 + if wi = true then 4 + 8 * ((x.val : Nat) : Int) + fl wr 32 else 0
      cflC n = 0 ∧ (bits .and .i64 n 4 != 0) = wi ∧ (bits .and .i64 n 64 != 0) = pa ∧ (bits .and .i64 n 128 != 0) = us := by decide +kernel
  by_cases hw : P.hasWill = true
  · have hq := h hw
    simp [isQ] at hq
    obtain ⟨x, hx⟩ := Int.eq_ofNat_of_zero_le hq.1
    have := hd ⟨x, by omega⟩ P.clean P.hasPass P.hasUser P.hasWill P.wret
    simp only [← hx] at this
    exact this
  · have hw' : P.hasWill = false := by simpa using hw
    have := hd ⟨0, by decide⟩ P.clean P.hasPass P.hasUser P.hasWill P.wret
    unfold cflagsN
    rw [hw'] at this ⊢
    exact this
theorem cflags_fw {V : ByteArray} {b : Nat} {o : ByteArray × Int} {P : Pk} (h : (cflags o P).2 = 0) (hV : Has V b (cflags o P).1) : Fw V b o (cflags o P) (rdFl V) (cflagsN P) ∧ (P.hasWill = true → isQ P.wqos = true) := by
  unfold cflags at h hV ⊢
  by_cases hw : (P.hasWill && !isQ P.wqos) = true
  · rw [if_pos hw] at h; exact absurd (ad_split h).2.1 (by decide)
  rw [if_neg hw] at h hV ⊢
  have hq : P.hasWill = true → isQ P.wqos = true := fun e => by
    rw [e] at hw; simpa using hw
  obtain ⟨⟨h1, h2, h3⟩, _⟩ := nm_fw 1 h hV
  refine ⟨⟨h1, h2, ?_⟩, hq⟩
  have e1 : (VP.rd V ((b + o.1.size : Nat) : Int) 1).1 = cflagsN P := congrArg Prod.fst h3
  have e2 : (VP.rd V ((b + o.1.size : Nat) : Int) 1).2.1 = ((b + (nm o 1 (cflagsN P)).1.size : Nat) : Int) := congrArg (fun x => x.2.1) h3
  have e3 : cm (VP.rd V ((b + o.1.size : Nat) : Int) 1).2.2 = 0 := congrArg (fun x => x.2.2) h3
  unfold rdFl
  rw [e1, e2, e3, (cfl_back P hq).1]
  rfl
theorem conn_fw {V : ByteArray} {b : Nat} {o : ByteArray × Int} {P : Pk} (P0 : Pk) (hk : P0.kind = 1) (h : (conn o P).2 = 0) (hV : Has V b (conn o P).1) :
    o.2 = 0 ∧ Has V b o.1 ∧ (rdConn V ((b + o.1.size : Nat) : Int) P0).2.2 = 0 ∧ (rdConn V ((b + o.1.size : Nat) : Int) P0).2.1 = ((b + (conn o P).1.size : Nat) : Int) := by
  have s4 : (conn3 (conn2 (conn1 o P) P) P).2 = 0 ∧ Has V b (conn3 (conn2 (conn1 o P) P) P).1 ∧ ∀ Q : Pk, Q.hasPass = P.hasPass → (rdPass V ((b + (conn3 (conn2 (conn1 o P) P) P).1.size : Nat) : Int) Q).2 = (((b + (conn o P).1.size : Nat) : Int), 0) := by
    unfold conn conn4 at h hV ⊢
    by_cases hp : P.hasPass = true
    · rw [if_pos hp] at h hV ⊢
      obtain ⟨h1, h2, h3⟩ := dt_fw h hV
      refine ⟨h1, h2, fun Q hQ => ?_⟩
      unfold rdPass
      rw [if_pos (by rw [hQ]; exact hp), h3, bnd_ok rfl]
    · rw [if_neg hp] at h hV ⊢
      refine ⟨h, hV, fun Q hQ => ?_⟩
      unfold rdPass
      rw [if_neg (by rw [hQ]; exact hp)]
  obtain ⟨h4, v4, r4⟩ := s4
  have s3 : (conn2 (conn1 o P) P).2 = 0 ∧ Has V b (conn2 (conn1 o P) P).1 ∧ ∀ Q : Pk, Q.hasPass = P.hasPass → Q.hasUser = P.hasUser → (rdUser V ((b + (conn2 (conn1 o P) P).1.size : Nat) : Int) Q).2 = (((b + (conn o P).1.size : Nat) : Int), 0) := by
    unfold conn3 at h4 v4 r4
    by_cases hp : P.hasUser = true
    · rw [if_pos hp] at h4 v4 r4
      obtain ⟨h1, h2, h3⟩ := tx_fw h4 v4
      refine ⟨h1, h2, fun Q hQ hU => ?_⟩
      unfold rdUser
      rw [if_pos (by rw [hU]; exact hp), h3, bnd_ok rfl]
      exact r4 _ hQ
    · rw [if_neg hp] at h4 v4 r4
      refine ⟨h4, v4, fun Q hQ hU => ?_⟩
      unfold rdUser
      rw [if_neg (by rw [hU]; exact hp)]
      exact r4 _ hQ
  obtain ⟨h3, v3, r3⟩ := s3
  have s2 : (conn1 o P).2 = 0 ∧ Has V b (conn1 o P).1 ∧ ∀ Q : Pk, Q.hasPass = P.hasPass → Q.hasUser = P.hasUser → Q.hasWill = P.hasWill → (rdWill V ((b + (conn1 o P).1.size : Nat) : Int) Q).2 = (((b + (conn o P).1.size : Nat) : Int), 0) := by
    unfold conn2 at h3 v3 r3
    by_cases hp : P.hasWill = true
    · rw [if_pos hp] at h3 v3 r3
      obtain ⟨a1, a2, a3⟩ := dt_fw h3 v3
      obtain ⟨b1, b2, b3⟩ := tx_fw a1 a2
      obtain ⟨c1, c2, c3⟩ := pr_fw 0 b1 b2
      refine ⟨c1, c2, fun Q hQ hU hW => ?_⟩
      simp only at c3
      unfold rdWill
      rw [if_pos (by rw [hW]; exact hp), c3, bnd_ok rfl, b3, bnd_ok rfl, a3, bnd_ok rfl]
      exact r3 _ hQ hU
    · rw [if_neg hp] at h3 v3 r3
      refine ⟨h3, v3, fun Q hQ hU hW => ?_⟩
      unfold rdWill
      rw [if_neg (by rw [hW]; exact hp)]
      exact r3 _ hQ hU
  obtain ⟨h2, v2, r2⟩ := s2
  unfold conn1 at h2 v2 r2
  obtain ⟨a1, a2, a3⟩ := tx_fw h2 v2
  obtain ⟨b1, b2, b3⟩ := pr_fw 1 a1 a2
  obtain ⟨⟨c1, c2, c3⟩, _⟩ := nm_fw 2 b1 b2
  obtain ⟨⟨d1, d2, d3⟩, dq⟩ := cflags_fw c1 c2
  obtain ⟨⟨e1, e2, e3⟩, _⟩ := nm_fw 1 d1 d2
  obtain ⟨f1, f2, f3⟩ := tx_fw e1 e2
  simp only at b3 c3 e3
  obtain ⟨g1, g2, g3, g4⟩ := cfl_back P dq
  have hfin := r2 { cflPk P0 (cflagsN P) with keep := P.keep, props := P.props.map PR.nrm, client := P.client } g3 g4 g2
  have hkk : (cflPk P0 (cflagsN P)).kind = 1 := hk
  have hall : rdConn V ((b + o.1.size : Nat) : Int) P0 = rdWill V ((b + (tx (pr (nm (cflags (nm (tx o ⟨#[77, 81, 84, 84]⟩) 1 5) P) 2 P.keep) 1 P.props) P.client).1.size : Nat) : Int) { cflPk P0 (cflagsN P) with keep := P.keep, props := P.props.map PR.nrm, client := P.client } := by
    unfold rdConn
    rw [f3, bnd_ok rfl, if_neg (by simp), e3, bnd_ok rfl, if_neg (by simp), d3, bnd_ok rfl]
    unfold rdConn1
    have b3' : rdPr V ((b + (nm (cflags (nm (tx o ⟨#[77, 81, 84, 84]⟩) 1 5) P) 2 P.keep).1.size : Nat) : Int) (cflPk P0 (cflagsN P)).kind = (P.props.map PR.nrm, ((b + (pr (nm (cflags (nm (tx o ⟨#[77, 81, 84, 84]⟩) 1 5) P) 2 P.keep) 1 P.props).1.size : Nat) : Int), 0) := by rw [hkk]; exact b3
    rw [c3, bnd_ok rfl, b3', bnd_ok rfl, a3, bnd_ok rfl]
  refine ⟨f1, f2, ?_, ?_⟩
  · rw [hall]; exact congrArg Prod.snd hfin
  · rw [hall]; exact congrArg Prod.fst hfin
theorem end_fw {V : ByteArray} {b : Nat} {o : ByteArray × Int} (k c : Int) (l : List Pr) (h : (endO o k c l).2 = 0) (hV : Has V b (endO o k c l).1) (hz : b + (endO o k c l).1.size = V.size) :
    o.2 = 0 ∧ Has V b o.1 ∧ rdEnd V ((b + o.1.size : Nat) : Int) k = ((c, l.map PR.nrm), (V.size : Int), 0) := by
  by_cases hl : l = []
  · subst hl
    have ho : o.2 = 0 ∧ VP.fixC 1 c = 0 := by
      unfold endO at h
      by_cases hc : c = 0
      · rw [if_pos ⟨hc, rfl⟩] at h
        exact ⟨h, by rw [hc]; exact (fix1_size (Int.le_refl 0) (by decide)).2⟩
      · rw [if_neg (fun e => hc e.1), if_pos rfl] at h
        exact ⟨(ad_split h).1, (ad_split h).2.1⟩
    obtain ⟨r1, r2⟩ := end_fwd k c ho.1 ho.2 hV hz
    exact ⟨ho.1, r2, r1⟩
  · unfold endO at h hV hz
    rw [if_neg (fun e => hl e.2), if_neg hl] at h hV hz
    obtain ⟨a1, a2, a3⟩ := pr_fw k h hV
    obtain ⟨⟨b1, b2, b3⟩, _⟩ := nm_fw 1 a1 a2
    simp only at a3 b3
    refine ⟨b1, b2, ?_⟩
    have hp1 := nm1_pos a1
    have hal : pr (nm o 1 c) k l = ad (nm o 1 c) (PR.putS l) (PR.putC l) := by
      by_cases hal : alAll k l = true
      · unfold pr; rw [if_pos hal]
      · unfold pr at h
        rw [if_neg hal] at h
        exact absurd (ad_split h).2.1 (by decide)
    have hp2 : (nm o 1 c).1.size < (pr (nm o 1 c) k l).1.size := by
      rw [hal] at h ⊢
      obtain ⟨_, c2, c3⟩ := ad_split h
      rw [c3, ByteArray.size_append]
      obtain ⟨_, _, e⟩ := PR.putS_is c2
      have hz2 := PR.allS_size l
      have e2 := VP.putL_len (n := ((PR.allS l).size : Int)) (by omega) (by omega)
      have e3 := (VP.sz_in (m := ((PR.allS l).size : Int)) (by omega) (by omega)).1
      have s1 : ∀ l : List Int, (strOfNums l).size = l.length := fun l => by simp [strOfNums, ByteArray.size]
      rw [e, ByteArray.size_append, s1]
      omega
    have hrc : rdC V ((b + o.1.size : Nat) : Int) = (c, ((b + (nm o 1 c).1.size : Nat) : Int), 0) := b3
    unfold rdEnd
    rw [if_neg (by omega), hrc]
    simp only
    rw [if_neg (by simp), if_neg (by omega), a3, hz]
theorem beg_back (P : Pk) (hk : 1 ≤ P.kind ∧ P.kind ≤ 15) (h3 : P.kind = 3 → canPub P = true) : (0 ≤ 16 * P.kind + flagsN P ∧ 16 * P.kind + flagsN P ≤ 255) ∧ begOk (16 * P.kind + flagsN P) = true ∧ (begPk (16 * P.kind + flagsN P)).kind = P.kind ∧ (P.kind = 3 → (begPk (16 * P.kind + flagsN P)).qos = P.qos) := by
  by_cases h : P.kind = 3
  · have hc := h3 h
    have hfl : flagsN P = fl P.dup 8 + 2 * P.qos + fl P.ret 1 := by unfold flagsN; rw [if_pos h]
    unfold canPub at hc
    have hq : 0 ≤ P.qos ∧ P.qos ≤ 2 := by
      simp [isQ] at hc; exact hc.1
    obtain ⟨x, hx⟩ := Int.eq_ofNat_of_zero_le hq.1
    have hd : ∀ (x : Fin 3) (d r : Bool), (isQ ((x.val : Nat) : Int) && (decide (0 < ((x.val : Nat) : Int)) || !d)) = true →
        let n : Int := 16 * 3 + (fl d 8 + 2 * ((x.val : Nat) : Int) + fl r 1)
        (0 ≤ n ∧ n ≤ 255) ∧ begOk n = true ∧ (begPk n).kind = 3 ∧ (begPk n).qos = ((x.val : Nat) : Int) := by decide +kernel
    have := hd ⟨x, by omega⟩ P.dup P.ret (by simp only [← hx]; exact hc)
    simp only [← hx] at this
    rw [hfl, h]
    exact ⟨this.1, this.2.1, this.2.2.1, fun _ => this.2.2.2⟩
  · have hfl : flagsN P = fixN P.kind := by unfold flagsN fixN; rw [if_neg h]
    have hf : fixN P.kind = 2 ∨ fixN P.kind = 0 := by unfold fixN; split <;> simp
    rw [hfl]
    have hd : (16 * P.kind + fixN P.kind) / 16 = P.kind := by omega
    have hm : (16 * P.kind + fixN P.kind) % 16 = fixN P.kind := by omega
    refine ⟨by omega, ?_, ?_, fun e => absurd e h⟩
    · unfold begOk
      rw [hd, hm, if_neg h]
      simp [isK]
      omega
    · unfold begPk
      rw [hd, if_neg h]
      rfl
end PK
end Go.Proofs.YtjajandjdclifaaGreatDoor
namespace Go.Proofs.YtjajandjdclifaaGreatDoor
namespace PK
open PR (Has has_both has_ext has_nil has_mk has_left has_right has_self)

theorem C_fw {V : ByteArray} {b : Nat} (o : ByteArray × Int) (c : Int) (h : (nm o 1 c).2 = 0) (hV : Has V b (nm o 1 c).1) : Fw V b o (nm o 1 c) (rdC V) c := (nm_fw 1 h hV).1
/-- What follows the length is read without a code, up to the end. -/
theorem parts_fw {V : ByteArray} {b : Nat} {o : ByteArray × Int} (P P0 : Pk) (_hk : 1 ≤ P.kind ∧ P.kind ≤ 15) (hk0 : P0.kind = P.kind) (hq : P.kind = 3 → P0.qos = P.qos) (h : (parts o P).2 = 0) (hV : Has V b (parts o P).1) (hz : b + (parts o P).1.size = V.size) :
    o.2 = 0 ∧ Has V b o.1 ∧ (partsK P.kind V ((b + o.1.size : Nat) : Int) P0).2 = ((V.size : Int), 0) := by
  unfold parts at h hV hz
  unfold partsK
  by_cases k1 : P.kind = 1
  · rw [if_pos k1] at h hV hz ⊢
    obtain ⟨a1, a2, a3, a4⟩ := conn_fw P0 (hk0.trans k1) h hV
    exact ⟨a1, a2, Prod.ext (by rw [a4, hz]) a3⟩
  rw [if_neg k1] at h hV hz ⊢
  by_cases k2 : P.kind = 2
  · rw [if_pos k2] at h hV hz ⊢
    obtain ⟨a1, a2, a3⟩ := pr_fw P.kind h hV
    obtain ⟨⟨b1, b2, b3⟩, _⟩ := nm_fw 1 a1 a2
    obtain ⟨c1, c2, c3⟩ := ses_fw b1 b2
    simp only at a3 b3
    refine ⟨c1, c2, ?_⟩
    rw [c3, bnd_ok rfl, show rdC V _ = _ from b3, bnd_ok rfl, a3, bnd_ok rfl, hz]
  rw [if_neg k2] at h hV hz ⊢
  by_cases k3 : P.kind = 3
  · rw [if_pos k3] at h hV hz ⊢
    unfold pub pub1 at h hV hz
    obtain ⟨a1, _, a2, a3, a4⟩ := ad_fw h hV
    obtain ⟨b1, b2, b3⟩ := pr_fw P.kind a1 a2
    simp only at b3
    have hid : (tx o P.topic).2 = 0 ∧ Has V b (tx o P.topic).1 ∧ ∃ i, rdI V ((b + (tx o P.topic).1.size : Nat) : Int) P0.qos P0.id = (i, ((b + (if 0 < P.qos then idd (tx o P.topic) P.id else tx o P.topic).1.size : Nat) : Int), 0) := by
      unfold rdI
      rw [hq k3]
      by_cases q0 : 0 < P.qos
      · simp only [if_pos q0] at b1 b2 ⊢
        obtain ⟨c1, c2, c3⟩ := idd_fw b1 b2
        exact ⟨c1, c2, _, c3⟩
      · simp only [if_neg q0] at b1 b2 ⊢
        exact ⟨b1, b2, _, rfl⟩
    obtain ⟨c1, c2, i, c3⟩ := hid
    obtain ⟨d1, d2, d3⟩ := tx_fw c1 c2
    refine ⟨d1, d2, ?_⟩
    unfold rdPub
    rw [d3]
    simp only
    rw [c3]
    simp only
    rw [b3]
    rfl
  rw [if_neg k3] at h hV hz ⊢
  by_cases k8 : P.kind = 8
  · rw [if_pos k8] at h hV hz ⊢
    obtain ⟨a1, a2, a3⟩ := each_fw (rd := rdSub V) (fun o x => sub_fw) (fun o x => sub_pos) _ _ h hV hz
    obtain ⟨b1, b2, b3⟩ := rdHd_fw a1 a2
    simp only at b3
    exact ⟨b1, b2, by rw [b3, bnd_ok rfl, show lst _ _ _ ((b + (pr (idd o P.id) P.kind P.props).1.size : Nat) : Int) [] = _ from a3, bnd_ok rfl]⟩
  rw [if_neg k8] at h hV hz ⊢
  by_cases k10 : P.kind = 10
  · rw [if_pos k10] at h hV hz ⊢
    obtain ⟨a1, a2, a3⟩ := each_fw (rd := rdT V) (fun o x => tx_fw) (fun o x => tx_pos) _ _ h hV hz
    obtain ⟨b1, b2, b3⟩ := rdHd_fw a1 a2
    simp only at b3
    exact ⟨b1, b2, by rw [b3, bnd_ok rfl, show lst _ _ _ ((b + (pr (idd o P.id) P.kind P.props).1.size : Nat) : Int) [] = _ from a3, bnd_ok rfl]⟩
  rw [if_neg k10] at h hV hz ⊢
  by_cases k9 : P.kind = 9 ∨ P.kind = 11
  · rw [if_pos k9] at h hV hz ⊢
    obtain ⟨a1, a2, a3⟩ := each_fw (rd := rdC V) C_fw (fun o x hh => by have := nm1_pos hh; omega) _ _ h hV hz
    obtain ⟨b1, b2, b3⟩ := rdHd_fw a1 a2
    simp only at b3
    exact ⟨b1, b2, by rw [b3, bnd_ok rfl, show lst _ _ _ ((b + (pr (idd o P.id) P.kind P.props).1.size : Nat) : Int) [] = _ from a3, bnd_ok rfl]⟩
  rw [if_neg k9] at h hV hz ⊢
  by_cases k4 : P.kind = 4 ∨ P.kind = 5 ∨ P.kind = 6 ∨ P.kind = 7
  · rw [if_pos k4] at h hV hz ⊢
    obtain ⟨a1, a2, a3⟩ := end_fw P.kind P.code P.props h hV hz
    obtain ⟨b1, b2, b3⟩ := idd_fw a1 a2
    refine ⟨b1, b2, ?_⟩
    rw [b3, bnd_ok rfl]
    unfold rdEndP
    rw [a3]
  rw [if_neg k4] at h hV hz ⊢
  by_cases k14 : P.kind = 14 ∨ P.kind = 15
  · rw [if_pos k14] at h hV hz ⊢
    obtain ⟨a1, a2, a3⟩ := end_fw P.kind P.code P.props h hV hz
    refine ⟨a1, a2, ?_⟩
    unfold rdEndP
    rw [a3]
  rw [if_neg k14] at h hV hz ⊢
  exact ⟨h, hV, by rw [hz]⟩
/-- A packet without a code is read back from its bytes. -/
theorem put_read (P : Pk) (hc : putC P = 0) : (getPk (putS P)).2 = 0 ∧ (1 ≤ P.kind ∧ P.kind ≤ 15) ∧ b0 (putS P) = 16 * P.kind + flagsN P ∧ (begPk (b0 (putS P))).kind = P.kind := by
  have hk : 1 ≤ P.kind ∧ P.kind ≤ 15 := by
    unfold putC at hc
    by_cases h : P.kind < 1 ∨ 15 < P.kind
    · rw [if_pos h] at hc; exact absurd hc (by decide)
    · omega
  have hb2 : (bodyO P).2 = 0 := by
    unfold putC at hc
    rw [if_neg (by omega)] at hc
    by_cases h1 : (bodyO P).2 ≠ 0
    · rw [if_pos h1] at hc; exact absurd hc h1
    · exact Classical.not_not.1 h1
  have h3 : P.kind = 3 → canPub P = true := fun h => by
    by_cases hp : canPub P = true
    · exact hp
    · exfalso
      have e : flagsO P = (⟨#[]⟩, 129) := by unfold flagsO; rw [if_pos ⟨h, by simpa using hp⟩]
      unfold bodyO parts at hb2
      rw [if_neg (by omega), if_neg (by omega), if_pos h, e] at hb2
      have a1 := (ad_split hb2).1
      have a2 : (pub1 (⟨#[]⟩, 129) P).2 = 0 := by
        unfold pr at a1
        split at a1
        · exact (ad_split a1).1
        · exact (ad_split (ad_split a1).1).1
      unfold pub1 at a2
      split at a2
      · unfold idd at a2
        split at a2
        · exact absurd (ad_split (ad_split (ad_split a2).1).1).1 (by decide)
        · exact absurd (ad_split (ad_split a2).1).1 (by decide)
      · exact absurd (ad_split a2).1 (by decide)
  obtain ⟨g0, g1, g2, g3⟩ := beg_back P hk h3
  have hfl : flagsO P = (⟨#[]⟩, 0) := by unfold flagsO; rw [if_neg (fun e => by rw [h3 e.1] at e; exact absurd e.2 (by decide))]
  obtain ⟨b, p1, p2, p3, p4, p5, p6, p7⟩ := putS_head hk hc g0
  have hbo : bodyO P = parts (⟨#[]⟩, 0) P := by unfold bodyO; rw [hfl]
  rw [hbo] at p1 p2 p3 p5
  obtain ⟨_, _, r3⟩ := parts_fw (o := (⟨#[]⟩, 0)) P (begPk (b0 (putS P))) hk (by rw [p4]; exact g2) (fun h => by rw [p4]; exact g3 h) (by rw [← hbo]; exact hb2) p3 p2
  refine ⟨?_, hk, p4, by rw [p4]; exact g2⟩
  have hd : hdC (putS P) = 0 := by
    unfold hdC
    rw [p1]
    simp only [if_true]
    unfold lenC
    rw [if_neg (by omega), if_neg (by omega), if_neg (by omega)]
  have hw : (rdWhole (putS P) (b : Int) (begPk (b0 (putS P)))).2 = 0 := by
    unfold rdWhole
    rw [show (begPk (b0 (putS P))).kind = P.kind by rw [p4]; exact g2]
    have e1 := congrArg Prod.fst r3
    have e2 := congrArg Prod.snd r3
    simp only at e1 e2
    rw [show ((b : Nat) : Int) = ((b + ((⟨#[]⟩, 0) : ByteArray × Int).1.size : Nat) : Int) from rfl, e1, e2, if_pos rfl]
    rfl
  unfold getPk
  rw [if_neg (by omega), p4, g1, if_neg (by decide), if_neg (by rw [hd]; decide), p1]
  simp only
  rw [p4] at hw
  rw [if_neg (by rw [hw]; decide)]
end PK
end Go.Proofs.YtjajandjdclifaaGreatDoor
namespace Go.Proofs.YtjajandjdclifaaGreatDoor
namespace ST
/-- X stands at the beginning of Y. -/
def Beg (X Y : ByteArray) : Prop := X.size ≤ Y.size ∧ ∀ (j : Nat) (h1 : j < X.size) (h2 : j < Y.size), X[j]'h1 = Y[j]'h2
theorem getG_keeps {X Y : ByteArray} (hb : Beg X Y) (k : Nat) : ∀ (u i : Nat) (n : Int), (VP.getG X k u i n).2.2 ≠ 242 → VP.getG Y k u i n = VP.getG X k u i n
  | 0, i, n, _ => by rw [VP.getG_0, VP.getG_0]
  | u + 1, i, n, h => by
    by_cases h1 : k + i < X.size
    · have h2 : k + i < Y.size := Nat.lt_of_lt_of_le h1 hb.1
      have e := hb.2 (k + i) h1 h2
      rw [VP.getG, dif_pos h1] at h
      rw [VP.getG, VP.getG, dif_pos h1, dif_pos h2, ← e]
      split
      · rfl
      · rename_i h3
        rw [if_neg h3] at h
        exact getG_keeps hb k u (i + 1) _ h
    · rw [VP.getG_end X k u i n h1] at h
      exact absurd rfl h
theorem get_keeps {X Y : ByteArray} (hb : Beg X Y) (k : Nat) (hk : k ≤ X.size) (h : (VP.get X (k : Int)).2.2 ≠ 242) : VP.get Y (k : Int) = VP.get X (k : Int) := by
  rw [VP.get_in X k hk] at h ⊢
  rw [VP.get_in Y k (Nat.le_trans hk hb.1)]
  exact getG_keeps hb k 4 0 0 h
theorem first_keeps {X Y : ByteArray} (hb : Beg X Y) (m : Int) (h : (first X m).2 ≠ 242) : first Y m = first X m := by
  unfold first at h ⊢
  by_cases h0 : X.size = 0
  · rw [if_pos h0] at h; exact absurd rfl h
  rw [if_neg h0] at h ⊢
  have hY : Y.size ≠ 0 := by have := hb.1; omega
  rw [if_neg hY]
  by_cases h1 : (VP.get X 1).2.2 = 242
  · rw [if_pos (by rw [h1]; decide)] at h
    exact absurd h1 h
  have hg : VP.get Y 1 = VP.get X 1 := get_keeps hb 1 (by omega) h1
  rw [hg]
  by_cases h2 : (VP.get X 1).2.2 ≠ 0
  · rw [if_pos h2, if_pos h2]
  rw [if_neg h2] at h
  rw [if_neg h2, if_neg h2]
  by_cases h3 : m < (VP.get X 1).2.1 + (VP.get X 1).1
  · rw [if_pos h3, if_pos h3]
  rw [if_neg h3] at h
  rw [if_neg h3, if_neg h3]
  by_cases h4 : (X.size : Int) < (VP.get X 1).2.1 + (VP.get X 1).1
  · rw [if_pos h4] at h; exact absurd rfl h
  rw [if_neg h4, if_neg (by have := hb.1; omega)]
theorem beg_drop {X Y : ByteArray} (hb : Beg X Y) (a : Nat) (ha : a ≤ X.size) : Beg (X.extract a X.size) (Y.extract a Y.size) := by
  refine ⟨by rw [ByteArray.size_extract, ByteArray.size_extract]; have := hb.1; omega, fun j h1 h2 => ?_⟩
  rw [ByteArray.size_extract] at h1 h2
  rw [ByteArray.getElem_extract, ByteArray.getElem_extract]
  exact hb.2 (a + j) (by omega) (by omega)
theorem beg_part {X Y : ByteArray} (hb : Beg X Y) (a k : Nat) (hk : a + k ≤ X.size) : Y.extract a (a + k) = X.extract a (a + k) := by
  have := hb.1
  apply ByteArray.ext_getElem
  · rw [ByteArray.size_extract, ByteArray.size_extract]; omega
  · intro i h1 h2
    rw [ByteArray.size_extract] at h1 h2
    rw [ByteArray.getElem_extract, ByteArray.getElem_extract]
    exact (hb.2 (a + i) (by omega) (by omega)).symm
/-- Fuel that is enough. -/
theorem thr_fuel (s : ByteArray) (m : Int) (f : ByteArray → Int) : ∀ (u v a : Nat), a ≤ s.size → s.size < a + u → s.size < a + v → thr s m f u a = thr s m f v a
  | 0, v, a, h, h1, _ => by omega
  | u + 1, 0, a, h, _, h2 => by omega
  | u + 1, v + 1, a, h, h1, h2 => by
    rw [thr, thr]
    by_cases hf : (first (s.extract a s.size) m).2 = 0
    · obtain ⟨k, hk, hk1, hk2⟩ := first_ok _ _ hf
      rw [ByteArray.size_extract] at hk2
      rw [hk]
      simp only [Int.toNat_natCast]
      rw [thr_fuel s m f u v (a + k) (by omega) (by omega) (by omega)]
    · rw [if_neg hf, if_neg hf]
/-- More bytes behind: what was told stays; behind a code nothing is. -/
theorem thr_more {X Y : ByteArray} (hb : Beg X Y) (m : Int) (f : ByteArray → Int) : ∀ (u v a : Nat), a ≤ X.size → X.size < a + u → Y.size < a + v →
    ((thr X m f u a).2.2 ≠ 0 → (thr Y m f v a).1 = (thr X m f u a).1 ∧ (thr Y m f v a).2.2 = (thr X m f u a).2.2) ∧
    ((thr X m f u a).2.2 = 0 → (thr X m f u a).2.1 ≤ X.size ∧ (first (X.extract (thr X m f u a).2.1 X.size) m).2 = 242 ∧ ∀ v', Y.size < (thr X m f u a).2.1 + v' → (thr Y m f v a).1 = (thr X m f u a).1 ++ (thr Y m f v' (thr X m f u a).2.1).1 ∧ (thr Y m f v a).2.2 = (thr Y m f v' (thr X m f u a).2.1).2.2)
  | 0, v, a, h, h1, _ => by omega
  | u + 1, v, a, h, h1, h2 => by
    obtain ⟨v, rfl⟩ : ∃ w, v = w + 1 := ⟨v - 1, by have := hb.1; omega⟩
    by_cases h242 : (first (X.extract a X.size) m).2 = 242
    · have e : thr X m f (u + 1) a = ([], a, 0) := by rw [thr, if_neg (by rw [h242]; decide), if_pos h242]
      rw [e]
      refine ⟨fun h => absurd rfl h, fun _ => ⟨h, h242, fun v' hv' => ?_⟩⟩
      rw [thr_fuel Y m f (v + 1) v' a (Nat.le_trans h hb.1) h2 hv']
      exact ⟨rfl, rfl⟩
    · have hk := first_keeps (beg_drop hb a h) m h242
      by_cases hf : (first (X.extract a X.size) m).2 = 0
      · obtain ⟨k, hk0, hk1, hk2⟩ := first_ok _ _ hf
        rw [ByteArray.size_extract] at hk2
        have hpart := beg_part hb a k (by omega)
        rw [hk0] at hk
        by_cases hc : f (X.extract a (a + k)) = 0
        · have eX : thr X m f (u + 1) a = (X.extract a (a + k) :: (thr X m f u (a + k)).1, (thr X m f u (a + k)).2) := by rw [thr, hk0]; simp [hc]
          have eY : thr Y m f (v + 1) a = (X.extract a (a + k) :: (thr Y m f v (a + k)).1, (thr Y m f v (a + k)).2) := by rw [thr, hk]; simp [hpart, hc]
          have ih := thr_more hb m f u v (a + k) (by omega) (by omega) (by omega)
          rw [eX, eY]
          refine ⟨fun h0 => ?_, fun h0 => ?_⟩
          · obtain ⟨i1, i2⟩ := ih.1 h0
            exact ⟨by simp only; rw [i1], i2⟩
          · obtain ⟨i0, i1, i2⟩ := ih.2 h0
            refine ⟨i0, i1, fun v' hv' => ?_⟩
            obtain ⟨j1, j2⟩ := i2 v' hv'
            exact ⟨by simp only [List.cons_append]; rw [j1], j2⟩
        · have eX : thr X m f (u + 1) a = ([], a, f (X.extract a (a + k))) := by rw [thr, hk0]; simp [hc]
          have eY : thr Y m f (v + 1) a = ([], a, f (X.extract a (a + k))) := by rw [thr, hk]; simp [hpart, hc]
          rw [eX, eY]
          exact ⟨fun _ => ⟨rfl, rfl⟩, fun h0 => absurd h0 hc⟩
      · have eX : thr X m f (u + 1) a = ([], a, (first (X.extract a X.size) m).2) := by rw [thr, if_neg hf, if_neg h242]
        have eY : thr Y m f (v + 1) a = ([], a, (first (X.extract a X.size) m).2) := by rw [thr, hk, if_neg hf, if_neg h242]
        rw [eX, eY]
        exact ⟨fun _ => ⟨rfl, rfl⟩, fun h0 => absurd h0 hf⟩
/-- From a place on: as of the bytes from there on. -/
theorem thr_drop (s : ByteArray) (m : Int) (f : ByteArray → Int) (b : Nat) : ∀ (u a : Nat), (thr s m f u (b + a)).1 = (thr (s.extract b s.size) m f u a).1 ∧ (thr s m f u (b + a)).2.2 = (thr (s.extract b s.size) m f u a).2.2
  | 0, a => ⟨rfl, rfl⟩
  | u + 1, a => by
    have hz : (s.extract b s.size).size = s.size - b := by rw [ByteArray.size_extract]; omega
    have e1 : (s.extract b s.size).extract a (s.extract b s.size).size = s.extract (b + a) s.size := by
      rw [hz, ByteArray.extract_extract]; congr 1; omega
    rw [thr, thr, e1]
    by_cases hf : (first (s.extract (b + a) s.size) m).2 = 0
    · obtain ⟨k, hk, hk1, hk2⟩ := first_ok _ _ hf
      rw [ByteArray.size_extract] at hk2
      rw [hk]
      simp only [Int.toNat_natCast, if_true]
      have e2 : (s.extract b s.size).extract a (a + k) = s.extract (b + a) (b + a + k) := by
        rw [ByteArray.extract_extract]; congr 1; omega
      rw [e2]
      have ih := thr_drop s m f b u (a + k)
      rw [show b + (a + k) = b + a + k by omega] at ih
      split
      · exact ⟨by simp only; rw [ih.1], ih.2⟩
      · exact ⟨rfl, rfl⟩
    · rw [if_neg hf, if_neg hf]
      exact ⟨rfl, rfl⟩
end ST
end Go.Proofs.YtjajandjdclifaaGreatDoor
namespace Go.Proofs.YtjajandjdclifaaGreatDoor
namespace PK
open _root_.Go.Proofs.YtjajandjdclifaaGreatDoor.ST
theorem beg_cut (s : ByteArray) (k : Nat) : Beg (s.extract 0 k) s := by
  refine ⟨by rw [ByteArray.size_extract]; omega, fun j h1 h2 => ?_⟩
  rw [ByteArray.getElem_extract]
  simp only [Nat.zero_add]
theorem beg_app (s t : ByteArray) : Beg s (s ++ t) := by
  refine ⟨by rw [ByteArray.size_append]; omega, fun j h1 h2 => ?_⟩
  exact (ByteArray.getElem_append_left h1).symm
theorem b0_beg {X Y : ByteArray} (h : Beg X Y) (h0 : 0 < X.size) : b0 X = b0 Y := by
  unfold b0
  rw [dif_pos h0, dif_pos (Nat.lt_of_lt_of_le h0 h.1), h.2 0 h0 (Nat.lt_of_lt_of_le h0 h.1)]
/-- Cut off anywhere they are too few. -/
theorem cut_none (P : Pk) (hc : putC P = 0) (k : Nat) (hk : k < (putS P).size) : (getPk ((putS P).extract 0 k)).2 = 242 := by
  obtain ⟨m, b, i1, i2, i3, i4, i5, _⟩ := getPk_inv (put_read P hc).1
  have hb := beg_cut (putS P) k
  have hs : ((putS P).extract 0 k).size = k := by rw [ByteArray.size_extract]; omega
  unfold getPk
  by_cases h0 : k = 0
  · rw [if_pos (by omega)]
  · rw [if_neg (by omega), b0_beg hb (by omega), if_neg (by rw [i1]; decide)]
    have hd : hdC ((putS P).extract 0 k) = 242 := by
      unfold hdC
      by_cases h : (VP.get ((putS P).extract 0 k) 1).2.2 = 242
      · rw [h, if_neg (by decide)]
      · have e := get_keeps hb 1 (by omega) h
        have e' : VP.get ((putS P).extract 0 k) 1 = ((m : Int), (b : Int), 0) := e.symm.trans i3
        rw [e', hs]
        show (if (0 : Int) = 0 then lenC (m : Int) ((k : Int) - (b : Int)) else 0) = 242
        rw [if_pos rfl]
        unfold lenC
        rw [if_neg (by omega), if_pos (by omega)]
    rw [hd, if_pos (by decide)]
/-- With a byte more they are none. -/
theorem more_bad (P : Pk) (hc : putC P = 0) (t : ByteArray) (ht : t.size = 1) : (getPk (putS P ++ t)).2 = 129 := by
  obtain ⟨m, b, i1, i2, i3, i4, i5, _⟩ := getPk_inv (put_read P hc).1
  have hb := beg_app (putS P) t
  have hs : (putS P ++ t).size = (putS P).size + 1 := by rw [ByteArray.size_append, ht]
  unfold getPk
  rw [if_neg (by omega), ← b0_beg hb i2, if_neg (by rw [i1]; decide)]
  have hd : hdC (putS P ++ t) = 129 := by
    unfold hdC
    have e := get_keeps hb 1 (by omega) (show (VP.get (putS P) ((1 : Nat) : Int)).2.2 ≠ 242 by rw [show VP.get (putS P) ((1 : Nat) : Int) = _ from i3]; show (0 : Int) ≠ 242; decide)
    have e' : VP.get (putS P ++ t) 1 = ((m : Int), (b : Int), 0) := e.trans i3
    rw [e', hs]
    show (if (0 : Int) = 0 then lenC (m : Int) ((((putS P).size + 1 : Nat) : Int) - (b : Int)) else 0) = 129
    rw [if_pos rfl]
    unfold lenC
    rw [if_neg (by omega), if_neg (by omega), if_pos (by omega)]
  rw [hd, if_pos (by decide)]
/-- With other flags a packet that is no Publish is none. -/
theorem flags_bad (P : Pk) (hc : putC P = 0) (h3 : P.kind ≠ 3) (t : ByteArray) (h0 : 0 < t.size) (hq : b0 t / 16 = b0 (putS P) / 16) (hr : b0 t % 16 ≠ b0 (putS P) % 16) : (getPk t).2 = 129 := by
  obtain ⟨m, b, i1, i2, _⟩ := getPk_inv (put_read P hc).1
  obtain ⟨_, hk, hb, hg⟩ := put_read P hc
  have n3 : b0 (putS P) / 16 ≠ 3 := fun h => by
    unfold begPk at hg
    rw [if_pos h] at hg
    exact h3 hg.symm
  have hbad : begOk (b0 t) = false := by
    unfold begOk at i1 ⊢
    rw [if_neg n3] at i1
    rw [hq, if_neg n3]
    rw [Bool.and_eq_true, beq_iff_eq] at i1
    rw [i1.1, Bool.true_and, beq_eq_false_iff_ne, ← i1.2]
    exact hr
  unfold getPk
  rw [if_neg (by omega), if_pos hbad]
end PK
end Go.Proofs.YtjajandjdclifaaGreatDoor
namespace Go.Proofs.YtjajandjdclifaaGreatDoor
namespace PK
open PR (Has has_both has_ext has_nil has_mk has_left has_right has_self)
/-- What is read is put the same again, or it ends early. -/
theorem twice_or (s : ByteArray) (h : (getPk s).2 = 0) : putS (getPk s).1 = s ∨ (((begPk (b0 s)).kind = 4 ∨ (begPk (b0 s)).kind = 5 ∨ (begPk (b0 s)).kind = 6 ∨ (begPk (b0 s)).kind = 7 ∨ (begPk (b0 s)).kind = 14 ∨ (begPk (b0 s)).kind = 15) ∧ (getPk s).1.props = []) := by
  obtain ⟨m, b, hok, hpos, _, hm, hbm, hb, hL, hc, he, hX⟩ := getPk_inv h
  have hX1 : (getPk s).1 = (partsK (begPk (b0 s)).kind s b (begPk (b0 s))).1 := by rw [hX]
  have hbn : 0 ≤ b0 s ∧ b0 s ≤ 255 := by
    unfold b0
    rw [dif_pos hpos]
    have := VP.byte_lt s 0 hpos
    omega
  obtain ⟨hk1, hk2, hB⟩ := beg_kind (b0 s) hok
  obtain ⟨hfirst, hflO⟩ := beg_first (b0 s) hbn.1 hbn.2 hok
  have hA0 : At s b (⟨#[]⟩, 0) (b : Int) := ⟨rfl, has_nil (by omega), rfl⟩
  have fin : ∀ Q : Pk, Q = (getPk s).1 → putC Q = 0 ∧ putS Q = s → putS (getPk s).1 = s ∨ (((begPk (b0 s)).kind = 4 ∨ (begPk (b0 s)).kind = 5 ∨ (begPk (b0 s)).kind = 6 ∨ (begPk (b0 s)).kind = 7 ∨ (begPk (b0 s)).kind = 14 ∨ (begPk (b0 s)).kind = 15) ∧ (getPk s).1.props = []) := fun Q hQ hd => by
    subst hQ
    exact .inl hd.2
  rw [hX1] at fin ⊢
  by_cases hke : (begPk (b0 s)).kind = 1 ∨ (begPk (b0 s)).kind = 2 ∨ (begPk (b0 s)).kind = 3 ∨ (begPk (b0 s)).kind = 8 ∨ (begPk (b0 s)).kind = 9 ∨ (begPk (b0 s)).kind = 10 ∨ (begPk (b0 s)).kind = 11 ∨ (begPk (b0 s)).kind = 12 ∨ (begPk (b0 s)).kind = 13
  · obtain ⟨hA, hQk⟩ := parts_inv (begPk (b0 s)) hke hA0 hc he
    have h3 : (begPk (b0 s)).kind = 3 → (partsK (begPk (b0 s)).kind s b (begPk (b0 s))).1.dup = (begPk (b0 s)).dup ∧ (partsK (begPk (b0 s)).kind s b (begPk (b0 s))).1.ret = (begPk (b0 s)).ret ∧ (partsK (begPk (b0 s)).kind s b (begPk (b0 s))).1.qos = (begPk (b0 s)).qos := fun hk3 => by
      unfold partsK
      rw [if_neg (by omega), if_neg (by omega), if_pos hk3]
      exact ⟨rfl, rfl, rfl⟩
    obtain ⟨f1, f2⟩ := flags_same hQk h3
    have hbo : bodyO (partsK (begPk (b0 s)).kind s b (begPk (b0 s))).1 = parts (⟨#[]⟩, 0) (partsK (begPk (b0 s)).kind s b (begPk (b0 s))).1 := by
      unfold bodyO
      rw [f2]
      exact congrArg (fun x => parts x _) hflO
    rw [← hbo] at hA
    exact fin _ rfl (exact_done (by rw [hQk]; exact ⟨hk1, hk2⟩) hA hm hbm hb hL (by rw [hQk, f1]; exact hfirst) hpos)
  · have hn3 : (begPk (b0 s)).kind ≠ 3 := fun e => hke (by omega)
    by_cases hk4 : (begPk (b0 s)).kind = 4 ∨ (begPk (b0 s)).kind = 5 ∨ (begPk (b0 s)).kind = 6 ∨ (begPk (b0 s)).kind = 7
    · have e : ∀ (V : ByteArray) (a : Int), partsK (begPk (b0 s)).kind V a (begPk (b0 s)) = bnd (begPk (b0 s)) (rdId V a) (fun i a => rdEndP V a (begPk (b0 s)).kind { begPk (b0 s) with id := i }) := fun V a => by unfold partsK; rw [if_neg (by omega), if_neg (by omega), if_neg (by omega), if_neg (by omega), if_neg (by omega), if_neg (by omega), if_pos hk4]
      rw [e] at hc he fin ⊢
      obtain ⟨c1, e1⟩ := bnd_inv hc
      obtain ⟨i, a1, h1, hA1⟩ := rdId_inv hA0 c1
      rw [e1, h1] at hc he fin ⊢
      obtain ⟨c, l, a2, h2, hA2, hor⟩ := end_inv (begPk (b0 s)).kind hA1 hc he
      obtain ⟨Q, hQ⟩ : ∃ Q, Q = (rdEndP s a1 (begPk (b0 s)).kind { begPk (b0 s) with id := i }).1 := ⟨_, rfl⟩
      have hQe : Q = { begPk (b0 s) with id := i, code := c, props := l } := by rw [hQ]; unfold rdEndP; rw [h2]
      have hQk : Q.kind = (begPk (b0 s)).kind := by rw [hQe]
      obtain ⟨f1, f2⟩ := flags_same hQk (fun h => absurd h hn3)
      have hbo : bodyO Q = endO (idd (⟨#[]⟩, 0) i) (begPk (b0 s)).kind c l := by
        unfold bodyO
        rw [f2, show flagsO (begPk (b0 s)) = (⟨#[]⟩, 0) from hflO]
        unfold parts
        rw [hQk, if_neg (by omega), if_neg (by omega), if_neg (by omega), if_neg (by omega), if_neg (by omega), if_neg (by omega), if_pos hk4, hQe]
        rfl
      rw [← hbo] at hA2
      simp only at fin ⊢
      rw [← hQ] at fin ⊢
      rcases hor with rfl | ⟨hl, hf⟩
      · exact fin _ rfl (exact_done (by rw [hQk]; exact ⟨hk1, hk2⟩) hA2 hm hbm hb hL (by rw [hQk, f1]; exact hfirst) hpos)
      · exact .inr ⟨by omega, by rw [hQe]; exact hl⟩
    · have hk14 : (begPk (b0 s)).kind = 14 ∨ (begPk (b0 s)).kind = 15 := by omega
      have e : ∀ (V : ByteArray) (a : Int), partsK (begPk (b0 s)).kind V a (begPk (b0 s)) = rdEndP V a (begPk (b0 s)).kind (begPk (b0 s)) := fun V a => by unfold partsK; rw [if_neg (by omega), if_neg (by omega), if_neg (by omega), if_neg (by omega), if_neg (by omega), if_neg (by omega), if_neg hk4, if_pos hk14]
      rw [e] at hc he fin ⊢
      obtain ⟨c, l, a2, h2, hA2, hor⟩ := end_inv (begPk (b0 s)).kind hA0 hc he
      obtain ⟨Q, hQ⟩ : ∃ Q, Q = (rdEndP s b (begPk (b0 s)).kind (begPk (b0 s))).1 := ⟨_, rfl⟩
      have hQe : Q = { begPk (b0 s) with code := c, props := l } := by rw [hQ]; unfold rdEndP; rw [h2]
      have hQk : Q.kind = (begPk (b0 s)).kind := by rw [hQe]
      obtain ⟨f1, f2⟩ := flags_same hQk (fun h => absurd h hn3)
      have hbo : bodyO Q = endO (⟨#[]⟩, 0) (begPk (b0 s)).kind c l := by
        unfold bodyO
        rw [f2, show flagsO (begPk (b0 s)) = (⟨#[]⟩, 0) from hflO]
        unfold parts
        rw [hQk, if_neg (by omega), if_neg (by omega), if_neg (by omega), if_neg (by omega), if_neg (by omega), if_neg (by omega), if_neg hk4, if_pos hk14, hQe]
        rfl
      rw [← hbo] at hA2
      rw [← hQ] at fin ⊢
      rcases hor with rfl | ⟨hl, hf⟩
      · exact fin _ rfl (exact_done (by rw [hQk]; exact ⟨hk1, hk2⟩) hA2 hm hbm hb hL (by rw [hQk, f1]; exact hfirst) hpos)
      · exact .inr ⟨by omega, by rw [hQe]; exact hl⟩
theorem put_same {P Q : Pk} (hk : Q.kind = P.kind) (hf : flagsN Q = flagsN P) (hb : bodyO Q = bodyO P) : putS Q = putS P := by
  have hc : putC Q = putC P := by unfold putC; rw [hk, hb]
  unfold putS
  rw [hc, hk, hf, hb]
/-- A packet that is put, read and put again. -/
theorem back (P : Pk) (hc : putC P = 0) : putC (getPk (putS P)).1 = 0 ∧ putS (getPk (putS P)).1 = putS P ∧ (getPk (putS P)).1.kind = P.kind := by
  obtain ⟨hr, hk, hb, hbk⟩ := put_read P hc
  have ht := twice (putS P) hr
  have hS : putS (getPk (putS P)).1 = putS P := by
    obtain ⟨m, b, hok, hpos, hg, hm, hbm, hb', hL, hcc, he, hX⟩ := getPk_inv hr
    rcases twice_or (putS P) hr with h | ⟨hke, hl⟩
    · exact h
    · rw [hbk] at hke
      have hn3 : P.kind ≠ 3 := by omega
      obtain ⟨b2, p1, p2, p3, p4, p5, p6, p7⟩ := putS_head hk hc (beg_back P hk (fun h => absurd h hn3)).1
      have eb : b2 = b := by
        have := congrArg (fun x => x.2.1) (p1.symm.trans hg)
        simp only at this
        omega
      subst eb
      have hfl : flagsO P = (⟨#[]⟩, 0) := by unfold flagsO; rw [if_neg (fun e => hn3 e.1)]
      have hbo : bodyO P = parts (⟨#[]⟩, 0) P := by unfold bodyO; rw [hfl]
      obtain ⟨P0, hP0⟩ : ∃ P0, P0 = begPk (b0 (putS P)) := ⟨_, rfl⟩
      have h0k : P0.kind = P.kind := by rw [hP0]; exact hbk
      rw [← hP0] at hX
      rw [hX] at hl ⊢
      simp only at hl ⊢
      rw [h0k] at hl ⊢
      by_cases k4 : P.kind = 4 ∨ P.kind = 5 ∨ P.kind = 6 ∨ P.kind = 7
      · have e : parts (⟨#[]⟩, 0) P = endO (idd (⟨#[]⟩, 0) P.id) P.kind P.code P.props := by unfold parts; rw [if_neg (by omega), if_neg (by omega), if_neg (by omega), if_neg (by omega), if_neg (by omega), if_neg (by omega), if_pos k4]; rfl
        rw [hbo, e] at p2 p3 p6
        obtain ⟨a1, a2, a3⟩ := end_fw P.kind P.code P.props p6 p3 p2
        obtain ⟨b1, _, b3⟩ := idd_fw a1 a2
        have hQ : (partsK P.kind (putS P) b2 P0).1 = { P0 with id := P.id, code := P.code, props := P.props.map PR.nrm } := by
          unfold partsK
          rw [if_neg (by omega), if_neg (by omega), if_neg (by omega), if_neg (by omega), if_neg (by omega), if_neg (by omega), if_pos k4, show ((b2 : Nat) : Int) = ((b2 + ((⟨#[]⟩, 0) : ByteArray × Int).1.size : Nat) : Int) from rfl, b3, bnd_ok rfl]
          unfold rdEndP
          rw [a3]
        rw [hQ] at hl ⊢
        have hpn : P.props = [] := by simpa using hl
        obtain ⟨f1, f2⟩ := flags_same (P := P) (Q := { P0 with id := P.id, code := P.code, props := P.props.map PR.nrm }) h0k (fun h => absurd h hn3)
        refine put_same h0k f1 ?_
        rw [hbo, e]
        unfold bodyO
        rw [f2, hfl]
        unfold parts
        simp only [h0k]
        rw [if_neg (by omega), if_neg (by omega), if_neg (by omega), if_neg (by omega), if_neg (by omega), if_neg (by omega), if_pos k4]
        show endO (idd (⟨#[]⟩, 0) P.id) P.kind P.code (P.props.map PR.nrm) = _
        rw [hpn]
        rfl
      · have k14 : P.kind = 14 ∨ P.kind = 15 := by omega
        have e : parts (⟨#[]⟩, 0) P = endO (⟨#[]⟩, 0) P.kind P.code P.props := by unfold parts; rw [if_neg (by omega), if_neg (by omega), if_neg (by omega), if_neg (by omega), if_neg (by omega), if_neg (by omega), if_neg k4, if_pos k14]; rfl
        rw [hbo, e] at p2 p3 p6
        obtain ⟨a1, a2, a3⟩ := end_fw (o := (⟨#[]⟩, 0)) P.kind P.code P.props p6 p3 p2
        have hQ : (partsK P.kind (putS P) b2 P0).1 = { P0 with code := P.code, props := P.props.map PR.nrm } := by
          unfold partsK
          rw [if_neg (by omega), if_neg (by omega), if_neg (by omega), if_neg (by omega), if_neg (by omega), if_neg (by omega), if_neg k4, if_pos k14, show ((b2 : Nat) : Int) = ((b2 + ((⟨#[]⟩, 0) : ByteArray × Int).1.size : Nat) : Int) from rfl]
          unfold rdEndP
          rw [a3]
        rw [hQ] at hl ⊢
        have hpn : P.props = [] := by simpa using hl
        obtain ⟨f1, f2⟩ := flags_same (P := P) (Q := { P0 with code := P.code, props := P.props.map PR.nrm }) h0k (fun h => absurd h hn3)
        refine put_same h0k f1 ?_
        rw [hbo, e]
        unfold bodyO
        rw [f2, hfl]
        unfold parts
        simp only [h0k]
        rw [if_neg (by omega), if_neg (by omega), if_neg (by omega), if_neg (by omega), if_neg (by omega), if_neg (by omega), if_neg k4, if_pos k14]
        show endO (⟨#[]⟩, 0) P.kind P.code (P.props.map PR.nrm) = _
        rw [hpn]
        rfl
  refine ⟨ht.1, hS, ?_⟩
  have h2 := put_read (getPk (putS P)).1 ht.1
  rw [hS] at h2
  exact h2.2.2.2.symm.trans hbk
end PK
end Go.Proofs.YtjajandjdclifaaGreatDoor
namespace Go.Proofs.YtjajandjdclifaaGreatDoor
open Go.RowKit
attribute [local go_sem ↓] Go.wp_at_zero Go.wp_at_succ

/-- The packet that the laws' wakes puts. -/
def wakePk : Pk := ⟨3, false, false, 1, 10, ⟨#[97]⟩, ⟨#[120]⟩, 0, [], [], ⟨#[]⟩, false, 0, false, ⟨#[]⟩, ⟨#[]⟩, 0, false, [], false, false, ⟨#[]⟩, ⟨#[]⟩, false, [], []⟩
theorem wakePk_f : PkF wakePk := by
  have z : Short (ByteArray.mk #[]) := Nat.zero_le _
  have i0 : I64 0 := ⟨by decide, by decide⟩
  exact ⟨⟨⟨by decide, by decide⟩, ⟨by decide, by decide⟩, ⟨by decide, by decide⟩, (by decide : (1 : Nat) ≤ 140737488351232), (by decide : (1 : Nat) ≤ 140737488351232), ⟨by decide, by decide⟩, z, i0, z, z, i0, z, z, ⟨Nat.zero_le _, fun c hc => by cases hc⟩, ⟨Nat.zero_le _, fun c hc => by cases hc⟩, ⟨Nat.zero_le _, fun c hc => by cases hc⟩⟩, ⟨Nat.zero_le _, fun c hc => by cases hc⟩, ⟨Nat.zero_le _, fun c hc => by cases hc⟩⟩
theorem wakePk_s : PK.putS wakePk = ⟨#[50, 7, 0, 1, 97, 0, 10, 0, 120]⟩ := by kernel_rfl
theorem wakePk_c : PK.putC wakePk = 0 := by kernel_rfl
theorem own5_nil (B : Nat) (w : World) (P : Pk) (h1 : P.codes = []) (h2 : P.props = []) (h3 : P.wprops = []) (h4 : P.subs = []) (h5 : P.filters = []) : Own5 B P (.slice none 0 0) (.slice none 0 0) (.slice none 0 0) (.slice none 0 0) (.slice none 0 0) w := by
  refine ⟨?_, ?_, ?_, ?_, ?_⟩
  · rw [h1]; exact own_nil _ _ _ _
  · rw [h2]; exact own_nil _ _ _ _
  · rw [h3]; exact own_nil _ _ _ _
  · rw [h4]; exact own_nil _ _ _ _
  · rw [h5]; exact own_nil _ _ _ _
set_option maxRecDepth 100000 in
set_option maxHeartbeats 1000000 in
theorem lwakes_any (w : World) (hT : ∀ W, Below w.heap.size w W → Tabs W) : Calls Tryz.prog 17 #[] w fun e w' => e = .returned (.bool true) ∧ Below w.heap.size w w' := by
  have C : Hid (Calls Tryz.prog 16 #[.agg (pkNil wakePk)] w fun e w' => e = .returned (.tuple #[.string ⟨#[50, 7, 0, 1, 97, 0, 10, 0, 120]⟩, .int .u8 0]) ∧ Below w.heap.size w w') := Lib.hid (by
    have := pput_any wakePk (.slice none 0 0) (.slice none 0 0) (.slice none 0 0) (.slice none 0 0) (.slice none 0 0) w (own5_in (own5_nil 0 w wakePk rfl rfl rfl rfl rfl) wakePk_f hT)
    rw [wakePk_s, wakePk_c] at this
    exact this)
  clear hT
  go_enter Tryz.func17, Tryz.ntmps17
  go_wp2_with fail
  refine C.out.mono ?_
  rintro e w1 ⟨rfl, b1⟩
  have B1 := Lib.hid b1
  clear b1 C
  go_wp2_with fail
  go_ret
  exact ⟨rfl, B1.out⟩

set_option maxRecDepth 100000 in
set_option maxHeartbeats 4000000 in
theorem packetTwice_walk (s : ByteArray) (hs : s.size ≤ 140737488351232) (w : World) (hT0 : Tabs w) :
    Calls Tryz.prog 5 #[.string s] w fun e w' => e = .returned (.bool true) ∧ Below w.heap.size w w' := by
  have HTb : Hid (∀ W, Below w.heap.size w W → Tabs W) := Lib.hid (fun W hW => hT0.below hW)
  have CG := Lib.hid (get_pk_any s hs w HTb.out)
  have HTw := Lib.hid (PK.twice s)
  have HPf := Lib.hid (PK.getPk_f s hs)
  obtain ⟨P, hP⟩ : ∃ P, P = (PK.getPk s).1 := ⟨_, rfl⟩
  unfold GtP at CG
  rw [← hP] at CG HTw HPf
  generalize hcd : (PK.getPk s).2 = c at *
  clear hT0 hP hcd
  by_cases hc : c = 0
  · subst hc
    obtain ⟨t1, t2, t3⟩ := HTw.out (by first | rfl | trivial)
    have T1 := Lib.hid t1
    have T3 := Lib.hid t3
    generalize hS : PK.putS P = S at *
    have HS := Lib.hid hS
    have hSi : (S.size : Int) ≤ (s.size : Int) := by omega
    clear t1 t3 hS HTw
    go_enter Tryz.func5, Tryz.ntmps5
    go_wp2_with fail
    refine CG.out.mono ?_
    rintro e w1 ⟨h1, _, b1⟩
    obtain ⟨vc, vp, vw, vs, vf, rfl, o1⟩ := h1 (by first | rfl | trivial)
    have W1 := Lib.hid (pk_one P o1)
    have Z1 : Hid ((w1.alloc (.cells (pkNil PK.zeroPk) 31)).heap[w1.heap.size]? = some (.cells (pkNil PK.zeroPk) 31 (0, 0))) := Lib.hid (heap_alloc_new w1 _)
    obtain ⟨wA, hwA⟩ : ∃ wA, wA = (w1.alloc (.cells (pkNil PK.zeroPk) 31)).setRow w1.heap.size (pkCells P vc vp vw vs vf) := ⟨_, rfl⟩
    have pA : wA.heap[w1.heap.size]? = some (.cells (pkCells P vc vp vw vs vf) 31 (0, 0)) := by rw [hwA]; exact setRow_heap Z1.out
    have bA : Below w1.heap.size w1 wA := by rw [hwA]; exact below_setRow ((Below.refl _ _).alloc (Nat.le_refl _) _) (Nat.le_refl _) _
    have oA := own5_below o1 bA
    have hBA := b1.trans (bA.mono b1.size)
    have CW := Lib.hid (lwakes_any wA (fun W hW => HTb.out W (hBA.trans (hW.mono hBA.size))))
    have PA := Lib.hid pA; have OA := Lib.hid oA; have HBA := Lib.hid hBA; have HwA := Lib.hid hwA
    clear h1 b1 o1 pA bA oA hBA hwA CG
    go_upto_region 2 with (refine wpList_store_row (by rfl) 31 (.tmp 3) (.tmp 14) (by rfl) w1.heap.size (pkCells P vc vp vw vs vf) (by rfl) (by rfl) 31 (pkNil PK.zeroPk) Z1.out pk_info rfl W1.out ?_)
    change Code.wp _ _ _ _ ((w1.alloc (.cells (pkNil PK.zeroPk) 31)).setRow w1.heap.size (pkCells P vc vp vw vs vf))
    rw [← HwA.out]
    clear HwA Z1
    go_wp2_with fail
    refine CW.out.mono ?_
    rintro e w3 ⟨rfl, b3⟩
    have p3 := (b3.block _ (lt_heap PA.out)).trans PA.out
    have o3 := own5_below OA.out b3
    have hB3 := HBA.out.trans (b3.mono HBA.out.size)
    have CP := Lib.hid (pput_any P vc vp vw vs vf w3 (own5_in o3 HPf.out (fun W hW => HTb.out W (hB3.trans (hW.mono hB3.size)))))
    rw [HS.out, T1.out] at CP
    have P3 := Lib.hid p3; have HB3 := Lib.hid hB3
    obtain ⟨Ap, cp, hvp⟩ := own_form o3.props
    subst hvp
    clear b3 p3 o3 hB3 CW PA OA HBA
    go_wp2_with (refine wpl_load_pk (by rfl) (.tmp 3) (by rfl) w1.heap.size (by rfl) P3.out ?_)
    refine CP.out.mono ?_
    rintro e w4 ⟨rfl, b4⟩
    have p4 := (b4.block _ (lt_heap P3.out)).trans P3.out
    have hB4 := HB3.out.trans (b4.mono HB3.out.size)
    have CG2 := Lib.hid (get_pk_any S (by omega) w4 (fun W hW => HTb.out W (hB4.trans (hW.mono hB4.size))))
    unfold GtP at CG2
    rw [T3.out] at CG2
    have P4 := Lib.hid p4; have HB4 := Lib.hid hB4
    clear b4 p4 hB4 CP P3 HB3 T3
    go_wp2_with fail
    refine CG2.out.mono ?_
    rintro e w5 ⟨h5, _, b5⟩
    obtain ⟨uc, up, uw, us, uf, rfl, o5⟩ := h5 (by first | rfl | trivial)
    have W5 := Lib.hid (pk_one P o5)
    have p5 := (b5.block _ (lt_heap P4.out)).trans P4.out
    have hB5 := HB4.out.trans (b5.mono HB4.out.size)
    have Z5 : Hid ((w5.alloc (.cells (pkNil PK.zeroPk) 31)).heap[w5.heap.size]? = some (.cells (pkNil PK.zeroPk) 31 (0, 0))) := Lib.hid (heap_alloc_new w5 _)
    obtain ⟨wB, hwB⟩ : ∃ wB, wB = (w5.alloc (.cells (pkNil PK.zeroPk) 31)).setRow w5.heap.size (pkCells P uc up uw us uf) := ⟨_, rfl⟩
    have qB : wB.heap[w5.heap.size]? = some (.cells (pkCells P uc up uw us uf) 31 (0, 0)) := by rw [hwB]; exact setRow_heap Z5.out
    have bB : Below w5.heap.size w5 wB := by rw [hwB]; exact below_setRow ((Below.refl _ _).alloc (Nat.le_refl _) _) (Nat.le_refl _) _
    have pB := (bB.block _ (lt_heap p5)).trans p5
    have oB := own5_below o5 bB
    have hBB := hB5.trans (bB.mono hB5.size)
    have CP2 := Lib.hid (pput_any P uc up uw us uf wB (own5_in oB HPf.out (fun W hW => HTb.out W (hBB.trans (hW.mono hBB.size)))))
    rw [HS.out, T1.out] at CP2
    obtain ⟨Aq, cq, hvq⟩ := own_form oB.props
    subst hvq
    have QB := Lib.hid qB; have PB := Lib.hid pB; have HBB := Lib.hid hBB; have HwB := Lib.hid hwB
    clear h5 b5 o5 p5 hB5 qB bB pB oB hBB hwB CG2 P4 HB4
    go_upto_region 6 with (refine wpList_store_row (by rfl) 31 (.tmp 7) (.tmp 36) (by rfl) w5.heap.size (pkCells P uc (.slice Aq P.props.length cq) uw us uf) (by rfl) (by rfl) 31 (pkNil PK.zeroPk) Z5.out pk_info rfl W5.out ?_)
    change Code.wp _ _ _ _ ((w5.alloc (.cells (pkNil PK.zeroPk) 31)).setRow w5.heap.size (pkCells P uc (.slice Aq P.props.length cq) uw us uf))
    rw [← HwB.out]
    clear HwB Z5
    go_wp2_with (refine wpl_load_pk (by rfl) (.tmp 7) (by rfl) w5.heap.size (by rfl) QB.out ?_)
    refine CP2.out.mono ?_
    rintro e w7 ⟨rfl, b7⟩
    have hB7 := HBB.out.trans (b7.mono HBB.out.size)
    obtain ⟨x0, -, -, -, x4, x5, x6, x7, -, x9, -⟩ := pk_cells ((b7.block _ (lt_heap PB.out)).trans PB.out)
    obtain ⟨y0, -, -, -, y4, y5, y6, y7, -, y9, -⟩ := pk_cells ((b7.block _ (lt_heap QB.out)).trans QB.out)
    have HB7 := Lib.hid hB7
    clear b7 hB7 CP2 QB PB HBB
    go_wp2_with fail
    go_ret
    exact ⟨rfl, HB7.out⟩
  · have hne : (c != 0) = true := by rw [bne_iff_ne]; exact hc
    have HC := Lib.hid hc
    have O1 := Lib.hid (pkNil_one PK.zeroPk)
    clear hc HTw HPf
    go_enter Tryz.func5, Tryz.ntmps5
    go_wp2_with fail
    refine CG.out.mono ?_
    rintro e w1 ⟨_, h1, b1⟩
    obtain rfl := h1 HC.out
    have Z1 : Hid ((w1.alloc (.cells (pkNil PK.zeroPk) 31)).heap[w1.heap.size]? = some (.cells (pkNil PK.zeroPk) 31 (0, 0))) := Lib.hid (heap_alloc_new w1 _)
    obtain ⟨wA, hwA⟩ : ∃ wA, wA = (w1.alloc (.cells (pkNil PK.zeroPk) 31)).setRow w1.heap.size (pkNil PK.zeroPk) := ⟨_, rfl⟩
    have pA : wA.heap[w1.heap.size]? = some (.cells (pkNil PK.zeroPk) 31 (0, 0)) := by rw [hwA]; exact setRow_heap Z1.out
    have bA : Below w1.heap.size w1 wA := by rw [hwA]; exact below_setRow ((Below.refl _ _).alloc (Nat.le_refl _) _) (Nat.le_refl _) _
    have hBA := b1.trans (bA.mono b1.size)
    have CW := Lib.hid (lwakes_any wA (fun W hW => HTb.out W (hBA.trans (hW.mono hBA.size))))
    have PA := Lib.hid pA; have HBA := Lib.hid hBA; have HwA := Lib.hid hwA
    clear h1 b1 pA bA hBA hwA CG
    go_upto_region 2 with (refine wpList_store_row (by rfl) 31 (.tmp 3) (.tmp 14) (by rfl) w1.heap.size (pkNil PK.zeroPk) (by rfl) (by rfl) 31 (pkNil PK.zeroPk) Z1.out pk_info rfl O1.out ?_)
    change Code.wp _ _ _ _ ((w1.alloc (.cells (pkNil PK.zeroPk) 31)).setRow w1.heap.size (pkNil PK.zeroPk))
    rw [← HwA.out]
    clear HwA Z1
    go_wp2_with fail
    refine CW.out.mono ?_
    rintro e w3 ⟨rfl, b3⟩
    have p3 := (b3.block _ (lt_heap PA.out)).trans PA.out
    have hB3 := HBA.out.trans (b3.mono HBA.out.size)
    have CW2 := Lib.hid (lwakes_any w3 (fun W hW => HTb.out W (hB3.trans (hW.mono hB3.size))))
    have P3 := Lib.hid p3; have HB3 := Lib.hid hB3
    clear b3 p3 hB3 CW PA HBA
    go_wp2_with fail
    refine CW2.out.mono ?_
    rintro e w4 ⟨rfl, b4⟩
    have x0 : w4.cell? ⟨w1.heap.size, 0, none⟩ = some (.int .i64 0) := by rw [cell_heap ((b4.block _ (lt_heap P3.out)).trans P3.out)]; rfl
    have HB4 := Lib.hid (HB3.out.trans (b4.mono HB3.out.size))
    clear b4 CW2 P3 HB3
    go_wp2_with fail
    go_ret
    exact ⟨rfl, HB4.out⟩
end Go.Proofs.YtjajandjdclifaaGreatDoor
