/- The document's writer of packets, plainly: its code is the program's, and where there is none its bytes are.; The bytes of properties: the document's.; The document's writer of packets: its small functions. -/
import Derived.Test.YtlfgndhdifpngaaDoorPkPut
import Derived.Test.YtlfgndhdifpngaaDoorPrPutAll
import Derived.Test.YtlfgndhdifpngaaDoorPkAllow
import Derived.Test.YtlfgndhdifpngaaDoorPkPropW
import Derived.Test.YtlfgndhdifpngaaDoorMB
import Derived.Deep.MidRow
import Derived.Laws.Tables
namespace Go.Proofs.YtlfgndhdifpngaaDoor
namespace RP
open PK (fl isQ alAll)
def ad (o : ByteArray × Int) (s : ByteArray) (c : Int) : ByteArray × Int := (o.1 ++ s, if o.2 = 0 then c else o.2)
def nm (o : ByteArray × Int) (w n : Int) : ByteArray × Int := ad o (strOfNums (VP.fixL w n)) (VP.fixC w n)
def tx (o : ByteArray × Int) (s : ByteArray) : ByteArray × Int := ad o (TX.putS s) (TX.putC s)
def dt (o : ByteArray × Int) (s : ByteArray) : ByteArray × Int := ad o (TX.dataS s) (TX.dataC s)
def idd (o : ByteArray × Int) (n : Int) : ByteArray × Int := if n < 1 ∨ 65535 < n then ad o ⟨#[]⟩ 130 else nm o 2 n
def pr (o : ByteArray × Int) (k : Int) (l : List Pr) : ByteArray × Int := if alAll k l = true then ad o (PR.putS l) (PR.putC l) else ad (ad o (PR.putS l) (PR.putC l)) ⟨#[]⟩ 130
def qs (o : ByteArray × Int) (n : Int) : ByteArray × Int := if n < 0 ∨ 2 < n then ad o ⟨#[]⟩ 129 else o
def low (n : Int) : Int := n % 4
def sub (o : ByteArray × Int) (s : Sb) : ByteArray × Int := nm (qs (qs (tx o s.f) s.q) s.h) 1 (low s.q + fl s.nl 4 + fl s.ap 8 + 16 * low s.h)
def cflN (p : Pk) : Int := fl p.clean 2 + fl p.hasPass 64 + fl p.hasUser 128 + if p.hasWill = true then 4 + 8 * low p.wqos + fl p.wret 32 else 0
def cfl (o : ByteArray × Int) (p : Pk) : ByteArray × Int := nm (if p.hasWill = true then qs o p.wqos else o) 1 (cflN p)
def conn1 (o : ByteArray × Int) (p : Pk) : ByteArray × Int := tx (pr (nm (cfl (nm (tx o ⟨#[77, 81, 84, 84]⟩) 1 5) p) 2 p.keep) 1 p.props) p.client
def conn2 (o : ByteArray × Int) (p : Pk) : ByteArray × Int := if p.hasWill = true then dt (tx (pr o 0 p.wprops) p.wtopic) p.wpay else o
def conn3 (o : ByteArray × Int) (p : Pk) : ByteArray × Int := if p.hasUser = true then tx o p.user else o
def conn4 (o : ByteArray × Int) (p : Pk) : ByteArray × Int := if p.hasPass = true then dt o p.pass else o
def conn (o : ByteArray × Int) (p : Pk) : ByteArray × Int := conn4 (conn3 (conn2 (conn1 o p) p) p) p
def smo (o : ByteArray × Int) (n : Nat) : ByteArray × Int := if n = 0 then ad o ⟨#[]⟩ 130 else if 64 < n then ad o ⟨#[]⟩ 149 else o
def each {α : Type} (o : ByteArray × Int) (l : List α) (f : ByteArray × Int → α → ByteArray × Int) : ByteArray × Int := (l.take 64).foldl f (smo o l.length)
def head (o : ByteArray × Int) (p : Pk) : ByteArray × Int := pr (idd o p.id) p.kind p.props
def ending (o : ByteArray × Int) (p : Pk) : ByteArray × Int := if p.props = [] then (if p.code = 0 then o else nm o 1 p.code) else pr (nm o 1 p.code) p.kind p.props
def pub0 (o : ByteArray × Int) (p : Pk) : ByteArray × Int := if p.dup = true ∧ p.qos = 0 then ad (qs o p.qos) ⟨#[]⟩ 129 else qs o p.qos
def pub1 (o : ByteArray × Int) (p : Pk) : ByteArray × Int := if 0 < p.qos then idd (tx (pub0 o p) p.topic) p.id else tx (pub0 o p) p.topic
def pub (o : ByteArray × Int) (p : Pk) : ByteArray × Int := ad (pr (pub1 o p) 3 p.props) p.pay 0
def body (o : ByteArray × Int) (p : Pk) : ByteArray × Int :=
  if p.kind = 1 then conn o p
  else if p.kind = 2 then pr (nm (nm o 1 (fl p.session 1)) 1 p.code) 2 p.props
  else if p.kind = 3 then pub o p
  else if p.kind = 8 then each (head o p) p.subs sub
  else if p.kind = 10 then each (head o p) p.filters tx
  else if p.kind = 9 ∨ p.kind = 11 then each (head o p) p.codes (fun o c => nm o 1 c)
  else if p.kind = 4 ∨ p.kind = 5 ∨ p.kind = 6 ∨ p.kind = 7 then ending (idd o p.id) p
  else if p.kind = 14 ∨ p.kind = 15 then ending o p else o

/-- The same code, and where there is none the same bytes. -/
def Sm (o' o : ByteArray × Int) : Prop := o'.2 = o.2 ∧ (o.2 = 0 → o'.1 = o.1)
theorem Sm.refl (o : ByteArray × Int) : Sm o o := ⟨rfl, fun _ => rfl⟩
theorem ad_sm {o' o : ByteArray × Int} (h : Sm o' o) (s : ByteArray) (c : Int) : Sm (ad o' s c) (PK.ad o s c) := by
  unfold ad PK.ad
  rw [h.1]
  by_cases h0 : o.2 = 0
  · rw [if_pos h0, if_neg (show ¬ o.2 ≠ 0 from fun e => e h0)]
    by_cases hc : c = 0
    · rw [if_neg (show ¬ c ≠ 0 from fun e => e hc), hc]
      exact ⟨rfl, fun _ => by rw [h.2 h0]⟩
    · rw [if_pos hc]
      exact ⟨rfl, fun e => absurd e hc⟩
  · rw [if_neg h0, if_pos h0]
    exact ⟨rfl, fun e => absurd e h0⟩
theorem nm_sm {o' o : ByteArray × Int} (h : Sm o' o) (w n : Int) : Sm (nm o' w n) (PK.nm o w n) := ad_sm h _ _
theorem tx_sm {o' o : ByteArray × Int} (h : Sm o' o) (s : ByteArray) : Sm (tx o' s) (PK.tx o s) := ad_sm h _ _
theorem dt_sm {o' o : ByteArray × Int} (h : Sm o' o) (s : ByteArray) : Sm (dt o' s) (PK.dt o s) := ad_sm h _ _
theorem rf_code (o : ByteArray × Int) {c : Int} (hc : c ≠ 0) : (PK.rf o c).2 ≠ 0 := by
  unfold PK.rf PK.ad
  by_cases h0 : o.2 ≠ 0
  · rw [if_pos h0]; exact h0
  · rw [if_neg h0, if_pos hc]; exact hc
theorem idd_sm {o' o : ByteArray × Int} (h : Sm o' o) (n : Int) : Sm (idd o' n) (PK.idd o n) := by
  unfold idd PK.idd
  by_cases hn : n < 1 ∨ 65535 < n
  · rw [if_pos hn, if_pos hn]
    unfold PK.nm
    rw [PK.ad_bad (rf_code o (by decide))]
    exact ad_sm h _ _
  · rw [if_neg hn, if_neg hn]
    exact nm_sm h _ _
theorem pr_sm {o' o : ByteArray × Int} (h : Sm o' o) (k : Int) (l : List Pr) : Sm (pr o' k l) (PK.pr o k l) := by
  unfold pr PK.pr
  split
  · exact ad_sm h _ _
  · exact ad_sm (ad_sm h _ _) _ _
theorem isQ_iff (n : Int) : isQ n = true ↔ ¬ (n < 0 ∨ 2 < n) := by
  unfold isQ
  simp
theorem low_q {n : Int} (h : isQ n = true) : low n = n := by
  have := (isQ_iff n).1 h
  unfold low
  omega
/-- Behind a code nothing counts. -/
theorem bad_sm {o' o : ByteArray × Int} (h : o'.2 = o.2) (h0 : o.2 ≠ 0) : Sm o' o := ⟨h, fun e => absurd e h0⟩
theorem ad_keeps (o : ByteArray × Int) (s : ByteArray) (c : Int) (h : o.2 ≠ 0) : (ad o s c).2 = o.2 := by unfold ad; simp only; rw [if_neg h]
theorem sub_sm {o' o : ByteArray × Int} (h : Sm o' o) (s : Sb) : Sm (sub o' s) (PK.sub o s) := by
  unfold sub PK.sub
  have ht := tx_sm h s.f
  by_cases hq : isQ s.q = true
  · by_cases hh : isQ s.h = true
    · rw [if_pos (by rw [hq, hh]; rfl), low_q hq, low_q hh]
      unfold qs
      rw [if_neg ((isQ_iff _).1 hq), if_neg ((isQ_iff _).1 hh)]
      exact nm_sm ht _ _
    · rw [if_neg (by rw [hq]; simpa using hh)]
      have e : qs (tx o' s.f) s.q = tx o' s.f := by unfold qs; rw [if_neg ((isQ_iff _).1 hq)]
      have e2 : qs (tx o' s.f) s.h = ad (tx o' s.f) ⟨#[]⟩ 129 := by unfold qs; rw [if_pos (Classical.not_not.1 (fun x => hh ((isQ_iff _).2 x)))]
      rw [e, e2]
      have h1 := ad_sm ht ⟨#[]⟩ 129
      have h2 := rf_code (PK.tx o s.f) (c := 129) (by decide)
      refine bad_sm ?_ h2
      unfold nm
      rw [ad_keeps _ _ _ (by rw [h1.1]; exact h2)]
      exact h1.1
  · rw [if_neg (by simp [hq])]
    have e : qs (tx o' s.f) s.q = ad (tx o' s.f) ⟨#[]⟩ 129 := by unfold qs; rw [if_pos (Classical.not_not.1 (fun x => hq ((isQ_iff _).2 x)))]
    rw [e]
    have h1 := ad_sm ht ⟨#[]⟩ 129
    have h2 := rf_code (PK.tx o s.f) (c := 129) (by decide)
    have h3 : (ad (tx o' s.f) ⟨#[]⟩ 129).2 ≠ 0 := by rw [h1.1]; exact h2
    have h4 : (qs (ad (tx o' s.f) ⟨#[]⟩ 129) s.h).2 = (ad (tx o' s.f) ⟨#[]⟩ 129).2 := by
      unfold qs
      split
      · exact ad_keeps _ _ _ h3
      · rfl
    refine bad_sm ?_ h2
    unfold nm
    rw [ad_keeps _ _ _ (by rw [h4]; exact h3), h4]
    exact h1.1
theorem cfl_sm {o' o : ByteArray × Int} (h : Sm o' o) (p : Pk) : Sm (cfl o' p) (PK.cflags o p) := by
  unfold cfl PK.cflags
  by_cases hw : p.hasWill = true
  · rw [if_pos hw]
    by_cases hq : isQ p.wqos = true
    · rw [if_neg (by rw [hw, hq]; decide)]
      have e : cflN p = PK.cflagsN p := by unfold cflN PK.cflagsN; rw [low_q hq]
      unfold qs
      rw [if_neg ((isQ_iff _).1 hq), e]
      exact nm_sm h _ _
    · rw [if_pos (by rw [hw]; simpa using hq)]
      have e : qs o' p.wqos = ad o' ⟨#[]⟩ 129 := by unfold qs; rw [if_pos (Classical.not_not.1 (fun x => hq ((isQ_iff _).2 x)))]
      rw [e]
      have h1 := ad_sm h ⟨#[]⟩ 129
      have h2 := rf_code o (c := 129) (by decide)
      refine bad_sm ?_ h2
      unfold nm
      rw [ad_keeps _ _ _ (by rw [h1.1]; exact h2)]
      exact h1.1
  · have hw' : p.hasWill = false := by simpa using hw
    rw [if_neg hw, if_neg (by rw [hw']; simp)]
    have e : cflN p = PK.cflagsN p := by unfold cflN PK.cflagsN; rw [if_neg hw, if_neg hw]
    rw [e]
    exact nm_sm h _ _
theorem conn_sm {o' o : ByteArray × Int} (h : Sm o' o) (p : Pk) : Sm (conn o' p) (PK.conn o p) := by
  have h1 : Sm (conn1 o' p) (PK.conn1 o p) := tx_sm (pr_sm (nm_sm (cfl_sm (nm_sm (tx_sm h _) _ _) p) _ _) _ _) _
  have h2 : Sm (conn2 (conn1 o' p) p) (PK.conn2 (PK.conn1 o p) p) := by
    unfold conn2 PK.conn2
    split
    · exact dt_sm (tx_sm (pr_sm h1 _ _) _) _
    · exact h1
  have h3 : Sm (conn3 (conn2 (conn1 o' p) p) p) (PK.conn3 (PK.conn2 (PK.conn1 o p) p) p) := by
    unfold conn3 PK.conn3
    split
    · exact tx_sm h2 _
    · exact h2
  unfold conn PK.conn conn4 PK.conn4
  split
  · exact dt_sm h3 _
  · exact h3
theorem fold_sm {α : Type} {f g : ByteArray × Int → α → ByteArray × Int} (hfg : ∀ o' o x, Sm o' o → Sm (f o' x) (g o x)) : ∀ (l : List α) (o' o : ByteArray × Int), Sm o' o → Sm (l.foldl f o') (l.foldl g o)
  | [], _, _, h => h
  | x :: l, _, _, h => fold_sm hfg l _ _ (hfg _ _ x h)
theorem fold_bad {α : Type} {f : ByteArray × Int → α → ByteArray × Int} (hf : ∀ o x, o.2 ≠ 0 → (f o x).2 = o.2) : ∀ (l : List α) (o : ByteArray × Int), o.2 ≠ 0 → (l.foldl f o).2 = o.2
  | [], _, _ => rfl
  | x :: l, o, h => by
    have e := hf o x h
    rw [List.foldl_cons, fold_bad hf l _ (by rw [e]; exact h), e]
theorem each_sm {α : Type} {o' o : ByteArray × Int} (h : Sm o' o) (l : List α) {f g : ByteArray × Int → α → ByteArray × Int} (hfg : ∀ o' o x, Sm o' o → Sm (f o' x) (g o x)) (hf : ∀ o x, o.2 ≠ 0 → (f o x).2 = o.2) : Sm (each o' l f) (PK.eachO o l g) := by
  unfold each PK.eachO smo
  by_cases h0 : l.length = 0
  · rw [if_pos h0, if_pos h0]
    have : l = [] := List.eq_nil_of_length_eq_zero h0
    subst this
    exact ad_sm h _ _
  · rw [if_neg h0, if_neg h0]
    by_cases h1 : 64 < l.length
    · rw [if_pos h1, if_pos h1]
      have h2 := ad_sm h ⟨#[]⟩ 149
      have h3 := rf_code o (c := 149) (by decide)
      refine bad_sm ?_ h3
      rw [fold_bad hf _ _ (by rw [h2.1]; exact h3)]
      exact h2.1
    · rw [if_neg h1, if_neg h1, List.take_of_length_le (by omega)]
      exact fold_sm hfg l _ _ h
theorem ending_sm {o' o : ByteArray × Int} (h : Sm o' o) (p : Pk) : Sm (ending o' p) (PK.ending o p) := by
  unfold ending PK.ending
  by_cases hp : p.props = []
  · rw [if_pos hp]
    by_cases hc : p.code = 0
    · rw [if_pos hc, if_pos ⟨hc, hp⟩]; exact h
    · rw [if_neg hc, if_neg (fun e => hc e.1), if_pos hp]; exact nm_sm h _ _
  · rw [if_neg hp, if_neg (fun e => hp e.2), if_neg hp]; exact pr_sm (nm_sm h _ _) _ _
theorem pub0_sm {o : ByteArray × Int} (p : Pk) (hk : p.kind = 3) (ho : o = (⟨#[]⟩, 0)) : Sm (pub0 o p) (PK.flagsO p) := by
  unfold pub0 PK.flagsO PK.canPub
  subst ho
  by_cases hq : isQ p.qos = true
  · have e : qs ((⟨#[]⟩, 0) : ByteArray × Int) p.qos = (⟨#[]⟩, 0) := by unfold qs; rw [if_neg ((isQ_iff _).1 hq)]
    have hn := (isQ_iff _).1 hq
    rw [e, hq]
    by_cases hd : p.dup = true ∧ p.qos = 0
    · rw [if_pos hd, if_pos ⟨hk, by rw [hd.1, hd.2]; decide⟩]
      exact ⟨rfl, fun e => absurd e (by decide)⟩
    · rw [if_neg hd, if_neg]
      · exact Sm.refl _
      · intro ⟨_, x⟩
        simp at x
        exact hd ⟨x.2, by omega⟩
  · have e : qs ((⟨#[]⟩, 0) : ByteArray × Int) p.qos = (⟨#[]⟩ ++ ⟨#[]⟩, 129) := by unfold qs; rw [if_pos (Classical.not_not.1 (fun x => hq ((isQ_iff _).2 x)))]; rfl
    have hq' : isQ p.qos = false := by simpa using hq
    have e3 : (if p.kind = 3 ∧ (isQ p.qos && (decide (0 < p.qos) || !p.dup)) = false then ((⟨#[]⟩, 129) : ByteArray × Int) else (⟨#[]⟩, 0)) = (⟨#[]⟩, 129) := if_pos ⟨hk, by rw [hq']; rfl⟩
    rw [e, e3]
    split
    · exact ⟨rfl, fun e => absurd e (by decide)⟩
    · exact ⟨rfl, fun e => absurd e (by decide)⟩
theorem nm_keeps (o : ByteArray × Int) (w n : Int) (h : o.2 ≠ 0) : (nm o w n).2 = o.2 := ad_keeps _ _ _ h
theorem tx_keeps (o : ByteArray × Int) (s : ByteArray) (h : o.2 ≠ 0) : (tx o s).2 = o.2 := ad_keeps _ _ _ h
theorem qs_keeps (o : ByteArray × Int) (n : Int) (h : o.2 ≠ 0) : (qs o n).2 = o.2 := by
  unfold qs
  split
  · exact ad_keeps _ _ _ h
  · rfl
theorem sub_keeps (o : ByteArray × Int) (s : Sb) (h : o.2 ≠ 0) : (sub o s).2 = o.2 := by
  unfold sub
  have h1 := tx_keeps o s.f h
  have h2 := qs_keeps (tx o s.f) s.q (by rw [h1]; exact h)
  have h3 := qs_keeps (qs (tx o s.f) s.q) s.h (by rw [h2, h1]; exact h)
  rw [nm_keeps _ _ _ (by rw [h3, h2, h1]; exact h), h3, h2, h1]
theorem body_sm (p : Pk) : Sm (body (⟨#[]⟩, 0) p) (PK.bodyO p) := by
  unfold PK.bodyO body PK.parts
  have hfl : p.kind ≠ 3 → PK.flagsO p = (⟨#[]⟩, 0) := fun h => by unfold PK.flagsO; rw [if_neg (fun e => h e.1)]
  have r := Sm.refl ((⟨#[]⟩, 0) : ByteArray × Int)
  by_cases k1 : p.kind = 1
  · rw [if_pos k1, if_pos k1, hfl (by omega)]; exact conn_sm r p
  rw [if_neg k1, if_neg k1]
  by_cases k2 : p.kind = 2
  · rw [if_pos k2, if_pos k2, hfl (by omega), k2]; exact pr_sm (nm_sm (nm_sm r _ _) _ _) _ _
  rw [if_neg k2, if_neg k2]
  by_cases k3 : p.kind = 3
  · rw [if_pos k3, if_pos k3]
    unfold pub PK.pub
    have h0 := pub0_sm (o := (⟨#[]⟩, 0)) p k3 rfl
    have h1 : Sm (pub1 (⟨#[]⟩, 0) p) (PK.pub1 (PK.flagsO p) p) := by
      unfold pub1 PK.pub1
      split
      · exact idd_sm (tx_sm h0 _) _
      · exact tx_sm h0 _
    rw [k3]
    exact ad_sm (pr_sm h1 _ _) _ _
  rw [if_neg k3, if_neg k3, hfl k3]
  have hh : Sm (head (⟨#[]⟩, 0) p) (PK.head (⟨#[]⟩, 0) p) := pr_sm (idd_sm r _) _ _
  by_cases k8 : p.kind = 8
  · rw [if_pos k8, if_pos k8]; exact each_sm hh _ (fun _ _ x h => sub_sm h x) sub_keeps
  rw [if_neg k8, if_neg k8]
  by_cases k10 : p.kind = 10
  · rw [if_pos k10, if_pos k10]; exact each_sm hh _ (fun _ _ x h => tx_sm h x) tx_keeps
  rw [if_neg k10, if_neg k10]
  by_cases k9 : p.kind = 9 ∨ p.kind = 11
  · rw [if_pos k9, if_pos k9]; exact each_sm hh _ (fun _ _ x h => nm_sm h _ _) (fun o c h => nm_keeps o _ _ h)
  rw [if_neg k9, if_neg k9]
  by_cases k4 : p.kind = 4 ∨ p.kind = 5 ∨ p.kind = 6 ∨ p.kind = 7
  · rw [if_pos k4, if_pos k4]; exact ending_sm (idd_sm r _) p
  rw [if_neg k4, if_neg k4]
  by_cases k14 : p.kind = 14 ∨ p.kind = 15
  · rw [if_pos k14, if_pos k14]; exact ending_sm r p
  rw [if_neg k14, if_neg k14]
  exact r
end RP
end Go.Proofs.YtlfgndhdifpngaaDoor
namespace Go.Proofs.YtlfgndhdifpngaaDoor
open Go.RowKit

set_option maxHeartbeats 1000000 in
theorem twice_any (A : Option Addr) (cap : Nat) (l : List Pr) (k : Nat) (id : Int) (w : World) (hl : l.length ≤ 1000) (hk : k ≤ l.length) (h : Props w A l) :
    Calls Tryd.prog 75 #[.slice A l.length cap, .int .i64 k, .int .i64 id] w fun e w' => e = .returned (.bool (PR.dup (l.take k) id)) ∧ w = w' := by
  by_cases h38 : (id == 38) = true
  · have hid : id = 38 := by simpa using h38
    subst hid
    rw [dup_38]
    clear h
    go_enter Tryd.func75, Tryd.ntmps75
    go_wp2
    go_ret
    exact ⟨rfl, rfl⟩
  · have h38' : (id == 38) = false := by simpa using h38
    rw [dup_ix h38']
    have H := Lib.hid h
    have hkl : (l.take k).length = k := by simp; omega
    have Hkl := Lib.hid hkl
    clear h h38 hkl
    go_enter Tryd.func75, Tryd.ntmps75
    go_wp2
    go_loop [7] (fun i => ∃ j : Nat, i = .int .i64 j ∧ j ≤ k ∧ Hid (ix id j ((l.take k).drop j) = ix id 0 (l.take k))) (fun i => k - (intOf i).toNat)
    case atStart => exact ⟨0, rfl, by omega, Lib.hid rfl⟩
    case round =>
      obtain ⟨j, rfl, hj, hj1⟩ := hrel
      by_cases hlt : j < k
      · obtain ⟨p, hp⟩ : ∃ p, l[j]? = some p := ⟨l[j]'(by omega), List.getElem?_eq_getElem _⟩
        have hp2 : (l.take k)[j]? = some p := by rw [List.getElem?_take, if_pos hlt]; exact hp
        obtain ⟨g, o, rfl, hg, r0, r1, r2, r3⟩ := H.out j p hp
        have i0 : (0 : Int) ≤ (j : Int) := by omega
        have i1 : (j : Int) < (l.length : Int) := by omega
        have i2 : (j : Int) < (k : Int) := by omega
        by_cases he : (p.id == id) = true
        · have E1 : Hid (decide (0 ≤ ix id 0 (l.take k)) = true) := Lib.hid (by rw [← hj1.out, ix_yes hp2 he]; simp)
          clear hp hp2 r1 r2 r3
          go_wp2
          go_ret
          exact ⟨by rw [E1.out]; rfl, rfl⟩
        · have he' : (p.id == id) = false := by simpa using he
          have E1 := Lib.hid (ix_no hp2 he')
          clear hp hp2 he r1 r2 r3
          go_wp2
          go_round
          case rel => exact ⟨j + 1, by go_num, by omega, Lib.hid (by rw [← E1.out]; exact hj1.out)⟩
          case measure => simp [intOf]; omega
      · have hjk : j = k := by omega
        subst hjk
        have E1 : Hid (decide (0 ≤ ix id 0 (l.take j)) = false) := Lib.hid (by
          have h1 := hj1.out
          have h2 := ix_end id (l.take j)
          rw [Hkl.out] at h2
          rw [← h1, h2]; rfl)
        go_wp2
        go_ret
        exact ⟨by rw [E1.out]; rfl, rfl⟩

set_option maxRecDepth 100000 in
set_option maxHeartbeats 4000000 in
theorem rvalue_any (p : Pr) (hp : Fine p) (h0 : PR.kd p.id ≠ 0) (w : World) :
    Calls Tryd.prog 76 #[.agg #[.int .i64 p.id, .int .i64 p.n, .string p.s, .string p.t]] w fun e w' => e = .returned (.tuple #[.string (PR.valS p), .int .i64 (PR.valC p)]) ∧ Below w.heap.size w w' := by
  have hbl := (Below.refl w.heap.size w).alloc (Nat.le_refl _) (.cells #[.int .i64 p.id, .int .i64 p.n, .string p.s, .string p.t] 82)
  have CK := Lib.hid (rkind_any p.id)
  have hk := kd_parts _ (PR.kd_le p.id)
  have C4 := Lib.hid (fun W => refput_any p.n W)
  have C5 : Hid (∀ W, Calls Tryd.prog 73 #[.string p.s] W fun e w' => e = .returned (.tuple #[.string (TX.dataS p.s), .int .i64 (TX.dataC p.s)]) ∧ Below W.heap.size W w') := fun W => refdata_any p.s (by have := hp.1.1; unfold maxLen; omega) W
  have C6 := Lib.hid (fun W => reftput_any p.s hp.1.1 W)
  have C7 := Lib.hid (fun W => reftput_any p.t hp.1.2 W)
  have C8 := Lib.hid (fun k W => reffixed_any k p.n hp.2.1 hp.2.2 W)
  have hvS : PR.valS p = if PR.kd p.id = 4 then strOfNums (VP.putL p.n) else if PR.kd p.id = 5 then TX.dataS p.s else if PR.kd p.id = 6 then TX.putS p.s else if PR.kd p.id = 7 then PR.pairS p.s p.t else strOfNums (VP.fixL (PR.wd (PR.kd p.id)) p.n) := rfl
  have hvC : PR.valC p = if PR.kd p.id = 4 then VP.putC p.n else if PR.kd p.id = 5 then TX.dataC p.s else if PR.kd p.id = 6 then TX.putC p.s else if PR.kd p.id = 7 then PR.pairC p.s p.t else VP.fixC (PR.wd (PR.kd p.id)) p.n := rfl
  have z1 := PR.putS_size p.s
  have z2 := PR.putS_size p.t
  obtain ⟨id, n, s, t⟩ := p
  simp only at h0 hbl CK hk C4 C5 C6 C7 C8 hvS hvC z1 z2 ⊢
  rw [hvS, hvC]
  have Hb := Lib.hid hbl
  clear hvS hvC hbl hp
  generalize PR.kd id = k at *
  rcases hk with rfl | rfl | rfl | rfl | hk
  · rw [if_pos rfl, if_pos rfl]
    generalize strOfNums (VP.putL n) = X at *
    generalize VP.putC n = Y at *
    go_enter Tryd.func76, Tryd.ntmps76
    go_wp2_with fail
    refine (CK.out _).mono ?_
    rintro e w1 ⟨rfl, b1⟩
    obtain ⟨q0, q1, q2, q3⟩ : w1.cell? ⟨w.heap.size, 0, none⟩ = some (.int .i64 id) ∧ w1.cell? ⟨w.heap.size, 1, none⟩ = some (.int .i64 n) ∧ w1.cell? ⟨w.heap.size, 2, none⟩ = some (.string s) ∧ w1.cell? ⟨w.heap.size, 3, none⟩ = some (.string t) := by
      refine ⟨?_, ?_, ?_, ?_⟩ <;> (rw [b1.cell (by simp), World.cell?_alloc_at _ _ _ _ rfl]; rfl)
    have B1 : Hid (Below w.heap.size w w1) := Hb.out.trans (b1.mono (by simp))
    have hs1 : w.heap.size < w1.heap.size := by have := b1.size; simp at this; omega
    clear b1
    go_wp2_with fail
    refine (C4.out _).mono ?_
    rintro e w2 ⟨rfl, b2⟩
    have B2 := Lib.hid b2
    clear b2
    go_wp2
    go_ret2
    exact ⟨rfl, B1.out.trans (B2.out.mono B1.out.size)⟩
  · simp only [show ((5 : Int) = 4) = False by decide, if_true, if_false]
    generalize TX.dataS s = X at *
    generalize TX.dataC s = Y at *
    go_enter Tryd.func76, Tryd.ntmps76
    go_wp2_with fail
    refine (CK.out _).mono ?_
    rintro e w1 ⟨rfl, b1⟩
    obtain ⟨q0, q1, q2, q3⟩ : w1.cell? ⟨w.heap.size, 0, none⟩ = some (.int .i64 id) ∧ w1.cell? ⟨w.heap.size, 1, none⟩ = some (.int .i64 n) ∧ w1.cell? ⟨w.heap.size, 2, none⟩ = some (.string s) ∧ w1.cell? ⟨w.heap.size, 3, none⟩ = some (.string t) := by
      refine ⟨?_, ?_, ?_, ?_⟩ <;> (rw [b1.cell (by simp), World.cell?_alloc_at _ _ _ _ rfl]; rfl)
    have B1 : Hid (Below w.heap.size w w1) := Hb.out.trans (b1.mono (by simp))
    have hs1 : w.heap.size < w1.heap.size := by have := b1.size; simp at this; omega
    clear b1
    go_wp2_with fail
    refine (C5.out _).mono ?_
    rintro e w2 ⟨rfl, b2⟩
    have B2 := Lib.hid b2
    clear b2
    go_wp2
    go_ret2
    exact ⟨rfl, B1.out.trans (B2.out.mono B1.out.size)⟩
  · simp only [show ((6 : Int) = 4) = False by decide, show ((6 : Int) = 5) = False by decide, if_true, if_false]
    generalize TX.putS s = X at *
    generalize TX.putC s = Y at *
    go_enter Tryd.func76, Tryd.ntmps76
    go_wp2_with fail
    refine (CK.out _).mono ?_
    rintro e w1 ⟨rfl, b1⟩
    obtain ⟨q0, q1, q2, q3⟩ : w1.cell? ⟨w.heap.size, 0, none⟩ = some (.int .i64 id) ∧ w1.cell? ⟨w.heap.size, 1, none⟩ = some (.int .i64 n) ∧ w1.cell? ⟨w.heap.size, 2, none⟩ = some (.string s) ∧ w1.cell? ⟨w.heap.size, 3, none⟩ = some (.string t) := by
      refine ⟨?_, ?_, ?_, ?_⟩ <;> (rw [b1.cell (by simp), World.cell?_alloc_at _ _ _ _ rfl]; rfl)
    have B1 : Hid (Below w.heap.size w w1) := Hb.out.trans (b1.mono (by simp))
    have hs1 : w.heap.size < w1.heap.size := by have := b1.size; simp at this; omega
    clear b1
    go_wp2_with fail
    refine (C6.out _).mono ?_
    rintro e w2 ⟨rfl, b2⟩
    have B2 := Lib.hid b2
    clear b2
    go_wp2
    go_ret2
    exact ⟨rfl, B1.out.trans (B2.out.mono B1.out.size)⟩
  · simp only [show ((7 : Int) = 4) = False by decide, show ((7 : Int) = 5) = False by decide, show ((7 : Int) = 6) = False by decide, if_true, if_false]
    unfold PR.pairS PR.pairC
    generalize TX.putS s = S1 at *
    generalize TX.putS t = S2 at *
    generalize TX.putC s = c1 at *
    generalize TX.putC t = c2 at *
    by_cases h1 : c1 = 0
    · subst h1
      by_cases h2 : c2 = 0
      · subst h2
        simp only [ne_eq, not_true_eq_false, if_false]
        go_enter Tryd.func76, Tryd.ntmps76
        go_wp2_with fail
        refine (CK.out _).mono ?_
        rintro e w1 ⟨rfl, b1⟩
        obtain ⟨q0, q1, q2, q3⟩ : w1.cell? ⟨w.heap.size, 0, none⟩ = some (.int .i64 id) ∧ w1.cell? ⟨w.heap.size, 1, none⟩ = some (.int .i64 n) ∧ w1.cell? ⟨w.heap.size, 2, none⟩ = some (.string s) ∧ w1.cell? ⟨w.heap.size, 3, none⟩ = some (.string t) := by
          refine ⟨?_, ?_, ?_, ?_⟩ <;> (rw [b1.cell (by simp), World.cell?_alloc_at _ _ _ _ rfl]; rfl)
        have B1 : Hid (Below w.heap.size w w1) := Hb.out.trans (b1.mono (by simp))
        have hs1 : w.heap.size < w1.heap.size := by have := b1.size; simp at this; omega
        clear b1
        go_wp2_with fail
        refine (C6.out _).mono ?_
        rintro e w2 ⟨rfl, b2⟩
        have B2 : Hid (Below w.heap.size w w2) := B1.out.trans (b2.mono B1.out.size)
        have q3 : w2.cell? ⟨w.heap.size, 3, none⟩ = some (.string t) := by rw [b2.cell (p := ⟨w.heap.size, 3, none⟩) hs1]; exact q3
        clear b2
        go_wp2_with fail
        refine (C7.out _).mono ?_
        rintro e w3 ⟨rfl, b3⟩
        have B3 : Hid (Below w.heap.size w w3) := B2.out.trans (b3.mono B2.out.size)
        clear b3
        go_wp2
        go_ret2
        exact ⟨rfl, B3.out⟩
      · have hne : (c2 != 0) = true := by rw [bne_iff_ne]; exact h2
        simp only [ne_eq, not_true_eq_false, if_false, h2, not_false_eq_true, if_true]
        clear h2
        go_enter Tryd.func76, Tryd.ntmps76
        go_wp2_with fail
        refine (CK.out _).mono ?_
        rintro e w1 ⟨rfl, b1⟩
        obtain ⟨q0, q1, q2, q3⟩ : w1.cell? ⟨w.heap.size, 0, none⟩ = some (.int .i64 id) ∧ w1.cell? ⟨w.heap.size, 1, none⟩ = some (.int .i64 n) ∧ w1.cell? ⟨w.heap.size, 2, none⟩ = some (.string s) ∧ w1.cell? ⟨w.heap.size, 3, none⟩ = some (.string t) := by
          refine ⟨?_, ?_, ?_, ?_⟩ <;> (rw [b1.cell (by simp), World.cell?_alloc_at _ _ _ _ rfl]; rfl)
        have B1 : Hid (Below w.heap.size w w1) := Hb.out.trans (b1.mono (by simp))
        have hs1 : w.heap.size < w1.heap.size := by have := b1.size; simp at this; omega
        clear b1
        go_wp2_with fail
        refine (C6.out _).mono ?_
        rintro e w2 ⟨rfl, b2⟩
        have B2 : Hid (Below w.heap.size w w2) := B1.out.trans (b2.mono B1.out.size)
        have q3 : w2.cell? ⟨w.heap.size, 3, none⟩ = some (.string t) := by rw [b2.cell (p := ⟨w.heap.size, 3, none⟩) hs1]; exact q3
        clear b2
        go_wp2_with fail
        refine (C7.out _).mono ?_
        rintro e w3 ⟨rfl, b3⟩
        have B3 : Hid (Below w.heap.size w w3) := B2.out.trans (b3.mono B2.out.size)
        clear b3
        go_wp2
        go_ret2
        exact ⟨rfl, B3.out⟩
    · have hne : (c1 != 0) = true := by rw [bne_iff_ne]; exact h1
      simp only [ne_eq, h1, not_false_eq_true, if_true]
      clear h1
      go_enter Tryd.func76, Tryd.ntmps76
      go_wp2_with fail
      refine (CK.out _).mono ?_
      rintro e w1 ⟨rfl, b1⟩
      obtain ⟨q0, q1, q2, q3⟩ : w1.cell? ⟨w.heap.size, 0, none⟩ = some (.int .i64 id) ∧ w1.cell? ⟨w.heap.size, 1, none⟩ = some (.int .i64 n) ∧ w1.cell? ⟨w.heap.size, 2, none⟩ = some (.string s) ∧ w1.cell? ⟨w.heap.size, 3, none⟩ = some (.string t) := by
        refine ⟨?_, ?_, ?_, ?_⟩ <;> (rw [b1.cell (by simp), World.cell?_alloc_at _ _ _ _ rfl]; rfl)
      have B1 : Hid (Below w.heap.size w w1) := Hb.out.trans (b1.mono (by simp))
      have hs1 : w.heap.size < w1.heap.size := by have := b1.size; simp at this; omega
      clear b1
      go_wp2_with fail
      refine (C6.out _).mono ?_
      rintro e w2 ⟨rfl, b2⟩
      have B2 : Hid (Below w.heap.size w w2) := B1.out.trans (b2.mono B1.out.size)
      clear b2
      go_wp2
      go_ret2
      exact ⟨rfl, B2.out⟩
  · have hk3 : k = 1 ∨ k = 2 ∨ k = 3 := by omega
    have C9 := Lib.hid (rwidth_any k hk3)
    rw [if_neg (by omega), if_neg (by omega), if_neg (by omega), if_neg (by omega), if_neg (by omega), if_neg (by omega), if_neg (by omega), if_neg (by omega)]
    have e4 : (k == 4) = false := by rw [beq_eq_false_iff_ne]; omega
    have e5 : (k == 5) = false := by rw [beq_eq_false_iff_ne]; omega
    have e6 : (k == 6) = false := by rw [beq_eq_false_iff_ne]; omega
    have e7 : (k == 7) = false := by rw [beq_eq_false_iff_ne]; omega
    have C8k := Lib.hid (C8.out (PR.wd k))
    clear hk hk3 h0 C4 C5 C6 C7 C8
    generalize PR.wd k = wk at *
    generalize strOfNums (VP.fixL wk n) = FS at *
    generalize VP.fixC wk n = FC at *
    go_enter Tryd.func76, Tryd.ntmps76
    go_wp2_with fail
    refine (CK.out _).mono ?_
    rintro e w1 ⟨rfl, b1⟩
    obtain ⟨q0, q1, q2, q3⟩ : w1.cell? ⟨w.heap.size, 0, none⟩ = some (.int .i64 id) ∧ w1.cell? ⟨w.heap.size, 1, none⟩ = some (.int .i64 n) ∧ w1.cell? ⟨w.heap.size, 2, none⟩ = some (.string s) ∧ w1.cell? ⟨w.heap.size, 3, none⟩ = some (.string t) := by
      refine ⟨?_, ?_, ?_, ?_⟩ <;> (rw [b1.cell (by simp), World.cell?_alloc_at _ _ _ _ rfl]; rfl)
    have B1 : Hid (Below w.heap.size w w1) := Hb.out.trans (b1.mono (by simp))
    have hs1 : w.heap.size < w1.heap.size := by have := b1.size; simp at this; omega
    clear b1
    go_wp2_with fail
    refine (C9.out _).mono ?_
    rintro e w2 ⟨rfl, rfl⟩
    go_wp2_with fail
    refine (C8k.out _).mono ?_
    rintro e w2 ⟨rfl, b2⟩
    have B2 := Lib.hid b2
    clear b2
    go_wp2
    go_ret2
    exact ⟨rfl, B1.out.trans (B2.out.mono B1.out.size)⟩

theorem zero_of {P : Prop} [Decidable P] (h : ¬ P) (a b : Int) : (if P then a else b) = b := if_neg h

set_option maxRecDepth 100000 in
set_option maxHeartbeats 4000000 in
theorem rputall_any (A : Option Addr) (cap : Nat) (l : List Pr) (w : World) (hl : l.length ≤ 100) (h : Props w A l) (hf : ∀ p ∈ l, Fine p) :
    Calls Tryd.prog 61 #[.slice A l.length cap] w fun e w' => e = .returned (.tuple #[.string (PR.putS l), .int .i64 (PR.putC l)]) ∧ Below w.heap.size w w' := by
  unfold PR.putS PR.putC
  by_cases h64 : 64 < l.length
  · rw [if_pos h64, if_pos h64]
    have i1 : (64 : Int) < (l.length : Int) := by omega
    clear h hf
    go_enter Tryd.func61, Tryd.ntmps61
    go_wp2
    go_ret2
    exact ⟨rfl, Below.refl _ _⟩
  · rw [if_neg h64, if_neg h64]
    have i1 : (l.length : Int) ≤ 64 := by omega
    obtain ⟨PS, hPS⟩ : ∃ x, x = (if PR.restC l 0 l ≠ 0 then (⟨#[]⟩ : ByteArray) else strOfNums (VP.putL (PR.allS l).size) ++ PR.allS l) := ⟨_, rfl⟩
    obtain ⟨PC, hPC⟩ : ∃ x, x = (if PR.restC l 0 l ≠ 0 then PR.restC l 0 l else 0) := ⟨_, rfl⟩
    rw [← hPS, ← hPC]
    have HPS := Lib.hid hPS
    have HPC := Lib.hid hPC
    have H := Lib.hid h
    have HF := Lib.hid hf
    clear hPS hPC h hf h64
    go_enter Tryd.func61, Tryd.ntmps61
    go_wp2
    go_loopw [4, 5] (fun s i wr => ∃ (k : Nat) (S : ByteArray), i = .int .i64 k ∧ s = .string S ∧ k ≤ l.length ∧ S.size ≤ 131078 * 64 ∧ Hid (S = PR.allS (l.take k)) ∧ Hid (PR.restC l k (l.drop k) = PR.restC l 0 l) ∧ Hid (Below w.heap.size w wr)) (fun _ i _ => l.length - (intOf i).toNat)
    case atStart => exact ⟨0, ⟨#[]⟩, rfl, rfl, by omega, Nat.zero_le _, Lib.hid rfl, Lib.hid rfl, Lib.hid (Below.refl _ _)⟩
    case round =>
      obtain ⟨k, S, rfl, rfl, hk, hS, hSe, hr1, hb⟩ := hrel
      have hsr := hb.out.size
      by_cases hlt : k < l.length
      · obtain ⟨p, hp⟩ : ∃ p, l[k]? = some p := ⟨l[k], List.getElem?_eq_getElem hlt⟩
        obtain ⟨g, o, rfl, hg, r0, r1, r2, r3⟩ := H.out k p hp
        have hfp := HF.out p (List.mem_of_getElem? hp)
        have E2 : Hid (PR.oneC (l.take k) p = 0 → PR.restC l k (l.drop k) = PR.restC l (k + 1) (l.drop (k + 1))) := fun he => PR.rest_at hp he
        have E3 : Hid (PR.oneC (l.take k) p ≠ 0 → PR.restC l k (l.drop k) = PR.oneC (l.take k) p) := fun he => PR.rest_stop hp he
        have EA : Hid (PR.allS (l.take (k + 1)) = PR.allS (l.take k) ++ (strOfNums (VP.putL p.id) ++ PR.valS p)) := Lib.hid (by rw [pr_take hp, PR.all_snoc]; rfl)
        have EC : Hid (PR.oneC (l.take k) p = if (if PR.kd p.id = 0 then (129 : Int) else if PR.dup (l.take k) p.id = true then 130 else 0) ≠ 0 then (if PR.kd p.id = 0 then (129 : Int) else if PR.dup (l.take k) p.id = true then 130 else 0) else PR.valC p) := rfl
        have CK := Lib.hid (rkind_any p.id)
        have CT : Hid (∀ W', Below w.heap.size w W' → Calls Tryd.prog 75 #[.slice (some ⟨g, o, none⟩) l.length cap, .int .i64 k, .int .i64 p.id] W' fun e w' => e = .returned (.bool (PR.dup (l.take k) p.id)) ∧ W' = w') := fun W' hW => twice_any (some ⟨g, o, none⟩) cap l k p.id W' (by omega) (by omega) (H.out.below hW)
        have CV : Hid (PR.kd p.id ≠ 0 → ∀ W', Calls Tryd.prog 76 #[.agg #[.int .i64 p.id, .int .i64 p.n, .string p.s, .string p.t]] W' fun e w' => e = .returned (.tuple #[.string (PR.valS p), .int .i64 (PR.valC p)]) ∧ Below W'.heap.size W' w') := fun h0 W' => rvalue_any p hfp h0 W'
        have CP := Lib.hid (fun W => refput_any p.id W)
        have zv := PR.valS_size p
        have zp : (strOfNums (VP.putL p.id)).size ≤ 4 := by rw [strOfNums_size]; exact PR.putL_len p.id
        have hAs := PR.allS_size (l.take (k + 1))
        have hAl : (l.take (k + 1)).length ≤ k + 1 := List.length_take_le _ _
        have hSz : S.size + (strOfNums (VP.putL p.id)).size + (PR.valS p).size ≤ 131078 * 64 := by
          have h1 := congrArg ByteArray.size EA.out
          rw [ByteArray.size_append, ByteArray.size_append, ← hSe.out] at h1
          omega
        have CELLS : Hid (∀ W', Below w.heap.size w W' → W'.cell? ⟨g, o + k * 4, none⟩ = some (.int .i64 p.id) ∧ W'.cell? ⟨g, o + k * 4 + 1, none⟩ = some (.int .i64 p.n) ∧ W'.cell? ⟨g, o + k * 4 + 2, none⟩ = some (.string p.s) ∧ W'.cell? ⟨g, o + k * 4 + 3, none⟩ = some (.string p.t)) := fun W' hW =>
          ⟨(hW.cell (p := ⟨g, _, none⟩) hg).trans r0, (hW.cell (p := ⟨g, _, none⟩) hg).trans r1, (hW.cell (p := ⟨g, _, none⟩) hg).trans r2, (hW.cell (p := ⟨g, _, none⟩) hg).trans r3⟩
        have HSe := hSe
        generalize PR.oneC (l.take k) p = oc at *
        generalize PR.valS p = VS at *
        generalize PR.valC p = VC at *
        obtain ⟨id', n', s', t'⟩ := p
        simp only at *
        generalize PR.dup (l.take k) id' = dp at *
        generalize PR.kd id' = kk at *
        generalize strOfNums (VP.putL id') = PI at *
        generalize VP.putC id' = PX at *
        obtain ⟨q0, q1, q2, q3⟩ := CELLS.out wr hb.out
        have j0 : (0 : Int) ≤ (k : Int) := by omega
        have j1 : (k : Int) < (l.length : Int) := by omega
        clear r0 r1 r2 r3 hp hfp hAs hAl
        by_cases hk0 : kk = 0
        · subst hk0
          have hoc := EC.out
          rw [if_pos rfl, if_pos (by decide)] at hoc
          have hR := Lib.hid (hr1.out.symm.trans (E3.out (by rw [hoc]; decide)))
          have Hoc := Lib.hid hoc
          clear hoc
          go_wp2_with fail
          refine (CK.out _).mono ?_
          rintro e w1 ⟨rfl, b1⟩
          have B1 := Lib.hid b1
          clear b1
          go_wp2
          go_ret2
          have f1 := HPS.out
          have f2 := HPC.out
          rw [hR.out, Hoc.out, if_pos (by decide)] at f1 f2
          exact ⟨by rw [f1, f2]; rfl, hb.out.trans (B1.out.mono hsr)⟩
        · have e0 : (kk == 0) = false := by rw [beq_eq_false_iff_ne]; exact hk0
          have CV' := Lib.hid (CV.out hk0)
          cases dp with
          | true =>
            have hoc := EC.out
            rw [if_neg hk0, if_pos rfl, if_pos (by decide)] at hoc
            have hR := Lib.hid (hr1.out.symm.trans (E3.out (by rw [hoc]; decide)))
            have Hoc := Lib.hid hoc
            clear hoc hk0 CV
            go_wp2_with fail
            refine (CK.out _).mono ?_
            rintro e w1 ⟨rfl, b1⟩
            have B1 : Hid (Below w.heap.size w w1) := hb.out.trans (b1.mono hsr)
            obtain ⟨q0, q1, q2, q3⟩ := CELLS.out w1 B1.out
            clear b1
            go_wp2_with fail
            refine (CT.out _ B1.out).mono ?_
            rintro e w2 ⟨rfl, rfl⟩
            go_wp2
            go_ret2
            have f1 := HPS.out
            have f2 := HPC.out
            rw [hR.out, Hoc.out, if_pos (by decide)] at f1 f2
            exact ⟨by rw [f1, f2]; rfl, B1.out⟩
          | false =>
            have hoc := EC.out
            rw [if_neg hk0, if_neg (by decide)] at hoc
            subst hoc
            clear hk0 CV EC
            by_cases hv0 : oc = 0
            · subst hv0
              have hR := Lib.hid ((E2.out rfl).symm.trans hr1.out)
              go_wp2_with fail
              refine (CK.out _).mono ?_
              rintro e w1 ⟨rfl, b1⟩
              have B1 : Hid (Below w.heap.size w w1) := hb.out.trans (b1.mono hsr)
              obtain ⟨q0, q1, q2, q3⟩ := CELLS.out w1 B1.out
              clear b1
              go_wp2_with fail
              refine (CT.out _ B1.out).mono ?_
              rintro e w2 ⟨rfl, rfl⟩
              go_wp2_with fail
              refine (CV'.out _).mono ?_
              rintro e w2 ⟨rfl, b2⟩
              have B2 : Hid (Below w.heap.size w w2) := B1.out.trans (b2.mono B1.out.size)
              obtain ⟨q0, q1, q2, q3⟩ := CELLS.out w2 B2.out
              clear b2
              go_wp2_with fail
              refine (CP.out _).mono ?_
              rintro e w3 ⟨rfl, b3⟩
              have B3 : Hid (Below w.heap.size w w3) := B2.out.trans (b3.mono B2.out.size)
              clear b3
              go_wp2
              go_roundw
              case rel => exact ⟨k + 1, S ++ PI ++ VS, by go_num, rfl, by omega, by rw [ByteArray.size_append, ByteArray.size_append]; exact hSz, Lib.hid (by rw [EA.out, HSe.out, ByteArray.append_assoc]), hR, B3⟩
              case measure => simp [intOf]; omega
            · have hne : (oc != 0) = true := by rw [bne_iff_ne]; exact hv0
              have hR := Lib.hid (hr1.out.symm.trans (E3.out hv0))
              have Hv0 := Lib.hid hv0
              clear hv0
              go_wp2_with fail
              refine (CK.out _).mono ?_
              rintro e w1 ⟨rfl, b1⟩
              have B1 : Hid (Below w.heap.size w w1) := hb.out.trans (b1.mono hsr)
              obtain ⟨q0, q1, q2, q3⟩ := CELLS.out w1 B1.out
              clear b1
              go_wp2_with fail
              refine (CT.out _ B1.out).mono ?_
              rintro e w2 ⟨rfl, rfl⟩
              go_wp2_with fail
              refine (CV'.out _).mono ?_
              rintro e w2 ⟨rfl, b2⟩
              have B2 : Hid (Below w.heap.size w w2) := B1.out.trans (b2.mono B1.out.size)
              clear b2
              go_wp2
              go_ret2
              have f1 := HPS.out
              have f2 := HPC.out
              rw [hR.out, if_pos Hv0.out] at f1 f2
              exact ⟨by rw [f1, f2]; rfl, B2.out⟩
      · have hkk : k = l.length := by omega
        subst hkk
        have hR : Hid (PR.restC l 0 l = 0) := Lib.hid (hr1.out.symm.trans (PR.rest_end l l))
        have hSS := hSe.out
        rw [List.take_length] at hSS
        have CP := Lib.hid (fun W => refput_any ((S.size : Nat) : Int) W)
        rw [VP.putC_in (by omega) (by omega)] at CP
        have zp : (strOfNums (VP.putL S.size)).size ≤ 4 := by rw [strOfNums_size]; exact PR.putL_len _
        have HSS := Lib.hid hSS
        clear hSS hlt
        go_wp2_with fail
        refine (CP.out _).mono ?_
        rintro e w2 ⟨rfl, b2⟩
        have B2 := Lib.hid b2
        clear b2
        go_wp2
        go_ret2
        have f1 := HPS.out
        have f2 := HPC.out
        rw [hR.out, if_neg (by decide)] at f1 f2
        rw [← HSS.out] at f1
        exact ⟨by rw [f1, f2]; rfl, hb.out.trans (B2.out.mono hsr)⟩
end Go.Proofs.YtlfgndhdifpngaaDoor
namespace Go.Proofs.YtlfgndhdifpngaaDoor
open Go.RowKit
attribute [local go_sem ↓] Go.wp_at_zero Go.wp_at_succ

/-- Bytes so far and a code, as the document's functions hand them on. -/
def oC (o : ByteArray × Int) : Array Value := #[.string o.1, .int .i64 o.2]
theorem oC_one (o : ByteArray × Int) : (oC o).all (·.oneCell') = true := by simp [oC, Value.oneCell']
theorem o_info : (Tryd.prog.info? 74).map (·.size) = some 2 := by kernel_rfl
/-- What such a function answers. -/
def OP (w : World) (o : ByteArray × Int) (e : Ending) (w' : World) : Prop := e = .returned (.agg (oC o)) ∧ Below w.heap.size w w'
theorem wpl_load_o {ops : Array Oper} {rest : List Oper} {op : Oper} {a : Act} {w : World} {Q : Exit → Act → World → Prop} (hgd : op.guard = none) (x : Operand) (ho : op.op = .load 74 x)
    (n : Nat) (hx : a.eval x = .pointer (some ⟨n, 0, none⟩)) {o : ByteArray × Int} (hb : w.heap[n]? = some (.cells (oC o) 74 (0, 0)))
    (h : wpList Tryd.prog ops Q rest (a.put op.dst (.agg (oC o))) w) : wpList Tryd.prog ops Q (op :: rest) a w :=
  wpList_load_mid hgd 74 x ho n 0 hx (oC o).toList _ (fun j v hv => by rw [Nat.zero_add, cell_heap hb, ← hv]; simp) Tryd.underlying74 rfl (by kernel_rfl) h
theorem load_o_var {w : World} {g : Nat} {o : ByteArray × Int} (h : w.heap[g]? = some (.cells (oC o) 74 (0, 0))) :
    (loadVar 74 ⟨g, 0, none⟩).run Tryd.prog w = .ok (.agg (oC o)) w :=
  run_loadVar_mid _ g 0 74 (oC o).toList _ (fun j v hv => by rw [Nat.zero_add, cell_heap h, ← hv]; simp) Tryd.underlying74 rfl (by kernel_rfl)
theorem sr_heap {w : World} {g : Nat} {old cs : Array Value} {t : TypeId} (h : w.heap[g]? = some (.cells old t (0, 0))) : (w.setRow g cs).heap[g]? = some (.cells cs t (0, 0)) := by
  simp [World.setRow, Array.getElem?_modify, h]
theorem sr_other {w : World} {g i : Nat} (cs : Array Value) (h : i ≠ g) : (w.setRow g cs).heap[i]? = w.heap[i]? := by
  simp [World.setRow, Array.getElem?_modify, Ne.symm h]
theorem sr_below {n g : Nat} {w w' : World} (h : Below n w w') (hg : n ≤ g) (cs : Array Value) : Below n w (w'.setRow g cs) :=
  ⟨h.os, h.tape, h.output, by simp [World.setRow]; exact h.size, fun i hi => (sr_other cs (by omega)).trans (h.block i hi)⟩
/-- The two boxes of such a function: its argument's and its answer's. -/
structure OB (w : World) (o r : ByteArray × Int) (W : World) : Prop where
  box : W.heap[w.heap.size]? = some (.cells (oC o) 74 (0, 0))
  res : W.heap[w.heap.size + 1]? = some (.cells (oC r) 74 (0, 0))
  below : Below w.heap.size w W
theorem OB.next {w W W' : World} {o r : ByteArray × Int} (h : OB w o r W) (hb : Below W.heap.size W W') : OB w o r W' :=
  ⟨(hb.block _ (lt_heap h.box)).trans h.box, (hb.block _ (lt_heap h.res)).trans h.res, h.below.trans (hb.mono h.below.size)⟩
theorem OB.setO {w W : World} {o r : ByteArray × Int} (h : OB w o r W) (o' : ByteArray × Int) : OB w o' r (W.setRow w.heap.size (oC o')) :=
  ⟨sr_heap h.box, (sr_other _ (by omega)).trans h.res, sr_below h.below (Nat.le_refl _) _⟩
theorem OB.setR {w W : World} {o r : ByteArray × Int} (h : OB w o r W) (r' : ByteArray × Int) : OB w o r' (W.setRow (w.heap.size + 1) (oC r')) :=
  ⟨(sr_other _ (by omega)).trans h.box, sr_heap h.res, sr_below h.below (by omega) _⟩
theorem OB.start (w : World) (o : ByteArray × Int) : OB w o (⟨#[]⟩, 0) ((w.alloc (.cells (oC o) 74)).alloc (.cells (oC (⟨#[]⟩, 0)) 74)) := by
  have sz : (w.alloc (.cells (oC o) 74)).heap.size = w.heap.size + 1 := by simp
  refine ⟨(Below.heap_alloc _ _ _ (by omega)).trans (heap_alloc_new w _), by rw [← sz]; exact heap_alloc_new _ _, ((Below.refl _ _).alloc (Nat.le_refl _) _).alloc (by omega) _⟩

set_option maxRecDepth 100000 in
set_option maxHeartbeats 1000000 in
theorem dadd_any (o : ByteArray × Int) (s : ByteArray) (c : Int) (hs : o.1.size + s.size ≤ 4611686018427387904) (w : World) :
    Calls Tryd.prog 44 #[.agg (oC o), .string s, .int .i64 c] w (OP w (RP.ad o s c)) := by
  obtain ⟨s0, c0⟩ := o
  unfold RP.ad
  simp only at hs ⊢
  have e0 : ∀ W : World, OB w (s0, c0) (⟨#[]⟩, 0) W → W.cell? ⟨w.heap.size, 0, none⟩ = some (.string s0) ∧ W.cell? ⟨w.heap.size, 1, none⟩ = some (.int .i64 c0) ∧ W.frozen? ⟨w.heap.size, 0, none⟩ = false ∧ W.frozen? ⟨w.heap.size, 1, none⟩ = false := fun W h => ⟨(cell_heap (i := 0) h.box).trans rfl, (cell_heap (i := 1) h.box).trans rfl, frozen_heap h.box, frozen_heap h.box⟩
  by_cases h0 : c0 = 0
  · subst h0
    rw [if_pos rfl]
    go_enter Tryd.func44, Tryd.ntmps44
    go_upto_region 1 with fail
    change Code.wp _ _ _ _ ((w.alloc (.cells (oC (s0, 0)) 74)).alloc (.cells (oC (⟨#[]⟩, 0)) 74))
    have H := OB.start w (s0, 0)
    generalize (w.alloc (.cells (oC (s0, 0)) 74)).alloc (.cells (oC (⟨#[]⟩, 0)) 74) = W at *
    obtain ⟨x0, x1, x2, x3⟩ := e0 W H
    have HN : OB w (s0 ++ s, c) (⟨#[]⟩, 0) ((W.setCell ⟨w.heap.size, 1, none⟩ (.int .i64 c)).setCell ⟨w.heap.size, 0, none⟩ (.string (s0 ++ s))) :=
      ⟨set_block (set_block H.box rfl) rfl, (Below.heap_setCell _ _ _ _ (show w.heap.size + 1 ≠ w.heap.size by omega)).trans ((Below.heap_setCell _ _ _ _ (show w.heap.size + 1 ≠ w.heap.size by omega)).trans H.res), (H.below.setCell (p := ⟨w.heap.size, 1, none⟩) (Nat.le_refl _) _).setCell (p := ⟨w.heap.size, 0, none⟩) (Nat.le_refl _) _⟩
    have HH := Lib.hid HN
    have HR := Lib.hid (HN.setR (s0 ++ s, c))
    clear H HN e0
    go_wp2_with (first
      | refine wpl_load_o (by rfl) (.tmp 3) (by rfl) w.heap.size (by rfl) HH.out.box ?_
      | refine wpList_store_row (by rfl) 74 (.tmp 6) (.tmp 17) (by rfl) (w.heap.size + 1) (oC (s0 ++ s, c)) (by rfl) (by rfl) 74 (oC (⟨#[]⟩, 0)) HH.out.res o_info rfl (oC_one _) ?_)
    refine bodyPost_ret (v := .agg (oC (s0 ++ s, c))) ?_ rfl ⟨rfl, HR.out.below⟩
    have hl := load_o_var HR.out.res
    simp [results, Tryd.results44, Act.put]
    exact hl
  · have h0' : (c0 == 0) = false := by rw [beq_eq_false_iff_ne]; exact h0
    rw [if_neg h0]
    go_enter Tryd.func44, Tryd.ntmps44
    go_upto_region 1 with fail
    change Code.wp _ _ _ _ ((w.alloc (.cells (oC (s0, c0)) 74)).alloc (.cells (oC (⟨#[]⟩, 0)) 74))
    have H := OB.start w (s0, c0)
    generalize (w.alloc (.cells (oC (s0, c0)) 74)).alloc (.cells (oC (⟨#[]⟩, 0)) 74) = W at *
    obtain ⟨x0, x1, x2, x3⟩ := e0 W H
    have HN : OB w (s0 ++ s, c0) (⟨#[]⟩, 0) (W.setCell ⟨w.heap.size, 0, none⟩ (.string (s0 ++ s))) :=
      ⟨set_block H.box rfl, (Below.heap_setCell _ _ _ _ (show w.heap.size + 1 ≠ w.heap.size by omega)).trans H.res, H.below.setCell (p := ⟨w.heap.size, 0, none⟩) (Nat.le_refl _) _⟩
    have HH := Lib.hid HN
    have HR := Lib.hid (HN.setR (s0 ++ s, c0))
    clear H HN e0
    go_wp2_with (first
      | refine wpl_load_o (by rfl) (.tmp 3) (by rfl) w.heap.size (by rfl) HH.out.box ?_
      | refine wpList_store_row (by rfl) 74 (.tmp 6) (.tmp 17) (by rfl) (w.heap.size + 1) (oC (s0 ++ s, c0)) (by rfl) (by rfl) 74 (oC (⟨#[]⟩, 0)) HH.out.res o_info rfl (oC_one _) ?_)
    refine bodyPost_ret (v := .agg (oC (s0 ++ s, c0))) ?_ rfl ⟨rfl, HR.out.below⟩
    have hl := load_o_var HR.out.res
    simp [results, Tryd.results44, Act.put]
    exact hl
theorem fixL_size (wd n : Int) : (strOfNums (VP.fixL wd n)).size ≤ 4 := by
  rw [strOfNums_size]
  unfold VP.fixL
  repeat' split
  all_goals simp

set_option maxRecDepth 100000 in
set_option maxHeartbeats 1000000 in
theorem dnumber_any (o : ByteArray × Int) (ho : o.1.size ≤ 2305843009213693952) (wd n : Int) (hn : -9223372036854775808 ≤ n ∧ n ≤ 9223372036854775807) (w : World) : Calls Tryd.prog 41 #[.agg (oC o), .int .i64 wd, .int .i64 n] w (OP w (RP.nm o wd n)) := by
  have C1 := fun w' => reffixed_any wd n hn.1 hn.2 w'
  have C2 := fun w' => dadd_any o (strOfNums (VP.fixL wd n)) (VP.fixC wd n) (by have := (fixL_size wd n); omega) w'
  unfold RP.nm
  generalize strOfNums (VP.fixL wd n) = x at *
  generalize VP.fixC wd n = c at *
  go_enter Tryd.func41, Tryd.ntmps41
  go_upto_region 1 with fail
  change Code.wp _ _ _ _ ((w.alloc (.cells (oC o) 74)).alloc (.cells (oC (⟨#[]⟩, 0)) 74))
  have H := OB.start w o
  generalize (w.alloc (.cells (oC o) 74)).alloc (.cells (oC (⟨#[]⟩, 0)) 74) = W at *
  go_wp2_with fail
  refine (C1 _).mono ?_
  rintro e w1 ⟨rfl, b1⟩
  have H1 := H.next b1
  clear H b1 C1
  go_wp2_with (refine wpl_load_o (by rfl) (.tmp 3) (by rfl) w.heap.size (by rfl) H1.box ?_)
  refine (C2 _).mono ?_
  rintro e w2 ⟨rfl, b2⟩
  have H2 := (H1.next b2)
  clear H1 b2 C2
  go_wp2_with (refine wpList_store_row (by rfl) 74 (.tmp 6) (.tmp 18) (by rfl) (w.heap.size + 1) (oC (RP.ad o x c)) (by rfl) (by rfl) 74 (oC (⟨#[]⟩, 0)) H2.res o_info rfl (oC_one _) ?_)
  have H3 := H2.setR (RP.ad o x c)
  clear H2
  refine bodyPost_ret (v := .agg (oC (RP.ad o x c))) ?_ rfl ⟨rfl, H3.below⟩
  have hl := load_o_var H3.res
  simp [results, Tryd.results41, Act.put]
  exact hl
theorem dt_le (s : ByteArray) : (TX.dataS s).size ≤ 65537 := by
  unfold TX.dataS
  split
  · have e : (strOfNums [(s.size : Int) / 256, (s.size : Int) % 256]).size = 2 := rfl
    rw [ByteArray.size_append, e]
    omega
  · exact Nat.zero_le _
theorem tx_le (s : ByteArray) : (TX.putS s).size ≤ 65537 := by
  unfold TX.putS
  split
  · exact Nat.zero_le _
  · exact dt_le s
theorem refdat2_any (s : ByteArray) (hs : s.size ≤ 140737488351232) (w : World) : Calls Tryd.prog 73 #[.string s] w fun e w' => e = .returned (.tuple #[.string (TX.dataS s), .int .i64 (TX.dataC s)]) ∧ Below w.heap.size w w' := by
  have h := refdata_any s (by unfold maxLen; omega) w
  exact h
set_option maxRecDepth 100000 in
set_option maxHeartbeats 1000000 in
theorem dtext_any (o : ByteArray × Int) (ho : o.1.size ≤ 2305843009213693952) (s : ByteArray) (hsz : s.size ≤ 140737488351232) (w : World) : Calls Tryd.prog 45 #[.agg (oC o), .string s] w (OP w (RP.tx o s)) := by
  have C1 := fun w' => reftput_any s hsz w'
  have C2 := fun w' => dadd_any o (TX.putS s) (TX.putC s) (by have := (tx_le s); omega) w'
  unfold RP.tx
  generalize TX.putS s = x at *
  generalize TX.putC s = c at *
  go_enter Tryd.func45, Tryd.ntmps45
  go_upto_region 1 with fail
  change Code.wp _ _ _ _ ((w.alloc (.cells (oC o) 74)).alloc (.cells (oC (⟨#[]⟩, 0)) 74))
  have H := OB.start w o
  generalize (w.alloc (.cells (oC o) 74)).alloc (.cells (oC (⟨#[]⟩, 0)) 74) = W at *
  go_wp2_with fail
  refine (C1 _).mono ?_
  rintro e w1 ⟨rfl, b1⟩
  have H1 := H.next b1
  clear H b1 C1
  go_wp2_with (refine wpl_load_o (by rfl) (.tmp 2) (by rfl) w.heap.size (by rfl) H1.box ?_)
  refine (C2 _).mono ?_
  rintro e w2 ⟨rfl, b2⟩
  have H2 := (H1.next b2)
  clear H1 b2 C2
  go_wp2_with (refine wpList_store_row (by rfl) 74 (.tmp 4) (.tmp 15) (by rfl) (w.heap.size + 1) (oC (RP.ad o x c)) (by rfl) (by rfl) 74 (oC (⟨#[]⟩, 0)) H2.res o_info rfl (oC_one _) ?_)
  have H3 := H2.setR (RP.ad o x c)
  clear H2
  refine bodyPost_ret (v := .agg (oC (RP.ad o x c))) ?_ rfl ⟨rfl, H3.below⟩
  have hl := load_o_var H3.res
  simp [results, Tryd.results45, Act.put]
  exact hl
set_option maxRecDepth 100000 in
set_option maxHeartbeats 1000000 in
theorem ddat_any (o : ByteArray × Int) (ho : o.1.size ≤ 2305843009213693952) (s : ByteArray) (hsz : s.size ≤ 140737488351232) (w : World) : Calls Tryd.prog 60 #[.agg (oC o), .string s] w (OP w (RP.dt o s)) := by
  have C1 := fun w' => refdat2_any s hsz w'
  have C2 := fun w' => dadd_any o (TX.dataS s) (TX.dataC s) (by have := (dt_le s); omega) w'
  unfold RP.dt
  generalize TX.dataS s = x at *
  generalize TX.dataC s = c at *
  go_enter Tryd.func60, Tryd.ntmps60
  go_upto_region 1 with fail
  change Code.wp _ _ _ _ ((w.alloc (.cells (oC o) 74)).alloc (.cells (oC (⟨#[]⟩, 0)) 74))
  have H := OB.start w o
  generalize (w.alloc (.cells (oC o) 74)).alloc (.cells (oC (⟨#[]⟩, 0)) 74) = W at *
  go_wp2_with fail
  refine (C1 _).mono ?_
  rintro e w1 ⟨rfl, b1⟩
  have H1 := H.next b1
  clear H b1 C1
  go_wp2_with (refine wpl_load_o (by rfl) (.tmp 2) (by rfl) w.heap.size (by rfl) H1.box ?_)
  refine (C2 _).mono ?_
  rintro e w2 ⟨rfl, b2⟩
  have H2 := (H1.next b2)
  clear H1 b2 C2
  go_wp2_with (refine wpList_store_row (by rfl) 74 (.tmp 4) (.tmp 15) (by rfl) (w.heap.size + 1) (oC (RP.ad o x c)) (by rfl) (by rfl) 74 (oC (⟨#[]⟩, 0)) H2.res o_info rfl (oC_one _) ?_)
  have H3 := H2.setR (RP.ad o x c)
  clear H2
  refine bodyPost_ret (v := .agg (oC (RP.ad o x c))) ?_ rfl ⟨rfl, H3.below⟩
  have hl := load_o_var H3.res
  simp [results, Tryd.results60, Act.put]
  exact hl
set_option linter.unusedSimpArgs false in
set_option maxRecDepth 100000 in
set_option maxHeartbeats 1000000 in
theorem dqos_any (o : ByteArray × Int) (ho : o.1.size ≤ 2305843009213693952) (n : Int) (w : World) : Calls Tryd.prog 43 #[.agg (oC o), .int .i64 n] w (OP w (RP.qs o n)) := by
  unfold RP.qs
  rcases (show n < 0 ∨ (0 ≤ n ∧ n ≤ 2) ∨ 2 < n by omega) with h | h | h
  · rw [if_pos (.inl h)]
    have d1 : decide (n < 0) = true := by simpa using h
    go_enter Tryd.func43, Tryd.ntmps43
    go_upto_region 1 with fail
    change Code.wp _ _ _ _ ((w.alloc (.cells (oC o) 74)).alloc (.cells (oC (⟨#[]⟩, 0)) 74))
    have H := OB.start w o
    generalize (w.alloc (.cells (oC o) 74)).alloc (.cells (oC (⟨#[]⟩, 0)) 74) = W at *
    go_wp2_with (refine wpl_load_o (by rfl) (.tmp 2) (by rfl) w.heap.size (by rfl) H.box ?_)
    refine (dadd_any o ⟨#[]⟩ 129 (by show o.1.size + 0 ≤ _; omega) _).mono ?_
    rintro e w1 ⟨rfl, b1⟩
    have H1 := H.next b1
    clear H b1
    go_wp2_with (refine wpList_store_row (by rfl) 74 (.tmp 4) (.tmp 12) (by rfl) (w.heap.size + 1) (oC (RP.ad o ⟨#[]⟩ 129)) (by rfl) (by rfl) 74 (oC (⟨#[]⟩, 0)) H1.res o_info rfl (oC_one _) ?_)
    have H2 := H1.setR (RP.ad o ⟨#[]⟩ 129)
    clear H1
    refine bodyPost_ret (v := .agg (oC (RP.ad o ⟨#[]⟩ 129))) ?_ rfl ⟨rfl, H2.below⟩
    have hl := load_o_var H2.res
    simp [results, Tryd.results43, Act.put]
    exact hl
  · rw [if_neg (by omega)]
    have d1 : decide (n < 0) = false := by simp; omega
    have d2 : decide (2 < n) = false := by simp; omega
    obtain ⟨h1, h2⟩ := h
    go_enter Tryd.func43, Tryd.ntmps43
    go_upto_region 1 with fail
    change Code.wp _ _ _ _ ((w.alloc (.cells (oC o) 74)).alloc (.cells (oC (⟨#[]⟩, 0)) 74))
    have H := OB.start w o
    generalize (w.alloc (.cells (oC o) 74)).alloc (.cells (oC (⟨#[]⟩, 0)) 74) = W at *
    go_wp2_with (first
      | refine wpl_load_o (by rfl) (.tmp 2) (by rfl) w.heap.size (by rfl) H.box ?_
      | refine wpList_store_row (by rfl) 74 (.tmp 4) (.tmp 13) (by rfl) (w.heap.size + 1) (oC o) (by rfl) (by rfl) 74 (oC (⟨#[]⟩, 0)) H.res o_info rfl (oC_one _) ?_)
    have H2 := H.setR o
    clear H
    refine bodyPost_ret (v := .agg (oC o)) ?_ rfl ⟨rfl, H2.below⟩
    have hl := load_o_var H2.res
    simp [results, Tryd.results43, Act.put]
    exact hl
  · rw [if_pos (.inr h)]
    have d1 : decide (n < 0) = false := by simp; omega
    have d2 : decide (2 < n) = true := by simpa using h
    have h1 : ¬ n < 0 := by omega
    go_enter Tryd.func43, Tryd.ntmps43
    go_upto_region 1 with fail
    change Code.wp _ _ _ _ ((w.alloc (.cells (oC o) 74)).alloc (.cells (oC (⟨#[]⟩, 0)) 74))
    have H := OB.start w o
    generalize (w.alloc (.cells (oC o) 74)).alloc (.cells (oC (⟨#[]⟩, 0)) 74) = W at *
    go_wp2_with (refine wpl_load_o (by rfl) (.tmp 2) (by rfl) w.heap.size (by rfl) H.box ?_)
    refine (dadd_any o ⟨#[]⟩ 129 (by show o.1.size + 0 ≤ _; omega) _).mono ?_
    rintro e w1 ⟨rfl, b1⟩
    have H1 := H.next b1
    clear H b1
    go_wp2_with (refine wpList_store_row (by rfl) 74 (.tmp 4) (.tmp 12) (by rfl) (w.heap.size + 1) (oC (RP.ad o ⟨#[]⟩ 129)) (by rfl) (by rfl) 74 (oC (⟨#[]⟩, 0)) H1.res o_info rfl (oC_one _) ?_)
    have H2 := H1.setR (RP.ad o ⟨#[]⟩ 129)
    clear H1
    refine bodyPost_ret (v := .agg (oC (RP.ad o ⟨#[]⟩ 129))) ?_ rfl ⟨rfl, H2.below⟩
    have hl := load_o_var H2.res
    simp [results, Tryd.results43, Act.put]
    exact hl
set_option linter.unusedSimpArgs false in
set_option maxRecDepth 100000 in
set_option maxHeartbeats 1000000 in
theorem dsome_any (o : ByteArray × Int) (ho : o.1.size ≤ 2305843009213693952) (n : Nat) (w : World) : Calls Tryd.prog 64 #[.agg (oC o), .int .i64 (n : Int)] w (OP w (RP.smo o n)) := by
  unfold RP.smo
  rcases (show n = 0 ∨ (0 < n ∧ n ≤ 64) ∨ 64 < n by omega) with h | h | h
  · rw [if_pos h]
    subst h
    go_enter Tryd.func64, Tryd.ntmps64
    go_upto_region 1 with fail
    change Code.wp _ _ _ _ ((w.alloc (.cells (oC o) 74)).alloc (.cells (oC (⟨#[]⟩, 0)) 74))
    have H := OB.start w o
    generalize (w.alloc (.cells (oC o) 74)).alloc (.cells (oC (⟨#[]⟩, 0)) 74) = W at *
    go_wp2_with (refine wpl_load_o (by rfl) (.tmp 2) (by rfl) w.heap.size (by rfl) H.box ?_)
    refine (dadd_any o ⟨#[]⟩ 130 (by show o.1.size + 0 ≤ _; omega) _).mono ?_
    rintro e w1 ⟨rfl, b1⟩
    have H1 := H.next b1
    clear H b1
    go_wp2_with (refine wpList_store_row (by rfl) 74 (.tmp 4) (.tmp 8) (by rfl) (w.heap.size + 1) (oC (RP.ad o ⟨#[]⟩ 130)) (by rfl) (by rfl) 74 (oC (⟨#[]⟩, 0)) H1.res o_info rfl (oC_one _) ?_)
    have H2 := H1.setR (RP.ad o ⟨#[]⟩ 130)
    clear H1
    refine bodyPost_ret (v := .agg (oC (RP.ad o ⟨#[]⟩ 130))) ?_ rfl ⟨rfl, H2.below⟩
    have hl := load_o_var H2.res
    simp [results, Tryd.results64, Act.put]
    exact hl
  · rw [if_neg (by omega), if_neg (by omega)]
    have d0 : ((n : Int) == 0) = false := by rw [beq_eq_false_iff_ne]; omega
    have d2 : ¬ (64 : Int) < (n : Int) := by omega
    obtain ⟨h1, h2⟩ := h
    go_enter Tryd.func64, Tryd.ntmps64
    go_upto_region 1 with fail
    change Code.wp _ _ _ _ ((w.alloc (.cells (oC o) 74)).alloc (.cells (oC (⟨#[]⟩, 0)) 74))
    have H := OB.start w o
    generalize (w.alloc (.cells (oC o) 74)).alloc (.cells (oC (⟨#[]⟩, 0)) 74) = W at *
    go_wp2_with (first
      | refine wpl_load_o (by rfl) (.tmp 2) (by rfl) w.heap.size (by rfl) H.box ?_
      | refine wpList_store_row (by rfl) 74 (.tmp 4) (.tmp 13) (by rfl) (w.heap.size + 1) (oC o) (by rfl) (by rfl) 74 (oC (⟨#[]⟩, 0)) H.res o_info rfl (oC_one _) ?_)
    have H2 := H.setR o
    clear H
    refine bodyPost_ret (v := .agg (oC o)) ?_ rfl ⟨rfl, H2.below⟩
    have hl := load_o_var H2.res
    simp [results, Tryd.results64, Act.put]
    exact hl
  · rw [if_neg (by omega), if_pos h]
    have d0 : ((n : Int) == 0) = false := by rw [beq_eq_false_iff_ne]; omega
    have d2 : (64 : Int) < (n : Int) := by omega
    go_enter Tryd.func64, Tryd.ntmps64
    go_upto_region 1 with fail
    change Code.wp _ _ _ _ ((w.alloc (.cells (oC o) 74)).alloc (.cells (oC (⟨#[]⟩, 0)) 74))
    have H := OB.start w o
    generalize (w.alloc (.cells (oC o) 74)).alloc (.cells (oC (⟨#[]⟩, 0)) 74) = W at *
    go_wp2_with (refine wpl_load_o (by rfl) (.tmp 2) (by rfl) w.heap.size (by rfl) H.box ?_)
    refine (dadd_any o ⟨#[]⟩ 149 (by show o.1.size + 0 ≤ _; omega) _).mono ?_
    rintro e w1 ⟨rfl, b1⟩
    have H1 := H.next b1
    clear H b1
    go_wp2_with (refine wpList_store_row (by rfl) 74 (.tmp 4) (.tmp 12) (by rfl) (w.heap.size + 1) (oC (RP.ad o ⟨#[]⟩ 149)) (by rfl) (by rfl) 74 (oC (⟨#[]⟩, 0)) H1.res o_info rfl (oC_one _) ?_)
    have H2 := H1.setR (RP.ad o ⟨#[]⟩ 149)
    clear H1
    refine bodyPost_ret (v := .agg (oC (RP.ad o ⟨#[]⟩ 149))) ?_ rfl ⟨rfl, H2.below⟩
    have hl := load_o_var H2.res
    simp [results, Tryd.results64, Act.put]
    exact hl
set_option linter.unusedSimpArgs false in
set_option maxRecDepth 100000 in
set_option maxHeartbeats 1000000 in
theorem did_any (o : ByteArray × Int) (ho : o.1.size ≤ 2305843009213693952) (n : Int) (hn : -9223372036854775808 ≤ n ∧ n ≤ 9223372036854775807) (w : World) : Calls Tryd.prog 46 #[.agg (oC o), .int .i64 n] w (OP w (RP.idd o n)) := by
  unfold RP.idd
  rcases (show n < 1 ∨ (1 ≤ n ∧ n ≤ 65535) ∨ 65535 < n by omega) with h | h | h
  · rw [if_pos (.inl h)]
    go_enter Tryd.func46, Tryd.ntmps46
    go_upto_region 1 with fail
    change Code.wp _ _ _ _ ((w.alloc (.cells (oC o) 74)).alloc (.cells (oC (⟨#[]⟩, 0)) 74))
    have H := OB.start w o
    generalize (w.alloc (.cells (oC o) 74)).alloc (.cells (oC (⟨#[]⟩, 0)) 74) = W at *
    go_wp2_with (refine wpl_load_o (by rfl) (.tmp 2) (by rfl) w.heap.size (by rfl) H.box ?_)
    refine (dadd_any o ⟨#[]⟩ 130 (by show o.1.size + 0 ≤ _; omega) _).mono ?_
    rintro e w1 ⟨rfl, b1⟩
    have H1 := H.next b1
    clear H b1
    go_wp2_with (refine wpList_store_row (by rfl) 74 (.tmp 4) (.tmp 12) (by rfl) (w.heap.size + 1) (oC (RP.ad o ⟨#[]⟩ 130)) (by rfl) (by rfl) 74 (oC (⟨#[]⟩, 0)) H1.res o_info rfl (oC_one _) ?_)
    have H2 := H1.setR (RP.ad o ⟨#[]⟩ 130)
    clear H1
    refine bodyPost_ret (v := .agg (oC (RP.ad o ⟨#[]⟩ 130))) ?_ rfl ⟨rfl, H2.below⟩
    have hl := load_o_var H2.res
    simp [results, Tryd.results46, Act.put]
    exact hl
  · rw [if_neg (by omega)]
    have C1 := fun w' => dnumber_any o ho 2 n hn w'
    obtain ⟨h1, h2⟩ := h
    have d1 : ¬ n < 1 := by omega
    have d2 : ¬ 65535 < n := by omega
    go_enter Tryd.func46, Tryd.ntmps46
    go_upto_region 1 with fail
    change Code.wp _ _ _ _ ((w.alloc (.cells (oC o) 74)).alloc (.cells (oC (⟨#[]⟩, 0)) 74))
    have H := OB.start w o
    generalize (w.alloc (.cells (oC o) 74)).alloc (.cells (oC (⟨#[]⟩, 0)) 74) = W at *
    go_wp2_with (refine wpl_load_o (by rfl) (.tmp 2) (by rfl) w.heap.size (by rfl) H.box ?_)
    refine (C1 _).mono ?_
    rintro e w1 ⟨rfl, b1⟩
    have H1 := H.next b1
    clear H b1
    go_wp2_with (refine wpList_store_row (by rfl) 74 (.tmp 4) (.tmp 15) (by rfl) (w.heap.size + 1) (oC (RP.nm o 2 n)) (by rfl) (by rfl) 74 (oC (⟨#[]⟩, 0)) H1.res o_info rfl (oC_one _) ?_)
    have H2 := H1.setR (RP.nm o 2 n)
    clear H1
    refine bodyPost_ret (v := .agg (oC (RP.nm o 2 n))) ?_ rfl ⟨rfl, H2.below⟩
    have hl := load_o_var H2.res
    simp [results, Tryd.results46, Act.put]
    exact hl
  · rw [if_pos (.inr h)]
    have d1 : ¬ n < 1 := by omega
    go_enter Tryd.func46, Tryd.ntmps46
    go_upto_region 1 with fail
    change Code.wp _ _ _ _ ((w.alloc (.cells (oC o) 74)).alloc (.cells (oC (⟨#[]⟩, 0)) 74))
    have H := OB.start w o
    generalize (w.alloc (.cells (oC o) 74)).alloc (.cells (oC (⟨#[]⟩, 0)) 74) = W at *
    go_wp2_with (refine wpl_load_o (by rfl) (.tmp 2) (by rfl) w.heap.size (by rfl) H.box ?_)
    refine (dadd_any o ⟨#[]⟩ 130 (by show o.1.size + 0 ≤ _; omega) _).mono ?_
    rintro e w1 ⟨rfl, b1⟩
    have H1 := H.next b1
    clear H b1
    go_wp2_with (refine wpList_store_row (by rfl) 74 (.tmp 4) (.tmp 12) (by rfl) (w.heap.size + 1) (oC (RP.ad o ⟨#[]⟩ 130)) (by rfl) (by rfl) 74 (oC (⟨#[]⟩, 0)) H1.res o_info rfl (oC_one _) ?_)
    have H2 := H1.setR (RP.ad o ⟨#[]⟩ 130)
    clear H1
    refine bodyPost_ret (v := .agg (oC (RP.ad o ⟨#[]⟩ 130))) ?_ rfl ⟨rfl, H2.below⟩
    have hl := load_o_var H2.res
    simp [results, Tryd.results46, Act.put]
    exact hl
theorem dbit_any (b : Bool) (n : Int) (w : World) : Calls Tryd.prog 40 #[.bool b, .int .i64 n] w fun e w' => e = .returned (.int .i64 (PK.fl b n)) ∧ w = w' := by
  unfold PK.fl
  cases b
  · go_enter Tryd.func40, Tryd.ntmps40
    go_wp2
    go_ret
    exact ⟨rfl, rfl⟩
  · go_enter Tryd.func40, Tryd.ntmps40
    go_wp2
    go_ret
    exact ⟨rfl, rfl⟩
theorem tmod4 (n : Int) : (n.tmod 4 = n % 4 ∧ (0 ≤ n ∨ (4 : Int) ∣ n)) ∨ (n.tmod 4 = n % 4 - 4 ∧ ¬ (0 ≤ n ∨ (4 : Int) ∣ n)) := by
  by_cases h : 0 ≤ n ∨ (4 : Int) ∣ n
  · left
    exact ⟨by rw [Int.tmod_eq_emod, if_pos h]; simp, h⟩
  · right
    exact ⟨by rw [Int.tmod_eq_emod, if_neg h]; rfl, h⟩
theorem low_t (n : Int) : RP.low n = if n.tmod 4 < 0 then n.tmod 4 + 4 else n.tmod 4 := by
  unfold RP.low
  rcases tmod4 n with ⟨e, h⟩ | ⟨e, h⟩
  · rw [e, if_neg (by omega)]
  · rw [e, if_pos (by omega)]
    omega
theorem dlow_any (n : Int) (_hn : -9223372036854775808 ≤ n ∧ n ≤ 9223372036854775807) (w : World) : Calls Tryd.prog 59 #[.int .i64 n] w fun e w' => e = .returned (.int .i64 (RP.low n)) ∧ w = w' := by
  rw [low_t]
  have b1 : -4 < n.tmod 4 ∧ n.tmod 4 < 4 := by rcases tmod4 n with ⟨e, h⟩ | ⟨e, h⟩ <;> omega
  by_cases h : n.tmod 4 < 0
  · rw [if_pos h]
    go_enter Tryd.func59, Tryd.ntmps59
    go_wp2
    go_ret
    exact ⟨rfl, rfl⟩
  · rw [if_neg h]
    go_enter Tryd.func59, Tryd.ntmps59
    go_wp2
    go_ret
    exact ⟨rfl, rfl⟩
set_option linter.unusedSimpArgs false in
set_option maxRecDepth 100000 in
set_option maxHeartbeats 1000000 in
theorem dall_any (kd : Int) (A : Option Addr) (cap : Nat) (l : List Pr) (w : World) (hl : l.length ≤ 100) (h : Props w A l) :
    Calls Tryd.prog 62 #[.int .i64 kd, .slice A l.length cap] w fun e w' => e = .returned (.bool (PK.alAll kd l)) ∧ Below w.heap.size w w' := by
  have H := Lib.hid h
  clear h
  go_enter Tryd.func62, Tryd.ntmps62
  go_wp2
  go_loopw [5] (fun i wr => ∃ k : Nat, i = .int .i64 k ∧ k ≤ l.length ∧ Hid (PK.alAll kd (l.drop k) = PK.alAll kd l) ∧ Hid (Below w.heap.size w wr)) (fun i _ => l.length - (intOf i).toNat)
  case atStart => exact ⟨0, rfl, by omega, Lib.hid rfl, Lib.hid (Below.refl _ _)⟩
  case round =>
    obtain ⟨k, rfl, hk, hk1, hbr⟩ := hrel
    have hsr := hbr.out.size
    by_cases hlt : k < l.length
    · obtain ⟨p, hp⟩ : ∃ p, l[k]? = some p := ⟨l[k], List.getElem?_eq_getElem hlt⟩
      obtain ⟨g, o, rfl, hg, r0, r1, r2, r3⟩ := H.out k p hp
      have q0 : wr.cell? ⟨g, o + k * 4, none⟩ = some (.int .i64 p.id) := by rw [hbr.out.cell (by simp; omega)]; exact r0
      have C := Lib.hid (rallowed_any kd p.id wr)
      have i1 : (k : Int) < (l.length : Int) := by omega
      have i0 : (0 : Int) ≤ (k : Int) := by omega
      have E1 : PK.alAll kd (l.drop k) = (PK.al kd p.id && PK.alAll kd (l.drop (k + 1))) := by rw [prop_drop hp]; rfl
      clear r0 r1 r2 r3
      by_cases he : PK.al kd p.id = true
      · rw [he, Bool.true_and] at E1
        rw [he] at C
        have HE := Lib.hid E1
        clear hp he E1
        go_wp2_with fail
        refine C.out.mono ?_
        rintro e w1 ⟨rfl, b1⟩
        have B1 := Lib.hid (hbr.out.trans (b1.mono hsr))
        clear b1 C
        go_wp2_with fail
        go_roundw
        case rel => exact ⟨k + 1, by go_num, by omega, Lib.hid (by rw [← HE.out]; exact hk1.out), B1⟩
        case measure => simp [intOf]; omega
      · have he' : PK.al kd p.id = false := by simpa using he
        rw [he', Bool.false_and] at E1
        rw [he'] at C
        have HE := Lib.hid E1
        clear hp he he' E1
        go_wp2_with fail
        refine C.out.mono ?_
        rintro e w1 ⟨rfl, b1⟩
        have B1 := Lib.hid (hbr.out.trans (b1.mono hsr))
        clear b1 C
        go_wp2_with fail
        go_ret
        exact ⟨by rw [← hk1.out, HE.out]; rfl, B1.out⟩
    · have hkl : k = l.length := by omega
      subst hkl
      go_wp2
      go_ret
      exact ⟨by rw [← hk1.out, List.drop_length]; rfl, hbr.out⟩
set_option linter.unusedSimpArgs false in
set_option maxRecDepth 100000 in
set_option maxHeartbeats 1000000 in
theorem dprops_any (o : ByteArray × Int) (ho : o.1.size ≤ 2305843009213693952) (kd : Int) (A : Option Addr) (cap : Nat) (l : List Pr) (w : World) (hl : l.length ≤ 100) (h : Props w A l) (hf : ∀ p ∈ l, Fine p) :
    Calls Tryd.prog 42 #[.agg (oC o), .int .i64 kd, .slice A l.length cap] w (OP w (RP.pr o kd l)) := by
  have hps := PR.putS_small l
  have C1 : Hid (∀ w', Below w.heap.size w w' → _) := Lib.hid (fun w' (hb : Below w.heap.size w w') => rputall_any A cap l w' hl (h.below hb) hf)
  have C3 : Hid (∀ w', Below w.heap.size w w' → _) := Lib.hid (fun w' (hb : Below w.heap.size w w') => dall_any kd A cap l w' hl (h.below hb))
  unfold RP.pr
  generalize PR.putS l = x at *
  generalize PR.putC l = c at *
  clear h hf
  cases hal : PK.alAll kd l
  · rw [hal] at C3
    rw [if_neg (by decide)]
    clear hal
    go_enter Tryd.func42, Tryd.ntmps42
    go_upto_region 1 with fail
    change Code.wp _ _ _ _ ((w.alloc (.cells (oC o) 74)).alloc (.cells (oC (⟨#[]⟩, 0)) 74))
    have H := OB.start w o
    generalize (w.alloc (.cells (oC o) 74)).alloc (.cells (oC (⟨#[]⟩, 0)) 74) = W at *
    have HH := Lib.hid H
    go_wp2_with fail
    refine (C1.out _ HH.out.below).mono ?_
    rintro e w1 ⟨rfl, b1⟩
    have H1 := HH.out.next b1
    clear H HH b1 C1
    go_wp2_with (refine wpl_load_o (by rfl) (.tmp 3) (by rfl) w.heap.size (by rfl) H1.box ?_)
    refine (dadd_any o x c (by omega) _).mono ?_
    rintro e w2 ⟨rfl, b2⟩
    have H2 := H1.next b2
    clear H1 b2
    obtain ⟨W3, hW3⟩ : ∃ W3, W3 = w2.setRow w.heap.size (oC (RP.ad o x c)) := ⟨_, rfl⟩
    have H3 : OB w (RP.ad o x c) (⟨#[]⟩, 0) W3 := by rw [hW3]; exact H2.setO _
    go_upto_region 3 with (refine wpList_store_row (by rfl) 74 (.tmp 3) (.tmp 18) (by rfl) w.heap.size (oC (RP.ad o x c)) (by rfl) (by rfl) 74 (oC o) H2.box o_info rfl (oC_one _) ?_)
    change Code.wp _ _ _ _ (w2.setRow w.heap.size (oC (RP.ad o x c)))
    rw [← hW3]
    clear hW3 H2
    have HH := Lib.hid H3
    go_wp2_with fail
    refine (C3.out _ HH.out.below).mono ?_
    rintro e w4 ⟨rfl, b4⟩
    have H4 := HH.out.next b4
    have hz : (RP.ad o x c).1.size ≤ 4611686018427387904 := by show (o.1 ++ x).size ≤ _; rw [ByteArray.size_append]; omega
    generalize RP.ad o x c = o1 at *
    clear H3 HH b4 C3
    go_wp2_with (refine wpl_load_o (by rfl) (.tmp 3) (by rfl) w.heap.size (by rfl) H4.box ?_)
    refine (dadd_any o1 ⟨#[]⟩ 130 (by show o1.1.size + 0 ≤ _; omega) _).mono ?_
    rintro e w5 ⟨rfl, b5⟩
    have H5 := H4.next b5
    clear H4 b5
    obtain ⟨W6, hW6⟩ : ∃ W6, W6 = w5.setRow w.heap.size (oC (RP.ad o1 ⟨#[]⟩ 130)) := ⟨_, rfl⟩
    have H6 : OB w (RP.ad o1 ⟨#[]⟩ 130) (⟨#[]⟩, 0) W6 := by rw [hW6]; exact H5.setO _
    go_upto_region 6 with (refine wpList_store_row (by rfl) 74 (.tmp 3) (.tmp 25) (by rfl) w.heap.size (oC (RP.ad o1 ⟨#[]⟩ 130)) (by rfl) (by rfl) 74 (oC o1) H5.box o_info rfl (oC_one _) ?_)
    change Code.wp _ _ _ _ (w5.setRow w.heap.size (oC (RP.ad o1 ⟨#[]⟩ 130)))
    rw [← hW6]
    clear hW6 H5
    go_wp2_with (first
      | refine wpl_load_o (by rfl) (.tmp 3) (by rfl) w.heap.size (by rfl) H6.box ?_
      | refine wpList_store_row (by rfl) 74 (.tmp 6) (.tmp 26) (by rfl) (w.heap.size + 1) (oC (RP.ad o1 ⟨#[]⟩ 130)) (by rfl) (by rfl) 74 (oC (⟨#[]⟩, 0)) H6.res o_info rfl (oC_one _) ?_)
    have H7 := H6.setR (RP.ad o1 ⟨#[]⟩ 130)
    clear H6
    refine bodyPost_ret (v := .agg (oC (RP.ad o1 ⟨#[]⟩ 130))) ?_ rfl ⟨rfl, H7.below⟩
    have hl := load_o_var H7.res
    simp [results, Tryd.results42, Act.put]
    exact hl
  · rw [hal] at C3
    rw [if_pos rfl]
    clear hal
    go_enter Tryd.func42, Tryd.ntmps42
    go_upto_region 1 with fail
    change Code.wp _ _ _ _ ((w.alloc (.cells (oC o) 74)).alloc (.cells (oC (⟨#[]⟩, 0)) 74))
    have H := OB.start w o
    generalize (w.alloc (.cells (oC o) 74)).alloc (.cells (oC (⟨#[]⟩, 0)) 74) = W at *
    have HH := Lib.hid H
    go_wp2_with fail
    refine (C1.out _ HH.out.below).mono ?_
    rintro e w1 ⟨rfl, b1⟩
    have H1 := HH.out.next b1
    clear H HH b1 C1
    go_wp2_with (refine wpl_load_o (by rfl) (.tmp 3) (by rfl) w.heap.size (by rfl) H1.box ?_)
    refine (dadd_any o x c (by omega) _).mono ?_
    rintro e w2 ⟨rfl, b2⟩
    have H2 := H1.next b2
    clear H1 b2
    obtain ⟨W3, hW3⟩ : ∃ W3, W3 = w2.setRow w.heap.size (oC (RP.ad o x c)) := ⟨_, rfl⟩
    have H3 : OB w (RP.ad o x c) (⟨#[]⟩, 0) W3 := by rw [hW3]; exact H2.setO _
    go_upto_region 3 with (refine wpList_store_row (by rfl) 74 (.tmp 3) (.tmp 18) (by rfl) w.heap.size (oC (RP.ad o x c)) (by rfl) (by rfl) 74 (oC o) H2.box o_info rfl (oC_one _) ?_)
    change Code.wp _ _ _ _ (w2.setRow w.heap.size (oC (RP.ad o x c)))
    rw [← hW3]
    clear hW3 H2
    have HH := Lib.hid H3
    go_wp2_with fail
    refine (C3.out _ HH.out.below).mono ?_
    rintro e w4 ⟨rfl, b4⟩
    have H4 := HH.out.next b4
    have hz : (RP.ad o x c).1.size ≤ 4611686018427387904 := by show (o.1 ++ x).size ≤ _; rw [ByteArray.size_append]; omega
    generalize RP.ad o x c = o1 at *
    clear H3 HH b4 C3
    go_wp2_with (first
      | refine wpl_load_o (by rfl) (.tmp 3) (by rfl) w.heap.size (by rfl) H4.box ?_
      | refine wpList_store_row (by rfl) 74 (.tmp 6) (.tmp 26) (by rfl) (w.heap.size + 1) (oC o1) (by rfl) (by rfl) 74 (oC (⟨#[]⟩, 0)) H4.res o_info rfl (oC_one _) ?_)
    have H5 := H4.setR o1
    clear H4
    refine bodyPost_ret (v := .agg (oC o1)) ?_ rfl ⟨rfl, H5.below⟩
    have hl := load_o_var H5.res
    simp [results, Tryd.results42, Act.put]
    exact hl
end Go.Proofs.YtlfgndhdifpngaaDoor
